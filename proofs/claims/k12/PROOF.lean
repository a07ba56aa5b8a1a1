import PyProof.Rows.All
import Wide.All
import OpenK.AllK
import Wide.FinOn
import Lean
import PyProof.EqAt
import PyProof.EqKinds
import PyProof.TupleCall
import PySem.Challenge.RW_compasshall_k12_floors_bound
noncomputable section
set_option Elab.async false
set_option linter.all false
set_option maxRecDepth 100000
namespace L2
open PySem PySem.Spec PyProof.Rows
abbrev Key := Sum Int Str
noncomputable def keyIs : Key → Value → Bool
  | .inl k, v => Value.isInt k v
  | .inr x, v => Value.isStrOf x v
noncomputable def keyH (w : World) : Key → Int
  | .inl k => hashInt k
  | .inr x => hashStr w x
theorem keyIs_shape : ∀ {k : Key} {v : Value}, keyIs k v = true → (∃ i t, k = Sum.inl i ∧ v = Value.int i t) ∨ (∃ x t, k = Sum.inr x ∧ v = Value.str x t)
  | .inl i, v, h => by
    obtain ⟨t, e⟩ := Value.isInt_shape (k := i) (v := v) h
    exact .inl ⟨i, t, rfl, e⟩
  | .inr x, v, h => by
    obtain ⟨t, e⟩ := Value.isStrOf_shape (x := x) (v := v) h
    exact .inr ⟨x, t, rfl, e⟩
theorem key_ll (a b : Int) : decide ((Sum.inl a : Key) = Sum.inl b) = (a == b) := by
  by_cases e : a = b
  · subst e; simp
  · have h : ¬ (Sum.inl a : Key) = Sum.inl b := fun q => e (Sum.inl.inj q)
    rw [decide_eq_false h]
    exact (beq_eq_false_iff_ne.mpr e).symm
theorem key_rr (a b : Str) : decide ((Sum.inr a : Key) = Sum.inr b) = decide (a = b) := by
  by_cases e : a = b
  · subst e; simp
  · have h : ¬ (Sum.inr a : Key) = Sum.inr b := fun q => e (Sum.inr.inj q)
    rw [decide_eq_false h, decide_eq_false e]
theorem key_lr (a : Int) (b : Str) : decide ((Sum.inl a : Key) = Sum.inr b) = false := decide_eq_false (fun q => nomatch q)
theorem key_rl (a : Str) (b : Int) : decide ((Sum.inr a : Key) = Sum.inl b) = false := decide_eq_false (fun q => nomatch q)
noncomputable def mixKind (prog : Program) (w : World) : PySem.KeyKind prog w Key where
  is := keyIs
  hash := keyH w
  inj := fun v a b ha hb => by
    rcases keyIs_shape ha with ⟨i, t, rfl, rfl⟩ | ⟨x, t, rfl, rfl⟩
    · rcases keyIs_shape hb with ⟨j, u, rfl, e⟩ | ⟨y, u, rfl, e⟩
      · injection e with e1 _; rw [e1]
      · exact nomatch e
    · rcases keyIs_shape hb with ⟨j, u, rfl, e⟩ | ⟨y, u, rfl, e⟩
      · exact nomatch e
      · injection e with e1 _; rw [e1]
  byValue := fun k v h => by
    rcases keyIs_shape h with ⟨i, t, rfl, rfl⟩ | ⟨x, t, rfl, rfl⟩ <;> rfl
  pyHash := fun hv h => by
    rcases keyIs_shape hv with ⟨i, t, rfl, rfl⟩ | ⟨x, t, rfl, rfl⟩
    · exact wpAny_pyHash_int h
    · exact wpAny_pyHash_str h
  eqBool := fun hu hv h => by
    rcases keyIs_shape hu with ⟨i, t, rfl, rfl⟩ | ⟨x, t, rfl, rfl⟩
    · rcases keyIs_shape hv with ⟨j, u, rfl, rfl⟩ | ⟨y, u, rfl, rfl⟩
      · rw [key_ll] at h; exact wpAny_eqBool_int h
      · rw [key_lr] at h; exact SeqAt.EqAt.int_str i t y u _ _ _ _ h
    · rcases keyIs_shape hv with ⟨j, u, rfl, rfl⟩ | ⟨y, u, rfl, rfl⟩
      · rw [key_rl] at h; exact SeqAt.EqAt.str_int x t j u _ _ _ _ h
      · rw [key_rr] at h; exact wpAny_eqBool_str h
  «strs» := fun k x t v h => by
    rcases keyIs_shape h with ⟨i, u, rfl, e⟩ | ⟨y, u, rfl, e⟩
    · exact nomatch e
    · injection e with e1 _
      subst e1
      cases v <;> rfl
end L2
namespace L2
open PySem PySem.Spec PyProof.Rows
inductive V where
  | non | bl (b : Bool) | int (i : Int) | str (x : Str) | byt (b : Array UInt8) | flt (b : UInt64) | ref (a : Addr) | ty (n : String)
  deriving DecidableEq
noncomputable def RelV : V → Value → Prop
  | .non, u => u = Value.none
  | .bl b, u => u = Value.bool b
  | .int i, u => ∃ t, u = Value.int i t
  | .str x, u => ∃ t, u = Value.str x t
  | .byt b, u => ∃ t, u = Value.bytes b t
  | .flt b, u => ∃ t, u = Value.float b t
  | .ref a, u => u = Value.ref a
  | .ty n, u => u = Value.type n
abbrev Vals : List V → List Value → Prop := Paired RelV
theorem Vals.length {xs : List V} {us : List Value} (r : Vals xs us) : xs.length = us.length := Paired.length r
theorem Vals.get : ∀ {xs : List V} {us : List Value} {i : Nat} {x : V}, Vals xs us → xs[i]? = some x → ∃ u, us[i]? = some u ∧ RelV x u
  | _, _, _, _, .nil, e => by simp at e
  | _, _, 0, _, .cons r _, e => by simp at e; subst e; exact ⟨_, rfl, r⟩
  | _, _, i + 1, x, .cons _ t, e => by
    obtain ⟨u, h1, h2⟩ := Vals.get (i := i) (x := x) t (by simpa using e)
    exact ⟨u, by simpa using h1, h2⟩
theorem Vals.set {x : V} {u : Value} (r : RelV x u) : ∀ {xs : List V} {us : List Value} (i : Nat), Vals xs us → Vals (xs.set i x) (us.set i u)
  | _, _, _, .nil => .nil
  | _, _, 0, .cons _ t => .cons r t
  | _, _, i + 1, .cons q t => .cons q (Vals.set r i t)
theorem Vals.append : ∀ {xs ys : List V} {us ws : List Value}, Vals xs us → Vals ys ws → Vals (xs ++ ys) (us ++ ws)
  | _, _, _, _, .nil, s => s
  | _, _, _, _, .cons r t, s => .cons r (Vals.append t s)
theorem Vals.take : ∀ {xs : List V} {us : List Value} (n : Nat), Vals xs us → Vals (xs.take n) (us.take n)
  | _, _, 0, _ => .nil
  | _, _, _ + 1, .nil => .nil
  | _, _, n + 1, .cons r t => .cons r (Vals.take n t)
theorem Vals.drop : ∀ {xs : List V} {us : List Value} (n : Nat), Vals xs us → Vals (xs.drop n) (us.drop n)
  | _, _, 0, r => r
  | _, _, _ + 1, .nil => .nil
  | _, _, n + 1, .cons _ t => Vals.drop n t
noncomputable def RelO : Option V → Option Value → Prop
  | some v, some u => RelV v u
  | none, none => True
  | _, _ => False
noncomputable def KV {κ : Type} : List (κ × V) → List (κ × Value) → Prop := Paired fun (p : κ × V) (q : κ × Value) => p.1 = q.1 ∧ RelV p.2 q.2
noncomputable def kV : Key → V
  | .inl i => .int i
  | .inr x => .str x
inductive HO where
  | lst (xs : List V)
  | tup (xs : List V)
  | dK (kvs : List (Key × V)) | dT (kvs : List (List Key × V))
  | set (S : Int → Bool) (n : Nat)
  | ins (C dx : Addr) (fs : List (Str × V))
  | own (x : Addr)
  | xd (fs : List (Str × V))
  | met (f x : Addr)
  | rng (lo hi : Int)
  | frz (o : Obj) (u : HO)
  | tbl (ps : Array Value)
  | ext (φ : Heap → Prop)
abbrev Hp := Addr → Option HO
noncomputable def upd (H : Hp) (a : Addr) (o : HO) : Hp := fun b => if b = a then some o else H b
theorem upd_same {H : Hp} {a : Addr} {o : HO} : upd H a o a = some o := by unfold upd; rw [if_pos rfl]
theorem upd_ne {H : Hp} {a b : Addr} {o : HO} (h : b ≠ a) : upd H a o b = H b := by unfold upd; rw [if_neg h]
theorem ne_of_none {H : Hp} {a b : Addr} {o : HO} (h : H a = some o) (h' : H b = none) : a ≠ b := by
  intro e; subst e; rw [h] at h'; cases h'
section
variable (P : Program) (w : World)
noncomputable def ObjOk (H : Hp) (h : Heap) (a : Addr) : HO → Prop
  | .lst xs => xs.length ≤ sizeLine ∧ ∃ (its : List Value) (n : Nat), Vals xs its ∧ h.get? a = some { cls := .type "list", data := .seq its.toArray n }
  | .tup xs => xs.length ≤ sizeLine ∧ ∃ its : List Value, Vals xs its ∧ IsTup h a its.toArray
  | .dK kvs => kvs.length ≤ sizeLine ∧ (a == sysModules) = false ∧ ∃ vs, KV kvs vs ∧ h.DictOf (mixKind P w) a vs
  | .dT kvs => kvs.length ≤ sizeLine ∧ (a == sysModules) = false ∧ ∃ xs : List (List Key × Addr × Value),
      Paired (fun (p : List Key × V) (q : List Key × Addr × Value) => p.1 = q.1 ∧ H q.2.1 = some (.tup (p.1.map kV)) ∧ RelV p.2 q.2.2) kvs xs ∧
      ∃ o es ep, h.get? a = some o ∧ o.ExactDict ∧ o.data = .dict es ep ∧ es.toList = xs.map (entryOfKey (tupleKind (mixKind P w))) ∧ (xs.map (·.1)).Nodup
  | .set S n => h.SetOf (intKind P w) a S n
  | .ins C dx fs => H dx = some (.own a) ∧ fs.length ≤ 1000 ∧ dx ≠ a ∧ h.get? a = some (PySem.W.instObj C dx) ∧
      ∃ mA, h.Ns1 dx mA ∧ (∀ f, RelO (fs.lookup f) (mA f)) ∧ PySem.Within mA (fs.map (·.1))
  | .own _ => ∃ o, h.get? a = some o
  | .xd fs => ∃ mA, h.Ns1 a mA ∧ ∀ f, RelO (fs.lookup f) (mA f)
  | .rng lo hi => ∃ t u v, h.get? a = some { cls := .type "range", data := .fields #[.int lo t, .int hi u, .int 1 v] }
  | .frz o u => h.get? a = some o ∧ ObjOk H h a u
  | .tbl ps => h.get? a = some { cls := .none, data := .fields ps }
  | .met f x => h.get? a = some (PySem.W.methodObj (.ref f) (.ref x))
  | .ext φ => φ h ∧ (∃ o, h.get? a = some o) ∧ ∀ h1 h2 : Heap, φ h1 → (∀ o, h1.get? a = some o → h2.get? a = some o) → φ h2
noncomputable def HOk (H : Hp) (h : Heap) : Prop := ∀ a o, H a = some o → ObjOk P w H h a o
end
section
variable {P : Program} {w : World} {H H' : Hp} {h h' : Heap} {a : Addr} {o : HO}
theorem ObjOk.lt (x : ObjOk P w H h a o) : a < h.objs.size := by
  cases o with
  | lst xs => obtain ⟨_, _, _, _, e⟩ := x; exact Heap.lt_size e
  | tup xs => obtain ⟨_, _, _, p⟩ := x; exact p.lt
  | dK kvs => obtain ⟨_, _, _, _, o, _, _, e, _⟩ := x; exact Heap.lt_size e
  | dT kvs => obtain ⟨_, _, _, _, o, _, _, e, _⟩ := x; exact Heap.lt_size e
  | set S n => obtain ⟨o, _, _, _, e, _⟩ := x; exact Heap.lt_size e
  | ins C dx fs => obtain ⟨_, _, _, e, _⟩ := x; exact Heap.lt_size e
  | own y => obtain ⟨_, e⟩ := x; exact Heap.lt_size e
  | xd fs => obtain ⟨_, ⟨_, _, _, e, _⟩, _⟩ := x; exact Heap.lt_size e
  | rng lo hi => obtain ⟨_, _, _, e⟩ := x; exact Heap.lt_size e
  | frz ob u => obtain ⟨e, _⟩ := x; exact Heap.lt_size e
  | tbl ps => exact Heap.lt_size (show h.get? a = some _ from x)
  | met f y => exact Heap.lt_size (show h.get? a = some _ from x)
  | ext φ => obtain ⟨_, ⟨_, e⟩, _⟩ := x; exact Heap.lt_size e
theorem Paired.mapP {α β : Type} {F G : α → β → Prop} : ∀ {l₁ : List α} {l₂ : List β}, Paired F l₁ l₂ → (∀ a b, F a b → G a b) → Paired G l₁ l₂
  | _, _, .nil, _ => .nil
  | _, _, .cons r t, f => .cons (f _ _ r) (Paired.mapP t f)
theorem ObjOk.stay (x : ObjOk P w H h a o) (k : ∀ b u, (b = a ∨ H b = some (.own a)) → h.get? b = some u → h'.get? b = some u)
    (ho : ∀ b, H b = some (.own a) → H' b = some (.own a)) (ht : ∀ b xs, H b = some (.tup xs) → H' b = some (.tup xs)) : ObjOk P w H' h' a o := by
  induction o with
  | lst xs => obtain ⟨z, its, n, r, e⟩ := x; exact ⟨z, its, n, r, k _ _ (.inl rfl) e⟩
  | tup xs => obtain ⟨z, its, r, ob, e, c⟩ := x; exact ⟨z, its, r, ob, k _ _ (.inl rfl) e, c⟩
  | dK kvs => obtain ⟨z, y, vs, r, ob, es, ep, e, c⟩ := x; exact ⟨z, y, vs, r, ob, es, ep, k _ _ (.inl rfl) e, c⟩
  | dT kvs =>
    obtain ⟨z, y, xs, r, ob, es, ep, e, c⟩ := x
    exact ⟨z, y, xs, Paired.mapP r fun p q z => ⟨z.1, ht _ _ z.2.1, z.2.2⟩, ob, es, ep, k _ _ (.inl rfl) e, c⟩
  | set S n => obtain ⟨ob, es, ep, t, e, c⟩ := x; exact ⟨ob, es, ep, t, k _ _ (.inl rfl) e, c⟩
  | ins C dx fs =>
    obtain ⟨d, z, ne, e, mA, ⟨od, es, ep, e2, c⟩, r⟩ := x
    exact ⟨ho _ d, z, ne, k _ _ (.inl rfl) e, mA, ⟨od, es, ep, k _ _ (.inr d) e2, c⟩, r⟩
  | own y => obtain ⟨ob, e⟩ := x; exact ⟨ob, k _ _ (.inl rfl) e⟩
  | xd fs => obtain ⟨mA, ⟨od, es, ep, e, c⟩, r⟩ := x; exact ⟨mA, ⟨od, es, ep, k _ _ (.inl rfl) e, c⟩, r⟩
  | rng lo hi => obtain ⟨t, u, v, e⟩ := x; exact ⟨t, u, v, k _ _ (.inl rfl) e⟩
  | frz ob u ih => obtain ⟨e, q⟩ := x; exact ⟨k _ _ (.inl rfl) e, ih q⟩
  | tbl ps =>
    have e : h.get? a = some { cls := .none, data := .fields ps } := x
    show h'.get? a = some { cls := .none, data := .fields ps }
    exact k a _ (.inl rfl) e
  | met f y =>
    have e : h.get? a = some (PySem.W.methodObj (.ref f) (.ref y)) := x
    show h'.get? a = some (PySem.W.methodObj (.ref f) (.ref y))
    exact k a _ (.inl rfl) e
  | ext φ => obtain ⟨p, ⟨o, e⟩, st⟩ := x; exact ⟨st _ _ p fun o q => k _ _ (.inl rfl) q, ⟨o, k _ _ (.inl rfl) e⟩, st⟩
theorem HOk.lt (x : HOk P w H h) (e : H a = some o) : a < h.objs.size := (x a o e).lt
theorem HOk.fresh (x : HOk P w H h) (e : h.objs.size ≤ a) : H a = none := by
  cases q : H a with
  | none => rfl
  | some u => exact absurd (Nat.lt_of_lt_of_le (x.lt q) e) (Nat.lt_irrefl _)
theorem HOk.kept (x : HOk P w H h) (k : ∀ b u, h.get? b = some u → h'.get? b = some u) : HOk P w H h' := fun a o e =>
  (x a o e).stay (fun b u _ q => k b u q) (fun _ q => q) fun _ _ q => q
theorem HOk.laid (x : HOk P w H h) (k : ∀ b u, h.get? b = some u → h'.get? b = some u) (hp : h.objs.size ≤ a) (new : ObjOk P w (upd H a o) h' a o) : HOk P w (upd H a o) h' := fun b u e => by
  have hn := x.fresh hp
  by_cases hb : b = a
  · subst hb; rw [upd_same] at e; cases e; exact new
  · rw [upd_ne hb] at e
    exact (x b u e).stay (fun c v _ q => k c v q) (fun c q => by rw [upd_ne (ne_of_none q hn)]; exact q) fun c xs q => by rw [upd_ne (ne_of_none q hn)]; exact q
end
noncomputable def Rd (H : Hp) (a : Addr) (u : HO) : Prop := H a = some u ∨ ∃ o, H a = some (.frz o u)
theorem Rd.of {H : Hp} {a : Addr} {u : HO} (h : H a = some u) : Rd H a u := .inl h
theorem Rd.ok {P : Program} {w : World} {H : Hp} {h : Heap} {a : Addr} {u : HO} (r : Rd H a u) (x : HOk P w H h) : ObjOk P w H h a u := by
  rcases r with r | ⟨o, r⟩
  · exact x a u r
  · obtain ⟨_, q⟩ := x a _ r
    exact q
noncomputable def Mut : Option HO → Prop
  | some (.lst _) => True
  | some (.dK _) => True
  | some (.dT _) => True
  | some (.set _ _) => True
  | some (.ins _ _ _) => True
  | some (.ext _) => True
  | _ => False
section
variable {P : Program} {w : World} {H : Hp} {h h' : Heap} {x e : Addr} {o' : HO}
theorem HOk.write (ok : HOk P w H h) (mu : Mut (H x)) (he : e = x ∨ H e = some (.own x)) (k : ∀ b u, b ≠ e → h.get? b = some u → h'.get? b = some u) (heo : ∃ u, h'.get? e = some u)
    (new : ObjOk P w (upd H x o') h' x o') : HOk P w (upd H x o') h' := fun b u q => by
  have nown : ∀ c y, H c = some (.own y) → c ≠ x := fun c y r z => by subst z; rw [r] at mu; exact mu
  have ntup : ∀ c xs, H c = some (.tup xs) → c ≠ x := fun c xs r z => by subst z; rw [r] at mu; exact mu
  by_cases hb : b = x
  · subst hb; rw [upd_same] at q; cases q; exact new
  · rw [upd_ne hb] at q
    by_cases hbe : b = e
    · have q' : H b = some (.own x) := by
        rcases he with z | z
        · exact absurd (hbe.trans z) hb
        · rw [hbe]; exact z
      rw [q] at q'; cases q'
      obtain ⟨v, hv⟩ := heo
      exact ⟨v, by rw [hbe]; exact hv⟩
    · refine (ok b u q).stay (fun c v hc r => k c v ?_ r) (fun c r => by rw [upd_ne (nown c b r)]; exact r) fun c xs r => by rw [upd_ne (ntup c xs r)]; exact r
      rcases hc with rfl | hc
      · exact hbe
      · rintro rfl
        rcases he with z | z
        · exact nown c b hc z
        · rw [hc] at z; cases z; exact hb rfl
end
structure Un (fs ex : List Addr) (H H' : Hp) (h h' : Heap) : Prop where
  keep : ∀ b o, h.get? b = some o → H b = none → b ∉ fs → b ∉ ex → h'.get? b = some o
  slot : ∀ b o, h.get? b = some o → H b = none → b ∈ fs → b ∉ ex → ∃ sl, h'.get? b = some { o with slots := sl }
  free : ∀ b o, h.get? b = some o → H b = none → b ∉ ex → H' b = none
  there : ∀ b o, h.get? b = some o → b ∉ ex → ∃ o', h'.get? b = some o'
  tups : ∀ b xs, H b = some (.tup xs) → H' b = some (.tup xs)
  frzs : ∀ b o u, H b = some (.frz o u) → H' b = some (.frz o u)
  tbls : ∀ b ps, H b = some (.tbl ps) → ∃ more, H' b = some (.tbl (ps ++ more))
section
variable {fs fs' ex ex' : List Addr} {H H1 H2 : Hp} {h h1 h2 h' : Heap} {a x e : Addr} {o : HO}
theorem Un.any (u : Un fs ex H H1 h h1) {b : Addr} {ob : Obj} (q : h.get? b = some ob) (n : H b = none) (hx : b ∉ ex) : ∃ sl, h1.get? b = some { ob with slots := sl } := by
  by_cases hb : b ∈ fs
  · exact u.slot b ob q n hb hx
  · exact ⟨ob.slots, u.keep b ob q n hb hx⟩
theorem Un.trans (a : Un fs ex H H1 h h1) (b : Un fs ex H1 H2 h1 h2) : Un fs ex H H2 h h2 where
  keep := fun c ob q n hc hx => b.keep c ob (a.keep c ob q n hc hx) (a.free c ob q n hx) hc hx
  slot := fun c ob q n hc hx => by
    obtain ⟨sl, e1⟩ := a.slot c ob q n hc hx
    obtain ⟨sl', e2⟩ := b.slot c _ e1 (a.free c ob q n hx) hc hx
    exact ⟨sl', e2⟩
  free := fun c ob q n hx => by
    obtain ⟨o', e1⟩ := a.there c ob q hx
    exact b.free c o' e1 (a.free c ob q n hx) hx
  there := fun c ob q hx => by
    obtain ⟨o', e1⟩ := a.there c ob q hx
    exact b.there c o' e1 hx
  tups := fun c xs q => b.tups c xs (a.tups c xs q)
  frzs := fun c ob xs q => b.frzs c ob xs (a.frzs c ob xs q)
  tbls := fun c ps q => by
    obtain ⟨m1, e1⟩ := a.tbls c ps q
    obtain ⟨m2, e2⟩ := b.tbls c _ e1
    exact ⟨m1 ++ m2, by rw [e2, Array.append_assoc]⟩
theorem Un.kept (k : ∀ b u, h.get? b = some u → h'.get? b = some u) : Un fs ex H H h h' :=
  ⟨fun b ob q _ _ _ => k b ob q, fun b ob q _ _ _ => ⟨ob.slots, k b ob q⟩, fun _ _ _ n _ => n, fun b ob q _ => ⟨ob, k b ob q⟩, fun _ _ q => q, fun _ _ _ q => q, fun _ ps q => ⟨#[], by rw [q]; simp⟩⟩
theorem Un.refl : Un fs ex H H h h := Un.kept fun _ _ q => q
theorem Un.laid (k : ∀ b u, h.get? b = some u → h'.get? b = some u) (hp : h.objs.size ≤ a) (hn : H a = none) : Un fs ex H (upd H a o) h h' where
  keep := fun b u q _ _ _ => k b u q
  slot := fun b u q _ _ _ => ⟨u.slots, k b u q⟩
  free := fun b u q n _ => by rw [upd_ne (Nat.ne_of_lt (Nat.lt_of_lt_of_le (Heap.lt_size q) hp))]; exact n
  there := fun b u q _ => ⟨u, k b u q⟩
  tups := fun b xs q => by rw [upd_ne (ne_of_none q hn)]; exact q
  frzs := fun b u xs q => by rw [upd_ne (ne_of_none q hn)]; exact q
  tbls := fun b ps q => ⟨#[], by rw [upd_ne (ne_of_none q hn), q]; simp⟩
theorem Un.write (mu : Mut (H x)) (he : e = x ∨ H e = some (.own x)) (k : ∀ b u, b ≠ e → h.get? b = some u → h'.get? b = some u) (heo : ∃ u, h'.get? e = some u) : Un fs ex H (upd H x o) h h' := by
  have hx : ∀ b, H b = none → b ≠ x := fun b n z => by subst z; rw [n] at mu; exact mu
  have hb : ∀ b, H b = none → b ≠ e := fun b n z => by
    subst z
    rcases he with r | r
    · exact hx b n r
    · rw [n] at r; cases r
  have hm : ∀ b u, H b = some u → ¬ Mut (some u) → b ≠ x := fun b u q nm z => by subst z; rw [q] at mu; exact nm mu
  refine ⟨fun b u q n _ _ => k b u (hb b n) q, fun b u q n _ _ => ⟨u.slots, k b u (hb b n) q⟩, fun b u q n _ => by rw [upd_ne (hx b n)]; exact n, fun b u q _ => ?_,
    fun b xs q => by rw [upd_ne (hm b _ q fun z => z)]; exact q, fun b u xs q => by rw [upd_ne (hm b _ q fun z => z)]; exact q, fun b ps q => ⟨#[], by rw [upd_ne (hm b _ q fun z => z), q]; simp⟩⟩
  by_cases hbe : b = e
  · subst hbe; exact heo
  · exact ⟨u, k b u hbe q⟩
theorem Un.mono (u : Un fs ex H H1 h h1) (hs : ∀ b ∈ fs, b ∈ fs') (hx : ∀ b ∈ ex, b ∈ ex') : Un fs' ex' H H1 h h1 :=
  ⟨fun b ob q n hb he => u.keep b ob q n (fun z => hb (hs b z)) fun z => he (hx b z), fun _ _ q n _ he => u.any q n fun z => he (hx _ z), fun b ob q n he => u.free b ob q n fun z => he (hx b z), fun b ob q he => u.there b ob q fun z => he (hx b z), u.tups, u.frzs, u.tbls⟩
end
noncomputable def trk (h : Heap) (H : Hp) : List Addr := (List.range h.objs.size).filter fun a => (H a).isSome
noncomputable def hidT (h : Heap) (H : Hp) : Heap := PySem.W.hideAll h (trk h H)
theorem hidT_size (h : Heap) (H : Hp) : (hidT h H).objs.size = h.objs.size := PySem.W.hideAll_size _ _
theorem hidT_get {h : Heap} {H : Hp} {b : Addr} {o : Obj} (e : h.get? b = some o) (n : H b = none) : (hidT h H).get? b = some o :=
  PySem.W.hideAll_get _ e fun hm => by
    have q : (H b).isSome = true := (List.mem_filter.mp hm).2
    rw [n] at q; simp at q
theorem of_hidT {h : Heap} {H : Hp} {b : Addr} {o : Obj} (e : (hidT h H).get? b = some o) : h.get? b = some o ∧ H b = none := by
  have e' : h.get? b = some o := PySem.W.of_hideAll (trk h H) e
  refine ⟨e', ?_⟩
  cases q : H b with
  | none => rfl
  | some x =>
    have hm : b ∈ trk h H := List.mem_filter.mpr ⟨List.mem_range.mpr (Heap.lt_size e'), by simp [q]⟩
    have z : (hidT h H).get? b = none := PySem.W.hideAll_none (trk h H) hm
    rw [z] at e; cases e
noncomputable def allNews (g h : Heap) (L : Addr) : List (Addr × Obj) := (List.range h.objs.size).filterMap fun a => if a = L ∨ (g.get? a).isSome = true then none else (h.get? a).map fun o => (a, o)
noncomputable def rest (g h : Heap) (L d : Addr) : List (Addr × Obj) := (allNews g h L).filter fun p => decide (p.1 ≠ d)
end L2
namespace L2
open PySem PySem.Spec PyProof.Rows
structure Mod (K : PySem.W.Frag) (mg : Str → Option Value) (base : Heap) : Prop where
  kin : K.In base
  glob : base.Ns mainGlobals mg
  blt : ∃ mb, base.Ns builtinsNs mb ∧ ∀ x : Str, x ≠ "__name__" → mb x = bootBuiltins x
  nolimit : base.NoLimit
structure Cx where
  prog : Program
  w : World
  K : PySem.W.Frag
  mg : Str → Option Value
  base : Heap
  A : Around
  N : List Str
  s₀ : Shared
  H₀ : Hp
  env : Env
  outer : List Env
  stack : List Env
  ex : List Addr
  fn : Str → Bool
  calm : Bool
  pn : List (Addr × Obj)
  xe : Value → Shared → Prop
noncomputable def frs (l : List Env) : List Addr := l.filterMap (·.frame)
abbrev Cx.fs (X : Cx) : List Addr := frs X.outer
noncomputable def Vis (sc : Scope) (x : Str) : Prop := sc.names.lookup x = some .local ∨ sc.names.lookup x = some .cell ∨ sc.names.lookup x = some .free
noncomputable def Loc (sc : Scope) (x : Str) : Prop := sc.names.lookup x = some .local ∨ sc.names.lookup x = some .cell
noncomputable def Look (env : Env) (h : Heap) (m : Str → Option Value) (x : Str) (u : Value) : Prop :=
  (env.kindOf x = some .local ∧ m x = some u) ∨ ((env.kindOf x = some .cell ∨ env.kindOf x = some .free) ∧ ∃ c, env.cells.lookup x = some c ∧ h.IsCell c (some u))
structure Cx.Ok (X : Cx) : Prop where
  mod : Mod X.K X.mg X.base
  kind : X.env.scope.kind = .function
  glob : X.env.globals = mainGlobals
  blt : X.env.builtins = builtinsNs
  above : X.s₀.heap.objs.size ≤ X.env.locals
  inj : ∀ x y c, X.env.cells.lookup x = some c → X.env.cells.lookup y = some c → x = y
  has : ∀ x, (X.env.kindOf x = some .cell ∨ X.env.kindOf x = some .free) → ∃ c, X.env.cells.lookup x = some c
  cab : ∀ x c, X.fn x = true → X.env.cells.lookup x = some c → X.s₀.heap.objs.size ≤ c
  hd : X.calm = true → X.A.handled = none
  frames : X.A.frames = some X.stack
  stk : X.stack = X.outer ∨ (X.stack = X.env :: X.outer ∧ X.env.frame = some X.env.locals)
  exf : ∀ b ∈ X.ex, b ≠ X.env.locals ∧ ∀ x c, X.env.cells.lookup x = some c → c ≠ b
  bs : ∀ b o, X.base.get? b = some o → X.s₀.heap.get? b = some o ∧ X.H₀ b = none
  bsz : X.base.objs.size ≤ X.s₀.heap.objs.size
  noex : ∀ b o, X.base.get? b = some o → b ∉ X.ex
  exfs : ∀ b ∈ X.ex, b ∉ X.fs
  funs : X.s₀.heap.FunFrames X.base X.outer
  frf : ∀ b ∈ X.fs, X.H₀ b = none
structure Inv (X : Cx) (pins : List (Addr × Obj)) (σ : List (Option V)) (H : Hp) (s : Shared) : Prop where
  ok : X.Ok
  os : s.os = X.s₀.os
  bare : AllBare s.gens
  base : Un X.fs X.ex X.H₀ H X.s₀.heap s.heap
  loc : ∃ m, s.heap.Ns X.env.locals m ∧ ∀ (i : Nat) (x : Str) (v : V), X.N[i]? = some x → σ[i]? = some (some v) → Vis X.env.scope x → ∃ u, RelV v u ∧ Look X.env s.heap m x u
  cell : ∀ x c, X.env.cells.lookup x = some c → ∃ v, s.heap.IsCell c v
  free : H X.env.locals = none
  freeC : ∀ x c, X.env.cells.lookup x = some c → H c = none
  pin : ∀ p ∈ X.pn ++ pins, s.heap.get? p.1 = some p.2 ∧ H p.1 = none ∧ p.1 ≠ X.env.locals ∧ p.1 ∉ X.fs ∧ ∀ v, p.2.data ≠ .cell v
  hok : HOk X.prog X.w H s.heap
  len : σ.length = X.N.length
section
variable {X : Cx} {pins : List (Addr × Obj)} {σ : List (Option V)} {H H' : Hp} {s : Shared} {h' : Heap}
theorem Cx.Ok.nofr (ok : X.Ok) {b : Addr} {o : Obj} (e : X.base.get? b = some o) : b ∉ X.fs := fun hb => by
  have := (ok.funs.mem hb).1
  rw [e] at this; cases this
theorem Inv.bs (I : Inv X pins σ H s) : ∀ b o, X.base.get? b = some o → s.heap.get? b = some o ∧ H b = none := fun b o e =>
  ⟨I.base.keep b o (I.ok.bs b o e).1 (I.ok.bs b o e).2 (I.ok.nofr e) (I.ok.noex b o e), I.base.free b o (I.ok.bs b o e).1 (I.ok.bs b o e).2 (I.ok.noex b o e)⟩
theorem Inv.bk (I : Inv X pins σ H s) : ∀ b o, X.base.get? b = some o → s.heap.get? b = some o := fun b o e => (I.bs b o e).1
theorem Inv.mod (I : Inv X pins σ H s) : Mod X.K X.mg X.base := I.ok.mod
theorem Inv.kIn (I : Inv X pins σ H s) : X.K.In s.heap := I.ok.mod.kin.keeps I.bk
theorem Inv.nolimit (I : Inv X pins σ H s) : s.heap.NoLimit := I.ok.mod.nolimit.keeps I.bk
theorem Inv.fr (I : Inv X pins σ H s) : ∃ m, Fr X.base X.env.locals s.heap m :=
  let ⟨m, hn, _⟩ := I.loc
  ⟨m, hn, I.bk, Nat.le_trans I.ok.bsz I.ok.above⟩
theorem Inv.lt (I : Inv X pins σ H s) : X.env.locals < s.heap.objs.size := let ⟨_, hn, _⟩ := I.loc; hn.lt
theorem Inv.sz (I : Inv X pins σ H s) : X.s₀.heap.objs.size ≤ s.heap.objs.size := Nat.le_trans I.ok.above (Nat.le_of_lt I.lt)
theorem Inv.nofs (I : Inv X pins σ H s) {a : Addr} (h : s.heap.objs.size ≤ a) : a ∉ X.fs := fun hb => by
  obtain ⟨_, o, ho, _⟩ := I.ok.funs.mem hb
  exact absurd (Nat.lt_of_lt_of_le (Heap.lt_size ho) (Nat.le_trans I.sz h)) (Nat.lt_irrefl _)
theorem Inv.cne (I : Inv X pins σ H s) : ∀ x c, X.env.cells.lookup x = some c → c ≠ X.env.locals := fun x c e z => by
  obtain ⟨v, o, ho, hd⟩ := I.cell x c e
  obtain ⟨m, ⟨o', es, ep, ho', hd', _⟩, _⟩ := I.loc
  rw [z, ho'] at ho; cases ho; rw [hd'] at hd; cases hd
theorem Inv.funs (I : Inv X pins σ H s) : s.heap.FunFrames X.base X.outer := by
  have all : ∀ (l : List Env), (∀ b ∈ frs l, b ∈ X.fs) → X.s₀.heap.FunFrames X.base l → s.heap.FunFrames X.base l := by
    intro l
    induction l with
    | nil => intro _ _; trivial
    | cons env r ih =>
      intro hs hl
      obtain ⟨hk, ⟨L, o, hf, hn, ho, hd⟩, hr⟩ := hl
      have hL : L ∈ X.fs := hs L (by unfold frs; rw [List.filterMap_cons, hf]; exact List.mem_cons_self)
      obtain ⟨sl, e⟩ := I.base.slot L o ho (I.ok.frf L hL) hL fun z => I.ok.exfs L z hL
      exact ⟨hk, ⟨L, _, hf, hn, e, hd⟩, ih (fun b hb => hs b (by unfold frs; rw [List.filterMap_cons, hf]; exact List.mem_cons_of_mem _ hb)) hr⟩
  exact all X.outer (fun _ hb => hb) I.ok.funs
theorem Inv.stack (I : Inv X pins σ H s) : s.heap.FunFrames X.base X.stack := by
  rcases I.ok.stk with e | ⟨e, hf⟩
  · rw [e]; exact I.funs
  · rw [e]
    obtain ⟨m, hn, _⟩ := I.loc
    refine .cons (by rw [I.ok.kind]; decide) hf hn ?_ I.funs
    exact Heap.get?_none_of_le (Nat.le_trans I.ok.bsz I.ok.above)
theorem Inv.stkSub (I : Inv X pins σ H s) : ∀ b ∈ frs X.stack, b ∈ X.env.locals :: X.fs := fun b hb => by
  rcases I.ok.stk with e | ⟨e, hf⟩
  · rw [e] at hb; exact List.mem_cons_of_mem _ hb
  · rw [e] at hb
    unfold frs at hb
    rw [List.filterMap_cons, hf] at hb
    exact hb
theorem Inv.stkFree (I : Inv X pins σ H s) : ∀ b ∈ frs X.stack, H b = none := fun b hb => by
  rcases List.mem_cons.mp (I.stkSub b hb) with e | hb
  · rw [e]; exact I.free
  · obtain ⟨_, o, ho, _⟩ := I.ok.funs.mem hb
    exact I.base.free b o ho (I.ok.frf b hb) fun z => I.ok.exfs b z hb
theorem Inv.step {g' : Array GenState} {t' : Nat} {d' : Drawn} {ch : List Addr} (I : Inv X pins σ H s)
    (hch : ∀ b ∈ ch, (b ∈ X.ex ∨ X.s₀.heap.objs.size ≤ b) ∧ b ≠ X.env.locals ∧ (∀ x c, X.env.cells.lookup x = some c → c ≠ b) ∧ ∀ p ∈ X.pn ++ pins, p.1 ≠ b)
    (keep : ∀ b o, b ≠ X.env.locals → b ∉ X.fs → b ∉ ch → s.heap.get? b = some o → H b = none → h'.get? b = some o)
    (slot : ∀ b o, b ≠ X.env.locals → b ∈ X.fs → b ∉ ch → s.heap.get? b = some o → H b = none → ∃ sl, h'.get? b = some { o with slots := sl }) (free : ∀ b o, b ∉ ch → s.heap.get? b = some o → H b = none → H' b = none)
    (there : ∀ b o, b ∉ ch → s.heap.get? b = some o → ∃ o', h'.get? b = some o')
    (tups : ∀ b xs, H b = some (.tup xs) → H' b = some (.tup xs)) (frzs : ∀ b o u, H b = some (.frz o u) → H' b = some (.frz o u)) (tbls : ∀ b ps, H b = some (.tbl ps) → ∃ more, H' b = some (.tbl (ps ++ more)))
    (ns : ∀ m, s.heap.Ns X.env.locals m → h'.Ns X.env.locals m) (hok : HOk X.prog X.w H' h') (hg : AllBare g') :
    Inv X pins σ H' { s with heap := h', gens := g', drawn := d', toks := t' } := by
  have neL : ∀ b o, X.s₀.heap.get? b = some o → b ≠ X.env.locals := fun b o e => Nat.ne_of_lt (Nat.lt_of_lt_of_le (Heap.lt_size e) I.ok.above)
  have neC : ∀ b o, X.s₀.heap.get? b = some o → b ∉ X.ex → b ∉ ch := fun b o e hx hb => by
    rcases (hch b hb).1 with z | z
    · exact hx z
    · exact absurd (Nat.lt_of_lt_of_le (Heap.lt_size e) z) (Nat.lt_irrefl _)
  have cellK : ∀ x c, X.env.cells.lookup x = some c → ∀ v, s.heap.IsCell c v → h'.IsCell c v := fun x c e v ⟨o, ho, hd⟩ => by
    have nch : c ∉ ch := fun z => (hch c z).2.2.1 x c e rfl
    by_cases hc : c ∈ X.fs
    · obtain ⟨sl, q⟩ := slot c o (I.cne x c e) hc nch ho (I.freeC x c e)
      exact ⟨_, q, hd⟩
    · exact ⟨o, keep c o (I.cne x c e) hc nch ho (I.freeC x c e), hd⟩
  refine ⟨I.ok, I.os, hg, ⟨fun b o e n hb hx => ?_, fun b o e n hb hx => ?_, fun b o e n hx => ?_, fun b o e hx => ?_, fun b xs e => tups b xs (I.base.tups b xs e), fun b o xs e => frzs b o xs (I.base.frzs b o xs e), fun b ps e => ?_⟩, ?_, fun x c e => ?_, ?_, fun x c e => ?_, fun p hp => ?_, hok, I.len⟩
  · exact keep b o (neL b o e) hb (neC b o e hx) (I.base.keep b o e n hb hx) (I.base.free b o e n hx)
  · obtain ⟨sl, e1⟩ := I.base.slot b o e n hb hx
    obtain ⟨sl', e2⟩ := slot b _ (neL b o e) hb (neC b o e hx) e1 (I.base.free b o e n hx)
    exact ⟨sl', e2⟩
  · obtain ⟨o', e1⟩ := I.base.there b o e hx
    exact free b o' (neC b o e hx) e1 (I.base.free b o e n hx)
  · obtain ⟨o', e1⟩ := I.base.there b o e hx
    exact there b o' (neC b o e hx) e1
  · obtain ⟨m1, e1⟩ := I.base.tbls b ps e
    obtain ⟨m2, e2⟩ := tbls b _ e1
    exact ⟨m1 ++ m2, by rw [e2, Array.append_assoc]⟩
  · obtain ⟨m, hn, hl⟩ := I.loc
    refine ⟨m, ns m hn, fun i x v e1 e2 e3 => ?_⟩
    obtain ⟨u, r, l⟩ := hl i x v e1 e2 e3
    refine ⟨u, r, ?_⟩
    rcases l with l | ⟨k, c, e, z⟩
    · exact .inl l
    · exact .inr ⟨k, c, e, cellK x c e _ z⟩
  · obtain ⟨v, z⟩ := I.cell x c e
    exact ⟨v, cellK x c e v z⟩
  · obtain ⟨m, ⟨o, _, _, ho, _⟩, _⟩ := I.loc
    exact free _ o (fun z => (hch _ z).2.1 rfl) ho I.free
  · obtain ⟨v, o, ho, hd⟩ := I.cell x c e
    exact free c o (fun z => (hch c z).2.2.1 x c e rfl) ho (I.freeC x c e)
  · obtain ⟨e, n, ne, nf, d⟩ := I.pin p hp
    have nch : p.1 ∉ ch := fun z => (hch p.1 z).2.2.2 p hp rfl
    exact ⟨keep p.1 p.2 ne nf nch e n, free p.1 p.2 nch e n, ne, nf, d⟩
theorem Inv.un {t' : Nat} (I : Inv X pins σ H s) (u : Un X.fs [] H H' s.heap h') (hok : HOk X.prog X.w H' h') : Inv X pins σ H' { s with heap := h', toks := t' } := by
  obtain ⟨m, ⟨o, es, ep, ho, r⟩, _⟩ := id I.loc
  obtain ⟨sl, hL⟩ := u.any ho I.free (by simp)
  exact I.step (g' := s.gens) (d' := s.drawn) (ch := []) (fun _ z => nomatch z) (fun b o _ hb _ e n => u.keep b o e n hb (by simp)) (fun b o _ hb _ e n => u.slot b o e n hb (by simp)) (fun b o _ e n => u.free b o e n (by simp)) (fun b o _ e => u.there b o e (by simp)) u.tups u.frzs u.tbls (fun m' hm => by
    obtain ⟨o', es', ep', ho', r'⟩ := hm
    rw [ho] at ho'; cases ho'
    exact ⟨_, es', ep', hL, r'⟩) hok I.bare
theorem Inv.call {g' : Array GenState} {t' : Nat} {d' : Drawn} {ch : List Addr} (I : Inv X pins σ H s) (u : Un (frs X.stack) ch H H' s.heap h') (hok : HOk X.prog X.w H' h') (hg : AllBare g')
    (hch : ∀ b ∈ ch, (b ∈ X.ex ∨ X.s₀.heap.objs.size ≤ b) ∧ b ≠ X.env.locals ∧ (∀ x c, X.env.cells.lookup x = some c → c ≠ b) ∧ ∀ p ∈ X.pn ++ pins, p.1 ≠ b) :
    Inv X pins σ H' { s with heap := h', gens := g', drawn := d', toks := t' } := by
  obtain ⟨m, ⟨o, es, ep, ho, r⟩, _⟩ := id I.loc
  obtain ⟨sl, hL⟩ := u.any ho I.free fun z => (hch _ z).2.1 rfl
  exact I.step (ch := ch) hch (fun b o hL hb hc e n => u.keep b o e n (fun z => (List.mem_cons.mp (I.stkSub b z)).elim hL hb) hc) (fun b o _ _ hc e n => u.any e n hc) (fun b o hc e n => u.free b o e n hc) (fun b o hc e => u.there b o e hc) u.tups u.frzs u.tbls (fun m' hm => by
    obtain ⟨o', es', ep', ho', r'⟩ := hm
    rw [ho] at ho'; cases ho'
    exact ⟨_, es', ep', hL, r'⟩) hok hg
theorem Inv.turned {t' : Nat} {it : Addr} (I : Inv X pins σ H s) (k : ∀ b o, b ≠ it → s.heap.get? b = some o → h'.get? b = some o) (hn : H it = none) (hL : it ≠ X.env.locals)
    (h1 : it ∈ X.ex ∨ X.s₀.heap.objs.size ≤ it) (h2 : ∀ x c, X.env.cells.lookup x = some c → c ≠ it) (h3 : ∀ p ∈ X.pn ++ pins, p.1 ≠ it) : Inv X pins σ H { s with heap := h', toks := t' } := by
  have nit : ∀ b u, H b = some u → b ≠ it := fun b u e z => by rw [z, hn] at e; cases e
  refine I.step (g' := s.gens) (d' := s.drawn) (ch := [it]) (fun b hb => ?_) (fun b o _ _ hc e _ => k b o (fun z => hc (by simp [z])) e) (fun b o _ _ hc e _ => ⟨o.slots, k b o (fun z => hc (by simp [z])) e⟩) (fun _ _ _ _ n => n)
    (fun b o hc e => ⟨o, k b o (fun z => hc (by simp [z])) e⟩) (fun _ _ e => e) (fun _ _ _ e => e) (fun b ps e => ⟨#[], by rw [e]; simp⟩) (fun m hm => ?_) (fun b u e => ?_) I.bare
  · have e : b = it := by simpa using hb
    subst e
    exact ⟨h1, hL, h2, h3⟩
  · obtain ⟨o, es, ep, ho, r⟩ := hm
    exact ⟨o, es, ep, k _ o (Ne.symm hL) ho, r⟩
  · refine (I.hok b u e).stay (fun c v hc q => k c v ?_ q) (fun _ q => q) fun _ _ q => q
    rcases hc with z | z
    · rw [z]; exact nit b u e
    · exact nit c _ z
theorem Inv.tok (I : Inv X pins σ H s) (t : Nat) : Inv X pins σ H { s with toks := t } := I.un (h' := s.heap) (t' := t) Un.refl I.hok
theorem Inv.kept {t' : Nat} (I : Inv X pins σ H s) (k : ∀ b u, s.heap.get? b = some u → h'.get? b = some u) : Inv X pins σ H { s with heap := h', toks := t' } := I.un (Un.kept k) (I.hok.kept k)
theorem Inv.laid {a : Addr} {o : HO} {t' : Nat} (I : Inv X pins σ H s) (k : ∀ b u, s.heap.get? b = some u → h'.get? b = some u) (hp : s.heap.objs.size ≤ a) (new : ObjOk X.prog X.w (upd H a o) h' a o) :
    Inv X pins σ (upd H a o) { s with heap := h', toks := t' } := I.un (Un.laid k hp (I.hok.fresh hp)) (I.hok.laid k hp new)
theorem Inv.write {x e : Addr} {o : HO} {t' : Nat} (I : Inv X pins σ H s) (mu : Mut (H x)) (he : e = x ∨ H e = some (.own x)) (k : ∀ b u, b ≠ e → s.heap.get? b = some u → h'.get? b = some u) (heo : ∃ u, h'.get? e = some u)
    (new : ObjOk X.prog X.w (upd H x o) h' x o) : Inv X pins σ (upd H x o) { s with heap := h', toks := t' } := I.un (Un.write mu he k heo) (I.hok.write mu he k heo new)
theorem Inv.weak {σ' : List (Option V)} (I : Inv X pins σ H s) (hl : σ'.length = σ.length) (w : ∀ (i : Nat) v, σ'[i]? = some (some v) → σ[i]? = some (some v)) : Inv X pins σ' H s :=
  ⟨I.ok, I.os, I.bare, I.base, let ⟨m, hn, hl'⟩ := I.loc; ⟨m, hn, fun i x v e1 e2 e3 => hl' i x v e1 (w i v e2) e3⟩, I.cell, I.free, I.freeC, I.pin, I.hok, hl.trans I.len⟩
theorem Inv.pins_of {pins' : List (Addr × Obj)} (I : Inv X pins σ H s) (h : ∀ p ∈ pins', s.heap.get? p.1 = some p.2 ∧ H p.1 = none ∧ p.1 ≠ X.env.locals ∧ p.1 ∉ X.fs ∧ ∀ v, p.2.data ≠ .cell v) : Inv X pins' σ H s :=
  ⟨I.ok, I.os, I.bare, I.base, I.loc, I.cell, I.free, I.freeC, fun p hp => (List.mem_append.mp hp).elim (fun z => I.pin p (List.mem_append_left _ z)) (h p), I.hok, I.len⟩
theorem nodup_ix {N : List Str} (hN : N.Nodup) {i j : Nat} {x : Str} (a : N[i]? = some x) (b : N[j]? = some x) : i = j := by
  obtain ⟨h1, e1⟩ := List.getElem?_eq_some_iff.mp a
  obtain ⟨h2, e2⟩ := List.getElem?_eq_some_iff.mp b
  exact (List.getElem_inj hN).mp (e1.trans e2.symm)
theorem store_ok2 {M : Model} {A : Around} {E : Value → Shared → Prop} {i : Nat} {x : Str} {v : V} {u : Value} {Q : Unit → Shared → Prop} (I : Inv X pins σ H s) (hN : X.N.Nodup) (hi : X.N[i]? = some x) (hx : Loc X.env.scope x) (r : RelV v u)
    (h : ∀ s', Inv X pins (σ.set i (some v)) H s' → (∃ a, Heap.SameBut a s.heap s'.heap ∧ (a = X.env.locals ∨ X.env.cells.lookup x = some a)) → Q () s') (hf : X.fn x = true ∨ X.env.scope.names.lookup x = some .local := by first | exact .inl rfl | exact .inr rfl | assumption) : wpAny M A (storeName X.env x u) Q E s := by
  obtain ⟨m, hn, hl⟩ := id I.loc
  have hcls : (X.env.scope.kind == .class || (X.env.scope.kind == .module && X.env.locals != X.env.globals)) = false := by rw [I.ok.kind]; rfl
  have hiσ : i < σ.length := by rw [I.len]; exact (List.getElem?_eq_some_iff.mp hi).1
  have cne := I.cne
  have tracked : ∀ {a : Addr} {h' : Heap}, (∃ o, s.heap.get? a = some o ∧ H a = none) → Heap.SameBut a s.heap h' → HOk X.prog X.w H h' := fun {a h'} ha hs b ob e => by
    obtain ⟨_, _, hfree⟩ := ha
    refine (I.hok b ob e).stay (fun c w' hc q => (hs.2 c ?_).trans q) (fun _ q => q) fun _ _ q => q
    rintro rfl
    rcases hc with rfl | hc
    · rw [hfree] at e; cases e
    · rw [hfree] at hc; cases hc
  rcases hx with hk | hk
  · refine wpAny_storeName_local hk hn (fun h' hn' hs => ?_) hcls
    obtain ⟨oL, _, _, hoL, _⟩ := id hn
    refine h _ ⟨I.ok, I.os, I.bare, ⟨fun b o e n hb hx => ?_, fun b o e n hb hx => ?_, I.base.free, fun b o e hx => ?_, I.base.tups, I.base.frzs, I.base.tbls⟩, ⟨_, hn', fun j y v' e1 e2 e3 => ?_⟩, fun y c e => ?_, I.free, I.freeC, fun p hp => ?_, tracked ⟨oL, hoL, I.free⟩ hs, by simpa using I.len⟩ ⟨_, hs, .inl rfl⟩
    · exact (hs.2 b (Nat.ne_of_lt (Nat.lt_of_lt_of_le (Heap.lt_size e) I.ok.above))).trans (I.base.keep b o e n hb hx)
    · obtain ⟨sl, e1⟩ := I.base.slot b o e n hb hx
      exact ⟨sl, (hs.2 b (Nat.ne_of_lt (Nat.lt_of_lt_of_le (Heap.lt_size e) I.ok.above))).trans e1⟩
    · obtain ⟨o', e1⟩ := I.base.there b o e hx
      exact ⟨o', (hs.2 b (Nat.ne_of_lt (Nat.lt_of_lt_of_le (Heap.lt_size e) I.ok.above))).trans e1⟩
    · by_cases hj : j = i
      · subst hj
        rw [hi] at e1; cases e1
        rw [List.getElem?_set_self hiσ] at e2
        cases e2
        exact ⟨u, r, .inl ⟨hk, by simp⟩⟩
      · rw [List.getElem?_set_ne (Ne.symm hj)] at e2
        obtain ⟨u', r', q⟩ := hl j y v' e1 e2 e3
        refine ⟨u', r', ?_⟩
        rcases q with ⟨k, e⟩ | ⟨k, c, e, z⟩
        · refine .inl ⟨k, ?_⟩
          have : y ≠ x := fun e => hj (nodup_ix hN e1 (e ▸ hi))
          simp [this, e]
        · exact .inr ⟨k, c, e, z.sameBut hs (cne y c e)⟩
    · obtain ⟨w', z⟩ := I.cell y c e
      exact ⟨w', z.sameBut hs (cne y c e)⟩
    · obtain ⟨e, n, ne, nf, d⟩ := I.pin p hp
      exact ⟨(hs.2 p.1 ne).trans e, n, ne, nf, d⟩
  · have hfn : X.fn x = true := by
      rcases hf with z | z
      · exact z
      · rw [z] at hk; cases hk
    obtain ⟨c, hc⟩ := I.ok.has x (.inl hk)
    obtain ⟨w', z⟩ := I.cell x c hc
    refine wpAny_storeName_cell I.ok.kind hk hc z (fun h' hc' hs => ?_)
    obtain ⟨oc, hoc, hocd⟩ := id z
    refine h { s with heap := h' } ⟨I.ok, I.os, I.bare, ⟨fun b o e n hb hx => ?_, fun b o e n hb hx => ?_, I.base.free, fun b o e hx => ?_, I.base.tups, I.base.frzs, I.base.tbls⟩, ⟨m, hn.sameBut hs (Ne.symm (cne x c hc)), fun j y v' e1 e2 e3 => ?_⟩, fun y c' e => ?_, I.free, I.freeC, fun p hp => ?_, tracked ⟨oc, hoc, I.freeC x c hc⟩ hs, by simpa using I.len⟩ ⟨c, hs, .inr hc⟩
    · exact (hs.2 b (Nat.ne_of_lt (Nat.lt_of_lt_of_le (Heap.lt_size e) (I.ok.cab x c hfn hc)))).trans (I.base.keep b o e n hb hx)
    · obtain ⟨sl, e1⟩ := I.base.slot b o e n hb hx
      exact ⟨sl, (hs.2 b (Nat.ne_of_lt (Nat.lt_of_lt_of_le (Heap.lt_size e) (I.ok.cab x c hfn hc)))).trans e1⟩
    · obtain ⟨o', e1⟩ := I.base.there b o e hx
      exact ⟨o', (hs.2 b (Nat.ne_of_lt (Nat.lt_of_lt_of_le (Heap.lt_size e) (I.ok.cab x c hfn hc)))).trans e1⟩
    · by_cases hj : j = i
      · subst hj
        rw [hi] at e1; cases e1
        rw [List.getElem?_set_self hiσ] at e2
        cases e2
        exact ⟨u, r, .inr ⟨.inl hk, c, hc, hc'⟩⟩
      · rw [List.getElem?_set_ne (Ne.symm hj)] at e2
        obtain ⟨u', r', q⟩ := hl j y v' e1 e2 e3
        refine ⟨u', r', ?_⟩
        rcases q with q | ⟨k, c', e, z'⟩
        · exact .inl q
        · refine .inr ⟨k, c', e, z'.sameBut hs ?_⟩
          rintro rfl
          exact hj (nodup_ix hN e1 (I.ok.inj _ _ _ e hc ▸ hi))
    · by_cases hcc : c' = c
      · subst hcc; exact ⟨_, hc'⟩
      · obtain ⟨w2, z2⟩ := I.cell y c' e
        exact ⟨w2, z2.sameBut hs hcc⟩
    · obtain ⟨e, n, ne, nf, d⟩ := I.pin p hp
      refine ⟨(hs.2 p.1 ?_).trans e, n, ne, nf, d⟩
      intro q
      rw [q, hoc] at e
      have q' : oc = p.2 := Option.some.inj e
      exact d w' (by rw [← q']; exact hocd)
theorem store_ok {M : Model} {A : Around} {E : Value → Shared → Prop} {i : Nat} {x : Str} {v : V} {u : Value} {Q : Unit → Shared → Prop} (I : Inv X pins σ H s) (hN : X.N.Nodup) (hi : X.N[i]? = some x) (hx : Loc X.env.scope x) (r : RelV v u)
    (h : ∀ s', Inv X pins (σ.set i (some v)) H s' → Q () s') (hf : X.fn x = true ∨ X.env.scope.names.lookup x = some .local := by first | exact .inl rfl | exact .inr rfl | assumption) : wpAny M A (storeName X.env x u) Q E s :=
  store_ok2 I hN hi hx r (fun s' I' _ => h s' I') hf
theorem Inv.call' {s' : Shared} {ch : List Addr} (I : Inv X pins σ H s) (ho : s'.os = s.os) (u : Un (frs X.stack) ch H H' s.heap s'.heap) (hok : HOk X.prog X.w H' s'.heap) (hg : AllBare s'.gens)
    (hch : ∀ b ∈ ch, (b ∈ X.ex ∨ X.s₀.heap.objs.size ≤ b) ∧ b ≠ X.env.locals ∧ (∀ x c, X.env.cells.lookup x = some c → c ≠ b) ∧ ∀ p ∈ X.pn ++ pins, p.1 ≠ b) : Inv X pins σ H' s' := by
  obtain ⟨h', g', d', t', o'⟩ := s'
  have e : o' = s.os := ho
  subst e
  exact I.call (g' := g') (t' := t') (d' := d') u hok hg hch
end
abbrev XK := Value → Option Addr → Hp → Prop
abbrev St := List (Option V)
abbrev VK := V → Hp → Prop
abbrev TE := St → Hp → VK → Prop
abbrev TT := St → Hp → (Bool → Hp → Prop) → Prop
abbrev TA := St → Hp → (List V → Hp → Prop) → Prop
structure Ends where
  nx : St → Hp → Prop
  rt : VK
  bk : St → Hp → Prop := fun _ _ => False
  ct : St → Hp → Prop := fun _ _ => False
abbrev TS := Ends → St → Hp → Prop
noncomputable def EP (X : Cx) (pins : List (Addr × Obj)) (σ : St) (Q : VK) (u : Value) (s' : Shared) : Prop := ∃ v H', Inv X pins σ H' s' ∧ RelV v u ∧ Q v H'
noncomputable def TP (X : Cx) (pins : List (Addr × Obj)) (σ : St) (Q : Bool → Hp → Prop) (b : Bool) (s' : Shared) : Prop := ∃ H', Inv X pins σ H' s' ∧ Q b H'
noncomputable def AP (X : Cx) (pins : List (Addr × Obj)) (σ : St) (Q : List V → Hp → Prop) (us : List Value) (s' : Shared) : Prop := ∃ vs H', Inv X pins σ H' s' ∧ Vals vs us ∧ Q vs H'
noncomputable def SP (X : Cx) (pins : List (Addr × Obj)) (D : Ends) (f : Flow) (s' : Shared) : Prop :=
  match f with
  | .next => ∃ σ' H', Inv X pins σ' H' s' ∧ D.nx σ' H'
  | .brk => ∃ σ' H', Inv X pins σ' H' s' ∧ D.bk σ' H'
  | .cont => ∃ σ' H', Inv X pins σ' H' s' ∧ D.ct σ' H'
  | .ret u => ∃ v σ' H', Inv X pins σ' H' s' ∧ RelV v u ∧ D.rt v H'
noncomputable def PE (X : Cx) (e : Expr) (t : TE) : Prop :=
  ∀ (pins : List (Addr × Obj)) (s : Shared) (σ : St) (H : Hp) (Q : VK), Inv X pins σ H s → t σ H Q → wpAny (model X.prog X.w) X.A (eval e X.env) (EP X pins σ Q) X.xe s
noncomputable def PT (X : Cx) (e : Expr) (t : TT) : Prop :=
  ∀ (pins : List (Addr × Obj)) (s : Shared) (σ : St) (H : Hp) (Q : Bool → Hp → Prop), Inv X pins σ H s → t σ H Q → wpAny (model X.prog X.w) X.A (isTrue e X.env (eval e X.env)) (TP X pins σ Q) X.xe s
noncomputable def PW (X : Cx) (e : Expr) (t : TT) : Prop :=
  ∀ (whole : Sem Value) (pins : List (Addr × Obj)) (s : Shared) (σ : St) (H : Hp) (Q : Bool → Hp → Prop), Inv X pins σ H s → t σ H Q → wpAny (model X.prog X.w) X.A (isTrue e X.env whole) (TP X pins σ Q) X.xe s
theorem PW.pt {X : Cx} {e : Expr} {t : TT} (h : PW X e t) : PT X e t := h _
noncomputable def PA (X : Cx) (es : List Expr) (t : TA) : Prop :=
  ∀ (pos : Pos) (pins : List (Addr × Obj)) (s : Shared) (σ : St) (H : Hp) (Q : List V → Hp → Prop), Inv X pins σ H s → t σ H Q → wpAny (model X.prog X.w) X.A (spliced (backTo pos (starEach es X.env))) (AP X pins σ Q) X.xe s
noncomputable def PS (X : Cx) (st : Stmt) (t : TS) : Prop :=
  ∀ (pins : List (Addr × Obj)) (s : Shared) (σ : St) (H : Hp) (D : Ends), Inv X pins σ H s → t D σ H → wpAny (model X.prog X.w) X.A (exec st X.env) (SP X pins D) X.xe s
noncomputable def PSs (X : Cx) (st : List Stmt) (t : TS) : Prop :=
  ∀ (pins : List (Addr × Obj)) (s : Shared) (σ : St) (H : Hp) (D : Ends), Inv X pins σ H s → t D σ H → wpAny (model X.prog X.w) X.A (execs st X.env) (SP X pins D) X.xe s
theorem thn {α : Type} {t : Sem α} {Q Q' : α → Shared → Prop} {M : Model} {A : Around} {E : Value → Shared → Prop} {s : Shared} (h : wpAny M A t Q E s) (hQ : ∀ a s, Q a s → Q' a s) : wpAny M A t Q' E s := wpAny_mono h hQ fun _ _ x => x
end L2
namespace L2
open PySem PySem.Spec PyProof.Rows
section
variable {X : Cx}
noncomputable def tVar (i : Nat) : TE := fun σ H Q => ∃ v, σ[i]? = some (some v) ∧ Q v H
noncomputable def tC (v : V) : TE := fun _ H Q => Q v H
theorem pe_var {i : Nat} {x : Str} {pos : Pos} (hN : X.N[i]? = some x) (hv : Vis X.env.scope x) (hd : (x == ("__debug__" : Str)) = false := by decide) (hcd : (x == ("__classdict__" : Str)) = false := by decide) : PE X (.Name x pos) (tVar i) := by
  intro pins s σ H Q I h
  obtain ⟨v, e, h⟩ := h
  obtain ⟨m, hn, hl⟩ := I.loc
  obtain ⟨u, r, l⟩ := hl i x v hN e hv
  have fin : EP X pins σ Q u s := ⟨v, H, I, r, h⟩
  rcases l with ⟨hk, hm⟩ | ⟨hk, c, hc, hcell⟩
  · exact wpAny_Name (wpAny_loadName_local I.ok.kind hk hn hm fin) hd
  · rcases hk with hk | hk
    · exact wpAny_Name (wpAny_loadName_cell I.ok.kind hk hc hcell fin) hd
    · exact wpAny_Name (wpAny_loadName_free I.ok.kind hk hc hcell fin hcd) hd
theorem pe_int {i j pos} : PE X (.Constant (.int i) j pos) (tC (.int i)) := fun _ _ _ H _ I h => wpAny_Constant_int ⟨.int i, H, I.tok _, ⟨_, rfl⟩, h⟩
theorem pe_bl {b j pos} : PE X (.Constant (.bool b) j pos) (tC (.bl b)) := fun _ _ _ H _ I h => Constant_bool ⟨.bl b, H, I, rfl, h⟩
theorem pe_str {x j pos} : PE X (.Constant (.str x) j pos) (tC (.str x)) := fun _ _ _ H _ I h => Calls.Constant_str ⟨.str x, H, I.tok _, ⟨_, rfl⟩, h⟩
noncomputable def Gl (X : Cx) (x : Str) : Prop := X.env.kindOf x = some .globalImplicit
theorem ld_glob {E : Value → Shared → Prop} {pins : List (Addr × Obj)} {s : Shared} {σ : St} {H : Hp} {x : Str} {u : Value} {pos : Pos} {Q : Value → Shared → Prop} (I : Inv X pins σ H s) (hg : Gl X x) (hm : X.mg x = some u) (h : Q u s)
    (hd : (x == ("__debug__" : Str)) = false := by decide) : wpAny (model X.prog X.w) X.A (eval (.Name x pos) X.env) Q E s :=
  Calls.Name_function_global I.ok.kind hg (Calls.loadGlobal_global (by rw [I.ok.glob]; exact I.mod.glob.keeps I.bk) hm h) hd
theorem ld_blt {E : Value → Shared → Prop} {pins : List (Addr × Obj)} {s : Shared} {σ : St} {H : Hp} {x : Str} {u : Value} {pos : Pos} {Q : Value → Shared → Prop} (I : Inv X pins σ H s) (hg : Gl X x) (hm : X.mg x = none) (hv : bootBuiltins x = some u) (h : Q u s)
    (hn : x ≠ "__name__" := by decide) (hd : (x == ("__debug__" : Str)) = false := by decide) : wpAny (model X.prog X.w) X.A (eval (.Name x pos) X.env) Q E s := by
  obtain ⟨mb, h1, h2⟩ := I.mod.blt
  exact Calls.Name_function_global I.ok.kind hg (Calls.loadGlobal_builtin (by rw [I.ok.glob]; exact I.mod.glob.keeps I.bk) hm (by rw [I.ok.blt]; exact h1.keeps I.bk) ((h2 x hn).trans hv) h) hd
theorem pe_glob {x : Str} {v : V} {u : Value} {pos : Pos} (hg : Gl X x) (hm : X.mg x = some u) (r : RelV v u) (hd : (x == ("__debug__" : Str)) = false := by decide) : PE X (.Name x pos) (tC v) :=
  fun _ _ _ H _ I h => ld_glob I hg hm ⟨v, H, I, r, h⟩ hd
noncomputable def t2I (ta tb : TE) (k : Int → Int → Hp → Prop) : St → Hp → Prop := fun σ H => ta σ H fun x H1 => tb σ H1 fun y H2 => ∃ i j, x = .int i ∧ y = .int j ∧ k i j H2
variable {a b : Expr} {ta tb : TE} {pos : Pos}
noncomputable def tCmp (p : Int → Int → Bool) (ta tb : TE) : TE := fun σ H Q => t2I ta tb (fun i j H2 => Q (.bl (p i j)) H2) σ H
abbrev tLt : TE → TE → TE := tCmp fun i j => decide (i < j)
abbrev tLe : TE → TE → TE := tCmp fun i j => decide (i ≤ j)
abbrev tGt : TE → TE → TE := tCmp fun i j => decide (j < i)
abbrev tGe : TE → TE → TE := tCmp fun i j => decide (j ≤ i)
abbrev tEqI : TE → TE → TE := tCmp fun i j => decide (i = j)
abbrev tNeI : TE → TE → TE := tCmp fun i j => !decide (i = j)
noncomputable def tB (t : TE) : TT := fun σ H Q => t σ H fun x H1 => ∃ c, x = .bl c ∧ Q c H1
variable {tA tB' : TT} {rest : List Expr}
end
end L2
namespace L2
open PySem PySem.Spec PyProof.Rows
noncomputable def SqL (K : PySem.W.Frag) (H : Hp) (a : Addr) (xs : List V) : Prop :=
  Rd H a (.lst xs) ∨
    ∃ (o : Obj) (its : Array Value) (n : Nat), K.lookup a = some o ∧ o.cls = .type "list" ∧ o.dict = none ∧ o.data = .seq its n ∧ its.size ≤ sizeLine ∧ Vals xs its.toList
noncomputable def SqT (K : PySem.W.Frag) (H : Hp) (a : Addr) (xs : List V) : Prop :=
  Rd H a (.tup xs) ∨
    ∃ (o : Obj) (its : Array Value) (n : Nat), K.lookup a = some o ∧ o.cls = .type "tuple" ∧ o.data = .seq its n ∧ its.size ≤ sizeLine ∧ Vals xs its.toList
noncomputable def absV : Value → Option V
  | .none => some .non
  | .bool b => some (.bl b)
  | .int i _ => some (.int i)
  | .str x _ => some (.str x)
  | .bytes b _ => some (.byt b)
  | .float b _ => some (.flt b)
  | .ref a => some (.ref a)
  | .type n => some (.ty n)
  | _ => none
theorem RelV.abs {x : V} {u : Value} (r : RelV x u) : absV u = some x := by
  cases x with
  | non => cases r; rfl
  | bl _ => cases r; rfl
  | int _ => obtain ⟨t, rfl⟩ := r; rfl
  | str _ => obtain ⟨t, rfl⟩ := r; rfl
  | byt _ => obtain ⟨t, rfl⟩ := r; rfl
  | flt _ => obtain ⟨t, rfl⟩ := r; rfl
  | ref _ => cases r; rfl
  | ty _ => cases r; rfl
theorem RelV.inj {x y : V} {u : Value} (r : RelV x u) (q : RelV y u) : x = y := Option.some.inj (r.abs.symm.trans q.abs)
theorem Vals.inj : ∀ {xs ys : List V} {us : List Value}, Vals xs us → Vals ys us → xs = ys
  | _, _, _, .nil, .nil => rfl
  | _, _, _, .cons r t, .cons r' t' => by rw [r.inj r', Vals.inj t t']
section
variable {X : Cx} {pins : List (Addr × Obj)} {σ : St} {H : Hp} {s : Shared} {a : Addr} {xs ys : List V}
theorem SqL.of {K : PySem.W.Frag} (h : H a = some (.lst xs)) : SqL K H a xs := .inl (.inl h)
theorem SqT.of {K : PySem.W.Frag} (h : H a = some (.tup xs)) : SqT K H a xs := .inl (.inl h)
theorem Inv.list (I : Inv X pins σ H s) (h : SqL X.K H a xs) : ∃ its : List Value, Vals xs its ∧ PlainL s.heap a its.toArray ∧ xs.length ≤ sizeLine := by
  rcases h with h | ⟨o, its, n, hk, hc, hd, hs, hz, r⟩
  · obtain ⟨z, its, n, r, e⟩ := h.ok I.hok
    exact ⟨its, r, ⟨_, n, e, rfl, rfl, rfl⟩, z⟩
  · refine ⟨its.toList, r, ⟨o, n, I.kIn a o hk, hc, hd, by simpa using hs⟩, ?_⟩
    have e := r.length
    simp only [Array.length_toList] at e
    omega
theorem Inv.tuple (I : Inv X pins σ H s) (h : SqT X.K H a xs) : ∃ its : List Value, Vals xs its ∧ IsTup s.heap a its.toArray ∧ xs.length ≤ sizeLine := by
  rcases h with h | ⟨o, its, n, hk, hc, hs, hz, r⟩
  · obtain ⟨z, its, r, p⟩ := h.ok I.hok
    exact ⟨its, r, p, z⟩
  · refine ⟨its.toList, r, ⟨o, I.kIn a o hk, hc, n, by simpa using hs⟩, ?_⟩
    have e := r.length
    simp only [Array.length_toList] at e
    omega
theorem Inv.list_inj (I : Inv X pins σ H s) (h : SqL X.K H a xs) (h' : SqL X.K H a ys) : xs = ys := by
  obtain ⟨its, r, ⟨o, n, e, _, _, d⟩, _⟩ := I.list h
  obtain ⟨its', r', ⟨o', n', e', _, _, d'⟩, _⟩ := I.list h'
  rw [e] at e'; cases e'
  rw [d] at d'
  injection d' with d1 _
  have : its = its' := by simpa using congrArg Array.toList d1
  subst this
  exact r.inj r'
theorem Inv.tuple_inj (I : Inv X pins σ H s) (h : SqT X.K H a xs) (h' : SqT X.K H a ys) : xs = ys := by
  obtain ⟨its, r, ⟨o, e, _, n, d⟩, _⟩ := I.tuple h
  obtain ⟨its', r', ⟨o', e', _, n', d'⟩, _⟩ := I.tuple h'
  rw [e] at e'; cases e'
  rw [d] at d'
  injection d' with d1 _
  have : its = its' := by simpa using congrArg Array.toList d1
  subst this
  exact r.inj r'
end
abbrev Cx.wish (X : Cx) (E : Value → Shared → Prop) : Cx := { X with xe := E }
abbrev Cx.nox (X : Cx) : Cx := X.wish fun _ _ => False
theorem Cx.Ok.wish {X : Cx} (ok : X.Ok) (E : Value → Shared → Prop) : (X.wish E).Ok :=
  ⟨ok.mod, ok.kind, ok.glob, ok.blt, ok.above, ok.inj, ok.has, ok.cab, ok.hd, ok.frames, ok.stk, ok.exf, ok.bs, ok.bsz, ok.noex, ok.exfs, ok.funs, ok.frf⟩
theorem Cx.Ok.unwish {X : Cx} {E : Value → Shared → Prop} (ok : (X.wish E).Ok) : X.Ok :=
  ⟨ok.mod, ok.kind, ok.glob, ok.blt, ok.above, ok.inj, ok.has, ok.cab, ok.hd, ok.frames, ok.stk, ok.exf, ok.bs, ok.bsz, ok.noex, ok.exfs, ok.funs, ok.frf⟩
section
variable {X : Cx} {pins : List (Addr × Obj)} {σ : St} {H : Hp} {s : Shared} {E : Value → Shared → Prop}
theorem Inv.wish (I : Inv X pins σ H s) (E : Value → Shared → Prop) : Inv (X.wish E) pins σ H s := ⟨I.ok.wish E, I.os, I.bare, I.base, I.loc, I.cell, I.free, I.freeC, I.pin, I.hok, I.len⟩
theorem Inv.unwish (I : Inv (X.wish E) pins σ H s) : Inv X pins σ H s := ⟨I.ok.unwish, I.os, I.bare, I.base, I.loc, I.cell, I.free, I.freeC, I.pin, I.hok, I.len⟩
theorem SP.unwish {D : Ends} {f : Flow} {s' : Shared} (h : SP (X.wish E) pins D f s') : SP X pins D f s' := by
  cases f with
  | next => obtain ⟨σ', H', I, q⟩ := h; exact ⟨σ', H', I.unwish, q⟩
  | brk => obtain ⟨σ', H', I, q⟩ := h; exact ⟨σ', H', I.unwish, q⟩
  | cont => obtain ⟨σ', H', I, q⟩ := h; exact ⟨σ', H', I.unwish, q⟩
  | ret u => obtain ⟨v, σ', H', I, r, q⟩ := h; exact ⟨v, σ', H', I.unwish, r, q⟩
theorem PE.nox {e : Expr} {t : TE} (h : PE X.nox e t) : PE X e t := fun pins s σ H Q I hw =>
  wpAny_mono (h pins s σ H Q (I.wish _) hw) (fun _ _ ⟨v, H', I', r, q⟩ => ⟨v, H', I'.unwish, r, q⟩) fun _ _ z => False.elim z
theorem PT.nox {e : Expr} {t : TT} (h : PT X.nox e t) : PT X e t := fun pins s σ H Q I hw =>
  wpAny_mono (h pins s σ H Q (I.wish _) hw) (fun _ _ ⟨H', I', q⟩ => ⟨H', I'.unwish, q⟩) fun _ _ z => False.elim z
theorem PSs.nox {st : List Stmt} {t : TS} (h : PSs X.nox st t) : PSs X st t := fun pins s σ H D I hw =>
  wpAny_mono (h pins s σ H D (I.wish _) hw) (fun _ _ q => q.unwish) fun _ _ z => False.elim z
end
section
variable {X : Cx} {st : Stmt} {rest : List Stmt} {t u : TS} {e : Expr} {te : TE} {pos : Pos}
end
abbrev TG := V → St → Hp → (St → Hp → Prop) → Prop
abbrev TGs := List V → St → Hp → (St → Hp → Prop) → Prop
noncomputable def PG (X : Cx) (target : Expr) (t : TG) : Prop :=
  ∀ (pins : List (Addr × Obj)) (s : Shared) (σ : St) (H : Hp) (v : V) (u : Value) (Q : St → Hp → Prop), Inv X pins σ H s → RelV v u → t v σ H Q →
    wpAny (model X.prog X.w) X.A (assign target X.env u) (fun _ s' => ∃ σ' H', Inv X pins σ' H' s' ∧ Q σ' H') X.xe s
noncomputable def PGs (X : Cx) (ts : List Expr) (t : TGs) : Prop :=
  ∀ (pins : List (Addr × Obj)) (s : Shared) (σ : St) (H : Hp) (vs : List V) (us : List Value) (Q : St → Hp → Prop), Inv X pins σ H s → Vals vs us → t vs σ H Q →
    wpAny (model X.prog X.w) X.A (assignInOrder ((assignEach ts X.env).map (·.2)) us) (fun _ s' => ∃ σ' H', Inv X pins σ' H' s' ∧ Q σ' H') X.xe s
abbrev TSet := V → V → V → Hp → (Hp → Prop) → Prop
noncomputable def PSet (X : Cx) (t : TSet) : Prop :=
  ∀ (pins : List (Addr × Obj)) (s : Shared) (σ : St) (H : Hp) (o i v : V) (ov iv u : Value) (Q : Hp → Prop), Inv X pins σ H s → RelV o ov → RelV i iv → RelV v u → t o i v H Q →
    wpAny (model X.prog X.w) X.A (setItem ov iv u) (fun _ s' => ∃ H', Inv X pins σ H' s' ∧ Q H') X.xe s
abbrev TIp := V → V → Hp → VK → Prop
section
variable {X : Cx} {pos : Pos}
noncomputable def gName (i : Nat) : TG := fun v σ H Q => Q (σ.set i (some v)) H
theorem pg_name {i : Nat} {x : Str} (hN : X.N.Nodup) (hi : X.N[i]? = some x) (hx : Loc X.env.scope x) (hf : X.fn x = true ∨ X.env.scope.names.lookup x = some .local := by first | exact .inl rfl | exact .inr rfl | assumption) : PG X (.Name x pos) (gName i) := by
  intro pins s σ H v u Q I r h
  exact wpAny_assign_Name (store_ok I hN hi hx r (fun s' I' => ⟨_, H, I', h⟩) hf)
noncomputable def gNil : TGs := fun vs σ H Q => vs = [] ∧ Q σ H
noncomputable def gCons (t : TG) (u : TGs) : TGs := fun vs σ H Q => ∃ v r, vs = v :: r ∧ t v σ H fun σ' H' => u r σ' H' Q
theorem pgs_nil : PGs X [] gNil := by
  intro pins s σ H vs us Q I r h
  obtain ⟨e, h⟩ := h
  subst e
  cases r
  exact assignInOrder_nil ⟨σ, H, I, h⟩
theorem pgs_cons {e : Expr} {es : List Expr} {t : TG} {u : TGs} (h1 : PG X e t) (h2 : PGs X es u)
    (hs : (assignEach (e :: es) X.env).map (·.2) = assign e X.env :: (assignEach es X.env).map (·.2) := by rfl) : PGs X (e :: es) (gCons t u) := by
  intro pins s σ H vs us Q I r h
  obtain ⟨v, vr, e1, h⟩ := h
  subst e1
  cases r with
  | cons r rr =>
    rw [hs]
    refine assignInOrder_cons (thn (h1 pins s σ H _ _ _ I r h) fun _ s1 ⟨σ1, H1, I1, q1⟩ => ?_)
    exact h2 pins s1 σ1 H1 _ _ Q I1 rr q1
noncomputable def gTup (K : PySem.W.Frag) (n : Nat) (t : TGs) : TG := fun v σ H Q => ∃ a xs, v = .ref a ∧ SqT K H a xs ∧ xs.length = n ∧ t xs σ H Q
theorem pg_tup {es : List Expr} {k : Nat} {t : TGs} {n : Nat} (hc : X.calm = true) (h : PGs X es t)
    (hn : (assignEach es X.env).length = n := by rfl) (hst : (assignEach es X.env).findIdx? (·.1) = none := by rfl) : PG X (.Tuple es k pos) (gTup X.K n t) := by
  intro pins s σ H v u Q I r hw
  obtain ⟨a, xs, e1, hq, hl, hw⟩ := hw
  subst e1
  cases r
  obtain ⟨its, rv, ht, hz⟩ := I.tuple hq
  refine assign_Tuple_tuple (I.ok.hd hc) ht (by simp [hn, ← hl, rv.length]) hst fun h' hx => ?_
  have I1 : Inv X pins σ H { s with heap := h' } := I.kept (t' := s.toks) fun b o e => hx b o (Nat.ne_of_lt (Heap.lt_size e)) e
  exact h pins _ σ H xs _ Q I1 (by simpa using rv) hw
end
section
variable {X : Cx} {pos : Pos}
noncomputable def tWhile (c : TT) (tb : TS) : TS := fun D σ H => ∃ W : Nat → St → Hp → Prop, (∃ m, W m σ H) ∧ ∀ m σ H, W m σ H →
  c σ H fun b H1 => if b = true then ∃ N : St → Hp → Prop, (∀ σ' H', N σ' H' → ∃ m', m' < m ∧ W m' σ' H') ∧ tb { D with nx := N, ct := N, bk := D.nx } σ H1 else D.nx σ H1
theorem ps_while {c : Expr} {body : List Stmt} {tc : TT} {tb : TS} (hp : PassesOwn (model X.prog X.w) X.A X.env X.xe) (hc : PT X c tc) (hb : PSs X body tb) : PS X (.While c body [] pos) (tWhile tc tb) := by
  intro pins s σ H D I h
  obtain ⟨W, ⟨m0, w0⟩, turn⟩ := h
  refine wpAny_While (codeAny_whileLoop (fun n s' => ∃ σ' H', Inv X pins σ' H' s' ∧ W n σ' H') ?_ m0 ⟨σ, H, I, w0⟩)
  rintro n s1 ⟨σ1, H1, I1, w1⟩
  refine wpAny_passesOwn hp (thn (hc pins s1 σ1 H1 _ I1 (turn n σ1 H1 w1)) fun b s2 ⟨H2, I2, q2⟩ => ?_)
  cases b with
  | true =>
    obtain ⟨N, hN, q2⟩ := q2
    rw [if_pos rfl]
    refine wpAny_passesOwn hp (thn (hb pins s2 σ1 H2 _ I2 q2) fun f s3 q3 => ?_)
    cases f with
    | next =>
      obtain ⟨σ3, H3, I3, n3⟩ := q3
      obtain ⟨m', hm, w3⟩ := hN σ3 H3 n3
      exact ⟨m', hm, σ3, H3, I3, w3⟩
    | cont =>
      obtain ⟨σ3, H3, I3, n3⟩ := q3
      obtain ⟨m', hm, w3⟩ := hN σ3 H3 n3
      exact ⟨m', hm, σ3, H3, I3, w3⟩
    | brk => exact q3
    | ret v => exact q3
  | false =>
    rw [if_neg Bool.false_ne_true]
    exact wpAny_execs_nil ⟨σ1, H2, I2, q2⟩
end
structure It where
  go : Nat → Hp → Prop
  yld : Nat → Hp → V → Hp → Prop
  stop : Nat → Hp → Prop
noncomputable def FpOk (X : Cx) (pins : List (Addr × Obj)) (H : Hp) (b : Addr) : Prop :=
  H b = none ∧ b ≠ X.env.locals ∧ b ∉ X.fs ∧ (b ∈ X.ex ∨ X.s₀.heap.objs.size ≤ b) ∧ (∀ x c, X.env.cells.lookup x = some c → c ≠ b) ∧ ∀ p ∈ X.pn ++ pins, p.1 ≠ b
theorem Inv.fpOk {X : Cx} {pins : List (Addr × Obj)} {σ : St} {H H' : Hp} {s : Shared} {b : Addr} (I : Inv X pins σ H s) (hb : s.heap.objs.size ≤ b) (hn : H' b = none) : FpOk X pins H' b := by
  refine ⟨hn, Nat.ne_of_gt (Nat.lt_of_lt_of_le I.lt hb), I.nofs hb, .inr (Nat.le_trans I.sz hb), fun x c e z => ?_, fun p hp z => ?_⟩
  · obtain ⟨v, q⟩ := I.cell x c e
    exact absurd (Nat.lt_of_lt_of_le q.lt (by rw [z]; exact hb)) (Nat.lt_irrefl _)
  · exact absurd (Nat.lt_of_lt_of_le (Heap.lt_size (I.pin p hp).1) (by rw [z]; exact hb)) (Nat.lt_irrefl _)
structure Turn (P : Program) (w : World) (K : PySem.W.Frag) (tg : Expr) (J : It) (fp : List Addr) (it : Addr) (tn : Nat → Heap → Prop) : Prop where
  mem : it ∈ fp
  obj : ∀ i h, tn i h → ∀ b ∈ fp, ∃ o, h.get? b = some o ∧ ∀ v, o.data ≠ .cell v
  keep : ∀ i h h', tn i h → (∀ b ∈ fp, ∀ o, h.get? b = some o → h'.get? b = some o) → tn i h'
  item : ∀ (X : Cx), X.prog = P → X.w = w → X.K = K → X.calm = true → ∀ (i : Nat) (pins : List (Addr × Obj)) (s : Shared) (σ : St) (H : Hp) (E : Value → Shared → Prop), Inv X pins σ H s → (∀ b ∈ fp, FpOk X pins H b) → tn i s.heap → J.go i H →
    wpAny (model P w) X.A (pyNext (.ref it)) (fun r s1 => ∃ u, r = some u ∧
      wpAny (model P w) X.A (letOwnedTupleGo tg (.ref it) u) (fun _ s2 => ∃ x H', Inv X pins σ H' s2 ∧ RelV x u ∧ J.yld i H x H' ∧ tn (i + 1) s2.heap ∧ ∀ b ∈ fp, H' b = none) E s1) E s
  done : ∀ (X : Cx), X.prog = P → X.w = w → X.K = K → X.calm = true → ∀ (i : Nat) (pins : List (Addr × Obj)) (s : Shared) (σ : St) (H : Hp) (E : Value → Shared → Prop), Inv X pins σ H s → (∀ b ∈ fp, FpOk X pins H b) → tn i s.heap → J.stop i H →
    wpAny (model P w) X.A (pyNext (.ref it)) (fun r s1 => r = none ∧ Inv X pins σ H s1) E s
  self : ∀ (A : Around) (i : Nat) (s : Shared) (Q : Value → Shared → Prop) (E : Value → Shared → Prop), tn i s.heap → Q (.ref it) s → wpAny (model P w) A (pyIter (.ref it)) Q E s
abbrev TI := St → Hp → (It → Hp → Prop) → Prop
noncomputable def PIE (X : Cx) (pins : List (Addr × Obj)) (σ : St) (tg : Expr) (R : It → Hp → Prop) (itv : Value) (s2 : Shared) : Prop :=
  ∃ (it : Addr) (fp : List Addr) (tn : Nat → Heap → Prop) (J : It) (H' : Hp), itv = .ref it ∧ Inv X pins σ H' s2 ∧ Turn X.prog X.w X.K tg J fp it tn ∧ tn 0 s2.heap ∧ (∀ b ∈ fp, FpOk X pins H' b) ∧ R J H'
noncomputable def PI (X : Cx) (tg iter : Expr) (wi : TI) : Prop :=
  ∀ (pins : List (Addr × Obj)) (s : Shared) (σ : St) (H : Hp) (R : It → Hp → Prop), Inv X pins σ H s → wi σ H R →
    wpAny (model X.prog X.w) X.A (eval iter X.env) (fun v s1 => wpAny (model X.prog X.w) X.A (pyIter v) (PIE X pins σ tg R) X.xe s1) X.xe s
theorem go_of {M : Model} {A : Around} {E : Value → Shared → Prop} {s : Shared} {tg : Expr} {it : Addr} {u : Value} {o : Obj} {n : String} {vs : Array Value} {Q : Unit → Shared → Prop} (ho : s.heap.get? it = some o) (hc : o.cls = .type n) (hd : o.data = .fields vs)
    (hn : ["enumerate", "zip", "dict_itemiterator", "dict_reverseitemiterator", "odict_iterator", "itertools.zip_longest", "itertools.pairwise"].contains n = false) (hQ : Q () s) : wpAny M A (letOwnedTupleGo tg (.ref it) u) Q E s := by
  unfold letOwnedTupleGo
  cases tg <;> first
    | exact wpAny_pure hQ
    | (cases u <;> first
        | exact wpAny_pure hQ
        | (refine wpAny_bind (wpAny_load ho ?_)
           rw [hc, hd]
           show wpAny M A (if (["enumerate", "zip", "dict_itemiterator", "dict_reverseitemiterator", "odict_iterator", "itertools.zip_longest", "itertools.pairwise"].contains n && vs[0]? == some (rawInt _)) = true then _ else _) Q E s
           rw [if_neg (by intro h; rw [hn, Bool.false_and] at h; cases h)]
           exact wpAny_pure hQ))
noncomputable def Itl (K : PySem.W.Frag) (a : Addr) : It :=
  ⟨fun i H => ∃ xs x, SqL K H a xs ∧ xs[i]? = some x, fun i H x H' => H' = H ∧ ∀ xs, SqL K H a xs → xs[i]? = some x, fun i H => ∃ xs, SqL K H a xs ∧ xs.length ≤ i⟩
noncomputable def Itt (K : PySem.W.Frag) (a : Addr) : It :=
  ⟨fun i H => ∃ xs x, SqT K H a xs ∧ xs[i]? = some x, fun i H x H' => H' = H ∧ ∀ xs, SqT K H a xs → xs[i]? = some x, fun i H => ∃ xs, SqT K H a xs ∧ xs.length ≤ i⟩
noncomputable def Itr (lo : Int) (n : Nat) : It := ⟨fun i _ => i < n, fun i H x H' => H' = H ∧ x = .int (lo + i), fun i _ => n ≤ i⟩
theorem turn_list {P : Program} {w : World} {K : PySem.W.Frag} {tg : Expr} (a it : Addr) : Turn P w K tg (Itl K a) [it] it (fun i h => h.IsListIter it a i) where
  mem := by simp
  obj := fun i h st b hb => by
    have e : b = it := by simpa using hb
    subst e
    obtain ⟨o, e, c, d⟩ := st
    exact ⟨o, e, fun v z => by rw [d] at z; cases z⟩
  keep := fun i h h' st k => st.at fun o e => k it (by simp) o e
  item := by
    intro X hP hw hK hc i pins s σ H E I hf st hg
    subst hP hw hK
    obtain ⟨xs, x, hq, hx⟩ := hg
    obtain ⟨its, rv, p, hz⟩ := I.list hq
    obtain ⟨u, hu, ru⟩ := rv.get hx
    obtain ⟨f0, f1, f2, f3, f4, f5⟩ := hf it (by simp)
    refine wpAny_pyNext_list_item st p.isList (x := u) (by simpa using hu) fun h' st' sb => ?_
    have I1 : Inv X pins σ H { s with heap := h' } := I.turned (t' := s.toks) (fun b o hb e => (sb.2 b hb).trans e) f0 f1 f3 f4 f5
    obtain ⟨o, e, c, d⟩ := id st'
    exact ⟨u, rfl, go_of (s := { s with heap := h' }) e c d (by decide) ⟨x, H, I1, ru, ⟨rfl, fun ys hy => by rw [I.list_inj hy hq]; exact hx⟩, st', fun b hb => (hf b hb).1⟩⟩
  done := by
    intro X hP hw hK hc i pins s σ H E I hf st hg
    subst hP hw hK
    obtain ⟨xs, hq, hx⟩ := hg
    obtain ⟨its, rv, p, hz⟩ := I.list hq
    obtain ⟨f0, f1, f2, f3, f4, f5⟩ := hf it (by simp)
    have hl := rv.length
    exact wpAny_pyNext_list_end (I.ok.hd hc) st p.isList (by simp; omega) fun h' eb => ⟨rfl, I.turned (t' := s.toks) (fun b o hb e => eb b o hb e) f0 f1 f3 f4 f5⟩
  self := fun _ _ _ _ _ st h => wpAny_pyIter_listiter st h
theorem turn_tuple {P : Program} {w : World} {K : PySem.W.Frag} {tg : Expr} (a it : Addr) : Turn P w K tg (Itt K a) [it] it (fun i h => h.IsTupleIter it a i) where
  mem := by simp
  obj := fun i h st b hb => by
    have e : b = it := by simpa using hb
    subst e
    obtain ⟨o, e, c, d⟩ := st
    exact ⟨o, e, fun v z => by rw [d] at z; cases z⟩
  keep := fun i h h' st k => st.at fun o e => k it (by simp) o e
  item := by
    intro X hP hw hK hc i pins s σ H E I hf st hg
    subst hP hw hK
    obtain ⟨xs, x, hq, hx⟩ := hg
    obtain ⟨its, rv, p, hz⟩ := I.tuple hq
    obtain ⟨u, hu, ru⟩ := rv.get hx
    obtain ⟨f0, f1, f2, f3, f4, f5⟩ := hf it (by simp)
    refine wpAny_pyNext_tuple_item st (show s.heap.IsTuple a its.toArray from p) (x := u) (by simpa using hu) fun h' st' sb => ?_
    have I1 : Inv X pins σ H { s with heap := h' } := I.turned (t' := s.toks) (fun b o hb e => (sb.2 b hb).trans e) f0 f1 f3 f4 f5
    obtain ⟨o, e, c, d⟩ := id st'
    exact ⟨u, rfl, go_of (s := { s with heap := h' }) e c d (by decide) ⟨x, H, I1, ru, ⟨rfl, fun ys hy => by rw [I.tuple_inj hy hq]; exact hx⟩, st', fun b hb => (hf b hb).1⟩⟩
  done := by
    intro X hP hw hK hc i pins s σ H E I hf st hg
    subst hP hw hK
    obtain ⟨xs, hq, hx⟩ := hg
    obtain ⟨its, rv, p, hz⟩ := I.tuple hq
    obtain ⟨f0, f1, f2, f3, f4, f5⟩ := hf it (by simp)
    have hl := rv.length
    exact wpAny_pyNext_tuple_end (I.ok.hd hc) st (show s.heap.IsTuple a its.toArray from p) (by simp; omega) fun h' eb => ⟨rfl, I.turned (t' := s.toks) (fun b o hb e => eb b o hb e) f0 f1 f3 f4 f5⟩
  self := fun _ _ _ _ _ st h => wpAny_pyIter_tupleiter st h
theorem turn_range {P : Program} {w : World} {K : PySem.W.Frag} {tg : Expr} (it : Addr) (lo : Int) (n : Nat) : Turn P w K tg (Itr lo n) [it] it (fun i h => IsRangeIter h it (lo + (i : Nat) * 1) ((n : Int) - (i : Nat)) 1) where
  mem := by simp
  obj := fun i h st b hb => by
    have e : b = it := by simpa using hb
    subst e
    exact ⟨_, st, fun v z => by
      have z' : Data.fields _ = Data.cell v := z
      cases z'⟩
  keep := fun i h h' st k => k it (by simp) _ st
  item := by
    intro X hP hw hK hc i pins s σ H E I hf st hg
    subst hP hw hK
    obtain ⟨f0, f1, f2, f3, f4, f5⟩ := hf it (by simp)
    have W := Walks.range (prog := X.prog) (w := X.w) (I.ok.hd hc) it lo 1 n
    refine W.item i s _ _ hg st fun v h' tk hv st' kk => ?_
    obtain ⟨t, rfl⟩ := hv
    have I1 : Inv X pins σ H { s with heap := h', toks := tk } := I.turned (fun b o hb e => kk b o (by simpa using hb) e) f0 f1 f3 f4 f5
    refine ⟨_, rfl, go_of (s := { s with heap := h', toks := tk }) (n := "range_iterator") st' rfl rfl (by decide) ⟨.int (lo + i), H, I1, ⟨t, ?_⟩, ⟨rfl, rfl⟩, st', fun b hb => (hf b hb).1⟩⟩
    rw [Int.mul_one]
  done := by
    intro X hP hw hK hc i pins s σ H E I hf st hg
    subst hP hw hK
    obtain ⟨f0, f1, f2, f3, f4, f5⟩ := hf it (by simp)
    exact wpAny_pyNext_range_end (I.ok.hd hc) st (by have : n ≤ i := hg; omega) fun h' eb => ⟨rfl, I.turned (t' := s.toks) (fun b o hb e => eb b o hb e) f0 f1 f3 f4 f5⟩
  self := fun _ _ _ _ _ st h => wpAny_pyIter_rangeiter st h
end L2
namespace L2
open PySem PySem.Spec PyProof.Rows
section
variable {X : Cx} {tg : Expr}
theorem range_it {pins : List (Addr × Obj)} {σ : St} {H : Hp} {s : Shared} {R : It → Hp → Prop} {E : Value → Shared → Prop} {lo hi : Int} {t u v : Tok} {tk : Nat} (I : Inv X pins σ H s) (h1 : -(2 ^ 62) ≤ lo) (h2 : lo < 2 ^ 62) (h3 : -(2 ^ 62) ≤ hi) (h4 : hi < 2 ^ 62)
    (q : R (Itr lo (hi - lo).toNat) H) : wpAny (model X.prog X.w) X.A (pyIter (.ref s.heap.objs.size)) (PIE X pins σ tg R) E { s with heap := s.heap.push { cls := .type "range", data := .fields #[.int lo t, .int hi u, .int 1 v] }, toks := tk } := by
  refine wpAny_pyIter_range (IsRange.new ..) (small_one h1 h2 h3 h4) ?_
  have I1 : Inv X pins σ H { s with heap := s.heap.push { cls := .type "range", data := .fields #[.int lo t, .int hi u, .int 1 v] }, toks := tk } := I.kept fun b o e => Heap.get?_push_of_some _ e
  refine ⟨(s.heap.push { cls := .type "range", data := .fields #[.int lo t, .int hi u, .int 1 v] }).objs.size, [(s.heap.push { cls := .type "range", data := .fields #[.int lo t, .int hi u, .int 1 v] }).objs.size], _, _, H, rfl,
    I1.kept (t' := tk) fun b o e => Heap.get?_push_of_some _ e, turn_range _ lo (hi - lo).toNat, ?_, fun b hb => ?_, q⟩
  · have e1 : lo + ((0 : Nat) : Int) * 1 = lo := by simp
    have e2 : (((hi - lo).toNat : Nat) : Int) - ((0 : Nat) : Int) = Builtin.Range.rangeSize lo hi 1 := by rw [rangeSize_one]; split <;> omega
    show IsRangeIter _ _ (lo + ((0 : Nat) : Int) * 1) ((((hi - lo).toNat : Nat) : Int) - ((0 : Nat) : Int)) 1
    rw [e1, e2]
    exact Heap.get?_push_size _ rfl
  · have e : b = (s.heap.push { cls := .type "range", data := .fields #[.int lo t, .int hi u, .int 1 v] }).objs.size := by simpa using hb
    subst e
    exact I1.fpOk (Nat.le_refl _) (I1.hok.fresh (Nat.le_refl _))
noncomputable def iRng1 (ta : TA) : TI := fun σ H R => ta σ H fun vs H1 => ∃ j : Int, vs = [.int j] ∧ -(2 ^ 62) ≤ j ∧ j < 2 ^ 62 ∧ R (Itr 0 j.toNat) H1
theorem pi_range1 {a : Expr} {ta : TA} {p pos : Pos} (hg : Gl X "range") (hm : X.mg "range" = none) (ha : PA X [a] ta) (hs : starEach [a] X.env = [(false, eval a X.env)] := by rfl) : PI X tg (.Call (.Name "range" p) [a] [] pos) (iRng1 ta) := by
  intro pins s σ H R I h
  refine Call_ (ld_blt I hg hm boot_range (PyProof.Rows.callWith_type1 (thn (ha pos pins s σ H _ I h) fun us s1 ⟨vs, H1, I1, r1, q1⟩ => ?_) hs rfl))
  obtain ⟨j, e, q1, q2, q⟩ := q1
  subst e
  cases r1 with
  | cons r rr =>
    cases rr
    obtain ⟨t, rfl⟩ := r
    exact call_range_1 (range_it I1 (by omega) (by omega) q1 q2 (by simpa using q))
noncomputable def tFor (wi : TI) (g : TG) (tb : TS) : TS := fun D σ H => wi σ H fun J H1 => ∃ W : Nat → Nat → St → Hp → Prop, (∃ m, W 0 m σ H1) ∧ ∀ i m σ H, W i m σ H →
  (J.stop i H ∧ D.nx σ H) ∨ (J.go i H ∧ ∃ N : St → Hp → Prop, (∀ σ' H', N σ' H' → ∃ m', m' < m ∧ W (i + 1) m' σ' H') ∧ ∀ x H', J.yld i H x H' → g x σ H' fun σ2 H2 => tb { D with nx := N, ct := N, bk := D.nx } σ2 H2)
noncomputable def pinsAt (fp : List Addr) (h : Heap) : List (Addr × Obj) := fp.filterMap fun b => (h.get? b).map fun o => (b, o)
theorem mem_pinsAt {fp : List Addr} {h : Heap} {b : Addr} {o : Obj} (hb : b ∈ fp) (e : h.get? b = some o) : (b, o) ∈ pinsAt fp h := List.mem_filterMap.mpr ⟨b, hb, by rw [e]; rfl⟩
theorem of_pinsAt {fp : List Addr} {h : Heap} {p : Addr × Obj} (hp : p ∈ pinsAt fp h) : p.1 ∈ fp ∧ h.get? p.1 = some p.2 := by
  obtain ⟨b, hb, e⟩ := List.mem_filterMap.mp hp
  cases q : h.get? b with
  | none => rw [q] at e; cases e
  | some o =>
    rw [q] at e
    have e' : (b, o) = p := Option.some.inj e
    subst e'
    exact ⟨hb, q⟩
theorem Inv.pinned {pins : List (Addr × Obj)} {σ : St} {H : Hp} {s : Shared} {fp : List Addr} (I : Inv X pins σ H s) (hf : ∀ b ∈ fp, FpOk X pins H b) (ho : ∀ b ∈ fp, ∃ o, s.heap.get? b = some o ∧ ∀ v, o.data ≠ .cell v) : Inv X (pins ++ pinsAt fp s.heap) σ H s :=
  I.pins_of fun p hp => (List.mem_append.mp hp).elim (fun z => I.pin p (List.mem_append_right _ z)) fun z => by
    obtain ⟨hb, e⟩ := of_pinsAt z
    obtain ⟨f0, f1, f2, _⟩ := hf p.1 hb
    obtain ⟨o, e', d⟩ := ho p.1 hb
    rw [e] at e'; cases e'
    exact ⟨e, f0, f1, f2, d⟩
theorem Inv.unpinned {pins pl : List (Addr × Obj)} {σ : St} {H : Hp} {s : Shared} (I : Inv X (pins ++ pl) σ H s) : Inv X pins σ H s := I.pins_of fun p hp => I.pin p (List.mem_append_right _ (List.mem_append_left _ hp))
theorem ps_for {iter : Expr} {body : List Stmt} {wi : TI} {g : TG} {tb : TS} {pos : Pos} (hp : PassesOwn (model X.prog X.w) X.A X.env X.xe) (hc : X.calm = true) (hi : PI X tg iter wi) (hg : PG X tg g) (hb : PSs X body tb)
    (hs : ∀ x, foldedSetIterable iter X.env x = pure x := by intro _; rfl) : PS X (.For tg iter body [] pos) (tFor wi g tb) := by
  intro pins s σ H D I h
  refine wpAny_For (thn (hi pins s σ H _ I h) fun v s1 h1 => thn h1 fun itv s2 h2 => ?_) hs
  obtain ⟨it, fp, tn, J, H2, e, I2, T, st2, f2, W, ⟨m0, w0⟩, turn⟩ := h2
  subst e
  have stat : ∀ {H' : Hp}, (∀ b ∈ fp, H' b = none) → ∀ b ∈ fp, FpOk X pins H' b := fun hn b hb => ⟨hn b hb, (f2 b hb).2⟩
  refine codeAny_forLoop_any (fun n s' => ∃ i σ' H', Inv X pins σ' H' s' ∧ tn i s'.heap ∧ (∀ b ∈ fp, H' b = none) ∧ W i n σ' H') ?_ m0 ⟨0, σ, H2, I2, st2, fun b hb => (f2 b hb).1, w0⟩
  rintro n s3 ⟨i, σ3, H3, I3, st3, fr3, w3⟩
  rcases turn i n σ3 H3 w3 with ⟨stop, qn⟩ | ⟨go, N, hN, step⟩
  · refine wpAny_passesOwn hp (thn (T.done X rfl rfl rfl hc i pins s3 σ3 H3 X.xe I3 (stat fr3) st3 stop) fun r s4 ⟨hr, I4⟩ => ?_)
    subst hr
    exact wpAny_execs_nil ⟨σ3, H3, I4, qn⟩
  · refine wpAny_passesOwn hp (thn (T.item X rfl rfl rfl hc i pins s3 σ3 H3 X.xe I3 (stat fr3) st3 go) fun r s4 ⟨u, hr, h4⟩ => ?_)
    subst hr
    refine wpAny_passesOwn hp (thn h4 fun _ s5 ⟨x, H5, I5, r5, y5, st5, fr5⟩ => ?_)
    have I5' := I5.pinned (stat fr5) (T.obj _ _ st5)
    refine wpAny_passesOwn hp (thn (hg _ s5 σ3 H5 x u _ I5' r5 (step x H5 y5)) fun _ s6 ⟨σ6, H6, I6, q6⟩ => ?_)
    refine wpAny_passesOwn hp (thn (hb _ s6 σ6 H6 _ I6 q6) fun f s7 q7 => ?_)
    have again : ∀ {σ7 : St} {H7 : Hp}, Inv X (pins ++ pinsAt fp s5.heap) σ7 H7 s7 → N σ7 H7 → ∃ m, m < n ∧ ∃ i σ' H', Inv X pins σ' H' s7 ∧ tn i s7.heap ∧ (∀ b ∈ fp, H' b = none) ∧ W i m σ' H' := fun {σ7 H7} I7 n7 => by
      obtain ⟨m', hm, w7⟩ := hN σ7 H7 n7
      refine ⟨m', hm, i + 1, σ7, H7, I7.unpinned, T.keep _ _ _ st5 fun b hb o e => (I7.pin (b, o) (List.mem_append_right _ (List.mem_append_right _ (mem_pinsAt hb e)))).1, fun b hb => ?_, w7⟩
      obtain ⟨o, e, d⟩ := T.obj _ _ st5 b hb
      exact (I7.pin (b, o) (List.mem_append_right _ (List.mem_append_right _ (mem_pinsAt hb e)))).2.1
    cases f with
    | next => obtain ⟨σ7, H7, I7, n7⟩ := q7; exact again I7 n7
    | cont => obtain ⟨σ7, H7, I7, n7⟩ := q7; exact again I7 n7
    | brk => obtain ⟨σ7, H7, I7, q7⟩ := q7; exact ⟨σ7, H7, I7.unpinned, q7⟩
    | ret v => obtain ⟨x7, σ7, H7, I7, r7, q7⟩ := q7; exact ⟨x7, σ7, H7, I7.unpinned, r7, q7⟩
end
theorem for_range {lo : Int} {n : Nat} {g : TG} {tb : TS} {D : Ends} {σ : St} {H : Hp} (Pv : Nat → St → Hp → Prop) (h0 : Pv 0 σ H)
    (hs : ∀ i σ H, i < n → Pv i σ H → g (.int (lo + i)) σ H fun σ2 H2 => tb { D with nx := Pv (i + 1), ct := Pv (i + 1), bk := D.nx } σ2 H2) (hd : ∀ σ H, Pv n σ H → D.nx σ H) :
    ∃ W : Nat → Nat → St → Hp → Prop, (∃ m, W 0 m σ H) ∧ ∀ i m σ H, W i m σ H →
      ((Itr lo n).stop i H ∧ D.nx σ H) ∨ ((Itr lo n).go i H ∧ ∃ N : St → Hp → Prop, (∀ σ' H', N σ' H' → ∃ m', m' < m ∧ W (i + 1) m' σ' H') ∧ ∀ x H', (Itr lo n).yld i H x H' → g x σ H' fun σ2 H2 => tb { D with nx := N, ct := N, bk := D.nx } σ2 H2) := by
  refine ⟨fun i m σ H => m = n - i ∧ i ≤ n ∧ Pv i σ H, ⟨n, by simp, Nat.zero_le _, h0⟩, ?_⟩
  rintro i m σ H ⟨rfl, hi, p⟩
  by_cases hlt : i < n
  · refine .inr ⟨hlt, Pv (i + 1), fun σ' H' p' => ⟨n - (i + 1), by omega, rfl, hlt, p'⟩, fun x H' y => ?_⟩
    obtain ⟨e, y⟩ := y
    subst e y
    exact hs i σ _ hlt p
  · have e : i = n := by omega
    subst e
    exact .inl ⟨Nat.le_refl _, hd σ H p⟩
end L2
namespace L2
open PySem PySem.Spec PyProof.Rows
abbrev R2 := V → V → Hp → VK → Prop
noncomputable def OpR (X : Cx) (f : Value → Value → Sem Value) (r : R2) : Prop :=
  ∀ (pins : List (Addr × Obj)) (s : Shared) (σ : St) (H : Hp) (x y : V) (v u : Value) (Q : VK), Inv X pins σ H s → RelV x v → RelV y u → r x y H Q →
    wpAny (model X.prog X.w) X.A (f v u) (EP X pins σ Q) X.xe s
noncomputable def UnR (X : Cx) (f : Value → Sem Value) (r : V → Hp → VK → Prop) : Prop :=
  ∀ (pins : List (Addr × Obj)) (s : Shared) (σ : St) (H : Hp) (x : V) (v : Value) (Q : VK), Inv X pins σ H s → RelV x v → r x H Q →
    wpAny (model X.prog X.w) X.A (f v) (EP X pins σ Q) X.xe s
noncomputable def CallR (X : Cx) (f : Value) (r : List V → Hp → VK → Prop) : Prop :=
  ∀ (pins : List (Addr × Obj)) (s : Shared) (σ : St) (H : Hp) (xs : List V) (us : List Value) (Q : VK), Inv X pins σ H s → Vals xs us → r xs H Q →
    wpAny (model X.prog X.w) X.A (call f us) (EP X pins σ Q) X.xe s
noncomputable def TruR (X : Cx) (r : V → Hp → (Bool → Hp → Prop) → Prop) : Prop :=
  ∀ (pins : List (Addr × Obj)) (s : Shared) (σ : St) (H : Hp) (x : V) (v : Value) (Q : Bool → Hp → Prop), Inv X pins σ H s → RelV x v → r x H Q →
    wpAny (model X.prog X.w) X.A (truthy v) (TP X pins σ Q) X.xe s
noncomputable def rI (C : Int → Int → Prop) (g : Int → Int → V) : R2 := fun x y H Q => ∃ i j, x = .int i ∧ y = .int j ∧ C i j ∧ Q (g i j) H
noncomputable def rI0 (g : Int → Int → V) : R2 := fun x y H Q => ∃ i j, x = .int i ∧ y = .int j ∧ Q (g i j) H
noncomputable def rU (g : Int → V) : V → Hp → VK → Prop := fun x H Q => ∃ i, x = .int i ∧ Q (g i) H
section
variable {X : Cx} {a b c : Expr} {ta tb tc : TE} {pos : Pos}
theorem opI {f : Value → Value → Sem Value} {C : Int → Int → Prop} {g : Int → Int → Int}
    (rule : ∀ (i j : Int) (t u : Tok) (s : Shared) (Q : Value → Shared → Prop) (E : Value → Shared → Prop), C i j → Q (.int (g i j) s.toks) { s with toks := s.toks + 1 } → wpAny (model X.prog X.w) X.A (f (.int i t) (.int j u)) Q E s) :
    OpR X f (rI C fun i j => .int (g i j)) := by
  intro pins s σ H x y v u Q I rx ry h
  obtain ⟨i, j, rfl, rfl, hc, q⟩ := h
  obtain ⟨t, rfl⟩ := rx
  obtain ⟨t', rfl⟩ := ry
  exact rule i j t t' s _ _ hc ⟨.int (g i j), H, I.tok _, ⟨_, rfl⟩, q⟩
theorem opI0 {f : Value → Value → Sem Value} {g : Int → Int → Int}
    (rule : ∀ (i j : Int) (t u : Tok) (s : Shared) (Q : Value → Shared → Prop) (E : Value → Shared → Prop), Q (.int (g i j) s.toks) { s with toks := s.toks + 1 } → wpAny (model X.prog X.w) X.A (f (.int i t) (.int j u)) Q E s) :
    OpR X f (rI0 fun i j => .int (g i j)) := by
  intro pins s σ H x y v u Q I rx ry h
  obtain ⟨i, j, rfl, rfl, q⟩ := h
  obtain ⟨t, rfl⟩ := rx
  obtain ⟨t', rfl⟩ := ry
  exact rule i j t t' s _ _ ⟨.int (g i j), H, I.tok _, ⟨_, rfl⟩, q⟩
theorem opB0 {f : Value → Value → Sem Value} {g : Int → Int → Bool}
    (rule : ∀ (i j : Int) (t u : Tok) (s : Shared) (Q : Value → Shared → Prop) (E : Value → Shared → Prop), Q (.bool (g i j)) s → wpAny (model X.prog X.w) X.A (f (.int i t) (.int j u)) Q E s) :
    OpR X f (rI0 fun i j => .bl (g i j)) := by
  intro pins s σ H x y v u Q I rx ry h
  obtain ⟨i, j, rfl, rfl, q⟩ := h
  obtain ⟨t, rfl⟩ := rx
  obtain ⟨t', rfl⟩ := ry
  exact rule i j t t' s _ _ ⟨.bl (g i j), H, I, rfl, q⟩
noncomputable def CPow (i j : Int) : Prop := 0 ≤ j ∧ j ≤ 1000000 ∧ i.natAbs < 2 ^ 64
noncomputable def CMul (i j : Int) : Prop := (-(2 ^ 64) < i ∧ i < 2 ^ 64) ∨ (-(2 ^ 64) < j ∧ j < 2 ^ 64)
theorem CMul.ok {i j : Int} (h : CMul i j) : IntMulOk i j := by
  rcases h with ⟨h1, h2⟩ | ⟨h1, h2⟩
  · exact .of_left (intBits_le_64 h1 h2)
  · exact .of_right (intBits_le_64 h1 h2)
theorem op_add : OpR X (binaryOp .Add) (rI0 fun i j => .int (i + j)) := opI0 fun _ _ _ _ _ _ _ q => add_int q
theorem op_sub : OpR X (binaryOp .Sub) (rI0 fun i j => .int (i - j)) := opI0 fun _ _ _ _ _ _ _ q => sub_int q
theorem op_modN : OpR X (binaryOp .Mod) (rI (fun _ j => j ≠ 0) fun i j => .int (i.fmod j)) := opI fun _ _ _ _ _ _ _ hc q => mod_int' hc q
theorem op_pow : OpR X (binaryOp .Pow) (rI CPow fun i j => .int (i ^ j.toNat)) := opI fun _ _ _ _ _ _ _ hc q => pow_int_small hc.1 hc.2.1 hc.2.2 q
theorem op_shl : OpR X (binaryOp .LShift) (rI CPow fun i j => .int (i * 2 ^ j.toNat)) := opI fun _ _ _ _ _ _ _ hc q => lshift_int_small hc.1 hc.2.1 hc.2.2 q
theorem unI {f : Value → Sem Value} {g : Int → Int}
    (rule : ∀ (i : Int) (t : Tok) (s : Shared) (Q : Value → Shared → Prop) (E : Value → Shared → Prop), Q (.int (g i) s.toks) { s with toks := s.toks + 1 } → wpAny (model X.prog X.w) X.A (f (.int i t)) Q E s) :
    UnR X f (rU fun i => .int (g i)) := by
  intro pins s σ H x v Q I rx h
  obtain ⟨i, rfl, q⟩ := h
  obtain ⟨t, rfl⟩ := rx
  exact rule i t s _ _ ⟨.int (g i), H, I.tok _, ⟨_, rfl⟩, q⟩
theorem un_neg : UnR X (unaryOp .USub) (rU fun i => .int (-i)) := unI fun _ _ _ _ _ q => neg_int q
end
section
variable {X : Cx} {a b c : Expr} {ta tb tc : TE} {pos : Pos}
theorem op_lt : OpR X (compareOp .Lt) (rI0 fun i j => .bl (decide (i < j))) := opB0 fun _ _ _ _ _ _ _ q => lt_int q
theorem op_gt : OpR X (compareOp .Gt) (rI0 fun i j => .bl (decide (j < i))) := opB0 fun _ _ _ _ _ _ _ q => gt_int q
theorem op_ge : OpR X (compareOp .GtE) (rI0 fun i j => .bl (decide (j ≤ i))) := opB0 fun _ _ _ _ _ _ _ q => ge_int q
theorem OpR.or {f : Value → Value → Sem Value} {r r' : R2} (h : OpR X f r) (h' : OpR X f r') : OpR X f (fun x y H Q => r x y H Q ∨ r' x y H Q) := by
  intro pins s σ H x y v u Q I rx ry q
  rcases q with q | q
  · exact h pins s σ H x y v u Q I rx ry q
  · exact h' pins s σ H x y v u Q I rx ry q
theorem nomark (b : Expr) {op : CmpOp} (h : op ≠ .In := by decide) (h2 : op ≠ .NotIn := by decide) : behindInMarks op b = false := by
  have e1 : (op == CmpOp.In) = false := by cases op <;> first | rfl | exact absurd rfl h
  have e2 : (op == CmpOp.NotIn) = false := by cases op <;> first | rfl | exact absurd rfl h2
  cases b <;> simp [behindInMarks, e1, e2]
noncomputable def TruV (K : PySem.W.Frag) (x : V) (H : Hp) (k : Bool) : Prop :=
  match x with
  | .non => k = false
  | .bl b => k = b
  | .int i => k = (i != 0)
  | .str y => y.length ≤ sizeLine ∧ k = ((y.length : Int) != 0)
  | .byt y => y.size ≤ sizeLine ∧ k = ((y.size : Int) != 0)
  | .ref p => (∃ xs, SqL K H p xs ∧ k = !xs.isEmpty) ∨ (∃ xs, SqT K H p xs ∧ k = !xs.isEmpty) ∨ ∃ kvs, H p = some (.dK kvs) ∧ k = !kvs.isEmpty
  | _ => False
theorem isEmpty_kv {κ : Type} {kvs : List (κ × V)} {vs : List (κ × Value)} (r : KV kvs vs) : (!vs.isEmpty) = !kvs.isEmpty := by
  cases r <;> rfl
theorem isEmpty_of {xs : List V} {its : List Value} (r : Vals xs its) : (!its.toArray.isEmpty) = !xs.isEmpty := by
  cases r <;> simp
theorem line63 : (sizeLine : Nat) < 2 ^ 63 := by rw [sizeLine_eq]; decide
theorem tru_ok : TruR X (fun x H Q => ∃ k, TruV X.K x H k ∧ Q k H) := by
  intro pins s σ H x v Q I rx h
  obtain ⟨k, e, q⟩ := h
  have hl := line63
  have hs : sizeLine = 16777216 := sizeLine_eq
  cases x with
  | non =>
    cases rx
    have e' : k = false := e
    subst e'
    exact truthy_none ⟨H, I, q⟩
  | bl b =>
    cases rx
    have e' : k = b := e
    subst e'
    exact wpAny_truthy_bool ⟨H, I, q⟩
  | int i =>
    obtain ⟨t, rfl⟩ := rx
    have e' : k = (i != 0) := e
    subst e'
    exact PySem.P.truthy_int ⟨H, I, q⟩
  | str y =>
    obtain ⟨t, rfl⟩ := rx
    obtain ⟨hy, e'⟩ : y.length ≤ sizeLine ∧ k = ((y.length : Int) != 0) := e
    subst e'
    exact PySem.P.truthy_str (by omega) ⟨H, I.tok _, q⟩
  | byt y =>
    obtain ⟨t, rfl⟩ := rx
    obtain ⟨hy, e'⟩ : y.size ≤ sizeLine ∧ k = ((y.size : Int) != 0) := e
    subst e'
    exact PySem.W.truthy_bytes (by omega) ⟨H, I.tok _, q⟩
  | ref p =>
    cases rx
    have e' : (∃ xs, SqL X.K H p xs ∧ k = !xs.isEmpty) ∨ (∃ xs, SqT X.K H p xs ∧ k = !xs.isEmpty) ∨ ∃ kvs, H p = some (.dK kvs) ∧ k = !kvs.isEmpty := e
    rcases e' with ⟨xs, hx, e'⟩ | ⟨xs, hx, e'⟩ | ⟨kvs, hx, e'⟩
    · subst e'
      obtain ⟨its, r, pl, hz⟩ := I.list hx
      have hlen := r.length
      exact wpAny_truthy_list pl.isList (by simp only [List.size_toArray]; omega) ⟨H, I.tok _, by rw [isEmpty_of r]; exact q⟩
    · subst e'
      obtain ⟨its, r, pl, hz⟩ := I.tuple hx
      have hlen := r.length
      exact truthy_tuple pl (by simp only [List.size_toArray]; omega) ⟨H, I.tok _, by rw [isEmpty_of r]; exact q⟩
    · subst e'
      obtain ⟨hz, hS, vs, r, m⟩ : kvs.length ≤ sizeLine ∧ (p == sysModules) = false ∧ ∃ vs, KV kvs vs ∧ s.heap.DictOf (mixKind X.prog X.w) p vs := I.hok p _ hx
      have hlen : kvs.length = vs.length := Paired.length r
      exact wpAny_truthy_dict hS m (by omega) ⟨H, I.tok _, by rw [isEmpty_kv r]; exact q⟩
  | _ => exact (show False from e).elim
theorem op_add_str : OpR X (binaryOp .Add) (fun x y H Q => ∃ i j, x = .str i ∧ y = .str j ∧ i.length + j.length ≤ sizeLine ∧ Q (.str (i ++ j)) H) := by
  intro pins s σ H x y v u Q I rx ry h
  obtain ⟨i, j, rfl, rfl, hz, q⟩ := h
  obtain ⟨t, rfl⟩ := rx
  obtain ⟨t', rfl⟩ := ry
  exact add_str (fun t' tk => ⟨.str (i ++ j), H, I.tok _, ⟨_, rfl⟩, q⟩) hz
theorem vals1 {x : V} {us : List Value} (r : Vals [x] us) : ∃ u, us = [u] ∧ RelV x u := by
  cases r with
  | cons r1 r2 => cases r2; exact ⟨_, rfl, r1⟩
theorem vals2 {x y : V} {us : List Value} (r : Vals [x, y] us) : ∃ u w', us = [u, w'] ∧ RelV x u ∧ RelV y w' := by
  cases r with
  | cons r1 r2 =>
    cases r2 with
    | cons r3 r4 => cases r4; exact ⟨_, _, rfl, r1, r3⟩
theorem call_abs : CallR X (.builtin "abs") (fun xs H Q => ∃ i, xs = [.int i] ∧ Q (.int (if i < 0 then -i else i)) H) := by
  intro pins s σ H xs us Q I r h
  obtain ⟨i, rfl, q⟩ := h
  obtain ⟨u, rfl, t, rfl⟩ := vals1 r
  exact call_abs_int fun u tk => ⟨.int (if i < 0 then -i else i), H, I.tok _, ⟨_, rfl⟩, q⟩
theorem call_max2 (hc : X.calm = true) : CallR X (.builtin "max") (fun xs H Q => ∃ i j, xs = [.int i, .int j] ∧ Q (.int (if j > i then j else i)) H) := by
  intro pins s σ H xs us Q I r h
  obtain ⟨i, j, rfl, q⟩ := h
  obtain ⟨u, w', rfl, ⟨t, rfl⟩, ⟨t', rfl⟩⟩ := vals2 r
  refine max_two_ints (I.ok.hd hc) fun h' tk k => ⟨_, H, I.kept k, ?_, q⟩
  by_cases hj : j > i
  · rw [if_pos hj, if_pos hj]; exact ⟨_, rfl⟩
  · rw [if_neg hj, if_neg hj]; exact ⟨_, rfl⟩
noncomputable def LenV (K : PySem.W.Frag) (x : V) (H : Hp) (n : Nat) : Prop :=
  match x with
  | .str y => y.length ≤ sizeLine ∧ n = y.length
  | .byt y => y.size ≤ sizeLine ∧ n = y.size
  | .ref p => (∃ xs, SqL K H p xs ∧ n = xs.length) ∨ ∃ xs, SqT K H p xs ∧ n = xs.length
  | _ => False
theorem call_len : CallR X (.builtin "len") (fun xs H Q => ∃ x n, xs = [x] ∧ LenV X.K x H n ∧ Q (.int n) H) := by
  intro pins s σ H xs us Q I r h
  obtain ⟨x, n, rfl, e, q⟩ := h
  obtain ⟨u, rfl, rx⟩ := vals1 r
  have hl := line63
  have hs : sizeLine = 16777216 := sizeLine_eq
  cases x with
  | str y =>
    obtain ⟨t, rfl⟩ := rx
    obtain ⟨hy, e'⟩ : y.length ≤ sizeLine ∧ n = y.length := e
    subst e'
    exact len_str (by omega) ⟨.int _, H, I.tok _, ⟨_, rfl⟩, q⟩
  | byt y =>
    obtain ⟨t, rfl⟩ := rx
    obtain ⟨hy, e'⟩ : y.size ≤ sizeLine ∧ n = y.size := e
    subst e'
    exact PySem.W.len_bytes (by omega) ⟨.int _, H, I.tok _, ⟨_, rfl⟩, q⟩
  | ref p =>
    cases rx
    have e' : (∃ xs, SqL X.K H p xs ∧ n = xs.length) ∨ ∃ xs, SqT X.K H p xs ∧ n = xs.length := e
    rcases e' with ⟨xs, hx, e'⟩ | ⟨xs, hx, e'⟩
    · subst e'
      obtain ⟨its, r', pl, hz⟩ := I.list hx
      have hlen := r'.length
      exact Calls.call_len_list pl.isList (by simp only [List.size_toArray]; omega) ⟨.int xs.length, H, I.tok _, ⟨_, by simp only [List.size_toArray]; rw [hlen]⟩, q⟩
    · subst e'
      obtain ⟨its, r', pl, hz⟩ := I.tuple hx
      have hlen := r'.length
      exact len_tuple pl (by simp only [List.size_toArray]; omega) ⟨.int xs.length, H, I.tok _, ⟨_, by simp only [List.size_toArray]; rw [hlen]⟩, q⟩
  | _ => exact (show False from e).elim
end
end L2
namespace L2
open PySem PySem.Spec PyProof.Rows
structure ObjM (h : Heap) (x dx C : Addr) (mA : Str → Option Value) : Prop where
  obj : h.get? x = some (PySem.W.instObj C dx)
  ns : h.Ns1 dx mA
  ne : dx ≠ x
theorem lookIn_ns {h : Heap} {dx : Addr} {mA : Str → Option Value} (n : h.Ns1 dx mA) : ∃ od, h.get? dx = some od ∧ ∀ name, PySem.W.lookIn name od = some (mA name) := by
  obtain ⟨o, es, ep, ho, hd, hk, _, hm⟩ := n
  refine ⟨o, ho, fun name => ?_⟩
  have e := hm name
  unfold nsFind findBy at e
  rw [← Array.find?_toList] at e
  unfold PySem.W.lookIn
  rw [hd]
  dsimp only
  split
  · rename_i y q
    rw [q] at e
    exact congrArg some e
  · rename_i q
    rw [q] at e
    have a : es.toList.any (·.refKey) = false := by
      rw [List.any_eq_false]
      intro y hy
      obtain ⟨z, t, hkey⟩ := hk y (Array.mem_toList_iff.mp hy)
      simp [DictEntry.refKey, hkey]
    have a' : ¬ es.toList.any (·.refKey) = true := by rw [a]; exact Bool.false_ne_true
    rw [if_neg a']
    exact congrArg some e
theorem ObjM.look {h : Heap} {x dx C : Addr} {mA : Str → Option Value} (I : ObjM h x dx C mA) : ∃ od, PySem.W.InstAt h x (PySem.W.instObj C dx) C (some od) ∧ ∀ name, PySem.W.lookIn name od = some (mA name) :=
  let ⟨od, ho, hl⟩ := lookIn_ns I.ns
  ⟨od, ⟨I.obj, rfl, rfl, ho⟩, hl⟩
section
variable {prog : Program} {w : World} {A : Around} {E : Value → Shared → Prop} {s : Shared} {K : PySem.W.Frag} {x dx C f : Addr} {mA : Str → Option Value} {name : Str} {v : Value}
end
section
variable {P : Program} {w : World} {H H' : Hp} {h h' : Heap} {a C dx : Addr} {fs fs' : List (Str × V)}
theorem ins_get (hok : HOk P w H h) (e : H a = some (.ins C dx fs)) : ∃ mA, ObjM h a dx C mA ∧ (∀ f, RelO (fs.lookup f) (mA f)) ∧ PySem.Within mA (fs.map (·.1)) ∧ fs.length ≤ 1000 ∧ H dx = some (.own a) := by
  obtain ⟨d, z, ne, ob, mA, n, r, q⟩ := (show ObjOk P w H h a (.ins C dx fs) from hok a _ e)
  exact ⟨mA, ⟨ob, n, ne⟩, r, q, z, d⟩
end
structure Cls (K : PySem.W.Frag) (C : Addr) : Prop where
  pg : PySem.W.plainGet K C Str.empty = true
  hd : PySem.W.hasDictIn K C = true
  po : PySem.W.plainOver K C = true
  sa : PySem.W.findIn K (.ref C) "__setattr__" = some (some (.builtin "object.__setattr__"))
theorem Cls.get {K : PySem.W.Frag} {C : Addr} (c : Cls K C) (f : Str) : PySem.W.plainGet K C f = true := c.pg
structure Con (K : PySem.W.Frag) (C : Addr) (f : Str) (v : V) (u : Value) : Prop where
  at_ : PySem.W.findIn K (.ref C) f = some (some u)
  rel : RelV v u
  get : PySem.W.specialIn K u "__get__" = some none
  cp : PySem.W.copiedNames.contains f = false
structure Meth (K : PySem.W.Frag) (C : Addr) (m : Str) (f : Addr) : Prop where
  at_ : PySem.W.findIn K (.ref C) m = some (some (.ref f))
  fn : PySem.W.isFn K (.ref f) = true
  kp : PySem.W.keepIn K (.ref f) = true
section
variable {X : Cx} {pins : List (Addr × Obj)} {σ : St} {H : Hp} {s : Shared} {a C dx : Addr} {fs : List (Str × V)} {f : Str} {v : V} {A : Around} {E : Value → Shared → Prop}
end
section
variable {X : Cx} {o e value : Expr} {f : Str} {pos pos' tpos : Pos} {ta tv : TE}
end
section
variable {X : Cx} {pins : List (Addr × Obj)} {σ : St} {H : Hp} {s : Shared} {A : Around} {E : Value → Shared → Prop} {Q : Value → Shared → Prop} {c : Value} {b : Bool}
inductive TyOf (K : PySem.W.Frag) (H : Hp) : V → Value → Prop where
  | non : TyOf K H .non (.type "NoneType")
  | bl (x : Bool) : TyOf K H (.bl x) (.type "bool")
  | int (i : Int) : TyOf K H (.int i) (.type "int")
  | str (x : Str) : TyOf K H (.str x) (.type "str")
  | flt (x : UInt64) : TyOf K H (.flt x) (.type "float")
  | lst {a : Addr} {xs : List V} (e : H a = some (.lst xs)) : TyOf K H (.ref a) (.type "list")
  | frz {a : Addr} {o : Obj} {xs : List V} (e : H a = some (.frz o (.lst xs))) : TyOf K H (.ref a) (.type "list")
  | tup {a : Addr} {xs : List V} (e : H a = some (.tup xs)) : TyOf K H (.ref a) (.type "tuple")
  | dK {a : Addr} {kvs : List (Key × V)} (e : H a = some (.dK kvs)) : TyOf K H (.ref a) (.type "dict")
  | dT {a : Addr} {kvs : List (List Key × V)} (e : H a = some (.dT kvs)) : TyOf K H (.ref a) (.type "dict")
  | ins {a C dx : Addr} {fs : List (Str × V)} (e : H a = some (.ins C dx fs)) (cl : Cls K C) (ha : PySem.W.findIn K (.ref C) "__class__" = some (some (.builtin "object.__class__")))
      (hn : PySem.W.specialIn K (.builtin "object.__class__") "__get__" = some (some (.builtin "getset_descriptor.__get__"))) (htk : PySem.W.takesIn K (.builtin "object.__class__") = some true)
      (hm : PySem.W.mroIn K C (.type "object") = some true) : TyOf K H (.ref a) (.ref C)
theorem isinst_ok {x : V} {u t : Value} (I : Inv X pins σ H s) (rx : RelV x u) (ty : TyOf X.K H x t) (e : PySem.W.kitOne X.K t c = some b) (h : ∀ tk, Q (.bool b) { s with toks := tk }) :
    wpAny (model X.prog X.w) A (call (.builtin "isinstance") [u, c]) Q E s := by
  cases ty with
  | non => cases (show u = Value.none from rx); exact PySem.W.kia_one PySem.W.kitx_none I.kIn True.intro e (fun z => nomatch z) h
  | bl y => cases (show u = Value.bool y from rx); exact PySem.W.kia_one PySem.W.kitx_bool I.kIn True.intro e (fun z => nomatch z) h
  | int i => obtain ⟨t, q⟩ := (show ∃ t, u = Value.int i t from rx); cases q; exact PySem.W.kia_one PySem.W.kitx_int I.kIn True.intro e (fun z => nomatch z) h
  | str y => obtain ⟨t, q⟩ := (show ∃ t, u = Value.str y t from rx); cases q; exact PySem.W.kia_one PySem.W.kitx_str I.kIn True.intro e (fun z => nomatch z) h
  | flt y => obtain ⟨t, q⟩ := (show ∃ t, u = Value.float y t from rx); cases q; exact PySem.W.kia_one PySem.W.kitx_float I.kIn True.intro e (fun z => nomatch z) h
  | @lst a xs ea =>
    cases (show u = Value.ref a from rx)
    obtain ⟨_, _, n, _, h1⟩ := (show ObjOk X.prog X.w H s.heap a (.lst xs) from I.hok a _ ea)
    exact PySem.W.kia_one PySem.W.kitx_list I.kIn ⟨_, h1, rfl⟩ e (fun z => nomatch z) h
  | @frz a ob xs ea =>
    cases (show u = Value.ref a from rx)
    obtain ⟨_, _, _, n, _, h1⟩ := (show ObjOk X.prog X.w H s.heap a (.frz ob (.lst xs)) from I.hok a _ ea)
    exact PySem.W.kia_one PySem.W.kitx_list I.kIn ⟨_, h1, rfl⟩ e (fun z => nomatch z) h
  | @tup a xs ea =>
    cases (show u = Value.ref a from rx)
    obtain ⟨_, _, _, p⟩ := (show ObjOk X.prog X.w H s.heap a (.tup xs) from I.hok a _ ea)
    obtain ⟨o, h1, h2, _⟩ := p
    exact PySem.W.kia_one PySem.W.kitx_tuple I.kIn ⟨o, h1, h2⟩ e (fun z => nomatch z) h
  | @dK a kvs ea =>
    cases (show u = Value.ref a from rx)
    obtain ⟨_, _, vs, _, p⟩ := (show ObjOk X.prog X.w H s.heap a (.dK kvs) from I.hok a _ ea)
    obtain ⟨o, es, ep, h1, h2, _⟩ := p
    exact PySem.W.kia_one PySem.W.kitx_dict I.kIn ⟨o, h1, h2.1⟩ e (fun z => nomatch z) h
  | @dT a kvs ea =>
    cases (show u = Value.ref a from rx)
    obtain ⟨_, _, xs, _, o, es, ep, h1, h2, _⟩ := (show ObjOk X.prog X.w H s.heap a (.dT kvs) from I.hok a _ ea)
    exact PySem.W.kia_one PySem.W.kitx_dict I.kIn ⟨o, h1, h2.1⟩ e (fun z => nomatch z) h
  | @ins a C dx fs ea cl ha hn htk hm =>
    cases (show u = Value.ref a from rx)
    obtain ⟨mA, O, _⟩ := ins_get I.hok ea
    obtain ⟨od, J, _⟩ := O.look
    exact PySem.W.kia_one (PySem.W.kitx_own (cl.get _) cl.hd ha hn htk hm) I.kIn J e (fun z => nomatch z) h
end
end L2
namespace L2
open PySem PySem.Spec PyProof.Rows
structure Room (k : Nat) (A : Around) : Prop where
  hd : A.handled = none
  dp : A.depth + 3 * k + 5 < recursionLimit
  un : A.units + 16 * k + 200 < cLine
theorem Room.mono {j k : Nat} {A : Around} (r : Room k A) (h : j ≤ k) : Room j A := ⟨r.hd, by have := r.dp; omega, by have := r.un; omega⟩
theorem Room.deeper {k : Nat} {A : Around} (r : Room (k + 1) A) (env : Env) : Room k (A.deeper env) :=
  ⟨r.hd, by have := r.dp; show A.depth + 1 + 3 * k + 5 < _; omega, by have := r.un; show A.units + 3 + 16 * k + 200 < _; omega⟩
theorem Room.in1 {k : Nat} {A : Around} (r : Room (k + 1) A) : Room k A.in1 :=
  ⟨r.hd, by have := r.dp; show A.depth + 3 * k + 5 < _; omega, by have := r.un; show A.units + 1 + 16 * k + 200 < _; omega⟩
theorem Room.depth {k : Nat} {A : Around} (r : Room k A) : A.depth < recursionLimit := by have := r.dp; omega
theorem Room.units {k : Nat} {A : Around} (r : Room k A) : A.units + 64 < cLine := by have := r.un; omega
section
variable {X : Cx} {e : Expr} {es : List Expr} {te : TE} {t : TA} {pos : Pos}
end
abbrev Sp := List V → Hp → VK → XK → Prop
abbrev CXT := List Env → Hp → Shared → XK → Value → Shared → Prop
structure Env0 (P : Program) (w : World) (K : PySem.W.Frag) (mg : Str → Option Value) (base : Heap) (A : Around) (outer : List Env) (s : Shared) (H : Hp) : Prop where
  frames : A.frames = some outer
  mod : Mod K mg base
  bs : ∀ b o, base.get? b = some o → s.heap.get? b = some o ∧ H b = none
  bsz : base.objs.size ≤ s.heap.objs.size
  funs : s.heap.FunFrames base outer
  frf : ∀ b ∈ frs outer, H b = none
  hok : HOk P w H s.heap
  bare : AllBare s.gens
noncomputable def CE (outer : List Env) (P : Program) (w : World) (H : Hp) (s : Shared) (Q : VK) (u : Value) (s' : Shared) : Prop :=
  ∃ v H', s'.os = s.os ∧ AllBare s'.gens ∧ Un (frs outer) [] H H' s.heap s'.heap ∧ HOk P w H' s'.heap ∧ RelV v u ∧ Q v H'
noncomputable def CR (CX : CXT) (outer : List Env) (P : Program) (w : World) (H : Hp) (s : Shared) (Q : VK) (E : XK) (r : Result) (s' : Shared) : Prop :=
  match r with
  | .ok (.ret u) => CE outer P w H s Q u s'
  | .ok _ => False
  | .error e => CX outer H s E e s'
structure FnOk (P : Program) (w : World) (K : PySem.W.Frag) (mg : Str → Option Value) (base : Heap) (CX : CXT) (k : Nat) (f : Addr) (fd : FuncData) (ps : List Str) (sp : Sp) : Prop where
  len : ∀ vs H Q E, sp vs H Q E → vs.length = ps.length
  run : ∀ (A : Around) (outer : List Env) (s : Shared) (H : Hp) (args : Args) (us : List Value) (vs : List V) (Q : VK) (E : XK), Room k A → Env0 P w K mg base A outer s H → BindsTo s fd args (ps.zip us) → Vals vs us → sp vs H Q E →
    codeAny (model P w) A (.call (.ref f) args) (CR CX outer P w H s Q E) s
theorem FnOk.mono {P : Program} {w : World} {K : PySem.W.Frag} {mg : Str → Option Value} {base : Heap} {CX : CXT} {j k : Nat} {f : Addr} {fd : FuncData} {ps : List Str} {sp : Sp} (F : FnOk P w K mg base CX j f fd ps sp) (h : j ≤ k) :
    FnOk P w K mg base CX k f fd ps sp := ⟨F.len, fun A outer s H args us vs Q E hr => F.run A outer s H args us vs Q E (hr.mono h)⟩
theorem Env0.in1 {P : Program} {w : World} {K : PySem.W.Frag} {mg : Str → Option Value} {base : Heap} {A : Around} {outer : List Env} {s : Shared} {H : Hp} (e : Env0 P w K mg base A outer s H) :
    Env0 P w K mg base A.in1 outer s H := ⟨e.frames, e.mod, e.bs, e.bsz, e.funs, e.frf, e.hok, e.bare⟩
section
variable {X : Cx} {pins : List (Addr × Obj)} {σ : St} {H : Hp} {s s' : Shared}
theorem Inv.env0 (I : Inv X pins σ H s) : Env0 X.prog X.w X.K X.mg X.base X.A X.stack s H :=
  ⟨I.ok.frames, I.ok.mod, I.bs, Nat.le_trans I.ok.bsz I.sz, I.stack, I.stkFree, I.hok, I.bare⟩
theorem Inv.after {Q : VK} {u : Value} (I : Inv X pins σ H s) (h : CE X.stack X.prog X.w H s Q u s') : EP X pins σ Q u s' := by
  obtain ⟨v, H', os, bare, un, hok, r, q⟩ := h
  obtain ⟨hh, g, d, t, os'⟩ := s'
  obtain rfl : os' = s.os := os
  exact ⟨v, H', I.call (h' := hh) (g' := g) (d' := d) (t' := t) (ch := []) un hok bare (fun b z => absurd z (by simp)), r, q⟩
end
noncomputable def Binds (K : PySem.W.Frag) (fd : FuncData) (ps : List Str) (ds : List Value) : Prop :=
  ∀ (s : Shared) (us : List Value), K.In s.heap → (us ++ ds).length = ps.length → BindsTo s fd ⟨us, []⟩ (ps.zip (us ++ ds))
theorem Binds.all {K : PySem.W.Frag} {fd : FuncData} {ps : List Str} (h : ∀ us : List Value, us.length = ps.length → bindArgs fd ⟨us, []⟩ = pure (ps.zip us)) : Binds K fd ps [] := fun s us _ hl => by
  rw [List.append_nil] at hl ⊢
  exact .of_eq (h us hl)
section
variable {X : Cx} {CX : CXT} {k : Nat} {f C : Addr} {fd : FuncData} {ps : List Str} {sp : Sp} {dvs : List V} {ds : List Value} {E : XK} {x m : Str} {p pos apos : Pos} {e o : Expr} {es : List Expr} {ta : TE} {t : TA}
structure Mk (K : PySem.W.Frag) (C f : Addr) : Prop where
  makes : PySem.W.makesIn K C = true
  init : PySem.W.findIn K (.ref C) "__init__" = some (some (.ref f))
  fn : PySem.W.isFn K (.ref f) = true
  kp : PySem.W.keepIn K (.ref C) = true
end
section
variable {X : Cx} {CX : CXT} {k : Nat} {f C : Addr} {fd : FuncData} {ps ks : List Str} {sp : Sp} {E : XK} {x m : Str} {p pos apos kpos : Pos} {e o : Expr} {es : List Expr} {kws : List Keyword} {te ta : TE} {t tk : TA} {nm : Option Str}
structure KBinds (K : PySem.W.Frag) (fd : FuncData) (ps ks : List Str) (g : List Value → List Value → List Value) (gV : List V → List V → List V) : Prop where
  to : ∀ (s : Shared) (us ws : List Value), K.In s.heap → (g us ws).length = ps.length → BindsTo s fd ⟨us, ks.zip ws⟩ (ps.zip (g us ws))
  rel : ∀ {vs : List V} {us : List Value} {zs : List V} {ws : List Value}, Vals vs us → Vals zs ws → Vals (gV vs zs) (g us ws)
variable {g : List Value → List Value → List Value} {gV : List V → List V → List V}
end
structure FnScope (N P : List Str) (sc : Scope) : Prop where
  kind : sc.kind = .function
  co : sc.isCoroutine = false
  gen : sc.isGenerator = false
  nd : N.Nodup
  pre : N.take P.length = P
  par : ∀ x ∈ P, sc.names.lookup x = some .local ∨ sc.names.lookup x = some .cell
  nofree : ∀ y ∈ sc.names, y.2 ≠ .free
theorem bindL_out {kindOf : Str → Option NameKind} {x : Str} : ∀ {binds : List (Str × Value)} {m : Str → Option Value}, (∀ v, (x, v) ∉ binds) → bindL kindOf binds m x = m x
  | [], _, _ => rfl
  | (n, v) :: r, m, h => by
    unfold bindL
    rw [bindL_out fun w hw => h w (List.mem_cons_of_mem _ hw)]
    split
    · have : x ≠ n := by rintro rfl; exact h v List.mem_cons_self
      simp [this]
    · rfl
theorem bindC_out {kindOf : Str → Option NameKind} {x : Str} : ∀ {binds : List (Str × Value)} {m : Str → Option Value}, (∀ v, (x, v) ∉ binds) → bindC kindOf binds m x = m x
  | [], _, _ => rfl
  | (n, v) :: r, m, h => by
    unfold bindC
    rw [bindC_out fun w hw => h w (List.mem_cons_of_mem _ hw)]
    split
    · rfl
    · have : x ≠ n := by rintro rfl; exact h v List.mem_cons_self
      simp [this]
theorem bindL_get {kindOf : Str → Option NameKind} {x : Str} {v : Value} : ∀ {P : List Str} {vs : List Value} {i : Nat} {m : Str → Option Value}, P.Nodup → P[i]? = some x → vs[i]? = some v → kindOf x = some .local →
    bindL kindOf (P.zip vs) m x = some v
  | [], _, _, _, _, h, _, _ => by simp at h
  | _ :: _, [], _, _, _, _, h, _ => by simp at h
  | p :: P, w :: vs, 0, m, nd, h1, h2, hk => by
    simp at h1 h2; subst h1; subst h2
    show bindL kindOf ((p, w) :: P.zip vs) m p = _
    unfold bindL
    rw [bindL_out fun v hv => (List.nodup_cons.mp nd).1 (List.of_mem_zip hv).1, if_pos hk]
    simp
  | p :: P, w :: vs, i + 1, m, nd, h1, h2, hk => by
    show bindL kindOf ((p, w) :: P.zip vs) m x = _
    unfold bindL
    exact bindL_get (i := i) (List.nodup_cons.mp nd).2 (by simpa using h1) (by simpa using h2) hk
theorem bindC_get {kindOf : Str → Option NameKind} {x : Str} {v : Value} : ∀ {P : List Str} {vs : List Value} {i : Nat} {m : Str → Option Value}, P.Nodup → P[i]? = some x → vs[i]? = some v → kindOf x ≠ some .local →
    bindC kindOf (P.zip vs) m x = some v
  | [], _, _, _, _, h, _, _ => by simp at h
  | _ :: _, [], _, _, _, _, h, _ => by simp at h
  | p :: P, w :: vs, 0, m, nd, h1, h2, hk => by
    simp at h1 h2; subst h1; subst h2
    show bindC kindOf ((p, w) :: P.zip vs) m p = _
    unfold bindC
    rw [bindC_out fun v hv => (List.nodup_cons.mp nd).1 (List.of_mem_zip hv).1, if_neg hk]
    simp
  | p :: P, w :: vs, i + 1, m, nd, h1, h2, hk => by
    show bindC kindOf ((p, w) :: P.zip vs) m x = _
    unfold bindC
    exact bindC_get (i := i) (List.nodup_cons.mp nd).2 (by simpa using h1) (by simpa using h2) hk
noncomputable def start (N : List Str) (vs : List V) : St := vs.map some ++ List.replicate (N.length - vs.length) none
noncomputable def cxOf (CX : CXT) (P : Program) (w : World) (K : PySem.W.Frag) (mg : Str → Option Value) (base : Heap) (N : List Str) (qual : Str) (scope : Scope) (f : Addr) (cd : Value) (A : Around) (outer : List Env) (s : Shared) (H : Hp) (E : XK) : Cx where
  prog := P
  w := w
  K := K
  mg := mg
  base := base
  A := A.deeper (envOfC qual scope s.heap.objs.size f cd)
  N := N
  s₀ := s
  H₀ := H
  env := envOfC qual scope s.heap.objs.size f cd
  outer := outer
  stack := envOfC qual scope s.heap.objs.size f cd :: outer
  ex := []
  calm := true
  fn := fun _ => true
  pn := []
  xe := fun e s' => wpAny (model P w) (A.deeper (envOfC qual scope s.heap.objs.size f cd)) (leaving (envOfC qual scope s.heap.objs.size f cd) e) (fun _ s'' => CX outer H s E e s'') (fun e' s'' => CX outer H s E e' s'') s'
theorem cell_has {sc : Scope} {n : Nat} {x : Str} (h : sc.names.lookup x = some .cell) : ∃ c, (cellsFrom n sc.names []).lookup x = some c := by
  have q := PySem.W.cellsFrom_some sc.names n [] (.inl h)
  exact Option.isSome_iff_exists.mp q
theorem inv_start {CX : CXT} {P : Program} {w : World} {K : PySem.W.Frag} {mg : Str → Option Value} {base : Heap} {N ps : List Str} {qual : Str} {scope : Scope} {f : Addr} {cd : Value} {A : Around} {outer : List Env} {s s1 : Shared} {H : Hp} {E : XK} {us : List Value} {vs : List V}
    (S : FnScope N ps scope) (hd : A.handled = none) (e0 : Env0 P w K mg base A outer s H) (hl : vs.length = ps.length) (r : Vals vs us)
    (x : InCallC s s.heap.objs.size (bindL (envOfC qual scope s.heap.objs.size f cd).kindOf (ps.zip us) fun _ => none) (cellsFrom (s.heap.objs.size + 1) scope.names []) (bindC (envOfC qual scope s.heap.objs.size f cd).kindOf (ps.zip us) fun _ => none) s1) :
    Inv (cxOf CX P w K mg base N qual scope f cd A outer s H E) [] (start N vs) H s1 := by
  have hpl : ps.length ≤ N.length := by have := congrArg List.length S.pre; rw [List.length_take] at this; omega
  obtain ⟨h1, tk, rfl, hk⟩ := x.done
  have noA : ∀ b : Addr, b ∉ (cxOf CX P w K mg base N qual scope f cd A outer s H E).ex := fun b z => absurd (show b ∈ ([] : List Addr) from z) (by simp)
  refine ⟨⟨e0.mod, S.kind, rfl, rfl, Nat.le_refl _, fun y z c h1 h2 => ?_, fun y hy => ?_, fun y c _ h => ?_, fun _ => hd, Around.frames_deeper e0.frames, .inr ⟨rfl, rfl⟩, fun b z => absurd z (noA b), e0.bs, e0.bsz, fun b _ _ => noA b, fun b z => absurd z (noA b), e0.funs, e0.frf⟩,
    rfl, e0.bare, Un.kept hk, ⟨_, x.toInCall.ns, fun i y v h1 h2 h3 => ?_⟩, fun y c h => ⟨_, x.cell y c h⟩, e0.hok.fresh (Nat.le_refl _), fun y c h => ?_, fun p hp => absurd (show p ∈ ([] : List (Addr × Obj)) from hp) (by simp), e0.hok.kept hk, ?_⟩
  · exact name_of_addr x.apart (PySem.mem_of_lookup h1) (PySem.mem_of_lookup h2)
  · have hy : scope.names.lookup y = some .cell ∨ scope.names.lookup y = some .free := hy
    rcases hy with hy | hy
    · exact cell_has hy
    · exact absurd rfl (S.nofree _ (PySem.mem_of_lookup hy))
  · exact Nat.le_of_lt (x.above y c (PySem.mem_of_lookup h))
  · have hi : i < vs.length := by
      unfold start at h2
      by_cases hi : i < vs.length
      · exact hi
      · rw [List.getElem?_append_right (by simpa using hi)] at h2
        rw [List.getElem?_replicate] at h2
        split at h2 <;> cases h2
    have ha : vs[i]? = some v := by
      unfold start at h2
      rw [List.getElem?_append_left (by simpa using hi), List.getElem?_map] at h2
      cases e : vs[i]? with
      | none => rw [e] at h2; cases h2
      | some a => rw [e] at h2; cases h2; rfl
    obtain ⟨u, hu, rv⟩ := r.get ha
    have hp : ps[i]? = some y := by
      rw [← S.pre, List.getElem?_take_of_lt (by omega)]; exact h1
    have ndP : ps.Nodup := by rw [← S.pre]; exact S.nd.sublist (List.take_sublist _ _)
    refine ⟨u, rv, ?_⟩
    rcases S.par y (List.mem_of_getElem? hp) with k | k
    · exact .inl ⟨k, bindL_get ndP hp hu k⟩
    · obtain ⟨c, e⟩ := cell_has (n := s.heap.objs.size + 1) k
      refine .inr ⟨.inl k, c, e, ?_⟩
      have q := x.cell y c e
      rw [bindC_get ndP hp hu (by show scope.names.lookup y ≠ _; rw [k]; decide)] at q
      exact q
  · exact e0.hok.fresh (Nat.le_of_lt (x.above y c (PySem.mem_of_lookup h)))
  · unfold start
    show _ = N.length
    rw [List.length_append, List.length_map, List.length_replicate]
    omega
theorem fn_of {CX : CXT} {P : Program} {w : World} {K : PySem.W.Frag} {mg : Str → Option Value} {base : Heap} {k : Nat} {f : Addr} {name qual : Str} {params : Arguments} {body : List Stmt} {scope : Scope} {dV kV doc pm cdv ct oc : Value} {an od : Option Addr}
    {osl : Array (Option Value)} {N ps : List Str} {sp : Sp} (lk : K.lookup f = some ⟨oc, od, .func (PySem.W.fnOf name qual params body scope dV kV doc pm an cdv ct), osl⟩) (hcd : PySem.W.codeIn K cdv qual = true) (S : FnScope N ps scope)
    (len : ∀ vs H Q E, sp vs H Q E → vs.length = ps.length)
    (hbody : ∀ (A : Around) (outer : List Env) (s : Shared) (H : Hp) (vs : List V) (Q : VK) (E : XK), Room k (A.deeper (envOfC qual scope s.heap.objs.size f cdv)) → sp vs H Q E →
      ∃ t, PSs (cxOf CX P w K mg base N qual scope f cdv A outer s H E) body t ∧ t { nx := fun _ H' => Q .non H', rt := Q } (start N vs) H) :
    FnOk P w K mg base CX (k + 1) f (PySem.W.fnOf name qual params body scope dV kV doc pm an cdv ct) ps sp := by
  refine ⟨len, fun A outer s H args us vs Q E hr e0 hb r hsp => ?_⟩
  have hl := len _ _ _ _ hsp
  have KX : K.In s.heap := e0.mod.kin.keeps fun b o e => (e0.bs b o e).1
  have lim : s.heap.NoLimit := e0.mod.nolimit.keeps fun b o e => (e0.bs b o e).1
  have hkind : ∀ y ∈ ps.zip us, scope.names.lookup y.1 = some .local ∨ (scope.names.lookup y.1 = some .cell ∧ ((cellsFrom (s.heap.objs.size + 1) scope.names []).lookup y.1).isSome = true) := fun ⟨n, v⟩ hy => by
    rcases S.par n (List.of_mem_zip hy).1 with q | q
    · exact .inl q
    · exact .inr ⟨q, PySem.W.cellsFrom_some _ _ _ (.inl q)⟩
  refine codeAny_call_function hr.depth (KX _ _ lk) rfl S.co S.gen rfl (PySem.W.codeRec_of KX hcd) (hb _ _ _ _ ?_)
  refine wpAny_newFunctionEnv_cells S.kind hkind fun env he s1 x => ?_
  subst he
  refine ⟨lim.keeps x.toInCall.keep, codeAny_func ?_⟩
  obtain ⟨t, ht, hq⟩ := hbody A outer s H vs Q E (hr.deeper _) hsp
  have I : Inv (cxOf CX P w K mg base N qual scope f cdv A outer s H E) [] (start N vs) H s1 := inv_start S hr.hd e0 hl r x
  refine wpAny_mono (ht [] s1 (start N vs) H _ I hq) (fun fl s' hs => ?_) fun e s' hs => hs
  have fin : ∀ {σ' : St} {H' : Hp} {v : V} {u : Value}, Inv (cxOf CX P w K mg base N qual scope f cdv A outer s H E) [] σ' H' s' → RelV v u → Q v H' → CE outer P w H s Q u s' :=
    fun {σ' H' v u} J rv q => ⟨v, H', J.os, J.bare, J.base, J.hok, rv, q⟩
  cases fl with
  | ret u =>
    obtain ⟨v, σ', H', J, rv, q⟩ := hs
    exact fin J rv q
  | next =>
    obtain ⟨σ', H', J, q⟩ := hs
    exact fin (v := V.non) (u := Value.none) J rfl q
  | brk =>
    obtain ⟨_, _, _, q⟩ := hs
    exact False.elim q
  | cont =>
    obtain ⟨_, _, _, q⟩ := hs
    exact False.elim q
end L2
namespace L2
open PySem PySem.Spec PyProof.Rows
section
variable {X : Cx} {x : Str} {p pos : Pos} {e : Expr} {es : List Expr} {t : TA} {id T : String} {r : List V → Hp → VK → Prop}
end
end L2
namespace HT
open PySem PyProof.Rows
section
open PySem.SeqAt
open PySem.AutoSeq1 (wpAny_loadPart')
open PySem.MeetsSeq PySem.MeetsSeq2 PySem.MeetsSeq3
end
section
variable {prog : Program} {w : World} {A : Around} {E : Value → Shared → Prop} {s : Shared}
theorem cat_tup {t b : Addr} {vs ws : List Value} {Q : Value → Shared → Prop} (ht : IsTup s.heap t vs.toArray) (hb : IsTup s.heap b ws.toArray) (hv : vs ≠ [])
    (h1 : ws = [] → Q (.ref t) s) (h2 : ws ≠ [] → Q (.ref s.heap.objs.size) { s with heap := s.heap.push { cls := .type "tuple", data := .seq (vs ++ ws).toArray } })
    (hsz : vs.length + ws.length ≤ sizeLine) : wpAny (model prog w) A (binaryOp .Add (.ref t) (.ref b)) Q E s := by
  obtain ⟨⟨cls, dd, data, sl⟩, ho, hc, n, hd⟩ := id ht
  obtain ⟨⟨cls2, dd2, data2, sl2⟩, ho2, hc2, n2, hd2⟩ := id hb
  simp only at hc hd hc2 hd2
  subst hc hd hc2 hd2
  have e : vs.toArray ++ ws.toArray = (vs ++ ws).toArray := by simp
  by_cases hw : ws = []
  · exact concat_meets ⟨_, ho, rfl⟩ ⟨_, ho2, rfl⟩ noFill_tuple_add seq_tuple_add PySem.F.slot_tuple_add PySem.F.entry_tuple_add (PySem.F.args_tuple_add_2 _ _)
      (tuple_addW1 t b vs.toArray ws.toArray n n2 dd dd2 sl sl2 (by simpa using hv) (by simp [hw])) ⟨ho, ho2, h1 hw⟩
  · refine concat_meets ⟨_, ho, rfl⟩ ⟨_, ho2, rfl⟩ noFill_tuple_add seq_tuple_add PySem.F.slot_tuple_add PySem.F.entry_tuple_add (PySem.F.args_tuple_add_2 _ _)
      (tuple_addW2 t b vs.toArray ws.toArray n n2 dd dd2 sl sl2 (by simpa using hv) (by simpa using hw) (by rw [List.size_toArray, List.size_toArray]; exact hsz)) ⟨ho, ho2, ?_⟩
    rw [e]
    exact h2 hw
noncomputable def sIx (n d : Nat) : Option Int → Nat
  | none => d
  | some v => if v < 0 then (v + (n : Int)).toNat else min v.toNat n
theorem sIx_none (n d : Nat) : sIx n d none = d := rfl
theorem sIx_nat (n d k : Nat) : sIx n d (some (k : Int)) = min k n := by
  show (if (k : Int) < 0 then ((k : Int) + (n : Int)).toNat else min (k : Int).toNat n) = min k n
  rw [if_neg (by omega), Int.toNat_natCast]
theorem sIx_le (n d : Nat) (hd : d ≤ n) (o : Option Int) : sIx n d o ≤ n := by
  cases o with
  | none => exact hd
  | some v =>
    show (if v < 0 then (v + (n : Int)).toNat else min v.toNat n) ≤ n
    by_cases hv : v < 0
    · rw [if_pos hv]; omega
    · rw [if_neg hv]; exact Nat.min_le_right _ _
theorem clip_eq (v : Int) (n d : Nat) : (if v < 0 then max (v + (n : Int)) 0 else min v (n : Int)) = ((sIx n d (some v) : Nat) : Int) := by
  show (if v < 0 then max (v + (n : Int)) 0 else min v (n : Int)) = (((if v < 0 then (v + (n : Int)).toNat else min v.toNat n) : Nat) : Int)
  by_cases hv : v < 0
  · simp only [if_pos hv]; omega
  · simp only [if_neg hv]; omega
theorem adjust_gen (lo hi : Option Int) (n : Nat) : Builtin.Slice.sliceAdjust lo hi 1 (n : Int) = (((sIx n 0 lo : Nat) : Int), ((sIx n n hi : Nat) : Int)) := by
  have h1 : ¬ ((1 : Int) < 0) := by omega
  unfold Builtin.Slice.sliceAdjust
  simp only [h1, if_false]
  refine Prod.ext ?_ ?_
  · cases lo with
    | none => rfl
    | some v => exact clip_eq v n 0
  · cases hi with
    | none => rfl
    | some v => exact clip_eq v n n
theorem places_gen (i j : Nat) : Builtin.Slice.slicePlaces (i : Int) (j : Int) 1 = j - i := by
  unfold Builtin.Slice.slicePlaces
  have h1 : (1 : Int) > 0 := by omega
  simp only [h1, if_true, Int.ediv_one]
  split <;> omega
theorem slicePart_ {v : Value} {o : Option Int} {Q : Option Int → Shared → Prop} (p : IsPart v o) (h : Q o s) : wpAny (model prog w) A (Builtin.Slice.slicePartIndex v) Q E s := by
  cases p with
  | none => exact slicePart_none h
  | int i t => exact slicePart_int h
theorem sliceApplied_gen {sl : Addr} {vl vu : Value} {lo hi : Option Int} {n : Nat} {Q : Int × Int × Nat → Shared → Prop} (hs : s.heap.IsSliceOf sl vl vu .none) (pl : IsPart vl lo) (pu : IsPart vu hi)
    (h : Q (((sIx n 0 lo : Nat) : Int), 1, sIx n n hi - sIx n 0 lo) s) : wpAny (model prog w) A (Builtin.Slice.sliceApplied (.ref sl) (pure (n : Int))) Q E s := by
  obtain ⟨os, hos, hcs, hds⟩ := id hs
  unfold Builtin.Slice.sliceApplied Builtin.Slice.sliceFields
  refine wpAny_bind (wpAny_bind (wpAny_field hos hds (x := vl) rfl (wpAny_bind (wpAny_field hos hds (x := vu) rfl (wpAny_bind (wpAny_field hos hds (x := .none) rfl (wpAny_pure ?_)))))))
  refine wpAny_bind (slicePart_none ?_)
  show wpAny _ _ (if ((1 : Int) == 0) = true then _ else _) _ _ s
  rw [if_neg (by decide)]
  refine wpAny_bind (slicePart_ pl (wpAny_bind (slicePart_ pu (wpAny_bind (wpAny_pure ?_)))))
  show wpAny _ _ (match Builtin.Slice.sliceAdjust lo hi 1 (n : Int) with | (lo, hi) => pure (lo, (1 : Int), Builtin.Slice.slicePlaces lo hi 1)) _ _ s
  rw [adjust_gen lo hi n]
  show wpAny _ _ (pure (((sIx n 0 lo : Nat) : Int), (1 : Int), Builtin.Slice.slicePlaces ((sIx n 0 lo : Nat) : Int) ((sIx n n hi : Nat) : Int) 1)) _ _ s
  rw [places_gen]
  exact wpAny_pure h
theorem pick_gen (xs : Array Value) (i k : Nat) : ((List.range k).filterMap fun (m : Nat) => xs[((i : Int) + (m : Int) * 1).toNat]?).toArray = ((xs.toList.drop i).take k).toArray := by
  have e : (fun (m : Nat) => xs[((i : Int) + (m : Int) * 1).toNat]?) = fun m => xs[i + m]? := by
    funext m
    have : ((i : Int) + (m : Int) * 1).toNat = i + m := by omega
    rw [this]
  rw [e]
  have := pick_run xs i k
  rw [List.filterMap_map] at this
  have e2 : ((fun x => xs[x]?) ∘ fun x => i + x) = fun m => xs[i + m]? := rfl
  rw [e2] at this
  rw [this]
theorem getItem_tuple_cut {t sl : Addr} {items : Array Value} {vl vu : Value} {lo hi : Option Int} {Q : Value → Shared → Prop} (ht : IsTup s.heap t items) (hs : s.heap.IsSliceOf sl vl vu .none) (pl : IsPart vl lo) (pu : IsPart vu hi)
    (hw : ¬ (sIx items.size 0 lo = 0 ∧ sIx items.size items.size hi = items.size))
    (h : Q (.ref s.heap.objs.size) { s with heap := s.heap.push { cls := .type "tuple", data := .seq ((items.toList.drop (sIx items.size 0 lo)).take (sIx items.size items.size hi - sIx items.size 0 lo)).toArray } })
    (hsz : items.size ≤ sizeLine) : wpAny (model prog w) A (getItem (.ref t) (.ref sl)) Q E s := by
  have htake : sizeOk (.seq ((items.toList.drop (sIx items.size 0 lo)).take (sIx items.size items.size hi - sIx items.size 0 lo)).toArray) := by
    show ((items.toList.drop (sIx items.size 0 lo)).take (sIx items.size items.size hi - sIx items.size 0 lo)).toArray.size ≤ sizeLine
    rw [List.size_toArray, List.length_take, List.length_drop, Array.length_toList]
    omega
  have hj : sIx items.size items.size hi ≤ items.size := sIx_le _ _ (Nat.le_refl _) hi
  obtain ⟨os, hos, hcs, hds⟩ := id hs
  have hTs : s.TypeIs (.ref sl) "slice" := ⟨os, hos, hcs⟩
  unfold getItem
  try with_reducible refine wpAny_holding ?_
  first | refine wpAny_bind (wpAny_pure ?_) | skip
  refine wpAny_bind (wpAny_sequenceKey ht.typeIs (by decide) ?_)
  refine wpAny_bind (wpAny_callSpecial?_slot (name := Str.ofString "__getitem__") ht.typeIs PyProof.Rows.slot_tuple_getitem
    (wpAny_call_entry PyProof.Rows.slot_tuple_getitem ht.typeIs entry_tuple_getitem ?_ (args_tuple_getitem _ _)))
  show wpAny _ _ (Builtin.Tuple.tupleItemsOf (.ref t) >>= _) _ _ s
  refine wpAny_bind (tupleItemsOf_ ht ?_)
  refine wpAny_bind (wpAny_typeOf hTs ?_)
  rw [if_pos (by decide)]
  refine wpAny_bind (sliceApplied_gen hs pl pu ?_)
  have hno : ¬ ((((sIx items.size 0 lo : Nat) : Int) == 0 && (1 : Int) == 1 && (sIx items.size items.size hi - sIx items.size 0 lo) == items.size) = true) := by
    intro q
    rw [Bool.and_eq_true, Bool.and_eq_true] at q
    have q1 : ((sIx items.size 0 lo : Nat) : Int) = 0 := eq_of_beq q.1.1
    have q2 : sIx items.size items.size hi - sIx items.size 0 lo = items.size := eq_of_beq q.2
    exact hw ⟨by omega, by omega⟩
  show wpAny _ _ (if (((sIx items.size 0 lo : Nat) : Int) == 0 && (1 : Int) == 1 && (sIx items.size items.size hi - sIx items.size 0 lo) == items.size) = true then _ else _) _ _ s
  rw [if_neg hno, pick_gen]
  first
    | exact wpAny_bind (m := Builtin.Tuple.tupleExact _) (wpAny_newObj_type (wpAny_pure ⟨_, rfl, wpAny_pure h⟩) htake)
    | exact wpAny_bind (m := Builtin.Tuple.tupleExact _) (wpAny_newObj_type (wpAny_bind (wpAny_pure (wpAny_pure ⟨_, rfl, wpAny_pure h⟩))) htake)
    | exact wpAny_bind (wpAny_bind (m := Builtin.Tuple.tupleExact _) (wpAny_newObj_type (wpAny_pure (wpAny_pure ⟨_, rfl, wpAny_pure h⟩)) htake))
    | exact wpAny_bind (wpAny_bind (m := Builtin.Tuple.tupleExact _) (wpAny_newObj_type (wpAny_pure ⟨_, rfl, wpAny_pure h⟩) htake))
end
end HT
namespace L2
open PySem PySem.Spec PyProof.Rows
abbrev TO := St → Hp → (Option Int → Hp → Prop) → Prop
section
variable {X : Cx} {e : Expr} {te : TE} {lo hi : Option Expr} {tl th : TO} {pos p2 : Pos}
noncomputable def SlR (X : Cx) (r : V → Option Int → Option Int → Hp → VK → Prop) : Prop :=
  ∀ (pins : List (Addr × Obj)) (s : Shared) (σ : St) (H : Hp) (x : V) (v vl vu : Value) (lo hi : Option Int) (sl : Addr) (Q : VK), Inv X pins σ H s → RelV x v → s.heap.IsSliceOf sl vl vu .none → IsPart vl lo → IsPart vu hi → r x lo hi H Q →
    ∃ T id, typeLookup (.type T) "__getitem__" = pure (some (.builtin id)) ∧ s.TypeIs v T ∧ wpAny (model X.prog X.w) X.A (getItem v (.ref sl)) (EP X pins σ Q) X.xe s
theorem SlR.or {r r' : V → Option Int → Option Int → Hp → VK → Prop} (h : SlR X r) (h' : SlR X r') : SlR X (fun x lo hi H Q => r x lo hi H Q ∨ r' x lo hi H Q) := by
  intro pins s σ H x v vl vu lo hi sl Q I rx hs pl pu q
  rcases q with q | q
  · exact h pins s σ H x v vl vu lo hi sl Q I rx hs pl pu q
  · exact h' pins s σ H x v vl vu lo hi sl Q I rx hs pl pu q
noncomputable def cutV (xs : List V) (lo hi : Option Int) : List V := (xs.drop (HT.sIx xs.length 0 lo)).take (HT.sIx xs.length xs.length hi - HT.sIx xs.length 0 lo)
theorem cutV_length (xs : List V) (lo hi : Option Int) : (cutV xs lo hi).length ≤ xs.length := by
  unfold cutV
  rw [List.length_take, List.length_drop]
  omega
noncomputable def rSlT (K : PySem.W.Frag) : V → Option Int → Option Int → Hp → VK → Prop := fun x lo hi H Q => ∃ a xs, x = .ref a ∧ SqT K H a xs ∧
  ¬ (HT.sIx xs.length 0 lo = 0 ∧ HT.sIx xs.length xs.length hi = xs.length) ∧ ∀ p, H p = none → Q (.ref p) (upd H p (.tup (cutV xs lo hi)))
theorem sl_tup : SlR X (rSlT X.K) := by
  intro pins s σ H x v vl vu lo hi sl Q I rx hs pl pu h
  obtain ⟨a, xs, rfl, hx, hw, q⟩ := h
  cases rx
  obtain ⟨its, r, ht, hz⟩ := I.tuple hx
  have hlen : its.toArray.size = xs.length := by rw [List.size_toArray]; exact r.length.symm
  refine ⟨"tuple", _, PyProof.Rows.slot_tuple_getitem.lookup, ht.typeIs, ?_⟩
  refine HT.getItem_tuple_cut ht hs pl pu (by rw [hlen]; exact hw) ?_ (by rw [hlen]; exact hz)
  rw [hlen]
  refine ⟨.ref s.heap.objs.size, _, I.laid (t' := s.toks) (o := .tup (cutV xs lo hi)) (fun b ob q => Heap.get?_push_of_some _ q) (Nat.le_refl _) ?_, rfl, q _ (I.hok.fresh (Nat.le_refl _))⟩
  exact ⟨Nat.le_trans (cutV_length xs lo hi) hz, _, (r.drop (HT.sIx xs.length 0 lo)).take (HT.sIx xs.length xs.length hi - HT.sIx xs.length 0 lo), IsTup.new _ _⟩
noncomputable def rCatT (K : PySem.W.Frag) : R2 := fun x y H Q => ∃ a b xs ys, x = .ref a ∧ y = .ref b ∧ SqT K H a xs ∧ SqT K H b ys ∧ xs ≠ [] ∧ xs.length + ys.length ≤ sizeLine ∧
  (ys = [] → Q (.ref a) H) ∧ (ys ≠ [] → ∀ p, H p = none → Q (.ref p) (upd H p (.tup (xs ++ ys))))
theorem Vals.nil_iff {xs : List V} {us : List Value} (r : Vals xs us) : us = [] ↔ xs = [] := by
  cases r with
  | nil => simp
  | cons _ _ => simp
theorem op_catT : OpR X (binaryOp .Add) (rCatT X.K) := by
  intro pins s σ H x y v u Q I rx ry h
  obtain ⟨a, b, xs, ys, rfl, rfl, ha, hb, hx, hz, q1, q2⟩ := h
  cases rx
  cases ry
  obtain ⟨its, r1, p1, _⟩ := I.tuple ha
  obtain ⟨its2, r2, p2, _⟩ := I.tuple hb
  refine HT.cat_tup p1 p2 (fun z => hx (r1.nil_iff.mp z)) (fun z => ⟨.ref a, H, I, rfl, q1 (r2.nil_iff.mp z)⟩) (fun z => ?_) (by rw [← r1.length, ← r2.length]; exact hz)
  refine ⟨.ref s.heap.objs.size, _, I.laid (t' := s.toks) (o := .tup (xs ++ ys)) (fun b ob q => Heap.get?_push_of_some _ q) (Nat.le_refl _) ?_, rfl, q2 (fun w => z (r2.nil_iff.mpr w)) _ (I.hok.fresh (Nat.le_refl _))⟩
  exact ⟨by rw [List.length_append]; exact hz, _, r1.append r2, IsTup.new _ _⟩
end
end L2
namespace L2
open PySem PySem.Spec PyProof.Rows
noncomputable def ixN (n : Nat) (i : Int) : Option Nat := if 0 ≤ i then (if i < n then some i.toNat else none) else if -(n : Int) ≤ i then some (i + n).toNat else none
noncomputable def atI {α : Type} (xs : List α) (i : Int) : Option α := (ixN xs.length i).bind fun j => xs[j]?
theorem ixN_seq {n : Nat} {i : Int} {j : Nat} (h : ixN n i = some j) : seqIndex? i n = some j ∧ j < n ∧ -(n : Int) ≤ i ∧ i < n := by
  unfold ixN at h
  by_cases h0 : 0 ≤ i
  · rw [if_pos h0] at h
    by_cases h1 : i < n
    · rw [if_pos h1] at h
      have e : i.toNat = j := Option.some.inj h
      exact ⟨by rw [seqIndex_of h0 h1, e], by omega, by omega, h1⟩
    · rw [if_neg h1] at h; cases h
  · rw [if_neg h0] at h
    by_cases h1 : -(n : Int) ≤ i
    · rw [if_pos h1] at h
      have e : (i + n).toNat = j := Option.some.inj h
      exact ⟨by rw [seqIndex_neg (by omega) h1, e], by omega, h1, by omega⟩
    · rw [if_neg h1] at h; cases h
theorem atI_get {α : Type} {xs : List α} {i : Int} {v : α} (h : atI xs i = some v) : ∃ j, seqIndex? i xs.length = some j ∧ xs[j]? = some v ∧ j < xs.length ∧ -(xs.length : Int) ≤ i ∧ i < xs.length := by
  unfold atI at h
  cases e : ixN xs.length i with
  | none => rw [e] at h; cases h
  | some j =>
    rw [e] at h
    obtain ⟨h1, h2, h3, h4⟩ := ixN_seq e
    exact ⟨j, h1, h, h2, h3, h4⟩
noncomputable def PlainIx (b : Expr) : Prop := ∀ o i, subscripted b false o i = operate [o, i] (getItem o i)
noncomputable def IxR (X : Cx) (r : R2) : Prop :=
  ∀ (value slice : Expr) (pins : List (Addr × Obj)) (s : Shared) (σ : St) (H : Hp) (x y : V) (v u : Value) (Q : VK), Inv X pins σ H s → RelV x v → RelV y u → r x y H Q →
    subscripted slice false v u = operate [v, u] (getItem v u) → wpAny (model X.prog X.w) X.A (subscriptTail value slice v u) (EP X pins σ Q) X.xe s
noncomputable def MtR (X : Cx) (id : String) (r : V → List V → Hp → VK → Prop) : Prop :=
  ∀ (pins : List (Addr × Obj)) (s : Shared) (σ : St) (H : Hp) (x : V) (xs : List V) (v : Value) (us : List Value) (Q : VK), Inv X pins σ H s → RelV x v → Vals xs us → r x xs H Q →
    wpAny (model X.prog X.w) X.A (call (.builtin id) (v :: us)) (EP X pins σ Q) X.xe s
section
variable {X : Cx} {a b : Expr} {ta tb : TE} {pos : Pos}
theorem IxR.or {r r' : R2} (h : IxR X r) (h' : IxR X r') : IxR X (fun x y H Q => r x y H Q ∨ r' x y H Q) := by
  intro value slice pins s σ H x y v u Q I rx ry q hs
  rcases q with q | q
  · exact h value slice pins s σ H x y v u Q I rx ry q hs
  · exact h' value slice pins s σ H x y v u Q I rx ry q hs
theorem MtR.or {id : String} {r r' : V → List V → Hp → VK → Prop} (h : MtR X id r) (h' : MtR X id r') : MtR X id (fun x xs H Q => r x xs H Q ∨ r' x xs H Q) := by
  intro pins s σ H x xs v us Q I rx rs q
  rcases q with q | q
  · exact h pins s σ H x xs v us Q I rx rs q
  · exact h' pins s σ H x xs v us Q I rx rs q
noncomputable def rIxL (K : PySem.W.Frag) : R2 := fun x y H Q => ∃ p xs i v, x = .ref p ∧ y = .int i ∧ SqL K H p xs ∧ atI xs i = some v ∧ Q v H
noncomputable def rIxT (K : PySem.W.Frag) : R2 := fun x y H Q => ∃ p xs i v, x = .ref p ∧ y = .int i ∧ SqT K H p xs ∧ atI xs i = some v ∧ Q v H
noncomputable def rIxS : R2 := fun x y H Q => ∃ z i c, x = .str z ∧ y = .int i ∧ z.length ≤ sizeLine ∧ atI z.cps.toList i = some c ∧ Q (.str ⟨#[c]⟩) H
theorem ix_list : IxR X (rIxL X.K) := by
  intro value slice pins s σ H x y v u Q I rx ry h hs
  obtain ⟨p, xs, i, z, rfl, rfl, hq, he, q⟩ := h
  cases rx
  obtain ⟨t, rfl⟩ := ry
  obtain ⟨its, r, pl, hz⟩ := I.list hq
  obtain ⟨j, h1, h2, h3, h4, h5⟩ := atI_get he
  obtain ⟨w, ew, rw'⟩ := r.get h2
  have hl := r.length
  have hn := line63
  have fin : EP X pins σ Q w s := ⟨z, H, I, rw', q⟩
  by_cases h0 : 0 ≤ i
  · have hj : i.toNat = j := by
      rw [seqIndex_of h0 h5] at h1
      exact Option.some.inj h1
    exact item_listR pl.isList h0 (by omega) (by rw [hj]; simpa using ew) fin hs
  · have hj : (i + (its.toArray.size : Int)).toNat = j := by
      rw [seqIndex_neg (by omega) h4] at h1
      rw [List.size_toArray, ← hl]
      exact Option.some.inj h1
    exact subscriptTail_builtinR (x := w) pl.isList.typeIs slot_list_getitem.lookup
      (wpAny_getItem_list_neg (Q := fun r s' => r = w ∧ EP X pins σ Q r s') pl.isList (by omega) (by rw [List.size_toArray] <;> omega) (by omega) (by rw [hj]; simpa using ew) ⟨rfl, fin⟩) hs
theorem ix_tup : IxR X (rIxT X.K) := by
  intro value slice pins s σ H x y v u Q I rx ry h hs
  obtain ⟨p, xs, i, z, rfl, rfl, hq, he, q⟩ := h
  cases rx
  obtain ⟨t, rfl⟩ := ry
  obtain ⟨its, r, pl, hz⟩ := I.tuple hq
  obtain ⟨j, h1, h2, h3, h4, h5⟩ := atI_get he
  obtain ⟨w, ew, rw'⟩ := r.get h2
  have hl := r.length
  have hn := line63
  have fin : EP X pins σ Q w s := ⟨z, H, I, rw', q⟩
  exact subscriptTail_builtinR (x := w) pl.typeIs slot_tuple_getitem.lookup
    (getItem_tuple (j := j) (Q := fun r s' => r = w ∧ EP X pins σ Q r s') pl (by omega) (by omega) (by rw [List.size_toArray, ← hl]; exact h1) (by simpa using ew) ⟨rfl, fin⟩) hs
theorem ix_str : IxR X rIxS := by
  intro value slice pins s σ H x y v u Q I rx ry h hs
  obtain ⟨z, i, c, rfl, rfl, hz, he, q⟩ := h
  obtain ⟨t, rfl⟩ := rx
  obtain ⟨t', rfl⟩ := ry
  obtain ⟨j, h1, h2, h3, h4, h5⟩ := atI_get he
  have hl : z.cps.toList.length = z.length := by simp [Str.length]
  rw [hl] at h1 h4 h5
  have hn := line63
  exact tail_any (typeIs_str s z t) slot_str_getitem.lookup (getItem_str (c := c) (by
    have e1 : decide (i < -(2 ^ 63 : Int)) = false := decide_eq_false (by omega)
    have e2 : decide (i ≥ 2 ^ 63) = false := decide_eq_false (by omega)
    rw [e1, e2, Bool.or_false]) (by rw [h1]; simpa using h2) ⟨.str ⟨#[c]⟩, H, I.tok _, ⟨_, rfl⟩, q⟩) hs
noncomputable def rIx (K : PySem.W.Frag) : R2 := fun x y H Q => rIxL K x y H Q ∨ rIxT K x y H Q ∨ rIxS x y H Q
theorem ix_seq : IxR X (rIx X.K) := ix_list.or (ix_tup.or ix_str)
theorem mapSeq_set (its : List Value) (n j : Nat) (u : Value) : Obj.mapSeq (·.setIfInBounds j u) { cls := .type "list", data := .seq its.toArray n } = { cls := .type "list", data := .seq (its.set j u).toArray n } := by
  simp [Obj.mapSeq]
theorem Inv.lst {pins : List (Addr × Obj)} {σ : St} {H : Hp} {s : Shared} {p : Addr} {xs : List V} (I : Inv X pins σ H s) (h : H p = some (.lst xs)) :
    ∃ (its : List Value) (n : Nat), Vals xs its ∧ s.heap.get? p = some { cls := .type "list", data := .seq its.toArray n } ∧ xs.length ≤ sizeLine := by
  obtain ⟨z, its, n, r, e⟩ := I.hok p _ h
  exact ⟨its, n, r, e, z⟩
theorem Inv.lstUpd {pins : List (Addr × Obj)} {σ : St} {H : Hp} {s : Shared} {p : Addr} {xs ys : List V} {its its' : List Value} {n n' : Nat} {f : Obj → Obj} (I : Inv X pins σ H s) (h : H p = some (.lst xs))
    (ho : s.heap.get? p = some { cls := .type "list", data := .seq its.toArray n }) (hf : f { cls := .type "list", data := .seq its.toArray n } = { cls := .type "list", data := .seq its'.toArray n' }) (r : Vals ys its') (hz : ys.length ≤ sizeLine) (t : Nat) :
    Inv X pins σ (upd H p (.lst ys)) { s with heap := s.heap.update p f, toks := t } := by
  have e : (s.heap.update p f).get? p = some { cls := .type "list", data := .seq its'.toArray n' } := by
    rw [Heap.get?_update_self f ho (by rw [hf] <;> rfl), hf]
  refine I.write (x := p) (e := p) (by rw [h]; trivial) (.inl rfl) (fun b u hb q => (Heap.get?_update_other _ _ (Ne.symm hb)).trans q) ⟨_, e⟩ ?_
  exact ⟨hz, its', n', r, e⟩
noncomputable def rSetL : V → V → V → Hp → (Hp → Prop) → Prop := fun o i v H Q => ∃ p xs k j, o = .ref p ∧ i = .int k ∧ H p = some (.lst xs) ∧ ixN xs.length k = some j ∧ Q (upd H p (.lst (xs.set j v)))
theorem set_list : PSet X rSetL := by
  intro pins s σ H o i v ov iv u Q I ro ri rv h
  obtain ⟨p, xs, k, j, rfl, rfl, hp, hj, q⟩ := h
  cases ro
  obtain ⟨t, rfl⟩ := ri
  obtain ⟨its, n, r, ho, hz⟩ := I.lst hp
  obtain ⟨h1, h2, h3, h4⟩ := ixN_seq hj
  have hl := r.length
  have hn := line63
  have I' : Inv X pins σ (upd H p (.lst (xs.set j v))) { s with heap := s.heap.update p (Obj.mapSeq (·.setIfInBounds j u)) } :=
    I.lstUpd hp ho (mapSeq_set its n j u) (r.set rv j) (by rw [List.length_set]; exact hz) s.toks
  by_cases h0 : 0 ≤ k
  · have hk : k.toNat = j := by
      rw [seqIndex_of h0 h4] at h1
      exact Option.some.inj h1
    exact PySem.W.ki_setAt ho h0 (by omega) (by rw [List.size_toArray, ← hl]; exact h4) (by rw [hk]; exact ⟨_, I', q⟩)
  · have hk : (k + (its.toArray.size : Int)).toNat = j := by
      rw [seqIndex_neg (by omega) h3] at h1
      rw [List.size_toArray, ← hl]
      exact Option.some.inj h1
    exact PySem.W.ki_setBack ho (by omega) (by rw [List.size_toArray, ← hl]; exact h3) (by omega) (by rw [hk]; exact ⟨_, I', q⟩)
theorem slice_bounds (lo hi : Option Int) (n : Nat) : (sliceBounds lo hi none n).1 = ((HT.sIx n 0 lo : Nat) : Int) ∧ (sliceBounds lo hi none n).2.1 = ((HT.sIx n n hi : Nat) : Int) ∧ (sliceBounds lo hi none n).2.2 = 1 := by
  refine ⟨?_, ?_, rfl⟩
  · cases lo with
    | none => simp [sliceBounds, HT.sIx]
    | some i =>
      simp only [sliceBounds, HT.sIx, Option.getD_none, show (1 : Int) > 0 by decide, if_true]
      by_cases h : i < 0
      · simp only [h, if_true] <;> omega
      · simp only [h, if_false] <;> omega
  · cases hi with
    | none => simp [sliceBounds, HT.sIx]
    | some i =>
      simp only [sliceBounds, HT.sIx, Option.getD_none, show (1 : Int) > 0 by decide, if_true]
      by_cases h : i < 0
      · simp only [h, if_true] <;> omega
      · simp only [h, if_false] <;> omega
theorem slicePick_cut (its : List Value) (lo hi : Option Int) : slicePick its.toArray lo hi none = ((its.drop (HT.sIx its.length 0 lo)).take (HT.sIx its.length its.length hi - HT.sIx its.length 0 lo)).toArray := by
  obtain ⟨h1, h2, h3⟩ := slice_bounds lo hi its.toArray.size
  unfold slicePick
  rw [h1, h2, h3]
  simp only [sliceRange_one, pick_run, List.size_toArray] <;> rfl
noncomputable def rSlL (K : PySem.W.Frag) : V → Option Int → Option Int → Hp → VK → Prop := fun x lo hi H Q => ∃ a xs, x = .ref a ∧ SqL K H a xs ∧ ∀ p, H p = none → Q (.ref p) (upd H p (.lst (cutV xs lo hi)))
theorem sl_list : SlR X (rSlL X.K) := by
  intro pins s σ H x v vl vu lo hi sl Q I rx hs pl pu h
  obtain ⟨a, xs, rfl, hx, q⟩ := h
  cases rx
  obtain ⟨its, r, ht, hz⟩ := I.list hx
  have hlen := r.length
  refine ⟨"list", _, slot_list_getitem.lookup, ht.isList.typeIs, ?_⟩
  refine wpAny_getItem_list_slice ht.isList hs pl pu .none (by simp) ?_ (by rw [List.size_toArray] <;> omega)
  rw [slicePick_cut, ← hlen]
  refine ⟨.ref s.heap.objs.size, _, I.laid (t' := s.toks) (o := .lst (cutV xs lo hi)) (fun b ob q => Heap.get?_push_of_some _ q) (Nat.le_refl _) ?_, rfl, q _ (I.hok.fresh (Nat.le_refl _))⟩
  exact ⟨Nat.le_trans (cutV_length xs lo hi) hz, _, 0, (r.drop (HT.sIx xs.length 0 lo)).take (HT.sIx xs.length xs.length hi - HT.sIx xs.length 0 lo), Heap.get?_push_size _ rfl⟩
theorem CallR.or {f : Value} {r r' : List V → Hp → VK → Prop} (h : CallR X f r) (h' : CallR X f r') : CallR X f (fun xs H Q => r xs H Q ∨ r' xs H Q) := by
  intro pins s σ H xs us Q I rs q
  rcases q with q | q
  · exact h pins s σ H xs us Q I rs q
  · exact h' pins s σ H xs us Q I rs q
theorem call_tuple_of : CallR X (.type "tuple") (fun xs H Q => ∃ p ys, xs = [.ref p] ∧ ((SqL X.K H p ys ∧ ∀ l, H l = none → Q (.ref l) (upd H l (.tup ys))) ∨ (SqT X.K H p ys ∧ Q (.ref p) H))) := by
  intro pins s σ H xs us Q I r h
  obtain ⟨p, ys, rfl, h⟩ := h
  obtain ⟨u, rfl, rx⟩ := vals1 r
  cases rx
  rcases h with ⟨hq, q⟩ | ⟨hq, q⟩
  · obtain ⟨its, r', pl, hz⟩ := I.list hq
    have hlen := r'.length
    refine call_tuple_list pl.isList (fun h' kp => ?_) (by simp only [List.size_toArray] <;> omega)
    have I1 : Inv X pins σ H { s with heap := h' } := I.kept (t' := s.toks) kp
    have I2 : Inv X pins σ (upd H h'.objs.size (.tup ys)) { s with heap := h'.push { cls := .type "tuple", data := .seq its.toArray } } :=
      I1.laid (t' := s.toks) (fun b o e => Heap.get?_push_of_some _ e) (Nat.le_refl _) (show ObjOk X.prog X.w _ _ _ (.tup ys) from ⟨hz, its, r', IsTup.new _ _⟩)
    exact ⟨.ref h'.objs.size, _, I2, rfl, q _ (I1.hok.fresh (Nat.le_refl _))⟩
  · obtain ⟨its, r', pl, hz⟩ := I.tuple hq
    exact call_tuple_same pl ⟨.ref p, H, I, rfl, q⟩
noncomputable def tyV (K : PySem.W.Frag) (T : String) (x : V) (H : Hp) : Prop := match x with
  | .str _ => T = "str"
  | .int _ => T = "int"
  | .ref p => (T = "list" ∧ ∃ xs, SqL K H p xs) ∨ (T = "tuple" ∧ ∃ o, K.lookup p = some o ∧ o.cls = .type "tuple" ∧ o.dict = none) ∨
      (T = "dict" ∧ ((∃ kvs, H p = some (.dK kvs)) ∨ ∃ kvs, H p = some (.dT kvs))) ∨ (T = "set" ∧ ∃ S n, H p = some (.set S n))
  | _ => False
theorem tyV_is {pins : List (Addr × Obj)} {σ : St} {H : Hp} {s : Shared} {T : String} {x : V} {v : Value} (I : Inv X pins σ H s) (r : RelV x v) (ty : tyV X.K T x H) :
    s.TypeIs v T ∧ ∀ a, v = .ref a → ∃ ob, s.heap.get? a = some ob ∧ ob.dict = none := by
  cases x with
  | str z =>
    obtain ⟨t, rfl⟩ := r
    cases (show T = "str" from ty)
    exact ⟨typeIs_str s z t, fun _ e => nomatch e⟩
  | int i =>
    obtain ⟨t, rfl⟩ := r
    cases (show T = "int" from ty)
    exact ⟨typeIs_int s i t, fun _ e => nomatch e⟩
  | ref p =>
    cases r
    rcases ty with ⟨rfl, xs, hq⟩ | ⟨rfl, o, hk, hc, hd⟩ | ⟨rfl, hk⟩ | ⟨rfl, S, n, hk⟩
    · obtain ⟨its, _, pl, _⟩ := I.list hq
      refine ⟨pl.isList.typeIs, fun a e => ?_⟩
      cases e
      obtain ⟨o, n, e, c, hd, _⟩ := pl
      exact ⟨o, e, hd⟩
    · refine ⟨⟨o, I.kIn p o hk, hc⟩, fun a e => ?_⟩
      cases e
      exact ⟨o, I.kIn _ o hk, hd⟩
    · have z : ∃ o, s.heap.get? p = some o ∧ o.ExactDict := by
        rcases hk with ⟨kvs, hk⟩ | ⟨kvs, hk⟩
        · obtain ⟨_, _, _, _, o, _, _, e, ex, _⟩ := I.hok p _ hk
          exact ⟨o, e, ex⟩
        · obtain ⟨_, _, _, _, o, _, _, e, ex, _⟩ := I.hok p _ hk
          exact ⟨o, e, ex⟩
      obtain ⟨o, e, ex⟩ := z
      refine ⟨⟨o, e, ex.1⟩, fun a e2 => ?_⟩
      cases e2
      exact ⟨o, e, ex.2.1⟩
    · obtain ⟨o, _, _, _, e, ex, _⟩ := I.hok p _ hk
      refine ⟨⟨o, e, ex.1⟩, fun a e2 => ?_⟩
      cases e2
      exact ⟨o, e, ex.2.1⟩
  | _ => exact False.elim ty
variable {o e : Expr} {es : List Expr} {to : TE} {t : TA} {name : Str} {apos cpos : Pos} {T id : String} {r : V → List V → Hp → VK → Prop}
end
end L2
namespace L2
open PySem PySem.Spec PyProof.Rows
theorem Vals.one : ∀ {x : V} {us : List Value}, Vals [x] us → ∃ u, us = [u] ∧ RelV x u
  | _, _, .cons r .nil => ⟨_, rfl, r⟩
theorem Vals.two : ∀ {x y : V} {us : List Value}, Vals [x, y] us → ∃ u v, us = [u, v] ∧ RelV x u ∧ RelV y v
  | _, _, _, .cons r (.cons q .nil) => ⟨_, _, rfl, r, q⟩
theorem Vals.zero : ∀ {us : List Value}, Vals [] us → us = []
  | _, .nil => rfl
theorem Vals.reverse {xs : List V} {us : List Value} (h : Vals xs us) : Vals xs.reverse us.reverse := by
  induction h with
  | nil => exact .nil
  | cons r t ih => rw [List.reverse_cons, List.reverse_cons]; exact Vals.append ih (.cons r .nil)
theorem Vals.rep {xs : List V} {us : List Value} (h : Vals xs us) : ∀ k : Nat, Vals (List.replicate k xs).flatten (List.replicate k us).flatten
  | 0 => .nil
  | k + 1 => by
    rw [List.replicate_succ, List.replicate_succ, List.flatten_cons, List.flatten_cons]
    exact Vals.append h (Vals.rep h k)
theorem foldl_rep (its : List Value) : ∀ (k : Nat) (acc : List Value),
    List.foldl (fun x1 x2 => x1 ++ x2) acc.toArray (List.replicate k its.toArray) = (acc ++ (List.replicate k its).flatten).toArray
  | 0, acc => by simp
  | k + 1, acc => by
    have e : acc.toArray ++ its.toArray = (acc ++ its).toArray := by simp
    have e2 : (acc ++ its) ++ (List.replicate k its).flatten = acc ++ (List.replicate (k + 1) its).flatten := by
      rw [List.replicate_succ, List.flatten_cons, List.append_assoc]
    rw [← e2, ← foldl_rep its k (acc ++ its), ← e, List.replicate_succ, List.foldl_cons]
section
variable {X : Cx} {pins : List (Addr × Obj)} {σ : St} {H : Hp} {s : Shared} {l b : Addr} {xs ys zs : List V}
theorem Inv.lset {its its' : List Value} {n : Nat} {f : Array Value → Array Value} {t' : Nat} (I : Inv X pins σ H s) (hH : H l = some (.lst xs))
    (e : s.heap.get? l = some { cls := .type "list", data := .seq its.toArray n }) (hf : f its.toArray = its'.toArray) (hv : Vals ys its') (hz : ys.length ≤ sizeLine) :
    Inv X pins σ (upd H l (.lst ys)) { s with heap := s.heap.update l (Obj.mapSeq f), toks := t' } := by
  have q := PySem.IsL.update e f
  rw [hf] at q
  refine I.write (x := l) (e := l) (by rw [hH]; exact trivial) (.inl rfl) (fun b' u hb hu => (Heap.get?_update_other s.heap (Obj.mapSeq f) (Ne.symm hb)).trans hu) ⟨_, q⟩ ?_
  exact ⟨hz, its', _, hv, q⟩
theorem Inv.fresh (I : Inv X pins σ H s) : H s.heap.objs.size = none := I.hok.fresh (Nat.le_refl _)
end
section
variable {X : Cx}
theorem len_rep {α : Type} (xs : List α) (k : Nat) : (List.replicate k xs).flatten.length = k * xs.length := by
  induction k with
  | zero => simp
  | succ k ih => rw [List.replicate_succ, List.flatten_cons, List.length_append, ih, Nat.succ_mul, Nat.add_comm]
end
section
variable {prog : Program} {w : World} {A : Around} {E : Value → Shared → Prop} {s : Shared}
end
section
variable {X : Cx}
end
end L2
namespace Att
open PySem PySem.W PySem.Calls PyProof.Rows
theorem ints_of_wellAll {P : Params} {h : Heap} : ∀ (ns : List Int) (vs : List Value), WellAll P h vs (ns.map WData.int) → IntsAre vs ns := by
  intro ns
  induction ns with
  | nil =>
    intro vs w
    rw [List.map_nil] at w
    cases w
    exact .nil
  | cons n ns ih =>
    intro vs w
    rw [List.map_cons] at w
    cases w with
    | cons a b =>
      cases a
      exact .cons _ _ (ih _ b)
theorem script_of {l : OpenLaw} {n : Nat} (hn : l.most = some n) {P : Params} {h : Heap} {args : List WData} {vals : List Value}
    (hpre : l.row.toRowW.claim.pre args = true) (hwl : WellAll P h vals args) :
    ∃ a vs ns, vals = [Value.ref a] ∧ args = [WData.list (ns.map WData.int)] ∧ h.get? a = some { cls := .type "list", data := .seq vs.toArray } ∧ IntsAre vs ns ∧ ns.length ≤ n := by
  have hsh : WShape.hasAll [] args [.list .int] = true := (pre_splitW hpre).1
  have hc : l.pre.holds [] { args := args } = true := (pre_splitW hpre).2
  obtain ⟨d, r, rfl, h1, h2⟩ := hasAllW_cons hsh
  obtain rfl := hasAllW_nil h2
  obtain ⟨xs, rfl, h3⟩ := hasW_list h1
  obtain ⟨ns, rfl⟩ := items_int h3
  have hlen : ns.length ≤ n := by
    unfold OpenLaw.pre at hc
    have h4 : (WTm.not (.lt (.lit (.int (n : Int))) (.len (.arg 0)))).holds [] { args := [.list (ns.map .int)] } = true := by
      have h4 := (holds_andW hc).1
      rw [hn] at h4
      exact h4
    have h5 := condW_of h4 (w_not (w_lt w_lit (w_len_list (w_arg rfl))))
    rw [List.length_map] at h5
    refine Nat.le_of_not_lt fun q => ?_
    have q' : (n : Int) < ((ns.length : Nat) : Int) := by omega
    first
      | (rw [decide_eq_true q'] at h5; exact absurd h5 (by decide))
      | (simp at h5; omega)
  cases hwl with
  | cons w1 w2 =>
    cases w2
    cases w1 with
    | list ho hall => exact ⟨_, _, ns, rfl, rfl, ho, ints_of_wellAll ns _ hall, hlen⟩
theorem post_true (l : OpenLaw) (args : List WData) : l.row.toRowW.claim.post args (.bool true) args = true :=
  postW_of (r := l.row.toRowW) (X := (true == true))
    (show WShape.has [] (.bool true) .bool = true by first | rfl | decide | simp [WShape.has, WShape.arms, WShape.armsAll])
    (show (WTm.eq .res (.lit (.bool true))).value [] { args := args, res := some (.bool true), after := args } = some (.bool (true == true)) from w_eq_bool (w_res rfl) w_lit) rfl
theorem attach_call {l : OpenLaw} {n : Nat} {q : Program} {loose : List Str} {XP : (Str → Option Value) → Heap → Prop} {YP : World → Heap → Prop} {d : DefRec}
    (hn : l.most = some n) (hdf : d.params.defaults = [])
    (call : ∀ (w : World) (s₀ s₁ : Shared) (mg mb : Str → Option Value) (fa : Addr) (o : Obj) (pm cd doc : Value) (a : Addr) (vs : List Value) (ns : List Int),
      Ground q loose [] XP w s₀ mg mb s₁.heap → YP w s₁.heap →
      s₁.heap.get? fa = some o → o.data = .func (docDef d.name d.params d.body d.scope pm cd doc) → s₁.heap.CodeRec cd d.name → mg d.name = some (.ref fa) →
      s₁.heap.get? a = some { cls := .type "list", data := .seq vs.toArray } → IntsAre vs ns → ns.length ≤ n → s₁.gens = #[] →
      codeAny (model l.prog w) callerA (.call (.ref fa) ⟨[.ref a], []⟩) (fun r s' => r = .ok (.ret (.bool true)) ∧ OldK s₁.heap s'.heap ∧ s'.os = s₁.os ∧ AllBare s'.gens) s₁) :
    WalkO q loose XP YP l.row.toRowW d [] (fun f vs => PySem.call f vs) := by
  intro w s₀ s₁ mg mb G Y fa o pm cd doc dV kV ho hd hcd hD hmg hg args vals as hpre hlay hrd hwl hlo
  obtain rfl : dV = .none := Dflts.none hD hdf
  obtain rfl : kV = .none := Dflts.noKw hD
  obtain ⟨a, vs, ns, rfl, rfl, hobj, hints, hlen⟩ := script_of hn hpre hwl
  refine enter_call (codeAny_mono (call w s₀ s₁ mg mb fa o pm cd doc a vs ns G Y ho (fd_plain hd) hcd hmg hobj hints hlen hg) fun r s' hq => ?_)
  obtain ⟨rfl, h2, h3, h4⟩ := hq
  exact ⟨.inl ⟨.bool true, .bool true, [], rfl, fun _ => rfl, .bool true, post_true l _, fun _ => ⟨List.Pairwise.nil, fun _ hm => (nomatch hm)⟩⟩, h2, h3, h4⟩
section
variable {prog : Program} {w : World} {A : Around} {E : Value → Shared → Prop} {s : Shared} {K : Frag}
end
end Att
namespace L2
open PySem PySem.Spec PyProof.Rows
theorem vals_ints : ∀ {vs : List Value} {ns : List Int}, IntsAre vs ns → Vals (ns.map V.int) vs
  | _, _, .nil => .nil
  | _, _, .cons n t h => .cons ⟨t, rfl⟩ (vals_ints h)
noncomputable def Only (H : Hp) : Prop := ∀ b, H b = none ∨ ∃ o xs, H b = some (.frz o (.lst xs))
theorem law_call {P : Program} {w : World} {K : PySem.W.Frag} {mg mb : Str → Option Value} {CX : CXT} {k : Nat} {fa a : Addr} {fd : FuncData} {x : Str} {sp : Sp} {s₁ : Shared} {vs : List Value} {ns : List Int}
    (KX : K.In s₁.heap) (hns : s₁.heap.Ns mainGlobals mg) (hb : s₁.heap.Ns builtinsNs mb) (hbb : ∀ x : Str, x ≠ "__name__" → mb x = bootBuiltins x) (hlim : s₁.heap.NoLimit) (hg : s₁.gens = #[])
    (ha : s₁.heap.get? a = some { cls := .type "list", data := .seq vs.toArray }) (hi : IntsAre vs ns) (hl : ns.length ≤ sizeLine) (hr : Room k callerA)
    (F : ∀ base : Heap, K.In base → base.Ns mainGlobals mg → FnOk P w K mg base CX k fa fd [x] sp) (hbind : ∀ (s : Shared) (u : Value), BindsTo s fd ⟨[u], []⟩ [(x, u)])
    (hsp : ∀ H : Hp, Only H → SqL K H a (ns.map V.int) → sp [.ref a] H (fun v _ => v = .bl true) fun _ _ _ => False)
    (hCX : ∀ H e s', CX [] H s₁ (fun _ _ _ => False) e s' → False) :
    codeAny (model P w) callerA (.call (.ref fa) ⟨[.ref a], []⟩) (fun r s' => r = .ok (.ret (.bool true)) ∧ OldK s₁.heap s'.heap ∧ s'.os = s₁.os ∧ AllBare s'.gens) s₁ := by
  have rv := vals_ints hi
  have lenV := hi.length
  have core : ∀ H : Hp, Only H → SqL K H a (ns.map V.int) → HOk P w H s₁.heap → (∀ b, H b ≠ none → b = a) → (H a ≠ none → K.lookup a = none) →
      codeAny (model P w) callerA (.call (.ref fa) ⟨[.ref a], []⟩) (fun r s' => r = .ok (.ret (.bool true)) ∧ OldK s₁.heap s'.heap ∧ s'.os = s₁.os ∧ AllBare s'.gens) s₁ := by
    intro H hO hS hok hA hK
    have base_of : ∀ {b : Addr} {o : Obj}, s₁.heap.get? b = some o → H b = none → (hidT s₁.heap H).get? b = some o := fun e n => hidT_get e n
    have noA : ∀ {b : Addr} {o : Obj} {es : Array DictEntry} {ep : Nat}, s₁.heap.get? b = some o → o.data = .dict es ep → H b = none := fun {b o es ep} e d => by
      cases q : H b with
      | none => rfl
      | some u =>
        have e' : b = a := hA b (by rw [q]; simp)
        subst e'
        rw [ha] at e; cases e
        have d' : Data.seq vs.toArray _ = Data.dict es ep := d
        cases d'
    have nsK : ∀ {b : Addr} {m : Str → Option Value}, s₁.heap.Ns b m → (hidT s₁.heap H).Ns b m := fun {b m} ⟨o, es, ep, e, d, r⟩ => ⟨o, es, ep, base_of e (noA e d), d, r⟩
    have hKb : K.In (hidT s₁.heap H) := fun b o e => base_of (KX b o e) (by
      cases q : H b with
      | none => rfl
      | some u =>
        have e' : b = a := hA b (by rw [q]; simp)
        subst e'
        rw [hK (by rw [q]; simp)] at e; cases e)
    have hM : Mod K mg (hidT s₁.heap H) := ⟨hKb, nsK hns, ⟨mb, nsK hb, hbb⟩, let ⟨mc, h1, h2⟩ := hlim; ⟨mc, nsK h1, h2⟩⟩
    have e0 : Env0 P w K mg (hidT s₁.heap H) callerA [] s₁ H := ⟨rfl, hM, fun b o e => of_hidT e, Nat.le_of_eq (hidT_size _ _), trivial, fun b hb => absurd (show b ∈ ([] : List Addr) from hb) (by simp), hok, .of_eq hg⟩
    refine codeAny_mono ((F _ hKb (nsK hns)).run callerA [] s₁ H ⟨[.ref a], []⟩ [.ref a] [.ref a] _ _ hr e0 (hbind s₁ (.ref a)) (.cons rfl .nil) (hsp H hO hS)) fun r s' h => ?_
    cases r with
    | error e => exact (hCX H e s' h).elim
    | ok fl =>
      cases fl with
      | next => exact False.elim h
      | brk => exact False.elim h
      | cont => exact False.elim h
      | ret u =>
        obtain ⟨v, H', os, bare, un, hok', r', q⟩ := h
        have q' : v = .bl true := q
        subst q'
        obtain rfl : u = Value.bool true := r'
        refine ⟨rfl, OldK.of_keep fun b o e => ?_, os, bare⟩
        cases q : H b with
        | none => exact un.keep b o e q (by intro z; exact absurd (show b ∈ ([] : List Addr) from z) (by simp)) (by simp)
        | some u =>
          rcases hO b with z | ⟨ob, xs, z⟩
          · rw [q] at z; cases z
          · have z2 := un.frzs b ob _ z
            obtain ⟨e1, _⟩ := hok b _ z
            obtain ⟨e2, _⟩ := hok' b _ z2
            rw [e] at e1; cases e1
            exact e2
  cases hk : K.lookup a with
  | some o =>
    have e := KX a o hk
    rw [ha] at e
    cases e
    refine core (fun _ => none) (fun _ => .inl rfl) (.inr ⟨_, vs.toArray, _, hk, rfl, rfl, rfl, by rw [List.size_toArray, lenV]; exact hl, by simpa using rv⟩) (fun b u z => by have z' : (none : Option HO) = some u := z; cases z') (fun b z => absurd rfl z) fun z => absurd rfl z
  | none =>
    refine core (fun b => if b = a then some (.frz { cls := .type "list", data := .seq vs.toArray } (.lst (ns.map V.int))) else none) (fun b => ?_) (.inl (.inr ⟨{ cls := .type "list", data := .seq vs.toArray }, if_pos rfl⟩)) (fun b u z => ?_) (fun b z => ?_) fun _ => hk
    · by_cases hb : b = a
      · exact .inr ⟨_, _, if_pos hb⟩
      · exact .inl (if_neg hb)
    · by_cases hb : b = a
      · have z' := (if_pos hb).symm.trans z
        cases z'
        subst hb
        exact ⟨ha, by rw [List.length_map]; exact hl, vs, _, rv, ha⟩
      · have z' := (if_neg hb).symm.trans z
        cases z'
    · by_cases hb : b = a
      · exact hb
      · exact absurd (if_neg hb) z
end L2
namespace L2
open PySem PySem.Spec PyProof.Rows
abbrev KOf {K : PySem.W.Frag} {h : Heap} (_ : K.In h) : PySem.W.Frag := K
theorem walk_of {l : PySem.W.OpenLaw} {n k : Nat} {q : Program} {loose : List Str} {XP : (Str → Option Value) → Heap → Prop} {YP : World → Heap → Prop} {d : DefRec} {K : Params → PySem.W.Frag} {CX : World → CXT} {sp : World → Sp} {x : Str}
    (hn : l.most = some n) (hn2 : n ≤ sizeLine) (hdf : d.params.defaults = []) (hr : Room k callerA)
    (hY : ∀ (w : World) (h : Heap), YP w h → (K w.params).In h)
    (F : ∀ (w : World) (mg : Str → Option Value) (fa : Addr) (h : Heap), (K w.params).In h → h.Ns mainGlobals mg → mg d.name = some (.ref fa) →
      ∃ fd : FuncData, (∀ (s : Shared) (u : Value), BindsTo s fd ⟨[u], []⟩ [(x, u)]) ∧
        ∀ base : Heap, (K w.params).In base → base.Ns mainGlobals mg → FnOk l.prog w (K w.params) mg base (CX w) k fa fd [x] (sp w))
    (hsp : ∀ (w : World) (H : Hp) (a : Addr) (ns : List Int), ns.length ≤ n → Only H → SqL (K w.params) H a (ns.map V.int) → sp w [.ref a] H (fun v _ => v = .bl true) fun _ _ _ => False)
    (hCX : ∀ (w : World) (H : Hp) (s : Shared) (e : Value) (s' : Shared), CX w [] H s (fun _ _ _ => False) e s' → False) :
    PySem.W.WalkO q loose XP YP l.row.toRowW d [] (fun f vs => PySem.call f vs) := by
  refine Att.attach_call hn hdf fun w s₀ s₁ mg mb fa o pm cd doc a vs ns G Y ho hd hcd hmg hobj hints hlen hg => ?_
  have KX := hY w _ Y
  obtain ⟨fd, hb, hF⟩ := F w mg fa _ KX G.T.g hmg
  exact law_call KX G.T.g G.T.b G.T.builtins G.T.nolimit hg hobj hints (Nat.le_trans hlen hn2) hr hF hb (fun H hO hS => hsp w H a ns hlen hO hS) fun H e s' => hCX w H s₁ e s'
end L2
namespace L2
open PySem PySem.Spec PyProof.Rows
noncomputable def defArgs (s : Stmt) : Arguments := match s with
  | .FunctionDef _ a _ _ _ _ _ _ _ _ => a
  | _ => { posonlyargs := [], args := [], vararg := none, kwonlyargs := [], kw_defaults := [], kwarg := none, defaults := [] }
noncomputable def defBody (s : Stmt) : List Stmt := match s with
  | .FunctionDef _ _ b _ _ _ _ _ _ _ => b
  | _ => []
noncomputable def defScope (s : Stmt) : Scope := match s with
  | .FunctionDef _ _ _ _ _ _ sc _ _ _ => sc
  | _ => { kind := .function, names := [], isGenerator := false, isCoroutine := false }
abbrev CX0 : CXT := fun _ _ _ _ _ _ => False
abbrev E0 : XK := fun _ _ _ => False
structure Fun (K : PySem.W.Frag) (x qual : Str) (st : Stmt) (f : Addr) (fd : FuncData) : Prop where
  ex : ∃ (oc : Value) (od : Option Addr) (kV doc pm : Value) (an : Option Addr) (cdv ct : Value) (osl : Array (Option Value)),
    fd = PySem.W.fnOf x qual (defArgs st) (defBody st) (defScope st) .none kV doc pm an cdv ct ∧ K.lookup f = some ⟨oc, od, .func fd, osl⟩ ∧ PySem.W.codeIn K cdv qual = true
  kp : PySem.W.keepIn K (.ref f) = true
section
variable {P : Program} {w : World} {K : PySem.W.Frag} {mg : Str → Option Value} {base : Heap}
theorem Fun.ok {x qual : Str} {st : Stmt} {f : Addr} {fd : FuncData} {N ps : List Str} {k : Nat} {sp : Sp} (F : Fun K x qual st f fd) (S : FnScope N ps (defScope st)) (len : ∀ vs H Q E, sp vs H Q E → vs.length = ps.length)
    (hbody : ∀ (cdv : Value) (A : Around) (outer : List Env) (s : Shared) (H : Hp) (vs : List V) (Q : VK) (E : XK), Room k (A.deeper (envOfC qual (defScope st) s.heap.objs.size f cdv)) → sp vs H Q E →
      ∃ t, PSs (cxOf CX0 P w K mg base N qual (defScope st) f cdv A outer s H E).nox (defBody st) t ∧ t { nx := fun _ H' => Q .non H', rt := Q } (start N vs) H) : FnOk P w K mg base CX0 (k + 1) f fd ps sp := by
  obtain ⟨oc, od, kV, doc, pm, an, cdv, ct, osl, rfl, lk, hcd⟩ := F.ex
  refine fn_of lk hcd S len fun A outer s H vs Q E hr hsp => ?_
  obtain ⟨t, h, q⟩ := hbody cdv A outer s H vs Q E hr hsp
  exact ⟨t, h.nox, q⟩
theorem Fun.binds {x qual : Str} {st : Stmt} {f : Addr} {fd : FuncData} {ps : List Str} (F : Fun K x qual st f fd)
    (h : ∀ (kV doc pm : Value) (an : Option Addr) (cdv ct : Value) (us : List Value), us.length = ps.length → bindArgs (PySem.W.fnOf x qual (defArgs st) (defBody st) (defScope st) .none kV doc pm an cdv ct) ⟨us, []⟩ = pure (ps.zip us)) : Binds K fd ps [] := by
  obtain ⟨oc, od, kV, doc, pm, an, cdv, ct, osl, rfl, lk, hcd⟩ := F.ex
  exact .all (h kV doc pm an cdv ct)
theorem fun_mk {x qual : Str} {st : Stmt} {f : Addr} {oc : Value} {od an : Option Addr} {osl : Array (Option Value)} {kV doc pm cdv ct : Value} (l : K.lookup f = some ⟨oc, od, .func (PySem.W.fnOf x qual (defArgs st) (defBody st) (defScope st) .none kV doc pm an cdv ct), osl⟩)
    (c : PySem.W.codeIn K cdv qual = true) (k : PySem.W.keepIn K (.ref f) = true) : Fun K x qual st f (PySem.W.fnOf x qual (defArgs st) (defBody st) (defScope st) .none kV doc pm an cdv ct) := ⟨⟨oc, od, kV, doc, pm, an, cdv, ct, osl, rfl, l, c⟩, k⟩
end
section
variable {X : Cx}
end
noncomputable def Same (H H' : Hp) : Prop := ∀ b o, H b = some o → H' b = some o
theorem Same.refl (H : Hp) : Same H H := fun _ _ h => h
theorem Same.trans {H H1 H2 : Hp} (a : Same H H1) (b : Same H1 H2) : Same H H2 := fun c o h => b c o (a c o h)
theorem Same.free {H H' : Hp} (e : Same H H') {l : Addr} (h : H' l = Option.none) : H l = Option.none := by
  cases q : H l with
  | none => rfl
  | some o =>
    rw [e l o q] at h
    cases h
theorem Same.seq {K : PySem.W.Frag} {H H' : Hp} {a : Addr} {xs : List V} (e : Same H H') (h : SqL K H a xs) : SqL K H' a xs := by
  rcases h with (h | ⟨o, h⟩) | h
  · exact .inl (.inl (e _ _ h))
  · exact .inl (.inr ⟨o, e _ _ h⟩)
  · exact .inr h
end L2
set_option Elab.async false
set_option linter.all false
set_option maxRecDepth 100000
namespace DL
open PySem PySem.Spec PyProof.Rows L2
abbrev St := L2.St
inductive D where
  | non
  | bl (b : Bool)
  | int (i : Int)
  | str (x : Str)
  | tup (ds : List D)
  | lst (ds : List D)
  | exc (c : Str)
structure Exn where
  cls : Str
inductive Res (α : Type) where
  | stuck
  | ok (a : α)
  | err (x : Exn)
noncomputable def Res.bind {α β : Type} (r : Res α) (f : α → Res β) : Res β := match r with
  | .stuck => .stuck
  | .ok a => f a
  | .err x => .err x
@[simp] theorem Res.bind_ok {α β : Type} (a : α) (f : α → Res β) : (Res.ok a).bind f = f a := rfl
@[simp] theorem Res.bind_stuck {α β : Type} (f : α → Res β) : (Res.stuck).bind f = .stuck := rfl
@[simp] theorem Res.bind_err {α β : Type} (x : Exn) (f : α → Res β) : (Res.err x).bind f = .err x := rfl
noncomputable def excAt (a C : Addr) (h : Heap) : Prop := ∃ o vs, h.get? a = some o ∧ o.cls = .ref C ∧ o.dict = none ∧ o.data = .fields vs
section
variable (K : PySem.W.Frag)
mutual
noncomputable def Rep (H : Hp) : D → V → Prop
  | .non, v => v = .non
  | .bl b, v => v = .bl b
  | .int i, v => v = .int i
  | .str x, v => v = .str x
  | .tup ds, v => ∃ a xs, v = .ref a ∧ SqT K H a xs ∧ Reps H ds xs
  | .lst ds, v => ∃ a xs, v = .ref a ∧ SqL K H a xs ∧ Reps H ds xs
  | .exc c, v => ∃ a C, v = .ref a ∧ PySem.W.nsIn K mainGlobals c = some (some (.ref C)) ∧ H a = some (.ext (excAt a C))
noncomputable def Reps (H : Hp) : List D → List V → Prop
  | [], xs => xs = []
  | d :: ds, xs => ∃ v vs, xs = v :: vs ∧ Rep H d v ∧ Reps H ds vs
end
end
theorem SqT_mono {K : PySem.W.Frag} {H H' : Hp} {a : Addr} {xs : List V} (e : Same H H') (h : SqT K H a xs) : SqT K H' a xs := by
  rcases h with (h | ⟨o, h⟩) | h
  · exact .inl (.inl (e _ _ h))
  · exact .inl (.inr ⟨o, e _ _ h⟩)
  · exact .inr h
mutual
theorem Rep.mono {K : PySem.W.Frag} {H H' : Hp} (e : Same H H') : ∀ {d : D} {v : V}, Rep K H d v → Rep K H' d v
  | .non, _, h => by rw [Rep] at h ⊢; exact h
  | .bl _, _, h => by rw [Rep] at h ⊢; exact h
  | .int _, _, h => by rw [Rep] at h ⊢; exact h
  | .str _, _, h => by rw [Rep] at h ⊢; exact h
  | .tup ds, _, h => by
    rw [Rep] at h ⊢
    obtain ⟨a, xs, e1, e2, e3⟩ := h
    exact ⟨a, xs, e1, SqT_mono e e2, Reps.mono e e3⟩
  | .lst ds, _, h => by
    rw [Rep] at h ⊢
    obtain ⟨a, xs, e1, e2, e3⟩ := h
    exact ⟨a, xs, e1, e.seq e2, Reps.mono e e3⟩
  | .exc _, _, h => by
    rw [Rep] at h ⊢
    obtain ⟨a, C, e1, e2, e3⟩ := h
    exact ⟨a, C, e1, e2, e _ _ e3⟩
theorem Reps.mono {K : PySem.W.Frag} {H H' : Hp} (e : Same H H') : ∀ {ds : List D} {vs : List V}, Reps K H ds vs → Reps K H' ds vs
  | [], _, h => by rw [Reps] at h ⊢; exact h
  | d :: ds, _, h => by
    rw [Reps] at h ⊢
    obtain ⟨v, vs, e1, e2, e3⟩ := h
    exact ⟨v, vs, e1, Rep.mono e e2, Reps.mono e e3⟩
end
theorem Reps.nil {K : PySem.W.Frag} {H : Hp} : Reps K H [] [] := by rw [Reps]
theorem Reps.cons {K : PySem.W.Frag} {H : Hp} {d : D} {v : V} {ds : List D} {vs : List V} (h : Rep K H d v) (t : Reps K H ds vs) : Reps K H (d :: ds) (v :: vs) := by
  rw [Reps]; exact ⟨v, vs, rfl, h, t⟩
theorem Reps.nil_of {K : PySem.W.Frag} {H : Hp} {xs : List V} (h : Reps K H [] xs) : xs = [] := by rw [Reps] at h; exact h
theorem Reps.cons_of {K : PySem.W.Frag} {H : Hp} {d : D} {ds : List D} {xs : List V} (h : Reps K H (d :: ds) xs) : ∃ v vs, xs = v :: vs ∧ Rep K H d v ∧ Reps K H ds vs := by rw [Reps] at h; exact h
theorem Reps.length {K : PySem.W.Frag} {H : Hp} : ∀ {ds : List D} {vs : List V}, Reps K H ds vs → vs.length = ds.length
  | [], _, h => by rw [h.nil_of]; rfl
  | d :: ds, _, h => by
    obtain ⟨v, vs, rfl, _, t⟩ := h.cons_of
    simp [Reps.length t]
theorem Reps.isEmpty {K : PySem.W.Frag} {H : Hp} {ds : List D} {vs : List V} (h : Reps K H ds vs) : vs.isEmpty = ds.isEmpty := by
  cases ds with
  | nil => rw [h.nil_of]; rfl
  | cons d ds => obtain ⟨v, vs, rfl, _, _⟩ := h.cons_of; rfl
theorem Reps.get {K : PySem.W.Frag} {H : Hp} : ∀ {ds : List D} {vs : List V} {i : Nat} {d : D}, Reps K H ds vs → ds[i]? = some d → ∃ v, vs[i]? = some v ∧ Rep K H d v
  | [], _, i, d, h, e => by simp at e
  | d' :: ds, _, 0, d, h, e => by
    obtain ⟨v, vs, rfl, r, t⟩ := h.cons_of
    simp at e; subst e
    exact ⟨v, by simp, r⟩
  | d' :: ds, _, i + 1, d, h, e => by
    obtain ⟨v, vs, rfl, r, t⟩ := h.cons_of
    simp at e
    obtain ⟨u, e1, e2⟩ := Reps.get t e
    exact ⟨u, by simpa using e1, e2⟩
theorem Reps.append {K : PySem.W.Frag} {H : Hp} : ∀ {ds es : List D} {vs ws : List V}, Reps K H ds vs → Reps K H es ws → Reps K H (ds ++ es) (vs ++ ws)
  | [], _, _, _, h, t => by rw [h.nil_of]; exact t
  | d :: ds, _, _, _, h, t => by
    obtain ⟨v, vs, rfl, r, q⟩ := h.cons_of
    exact Reps.cons r (Reps.append q t)
theorem Reps.take {K : PySem.W.Frag} {H : Hp} : ∀ (n : Nat) {ds : List D} {vs : List V}, Reps K H ds vs → Reps K H (ds.take n) (vs.take n)
  | 0, _, _, _ => by simpa using Reps.nil
  | n + 1, [], _, h => by rw [h.nil_of]; simpa using Reps.nil
  | n + 1, d :: ds, _, h => by
    obtain ⟨v, vs, rfl, r, q⟩ := h.cons_of
    simpa using Reps.cons r (Reps.take n q)
theorem Reps.drop {K : PySem.W.Frag} {H : Hp} : ∀ (n : Nat) {ds : List D} {vs : List V}, Reps K H ds vs → Reps K H (ds.drop n) (vs.drop n)
  | 0, _, _, h => by simpa using h
  | n + 1, [], _, h => by rw [h.nil_of]; simpa using Reps.nil
  | n + 1, d :: ds, _, h => by
    obtain ⟨v, vs, rfl, r, q⟩ := h.cons_of
    simpa using Reps.drop n q
inductive SV where
  | val (d : D)
  | arg (d : D)
  | own (ds : List D)
abbrev DS := List (Option SV)
noncomputable def SV.view : SV → D
  | .val d => d
  | .arg d => d
  | .own ds => .lst ds
noncomputable def RepSV (K : PySem.W.Frag) (G H : Hp) : SV → V → Prop
  | .val d, v => Rep K H d v
  | .arg d, v => Rep K G d v
  | .own ds, v => ∃ a xs, v = .ref a ∧ H a = some (.lst xs) ∧ Reps K H ds xs ∧ G a = none
structure RepSt (K : PySem.W.Frag) (G H : Hp) (σ : St) (δ : DS) : Prop where
  same : Same G H
  len : σ.length = δ.length
  at_ : ∀ (i : Nat) (sv : SV), δ[i]? = some (some sv) → ∃ v, σ[i]? = some (some v) ∧ RepSV K G H sv v
  sep : ∀ (i j : Nat) (ds es : List D) (v : V), i ≠ j → δ[i]? = some (some (.own ds)) → δ[j]? = some (some (.own es)) → σ[i]? = some (some v) → σ[j]? ≠ some (some v)
structure TK (H H' : Hp) : Prop where
  tup : ∀ b xs, H b = some (.tup xs) → H' b = some (.tup xs)
  frz : ∀ b o u, H b = some (.frz o u) → H' b = some (.frz o u)
  trk : ∀ b, H' b = none → H b = none
theorem _root_.L2.Same.tk {H H' : Hp} (e : Same H H') : TK H H' := ⟨fun b xs h => e b _ h, fun b o u h => e b _ h, fun b h => e.free h⟩
theorem TK.refl (H : Hp) : TK H H := ⟨fun _ _ h => h, fun _ _ _ h => h, fun _ h => h⟩
theorem TK.trans {H H1 H2 : Hp} (a : TK H H1) (b : TK H1 H2) : TK H H2 := ⟨fun c xs h => b.tup c xs (a.tup c xs h), fun c o u h => b.frz c o u (a.frz c o u h), fun c h => a.trk c (b.trk c h)⟩
theorem RepSt.mono {K : PySem.W.Frag} {G H H' : Hp} {σ : St} {δ : DS} (R : RepSt K G H σ δ) (e : Same H H') : RepSt K G H' σ δ where
  same := R.same.trans e
  len := R.len
  at_ := fun i sv h => by
    obtain ⟨v, e1, e2⟩ := R.at_ i sv h
    refine ⟨v, e1, ?_⟩
    cases sv with
    | val d => exact Rep.mono e e2
    | arg d => exact e2
    | own ds =>
      obtain ⟨a, xs, q1, q2, q3, q4⟩ := e2
      exact ⟨a, xs, q1, e _ _ q2, q3.mono e, q4⟩
  sep := R.sep
theorem RepSt.view {K : PySem.W.Frag} {G H : Hp} {σ : St} {δ : DS} (R : RepSt K G H σ δ) {i : Nat} {sv : SV} (h : δ[i]? = some (some sv)) : ∃ v, σ[i]? = some (some v) ∧ Rep K H sv.view v := by
  obtain ⟨v, e1, e2⟩ := R.at_ i sv h
  refine ⟨v, e1, ?_⟩
  cases sv with
  | val d => exact e2
  | arg d => exact Rep.mono R.same e2
  | own ds =>
    obtain ⟨a, xs, rfl, q2, q3, q4⟩ := e2
    show Rep K H (.lst ds) _
    rw [Rep]
    exact ⟨a, xs, rfl, SqL.of q2, q3⟩
theorem RepSt.set {K : PySem.W.Frag} {G H : Hp} {σ : St} {δ : DS} (R : RepSt K G H σ δ) (i : Nat) {d : D} {v : V} (h : Rep K H d v) : RepSt K G H (σ.set i (some v)) (δ.set i (some (.val d))) where
  same := R.same
  len := by simpa using R.len
  at_ := fun j sv e => by
    by_cases hj : i = j
    · subst hj
      have hl : i < δ.length := by
        rw [List.getElem?_set] at e
        by_cases q : i < δ.length
        · exact q
        · simp [q] at e
      rw [List.getElem?_set_self hl] at e
      cases e
      exact ⟨v, by rw [List.getElem?_set_self (by rw [R.len]; exact hl)], h⟩
    · rw [List.getElem?_set_ne hj] at e
      obtain ⟨u, e1, e2⟩ := R.at_ j sv e
      exact ⟨u, by rw [List.getElem?_set_ne hj]; exact e1, e2⟩
  sep := fun j k ds es u hjk e1 e2 e3 => by
    have n1 : i ≠ j := by
      rintro rfl
      rw [List.getElem?_set] at e1
      split at e1
      · split at e1 <;> cases e1
      · omega
    have n2 : i ≠ k := by
      rintro rfl
      rw [List.getElem?_set] at e2
      split at e2
      · split at e2 <;> cases e2
      · omega
    rw [List.getElem?_set_ne n1] at e1 e3
    rw [List.getElem?_set_ne n2] at e2
    rw [List.getElem?_set_ne n2]
    exact R.sep j k ds es u hjk e1 e2 e3
theorem RepSt.setOwn {K : PySem.W.Frag} {G H H' : Hp} {σ : St} {δ : DS} (R : RepSt K G H σ δ) (e : Same H H') (i : Nat) {ds : List D} {a : Addr} {xs : List V} (hn : H a = none) (h : H' a = some (.lst xs)) (r : Reps K H' ds xs) :
    RepSt K G H' (σ.set i (some (.ref a))) (δ.set i (some (.own ds))) where
  same := R.same.trans e
  len := by simpa using R.len
  at_ := fun j sv q => by
    have R' := R.mono e
    by_cases hj : i = j
    · subst hj
      have hl : i < δ.length := by
        rw [List.getElem?_set] at q
        by_cases z : i < δ.length
        · exact z
        · simp [z] at q
      rw [List.getElem?_set_self hl] at q
      cases q
      exact ⟨.ref a, by rw [List.getElem?_set_self (by rw [R.len]; exact hl)], a, xs, rfl, h, r, R.same.free hn⟩
    · rw [List.getElem?_set_ne hj] at q
      obtain ⟨u, e1, e2⟩ := R'.at_ j sv q
      exact ⟨u, by rw [List.getElem?_set_ne hj]; exact e1, e2⟩
  sep := fun j k ds' es u hjk e1 e2 e3 => by
    have old : ∀ (m : Nat) (fs : List D) (z : V), δ[m]? = some (some (.own fs)) → σ[m]? = some (some z) → z ≠ .ref a := fun m fs z q1 q2 q3 => by
      obtain ⟨v, w1, b, ys, w2, w3, _⟩ := R.at_ m _ q1
      rw [q2] at w1
      cases w1
      rw [q3] at w2
      cases w2
      rw [hn] at w3
      cases w3
    by_cases hj : i = j
    · subst hj
      have nk : i ≠ k := hjk
      rw [List.getElem?_set_ne nk] at e2
      rw [List.getElem?_set_ne nk]
      intro q
      have ev : u = .ref a := by
        rw [List.getElem?_set] at e3
        split at e3
        · split at e3
          · cases e3; rfl
          · cases e3
        · omega
      exact old k es u e2 q ev
    · rw [List.getElem?_set_ne hj] at e1 e3
      by_cases hk : i = k
      · subst hk
        intro q
        have ev : u = .ref a := by
          rw [List.getElem?_set] at q
          split at q
          · split at q
            · cases q; rfl
            · cases q
          · omega
        exact old j ds' u e1 e3 ev
      · rw [List.getElem?_set_ne hk] at e2
        rw [List.getElem?_set_ne hk]
        exact R.sep j k ds' es u hjk e1 e2 e3
theorem obj_some {P : Program} {w : World} {H : Hp} {h : Heap} {a : Addr} {o : HO} (x : ObjOk P w H h a o) : ∃ ob, h.get? a = some ob := by
  cases o with
  | lst xs => obtain ⟨_, _, _, _, e⟩ := x; exact ⟨_, e⟩
  | tup xs => obtain ⟨_, _, _, o, e, _⟩ := x; exact ⟨o, e⟩
  | dK kvs => obtain ⟨_, _, _, _, o, _, _, e, _⟩ := x; exact ⟨o, e⟩
  | dT kvs => obtain ⟨_, _, _, _, o, _, _, e, _⟩ := x; exact ⟨o, e⟩
  | set S n => obtain ⟨o, _, _, _, e, _⟩ := x; exact ⟨o, e⟩
  | ins C dx fs => obtain ⟨_, _, _, e, _⟩ := x; exact ⟨_, e⟩
  | own y => obtain ⟨o, e⟩ := x; exact ⟨o, e⟩
  | xd fs => obtain ⟨_, ⟨o, _, _, e, _⟩, _⟩ := x; exact ⟨o, e⟩
  | rng lo hi => obtain ⟨_, _, _, e⟩ := x; exact ⟨_, e⟩
  | frz ob u => obtain ⟨e, _⟩ := x; exact ⟨_, e⟩
  | tbl ps => exact ⟨_, show h.get? a = some _ from x⟩
  | met f y => exact ⟨_, show h.get? a = some _ from x⟩
  | ext φ => obtain ⟨_, ⟨o, e⟩, _⟩ := x; exact ⟨o, e⟩
noncomputable def NoRec (h : Heap) (e : Addr) : Prop := ∀ o vs, h.get? e = some o → o.data ≠ .fields vs
noncomputable def Back (H : Hp) (h h1 : Heap) : Prop := ∀ e, H e = none → NoRec h1 e → NoRec h e
theorem Back.refl (H : Hp) (h : Heap) : Back H h h := fun _ _ q => q
theorem Back.trans {H H1 : Hp} {h h1 h2 : Heap} (a : Back H h h1) (b : Back H1 h1 h2) (k : ∀ e, H e = none → NoRec h2 e → H1 e = none) : Back H h h2 := fun e n q => a e n (b e (k e n q) q)
noncomputable def Fly (h0 : Heap) (H : Hp) (h : Heap) (e : Addr) (cls : Value) : Prop :=
  NoRec h0 e ∧ H e = none ∧ ∃ oe vs a0, h.get? e = some oe ∧ (oe.cls = cls ∧ oe.dict = none) ∧ oe.data = .fields vs ∧ vs[0]? = some a0 ∧
    (vs[1]? = some .none ∨ ∃ T oT ts, vs[1]? = some (.ref T) ∧ NoRec h0 T ∧ H T = none ∧ T ≠ e ∧ h.get? T = some oT ∧ oT.data = .fields ts ∧ ts[3]? = some .none)
theorem Fly.back {h0 h1 h : Heap} {H0 H1 H : Hp} {e : Addr} {cls : Value} (f : Fly h1 H h e cls) (e1 : TK H0 H1) (e2 : TK H1 H) (b : Back H0 h0 h1) : Fly h0 H h e cls := by
  obtain ⟨n, he, oe, vs, a0, q1, q2, q3, q4, q5⟩ := f
  refine ⟨b e (e1.trk e (e2.trk e he)) n, he, oe, vs, a0, q1, q2, q3, q4, ?_⟩
  rcases q5 with q5 | ⟨T, oT, ts, w1, w2, w3, w4⟩
  · exact .inl q5
  · exact .inr ⟨T, oT, ts, w1, b T (e1.trk T (e2.trk T w3)) w2, w3, w4⟩
noncomputable def EPost (X : Cx) (pins : List (Addr × Obj)) (σ : St) (H : Hp) (r : Res D) (u : Value) (s1 : Shared) : Prop := ∃ d v H1, r = .ok d ∧ Inv X pins σ H1 s1 ∧ RelV v u ∧ Same H H1 ∧ Rep X.K H1 d v
noncomputable def XPost {α : Type} (X : Cx) (pins : List (Addr × Obj)) (σ : St) (H : Hp) (h0 : Heap) (r : Res α) (e : Value) (s1 : Shared) : Prop :=
  ∃ x a C H1, r = .err x ∧ e = .ref a ∧ Inv X pins σ H1 s1 ∧ Same H H1 ∧ PySem.W.nsIn X.K mainGlobals x.cls = some (some (.ref C)) ∧ Fly h0 H1 s1.heap a (.ref C)
theorem XPost.back {α β : Type} {X : Cx} {pins : List (Addr × Obj)} {σ : St} {H H1 : Hp} {h h1 : Heap} {r : Res α} {r' : Res β} {e : Value} {s1 : Shared} (p : XPost X pins σ H1 h1 r e s1) (e1 : Same H H1) (b : Back H h h1) (hr : ∀ x, r = .err x → r' = .err x) : XPost X pins σ H h r' e s1 := by
  obtain ⟨x, a, C, H2, q1, q2, q3, q4, q5, q6⟩ := p
  exact ⟨x, a, C, H2, hr x q1, q2, q3, e1.trans q4, q5, q6.back e1.tk q4.tk b⟩
theorem XPost.same {α β : Type} {X : Cx} {pins : List (Addr × Obj)} {σ : St} {H : Hp} {h : Heap} {r : Res α} {r' : Res β} {e : Value} {s1 : Shared} (p : XPost X pins σ H h r e s1) (hr : ∀ x, r = .err x → r' = .err x) : XPost X pins σ H h r' e s1 := p.back (Same.refl H) (Back.refl H h) hr
theorem XPost.none {α : Type} {X : Cx} {pins : List (Addr × Obj)} {σ : St} {H : Hp} {h0 : Heap} {a : α} {e : Value} {s1 : Shared} (p : XPost X pins σ H h0 (.ok a) e s1) : False := by
  obtain ⟨x, _, _, _, q, _⟩ := p; cases q
noncomputable def PD (X : Cx) (e : Expr) (f : DS → Res D) : Prop :=
  ∀ (pins : List (Addr × Obj)) (s : Shared) (σ : St) (G H : Hp) (δ : DS), Inv X pins σ H s → RepSt X.K G H σ δ → f δ ≠ .stuck →
    wpAny (model X.prog X.w) X.A (eval e X.env) (EPost X pins σ H (f δ)) (XPost X pins σ H s.heap (f δ)) s
open Classical in
noncomputable def allP (X : Cx) (H : Hp) (h : Heap) : List (Addr × Obj) :=
  (List.range h.objs.size).filterMap fun a => (h.get? a).bind fun o => if H a = none ∧ a ≠ X.env.locals ∧ a ∉ X.fs ∧ (∀ v, o.data ≠ .cell v) then some (a, o) else none
theorem of_allP {X : Cx} {H : Hp} {h : Heap} {p : Addr × Obj} (hp : p ∈ allP X H h) : h.get? p.1 = some p.2 ∧ H p.1 = none ∧ p.1 ≠ X.env.locals ∧ p.1 ∉ X.fs ∧ ∀ v, p.2.data ≠ .cell v := by
  obtain ⟨a, _, e⟩ := List.mem_filterMap.mp hp
  cases q : h.get? a with
  | none => rw [q] at e; cases e
  | some o =>
    rw [q] at e
    simp only [Option.bind_some] at e
    split at e
    · rename_i c
      cases e
      exact ⟨q, c⟩
    · cases e
theorem mem_allP {X : Cx} {H : Hp} {h : Heap} {a : Addr} {o : Obj} (e : h.get? a = some o) (c : H a = none ∧ a ≠ X.env.locals ∧ a ∉ X.fs ∧ ∀ v, o.data ≠ .cell v) : (a, o) ∈ allP X H h := by
  refine List.mem_filterMap.mpr ⟨a, List.mem_range.mpr (Heap.lt_size e), ?_⟩
  rw [e]
  simp only [Option.bind_some]
  rw [if_pos c]
section
variable {X : Cx} {pins : List (Addr × Obj)} {s : Shared} {σ : St} {G H : Hp} {δ : DS}
theorem _root_.L2.Inv.all (I : Inv X pins σ H s) : Inv X (pins ++ allP X H s.heap) σ H s :=
  I.pins_of fun p hp => (List.mem_append.mp hp).elim (fun z => I.pin p (List.mem_append_right _ z)) of_allP
theorem _root_.L2.Inv.locals_dict (I : Inv X pins σ H s) {o : Obj} {vs : Array Value} (e : s.heap.get? X.env.locals = some o) : o.data ≠ .fields vs := by
  obtain ⟨m, ⟨o', es, ep, ho, hd, _⟩, _⟩ := I.loc
  rw [e] at ho; cases ho
  rw [hd]; intro z; cases z
theorem _root_.L2.Inv.fs_rec (I : Inv X pins σ H s) {b : Addr} (hb : b ∈ X.fs) {o : Obj} {vs : Array Value} (e : s.heap.get? b = some o) : o.data ≠ .fields vs := by
  obtain ⟨_, o', ho, hd⟩ := I.funs.mem hb
  rw [e] at ho; cases ho
  exact hd vs
theorem _root_.L2.Inv.backTo {σ1 : St} {H1 : Hp} {s1 : Shared} (I : Inv X pins σ H s) (J : Inv X (pins ++ allP X H s.heap) σ1 H1 s1) : Back H s.heap s1.heap := by
  intro e n q o vs ho hd
  have hm : (e, o) ∈ allP X H s.heap := mem_allP ho ⟨n, fun z => by subst z; exact I.locals_dict ho hd, fun z => I.fs_rec z ho hd, fun v z => by rw [hd] at z; cases z⟩
  exact q o vs (J.pin (e, o) (List.mem_append_right _ (List.mem_append_right _ hm))).1 hd
theorem PD.use {e : Expr} {f : DS → Res D} (h : PD X e f) (I : Inv X pins σ H s) (R : RepSt X.K G H σ δ) (hs : f δ ≠ .stuck) {P E : Value → Shared → Prop}
    (k : ∀ d u s1 v H1, f δ = .ok d → Inv X pins σ H1 s1 → RelV v u → Same H H1 → Back H s.heap s1.heap → Rep X.K H1 d v → P u s1)
    (kx : ∀ e s1, XPost X pins σ H s.heap (f δ) e s1 → E e s1) : wpAny (model X.prog X.w) X.A (eval e X.env) P E s := by
  refine wpAny_mono (h (pins ++ allP X H s.heap) s σ G H δ I.all R hs) (fun u s1 ⟨d, v, H1, q1, q2, q3, q4, q5⟩ => k d u s1 v H1 q1 q2.unpinned q3 q4 (I.backTo q2) q5) fun e s1 ⟨x, a, C, H1, q1, q2, q3, q4, q5, q6⟩ => kx e s1 ⟨x, a, C, H1, q1, q2, q3.unpinned, q4, q5, q6⟩
end
section
variable {X : Cx} {e : Expr} {pos : Pos}
theorem pd_leaf {d : D} {v : V} (h : ∀ E, PE (X.wish E) e (tC v)) (hr : ∀ H, Rep X.K H d v) : PD X e (fun _ => .ok d) := by
  intro pins s σ G H δ I R _
  refine wpAny_mono (h (fun _ _ => False) pins s σ H (fun v' H' => v' = v ∧ H' = H) (I.wish _) ⟨rfl, rfl⟩) (fun u s1 q => ?_) fun _ _ z => z.elim
  obtain ⟨v', H', I', r', e1, e2⟩ := q
  subst e1 e2
  exact ⟨d, v', H', rfl, I'.unwish, r', Same.refl _, hr _⟩
theorem pd_int {i : Int} {j} : PD X (.Constant (.int i) j pos) (fun _ => .ok (.int i)) := pd_leaf (fun _ => pe_int) (fun _ => by rw [Rep])
theorem pd_bl {k : Bool} {j} : PD X (.Constant (.bool k) j pos) (fun _ => .ok (.bl k)) := pd_leaf (fun _ => pe_bl) (fun _ => by rw [Rep])
theorem pd_str {x : Str} {j} : PD X (.Constant (.str x) j pos) (fun _ => .ok (.str x)) := pd_leaf (fun _ => pe_str) (fun _ => by rw [Rep])
theorem pd_glob {x : Str} {d : D} {v : V} {u : Value} (hg : Gl X x) (hm : X.mg x = some u) (r : RelV v u) (hr : ∀ H, Rep X.K H d v) (hd : (x == ("__debug__" : Str)) = false := by decide) : PD X (.Name x pos) (fun _ => .ok d) :=
  pd_leaf (fun _ => pe_glob hg hm r hd) hr
noncomputable def slotD (i : Nat) : DS → Res D := fun δ => match δ[i]? with | some (some sv) => .ok sv.view | _ => .stuck
theorem pd_var (i : Nat) {x : Str} (hN : X.N[i]? = some x := by rfl) (hv : Vis X.env.scope x := by first | exact Or.inl rfl | exact Or.inr (Or.inl rfl) | exact Or.inr (Or.inr rfl)) (hd : (x == ("__debug__" : Str)) = false := by decide)
    (hcd : (x == ("__classdict__" : Str)) = false := by decide) : PD X (.Name x pos) (slotD i) := by
  intro pins s σ G H δ I R hs
  try dsimp only at hs ⊢
  unfold slotD at hs ⊢
  split at hs
  · rename_i sv e
    obtain ⟨v, e1, e2⟩ := R.view e
    refine wpAny_mono (pe_var (X := X.wish fun _ _ => False) hN hv hd hcd pins s σ H (fun v' H' => v' = v ∧ H' = H) (I.wish _) ⟨v, e1, rfl, rfl⟩) (fun u s1 q => ?_) fun _ _ z => z.elim
    obtain ⟨v', H', I', r', e3, e4⟩ := q
    subst e3 e4
    exact ⟨_, v', H', rfl, I'.unwish, r', Same.refl _, e2⟩
  · exact (hs rfl).elim
end
noncomputable def OpD (X : Cx) (f : Value → Value → Sem Value) (g : D → D → Res D) : Prop :=
  ∀ (E : Value → Shared → Prop) (pins : List (Addr × Obj)) (s : Shared) (σ : St) (H : Hp) (x y : V) (v u : Value) (a b d : D), Inv X pins σ H s → RelV x v → RelV y u → Rep X.K H a x → Rep X.K H b y → g a b = .ok d →
    wpAny (model X.prog X.w) X.A (f v u) (EPost X pins σ H (.ok d)) E s
noncomputable def NoErr {α : Type} (r : Res α) : Prop := ∀ x, r ≠ .err x
noncomputable def two (fa fb : DS → Res D) (g : D → D → Res D) : DS → Res D := fun δ => (fa δ).bind fun x => (fb δ).bind fun y => g x y
theorem two_l {fa fb : DS → Res D} {g : D → D → Res D} {δ : DS} (h : two fa fb g δ ≠ .stuck) : fa δ ≠ .stuck := fun q => h (by unfold two; rw [q]; rfl)
theorem two_r {fa fb : DS → Res D} {g : D → D → Res D} {δ : DS} {x : D} (h : two fa fb g δ ≠ .stuck) (q1 : fa δ = .ok x) : fb δ ≠ .stuck := fun q => h (by unfold two; rw [q1, Res.bind_ok, q]; rfl)
theorem two_e {fa fb : DS → Res D} {g : D → D → Res D} {δ : DS} {x y : D} (q1 : fa δ = .ok x) (q2 : fb δ = .ok y) : two fa fb g δ = g x y := by unfold two; rw [q1, Res.bind_ok, q2, Res.bind_ok]
theorem two_x {fa fb : DS → Res D} {g : D → D → Res D} {δ : DS} {x : Exn} (q1 : fa δ = .err x) : two fa fb g δ = .err x := by unfold two; rw [q1]; rfl
theorem two_y {fa fb : DS → Res D} {g : D → D → Res D} {δ : DS} {x : D} {y : Exn} (q1 : fa δ = .ok x) (q2 : fb δ = .err y) : two fa fb g δ = .err y := by unfold two; rw [q1, Res.bind_ok, q2]; rfl
section
variable {X : Cx} {a b : Expr} {fa fb : DS → Res D} {pos : Pos}
theorem two_use {g : D → D → Res D} {pins : List (Addr × Obj)} {s : Shared} {σ : St} {G H : Hp} {δ : DS} (ha : PD X a fa) (hb : PD X b fb) (I : Inv X pins σ H s) (R : RepSt X.K G H σ δ) (hs : two fa fb g δ ≠ .stuck) {P : Value → Value → Shared → Prop} {E : Value → Shared → Prop}
    (k : ∀ x y v u s2 vx vy H2, two fa fb g δ = g x y → Inv X pins σ H2 s2 → RelV vx v → RelV vy u → Same H H2 → Rep X.K H2 x vx → Rep X.K H2 y vy → P v u s2)
    (kx : ∀ e s1, XPost X pins σ H s.heap (two fa fb g δ) e s1 → E e s1) :
    wpAny (model X.prog X.w) X.A (eval a X.env) (fun v s1 => wpAny (model X.prog X.w) X.A (eval b X.env) (fun u s2 => P v u s2) E s1) E s := by
  refine ha.use I R (two_l hs) (fun x u s1 v H1 qa I1 r1 e1 b1 p1 => ?_) fun e s1 q => kx e s1 (q.same fun x z => two_x z)
  refine hb.use I1 (R.mono e1) (two_r hs qa) (fun y u2 s2 v2 H2 qb I2 r2 e2 b2 p2 => ?_) fun e s2 q => kx e s2 (q.back e1 b1 fun x z => two_y qa z)
  exact k x y u u2 s2 v v2 H2 (two_e qa qb) I2 r1 r2 (e1.trans e2) (p1.mono e2) p2
theorem EPost.from {X : Cx} {pins : List (Addr × Obj)} {σ : St} {H H1 : Hp} {r r' : Res D} {u : Value} {s1 : Shared} (p : EPost X pins σ H1 r u s1) (e : Same H H1) (q : r = r') : EPost X pins σ H r' u s1 := by
  obtain ⟨d, v, H2, q1, q2, q3, q4, q5⟩ := p
  exact ⟨d, v, H2, q ▸ q1, q2, q3, e.trans q4, q5⟩
theorem two_op {g : D → D → Res D} {pins : List (Addr × Obj)} {s : Shared} {σ : St} {G H : Hp} {δ : DS} {f : Value → Value → Sem Value} (ho : OpD X f g) (hg : ∀ x y, NoErr (g x y)) (ha : PD X a fa) (hb : PD X b fb) (I : Inv X pins σ H s) (R : RepSt X.K G H σ δ) (hs : two fa fb g δ ≠ .stuck) {E : Value → Shared → Prop}
    (kx : ∀ e s1, XPost X pins σ H s.heap (two fa fb g δ) e s1 → E e s1) :
    wpAny (model X.prog X.w) X.A (eval a X.env) (fun v s1 => wpAny (model X.prog X.w) X.A (eval b X.env) (fun u s2 => wpAny (model X.prog X.w) X.A (f v u) (EPost X pins σ H (two fa fb g δ)) E s2) E s1) E s := by
  refine two_use ha hb I R hs (fun x y v u s2 vx vy H2 q I2 r1 r2 e2 p1 p2 => ?_) kx
  cases qg : g x y with
  | stuck => exact (hs (q.trans qg)).elim
  | err z => exact (hg x y z qg).elim
  | ok d => exact thn (ho E pins s2 σ H2 vx vy v u x y d I2 r1 r2 p1 p2 qg) fun w s3 p => p.from e2 (qg.symm.trans q.symm)
theorem pd_op {op : Operator} {g : D → D → Res D} (ho : OpD X (binaryOp op) g) (hg : ∀ x y, NoErr (g x y)) (ha : PD X a fa) (hb : PD X b fb) : PD X (.BinOp a op b pos) (two fa fb g) :=
  fun pins s σ G H δ I R hs => wpAny_BinOp (two_op ho hg ha hb I R hs fun _ _ q => q)
theorem pd_cmp {op : CmpOp} {g : D → D → Res D} (ho : OpD X (compareOp op) g) (hg : ∀ x y, NoErr (g x y)) (ha : PD X a fa) (hb : PD X b fb) (hm : behindInMarks op b = false) : PD X (.Compare a [op] [b] pos) (two fa fb g) :=
  fun pins s σ G H δ I R hs => wpAny_Compare1 (two_op ho hg ha hb I R hs fun _ _ q => q) hm
theorem OpD.of {f : Value → Value → Sem Value} {r : R2} {g : D → D → Res D} (ho : ∀ E, OpR (X.wish E) f r)
    (h : ∀ (H : Hp) (x y : V) (a b d : D) (Q : VK), Rep X.K H a x → Rep X.K H b y → g a b = .ok d → (∀ z H', Same H H' → Rep X.K H' d z → Q z H') → r x y H Q) : OpD X f g :=
  fun E pins s σ H x y v u a b d I r1 r2 p1 p2 e => thn (ho E pins s σ H x y v u (fun z H' => Same H H' ∧ Rep X.K H' d z) (I.wish _) r1 r2 (h H x y a b d _ p1 p2 e fun z H' a b => ⟨a, b⟩)) fun w s1 ⟨z, H1, I1, r3, e1, p3⟩ => ⟨d, z, H1, rfl, I1.unwish, r3, e1, p3⟩
end
noncomputable def TPost (X : Cx) (pins : List (Addr × Obj)) (σ : St) (H : Hp) (r : Res Bool) (u : Bool) (s1 : Shared) : Prop := ∃ H1, r = .ok u ∧ Inv X pins σ H1 s1 ∧ Same H H1
noncomputable def PTD (X : Cx) (e : Expr) (f : DS → Res Bool) : Prop :=
  ∀ (pins : List (Addr × Obj)) (s : Shared) (σ : St) (G H : Hp) (δ : DS), Inv X pins σ H s → RepSt X.K G H σ δ → f δ ≠ .stuck →
    wpAny (model X.prog X.w) X.A (isTrue e X.env (eval e X.env)) (TPost X pins σ H (f δ)) (XPost X pins σ H s.heap (f δ)) s
noncomputable def PWD (X : Cx) (e : Expr) (f : DS → Res Bool) : Prop :=
  ∀ (wh : Sem Value) (pins : List (Addr × Obj)) (s : Shared) (σ : St) (G H : Hp) (δ : DS), Inv X pins σ H s → RepSt X.K G H σ δ → f δ ≠ .stuck →
    wpAny (model X.prog X.w) X.A (isTrue e X.env wh) (TPost X pins σ H (f δ)) (XPost X pins σ H s.heap (f δ)) s
theorem PWD.pt {X : Cx} {e : Expr} {f : DS → Res Bool} (h : PWD X e f) : PTD X e f := h _
section
variable {X : Cx} {pins : List (Addr × Obj)} {s : Shared} {σ : St} {G H : Hp} {δ : DS}
theorem use_t {t : Sem Bool} {f : DS → Res Bool} (h : ∀ pins, Inv X pins σ H s → wpAny (model X.prog X.w) X.A t (TPost X pins σ H (f δ)) (XPost X pins σ H s.heap (f δ)) s) (I : Inv X pins σ H s) {P : Bool → Shared → Prop} {E : Value → Shared → Prop}
    (k : ∀ d s1 H1, f δ = .ok d → Inv X pins σ H1 s1 → Same H H1 → Back H s.heap s1.heap → P d s1) (kx : ∀ e s1, XPost X pins σ H s.heap (f δ) e s1 → E e s1) : wpAny (model X.prog X.w) X.A t P E s := by
  refine wpAny_mono (h (pins ++ allP X H s.heap) I.all) (fun d s1 ⟨H1, q1, q2, q3⟩ => k d s1 H1 q1 q2.unpinned q3 (I.backTo q2)) fun e s1 ⟨x, a, C, H1, q1, q2, q3, q4, q5, q6⟩ => kx e s1 ⟨x, a, C, H1, q1, q2, q3.unpinned, q4, q5, q6⟩
theorem PTD.use {e : Expr} {f : DS → Res Bool} (h : PTD X e f) (I : Inv X pins σ H s) (R : RepSt X.K G H σ δ) (hs : f δ ≠ .stuck) {P : Bool → Shared → Prop} {E : Value → Shared → Prop}
    (k : ∀ d s1 H1, f δ = .ok d → Inv X pins σ H1 s1 → Same H H1 → Back H s.heap s1.heap → P d s1) (kx : ∀ e s1, XPost X pins σ H s.heap (f δ) e s1 → E e s1) : wpAny (model X.prog X.w) X.A (isTrue e X.env (eval e X.env)) P E s :=
  use_t (f := f) (δ := δ) (fun pins I => h pins s σ G H δ I R hs) I k kx
theorem PWD.use {e : Expr} {f : DS → Res Bool} (h : PWD X e f) (wh : Sem Value) (I : Inv X pins σ H s) (R : RepSt X.K G H σ δ) (hs : f δ ≠ .stuck) {P : Bool → Shared → Prop} {E : Value → Shared → Prop}
    (k : ∀ d s1 H1, f δ = .ok d → Inv X pins σ H1 s1 → Same H H1 → Back H s.heap s1.heap → P d s1) (kx : ∀ e s1, XPost X pins σ H s.heap (f δ) e s1 → E e s1) : wpAny (model X.prog X.w) X.A (isTrue e X.env wh) P E s :=
  use_t (f := f) (δ := δ) (fun pins I => h wh pins s σ G H δ I R hs) I k kx
end
noncomputable def truthD : D → Res Bool
  | .non => .ok false
  | .bl b => .ok b
  | .int i => .ok (i != 0)
  | .str x => if x.length ≤ sizeLine then .ok ((x.length : Int) != 0) else .stuck
  | .tup ds => .ok (!ds.isEmpty)
  | .lst ds => .ok (!ds.isEmpty)
  | .exc _ => .stuck
noncomputable def boolD : D → Res Bool
  | .bl b => .ok b
  | _ => .stuck
theorem boolD_of {d : D} (h : boolD d ≠ .stuck) : ∃ b, d = .bl b := by
  cases d with
  | bl b => exact ⟨b, rfl⟩
  | _ => exact (h rfl).elim
theorem bind_l {α β : Type} {r : Res α} {f : α → Res β} (h : r.bind f ≠ .stuck) : r ≠ .stuck := fun q => h (by rw [q]; rfl)
theorem bind_r {α β : Type} {r : Res α} {f : α → Res β} {a : α} (h : r.bind f ≠ .stuck) (e : r = .ok a) : f a ≠ .stuck := fun q => h (by rw [e, Res.bind_ok, q])
theorem bind_x {α β : Type} {r : Res α} {f : α → Res β} {x : Exn} (e : r = .err x) : r.bind f = .err x := by rw [e]; rfl
section
variable {X : Cx} {a b : Expr} {rest : List Expr} {fa : DS → Res D} {ta tb : DS → Res Bool} {pos : Pos}
theorem ptd_cmp {op : CmpOp} {fb : DS → Res D} {g : D → D → Res D} (ho : OpD X (compareOp op) g) (hg : ∀ x y, NoErr (g x y)) (ha : PD X a fa) (hb : PD X b fb) (hm : behindInMarks op b = false) : PTD X (.Compare a [op] [b] pos) (fun δ => (two fa fb g δ).bind boolD) := by
  intro pins s σ G H δ I R hs
  try dsimp only at hs ⊢
  refine wpAny_isTrue_Compare1 (thn (two_op ho hg ha hb I R (bind_l hs) (fun _ _ q => q.same fun x z => bind_x z)) fun v s1 h1 => thn h1 fun u s2 h2 => thn h2 fun c s3 ⟨d, x, H1, q1, I1, r1, e1, p1⟩ => ?_) hm
  obtain ⟨k, rfl⟩ := boolD_of (bind_r hs q1)
  rw [Rep] at p1
  subst p1
  cases r1
  exact wpAny_truthy_bool ⟨H1, by rw [q1]; rfl, I1, e1⟩
theorem ptd_truth (ha : PD X a fa) (he : ∀ whole, isTrue a X.env whole = (do let v ← whole; standAt a.pos; holding [v] (truthy v)) := by intro _; rfl) : PTD X a (fun δ => (fa δ).bind truthD) := by
  intro pins s σ G H δ I R hs
  try dsimp only at hs ⊢
  refine isTrue_plain (ha.use I R (bind_l hs) (fun d u s1 v H1 q I1 r1 e1 b1 p1 => ?_) fun e s1 q => q.same fun x z => bind_x z) (he _)
  have hd := bind_r hs q
  refine wpAny_mono (tru_ok (X := X.wish fun _ _ => False) pins s1 σ H1 v u (fun k H2 => truthD d = .ok k ∧ H2 = H1) (I1.wish _) r1 ?_) (fun k s2 ⟨H2, I2, q2, e2⟩ => ⟨H2, by rw [q, Res.bind_ok]; exact q2, I2.unwish, by rw [e2]; exact e1⟩) fun _ _ z => z.elim
  cases d with
  | non => rw [Rep] at p1; subst p1; exact ⟨false, rfl, rfl, rfl⟩
  | bl b => rw [Rep] at p1; subst p1; exact ⟨b, rfl, rfl, rfl⟩
  | int i => rw [Rep] at p1; subst p1; exact ⟨_, rfl, rfl, rfl⟩
  | str x =>
    rw [Rep] at p1; subst p1
    by_cases hz : x.length ≤ sizeLine
    · exact ⟨_, ⟨hz, rfl⟩, by simp only [truthD, if_pos hz], rfl⟩
    · simp only [truthD, if_neg hz] at hd; exact (hd rfl).elim
  | tup ds =>
    rw [Rep] at p1
    obtain ⟨b, xs, rfl, w1, w2⟩ := p1
    exact ⟨!ds.isEmpty, .inr (.inl ⟨xs, w1, by rw [w2.isEmpty]⟩), rfl, rfl⟩
  | lst ds =>
    rw [Rep] at p1
    obtain ⟨b, xs, rfl, w1, w2⟩ := p1
    exact ⟨!ds.isEmpty, .inl ⟨xs, w1, by rw [w2.isEmpty]⟩, rfl, rfl⟩
  | exc c => exact (hd rfl).elim
theorem ptd_not (ha : PTD X a ta) : PTD X (.UnaryOp .Not a pos) (fun δ => (ta δ).bind fun c => .ok (!c)) := by
  intro pins s σ G H δ I R hs
  try dsimp only at hs ⊢
  exact isTrue_not (ha.use I R (bind_l hs) (fun d s1 H1 q I1 e1 b1 => ⟨H1, by rw [q]; rfl, I1, e1⟩) fun e s1 q => q.same fun x z => bind_x z)
noncomputable def orT (ta tb : DS → Res Bool) : DS → Res Bool := fun δ => (ta δ).bind fun c => if c = true then .ok true else tb δ
theorem pwd_or1 (ha : PTD X a ta) : PWD X (.BoolOp .Or [a] pos) ta := by
  intro wh pins s σ G H δ I R hs
  try dsimp only at hs ⊢
  refine isTrue_or (ha.use I R hs (fun c s1 H1 q I1 e1 b1 => ?_) fun e s1 q => q)
  cases c with
  | false => exact isTrue_or_nil ⟨H1, q, I1, e1⟩
  | true => exact ⟨H1, q, I1, e1⟩
theorem pwd_or (ha : PTD X a ta) (hb : PWD X (.BoolOp .Or (b :: rest) pos) tb) : PWD X (.BoolOp .Or (a :: b :: rest) pos) (orT ta tb) := by
  intro wh pins s σ G H δ I R hs
  try dsimp only at hs ⊢
  have hs' : (ta δ).bind (fun c => if c = true then .ok true else tb δ) ≠ .stuck := hs
  refine isTrue_or (ha.use I R (bind_l hs') (fun c s1 H1 q I1 e1 b1 => ?_) fun e s1 q => q.same fun x z => bind_x z)
  have hc := bind_r hs' q
  have ev : orT ta tb δ = if c = true then .ok true else tb δ := by unfold orT; rw [q]; rfl
  cases c with
  | true => exact ⟨H1, ev, I1, e1⟩
  | false =>
    rw [if_neg Bool.false_ne_true] at ev hc
    exact hb.use wh I1 (R.mono e1) hc (fun d s2 H2 q2 I2 e2 b2 => ⟨H2, ev.trans q2, I2, e1.trans e2⟩) fun e s2 q2 => q2.back e1 b1 fun x z => ev.trans z
noncomputable def andV (fa fb : DS → Res D) : DS → Res D := fun δ => (fa δ).bind fun x => (boolD x).bind fun c => if c = true then fb δ else .ok (.bl false)
noncomputable def notV (fa : DS → Res D) : DS → Res D := fun δ => (fa δ).bind fun x => (boolD x).bind fun c => .ok (.bl (!c))
theorem pd_one {op} (h : PD X a fa) : PD X (.BoolOp op [a] pos) fa := fun pins s σ G H δ I R hs => BoolOp_one (h pins s σ G H δ I R hs)
theorem pd_and {fb : DS → Res D} (ha : PD X a fa) (hb : PD X (.BoolOp .And (b :: rest) pos) fb) : PD X (.BoolOp .And (a :: b :: rest) pos) (andV fa fb) := by
  intro pins s σ G H δ I R hs
  try dsimp only at hs ⊢
  have hs' : (fa δ).bind (fun x => (boolD x).bind fun c => if c = true then fb δ else .ok (.bl false)) ≠ .stuck := hs
  refine BoolOp_and (ha.use I R (bind_l hs') (fun d u s1 v H1 q I1 r1 e1 b1 p1 => ?_) fun e s1 q => q.same fun x z => bind_x z)
  have h2 := bind_r hs' q
  obtain ⟨k, rfl⟩ := boolD_of (bind_l h2)
  rw [Rep] at p1
  subst p1
  cases r1
  have ev : andV fa fb δ = if k = true then fb δ else .ok (.bl false) := by unfold andV; rw [q]; rfl
  refine wpAny_truthy_bool ?_
  cases k with
  | false => exact ⟨_, .bl false, H1, ev, I1, rfl, e1, by rw [Rep]⟩
  | true =>
    rw [if_pos rfl] at ev
    exact hb.use I1 (R.mono e1) (fun z => hs (ev.trans z)) (fun d2 u2 s2 v2 H2 q2 I2 r2 e2 b2 p2 => ⟨d2, v2, H2, ev.trans q2, I2, r2, e1.trans e2, p2⟩) fun e s2 q2 => q2.back e1 b1 fun x z => ev.trans z
theorem pd_not (ha : PD X a fa) : PD X (.UnaryOp .Not a pos) (notV fa) := by
  intro pins s σ G H δ I R hs
  try dsimp only at hs ⊢
  have hs' : (fa δ).bind (fun x => (boolD x).bind fun c => Res.ok (D.bl (!c))) ≠ .stuck := hs
  refine UnaryOp_ (ha.use I R (bind_l hs') (fun d u s1 v H1 q I1 r1 e1 b1 p1 => ?_) fun e s1 q => q.same fun x z => bind_x z)
  have h2 := bind_r hs' q
  obtain ⟨k, rfl⟩ := boolD_of (bind_l h2)
  rw [Rep] at p1
  subst p1
  cases r1
  exact not_of (wpAny_truthy_bool ⟨_, .bl (!k), H1, by unfold notV; rw [q]; rfl, I1, rfl, e1, by rw [Rep]⟩)
noncomputable def ifD (tc : DS → Res Bool) (fa fb : DS → Res D) : DS → Res D := fun δ => (tc δ).bind fun c => if c = true then fa δ else fb δ
theorem pd_ifExp {c : Expr} {tc : DS → Res Bool} {fb : DS → Res D} (hc : PTD X c tc) (ha : PD X a fa) (hb : PD X b fb) : PD X (.IfExp c a b pos) (ifD tc fa fb) := by
  intro pins s σ G H δ I R hs
  try dsimp only at hs ⊢
  have hs' : (tc δ).bind (fun c => if c = true then fa δ else fb δ) ≠ .stuck := hs
  refine wpAny_IfExp (hc.use I R (bind_l hs') (fun k s1 H1 q I1 e1 b1 => ?_) fun e s1 q => q.same fun x z => bind_x z)
  have ev : ifD tc fa fb δ = if k = true then fa δ else fb δ := by unfold ifD; rw [q]; rfl
  cases k with
  | true =>
    rw [if_pos rfl] at ev
    exact ha.use I1 (R.mono e1) (fun z => hs (ev.trans z)) (fun d2 u2 s2 v2 H2 q2 I2 r2 e2 b2 p2 => ⟨d2, v2, H2, ev.trans q2, I2, r2, e1.trans e2, p2⟩) fun e s2 q2 => q2.back e1 b1 fun x z => ev.trans z
  | false =>
    rw [if_neg Bool.false_ne_true] at ev
    exact hb.use I1 (R.mono e1) (fun z => hs (ev.trans z)) (fun d2 u2 s2 v2 H2 q2 I2 r2 e2 b2 p2 => ⟨d2, v2, H2, ev.trans q2, I2, r2, e1.trans e2, p2⟩) fun e s2 q2 => q2.back e1 b1 fun x z => ev.trans z
theorem pd_un {op : UnaryOp} {g : D → Res D} (ho : ∀ (E : Value → Shared → Prop) (pins : List (Addr × Obj)) (s : Shared) (σ : St) (H : Hp) (x : V) (v : Value) (d r : D), Inv X pins σ H s → RelV x v → Rep X.K H d x → g d = .ok r → wpAny (model X.prog X.w) X.A (unaryOp op v) (EPost X pins σ H (.ok r)) E s)
    (hg : ∀ x, NoErr (g x)) (ha : PD X a fa) : PD X (.UnaryOp op a pos) (fun δ => (fa δ).bind g) := by
  intro pins s σ G H δ I R hs
  try dsimp only at hs ⊢
  refine UnaryOp_ (ha.use I R (bind_l hs) (fun d u s1 v H1 q I1 r1 e1 b1 p1 => ?_) fun e s1 q => q.same fun x z => bind_x z)
  have h2 := bind_r hs q
  cases qg : g d with
  | stuck => exact (h2 qg).elim
  | err z => exact (hg d z qg).elim
  | ok r => exact thn (ho _ pins s1 σ H1 v u d r I1 r1 p1 qg) fun w s2 p => p.from e1 (by rw [q, Res.bind_ok, qg])
end
end DL
set_option Elab.async false
set_option linter.all false
set_option maxRecDepth 100000
namespace DL
open PySem PySem.Spec PyProof.Rows L2
noncomputable def intBits' (i : Int) : Nat := Builtin.Int.intBits i
noncomputable def addD : D → D → Res D
  | .int i, .int j => .ok (.int (i + j))
  | .str x, .str y => if x.length + y.length ≤ sizeLine then .ok (.str (x ++ y)) else .stuck
  | .tup xs, .tup ys => if xs.length + ys.length ≤ sizeLine then .ok (.tup (xs ++ ys)) else .stuck
  | .lst xs, .lst ys => if xs.length + ys.length ≤ sizeLine then .ok (.lst (xs ++ ys)) else .stuck
  | _, _ => .stuck
noncomputable def subD : D → D → Res D
  | .int i, .int j => .ok (.int (i - j))
  | _, _ => .stuck
noncomputable def mulD : D → D → Res D
  | .int i, .int j => if (intBits' i ≤ 2 ^ 20 ∧ intBits' j ≤ 2 ^ 20) ∨ intBits' i ≤ 64 ∨ intBits' j ≤ 64 then .ok (.int (i * j)) else .stuck
  | _, _ => .stuck
noncomputable def fdivD : D → D → Res D
  | .int i, .int j => if j ≠ 0 ∧ Builtin.divisionGoesByPylong i j = false then .ok (.int (Int.fdiv i j)) else .stuck
  | _, _ => .stuck
noncomputable def modD : D → D → Res D
  | .int i, .int j => if j ≠ 0 then .ok (.int (Int.fmod i j)) else .stuck
  | _, _ => .stuck
noncomputable def powD : D → D → Res D
  | .int i, .int j => if 0 ≤ j ∧ j ≤ 1000000 ∧ i.natAbs < 2 ^ 64 then .ok (.int (i ^ j.toNat)) else .stuck
  | _, _ => .stuck
noncomputable def shlD : D → D → Res D
  | .int i, .int j => if 0 ≤ j ∧ j ≤ 1000000 ∧ i.natAbs < 2 ^ 64 then .ok (.int (i * 2 ^ j.toNat)) else .stuck
  | _, _ => .stuck
noncomputable def cmpD (p : Int → Int → Bool) : D → D → Res D
  | .int i, .int j => .ok (.bl (p i j))
  | _, _ => .stuck
theorem noErr_ite {α : Type} {c : Prop} [Decidable c] {r r' : Res α} (h : NoErr r) (h' : NoErr r') : NoErr (if c then r else r') := by
  intro x; by_cases hc : c
  · rw [if_pos hc]; exact h x
  · rw [if_neg hc]; exact h' x
theorem noErr_ok {α : Type} {a : α} : NoErr (Res.ok a) := fun _ h => nomatch h
theorem noErr_stuck {α : Type} : NoErr (Res.stuck : Res α) := fun _ h => nomatch h
theorem ne_add (x y : D) : NoErr (addD x y) := by cases x <;> cases y <;> first | exact noErr_stuck | exact noErr_ok | exact noErr_ite noErr_ok noErr_stuck
theorem ne_sub (x y : D) : NoErr (subD x y) := by cases x <;> cases y <;> first | exact noErr_stuck | exact noErr_ok | exact noErr_ite noErr_ok noErr_stuck
theorem ne_mul (x y : D) : NoErr (mulD x y) := by cases x <;> cases y <;> first | exact noErr_stuck | exact noErr_ok | exact noErr_ite noErr_ok noErr_stuck
theorem ne_fdiv (x y : D) : NoErr (fdivD x y) := by cases x <;> cases y <;> first | exact noErr_stuck | exact noErr_ok | exact noErr_ite noErr_ok noErr_stuck
theorem ne_mod (x y : D) : NoErr (modD x y) := by cases x <;> cases y <;> first | exact noErr_stuck | exact noErr_ok | exact noErr_ite noErr_ok noErr_stuck
theorem ne_pow (x y : D) : NoErr (powD x y) := by cases x <;> cases y <;> first | exact noErr_stuck | exact noErr_ok | exact noErr_ite noErr_ok noErr_stuck
theorem ne_shl (x y : D) : NoErr (shlD x y) := by cases x <;> cases y <;> first | exact noErr_stuck | exact noErr_ok | exact noErr_ite noErr_ok noErr_stuck
theorem ne_cmp (p : Int → Int → Bool) (x y : D) : NoErr (cmpD p x y) := by cases x <;> cases y <;> first | exact noErr_stuck | exact noErr_ok | exact noErr_ite noErr_ok noErr_stuck
section
variable {X : Cx} {a b : Expr} {fa fb : DS → Res D} {pos : Pos}
theorem repI {K : PySem.W.Frag} {H : Hp} {i : Int} {v : V} (h : Rep K H (.int i) v) : v = .int i := by rw [Rep] at h; exact h
theorem repS {K : PySem.W.Frag} {H : Hp} {i : Str} {v : V} (h : Rep K H (.str i) v) : v = .str i := by rw [Rep] at h; exact h
theorem repT {K : PySem.W.Frag} {H : Hp} {ds : List D} {v : V} (h : Rep K H (.tup ds) v) : ∃ a xs, v = .ref a ∧ SqT K H a xs ∧ Reps K H ds xs := by rw [Rep] at h; exact h
theorem repL {K : PySem.W.Frag} {H : Hp} {ds : List D} {v : V} (h : Rep K H (.lst ds) v) : ∃ a xs, v = .ref a ∧ SqL K H a xs ∧ Reps K H ds xs := by rw [Rep] at h; exact h
theorem mkI {K : PySem.W.Frag} {H : Hp} {i : Int} : Rep K H (.int i) (.int i) := by rw [Rep]
theorem mkS {K : PySem.W.Frag} {H : Hp} {i : Str} : Rep K H (.str i) (.str i) := by rw [Rep]
theorem mkB {K : PySem.W.Frag} {H : Hp} {i : Bool} : Rep K H (.bl i) (.bl i) := by rw [Rep]
theorem mkN {K : PySem.W.Frag} {H : Hp} : Rep K H .non .non := by rw [Rep]
theorem mkT {K : PySem.W.Frag} {H : Hp} {a : Addr} {xs : List V} {ds : List D} (h : SqT K H a xs) (r : Reps K H ds xs) : Rep K H (.tup ds) (.ref a) := by rw [Rep]; exact ⟨a, xs, rfl, h, r⟩
theorem mkL {K : PySem.W.Frag} {H : Hp} {a : Addr} {xs : List V} {ds : List D} (h : SqL K H a xs) (r : Reps K H ds xs) : Rep K H (.lst ds) (.ref a) := by rw [Rep]; exact ⟨a, xs, rfl, h, r⟩
theorem same_upd {H : Hp} {p : Addr} (h : H p = none) (o : HO) : Same H (upd H p o) := fun b u q => by rw [upd_ne (ne_of_none q h)]; exact q
theorem opI_d {f : Value → Value → Sem Value} {C : Int → Int → Prop} [∀ i j, Decidable (C i j)] {h : Int → Int → D} {k : Int → Int → V} {g : D → D → Res D} (ho : ∀ E, OpR (X.wish E) f (rI C k)) (hk : ∀ H i j, Rep X.K H (h i j) (k i j))
    (hg : ∀ x y d, g x y = .ok d → ∃ i j, x = .int i ∧ y = .int j ∧ C i j ∧ d = h i j) : OpD X f g :=
  .of ho fun H x y a b d Q p1 p2 e q => by
    obtain ⟨i, j, rfl, rfl, c, rfl⟩ := hg a b d e
    exact ⟨i, j, repI p1, repI p2, c, q _ H (Same.refl H) (hk H i j)⟩
theorem opI0_d {f : Value → Value → Sem Value} {h : Int → Int → D} {k : Int → Int → V} {g : D → D → Res D} (ho : ∀ E, OpR (X.wish E) f (rI0 k)) (hk : ∀ H i j, Rep X.K H (h i j) (k i j))
    (hg : ∀ x y d, g x y = .ok d → ∃ i j, x = .int i ∧ y = .int j ∧ d = h i j) : OpD X f g :=
  .of ho fun H x y a b d Q p1 p2 e q => by
    obtain ⟨i, j, rfl, rfl, rfl⟩ := hg a b d e
    exact ⟨i, j, repI p1, repI p2, q _ H (Same.refl H) (hk H i j)⟩
theorem od_sub : OpD X (binaryOp .Sub) subD := opI0_d (fun _ => op_sub) (fun _ _ _ => mkI) fun x y d e => by
  cases x <;> cases y <;> first | (simp [subD] at e; done) | (simp only [subD, Res.ok.injEq] at e; exact ⟨_, _, rfl, rfl, e.symm⟩)
theorem od_cmp {p : Int → Int → Bool} {op : CmpOp} (ho : ∀ E, OpR (X.wish E) (compareOp op) (rI0 fun i j => .bl (p i j))) : OpD X (compareOp op) (cmpD p) := opI0_d ho (fun _ _ _ => mkB) fun x y d e => by
  cases x <;> cases y <;> first | (simp [cmpD] at e; done) | (simp only [cmpD, Res.ok.injEq] at e; exact ⟨_, _, rfl, rfl, e.symm⟩)
theorem od_lt : OpD X (compareOp .Lt) (cmpD fun i j => decide (i < j)) := od_cmp fun _ => op_lt
theorem od_gt : OpD X (compareOp .Gt) (cmpD fun i j => decide (j < i)) := od_cmp fun _ => op_gt
theorem od_ge : OpD X (compareOp .GtE) (cmpD fun i j => decide (j ≤ i)) := od_cmp fun _ => op_ge
theorem op_mulB : OpR X (binaryOp .Mult) (rI (fun i j => (intBits' i ≤ 2 ^ 20 ∧ intBits' j ≤ 2 ^ 20) ∨ intBits' i ≤ 64 ∨ intBits' j ≤ 64) fun i j => .int (i * j)) := opI fun _ _ _ _ _ _ _ hc q => mul_int q (by
  rcases hc with hc | hc | hc
  · exact PySem.IntMulOk.of_bits hc.1 hc.2
  · exact PySem.IntMulOk.of_left hc
  · exact PySem.IntMulOk.of_right hc)
theorem od_mul : OpD X (binaryOp .Mult) mulD := opI_d (h := fun i j => .int (i * j)) (fun _ => op_mulB) (fun _ _ _ => mkI) fun x y d e => by
  cases x <;> cases y <;> first | (simp [mulD] at e; done) | skip
  rename_i i j
  simp only [mulD] at e
  split at e
  · rename_i c; cases e; exact ⟨_, _, rfl, rfl, c, rfl⟩
  · cases e
theorem op_fdivB : OpR X (binaryOp .FloorDiv) (rI (fun i j => j ≠ 0 ∧ Builtin.divisionGoesByPylong i j = false) fun i j => .int (i.fdiv j)) := opI fun _ _ _ _ _ _ _ hc q => floordiv_int hc.1 q (.inl hc.2)
theorem od_fdiv : OpD X (binaryOp .FloorDiv) fdivD := opI_d (h := fun i j => .int (i.fdiv j)) (fun _ => op_fdivB) (fun _ _ _ => mkI) fun x y d e => by
  cases x <;> cases y <;> first | (simp [fdivD] at e; done) | skip
  rename_i i j
  simp only [fdivD] at e
  split at e
  · rename_i c; cases e; exact ⟨_, _, rfl, rfl, c, rfl⟩
  · cases e
theorem od_mod : OpD X (binaryOp .Mod) modD := opI_d (h := fun i j => .int (i.fmod j)) (fun _ => op_modN) (fun _ _ _ => mkI) fun x y d e => by
  cases x <;> cases y <;> first | (simp [modD] at e; done) | skip
  rename_i i j
  simp only [modD] at e
  split at e
  · rename_i c; cases e; exact ⟨_, _, rfl, rfl, c, rfl⟩
  · cases e
theorem od_pow : OpD X (binaryOp .Pow) powD := .of (fun _ => op_pow) fun H x y a b d Q p1 p2 e q => by
  cases a <;> cases b <;> first | (simp [powD] at e; done) | skip
  rename_i i j
  simp only [powD] at e
  split at e
  · rename_i c; cases e; exact ⟨i, j, repI p1, repI p2, c, q _ H (Same.refl H) mkI⟩
  · cases e
theorem od_shl : OpD X (binaryOp .LShift) shlD := .of (fun _ => op_shl) fun H x y a b d Q p1 p2 e q => by
  cases a <;> cases b <;> first | (simp [shlD] at e; done) | skip
  rename_i i j
  simp only [shlD] at e
  split at e
  · rename_i c; cases e; exact ⟨i, j, repI p1, repI p2, c, q _ H (Same.refl H) mkI⟩
  · cases e
theorem op_catT' (E : Value → Shared → Prop) : OpR (X.wish E) (binaryOp .Add) (rCatT X.K) := op_catT
noncomputable def rCatN (K : PySem.W.Frag) : R2 := fun x y H Q => ∃ a b ys, x = .ref a ∧ y = .ref b ∧ SqT K H a [] ∧ SqT K H b ys ∧ Q (.ref b) H
theorem op_catN : OpR X (binaryOp .Add) (rCatN X.K) := by
  intro pins s σ H x y v u Q I rx ry h
  obtain ⟨a, b, ys, rfl, rfl, h1, h2, q⟩ := h
  cases rx
  cases ry
  obtain ⟨its, r, ht, _⟩ := I.tuple h1
  obtain ⟨its2, r2, ht2, _⟩ := I.tuple h2
  cases r
  obtain ⟨⟨cls, dd, data, sl⟩, ho, hc, n, hd⟩ := id ht
  obtain ⟨⟨cls2, dd2, data2, sl2⟩, ho2, hc2, n2, hd2⟩ := id ht2
  simp only at hc hd hc2 hd2
  subst hc hd hc2 hd2
  exact concat_meets ⟨_, ho, rfl⟩ ⟨_, ho2, rfl⟩ noFill_tuple_add seq_tuple_add PySem.F.slot_tuple_add PySem.F.entry_tuple_add (PySem.F.args_tuple_add_2 _ _) (tuple_addW0 a b _ its2.toArray n n2 dd dd2 sl sl2 rfl) ⟨ho, ho2, .ref b, H, I, rfl, q⟩
theorem op_catN' (E : Value → Shared → Prop) : OpR (X.wish E) (binaryOp .Add) (rCatN X.K) := op_catN
noncomputable def rCatL (K : PySem.W.Frag) : R2 := fun x y H Q => ∃ a b xs ys, x = .ref a ∧ y = .ref b ∧ SqL K H a xs ∧ SqL K H b ys ∧ xs.length + ys.length ≤ sizeLine ∧ ∀ p, H p = none → Q (.ref p) (upd H p (.lst (xs ++ ys)))
theorem op_catL : OpR X (binaryOp .Add) (rCatL X.K) := by
  intro pins s σ H x y v u Q I rx ry h
  obtain ⟨a, b, xs, ys, rfl, rfl, h1, h2, hz, q⟩ := h
  cases rx
  cases ry
  obtain ⟨its, r, ⟨⟨cls, dd, data, sl⟩, n, ho, hc, hdd, hd⟩, _⟩ := I.list h1
  obtain ⟨its2, r2, ⟨⟨cls2, dd2, data2, sl2⟩, n2, ho2, hc2, hdd2, hd2⟩, _⟩ := I.list h2
  simp only at hc hd hc2 hd2
  subst hc hd hc2 hd2
  have l1 := r.length
  have l2 := r2.length
  refine concat_meets ⟨_, ho, rfl⟩ ⟨_, ho2, rfl⟩ noFill_list_add seq_list_add PySem.F.slot_list_add PySem.F.entry_list_add (PySem.F.args_list_add_2 _ _) (list_addW a b its.toArray its2.toArray n n2 dd dd2 sl sl2 (by simp only [List.size_toArray]; omega)) ⟨ho, ho2, ?_⟩
  have ea : its.toArray ++ its2.toArray = (its ++ its2).toArray := by simp
  rw [ea]
  refine ⟨.ref s.heap.objs.size, _, I.laid (t' := s.toks) (o := .lst (xs ++ ys)) (fun b ob q => Heap.get?_push_of_some _ q) (Nat.le_refl _) ?_, rfl, q _ (I.hok.fresh (Nat.le_refl _))⟩
  exact ⟨by rw [List.length_append]; omega, its ++ its2, 0, r.append r2, Heap.get?_push_size _ rfl⟩
theorem op_catL' (E : Value → Shared → Prop) : OpR (X.wish E) (binaryOp .Add) (rCatL X.K) := op_catL
theorem od_add : OpD X (binaryOp .Add) addD := .of (fun E => op_add.or (op_add_str.or ((op_catT' E).or ((op_catL' E).or (op_catN' E))))) fun H x y a b d Q p1 p2 e q => by
  cases a <;> cases b <;> first | (simp [addD] at e; done) | skip
  · rename_i i j
    simp only [addD, Res.ok.injEq] at e
    subst e
    exact .inl ⟨i, j, repI p1, repI p2, q _ H (Same.refl H) mkI⟩
  · rename_i i j
    simp only [addD] at e
    split at e
    · rename_i c; cases e; exact .inr (.inl ⟨i, j, repS p1, repS p2, c, q _ H (Same.refl H) mkS⟩)
    · cases e
  · rename_i xs ys
    simp only [addD] at e
    split at e
    · rename_i c
      cases e
      obtain ⟨p, us, rfl, s1, t1⟩ := repT p1
      obtain ⟨p', ws, rfl, s2, t2⟩ := repT p2
      by_cases hn : us = []
      · subst hn
        have hx : xs = [] := by
          have := t1.length; exact List.eq_nil_of_length_eq_zero this.symm
        subst hx
        exact .inr (.inr (.inr (.inr ⟨p, p', ws, rfl, rfl, s1, s2, q _ H (Same.refl H) (mkT s2 t2)⟩)))
      refine .inr (.inr (.inl ⟨p, p', us, ws, rfl, rfl, s1, s2, hn, ?_, fun z => ?_, fun _ z hz => ?_⟩))
      · rw [t1.length, t2.length]; exact c
      · have hy : ys = [] := by
          have := t2.length; rw [z] at this; exact List.eq_nil_of_length_eq_zero this.symm
        subst hy
        exact q _ H (Same.refl H) (mkT s1 (by simpa using t1))
      · exact q _ _ (same_upd hz _) (mkT (SqT.of upd_same) ((t1.append t2).mono (same_upd hz _)))
    · cases e
  · rename_i xs ys
    simp only [addD] at e
    split at e
    · rename_i c
      cases e
      obtain ⟨p, us, rfl, s1, t1⟩ := repL p1
      obtain ⟨p', ws, rfl, s2, t2⟩ := repL p2
      exact .inr (.inr (.inr (.inl ⟨p, p', us, ws, rfl, rfl, s1, s2, by rw [t1.length, t2.length]; exact c, fun z hz => q _ _ (same_upd hz _) (mkL (SqL.of upd_same) ((t1.append t2).mono (same_upd hz _)))⟩)))
    · cases e
end
noncomputable def APost (X : Cx) (pins : List (Addr × Obj)) (σ : St) (H : Hp) (r : Res (List D)) (us : List Value) (s1 : Shared) : Prop := ∃ ds vs H1, r = .ok ds ∧ Inv X pins σ H1 s1 ∧ Vals vs us ∧ Same H H1 ∧ Reps X.K H1 ds vs
noncomputable def PAD (X : Cx) (es : List Expr) (f : DS → Res (List D)) : Prop :=
  ∀ (pos : Pos) (pins : List (Addr × Obj)) (s : Shared) (σ : St) (G H : Hp) (δ : DS), Inv X pins σ H s → RepSt X.K G H σ δ → f δ ≠ .stuck →
    wpAny (model X.prog X.w) X.A (spliced (backTo pos (starEach es X.env))) (APost X pins σ H (f δ)) (XPost X pins σ H s.heap (f δ)) s
noncomputable def consD (f : DS → Res D) (fs : DS → Res (List D)) : DS → Res (List D) := fun δ => (f δ).bind fun d => (fs δ).bind fun ds => .ok (d :: ds)
section
variable {X : Cx} {e : Expr} {es : List Expr} {f : DS → Res D} {fs : DS → Res (List D)} {pos : Pos}
theorem PAD.use {pins : List (Addr × Obj)} {s : Shared} {σ : St} {G H : Hp} {δ : DS} (h : PAD X es fs) (I : Inv X pins σ H s) (R : RepSt X.K G H σ δ) (hs : fs δ ≠ .stuck) {P : List Value → Shared → Prop} {E : Value → Shared → Prop}
    (k : ∀ ds us s1 vs H1, fs δ = .ok ds → Inv X pins σ H1 s1 → Vals vs us → Same H H1 → Back H s.heap s1.heap → Reps X.K H1 ds vs → P us s1) (kx : ∀ e s1, XPost X pins σ H s.heap (fs δ) e s1 → E e s1) :
    wpAny (model X.prog X.w) X.A (spliced (backTo pos (starEach es X.env))) P E s := by
  refine wpAny_mono (h pos (pins ++ allP X H s.heap) s σ G H δ I.all R hs) (fun us s1 ⟨ds, vs, H1, q1, q2, q3, q4, q5⟩ => k ds us s1 vs H1 q1 q2.unpinned q3 q4 (I.backTo q2) q5) fun e s1 ⟨x, a, C, H1, q1, q2, q3, q4, q5, q6⟩ => kx e s1 ⟨x, a, C, H1, q1, q2, q3.unpinned, q4, q5, q6⟩
theorem pad_nil : PAD X [] (fun _ => .ok []) := fun pos pins s σ G H δ I R _ => Calls.spliced_nil ⟨[], [], H, rfl, I, .nil, Same.refl H, Reps.nil⟩
theorem pad_cons (ha : PD X e f) (hr : PAD X es fs) (hs : starEach (e :: es) X.env = (false, eval e X.env) :: starEach es X.env := by rfl) : PAD X (e :: es) (consD f fs) := by
  intro pos pins s σ G H δ I R hn
  have hn' : (f δ).bind (fun d => (fs δ).bind fun ds => .ok (d :: ds)) ≠ .stuck := hn
  rw [hs]
  show wpAny _ _ (spliced ((false, eval e X.env) :: backTo pos (starEach es X.env))) _ _ s
  refine Calls.spliced_cons (ha.use I R (bind_l hn') (fun d u s1 v H1 q I1 r1 e1 b1 p1 => ?_) fun e s1 q => q.same fun x z => bind_x z)
  have hn2 := bind_r hn' q
  refine hr.use I1 (R.mono e1) (bind_l hn2) (fun ds us s2 vs H2 q2 I2 r2 e2 b2 p2 => ⟨d :: ds, v :: vs, H2, by unfold consD; rw [q, Res.bind_ok, q2]; rfl, I2, .cons r1 r2, e1.trans e2, Reps.cons (p1.mono e2) p2⟩) fun e s2 q2 => q2.back e1 b1 fun x z => by unfold consD; rw [q, Res.bind_ok, z]; rfl
noncomputable def tupD (r : Res (List D)) : Res D := r.bind fun ds => if ds.length ≤ sizeLine then .ok (.tup ds) else .stuck
noncomputable def lstD (r : Res (List D)) : Res D := r.bind fun ds => if ds.length ≤ sizeLine then .ok (.lst ds) else .stuck
theorem pd_tup {x1} (h : PAD X es fs) : PD X (.Tuple es x1 pos) (fun δ => tupD (fs δ)) := by
  intro pins s σ G H δ I R hs
  try dsimp only at hs ⊢
  have hs' : (fs δ).bind (fun ds => if ds.length ≤ sizeLine then Res.ok (D.tup ds) else .stuck) ≠ .stuck := hs
  refine wpAny_Tuple_spliced (h.use I R (bind_l hs') (fun ds us s1 vs H1 q I1 r1 e1 b1 p1 => ?_) fun e s1 q => q.same fun x z => bind_x z)
  have h2 := bind_r hs' q
  have hz : ds.length ≤ sizeLine := by
    by_cases c : ds.length ≤ sizeLine
    · exact c
    · rw [if_neg c] at h2; exact (h2 rfl).elim
  refine ⟨by rw [← r1.length, p1.length]; exact hz, ?_⟩
  have hf : H1 s1.heap.objs.size = none := I1.hok.fresh (Nat.le_refl _)
  refine ⟨.tup ds, .ref s1.heap.objs.size, upd H1 s1.heap.objs.size (.tup vs), by unfold tupD; rw [q, Res.bind_ok, if_pos hz], I1.laid (t' := s1.toks) (fun b u e => Heap.get?_push_of_some _ e) (Nat.le_refl _) ?_, rfl, e1.trans (same_upd hf _), mkT (SqT.of upd_same) (p1.mono (same_upd hf _))⟩
  exact ⟨by rw [p1.length]; exact hz, us, r1, ⟨_, Heap.get?_push_size _ rfl, rfl, _, rfl⟩⟩
theorem pd_lst (h : PAD X es fs) : PD X (.List es pos) (fun δ => lstD (fs δ)) := by
  intro pins s σ G H δ I R hs
  try dsimp only at hs ⊢
  have hs' : (fs δ).bind (fun ds => if ds.length ≤ sizeLine then Res.ok (D.lst ds) else .stuck) ≠ .stuck := hs
  refine wpAny_List_spliced (h.use I R (bind_l hs') (fun ds us s1 vs H1 q I1 r1 e1 b1 p1 => ?_) fun e s1 q => q.same fun x z => bind_x z)
  have h2 := bind_r hs' q
  have hz : ds.length ≤ sizeLine := by
    by_cases c : ds.length ≤ sizeLine
    · exact c
    · rw [if_neg c] at h2; exact (h2 rfl).elim
  refine ⟨by rw [← r1.length, p1.length]; exact hz, ?_⟩
  have hf : H1 s1.heap.objs.size = none := I1.hok.fresh (Nat.le_refl _)
  refine ⟨.lst ds, .ref s1.heap.objs.size, upd H1 s1.heap.objs.size (.lst vs), by unfold lstD; rw [q, Res.bind_ok, if_pos hz], I1.laid (t' := s1.toks) (fun b u e => Heap.get?_push_of_some _ e) (Nat.le_refl _) ?_, rfl, e1.trans (same_upd hf _), mkL (SqL.of upd_same) (p1.mono (same_upd hf _))⟩
  exact ⟨by rw [p1.length]; exact hz, us, 0, r1, Heap.get?_push_size _ rfl⟩
noncomputable def ixD : D → D → Res D
  | .tup ds, .int i => match atI ds i with | some d => .ok d | none => .stuck
  | .lst ds, .int i => match atI ds i with | some d => .ok d | none => .stuck
  | .str z, .int i => if z.length ≤ sizeLine then (match atI z.cps.toList i with | some c => .ok (.str ⟨#[c]⟩) | none => .stuck) else .stuck
  | _, _ => .stuck
theorem ne_ix (x y : D) : NoErr (ixD x y) := by
  cases x <;> cases y <;> first | exact noErr_stuck | skip
  · simp only [ixD]; split <;> first | (split <;> first | exact noErr_ok | exact noErr_stuck) | exact noErr_stuck
  · simp only [ixD]; split <;> first | exact noErr_ok | exact noErr_stuck
  · simp only [ixD]; split <;> first | exact noErr_ok | exact noErr_stuck
theorem atI_rep {K : PySem.W.Frag} {H : Hp} {ds : List D} {vs : List V} {i : Int} {d : D} (r : Reps K H ds vs) (e : atI ds i = some d) : ∃ v, atI vs i = some v ∧ Rep K H d v := by
  unfold atI at e ⊢
  rw [r.length]
  cases q : ixN ds.length i with
  | none => rw [q] at e; cases e
  | some j =>
    rw [q] at e
    exact r.get e
theorem pd_ix {o i : Expr} {fo fi : DS → Res D} (ho : PD X o fo) (hi : PD X i fi) (hp : PlainIx i := by intro _ _; rfl) : PD X (.Subscript o i pos) (two fo fi ixD) := by
  intro pins s σ G H δ I R hs
  try dsimp only at hs ⊢
  refine Subscript_ (two_use ho hi I R hs (fun x y v u s2 vx vy H2 q I2 r1 r2 e2 p1 p2 => ?_) fun _ _ q => q)
  have hd : ixD x y ≠ .stuck := fun z => hs (q.trans z)
  cases qg : ixD x y with
  | stuck => exact (hd qg).elim
  | err z => exact (ne_ix x y z qg).elim
  | ok d =>
    refine wpAny_mono (ix_seq (X := X.wish fun _ _ => False) o i pins s2 σ H2 vx vy v u (fun z H' => H' = H2 ∧ Rep X.K H2 d z) (I2.wish _) r1 r2 ?_ (hp _ _)) (fun w s3 q3 => ?_) fun _ _ z => z.elim
    rotate_left
    · obtain ⟨z, H3, I3, r3, e3, p3⟩ := q3
      subst e3
      exact ⟨d, z, H3, q.trans qg, I3.unwish, r3, e2, p3⟩
    cases x with
    | tup ds =>
      cases y with
      | int k =>
        simp only [ixD] at qg
        split at qg
        · rename_i d' e
          cases qg
          obtain ⟨b, xs, rfl, w1, w2⟩ := repT p1
          obtain ⟨z, z1, z2⟩ := atI_rep w2 e
          exact .inr (.inl ⟨b, xs, k, z, rfl, repI p2, w1, z1, rfl, z2⟩)
        · cases qg
      | _ => cases qg
    | lst ds =>
      cases y with
      | int k =>
        simp only [ixD] at qg
        split at qg
        · rename_i d' e
          cases qg
          obtain ⟨b, xs, rfl, w1, w2⟩ := repL p1
          obtain ⟨z, z1, z2⟩ := atI_rep w2 e
          exact .inl ⟨b, xs, k, z, rfl, repI p2, w1, z1, rfl, z2⟩
        · cases qg
      | _ => cases qg
    | str z =>
      cases y with
      | int k =>
        simp only [ixD] at qg
        split at qg
        · rename_i hz
          split at qg
          · rename_i c e
            cases qg
            exact .inr (.inr ⟨z, k, c, repS p1, repI p2, hz, e, rfl, mkS⟩)
          · cases qg
        · cases qg
      | _ => cases qg
    | _ => cases qg
end
noncomputable def CallD (X : Cx) (f : Value) (g : List D → Res D) : Prop :=
  ∀ (E : Value → Shared → Prop) (pins : List (Addr × Obj)) (s : Shared) (σ : St) (H : Hp) (xs : List V) (us : List Value) (ds : List D) (d : D), Inv X pins σ H s → Vals xs us → Reps X.K H ds xs → g ds = .ok d →
    wpAny (model X.prog X.w) X.A (call f us) (EPost X pins σ H (.ok d)) E s
theorem CallD.of {X : Cx} {f : Value} {r : List V → Hp → VK → Prop} {g : List D → Res D} (hc : ∀ E, CallR (X.wish E) f r) (h : ∀ (H : Hp) (xs : List V) (ds : List D) (d : D) (Q : VK), Reps X.K H ds xs → g ds = .ok d → (∀ z H', Same H H' → Rep X.K H' d z → Q z H') → r xs H Q) : CallD X f g :=
  fun E pins s σ H xs us ds d I r1 p e => thn (hc E pins s σ H xs us (fun z H' => Same H H' ∧ Rep X.K H' d z) (I.wish _) r1 (h H xs ds d _ p e fun z H' a b => ⟨a, b⟩)) fun w s1 ⟨z, H1, I1, r3, e1, p3⟩ => ⟨d, z, H1, rfl, I1.unwish, r3, e1, p3⟩
section
variable {X : Cx} {e : Expr} {es : List Expr} {fs : DS → Res (List D)} {x : Str} {p pos : Pos} {id T : String} {g : List D → Res D}
theorem call_body {pins : List (Addr × Obj)} {s : Shared} {σ : St} {G H : Hp} {δ : DS} {f : Value} (hc : CallD X f g) (hg : ∀ ds, NoErr (g ds)) (ha : PAD X es fs) (I : Inv X pins σ H s) (R : RepSt X.K G H σ δ) (hs : (fs δ).bind g ≠ .stuck) :
    wpAny (model X.prog X.w) X.A (spliced (backTo pos (starEach es X.env))) (fun us s1 => wpAny (model X.prog X.w) X.A (call f us) (EPost X pins σ H ((fs δ).bind g)) (XPost X pins σ H s.heap ((fs δ).bind g)) s1) (XPost X pins σ H s.heap ((fs δ).bind g)) s := by
  refine ha.use I R (bind_l hs) (fun ds us s1 vs H1 q I1 r1 e1 b1 p1 => ?_) fun e s1 q => q.same fun x z => bind_x z
  have h2 := bind_r hs q
  cases qg : g ds with
  | stuck => exact (h2 qg).elim
  | err z => exact (hg ds z qg).elim
  | ok d => exact thn (hc _ pins s1 σ H1 vs us ds d I1 r1 p1 qg) fun w s2 p => p.from e1 (by rw [q, Res.bind_ok, qg])
theorem pd_callB (hc : CallD X (.builtin id) g) (hne : ∀ ds, NoErr (g ds)) (hg : Gl X x) (hm : X.mg x = none) (hv : bootBuiltins x = some (.builtin id)) (ha : PAD X (e :: es) fs) (hn : x ≠ "__name__" := by decide) (hdb : (x == ("__debug__" : Str)) = false := by decide)
    (he : starEach (e :: es) X.env = (false, eval e X.env) :: starEach es X.env := by rfl) (hpl : (backTo pos (starEach es X.env)).any (·.1) = false := by rfl) : PD X (.Call (.Name x p) (e :: es) [] pos) (fun δ => (fs δ).bind g) := by
  intro pins s σ G H δ I R hs
  try dsimp only at hs ⊢
  refine wpAny_Call_Name_kw (ld_blt I hg hm hv ?_ hn hdb)
  exact PyProof.Rows.callWith_builtin1 (call_body hc hne ha I R hs) he hpl
theorem pd_callTy (hc : CallD X (.type T) g) (hne : ∀ ds, NoErr (g ds)) (hg : Gl X x) (hm : X.mg x = none) (hv : bootBuiltins x = some (.type T)) (ha : PAD X (e :: es) fs) (hn : x ≠ "__name__" := by decide) (hdb : (x == ("__debug__" : Str)) = false := by decide)
    (he : starEach (e :: es) X.env = (false, eval e X.env) :: starEach es X.env := by rfl) (hpl : (backTo pos (starEach es X.env)).any (·.1) = false := by rfl) : PD X (.Call (.Name x p) (e :: es) [] pos) (fun δ => (fs δ).bind g) := by
  intro pins s σ G H δ I R hs
  try dsimp only at hs ⊢
  refine wpAny_Call_Name_kw (ld_blt I hg hm hv ?_ hn hdb)
  exact PyProof.Rows.callWith_type1 (call_body hc hne ha I R hs) he hpl
end
noncomputable def absG : List D → Res D
  | [.int i] => .ok (.int (if i < 0 then -i else i))
  | _ => .stuck
theorem cd_abs {X : Cx} : CallD X (.builtin "abs") absG := .of (fun _ => call_abs) fun H xs ds d Q r e q => by
  unfold absG at e
  split at e
  · rename_i i
    cases e
    obtain ⟨v, vs, rfl, p1, t⟩ := r.cons_of
    cases t.nil_of
    exact ⟨i, by rw [repI p1], q _ H (Same.refl H) mkI⟩
  · cases e
theorem ne_abs (ds : List D) : NoErr (absG ds) := by
  unfold absG
  split
  · exact noErr_ok
  · exact noErr_stuck
noncomputable def lenG : List D → Res D
  | [.tup ds] => .ok (.int ds.length)
  | [.lst ds] => .ok (.int ds.length)
  | [.str z] => if z.length ≤ sizeLine then .ok (.int z.length) else .stuck
  | _ => .stuck
theorem ne_len (ds : List D) : NoErr (lenG ds) := by
  unfold lenG
  split <;> first | exact noErr_ok | exact noErr_stuck | exact noErr_ite noErr_ok noErr_stuck
theorem call_len' {X : Cx} (E : Value → Shared → Prop) : CallR (X.wish E) (.builtin "len") (fun xs H Q => ∃ x n, xs = [x] ∧ LenV X.K x H n ∧ Q (.int n) H) := call_len
theorem cd_len {X : Cx} : CallD X (.builtin "len") lenG := .of call_len' fun H xs ds d Q r e q => by
  unfold lenG at e
  split at e
  · rename_i es
    cases e
    obtain ⟨v, vs, rfl, p1, t⟩ := r.cons_of
    cases t.nil_of
    obtain ⟨a, ys, rfl, w1, w2⟩ := repT p1
    exact ⟨_, es.length, rfl, .inr ⟨ys, w1, w2.length.symm⟩, q _ H (Same.refl H) mkI⟩
  · rename_i es
    cases e
    obtain ⟨v, vs, rfl, p1, t⟩ := r.cons_of
    cases t.nil_of
    obtain ⟨a, ys, rfl, w1, w2⟩ := repL p1
    exact ⟨_, es.length, rfl, .inl ⟨ys, w1, w2.length.symm⟩, q _ H (Same.refl H) mkI⟩
  · rename_i z
    split at e
    · rename_i hz
      cases e
      obtain ⟨v, vs, rfl, p1, t⟩ := r.cons_of
      cases t.nil_of
      cases repS p1
      exact ⟨_, z.length, rfl, ⟨hz, rfl⟩, q _ H (Same.refl H) mkI⟩
    · cases e
  · cases e
end DL
set_option Elab.async false
set_option linter.all false
set_option maxRecDepth 100000
namespace DL
open PySem PySem.Spec PyProof.Rows L2
inductive Out where
  | stuck
  | nxt (δ : DS)
  | ret (d : D)
  | brk (δ : DS)
  | cnt (δ : DS)
  | err (x : Exn) (δ : DS)
noncomputable def Out.seq (o : Out) (g : DS → Out) : Out := match o with
  | .nxt δ => g δ
  | o => o
noncomputable def SPost (X : Cx) (pins : List (Addr × Obj)) (G H : Hp) (o : Out) (fl : Flow) (s1 : Shared) : Prop := match fl with
  | .next => ∃ δ' σ' H', o = .nxt δ' ∧ Inv X pins σ' H' s1 ∧ TK H H' ∧ RepSt X.K G H' σ' δ'
  | .brk => ∃ δ' σ' H', o = .brk δ' ∧ Inv X pins σ' H' s1 ∧ TK H H' ∧ RepSt X.K G H' σ' δ'
  | .cont => ∃ δ' σ' H', o = .cnt δ' ∧ Inv X pins σ' H' s1 ∧ TK H H' ∧ RepSt X.K G H' σ' δ'
  | .ret u => ∃ d v σ' H', o = .ret d ∧ Inv X pins σ' H' s1 ∧ TK H H' ∧ Same G H' ∧ RelV v u ∧ Rep X.K H' d v
noncomputable def SX (X : Cx) (pins : List (Addr × Obj)) (G H : Hp) (h0 : Heap) (o : Out) (e : Value) (s1 : Shared) : Prop :=
  ∃ x δ' a C σ' H', o = .err x δ' ∧ e = .ref a ∧ Inv X pins σ' H' s1 ∧ TK H H' ∧ RepSt X.K G H' σ' δ' ∧ PySem.W.nsIn X.K mainGlobals x.cls = some (some (.ref C)) ∧ Fly h0 H' s1.heap a (.ref C)
noncomputable def PSD (X : Cx) (st : Stmt) (f : DS → Out) : Prop :=
  ∀ (pins : List (Addr × Obj)) (s : Shared) (σ : St) (G H : Hp) (δ : DS), Inv X pins σ H s → RepSt X.K G H σ δ → f δ ≠ .stuck →
    wpAny (model X.prog X.w) X.A (exec st X.env) (SPost X pins G H (f δ)) (SX X pins G H s.heap (f δ)) s
noncomputable def PSDs (X : Cx) (st : List Stmt) (f : DS → Out) : Prop :=
  ∀ (pins : List (Addr × Obj)) (s : Shared) (σ : St) (G H : Hp) (δ : DS), Inv X pins σ H s → RepSt X.K G H σ δ → f δ ≠ .stuck →
    wpAny (model X.prog X.w) X.A (execs st X.env) (SPost X pins G H (f δ)) (SX X pins G H s.heap (f δ)) s
noncomputable def onD (r : Res D) (δ : DS) (k : D → Out) : Out := match r with
  | .stuck => .stuck
  | .ok d => k d
  | .err x => .err x δ
noncomputable def onT (r : Res Bool) (δ : DS) (k : Bool → Out) : Out := match r with
  | .stuck => .stuck
  | .ok d => k d
  | .err x => .err x δ
theorem onD_l {r : Res D} {δ : DS} {k : D → Out} (h : onD r δ k ≠ .stuck) : r ≠ .stuck := fun q => h (by rw [q]; rfl)
theorem onT_l {r : Res Bool} {δ : DS} {k : Bool → Out} (h : onT r δ k ≠ .stuck) : r ≠ .stuck := fun q => h (by rw [q]; rfl)
section
variable {X : Cx} {pins : List (Addr × Obj)} {G H H1 : Hp} {h0 h1 : Heap} {s1 : Shared} {fl : Flow} {o o' : Out} {e : Value}
theorem SPost.from (p : SPost X pins G H1 o fl s1) (t : TK H H1) (q : o = o') : SPost X pins G H o' fl s1 := by
  subst q
  cases fl with
  | next => obtain ⟨δ', σ', H', q1, q2, q3, q4⟩ := p; exact ⟨δ', σ', H', q1, q2, t.trans q3, q4⟩
  | brk => obtain ⟨δ', σ', H', q1, q2, q3, q4⟩ := p; exact ⟨δ', σ', H', q1, q2, t.trans q3, q4⟩
  | cont => obtain ⟨δ', σ', H', q1, q2, q3, q4⟩ := p; exact ⟨δ', σ', H', q1, q2, t.trans q3, q4⟩
  | ret u => obtain ⟨d, v, σ', H', q1, q2, q3, q4, q5, q6⟩ := p; exact ⟨d, v, σ', H', q1, q2, t.trans q3, q4, q5, q6⟩
theorem SX.from (p : SX X pins G H1 h1 o e s1) (t : TK H H1) (b : Back H h0 h1) (q : o = o') : SX X pins G H h0 o' e s1 := by
  subst q
  obtain ⟨x, δ', a, C, σ', H', q1, q2, q3, q4, q5, q6, q7⟩ := p
  exact ⟨x, δ', a, C, σ', H', q1, q2, q3, t.trans q4, q5, q6, q7.back t q4 b⟩
theorem XPost.sx {α : Type} {σ : St} {δ : DS} {r : Res α} (p : XPost X pins σ H h0 r e s1) (R : RepSt X.K G H σ δ) (q : ∀ x, r = .err x → o = .err x δ) : SX X pins G H h0 o e s1 := by
  obtain ⟨x, a, C, H1, q1, q2, q3, q4, q5, q6⟩ := p
  exact ⟨x, δ, a, C, σ, H1, q x q1, q2, q3, q4.tk, R.mono q4, q5, q6⟩
theorem use_s {t : Sem Flow} {s : Shared} {σ : St} (h : ∀ pins, Inv X pins σ H s → wpAny (model X.prog X.w) X.A t (SPost X pins G H o) (SX X pins G H s.heap o) s) (I : Inv X pins σ H s) {P : Flow → Shared → Prop} {E : Value → Shared → Prop}
    (k : ∀ fl s1, SPost X pins G H o fl s1 → Back H s.heap s1.heap → P fl s1) (kx : ∀ e s1, SX X pins G H s.heap o e s1 → E e s1) : wpAny (model X.prog X.w) X.A t P E s := by
  refine wpAny_mono (h (pins ++ allP X H s.heap) I.all) (fun fl s1 p => ?_) fun e s1 ⟨x, δ', a, C, σ', H', q1, q2, q3, q4, q5, q6, q7⟩ => kx e s1 ⟨x, δ', a, C, σ', H', q1, q2, q3.unpinned, q4, q5, q6, q7⟩
  cases fl with
  | next => obtain ⟨δ', σ', H', q1, q2, q3, q4⟩ := p; exact k .next s1 ⟨δ', σ', H', q1, q2.unpinned, q3, q4⟩ (I.backTo q2)
  | brk => obtain ⟨δ', σ', H', q1, q2, q3, q4⟩ := p; exact k .brk s1 ⟨δ', σ', H', q1, q2.unpinned, q3, q4⟩ (I.backTo q2)
  | cont => obtain ⟨δ', σ', H', q1, q2, q3, q4⟩ := p; exact k .cont s1 ⟨δ', σ', H', q1, q2.unpinned, q3, q4⟩ (I.backTo q2)
  | ret u => obtain ⟨d, v, σ', H', q1, q2, q3, q4, q5, q6⟩ := p; exact k (.ret u) s1 ⟨d, v, σ', H', q1, q2.unpinned, q3, q4, q5, q6⟩ (I.backTo q2)
end
section
variable {X : Cx} {st : Stmt} {rest : List Stmt} {f g : DS → Out} {e : Expr} {fe : DS → Res D} {pos : Pos}
theorem psd_nil : PSDs X [] Out.nxt := fun pins s σ G H δ I R _ => wpAny_execs_nil ⟨δ, σ, H, rfl, I, TK.refl H, R⟩
noncomputable def seqD (f g : DS → Out) : DS → Out := fun δ => (f δ).seq g
theorem psd_cons (h1 : PSD X st f) (h2 : PSDs X rest g) : PSDs X (st :: rest) (seqD f g) := by
  intro pins s σ G H δ I R hs
  try dsimp only at hs ⊢
  have hf : f δ ≠ .stuck := fun q => hs (by unfold seqD; rw [q]; rfl)
  refine wpAny_execs_cons (use_s (fun pins I => h1 pins s σ G H δ I R hf) I (fun fl s1 p b => ?_) fun e s1 p => ?_)
  · cases fl with
    | next =>
      obtain ⟨δ', σ', H', q1, q2, q3, q4⟩ := p
      have ev : seqD f g δ = g δ' := by unfold seqD; rw [q1]; rfl
      exact wpAny_mono (h2 pins s1 σ' G H' δ' q2 q4 fun z => hs (ev.trans z)) (fun fl s2 p2 => p2.from q3 ev.symm) fun e s2 p2 => p2.from q3 b ev.symm
    | brk => obtain ⟨δ', σ', H', q1, q2, q3, q4⟩ := p; exact ⟨δ', σ', H', by unfold seqD; rw [q1]; rfl, q2, q3, q4⟩
    | cont => obtain ⟨δ', σ', H', q1, q2, q3, q4⟩ := p; exact ⟨δ', σ', H', by unfold seqD; rw [q1]; rfl, q2, q3, q4⟩
    | ret u => obtain ⟨d, v, σ', H', q1, q2⟩ := p; exact ⟨d, v, σ', H', by unfold seqD; rw [q1]; rfl, q2⟩
  · obtain ⟨x, δ', a, C, σ', H', q1, q2⟩ := p
    exact ⟨x, δ', a, C, σ', H', by unfold seqD; rw [q1]; rfl, q2⟩
theorem psd_one (h1 : PSD X st f) : PSDs X [st] f := by
  intro pins s σ G H δ I R hs
  try dsimp only at hs ⊢
  refine wpAny_execs_cons (wpAny_mono (h1 pins s σ G H δ I R hs) (fun fl s1 p => ?_) fun e s1 p => p)
  cases fl with
  | next => exact wpAny_execs_nil p
  | brk => exact p
  | cont => exact p
  | ret u => exact p
noncomputable def NOut (X : Cx) (G H : Hp) (o : Out) (E : Ends) : Prop := match o with
  | .stuck => False
  | .nxt δ => ∀ σ' H', TK H H' → RepSt X.K G H' σ' δ → E.nx σ' H'
  | .ret d => ∀ v H', TK H H' → Same G H' → Rep X.K H' d v → E.rt v H'
  | .brk δ => ∀ σ' H', TK H H' → RepSt X.K G H' σ' δ → E.bk σ' H'
  | .cnt δ => ∀ σ' H', TK H H' → RepSt X.K G H' σ' δ → E.ct σ' H'
  | .err _ _ => False
noncomputable def sD (X : Cx) (f : DS → Out) : TS := fun E σ H => ∃ G δ, RepSt X.K G H σ δ ∧ NOut X G H (f δ) E
theorem NOut.tk {X : Cx} {G H H1 : Hp} {o : Out} {E : Ends} (h : NOut X G H o E) (t : TK H H1) : NOut X G H1 o E := by
  cases o with
  | stuck => exact h
  | nxt δ => exact fun σ' H' t' r => h σ' H' (t.trans t') r
  | ret d => exact fun v H' t' r => h v H' (t.trans t') r
  | brk δ => exact fun σ' H' t' r => h σ' H' (t.trans t') r
  | cnt δ => exact fun σ' H' t' r => h σ' H' (t.trans t') r
  | err x δ => exact h
theorem nout_sp {pins : List (Addr × Obj)} {G H : Hp} {o : Out} {E : Ends} {fl : Flow} {s1 : Shared} {W : Value → Shared → Prop} (h : NOut X G H o E) (p : SPost X pins G H o fl s1) : SP (X.wish W) pins E fl s1 := by
  cases fl with
  | next => obtain ⟨δ', σ', H', q1, q2, q3, q4⟩ := p; subst q1; exact ⟨σ', H', q2.wish _, h σ' H' q3 q4⟩
  | brk => obtain ⟨δ', σ', H', q1, q2, q3, q4⟩ := p; subst q1; exact ⟨σ', H', q2.wish _, h σ' H' q3 q4⟩
  | cont => obtain ⟨δ', σ', H', q1, q2, q3, q4⟩ := p; subst q1; exact ⟨σ', H', q2.wish _, h σ' H' q3 q4⟩
  | ret u => obtain ⟨d, v, σ', H', q1, q2, q3, q4, q5, q6⟩ := p; subst q1; exact ⟨v, σ', H', q2.wish _, q5, h v H' q3 q4 q6⟩
theorem NOut.ns {G H : Hp} {o : Out} {E : Ends} (h : NOut X G H o E) : o ≠ .stuck := fun q => by subst q; exact h
theorem NOut.sx {pins : List (Addr × Obj)} {G H : Hp} {h0 : Heap} {o : Out} {E : Ends} {e : Value} {s1 : Shared} (h : NOut X G H o E) (p : SX X pins G H h0 o e s1) : False := by
  obtain ⟨x, δ', _, _, _, _, q, _⟩ := p; subst q; exact h
theorem PSDs.ps (h : PSDs X rest f) : PSs X.nox rest (sD X f) := by
  intro pins s σ H E I ⟨G, δ, R, n⟩
  exact wpAny_mono (h pins s σ G H δ I.unwish R n.ns) (fun fl s1 p => nout_sp n p) fun e s1 p => n.sx p
theorem PSD.ps (h : PSD X st f) : PS X.nox st (sD X f) := by
  intro pins s σ H E I ⟨G, δ, R, n⟩
  exact wpAny_mono (h pins s σ G H δ I.unwish R n.ns) (fun fl s1 p => nout_sp n p) fun e s1 p => n.sx p
theorem PTD.pt {c : Expr} {tc : DS → Res Bool} (h : PTD X c tc) : PT X.nox c (fun σ H Q => ∃ G δ d, RepSt X.K G H σ δ ∧ tc δ = .ok d ∧ ∀ H', Same H H' → Q d H') := by
  intro pins s σ H Q I ⟨G, δ, d, R, q, n⟩
  refine wpAny_mono (h pins s σ G H δ I.unwish R (by rw [q]; intro z; cases z)) (fun b s1 ⟨H1, q1, I1, e1⟩ => ?_) fun e s1 p => ?_
  · rw [q] at q1; cases q1
    exact ⟨H1, I1.wish _, n H1 e1⟩
  · rw [q] at p; exact p.none
theorem PD.pe {fe : DS → Res D} (h : PD X e fe) : PE X.nox e (fun σ H Q => ∃ G δ d, RepSt X.K G H σ δ ∧ fe δ = .ok d ∧ ∀ v H', Same H H' → Rep X.K H' d v → Q v H') := by
  intro pins s σ H Q I ⟨G, δ, d, R, q, n⟩
  refine wpAny_mono (h pins s σ G H δ I.unwish R (by rw [q]; intro z; cases z)) (fun b s1 ⟨d', v, H1, q1, I1, r1, e1, p1⟩ => ?_) fun e s1 p => ?_
  · rw [q] at q1; cases q1
    exact ⟨v, H1, I1.wish _, r1, n v H1 e1 p1⟩
  · rw [q] at p; exact p.none
theorem PAD.pa {es : List Expr} {fs : DS → Res (List D)} (h : PAD X es fs) : PA X.nox es (fun σ H Q => ∃ G δ ds, RepSt X.K G H σ δ ∧ fs δ = .ok ds ∧ ∀ vs H', Same H H' → Reps X.K H' ds vs → Q vs H') := by
  intro pos pins s σ H Q I ⟨G, δ, d, R, q, n⟩
  refine wpAny_mono (h pos pins s σ G H δ I.unwish R (by rw [q]; intro z; cases z)) (fun b s1 ⟨d', v, H1, q1, I1, r1, e1, p1⟩ => ?_) fun e s1 p => ?_
  · rw [q] at q1; cases q1
    exact ⟨v, H1, I1.wish _, r1, n v H1 e1 p1⟩
  · rw [q] at p; exact p.none
theorem psd_of (hne : ∀ δ x δ', f δ ≠ .err x δ') (h : PS X.nox st (sD X f)) : PSD X st f := by
  intro pins s σ G H δ I R hs
  try dsimp only at hs ⊢
  let E : Ends := { nx := fun σ' H' => ∃ δ', f δ = .nxt δ' ∧ TK H H' ∧ RepSt X.K G H' σ' δ', rt := fun v H' => ∃ d, f δ = .ret d ∧ TK H H' ∧ Same G H' ∧ Rep X.K H' d v, bk := fun σ' H' => ∃ δ', f δ = .brk δ' ∧ TK H H' ∧ RepSt X.K G H' σ' δ', ct := fun σ' H' => ∃ δ', f δ = .cnt δ' ∧ TK H H' ∧ RepSt X.K G H' σ' δ' }
  have n : NOut X G H (f δ) E := by
    cases q : f δ with
    | stuck => exact (hs q).elim
    | nxt δ' => exact fun σ' H' t r => ⟨δ', q, t, r⟩
    | brk δ' => exact fun σ' H' t r => ⟨δ', q, t, r⟩
    | cnt δ' => exact fun σ' H' t r => ⟨δ', q, t, r⟩
    | ret d => exact fun v H' t g r => ⟨d, q, t, g, r⟩
    | err x δ' => exact (hne δ x δ' q).elim
  refine wpAny_mono (h pins s σ H E (I.wish _) ⟨G, δ, R, n⟩) (fun fl s1 p => ?_) fun e s1 p => p.elim
  cases fl with
  | next => obtain ⟨σ', H', q2, δ', q1, q3, q4⟩ := p; exact ⟨δ', σ', H', q1, q2.unwish, q3, q4⟩
  | brk => obtain ⟨σ', H', q2, δ', q1, q3, q4⟩ := p; exact ⟨δ', σ', H', q1, q2.unwish, q3, q4⟩
  | cont => obtain ⟨σ', H', q2, δ', q1, q3, q4⟩ := p; exact ⟨δ', σ', H', q1, q2.unwish, q3, q4⟩
  | ret u => obtain ⟨v, σ', H', q2, q5, d, q1, q3, q4, q6⟩ := p; exact ⟨d, v, σ', H', q1, q2.unwish, q3, q4, q5, q6⟩
theorem psd_ret (he : PD X e fe) : PSD X (.Return (some e) pos) (fun δ => onD (fe δ) δ Out.ret) := by
  intro pins s σ G H δ I R hs
  try dsimp only at hs ⊢
  refine wpAny_Return_some (he.use I R (onD_l hs) (fun d u s1 v H1 q I1 r1 e1 b1 p1 => ⟨d, v, σ, H1, by rw [q]; rfl, I1, e1.tk, R.same.trans e1, r1, p1⟩) fun e s1 q => q.sx R fun x z => by rw [z]; rfl)
theorem psd_if {c : Expr} {a b : List Stmt} {tc : DS → Res Bool} {fa fb : DS → Out} (hc : PTD X c tc) (ha : PSDs X a fa) (hb : PSDs X b fb) : PSD X (.If c a b pos) (fun δ => onT (tc δ) δ fun k => if k = true then fa δ else fb δ) := by
  intro pins s σ G H δ I R hs
  try dsimp only at hs ⊢
  refine wpAny_If (hc.use I R (onT_l hs) (fun k s1 H1 q I1 e1 b1 => ?_) fun e s1 q => q.sx R fun x z => by rw [z]; rfl)
  cases k with
  | true =>
    have ev : onT (tc δ) δ (fun k => if k = true then fa δ else fb δ) = fa δ := by rw [q]; rfl
    exact wpAny_mono (ha pins s1 σ G H1 δ I1 (R.mono e1) fun z => hs (ev.trans z)) (fun fl s2 p => p.from e1.tk ev.symm) fun e s2 p => p.from e1.tk b1 ev.symm
  | false =>
    have ev : onT (tc δ) δ (fun k => if k = true then fa δ else fb δ) = fb δ := by rw [q]; rfl
    exact wpAny_mono (hb pins s1 σ G H1 δ I1 (R.mono e1) fun z => hs (ev.trans z)) (fun fl s2 p => p.from e1.tk ev.symm) fun e s2 p => p.from e1.tk b1 ev.symm
noncomputable def setD (i : Nat) (fe : DS → Res D) : DS → Out := fun δ => onD (fe δ) δ fun d => .nxt (δ.set i (some (.val d)))
theorem psd_set (i : Nat) {x : Str} {pos' : Pos} (he : PD X e fe) (hN : X.N.Nodup) (hi : X.N[i]? = some x := by rfl) (hx : Loc X.env.scope x := by first | exact Or.inl rfl | exact Or.inr rfl) (hw : swapsWith e (some (.Name x pos')) pos.line X.env = pure false := by rfl)
    (hf : X.fn x = true ∨ X.env.scope.names.lookup x = some .local := by first | exact .inl rfl | exact .inr rfl | assumption) : PSD X (.Assign [.Name x pos'] e pos) (setD i fe) := by
  intro pins s σ G H δ I R hs
  try dsimp only at hs ⊢
  refine wpAny_Assign_Name (he.use I R (onD_l hs) (fun d u s1 v H1 q I1 r1 e1 b1 p1 => ?_) fun e s1 q => q.sx R fun x z => by unfold setD; rw [z]; rfl) hw
  exact store_ok I1 hN hi hx r1 (fun s2 I2 => ⟨_, _, H1, by unfold setD; rw [q]; rfl, I2, e1.tk, (R.mono e1).set i p1⟩) hf
abbrev TGD := D → DS → Option DS
noncomputable def PGD (X : Cx) (tg : Expr) (t : TGD) : Prop :=
  ∀ (E : Value → Shared → Prop) (pins : List (Addr × Obj)) (s : Shared) (σ : St) (G H : Hp) (δ δ' : DS) (d : D) (v : V) (u : Value), Inv X pins σ H s → RelV v u → RepSt X.K G H σ δ → Rep X.K H d v → t d δ = some δ' →
    wpAny (model X.prog X.w) X.A (assign tg X.env u) (fun _ s1 => ∃ σ', Inv X pins σ' H s1 ∧ RepSt X.K G H σ' δ') E s
theorem pgd_name (i : Nat) {x : Str} (hN : X.N.Nodup) (hi : X.N[i]? = some x := by rfl) (hx : Loc X.env.scope x := by first | exact Or.inl rfl | exact Or.inr rfl) (hf : X.fn x = true ∨ X.env.scope.names.lookup x = some .local := by first | exact .inl rfl | exact .inr rfl | assumption) :
    PGD X (.Name x pos) (fun d δ => some (δ.set i (some (.val d)))) := by
  intro E pins s σ G H δ δ' d v u I r R p e
  cases e
  exact thn (pg_name (X := X.wish E) hN hi hx hf pins s σ H v u (fun σ' H' => σ' = σ.set i (some v) ∧ H' = H) (I.wish _) r ⟨rfl, rfl⟩) fun _ s1 ⟨σ', H', I', e1, e2⟩ => by
    subst e1 e2
    exact ⟨_, I'.unwish, R.set i p⟩
noncomputable def namesD : List Nat → List D → DS → Option DS
  | [], [], δ => some δ
  | i :: is, d :: ds, δ => namesD is ds (δ.set i (some (.val d)))
  | _, _, _ => none
theorem namesD_len : ∀ {is : List Nat} {ds : List D} {δ δ' : DS}, namesD is ds δ = some δ' → ds.length = is.length
  | [], [], _, _, _ => rfl
  | [], _ :: _, _, _, h => by simp [namesD] at h
  | _ :: _, [], _, _, h => by simp [namesD] at h
  | i :: is, d :: ds, δ, δ', h => by
    have := namesD_len (is := is) (ds := ds) (by simpa [namesD] using h)
    simp [this]
noncomputable def gsD (X : Cx) (is : List Nat) : TGs := fun vs σ H Q => ∃ G δ ds δ', RepSt X.K G H σ δ ∧ Reps X.K H ds vs ∧ namesD is ds δ = some δ' ∧ ∀ σ', RepSt X.K G H σ' δ' → Q σ' H
theorem pgs_namesNil : PGs X [] (gsD X []) := by
  intro pins s σ H vs us Q I r h
  obtain ⟨G, δ, ds, δ', R, p, e, q⟩ := h
  cases ds with
  | nil =>
    cases e
    exact pgs_nil pins s σ H vs us Q I r ⟨p.nil_of, q σ R⟩
  | cons d ds => cases e
theorem pgs_namesCons (i : Nat) {is : List Nat} {x : Str} {es : List Expr} (hN : X.N.Nodup) (h2 : PGs X es (gsD X is)) (hi : X.N[i]? = some x := by rfl) (hx : Loc X.env.scope x := by first | exact Or.inl rfl | exact Or.inr rfl)
    (hf : X.fn x = true ∨ X.env.scope.names.lookup x = some .local := by first | exact .inl rfl | exact .inr rfl | assumption) (hs : (assignEach (.Name x pos :: es) X.env).map (·.2) = assign (.Name x pos) X.env :: (assignEach es X.env).map (·.2) := by rfl) :
    PGs X (.Name x pos :: es) (gsD X (i :: is)) := by
  intro pins s σ H vs us Q I r h
  obtain ⟨G, δ, ds, δ', R, p, e, q⟩ := h
  cases ds with
  | nil => cases e
  | cons d ds =>
    obtain ⟨v, ws, rfl, p1, p2⟩ := p.cons_of
    exact pgs_cons (pg_name hN hi hx hf) h2 hs pins s σ H _ us Q I r ⟨v, ws, rfl, G, _, ds, δ', R.set i p1, p2, e, q⟩
noncomputable def tupTgt (is : List Nat) : TGD := fun d δ => match d with
  | .tup ds => namesD is ds δ
  | _ => none
theorem pgd_tup {es : List Expr} {k : Nat} {is : List Nat} (hc : X.calm = true) (h : ∀ E, PGs (X.wish E) es (gsD X is)) (hn : (assignEach es X.env).length = is.length := by rfl) (hst : (assignEach es X.env).findIdx? (·.1) = none := by rfl) : PGD X (.Tuple es k pos) (tupTgt is) := by
  intro E pins s σ G H δ δ' d v u I r R p e
  cases d with
  | tup ds =>
    obtain ⟨a, xs, rfl, w1, w2⟩ := repT p
    exact thn (pg_tup (X := X.wish E) hc (h E) hn hst pins s σ H _ u (fun σ' H' => H' = H ∧ RepSt X.K G H σ' δ') (I.wish _) r ⟨a, xs, rfl, w1, by rw [w2.length]; exact namesD_len e, G, δ, ds, δ', R, w2, e, fun σ' R' => ⟨rfl, R'⟩⟩) fun _ s1 ⟨σ', H', I', e1, e2⟩ => by
      subst e1
      exact ⟨σ', I'.unwish, e2⟩
  | _ => cases e
end
noncomputable def whileD (c : DS → Res Bool) (b : DS → Out) : Nat → DS → Out
  | 0, _ => .stuck
  | n + 1, δ => match c δ with
    | .ok true => (match b δ with
      | .nxt δ' => whileD c b n δ'
      | .cnt δ' => whileD c b n δ'
      | .brk δ' => .nxt δ'
      | .ret d => .ret d
      | _ => .stuck)
    | .ok false => .nxt δ
    | _ => .stuck
theorem whileD_ne (c : DS → Res Bool) (b : DS → Out) : ∀ (n : Nat) (δ : DS) (x : Exn) (δ' : DS), whileD c b n δ ≠ .err x δ'
  | 0, _, _, _, h => by simp [whileD] at h
  | n + 1, δ, x, δ', h => by
    rw [whileD] at h
    split at h
    · split at h <;> first | exact whileD_ne c b n _ x δ' h | cases h
    · cases h
    · cases h
theorem psd_while {X : Cx} {c : Expr} {body : List Stmt} {tc : DS → Res Bool} {fb : DS → Out} {pos : Pos} (fuel : DS → Nat) (hc : PTD X c tc) (hb : PSDs X body fb) :
    PSD X (.While c body [] pos) (fun δ => whileD tc fb (fuel δ) δ) := by
  refine psd_of (fun δ => whileD_ne tc fb (fuel δ) δ) fun pins s σ H E I h => ?_
  obtain ⟨G, δ, R, h⟩ := h
  refine ps_while PassesOwn.never hc.pt hb.ps pins s σ H E I ⟨fun m σ' H' => ∃ δ', RepSt X.K G H' σ' δ' ∧ NOut X G H' (whileD tc fb m δ') E, ⟨fuel δ, δ, R, h⟩, ?_⟩
  rintro m σ1 H1 ⟨δ1, R1, h1⟩
  cases m with
  | zero => exact h1.elim
  | succ m =>
    rw [whileD] at h1
    cases q : tc δ1 with
    | stuck => simp only [q] at h1; exact h1.elim
    | err x => simp only [q] at h1; exact h1.elim
    | ok k =>
      refine ⟨G, δ1, k, R1, q, fun H2 e2 => ?_⟩
      cases k with
      | false =>
        simp only [q] at h1
        rw [if_neg Bool.false_ne_true]
        exact h1 σ1 H2 e2.tk (R1.mono e2)
      | true =>
        simp only [q] at h1
        rw [if_pos rfl]
        refine ⟨fun σ' H' => ∃ δ', RepSt X.K G H' σ' δ' ∧ NOut X G H' (whileD tc fb m δ') E, fun σ' H' z => ⟨m, Nat.lt_succ_self m, z⟩, G, δ1, R1.mono e2, ?_⟩
        cases z : fb δ1 with
        | stuck => rw [z] at h1; exact h1
        | err x δ' => rw [z] at h1; exact h1
        | nxt δ' => rw [z] at h1; exact fun σ' H' t r => ⟨δ', r, h1.tk (e2.tk.trans t)⟩
        | cnt δ' => rw [z] at h1; exact fun σ' H' t r => ⟨δ', r, h1.tk (e2.tk.trans t)⟩
        | brk δ' => rw [z] at h1; exact fun σ' H' t r => h1 σ' H' (e2.tk.trans t) r
        | ret d => rw [z] at h1; exact fun v H' t g r => h1 v H' (e2.tk.trans t) g r
noncomputable def forD (t : TGD) (b : DS → Out) : List D → DS → Out
  | [], δ => .nxt δ
  | d :: ds, δ => match t d δ with
    | none => .stuck
    | some δ1 => match b δ1 with
      | .nxt δ' => forD t b ds δ'
      | .cnt δ' => forD t b ds δ'
      | .brk δ' => .nxt δ'
      | .ret d => .ret d
      | _ => .stuck
theorem forD_ne (t : TGD) (b : DS → Out) : ∀ (ds : List D) (δ : DS) (x : Exn) (δ' : DS), forD t b ds δ ≠ .err x δ'
  | [], _, _, _, h => by simp [forD] at h
  | d :: ds, δ, x, δ', h => by
    rw [forD] at h
    split at h
    · cases h
    · split at h <;> first | exact forD_ne t b ds _ x δ' h | cases h
noncomputable def rangeD (lo : Int) : Nat → List D
  | 0 => []
  | n + 1 => .int lo :: rangeD (lo + 1) n
theorem rangeD_drop (lo : Int) (n i : Nat) (h : i < n) : (rangeD lo n).drop i = .int (lo + i) :: (rangeD lo n).drop (i + 1) := by
  induction i generalizing lo n with
  | zero =>
    cases n with
    | zero => omega
    | succ n => simp [rangeD]
  | succ i ih =>
    cases n with
    | zero => omega
    | succ n =>
      have q := ih (lo + 1) n (by omega)
      simp only [rangeD, List.drop_succ_cons]
      rw [q]
      have : lo + 1 + (i : Int) = lo + ((i + 1 : Nat) : Int) := by omega
      rw [this]
theorem rangeD_length (lo : Int) (n : Nat) : (rangeD lo n).length = n := by
  induction n generalizing lo with
  | zero => rfl
  | succ n ih => simp [rangeD, ih]
noncomputable def gD (X : Cx) (t : TGD) : TG := fun v σ H Q => ∃ G δ d δ', RepSt X.K G H σ δ ∧ Rep X.K H d v ∧ t d δ = some δ' ∧ ∀ σ', RepSt X.K G H σ' δ' → Q σ' H
noncomputable def onL (r : Res (List D)) (k : List D → Out) : Out := match r with
  | .ok d => k d
  | _ => .stuck
theorem onL_ne {r : Res (List D)} {k : List D → Out} (h : ∀ ds x δ', k ds ≠ .err x δ') (x : Exn) (δ' : DS) : onL r k ≠ .err x δ' := by
  cases r with
  | ok d => exact h d x δ'
  | stuck => intro z; cases z
  | err _ => intro z; cases z
section
variable {X : Cx} {tg iter : Expr} {body : List Stmt} {t : TGD} {fb : DS → Out} {pos : Pos} {G H : Hp} {E : Ends}
theorem PGD.pg (h : PGD X tg t) : PG X.nox tg (gD X t) := by
  intro pins s σ H v u Q I r hq
  obtain ⟨G, δ, d, δ', R, p, e, q⟩ := hq
  exact thn (h _ pins s σ G H δ δ' d v u I.unwish r R p e) fun _ s1 ⟨σ', I', R'⟩ => ⟨σ', H, I'.wish _, q σ' R'⟩
theorem for_turn {ds : List D} {d : D} {δ : DS} {v : V} {σ : St} {N : St → Hp → Prop} (R : RepSt X.K G H σ δ) (p : Rep X.K H d v) (h : NOut X G H (forD t fb (d :: ds) δ) E)
    (hN : ∀ δ' σ' H', TK H H' → RepSt X.K G H' σ' δ' → NOut X G H' (forD t fb ds δ') E → N σ' H') : gD X t v σ H fun σ2 H2 => sD X fb { E with nx := N, ct := N, bk := E.nx } σ2 H2 := by
  rw [forD] at h
  cases z : t d δ with
  | none => rw [z] at h; exact h.elim
  | some δ1 =>
    rw [z] at h
    refine ⟨G, δ, d, δ1, R, p, z, fun σ' R' => ⟨G, δ1, R', ?_⟩⟩
    simp only at h
    cases q : fb δ1 with
    | stuck => rw [q] at h; exact h
    | err x δ' => rw [q] at h; exact h
    | nxt δ' => rw [q] at h; exact fun σ2 H2 t2 r2 => hN δ' σ2 H2 t2 r2 (h.tk t2)
    | cnt δ' => rw [q] at h; exact fun σ2 H2 t2 r2 => hN δ' σ2 H2 t2 r2 (h.tk t2)
    | brk δ' => rw [q] at h; exact fun σ2 H2 t2 r2 => h σ2 H2 t2 r2
    | ret d => rw [q] at h; exact fun v H2 t2 g r2 => h v H2 t2 g r2
noncomputable def rng1 : List D → Res (List D)
  | [.int j] => if -(2 ^ 62) ≤ j ∧ j < 2 ^ 62 then .ok (rangeD 0 j.toNat) else .stuck
  | _ => .stuck
theorem range_for {lo : Int} {n : Nat} {δ : DS} {σ : St} (R : RepSt X.K G H σ δ) (h : NOut X G H (forD t fb (rangeD lo n) δ) E) :
    ∃ W : Nat → Nat → St → Hp → Prop, (∃ m, W 0 m σ H) ∧ ∀ i m σ H, W i m σ H →
      ((Itr lo n).stop i H ∧ E.nx σ H) ∨ ((Itr lo n).go i H ∧ ∃ N : St → Hp → Prop, (∀ σ' H', N σ' H' → ∃ m', m' < m ∧ W (i + 1) m' σ' H') ∧ ∀ x H', (Itr lo n).yld i H x H' → gD X t x σ H' fun σ2 H2 => sD X fb { E with nx := N, ct := N, bk := E.nx } σ2 H2) := by
  refine for_range (fun i σ' H' => ∃ δ', RepSt X.K G H' σ' δ' ∧ NOut X G H' (forD t fb ((rangeD lo n).drop i) δ') E) ⟨δ, R, by simpa using h⟩ ?_ ?_
  · rintro i σ1 H1 hi ⟨δ1, R1, h1⟩
    rw [rangeD_drop lo n i hi] at h1
    exact for_turn R1 mkI h1 fun δ' σ' H' _ r z => ⟨δ', r, z⟩
  · rintro σ1 H1 ⟨δ1, R1, h1⟩
    rw [List.drop_eq_nil_of_le (by rw [rangeD_length]; exact Nat.le_refl _)] at h1
    exact h1 σ1 H1 (TK.refl H1) R1
theorem psd_for_range1 {a : Expr} {fa : DS → Res (List D)} {p ps : Pos} (hc : X.calm = true) (hgl : Gl X "range") (hm : X.mg "range" = none) (ha : PAD X [a] fa) (hg : PGD X tg t) (hb : PSDs X body fb)
    (hs : starEach [a] X.env = [(false, eval a X.env)] := by rfl) (hf : ∀ x, foldedSetIterable (.Call (.Name "range" p) [a] [] ps) X.env x = pure x := by intro _; rfl) :
    PSD X (.For tg (.Call (.Name "range" p) [a] [] ps) body [] pos) (fun δ => onL ((fa δ).bind rng1) fun ds => forD t fb ds δ) := by
  refine psd_of (fun δ => onL_ne fun ds => forD_ne t fb ds δ) fun pins s σ H E I h => ?_
  obtain ⟨G, δ, R, h⟩ := h
  refine ps_for (X := X.nox) PassesOwn.never hc (pi_range1 (X := X.nox) hgl hm ha.pa hs) hg.pg hb.ps hf pins s σ H E I ?_
  cases q : fa δ with
  | stuck => simp only [q] at h; exact h.elim
  | err x => simp only [q] at h; exact h.elim
  | ok ds =>
    simp only [q, Res.bind_ok] at h
    refine ⟨G, δ, ds, R, q, fun vs H1 e1 p1 => ?_⟩
    unfold rng1 at h
    split at h
    · rename_i j
      obtain ⟨v, ws, rfl, w1, w2⟩ := p1.cons_of
      cases w2.nil_of
      cases repI w1
      split at h
      · rename_i hj
        exact ⟨j, rfl, hj.1, hj.2, range_for (R.mono e1) (h.tk e1.tk)⟩
      · exact h.elim
    · exact h.elim
end
end DL
set_option Elab.async false
set_option linter.all false
set_option maxRecDepth 100000
namespace DL
open PySem PySem.Spec PyProof.Rows L2
theorem dict_mapFields (o : Obj) (f) : (o.mapFields f).dict = o.dict := by
  obtain ⟨c, d, dt, sl⟩ := o; cases dt <;> rfl
noncomputable def FlyT (h0 : Heap) (H : Hp) (h : Heap) (e : Addr) (cls fl : Value) : Prop :=
  NoRec h0 e ∧ H e = none ∧ ∃ oe vs a0 T oT ts, h.get? e = some oe ∧ (oe.cls = cls ∧ oe.dict = none) ∧ oe.data = .fields vs ∧ vs[0]? = some a0 ∧ vs[1]? = some (.ref T) ∧ NoRec h0 T ∧ H T = none ∧ T ≠ e ∧ h.get? T = some oT ∧ oT.data = .fields ts ∧ ts[3]? = some fl
theorem FlyT.fly {h0 : Heap} {H : Hp} {h : Heap} {e : Addr} {cls : Value} (f : FlyT h0 H h e cls .none) : Fly h0 H h e cls := by
  obtain ⟨n, he, oe, vs, a0, T, oT, ts, q1, q2, q3, q4, q5, q6⟩ := f
  exact ⟨n, he, oe, vs, a0, q1, q2, q3, q4, .inr ⟨T, oT, ts, q5, q6⟩⟩
noncomputable def InEx (h : Heap) (e b : Addr) : Prop := b = e ∨ ∃ oe vs, h.get? e = some oe ∧ oe.data = .fields vs ∧ vs[1]? = some (.ref b)
structure KF (e : Addr) (fs : List Addr) (h h' : Heap) : Prop where
  keep : ∀ b o, h.get? b = some o → b ∉ fs → ¬ InEx h e b → h'.get? b = some o
  slot : ∀ b o, h.get? b = some o → b ∈ fs → ¬ InEx h e b → ∃ sl, h'.get? b = some { o with slots := sl }
  there : ∀ b o, h.get? b = some o → ∃ o', h'.get? b = some o'
theorem Fly.ex {h0 h : Heap} {H : Hp} {e b : Addr} {cls : Value} (f : Fly h0 H h e cls) (x : InEx h e b) : NoRec h0 b ∧ H b = none ∧ ∃ o vs, h.get? b = some o ∧ o.data = .fields vs := by
  obtain ⟨n, he, oe, vs, a0, q1, q2, q3, q4, q5⟩ := f
  rcases x with rfl | ⟨oe', vs', w1, w2, w3⟩
  · exact ⟨n, he, oe, vs, q1, q3⟩
  · rw [q1] at w1; cases w1
    rw [q3] at w2; cases w2
    rcases q5 with q5 | ⟨T, oT, ts, z1, z2, z3, z4, z5, z6, z7⟩
    · rw [q5] at w3; cases w3
    · rw [z1] at w3; cases w3
      exact ⟨z2, z3, oT, ts, z5, z6⟩
theorem FlyT.ex {h0 h : Heap} {H : Hp} {e b : Addr} {cls fl : Value} (f : FlyT h0 H h e cls fl) (x : InEx h e b) : NoRec h0 b ∧ H b = none ∧ ∃ o vs, h.get? b = some o ∧ o.data = .fields vs := by
  obtain ⟨n, he, oe, vs, a0, T, oT, ts, q1, q2, q3, q4, z1, z2, z3, z4, z5, z6, z7⟩ := f
  rcases x with rfl | ⟨oe', vs', w1, w2, w3⟩
  · exact ⟨n, he, oe, vs, q1, q3⟩
  · rw [q1] at w1; cases w1
    rw [q3] at w2; cases w2
    rw [z1] at w3; cases w3
    exact ⟨z2, z3, oT, ts, z5, z6⟩
section
variable {M : Model} {A : Around} {E : Value → Shared → Prop} {s : Shared} {base h0 : Heap} {H : Hp} {env : Env} {outer : List Env} {L e : Addr} {Q : Unit → Shared → Prop}
theorem entry_fly {oe : Obj} {vs : Array Value} {head a0 : Value} {hadNext : Bool}
    (hfr : A.frames = some (env :: outer)) (hl : s.heap.FunFrames base (env :: outer)) (hf : env.frame = some L) (hz : h0.objs.size ≤ s.heap.objs.size) (hn : ∀ b, s.heap.objs.size ≤ b → H b = none)
    (nr : NoRec h0 e) (hH : H e = none) (he : s.heap.get? e = some oe) (hdd : oe.dict = none) (hd : oe.data = .fields vs) (hsz : 1 < vs.size) (h0' : vs[0]? = some a0)
    (h : ∀ h', (∀ b o, b ≠ e → s.heap.get? b = some o → b ∉ (env :: outer).filterMap (·.frame) → h'.get? b = some o) → (∀ b o, b ≠ e → s.heap.get? b = some o → ∃ sl, h'.get? b = some { o with slots := sl }) → FlyT h0 H h' e oe.cls (rawInt L) → (∀ b, InEx h' e b → b = e ∨ s.heap.objs.size ≤ b) → Q () { s with heap := h' }) :
    wpAny M A (do let a ← frameOf env; let pl ← entryPlaceOf L hadNext; let b ← EntryCells.newEntry head a .none (rawInt L) .none pl; setField (.ref e) 1 b) Q E s := by
  have hene : e ∉ (env :: outer).filterMap (·.frame) := fun hm => by
    obtain ⟨_, o, ho, hnf⟩ := hl.mem hm
    rw [he] at ho; injection ho with ho; subst ho; exact hnf vs hd
  refine wpAny_bind (wpAny_frameOf_fun hfr hl hf fun h₁ hs₁ => ?_)
  refine wpAny_bind (wpAny_entryPlaceOf fun pl hpl => ?_)
  unfold EntryCells.newEntry newFields
  refine wpAny_bind (wpAny_newObj_type ?_ (hpl.sizeOk5 _ _ _ _ _))
  have he₁ : h₁.get? e = some oe := (hs₁.2.1 e hene).trans he
  generalize hob : ({ cls := .type "traceback", dict := none, data := .fields ([head, .ref L, .none, rawInt L, .none] ++ (if pl.isEmpty then List.replicate 6 Value.none else pl)).toArray } : Obj) = ob
  have hobd : ob.data = .fields ([head, .ref L, .none, rawInt L, .none] ++ (if pl.isEmpty then List.replicate 6 Value.none else pl)).toArray := by rw [← hob]
  have hobf : ob.isFreed = false := Obj.isFreed_of_fields hobd
  have he₂ := Heap.get?_push_of_some (h := h₁) ob he₁
  refine wpAny_setField he₂ hd hsz ?_
  have hTe : h₁.objs.size ≠ e := Nat.ne_of_gt (Heap.lt_size he₁)
  have hd₃ := Obj.data_mapFields hd (·.setIfInBounds 1 (Value.ref h₁.objs.size))
  have he₃ := Heap.get?_update_self (Obj.mapFields (·.setIfInBounds 1 (Value.ref h₁.objs.size))) he₂ (Obj.isFreed_of_fields hd₃)
  have hT₃ := (Heap.get?_update_other (h₁.push ob) (Obj.mapFields (·.setIfInBounds 1 (Value.ref h₁.objs.size))) (Ne.symm hTe)).trans (Heap.get?_push_size h₁ hobf)
  have keep : ∀ b o, b ≠ e → h₁.get? b = some o → ((h₁.push ob).update e (Obj.mapFields (·.setIfInBounds 1 (Value.ref h₁.objs.size)))).get? b = some o := fun b o hbe hb => by
    rw [Heap.get?_update_other _ _ (Ne.symm hbe)]
    exact Heap.get?_push_of_some _ hb
  refine h _ (fun b o hbe hb hbf => keep b o hbe ((hs₁.2.1 b hbf).trans hb)) (fun b o hbe hb => ?_) ⟨nr, hH, _, _, a0, h₁.objs.size, _, _, he₃, ⟨Obj.cls_mapFields _ _, by rw [dict_mapFields]; exact hdd⟩, hd₃, ?_, ?_, ?_, ?_, hTe, hT₃, hobd, ?_⟩ fun b hx => ?_
  · obtain ⟨sl, hs⟩ := hs₁.2.2 b o hb
    exact ⟨sl, keep b _ hbe hs⟩
  · rw [Array.getElem?_setIfInBounds_ne (by decide)]; exact h0'
  · simp [hsz]
  · intro o vs' ho
    have := Heap.lt_size ho
    rw [hs₁.1] at this
    exact absurd this (Nat.not_lt.mpr hz)
  · exact hn _ (by rw [hs₁.1]; exact Nat.le_refl _)
  · simp
  · rcases hx with z | ⟨oe', vs', w1, w2, w3⟩
    · exact .inl z
    · rw [he₃] at w1; cases w1
      rw [hd₃] at w2; cases w2
      have w4 : (vs.setIfInBounds 1 (Value.ref h₁.objs.size))[1]? = some (.ref h₁.objs.size) := by simp [hsz]
      rw [w4] at w3; cases w3
      exact .inr (by rw [hs₁.1]; exact Nat.le_refl _)
theorem land_fly {cls fl : Value} (f : FlyT h0 H s.heap e cls fl) (h : ∀ h', (∀ b o, s.heap.get? b = some o → ¬ InEx s.heap e b → h'.get? b = some o) → (∀ b o, s.heap.get? b = some o → ∃ o', h'.get? b = some o') → FlyT h0 H h' e cls .none → (∀ b, InEx h' e b → InEx s.heap e b) → Q () { s with heap := h' }) : wpAny M A (setFlight (.ref e) none) Q E s := by
  obtain ⟨nr, hH, oe, vs, a0, T, oT, ts, he, hc, hd, h0', h1, nT, hT, hTe, gT, dT, h3⟩ := f
  have hsz := (Array.getElem?_eq_some_iff.mp h3).1
  refine wpAny_setFlight_none he hd h1 gT dT hsz ?_
  have other : ∀ b, b ≠ T → (s.heap.update T (Obj.mapFields (·.setIfInBounds 3 Value.none))).get? b = s.heap.get? b := fun b hb => Heap.get?_update_other _ _ (Ne.symm hb)
  have hd₃ := Obj.data_mapFields dT (·.setIfInBounds 3 Value.none)
  have hT₃ := Heap.get?_update_self (Obj.mapFields (·.setIfInBounds 3 Value.none)) gT (Obj.isFreed_of_fields hd₃)
  refine h _ (fun b o hb hk => (other b ?_).trans hb) (fun b o hb => ?_) ⟨nr, hH, oe, vs, a0, T, _, _, (other e (Ne.symm hTe)).trans he, hc, hd, h0', h1, nT, hT, hTe, hT₃, hd₃, by simp [hsz]⟩ fun b hx => ?_
  · rintro rfl
    exact hk (.inr ⟨oe, vs, he, hd, h1⟩)
  · by_cases hbT : b = T
    · subst hbT; exact ⟨_, hT₃⟩
    · exact ⟨o, (other b hbT).trans hb⟩
  · rcases hx with z | ⟨oe', vs', w1, w2, w3⟩
    · exact .inl z
    · exact .inr ⟨oe', vs', (other e (Ne.symm hTe)).symm.trans w1, w2, w3⟩
theorem note_land {cls : Value} (hfr : A.frames = some (env :: outer)) (hl : s.heap.FunFrames base (env :: outer)) (hf : env.frame = some L) (hz : h0.objs.size ≤ s.heap.objs.size) (hn : ∀ b, s.heap.objs.size ≤ b → H b = none)
    (fl : Fly h0 H s.heap e cls) (h : ∀ h', KF e ((env :: outer).filterMap (·.frame)) s.heap h' → FlyT h0 H h' e cls .none → (∀ b, InEx h' e b → b = e ∨ s.heap.objs.size ≤ b) → Q () { s with heap := h' }) : wpAny M A (noteFrame (.ref e) env) (fun _ s' => wpAny M A (setFlight (.ref e) none) Q E s') E s := by
  have hex := fun {b} => fl.ex (b := b)
  obtain ⟨nr, hH, oe, vs, a0, he, ⟨hc, hdd⟩, hd, h0', q⟩ := fl
  subst hc
  unfold noteFrame
  simp only [hf]
  have fin : ∀ (hm : Heap), (∀ b o, s.heap.get? b = some o → ¬ InEx s.heap e b → hm.get? b = some o) → (∀ b o, b ≠ e → s.heap.get? b = some o → ∃ o', hm.get? b = some o') →
      ∀ h1, (∀ b o, b ≠ e → hm.get? b = some o → b ∉ (env :: outer).filterMap (·.frame) → h1.get? b = some o) → (∀ b o, b ≠ e → hm.get? b = some o → ∃ sl, h1.get? b = some { o with slots := sl }) → FlyT h0 H h1 e oe.cls (rawInt L) → (∀ b, InEx h1 e b → b = e ∨ s.heap.objs.size ≤ b) →
      wpAny M A (setFlight (.ref e) none) Q E { s with heap := h1 } := by
    intro hm k1 k2 h1 k4 k5 f1 k6
    have nx : ∀ b o, s.heap.get? b = some o → b ≠ e → ¬ InEx h1 e b := fun b o hb hbe hx => by
      rcases k6 b hx with z | z
      · exact hbe z
      · exact absurd (Heap.lt_size hb) (Nat.not_lt.mpr z)
    refine land_fly (s := { s with heap := h1 }) f1 fun h2 k7 k8 f2 k9 => h h2 ⟨fun b o hb hbf hx => ?_, fun b o hb hbf hx => ?_, fun b o hb => ?_⟩ f2 fun b hx => k6 b (k9 b hx)
    · have hbe : b ≠ e := fun z => hx (.inl z)
      exact k7 b o (k4 b o hbe (k1 b o hb hx) hbf) (nx b o hb hbe)
    · have hbe : b ≠ e := fun z => hx (.inl z)
      obtain ⟨sl, q1⟩ := k5 b o hbe (k1 b o hb hx)
      exact ⟨sl, k7 b _ q1 (nx b o hb hbe)⟩
    · by_cases hbe : b = e
      · subst hbe
        obtain ⟨_, _, oe', _, _, _, _, _, q1, _⟩ := f1
        exact k8 b oe' q1
      · obtain ⟨o', q1⟩ := k2 b o hbe hb
        obtain ⟨sl, q2⟩ := k5 b o' hbe q1
        exact k8 b _ q2
  rcases q with h1 | ⟨T, oT, ts, h1, nT, hT, hTe, gT, dT, h3⟩
  · refine wpAny_bind (wpAny_field he hd h1 ?_)
    rw [if_neg (by decide)]
    exact entry_fly hfr hl hf hz hn nr hH he hdd hd (Array.getElem?_eq_some_iff.mp h1).1 h0' fun h1 k4 k5 f1 k6 => fin s.heap (fun b o hb _ => hb) (fun b o _ hb => ⟨o, hb⟩) h1 k4 k5 f1 k6
  · refine wpAny_bind (wpAny_field he hd h1 ?_)
    rw [if_pos (show (Value.ref T != Value.none) = true from by simp)]
    refine wpAny_bind (wpAny_field gT dT h3 ?_)
    rw [if_neg (show ¬ ((Value.none == rawInt L) = true) from by simp [rawInt])]
    refine wpAny_bind (wpAny_setField gT dT (Array.getElem?_eq_some_iff.mp h3).1 ?_)
    have other : ∀ b, b ≠ T → (s.heap.update T (Obj.mapFields (·.setIfInBounds 3 Value.none))).get? b = s.heap.get? b := fun b hb => Heap.get?_update_other _ _ (Ne.symm hb)
    have noRecord : ∀ b o, s.heap.get? b = some o → (∀ vs, o.data ≠ .fields vs) → b ≠ T := fun b o hb hnf q => by
      rw [q, gT] at hb; injection hb with hb; subst hb; exact hnf ts dT
    have hsize : (s.heap.update T (Obj.mapFields (·.setIfInBounds 3 Value.none))).objs.size = s.heap.objs.size := by simp [Heap.update]
    have hl' : (s.heap.update T (Obj.mapFields (·.setIfInBounds 3 Value.none))).FunFrames base (env :: outer) := hl.of_keeps fun b o hb hnf => ⟨o, (other b (noRecord b o hb hnf)).trans hb, rfl⟩
    refine entry_fly (s := { s with heap := s.heap.update T (Obj.mapFields (·.setIfInBounds 3 Value.none)) }) hfr hl' hf (by rw [hsize]; exact hz) (fun b hb => hn b (by rw [hsize] at hb; exact hb)) nr hH ((other e (Ne.symm hTe)).trans he) hdd hd (Array.getElem?_eq_some_iff.mp h1).1 h0' fun h1' k4 k5 f1 k6 => fin _ (fun b o hb hx => (other b fun z => ?_).trans hb) (fun b o hbe hb => ?_) h1' k4 k5 f1 (by rw [hsize] at k6; exact k6)
    · subst z; exact hx (.inr ⟨oe, vs, he, hd, h1⟩)
    · by_cases hbT : b = T
      · subst hbT; exact ⟨_, Heap.get?_update_self _ gT (Obj.isFreed_of_fields (Obj.data_mapFields dT (·.setIfInBounds 3 Value.none)))⟩
      · exact ⟨o, (other b hbT).trans hb⟩
end
theorem KF.plain {e : Addr} {fs : List Addr} {h h' : Heap} (k : KF e fs h h') {b : Addr} {o : Obj} (q : h.get? b = some o) (n : ¬ InEx h e b) : ∃ sl, h'.get? b = some { o with slots := sl } := by
  by_cases hb : b ∈ fs
  · exact k.slot b o q hb n
  · exact ⟨o.slots, k.keep b o q hb n⟩
theorem _root_.L2.Inv.kf {X : Cx} {pins : List (Addr × Obj)} {σ : St} {H : Hp} {s : Shared} {h' : Heap} {t' : Nat} {a : Addr} (I : Inv X pins σ H s) (k : KF a (frs X.stack) s.heap h')
    (hr : ∀ b, InEx s.heap a b → (∀ o vs, X.s₀.heap.get? b = some o → X.H₀ b = none → b ∉ X.fs → b ∉ X.ex → o.data ≠ .fields vs) ∧ H b = none ∧ (∃ o vs, s.heap.get? b = some o ∧ o.data = .fields vs) ∧ ∀ p ∈ X.pn ++ pins, p.1 ≠ b) : Inv X pins σ H { s with heap := h', toks := t' } := by
  have old : ∀ b, b < X.s₀.heap.objs.size → b ∉ X.fs → b ∉ frs X.stack := fun b hb hf hs => by
    rcases List.mem_cons.mp (I.stkSub b hs) with z | z
    · subst z; exact absurd hb (Nat.not_lt.mpr I.ok.above)
    · exact hf z
  have insub : ∀ b, b ∈ X.fs → b ∈ frs X.stack := fun b hb => by
    rcases I.ok.stk with z | ⟨z, hf⟩
    · rw [z]; exact hb
    · rw [z]; unfold frs; rw [List.filterMap_cons, hf]; exact List.mem_cons_of_mem _ hb
  have norec : ∀ b o, s.heap.get? b = some o → (∀ vs, o.data ≠ .fields vs) → ¬ InEx s.heap a b := fun b o hb hd hx => by
    obtain ⟨_, _, ⟨o', vs, e1, e2⟩, _⟩ := hr b hx
    rw [hb] at e1; cases e1
    exact hd vs e2
  have cellk : ∀ {c : Addr} {v : Option Value}, s.heap.IsCell c v → h'.IsCell c v := fun {c v} ⟨o, e, d⟩ => by
    obtain ⟨sl, e1⟩ := k.plain e (norec c o e fun vs z => by rw [d] at z; cases z)
    exact ⟨_, e1, d⟩
  refine ⟨I.ok, I.os, I.bare, ⟨fun b o e n hb hx => ?_, fun b o e n hb hx => ?_, I.base.free, fun b o e hx => ?_, I.base.tups, I.base.frzs, I.base.tbls⟩, ?_, fun x c e => ?_, I.free, I.freeC, fun p hpp => ?_, fun b u q => ?_, I.len⟩
  · have q := I.base.keep b o e n hb hx
    refine k.keep b o q (old b (Heap.lt_size e) hb) fun z => ?_
    obtain ⟨n1, _, ⟨o', vs, e1, e2⟩, _⟩ := hr b z
    rw [q] at e1; cases e1
    exact n1 o vs e n hb hx e2
  · obtain ⟨sl, q⟩ := I.base.slot b o e n hb hx
    obtain ⟨_, o', ho, hd⟩ := I.funs.mem hb
    rw [q] at ho; cases ho
    obtain ⟨sl2, q2⟩ := k.slot b _ q (insub b hb) (norec b _ q hd)
    exact ⟨sl2, q2⟩
  · obtain ⟨o', q⟩ := I.base.there b o e hx
    exact k.there b o' q
  · obtain ⟨m, ⟨o, es, ep, ho, hd, r⟩, hl⟩ := I.loc
    obtain ⟨sl, e1⟩ := k.plain ho (norec _ o ho fun vs z => by rw [hd] at z; cases z)
    refine ⟨m, ⟨_, es, ep, e1, hd, r⟩, fun i x v h1 h2 h3 => ?_⟩
    obtain ⟨u, r1, l⟩ := hl i x v h1 h2 h3
    refine ⟨u, r1, ?_⟩
    rcases l with l | ⟨l1, c, l2, l3⟩
    · exact .inl l
    · exact .inr ⟨l1, c, l2, cellk l3⟩
  · obtain ⟨v, q⟩ := I.cell x c e
    exact ⟨v, cellk q⟩
  · obtain ⟨e, n, ne, nf, d⟩ := I.pin p hpp
    refine ⟨k.keep p.1 p.2 e (fun z => ?_) (fun z => (hr p.1 z).2.2.2 p hpp rfl), n, ne, nf, d⟩
    rcases List.mem_cons.mp (I.stkSub _ z) with w | w
    · exact ne w
    · exact nf w
  · refine (I.hok b u q).stay (fun c v hc e => ?_) (fun _ z => z) fun _ _ z => z
    have hH : H c ≠ none := by
      rcases hc with rfl | hc
      · rw [q]; intro z; cases z
      · rw [hc]; intro z; cases z
    exact k.keep c v e (fun z => hH (I.stkFree c z)) fun z => hH (hr c z).2.1
noncomputable def CX1 (P : Program) (w : World) : CXT := fun outer H s E e s' => ∃ a Cv H', e = .ref a ∧ s'.os = s.os ∧ AllBare s'.gens ∧ Un (frs outer) [] H H' s.heap s'.heap ∧ HOk P w H' s'.heap ∧ Fly s.heap H' s'.heap a Cv ∧ E Cv none H'
noncomputable def spD (K : PySem.W.Frag) (F : List D → Res D) : Sp := fun vs H Q E => ∃ ds, Reps K H ds vs ∧ match F ds with
  | .stuck => False
  | .ok d => ∀ v H', Same H H' → Rep K H' d v → Q v H'
  | .err x => ∀ C H', PySem.W.nsIn K mainGlobals x.cls = some (some (.ref C)) → Same H H' → E (.ref C) none H'
section
variable {X : Cx} {k : Nat} {f : Addr} {fd : FuncData} {ps : List Str} {F : List D → Res D} {x : Str} {p pos : Pos} {e : Expr} {es : List Expr} {fs : DS → Res (List D)}
theorem pd_call (Fn : FnOk X.prog X.w X.K X.mg X.base (CX1 X.prog X.w) k f fd ps (spD X.K F)) (hr : Room k X.A) (hg : Gl X x) (hm : X.mg x = some (.ref f)) (hk : PySem.W.keepIn X.K (.ref f) = true) (hb : Binds X.K fd ps []) (ha : PAD X (e :: es) fs)
    (hdb : (x == ("__debug__" : Str)) = false := by decide) (he : starEach (e :: es) X.env = (false, eval e X.env) :: starEach es X.env := by rfl) (hpl : (backTo pos (starEach es X.env)).any (·.1) = false := by rfl) :
    PD X (.Call (.Name x p) (e :: es) [] pos) (fun δ => (fs δ).bind F) := by
  intro pins s σ G H δ I R hs
  try dsimp only at hs ⊢
  refine wpAny_Call_Name_kw (ld_glob I hg hm ?_ hdb)
  refine PySem.W.callWith_K (h₀ := X.base) I.ok.mod.kin hk (ha.use I R (bind_l hs) (fun ds us s1 vs H1 q I1 r1 e1 b1 p1 => ⟨I1.kIn, ?_⟩) fun e s1 q => q.same fun x z => bind_x z) he hpl
  have h2 := bind_r hs q
  have ev : (fs δ).bind F = F ds := by rw [q]; rfl
  cases qg : F ds with
  | stuck => exact (h2 qg).elim
  | ok d =>
    have hsp : spD X.K F vs H1 (fun v H' => Same H1 H' ∧ Rep X.K H' d v) (fun _ _ _ => False) := ⟨ds, p1, by rw [qg]; exact fun v H' a b => ⟨a, b⟩⟩
    have hl : us.length = ps.length := by rw [← r1.length]; exact Fn.len _ _ _ _ hsp
    refine wpAny_call (codeAny_mono (Fn.run X.A X.stack s1 H1 ⟨us, []⟩ us vs _ _ hr I1.env0 (by simpa using hb s1 us I1.kIn (by simpa using hl)) r1 hsp) fun r s' hq => ?_)
    cases r with
    | error e => obtain ⟨_, _, _, _, _, _, _, _, _, z⟩ := hq; exact z.elim
    | ok fl =>
      cases fl with
      | ret u =>
        obtain ⟨v, H', I', r', e', p'⟩ := I1.after hq
        exact ⟨d, v, H', ev.trans qg, I', r', e1.trans e', p'⟩
      | next => exact False.elim hq
      | brk => exact False.elim hq
      | cont => exact False.elim hq
  | err z =>
    have hsp : spD X.K F vs H1 (fun v H' => False) (fun Cv _ H' => ∃ C, Cv = .ref C ∧ PySem.W.nsIn X.K mainGlobals z.cls = some (some (.ref C)) ∧ Same H1 H') := ⟨ds, p1, by rw [qg]; exact fun C H' a b => ⟨C, rfl, a, b⟩⟩
    have hl : us.length = ps.length := by rw [← r1.length]; exact Fn.len _ _ _ _ hsp
    refine wpAny_call (codeAny_mono (Fn.run X.A X.stack s1 H1 ⟨us, []⟩ us vs _ _ hr I1.env0 (by simpa using hb s1 us I1.kIn (by simpa using hl)) r1 hsp) fun r s' hq => ?_)
    cases r with
    | error e =>
      obtain ⟨a, Cv, H', rfl, os, bare, un, hok, fly, C, rfl, hC, sm⟩ := hq
      exact ⟨z, a, C, H', ev.trans qg, rfl, I1.call' (ch := []) os un hok bare (fun b z => absurd z (by simp)), e1.trans sm, hC, fly.back e1.tk sm.tk b1⟩
    | ok fl =>
      cases fl with
      | ret u =>
        obtain ⟨v, H', _, _, _, _, _, z⟩ := hq
        exact z.elim
      | next => exact False.elim hq
      | brk => exact False.elim hq
      | cont => exact False.elim hq
end
noncomputable def startD (n N : Nat) (ds : List D) : DS := ds.map (fun d => some (.arg d)) ++ List.replicate (N - n) none
noncomputable def outD : Out → Res D
  | .ret d => .ok d
  | .nxt _ => .ok .non
  | .err x _ => .err x
  | _ => .stuck
noncomputable def fnD (n N : Nat) (body : DS → Out) : List D → Res D := fun ds => if ds.length = n then outD (body (startD n N ds)) else .stuck
theorem rep_start {K : PySem.W.Frag} {H : Hp} {ds : List D} {vs : List V} (N : List Str) (r : Reps K H ds vs) : RepSt K H H (start N vs) (startD ds.length N.length ds) := by
  have hl := r.length
  refine ⟨Same.refl H, ?_, fun i sv e => ?_, fun i j as es v hij e1 e2 => ?_⟩
  · unfold L2.start startD
    simp [hl]
  · unfold startD at e
    by_cases hi : i < ds.length
    · rw [List.getElem?_append_left (by simpa using hi), List.getElem?_map] at e
      cases q : ds[i]? with
      | none => rw [q] at e; cases e
      | some d =>
        rw [q] at e
        simp only [Option.map_some, Option.some.injEq] at e
        subst e
        obtain ⟨v, e1, e2⟩ := r.get q
        refine ⟨v, ?_, e2⟩
        unfold L2.start
        rw [List.getElem?_append_left (by simpa [hl] using hi), List.getElem?_map, e1]
        rfl
    · rw [List.getElem?_append_right (by simpa using hi), List.getElem?_replicate] at e
      split at e <;> cases e
  · exfalso
    unfold startD at e1
    by_cases hi : i < ds.length
    · rw [List.getElem?_append_left (by simpa using hi), List.getElem?_map] at e1
      cases q : ds[i]? with
      | none => rw [q] at e1; cases e1
      | some d => rw [q] at e1; cases e1
    · rw [List.getElem?_append_right (by simpa using hi), List.getElem?_replicate] at e1
      split at e1 <;> cases e1
section
variable {P : Program} {w : World} {K : PySem.W.Frag} {mg : Str → Option Value} {base : Heap}
theorem leave_fly {N : List Str} {qual : Str} {scope : Scope} {f : Addr} {cdv : Value} {A : Around} {outer : List Env} {s : Shared} {H : Hp} {E : XK} {pins : List (Addr × Obj)} {σ' : St} {H' : Hp} {s' : Shared} {a : Addr} {Cv : Value}
    (I : Inv (cxOf (CX1 P w) P w K mg base N qual scope f cdv A outer s H E) pins σ' H' s') (fl : Fly s.heap H' s'.heap a Cv) (hE : E Cv none H') :
    (cxOf (CX1 P w) P w K mg base N qual scope f cdv A outer s H E).xe (.ref a) s' := by
  show wpAny (model P w) (A.deeper (envOfC qual scope s.heap.objs.size f cdv)) (leaving (envOfC qual scope s.heap.objs.size f cdv) (.ref a)) (fun _ s'' => CX1 P w outer H s E (.ref a) s'') _ s'
  have hz : s.heap.objs.size ≤ s'.heap.objs.size := I.sz
  have hn : ∀ b, s'.heap.objs.size ≤ b → H' b = none := fun b hb => I.hok.fresh hb
  unfold leaving
  refine wpAny_bind (note_land (base := base) I.ok.frames I.stack rfl hz hn fl fun h2 k2 f2 _ => ?_)
  have I0 : Inv (cxOf (CX1 P w) P w K mg base N qual scope f cdv A outer s H E) [] σ' H' s' := I.pins_of fun p hp => absurd hp (by simp)
  have J := I0.kf (h' := h2) (t' := s'.toks) k2 fun b hx => by
    obtain ⟨n1, n2, n3⟩ := fl.ex hx
    exact ⟨fun o vs e _ _ _ => n1 o vs e, n2, n3, fun p hp => absurd (show p ∈ ([] : List (Addr × Obj)) ++ [] from hp) (by simp)⟩
  exact ⟨a, Cv, H', rfl, I.os, I.bare, J.base, J.hok, f2.fly, hE⟩
noncomputable def tB (X : Cx) (f : DS → Out) : TS := fun D σ H => ∃ G δ, RepSt X.K G H σ δ ∧ f δ ≠ .stuck ∧ (∀ pins fl s1, SPost X pins G H (f δ) fl s1 → SP X pins D fl s1) ∧ ∀ pins s2 e s1, Inv X pins σ H s2 → SX X pins G H s2.heap (f δ) e s1 → X.xe e s1
theorem PSDs.tb {X : Cx} {st : List Stmt} {f : DS → Out} (h : PSDs X st f) : PSs X st (tB X f) := by
  intro pins s σ H D I ⟨G, δ, R, n, k1, k2⟩
  exact wpAny_mono (h pins s σ G H δ I R n) (fun fl s1 p => k1 pins fl s1 p) fun e s1 p => k2 pins s e s1 I p
theorem fun_d {x qual : Str} {st : Stmt} {f : Addr} {fd : FuncData} {N ps : List Str} {k : Nat} {body : DS → Out} (F : Fun K x qual st f fd) (S : FnScope N ps (defScope st))
    (hb : ∀ (cdv : Value) (A : Around) (outer : List Env) (s : Shared) (H : Hp) (E : XK), Room k (A.deeper (envOfC qual (defScope st) s.heap.objs.size f cdv)) → PSDs (cxOf (CX1 P w) P w K mg base N qual (defScope st) f cdv A outer s H E) (defBody st) body) :
    FnOk P w K mg base (CX1 P w) (k + 1) f fd ps (spD K (fnD ps.length N.length body)) := by
  obtain ⟨oc, od, kV, doc, pm, an, cdv, ct, osl, rfl, lk, hcd⟩ := F.ex
  refine fn_of lk hcd S (fun vs H Q E ⟨ds, r, h⟩ => ?_) fun A outer s H vs Q E hr hsp => ?_
  · rw [r.length]
    unfold fnD at h
    by_cases c : ds.length = ps.length
    · exact c
    · rw [if_neg c] at h; exact h.elim
  · obtain ⟨ds, r, h⟩ := hsp
    have c : ds.length = ps.length := by
      unfold fnD at h
      by_cases c : ds.length = ps.length
      · exact c
      · rw [if_neg c] at h; exact h.elim
    have ev : fnD ps.length N.length body ds = outD (body (startD ds.length N.length ds)) := by unfold fnD; rw [if_pos c, c]
    rw [ev] at h
    refine ⟨_, (hb cdv A outer s H E hr).tb, H, startD ds.length N.length ds, rep_start N r, fun z => ?_, fun pins fl s1 p => ?_, fun pins s2 e s1 I p => ?_⟩
    · rw [z] at h; exact h
    · cases fl with
      | next =>
        obtain ⟨δ', σ', H', q1, q2, q3, q4⟩ := p
        rw [q1] at h
        exact ⟨σ', H', q2, h .non H' q4.same mkN⟩
      | brk => obtain ⟨δ', σ', H', q1, _⟩ := p; rw [q1] at h; exact h.elim
      | cont => obtain ⟨δ', σ', H', q1, _⟩ := p; rw [q1] at h; exact h.elim
      | ret u =>
        obtain ⟨d, v, σ', H', q1, q2, q3, q4, q5, q6⟩ := p
        rw [q1] at h
        exact ⟨v, σ', H', q2, q5, h v H' q4 q6⟩
    · obtain ⟨x, δ', a, C, σ', H', q1, rfl, q3, q4, q5, q6, q7⟩ := p
      rw [q1] at h
      refine leave_fly q3 ?_ (h C H' q6 q5.same)
      refine q7.back (h0 := s.heap) (H0 := H) (H1 := H) (TK.refl H) q4 fun e n z o vs ho hd => ?_
      by_cases hf : e ∈ frs outer
      · obtain ⟨_, o', ho', hd'⟩ := I.ok.funs.mem hf
        have ho2 : s.heap.get? e = some o' := ho'
        rw [ho] at ho2
        cases ho2
        exact hd' vs hd
      · exact z o vs (I.base.keep e o ho n hf (by intro z; exact absurd z (by show e ∉ ([] : List Addr); simp))) hd
end
end DL
set_option Elab.async false
set_option linter.all false
set_option maxRecDepth 100000
namespace DL
open PySem PySem.Spec PyProof.Rows L2
theorem own_cls {K : PySem.W.Frag} {h₀ : Heap} {mg : Str → Option Value} {x : Str} {C : Addr} {bmB : List Value} {newId : String} (X : K.In h₀) (hm : mg x = some (.ref C)) (q : PySem.W.excIn K C bmB newId = true) : OwnCls x C bmB newId mg h₀ := by
  refine ⟨hm, ?_⟩
  unfold PySem.W.excIn at q
  split at q
  · rename_i dd cd sl ho
    split at q
    · rename_i C' bm k0 k1 k2 k3 n k5 hm hs
      simp only [Bool.and_eq_true, beq_iff_eq, Bool.not_eq_true'] at q
      obtain ⟨⟨⟨⟨⟨rfl, rfl⟩, hdel⟩, ht⟩, hok⟩, hni⟩ := q
      obtain ⟨nm, bs, mro, ns, qn, hd, sn, sub, ab, col, del⟩ := cd
      dsimp only at hm hdel hok hni
      subst hm hdel
      have hsl : sl = #[k0, k1, k2, k3, some (.builtin n), k5] := by
        obtain ⟨l⟩ := sl
        simp only at hs
        rw [hs]
      subst hsl
      exact ⟨bm, ns, nm, qn, bs, hd, sn, sub, ab, col, dd, k0, k1, k2, k3, k5, _, X _ _ ho, .of_isNs (PySem.W.isNs_of_in X hok), PySem.W.nsMap_none_of_in X hok hni, PySem.W.tail_of_in X ht⟩
    · cases q
  · cases q
noncomputable def raiseD (x : Str) (fs : DS → Res (List D)) : DS → Out := fun δ => match fs δ with
  | .ok _ => .err ⟨x⟩ δ
  | .err y => .err y δ
  | .stuck => .stuck
section
variable {X : Cx} {e : Expr} {es : List Expr} {fs : DS → Res (List D)} {np cpos pos : Pos} {x : Str} {C : Addr} {B newId initId : String} {bmB : List Value}
theorem psd_raise (hc : X.calm = true) (FB : ExcBaseFacts B newId initId bmB) (hx : PySem.W.nsIn X.K mainGlobals x = some (some (.ref C))) (q : PySem.W.excIn X.K C bmB newId = true) (hg : Gl X x) (hm : X.mg x = some (.ref C)) (ha : PAD X (e :: es) fs) (hsz : (e :: es).length ≤ 100)
    (hdb : (x == ("__debug__" : Str)) = false := by decide) (he : starEach (e :: es) X.env = (false, eval e X.env) :: starEach es X.env := by rfl) (hplain : (backTo cpos (starEach es X.env)).any (·.1) = false := by rfl) (hlen : ∀ δ ds, fs δ = .ok ds → ds.length ≤ sizeLine) :
    PSD X (.Raise (some (.Call (.Name x np) (e :: es) [] cpos)) none pos) (raiseD x fs) := by
  intro pins s σ G H δ I R hs
  try dsimp only at hs ⊢
  have hs' : fs δ ≠ .stuck := fun z => hs (by unfold raiseD; rw [z])
  obtain ⟨tl, N, nm, qn, bs, hdct, sn, sub, ab, col, dd, k0, k1, k2, k3, k5, mN, hC, hN, hni, T⟩ := (own_cls I.ok.mod.kin hm q).obj
  refine wpAny_Raise_call_subT (C := C) (nm := nm) (q := qn) (N := N) (bs := bs) (bm := tl) (hdct := hdct) (sn := sn) (sub := sub) (ab := ab) (col := col) (dd := dd) (k0 := k0) (k1 := k1) (k2 := k2) (k3 := k3) (k5 := k5)
    FB (mN := mN) (T.hasType FB.hasBase) (I.ok.hd hc) (by rw [he]; show (false || (backTo cpos (starEach es X.env)).any (·.1)) = false; rw [hplain]; rfl) hni (ld_glob I hg hm ⟨rfl, ?_⟩ hdb)
  have ha' := fun {P : List Value → Shared → Prop} {E : Value → Shared → Prop} k kx => PAD.use (pos := cpos) (P := P) (E := E) ha I R hs' k kx
  rw [he] at ha' ⊢
  refine Calls.evalArgs_plain (ha' (fun ds us s1 vs H1 q1 I1 r1 e1 b1 p1 => ⟨rfl, ?_, I1.bk _ _ hC, hN.keeps I1.bk, T.keeps I1.bk, fun h' a hme => ?_⟩) fun e s1 p => ?_)
  · rw [← r1.length, p1.length]; exact hlen δ ds q1
  · obtain ⟨t, ht, ht2, ht3⟩ := hme.there
    have hn : H1 a = none := by
      cases z : H1 a with
      | none => rfl
      | some u =>
        obtain ⟨ob, q⟩ := obj_some (I1.hok a u z)
        rw [hme.new] at q; cases q
    refine ⟨⟨x⟩, δ, a, C, σ, H1, by unfold raiseD; rw [q1], rfl, I1.kept (t' := s1.toks) hme.keeps, e1.tk, R.mono e1, hx, ?_⟩
    refine ⟨b1 a (e1.free hn) (fun o vs ho => by rw [hme.new] at ho; cases ho), hn, _, _, _, ht, ⟨rfl, rfl⟩, rfl, rfl, .inl rfl⟩
  · exact p.sx R fun x z => by unfold raiseD; rw [z]
end
end DL
set_option Elab.async false
set_option linter.all false
set_option maxRecDepth 100000
namespace DL
open PySem PySem.Spec PyProof.Rows L2
theorem RepSt.clear {K : PySem.W.Frag} {G H : Hp} {σ : St} {δ : DS} (R : RepSt K G H σ δ) (i : Nat) : RepSt K G H (σ.set i none) (δ.set i none) where
  same := R.same
  len := by simpa using R.len
  at_ := fun j sv e => by
    by_cases hj : i = j
    · subst hj
      rw [List.getElem?_set] at e
      split at e
      · split at e <;> cases e
      · rename_i z; exact absurd rfl z
    · rw [List.getElem?_set_ne hj] at e
      obtain ⟨u, e1, e2⟩ := R.at_ j sv e
      exact ⟨u, by rw [List.getElem?_set_ne hj]; exact e1, e2⟩
  sep := fun j k ds es u hjk e1 e2 e3 => by
    have n1 : i ≠ j := by
      rintro rfl
      rw [List.getElem?_set] at e1
      split at e1
      · split at e1 <;> cases e1
      · omega
    have n2 : i ≠ k := by
      rintro rfl
      rw [List.getElem?_set] at e2
      split at e2
      · split at e2 <;> cases e2
      · omega
    rw [List.getElem?_set_ne n1] at e1 e3
    rw [List.getElem?_set_ne n2] at e2
    rw [List.getElem?_set_ne n2]
    exact R.sep j k ds es u hjk e1 e2 e3
abbrev _root_.L2.Cx.marked (X : Cx) (a : Addr) : Cx := { X with A := X.A.mark (some (.ref a)), calm := false }
theorem _root_.L2.Inv.marked {X : Cx} {pins : List (Addr × Obj)} {σ : St} {H : Hp} {s : Shared} (I : Inv X pins σ H s) (a : Addr) : Inv (X.marked a) pins σ H s :=
  ⟨⟨I.ok.mod, I.ok.kind, I.ok.glob, I.ok.blt, I.ok.above, I.ok.inj, I.ok.has, I.ok.cab, fun z => (by cases z), I.ok.frames, I.ok.stk, I.ok.exf, I.ok.bs, I.ok.bsz, I.ok.noex, I.ok.exfs, I.ok.funs, I.ok.frf⟩, I.os, I.bare, I.base, I.loc, I.cell, I.free, I.freeC, I.pin, I.hok, I.len⟩
theorem _root_.L2.Inv.track {X : Cx} {pins : List (Addr × Obj)} {σ : St} {H : Hp} {s : Shared} {a : Addr} {o : HO} (I : Inv X pins σ H s) (hn : H a = none) (h0 : ∀ ob, X.s₀.heap.get? a = some ob → X.H₀ a = none → a ∈ X.ex) (hl : a ≠ X.env.locals) (hc : ∀ x c, X.env.cells.lookup x = some c → c ≠ a) (hp : ∀ p ∈ X.pn ++ pins, p.1 ≠ a)
    (new : ObjOk X.prog X.w (upd H a o) s.heap a o) : Inv X pins σ (upd H a o) s := by
  refine ⟨I.ok, I.os, I.bare, ⟨I.base.keep, I.base.slot, fun b ob e n hx => ?_, I.base.there, fun b xs e => ?_, fun b ob u e => ?_, fun b ps e => ?_⟩, I.loc, I.cell, ?_, fun x c e => ?_, fun p hpp => ?_, fun b u q => ?_, I.len⟩
  · rw [upd_ne (fun z => ?_)]
    · exact I.base.free b ob e n hx
    · subst z
      exact hx (h0 ob e n)
  · rw [upd_ne (ne_of_none (I.base.tups b xs e) hn)]; exact I.base.tups b xs e
  · rw [upd_ne (ne_of_none (I.base.frzs b ob u e) hn)]; exact I.base.frzs b ob u e
  · obtain ⟨more, q⟩ := I.base.tbls b ps e
    exact ⟨more, by rw [upd_ne (ne_of_none q hn)]; exact q⟩
  · rw [upd_ne (Ne.symm hl)]; exact I.free
  · rw [upd_ne (hc x c e)]; exact I.freeC x c e
  · obtain ⟨e, n, ne, nf, d⟩ := I.pin p hpp
    exact ⟨e, by rw [upd_ne (hp p hpp)]; exact n, ne, nf, d⟩
  · by_cases hb : b = a
    · subst hb; rw [upd_same] at q; cases q; exact new
    · rw [upd_ne hb] at q
      refine (I.hok b u q).stay (fun c v _ e => e) (fun c z => ?_) fun c xs z => ?_
      · rw [upd_ne (ne_of_none z hn)]; exact z
      · rw [upd_ne (ne_of_none z hn)]; exact z
section
variable {X : Cx} {body suite : List Stmt} {b₀ : Stmt} {fb fsu : DS → Out} {sub : Str → Option Bool} {n c : Str} {C' : Addr} {cp hpos pos : Pos}
end
end DL
set_option Elab.async false
set_option linter.all false
set_option maxRecDepth 100000
namespace DL
open PySem PySem.Spec PyProof.Rows L2
noncomputable def compX (X : Cx) (N' : List Str) (scope : Scope) (cl : List (Str × Addr)) (C : Addr) (s : Shared) (H : Hp) (fp : List Addr) : Cx where
  prog := X.prog
  w := X.w
  K := X.K
  mg := X.mg
  base := X.base
  A := X.A
  N := N'
  s₀ := s
  H₀ := H
  env := compEnvC scope cl C X.env
  outer := X.stack
  stack := X.stack
  ex := fp
  fn := fun _ => false
  calm := X.calm
  pn := []
  xe := fun _ _ => False
section
variable {X : Cx} {N' : List Str} {scope : Scope} {cl : List (Str × Addr)} {C : Addr} {s : Shared} {H : Hp} {fp : List Addr} {pins : List (Addr × Obj)} {σ : St}
theorem compX_ok (I : Inv X pins σ H s) (hk : scope.kind = .function) (hC : s.heap.objs.size ≤ C) (hc : ∀ x c, cl.lookup x = some c → X.env.cells.lookup x = some c)
    (has : ∀ x, ((relabel scope X.env).names.lookup x = some .cell ∨ (relabel scope X.env).names.lookup x = some .free) → ∃ c, cl.lookup x = some c) (hf : ∀ b ∈ fp, FpOk X pins H b ∧ b < s.heap.objs.size) : (compX X N' scope cl C s H fp).Ok where
  mod := I.ok.mod
  kind := hk
  glob := I.ok.glob
  blt := I.ok.blt
  above := hC
  inj := fun x y c h1 h2 => I.ok.inj x y c (hc x c h1) (hc y c h2)
  has := has
  cab := fun x c h => by cases h
  hd := I.ok.hd
  frames := I.ok.frames
  stk := .inl rfl
  exf := fun b hb => ⟨Nat.ne_of_lt (Nat.lt_of_lt_of_le (hf b hb).2 hC), fun x c h => (hf b hb).1.2.2.2.2.1 x c (hc x c h)⟩
  bs := I.bs
  bsz := Nat.le_trans I.ok.bsz I.sz
  noex := fun b o e hb => by
    obtain ⟨_, h1, h2, h3, _⟩ := (hf b hb).1
    rcases h3 with z | z
    · exact I.ok.noex b o e z
    · exact absurd (Nat.lt_of_lt_of_le (Heap.lt_size e) (Nat.le_trans I.ok.bsz z)) (Nat.lt_irrefl _)
  exfs := fun b hb z => by
    obtain ⟨_, h1, h2, _⟩ := (hf b hb).1
    rcases List.mem_cons.mp (I.stkSub b z) with w | w
    · exact h1 w
    · exact h2 w
  funs := I.stack
  frf := I.stkFree
end
noncomputable def Yields (K : PySem.W.Frag) (J : It) (H : Hp) (ds : List D) : Prop :=
  ∀ H', Same H H' → (∀ i d, ds[i]? = some d → J.go i H' ∧ ∀ x H'', J.yld i H' x H'' → Same H' H'' ∧ Rep K H'' d x) ∧ J.stop ds.length H'
noncomputable def IPost (X : Cx) (pins : List (Addr × Obj)) (σ : St) (H : Hp) (tg : Expr) (r : Res (List D)) (itv : Value) (s2 : Shared) : Prop :=
  ∃ (ds : List D) (it : Addr) (fp : List Addr) (tn : Nat → Heap → Prop) (J : It) (H' : Hp), r = .ok ds ∧ itv = .ref it ∧ Inv X pins σ H' s2 ∧ Turn X.prog X.w X.K tg J fp it tn ∧ tn 0 s2.heap ∧ (∀ b ∈ fp, FpOk X pins H' b) ∧ Same H H' ∧ Yields X.K J H' ds
noncomputable def PID (X : Cx) (tg iter : Expr) (f : DS → Res (List D)) : Prop :=
  ∀ (pins : List (Addr × Obj)) (s : Shared) (σ : St) (G H : Hp) (δ : DS), Inv X pins σ H s → RepSt X.K G H σ δ → f δ ≠ .stuck →
    wpAny (model X.prog X.w) X.A (eval iter X.env) (fun v s1 => wpAny (model X.prog X.w) X.A (pyIter v) (IPost X pins σ H tg (f δ)) (XPost X pins σ H s.heap (f δ)) s1) (XPost X pins σ H s.heap (f δ)) s
noncomputable def signsD (x : Str) : List D := x.cps.toList.map fun c => .str ⟨#[c]⟩
noncomputable def Its (x : Str) : It :=
  ⟨fun i _ => i < x.cps.size, fun i H v H' => H' = H ∧ ∃ c, x.cps[i]? = some c ∧ v = .str ⟨#[c]⟩, fun i _ => x.cps.size ≤ i⟩
theorem turn_ascii {P : Program} {w : World} {K : PySem.W.Frag} {tg : Expr} (x : Str) (t : Tok) (it : Addr) : Turn P w K tg (Its x) [it] it (fun i h => h.IsStrIter it "str_ascii_iterator" x t i) where
  mem := by simp
  obj := fun i h st b hb => by
    have e : b = it := by simpa using hb
    subst e
    obtain ⟨o, e, c, d⟩ := st
    exact ⟨o, e, fun v z => by rw [d] at z; cases z⟩
  keep := fun i h h' st k => by
    obtain ⟨o, e, c, d⟩ := st
    exact ⟨o, k it (by simp) o e, c, d⟩
  item := by
    intro X hP hw hK hc i pins s σ H E I hf st hg
    subst hP hw hK
    have hx : x.cps[i]? = some x.cps[i] := Array.getElem?_eq_getElem hg
    obtain ⟨f0, f1, f2, f3, f4, f5⟩ := hf it (by simp)
    refine wpAny_pyNext_ascii_item st hx fun h' st' sb => ?_
    have I1 : Inv X pins σ H { s with heap := h', toks := s.toks + 1 } := I.turned (t' := s.toks + 1) (fun b o hb e => (sb.2 b hb).trans e) f0 f1 f3 f4 f5
    obtain ⟨o, e, c, d⟩ := id st'
    exact ⟨_, rfl, go_of (s := { s with heap := h', toks := s.toks + 1 }) e c d (by decide) ⟨.str ⟨#[x.cps[i]]⟩, H, I1, ⟨_, rfl⟩, ⟨rfl, _, hx, rfl⟩, st', fun b hb => (hf b hb).1⟩⟩
  done := by
    intro X hP hw hK hc i pins s σ H E I hf st hg
    subst hP hw hK
    obtain ⟨f0, f1, f2, f3, f4, f5⟩ := hf it (by simp)
    exact wpAny_pyNext_ascii_end (I.ok.hd hc) st (Array.getElem?_eq_none hg) fun h' eb => ⟨rfl, I.turned (t' := s.toks) (fun b o hb e => eb b o hb e) f0 f1 f3 f4 f5⟩
  self := fun _ _ _ _ _ st h => wpAny_pyIter_striter_ascii st h
theorem yields_str {K : PySem.W.Frag} {H : Hp} {x : Str} : Yields K (Its x) H (signsD x) := by
  intro H' e
  refine ⟨fun i d hd => ?_, by unfold signsD; simp [Its]⟩
  unfold signsD at hd
  rw [List.getElem?_map] at hd
  cases z : x.cps.toList[i]? with
  | none => rw [z] at hd; cases hd
  | some c =>
    rw [z] at hd
    cases hd
    have hl : i < x.cps.size := by
      have := List.getElem?_eq_some_iff.mp z
      obtain ⟨q, _⟩ := this
      simpa using q
    have hc : x.cps[i]? = some c := by simpa using z
    refine ⟨hl, fun v H'' y => ?_⟩
    obtain ⟨rfl, c', h1, rfl⟩ := y
    rw [hc] at h1
    cases h1
    exact ⟨Same.refl _, by rw [Rep]⟩
noncomputable def seqItems : D → Res (List D)
  | .tup ds => .ok ds
  | .lst ds => .ok ds
  | .str x => if x.cps.all (· < 128) = true then .ok (signsD x) else .stuck
  | _ => .stuck
theorem yields_list {K : PySem.W.Frag} {H : Hp} {a : Addr} {xs : List V} {ds : List D} {X : Cx} {pins : List (Addr × Obj)} {σ : St} {s : Shared} (hq : SqL K H a xs) (r : Reps K H ds xs) : Yields K (Itl K a) H ds := by
  intro H' e
  have hq' := e.seq hq
  have r' := r.mono e
  refine ⟨fun i d hd => ?_, xs, hq', by rw [r.length]; exact Nat.le_refl _⟩
  obtain ⟨v, e1, e2⟩ := r'.get hd
  refine ⟨⟨xs, v, hq', e1⟩, fun x H'' y => ?_⟩
  obtain ⟨rfl, y⟩ := y
  have := y xs hq'
  rw [e1] at this
  cases this
  exact ⟨Same.refl _, e2⟩
theorem yields_tup {K : PySem.W.Frag} {H : Hp} {a : Addr} {xs : List V} {ds : List D} (hq : SqT K H a xs) (r : Reps K H ds xs) : Yields K (Itt K a) H ds := by
  intro H' e
  have hq' := SqT_mono e hq
  have r' := r.mono e
  refine ⟨fun i d hd => ?_, xs, hq', by rw [r.length]; exact Nat.le_refl _⟩
  obtain ⟨v, e1, e2⟩ := r'.get hd
  refine ⟨⟨xs, v, hq', e1⟩, fun x H'' y => ?_⟩
  obtain ⟨rfl, y⟩ := y
  have := y xs hq'
  rw [e1] at this
  cases this
  exact ⟨Same.refl _, e2⟩
theorem pid_seq {X : Cx} {tg iter : Expr} {f : DS → Res D} (h : PD X iter f) : PID X tg iter (fun δ => (f δ).bind seqItems) := by
  intro pins s σ G H δ I R hs
  try dsimp only at hs ⊢
  refine h.use I R (bind_l hs) (fun d u s1 v H1 q I1 r1 e1 b1 p1 => ?_) fun e s1 q => q.same fun x z => bind_x z
  have h2 := bind_r hs q
  cases d with
  | lst ds =>
    obtain ⟨a, xs, rfl, hq, r⟩ := repL p1
    cases r1
    obtain ⟨its, rv, p, hz⟩ := I1.list hq
    refine wpAny_pyIter_list p.isList ?_
    refine ⟨ds, s1.heap.objs.size, [s1.heap.objs.size], _, _, H1, by rw [q]; rfl, rfl, I1.kept (t' := s1.toks) fun b o e => Heap.get?_push_of_some _ e, turn_list a _, ⟨_, Heap.get?_push_size _ rfl, rfl, rfl⟩, fun b hb => ?_, e1, yields_list (X := X) (pins := pins) (σ := σ) (s := s1) hq r⟩
    have e : b = s1.heap.objs.size := by simpa using hb
    subst e
    exact I1.fpOk (Nat.le_refl _) (I1.hok.fresh (Nat.le_refl _))
  | tup ds =>
    obtain ⟨a, xs, rfl, hq, r⟩ := repT p1
    cases r1
    obtain ⟨its, rv, p, hz⟩ := I1.tuple hq
    refine wpAny_pyIter_tuple p ?_
    refine ⟨ds, s1.heap.objs.size, [s1.heap.objs.size], _, _, H1, by rw [q]; rfl, rfl, I1.kept (t' := s1.toks) fun b o e => Heap.get?_push_of_some _ e, turn_tuple a _, ⟨_, Heap.get?_push_size _ rfl, rfl, rfl⟩, fun b hb => ?_, e1, yields_tup hq r⟩
    have e : b = s1.heap.objs.size := by simpa using hb
    subst e
    exact I1.fpOk (Nat.le_refl _) (I1.hok.fresh (Nat.le_refl _))
  | str x =>
    rw [repS p1] at r1
    obtain ⟨t, rfl⟩ := r1
    have ha : x.cps.all (· < 128) = true := by
      cases z : x.cps.all (· < 128) with
      | true => rfl
      | false =>
        have h3 : (if (x.cps.all fun c => decide (c < 128)) = true then Res.ok (signsD x) else Res.stuck) ≠ .stuck := h2
        rw [z] at h3; exact (h3 rfl).elim
    refine wpAny_pyIter_ascii ha ?_
    refine ⟨signsD x, s1.heap.objs.size, [s1.heap.objs.size], _, _, H1, by rw [q]; unfold seqItems; rw [Res.bind_ok]; simp only [ha, if_true], rfl, I1.kept (t' := s1.toks) fun b o e => Heap.get?_push_of_some _ e, turn_ascii x t _, ⟨_, Heap.get?_push_size _ rfl, rfl, rfl⟩, fun b hb => ?_, e1, yields_str⟩
    have e : b = s1.heap.objs.size := by simpa using hb
    subst e
    exact I1.fpOk (Nat.le_refl _) (I1.hok.fresh (Nat.le_refl _))
  | _ => exact (h2 rfl).elim
noncomputable def frz1 : Option SV → Option SV
  | some sv => some (.arg sv.view)
  | none => none
noncomputable def compS (m : Nat) (fr : List Nat) (δ : DS) : DS := List.replicate m none ++ fr.map fun i => (δ[i]?).elim none frz1
noncomputable def mapR (g : D → Res D) : List D → Res (List D)
  | [] => .ok []
  | d :: ds => (g d).bind fun x => (mapR g ds).bind fun xs => .ok (x :: xs)
noncomputable def eltD (t : TGD) (fe : DS → Res D) (δ' : DS) (d : D) : Res D := match t d δ' with
  | some δ1 => (match fe δ1 with | .ok x => .ok x | _ => .stuck)
  | none => .stuck
noncomputable def compD (m : Nat) (fr : List Nat) (t : TGD) (fe : DS → Res D) (fi : DS → Res (List D)) : DS → Res D := fun δ => (fi δ).bind fun ds => lstD (mapR (eltD t fe (compS m fr δ)) ds)
noncomputable def KeepsT (m : Nat) (t : TGD) : Prop := ∀ d δ δ1, t d δ = some δ1 → δ1.length = δ.length ∧ ∀ i, m ≤ i → δ1[i]? = δ[i]?
theorem RepSt.weak {K : PySem.W.Frag} {G H : Hp} {σ : St} {δ δ1 : DS} {m : Nat} (R : RepSt K G H σ δ1) (hl : δ1.length = δ.length) (hm : ∀ i, m ≤ i → δ1[i]? = δ[i]?) (hn : ∀ i, i < m → ∀ sv, δ[i]? ≠ some (some sv)) : RepSt K G H σ δ where
  same := R.same
  len := R.len.trans hl
  at_ := fun i sv e => by
    by_cases h : i < m
    · exact (hn i h sv e).elim
    · exact R.at_ i sv (by rw [hm i (by omega)]; exact e)
  sep := fun i j ds es v hij e1 e2 e3 => by
    by_cases h1 : i < m
    · exact (hn i h1 _ e1).elim
    · by_cases h2 : j < m
      · exact (hn j h2 _ e2).elim
      · exact R.sep i j ds es v hij (by rw [hm i (by omega)]; exact e1) (by rw [hm j (by omega)]; exact e2) e3
theorem compS_low {m : Nat} {fr : List Nat} {δ : DS} (i : Nat) (h : i < m) (sv : SV) : (compS m fr δ)[i]? ≠ some (some sv) := by
  unfold compS
  rw [List.getElem?_append_left (by simpa using h), List.getElem?_replicate, if_pos h]
  intro z; cases z
noncomputable def compV (m : Nat) (fr : List Nat) (σ : St) : St := List.replicate m none ++ fr.map fun i => (σ[i]?).elim none id
theorem rep_comp {K : PySem.W.Frag} {G H : Hp} {σ : St} {δ : DS} (m : Nat) (fr : List Nat) (R : RepSt K G H σ δ) : RepSt K H H (compV m fr σ) (compS m fr δ) where
  same := Same.refl H
  len := by simp [compV, compS]
  at_ := fun i sv e => by
    by_cases h : i < m
    · exact (compS_low i h sv e).elim
    · unfold compS at e
      unfold compV
      rw [List.getElem?_append_right (by simpa using h), List.getElem?_map] at e
      rw [List.getElem?_append_right (by simpa using h), List.getElem?_map]
      simp only [List.length_replicate] at e ⊢
      cases q : fr[i - m]? with
      | none => rw [q] at e; cases e
      | some k =>
        rw [q] at e
        simp only [Option.map_some, Option.some.injEq] at e
        cases q2 : δ[k]? with
        | none => rw [q2] at e; cases e
        | some o =>
          rw [q2] at e
          cases o with
          | none => cases e
          | some sv' =>
            simp only [Option.elim_some, frz1, Option.some.injEq] at e
            subst e
            obtain ⟨v, e1, e2⟩ := R.view q2
            exact ⟨v, by simp [e1], e2⟩
  sep := fun i j ds es v hij e1 e2 e3 => by
    exfalso
    by_cases h : i < m
    · exact (compS_low i h _ e1).elim
    · unfold compS at e1
      rw [List.getElem?_append_right (by simpa using h), List.getElem?_map] at e1
      simp only [List.length_replicate] at e1
      cases q : fr[i - m]? with
      | none => rw [q] at e1; cases e1
      | some k =>
        rw [q] at e1
        simp only [Option.map_some, Option.some.injEq] at e1
        cases q2 : δ[k]? with
        | none => rw [q2] at e1; cases e1
        | some o =>
          rw [q2] at e1
          cases o with
          | none => cases e1
          | some sv' => simp [frz1] at e1
theorem mapR_len {g : D → Res D} : ∀ {ds rs : List D}, mapR g ds = .ok rs → rs.length = ds.length
  | [], rs, h => by simp only [mapR, Res.ok.injEq] at h; subst h; rfl
  | d :: ds, rs, h => by
    simp only [mapR] at h
    cases q : g d with
    | stuck => rw [q] at h; cases h
    | err x => rw [q] at h; cases h
    | ok x =>
      rw [q, Res.bind_ok] at h
      cases q2 : mapR g ds with
      | stuck => rw [q2] at h; cases h
      | err x => rw [q2] at h; cases h
      | ok xs =>
        rw [q2, Res.bind_ok] at h
        cases h
        simp [mapR_len q2]
theorem mapR_get {g : D → Res D} : ∀ {ds rs : List D} {i : Nat} {d : D}, mapR g ds = .ok rs → ds[i]? = some d → ∃ r, g d = .ok r ∧ rs[i]? = some r
  | [], rs, i, d, h, e => by simp at e
  | d' :: ds, rs, i, d, h, e => by
    simp only [mapR] at h
    cases q : g d' with
    | stuck => rw [q] at h; cases h
    | err x => rw [q] at h; cases h
    | ok x =>
      rw [q, Res.bind_ok] at h
      cases q2 : mapR g ds with
      | stuck => rw [q2] at h; cases h
      | err x => rw [q2] at h; cases h
      | ok xs =>
        rw [q2, Res.bind_ok] at h
        cases h
        cases i with
        | zero => simp at e; subst e; exact ⟨x, q, by simp⟩
        | succ i =>
          simp at e
          obtain ⟨r, e1, e2⟩ := mapR_get q2 e
          exact ⟨r, e1, by simpa using e2⟩
theorem mapR_ne {g : D → Res D} (hg : ∀ d, NoErr (g d)) : ∀ ds, NoErr (mapR g ds)
  | [] => noErr_ok
  | d :: ds => by
    intro x h
    simp only [mapR] at h
    cases q : g d with
    | stuck => rw [q] at h; cases h
    | err y => exact hg d y q
    | ok y =>
      rw [q, Res.bind_ok] at h
      cases q2 : mapR g ds with
      | stuck => rw [q2] at h; cases h
      | err z => exact mapR_ne hg ds z q2
      | ok xs => rw [q2, Res.bind_ok] at h; cases h
theorem eltD_ne {t : TGD} {fe : DS → Res D} {δ' : DS} (d : D) : NoErr (eltD t fe δ' d) := by
  intro x h
  unfold eltD at h
  split at h
  · split at h <;> cases h
  · cases h
theorem eltD_of {t : TGD} {fe : DS → Res D} {δ' : DS} {d r : D} (h : eltD t fe δ' d = .ok r) : ∃ δ1, t d δ' = some δ1 ∧ fe δ1 = .ok r := by
  unfold eltD at h
  split at h
  · rename_i δ1 e
    split at h
    · rename_i x q
      cases h
      exact ⟨δ1, e, q⟩
    · cases h
  · cases h
end DL
set_option Elab.async false
set_option linter.all false
set_option maxRecDepth 100000
namespace DL
open PySem PySem.Spec PyProof.Rows L2
theorem compTurn_any (elt target iter : Expr) (scope : Scope) (pos : Pos) (it acc : Value) (env : Env) :
    compTurn (.ListComp elt [⟨target, iter, [], 0⟩] scope pos) 0 it acc env = (standAt iter.pos >>= fun _ => pyNext it >>= fun r => match r with
      | none => pure (.done .next)
      | some v => letOwnedTupleGo target it v >>= fun _ => assign target env v >>= fun _ =>
        (eval elt env >>= fun x => call (.builtin "list.append") [acc, x] >>= fun _ => pure ()) >>= fun _ =>
          again (.compLoop (.ListComp elt [⟨target, iter, [], 0⟩] scope pos) 0 it acc env)) := by rfl
section
variable {X : Cx} {m : Nat} {fr : List Nat} {N' : List Str} {scope : Scope} {cl : List (Str × Addr)} {tg iter elt : Expr} {pos : Pos} {t : TGD} {fe : DS → Res D} {fi : DS → Res (List D)}
theorem comp_loop {C : Addr} {s3 : Shared} {H2 : Hp} {fp : List Addr} {it : Addr} {tn : Nat → Heap → Prop} {J : It} {ds rs : List D} {δ' : DS} {acc : Addr} {RR : Result → Shared → Prop} (hcalm : X.calm = true)
    (T : Turn X.prog X.w X.K tg J fp it tn) (Y : Yields X.K J H2 ds) (hR : mapR (eltD t fe δ') ds = .ok rs) (hz : ds.length ≤ sizeLine) (hkt : KeepsT m t) (hlow : ∀ i, i < m → ∀ sv, δ'[i]? ≠ some (some sv))
    (ht : PGD (compX X N' scope cl C s3 H2 (acc :: fp)) tg t) (he : PD (compX X N' scope cl C s3 H2 (acc :: fp)) elt fe)
    (hacc : acc ∉ fp) (hfp : ∀ b ∈ acc :: fp, b ≠ C ∧ b ∉ frs X.stack ∧ ∀ x c, cl.lookup x = some c → c ≠ b)
    (fin : ∀ s' σ' H' ys its, Inv (compX X N' scope cl C s3 H2 (acc :: fp)) [] σ' H' s' → Same H2 H' → H' acc = none → (∀ b ∈ fp, H' b = none) → s'.heap.PlainList acc its → Vals ys its.toList → Reps X.K H' rs ys → RR (.ok .next) s')
    {s4 : Shared} {σ0 : St} {its0 : Array Value} (I4 : Inv (compX X N' scope cl C s3 H2 (acc :: fp)) [] σ0 H2 s4) (R4 : RepSt X.K H2 H2 σ0 δ') (st4 : tn 0 s4.heap) (f4 : ∀ b ∈ acc :: fp, H2 b = none) (p4 : s4.heap.PlainList acc #[]) :
    codeAny (model X.prog X.w) X.A (.compLoop (.ListComp elt [⟨tg, iter, [], 0⟩] scope pos) 0 (.ref it) (.ref acc) (compEnvC scope cl C X.env)) RR s4 := by
  let X' := compX X N' scope cl C s3 H2 (acc :: fp)
  have fpok : ∀ {H' : Hp} {pn : List (Addr × Obj)}, (∀ b ∈ fp, H' b = none) → (∀ b ∈ fp, ∀ p ∈ pn, p.1 ≠ b) → ∀ b ∈ fp, FpOk X' pn H' b := fun hn hp b hb =>
    ⟨hn b hb, (hfp b (List.mem_cons_of_mem _ hb)).1, (hfp b (List.mem_cons_of_mem _ hb)).2.1, .inl (List.mem_cons_of_mem _ hb), (hfp b (List.mem_cons_of_mem _ hb)).2.2, fun p hpp => hp b hb p (by simpa [X', compX] using hpp)⟩
  refine codeAny_loop rfl (fun n s => ∃ i σ' H' ys its, n = ds.length - i ∧ i ≤ ds.length ∧ Inv X' [] σ' H' s ∧ Same H2 H' ∧ RepSt X.K H2 H' σ' δ' ∧ tn i s.heap ∧ H' acc = none ∧ (∀ b ∈ fp, H' b = none) ∧ s.heap.PlainList acc its ∧ Vals ys its.toList ∧ Reps X.K H' (rs.take i) ys) (fun n s hI => ?_) ds.length
    ⟨0, σ0, H2, [], #[], by simp, Nat.zero_le _, I4, Same.refl _, R4, st4, f4 acc (by simp), fun b hb => f4 b (List.mem_cons_of_mem _ hb), p4, .nil, by simpa using Reps.nil⟩
  obtain ⟨i, σ1, H1, ys, its, rfl, hi, I1, e1, R1, st1, ha1, fr1, p1, v1, r1⟩ := hI
  show wpAny _ _ ((compTurn (.ListComp elt [⟨tg, iter, [], 0⟩] scope pos) 0 (.ref it) (.ref acc) (compEnvC scope cl C X.env)).onRaise (fun x => do noteFrame x (compEnvC scope cl C X.env); theTreesLotGoes x)) _ _ s
  refine wpAny_noted ?_
  rw [compTurn_any]
  refine wpAny_bind (wpAny_standAt (wpAny_bind ?_))
  have pk : ∀ {b : Addr} {o : Obj}, True := trivial
  by_cases hlt : i < ds.length
  · obtain ⟨d, hd⟩ : ∃ d, ds[i]? = some d := ⟨ds[i], by simp [hlt]⟩
    obtain ⟨go, yl⟩ := (Y H1 e1).1 i d hd
    obtain ⟨r, hg, hr⟩ := mapR_get hR hd
    obtain ⟨δ1, ht1, hf1⟩ := eltD_of hg
    obtain ⟨na, oa⟩ := p1
    have pin1 : Inv X' [(acc, ({ cls := .type "list", data := .seq its na } : Obj))] σ1 H1 s := I1.pins_of fun p hp => by
      have : p = (acc, ({ cls := .type "list", data := .seq its na } : Obj)) := by simpa using hp
      subst this
      exact ⟨oa, ha1, (hfp acc (by simp)).1, (hfp acc (by simp)).2.1, fun v z => (by cases z)⟩
    refine wpAny_mono (T.item X' rfl rfl rfl hcalm i _ s σ1 H1 _ pin1 (fpok fr1 fun b hb p hp z => by
      have : p = (acc, ({ cls := .type "list", data := .seq its na } : Obj)) := by simpa using hp
      subst this; exact hacc (by rw [show acc = b from z]; exact hb)) st1 go) (fun rv s5 ⟨u, hrv, h5⟩ => ?_) fun _ _ z => z
    subst hrv
    refine wpAny_bind (wpAny_mono h5 (fun _ s6 ⟨x, H6, I6, rx, y6, st6, fr6⟩ => ?_) fun _ _ z => z)
    obtain ⟨e6, px⟩ := yl x H6 y6
    have I6' := I6.pinned (fpok fr6 fun b hb p hp z => by
      have : p = (acc, ({ cls := .type "list", data := .seq its na } : Obj)) := by simpa using hp
      subst this; exact hacc (by rw [show acc = b from z]; exact hb)) (T.obj _ _ st6)
    have R6 := R1.mono e6
    refine wpAny_bind (wpAny_mono (ht _ _ s6 σ1 H2 H6 δ' δ1 d x u I6' rx R6 px ht1) (fun _ s7 ⟨σ7, I7, R7⟩ => ?_) fun _ _ z => z)
    obtain ⟨hl1, hm1⟩ := hkt d δ' δ1 ht1
    have R7' : RepSt X.K H2 H6 σ7 δ' := R7.weak hl1 hm1 hlow
    refine wpAny_bind (wpAny_bind (he.use I7 R7 (by rw [hf1]; intro z; cases z) (fun d8 u8 s8 v8 H8 q8 I8 r8 e8 b8 p8 => ?_) fun e s8 q => by rw [hf1] at q; exact q.none.elim))
    rw [hf1] at q8; cases q8
    have oa8 := (I8.pin (acc, ({ cls := .type "list", data := .seq its na } : Obj)) (by simp)).1
    have ha8 := (I8.pin (acc, ({ cls := .type "list", data := .seq its na } : Obj)) (by simp)).2.1
    have hys : ys.length = i := by rw [r1.length, List.length_take, mapR_len hR]; omega
    have hsz : its.size = i := by have := v1.length; simp only [Array.length_toList] at this; omega
    refine wpAny_bind (wpAny_list_append_plain (show s8.heap.PlainList acc its from ⟨na, oa8⟩) (fun h9 p9 sb9 => ?_) (by omega))
    have I8' : Inv X' [] σ7 H8 s8 := I8.pins_of fun p hp => absurd hp (by simp)
    have fp8 : ∀ b ∈ fp, ∀ o, s6.heap.get? b = some o → s8.heap.get? b = some o ∧ H8 b = none := fun b hb o e => by
      have q := I8.pin (b, o) (List.mem_append_right _ (List.mem_append_right _ (mem_pinsAt hb e)))
      exact ⟨q.1, q.2.1⟩
    have nacc : ∀ b, H8 b ≠ none → b ≠ acc := fun b hb z => hb (by rw [z]; exact ha8)
    have I9 : Inv X' [] σ7 H8 { s8 with heap := h9 } := I8'.call' (ch := [acc]) rfl
      ⟨fun b o e n hb hx => (sb9.2 b (by simpa using hx)).trans e, fun b o e n hb hx => ⟨o.slots, (sb9.2 b (by simpa using hx)).trans e⟩, fun b o e n _ => n, fun b o e hx => ⟨o, (sb9.2 b (by simpa using hx)).trans e⟩, fun b xs e => e, fun b o u e => e, fun b ps e => ⟨#[], by simpa using e⟩⟩
      (fun b u q => (I8'.hok b u q).stay (fun c v hc e => (sb9.2 c (by
        rcases hc with rfl | hc
        · exact nacc c (by rw [q]; intro z; cases z)
        · exact nacc c (by rw [hc]; intro z; cases z))).trans e) (fun _ z => z) fun _ _ z => z) I8'.bare
      fun b hb => by
        have e : b = acc := by simpa using hb
        subst e
        exact ⟨.inl (by show b ∈ b :: fp; simp), (hfp b (by simp)).1, fun x c e => (hfp b (by simp)).2.2 x c e, fun p hp => absurd hp (by show p ∉ ([] : List (Addr × Obj)) ++ []; simp)⟩
    refine wpAny_pure (wpAny_pure ⟨rfl, ds.length - (i + 1), by omega, i + 1, σ7, H8, ys ++ [v8], its.push u8, rfl, hlt, I9, e1.trans (e6.trans e8), R7'.mono e8, ?_, ha8, fun b hb => ?_, p9, ?_, ?_⟩)
    · refine T.keep _ _ _ st6 fun b hb o e => (sb9.2 b (fun z => hacc (by rw [← z]; exact hb))).trans (fp8 b hb o e).1
    · obtain ⟨o, e, _⟩ := T.obj _ _ st6 b hb
      exact (fp8 b hb o e).2
    · rw [Array.toList_push]; exact v1.append (.cons r8 .nil)
    · have e9 : rs.take (i + 1) = rs.take i ++ [r] := by rw [List.take_succ, hr]; rfl
      rw [e9]
      exact (r1.mono (e6.trans e8)).append (Reps.cons p8 Reps.nil)
  · have e : i = ds.length := by omega
    subst e
    obtain ⟨na, oa⟩ := p1
    have pin1 : Inv X' [(acc, ({ cls := .type "list", data := .seq its na } : Obj))] σ1 H1 s := I1.pins_of fun p hp => by
      have : p = (acc, ({ cls := .type "list", data := .seq its na } : Obj)) := by simpa using hp
      subst this
      exact ⟨oa, ha1, (hfp acc (by simp)).1, (hfp acc (by simp)).2.1, fun v z => (by cases z)⟩
    refine wpAny_mono (T.done X' rfl rfl rfl hcalm ds.length _ s σ1 H1 _ pin1 (fpok fr1 fun b hb p hp z => by
      have : p = (acc, ({ cls := .type "list", data := .seq its na } : Obj)) := by simpa using hp
      subst this; exact hacc (by rw [show acc = b from z]; exact hb)) st1 (Y H1 e1).2) (fun rv s5 ⟨hrv, I5⟩ => ?_) fun _ _ z => z
    subst hrv
    refine wpAny_pure ?_
    have h := mapR_len hR
    rw [← h, List.take_length] at r1
    have oa5 := (I5.pin (acc, ({ cls := .type "list", data := .seq its na } : Obj)) (by simp)).1
    exact fin s5 σ1 H1 ys its (I5.pins_of fun p hp => absurd hp (by simp)) e1 ha1 fr1 ⟨na, oa5⟩ v1 r1
end
end DL
set_option Elab.async false
set_option linter.all false
set_option maxRecDepth 100000
namespace DL
open PySem PySem.Spec PyProof.Rows L2
theorem _root_.L2.Inv.but {X : Cx} {pins : List (Addr × Obj)} {σ : St} {H : Hp} {s : Shared} {C : Addr} {h' : Heap} {t' : Nat} (J : Inv X pins σ H s) (hC : H C = none) (hC0 : X.s₀.heap.objs.size ≤ C) (hCl : C ≠ X.env.locals) (hCc : ∀ x c, X.env.cells.lookup x = some c → c ≠ C)
    (hCp : ∀ p ∈ X.pn ++ pins, p.1 ≠ C) (hs : Heap.SameBut C s.heap h') : Inv X pins σ H { s with heap := h', toks := t' } := by
  have nC : ∀ b, H b ≠ none → b ≠ C := fun b hb z => hb (by rw [z]; exact hC)
  refine J.call' (ch := [C]) (s' := { s with heap := h', toks := t' }) rfl
      ⟨fun b o e n hb hx => (hs.2 b (by simpa using hx)).trans e, fun b o e n hb hx => ⟨o.slots, (hs.2 b (by simpa using hx)).trans e⟩, fun b o e n _ => n, fun b o e hx => ⟨o, (hs.2 b (by simpa using hx)).trans e⟩, fun b xs e => e, fun b o u e => e, fun b ps e => ⟨#[], by simpa using e⟩⟩
      (fun b u q => (J.hok b u q).stay (fun c v hc e => (hs.2 c (by
        rcases hc with rfl | hc
        · exact nC c (by rw [q]; intro z; cases z)
        · exact nC c (by rw [hc]; intro z; cases z))).trans e) (fun _ z => z) fun _ _ z => z) J.bare
      fun b hb => by
        have e : b = C := by simpa using hb
        subst e
        exact ⟨.inr hC0, hCl, hCc, hCp⟩
section
variable {X : Cx} {m : Nat} {fr : List Nat} {N' : List Str} {scope : Scope} {cl : List (Str × Addr)} {tg iter elt : Expr} {pos : Pos} {t : TGD} {fe : DS → Res D} {fi : DS → Res (List D)}
structure Around' (X : Cx) (m : Nat) (fr : List Nat) (N' : List Str) (scope : Scope) (cl : List (Str × Addr)) : Prop where
  clos : closureFor scope X.env = pure cl
  nocell : ∀ y ∈ scope.names, y.2 ≠ .cell
  kind : scope.kind = .function
  names : ∀ x ∈ scope.names, x.2 = .local → scope.names.lookup x.1 = some .local
  sub : ∀ x c, cl.lookup x = some c → X.env.cells.lookup x = some c
  has : ∀ x, ((relabel scope X.env).names.lookup x = some .cell ∨ (relabel scope X.env).names.lookup x = some .free) → ∃ c, cl.lookup x = some c
  len : N'.length = m + fr.length
  free : ∀ j i, fr[j]? = some i → ∃ x c, N'[m + j]? = some x ∧ X.N[i]? = some x ∧ Vis X.env.scope x ∧ (X.env.kindOf x = some .cell ∨ X.env.kindOf x = some .free) ∧ cl.lookup x = some c ∧ ((compEnvC scope cl 0 X.env).kindOf x = some .cell ∨ (compEnvC scope cl 0 X.env).kindOf x = some .free)
theorem comp_run (W : Around' X m fr N' scope cl) (hcalm : X.calm = true) (hkt : KeepsT m t) (hi : PID X tg iter fi) (ht : ∀ C s H fp, PGD (compX X N' scope cl C s H fp) tg t) (he : ∀ C s H fp, PD (compX X N' scope cl C s H fp) elt fe)
    {pins : List (Addr × Obj)} {s : Shared} {σ : St} {G H : Hp} {δ : DS} (I : Inv X pins σ H s) (R : RepSt X.K G H σ δ) (hs : compD m fr t fe fi δ ≠ .stuck) {E : Value → Shared → Prop} (hE : ∀ e s1, XPost X pins σ H s.heap (compD m fr t fe fi δ) e s1 → E e s1)
    {RR : Value → Addr → Result → Shared → Prop}
    (fin : ∀ a C s' H' ds xs mC, compD m fr t fe fi δ = .ok (.lst ds) → Inv X pins σ H' s' → Same H H' → H a = none → H' a = some (.lst xs) → Reps X.K H' ds xs → s'.heap.Ns C mC → H' C = none → C ≠ a → X.s₀.heap.objs.size ≤ C → C ∉ X.fs → C ≠ X.env.locals → (∀ x c, X.env.cells.lookup x = some c → c ≠ C) → (∀ p ∈ X.pn ++ pins, p.1 ≠ C) → RR (.ref a) C (.ok .next) s') :
    wpAny (model X.prog X.w) X.A (eval iter X.env) (fun x s₁ => wpAny (model X.prog X.w) X.A (pyIter x) (fun itv s₂ => wpAny (model X.prog X.w) X.A (newList []) (fun acc s₃ =>
      wpAny (model X.prog X.w) X.A (newFunctionEnv scope X.env.globals cl [] X.env.qual none .none (some X.env)) (fun cenv s₄ =>
        codeAny (model X.prog X.w) X.A (.compStart (.ListComp elt [⟨tg, iter, [], 0⟩] scope pos) 0 itv acc { cenv with scope := relabel scope X.env }) (RR acc cenv.locals) s₄) E s₃) E s₂) E s₁) E s := by
  have hs' : (fi δ).bind (fun ds => lstD (mapR (eltD t fe (compS m fr δ)) ds)) ≠ .stuck := hs
  refine wpAny_mono (hi pins s σ G H δ I R (bind_l hs')) (fun v s1 h1 => wpAny_mono h1 (fun itv s2 h2 => ?_) fun e s2 q => hE e s2 (q.same fun x z => bind_x z)) fun e s2 q => hE e s2 (q.same fun x z => bind_x z)
  obtain ⟨ds, it, fp, tn, J, H2, q, rfl, I2, T, st2, f2, e2, Y⟩ := h2
  have h3 := bind_r hs' q
  have hm : mapR (eltD t fe (compS m fr δ)) ds ≠ .stuck := bind_l (show (mapR (eltD t fe (compS m fr δ)) ds).bind _ ≠ Res.stuck from h3)
  cases hR : mapR (eltD t fe (compS m fr δ)) ds with
  | stuck => exact (hm hR).elim
  | err x => exact (mapR_ne (fun d => eltD_ne d) ds x hR).elim
  | ok rs =>
  have hz : rs.length ≤ sizeLine := by
    by_cases c : rs.length ≤ sizeLine
    · exact c
    · exact (h3 (by unfold lstD; rw [hR, Res.bind_ok, if_neg c])).elim
  have ev : compD m fr t fe fi δ = .ok (.lst rs) := by unfold compD; rw [q, Res.bind_ok]; unfold lstD; rw [hR, Res.bind_ok, if_pos hz]
  have hz' : ds.length ≤ sizeLine := by rw [← mapR_len hR]; exact hz
  have R2 := R.mono e2
  refine wpAny_newObj_type (wpAny_newFunctionEnv W.nocell (by intro y hy; simp at hy) (fun h₁ hns₁ hsb₁ => ?_) W.kind)
  dsimp only at hns₁ hsb₁ ⊢
  generalize hA : s2.heap.objs.size = acc at *
  generalize hH3 : s2.heap.push { cls := .type "list", dict := none, data := .seq ([] : List Value).toArray } = h3' at hns₁ hsb₁ ⊢
  have hC : h3'.objs.size = acc + 1 := by rw [← hH3, Heap.size_push, hA]
  generalize hCC : h3'.objs.size = C at *
  have k3 : ∀ b o, s2.heap.get? b = some o → h3'.get? b = some o := fun b o e => by rw [← hH3]; exact Heap.get?_push_of_some _ e
  have a3 : h3'.get? acc = some { cls := .type "list", dict := none, data := .seq ([] : List Value).toArray } := by rw [← hH3, ← hA]; exact Heap.get?_push_size _ rfl
  have k4 : ∀ b o, h3'.get? b = some o → h₁.get? b = some o := fun b o e => hsb₁.extBut b o (fun z => by have := Heap.lt_size e; rw [hCC, z] at this; exact Nat.lt_irrefl _ this) (Heap.get?_push_of_some _ e)
  have hacc2 : H2 acc = none := I2.hok.fresh (by rw [hA]; exact Nat.le_refl _)
  have I3 : Inv X pins σ H2 { s2 with heap := h3', toks := s2.toks } := I2.kept k3
  have fp2 : ∀ b ∈ fp, b < acc := fun b hb => by
    obtain ⟨o, e, _⟩ := T.obj _ _ st2 b hb
    have := Heap.lt_size e
    rw [hA] at this; exact this
  have f3 : ∀ b ∈ acc :: fp, FpOk X pins H2 b ∧ b < ({ s2 with heap := h3', toks := s2.toks } : Shared).heap.objs.size := fun b hb => by
    rcases List.mem_cons.mp hb with z | z
    · subst z
      exact ⟨I2.fpOk (by rw [hA]; exact Nat.le_refl _) hacc2, by show _ < h3'.objs.size; rw [hCC, hC]; exact Nat.lt_succ_self _⟩
    · exact ⟨f2 b z, by show _ < h3'.objs.size; rw [hCC, hC]; exact Nat.lt_succ_of_lt (fp2 b z)⟩
  have hacc : acc ∉ fp := fun z => Nat.lt_irrefl _ (fp2 acc z)
  have okX : (compX X N' scope cl C { s2 with heap := h3', toks := s2.toks } H2 (acc :: fp)).Ok := compX_ok I3 W.kind (by show h3'.objs.size ≤ C; rw [hCC]; exact Nat.le_refl _) W.sub W.has f3
  have hC2 : H2 C = none := I2.hok.fresh (by rw [hA, hC]; exact Nat.le_succ _)
  have hcells : ∀ x c, cl.lookup x = some c → ∃ v, h₁.IsCell c v := fun x c e => by
    obtain ⟨v, o, g, d⟩ := I2.cell x c (W.sub x c e)
    exact ⟨v, o, k4 _ _ (k3 _ _ g), d⟩
  have hos : s2.os = ({ s2 with heap := h3', toks := s2.toks } : Shared).os := rfl
  have I4 : ∀ tk, Inv (compX X N' scope cl C { s2 with heap := h3', toks := s2.toks } H2 (acc :: fp)) [] (compV m fr σ) H2 { s2 with heap := h₁, toks := tk } := fun tk => by
    refine ⟨okX, rfl, I2.bare, Un.kept k4, ⟨_, hns₁, fun i x v e1 e2 e3 => ?_⟩, hcells, hC2, fun x c e => I2.freeC x c (W.sub x c e), fun p hp => absurd hp (by show p ∉ ([] : List (Addr × Obj)) ++ []; simp), I3.hok.kept k4, by show _ = N'.length; rw [W.len]; simp [compV]⟩
    unfold compV at e2
    by_cases hm' : i < m
    · rw [List.getElem?_append_left (by simpa using hm'), List.getElem?_replicate, if_pos hm'] at e2
      cases e2
    · rw [List.getElem?_append_right (by simpa using hm'), List.getElem?_map] at e2
      simp only [List.length_replicate] at e2
      cases qf : fr[i - m]? with
      | none => rw [qf] at e2; cases e2
      | some k =>
        rw [qf] at e2
        simp only [Option.map_some, Option.some.injEq] at e2
        have e2' : σ[k]? = some (some v) := by
          cases qk : σ[k]? with
          | none => rw [qk] at e2; cases e2
          | some w => rw [qk] at e2; simp only [Option.elim_some, id] at e2; rw [e2]
        obtain ⟨x', c, w1, w2, w3, w4, w5, w6⟩ := W.free (i - m) k qf
        have hx : x' = x := by
          have : m + (i - m) = i := by omega
          rw [this] at w1
          have e1' : N'[i]? = some x := e1
          rw [e1'] at w1; cases w1; rfl
        subst hx
        obtain ⟨m0, hn0, hl0⟩ := I2.loc
        obtain ⟨u, r, l⟩ := hl0 k x' v w2 e2' w3
        refine ⟨u, r, ?_⟩
        rcases l with ⟨l1, _⟩ | ⟨l1, c', l2, o, g, d⟩
        · rcases w4 with z | z <;> (rw [z] at l1; cases l1)
        · have hcc : c' = c := by
            have := W.sub x' c w5
            rw [l2] at this; cases this; rfl
          subst hcc
          exact .inr ⟨w6, c', w5, o, k4 _ _ (k3 _ _ g), d⟩
  have R4 := rep_comp m fr R2
  have st4 : tn 0 h₁ := T.keep 0 _ _ st2 fun b hb o e => k4 _ _ (k3 _ _ e)
  have hfp : ∀ b ∈ acc :: fp, b ≠ C ∧ b ∉ frs X.stack ∧ ∀ x c, cl.lookup x = some c → c ≠ b := fun b hb => by
    obtain ⟨⟨g1, g2, g3, g4, g5, g6⟩, g7⟩ := f3 b hb
    refine ⟨Nat.ne_of_lt (by rw [← hCC]; exact g7), fun z => ?_, fun x c e => g5 x c (W.sub x c e)⟩
    rcases List.mem_cons.mp (I2.stkSub b z) with w | w
    · exact g2 w
    · exact g3 w
  have hCs : s2.heap.objs.size ≤ C := by rw [hA, hC]; exact Nat.le_succ _
  have loop : ∀ tk, codeAny (model X.prog X.w) X.A (.compLoop (.ListComp elt [⟨tg, iter, [], 0⟩] scope pos) 0 (.ref it) (.ref acc) (compEnvC scope cl C X.env)) (RR (.ref acc) C) { s2 with heap := h₁, toks := tk } := fun tk => by
    refine comp_loop (m := m) (its0 := #[]) hcalm T Y hR hz' hkt (fun i h sv => compS_low i h sv) (ht C _ H2 (acc :: fp)) (he C _ H2 (acc :: fp)) hacc hfp ?_ (I4 tk) R4 st4 (fun b hb => (f3 b hb).1.1) ⟨0, k4 _ _ a3⟩
    intro s' σ' H' ys its J e' ha' hf' p' v' r'
    have K1 : Inv X pins σ H' s' := I3.call' (ch := acc :: fp) J.os J.base J.hok J.bare fun b hb => by
      obtain ⟨⟨g1, g2, g3, g4, g5, g6⟩, g7⟩ := f3 b hb
      exact ⟨g4, g2, g5, g6⟩
    obtain ⟨⟨g1, g2, g3, g4, g5, g6⟩, g7⟩ := f3 acc (by simp)
    obtain ⟨n', o'⟩ := p'
    have K2 := K1.track (o := .lst ys) ha' (fun ob e _ => absurd (Nat.lt_of_lt_of_le (Heap.lt_size e) (by rw [← hA]; exact I2.sz)) (Nat.lt_irrefl _)) g2 g5 g6
      ⟨by rw [r'.length]; exact hz, its.toList, n', v', by simpa using o'⟩
    obtain ⟨mC, hmC, _⟩ := J.loc
    have sm := same_upd ha' (.lst ys)
    have hCa : C ≠ acc := by omega
    refine fin acc C s' (upd H' acc (.lst ys)) rs ys mC ev K2 (e2.trans (e'.trans sm)) (e2.free hacc2) upd_same (r'.mono sm) hmC (by rw [upd_ne hCa]; exact J.free) hCa (Nat.le_trans I2.sz hCs) (I2.nofs hCs) (Nat.ne_of_gt (Nat.lt_of_lt_of_le I2.lt hCs)) (fun x c e z => ?_) fun p hp z => ?_
    · obtain ⟨v, q⟩ := I2.cell x c e
      exact absurd (Nat.lt_of_lt_of_le q.lt (by rw [z]; exact hCs)) (Nat.lt_irrefl _)
    · exact absurd (Nat.lt_of_lt_of_le (Heap.lt_size (I2.pin p hp).1) (by rw [z]; exact hCs)) (Nat.lt_irrefl _)
  exact codeAny_compStart_list (loop _) (T.self X.A 0 _ _ _ st4 (loop _))
theorem pd_comp (W : Around' X m fr N' scope cl) (hcalm : X.calm = true) (hkt : KeepsT m t) (hi : PID X tg iter fi) (ht : ∀ C s H fp, PGD (compX X N' scope cl C s H fp) tg t) (he : ∀ C s H fp, PD (compX X N' scope cl C s H fp) elt fe)
    (hf : ∀ x, foldedSetIterable iter X.env x = pure x := by intro _; rfl) : PD X (.ListComp elt [⟨tg, iter, [], 0⟩] scope pos) (compD m fr t fe fi) := by
  intro pins s σ G H δ I R hs
  rw [eval_ListComp]
  refine wpAny_comprehension_free (use := none) rfl hf W.clos W.kind W.names (comp_run W hcalm hkt hi ht he I R hs (fun _ _ q => q) (RR := fun acc C => compPost _ _ _ none _ acc C) ?_)
  intro a C s' H' ds xs mC ev J e' ha hx hr hns hC hCa hC0 hCf hCl hCc hCp
  refine ⟨mC, hns, fun h' hs' => ?_⟩
  exact ⟨.lst ds, .ref a, H', ev, J.but (t' := s'.toks) hC hC0 hCl hCc hCp hs', rfl, e', mkL (SqL.of hx) hr⟩
end
end DL
set_option Elab.async false
set_option linter.all false
set_option maxRecDepth 100000
namespace DL
open PySem PySem.Spec PyProof.Rows L2
mutual
noncomputable def toP : D → PyData
  | .non => .none
  | .bl b => .bool b
  | .int i => .int i
  | .str x => .str x
  | .tup ds => .tuple (toPs ds)
  | .lst ds => .list (toPs ds)
  | .exc _ => .none
noncomputable def toPs : List D → List PyData
  | [] => []
  | d :: ds => toP d :: toPs ds
end
noncomputable def okD : Nat → D → Bool
  | _, .non => true
  | _, .bl _ => true
  | _, .int _ => true
  | _, .str x => PyData.strOk x
  | n + 1, .tup ds => ds.all (okD n)
  | n + 1, .lst ds => ds.all (okD n)
  | _, _ => false
theorem okD_lay : ∀ (n : Nat) (d : D), okD n d = true → (toP d).canLay0 = true ∧ (toP d).depth ≤ n := by
  intro n
  have all : ∀ n, (∀ d, okD n d = true → (toP d).canLay0 = true ∧ (toP d).depth ≤ n) → ∀ ds : List D, (∀ d ∈ ds, okD n d = true) → PyData.canLayAll0 (toPs ds) = true ∧ PyData.depthAll (toPs ds) ≤ n := by
    intro n ih ds
    induction ds with
    | nil => intro _; simp [toPs, PyData.canLayAll0, PyData.depthAll]
    | cons d ds hi =>
      intro h
      have q1 := ih d (h d (.head _))
      have q2 := hi fun x hx => h x (.tail _ hx)
      simp only [toPs, PyData.canLayAll0, PyData.depthAll, Bool.and_eq_true]
      exact ⟨⟨q1.1, q2.1⟩, by omega⟩
  induction n with
  | zero =>
    intro d h
    cases d <;> simp_all [okD, toP, PyData.canLay0, PyData.depth]
  | succ n ih =>
    intro d h
    cases d with
    | tup ds =>
      have := all n ih ds (by simpa [okD] using h)
      simp only [toP, PyData.canLay0, PyData.depth]
      exact ⟨this.1, by omega⟩
    | lst ds =>
      have := all n ih ds (by simpa [okD] using h)
      simp only [toP, PyData.canLay0, PyData.depth]
      exact ⟨this.1, by omega⟩
    | _ => simp_all [okD, toP, PyData.canLay0, PyData.depth]
section
variable {X : Cx} {pins : List (Addr × Obj)} {σ : St} {H : Hp} {s : Shared}
mutual
theorem reads_of (I : Inv X pins σ H s) : ∀ (n : Nat) {d : D} {v : V} {u : Value}, okD n d = true → Rep X.K H d v → RelV v u → ∃ as, Reads s.heap u (toP d) as
  | n, .non, v, u, _, p, r => by rw [Rep] at p; subst p; cases r; rw [toP]; exact ⟨_, Reads.none⟩
  | n, .bl b, v, u, _, p, r => by rw [Rep] at p; subst p; cases r; rw [toP]; exact ⟨_, Reads.bool b⟩
  | n, .int i, v, u, _, p, r => by rw [Rep] at p; subst p; obtain ⟨t, rfl⟩ := r; rw [toP]; exact ⟨_, Reads.int i t⟩
  | n, .str x, v, u, _, p, r => by rw [Rep] at p; subst p; obtain ⟨t, rfl⟩ := r; rw [toP]; exact ⟨_, Reads.str x t⟩
  | n + 1, .tup ds, v, u, h, p, r => by
    obtain ⟨a, xs, rfl, hq, rs⟩ := repT p
    cases r
    obtain ⟨its, rv, ⟨o, g, c, k, d⟩, hz⟩ := I.tuple hq
    obtain ⟨as, q⟩ := reads_all I n (by simpa [okD] using h) rs rv
    rw [toP]
    exact ⟨as, reads_tuple_at g c d (by simpa using q)⟩
  | n + 1, .lst ds, v, u, h, p, r => by
    obtain ⟨a, xs, rfl, hq, rs⟩ := repL p
    cases r
    obtain ⟨its, rv, ⟨o, k, g, c, _, d⟩, hz⟩ := I.list hq
    obtain ⟨as, q⟩ := reads_all I n (by simpa [okD] using h) rs rv
    rw [toP]
    exact ⟨_, reads_list_at g c d (by simpa using q)⟩
  | 0, .tup ds, v, u, h, p, r => by simp [okD] at h
  | 0, .lst ds, v, u, h, p, r => by simp [okD] at h
  | n, .exc c, v, u, h, p, r => by cases n <;> simp [okD] at h
theorem reads_all (I : Inv X pins σ H s) : ∀ (n : Nat) {ds : List D} {vs : List V} {us : List Value}, (∀ d ∈ ds, okD n d = true) → Reps X.K H ds vs → Vals vs us → ∃ as, ReadsAll s.heap us (toPs ds) as
  | n, [], vs, us, _, p, r => by
    cases p.nil_of
    cases r
    rw [toPs]
    exact ⟨_, ReadsAll.nil⟩
  | n, d :: ds, vs, us, h, p, r => by
    obtain ⟨v, ws, rfl, p1, p2⟩ := p.cons_of
    cases r with
    | cons r1 r2 =>
      obtain ⟨as, q⟩ := reads_of I n (h d (.head _)) p1 r1
      obtain ⟨bs, q2⟩ := reads_all I n (fun x hx => h x (.tail _ hx)) p2 r2
      rw [toPs]
      exact ⟨_, ReadsAll.cons q q2⟩
end
end
noncomputable def eqD (a b : D) : Res D := if okD 8 a = true ∧ okD 8 b = true then .ok (.bl (PyData.eqv (toP a) (toP b))) else .stuck
noncomputable def neD (a b : D) : Res D := if okD 8 a = true ∧ okD 8 b = true then .ok (.bl (!PyData.eqv (toP a) (toP b))) else .stuck
theorem ne_eqD (x y : D) : NoErr (eqD x y) := noErr_ite noErr_ok noErr_stuck
theorem ne_neD (x y : D) : NoErr (neD x y) := noErr_ite noErr_ok noErr_stuck
theorem shaped_ok {d : D} (h : okD 8 d = true) : SeqAt.shaped (toP d) = true := by
  have := okD_lay 8 d h
  unfold SeqAt.shaped
  rw [this.1, Bool.true_and]
  exact decide_eq_true (Nat.le_trans this.2 (by decide))
theorem od_eq {X : Cx} (hu : X.A.units + 64 < cLine) : OpD X (compareOp .Eq) eqD := by
  intro E pins s σ H x y v u a b d I r1 r2 p1 p2 e
  unfold eqD at e
  split at e
  · rename_i c
    cases e
    obtain ⟨as, ra⟩ := reads_of I 8 c.1 p1 r1
    obtain ⟨bs, rb⟩ := reads_of I 8 c.2 p2 r2
    exact SeqAt.compareEq_shaped ra rb (shaped_ok c.1) (shaped_ok c.2) hu ⟨_, .bl _, H, rfl, I, rfl, Same.refl H, mkB⟩
  · cases e
theorem od_ne {X : Cx} (hu : X.A.units + 64 < cLine) : OpD X (compareOp .NotEq) neD := by
  intro E pins s σ H x y v u a b d I r1 r2 p1 p2 e
  unfold neD at e
  split at e
  · rename_i c
    cases e
    obtain ⟨as, ra⟩ := reads_of I 8 c.1 p1 r1
    obtain ⟨bs, rb⟩ := reads_of I 8 c.2 p2 r2
    exact SeqAt.compareNe_shaped ra rb (shaped_ok c.1) (shaped_ok c.2) hu ⟨_, .bl _, H, rfl, I, rfl, Same.refl H, mkB⟩
  · cases e
noncomputable def tyName : D → String
  | .non => "NoneType"
  | .bl _ => "bool"
  | .int _ => "int"
  | .str _ => "str"
  | .tup _ => "tuple"
  | .lst _ => "list"
  | .exc _ => ""
theorem exc_ga {K : PySem.W.Frag} {prog : Program} {w : World} {A : Around} {s : Shared} {x D : Addr} {ox : Obj} {tk : Tok} {R : Result → Shared → Prop}
    (hdct : PySem.W.hasDictIn K D = true) (ha : PySem.W.findIn K (.ref D) "__class__" = some (some (.builtin "object.__class__")))
    (hn : PySem.W.specialIn K (.builtin "object.__class__") "__get__" = some (some (.builtin "getset_descriptor.__get__"))) (htk : PySem.W.takesIn K (.builtin "object.__class__") = some true) (hm : PySem.W.mroIn K D (.type "object") = some true) (hB : PySem.W.mroIn K D (.type "BaseException") = some true)
    (X : K.In s.heap) (I : PySem.W.InstAt s.heap x ox D none) (h : R (.ok (.ret (.ref D))) s) :
    codeAny (model prog w) A (.call (.builtin "BaseException.__getattribute__") ⟨[.ref x, .str "__class__" tk], []⟩) R s := by
  have hf : PySem.W.findObj K D none "__class__" = some (.bind (.builtin "getset_descriptor.__get__") (.builtin "object.__class__")) := by
    obtain ⟨cd, hc, _⟩ := PySem.W.any_some hdct
    unfold PySem.W.findObj
    rw [hc, Option.bind_some, ha, Option.bind_some]
    simp [hn, htk]
  have hk : builtinKind "BaseException.__getattribute__" = some .slot := by decide +kernel
  have hsplit : splitId "BaseException.__getattribute__" = some ("BaseException", "__getattribute__") := by decide +kernel
  have L0 := I.type (M := model prog w)
  have L1 := PySem.W.looks_find (M := model prog w) X I hf
  have L2 := PySem.W.looks_mroIn (M := model prog w) X hB
  have har := F.args_bexc_ga (.ref x) (.str "__class__" tk)
  refine codeAny_call_builtin (by decide +kernel) F.entry_bexc_ga ?_
  simp only [checkBuiltinCall, hk, hsplit]
  refine wpAny_bind ?_
  unfold isInstance
  refine wpAny_bind (L0.at (L2.at ?_))
  simp only [Bool.not_true, Bool.false_eq_true, if_false]
  repeat (first | with_reducible refine wpAny_pure ?_ | with_reducible refine wpAny_bind ?_ | wp_step)
  obtain ⟨hh, g, dr, t, os⟩ := s
  refine wpAny_loadPart I.at_ (wpAny_pure ?_)
  rw [I.cls]
  refine wpAny_bind (L1.at ?_)
  show wpAny _ _ (Builtin.ObjectAttr.bindTo _ _ _ _) _ _ _
  unfold Builtin.ObjectAttr.bindTo
  refine wpAny_bind (wpAny_holding (wpAny_call (PySem.W.class_get (s := ⟨hh, g, dr, t, os⟩) (ox := ox) (od := none) X I hm ?_)))
  exact wpAny_pure h
theorem exc_class {K : PySem.W.Frag} {prog : Program} {w : World} {A : Around} {E : Value → Shared → Prop} {s : Shared} {x D : Addr} {ox : Obj} {Q : Option Value → Shared → Prop}
    (hga : PySem.W.findIn K (.ref D) "__getattribute__" = some (some (.builtin "BaseException.__getattribute__"))) (hgk : PySem.W.findIn K (.ref D) "__getattr__" = some none)
    (hdct : PySem.W.hasDictIn K D = true) (ha : PySem.W.findIn K (.ref D) "__class__" = some (some (.builtin "object.__class__")))
    (hn : PySem.W.specialIn K (.builtin "object.__class__") "__get__" = some (some (.builtin "getset_descriptor.__get__"))) (htk : PySem.W.takesIn K (.builtin "object.__class__") = some true) (hm : PySem.W.mroIn K D (.type "object") = some true) (hB : PySem.W.mroIn K D (.type "BaseException") = some true)
    (X : K.In s.heap) (I : PySem.W.InstAt s.heap x ox D none) (h : Q (some (.ref D)) { s with toks := s.toks + 1 }) : wpAny (model prog w) A (getAttr? (.ref x) "__class__") Q E s := by
  obtain ⟨hh, g, d, t, os⟩ := s
  have L0 := I.type (M := model prog w)
  have L1 := PySem.W.looks_findIn (M := model prog w) X hga
  have Lk := PySem.W.looks_findIn (M := model prog w) X hgk
  unfold getAttr? getAttrBy? getAttrBy
  refine wpAny_bind (wpAny_mkText (wpAny_bind (wpAny_attempt (wpAny_holding (wpAny_bind (L0.at (wpAny_bind (L1.at ?_))))))))
  show wpAny _ _ (getAttrByItsOwn _ _ _ _ _ _) _ _ _
  unfold getAttrByItsOwn hookBefore
  refine wpAny_bind (Lk.at ?_)
  refine wpAny_bind (wpAny_attempt (wpAny_holding ?_))
  show wpAny _ _ (boundAndCalled _ _ _) _ _ _
  unfold boundAndCalled
  rw [PySem.F.attrBase_ValueError.ga.bind]
  refine wpAny_bind (wpAny_pure (wpAny_call (exc_ga (s := ⟨hh, g, d, t + 1, os⟩) hdct ha hn htk hm hB X I ?_)))
  exact PySem.W.handed_on rfl (wpAny_pure h)
structure ExcCls (K : PySem.W.Frag) (C : Addr) : Prop where
  hga : PySem.W.findIn K (.ref C) "__getattribute__" = some (some (.builtin "BaseException.__getattribute__"))
  hgk : PySem.W.findIn K (.ref C) "__getattr__" = some none
  hdct : PySem.W.hasDictIn K C = true
  ha : PySem.W.findIn K (.ref C) "__class__" = some (some (.builtin "object.__class__"))
  hn : PySem.W.specialIn K (.builtin "object.__class__") "__get__" = some (some (.builtin "getset_descriptor.__get__"))
  htk : PySem.W.takesIn K (.builtin "object.__class__") = some true
  hm : PySem.W.mroIn K C (.type "object") = some true
  hB : PySem.W.mroIn K C (.type "BaseException") = some true
theorem kitx_exc {K : PySem.W.Frag} {a C : Addr} (W : ExcCls K C) : PySem.W.KitX K (.ref a) (.ref C) (excAt a C) where
  ty := fun M h _ ⟨o, vs, g, c, _⟩ => by rw [← c]; exact (PySem.W.Looks.ld g).andThen .now
  it := fun _ _ X _ => by
    obtain ⟨cdD, hcD, _⟩ := PySem.W.any_some W.hdct
    unfold PySem.W.clsIn at hcD
    split at hcD
    · rename_i c' d' cd' sl' ho
      intro A' Q' E' s' k q
      unfold isType loadHead
      exact wpAny_bind (wpAny_loadPart (k _ _ (X _ _ ho)) (wpAny_pure q))
    · cases hcD
  ne := fun h tp dd its n sl X htp => by
    obtain ⟨cdD, hcD, _⟩ := PySem.W.any_some W.hdct
    refine Bool.eq_false_iff.mpr fun q => ?_
    have e : C = tp := Value.ref.inj (beq_iff_eq.mp q)
    subst e
    unfold PySem.W.clsIn at hcD
    split at hcD
    · rename_i c' d' cd' sl' ho
      have z := (X _ _ ho).symm.trans htp
      cases z
    · cases hcD
  ca := fun X ⟨o, vs, g, c, d, dd⟩ k => exc_class W.hga W.hgk W.hdct W.ha W.hn W.htk W.hm W.hB X ⟨g, c, by unfold PySem.W.notCls; rw [dd], by rw [d]; trivial⟩ k
noncomputable def IsOk (K : PySem.W.Frag) (cv : Value) (b : Bool) : D → Prop
  | .exc n => ∀ C, PySem.W.nsIn K mainGlobals n = some (some (.ref C)) → ExcCls K C ∧ PySem.W.kitOne K (.ref C) cv = some b
  | d => PySem.W.kitOne K (.type (tyName d)) cv = some b
theorem isinst_d {X : Cx} {pins : List (Addr × Obj)} {σ : St} {H : Hp} {s : Shared} {A : Around} {E : Value → Shared → Prop} {Q : Value → Shared → Prop} {cv u : Value} {v : V} {d : D} {b : Bool} (I : Inv X pins σ H s) (p : Rep X.K H d v) (r : RelV v u) (ok : IsOk X.K cv b d)
    (h : ∀ tk, Q (.bool b) { s with toks := tk }) : wpAny (model X.prog X.w) A (call (.builtin "isinstance") [u, cv]) Q E s := by
  cases d with
  | non => rw [Rep] at p; subst p; exact isinst_ok I r .non ok h
  | bl k => rw [Rep] at p; subst p; exact isinst_ok I r (.bl k) ok h
  | int k => rw [Rep] at p; subst p; exact isinst_ok I r (.int k) ok h
  | str k => rw [Rep] at p; subst p; exact isinst_ok I r (.str k) ok h
  | tup ds =>
    obtain ⟨a, xs, rfl, hq, _⟩ := repT p
    cases r
    obtain ⟨its, _, ⟨o, g, c, _⟩, _⟩ := I.tuple hq
    exact PySem.W.kia_one PySem.W.kitx_tuple I.kIn ⟨o, g, c⟩ ok (fun z => nomatch z) h
  | lst ds =>
    obtain ⟨a, xs, rfl, hq, _⟩ := repL p
    cases r
    obtain ⟨its, _, ⟨o, _, g, c, _⟩, _⟩ := I.list hq
    exact PySem.W.kia_one PySem.W.kitx_list I.kIn ⟨o, g, c⟩ ok (fun z => nomatch z) h
  | exc n =>
    rw [Rep] at p
    obtain ⟨a, C, rfl, hC, hH⟩ := p
    cases r
    obtain ⟨W, ok⟩ := ok C hC
    exact PySem.W.kia_one (kitx_exc W) I.kIn (I.hok a _ hH).1 ok (fun z => nomatch z) h
theorem boot_isi : bootBuiltins "isinstance" = some (.builtin "isinstance") := by decide +kernel
noncomputable def isG (isF : D → Option Bool) (d : D) : Res D := match isF d with | some b => .ok (.bl b) | none => .stuck
section
variable {X : Cx} {e : Expr} {f : DS → Res D} {c : Str} {p cp pos : Pos} {cv : Value} {isF : D → Option Bool}
theorem pd_isinst (hI : ∀ d b, isF d = some b → IsOk X.K cv b d) (ha : PD X e f) (hc : ∀ (pins : List (Addr × Obj)) (σ : St) (H : Hp) (s : Shared) (E : Value → Shared → Prop) (Q : Value → Shared → Prop), Inv X pins σ H s → Q cv s → wpAny (model X.prog X.w) X.A (eval (.Name c cp) X.env) Q E s)
    (hg : Gl X "isinstance") (hm : X.mg "isinstance" = none) (he : starEach [e, .Name c cp] X.env = (false, eval e X.env) :: starEach [.Name c cp] X.env := by rfl) (he2 : starEach [.Name c cp] X.env = [(false, eval (.Name c cp) X.env)] := by rfl) :
    PD X (.Call (.Name "isinstance" p) [e, .Name c cp] [] pos) (fun δ => (f δ).bind (isG isF)) := by
  intro pins s σ G H δ I R hs
  try dsimp only at hs ⊢
  refine wpAny_Call_Name_kw (ld_blt I hg hm (u := .builtin "isinstance") boot_isi ?_ (by decide) (by decide))
  refine PyProof.Rows.callWith_builtin1 ?_ he (by rw [he2]; rfl)
  rw [he]
  show wpAny _ _ (spliced ((false, eval e X.env) :: backTo pos (starEach [.Name c cp] X.env))) _ _ s
  refine Calls.spliced_cons (ha.use I R (bind_l hs) (fun d u s1 v H1 q I1 r1 e1 b1 p1 => ?_) fun e s1 q => q.same fun x z => bind_x z)
  rw [he2]
  show wpAny _ _ (spliced ((false, eval (.Name c cp) X.env) :: backTo pos [])) _ _ s1
  refine Calls.spliced_cons (hc pins σ H1 s1 _ _ I1 (Calls.spliced_nil ?_))
  have h2 := bind_r hs q
  cases z : isF d with
  | none => exact (h2 (by unfold isG; rw [z])).elim
  | some b => exact isinst_d I1 p1 r1 (hI d b z) fun tk => ⟨.bl b, .bl b, H1, by rw [q, Res.bind_ok]; unfold isG; rw [z], I1.tok tk, rfl, e1, mkB⟩
theorem cls_blt {T : String} (hg : Gl X c) (hm : X.mg c = none) (hv : bootBuiltins c = some (.type T)) (hn : c ≠ "__name__" := by decide) (hd : (c == ("__debug__" : Str)) = false := by decide) (pins : List (Addr × Obj)) (σ : St) (H : Hp) (s : Shared) (E : Value → Shared → Prop) (Q : Value → Shared → Prop) (I : Inv X pins σ H s) (h : Q (.type T) s) :
    wpAny (model X.prog X.w) X.A (eval (.Name c cp) X.env) Q E s := ld_blt I hg hm hv h hn hd
end
end DL
set_option Elab.async false
set_option linter.all false
set_option maxRecDepth 100000
namespace DL
open PySem PySem.Spec PyProof.Rows L2
noncomputable def bools : List D → Option (List Bool)
  | [] => some []
  | .bl b :: ds => (bools ds).map (b :: ·)
  | _ => none
noncomputable def allG : List D → Res D
  | [.lst ds] => match bools ds with | some bs => .ok (.bl (bs.all id)) | none => .stuck
  | _ => .stuck
noncomputable def MtD (X : Cx) (id : String) (g : D → List D → Res D) : Prop :=
  ∀ (E : Value → Shared → Prop) (pins : List (Addr × Obj)) (s : Shared) (σ : St) (H : Hp) (x : V) (xs : List V) (v : Value) (us : List Value) (a : D) (ds : List D) (d : D), Inv X pins σ H s → RelV x v → Vals xs us → Rep X.K H a x → Reps X.K H ds xs → g a ds = .ok d →
    wpAny (model X.prog X.w) X.A (call (.builtin id) (v :: us)) (EPost X pins σ H (.ok d)) E s
noncomputable def tyD (T : String) : D → Prop
  | .str _ => T = "str"
  | .int _ => T = "int"
  | .lst _ => T = "list"
  | _ => False
section
variable {X : Cx} {o e : Expr} {es : List Expr} {fo : DS → Res D} {fs : DS → Res (List D)} {name : Str} {apos cpos : Pos} {T id : String} {g : D → List D → Res D}
theorem tyV_of {H : Hp} {d : D} {v : V} (ty : tyD T d) (p : Rep X.K H d v) : tyV X.K T v H := by
  cases d with
  | str z => rw [Rep] at p; subst p; exact ty
  | int z => rw [Rep] at p; subst p; exact ty
  | lst ds => obtain ⟨a, xs, rfl, hq, _⟩ := repL p; exact .inl ⟨ty, xs, hq⟩
  | _ => exact ty.elim
theorem pd_meth0 (pa : PlainAttrs T) (slot : Slot T name id) (hty : typeOf (.builtin id) = pure (.type "method_descriptor")) (hm : MtD X id g) (hne : ∀ d ds, NoErr (g d ds)) (hT : ∀ d ds r, g d ds = .ok r → tyD T d) (ho : PD X o fo)
    (hbase : attributeBase o name X.env (eval o X.env) = eval o X.env := by rfl) (hline : (apos.endLine == cpos.line) = true := by rfl) : PD X (.Call (.Attribute o name apos) [] [] cpos) (fun δ => (fo δ).bind fun d => g d []) := by
  intro pins s σ G H δ I R hs
  try dsimp only at hs ⊢
  refine wpAny_Call_method0_late hbase hline (ho.use I R (bind_l hs) (fun d u s1 v H1 q I1 r1 e1 b1 p1 => ?_) fun e s1 q => q.same fun x z => bind_x z)
  have h2 := bind_r hs q
  cases qg : g d [] with
  | stuck => exact (h2 qg).elim
  | err z => exact (hne d [] z qg).elim
  | ok r =>
    obtain ⟨h1, h3⟩ := tyV_is I1 r1 (tyV_of (hT d [] r qg) p1)
    exact ⟨T, id, pa, slot, hty, h1, h3, Calls.callWith_builtin rfl (PySem.evalArgs_none (thn (hm _ pins s1 σ H1 v [] u [] d [] r I1 r1 .nil p1 Reps.nil qg) fun w s2 p => p.from e1 (by rw [q, Res.bind_ok, qg])))⟩
end
noncomputable def bitsG : D → List D → Res D
  | .int i, [] => .ok (.int (intBits' i))
  | _, _ => .stuck
theorem md_bits {X : Cx} : MtD X "int.bit_length" bitsG := by
  intro E pins s σ H x xs v us a ds d I r1 r2 p1 p2 e
  unfold bitsG at e
  split at e
  · rename_i i
    cases e
    cases p2.nil_of
    cases r2
    rw [repI p1] at r1
    obtain ⟨t, rfl⟩ := r1
    exact PyProof.Rows.call_int_bit_length ⟨_, .int _, H, rfl, I.tok _, ⟨_, rfl⟩, Same.refl H, mkI⟩
  · cases e
theorem pd_bits {X : Cx} {o : Expr} {fo : DS → Res D} {apos cpos : Pos} (ho : PD X o fo) (hbase : attributeBase o "bit_length" X.env (eval o X.env) = eval o X.env := by rfl) (hline : (apos.endLine == cpos.line) = true := by rfl) :
    PD X (.Call (.Attribute o "bit_length" apos) [] [] cpos) (fun δ => (fo δ).bind fun d => bitsG d []) :=
  pd_meth0 PySem.F.plainAttrs_int PySem.F.slot_int_bit_length PySem.F.type_int_bit_length md_bits (fun d ds x => by unfold bitsG; split <;> (intro z; cases z)) (fun d ds r h => by
    unfold bitsG at h
    split at h
    · rfl
    · cases h) ho hbase hline
end DL
set_option Elab.async false
set_option linter.all false
set_option maxRecDepth 100000
namespace DL
open PySem PySem.Spec PyProof.Rows L2
noncomputable def bindF {α : Type} (f : DS → Res α) (g : α → Res D) : DS → Res D := fun δ => (f δ).bind g
noncomputable def bindL (f : DS → Res D) (g : D → Res (List D)) : DS → Res (List D) := fun δ => (f δ).bind g
noncomputable def bindT (f : DS → Res D) (g : D → Res Bool) : DS → Res Bool := fun δ => (f δ).bind g
noncomputable def notT (t : DS → Res Bool) : DS → Res Bool := fun δ => (t δ).bind fun c => .ok (!c)
noncomputable def tupF (f : DS → Res (List D)) : DS → Res D := fun δ => tupD (f δ)
noncomputable def lstF (f : DS → Res (List D)) : DS → Res D := fun δ => lstD (f δ)
noncomputable def negG : D → Res D
  | .int i => .ok (.int (-i))
  | _ => .stuck
noncomputable def negF (f : DS → Res D) : DS → Res D := fun δ => (f δ).bind negG
noncomputable def retD (f : DS → Res D) : DS → Out := fun δ => onD (f δ) δ Out.ret
noncomputable def ifS (t : DS → Res Bool) (a b : DS → Out) : DS → Out := fun δ => onT (t δ) δ fun k => if k = true then a δ else b δ
noncomputable def whileF (fuel : DS → Nat) (c : DS → Res Bool) (b : DS → Out) : DS → Out := fun δ => whileD c b (fuel δ) δ
noncomputable def tgtN (i : Nat) : TGD := fun d δ => some (δ.set i (some (.val d)))
noncomputable def forR (r : List D → Res (List D)) (t : TGD) (a : DS → Res (List D)) (b : DS → Out) : DS → Out := fun δ => onL ((a δ).bind r) fun ds => forD t b ds δ
theorem pd_negF {X : Cx} {a : Expr} {fa : DS → Res D} {pos : Pos} (ha : PD X a fa) : PD X (.UnaryOp .USub a pos) (negF fa) :=
  pd_un (g := negG) (fun E pins s σ H x v d r I r1 p1 e => by
    cases d with
    | int i =>
      simp only [negG, Res.ok.injEq] at e
      subst e
      exact wpAny_mono (un_neg (X := X.wish fun _ _ => False) pins s σ H x v (fun z H' => z = .int (-i) ∧ H' = H) (I.wish _) r1 ⟨i, repI p1, rfl, rfl⟩) (fun u s1 ⟨z, H1, I1, r2, e1, e2⟩ => by
        subst e1 e2
        exact ⟨_, _, _, rfl, I1.unwish, r2, Same.refl _, mkI⟩) fun _ _ z => z.elim
    | _ => simp [negG] at e) (fun x => by cases x <;> first | exact noErr_stuck | exact noErr_ok) ha
theorem keeps_name {m i : Nat} (h : i < m) : KeepsT m (tgtN i) := by
  intro d δ δ1 e
  simp only [tgtN, Option.some.injEq] at e
  subst e
  exact ⟨by simp, fun j hj => by rw [List.getElem?_set_ne (by omega)]⟩
theorem len_cons1 {f : DS → Res D} {δ : DS} {ds : List D} (h : consD f (fun _ => .ok []) δ = .ok ds) : ds.length ≤ sizeLine := by
  unfold consD at h
  cases q : f δ with
  | stuck => rw [q] at h; cases h
  | err x => rw [q] at h; cases h
  | ok d => rw [q] at h; cases h; show 1 ≤ sizeLine; decide
theorem relabel_no {scope : Scope} {env : Env} (hf : ∀ y ∈ scope.names, y.2 ≠ .free) : relabel scope env = scope := by
  unfold relabel
  have : (scope.names.map fun x => match x with | (n, k) => if (k == .free && env.scope.kind == .function && env.kindOf n == some .cell) = true then (n, NameKind.cell) else (n, k)) = scope.names := by
    refine map_eq_self fun x hx => ?_
    obtain ⟨n, k⟩ := x
    have : (k == NameKind.free) = false := by simpa using hf _ hx
    simp [this]
  show { scope with names := _ } = scope
  rw [this]
theorem around0 {X : Cx} {m : Nat} {N' : List Str} {scope : Scope} (hf : ∀ y ∈ scope.names, y.2 ≠ .free := by decide +kernel) (hc : ∀ y ∈ scope.names, y.2 ≠ .cell := by decide +kernel) (hk : scope.kind = .function := by rfl)
    (hn : ∀ x ∈ scope.names, x.2 = .local → scope.names.lookup x.1 = some .local := by decide +kernel) (hl : N'.length = m := by rfl) : Around' X m [] N' scope [] where
  clos := closureFor_none hf
  nocell := hc
  kind := hk
  names := hn
  sub := fun x c h => by simp at h
  has := fun x h => by
    exfalso
    rw [relabel_no hf] at h
    rcases h with h | h
    · exact hc _ (PySem.mem_of_lookup h) rfl
    · exact hf _ (PySem.mem_of_lookup h) rfl
  len := by simpa using hl
  free := fun j i h => by simp at h
end DL
set_option Elab.async false
set_option linter.all false
set_option maxRecDepth 100000
namespace DL
open PySem PySem.Spec PyProof.Rows L2
theorem mkS' {K : PySem.W.Frag} {H : Hp} {i : Str} : Rep K H (.str i) (.str i) := by rw [Rep]
noncomputable def intG : List D → Res D
  | [.int i] => .ok (.int i)
  | [.bl k] => .ok (.int (if k then 1 else 0))
  | [.str x] => if x.length ≤ 640 then (match PySem.intText? x with | some n => .ok (.int n) | none => .stuck) else .stuck
  | _ => .stuck
theorem ne_int (ds : List D) : NoErr (intG ds) := by
  unfold intG
  split <;> first | exact noErr_ok | exact noErr_stuck | skip
  refine noErr_ite ?_ noErr_stuck
  split <;> first | exact noErr_ok | exact noErr_stuck
section
variable {X : Cx}
theorem cd_int : CallD X (.type "int") intG := by
  intro E pins s σ H xs us ds d I r p e
  unfold intG at e
  split at e
  · rename_i i
    cases e
    obtain ⟨v, vs, rfl, p1, t⟩ := p.cons_of
    cases t.nil_of
    rw [repI p1] at r
    obtain ⟨u, rfl, t, rfl⟩ := vals1 r
    exact call_int_int ⟨_, .int i, H, rfl, I, ⟨_, rfl⟩, Same.refl H, mkI⟩
  · rename_i k
    cases e
    obtain ⟨v, vs, rfl, p1, t⟩ := p.cons_of
    cases t.nil_of
    rw [Rep] at p1
    subst p1
    obtain ⟨u, rfl, r1⟩ := vals1 r
    cases r1
    exact call_int_bool ⟨_, .int (if k then 1 else 0), H, rfl, I.tok _, ⟨_, rfl⟩, Same.refl H, mkI⟩
  · rename_i x
    split at e
    · rename_i hl
      split at e
      · rename_i n hn
        cases e
        obtain ⟨v, vs, rfl, p1, t⟩ := p.cons_of
        cases t.nil_of
        rw [repS p1] at r
        obtain ⟨u, rfl, t, rfl⟩ := vals1 r
        exact PySem.W.KIN.call_text hn hl ⟨_, .int n, H, rfl, I.tok _, ⟨_, rfl⟩, Same.refl H, mkI⟩
      · cases e
    · cases e
  · cases e
end
end DL
set_option Elab.async false
set_option linter.all false
set_option maxRecDepth 100000
namespace DL
open PySem PySem.Spec PyProof.Rows L2
noncomputable def thaw1 : SV → SV
  | .val d => .val d
  | .arg d => .val d
  | .own ds => .val (.lst ds)
noncomputable def thaw2 : SV → SV
  | .val d => .val d
  | .arg d => .val d
  | .own ds => .own ds
noncomputable def thaw (δ : DS) : DS := δ.map (Option.map thaw1)
noncomputable def thawO : Out → Out
  | .nxt δ => .nxt (δ.map (Option.map thaw2))
  | .brk δ => .brk (δ.map (Option.map thaw2))
  | .cnt δ => .cnt (δ.map (Option.map thaw2))
  | .ret d => .ret d
  | .err x δ => .err x δ
  | .stuck => .stuck
theorem RepSt.thaw {K : PySem.W.Frag} {G H : Hp} {σ : St} {δ : DS} (R : RepSt K G H σ δ) : RepSt K H H σ (thaw δ) where
  same := Same.refl H
  len := by unfold DL.thaw; rw [List.length_map]; exact R.len
  at_ := fun i sv h => by
    unfold DL.thaw at h
    rw [List.getElem?_map] at h
    cases z : δ[i]? with
    | none => rw [z] at h; cases h
    | some o =>
      cases o with
      | none => rw [z] at h; cases h
      | some sv0 =>
        rw [z] at h
        cases h
        obtain ⟨v, e1, e2⟩ := R.view z
        refine ⟨v, e1, ?_⟩
        cases sv0 <;> exact e2
  sep := fun i j ds es v _ h => by
    unfold DL.thaw at h
    rw [List.getElem?_map] at h
    cases z : δ[i]? with
    | none => rw [z] at h; cases h
    | some o =>
      cases o with
      | none => rw [z] at h; cases h
      | some sv0 => rw [z] at h; cases sv0 <;> cases h
theorem RepSt.thaw2 {K : PySem.W.Frag} {G G' H : Hp} {σ : St} {δ : DS} (R : RepSt K G' H σ δ) (e : Same G G') : RepSt K G H σ (δ.map (Option.map thaw2)) where
  same := e.trans R.same
  len := by rw [List.length_map]; exact R.len
  at_ := fun i sv h => by
    rw [List.getElem?_map] at h
    cases z : δ[i]? with
    | none => rw [z] at h; cases h
    | some o =>
      cases o with
      | none => rw [z] at h; cases h
      | some sv0 =>
        rw [z] at h
        cases h
        cases sv0 with
        | val d => exact R.at_ i _ z
        | arg d =>
          obtain ⟨v, e1, e2⟩ := R.at_ i _ z
          exact ⟨v, e1, Rep.mono R.same e2⟩
        | own ds =>
          obtain ⟨v, e1, a, xs, q1, q2, q3, q4⟩ := R.at_ i _ z
          exact ⟨v, e1, a, xs, q1, q2, q3, e.free q4⟩
  sep := fun i j ds es v hij h1 h2 h3 => by
    have get : ∀ (k : Nat) (fs : List D), (δ.map (Option.map DL.thaw2))[k]? = some (some (.own fs)) → δ[k]? = some (some (.own fs)) := fun k fs h => by
      rw [List.getElem?_map] at h
      cases z : δ[k]? with
      | none => rw [z] at h; cases h
      | some o =>
        cases o with
        | none => rw [z] at h; cases h
        | some sv0 =>
          rw [z] at h
          cases sv0 <;> cases h
          rfl
    exact R.sep i j ds es v hij (get i ds h1) (get j es h2) h3
theorem NOut.thaw {X : Cx} {G H : Hp} {o : Out} {E : Ends} (e : Same G H) (h : NOut X G H (thawO o) E) : NOut X H H o E := by
  cases o with
  | stuck => exact h
  | nxt δ => exact fun σ' H' t r => h σ' H' t (r.thaw2 e)
  | brk δ => exact fun σ' H' t r => h σ' H' t (r.thaw2 e)
  | cnt δ => exact fun σ' H' t r => h σ' H' t (r.thaw2 e)
  | ret d => exact fun v H' t g r => h v H' t (e.trans g) r
  | err x δ => exact h
theorem PID.pi {X : Cx} {tg iter : Expr} {f : DS → Res (List D)} (h : PID X tg iter f) : PI X.nox tg iter (fun σ H R => ∃ G δ ds, RepSt X.K G H σ δ ∧ f δ = .ok ds ∧ ∀ J H', Same H H' → Yields X.K J H' ds → R J H') := by
  intro pins s σ H R I ⟨G, δ, ds, RR, q, n⟩
  refine wpAny_mono (h pins s σ G H δ I.unwish RR (by rw [q]; intro z; cases z)) (fun v s1 p => ?_) fun e s1 p => ?_
  · refine wpAny_mono p (fun itv s2 ⟨ds', it, fp, tn, J, H', q1, q2, I2, T, t0, hf, e2, y⟩ => ?_) fun e s2 p => ?_
    · rw [q] at q1; cases q1
      exact ⟨it, fp, tn, J, H', q2, I2.wish _, T, t0, hf, n J H' e2 y⟩
    · rw [q] at p; exact p.none
  · rw [q] at p; exact p.none
noncomputable def forS (t : TGD) (fi : DS → Res (List D)) (b : DS → Out) : DS → Out := fun δ => onL (fi δ) fun ds => thawO (forD t b ds (thaw δ))
section
variable {X : Cx} {tg iter : Expr} {body : List Stmt} {t : TGD} {fb : DS → Out} {pos : Pos}
theorem yields_for {J : It} {ds : List D} {H0 : Hp} {E : Ends} (y : Yields X.K J H0 ds) {δ : DS} {σ : St} (R : RepSt X.K H0 H0 σ δ) (h : NOut X H0 H0 (forD t fb ds δ) E) :
    ∃ W : Nat → Nat → St → Hp → Prop, (∃ m, W 0 m σ H0) ∧ ∀ i m σ H, W i m σ H →
      (J.stop i H ∧ E.nx σ H) ∨ (J.go i H ∧ ∃ N : St → Hp → Prop, (∀ σ' H', N σ' H' → ∃ m', m' < m ∧ W (i + 1) m' σ' H') ∧ ∀ x H', J.yld i H x H' → gD X t x σ H' fun σ2 H2 => sD X fb { E with nx := N, ct := N, bk := E.nx } σ2 H2) := by
  refine ⟨fun i m σ H => i + m = ds.length ∧ ∃ δ', RepSt X.K H0 H σ δ' ∧ NOut X H0 H (forD t fb (ds.drop i) δ') E, ⟨ds.length, by omega, δ, R, by simpa using h⟩, ?_⟩
  rintro i m σ1 H1 ⟨hm, δ1, R1, h1⟩
  obtain ⟨y1, y2⟩ := y H1 R1.same
  by_cases hi : i < ds.length
  · right
    have hd : ds[i]? = some ds[i] := List.getElem?_eq_getElem hi
    obtain ⟨go, yl⟩ := y1 i ds[i] hd
    refine ⟨go, fun σ' H' => (i + 1) + (m - 1) = ds.length ∧ ∃ δ', RepSt X.K H0 H' σ' δ' ∧ NOut X H0 H' (forD t fb (ds.drop (i + 1)) δ') E, fun σ' H' n => ⟨m - 1, by omega, n⟩, fun x H' yx => ?_⟩
    obtain ⟨e, p⟩ := yl x H' yx
    rw [List.drop_eq_getElem_cons hi] at h1
    exact for_turn (R1.mono e) p (h1.tk e.tk) fun δ' σ' H'' _ r z => ⟨by omega, δ', r, z⟩
  · left
    have e : i = ds.length := by omega
    subst e
    rw [List.drop_eq_nil_of_le (Nat.le_refl _)] at h1
    exact ⟨y2, h1 σ1 H1 (TK.refl H1) R1⟩
theorem thawO_ne {o : Out} (h : ∀ x δ', o ≠ .err x δ') (x : Exn) (δ' : DS) : thawO o ≠ .err x δ' := by
  cases o with
  | err y δ => exact (h y δ rfl).elim
  | _ => intro z; cases z
theorem psd_for {fi : DS → Res (List D)} (hc : X.calm = true) (hi : PID X tg iter fi) (hg : PGD X tg t) (hb : PSDs X body fb) (hf : ∀ x, foldedSetIterable iter X.env x = pure x := by intro _; rfl) :
    PSD X (.For tg iter body [] pos) (forS t fi fb) := by
  refine psd_of (fun δ => onL_ne fun ds => thawO_ne (forD_ne t fb ds (thaw δ))) fun pins s σ H E I h => ?_
  obtain ⟨G, δ, R, h⟩ := h
  refine ps_for (X := X.nox) PassesOwn.never hc hi.pi hg.pg hb.ps hf pins s σ H E I ?_
  unfold forS at h
  cases q : fi δ with
  | stuck => simp only [q] at h; exact h.elim
  | err x => simp only [q] at h; exact h.elim
  | ok ds =>
    simp only [q] at h
    refine ⟨G, δ, ds, R, q, fun J H1 e1 y => ?_⟩
    have R1 := (R.mono e1)
    exact yields_for y R1.thaw (NOut.thaw R1.same (h.tk e1.tk))
end
end DL
set_option Elab.async false
set_option linter.all false
set_option maxRecDepth 100000
namespace DL
open PySem PySem.Spec PyProof.Rows L2
section
open HT
variable {prog : Program} {w : World} {A : Around} {E : Value → Shared → Prop} {s : Shared}
theorem whole_tup {t sl : Addr} {items : Array Value} {vl vu : Value} {lo hi : Option Int} {Q : Value → Shared → Prop} (ht : IsTup s.heap t items) (hs : s.heap.IsSliceOf sl vl vu .none) (pl : IsPart vl lo) (pu : IsPart vu hi)
    (hw : sIx items.size 0 lo = 0 ∧ sIx items.size items.size hi = items.size) (h : Q (.ref t) s) : wpAny (model prog w) A (getItem (.ref t) (.ref sl)) Q E s := by
  obtain ⟨os, hos, hcs, hds⟩ := id hs
  unfold getItem
  refine wpAny_holding (wpAny_bind (wpAny_sequenceKey ht.typeIs (by decide) ?_))
  refine wpAny_bind (wpAny_callSpecial?_slot (name := Str.ofString "__getitem__") ht.typeIs PyProof.Rows.slot_tuple_getitem (wpAny_call_entry PyProof.Rows.slot_tuple_getitem ht.typeIs entry_tuple_getitem ?_ (args_tuple_getitem _ _)))
  show wpAny _ _ (Builtin.Tuple.tupleItemsOf (.ref t) >>= _) _ _ s
  refine wpAny_bind (tupleItemsOf_ ht (wpAny_bind (wpAny_typeOf ⟨os, hos, hcs⟩ ?_)))
  rw [if_pos (by decide)]
  refine wpAny_bind (sliceApplied_gen hs pl pu ?_)
  obtain ⟨w1, w2⟩ := hw
  have hc : (((sIx items.size 0 lo : Nat) : Int) == 0 && (1 : Int) == 1 && (sIx items.size items.size hi - sIx items.size 0 lo) == items.size) = true := by
    rw [w1, w2]; simp
  show wpAny _ _ (if (((sIx items.size 0 lo : Nat) : Int) == 0 && (1 : Int) == 1 && (sIx items.size items.size hi - sIx items.size 0 lo) == items.size) = true then _ else _) _ _ s
  rw [if_pos hc]
  refine wpAny_bind (m := Builtin.Tuple.tupleIsExact _) (wpAny_bind (wpAny_typeOf ht.typeIs (wpAny_pure ?_)))
  rw [if_pos (by decide)]
  exact wpAny_bind (wpAny_rule (wpAny_pure ⟨_, rfl, wpAny_pure h⟩))
end
noncomputable def rSlW (K : PySem.W.Frag) : V → Option Int → Option Int → Hp → VK → Prop := fun x lo hi H Q => ∃ a xs, x = .ref a ∧ SqT K H a xs ∧ (HT.sIx xs.length 0 lo = 0 ∧ HT.sIx xs.length xs.length hi = xs.length) ∧ Q (.ref a) H
theorem sl_whole {X : Cx} : SlR X (rSlW X.K) := by
  intro pins s σ H x v vl vu lo hi sl Q I rx hs pl pu h
  obtain ⟨a, xs, rfl, hx, hw, q⟩ := h
  cases rx
  obtain ⟨its, r, ht, hz⟩ := I.tuple hx
  have hlen : its.toArray.size = xs.length := by rw [List.size_toArray]; exact r.length.symm
  exact ⟨"tuple", _, PyProof.Rows.slot_tuple_getitem.lookup, ht.typeIs, whole_tup ht hs pl pu (by rw [hlen]; exact hw) ⟨.ref a, H, I, rfl, q⟩⟩
noncomputable def OPost (X : Cx) (pins : List (Addr × Obj)) (σ : St) (H : Hp) (r : Res (Option Int)) (u : Value) (s1 : Shared) : Prop := ∃ o H1, r = .ok o ∧ Inv X pins σ H1 s1 ∧ IsPart u o ∧ Same H H1
noncomputable def POD (X : Cx) (e : Option Expr) (f : DS → Res (Option Int)) : Prop :=
  ∀ (pins : List (Addr × Obj)) (s : Shared) (σ : St) (G H : Hp) (δ : DS), Inv X pins σ H s → RepSt X.K G H σ δ → f δ ≠ .stuck →
    wpAny (model X.prog X.w) X.A (evalPart e X.env) (OPost X pins σ H (f δ)) (XPost X pins σ H s.heap (f δ)) s
noncomputable def partG : D → Res (Option Int)
  | .int i => .ok (some i)
  | _ => .stuck
noncomputable def noPart : DS → Res (Option Int) := fun _ => .ok none
noncomputable def partF (f : DS → Res D) : DS → Res (Option Int) := fun δ => (f δ).bind partG
noncomputable def cutL (ds : List D) (lo hi : Option Int) : List D := (ds.drop (HT.sIx ds.length 0 lo)).take (HT.sIx ds.length ds.length hi - HT.sIx ds.length 0 lo)
noncomputable def cutD (d : D) (lo hi : Option Int) : Res D := match d with
  | .str z => if z.length ≤ sizeLine then .ok (.str (Txt.slice z lo hi)) else .stuck
  | .lst ds => .ok (.lst (cutL ds lo hi))
  | .tup ds => .ok (.tup (cutL ds lo hi))
  | _ => .stuck
noncomputable def sliceF (fe : DS → Res D) (fl fu : DS → Res (Option Int)) : DS → Res D := fun δ => (fe δ).bind fun d => (fl δ).bind fun l => (fu δ).bind fun u => cutD d l u
theorem ne_cut (d : D) (lo hi : Option Int) : NoErr (cutD d lo hi) := by
  unfold cutD; split <;> first | exact noErr_ok | exact noErr_stuck | exact noErr_ite noErr_ok noErr_stuck
theorem Reps.take' {K : PySem.W.Frag} {H : Hp} : ∀ (n : Nat) {ds : List D} {vs : List V}, Reps K H ds vs → Reps K H (ds.take n) (vs.take n)
  | 0, _, _, _ => by simp only [List.take_zero]; exact Reps.nil
  | n + 1, [], _, h => by cases h.nil_of; exact Reps.nil
  | n + 1, d :: ds, _, h => by
    obtain ⟨v, vs, rfl, r, q⟩ := h.cons_of
    exact Reps.cons r (Reps.take' n q)
theorem Reps.cut {K : PySem.W.Frag} {H : Hp} {ds : List D} {vs : List V} (h : Reps K H ds vs) (lo hi : Option Int) : Reps K H (cutL ds lo hi) (cutV vs lo hi) := by
  unfold cutL cutV
  rw [h.length]
  exact Reps.take' _ (Reps.drop _ h)
section
variable {X : Cx} {e : Expr} {fe : DS → Res D} {lo hi : Option Expr} {fl fu : DS → Res (Option Int)} {pos p2 : Pos}
theorem pod_none : POD X none noPart := by
  intro pins s σ G H δ I R _
  rw [evalPart_none]
  exact wpAny_pure ⟨none, H, rfl, I, .none, Same.refl H⟩
theorem pod_some (h : PD X e fe) : POD X (some e) (partF fe) := by
  intro pins s σ G H δ I R hs
  unfold partF at hs ⊢
  rw [evalPart_some]
  refine h.use I R (bind_l hs) (fun d u s1 v H1 q I1 r1 e1 b1 p1 => ?_) fun e s1 q => q.same fun x z => bind_x z
  have h2 := bind_r hs q
  cases d with
  | int i =>
    rw [repI p1] at r1
    obtain ⟨t, rfl⟩ := r1
    exact ⟨some i, H1, by rw [q]; rfl, I1, .int i t, e1⟩
  | _ => exact (h2 rfl).elim
theorem POD.use {pins : List (Addr × Obj)} {s : Shared} {σ : St} {G H : Hp} {δ : DS} (h : POD X lo fl) (I : Inv X pins σ H s) (R : RepSt X.K G H σ δ) (hs : fl δ ≠ .stuck) {P E : Value → Shared → Prop}
    (k : ∀ o u s1 H1, fl δ = .ok o → Inv X pins σ H1 s1 → IsPart u o → Same H H1 → Back H s.heap s1.heap → P u s1)
    (kx : ∀ e s1, XPost X pins σ H s.heap (fl δ) e s1 → E e s1) : wpAny (model X.prog X.w) X.A (evalPart lo X.env) P E s := by
  refine wpAny_mono (h (pins ++ allP X H s.heap) s σ G H δ I.all R hs) (fun u s1 ⟨o, H1, q1, q2, q3, q4⟩ => k o u s1 H1 q1 q2.unpinned q3 q4 (I.backTo q2)) fun e s1 ⟨x, a, C, H1, q1, q2, q3, q4, q5, q6⟩ => kx e s1 ⟨x, a, C, H1, q1, q2, q3.unpinned, q4, q5, q6⟩
noncomputable def rSlS : V → Option Int → Option Int → Hp → VK → Prop := fun x lo hi H Q => ∃ z, x = .str z ∧ z.length ≤ sizeLine ∧ Q (.str (Txt.slice z lo hi)) H
theorem sl_str : SlR X rSlS := by
  intro pins s σ H x v vl vu lo hi sl Q I rx hs pl pu h
  obtain ⟨z, rfl, hz, q⟩ := h
  obtain ⟨t, rfl⟩ := rx
  refine ⟨"str", _, PySem.F.slot_str_getitem.lookup, typeIs_str _ _ _, ?_⟩
  have hl : ∃ l : Option (Int × Tok), vl = partValue l ∧ l.map (·.1) = lo := by
    cases pl with
    | none => exact ⟨none, rfl, rfl⟩
    | int i t => exact ⟨some (i, t), rfl, rfl⟩
  have hu : ∃ u : Option (Int × Tok), vu = partValue u ∧ u.map (·.1) = hi := by
    cases pu with
    | none => exact ⟨none, rfl, rfl⟩
    | int i t => exact ⟨some (i, t), rfl, rfl⟩
  obtain ⟨l, rfl, rfl⟩ := hl
  obtain ⟨u, rfl, rfl⟩ := hu
  refine wpAny_getItem_str_slice (l := l) (u := u) (st := none) hs rfl ?_
  exact post_val_or_str ⟨Nat.le_trans (Txt.slice_le z _ _) hz, fun t' k => ⟨.str _, H, I.tok _, ⟨_, rfl⟩, q⟩⟩
theorem cut_sl {H : Hp} {d r : D} {v : V} {lo hi : Option Int} (p : Rep X.K H d v) (e : cutD d lo hi = .ok r) : (fun x lo hi H Q => rSlS x lo hi H Q ∨ rSlL X.K x lo hi H Q ∨ rSlT X.K x lo hi H Q ∨ rSlW X.K x lo hi H Q) v lo hi H (fun z H' => Same H H' ∧ Rep X.K H' r z) := by
  unfold cutD at e
  split at e
  · rename_i z
    split at e
    · rename_i hz
      cases e
      exact .inl ⟨z, repS p, hz, Same.refl H, mkS'⟩
    · cases e
  · rename_i ds
    cases e
    obtain ⟨a, xs, rfl, hq, rr⟩ := repL p
    exact .inr (.inl ⟨a, xs, rfl, hq, fun p hp => ⟨same_upd hp _, mkL (SqL.of upd_same) ((rr.cut _ _).mono (same_upd hp _))⟩⟩)
  · rename_i ds
    cases e
    obtain ⟨a, xs, rfl, hq, rr⟩ := repT p
    by_cases hw : HT.sIx ds.length 0 lo = 0 ∧ HT.sIx ds.length ds.length hi = ds.length
    · have ec : cutL ds lo hi = ds := by unfold cutL; rw [hw.1, hw.2]; simp
      exact .inr (.inr (.inr ⟨a, xs, rfl, hq, by rw [rr.length]; exact hw, Same.refl H, by rw [ec]; exact mkT hq rr⟩))
    · exact .inr (.inr (.inl ⟨a, xs, rfl, hq, by rw [rr.length]; exact hw, fun p hp => ⟨same_upd hp _, mkT (SqT.of upd_same) ((rr.cut _ _).mono (same_upd hp _))⟩⟩))
  · cases e
theorem pd_slice (he : PD X e fe) (hl : POD X lo fl) (hu : POD X hi fu) : PD X (.Subscript e (.Slice lo hi none p2) pos) (sliceF fe fl fu) := by
  intro pins s σ G H δ I R hs
  unfold sliceF at hs ⊢
  refine Subscript_ (he.use I R (bind_l hs) (fun d v s1 x H1 q I1 r1 e1 b1 p1 => ?_) fun e s1 q => q.same fun x z => bind_x z)
  have h2 := bind_r hs q
  rw [q, Res.bind_ok]
  refine wpAny_Slice (hl.use I1 (R.mono e1) (bind_l h2) (fun l vl s2 H2 q2 I2 pl e2 b2 => ?_) fun e s2 p => p.back e1 b1 fun x z => bind_x z)
  have h3 := bind_r h2 q2
  rw [q2, Res.bind_ok]
  refine hu.use I2 ((R.mono e1).mono e2) (bind_l h3) (fun u vu s3 H3 q3 I3 pu e3 b3 => ?_) fun e s3 p => (p.back e2 b2 (r' := (fu δ).bind fun u => cutD d l u) fun x z => bind_x z).back e1 b1 fun x z => z
  have h4 := bind_r h3 q3
  rw [q3, Res.bind_ok, evalPart_none]
  refine wpAny_pure ?_
  have I4 : Inv X pins σ H3 { s3 with heap := s3.heap.push { cls := .type "slice", data := .fields #[vl, vu, .none] } } := I3.kept (t' := s3.toks) fun b ob q => Heap.get?_push_of_some _ q
  cases qg : cutD d l u with
  | stuck => exact (h4 qg).elim
  | err z => exact (ne_cut d l u z qg).elim
  | ok r =>
    obtain ⟨T, id, hT, ht, hg⟩ := (sl_str.or (sl_list.or (sl_tup.or sl_whole)) : SlR X.nox _) pins { s3 with heap := s3.heap.push { cls := .type "slice", data := .fields #[vl, vu, .none] } } σ H3 x v vl vu l u s3.heap.objs.size _ (I4.wish _) r1 (Heap.IsSliceOf.new ..) pl pu (cut_sl (X := X) ((p1.mono e2).mono e3) qg)
    show wpAny (model X.prog X.w) X.A (subscriptTail e (.Slice lo hi none p2) v (.ref s3.heap.objs.size)) _ _ { s3 with heap := s3.heap.push { cls := .type "slice", data := .fields #[vl, vu, .none] } }
    refine wpAny_mono (tail_any (ops := [.ref s3.heap.objs.size, v]) ht hT hg (by with_unfolding_all rfl)) (fun w s4 q4 => ?_) fun _ _ z => z.elim
    obtain ⟨z, H4, I5, r5, e5, p5⟩ := q4
    exact ⟨r, z, H4, rfl, I5.unwish, r5, ((e1.trans e2).trans e3).trans e5, p5⟩
end
end DL
set_option Elab.async false
set_option linter.all false
set_option maxRecDepth 100000
namespace DL
open PySem PySem.Spec PyProof.Rows L2
mutual
noncomputable def flatD : D → Bool
  | .tup ds => flatDs ds
  | .lst _ => false
  | _ => true
noncomputable def flatDs : List D → Bool
  | [] => true
  | d :: ds => flatD d && flatDs ds
end
mutual
theorem Rep.lset {K : PySem.W.Frag} {H : Hp} {a : Addr} {xs ys : List V} (hH : H a = some (.lst xs)) : ∀ {d : D} {v : V}, flatD d = true → Rep K H d v → Rep K (upd H a (.lst ys)) d v
  | .non, v, _, h => by rw [Rep] at h ⊢; exact h
  | .bl _, v, _, h => by rw [Rep] at h ⊢; exact h
  | .int _, v, _, h => by rw [Rep] at h ⊢; exact h
  | .str _, v, _, h => by rw [Rep] at h ⊢; exact h
  | .lst _, v, hf, _ => by rw [flatD] at hf; cases hf
  | .tup ds, v, hf, h => by
    obtain ⟨b, zs, rfl, hq, r⟩ := repT h
    rw [flatD] at hf
    refine mkT ?_ (Reps.lset hH hf r)
    rcases hq with (hq | ⟨o, hq⟩) | hq
    · exact .inl (.inl (by rw [upd_ne (fun z => by subst z; rw [hH] at hq; cases hq)]; exact hq))
    · exact .inl (.inr ⟨o, by rw [upd_ne (fun z => by subst z; rw [hH] at hq; cases hq)]; exact hq⟩)
    · exact .inr hq
  | .exc n, v, _, h => by
    rw [Rep] at h ⊢
    obtain ⟨b, C, rfl, hC, hb⟩ := h
    exact ⟨b, C, rfl, hC, by rw [upd_ne (fun z => by subst z; rw [hH] at hb; cases hb)]; exact hb⟩
theorem Reps.lset {K : PySem.W.Frag} {H : Hp} {a : Addr} {xs ys : List V} (hH : H a = some (.lst xs)) : ∀ {ds : List D} {vs : List V}, flatDs ds = true → Reps K H ds vs → Reps K (upd H a (.lst ys)) ds vs
  | [], _, _, h => by cases h.nil_of; exact Reps.nil
  | d :: ds, _, hf, h => by
    rw [flatDs, Bool.and_eq_true] at hf
    obtain ⟨v, vs, rfl, r, q⟩ := h.cons_of
    exact Reps.cons (Rep.lset hH hf.1 r) (Reps.lset hH hf.2 q)
end
noncomputable def keepSV : SV → Option SV
  | .val d => if flatD d = true then some (.val d) else none
  | .arg d => some (.arg d)
  | .own ds => if flatDs ds = true then some (.own ds) else none
noncomputable def appS (i : Nat) (ds : List D) (d : D) (δ : DS) : DS := (δ.map fun o => o.bind keepSV).set i (some (.own (ds ++ [d])))
theorem keep_get {δ : DS} {j : Nat} {sv : SV} (h : (δ.map fun o => o.bind keepSV)[j]? = some (some sv)) : ∃ sv0, δ[j]? = some (some sv0) ∧ keepSV sv0 = some sv := by
  rw [List.getElem?_map] at h
  cases z : δ[j]? with
  | none => rw [z] at h; cases h
  | some o =>
    cases o with
    | none => rw [z] at h; cases h
    | some sv0 => rw [z] at h; exact ⟨sv0, rfl, by simpa using h⟩
theorem keep_own {sv : SV} {ds : List D} (h : keepSV sv = some (.own ds)) : sv = .own ds ∧ flatDs ds = true := by
  cases sv with
  | val d => simp only [keepSV] at h; split at h <;> cases h
  | arg d => cases h
  | own es =>
    simp only [keepSV] at h
    split at h
    · rename_i c; cases h; exact ⟨rfl, c⟩
    · cases h
theorem RepSt.app {K : PySem.W.Frag} {G H : Hp} {σ : St} {δ : DS} {i : Nat} {ds : List D} {d : D} {a : Addr} {xs : List V} {v : V} (R : RepSt K G H σ δ) (hδ : δ[i]? = some (some (.own ds))) (hσ : σ[i]? = some (some (.ref a))) (hH : H a = some (.lst xs)) (r : Reps K H ds xs) (hG : G a = none) (hf : flatDs ds = true) (hd : flatD d = true) (p : Rep K H d v) :
    RepSt K G (upd H a (.lst (xs ++ [v]))) σ (appS i ds d δ) where
  same := fun b o e => by
    have hb : b ≠ a := fun z => by subst z; rw [hG] at e; cases e
    rw [upd_ne hb]; exact R.same b o e
  len := by unfold appS; rw [List.length_set, List.length_map]; exact R.len
  at_ := fun j sv h => by
    unfold appS at h
    have hl : i < δ.length := (List.getElem?_eq_some_iff.mp hδ).1
    by_cases hj : i = j
    · subst hj
      rw [List.getElem?_set_self (by rw [List.length_map]; exact hl)] at h
      cases h
      exact ⟨.ref a, hσ, a, xs ++ [v], rfl, upd_same, (Reps.lset hH hf r).append (Reps.cons (Rep.lset hH hd p) Reps.nil), hG⟩
    · rw [List.getElem?_set_ne hj] at h
      obtain ⟨sv0, q1, q2⟩ := keep_get h
      obtain ⟨u, e1, e2⟩ := R.at_ j sv0 q1
      refine ⟨u, e1, ?_⟩
      cases sv0 with
      | val d' =>
        simp only [keepSV] at q2
        split at q2
        · rename_i c; cases q2; exact Rep.lset hH c e2
        · cases q2
      | arg d' => cases q2; exact e2
      | own es =>
        simp only [keepSV] at q2
        split at q2
        · rename_i c
          cases q2
          obtain ⟨b, ys, rfl, w2, w3, w4⟩ := e2
          have hb : b ≠ a := fun z => by subst z; exact R.sep i j ds es (.ref b) hj hδ q1 hσ e1
          exact ⟨b, ys, rfl, by rw [upd_ne hb]; exact w2, Reps.lset hH c w3, w4⟩
        · cases q2
  sep := fun j k es fs u hjk h1 h2 h3 => by
    have get : ∀ (m : Nat) (gs : List D), (appS i ds d δ)[m]? = some (some (.own gs)) → ∃ gs', δ[m]? = some (some (.own gs')) := fun m gs h => by
      unfold appS at h
      by_cases hm : i = m
      · subst hm; exact ⟨ds, hδ⟩
      · rw [List.getElem?_set_ne hm] at h
        obtain ⟨sv0, q1, q2⟩ := keep_get h
        obtain ⟨rfl, _⟩ := keep_own q2
        exact ⟨gs, q1⟩
    obtain ⟨es', g1⟩ := get j es h1
    obtain ⟨fs', g2⟩ := get k fs h2
    exact R.sep j k es' fs' u hjk g1 g2 h3
section
variable {X : Cx} {e : Expr} {es : List Expr} {fe : DS → Res D} {fs : DS → Res (List D)} {x : Str} {pos pos' lp np apos cpos : Pos}
end
end DL
set_option Elab.async false
set_option linter.all false
set_option maxRecDepth 100000
namespace DL
open PySem PySem.Spec PyProof.Rows L2
section
variable {prog : Program} {w : World} {A : Around} {E : Value → Shared → Prop} {s : Shared} {I : Addr} {fp wr : List Addr} {G : Array GenState → Array GenState → Prop} {n : Nat} {P : Nat → Value → Prop} {St : Nat → Shared → Prop}
end
section
variable {prog : Program} {w : World} {A : Around} {E : Value → Shared → Prop} {s : Shared} {x : Str} {t : Tok} {Q : Value → Shared → Prop}
end
section
variable {X : Cx} {e : Expr} {fe : DS → Res D} {sep : Str} {p0 apos np rp cpos : Pos}
end
end DL
set_option Elab.async false
set_option linter.all false
set_option maxRecDepth 100000
namespace DL
open PySem PySem.Spec PyProof.Rows L2
noncomputable def closL (cells : List (Str × Addr)) : List (Str × NameKind) → List (Str × Addr) → List (Str × Addr)
  | [], acc => acc
  | y :: r, acc => if (y.2 == NameKind.free) = true then closL cells r ((y.1, (cells.lookup y.1).getD 0) :: acc) else closL cells r acc
theorem closure_is {scope : Scope} {env : Env} (h : ∀ y ∈ scope.names, y.2 = .free → ∃ c, env.cells.lookup y.1 = some c) : closureFor scope env = pure (closL env.cells scope.names []) := by
  unfold closureFor
  generalize scope.names = ns at h
  show (forIn ns ([] : List (Str × Addr)) _ >>= fun r => pure r) = _
  have key : ∀ (ns : List (Str × NameKind)) (acc : List (Str × Addr)), (∀ y ∈ ns, y.2 = .free → ∃ c, env.cells.lookup y.1 = some c) →
      (forIn ns acc (fun (x : Str × NameKind) (cs : List (Str × Addr)) => (match x with
        | (name, kind) => if (kind == NameKind.free) = true then do
            let c ← cellOf env name
            pure (ForInStep.yield ((name, c) :: cs))
          else pure (ForInStep.yield cs) : Sem _))) = pure (closL env.cells ns acc) := by
    intro ns
    induction ns with
    | nil => intro acc _; rfl
    | cons y r ih =>
      intro acc hy
      obtain ⟨n, k⟩ := y
      rw [List.forIn_cons]
      by_cases c : (k == NameKind.free) = true
      · obtain ⟨a, ha⟩ := hy (n, k) (by simp) (by simpa using c)
        have ha' : env.cells.lookup n = some a := ha
        simp only [c, if_true, closL, ha', Option.getD_some]
        have : cellOf env n = pure a := by unfold cellOf; rw [ha']
        rw [this]
        exact ih _ fun z hz => hy z (List.mem_cons_of_mem _ hz)
      · simp only [c, if_false, closL]
        exact ih _ fun z hz => hy z (List.mem_cons_of_mem _ hz)
  exact congrArg (fun z => z >>= fun r => pure r) (key ns [] h)
theorem closL_sub {cells : List (Str × Addr)} : ∀ (ns : List (Str × NameKind)) (acc : List (Str × Addr)), (∀ y ∈ ns, y.2 = .free → ∃ c, cells.lookup y.1 = some c) → (∀ x c, acc.lookup x = some c → cells.lookup x = some c) →
    ∀ x c, (closL cells ns acc).lookup x = some c → cells.lookup x = some c
  | [], acc, _, ha, x, c, h => ha x c h
  | y :: r, acc, hn, ha, x, c, h => by
    unfold closL at h
    split at h
    · rename_i q
      refine closL_sub r _ (fun z hz => hn z (List.mem_cons_of_mem _ hz)) (fun x' c' h' => ?_) x c h
      obtain ⟨a, e⟩ := hn y (by simp) (by simpa using q)
      rw [List.lookup_cons] at h'
      split at h'
      · rename_i q2
        have : x' = y.1 := by simpa using q2
        subst this
        rw [e] at h' ⊢
        simpa using h'
      · exact ha x' c' h'
    · exact closL_sub r _ (fun z hz => hn z (List.mem_cons_of_mem _ hz)) ha x c h
theorem closL_has {cells : List (Str × Addr)} {x : Str} : ∀ (ns : List (Str × NameKind)) (acc : List (Str × Addr)), ((x, NameKind.free) ∈ ns ∨ ∃ c, acc.lookup x = some c) → ∃ c, (closL cells ns acc).lookup x = some c
  | [], acc, h => by
    rcases h with h | h
    · cases h
    · exact h
  | y :: r, acc, h => by
    unfold closL
    split
    · rename_i q
      refine closL_has r _ ?_
      rcases h with h | ⟨c, h⟩
      · rcases List.mem_cons.mp h with z | z
        · subst z
          exact .inr ⟨(cells.lookup x).getD 0, by rw [List.lookup_cons]; simp⟩
        · exact .inl z
      · refine .inr ?_
        rw [List.lookup_cons]
        split
        · exact ⟨_, rfl⟩
        · exact ⟨c, h⟩
    · rename_i q
      refine closL_has r _ ?_
      rcases h with h | h
      · rcases List.mem_cons.mp h with z | z
        · subst z; exact (q rfl).elim
        · exact .inl z
      · exact .inr h
theorem lookup_map2 {f : Str × NameKind → Str × NameKind} (hf : ∀ y, (f y).1 = y.1) (x : Str) : ∀ (ns : List (Str × NameKind)), (ns.map f).lookup x = (ns.lookup x).map fun k => (f (x, k)).2
  | [] => rfl
  | y :: r => by
    obtain ⟨n, k⟩ := y
    rw [List.map_cons, show f (n, k) = (n, (f (n, k)).2) from Prod.ext (hf _) rfl, List.lookup_cons, List.lookup_cons, lookup_map2 hf x r]
    by_cases c : x = n
    · subst c; simp
    · have : (x == n) = false := by simpa using c
      simp [this]
theorem relabel_lookup {scope : Scope} {env : Env} (x : Str) : (relabel scope env).names.lookup x = (scope.names.lookup x).map fun k => if (k == .free && env.scope.kind == .function && env.kindOf x == some .cell) = true then NameKind.cell else k := by
  show List.lookup x (List.map _ scope.names) = _
  rw [lookup_map2 (fun y => by obtain ⟨n, k⟩ := y; dsimp only; split <;> rfl)]
  cases scope.names.lookup x with
  | none => rfl
  | some k =>
    simp only [Option.map_some]
    split <;> rfl
theorem aroundF {X : Cx} {m : Nat} {fr : List Nat} {N' : List Str} {scope : Scope} {n : Nat} (sc : Scope) (N : List Str) (hsc : X.env.scope = sc) (hcl : X.env.cells = cellsFrom n sc.names []) (hN : X.N = N)
    (hf : ∀ y ∈ scope.names, y.2 = .free → sc.names.lookup y.1 = some .cell) (hc : ∀ y ∈ scope.names, y.2 ≠ .cell) (hk : scope.kind = .function) (hks : sc.kind = .function)
    (hn : ∀ x ∈ scope.names, x.2 = .local → scope.names.lookup x.1 = some .local) (hl : N'.length = m + fr.length)
    (hfr : ∀ j, j < fr.length → ∃ x, N'[m + j]? = some x ∧ N[fr.getD j 0]? = some x ∧ scope.names.lookup x = some .free ∧ sc.names.lookup x = some .cell) : Around' X m fr N' scope (closL X.env.cells scope.names []) := by
  have hs : ∀ y ∈ scope.names, y.2 = .free → ∃ c, X.env.cells.lookup y.1 = some c := fun y hy e => by
    rw [hcl]; exact cell_has (hf y hy e)
  have hfree : ∀ x k, scope.names.lookup x = some k → k ≠ .cell := fun x k h => hc _ (PySem.mem_of_lookup h)
  refine { clos := closure_is hs, nocell := hc, kind := hk, names := hn, sub := closL_sub _ _ hs (fun x c h => by simp at h), has := fun x h => ?_, len := hl, free := fun j i h => ?_ }
  · rw [relabel_lookup] at h
    cases q : scope.names.lookup x with
    | none => rw [q] at h; rcases h with h | h <;> cases h
    | some k =>
      rw [q] at h
      have : k = .free := by
        have h2 := hfree x k q
        cases k <;> first | rfl | exact (h2 rfl).elim | (rcases h with h | h <;> simp at h)
      subst this
      exact closL_has _ _ (.inl (PySem.mem_of_lookup q))
  · have hj : j < fr.length := by
      rcases Nat.lt_or_ge j fr.length with z | z
      · exact z
      · rw [List.getElem?_eq_none z] at h; cases h
    obtain ⟨x, e1, e2, e3, e4⟩ := hfr j hj
    have hi : fr.getD j 0 = i := by rw [List.getD_eq_getElem?_getD, h]; rfl
    rw [hi] at e2
    obtain ⟨c, e5⟩ := closL_has (cells := X.env.cells) scope.names [] (.inl (PySem.mem_of_lookup e3))
    refine ⟨x, c, e1, by rw [hN]; exact e2, by rw [hsc]; exact .inr (.inl e4), .inl (by unfold Env.kindOf; rw [hsc]; exact e4), e5, .inl ?_⟩
    show (relabel scope X.env).names.lookup x = _
    rw [relabel_lookup, e3]
    have : X.env.kindOf x = some .cell := by unfold Env.kindOf; rw [hsc]; exact e4
    simp [this, hsc, hks]
noncomputable def frOk (sc scope : Scope) (N N' : List Str) (m : Nat) (fr : List Nat) : Bool :=
  scope.names.all (fun y => decide (y.2 ≠ .cell) && (!(decide (y.2 = .free)) || decide (sc.names.lookup y.1 = some .cell)) && (!(decide (y.2 = .local)) || decide (scope.names.lookup y.1 = some .local))) &&
  decide (N'.length = m + fr.length) && (List.range fr.length).all fun j => match N'[m + j]? with
    | some x => decide (N[fr.getD j 0]? = some x) && decide (scope.names.lookup x = some .free) && decide (sc.names.lookup x = some .cell)
    | none => false
theorem aroundB {X : Cx} {m : Nat} {fr : List Nat} {N' : List Str} {scope : Scope} {n : Nat} (sc : Scope) (N : List Str) (hsc : X.env.scope = sc) (hcl : X.env.cells = cellsFrom n sc.names []) (hN : X.N = N) (hk : scope.kind = .function) (hks : sc.kind = .function)
    (h : frOk sc scope N N' m fr = true) : Around' X m fr N' scope (closL X.env.cells scope.names []) := by
  unfold frOk at h
  simp only [Bool.and_eq_true, List.all_eq_true, decide_eq_true_eq] at h
  obtain ⟨⟨h1, h2⟩, h3⟩ := h
  refine aroundF sc N hsc hcl hN (fun y hy e => ?_) (fun y hy => (h1 y hy).1.1) hk hks (fun y hy e => ?_) h2 fun j hj => ?_
  · have := (h1 y hy).1.2
    simpa [e] using this
  · have := (h1 y hy).2
    simpa [e] using this
  · have := h3 j (by simpa using hj)
    split at this
    · rename_i x q
      simp only [Bool.and_eq_true, decide_eq_true_eq] at this
      exact ⟨x, q, this.1.1, this.1.2, this.2⟩
    · cases this
end DL
set_option Elab.async false
set_option linter.all false
set_option maxRecDepth 100000
namespace DL
open PySem PySem.Spec PyProof.Rows L2
theorem yields_range {K : PySem.W.Frag} {H : Hp} {lo : Int} {n : Nat} : Yields K (Itr lo n) H (rangeD lo n) := by
  intro H' e
  refine ⟨fun i d hd => ?_, by rw [rangeD_length]; exact Nat.le_refl _⟩
  have hi : i < n := by
    rcases Nat.lt_or_ge i (rangeD lo n).length with z | z
    · rwa [rangeD_length] at z
    · rw [List.getElem?_eq_none z] at hd; cases hd
  refine ⟨hi, fun x H'' y => ?_⟩
  obtain ⟨rfl, rfl⟩ := y
  have e1 : (rangeD lo n)[i]? = some (.int (lo + i)) := by
    have := rangeD_drop lo n i hi
    have h2 : ((rangeD lo n).drop i)[0]? = some (.int (lo + i)) := by rw [this]; rfl
    simpa using h2
  rw [e1] at hd
  cases hd
  exact ⟨Same.refl _, mkI⟩
theorem range_ip {X : Cx} {tg : Expr} {pins : List (Addr × Obj)} {σ : St} {H H1 : Hp} {lo : Int} {n : Nat} {r : Res (List D)} (e : Same H H1) (hr : r = .ok (rangeD lo n)) {itv : Value} {s2 : Shared} (p : PIE X pins σ tg (fun J H' => J = Itr lo n ∧ H' = H1) itv s2) : IPost X pins σ H tg r itv s2 := by
  obtain ⟨it, fp, tn, J, H', q1, q2, q3, q4, q5, rfl, rfl⟩ := p
  exact ⟨_, it, fp, tn, _, _, hr, q1, q2, q3, q4, q5, e, yields_range⟩
theorem pid_range1 {X : Cx} {tg a : Expr} {fa : DS → Res (List D)} {p pos : Pos} (hg : Gl X "range") (hm : X.mg "range" = none) (ha : PAD X [a] fa) (hs : starEach [a] X.env = [(false, eval a X.env)] := by rfl) :
    PID X tg (.Call (.Name "range" p) [a] [] pos) (fun δ => (fa δ).bind rng1) := by
  intro pins s σ G H δ I R hn
  try dsimp only at hn ⊢
  refine Call_ (ld_blt I hg hm boot_range (PyProof.Rows.callWith_type1 (ha.use I R (bind_l hn) (fun ds us s1 vs H1 q I1 r1 e1 b1 p1 => ?_) fun e s1 q => q.same fun x z => bind_x z) hs rfl))
  have h2 := bind_r hn q
  unfold rng1 at h2
  split at h2
  · rename_i j
    obtain ⟨v, ws, rfl, w1, w2⟩ := p1.cons_of
    cases w2.nil_of
    cases repI w1
    split at h2
    · rename_i hj
      cases r1 with
      | cons r rr =>
        cases rr
        obtain ⟨t, rfl⟩ := r
        refine call_range_1 ?_
        refine wpAny_mono (range_it (R := fun J H' => J = Itr 0 j.toNat ∧ H' = H1) I1 (by omega) (by omega) hj.1 hj.2 ⟨by simp, rfl⟩) (fun itv s2 z => range_ip e1 (by rw [q, Res.bind_ok]; unfold rng1; simp only [hj, and_self, if_true]) z) fun _ _ z => z
    · exact (h2 rfl).elim
  · exact (h2 rfl).elim
noncomputable def bindRg (f : DS → Res (List D)) (g : List D → Res (List D)) : DS → Res (List D) := fun δ => (f δ).bind g
noncomputable def tupleG : List D → Res D
  | [.lst ds] => .ok (.tup ds)
  | [.tup ds] => .ok (.tup ds)
  | _ => .stuck
theorem ne_tupleG (ds : List D) : NoErr (tupleG ds) := by
  unfold tupleG
  split <;> first | exact noErr_ok | exact noErr_stuck
theorem call_tuple' {X : Cx} (E : Value → Shared → Prop) : CallR (X.wish E) (.type "tuple") (fun xs H Q => ∃ p ys, xs = [.ref p] ∧ ((SqL X.K H p ys ∧ ∀ l, H l = none → Q (.ref l) (upd H l (.tup ys))) ∨ (SqT X.K H p ys ∧ Q (.ref p) H))) := call_tuple_of
theorem cd_tuple {X : Cx} : CallD X (.type "tuple") tupleG := .of call_tuple' fun H xs ds d Q r e q => by
  unfold tupleG at e
  split at e
  · rename_i es
    cases e
    obtain ⟨v, vs, rfl, p1, t⟩ := r.cons_of
    cases t.nil_of
    obtain ⟨a, ys, rfl, w1, w2⟩ := repL p1
    exact ⟨a, ys, rfl, .inl ⟨w1, fun l hl => q _ _ (same_upd hl _) (mkT (SqT.of upd_same) (w2.mono (same_upd hl _)))⟩⟩
  · rename_i es
    cases e
    obtain ⟨v, vs, rfl, p1, t⟩ := r.cons_of
    cases t.nil_of
    obtain ⟨a, ys, rfl, w1, w2⟩ := repT p1
    exact ⟨a, ys, rfl, .inr ⟨w1, q _ _ (Same.refl H) (mkT w1 w2)⟩⟩
  · cases e
end DL
set_option Elab.async false
set_option linter.all false
set_option maxRecDepth 100000
namespace DL
open PySem PySem.Spec PyProof.Rows L2
section
variable {prog : Program} {w : World} {A : Around} {E : Value → Shared → Prop} {s : Shared}
theorem nextOf_tuple_item {it t : Addr} {i : Nat} {items : Array Value} {x : Value} {Q : Value → Shared → Prop} (hi : s.heap.IsTupleIter it t i) (ht : s.heap.IsTuple t items) (hx : items[i]? = some x)
    (h : ∀ h' : Heap, h'.IsTupleIter it t (i + 1) → Heap.SameBut it s.heap h' → Q x { s with heap := h' }) : wpAny (model prog w) A (Builtin.SmallTypes.nextOf (.ref it)) Q E s := by
  unfold Builtin.SmallTypes.nextOf
  refine wpAny_bind (wpAny_callSpecial?_slot hi.typeIs slot_tupleiter_next ?_)
  refine wpAny_call (codeAny_call_builtin slot_tupleiter_next.plain entry_tupleiter_next (slot_tupleiter_next.check _ _ _ _ _ _ _ _ hi.typeIs (args_tupleiter_next _) ?_))
  obtain ⟨o, g, hc, hd⟩ := id hi
  obtain ⟨ot, gt, htc, n, htd⟩ := id ht
  refine wpAny_bind (m := slotArgs _ _ _) (wpAny_pure ?_)
  refine wpAny_bind (m := field _ _) (wpAny_field g hd rfl ?_)
  refine wpAny_bind (m := field _ _) (wpAny_field g hd rfl ?_)
  refine wpAny_bind (m := seqItems? _) (wpAny_seqItems gt htd ?_)
  simp only [Int.toNat_natCast, hx]
  refine wpAny_bind (wpAny_setField g hd (show 1 < 2 by decide) (wpAny_pure ?_))
  have d2 := Obj.data_mapFields hd (fun v => v.setIfInBounds 1 (rawInt ((i : Int) + 1)))
  have g2 := Heap.get?_update_self (Obj.mapFields fun v => v.setIfInBounds 1 (rawInt ((i : Int) + 1))) g (Obj.isFreed_of_fields d2)
  exact wpAny_pure (h _ ⟨_, g2, (by unfold Obj.mapFields; split <;> exact hc), d2⟩ (Heap.SameBut.update _ _ _))
theorem stop_raise {α : Type} {Q : α → Shared → Prop} (hh : A.handled = none) (h : ∀ (h' : Heap) (e : Addr), (∀ b o, s.heap.get? b = some o → h'.get? b = some o) → (∃ o, h'.get? e = some o ∧ o.cls = .type "StopIteration") → E (.ref e) { s with heap := h' }) :
    wpAny (model prog w) A (Builtin.SmallTypes.stopIteration : Sem α) Q E s := by
  unfold Builtin.SmallTypes.stopIteration
  refine wpAny_bind (m := newExc _ _) ?_
  rw [newExc.eq_1]
  refine wpAny_bind (wpAny_newTuple ?_ (by decide))
  rw [firstArgMember.eq_1]
  refine wpAny_bind (wpAny_bind (wpAny_pure (wpAny_pure ?_)))
  refine wpAny_newObj_type ?_
  refine wpAny_raiseNew_none hh (h _ _ (fun b o e => Heap.get?_push_of_some _ (Heap.get?_push_of_some _ e)) ⟨_, Heap.get?_push_size _ rfl, rfl⟩)
theorem nextOf_tuple_end {it t : Addr} {i : Nat} {items : Array Value} {Q : Value → Shared → Prop} (hh : A.handled = none) (hi : s.heap.IsTupleIter it t i) (ht : s.heap.IsTuple t items) (hx : items[i]? = none)
    (h : ∀ (h' : Heap) (e : Addr), Heap.ExtBut it s.heap h' → (∃ o, h'.get? e = some o ∧ o.cls = .type "StopIteration") → E (.ref e) { s with heap := h' }) : wpAny (model prog w) A (Builtin.SmallTypes.nextOf (.ref it)) Q E s := by
  unfold Builtin.SmallTypes.nextOf
  refine wpAny_bind (wpAny_callSpecial?_slot hi.typeIs slot_tupleiter_next ?_)
  refine wpAny_call (codeAny_call_builtin slot_tupleiter_next.plain entry_tupleiter_next (slot_tupleiter_next.check _ _ _ _ _ _ _ _ hi.typeIs (args_tupleiter_next _) ?_))
  obtain ⟨o, g, hc, hd⟩ := id hi
  obtain ⟨ot, gt, htc, n, htd⟩ := id ht
  refine wpAny_bind (m := slotArgs _ _ _) (wpAny_pure ?_)
  refine wpAny_bind (m := field _ _) (wpAny_field g hd rfl ?_)
  refine wpAny_bind (m := field _ _) (wpAny_field g hd rfl ?_)
  refine wpAny_bind (m := seqItems? _) (wpAny_seqItems gt htd ?_)
  simp only [Int.toNat_natCast, hx]
  refine wpAny_bind (wpAny_rule (wpAny_bind (wpAny_setField g hd (show 0 < 2 by decide) ?_)))
  refine stop_raise hh fun h' e kp ex => h h' e (fun b o' hb e' => kp b o' ?_) ex
  rw [Heap.get?_update_other _ _ (Ne.symm hb)]; exact e'
structure ZipT (h : Heap) (z TI TO i1 i2 t1 t2 : Addr) (f0 : Value) (i : Nat) : Prop where
  zip : IsZip h z TI TO f0
  ti : IsPair h TI (.ref i1) (.ref i2)
  to : ∃ a b, IsPair h TO a b
  j1 : h.IsTupleIter i1 t1 i
  j2 : h.IsTupleIter i2 t2 i
theorem zip_item {z TI TO i1 i2 t1 t2 : Addr} {i : Nat} {xs ys : Array Value} {x y : Value} {Q : Option Value → Shared → Prop} (ap : List.Nodup [z, TI, TO, i1, i2]) (n1 : t1 ∉ [z, TI, TO, i1, i2]) (n2 : t2 ∉ [z, TI, TO, i1, i2])
    (Z : ZipT s.heap z TI TO i1 i2 t1 t2 .none i) (h1 : s.heap.IsTuple t1 xs) (h2 : s.heap.IsTuple t2 ys) (hx : xs[i]? = some x) (hy : ys[i]? = some y)
    (hQ : ∀ h' : Heap, ZipT h' z TI TO i1 i2 t1 t2 (rawInt (s.heap.objs.size : Nat)) (i + 1) → IsPair h' s.heap.objs.size x y → (∀ b o, b ∉ [z, TI, TO, i1, i2] → s.heap.get? b = some o → h'.get? b = some o) → Q (some (.ref s.heap.objs.size)) { s with heap := h' }) :
    wpAny (model prog w) A (pyNext (.ref z)) Q E s := by
  obtain ⟨gz, gti, ⟨a, b, gto⟩, j1, j2⟩ := Z
  have tz : s.TypeIs (.ref z) "zip" := ⟨_, gz, rfl⟩
  unfold pyNext
  refine wpAny_bind (wpAny_attempt ?_)
  refine wpAny_callSpecial?_slot tz F.slot_zip_next ?_
  refine wpAny_call (codeAny_call_builtin F.slot_zip_next.plain F.entry_zip_next (F.slot_zip_next.check _ _ _ _ _ _ _ _ tz (F.args_zip_next_1 _) ?_))
  unfold Builtin.«zip.__next__»
  refine wpAny_bind (m := slotArgs _ _ _) (wpAny_pure ?_)
  refine wpAny_bind (m := field _ _) (wpAny_field gz rfl rfl ?_)
  refine wpAny_bind (m := field _ _) (wpAny_field gz rfl rfl ?_)
  refine wpAny_bind (m := seqItems? _) (wpAny_seqItems gti rfl ?_)
  dsimp only
  refine wpAny_bind (m := Builtin.SmallTypes.ownedTupleIsFree _) ?_
  unfold Builtin.SmallTypes.ownedTupleIsFree
  refine wpAny_bind (m := field _ _) (wpAny_field gz rfl rfl ?_)
  refine wpAny_pure ?_
  rw [if_pos rfl]
  refine wpAny_bind (wpAny_rule (wpAny_bind (m := field _ _) (wpAny_field gz rfl rfl ?_)))
  try dsimp only
  refine wpAny_bind (wpAny_setField gz rfl (show 0 < 5 by decide) ?_)
  have hst : (#[Value.none, Value.bool false, Value.bool false, Value.ref TI, Value.ref TO][2] == Value.bool true) = false := rfl
  have dz0 := Obj.data_mapFields (o := { cls := Value.type "zip", data := Data.fields #[Value.none, Value.bool false, Value.bool false, Value.ref TI, Value.ref TO] }) rfl (fun v => v.setIfInBounds 0 Value.ellipsis)
  have gz0 := Heap.get?_update_self (Obj.mapFields fun v => v.setIfInBounds 0 Value.ellipsis) gz (Obj.isFreed_of_fields dz0)
  have sb0 := Heap.SameBut.update s.heap z (Obj.mapFields fun v => v.setIfInBounds 0 Value.ellipsis)
  generalize s.heap.update z (Obj.mapFields fun v => v.setIfInBounds 0 Value.ellipsis) = h0 at gz0 sb0 ⊢
  simp only [List.nodup_cons, List.mem_cons, List.not_mem_nil, or_false, not_or, List.nodup_nil, and_true, not_false_eq_true] at ap n1 n2
  obtain ⟨⟨az1, az2, az3, az4⟩, ⟨ai1, ai2, ai3⟩, ⟨ao1, ao2⟩, a12⟩ := ap
  obtain ⟨m1, m2, m3, m4, m5⟩ := n1
  obtain ⟨q1, q2, q3, q4, q5⟩ := n2
  have k0 : ∀ b, b ≠ z → h0.get? b = s.heap.get? b := sb0.2
  have mvT : ∀ {h h' : Heap} {c t : Addr} {xs : Array Value}, (∀ b, b ≠ c → h'.get? b = h.get? b) → t ≠ c → h.IsTuple t xs → h'.IsTuple t xs := fun k n ⟨o, g, r⟩ => ⟨o, (k _ n).trans g, r⟩
  have mvI : ∀ {h h' : Heap} {c t j : Addr} {n : Nat}, (∀ b, b ≠ c → h'.get? b = h.get? b) → j ≠ c → h.IsTupleIter j t n → h'.IsTupleIter j t n := fun k n ⟨o, g, r⟩ => ⟨o, (k _ n).trans g, r⟩
  simp only [show [Value.ref i1, Value.ref i2].zipIdx = [(Value.ref i1, 0), (Value.ref i2, 1)] from rfl, List.forIn_cons, hst]
  refine wpAny_bind (wpAny_bind ?_)
  refine wpAny_bind (wpAny_onRaise ?_)
  refine wpAny_bind (m := Builtin.SmallTypes.nextOf (.ref i1)) (nextOf_tuple_item (mvI k0 (Ne.symm az3) j1) (mvT k0 m1 h1) hx fun h1' ji1 sb1 => ?_)
  have k1 : ∀ b, b ≠ i1 → h1'.get? b = h0.get? b := sb1.2
  refine wpAny_pure ?_
  have gto1 : h1'.get? TO = some { cls := Value.type "tuple", data := Data.seq #[a, b] } := (k1 _ ao1).trans ((k0 _ (Ne.symm az2)).trans gto)
  refine wpAny_bind (wpAny_seqItems gto1 rfl ?_)
  refine wpAny_bind (wpAny_updateSeq gto1 rfl ?_ (show 2 ≤ sizeLine by decide) (show 2 ≤ sizeLine + 1 by decide))
  have gto2 : (h1'.update TO (Obj.mapSeq fun v => v.setIfInBounds 0 x)).get? TO = some { cls := Value.type "tuple", data := Data.seq #[x, b] } := (Heap.get?_update_self _ gto1 rfl).trans rfl
  have k2 : ∀ b, b ≠ TO → (h1'.update TO (Obj.mapSeq fun v => v.setIfInBounds 0 x)).get? b = h1'.get? b := (Heap.SameBut.update _ _ _).2
  have z2 : (h1'.update TO (Obj.mapSeq fun v => v.setIfInBounds 0 x)).objs.size = h1'.objs.size := (Heap.SameBut.update _ _ _).1
  dsimp only
  generalize h1'.update TO (Obj.mapSeq fun v => v.setIfInBounds 0 x) = h2' at gto2 k2 z2 ⊢
  refine wpAny_bind (wpAny_letGo (wpAny_pure ?_))
  refine wpAny_bind (wpAny_bind (wpAny_onRaise ?_))
  refine wpAny_bind (m := Builtin.SmallTypes.nextOf (.ref i2)) (nextOf_tuple_item (mvI k2 (Ne.symm ao2) (mvI k1 (Ne.symm a12) (mvI k0 (Ne.symm az4) j2))) (mvT k2 q3 (mvT k1 q4 (mvT k0 q1 h2))) hy fun h3' ji2 sb3 => ?_)
  have k3 : ∀ b, b ≠ i2 → h3'.get? b = h2'.get? b := sb3.2
  refine wpAny_pure ?_
  have gto3 : h3'.get? TO = some { cls := Value.type "tuple", data := Data.seq #[x, b] } := (k3 _ ao2).trans gto2
  refine wpAny_bind (wpAny_seqItems gto3 rfl ?_)
  refine wpAny_bind (wpAny_updateSeq gto3 rfl ?_ (show 2 ≤ sizeLine by decide) (show 2 ≤ sizeLine + 1 by decide))
  have gto4 : (h3'.update TO (Obj.mapSeq fun v => v.setIfInBounds 1 y)).get? TO = some { cls := Value.type "tuple", data := Data.seq #[x, y] } := (Heap.get?_update_self _ gto3 rfl).trans rfl
  have k4 : ∀ b, b ≠ TO → (h3'.update TO (Obj.mapSeq fun v => v.setIfInBounds 1 y)).get? b = h3'.get? b := (Heap.SameBut.update _ _ _).2
  have z4 : (h3'.update TO (Obj.mapSeq fun v => v.setIfInBounds 1 y)).objs.size = h3'.objs.size := (Heap.SameBut.update _ _ _).1
  dsimp only
  generalize h3'.update TO (Obj.mapSeq fun v => v.setIfInBounds 1 y) = h4' at gto4 k4 z4 ⊢
  refine wpAny_bind (wpAny_letGo (wpAny_pure ?_))
  refine wpAny_pure ?_
  refine wpAny_bind (wpAny_seqItems gto4 rfl ?_)
  have hT : h4'.objs.size = s.heap.objs.size := by rw [z4, sb3.1, z2, sb1.1, sb0.1]
  refine wpAny_bind (wpAny_newTuple ?_ (show 2 ≤ sizeLine by decide))
  dsimp only
  rw [hT]
  have zi : z ≠ s.heap.objs.size := fun e => by have := Heap.lt_size gz; rw [e] at this; exact Nat.lt_irrefl _ this
  have gT : (h4'.push { cls := Value.type "tuple", data := Data.seq #[x, y] }).get? s.heap.objs.size = some { cls := Value.type "tuple", data := Data.seq #[x, y] } := by rw [← hT]; exact Heap.get?_push_size _ rfl
  have k5 : ∀ b o, h4'.get? b = some o → (h4'.push { cls := Value.type "tuple", data := Data.seq #[x, y] }).get? b = some o := fun b o e => Heap.get?_push_of_some _ e
  show wpAny _ _ (do Builtin.SmallTypes.ownedTupleHandOut (Value.ref z) (Value.ref s.heap.objs.size); ret _) _ _ { s with heap := h4'.push { cls := Value.type "tuple", data := Data.seq #[x, y] } }
  generalize h4'.push { cls := Value.type "tuple", data := Data.seq #[x, y] } = h5' at gT k5 ⊢
  have gz4 : h4'.get? z = some { cls := Value.type "zip", data := Data.fields #[Value.ellipsis, Value.bool false, Value.bool false, Value.ref TI, Value.ref TO] } :=
    (k4 _ az2).trans ((k3 _ az4).trans ((k2 _ az2).trans ((k1 _ az3).trans (gz0.trans rfl))))
  have gz5 := k5 _ _ gz4
  have gti4 : h4'.get? TI = some { cls := Value.type "tuple", data := Data.seq #[.ref i1, .ref i2] } := (k4 _ ai1).trans ((k3 _ ai3).trans ((k2 _ ai1).trans ((k1 _ ai2).trans ((k0 _ (Ne.symm az1)).trans gti))))
  obtain ⟨oj1, gj1, rj1⟩ := ji1
  obtain ⟨oj2, gj2, rj2⟩ := ji2
  have gj1' : h4'.get? i1 = some oj1 := (k4 _ (Ne.symm ao1)).trans ((k3 _ a12).trans ((k2 _ (Ne.symm ao1)).trans gj1))
  have gj2' : h4'.get? i2 = some oj2 := (k4 _ (Ne.symm ao2)).trans gj2
  refine wpAny_bind (m := Builtin.SmallTypes.ownedTupleHandOut _ _) ?_
  unfold Builtin.SmallTypes.ownedTupleHandOut
  refine wpAny_bind (wpAny_setField gz5 rfl (show 0 < 5 by decide) ?_)
  have gz6 : (h5'.update z (Obj.mapFields fun v => v.setIfInBounds 0 (rawInt (s.heap.objs.size : Nat)))).get? z = some { cls := Value.type "zip", data := Data.fields #[rawInt (s.heap.objs.size : Nat), Value.bool false, Value.bool false, Value.ref TI, Value.ref TO] } := (Heap.get?_update_self _ gz5 rfl).trans rfl
  have k6 : ∀ b, b ≠ z → (h5'.update z (Obj.mapFields fun v => v.setIfInBounds 0 (rawInt (s.heap.objs.size : Nat)))).get? b = h5'.get? b := (Heap.SameBut.update _ _ _).2
  dsimp only
  generalize h5'.update z (Obj.mapFields fun v => v.setIfInBounds 0 (rawInt (s.heap.objs.size : Nat))) = h6' at gz6 k6 ⊢
  refine wpAny_setField gz6 rfl (show 1 < 5 by decide) ?_
  have gz7 : (h6'.update z (Obj.mapFields fun v => v.setIfInBounds 1 (Value.bool false))).get? z = some { cls := Value.type "zip", data := Data.fields #[rawInt (s.heap.objs.size : Nat), Value.bool false, Value.bool false, Value.ref TI, Value.ref TO] } := (Heap.get?_update_self _ gz6 rfl).trans rfl
  have k7 : ∀ b, b ≠ z → (h6'.update z (Obj.mapFields fun v => v.setIfInBounds 1 (Value.bool false))).get? b = h6'.get? b := (Heap.SameBut.update _ _ _).2
  dsimp only
  generalize h6'.update z (Obj.mapFields fun v => v.setIfInBounds 1 (Value.bool false)) = h7' at gz7 k7 ⊢
  refine wpAny_pure (wpAny_pure ?_)
  have kk : ∀ b o, b ≠ z → h4'.get? b = some o → h7'.get? b = some o := fun b o n e => (k7 _ n).trans ((k6 _ n).trans (k5 _ _ e))
  refine hQ h7' ⟨gz7, kk _ _ (Ne.symm az1) gti4, ⟨_, _, kk _ _ (Ne.symm az2) gto4⟩, ⟨_, kk _ _ (Ne.symm az3) gj1', rj1⟩, ⟨_, kk _ _ (Ne.symm az4) gj2', rj2⟩⟩ ((k7 _ (Ne.symm zi)).trans ((k6 _ (Ne.symm zi)).trans gT)) fun b o n e => ?_
  simp only [List.mem_cons, List.not_mem_nil, or_false, not_or] at n
  obtain ⟨p1, p2, p3, p4, p5⟩ := n
  exact kk b o p1 ((k4 _ p3).trans ((k3 _ p5).trans ((k2 _ p3).trans ((k1 _ p4).trans ((k0 _ p1).trans e)))))
end
end DL
set_option Elab.async false
set_option linter.all false
set_option maxRecDepth 100000
namespace DL
open PySem PySem.Spec PyProof.Rows L2
theorem sub_stop : isSubtype (.type "StopIteration") (.type "StopIteration") = pure true := by rw [isSubtype_type]; kernel_rfl
section
variable {prog : Program} {w : World} {A : Around} {E : Value → Shared → Prop} {s : Shared}
theorem zip_over {z : Addr} {vs : Array Value} {h' : Heap} {e : Addr} {Q : Option Value → Shared → Prop} (hz : h'.get? z = some { cls := Value.type "zip", data := Data.fields vs }) (hv : 0 < vs.size) (he : ∃ o, h'.get? e = some o ∧ o.cls = .type "StopIteration")
    (hQ : Q none { s with heap := h'.update z (Obj.mapFields fun v => v.setIfInBounds 0 Value.none) }) :
    wpAny (model prog w) A.in1 (setField (Value.ref z) 0 Value.none) (fun _ s'' => wpAny (model prog w) A (do
      let b ← isInstance (.ref e) (Value.type "StopIteration")
      if b = true then pure none else throw (.ref e)) Q E s'') (fun e s'' => wpAny (model prog w) A (do
      let b ← isInstance e (Value.type "StopIteration")
      if b = true then pure none else throw e) Q E s'') { s with heap := h' } := by
  refine wpAny_setField hz rfl hv ?_
  obtain ⟨o, g, c⟩ := he
  have n : e ≠ z := fun q => by
    rw [q, hz] at g
    have g' := Option.some.inj g
    rw [← g'] at c
    injection c with c'
    exact absurd c' (by decide)
  refine wpAny_bind (wpAny_isInstance (b := true) (T := "StopIteration") ⟨o, (by show (h'.update z _).get? e = _; rw [Heap.get?_update_other _ _ (Ne.symm n)]; exact g), c⟩ sub_stop (wpAny_pure hQ))
theorem zip_end {z TI TO i1 i2 t1 t2 : Addr} {i : Nat} {xs ys : Array Value} {Q : Option Value → Shared → Prop} (hh : A.handled = none) (ap : List.Nodup [z, TI, TO, i1, i2]) (n1 : t1 ∉ [z, TI, TO, i1, i2]) (n2 : t2 ∉ [z, TI, TO, i1, i2])
    (Z : ZipT s.heap z TI TO i1 i2 t1 t2 .none i) (h1 : s.heap.IsTuple t1 xs) (h2 : s.heap.IsTuple t2 ys) (hx : xs[i]? = none ∨ ys[i]? = none)
    (hQ : ∀ h' : Heap, (∀ b o, b ∉ [z, TI, TO, i1, i2] → s.heap.get? b = some o → h'.get? b = some o) → Q none { s with heap := h' }) :
    wpAny (model prog w) A (pyNext (.ref z)) Q E s := by
  obtain ⟨gz, gti, ⟨a, b, gto⟩, j1, j2⟩ := Z
  have tz : s.TypeIs (.ref z) "zip" := ⟨_, gz, rfl⟩
  unfold pyNext
  refine wpAny_bind (wpAny_attempt ?_)
  refine wpAny_callSpecial?_slot tz F.slot_zip_next ?_
  refine wpAny_call (codeAny_call_builtin F.slot_zip_next.plain F.entry_zip_next (F.slot_zip_next.check _ _ _ _ _ _ _ _ tz (F.args_zip_next_1 _) ?_))
  unfold Builtin.«zip.__next__»
  refine wpAny_bind (m := slotArgs _ _ _) (wpAny_pure ?_)
  refine wpAny_bind (m := field _ _) (wpAny_field gz rfl rfl ?_)
  refine wpAny_bind (m := field _ _) (wpAny_field gz rfl rfl ?_)
  refine wpAny_bind (m := seqItems? _) (wpAny_seqItems gti rfl ?_)
  dsimp only
  refine wpAny_bind (m := Builtin.SmallTypes.ownedTupleIsFree _) ?_
  unfold Builtin.SmallTypes.ownedTupleIsFree
  refine wpAny_bind (m := field _ _) (wpAny_field gz rfl rfl ?_)
  refine wpAny_pure ?_
  rw [if_pos rfl]
  refine wpAny_bind (wpAny_rule (wpAny_bind (m := field _ _) (wpAny_field gz rfl rfl ?_)))
  try dsimp only
  refine wpAny_bind (wpAny_setField gz rfl (show 0 < 5 by decide) ?_)
  have hst : (#[Value.none, Value.bool false, Value.bool false, Value.ref TI, Value.ref TO][2] == Value.bool true) = false := rfl
  have dz0 := Obj.data_mapFields (o := { cls := Value.type "zip", data := Data.fields #[Value.none, Value.bool false, Value.bool false, Value.ref TI, Value.ref TO] }) rfl (fun v => v.setIfInBounds 0 Value.ellipsis)
  have gz0 := Heap.get?_update_self (Obj.mapFields fun v => v.setIfInBounds 0 Value.ellipsis) gz (Obj.isFreed_of_fields dz0)
  have sb0 := Heap.SameBut.update s.heap z (Obj.mapFields fun v => v.setIfInBounds 0 Value.ellipsis)
  generalize s.heap.update z (Obj.mapFields fun v => v.setIfInBounds 0 Value.ellipsis) = h0 at gz0 sb0 ⊢
  simp only [List.nodup_cons, List.mem_cons, List.not_mem_nil, or_false, not_or, List.nodup_nil, and_true, not_false_eq_true] at ap n1 n2
  obtain ⟨⟨az1, az2, az3, az4⟩, ⟨ai1, ai2, ai3⟩, ⟨ao1, ao2⟩, a12⟩ := ap
  obtain ⟨m1, m2, m3, m4, m5⟩ := n1
  obtain ⟨q1, q2, q3, q4, q5⟩ := n2
  have k0 : ∀ b, b ≠ z → h0.get? b = s.heap.get? b := sb0.2
  have mvT : ∀ {h h' : Heap} {c t : Addr} {xs : Array Value}, (∀ b, b ≠ c → h'.get? b = h.get? b) → t ≠ c → h.IsTuple t xs → h'.IsTuple t xs := fun k n ⟨o, g, r⟩ => ⟨o, (k _ n).trans g, r⟩
  have mvI : ∀ {h h' : Heap} {c t j : Addr} {n : Nat}, (∀ b, b ≠ c → h'.get? b = h.get? b) → j ≠ c → h.IsTupleIter j t n → h'.IsTupleIter j t n := fun k n ⟨o, g, r⟩ => ⟨o, (k _ n).trans g, r⟩
  simp only [show [Value.ref i1, Value.ref i2].zipIdx = [(Value.ref i1, 0), (Value.ref i2, 1)] from rfl, List.forIn_cons, hst]
  have gz0' : h0.get? z = some { cls := Value.type "zip", data := Data.fields #[Value.ellipsis, Value.bool false, Value.bool false, Value.ref TI, Value.ref TO] } := gz0.trans rfl
  refine wpAny_bind (wpAny_bind ?_)
  refine wpAny_bind (wpAny_onRaise ?_)
  cases hx1 : xs[i]? with
  | none =>
    refine wpAny_bind (m := Builtin.SmallTypes.nextOf (.ref i1)) (nextOf_tuple_end hh (mvI k0 (Ne.symm az3) j1) (mvT k0 m1 h1) hx1 fun h1' e xb he => ?_)
    have gz1 : h1'.get? z = _ := xb z _ az3 gz0'
    refine zip_over gz1 (show 0 < 5 by decide) he (hQ _ fun b o n ee => ?_)
    simp only [List.mem_cons, List.not_mem_nil, or_false, not_or] at n
    obtain ⟨p1, p2, p3, p4, p5⟩ := n
    rw [Heap.get?_update_other _ _ (Ne.symm p1)]
    exact xb b o p4 ((k0 _ p1).trans ee)
  | some x =>
  have hy : ys[i]? = none := by
    rcases hx with q | q
    · rw [hx1] at q; cases q
    · exact q
  refine wpAny_bind (m := Builtin.SmallTypes.nextOf (.ref i1)) (nextOf_tuple_item (mvI k0 (Ne.symm az3) j1) (mvT k0 m1 h1) hx1 fun h1' ji1 sb1 => ?_)
  have k1 : ∀ b, b ≠ i1 → h1'.get? b = h0.get? b := sb1.2
  refine wpAny_pure ?_
  have gto1 : h1'.get? TO = some { cls := Value.type "tuple", data := Data.seq #[a, b] } := (k1 _ ao1).trans ((k0 _ (Ne.symm az2)).trans gto)
  refine wpAny_bind (wpAny_seqItems gto1 rfl ?_)
  refine wpAny_bind (wpAny_updateSeq gto1 rfl ?_ (show 2 ≤ sizeLine by decide) (show 2 ≤ sizeLine + 1 by decide))
  have gto2 : (h1'.update TO (Obj.mapSeq fun v => v.setIfInBounds 0 x)).get? TO = some { cls := Value.type "tuple", data := Data.seq #[x, b] } := (Heap.get?_update_self _ gto1 rfl).trans rfl
  have k2 : ∀ b, b ≠ TO → (h1'.update TO (Obj.mapSeq fun v => v.setIfInBounds 0 x)).get? b = h1'.get? b := (Heap.SameBut.update _ _ _).2
  have z2 : (h1'.update TO (Obj.mapSeq fun v => v.setIfInBounds 0 x)).objs.size = h1'.objs.size := (Heap.SameBut.update _ _ _).1
  dsimp only
  generalize h1'.update TO (Obj.mapSeq fun v => v.setIfInBounds 0 x) = h2' at gto2 k2 z2 ⊢
  refine wpAny_bind (wpAny_letGo (wpAny_pure ?_))
  refine wpAny_bind (wpAny_bind (wpAny_onRaise ?_))
  refine wpAny_bind (m := Builtin.SmallTypes.nextOf (.ref i2)) (nextOf_tuple_end hh (mvI k2 (Ne.symm ao2) (mvI k1 (Ne.symm a12) (mvI k0 (Ne.symm az4) j2))) (mvT k2 q3 (mvT k1 q4 (mvT k0 q1 h2))) hy fun h3' e xb he => ?_)
  have gz3 : h3'.get? z = _ := xb z _ az4 ((k2 _ az2).trans ((k1 _ az3).trans gz0'))
  refine zip_over gz3 (show 0 < 5 by decide) he (hQ _ fun b o n ee => ?_)
  simp only [List.mem_cons, List.not_mem_nil, or_false, not_or] at n
  obtain ⟨p1, p2, p3, p4, p5⟩ := n
  rw [Heap.get?_update_other _ _ (Ne.symm p1)]
  exact xb b o p5 ((k2 _ p3).trans ((k1 _ p4).trans ((k0 _ p1).trans ee)))
end
end DL
set_option Elab.async false
set_option linter.all false
set_option maxRecDepth 100000
namespace DL
open PySem PySem.Spec PyProof.Rows L2
theorem meets_zipT (t1 t2 : Addr) (xs ys : Array Value) : Meets (Builtin.«zip.__new__» ⟨[.type "zip", .ref t1, .ref t2], []⟩) (fun _ R s => s.heap.IsTuple t1 xs ∧ s.heap.IsTuple t2 ys ∧
    ∀ h' : Heap, ZipT h' (s.heap.objs.size + 4) (s.heap.objs.size + 2) (s.heap.objs.size + 3) s.heap.objs.size (s.heap.objs.size + 1) t1 t2 .none 0 → (∀ b o, s.heap.get? b = some o → h'.get? b = some o) → h'.objs.size = s.heap.objs.size + 5 → R (.ok (.ret (.ref (s.heap.objs.size + 4)))) { s with heap := h' }) := by
  intro prog w A R s ⟨h1, h2, hR⟩
  unfold Builtin.«zip.__new__»
  refine wpAny_bind (m := Builtin.SmallTypes.newClass _ _) ?_
  unfold Builtin.SmallTypes.newClass
  refine wpAny_bind (m := isType _) (wpAny_pure ?_)
  show wpAny _ _ (do let b ← isSubtype (Value.type "zip") (Value.type "zip"); _) _ _ _
  rw [sub_zip]
  refine wpAny_pure ?_
  show wpAny _ _ (do let its ← Builtin.SmallTypes.iterAll [.ref t1, .ref t2]; _) _ _ _
  refine wpAny_bind ?_
  unfold Builtin.SmallTypes.iterAll
  simp only [List.forIn_cons]
  refine wpAny_bind (wpAny_bind (wpAny_bind (wpAny_holding (wpAny_pyIter_tuple h1 (wpAny_pure ?_)))))
  have h2' : (s.heap.push { cls := Value.type "tuple_iterator", data := Data.fields #[Value.ref t1, Value.int 0 0] }).IsTuple t2 ys := by
    obtain ⟨o, g, r⟩ := h2
    exact ⟨o, Heap.get?_push_of_some _ g, r⟩
  refine wpAny_bind (wpAny_bind (wpAny_holding (wpAny_pyIter_tuple h2' (wpAny_pure ?_))))
  refine wpAny_pure (wpAny_pure ?_)
  refine wpAny_bind (wpAny_newTuple ?_ (show 2 ≤ sizeLine by decide))
  refine wpAny_bind (wpAny_newTuple ?_ (show 2 ≤ sizeLine by decide))
  refine wpAny_bind (m := Builtin.SmallTypes.newRecord _ _) ?_
  unfold Builtin.SmallTypes.newRecord
  refine wpAny_newObj_type (wpAny_pure ?_) (show 5 ≤ sizeLine + 2 by decide)
  dsimp only
  let S := s.heap.objs.size
  let A1 := s.heap.push { cls := Value.type "tuple_iterator", data := Data.fields #[Value.ref t1, Value.int 0 0] }
  let A2 := A1.push { cls := Value.type "tuple_iterator", data := Data.fields #[Value.ref t2, Value.int 0 0] }
  let A3 := A2.push { cls := Value.type "tuple", data := Data.seq #[Value.ref S, Value.ref A1.objs.size] }
  let A4 := A3.push { cls := Value.type "tuple", data := Data.seq #[Value.none, Value.none] }
  let A5 := A4.push { cls := Value.type "zip", data := Data.fields #[Value.none, Value.bool false, Value.bool false, Value.ref A2.objs.size, Value.ref A3.objs.size] }
  have e1 : A1.objs.size = S + 1 := Heap.size_push _ _
  have e2 : A2.objs.size = S + 2 := (Heap.size_push _ _).trans (by rw [e1])
  have e3 : A3.objs.size = S + 3 := (Heap.size_push _ _).trans (by rw [e2])
  have e4 : A4.objs.size = S + 4 := (Heap.size_push _ _).trans (by rw [e3])
  have e5 : A5.objs.size = S + 5 := (Heap.size_push _ _).trans (by rw [e4])
  have p1 : A1.get? S = some { cls := Value.type "tuple_iterator", data := Data.fields #[Value.ref t1, Value.int 0 0] } := Heap.get?_push_size _ rfl
  have p2 : A2.get? (S + 1) = some { cls := Value.type "tuple_iterator", data := Data.fields #[Value.ref t2, Value.int 0 0] } := by rw [← e1]; exact Heap.get?_push_size _ rfl
  have p3 : A3.get? (S + 2) = some { cls := Value.type "tuple", data := Data.seq #[Value.ref S, Value.ref A1.objs.size] } := by rw [← e2]; exact Heap.get?_push_size _ rfl
  have p4 : A4.get? (S + 3) = some { cls := Value.type "tuple", data := Data.seq #[Value.none, Value.none] } := by rw [← e3]; exact Heap.get?_push_size _ rfl
  have p5 : A5.get? (S + 4) = some { cls := Value.type "zip", data := Data.fields #[Value.none, Value.bool false, Value.bool false, Value.ref A2.objs.size, Value.ref A3.objs.size] } := by rw [← e4]; exact Heap.get?_push_size _ rfl
  have u2 : ∀ b o, A1.get? b = some o → A2.get? b = some o := fun b o e => Heap.get?_push_of_some _ e
  have u3 : ∀ b o, A2.get? b = some o → A3.get? b = some o := fun b o e => Heap.get?_push_of_some _ e
  have u4 : ∀ b o, A3.get? b = some o → A4.get? b = some o := fun b o e => Heap.get?_push_of_some _ e
  have u5 : ∀ b o, A4.get? b = some o → A5.get? b = some o := fun b o e => Heap.get?_push_of_some _ e
  have fin := hR A5 ⟨by rw [e2, e3] at p5; exact p5, by rw [e1] at p3; exact u5 _ _ (u4 _ _ p3), ⟨_, _, u5 _ _ p4⟩, ⟨_, u5 _ _ (u4 _ _ (u3 _ _ (u2 _ _ p1))), rfl, rfl⟩, ⟨_, u5 _ _ (u4 _ _ (u3 _ _ p2)), rfl, rfl⟩⟩
    (fun b o e => u5 _ _ (u4 _ _ (u3 _ _ (u2 _ _ (Heap.get?_push_of_some _ e))))) e5
  have e4' : s.heap.objs.size + 4 = A4.objs.size := e4.symm
  rw [e4'] at fin
  exact fin
theorem call_zipT {prog : Program} {w : World} {A : Around} {E : Value → Shared → Prop} {s : Shared} {t1 t2 : Addr} {xs ys : Array Value} {Q : Value → Shared → Prop} (h1 : s.heap.IsTuple t1 xs) (h2 : s.heap.IsTuple t2 ys)
    (hQ : ∀ h' : Heap, ZipT h' (s.heap.objs.size + 4) (s.heap.objs.size + 2) (s.heap.objs.size + 3) s.heap.objs.size (s.heap.objs.size + 1) t1 t2 .none 0 → (∀ b o, s.heap.get? b = some o → h'.get? b = some o) → h'.objs.size = s.heap.objs.size + 5 → Q (.ref (s.heap.objs.size + 4)) { s with heap := h' }) :
    wpAny (model prog w) A (call (.type "zip") [.ref t1, .ref t2]) Q E s :=
  callType_new F.called_zip (by decide) (F.typeCall_zip_2 _ _) (F.newCall_zip_2 _ _) (fun obj => F.args_object_init_3 _ _ _) F.entry_zip_new (meets_zipT t1 t2 xs ys) ⟨h1, h2, fun h' Z k e => ⟨⟨_, Z.zip, rfl⟩, hQ h' Z k e⟩⟩
end DL
set_option Elab.async false
set_option linter.all false
set_option maxRecDepth 100000
namespace DL
open PySem PySem.Spec PyProof.Rows L2
theorem _root_.L2.Inv.butL {X : Cx} {pins : List (Addr × Obj)} {σ : St} {H : Hp} {s : Shared} {fp : List Addr} {h' : Heap} {t' : Nat} (J : Inv X pins σ H s) (hf : ∀ b ∈ fp, FpOk X pins H b) (hk : ∀ b o, b ∉ fp → s.heap.get? b = some o → h'.get? b = some o) :
    Inv X pins σ H { s with heap := h', toks := t' } := by
  have nC : ∀ b, H b ≠ none → b ∉ fp := fun b hb z => hb (hf b z).1
  refine J.call' (ch := fp) (s' := { s with heap := h', toks := t' }) rfl
      ⟨fun b o e n hb hx => hk b o hx e, fun b o e n hb hx => ⟨o.slots, hk b o hx e⟩, fun b o e n _ => n, fun b o e hx => ⟨o, hk b o hx e⟩, fun b xs e => e, fun b o u e => e, fun b ps e => ⟨#[], by simpa using e⟩⟩
      (fun b u q => (J.hok b u q).stay (fun c v hc e => hk c v (by
        rcases hc with rfl | hc
        · exact nC c (by rw [q]; intro z; cases z)
        · exact nC c (by rw [hc]; intro z; cases z)) e) (fun _ z => z) fun _ _ z => z) J.bare
      fun b hb => by
        obtain ⟨f0, f1, f2, f3, f4, f5⟩ := hf b hb
        exact ⟨f3, f1, f4, f5⟩
noncomputable def Itz (K : PySem.W.Frag) (t1 t2 : Addr) : It :=
  ⟨fun i H => ∃ xs ys v u, SqT K H t1 xs ∧ SqT K H t2 ys ∧ xs[i]? = some v ∧ ys[i]? = some u,
   fun i H x H' => ∃ T, H T = none ∧ x = .ref T ∧ ∃ v u, (∀ xs, SqT K H t1 xs → xs[i]? = some v) ∧ (∀ ys, SqT K H t2 ys → ys[i]? = some u) ∧ H' = upd H T (.tup [v, u]),
   fun i H => ∃ xs ys, SqT K H t1 xs ∧ SqT K H t2 ys ∧ (xs.length ≤ i ∨ ys.length ≤ i)⟩
theorem turn_zip {P : Program} {w : World} {K : PySem.W.Frag} {elts : List Expr} {x1 : Nat} {pos : Pos} {z TI TO i1 i2 t1 t2 : Addr} (ap : List.Nodup [z, TI, TO, i1, i2]) (n1 : t1 ∉ [z, TI, TO, i1, i2]) (n2 : t2 ∉ [z, TI, TO, i1, i2]) :
    Turn P w K (.Tuple elts x1 pos) (Itz K t1 t2) [z, TI, TO, i1, i2] z (fun i h => ZipT h z TI TO i1 i2 t1 t2 .none i) where
  mem := by simp
  obj := fun i h st b hb => by
    obtain ⟨gz, gti, ⟨a, c, gto⟩, ⟨o1, g1, _, d1⟩, ⟨o2, g2, _, d2⟩⟩ := st
    simp only [List.mem_cons, List.not_mem_nil, or_false] at hb
    rcases hb with rfl | rfl | rfl | rfl | rfl
    · exact ⟨_, gz, fun v q => by cases q⟩
    · exact ⟨_, gti, fun v q => by cases q⟩
    · exact ⟨_, gto, fun v q => by cases q⟩
    · exact ⟨_, g1, fun v q => by rw [d1] at q; cases q⟩
    · exact ⟨_, g2, fun v q => by rw [d2] at q; cases q⟩
  keep := fun i h h' st k => by
    obtain ⟨gz, gti, ⟨a, c, gto⟩, ⟨o1, g1, r1⟩, ⟨o2, g2, r2⟩⟩ := st
    exact ⟨k z (by simp) _ gz, k TI (by simp) _ gti, ⟨a, c, k TO (by simp) _ gto⟩, ⟨o1, k i1 (by simp) _ g1, r1⟩, ⟨o2, k i2 (by simp) _ g2, r2⟩⟩
  item := by
    intro X hP hw hK hc i pins s σ H E I hf st hg
    subst hP hw hK
    obtain ⟨xs, ys, v, u, hq1, hq2, hx, hy⟩ := hg
    obtain ⟨its1, rv1, p1, hz1⟩ := I.tuple hq1
    obtain ⟨its2, rv2, p2, hz2⟩ := I.tuple hq2
    obtain ⟨u1, hu1, ru1⟩ := rv1.get hx
    obtain ⟨u2, hu2, ru2⟩ := rv2.get hy
    refine zip_item ap n1 n2 st (show s.heap.IsTuple t1 its1.toArray from p1) (show s.heap.IsTuple t2 its2.toArray from p2) (x := u1) (y := u2) (by simpa using hu1) (by simpa using hu2) fun h' Z gT kk => ?_
    refine ⟨_, rfl, wpAny_letOwnedTupleGo_zip (T := s.heap.objs.size) Z.zip fun h'' gz'' sb => ?_⟩
    have fT : FpOk X pins H s.heap.objs.size := I.fpOk (Nat.le_refl _) (I.hok.fresh (Nat.le_refl _))
    have zs : s.heap.objs.size ≠ z := fun e => by
      have := Heap.lt_size st.zip; rw [← e] at this; exact Nat.lt_irrefl _ this
    have kk2 : ∀ b o, b ∉ [z, TI, TO, i1, i2] → s.heap.get? b = some o → h''.get? b = some o := fun b o n e => (sb.2 b (fun q => n (by rw [q]; simp))).trans (kk b o n e)
    have I1 : Inv X pins σ H { s with heap := h'' } := I.butL (t' := s.toks) hf kk2
    have gT2 : h''.get? s.heap.objs.size = some { cls := Value.type "tuple", data := Data.seq #[u1, u2] } := (sb.2 _ zs).trans gT
    obtain ⟨f0, f1, f2, f3, f4, f5⟩ := fT
    have I2 : Inv X pins σ (upd H s.heap.objs.size (.tup [v, u])) { s with heap := h'' } := I1.track f0 (fun ob e _ => absurd (Nat.lt_of_lt_of_le (Heap.lt_size e) I.sz) (Nat.lt_irrefl _)) f1 f4 f5
      ⟨show 2 ≤ sizeLine by decide, [u1, u2], .cons ru1 (.cons ru2 .nil), ⟨_, gT2, rfl, _, rfl⟩⟩
    have nz : ∀ b, b ≠ z → h''.get? b = h'.get? b := sb.2
    refine ⟨.ref s.heap.objs.size, _, I2, rfl, ⟨_, f0, rfl, v, u, fun xs' h => ?_, fun ys' h => ?_, rfl⟩, ?_, fun b hb => ?_⟩
    · rw [I.tuple_inj h hq1]; exact hx
    · rw [I.tuple_inj h hq2]; exact hy
    · have ap' := ap
      simp only [List.nodup_cons, List.mem_cons, List.not_mem_nil, or_false, not_or, List.nodup_nil, and_true, not_false_eq_true] at ap'
      obtain ⟨⟨az1, az2, az3, az4⟩, _⟩ := ap'
      obtain ⟨_, gti, ⟨a, c, gto⟩, ⟨o1, g1, r1⟩, ⟨o2, g2, r2⟩⟩ := Z
      exact ⟨gz'', (nz _ (Ne.symm az1)).trans gti, ⟨a, c, (nz _ (Ne.symm az2)).trans gto⟩, ⟨o1, (nz _ (Ne.symm az3)).trans g1, r1⟩, ⟨o2, (nz _ (Ne.symm az4)).trans g2, r2⟩⟩
    · have hb2 : b ≠ s.heap.objs.size := fun e => by
        obtain ⟨o, g, _⟩ := (show ∃ o, s.heap.get? b = some o ∧ True from by
          obtain ⟨gz, gti, ⟨a, c, gto⟩, ⟨o1, g1, _⟩, ⟨o2, g2, _⟩⟩ := st
          simp only [List.mem_cons, List.not_mem_nil, or_false] at hb
          rcases hb with rfl | rfl | rfl | rfl | rfl
          · exact ⟨_, gz, trivial⟩
          · exact ⟨_, gti, trivial⟩
          · exact ⟨_, gto, trivial⟩
          · exact ⟨_, g1, trivial⟩
          · exact ⟨_, g2, trivial⟩)
        have := Heap.lt_size g
        rw [e] at this; exact Nat.lt_irrefl _ this
      rw [upd_ne hb2]; exact (hf b hb).1
  done := by
    intro X hP hw hK hc i pins s σ H E I hf st hg
    subst hP hw hK
    obtain ⟨xs, ys, hq1, hq2, hx⟩ := hg
    obtain ⟨its1, rv1, p1, hz1⟩ := I.tuple hq1
    obtain ⟨its2, rv2, p2, hz2⟩ := I.tuple hq2
    have l1 := rv1.length
    have l2 := rv2.length
    refine zip_end (I.ok.hd hc) ap n1 n2 st (show s.heap.IsTuple t1 its1.toArray from p1) (show s.heap.IsTuple t2 its2.toArray from p2) ?_ fun h' kk => ⟨rfl, I.butL (t' := s.toks) hf kk⟩
    rcases hx with q | q
    · exact .inl (by simp; omega)
    · exact .inr (by simp; omega)
  self := fun _ _ _ _ _ st h => wpAny_pyIter_zip st.zip h
end DL
set_option Elab.async false
set_option linter.all false
set_option maxRecDepth 100000
namespace DL
open PySem PySem.Spec PyProof.Rows L2
noncomputable def zipD (xs ys : List D) : List D := List.zipWith (fun x y => D.tup [x, y]) xs ys
noncomputable def zipG : List D → Res (List D)
  | [.tup xs, .tup ys] => .ok (zipD xs ys)
  | _ => .stuck
theorem yields_zip {K : PySem.W.Frag} {H : Hp} {t1 t2 : Addr} {xs ys : List V} {ds es : List D} (h1 : SqT K H t1 xs) (h2 : SqT K H t2 ys) (r1 : Reps K H ds xs) (r2 : Reps K H es ys) : Yields K (Itz K t1 t2) H (zipD ds es) := by
  intro H' e
  have q1 := SqT_mono e h1
  have q2 := SqT_mono e h2
  have p1 := r1.mono e
  have p2 := r2.mono e
  refine ⟨fun i d hd => ?_, xs, ys, q1, q2, ?_⟩
  · unfold zipD at hd
    rw [List.getElem?_zipWith] at hd
    cases z1 : ds[i]? with
    | none => rw [z1] at hd; simp at hd
    | some x =>
      cases z2 : es[i]? with
      | none => rw [z1, z2] at hd; simp at hd
      | some y =>
        rw [z1, z2] at hd
        simp only [Option.some.injEq] at hd
        subst hd
        obtain ⟨v, e1, s1⟩ := p1.get z1
        obtain ⟨u, e2, s2⟩ := p2.get z2
        refine ⟨⟨xs, ys, v, u, q1, q2, e1, e2⟩, fun a H'' yl => ?_⟩
        obtain ⟨T, hT, rfl, v', u', k1, k2, rfl⟩ := yl
        have w1 := k1 xs q1
        have w2 := k2 ys q2
        rw [e1] at w1; rw [e2] at w2
        cases w1; cases w2
        have sm := same_upd hT (.tup [v, u])
        exact ⟨sm, mkT (SqT.of upd_same) (.cons (s1.mono sm) (.cons (s2.mono sm) .nil))⟩
  · unfold zipD
    rw [List.length_zipWith, r1.length, r2.length]
    omega
theorem fp_nodup (S : Nat) : List.Nodup [S + 4, S + 2, S + 3, S, S + 1] := by
  simp only [List.nodup_cons, List.mem_cons, List.not_mem_nil, or_false, not_or, List.nodup_nil, and_true, not_false_eq_true]
  omega
theorem fp_notin {S t : Nat} (h : t < S) : t ∉ [S + 4, S + 2, S + 3, S, S + 1] := by
  simp only [List.mem_cons, List.not_mem_nil, or_false, not_or]
  omega
theorem fp_ge {S b : Nat} (h : b ∈ [S + 4, S + 2, S + 3, S, S + 1]) : S ≤ b := by
  simp only [List.mem_cons, List.not_mem_nil, or_false] at h
  omega
theorem pid_zip {X : Cx} {a b : Expr} {fa : DS → Res (List D)} {p pos tp : Pos} {elts : List Expr} {x1 : Nat} (hg : Gl X "zip") (hm : X.mg "zip" = none) (ha : PAD X [a, b] fa) (hs : starEach [a, b] X.env = [(false, eval a X.env), (false, eval b X.env)] := by rfl) (hs2 : starEach [b] X.env = [(false, eval b X.env)] := by rfl) :
    PID X (.Tuple elts x1 tp) (.Call (.Name "zip" p) [a, b] [] pos) (fun δ => (fa δ).bind zipG) := by
  intro pins s σ G H δ I R hn
  try dsimp only at hn ⊢
  refine Call_ (ld_blt I hg hm boot_zip (PyProof.Rows.callWith_type1 (ha.use I R (bind_l hn) (fun ds us s1 vs H1 q I1 r1 e1 b1 p1 => ?_) fun e s1 q => q.same fun x z => bind_x z) (by rw [hs, hs2]) (by rw [hs2]; rfl)))
  have h2 := bind_r hn q
  unfold zipG at h2
  split at h2
  · rename_i ds1 ds2
    obtain ⟨v, ws, rfl, w1, w2⟩ := p1.cons_of
    obtain ⟨v', ws, rfl, w3, w4⟩ := w2.cons_of
    cases w4.nil_of
    obtain ⟨t1, xs, rfl, s1', t1'⟩ := repT w1
    obtain ⟨t2, ys, rfl, s2', t2'⟩ := repT w3
    cases r1 with
    | cons ra rr =>
      cases rr with
      | cons rb rr =>
        cases rr
        cases ra
        cases rb
        obtain ⟨its1, rv1, pp1, hz1⟩ := I1.tuple s1'
        obtain ⟨its2, rv2, pp2, hz2⟩ := I1.tuple s2'
        refine call_zipT (show s1.heap.IsTuple t1 its1.toArray from pp1) (show s1.heap.IsTuple t2 its2.toArray from pp2) fun h' Z kk sz => ?_
        have I2 : Inv X pins σ H1 { s1 with heap := h' } := I1.kept (t' := s1.toks) kk
        obtain ⟨o1, g1, _⟩ := id pp1
        obtain ⟨o2, g2, _⟩ := id pp2
        have l1 := Heap.lt_size g1
        have l2 := Heap.lt_size g2
        refine wpAny_pyIter_zip Z.zip ?_
        refine ⟨_, s1.heap.objs.size + 4, [s1.heap.objs.size + 4, s1.heap.objs.size + 2, s1.heap.objs.size + 3, s1.heap.objs.size, s1.heap.objs.size + 1], _, _, H1, by rw [q]; rfl, rfl, I2, turn_zip ?_ ?_ ?_, Z, fun b hb => ?_, e1, yields_zip s1' s2' t1' t2'⟩
        · exact fp_nodup _
        · exact fp_notin l1
        · exact fp_notin l2
        · exact I1.fpOk (fp_ge hb) (I1.hok.fresh (fp_ge hb))
  · exact (h2 rfl).elim
theorem keeps_two {m i j : Nat} (h : i < m) (h' : j < m) : KeepsT m (tupTgt [i, j]) := by
  intro d δ δ1 e
  cases d with
  | tup ds =>
    match ds, e with
    | [x, y], e =>
      simp only [tupTgt, namesD, Option.some.injEq] at e
      subst e
      exact ⟨by simp, fun k hk => by rw [List.getElem?_set_ne (by omega), List.getElem?_set_ne (by omega)]⟩
    | [], e => simp [tupTgt, namesD] at e
    | [x], e => simp [tupTgt, namesD] at e
    | _ :: _ :: _ :: _, e => simp [tupTgt, namesD] at e
  | _ => simp [tupTgt] at e
end DL
set_option Elab.async false
set_option linter.all false
set_option maxRecDepth 100000
namespace DL
open PySem PySem.Spec PyProof.Rows L2
section
variable {X : Cx} {e : Expr} {fe : DS → Res D} {pos : Pos} {op : Operator} {g : D → D → Res D}
theorem op_imulB : OpR X (inplaceOp .Mult) (rI (fun i j => (intBits' i ≤ 2 ^ 20 ∧ intBits' j ≤ 2 ^ 20) ∨ intBits' i ≤ 64 ∨ intBits' j ≤ 64) fun i j => .int (i * j)) := opI fun _ _ _ _ _ _ _ hc q => imul_int q (by
  rcases hc with hc | hc | hc
  · exact PySem.IntMulOk.of_bits hc.1 hc.2
  · exact PySem.IntMulOk.of_left hc
  · exact PySem.IntMulOk.of_right hc)
theorem od_imul : OpD X (inplaceOp .Mult) mulD := opI_d (h := fun i j => .int (i * j)) (fun _ => op_imulB) (fun _ _ _ => mkI) fun x y d e => by
  cases x <;> cases y <;> first | (simp [mulD] at e; done) | skip
  rename_i i j
  simp only [mulD] at e
  split at e
  · rename_i c; cases e; exact ⟨_, _, rfl, rfl, c, rfl⟩
  · cases e
theorem psd_aug (i : Nat) {x : Str} {pos' : Pos} (ho : OpD X (inplaceOp op) g) (hg : ∀ x y, NoErr (g x y)) (he : PD X e fe) (hN : X.N.Nodup) (hi : X.N[i]? = some x := by rfl) (hx : Loc X.env.scope x := by first | exact Or.inl rfl | exact Or.inr rfl)
    (hf : X.fn x = true ∨ X.env.scope.names.lookup x = some .local := by first | exact .inl rfl | exact .inr rfl | assumption) : PSD X (.AugAssign (.Name x pos') op e pos) (setD i (two (slotD i) fe g)) := by
  intro pins s σ G H δ I R hs
  have h1 : two (slotD i) fe g δ ≠ .stuck := onD_l hs
  have hsl : ∃ sv, δ[i]? = some (some sv) := by
    cases q : δ[i]? with
    | none => exact (h1 (by unfold two slotD; rw [q]; rfl)).elim
    | some o =>
      cases o with
      | none => exact (h1 (by unfold two slotD; rw [q]; rfl)).elim
      | some sv => exact ⟨sv, rfl⟩
  obtain ⟨sv, hsv⟩ := hsl
  have ev : two (slotD i) fe g δ = (fe δ).bind fun y => g sv.view y := by unfold two slotD; rw [hsv]; rfl
  rw [ev] at h1
  obtain ⟨v, e1, p0⟩ := R.view hsv
  obtain ⟨m, hn, hl⟩ := I.loc
  have vis : Vis X.env.scope x := by
    rcases hx with k | k
    · exact .inl k
    · exact .inr (.inl k)
  obtain ⟨u, r, l⟩ := hl i x v hi e1 vis
  refine wpAny_AugAssign_Name ?_
  have go : wpAny (model X.prog X.w) X.A (eval e X.env) (fun w s₂ => wpAny (model X.prog X.w) X.A (inplaceOp op u w) (fun r s₃ => wpAny (model X.prog X.w) X.A (storeName X.env x r) (fun _ => SPost X pins G H (setD i (two (slotD i) fe g) δ) .next) (SX X pins G H s.heap (setD i (two (slotD i) fe g) δ)) s₃) (SX X pins G H s.heap (setD i (two (slotD i) fe g) δ)) s₂) (SX X pins G H s.heap (setD i (two (slotD i) fe g) δ)) s := by
    refine he.use I R (bind_l h1) (fun d w s1 vy H1 q I1 r1 e2 b1 p1 => ?_) fun ex s1 q => q.sx R fun z hz => by unfold setD; rw [ev, hz]; rfl
    have h2 := bind_r h1 q
    cases qg : g sv.view d with
    | stuck => exact (h2 qg).elim
    | err z => exact (hg _ _ z qg).elim
    | ok d2 =>
      refine thn (ho _ pins s1 σ H1 v vy u w sv.view d d2 I1 r r1 (p0.mono e2) p1 qg) fun z s2 ⟨d3, zv, H2, q3, I2, r2, e3, p2⟩ => ?_
      cases q3
      exact store_ok I2 hN hi hx r2 (fun s3 I3 => ⟨_, _, H2, by unfold setD; rw [ev, q, Res.bind_ok, qg]; rfl, I3, (e2.trans e3).tk, ((R.mono e2).mono e3).set i p2⟩) hf
  rcases l with ⟨hk, hm⟩ | ⟨hk, c, hc, hcell⟩
  · exact wpAny_loadName_local I.ok.kind hk hn hm go
  · rcases hk with hk | hk
    · exact wpAny_loadName_cell I.ok.kind hk hc hcell go
    · have hk' : X.env.scope.names.lookup x = some .free := hk
      rcases hx with k | k <;> (rw [k] at hk'; cases hk')
end
end DL
set_option Elab.async false
set_option linter.all false
set_option maxRecDepth 100000
namespace DL
open PySem PySem.Spec PyProof.Rows L2
theorem noFill_tuple_mul' : fillsNumberSlot (.type "tuple") "mul" = pure false := by first | exact noFill_tuple_mul | (unfold fillsNumberSlot; kernel_rfl)
theorem repeat_tuple' : seqRepeat? (.type "tuple") = pure (some (.builtin "tuple.__mul__")) := by first | exact repeat_tuple | (unfold seqRepeat?; kernel_rfl)
section
variable {prog : Program} {w : World} {A : Around} {E : Value → Shared → Prop} {s : Shared}
theorem rmul_tup {t : Addr} {items : Array Value} {k : Int} {tok : Tok} {Q : Value → Shared → Prop} (ht : IsTup s.heap t items) (h : Q .notImplemented s) : wpAny (model prog w) A (call (.builtin "int.__rmul__") [.int k tok, .ref t]) Q E s := by
  obtain ⟨o, g, hc, n, hd⟩ := id ht
  refine wpAny_call (codeAny_call_builtin F.slot_int_rmul.plain F.entry_int_rmul (F.slot_int_rmul.check _ _ _ _ _ _ _ _ (typeIs_int s k tok) (F.args_int_rmul_2 _ _) ?_))
  refine wpAny_bind (m := slotArgs _ _ _) (wpAny_pure ?_)
  refine wpAny_bind (m := Builtin.Int.intOfSelf _) (wpAny_bind (m := asInt? _) (wpAny_pure (wpAny_pure ?_)))
  refine wpAny_bind (m := asInt? _) (wpAny_bind (m := load _) (wpAny_load g ?_))
  simp only [hd]
  refine wpAny_pure ?_
  exact wpAny_bind (wpAny_rule (wpAny_pure h))
theorem mul_tup {t : Addr} {items : Array Value} {k : Nat} {tok : Tok} {Q : Value → Shared → Prop} (ht : IsTup s.heap t items) (hne : items.isEmpty = false) (hk : items.size * k ≤ 1000) (h1 : k = 1 → Q (.ref t) s)
    (h2 : k ≠ 1 → Q (.ref s.heap.objs.size) { s with heap := s.heap.push { cls := .type "tuple", data := .seq (List.replicate k items.toList).flatten.toArray } }) : wpAny (model prog w) A (call (.builtin "tuple.__mul__") [.ref t, .int k tok]) Q E s := by
  refine wpAny_call (codeAny_call_builtin F.slot_tuple_mul.plain F.entry_tuple_mul (F.slot_tuple_mul.check _ _ _ _ _ _ _ _ ht.typeIs (F.args_tuple_mul_2 _ _) ?_))
  refine wpAny_bind (m := asIndex _) (wpAny_bind (m := asInt? _) (wpAny_pure (wpAny_pure ?_)))
  have p1 : 1 ≤ items.size := by
    rcases Nat.eq_zero_or_pos items.size with z | z
    · rw [Array.isEmpty_eq_false_iff, ← Array.size_pos_iff] at hne; omega
    · exact z
  have kk : k ≤ 1000 := Nat.le_trans (Nat.le_mul_of_pos_left k p1) hk
  have hfit : (decide ((k : Int) < -2 ^ 63) || decide ((k : Int) ≥ 2 ^ 63)) = false := by
    rw [Bool.or_eq_false_iff]
    exact ⟨decide_eq_false (by omega), decide_eq_false (by omega)⟩
  dsimp only
  rw [hfit, if_neg Bool.false_ne_true]
  refine wpAny_bind (tupleItemsOf_ ht ?_)
  by_cases c : k = 1
  · have hc : (items.isEmpty || ((k : Nat) : Int) == 1) = true := by rw [c]; simp
    rw [if_pos hc]
    refine wpAny_bind (m := Builtin.Tuple.tupleIsExact _) (wpAny_bind (wpAny_typeOf ht.typeIs (wpAny_pure ?_)))
    rw [if_pos (by decide)]
    exact wpAny_bind (wpAny_rule (wpAny_pure (h1 c)))
  · have hc : ¬ ((items.isEmpty || ((k : Nat) : Int) == 1) = true) := by
      rw [hne]; simp; omega
    rw [if_neg hc]
    have q := h2 c
    by_cases z : k = 0
    · have hz : (decide (((k : Nat) : Int) ≤ 0) || items.isEmpty) = true := by rw [z]; simp
      rw [if_pos hz]
      rw [z] at q
      exact wpAny_bind (m := Builtin.Tuple.tupleExact _) (wpAny_newObj_type (wpAny_pure q) (show 0 ≤ sizeLine from Nat.zero_le _))
    · have hz : ¬ ((decide (((k : Nat) : Int) ≤ 0) || items.isEmpty) = true) := by
        rw [hne]; simp; omega
      rw [if_neg hz]
      have e0 : ((items.size : Int) * (k : Int)) = ((items.size * k : Nat) : Int) := by simp
      have hs : (1000 : Nat) ≤ sizeLine := by decide
      have hm : ¬ ((items.size : Int) * (k : Int) > (2 ^ 63 - 1) / 8) := by
        rw [e0]
        have : ((2 : Int) ^ 63 - 1) / 8 = 1152921504606846975 := by decide
        omega
      rw [if_neg hm]
      have ht2 : ¬ (Builtin.Tuple.tupleTooMany ((items.size : Int) * (k : Int)) = true) := by
        unfold Builtin.Tuple.tupleTooMany
        rw [e0]; simp only [decide_eq_true_eq]; omega
      rw [if_neg ht2]
      have hf : List.foldl (fun x1 x2 => x1 ++ x2) #[] (List.replicate ((k : Nat) : Int).toNat items) = (List.replicate k items.toList).flatten.toArray := by
        have := foldl_rep items.toList k []
        rw [List.nil_append] at this
        rw [Int.toNat_natCast]
        simpa using this
      rw [hf]
      exact wpAny_bind (m := Builtin.Tuple.tupleExact _) (wpAny_newObj_type (wpAny_pure q) (by show _ ≤ sizeLine; rw [List.size_toArray, len_rep, Array.length_toList, Nat.mul_comm]; omega))
end
noncomputable def rRepT (K : PySem.W.Frag) : R2 := fun x y H Q => ∃ a k xs, x = .ref a ∧ y = .int ((k : Nat) : Int) ∧ SqT K H a xs ∧ xs ≠ [] ∧ xs.length * k ≤ 1000 ∧ (k = 1 → Q (.ref a) H) ∧ (k ≠ 1 → ∀ p, H p = none → Q (.ref p) (upd H p (.tup (List.replicate k xs).flatten)))
theorem op_repT {X : Cx} : OpR X (binaryOp .Mult) (rRepT X.K) := by
  intro pins s σ H x y v u Q I rx ry h
  obtain ⟨a, k, xs, rfl, rfl, hq, hne, hz, q1, q2⟩ := h
  cases rx
  obtain ⟨t, rfl⟩ := ry
  obtain ⟨its, r, ht, hzz⟩ := I.tuple hq
  have hl := r.length
  refine wpAny_binaryOp_repeat_ref (T := "tuple") (U := "int") (by decide) ht.typeIs (fun s' => typeIs_int s' k t) noFill_tuple_mul' F.fills_int_mul F.slot_int_rmul repeat_tuple' F.slot_int_index.lookup
    (rmul_tup ht ⟨rfl, ht.typeIs, ?_⟩)
  refine mul_tup ht ?_ (by rw [List.size_toArray, ← hl]; exact hz) (fun e => ⟨.ref a, H, I, rfl, q1 e⟩) fun e => ?_
  · cases its with
    | nil => exact (hne (List.eq_nil_of_length_eq_zero hl)).elim
    | cons b l => simp
  · have hb : (List.replicate k xs).flatten.length ≤ sizeLine := by
      rw [len_rep, Nat.mul_comm]; exact Nat.le_trans hz (by decide)
    exact ⟨.ref s.heap.objs.size, _, I.laid (t' := s.toks) (o := .tup (List.replicate k xs).flatten) (fun b ob q => Heap.get?_push_of_some _ q) (Nat.le_refl _) ⟨hb, _, r.rep k, IsTup.new _ _⟩, rfl, q2 e _ (I.hok.fresh (Nat.le_refl _))⟩
theorem Reps.rep {K : PySem.W.Frag} {H : Hp} {ds : List D} {vs : List V} (h : Reps K H ds vs) : ∀ k : Nat, Reps K H (List.replicate k ds).flatten (List.replicate k vs).flatten
  | 0 => Reps.nil
  | k + 1 => by
    rw [List.replicate_succ, List.replicate_succ, List.flatten_cons, List.flatten_cons]
    exact h.append (Reps.rep h k)
noncomputable def repD (ds : List D) (k : Int) : Res D := if ds.isEmpty = false ∧ 0 ≤ k ∧ ds.length * k.toNat ≤ 1000 then .ok (.tup (List.replicate k.toNat ds).flatten) else .stuck
noncomputable def mulE : D → D → Res D
  | .tup ds, .int k => repD ds k
  | a, b => mulD a b
theorem ne_mulE (x y : D) : NoErr (mulE x y) := by
  unfold mulE
  split
  · unfold repD; exact noErr_ite noErr_ok noErr_stuck
  · exact ne_mul _ _
theorem op_repT' {X : Cx} (E : Value → Shared → Prop) : OpR (X.wish E) (binaryOp .Mult) (rRepT X.K) := op_repT
theorem od_mulE {X : Cx} : OpD X (binaryOp .Mult) mulE := by
  intro E pins s σ H x y v u a b d I r1 r2 p1 p2 e
  unfold mulE at e
  split at e
  · rename_i ds k
    unfold repD at e
    split at e
    · rename_i c
      cases e
      obtain ⟨p, us, rfl, s1, t1⟩ := repT p1
      have hy := repI p2
      subst hy
      have hk : ((k.toNat : Nat) : Int) = k := by omega
      refine thn (op_repT' E pins s σ H (.ref p) (.int k) v u (fun z H' => Same H H' ∧ Rep X.K H' (.tup (List.replicate k.toNat ds).flatten) z) (I.wish _) r1 r2 ⟨p, k.toNat, us, rfl, by rw [hk], s1, ?_, by rw [t1.length]; exact c.2.2, fun e1 => ⟨Same.refl H, ?_⟩, fun _ z hz => ⟨same_upd hz _, mkT (SqT.of upd_same) ((t1.rep _).mono (same_upd hz _))⟩⟩) fun w s2 ⟨z, H1, I1, r3, e1, p3⟩ => ⟨_, z, H1, rfl, I1.unwish, r3, e1, p3⟩
      · intro z; rw [z] at t1; have := t1.isEmpty; rw [c.1] at this; cases this
      · rw [e1, List.replicate_one, List.flatten_cons, List.flatten_nil, List.append_nil]; exact mkT s1 t1
    · cases e
  · exact od_mul E pins s σ H x y v u a b d I r1 r2 p1 p2 e
end DL
set_option Elab.async false
set_option linter.all false
set_option maxRecDepth 100000
namespace DL
open PySem PySem.Spec PyProof.Rows L2
end DL
set_option Elab.async false
set_option linter.all false
set_option maxRecDepth 100000
namespace DL
open PySem PySem.Spec PyProof.Rows L2
theorem pd_gint {X : Cx} {x : Str} {pos : Pos} {v : Int} (hg : Gl X x) (hm : ∃ t : Tok, X.mg x = some (.int v t)) (hdb : (x == ("__debug__" : Str)) = false := by decide) : PD X (.Name x pos) (fun _ => .ok (.int v)) := by
  obtain ⟨t, h⟩ := hm
  exact pd_glob (v := .int v) hg h ⟨t, rfl⟩ (fun _ => mkI) hdb
end DL
set_option Elab.async false
set_option linter.all false
set_option maxRecDepth 100000
namespace DL
open PySem PySem.Spec PyProof.Rows L2
noncomputable def maxG : List D → Res D
  | [.int i, .int j] => .ok (.int (if j > i then j else i))
  | _ => .stuck
theorem ne_max (ds : List D) : NoErr (maxG ds) := by
  unfold maxG; split
  · exact noErr_ok
  · exact noErr_stuck
section
variable {X : Cx}
theorem cd_max (hc : X.calm = true) : CallD X (.builtin "max") maxG := .of (fun E => call_max2 (X := X.wish E) hc) fun H xs ds d Q r e q => by
  unfold maxG at e
  split at e
  · cases e
    obtain ⟨v, vs, rfl, p1, t⟩ := r.cons_of
    obtain ⟨v2, vs2, rfl, p2, t2⟩ := t.cons_of
    cases t2.nil_of
    exact ⟨_, _, by rw [repI p1, repI p2], q _ H (Same.refl H) mkI⟩
  · cases e
end
structure FunV (K : PySem.W.Frag) (x qual : Str) (st : Stmt) (f : Addr) (fd : FuncData) : Prop where
  ex : ∃ (oc : Value) (od : Option Addr) (dV kV doc pm : Value) (an : Option Addr) (cdv ct : Value) (osl : Array (Option Value)),
    fd = PySem.W.fnOf x qual (defArgs st) (defBody st) (defScope st) dV kV doc pm an cdv ct ∧ K.lookup f = some ⟨oc, od, .func fd, osl⟩ ∧ PySem.W.codeIn K cdv qual = true
  kp : PySem.W.keepIn K (.ref f) = true
section
variable {P : Program} {w : World} {K : PySem.W.Frag} {mg : Str → Option Value} {base : Heap}
theorem fun_dV {x qual : Str} {st : Stmt} {f : Addr} {fd : FuncData} {N ps : List Str} {k : Nat} {body : DS → Out} (F : FunV K x qual st f fd) (S : FnScope N ps (defScope st))
    (hb : ∀ (cdv : Value) (A : Around) (outer : List Env) (s : Shared) (H : Hp) (E : XK), Room k (A.deeper (envOfC qual (defScope st) s.heap.objs.size f cdv)) → PSDs (cxOf (CX1 P w) P w K mg base N qual (defScope st) f cdv A outer s H E) (defBody st) body) :
    FnOk P w K mg base (CX1 P w) (k + 1) f fd ps (spD K (fnD ps.length N.length body)) := by
  obtain ⟨oc, od, dV, kV, doc, pm, an, cdv, ct, osl, rfl, lk, hcd⟩ := F.ex
  refine fn_of lk hcd S (fun vs H Q E ⟨ds, r, h⟩ => ?_) fun A outer s H vs Q E hr hsp => ?_
  · rw [r.length]
    unfold fnD at h
    by_cases c : ds.length = ps.length
    · exact c
    · rw [if_neg c] at h; exact h.elim
  · obtain ⟨ds, r, h⟩ := hsp
    have c : ds.length = ps.length := by
      unfold fnD at h
      by_cases c : ds.length = ps.length
      · exact c
      · rw [if_neg c] at h; exact h.elim
    have ev : fnD ps.length N.length body ds = outD (body (startD ds.length N.length ds)) := by unfold fnD; rw [if_pos c, c]
    rw [ev] at h
    refine ⟨_, (hb cdv A outer s H E hr).tb, H, startD ds.length N.length ds, rep_start N r, fun z => ?_, fun pins fl s1 p => ?_, fun pins s2 e s1 I p => ?_⟩
    · rw [z] at h; exact h
    · cases fl with
      | next =>
        obtain ⟨δ', σ', H', q1, q2, q3, q4⟩ := p
        rw [q1] at h
        exact ⟨σ', H', q2, h .non H' q4.same mkN⟩
      | brk => obtain ⟨δ', σ', H', q1, _⟩ := p; rw [q1] at h; exact h.elim
      | cont => obtain ⟨δ', σ', H', q1, _⟩ := p; rw [q1] at h; exact h.elim
      | ret u =>
        obtain ⟨d, v, σ', H', q1, q2, q3, q4, q5, q6⟩ := p
        rw [q1] at h
        exact ⟨v, σ', H', q2, q5, h v H' q4 q6⟩
    · obtain ⟨x, δ', a, C, σ', H', q1, rfl, q3, q4, q5, q6, q7⟩ := p
      rw [q1] at h
      refine leave_fly q3 ?_ (h C H' q6 q5.same)
      refine q7.back (h0 := s.heap) (H0 := H) (H1 := H) (TK.refl H) q4 fun e n z o vs ho hd => ?_
      by_cases hf : e ∈ frs outer
      · obtain ⟨_, o', ho', hd'⟩ := I.ok.funs.mem hf
        have ho2 : s.heap.get? e = some o' := ho'
        rw [ho] at ho2
        cases ho2
        exact hd' vs hd
      · exact z o vs (I.base.keep e o ho n hf (by intro z; exact absurd z (by show e ∉ ([] : List Addr); simp))) hd
theorem FunV.binds {x qual : Str} {st : Stmt} {f : Addr} {fd : FuncData} {ps : List Str} (F : FunV K x qual st f fd)
    (h : ∀ (dV kV doc pm : Value) (an : Option Addr) (cdv ct : Value) (us : List Value), us.length = ps.length → bindArgs (PySem.W.fnOf x qual (defArgs st) (defBody st) (defScope st) dV kV doc pm an cdv ct) ⟨us, []⟩ = pure (ps.zip us)) : Binds K fd ps [] := by
  obtain ⟨oc, od, dV, kV, doc, pm, an, cdv, ct, osl, rfl, lk, hcd⟩ := F.ex
  exact .all (h dV kV doc pm an cdv ct)
theorem fun_mkV {x qual : Str} {st : Stmt} {f : Addr} {oc : Value} {od an : Option Addr} {osl : Array (Option Value)} {dV kV doc pm cdv ct : Value} (l : K.lookup f = some ⟨oc, od, .func (PySem.W.fnOf x qual (defArgs st) (defBody st) (defScope st) dV kV doc pm an cdv ct), osl⟩)
    (c : PySem.W.codeIn K cdv qual = true) (k : PySem.W.keepIn K (.ref f) = true) : FunV K x qual st f (PySem.W.fnOf x qual (defArgs st) (defBody st) (defScope st) dV kV doc pm an cdv ct) := ⟨⟨oc, od, dV, kV, doc, pm, an, cdv, ct, osl, rfl, l, c⟩, k⟩
end
end DL
set_option Elab.async false
set_option linter.all false
set_option maxRecDepth 100000
namespace DL
open PySem PySem.Spec PyProof.Rows L2
noncomputable def Ite (K : PySem.W.Frag) (l : Addr) : It :=
  ⟨fun i H => ∃ xs v, SqL K H l xs ∧ xs[i]? = some v,
   fun i H x H' => ∃ T, H T = none ∧ x = .ref T ∧ ∃ v, (∀ xs, SqL K H l xs → xs[i]? = some v) ∧ H' = upd H T (.tup [.int (i : Int), v]),
   fun i H => ∃ xs, SqL K H l xs ∧ xs.length ≤ i⟩
theorem turn_enum {P : Program} {w : World} {K : PySem.W.Frag} {elts : List Expr} {x1 : Nat} {pos : Pos} {e it l : Addr} (hei : e ≠ it) :
    Turn P w K (.Tuple elts x1 pos) (Ite K l) [e, it] e (fun i h => (∃ old, IsEnum h e it ((i : Nat) : Int) old) ∧ h.IsListIter it l i) where
  mem := by simp
  obj := fun i h st b hb => by
    obtain ⟨⟨old, g1⟩, ⟨o, g2, _, d2⟩⟩ := st
    simp only [List.mem_cons, List.not_mem_nil, or_false] at hb
    rcases hb with rfl | rfl
    · exact ⟨_, g1, fun v q => by cases q⟩
    · exact ⟨_, g2, fun v q => by rw [d2] at q; cases q⟩
  keep := fun i h h' st k => by
    obtain ⟨⟨old, g1⟩, ⟨o, g2, r2⟩⟩ := st
    exact ⟨⟨old, k e (by simp) _ g1⟩, ⟨o, k it (by simp) _ g2, r2⟩⟩
  item := by
    intro X hP hw hK hc i pins s σ H E I hf st hg
    subst hP hw hK
    obtain ⟨xs, v, hq, hx⟩ := hg
    obtain ⟨its, rv, p, hz⟩ := I.list hq
    obtain ⟨u, hu, ru⟩ := rv.get hx
    obtain ⟨⟨old, g1⟩, g2⟩ := st
    refine wpAny_pyNext_enum_item g1 g2 p.isList (x := u) (by simpa using hu) hei fun h' eo it' gT sz kk => ?_
    refine ⟨_, rfl, wpAny_letOwnedTupleGo_enum eo fun h'' ge'' sb => ?_⟩
    have fT : FpOk X pins H s.heap.objs.size := I.fpOk (Nat.le_refl _) (I.hok.fresh (Nat.le_refl _))
    have el : e < s.heap.objs.size := Heap.lt_size g1
    obtain ⟨oi, gi, ri⟩ := id g2
    have il : it < s.heap.objs.size := Heap.lt_size gi
    have ze : s.heap.objs.size ≠ e := Nat.ne_of_gt el
    have kk2 : ∀ b o, b ∉ [e, it] → s.heap.get? b = some o → h''.get? b = some o := fun b o n q => by
      simp only [List.mem_cons, List.not_mem_nil, or_false, not_or] at n
      exact (sb.2 b n.1).trans (kk b o n.1 n.2 q)
    have I1 : Inv X pins σ H { s with heap := h'', toks := s.toks + 1 } := I.butL (t' := s.toks + 1) hf kk2
    have gT2 : h''.get? s.heap.objs.size = some { cls := Value.type "tuple", data := Data.seq #[.int i s.toks, u] } := (sb.2 _ ze).trans gT
    obtain ⟨f0, f1, f2, f3, f4, f5⟩ := fT
    have I2 : Inv X pins σ (upd H s.heap.objs.size (.tup [.int (i : Int), v])) { s with heap := h'', toks := s.toks + 1 } := I1.track f0 (fun ob q _ => absurd (Nat.lt_of_lt_of_le (Heap.lt_size q) I.sz) (Nat.lt_irrefl _)) f1 f4 f5
      ⟨show 2 ≤ sizeLine by decide, [.int i s.toks, u], .cons ⟨_, rfl⟩ (.cons ru .nil), ⟨_, gT2, rfl, _, rfl⟩⟩
    refine ⟨.ref s.heap.objs.size, _, I2, rfl, ⟨_, f0, rfl, v, fun xs' h => by rw [I.list_inj h hq]; exact hx, rfl⟩, ⟨⟨u, ?_⟩, ?_⟩, fun b hb => ?_⟩
    · have : (((i + 1 : Nat)) : Int) = (i : Int) + 1 := by omega
      rw [this]; exact ge''
    · obtain ⟨o', g', r'⟩ := it'
      exact ⟨o', (sb.2 _ (Ne.symm hei)).trans g', r'⟩
    · have hb2 : b ≠ s.heap.objs.size := fun q => by
        simp only [List.mem_cons, List.not_mem_nil, or_false] at hb
        rcases hb with rfl | rfl
        · rw [q] at el; exact Nat.lt_irrefl _ el
        · rw [q] at il; exact Nat.lt_irrefl _ il
      rw [upd_ne hb2]; exact (hf b hb).1
  done := by
    intro X hP hw hK hc i pins s σ H E I hf st hg
    subst hP hw hK
    obtain ⟨xs, hq, hx⟩ := hg
    obtain ⟨its, rv, p, hz⟩ := I.list hq
    have l1 := rv.length
    obtain ⟨⟨old, g1⟩, g2⟩ := st
    refine wpAny_pyNext_enum_end (I.ok.hd hc) g1 g2 p.isList (by simp; omega) fun h' kk => ⟨rfl, I.butL (t' := s.toks) hf fun b o n q => kk b o (fun z => n (by simp [z])) q⟩
  self := fun _ _ _ _ _ st h => by
    obtain ⟨⟨old, g1⟩, _⟩ := st
    exact wpAny_pyIter_enum g1 h
noncomputable def enumD (xs : List D) : List D := xs.zipIdx.map fun p => D.tup [.int ((p.2 : Nat) : Int), p.1]
theorem enumD_get (xs : List D) (i : Nat) : (enumD xs)[i]? = xs[i]?.map fun x => D.tup [.int ((i : Nat) : Int), x] := by
  unfold enumD
  rw [List.getElem?_map, List.getElem?_zipIdx]
  cases xs[i]? <;> simp
noncomputable def enumG : List D → Res (List D)
  | [.lst xs] => .ok (enumD xs)
  | _ => .stuck
theorem yields_enum {K : PySem.W.Frag} {H : Hp} {l : Addr} {xs : List V} {ds : List D} (h1 : SqL K H l xs) (r1 : Reps K H ds xs) : Yields K (Ite K l) H (enumD ds) := by
  intro H' e
  have q1 := e.seq h1
  have p1 := r1.mono e
  refine ⟨fun i d hd => ?_, xs, q1, ?_⟩
  · rw [enumD_get] at hd
    cases z1 : ds[i]? with
    | none => rw [z1] at hd; simp at hd
    | some x =>
      rw [z1] at hd
      simp only [Option.map_some, Option.some.injEq] at hd
      subst hd
      obtain ⟨v, e1, s1⟩ := p1.get z1
      refine ⟨⟨xs, v, q1, e1⟩, fun a H'' yl => ?_⟩
      obtain ⟨T, hT, rfl, v', k1, rfl⟩ := yl
      have w1 := k1 xs q1
      rw [e1] at w1
      cases w1
      have sm := same_upd hT (.tup [.int (i : Int), v])
      exact ⟨sm, mkT (SqT.of upd_same) (.cons mkI (.cons (s1.mono sm) .nil))⟩
  · unfold enumD
    rw [List.length_map, List.length_zipIdx, r1.length]
    exact Nat.le_refl _
theorem pid_enum {X : Cx} {a : Expr} {fa : DS → Res (List D)} {p pos tp : Pos} {elts : List Expr} {x1 : Nat} (hg : Gl X "enumerate") (hm : X.mg "enumerate" = none) (ha : PAD X [a] fa) (hs : starEach [a] X.env = [(false, eval a X.env)] := by rfl) :
    PID X (.Tuple elts x1 tp) (.Call (.Name "enumerate" p) [a] [] pos) (fun δ => (fa δ).bind enumG) := by
  intro pins s σ G H δ I R hn
  try dsimp only at hn ⊢
  refine Call_ (ld_blt I hg hm boot_enumerate (PyProof.Rows.callWith_type1 (ha.use I R (bind_l hn) (fun ds us s1 vs H1 q I1 r1 e1 b1 p1 => ?_) fun e s1 q => q.same fun x z => bind_x z) (by rw [hs]; rfl) rfl))
  have h2 := bind_r hn q
  unfold enumG at h2
  split at h2
  · rename_i ds1
    obtain ⟨v, ws, rfl, w1, w2⟩ := p1.cons_of
    cases w2.nil_of
    obtain ⟨t1, xs, rfl, s1', t1'⟩ := repL w1
    cases r1 with
    | cons ra rr =>
      cases rr
      cases ra
      obtain ⟨its1, rv1, pp1, hz1⟩ := I1.list s1'
      refine call_enumerate_list pp1.isList fun h' Z Zi sz kk => ?_
      have I2 : Inv X pins σ H1 { s1 with heap := h' } := I1.kept (t' := s1.toks) kk
      refine wpAny_pyIter_enum Z ?_
      refine ⟨_, s1.heap.objs.size + 1, [s1.heap.objs.size + 1, s1.heap.objs.size], _, _, H1, by rw [q]; rfl, rfl, I2, turn_enum (Nat.succ_ne_self _), ⟨⟨.none, Z⟩, Zi⟩, fun b hb => ?_, e1, yields_enum s1' t1'⟩
      have ge : s1.heap.objs.size ≤ b := by
        simp only [List.mem_cons, List.not_mem_nil, or_false] at hb
        rcases hb with rfl | rfl
        · exact Nat.le_succ _
        · exact Nat.le_refl _
      exact I1.fpOk ge (I1.hok.fresh ge)
  · exact (h2 rfl).elim
end DL
set_option Elab.async false
set_option linter.all false
set_option maxRecDepth 100000
namespace DL
open PySem PySem.Spec PyProof.Rows L2
noncomputable def ownC (i : Nat) (f : DS → Res D) : DS → Out := fun δ => match f δ with
  | .ok (.lst ds) => .nxt (δ.set i (some (.own ds)))
  | .ok _ => .stuck
  | .err x => .err x δ
  | .stuck => .stuck
section
variable {X : Cx} {m : Nat} {fr : List Nat} {N' : List Str} {scope : Scope} {cl : List (Str × Addr)} {tg iter elt : Expr} {pos : Pos} {t : TGD} {fe : DS → Res D} {fi : DS → Res (List D)}
theorem psd_ownComp (i : Nat) {y : Str} {py spos : Pos} (W : Around' X m fr N' scope cl) (hcalm : X.calm = true) (hkt : KeepsT m t) (hi : PID X tg iter fi) (ht : ∀ C s H fp, PGD (compX X N' scope cl C s H fp) tg t) (he : ∀ C s H fp, PD (compX X N' scope cl C s H fp) elt fe)
    (hN : X.N.Nodup) (hsw : swapsWith (.ListComp elt [⟨tg, iter, [], 0⟩] scope pos) (some (.Name y py)) spos.line X.env = pure true := by rfl) (hy : X.N[i]? = some y := by rfl) (hx : Loc X.env.scope y := by first | exact Or.inl rfl | exact Or.inr rfl)
    (hfn : X.fn y = true ∨ X.env.scope.names.lookup y = some .local := by first | exact .inl rfl | exact .inr rfl | assumption) (hf : ∀ x, foldedSetIterable iter X.env x = pure x := by intro _; rfl) :
    PSD X (.Assign [.Name y py] (.ListComp elt [⟨tg, iter, [], 0⟩] scope pos) spos) (ownC i (compD m fr t fe fi)) := by
  intro pins s σ G H δ I R hs
  have hs' : compD m fr t fe fi δ ≠ .stuck := fun z => hs (by unfold ownC; rw [z])
  rw [exec_Assign_Name_used _ _ _ _ hsw]
  refine wpAny_bind (wpAny_standAt (wpAny_bind ?_))
  show wpAny _ X.A (do let _ ← comprehension (.ListComp elt [⟨tg, iter, [], 0⟩] scope pos) scope X.env _ (newList []) false (eval iter X.env) (some (assign (.Name y py) X.env))) _ _ s
  refine wpAny_bind (wpAny_mono (wpAny_comprehension_free (use := some (assign (.Name y py) X.env)) (Q := fun _ s' => SPost X pins G H (ownC i (compD m fr t fe fi) δ) .next s') rfl hf W.clos W.kind W.names
    (comp_run W hcalm hkt hi ht he I R hs' (fun e s1 q => q.sx R fun x z => by unfold ownC; rw [z]) (RR := fun acc C => compPost _ _ _ (some (assign (.Name y py) X.env)) _ acc C) ?_)) (fun _ s' hq => wpAny_pure (wpAny_pure hq)) fun _ _ e => e)
  intro a C s' H' ds xs mC ev J e' ha hx' hr hns hC hCa hC0 hCf hCl hCc hCp
  show wpAny _ X.A (assign (.Name y py) X.env (.ref a)) _ _ _
  refine wpAny_assign_Name (store_ok2 J hN hy hx (v := .ref a) (u := .ref a) rfl (fun s2 I2 ⟨b, sb, hb⟩ => ?_) hfn)
  have hbC : C ≠ b := by
    rcases hb with z | z
    · rw [z]; exact hCl
    · exact fun w => hCc _ _ z w.symm
  refine ⟨mC, hns.sameBut sb hbC, fun h' hs' => ?_⟩
  refine ⟨_, _, H', by unfold ownC; rw [ev], I2.but (t' := s2.toks) hC hC0 hCl hCc hCp hs', e'.tk, R.setOwn e' i ha hx' hr⟩
end
noncomputable def setS (i : Nat) (ds : List D) (j : Nat) (d : D) (δ : DS) : DS := (δ.map fun o => o.bind keepSV).set i (some (.own (ds.set j d)))
theorem Reps.setAt {K : PySem.W.Frag} {H : Hp} : ∀ {ds : List D} {vs : List V} (j : Nat) {d : D} {v : V}, Reps K H ds vs → Rep K H d v → Reps K H (ds.set j d) (vs.set j v)
  | [], _, _, _, _, h, _ => by cases h.nil_of; exact Reps.nil
  | a :: ds, _, 0, _, _, h, p => by
    obtain ⟨v, vs, rfl, _, q⟩ := h.cons_of
    exact Reps.cons p q
  | a :: ds, _, j + 1, _, _, h, p => by
    obtain ⟨v, vs, rfl, r, q⟩ := h.cons_of
    exact Reps.cons r (Reps.setAt j q p)
theorem RepSt.put {K : PySem.W.Frag} {G H : Hp} {σ : St} {δ : DS} {i : Nat} {ds : List D} {j : Nat} {d : D} {a : Addr} {xs : List V} {v : V} (R : RepSt K G H σ δ) (hδ : δ[i]? = some (some (.own ds))) (hσ : σ[i]? = some (some (.ref a))) (hH : H a = some (.lst xs)) (r : Reps K H ds xs) (hG : G a = none) (hf : flatDs ds = true) (hd : flatD d = true) (p : Rep K H d v) :
    RepSt K G (upd H a (.lst (xs.set j v))) σ (setS i ds j d δ) where
  same := fun b o e => by
    have hb : b ≠ a := fun z => by subst z; rw [hG] at e; cases e
    rw [upd_ne hb]; exact R.same b o e
  len := by unfold setS; rw [List.length_set, List.length_map]; exact R.len
  at_ := fun k sv h => by
    unfold setS at h
    have hl : i < δ.length := (List.getElem?_eq_some_iff.mp hδ).1
    by_cases hj : i = k
    · subst hj
      rw [List.getElem?_set_self (by rw [List.length_map]; exact hl)] at h
      cases h
      exact ⟨.ref a, hσ, a, xs.set j v, rfl, upd_same, (Reps.lset hH hf r).setAt j (Rep.lset hH hd p), hG⟩
    · rw [List.getElem?_set_ne hj] at h
      obtain ⟨sv0, q1, q2⟩ := keep_get h
      obtain ⟨u, e1, e2⟩ := R.at_ k sv0 q1
      refine ⟨u, e1, ?_⟩
      cases sv0 with
      | val d' =>
        simp only [keepSV] at q2
        split at q2
        · rename_i c; cases q2; exact Rep.lset hH c e2
        · cases q2
      | arg d' => cases q2; exact e2
      | own es =>
        simp only [keepSV] at q2
        split at q2
        · rename_i c
          cases q2
          obtain ⟨b, ys, rfl, w2, w3, w4⟩ := e2
          have hb : b ≠ a := fun z => by subst z; exact R.sep i k ds es (.ref b) hj hδ q1 hσ e1
          exact ⟨b, ys, rfl, by rw [upd_ne hb]; exact w2, Reps.lset hH c w3, w4⟩
        · cases q2
  sep := fun k l es fs u hjk h1 h2 h3 => by
    have get : ∀ (m : Nat) (gs : List D), (setS i ds j d δ)[m]? = some (some (.own gs)) → ∃ gs', δ[m]? = some (some (.own gs')) := fun m gs h => by
      unfold setS at h
      by_cases hm : i = m
      · subst hm; exact ⟨ds, hδ⟩
      · rw [List.getElem?_set_ne hm] at h
        obtain ⟨sv0, q1, q2⟩ := keep_get h
        obtain ⟨rfl, _⟩ := keep_own q2
        exact ⟨gs, q1⟩
    obtain ⟨es', g1⟩ := get k es h1
    obtain ⟨fs', g2⟩ := get l fs h2
    exact R.sep k l es' fs' u hjk g1 g2 h3
noncomputable def putD (i : Nat) (fi fe : DS → Res D) : DS → Out := fun δ => match δ[i]? with
  | some (some (.own ds)) => onD (fe δ) δ fun d => onD (fi δ) δ fun k => match k with
    | .int z => (match ixN ds.length z with
      | some j => if flatDs ds = true ∧ flatD d = true then .nxt (setS i ds j d δ) else .stuck
      | none => .stuck)
    | _ => .stuck
  | _ => .stuck
section
variable {X : Cx} {e ix : Expr} {fe fi : DS → Res D} {x : Str} {pos np sp : Pos}
theorem psd_put (i : Nat) (he : PD X e fe) (hi : PD X ix fi) (hne : ∀ δ, NoErr (fi δ)) (hN : X.N[i]? = some x := by rfl) (hv : Vis X.env.scope x := by first | exact Or.inl rfl | exact Or.inr (Or.inl rfl) | exact Or.inr (Or.inr rfl)) (hd : (x == ("__debug__" : Str)) = false := by decide)
    (hcd : (x == ("__classdict__" : Str)) = false := by decide)
    (ha : ∀ v, assign (.Subscript (.Name x np) ix sp) X.env v = (do
      let ov ← holding [v] (eval (.Name x np) X.env)
      let iv ← holding [v, ov] (eval ix X.env)
      standAt sp
      holding [v, ov, iv] (setItem ov iv v)
      release [v, ov, iv] []) := by intro _; rfl)
    (hw1 : swapsWithSole [(.Subscript (.Name x np) ix sp)] e pos.line X.env = pure false := by rfl) (hw : swappedStores [(.Subscript (.Name x np) ix sp)] e X.env = pure none := by rfl) (h1 : (assignEach [(.Subscript (.Name x np) ix sp)] X.env).map (·.2) = [assign (.Subscript (.Name x np) ix sp) X.env] := by rfl) :
    PSD X (.Assign [.Subscript (.Name x np) ix sp] e pos) (putD i fi fe) := by
  intro pins s σ G H δ I R hs
  unfold putD at hs ⊢
  split at hs
  · rename_i ds hδ
    obtain ⟨v0, hσ, a, xs, rfl, hH, r, hG⟩ := R.at_ i _ hδ
    refine wpAny_Assign_stores (he.use I R (onD_l hs) (fun d u s1 w H1 q I1 r1 e1 b1 p1 => ?_) fun e s1 q => q.sx R fun x z => by rw [z]; rfl) hw1 hw
    rw [h1]
    rw [q] at hs ⊢
    have hs2 : onD (fi δ) δ (fun k => match k with
      | .int z => (match ixN ds.length z with
        | some j => if flatDs ds = true ∧ flatD d = true then Out.nxt (setS i ds j d δ) else .stuck
        | none => .stuck)
      | _ => .stuck) ≠ .stuck := hs
    show wpAny _ _ (assign (.Subscript (.Name x np) ix sp) X.env u) _ _ _
    rw [ha]
    have hH1 := e1 a _ hH
    refine wpAny_bind (wpAny_holding (wpAny_mono (pe_var (X := X.wish fun _ _ => False) hN hv hd hcd pins s1 σ H1 (fun v' H' => v' = .ref a ∧ H' = H1) (I1.wish _) ⟨.ref a, hσ, rfl, rfl⟩) (fun ov s2 q2 => ?_) fun _ _ z => z.elim))
    obtain ⟨v', H', I2, r2, rfl, rfl⟩ := q2
    have I2' := I2.unwish
    have R1 := R.mono e1
    refine wpAny_bind (wpAny_holding (hi.use I2' R1 (onD_l hs2) (fun k u3 s3 w3 H3 q3 I3 r3 e3 b3 p3 => ?_) fun e s1 q => ?_))
    · rw [q3] at hs2 ⊢
      cases k with
      | int z =>
        have hs3 : (match ixN ds.length z with
          | some j => if flatDs ds = true ∧ flatD d = true then Out.nxt (setS i ds j d δ) else .stuck
          | none => .stuck) ≠ .stuck := hs2
        cases hj : ixN ds.length z with
        | none => rw [hj] at hs3; exact (hs3 rfl).elim
        | some j =>
          rw [hj] at hs3
          have hc : flatDs ds = true ∧ flatD d = true := by
            by_cases c : flatDs ds = true ∧ flatD d = true
            · exact c
            · dsimp only at hs3; rw [if_neg c] at hs3; exact (hs3 rfl).elim
          have hH3 := e3 a _ hH1
          rw [repI p3] at r3
          refine wpAny_bind (wpAny_standAt (wpAny_bind (wpAny_holding (wpAny_mono (set_list (X := X.wish fun _ _ => False) pins s3 σ H3 (.ref a) (.int z) w ov u3 u (fun H4 => H4 = upd H3 a (.lst (xs.set j w))) (I3.wish _) r2 r3 r1 ⟨a, xs, z, j, rfl, rfl, hH3, by rw [r.length]; exact hj, rfl⟩) (fun _ s4 q4 => ?_) fun _ _ z => z.elim))))
          obtain ⟨H4, I4, rfl⟩ := q4
          refine wpAny_release ?_
          have e13 := e1.trans e3
          have ev : (onD (Res.ok d) δ fun d => onD (Res.ok (D.int z)) δ fun k => match k with
            | .int z => (match ixN ds.length z with
              | some j => if flatDs ds = true ∧ flatD d = true then Out.nxt (setS i ds j d δ) else .stuck
              | none => .stuck)
            | _ => .stuck) = Out.nxt (setS i ds j d δ) := by
            show (match ixN ds.length z with
              | some j => if flatDs ds = true ∧ flatD d = true then Out.nxt (setS i ds j d δ) else .stuck
              | none => .stuck) = _
            rw [hj]; dsimp only; rw [if_pos hc]
          rw [ev]
          refine ⟨_, σ, _, rfl, I4.unwish, ⟨fun b ys h => ?_, fun b o u h => ?_, fun b h => ?_⟩, (R.mono e13).put hδ hσ hH3 (r.mono e13) hG hc.1 hc.2 (p1.mono e3)⟩
          · have hb : b ≠ a := fun z => by subst z; rw [hH] at h; cases h
            rw [upd_ne hb]; exact e13 b _ h
          · have hb : b ≠ a := fun z => by subst z; rw [hH] at h; cases h
            rw [upd_ne hb]; exact e13 b _ h
          · by_cases hb : b = a
            · subst hb; rw [upd_same] at h; cases h
            · rw [upd_ne hb] at h; exact e13.free h
      | _ => exact (hs2 rfl).elim
    · obtain ⟨y, _, _, _, q1, _⟩ := q
      exact (hne δ y q1).elim
  · exact (hs rfl).elim
end
end DL
set_option Elab.async false
set_option linter.all false
set_option maxRecDepth 100000
namespace DL
open PySem PySem.Spec PyProof.Rows L2
noncomputable def noX (f : DS → Res D) : DS → Res D := fun δ => match f δ with
  | .err _ => .stuck
  | r => r
theorem ne_noX (f : DS → Res D) : ∀ δ, NoErr (noX f δ) := fun δ x h => by
  unfold noX at h
  split at h
  · cases h
  · rename_i hn; exact hn x h
theorem noX_ok {f : DS → Res D} {δ : DS} {d : D} (h : f δ = .ok d) : noX f δ = .ok d := by unfold noX; rw [h]
theorem pd_noX {X : Cx} {e : Expr} {f : DS → Res D} (h : PD X e f) : PD X e (noX f) := by
  intro pins s σ G H δ I R hs
  have h1 : noX f δ = f δ := by
    unfold noX at hs ⊢
    split
    · rename_i x hx; rw [hx] at hs; exact (hs rfl).elim
    · rfl
  rw [h1] at hs ⊢
  exact h pins s σ G H δ I R hs
section
variable {X : Cx}
end
end DL
set_option Elab.async false
set_option linter.all false
set_option maxRecDepth 100000
namespace DL
open PySem PySem.Spec PyProof.Rows L2
end DL
set_option Elab.async false
set_option linter.all false
set_option maxRecDepth 100000
namespace DL
open PySem PySem.Spec PyProof.Rows L2
section
variable {X : Cx} {a b : Expr} {fa fb : DS → Res D} {x : Str} {pos pos' bp : Pos}
end
end DL
set_option Elab.async false
set_option linter.all false
set_option maxRecDepth 100000
namespace DL
open PySem PySem.Spec PyProof.Rows L2
end DL
set_option Elab.async false
set_option linter.all false
set_option maxRecDepth 100000
namespace DL
open PySem PySem.Spec PyProof.Rows L2
noncomputable def stepIx (n : Nat) (lo hi : Option Int) (k : Nat) : List Nat :=
  (List.range ((HT.sIx n n hi - HT.sIx n 0 lo + (k - 1)) / k)).map fun j => HT.sIx n 0 lo + j * k
noncomputable def stepL {α : Type} (xs : List α) (lo hi : Option Int) (k : Nat) : List α := (stepIx xs.length lo hi k).filterMap (xs[·]?)
noncomputable def stepD (d : D) (lo hi st : Option Int) : Res D := match d, st with
  | .lst ds, some k => if 1 ≤ k then .ok (.lst (stepL ds lo hi k.toNat)) else .stuck
  | _, _ => .stuck
noncomputable def stepF (fe : DS → Res D) (fl fu fs : DS → Res (Option Int)) : DS → Res D := fun δ => (fe δ).bind fun d => (fl δ).bind fun l => (fu δ).bind fun u => (fs δ).bind fun st => stepD d l u st
theorem ne_step (d : D) (lo hi st : Option Int) : NoErr (stepD d lo hi st) := by
  unfold stepD; split <;> first | exact noErr_ite noErr_ok noErr_stuck | exact noErr_stuck
theorem step_range {a b k : Nat} (hk : 1 ≤ k) : sliceRange (a : Int) (b : Int) (k : Int) = (List.range ((b - a + (k - 1)) / k)).map fun j => a + j * k := by
  unfold sliceRange
  have h1 : (k : Int) > 0 := by omega
  simp only [h1, if_true]
  have e : ((if (a : Int) < (b : Int) then ((b : Int) - a + k - 1) / k else 0) : Int).toNat = (b - a + (k - 1)) / k := by
    by_cases c : (a : Int) < b
    · rw [if_pos c]
      have : (b : Int) - a + k - 1 = ((b - a + (k - 1) : Nat) : Int) := by omega
      rw [this, ← Int.natCast_ediv, Int.toNat_natCast]
    · rw [if_neg c]
      have : b - a + (k - 1) = k - 1 := by omega
      rw [this, Nat.div_eq_of_lt (by omega)]; rfl
  rw [e]
  refine List.map_congr_left fun j _ => ?_
  exact Eq.trans (congrArg Int.toNat (show _ = ((a + j * k : Nat) : Int) from by rw [Int.mul_comm]; simp)) (Int.toNat_natCast _)
theorem step_bounds (lo hi : Option Int) (n : Nat) {k : Nat} (hk : 1 ≤ k) : sliceBounds lo hi (some (k : Int)) n = (((HT.sIx n 0 lo : Nat) : Int), ((HT.sIx n n hi : Nat) : Int), (k : Int)) := by
  have h1 : (k : Int) > 0 := by omega
  unfold sliceBounds
  simp only [Option.getD_some, h1, if_true]
  refine Prod.ext ?_ (Prod.ext ?_ rfl)
  · cases lo with
    | none => rfl
    | some i =>
      simp only [HT.sIx]
      by_cases h : i < 0
      · simp only [h, if_true]; omega
      · simp only [h, if_false]; omega
  · cases hi with
    | none => rfl
    | some i =>
      simp only [HT.sIx]
      by_cases h : i < 0
      · simp only [h, if_true]; omega
      · simp only [h, if_false]; omega
theorem pick_step (its : List Value) (lo hi : Option Int) {k : Nat} (hk : 1 ≤ k) : slicePick its.toArray lo hi (some (k : Int)) = (stepL its lo hi k).toArray := by
  unfold slicePick stepL stepIx
  rw [List.size_toArray, step_bounds lo hi _ hk]
  simp only []
  rw [step_range hk]
  congr 1
  simp only [List.getElem?_toArray]
theorem reps_pick {K : PySem.W.Frag} {H : Hp} {ds : List D} {vs : List V} (h : Reps K H ds vs) : ∀ is : List Nat, Reps K H (is.filterMap (ds[·]?)) (is.filterMap (vs[·]?))
  | [] => .nil
  | i :: is => by
    have ih := reps_pick h is
    cases e : ds[i]? with
    | none =>
      have hv : vs[i]? = none := by
        rw [List.getElem?_eq_none_iff] at e ⊢
        rw [h.length]; exact e
      rw [List.filterMap_cons_none e, List.filterMap_cons_none hv]; exact ih
    | some d =>
      obtain ⟨v, e1, s1⟩ := h.get e
      rw [List.filterMap_cons_some e, List.filterMap_cons_some e1]
      exact .cons s1 ih
theorem vals_pick {vs : List V} {us : List Value} (h : Vals vs us) : ∀ is : List Nat, Vals (is.filterMap (vs[·]?)) (is.filterMap (us[·]?))
  | [] => .nil
  | i :: is => by
    have ih := vals_pick h is
    cases e : vs[i]? with
    | none =>
      have hv : us[i]? = none := by
        rw [List.getElem?_eq_none_iff] at e ⊢
        rw [← h.length]; exact e
      rw [List.filterMap_cons_none e, List.filterMap_cons_none hv]; exact ih
    | some v =>
      obtain ⟨u, e1, s1⟩ := h.get e
      rw [List.filterMap_cons_some e, List.filterMap_cons_some e1]
      exact .cons s1 ih
theorem stepL_len {α : Type} (xs : List α) (lo hi : Option Int) {k : Nat} (hk : 1 ≤ k) : (stepL xs lo hi k).length ≤ xs.length := by
  unfold stepL
  refine Nat.le_trans (List.length_filterMap_le _ _) ?_
  unfold stepIx
  rw [List.length_map, List.length_range]
  have h := HT.sIx_le xs.length xs.length (Nat.le_refl _) hi
  have : (HT.sIx xs.length xs.length hi - HT.sIx xs.length 0 lo + (k - 1)) / k ≤ HT.sIx xs.length xs.length hi - HT.sIx xs.length 0 lo := by
    generalize HT.sIx xs.length xs.length hi - HT.sIx xs.length 0 lo = m
    rcases Nat.eq_zero_or_pos m with z | z
    · rw [z, Nat.zero_add, Nat.div_eq_of_lt (by omega)]; exact Nat.le_refl _
    · refine Nat.div_le_of_le_mul ?_
      have h5 : m * 1 + 1 * (k - 1) ≤ k * m + 0 := by
        have h6 : (m - 1) * (k - 1) + m + k = m * k + 1 := by
          obtain ⟨a, rfl⟩ : ∃ a, m = a + 1 := ⟨m - 1, by omega⟩
          obtain ⟨b, rfl⟩ : ∃ b, k = b + 1 := ⟨k - 1, by omega⟩
          simp only [Nat.add_sub_cancel]
          grind
        have h7 : k * m = m * k := Nat.mul_comm ..
        omega
      omega
  omega
section
variable {X : Cx} {e : Expr} {fe : DS → Res D} {lo hi : Option Expr} {st : Expr} {fl fu fs : DS → Res (Option Int)} {pos p2 : Pos}
theorem pd_step (he : PD X e fe) (hl : POD X lo fl) (hu : POD X hi fu) (ht : POD X (some st) fs) : PD X (.Subscript e (.Slice lo hi (some st) p2) pos) (stepF fe fl fu fs) := by
  intro pins s σ G H δ I R hs
  unfold stepF at hs ⊢
  refine Subscript_ (he.use I R (bind_l hs) (fun d v s1 x H1 q I1 r1 e1 b1 p1 => ?_) fun e s1 q => q.same fun x z => bind_x z)
  have h2 := bind_r hs q
  rw [q, Res.bind_ok]
  refine wpAny_Slice (hl.use I1 (R.mono e1) (bind_l h2) (fun l vl s2 H2 q2 I2 pl e2 b2 => ?_) fun e s2 p => p.back e1 b1 fun x z => bind_x z)
  have h3 := bind_r h2 q2
  rw [q2, Res.bind_ok]
  refine hu.use I2 ((R.mono e1).mono e2) (bind_l h3) (fun u vu s3 H3 q3 I3 pu e3 b3 => ?_) fun e s3 p => (p.back e2 b2 (r' := (fu δ).bind fun u => (fs δ).bind fun st => stepD d l u st) fun x z => bind_x z).back e1 b1 fun x z => z
  have h4 := bind_r h3 q3
  rw [q3, Res.bind_ok]
  refine ht.use I3 (((R.mono e1).mono e2).mono e3) (bind_l h4) (fun k vk s4 H4 q4 I4 pk e4 b4 => ?_) fun e s4 p => ((p.back e3 b3 (r' := (fs δ).bind fun st => stepD d l u st) fun x z => bind_x z).back e2 b2 (r' := (fs δ).bind fun st => stepD d l u st) fun x z => z).back e1 b1 fun x z => z
  have h5 := bind_r h4 q4
  rw [q4, Res.bind_ok]
  have I5 : Inv X pins σ H4 { s4 with heap := s4.heap.push { cls := .type "slice", data := .fields #[vl, vu, vk] } } := I4.kept (t' := s4.toks) fun b ob q => Heap.get?_push_of_some _ q
  cases qg : stepD d l u k with
  | stuck => exact (h5 qg).elim
  | err z => exact (ne_step d l u k z qg).elim
  | ok r =>
    unfold stepD at qg
    split at qg
    · rename_i ds kk
      split at qg
      · rename_i k1
        cases qg
        obtain ⟨n, rfl⟩ := Int.eq_ofNat_of_zero_le (show 0 ≤ kk by omega)
        have n1 : 1 ≤ n := by omega
        obtain ⟨a, xs, rfl, hq, rr⟩ := repL (((p1.mono e2).mono e3).mono e4)
        cases r1
        obtain ⟨its, r, hti, hz⟩ := I5.list hq
        have hlen := r.length
        show wpAny (model X.prog X.w) X.A (subscriptTail e (.Slice lo hi (some st) p2) (.ref a) (.ref s4.heap.objs.size)) _ _ { s4 with heap := s4.heap.push { cls := .type "slice", data := .fields #[vl, vu, vk] } }
        refine tail_any (ops := [.ref a, .ref s4.heap.objs.size]) hti.isList.typeIs slot_list_getitem.lookup ?_ (by with_unfolding_all rfl)
        refine wpAny_getItem_list_slice hti.isList (Heap.IsSliceOf.new ..) pl pu pk (by simp; omega) ?_ (by rw [List.size_toArray] <;> omega)
        rw [pick_step its l u n1]
        have hf := I5.hok.fresh (Nat.le_refl _)
        refine ⟨.lst (stepL ds l u n), .ref _, _, rfl, I5.laid (t' := s4.toks) (o := .lst (stepL xs l u n)) (fun b ob q => Heap.get?_push_of_some _ q) (Nat.le_refl _) ?_, rfl, (((e1.trans e2).trans e3).trans e4).trans (same_upd hf _), ?_⟩
        · refine ⟨Nat.le_trans (stepL_len xs l u n1) hz, _, 0, ?_, Heap.get?_push_size _ rfl⟩
          unfold stepL
          rw [hlen]
          exact vals_pick r _
        · have : Reps X.K H4 (stepL ds l u n) (stepL xs l u n) := by
            unfold stepL
            rw [rr.length]
            exact reps_pick rr _
          exact mkL (SqL.of upd_same) (this.mono (same_upd hf _))
      · cases qg
    · cases qg
end
end DL
set_option Elab.async false
set_option linter.all false
set_option maxRecDepth 100000
namespace DL
open PySem PySem.Spec PyProof.Rows L2
section
variable {X : Cx} {tg : Expr}
end
section
variable {X : Cx} {tg : Expr} {t : TGD} {body : List Stmt} {fb : DS → Out} {pos : Pos} {G H : Hp} {E : Ends}
end
end DL
set_option Elab.async false
set_option linter.all false
set_option maxRecDepth 100000
namespace DL
open PySem PySem.Spec PyProof.Rows L2
end DL
set_option Elab.async false
set_option linter.all false
set_option maxRecDepth 100000
namespace DL
open PySem PySem.Spec PyProof.Rows L2
noncomputable def INew (X : Cx) (pins : List (Addr × Obj)) (σ : St) (H : Hp) (tg : Expr) (r : Res (List D)) (itv : Value) (s2 : Shared) : Prop :=
  ∃ (ds : List D) (it : Addr) (fp : List Addr) (tn : Nat → Heap → Prop) (J : It) (H' : Hp) (a : Addr) (ob : Obj) (u : HO), r = .ok ds ∧ itv = .ref it ∧ Inv X pins σ H' s2 ∧ Turn X.prog X.w X.K tg J fp it tn ∧ tn 0 s2.heap ∧ (∀ b ∈ fp, FpOk X pins H' b) ∧ Same H H' ∧ H' a = some (.frz ob u) ∧
    ∀ G : Hp, G a = some (.frz ob u) → Yields X.K J G ds
noncomputable def PIN (X : Cx) (tg iter : Expr) (f : DS → Res (List D)) : Prop :=
  ∀ (pins : List (Addr × Obj)) (s : Shared) (σ : St) (G H : Hp) (δ : DS), Inv X pins σ H s → RepSt X.K G H σ δ → f δ ≠ .stuck →
    wpAny (model X.prog X.w) X.A (eval iter X.env) (fun v s1 => wpAny (model X.prog X.w) X.A (pyIter v) (INew X pins σ H tg (f δ)) (XPost X pins σ H s.heap (f δ)) s1) (XPost X pins σ H s.heap (f δ)) s
section
variable {X : Cx} {e : Expr} {fe : DS → Res D} {lo hi : Option Expr} {st : Expr} {fl fu fs : DS → Res (Option Int)} {pos p2 : Pos}
end
theorem PIN.pi {X : Cx} {tg iter : Expr} {f : DS → Res (List D)} (h : PIN X tg iter f) : PI X.nox tg iter (fun σ H R => ∃ G δ ds, RepSt X.K G H σ δ ∧ f δ = .ok ds ∧ ∀ J H' a ob u, Same H H' → H' a = some (.frz ob u) → (∀ G : Hp, G a = some (.frz ob u) → Yields X.K J G ds) → R J H') := by
  intro pins s σ H R I ⟨G, δ, ds, RR, q, n⟩
  refine wpAny_mono (h pins s σ G H δ I.unwish RR (by rw [q]; intro z; cases z)) (fun v s1 p => ?_) fun e s1 p => ?_
  · refine wpAny_mono p (fun itv s2 ⟨ds', it, fp, tn, J, H', a, ob, u, q1, q2, I2, T, t0, hf, e2, w2, y⟩ => ?_) fun e s2 p => ?_
    · rw [q] at q1; cases q1
      exact ⟨it, fp, tn, J, H', q2, I2.wish _, T, t0, hf, n J H' a ob u e2 w2 y⟩
    · rw [q] at p; exact p.none
  · rw [q] at p; exact p.none
section
variable {X : Cx} {tg iter : Expr} {body : List Stmt} {t : TGD} {fb : DS → Out} {pos : Pos}
end
end DL
set_option Elab.async false
set_option linter.all false
set_option maxRecDepth 100000
namespace DL
open PySem PySem.Spec PyProof.Rows L2
end DL
set_option Elab.async false
set_option linter.all false
set_option maxRecDepth 100000
namespace DL
open PySem PySem.Spec PyProof.Rows L2
theorem vals_snoc {vs : List V} {us : List Value} (h : Vals vs us) (i : Int) (t : Tok) : Vals (vs ++ [V.int i]) (us ++ [.int i t]) := by
  induction h with
  | nil => exact .cons ⟨t, rfl⟩ .nil
  | cons h r ih => exact .cons h ih
section
variable {X : Cx} {e : Expr} {es : List Expr} {fs : DS → Res (List D)} {F : List D → Res D} {k : Nat} {f : Addr} {fd : FuncData} {ps : List Str} {x : Str} {p pos : Pos}
theorem pd_callD {i : Int} {t : Tok} (Fn : FnOk X.prog X.w X.K X.mg X.base (CX1 X.prog X.w) k f fd ps (spD X.K F)) (hr : Room k X.A) (hg : Gl X x) (hm : X.mg x = some (.ref f)) (hk : PySem.W.keepIn X.K (.ref f) = true) (hb : Binds X.K fd ps [.int i t]) (ha : PAD X (e :: es) fs)
    (hdb : (x == ("__debug__" : Str)) = false := by decide) (he : starEach (e :: es) X.env = (false, eval e X.env) :: starEach es X.env := by rfl) (hpl : (backTo pos (starEach es X.env)).any (·.1) = false := by rfl) :
    PD X (.Call (.Name x p) (e :: es) [] pos) (bindF fs fun ds => F (ds ++ [.int i])) := by
  intro pins s σ G H δ I R hs
  unfold bindF at hs ⊢
  refine wpAny_Call_Name_kw (ld_glob I hg hm ?_ hdb)
  refine PySem.W.callWith_K (h₀ := X.base) I.ok.mod.kin hk (ha.use I R (bind_l hs) (fun ds us s1 vs H1 q I1 r1 e1 b1 p1 => ⟨I1.kIn, ?_⟩) fun e s1 q => q.same fun x z => bind_x z) he hpl
  have h2 := bind_r hs q
  have r1' := vals_snoc r1 i t
  have p1' : Reps X.K H1 (ds ++ [.int i]) (vs ++ [V.int i]) := p1.append (Reps.cons mkI Reps.nil)
  have ev : (fs δ).bind (fun ds => F (ds ++ [.int i])) = F (ds ++ [.int i]) := by rw [q]; rfl
  cases qg : F (ds ++ [.int i]) with
  | stuck => exact (h2 qg).elim
  | ok d =>
    have hsp : spD X.K F (vs ++ [V.int i]) H1 (fun v H' => Same H1 H' ∧ Rep X.K H' d v) (fun _ _ _ => False) := ⟨_, p1', by rw [qg]; exact fun v H' a b => ⟨a, b⟩⟩
    have hl : (us ++ [Value.int i t]).length = ps.length := by rw [← r1'.length]; exact Fn.len _ _ _ _ hsp
    refine wpAny_call (codeAny_mono (Fn.run X.A X.stack s1 H1 ⟨us, []⟩ _ _ _ _ hr I1.env0 (hb s1 us I1.kIn hl) r1' hsp) fun r s' hq => ?_)
    cases r with
    | error e => obtain ⟨_, _, _, _, _, _, _, _, _, z⟩ := hq; exact z.elim
    | ok fl =>
      cases fl with
      | ret u =>
        obtain ⟨v, H', I', r', e', p'⟩ := I1.after hq
        exact ⟨d, v, H', ev.trans qg, I', r', e1.trans e', p'⟩
      | next => exact False.elim hq
      | brk => exact False.elim hq
      | cont => exact False.elim hq
  | err z =>
    have hsp : spD X.K F (vs ++ [V.int i]) H1 (fun v H' => False) (fun Cv _ H' => ∃ C, Cv = .ref C ∧ PySem.W.nsIn X.K mainGlobals z.cls = some (some (.ref C)) ∧ Same H1 H') := ⟨_, p1', by rw [qg]; exact fun C H' a b => ⟨C, rfl, a, b⟩⟩
    have hl : (us ++ [Value.int i t]).length = ps.length := by rw [← r1'.length]; exact Fn.len _ _ _ _ hsp
    refine wpAny_call (codeAny_mono (Fn.run X.A X.stack s1 H1 ⟨us, []⟩ _ _ _ _ hr I1.env0 (hb s1 us I1.kIn hl) r1' hsp) fun r s' hq => ?_)
    cases r with
    | error e =>
      obtain ⟨a, Cv, H', rfl, os, bare, un, hok, fly, C, rfl, hC, sm⟩ := hq
      exact ⟨z, a, C, H', ev.trans qg, rfl, I1.call' (ch := []) os un hok bare (fun b z => absurd z (by simp)), e1.trans sm, hC, fly.back e1.tk sm.tk b1⟩
    | ok fl =>
      cases fl with
      | ret u =>
        obtain ⟨v, H', _, _, _, _, _, z⟩ := hq
        exact z.elim
      | next => exact False.elim hq
      | brk => exact False.elim hq
      | cont => exact False.elim hq
end
end DL
namespace Mine
noncomputable def isq : Nat → Nat
  | 0 => 0
  | n + 1 => if (isq n + 1) * (isq n + 1) ≤ n + 1 then isq n + 1 else isq n
theorem isq_spec (n : Nat) : isq n * isq n ≤ n ∧ n < (isq n + 1) * (isq n + 1) := by
  induction n with
  | zero => exact ⟨Nat.le_refl 0, by decide⟩
  | succ n ih =>
    obtain ⟨lo, hi⟩ := ih
    rw [isq]
    generalize isq n = k at *
    by_cases h : (k + 1) * (k + 1) ≤ n + 1
    · rw [if_pos h]
      refine ⟨h, ?_⟩
      have e : (k + 1 + 1) * (k + 1 + 1) = (k + 1) * (k + 1) + 2 * k + 3 := by
        rw [Nat.add_mul, Nat.mul_add (k + 1) (k + 1) 1]; omega
      omega
    · rw [if_neg h]
      omega
noncomputable def wroot (n : Int) : Int := (isq n.toNat : Nat)
theorem wroot_nonneg (n : Int) : 0 ≤ wroot n := Int.natCast_nonneg _
theorem wroot_spec {n : Int} (h : 0 ≤ n) : wroot n * wroot n ≤ n ∧ n < (wroot n + 1) * (wroot n + 1) := by
  obtain ⟨a, b⟩ := isq_spec n.toNat
  unfold wroot
  generalize isq n.toNat = k at *
  have e : ((k : Int) * k) = ((k * k : Nat) : Int) := by simp
  have e2 : (((k : Int) + 1) * ((k : Int) + 1)) = (((k + 1) * (k + 1) : Nat) : Int) := by simp
  rw [e, e2]
  omega
theorem le_of_sq {a b : Int} (hb : 0 ≤ b) (h : a * a < (b + 1) * (b + 1)) : a ≤ b := by
  by_cases c : a ≤ b
  · exact c
  · have p : b + 1 ≤ a := by omega
    have q := Int.mul_le_mul p p (by omega) (by omega)
    omega
theorem div2 (n : Int) : Int.fdiv n 2 = n / 2 := Int.fdiv_eq_ediv_of_nonneg n (by decide)
theorem newton {n g : Int} (hn : 0 ≤ n) (hg : wroot n ≤ g) (h : n < g * g) (g0 : 0 ≤ g) :
    wroot n ≤ Int.fdiv (g + Int.fdiv n g) 2 ∧ 0 ≤ Int.fdiv (g + Int.fdiv n g) 2 ∧ Int.fdiv (g + Int.fdiv n g) 2 < g ∧ 0 < g := by
  have gp : 0 < g := by
    rcases Int.lt_or_eq_of_le g0 with c | c
    · exact c
    · rw [← c] at h; omega
  obtain ⟨a, _⟩ := wroot_spec hn
  have r0 := wroot_nonneg n
  rw [div2, Int.fdiv_eq_ediv_of_nonneg n g0]
  generalize wroot n = r at *
  have q1 : n / g < g := Int.ediv_lt_of_lt_mul gp h
  have q0 : 0 ≤ n / g := Int.ediv_nonneg hn g0
  have sq : 0 ≤ (g - r) * (g - r) := Int.mul_nonneg (by omega) (by omega)
  have ex : (g - r) * (g - r) = g * g - 2 * (g * r) + r * r := by
    rw [Int.sub_mul, Int.mul_sub, Int.mul_sub, Int.mul_comm r g]; omega
  have ex2 : (2 * r - g) * g = 2 * (g * r) - g * g := by
    rw [Int.sub_mul, Int.mul_assoc, Int.mul_comm r g]
  have q2 : 2 * r - g ≤ n / g := (Int.le_ediv_iff_mul_le gp).mpr (by omega)
  omega
theorem newton_end {n g : Int} (hn : 0 ≤ n) (hg : wroot n ≤ g) (h : ¬ n < g * g) (g0 : 0 ≤ g) : g = wroot n := by
  obtain ⟨_, b⟩ := wroot_spec hn
  have := le_of_sq (wroot_nonneg n) (Int.lt_of_le_of_lt (by omega : g * g ≤ n) b)
  omega
noncomputable def cm (a b : Int) : Int := (Int.gcd a b : Nat)
end Mine
set_option Elab.async false
set_option linter.all false
set_option maxRecDepth 100000
namespace DL
open PySem PySem.Spec PyProof.Rows L2
theorem ap_seq (a b : DS → Out) (δ : DS) : seqD a b δ = (a δ).seq b := Eq.trans rfl rfl
theorem bnd_ok {α β : Type} (a : α) (f : α → Res β) : (Res.ok a).bind f = f a := Eq.trans rfl rfl
theorem sq_nxt (δ : DS) (g : DS → Out) : (Out.nxt δ).seq g = g δ := Eq.trans rfl rfl
theorem sq_ret (d : D) (g : DS → Out) : (Out.ret d).seq g = .ret d := Eq.trans rfl rfl
theorem ap_set (i : Nat) (f : DS → Res D) (δ : DS) : setD i f δ = onD (f δ) δ fun d => .nxt (δ.set i (some (.val d))) := Eq.trans rfl rfl
theorem on_ok (d : D) (δ : DS) (k : D → Out) : onD (.ok d) δ k = k d := Eq.trans rfl rfl
theorem ont_ok (c : Bool) (δ : DS) (k : Bool → Out) : onT (.ok c) δ k = k c := Eq.trans rfl rfl
theorem onl_ok (ds : List D) (k : List D → Out) : onL (.ok ds) k = k ds := Eq.trans rfl rfl
theorem ap_if (t : DS → Res Bool) (a b : DS → Out) (δ : DS) : ifS t a b δ = onT (t δ) δ fun k => if k = true then a δ else b δ := Eq.trans rfl rfl
theorem ap_two (fa fb : DS → Res D) (g : D → D → Res D) (δ : DS) : two fa fb g δ = (fa δ).bind fun x => (fb δ).bind fun y => g x y := Eq.trans rfl rfl
theorem ap_bF {α : Type} (f : DS → Res α) (g : α → Res D) (δ : DS) : bindF f g δ = (f δ).bind g := Eq.trans rfl rfl
theorem ap_bT (f : DS → Res D) (g : D → Res Bool) (δ : DS) : bindT f g δ = (f δ).bind g := Eq.trans rfl rfl
theorem ap_bL (f : DS → Res D) (g : D → Res (List D)) (δ : DS) : bindL f g δ = (f δ).bind g := Eq.trans rfl rfl
theorem ap_bR (f : DS → Res (List D)) (g : List D → Res (List D)) (δ : DS) : bindRg f g δ = (f δ).bind g := Eq.trans rfl rfl
theorem ap_cons (f : DS → Res D) (fs : DS → Res (List D)) (δ : DS) : consD f fs δ = (f δ).bind fun d => (fs δ).bind fun ds => .ok (d :: ds) := Eq.trans rfl rfl
theorem ap_tup (f : DS → Res (List D)) (δ : DS) : tupF f δ = tupD (f δ) := Eq.trans rfl rfl
theorem ap_lst (f : DS → Res (List D)) (δ : DS) : lstF f δ = lstD (f δ) := Eq.trans rfl rfl
theorem ap_ret (f : DS → Res D) (δ : DS) : retD f δ = onD (f δ) δ Out.ret := Eq.trans rfl rfl
theorem ap_neg (f : DS → Res D) (δ : DS) : negF f δ = (f δ).bind negG := Eq.trans rfl rfl
theorem neg_ok (i : Int) : negG (.int i) = .ok (.int (-i)) := Eq.trans rfl rfl
theorem ap_notT (f : DS → Res Bool) (δ : DS) : notT f δ = (f δ).bind fun c => .ok (!c) := Eq.trans rfl rfl
theorem ap_orT (f g : DS → Res Bool) (δ : DS) : orT f g δ = (f δ).bind fun c => if c = true then .ok true else g δ := Eq.trans rfl rfl
theorem ap_andV (f g : DS → Res D) (δ : DS) : andV f g δ = (f δ).bind fun x => (boolD x).bind fun c => if c = true then g δ else .ok (.bl false) := Eq.trans rfl rfl
theorem ap_ifD (t : DS → Res Bool) (f g : DS → Res D) (δ : DS) : ifD t f g δ = (t δ).bind fun c => if c = true then f δ else g δ := Eq.trans rfl rfl
theorem ap_for (t : TGD) (fi : DS → Res (List D)) (b : DS → Out) (δ : DS) : forS t fi b δ = onL (fi δ) fun ds => thawO (forD t b ds (thaw δ)) := Eq.trans rfl rfl
theorem ap_forR (r : List D → Res (List D)) (t : TGD) (a : DS → Res (List D)) (b : DS → Out) (δ : DS) : forR r t a b δ = onL ((a δ).bind r) fun ds => forD t b ds δ := Eq.trans rfl rfl
theorem ap_slice (fe : DS → Res D) (fl fu : DS → Res (Option Int)) (δ : DS) : sliceF fe fl fu δ = (fe δ).bind fun d => (fl δ).bind fun l => (fu δ).bind fun u => cutD d l u := Eq.trans rfl rfl
theorem ap_part (f : DS → Res D) (δ : DS) : partF f δ = (f δ).bind partG := Eq.trans rfl rfl
theorem ap_noPart (δ : DS) : noPart δ = .ok none := Eq.trans rfl rfl
theorem part_int (i : Int) : partG (.int i) = .ok (some i) := Eq.trans rfl rfl
theorem out_ret (d : D) : outD (.ret d) = .ok d := Eq.trans rfl rfl
theorem cmp_ok (p : Int → Int → Bool) (i j : Int) : cmpD p (.int i) (.int j) = .ok (.bl (p i j)) := Eq.trans rfl rfl
theorem add_ok (i j : Int) : addD (.int i) (.int j) = .ok (.int (i + j)) := Eq.trans rfl rfl
theorem sub_ok (i j : Int) : subD (.int i) (.int j) = .ok (.int (i - j)) := Eq.trans rfl rfl
theorem bool_ok (b : Bool) : boolD (.bl b) = .ok b := Eq.trans rfl rfl
theorem truth_bl (b : Bool) : truthD (.bl b) = .ok b := Eq.trans rfl rfl
theorem abs_ok (i : Int) : absG [.int i] = .ok (.int (i.natAbs : Nat)) := by
  show Res.ok (D.int _) = _
  congr 2
  split <;> omega
theorem len_tup (ds : List D) : lenG [.tup ds] = .ok (.int ds.length) := Eq.trans rfl rfl
theorem len_lst (ds : List D) : lenG [.lst ds] = .ok (.int ds.length) := Eq.trans rfl rfl
theorem tuple_lst (ds : List D) : tupleG [.lst ds] = .ok (.tup ds) := Eq.trans rfl rfl
theorem seq_tup (ds : List D) : seqItems (.tup ds) = .ok ds := Eq.trans rfl rfl
theorem seq_lst (ds : List D) : seqItems (.lst ds) = .ok ds := Eq.trans rfl rfl
theorem vw_val (d : D) : SV.view (.val d) = d := Eq.trans rfl rfl
theorem vw_arg (d : D) : SV.view (.arg d) = d := Eq.trans rfl rfl
theorem eqI (a b : Int) : eqD (.int a) (.int b) = .ok (.bl (decide (a = b))) := Eq.trans rfl rfl
theorem neI (a b : Int) : neD (.int a) (.int b) = .ok (.bl (!decide (a = b))) := Eq.trans rfl rfl
theorem modI {a b : Int} (h : b ≠ 0) : modD (.int a) (.int b) = .ok (.int (Int.fmod a b)) := by unfold modD; exact if_pos h
theorem mulI {a b : Int} (h : a.natAbs < 2 ^ 1000) (h2 : b.natAbs < 2 ^ 1000) : mulD (.int a) (.int b) = .ok (.int (a * b)) := by
  unfold mulD
  have e : 1000 ≤ 2 ^ 20 := by decide
  exact if_pos (.inl ⟨Nat.le_trans (intBits_le h) e, Nat.le_trans (intBits_le h2) e⟩)
theorem mulR {a b : Int} (h : b.natAbs < 2 ^ 64) : mulD (.int a) (.int b) = .ok (.int (a * b)) := by
  unfold mulD
  exact if_pos (.inr (.inr (intBits_le h)))
theorem mulE_i (a b : Int) : mulE (.int a) (.int b) = mulD (.int a) (.int b) := Eq.trans rfl rfl
theorem ap_while (fuel : DS → Nat) (c : DS → Res Bool) (b : DS → Out) (δ : DS) : whileF fuel c b δ = whileD c b (fuel δ) δ := Eq.trans rfl rfl
theorem log_lt {y : Int} (h : y.natAbs < 2 ^ 8000) : y.natAbs.log2 < 9000 := by
  by_cases c : y.natAbs = 0
  · rw [c]; decide
  · have := (Nat.log2_lt c).mpr h; omega
theorem fdivI {a b : Int} (h : b ≠ 0) (h2 : b.natAbs < 2 ^ 8000) : fdivD (.int a) (.int b) = .ok (.int (Int.fdiv a b)) := by
  unfold fdivD; exact if_pos ⟨h, PyProof.noPylong_of_log2 (log_lt h2)⟩
theorem cN0 : ((0 : Nat) : Int) = 0 := Eq.trans rfl rfl
theorem cN1 : ((1 : Nat) : Int) = 1 := Eq.trans rfl rfl
theorem sl0 (sv : SV) (r : DS) : slotD 0 (some sv :: r) = .ok sv.view := Eq.trans rfl rfl
theorem st0 (y x : Option SV) (r : DS) : List.set (y :: r) 0 x = x :: r := Eq.trans rfl rfl
theorem sl1 (a0 : Option SV) (sv : SV) (r : DS) : slotD 1 (a0 :: some sv :: r) = .ok sv.view := Eq.trans rfl rfl
theorem st1 (a0 : Option SV) (y x : Option SV) (r : DS) : List.set (a0 :: y :: r) 1 x = a0 :: x :: r := Eq.trans rfl rfl
theorem sl2 (a0 a1 : Option SV) (sv : SV) (r : DS) : slotD 2 (a0 :: a1 :: some sv :: r) = .ok sv.view := Eq.trans rfl rfl
theorem st2 (a0 a1 : Option SV) (y x : Option SV) (r : DS) : List.set (a0 :: a1 :: y :: r) 2 x = a0 :: a1 :: x :: r := Eq.trans rfl rfl
theorem sl3 (a0 a1 a2 : Option SV) (sv : SV) (r : DS) : slotD 3 (a0 :: a1 :: a2 :: some sv :: r) = .ok sv.view := Eq.trans rfl rfl
theorem st3 (a0 a1 a2 : Option SV) (y x : Option SV) (r : DS) : List.set (a0 :: a1 :: a2 :: y :: r) 3 x = a0 :: a1 :: a2 :: x :: r := Eq.trans rfl rfl
theorem sl4 (a0 a1 a2 a3 : Option SV) (sv : SV) (r : DS) : slotD 4 (a0 :: a1 :: a2 :: a3 :: some sv :: r) = .ok sv.view := Eq.trans rfl rfl
theorem st4 (a0 a1 a2 a3 : Option SV) (y x : Option SV) (r : DS) : List.set (a0 :: a1 :: a2 :: a3 :: y :: r) 4 x = a0 :: a1 :: a2 :: a3 :: x :: r := Eq.trans rfl rfl
theorem sl5 (a0 a1 a2 a3 a4 : Option SV) (sv : SV) (r : DS) : slotD 5 (a0 :: a1 :: a2 :: a3 :: a4 :: some sv :: r) = .ok sv.view := Eq.trans rfl rfl
theorem st5 (a0 a1 a2 a3 a4 : Option SV) (y x : Option SV) (r : DS) : List.set (a0 :: a1 :: a2 :: a3 :: a4 :: y :: r) 5 x = a0 :: a1 :: a2 :: a3 :: a4 :: x :: r := Eq.trans rfl rfl
theorem sl6 (a0 a1 a2 a3 a4 a5 : Option SV) (sv : SV) (r : DS) : slotD 6 (a0 :: a1 :: a2 :: a3 :: a4 :: a5 :: some sv :: r) = .ok sv.view := Eq.trans rfl rfl
theorem st6 (a0 a1 a2 a3 a4 a5 : Option SV) (y x : Option SV) (r : DS) : List.set (a0 :: a1 :: a2 :: a3 :: a4 :: a5 :: y :: r) 6 x = a0 :: a1 :: a2 :: a3 :: a4 :: a5 :: x :: r := Eq.trans rfl rfl
theorem sl7 (a0 a1 a2 a3 a4 a5 a6 : Option SV) (sv : SV) (r : DS) : slotD 7 (a0 :: a1 :: a2 :: a3 :: a4 :: a5 :: a6 :: some sv :: r) = .ok sv.view := Eq.trans rfl rfl
theorem st7 (a0 a1 a2 a3 a4 a5 a6 : Option SV) (y x : Option SV) (r : DS) : List.set (a0 :: a1 :: a2 :: a3 :: a4 :: a5 :: a6 :: y :: r) 7 x = a0 :: a1 :: a2 :: a3 :: a4 :: a5 :: a6 :: x :: r := Eq.trans rfl rfl
theorem sl8 (a0 a1 a2 a3 a4 a5 a6 a7 : Option SV) (sv : SV) (r : DS) : slotD 8 (a0 :: a1 :: a2 :: a3 :: a4 :: a5 :: a6 :: a7 :: some sv :: r) = .ok sv.view := Eq.trans rfl rfl
theorem st8 (a0 a1 a2 a3 a4 a5 a6 a7 : Option SV) (y x : Option SV) (r : DS) : List.set (a0 :: a1 :: a2 :: a3 :: a4 :: a5 :: a6 :: a7 :: y :: r) 8 x = a0 :: a1 :: a2 :: a3 :: a4 :: a5 :: a6 :: a7 :: x :: r := Eq.trans rfl rfl
theorem sl9 (a0 a1 a2 a3 a4 a5 a6 a7 a8 : Option SV) (sv : SV) (r : DS) : slotD 9 (a0 :: a1 :: a2 :: a3 :: a4 :: a5 :: a6 :: a7 :: a8 :: some sv :: r) = .ok sv.view := Eq.trans rfl rfl
theorem tup1 (x0 : D) : tupD (.ok [x0]) = .ok (.tup [x0]) := Eq.trans rfl rfl
theorem tup2 (x0 x1 : D) : tupD (.ok [x0, x1]) = .ok (.tup [x0, x1]) := Eq.trans rfl rfl
theorem tup3 (x0 x1 x2 : D) : tupD (.ok [x0, x1, x2]) = .ok (.tup [x0, x1, x2]) := Eq.trans rfl rfl
theorem tup4 (x0 x1 x2 x3 : D) : tupD (.ok [x0, x1, x2, x3]) = .ok (.tup [x0, x1, x2, x3]) := Eq.trans rfl rfl
theorem lst4 (x0 x1 x2 x3 : D) : lstD (.ok [x0, x1, x2, x3]) = .ok (.lst [x0, x1, x2, x3]) := Eq.trans rfl rfl
theorem lst5 (x0 x1 x2 x3 x4 : D) : lstD (.ok [x0, x1, x2, x3, x4]) = .ok (.lst [x0, x1, x2, x3, x4]) := Eq.trans rfl rfl
theorem lst6 (x0 x1 x2 x3 x4 x5 : D) : lstD (.ok [x0, x1, x2, x3, x4, x5]) = .ok (.lst [x0, x1, x2, x3, x4, x5]) := Eq.trans rfl rfl
theorem ix_tup (ds : List D) (k : Nat) (d : D) (h : ds[k]? = some d) : ixD (.tup ds) (.int (k : Int)) = .ok d := by
  have hk : k < ds.length := by
    rcases Nat.lt_or_ge k ds.length with z | z
    · exact z
    · rw [List.getElem?_eq_none z] at h; cases h
  have e : atI ds (k : Int) = some d := by
    unfold atI ixN
    rw [if_pos (Int.natCast_nonneg k), if_pos (by omega)]
    simpa using h
  show (match atI ds (k : Int) with | some d => Res.ok d | none => .stuck) = _
  rw [e]
theorem ix_tup0 (x0 : D) (r : List D) : ixD (.tup (x0 :: r)) (.int 0) = .ok x0 := ix_tup _ 0 _ rfl
theorem ix_tup1 (x0 x1 : D) (r : List D) : ixD (.tup (x0 :: x1 :: r)) (.int 1) = .ok x1 := ix_tup _ 1 _ rfl
theorem ix_lst (ds : List D) (k : Nat) (d : D) (h : ds[k]? = some d) : ixD (.lst ds) (.int (k : Int)) = .ok d := by
  have hk : k < ds.length := by
    rcases Nat.lt_or_ge k ds.length with z | z
    · exact z
    · rw [List.getElem?_eq_none z] at h; cases h
  have e : atI ds (k : Int) = some d := by
    unfold atI ixN
    rw [if_pos (Int.natCast_nonneg k), if_pos (by omega)]
    simpa using h
  show (match atI ds (k : Int) with | some d => Res.ok d | none => .stuck) = _
  rw [e]
theorem ix_lst0 (x0 : D) (r : List D) : ixD (.lst (x0 :: r)) (.int 0) = .ok x0 := ix_lst _ 0 _ rfl
theorem ix_lst1 (x0 x1 : D) (r : List D) : ixD (.lst (x0 :: x1 :: r)) (.int 1) = .ok x1 := ix_lst _ 1 _ rfl
theorem ix_lst2 (x0 x1 x2 : D) (r : List D) : ixD (.lst (x0 :: x1 :: x2 :: r)) (.int 2) = .ok x2 := ix_lst _ 2 _ rfl
theorem ix_lst3 (x0 x1 x2 x3 : D) (r : List D) : ixD (.lst (x0 :: x1 :: x2 :: x3 :: r)) (.int 3) = .ok x3 := ix_lst _ 3 _ rfl
theorem mapR_ints {fe : DS → Res D} {rest : DS} {g : Int → D} : ∀ (ts : List Int), (∀ t ∈ ts, fe (some (.val (.int t)) :: rest) = .ok (g t)) → mapR (eltD (tgtN 0) fe (none :: rest)) (ts.map .int) = .ok (ts.map g)
  | [], _ => rfl
  | t :: ts, h => by
    have e : eltD (tgtN 0) fe (none :: rest) (.int t) = .ok (g t) := by
      show (match fe (some (.val (.int t)) :: rest) with | .ok x => Res.ok x | _ => .stuck) = _
      rw [h t (by simp)]
    rw [List.map_cons, mapR, e, Res.bind_ok, mapR_ints ts (fun u hu => h u (List.mem_cons_of_mem _ hu)), Res.bind_ok]; rfl
theorem comp_ints {fe : DS → Res D} {fi : DS → Res (List D)} {fr : List Nat} {δ rest : DS} {ts : List Int} {g : Int → D} (hi : fi δ = .ok (ts.map .int)) (hr : compS 1 fr δ = none :: rest) (hl : ts.length ≤ sizeLine) (h : ∀ t ∈ ts, fe (some (.val (.int t)) :: rest) = .ok (g t)) :
    compD 1 fr (tgtN 0) fe fi δ = .ok (.lst (ts.map g)) := by
  unfold compD
  rw [hi, Res.bind_ok, hr, mapR_ints ts h]
  unfold lstD
  rw [Res.bind_ok, if_pos (by simpa using hl)]
theorem rangeD_eq (lo : Int) : ∀ (n : Nat), rangeD lo n = ((List.range n).map fun k => D.int (lo + (k : Nat)))
  | 0 => rfl
  | n + 1 => by
    rw [rangeD, rangeD_eq (lo + 1) n, List.range_succ_eq_map, List.map_cons, List.map_map]
    congr 1
    · simp
    · refine List.map_congr_left fun k _ => ?_
      simp only [Function.comp, D.int.injEq]; omega
theorem for_fold {b : DS → Out} {i : Nat} {f : Int → Int → Int} (st : Int → Option SV → DS) (h : ∀ acc z t, b ((st acc z).set i (some (.val (.int t)))) = .nxt (st (f acc t) (some (.val (.int t))))) :
    ∀ (ts : List Int) (acc : Int) (z : Option SV), ∃ z', forD (tgtN i) b (ts.map .int) (st acc z) = .nxt (st (ts.foldl f acc) z')
  | [], acc, z => ⟨z, rfl⟩
  | t :: ts, acc, z => by
    obtain ⟨z', e⟩ := for_fold st h ts (f acc t) (some (.val (.int t)))
    refine ⟨z', ?_⟩
    rw [List.map_cons, forD]
    show (match b ((st acc z).set i (some (.val (.int t)))) with | .nxt δ' => _ | .cnt δ' => _ | .brk δ' => _ | .ret d => _ | _ => _) = _
    rw [h]
    exact e
end DL
set_option Elab.async false
set_option linter.all false
set_option maxRecDepth 100000
namespace Mine
open PySem DL
noncomputable def gN (n : Nat) (ts : List Int) : Nat := ts.foldl (fun s t => Nat.gcd s t.natAbs) n
theorem gN_cons (n : Nat) (t : Int) (ts : List Int) : gN n (t :: ts) = gN (Nat.gcd n t.natAbs) ts := rfl
theorem fold_cm : ∀ (ts : List Int) (n : Nat), ts.foldl cm (n : Int) = (gN n ts : Nat)
  | [], _ => rfl
  | t :: ts, n => by
    rw [List.foldl_cons, gN_cons, ← fold_cm ts (Nat.gcd n t.natAbs)]
    congr 1
theorem fold_cm' (ts : List Int) (b : Int) (h : ts ≠ []) : ts.foldl cm b = (gN b.natAbs ts : Nat) := by
  cases ts with
  | nil => exact (h rfl).elim
  | cons t ts => rw [List.foldl_cons, gN_cons, ← fold_cm ts]; congr 1
theorem gN_mul (K : Int) : ∀ (ts : List Int) (n : Nat), gN (K.natAbs * n) (ts.map (K * ·)) = K.natAbs * gN n ts
  | [], _ => rfl
  | t :: ts, n => by
    rw [List.map_cons, gN_cons, gN_cons, Int.natAbs_mul, Nat.gcd_mul_left, gN_mul K ts]
theorem gN_dvd : ∀ (ts : List Int) (n : Nat), gN n ts ∣ n ∧ ∀ t ∈ ts, gN n ts ∣ t.natAbs
  | [], n => ⟨Nat.dvd_refl n, fun t h => by cases h⟩
  | t :: ts, n => by
    obtain ⟨a, b⟩ := gN_dvd ts (Nat.gcd n t.natAbs)
    rw [gN_cons]
    refine ⟨Nat.dvd_trans a (Nat.gcd_dvd_left _ _), fun u hu => ?_⟩
    rcases List.mem_cons.mp hu with z | z
    · subst z; exact Nat.dvd_trans a (Nat.gcd_dvd_right _ _)
    · exact b u z
theorem gN_pos {n : Nat} (ts : List Int) (h : 0 < n) : 0 < gN n ts := Nat.pos_of_dvd_of_pos (gN_dvd ts n).1 h
structure Nf (ts : List Int) (b : Int) : Prop where
  pos : 0 < b
  one : gN b.natAbs ts = 1
theorem nf_ex (ts : List Int) {b : Int} (hb : b ≠ 0) : ∃ (K : Int) (ts' : List Int) (b' : Int), K ≠ 0 ∧ ts = ts'.map (K * ·) ∧ b = K * b' ∧ Nf ts' b' ∧ ts'.length = ts.length := by
  have hp : 0 < gN b.natAbs ts := gN_pos ts (by omega)
  obtain ⟨d1, d2⟩ := gN_dvd ts b.natAbs
  generalize hg : gN b.natAbs ts = g at *
  have hK : ∃ K : Int, K.natAbs = g ∧ 0 < K * b := by
    rcases Int.lt_or_gt_of_ne hb with c | c
    · refine ⟨-(g : Int), by omega, ?_⟩
      exact Int.mul_pos_of_neg_of_neg (by omega) c
    · exact ⟨(g : Int), by omega, Int.mul_pos (by omega) c⟩
  obtain ⟨K, k1, k2⟩ := hK
  have k0 : K ≠ 0 := by omega
  have kd : ∀ t : Int, g ∣ t.natAbs → K * (t / K) = t := fun t h => Int.mul_ediv_cancel' (by rw [← Int.natAbs_dvd_natAbs, k1]; exact h)
  have eb : K * (b / K) = b := kd b d1
  have et : (ts.map (· / K)).map (K * ·) = ts := by
    rw [List.map_map]
    have : ∀ t ∈ ts, ((K * ·) ∘ (· / K)) t = t := fun t ht => kd t (d2 t ht)
    rw [List.map_congr_left this]; simp
  refine ⟨K, ts.map (· / K), b / K, k0, et.symm, eb.symm, ⟨?_, ?_⟩, by simp⟩
  · rcases Int.lt_or_le 0 (b / K) with c | c
    · exact c
    · exfalso
      have : K * b = K * K * (b / K) := by rw [Int.mul_assoc, eb]
      have h2 : 0 ≤ K * K := by
        rcases Int.le_total 0 K with z | z
        · exact Int.mul_nonneg z z
        · exact Int.mul_nonneg_of_nonpos_of_nonpos z z
      have := Int.mul_nonpos_of_nonneg_of_nonpos h2 c
      omega
  · have e := gN_mul K (ts.map (· / K)) (b / K).natAbs
    rw [et, ← Int.natAbs_mul, eb, hg, k1] at e
    have : g * gN (b / K).natAbs (ts.map (· / K)) = g * 1 := by omega
    exact Nat.eq_of_mul_eq_mul_left hp this
theorem fdiv_mul_l (K t : Int) (h : K ≠ 0) : Int.fdiv (K * t) K = t := Int.mul_fdiv_cancel_left t h
theorem nf_shared {ts : List Int} {b K : Int} (h : Nf ts b) (hK : K ≠ 0) (hts : ts ≠ []) : (ts.map (K * ·)).foldl cm (K * b) = (K.natAbs : Nat) := by
  rw [fold_cm' _ _ (by simpa using hts), Int.natAbs_mul, gN_mul, h.one, Nat.mul_one]
abbrev num (ts : List Int) (b : Int) : D := .tup [.tup (ts.map .int), .int b]
theorem fmod_small (x : Int) {y : Int} (h : y ≠ 0) : (Int.fmod x y).natAbs < y.natAbs := by
  rw [Int.fmod_eq_emod]
  have a := Int.emod_nonneg x h
  have b := Int.emod_lt_of_pos x (show 0 < (y.natAbs : Int) by omega)
  have e : x % (y.natAbs : Int) = x % y := by
    rcases Int.natAbs_eq y with q | q
    · rw [← q]
    · conv => rhs; rw [q]
      rw [Int.emod_neg]
  rw [e] at b
  split
  · omega
  · rename_i c
    have c1 : ¬ (0 ≤ y) := fun z => c (.inl z)
    have c2 : x % y ≠ 0 := fun z => c (.inr (Int.dvd_of_emod_eq_zero z))
    omega
theorem gcd_fmod (x y : Int) : Int.gcd y (Int.fmod x y) = Int.gcd x y := by
  have e : x = y * Int.fdiv x y + Int.fmod x y := (Int.mul_fdiv_add_fmod x y).symm
  refine Nat.dvd_antisymm ?_ ?_
  · refine Int.dvd_gcd ?_ (Int.gcd_dvd_left y _)
    rw (config := {occs := .pos [2]}) [e]
    exact Int.dvd_add (Int.dvd_trans (Int.gcd_dvd_left y _) (Int.dvd_mul_right ..)) (Int.gcd_dvd_right y _)
  · refine Int.dvd_gcd (Int.gcd_dvd_right x y) ?_
    have e2 : Int.fmod x y = x - y * Int.fdiv x y := by omega
    rw [e2]
    exact Int.dvd_sub (Int.gcd_dvd_left x y) (Int.dvd_trans (Int.gcd_dvd_right x y) (Int.dvd_mul_right ..))
theorem rng_nat (n : Nat) (h : n ≤ 1000) : rng1 [.int n] = .ok (((List.range n).map fun (k : Nat) => (k : Int)).map .int) := by
  unfold rng1
  have h1 : -(2 ^ 62) ≤ (n : Int) ∧ (n : Int) < 2 ^ 62 := ⟨by omega, by omega⟩
  simp only [h1, and_self, if_true, Int.toNat_natCast, rangeD_eq, List.map_map, Function.comp_def, Int.zero_add]
theorem rngF {f : DS → Res (List D)} {δ : DS} {ds rs : List D} {g : List D → Res (List D)} (h : f δ = .ok ds) (h2 : g ds = .ok rs) : bindRg f g δ = .ok rs := by
  unfold bindRg; rw [h, Res.bind_ok, h2]
end Mine
set_option Elab.async false
set_option linter.all false
set_option maxRecDepth 100000
namespace Mine
open PySem DL L2
abbrev TI (l : List Int) : D := .tup (l.map .int)
abbrev RT (rs : List (List Int)) : D := .tup (rs.reverse.map TI)
noncomputable def addL (a b : List Int) : List Int := List.zipWith (fun x y => x + y) a b
noncomputable def frH (x : List Int) : List Int := x.take (x.length / 2)
noncomputable def bhH (x : List Int) : List Int := x.drop (x.length / 2)
noncomputable def pt : List (List Int) → List Int → List Int → List Int
  | [], x, y => [x.headD 0 * y.headD 0]
  | r :: rs, x, y => addL (pt rs (frH x) (frH y)) (pt rs (pt rs (bhH x) (bhH y)) r) ++ addL (pt rs (frH x) (bhH y)) (pt rs (bhH x) (frH y))
noncomputable def lt : List (List Int) → List Int → List Int → List Int
  | [], x, y => [x.headD 0 * y.headD 0]
  | r :: rs, x, y => addL (lt rs (frH x) (frH y)) (lt rs r (lt rs (bhH x) (bhH y))) ++ addL (lt rs (frH x) (bhH y)) (lt rs (bhH x) (frH y))
noncomputable def Sc : List (List Int) → Prop
  | [] => True
  | r :: rs => r.length = 2 ^ rs.length ∧ Sc rs
theorem addL_comm : ∀ (a b : List Int), addL a b = addL b a
  | [], [] => rfl
  | [], _ :: _ => rfl
  | _ :: _, [] => rfl
  | x :: a, y :: b => by
    have := addL_comm a b
    unfold addL at this ⊢
    rw [List.zipWith_cons_cons, List.zipWith_cons_cons, this, Int.add_comm]
theorem addL_len {a b : List Int} {n : Nat} (h1 : a.length = n) (h2 : b.length = n) : (addL a b).length = n := by unfold addL; rw [List.length_zipWith]; omega
theorem frH_len {x : List Int} {k : Nat} (h : x.length = 2 ^ (k + 1)) : (frH x).length = 2 ^ k := by
  unfold frH; rw [List.length_take]; have : 2 ^ (k + 1) = 2 ^ k * 2 := Nat.pow_succ ..; omega
theorem bhH_len {x : List Int} {k : Nat} (h : x.length = 2 ^ (k + 1)) : (bhH x).length = 2 ^ k := by
  unfold bhH; rw [List.length_drop]; have : 2 ^ (k + 1) = 2 ^ k * 2 := Nat.pow_succ ..; omega
theorem pt_len : ∀ (rs : List (List Int)) (x y : List Int), Sc rs → x.length = 2 ^ rs.length → y.length = 2 ^ rs.length → (pt rs x y).length = 2 ^ rs.length
  | [], _, _, _, _, _ => rfl
  | r :: rs, x, y, S, hx, hy => by
    obtain ⟨hr, S⟩ := S
    have a := frH_len hx
    have b := bhH_len hx
    have c := frH_len hy
    have d := bhH_len hy
    rw [pt, List.length_append, addL_len (pt_len rs _ _ S a c) (pt_len rs _ _ S (pt_len rs _ _ S b d) hr), addL_len (pt_len rs _ _ S a d) (pt_len rs _ _ S b c)]
    show _ = 2 ^ (rs.length + 1)
    rw [Nat.pow_succ]; omega
theorem pt_comm : ∀ (rs : List (List Int)) (x y : List Int), pt rs x y = pt rs y x
  | [], x, y => by rw [pt, pt, Int.mul_comm]
  | r :: rs, x, y => by
    rw [pt, pt, pt_comm rs (frH x) (frH y), pt_comm rs (bhH x) (bhH y), pt_comm rs (frH x) (bhH y), pt_comm rs (bhH x) (frH y), addL_comm (pt rs (bhH y) (frH x))]
theorem lt_eq : ∀ (rs : List (List Int)) (x y : List Int), lt rs x y = pt rs x y
  | [], x, y => rfl
  | r :: rs, x, y => by
    rw [lt, pt, lt_eq rs (frH x) (frH y), lt_eq rs (bhH x) (bhH y), lt_eq rs r, lt_eq rs (frH x) (bhH y), lt_eq rs (bhH x) (frH y), pt_comm rs r]
noncomputable def Bd (n : Nat) (l : List Int) : Prop := ∀ t ∈ l, t.natAbs < 2 ^ n
theorem Bd.mono {n m : Nat} {l : List Int} (h : Bd n l) (e : n ≤ m) : Bd m l := fun t ht => Nat.lt_of_lt_of_le (h t ht) (Nat.pow_le_pow_right (by decide) e)
theorem Bd.fr {n : Nat} {l : List Int} (h : Bd n l) : Bd n (frH l) := fun t ht => h t (List.mem_of_mem_take ht)
theorem Bd.bh {n : Nat} {l : List Int} (h : Bd n l) : Bd n (bhH l) := fun t ht => h t (List.mem_of_mem_drop ht)
theorem Bd.head {n : Nat} {l : List Int} (h : Bd n l) : (l.headD 0).natAbs < 2 ^ n := by
  cases l with
  | nil => exact Nat.two_pow_pos n
  | cons a l => exact h a (by simp)
theorem mul_bd {a b : Int} {p q : Nat} (h1 : a.natAbs < 2 ^ p) (h2 : b.natAbs < 2 ^ q) : (a * b).natAbs < 2 ^ (p + q) := by
  rw [Int.natAbs_mul, Nat.pow_add]
  exact Nat.mul_lt_mul'' h1 h2
theorem Bd.add {n : Nat} : ∀ {a b : List Int}, Bd n a → Bd n b → Bd (n + 1) (addL a b)
  | [], _, _, _ => fun t ht => by simp [addL] at ht
  | _ :: _, [], _, _ => fun t ht => by simp [addL] at ht
  | x :: a, y :: b, h1, h2 => fun t ht => by
    unfold addL at ht
    rw [List.zipWith_cons_cons] at ht
    rcases List.mem_cons.mp ht with z | z
    · have e1 := h1 x (by simp)
      have e2 := h2 y (by simp)
      rw [z, Nat.pow_succ]; omega
    · exact Bd.add (fun t ht => h1 t (List.mem_cons_of_mem _ ht)) (fun t ht => h2 t (List.mem_cons_of_mem _ ht)) t z
theorem Bd.app {n : Nat} {a b : List Int} (h1 : Bd n a) (h2 : Bd n b) : Bd n (a ++ b) := fun t ht => (List.mem_append.mp ht).elim (h1 t) (h2 t)
theorem cut_take (ds : List D) (k : Nat) : cutD (.tup ds) none (some (k : Int)) = .ok (.tup (ds.take k)) := by
  show Res.ok (D.tup (cutL ds none (some (k : Int)))) = _
  unfold cutL
  rw [HT.sIx_nat, HT.sIx_none, List.drop_zero, Nat.sub_zero]
  congr 2
  rcases Nat.le_total k ds.length with h | h
  · rw [Nat.min_eq_left h]
  · rw [Nat.min_eq_right h, List.take_of_length_le h, List.take_length]
theorem cut_drop (ds : List D) (k : Nat) : cutD (.tup ds) (some (k : Int)) none = .ok (.tup (ds.drop k)) := by
  show Res.ok (D.tup (cutL ds (some (k : Int)) none)) = _
  unfold cutL
  rw [HT.sIx_nat, HT.sIx_none]
  congr 2
  rcases Nat.le_total k ds.length with h | h
  · rw [Nat.min_eq_left h, List.take_of_length_le (by rw [List.length_drop]; exact Nat.le_refl _)]
  · rw [Nat.min_eq_right h, List.drop_length, List.drop_eq_nil_of_le h]; simp
theorem cut_last (r : List Int) (rs : List (List Int)) : cutD (RT (r :: rs)) none (some (-1)) = .ok (RT rs) := by
  show Res.ok (D.tup (cutL ((r :: rs).reverse.map TI) none (some (-1)))) = _
  unfold cutL
  have e : HT.sIx ((r :: rs).reverse.map TI).length ((r :: rs).reverse.map TI).length (some (-1)) = rs.length := by
    have hl : ((r :: rs).reverse.map TI).length = rs.length + 1 := by simp
    rw [hl]
    unfold HT.sIx
    dsimp only
    rw [if_pos (by decide)]; omega
  rw [e, HT.sIx_none, List.drop_zero, Nat.sub_zero, List.reverse_cons, List.map_append]
  congr 2
  rw [List.take_append_of_le_length (by simp), List.take_of_length_le (by simp)]
theorem ix_last (r : List Int) (rs : List (List Int)) : ixD (RT (r :: rs)) (.int (-1)) = .ok (TI r) := by
  have e : atI ((r :: rs).reverse.map TI) (-1) = some (TI r) := by
    unfold atI ixN
    have hl : ((r :: rs).reverse.map TI).length = rs.length + 1 := by simp
    rw [hl, if_neg (by decide), if_pos (by omega)]
    have e2 : ((-1 : Int) + ((rs.length + 1 : Nat) : Int)).toNat = rs.length := by omega
    rw [e2]
    simp
  show (match atI ((r :: rs).reverse.map TI) (-1) with | some d => Res.ok d | none => .stuck) = _
  rw [e]
theorem half_int (n : Nat) : fdivD (.int (n : Int)) (.int 2) = .ok (.int ((n / 2 : Nat) : Int)) := by
  rw [fdivI (by decide) (Nat.lt_of_lt_of_le (show Int.natAbs 2 < 2 ^ 2 by decide) (Nat.pow_le_pow_right (by decide) (by decide)))]
  congr 2
  rw [Int.fdiv_eq_ediv_of_nonneg _ (by decide)]; omega
theorem take_TI (l : List Int) (k : Nat) : cutD (TI l) none (some (k : Int)) = .ok (TI (l.take k)) := by rw [cut_take, ← List.map_take]
theorem drop_TI (l : List Int) (k : Nat) : cutD (TI l) (some (k : Int)) none = .ok (TI (l.drop k)) := by rw [cut_drop, ← List.map_drop]
theorem mapR_pairs {fe : DS → Res D} {rest : DS} {g : Int → Int → D} : ∀ (xs ys : List Int), (∀ x ∈ xs, ∀ y ∈ ys, fe (some (.val (.int x)) :: some (.val (.int y)) :: rest) = .ok (g x y)) →
    mapR (eltD (tupTgt [0, 1]) fe (none :: none :: rest)) (zipD (xs.map .int) (ys.map .int)) = .ok (List.zipWith g xs ys)
  | [], _, _ => rfl
  | _ :: _, [], _ => rfl
  | x :: xs, y :: ys, h => by
    have e : eltD (tupTgt [0, 1]) fe (none :: none :: rest) (.tup [.int x, .int y]) = .ok (g x y) := by
      show (match fe (some (.val (.int x)) :: some (.val (.int y)) :: rest) with | .ok z => Res.ok z | _ => .stuck) = _
      rw [h x (by simp) y (by simp)]
    have ih := mapR_pairs xs ys fun u hu v hv => h u (List.mem_cons_of_mem _ hu) v (List.mem_cons_of_mem _ hv)
    show mapR _ (D.tup [.int x, .int y] :: zipD (xs.map .int) (ys.map .int)) = _
    rw [mapR, e, Res.bind_ok, ih, Res.bind_ok]; rfl
theorem comp_pairs {fe : DS → Res D} {fi : DS → Res (List D)} {fr : List Nat} {δ rest : DS} {xs ys : List Int} {g : Int → Int → D} (hi : fi δ = .ok (zipD (xs.map .int) (ys.map .int))) (hr : compS 2 fr δ = none :: none :: rest) (hl : xs.length ≤ sizeLine)
    (h : ∀ x ∈ xs, ∀ y ∈ ys, fe (some (.val (.int x)) :: some (.val (.int y)) :: rest) = .ok (g x y)) : compD 2 fr (tupTgt [0, 1]) fe fi δ = .ok (.lst (List.zipWith g xs ys)) := by
  unfold compD
  rw [hi, Res.bind_ok, hr, mapR_pairs xs ys h]
  unfold lstD
  rw [Res.bind_ok, if_pos (by rw [List.length_zipWith]; omega)]
theorem zipI (xs ys : List Int) : (List.zipWith (fun x y => D.int (x + y)) xs ys) = (addL xs ys).map .int := by
  unfold addL; rw [List.map_zipWith]
theorem ix_TI0 {l : List Int} (h : l ≠ []) : ixD (TI l) (.int 0) = .ok (.int (l.headD 0)) := by
  cases l with
  | nil => exact (h rfl).elim
  | cons a l => exact ix_tup0 _ _
theorem ne_of_len {l : List Int} {k : Nat} (h : l.length = 2 ^ k) : l ≠ [] := fun z => by rw [z] at h; have := Nat.two_pow_pos k; simp at h; omega
theorem add_TI {a b : List Int} (h : a ≠ []) (h2 : a.length + b.length ≤ 1000) : addD (TI a) (TI b) = .ok (TI (a ++ b)) := by
  show (if (a.map D.int).length + (b.map D.int).length ≤ sizeLine then Res.ok (D.tup (a.map D.int ++ b.map D.int)) else Res.stuck) = _
  have e : 1000 ≤ sizeLine := by decide
  rw [if_pos (by rw [List.length_map, List.length_map]; omega), ← List.map_append]
theorem add_TI' {a b : List Int} (h2 : a.length + b.length ≤ 1000) : addD (TI a) (TI b) = .ok (TI (a ++ b)) := by
  show (if (a.map D.int).length + (b.map D.int).length ≤ sizeLine then Res.ok (D.tup (a.map D.int ++ b.map D.int)) else Res.stuck) = _
  have e : 1000 ≤ sizeLine := by decide
  rw [if_pos (by rw [List.length_map, List.length_map]; omega), ← List.map_append]
theorem scale_TI (k : Int) (l : List Int) : (l.map fun t => D.int (k * t)) = (l.map (k * ·)).map .int := by rw [List.map_map]; rfl
end Mine
namespace Mine
open PySem DL L2
theorem bd_neg {x : List Int} {n : Nat} (h : Bd n x) : Bd n (x.map fun t => -t) := fun t ht => by
  obtain ⟨u, hu, rfl⟩ := List.mem_map.mp ht
  rw [Int.natAbs_neg]; exact h u hu
theorem neg_map (x : List Int) : x.map ((-1 : Int) * ·) = x.map fun t => -t := List.map_congr_left fun t _ => by omega
theorem for_keep {t : TGD} {b : DS → Out} {P : DS → Prop} : ∀ (ds : List D), (∀ d ∈ ds, ∀ δ, P δ → ∃ δ1 δ2, t d δ = some δ1 ∧ b δ1 = .nxt δ2 ∧ P δ2) → ∀ δ, P δ → ∃ δ', forD t b ds δ = .nxt δ' ∧ P δ'
  | [], _, δ, h => ⟨δ, rfl, h⟩
  | d :: ds, hs, δ, h => by
    obtain ⟨δ1, δ2, e1, e2, h2⟩ := hs d (by simp) δ h
    obtain ⟨δ', e3, h3⟩ := for_keep ds (fun u hu => hs u (List.mem_cons_of_mem _ hu)) δ2 h2
    refine ⟨δ', ?_, h3⟩
    rw [forD, e1]
    dsimp only
    rw [e2]
    exact e3
end Mine
set_option Elab.async false
set_option linter.all false
set_option maxRecDepth 100000
namespace Mine
open PySem DL L2
noncomputable def sg (n : Int) : Int := if n = 0 then 0 else if 0 < n then 1 else -1
theorem nosq_nat {r m : Int} (hr : 0 ≤ r) (h1 : r * r < m) (h2 : m < (r + 1) * (r + 1)) : ∀ (n : Nat) (a b : Int), 0 ≤ a → 0 ≤ b → b.toNat ≤ n → a * a = b * b * m → b = 0
  | 0, a, b, _, hb, hn, _ => by omega
  | n + 1, a, b, ha, hb, hn, e => by
    by_cases c : b = 0
    · exact c
    exfalso
    have bp : 0 < b := by omega
    have bb : 0 < b * b := Int.mul_pos bp bp
    have lo : r * b < a := by
      rcases Int.lt_or_le (r * b) a with z | z
      · exact z
      · exfalso
        have q := Int.mul_le_mul z z ha (Int.mul_nonneg hr hb)
        have e1 : r * b * (r * b) = b * b * (r * r) := by rw [Int.mul_assoc, Int.mul_left_comm b r b, ← Int.mul_assoc, Int.mul_comm]
        have := Int.mul_lt_mul_of_pos_left h1 bb
        omega
    have hi : a < (r + 1) * b := by
      rcases Int.lt_or_le a ((r + 1) * b) with z | z
      · exact z
      · exfalso
        have q := Int.mul_le_mul z z (Int.mul_nonneg (by omega) hb) ha
        have e1 : (r + 1) * b * ((r + 1) * b) = b * b * ((r + 1) * (r + 1)) := by rw [Int.mul_assoc, Int.mul_left_comm b (r + 1) b, ← Int.mul_assoc, Int.mul_comm]
        have := Int.mul_lt_mul_of_pos_left h2 bb
        omega
    have hi' : a < r * b + b := by rw [Int.add_mul, Int.one_mul] at hi; exact hi
    have ma : r * a < m * b := by
      rcases Int.lt_or_le (r * a) (m * b) with z | z
      · exact z
      · exfalso
        have ap : 0 < a := by
          have := Int.mul_nonneg hr hb; omega
        have q1 := Int.mul_le_mul_of_nonneg_right z hb
        have q2 := Int.mul_lt_mul_of_pos_left lo ap
        have e1 : m * b * b = b * b * m := by rw [Int.mul_assoc, Int.mul_comm]
        have e2 : r * a * b = a * (r * b) := by rw [Int.mul_comm r a, Int.mul_assoc]
        omega
    have step : (m * b - r * a) * (m * b - r * a) = (a - r * b) * (a - r * b) * m := by
      have x1 : (m * b - r * a) * (m * b - r * a) = m * (b * b * m) - 2 * (m * (r * (a * b))) + r * (r * (a * a)) := by
        simp only [Int.sub_mul, Int.mul_sub]
        have t1 : m * b * (m * b) = m * (b * b * m) := by
          rw [Int.mul_assoc, Int.mul_left_comm b m b, Int.mul_comm (b * b) m]
        have t2 : m * b * (r * a) = m * (r * (a * b)) := by rw [Int.mul_assoc, Int.mul_left_comm b r a, Int.mul_comm b a]
        have t3 : r * a * (m * b) = m * (r * (a * b)) := by rw [Int.mul_left_comm, Int.mul_assoc, ← Int.mul_assoc r a b, Int.mul_assoc r a b]
        have t4 : r * a * (r * a) = r * (r * (a * a)) := by rw [Int.mul_assoc, Int.mul_left_comm a r a]
        rw [t1, t2, t3, t4]; omega
      have x2 : (a - r * b) * (a - r * b) * m = m * (a * a) - 2 * (m * (r * (a * b))) + r * (r * (b * b * m)) := by
        have t0 : (a - r * b) * (a - r * b) = a * a - 2 * (r * (a * b)) + r * (r * (b * b)) := by
          simp only [Int.sub_mul, Int.mul_sub]
          have u1 : a * (r * b) = r * (a * b) := Int.mul_left_comm a r b
          have u2 : r * b * a = r * (a * b) := by rw [Int.mul_assoc, Int.mul_comm b a]
          have u3 : r * b * (r * b) = r * (r * (b * b)) := by rw [Int.mul_assoc, Int.mul_left_comm b r b]
          rw [u1, u2, u3]; omega
        rw [t0, Int.add_mul, Int.sub_mul]
        have v1 : a * a * m = m * (a * a) := Int.mul_comm _ _
        have v2 : 2 * (r * (a * b)) * m = 2 * (m * (r * (a * b))) := by rw [Int.mul_assoc, Int.mul_comm (r * (a * b)) m]
        have v3 : r * (r * (b * b)) * m = r * (r * (b * b * m)) := by rw [Int.mul_assoc, Int.mul_assoc r (b * b) m]
        rw [v1, v2, v3]
      rw [x1, x2, ← e]
    have := nosq_nat hr h1 h2 n (m * b - r * a) (a - r * b) (by omega) (by omega) (by omega) step
    omega
theorem nosq {r m : Int} (hr : 0 ≤ r) (h1 : r * r < m) (h2 : m < (r + 1) * (r + 1)) {a b : Int} (e : a * a = b * b * m) : b = 0 := by
  have ea : (a.natAbs : Int) * (a.natAbs : Int) = a * a := by rw [← Int.natCast_mul, Int.natAbs_mul_self]
  have eb : (b.natAbs : Int) * (b.natAbs : Int) = b * b := by rw [← Int.natCast_mul, Int.natAbs_mul_self]
  have := nosq_nat hr h1 h2 b.natAbs (a.natAbs : Int) (b.natAbs : Int) (by omega) (by omega) (by omega) (by rw [ea, eb]; exact e)
  omega
theorem sg_cases (n : Int) : (n = 0 ∧ sg n = 0) ∨ (0 < n ∧ sg n = 1) ∨ (n < 0 ∧ sg n = -1) := by
  unfold sg
  rcases Int.lt_trichotomy n 0 with z | z | z
  · exact .inr (.inr ⟨z, by rw [if_neg (by omega), if_neg (by omega)]⟩)
  · exact .inl ⟨z, if_pos z⟩
  · exact .inr (.inl ⟨z, by rw [if_neg (by omega), if_pos z]⟩)
end Mine
set_option Elab.async false
set_option linter.all false
set_option maxRecDepth 100000
namespace Mine
open Lean.Grind
structure OF where
  C : Type
  fld : Field C
  le : LE C
  lt : LT C
  llt : Std.LawfulOrderLT C
  lin : Std.IsLinearOrder C
  ord : OrderedRing C
instance ofF (F : OF) : Field F.C := F.fld
instance ofLE (F : OF) : LE F.C := F.le
instance ofLT (F : OF) : LT F.C := F.lt
instance ofLLT (F : OF) : Std.LawfulOrderLT F.C := F.llt
instance ofLin (F : OF) : Std.IsLinearOrder F.C := F.lin
instance ofOrd (F : OF) : OrderedRing F.C := F.ord
instance ofNC (F : OF) : NatCast F.C := F.fld.toCommRing.toRing.toSemiring.natCast
instance ofIC (F : OF) : IntCast F.C := F.fld.toCommRing.toRing.intCast
section
variable {F : OF}
theorem mulP {a b : F.C} (h1 : 0 < a) (h2 : 0 < b) : 0 < a * b := by
  have := OrderedRing.mul_lt_mul_of_pos_left h1 h2
  grind
theorem mulNN {a b : F.C} (h1 : 0 ≤ a) (h2 : 0 ≤ b) : 0 ≤ a * b := by
  by_cases h : a = 0
  · rw [h, Semiring.zero_mul]; exact Std.le_refl _
  · by_cases h' : b = 0
    · rw [h', Semiring.mul_zero]; exact Std.le_refl _
    · have := mulP (a := a) (b := b) (by grind) (by grind)
      grind
theorem sqNN (a : F.C) : 0 ≤ a * a := by
  by_cases h : 0 ≤ a
  · exact mulNN h h
  · have := mulNN (a := -a) (b := -a) (by grind) (by grind)
    grind
theorem sqP {a : F.C} (h : a ≠ 0) : 0 < a * a := by
  by_cases c : 0 < a
  · exact mulP c c
  · have := mulP (a := -a) (b := -a) (by grind) (by grind)
    grind
theorem mulLT {a b c d : F.C} (a0 : 0 ≤ a) (h1 : a < b) (c0 : 0 ≤ c) (h2 : c < d) : a * c < b * d := by
  have q1 := mulNN (a := b - a) (b := c) (by grind) c0
  have q2 := mulP (a := b) (b := d - c) (by grind) (by grind)
  grind
theorem sqL {p q : F.C} (h : 0 < p) (e : q * q < p * p) : 0 < p + q := by
  by_cases c : 0 < p + q
  · exact c
  · exfalso
    have q1 := mulNN (a := -q - p) (b := -q + p) (by grind) (by grind)
    grind
theorem mul0 {a b : F.C} (h : a * b = 0) : a = 0 ∨ b = 0 := by
  by_cases c : a = 0
  · exact .inl c
  · right; grind
end
open Classical in
noncomputable def sgn {F : OF} (x : F.C) : Int := if x = 0 then 0 else if 0 < x then 1 else -1
section
variable {F : OF}
theorem sgn_c (x : F.C) : (x = 0 ∧ sgn x = 0) ∨ (0 < x ∧ sgn x = 1) ∨ (x < 0 ∧ sgn x = -1) := by
  unfold sgn
  by_cases h : x = 0
  · exact .inl ⟨h, by rw [if_pos h]⟩
  · by_cases c : 0 < x
    · exact .inr (.inl ⟨c, by rw [if_neg h, if_pos c]⟩)
    · exact .inr (.inr ⟨by grind, by rw [if_neg h, if_neg c]⟩)
theorem sgn_0 {x : F.C} : sgn x = 0 ↔ x = 0 := by rcases sgn_c x with ⟨h, e⟩ | ⟨h, e⟩ | ⟨h, e⟩ <;> constructor <;> grind
theorem sgn_p {x : F.C} : sgn x = 1 ↔ 0 < x := by rcases sgn_c x with ⟨h, e⟩ | ⟨h, e⟩ | ⟨h, e⟩ <;> constructor <;> grind
theorem sgn_n {x : F.C} : sgn x = -1 ↔ x < 0 := by rcases sgn_c x with ⟨h, e⟩ | ⟨h, e⟩ | ⟨h, e⟩ <;> constructor <;> grind
theorem sgn_mul (x y : F.C) : sgn (x * y) = sgn x * sgn y := by
  rcases sgn_c x with ⟨h, e⟩ | ⟨h, e⟩ | ⟨h, e⟩ <;> rcases sgn_c y with ⟨h', e'⟩ | ⟨h', e'⟩ | ⟨h', e'⟩ <;> rw [e, e']
  · rw [h, sgn_0.mpr (by grind)]; rfl
  · rw [h, sgn_0.mpr (by grind)]; rfl
  · rw [h, sgn_0.mpr (by grind)]; rfl
  · rw [h', sgn_0.mpr (by grind)]; rfl
  · rw [sgn_p.mpr (mulP h h')]; rfl
  · have := mulP (a := x) (b := -y) h (by grind)
    rw [sgn_n.mpr (by grind)]; rfl
  · rw [h', sgn_0.mpr (by grind)]; rfl
  · have := mulP (a := -x) (b := y) (by grind) h'
    rw [sgn_n.mpr (by grind)]; rfl
  · have := mulP (a := -x) (b := -y) (by grind) (by grind)
    rw [sgn_p.mpr (by grind)]; rfl
end
structure Ext {R : Type} (r : R) where
  a : R
  b : R
namespace Ext
section
variable {F : OF} {r : F.C}
theorem eqs {x y : Ext r} (h1 : x.a = y.a) (h2 : x.b = y.b) : x = y := by
  cases x; cases y; cases h1; cases h2; rfl
instance : Add (Ext r) := ⟨fun x y => ⟨x.a + y.a, x.b + y.b⟩⟩
instance : Mul (Ext r) := ⟨fun x y => ⟨x.a * y.a + x.b * y.b * r, x.a * y.b + x.b * y.a⟩⟩
instance : Neg (Ext r) := ⟨fun x => ⟨-x.a, -x.b⟩⟩
instance : Sub (Ext r) := ⟨fun x y => ⟨x.a - y.a, x.b - y.b⟩⟩
instance : NatCast (Ext r) := ⟨fun n => ⟨(n : F.C), 0⟩⟩
instance : IntCast (Ext r) := ⟨fun n => ⟨(n : F.C), 0⟩⟩
instance (n : Nat) : OfNat (Ext r) n := ⟨⟨OfNat.ofNat n, 0⟩⟩
instance : SMul Nat (Ext r) := ⟨fun n x => (n : Ext r) * x⟩
instance : SMul Int (Ext r) := ⟨fun n x => (n : Ext r) * x⟩
noncomputable def pw (x : Ext r) : Nat → Ext r
  | 0 => 1
  | n + 1 => pw x n * x
instance : HPow (Ext r) Nat (Ext r) := ⟨pw⟩
theorem add_a (x y : Ext r) : (x + y).a = x.a + y.a := rfl
theorem add_b (x y : Ext r) : (x + y).b = x.b + y.b := rfl
theorem mul_a (x y : Ext r) : (x * y).a = x.a * y.a + x.b * y.b * r := rfl
theorem mul_b (x y : Ext r) : (x * y).b = x.a * y.b + x.b * y.a := rfl
theorem neg_a (x : Ext r) : (-x).a = -x.a := rfl
theorem neg_b (x : Ext r) : (-x).b = -x.b := rfl
theorem sub_a (x y : Ext r) : (x - y).a = x.a - y.a := rfl
theorem sub_b (x y : Ext r) : (x - y).b = x.b - y.b := rfl
theorem nat_a (n : Nat) : ((n : Ext r)).a = (n : F.C) := rfl
theorem int_a (n : Int) : ((n : Ext r)).a = (n : F.C) := rfl
theorem int_b (n : Int) : ((n : Ext r)).b = 0 := rfl
theorem of_a (n : Nat) : (OfNat.ofNat n : Ext r).a = (OfNat.ofNat n : F.C) := rfl
theorem of_b (n : Nat) : (OfNat.ofNat n : Ext r).b = 0 := rfl
theorem one_a : (1 : Ext r).a = 1 := rfl
theorem one_b : (1 : Ext r).b = 0 := rfl
theorem zero_a : (0 : Ext r).a = 0 := rfl
theorem zero_b : (0 : Ext r).b = 0 := rfl
instance : Semiring (Ext r) where
  add_zero x := eqs (by rw [add_a, zero_a] <;> grind) (by rw [add_b, zero_b] <;> grind)
  add_comm x y := eqs (by rw [add_a, add_a] <;> grind) (by rw [add_b, add_b] <;> grind)
  add_assoc x y z := eqs (by simp only [add_a] <;> grind) (by simp only [add_b] <;> grind)
  mul_assoc x y z := eqs (by simp only [mul_a, mul_b] <;> grind) (by simp only [mul_a, mul_b] <;> grind)
  mul_one x := eqs (by simp only [mul_a, one_a, one_b] <;> grind) (by simp only [mul_b, one_a, one_b] <;> grind)
  one_mul x := eqs (by simp only [mul_a, one_a, one_b] <;> grind) (by simp only [mul_b, one_a, one_b] <;> grind)
  left_distrib x y z := eqs (by simp only [mul_a, add_a, add_b] <;> grind) (by simp only [mul_b, add_a, add_b] <;> grind)
  right_distrib x y z := eqs (by simp only [mul_a, add_a, add_b] <;> grind) (by simp only [mul_b, add_a, add_b] <;> grind)
  zero_mul x := eqs (by simp only [mul_a, zero_a, zero_b] <;> grind) (by simp only [mul_b, zero_a, zero_b] <;> grind)
  mul_zero x := eqs (by simp only [mul_a, zero_a, zero_b] <;> grind) (by simp only [mul_b, zero_a, zero_b] <;> grind)
  pow_zero x := rfl
  pow_succ x n := rfl
  ofNat_succ n := eqs (by rw [add_a, of_a, of_a, one_a]; exact Semiring.ofNat_succ (α := F.C) n) (by rw [add_b, of_b, of_b, one_b] <;> grind)
  ofNat_eq_natCast n := eqs (by rw [of_a, nat_a]; exact Semiring.ofNat_eq_natCast (α := F.C) n) rfl
  nsmul_eq_natCast_mul n x := rfl
instance : Ring (Ext r) where
  neg_add_cancel x := eqs (by rw [add_a, neg_a, zero_a] <;> grind) (by rw [add_b, neg_b, zero_b] <;> grind)
  sub_eq_add_neg x y := eqs (by rw [add_a, neg_a, sub_a] <;> grind) (by rw [add_b, neg_b, sub_b] <;> grind)
  neg_zsmul i x := by
    show ((-i : Int) : Ext r) * x = -((i : Ext r) * x)
    refine eqs ?_ ?_
    · rw [neg_a, mul_a, mul_a, int_a, int_a, int_b, int_b, Ring.intCast_neg (α := F.C)] <;> grind
    · rw [neg_b, mul_b, mul_b, int_a, int_a, int_b, int_b, Ring.intCast_neg (α := F.C)] <;> grind
  zsmul_natCast_eq_nsmul n x := by
    show (((n : Int)) : Ext r) * x = (n : Ext r) * x
    have e : (((n : Int)) : Ext r) = (n : Ext r) := eqs (by rw [int_a, nat_a]; exact Ring.intCast_natCast (α := F.C) n) rfl
    rw [e]
  intCast_ofNat n := eqs (by rw [int_a, of_a]; exact Ring.intCast_ofNat (α := F.C) n) rfl
  intCast_neg i := eqs (by rw [int_a, neg_a, int_a]; exact Ring.intCast_neg (α := F.C) i) (by rw [int_b, neg_b, int_b] <;> grind)
instance : CommRing (Ext r) where
  mul_comm x y := eqs (by rw [mul_a, mul_a] <;> grind) (by rw [mul_b, mul_b] <;> grind)
noncomputable def nrm (x : Ext r) : F.C := x.a * x.a - x.b * x.b * r
theorem nrm_mul (x y : Ext r) : nrm (x * y) = nrm x * nrm y := by unfold nrm; rw [mul_a, mul_b]; grind
theorem nrm_0 (hn : ∀ z : F.C, z * z ≠ r) {x : Ext r} (h : nrm x = 0) : x = 0 := by
  unfold nrm at h
  by_cases hb : x.b = 0
  · have : x.a = 0 := by rcases mul0 (a := x.a) (b := x.a) (by grind) with z | z <;> exact z
    exact eqs this hb
  · exfalso
    exact hn (x.a / x.b) (by grind)
instance : Inv (Ext r) := ⟨fun x => ⟨x.a / nrm x, -x.b / nrm x⟩⟩
instance : Div (Ext r) := ⟨fun x y => x * y⁻¹⟩
theorem inv_a (x : Ext r) : (x⁻¹).a = x.a / nrm x := rfl
theorem inv_b (x : Ext r) : (x⁻¹).b = -x.b / nrm x := rfl
noncomputable def zpw (x : Ext r) : Int → Ext r
  | .ofNat n => pw x n
  | .negSucc n => (pw x (n + 1))⁻¹
instance : HPow (Ext r) Int (Ext r) := ⟨zpw⟩
theorem inv_0 : ((0 : Ext r))⁻¹ = 0 := eqs (by rw [inv_a, zero_a]; grind) (by rw [inv_b, zero_b]; grind)
theorem mul_inv (hn : ∀ z : F.C, z * z ≠ r) {x : Ext r} (h : x ≠ 0) : x * x⁻¹ = 1 := by
  have n0 : nrm x ≠ 0 := fun z => h (nrm_0 hn z)
  refine eqs ?_ ?_
  · rw [mul_a, inv_a, inv_b, one_a]; unfold nrm at *; grind
  · rw [mul_b, inv_a, inv_b, one_b]; unfold nrm at *; grind
theorem inv_inv (hn : ∀ z : F.C, z * z ≠ r) (x : Ext r) : (x⁻¹)⁻¹ = x := by
  by_cases h : x = 0
  · rw [h, inv_0, inv_0]
  · have e1 := mul_inv hn h
    have h2 : x⁻¹ ≠ 0 := fun z => by
      rw [z] at e1
      have : (0 : Ext r) = 1 := by rw [← e1, Semiring.mul_zero]
      have := congrArg Ext.a this
      rw [zero_a, one_a] at this
      exact Field.zero_ne_one this
    have e2 := mul_inv hn h2
    calc (x⁻¹)⁻¹ = (x * x⁻¹) * (x⁻¹)⁻¹ := by rw [e1, Semiring.one_mul]
      _ = x * (x⁻¹ * (x⁻¹)⁻¹) := Semiring.mul_assoc ..
      _ = x := by rw [e2, Semiring.mul_one]
theorem inv_1 : ((1 : Ext r))⁻¹ = 1 := by
  refine eqs ?_ ?_
  · rw [inv_a, one_a]; unfold nrm; rw [one_a, one_b]; grind
  · rw [inv_b, one_b]; unfold nrm; rw [one_a, one_b]; grind
@[reducible] def fieldE (hn : ∀ z : F.C, z * z ≠ r) : Field (Ext r) where
  div_eq_mul_inv _ _ := rfl
  zero_ne_one h := by
    have := congrArg Ext.a h
    rw [zero_a, one_a] at this
    exact Field.zero_ne_one this
  inv_zero := inv_0
  mul_inv_cancel := mul_inv hn
  zpow_zero _ := rfl
  zpow_succ _ _ := rfl
  zpow_neg x n := by
    show zpw x (-n) = (zpw x n)⁻¹
    match n with
    | .ofNat 0 => exact inv_1.symm
    | .ofNat (n + 1) => rfl
    | .negSucc n => exact (inv_inv hn _).symm
noncomputable def Pos (x : Ext r) : Prop := (0 < nrm x ∧ 0 < x.a) ∨ (nrm x < 0 ∧ 0 < x.b)
instance : LT (Ext r) := ⟨fun x y => Pos (y - x)⟩
instance : LE (Ext r) := ⟨fun x y => x = y ∨ Pos (y - x)⟩
theorem nrm_neg (x : Ext r) : nrm (-x) = nrm x := by unfold nrm; rw [neg_a, neg_b]; grind
theorem nrm_zero : nrm (0 : Ext r) = 0 := by unfold nrm; rw [zero_a, zero_b]; grind
theorem pos_zero : ¬ Pos (0 : Ext r) := fun h => by unfold Pos at h; rw [nrm_zero] at h; grind
theorem pos_neg {x : Ext r} (h : Pos x) : ¬ Pos (-x) := fun z => by
  unfold Pos at h z; rw [nrm_neg, neg_a, neg_b] at z
  rcases h with h | h <;> rcases z with z | z <;> grind
theorem tri (hn : ∀ z : F.C, z * z ≠ r) (hr : 0 < r) (x : Ext r) : x = 0 ∨ Pos x ∨ Pos (-x) := by
  by_cases h : x = 0
  · exact .inl h
  · right
    have n0 : nrm x ≠ 0 := fun z => h (nrm_0 hn z)
    unfold Pos
    rw [nrm_neg, neg_a, neg_b]
    by_cases c : 0 < nrm x
    · have : x.a ≠ 0 := fun z => by
        have := mulNN (sqNN x.b) (Std.le_of_lt hr)
        unfold nrm at c; rw [z] at c; grind
      by_cases d : 0 < x.a
      · exact .inl (.inl ⟨c, d⟩)
      · exact .inr (.inl ⟨c, by grind⟩)
    · have : x.b ≠ 0 := fun z => by
        have := sqNN x.a
        unfold nrm at c n0; rw [z] at c n0; grind
      by_cases d : 0 < x.b
      · exact .inl (.inr ⟨by grind, d⟩)
      · exact .inr (.inr ⟨by grind, by grind⟩)
theorem pos_mul (hr : 0 < r) {x y : Ext r} (h1 : Pos x) (h2 : Pos y) : Pos (x * y) := by
  unfold Pos at *
  rw [nrm_mul, mul_a, mul_b]
  have rr := mulP hr hr
  have nbb := mulNN (sqNN x.b) (Std.le_of_lt hr)
  have ndd := mulNN (sqNN y.b) (Std.le_of_lt hr)
  rcases h1 with ⟨n1, p1⟩ | ⟨n1, p1⟩ <;> rcases h2 with ⟨n2, p2⟩ | ⟨n2, p2⟩
  · refine .inl ⟨mulP n1 n2, ?_⟩
    have q := mulLT nbb (show x.b * x.b * r < x.a * x.a by unfold nrm at n1; grind) ndd (show y.b * y.b * r < y.a * y.a by unfold nrm at n2; grind)
    exact sqL (mulP p1 p2) (by grind)
  · refine .inr ⟨?_, ?_⟩
    · have := mulP (a := nrm x) (b := -nrm y) n1 (by grind); grind
    · have q := mulLT nbb (show x.b * x.b * r < x.a * x.a by unfold nrm at n1; grind) (sqNN y.a) (show y.a * y.a < y.b * y.b * r by unfold nrm at n2; grind)
      refine sqL (mulP p1 p2) ?_
      by_cases c : x.b * y.a * (x.b * y.a) < x.a * y.b * (x.a * y.b)
      · exact c
      · have := mulNN (a := x.b * y.a * (x.b * y.a) - x.a * y.b * (x.a * y.b)) (b := r) (by grind) (Std.le_of_lt hr)
        grind
  · refine .inr ⟨?_, ?_⟩
    · have := mulP (a := -nrm x) (b := nrm y) (by grind) n2; grind
    · have q := mulLT (sqNN x.a) (show x.a * x.a < x.b * x.b * r by unfold nrm at n1; grind) ndd (show y.b * y.b * r < y.a * y.a by unfold nrm at n2; grind)
      have : 0 < x.b * y.a + x.a * y.b := by
        refine sqL (mulP p1 p2) ?_
        by_cases c : x.a * y.b * (x.a * y.b) < x.b * y.a * (x.b * y.a)
        · exact c
        · have := mulNN (a := x.a * y.b * (x.a * y.b) - x.b * y.a * (x.b * y.a)) (b := r) (by grind) (Std.le_of_lt hr)
          grind
      grind
  · refine .inl ⟨?_, ?_⟩
    · have := mulP (a := -nrm x) (b := -nrm y) (by grind) (by grind); grind
    · have q := mulLT (sqNN x.a) (show x.a * x.a < x.b * x.b * r by unfold nrm at n1; grind) (sqNN y.a) (show y.a * y.a < y.b * y.b * r by unfold nrm at n2; grind)
      have : 0 < x.b * y.b * r + x.a * y.a := sqL (mulP (mulP p1 p2) hr) (by grind)
      grind
theorem pos_add (hn : ∀ z : F.C, z * z ≠ r) (hr : 0 < r) {x y : Ext r} (h1 : Pos x) (h2 : Pos y) : Pos (x + y) := by
  have rr := mulP hr hr
  have nbb := mulNN (sqNN x.b) (Std.le_of_lt hr)
  have ndd := mulNN (sqNN y.b) (Std.le_of_lt hr)
  have mixed : ∀ x y : Ext r, (0 < nrm x ∧ 0 < x.a) → (nrm y < 0 ∧ 0 < y.b) → Pos (x + y) := by
    intro x y ⟨n1, p1⟩ ⟨n2, p2⟩
    have nbb := mulNN (sqNN x.b) (Std.le_of_lt hr)
    have h0 : x + y ≠ 0 := fun z => by
      have za := congrArg Ext.a z
      have zb := congrArg Ext.b z
      rw [add_a, zero_a] at za
      rw [add_b, zero_b] at zb
      have ea : y.a = -x.a := by grind
      have eb : y.b = -x.b := by grind
      unfold nrm at n1 n2
      rw [ea, eb] at n2
      grind
    have n0 : nrm (x + y) ≠ 0 := fun z => h0 (nrm_0 hn z)
    unfold Pos
    by_cases c : 0 < nrm (x + y)
    · refine .inl ⟨c, ?_⟩
      rw [add_a]
      by_cases d : 0 < x.a + y.a
      · exact d
      · exfalso
        unfold nrm at n1 n2 c
        rw [add_a, add_b] at c
        have nvv := mulNN (sqNN (x.b + y.b)) (Std.le_of_lt hr)
        have u0 : -(x.a + y.a) ≠ 0 := fun z => by
          have : x.a + y.a = 0 := by grind
          rw [this] at c; grind
        have up : 0 < -(x.a + y.a) := by grind
        have q := mulLT nbb (show x.b * x.b * r < x.a * x.a by grind) nvv (show (x.b + y.b) * (x.b + y.b) * r < -(x.a + y.a) * -(x.a + y.a) by grind)
        have q2 := sqL (p := x.a * -(x.a + y.a)) (q := x.b * (x.b + y.b) * r) (mulP p1 up) (by grind)
        grind
    · refine .inr ⟨by grind, ?_⟩
      rw [add_b]
      by_cases d : 0 < x.b + y.b
      · exact d
      · exfalso
        have c' : nrm (x + y) < 0 := by grind
        unfold nrm at n1 n2 c'
        rw [add_a, add_b] at c'
        have naa := sqNN (x.a + y.a)
        have v0 : -(x.b + y.b) ≠ 0 := fun z => by
          have : x.b + y.b = 0 := by grind
          rw [this] at c'; grind
        have vp : 0 < -(x.b + y.b) := by grind
        have q := mulLT (sqNN y.a) (show y.a * y.a < y.b * y.b * r by grind) naa (show (x.a + y.a) * (x.a + y.a) < (x.b + y.b) * (x.b + y.b) * r by grind)
        have q2 := sqL (p := y.b * -(x.b + y.b) * r) (q := y.a * (x.a + y.a)) (mulP (mulP p2 vp) hr) (by grind)
        grind
  rcases h1 with h1 | h1 <;> rcases h2 with h2 | h2
  · obtain ⟨n1, p1⟩ := h1
    obtain ⟨n2, p2⟩ := h2
    refine .inl ⟨?_, by rw [add_a]; grind⟩
    unfold nrm at *
    rw [add_a, add_b]
    have q := mulLT nbb (show x.b * x.b * r < x.a * x.a by grind) ndd (show y.b * y.b * r < y.a * y.a by grind)
    have q2 := sqL (p := x.a * y.a) (q := -(x.b * y.b * r)) (mulP p1 p2) (by grind)
    grind
  · exact mixed x y h1 h2
  · have := mixed y x h2 h1
    rwa [Semiring.add_comm] at this
  · obtain ⟨n1, p1⟩ := h1
    obtain ⟨n2, p2⟩ := h2
    refine .inr ⟨?_, by rw [add_b]; grind⟩
    unfold nrm at *
    rw [add_a, add_b]
    have q := mulLT (sqNN x.a) (show x.a * x.a < x.b * x.b * r by grind) (sqNN y.a) (show y.a * y.a < y.b * y.b * r by grind)
    have q2 := sqL (p := x.b * y.b * r) (q := -(x.a * y.a)) (mulP (mulP p1 p2) hr) (by grind)
    grind
theorem lt_def {x y : Ext r} : x < y ↔ Pos (y - x) := Iff.rfl
theorem le_def {x y : Ext r} : x ≤ y ↔ x = y ∨ Pos (y - x) := Iff.rfl
theorem sub_sub (x y z : Ext r) : (y - x) + (z - y) = z - x := by grind
theorem linE (hn : ∀ z : F.C, z * z ≠ r) (hr : 0 < r) : Std.IsLinearOrder (Ext r) where
  le_refl x := .inl rfl
  le_trans x y z h1 h2 := by
    rcases h1 with rfl | h1
    · exact h2
    · rcases h2 with rfl | h2
      · exact .inr h1
      · exact .inr (by have := pos_add hn hr h1 h2; rwa [sub_sub] at this)
  le_antisymm x y h1 h2 := by
    rcases h1 with rfl | h1
    · rfl
    · rcases h2 with rfl | h2
      · rfl
      · exact (pos_neg h1 (by rwa [show -(y - x) = x - y by grind])).elim
  le_total x y := by
    rcases tri hn hr (y - x) with z | z | z
    · exact .inl (.inl (by grind))
    · exact .inl (.inr z)
    · exact .inr (.inr (by rwa [show -(y - x) = x - y by grind] at z))
theorem lltE : Std.LawfulOrderLT (Ext r) where
  lt_iff x y := by
    constructor
    · intro h
      refine ⟨.inr h, fun z => ?_⟩
      rcases z with rfl | z
      · rw [lt_def, show y - y = 0 by grind] at h; exact pos_zero h
      · exact pos_neg h (by rwa [show -(y - x) = x - y by grind])
    · intro ⟨h1, h2⟩
      rcases h1 with rfl | h1
      · exact (h2 (.inl rfl)).elim
      · exact h1
theorem ordE (hn : ∀ z : F.C, z * z ≠ r) (hr : 0 < r) : @OrderedRing (Ext r) _ _ _ ((linE hn hr).toIsPartialOrder.toIsPreorder) :=
  letI := (linE hn hr)
  { add_le_left_iff := fun {a b} c => by
      rw [le_def, le_def, show b + c - (a + c) = b - a by grind]
      constructor
      · rintro (rfl | h)
        · exact .inl rfl
        · exact .inr h
      · rintro (h | h)
        · exact .inl (by grind)
        · exact .inr h
    zero_lt_one := by
      rw [lt_def]
      refine .inl ⟨?_, ?_⟩
      · unfold nrm; rw [sub_a, sub_b, one_a, one_b, zero_a, zero_b]
        have := OrderedRing.zero_lt_one (R := F.C)
        grind
      · rw [sub_a, one_a, zero_a]; have := OrderedRing.zero_lt_one (R := F.C); grind
    mul_lt_mul_of_pos_left := fun {a b c} h1 h2 => by
      rw [lt_def] at *
      have := pos_mul hr h2 h1
      rwa [show (c - 0) * (b - a) = c * b - c * a by grind] at this
    mul_lt_mul_of_pos_right := fun {a b c} h1 h2 => by
      rw [lt_def] at *
      have := pos_mul hr h2 h1
      rwa [show (c - 0) * (b - a) = b * c - a * c by grind] at this }
end
end Ext
noncomputable def extOF (F : OF) (r : F.C) (hr : 0 < r) (hn : ∀ z : F.C, z * z ≠ r) : OF where
  C := Ext r
  fld := Ext.fieldE hn
  le := inferInstance
  lt := inferInstance
  llt := Ext.lltE
  lin := Ext.linE hn hr
  ord := Ext.ordE hn hr
noncomputable def ratOF : OF where
  C := Rat
  fld := inferInstance
  le := inferInstance
  lt := inferInstance
  llt := inferInstance
  lin := inferInstance
  ord := inferInstance
end Mine
set_option Elab.async false
set_option linter.all false
set_option maxRecDepth 100000
namespace Mine
open PySem DL L2
open Lean.Grind
noncomputable def exOf {F : OF} (of : List Int → F.C) (r : List Int) (hr : 0 < of r) (hn : ∀ z : F.C, z * z ≠ of r) : List Int → (extOF F (of r) hr hn).C := fun x => (⟨of (frH x), of (bhH x)⟩ : Ext (of r))
inductive Tow : (rs : List (List Int)) → (F : OF) → (List Int → F.C) → Prop
  | nil : Tow [] ratOF (fun x => (((x.headD 0 : Int) : Rat)))
  | cons {rs : List (List Int)} {F : OF} {of : List Int → F.C} (T : Tow rs F of) (r : List Int) (hl : r.length = 2 ^ rs.length) (hr : 0 < of r) (hn : ∀ z : F.C, z * z ≠ of r) :
      Tow (r :: rs) (extOF F (of r) hr hn) (exOf of r hr hn)
theorem Tow.sc {rs : List (List Int)} {F : OF} {of : List Int → F.C} (T : Tow rs F of) : Sc rs := by
  induction T with
  | nil => trivial
  | cons T r hl hr hn ih => exact ⟨hl, ih⟩
theorem frH_add {x y : List Int} (h : x.length = y.length) : frH (addL x y) = addL (frH x) (frH y) := by
  have hl : (addL x y).length = x.length := by unfold addL; rw [List.length_zipWith]; omega
  unfold frH
  rw [hl, ← h]
  unfold addL
  rw [List.take_zipWith]
theorem bhH_add {x y : List Int} (h : x.length = y.length) : bhH (addL x y) = addL (bhH x) (bhH y) := by
  have hl : (addL x y).length = x.length := by unfold addL; rw [List.length_zipWith]; omega
  unfold bhH
  rw [hl, ← h]
  unfold addL
  rw [List.drop_zipWith]
theorem frH_app {a b : List Int} (h : a.length = b.length) : frH (a ++ b) = a := by
  unfold frH
  rw [List.length_append, ← h, show (a.length + a.length) / 2 = a.length by omega, List.take_left']
  rfl
theorem bhH_app {a b : List Int} (h : a.length = b.length) : bhH (a ++ b) = b := by
  unfold bhH
  rw [List.length_append, ← h, show (a.length + a.length) / 2 = a.length by omega, List.drop_left']
  rfl
theorem frH_map (f : Int → Int) (x : List Int) : frH (x.map f) = (frH x).map f := by unfold frH; rw [List.length_map, List.map_take]
theorem bhH_map (f : Int → Int) (x : List Int) : bhH (x.map f) = (bhH x).map f := by unfold bhH; rw [List.length_map, List.map_drop]
theorem fr_bh (x : List Int) : frH x ++ bhH x = x := List.take_append_drop _ x
section
variable {rs : List (List Int)} {F : OF} {of : List Int → F.C}
theorem of_add (T : Tow rs F of) : ∀ {x y : List Int}, x.length = 2 ^ rs.length → y.length = 2 ^ rs.length → of (addL x y) = of x + of y := by
  induction T with
  | nil =>
    intro x y hx hy
    match x, y, hx, hy with
    | [a], [b], _, _ => exact Rat.intCast_add a b
  | @cons rs F of T r hl hr hn ih =>
    intro x y hx hy
    refine Ext.eqs (r := of r) ?_ ?_
    · show of (frH (addL x y)) = of (frH x) + of (frH y)
      rw [frH_add (hx.trans hy.symm), ih (frH_len hx) (frH_len hy)]
    · show of (bhH (addL x y)) = of (bhH x) + of (bhH y)
      rw [bhH_add (hx.trans hy.symm), ih (bhH_len hx) (bhH_len hy)]
theorem of_mul (T : Tow rs F of) : ∀ {x y : List Int}, x.length = 2 ^ rs.length → y.length = 2 ^ rs.length → of (pt rs x y) = of x * of y := by
  induction T with
  | nil =>
    intro x y hx hy
    match x, y, hx, hy with
    | [a], [b], _, _ => exact Rat.intCast_mul a b
  | @cons rs F of T r hl hr hn ih =>
    intro x y hx hy
    have S := T.sc
    have a := frH_len hx
    have b := bhH_len hx
    have c := frH_len hy
    have d := bhH_len hy
    have l1 := pt_len rs _ _ S a c
    have l2 := pt_len rs _ _ S (pt_len rs _ _ S b d) hl
    have l3 := pt_len rs _ _ S a d
    have l4 := pt_len rs _ _ S b c
    have f1 := addL_len l1 l2
    have f2 := addL_len l3 l4
    refine Ext.eqs (r := of r) ?_ ?_
    · show of (frH (pt (r :: rs) x y)) = of (frH x) * of (frH y) + of (bhH x) * of (bhH y) * of r
      rw [pt, frH_app (f1.trans f2.symm), of_add T l1 l2, ih a c, ih (pt_len rs _ _ S b d) hl, ih b d]
    · show of (bhH (pt (r :: rs) x y)) = of (frH x) * of (bhH y) + of (bhH x) * of (frH y)
      rw [pt, bhH_app (f1.trans f2.symm), of_add T l3 l4, ih a d, ih b c]
theorem of_scale (T : Tow rs F of) (k : Int) : ∀ {x : List Int}, x.length = 2 ^ rs.length → of (x.map (k * ·)) = (k : F.C) * of x := by
  induction T with
  | nil =>
    intro x hx
    match x, hx with
    | [a], _ => exact Rat.intCast_mul k a
  | @cons rs F of T r hl hr hn ih =>
    intro x hx
    refine Ext.eqs (r := of r) ?_ ?_
    · show of (frH (x.map (k * ·))) = (k : F.C) * of (frH x) + (0 : F.C) * of (bhH x) * of r
      rw [frH_map, ih (frH_len hx)]; grind
    · show of (bhH (x.map (k * ·))) = (k : F.C) * of (bhH x) + (0 : F.C) * of (frH x)
      rw [bhH_map, ih (bhH_len hx)]; grind
theorem of_inj (T : Tow rs F of) : ∀ {x y : List Int}, x.length = 2 ^ rs.length → y.length = 2 ^ rs.length → of x = of y → x = y := by
  induction T with
  | nil =>
    intro x y hx hy e
    match x, y, hx, hy with
    | [a], [b], _, _ => have : a = b := Rat.intCast_inj.mp e; rw [this]
  | @cons rs F of T r hl hr hn ih =>
    intro x y hx hy e
    have q1 : of (frH x) = of (frH y) := congrArg (Ext.a (r := of r)) e
    have q2 : of (bhH x) = of (bhH y) := congrArg (Ext.b (r := of r)) e
    have w1 := ih (frH_len hx) (frH_len hy) q1
    have w2 := ih (bhH_len hx) (bhH_len hy) q2
    rw [← fr_bh x, ← fr_bh y, w1, w2]
theorem of_neg (T : Tow rs F of) {x : List Int} (hx : x.length = 2 ^ rs.length) : of (x.map fun t => -t) = -of x := by
  rw [← neg_map, of_scale T (-1) hx, Ring.intCast_neg]
  have : ((1 : Int) : F.C) = 1 := Ring.intCast_one
  rw [this]; grind
theorem of_nat (T : Tow rs F of) : ∀ (k : Int), of (k :: List.replicate (2 ^ rs.length - 1) 0) = (k : F.C) := by
  induction T with
  | nil => intro k; rfl
  | @cons rs F of T r hl hr hn ih =>
    intro k
    have p := Nat.two_pow_pos rs.length
    have e : k :: List.replicate (2 ^ (r :: rs).length - 1) 0 = (k :: List.replicate (2 ^ rs.length - 1) 0) ++ (0 :: List.replicate (2 ^ rs.length - 1) 0) := by
      rw [List.cons_append]
      congr 1
      rw [← List.replicate_succ, List.replicate_append_replicate]
      congr 1
      rw [List.length_cons, Nat.pow_succ]; omega
    rw [e]
    refine Ext.eqs (r := of r) ?_ ?_
    · show of (frH _) = (k : F.C)
      rw [frH_app (by simp), ih]
    · show of (bhH _) = (0 : F.C)
      rw [bhH_app (by simp), ih]; exact Ring.intCast_zero
theorem cast_pos (T : Tow rs F of) : ∀ {k : Int}, 0 < k → 0 < (k : F.C) := by
  intro k hk
  obtain ⟨n, rfl⟩ := Int.eq_ofNat_of_zero_le (Int.le_of_lt hk)
  rw [Ring.intCast_natCast]
  have : ∀ n : Nat, 0 < ((n + 1 : Nat) : F.C) := by
    intro n
    induction n with
    | zero =>
      have h1 := OrderedRing.zero_lt_one (R := F.C)
      have e : ((0 + 1 : Nat) : F.C) = 1 := Semiring.natCast_one
      rw [e]; exact h1
    | succ n ih =>
      have h1 := OrderedRing.zero_lt_one (R := F.C)
      rw [Semiring.natCast_succ]
      grind
  match n, hk with
  | n + 1, _ => exact this n
theorem cast_ne (T : Tow rs F of) {k : Int} (h : k ≠ 0) : (k : F.C) ≠ 0 := by
  rcases Int.lt_or_gt_of_ne h with c | c
  · have := cast_pos T (k := -k) (by omega)
    rw [Ring.intCast_neg] at this
    grind
  · have := cast_pos T c
    grind
end
theorem Ext.pos0 {F : OF} {r : F.C} (x : Ext r) : (0 : Ext r) < x ↔ Ext.Pos x := by
  rw [Ext.lt_def, show x - 0 = x by grind]
theorem ext_lt {F : OF} {r : F.C} {hr : 0 < r} {hn : ∀ z : F.C, z * z ≠ r} (x : (extOF F r hr hn).C) : 0 < x ↔ Ext.Pos (r := r) x := Ext.pos0 (r := r) x
open Classical in
theorem ext_sgn {F : OF} {r : F.C} {hr : 0 < r} {hn : ∀ z : F.C, z * z ≠ r} (x : (extOF F r hr hn).C) :
    sgn x = if sgn (Ext.a x) = sgn (Ext.b x) ∨ sgn (Ext.b x) = 0 then sgn (Ext.a x) else if sgn (Ext.a x) = 0 then sgn (Ext.b x) else sgn (Ext.a x) * sgn (Ext.nrm x) := by
  have x0 : x = 0 ↔ (Ext.a x = 0 ∧ Ext.b x = 0) := ⟨fun h => by rw [h]; exact ⟨rfl, rfl⟩, fun h => Ext.eqs h.1 h.2⟩
  have xp : 0 < x ↔ (0 < Ext.nrm x ∧ 0 < Ext.a x) ∨ (Ext.nrm x < 0 ∧ 0 < Ext.b x) := ext_lt x
  have n0 : Ext.nrm x = 0 → x = 0 := fun h => Ext.nrm_0 hn h
  have nd : Ext.nrm x = Ext.a x * Ext.a x - Ext.b x * Ext.b x * r := rfl
  have bb := mulNN (sqNN (Ext.b x)) (Std.le_of_lt hr)
  have aa := sqNN (Ext.a x)
  have hs : sgn x = if Ext.nrm x = 0 then 0 else if 0 < Ext.nrm x then sgn (Ext.a x) else sgn (Ext.b x) := by
    rcases sgn_c (Ext.nrm x) with ⟨h, e⟩ | ⟨h, e⟩ | ⟨h, e⟩
    · rw [if_pos h]; exact sgn_0.mpr (n0 h)
    · have h' : Ext.nrm x ≠ 0 := by grind
      have a0 : Ext.a x ≠ 0 := fun z => by rw [nd, z] at h; grind
      have hx : x ≠ 0 := fun z => a0 (x0.mp z).1
      rw [if_neg h', if_pos h]
      rcases sgn_c (Ext.a x) with ⟨h2, e2⟩ | ⟨h2, e2⟩ | ⟨h2, e2⟩
      · exact (a0 h2).elim
      · rw [e2]; exact sgn_p.mpr (xp.mpr (.inl ⟨h, h2⟩))
      · rw [e2]; refine sgn_n.mpr ?_
        have : ¬ 0 < x := fun z => by rcases xp.mp z with q | q <;> grind
        grind
    · have h' : Ext.nrm x ≠ 0 := by grind
      have h'' : ¬ 0 < Ext.nrm x := by grind
      have b0 : Ext.b x ≠ 0 := fun z => by rw [nd, z] at h; grind
      have hx : x ≠ 0 := fun z => b0 (x0.mp z).2
      rw [if_neg h', if_neg h'']
      rcases sgn_c (Ext.b x) with ⟨h2, e2⟩ | ⟨h2, e2⟩ | ⟨h2, e2⟩
      · exact (b0 h2).elim
      · rw [e2]; exact sgn_p.mpr (xp.mpr (.inr ⟨h, h2⟩))
      · rw [e2]; refine sgn_n.mpr ?_
        have : ¬ 0 < x := fun z => by rcases xp.mp z with q | q <;> grind
        grind
  rw [hs]
  have cb : Ext.b x = 0 → Ext.nrm x = Ext.a x * Ext.a x := fun z => by rw [nd, z]; grind
  have ca : Ext.a x = 0 → Ext.nrm x = -(Ext.b x * Ext.b x * r) := fun z => by rw [nd, z]; grind
  rcases sgn_c (Ext.a x) with ⟨ha, ea⟩ | ⟨ha, ea⟩ | ⟨ha, ea⟩ <;> rcases sgn_c (Ext.b x) with ⟨hb, eb⟩ | ⟨hb, eb⟩ | ⟨hb, eb⟩ <;> rcases sgn_c (Ext.nrm x) with ⟨h, e⟩ | ⟨h, e⟩ | ⟨h, e⟩ <;> rw [ea, eb, e] <;>
    first
    | (have := n0 h; have := x0.mp this; grind)
    | (rw [if_neg (show ¬ Ext.nrm x = 0 by grind)]; first | (rw [if_pos h]; rfl) | (rw [if_neg (show ¬ 0 < Ext.nrm x by grind)]; rfl))
    | (have c1 := cb hb; have := sqP (a := Ext.a x) (by grind); grind)
    | (have c1 := ca ha; have := mulP (sqP (a := Ext.b x) (by grind)) hr; grind)
    | (have c1 := cb hb; grind)
    | (have c1 := ca ha; grind)
    | (rw [if_pos h]; rfl)
end Mine
set_option Elab.async false
set_option linter.all false
set_option maxRecDepth 100000
namespace Mine
open PySem DL L2
open Lean.Grind
noncomputable def Nm {F : OF} (of : List Int → F.C) (k n : Nat) (d : D) (v : F.C) : Prop :=
  ∃ x b, d = num x b ∧ Nf x b ∧ x.length = 2 ^ k ∧ Bd n x ∧ b.natAbs < 2 ^ n ∧ v = of x / (b : F.C)
section
variable {rs : List (List Int)} {F : OF} {of : List Int → F.C}
theorem Nm.mono {k n m : Nat} {d : D} {v : F.C} (h : Nm of k n d v) (e : n ≤ m) : Nm of k m d v := by
  obtain ⟨x, b, h1, h2, h3, h4, h5, h6⟩ := h
  exact ⟨x, b, h1, h2, h3, h4.mono e, Nat.lt_of_lt_of_le h5 (Nat.pow_le_pow_right (by decide) e), h6⟩
theorem nm_low (T : Tow rs F of) {ts : List Int} {b : Int} {n : Nat} (hl : ts.length = 2 ^ rs.length) (hb : b ≠ 0) (h1 : Bd n ts) (h2 : b.natAbs < 2 ^ n) :
    ∃ K x c, K ≠ 0 ∧ ts = x.map (K * ·) ∧ b = K * c ∧ Nf x c ∧ x.length = 2 ^ rs.length ∧ K.natAbs < 2 ^ n ∧ Nm of rs.length n (num x c) (of ts / (b : F.C)) := by
  obtain ⟨K, x, c, k0, e1, e2, nf, el⟩ := nf_ex ts hb
  have cp := nf.pos
  have xl : x.length = 2 ^ rs.length := el.trans hl
  have kb : K.natAbs < 2 ^ n := by
    rw [e2, Int.natAbs_mul] at h2
    exact Nat.lt_of_le_of_lt (Nat.le_mul_of_pos_right _ (by omega)) h2
  refine ⟨K, x, c, k0, e1, e2, nf, xl, kb, x, c, rfl, nf, xl, fun t ht => ?_, ?_, ?_⟩
  · have := h1 (K * t) (by rw [e1]; exact List.mem_map.mpr ⟨t, ht, rfl⟩)
    rw [Int.natAbs_mul] at this
    exact Nat.lt_of_le_of_lt (Nat.le_mul_of_pos_left _ (by omega)) this
  · rw [e2, Int.natAbs_mul] at h2
    exact Nat.lt_of_le_of_lt (Nat.le_mul_of_pos_left _ (by omega)) h2
  · have kz := cast_ne T k0
    have cz := cast_ne T (show c ≠ 0 by omega)
    rw [e1, e2, of_scale T K xl, Ring.intCast_mul]
    grind
end
end Mine
set_option Elab.async false
set_option linter.all false
set_option maxRecDepth 100000
namespace Mine
open PySem DL L2
open Lean.Grind
abbrev hd0 : List Int → ratOF.C := fun x => (((x.headD 0 : Int) : Rat))
noncomputable def NS {F : OF} (d : F.C) : Prop := ∀ z : F.C, z * z ≠ d
theorem ns_rat' {n r : Int} (hr : 0 ≤ r) (h1 : r * r < n) (h2 : n < (r + 1) * (r + 1)) (z : Rat) : z * z ≠ (n : Rat) := by
  intro e
  have hd : ((z.den : Int) : Rat) ≠ 0 := fun q => z.den_nz (by have := Rat.intCast_eq_zero_iff.mp q; omega)
  have hz : z * ((z.den : Int) : Rat) = (z.num : Rat) := by
    have := Rat.num_divInt_den z
    rw [Rat.divInt_eq_div] at this
    grind
  have e2 : ((z.num * z.num : Int) : Rat) = (((z.den : Int) * (z.den : Int) * n : Int) : Rat) := by
    rw [Rat.intCast_mul, Rat.intCast_mul, Rat.intCast_mul, ← hz, ← e]
    grind
  have := nosq hr h1 h2 (Rat.intCast_inj.mp e2)
  have := z.den_nz
  omega
theorem ns_rat {n r : Int} (hr : 0 ≤ r) (h1 : r * r < n) (h2 : n < (r + 1) * (r + 1)) : NS (F := ratOF) ((n : Int) : Rat) := ns_rat' hr h1 h2
section
variable {F : OF} {r : F.C} {hr : 0 < r} {hn : ∀ z : F.C, z * z ≠ r}
noncomputable def mkE (hr : 0 < r) (hn : ∀ z : F.C, z * z ≠ r) (a b : F.C) : (extOF F r hr hn).C := (⟨a, b⟩ : Ext r)
theorem ns_up {d : F.C} (h1 : NS d) (h2 : NS (d * r)) : NS (mkE hr hn d 0) := by
  intro z e
  have ea : Ext.a (r := r) z * Ext.a z + Ext.b z * Ext.b z * r = d := congrArg (Ext.a (r := r)) e
  have eb : Ext.a (r := r) z * Ext.b z + Ext.b z * Ext.a z = 0 := congrArg (Ext.b (r := r)) e
  generalize Ext.a (r := r) z = a at *
  generalize Ext.b (r := r) z = b at *
  have t : a * b = 0 := by
    have : (2 : F.C) ≠ 0 := by
      have := OrderedRing.zero_lt_one (R := F.C)
      grind
    have q : (2 : F.C) * (a * b) = 0 := by grind
    rcases mul0 q with q | q
    · exact (this q).elim
    · exact q
  rcases mul0 t with q | q
  · exact h2 (b * r) (by subst q; grind)
  · exact h1 a (by subst q; grind)
theorem ns_nrm {d : Ext r} (h : Ext.nrm d < 0) : NS (F := extOF F r hr hn) d := by
  intro z e
  have : Ext.nrm (r := r) z * Ext.nrm z = Ext.nrm d := (Ext.nrm_mul (r := r) z z).symm.trans (congrArg (Ext.nrm (r := r)) e)
  have := sqNN (Ext.nrm (r := r) z)
  grind
theorem ext_pos {a b : F.C} (ha : 0 ≤ a) (hb : 0 < b) : 0 < mkE hr hn a b := by
  have es := ext_sgn (mkE hr hn a b)
  have eb : sgn b = 1 := sgn_p.mpr hb
  have es' : sgn (mkE hr hn a b) = if sgn a = sgn b ∨ sgn b = 0 then sgn a else if sgn a = 0 then sgn b else sgn a * sgn (Ext.nrm (⟨a, b⟩ : Ext r)) := es
  refine sgn_p.mp ?_
  rw [es', eb]
  rcases sgn_c a with ⟨h, e⟩ | ⟨h, e⟩ | ⟨h, e⟩
  · rw [e]; rfl
  · rw [e]; rfl
  · exfalso; grind
theorem ext_posa {a : F.C} (ha : 0 < a) : 0 < mkE hr hn a 0 := by
  have es := ext_sgn (mkE hr hn a 0)
  have ea : sgn a = 1 := sgn_p.mpr ha
  have e0 : sgn (0 : F.C) = 0 := sgn_0.mpr rfl
  have es' : sgn (mkE hr hn a 0) = if sgn a = sgn (0 : F.C) ∨ sgn (0 : F.C) = 0 then sgn a else if sgn a = 0 then sgn (0 : F.C) else sgn a * sgn (Ext.nrm (⟨a, 0⟩ : Ext r)) := es
  refine sgn_p.mp ?_
  rw [es', ea, e0]; rfl
end
noncomputable def IsSc (rs : List (List Int)) : Prop := ∃ (F : OF) (of : List Int → F.C), Tow rs F of
theorem sc_one {m r : Int} (hr : 0 ≤ r) (h1 : r * r < m) (h2 : m < (r + 1) * (r + 1)) : ∃ (hp : 0 < hd0 [m]) (hn : ∀ z : ratOF.C, z * z ≠ hd0 [m]), Tow [[m]] (extOF ratOF (hd0 [m]) hp hn) (exOf hd0 [m] hp hn) := by
  have hp : 0 < hd0 [m] := by
    have : 0 < m := Int.lt_of_le_of_lt (Int.mul_nonneg hr hr) h1
    exact (Rat.intCast_pos.mpr this : (0 : Rat) < ((m : Int) : Rat))
  exact ⟨hp, ns_rat hr h1 h2, Tow.cons Tow.nil [m] rfl hp (ns_rat hr h1 h2)⟩
theorem ratlt {a b : Int} (h : a < b) : ((a : Int) : Rat) < ((b : Int) : Rat) := Rat.intCast_lt_intCast.mpr h
theorem ratle {a b : Int} (h : a ≤ b) : ((a : Int) : Rat) ≤ ((b : Int) : Rat) := Rat.intCast_le_intCast.mpr h
theorem frH2 (a b : Int) : frH [a, b] = [a] := by simp [frH]
theorem bhH2 (a b : Int) : bhH [a, b] = [b] := by simp [bhH]
theorem frH4 (a b c d : Int) : frH [a, b, c, d] = [a, b] := by simp [frH]
theorem bhH4 (a b c d : Int) : bhH [a, b, c, d] = [c, d] := by simp [bhH]
theorem exE {F : OF} {of : List Int → F.C} {r : List Int} {hr : 0 < of r} {hn : ∀ z : F.C, z * z ≠ of r} {x y z : List Int} (h1 : frH x = y) (h2 : bhH x = z) : exOf of r hr hn x = mkE hr hn (of y) (of z) := by subst h1 h2; rfl
theorem ex2 {m : Int} {hp : 0 < hd0 [m]} {hn : ∀ z : ratOF.C, z * z ≠ hd0 [m]} (a b : Int) : exOf hd0 [m] hp hn [a, b] = mkE hp hn ((a : Int) : Rat) ((b : Int) : Rat) := exE (frH2 a b) (bhH2 a b)
theorem sc_nested {m r c b e k : Int} (hr : 0 < r) (h1 : r * r < m) (h2 : m < (r + 1) * (r + 1)) (hb : 0 < b) (hc0 : 0 ≤ c) (hc : c ≤ b * r) (he : 0 ≤ e) (hk : e < k) : IsSc [[m]] ∧ IsSc [[c, b], [m]] ∧ IsSc [[e, 0, k, 0], [c, b], [m]] := by
  obtain ⟨hp, hn, T1⟩ := sc_one (Int.le_of_lt hr) h1 h2
  have T1' : IsSc [[m]] := ⟨_, _, T1⟩
  have m1 : 1 < m := by
    have := Int.mul_le_mul (show 1 ≤ r by omega) (show 1 ≤ r by omega) (by decide) (by omega)
    omega
  have p2 : 0 < exOf (F := ratOF) hd0 [m] hp hn [c, b] := by rw [ex2]; exact ext_pos (F := ratOF) (ratle hc0) (ratlt hb)
  have n2 : Ext.nrm (F := ratOF) (r := ((m : Int) : Rat)) ⟨((c : Int) : Rat), ((b : Int) : Rat)⟩ < (0 : Rat) := by
    have q : c * c - b * b * m < 0 := by
      have q1 := Int.mul_le_mul hc hc hc0 (Int.mul_nonneg (Int.le_of_lt hb) (Int.le_of_lt hr))
      have q2 := Int.mul_lt_mul_of_pos_left h1 (Int.mul_pos hb hb)
      have e1 : b * r * (b * r) = b * b * (r * r) := by grind
      omega
    have := ratlt q
    rw [show ((c * c - b * b * m : Int) : Rat) = ((c : Int) : Rat) * ((c : Int) : Rat) - ((b : Int) : Rat) * ((b : Int) : Rat) * ((m : Int) : Rat) by rw [Rat.intCast_sub, Rat.intCast_mul, Rat.intCast_mul, Rat.intCast_mul]] at this
    exact this
  have s2 : NS (exOf (F := ratOF) hd0 [m] hp hn [c, b]) := by rw [ex2]; exact ns_nrm (F := ratOF) n2
  have T2 := Tow.cons T1 [c, b] rfl p2 s2
  refine ⟨T1', ⟨_, _, T2⟩, ?_⟩
  have e4 : frH [e, 0, k, 0] = [e, 0] := frH4 ..
  have e5 : bhH [e, 0, k, 0] = [k, 0] := bhH4 ..
  have pk : 0 < exOf (F := ratOF) hd0 [m] hp hn [k, 0] := by
    rw [ex2]; exact ext_posa (F := ratOF) (ratlt (show 0 < k by omega))
  have pe : 0 ≤ exOf (F := ratOF) hd0 [m] hp hn [e, 0] := by
    by_cases z : e = 0
    · subst z
      have : exOf (F := ratOF) hd0 [m] hp hn [0, 0] = 0 := by rw [ex2]; exact Ext.eqs (F := ratOF) rfl rfl
      rw [this]; exact Std.le_refl _
    · rw [ex2]; exact Std.le_of_lt (ext_posa (F := ratOF) (ratlt (show 0 < e by omega)))
  have p3 := ext_pos (F := extOF ratOF _ hp hn) (r := exOf (F := ratOF) hd0 [m] hp hn [c, b]) (hr := p2) (hn := s2) pe pk
  have n3 : Ext.nrm (F := extOF ratOF _ hp hn) (r := exOf (F := ratOF) hd0 [m] hp hn [c, b]) ⟨exOf (F := ratOF) hd0 [m] hp hn [e, 0], exOf (F := ratOF) hd0 [m] hp hn [k, 0]⟩ < 0 := by
    have ne_ : exOf (F := ratOF) hd0 [m] hp hn [e, 0] = ((e : Int) : (extOF ratOF _ hp hn).C) := of_nat T1 e
    have nk_ : exOf (F := ratOF) hd0 [m] hp hn [k, 0] = ((k : Int) : (extOF ratOF _ hp hn).C) := of_nat T1 k
    have nm_ : exOf (F := ratOF) hd0 [m] hp hn [m, 0] = ((m : Int) : (extOF ratOF _ hp hn).C) := of_nat T1 m
    have nc_ : exOf (F := ratOF) hd0 [m] hp hn [c, 0] = ((c : Int) : (extOF ratOF _ hp hn).C) := of_nat T1 c
    have hs : ∃ s : (extOF ratOF _ hp hn).C, 0 < s ∧ s * s = ((m : Int) : (extOF ratOF _ hp hn).C) ∧ exOf (F := ratOF) hd0 [m] hp hn [c, b] = ((c : Int) : (extOF ratOF _ hp hn).C) + ((b : Int) : (extOF ratOF _ hp hn).C) * s := by
      refine ⟨exOf (F := ratOF) hd0 [m] hp hn [0, 1], by rw [ex2]; exact ext_pos (F := ratOF) (Std.le_refl _) (ratlt (by decide)), ?_, ?_⟩
      · rw [← nm_, ex2, ex2]
        refine Ext.eqs (F := ratOF) ?_ ?_
        · show ((0 : Int) : Rat) * ((0 : Int) : Rat) + ((1 : Int) : Rat) * ((1 : Int) : Rat) * ((m : Int) : Rat) = ((m : Int) : Rat)
          rw [show ((0 : Int) : Rat) = 0 from rfl, show ((1 : Int) : Rat) = 1 from rfl]; grind
        · show ((0 : Int) : Rat) * ((1 : Int) : Rat) + ((1 : Int) : Rat) * ((0 : Int) : Rat) = ((0 : Int) : Rat)
          rw [show ((0 : Int) : Rat) = 0 from rfl, show ((1 : Int) : Rat) = 1 from rfl]; grind
      · rw [ex2, ex2]
        refine Ext.eqs (F := ratOF) ?_ ?_
        · show ((c : Int) : Rat) = ((c : Int) : Rat) + (((b : Int) : Rat) * ((0 : Int) : Rat) + (0 : Rat) * ((1 : Int) : Rat) * ((m : Int) : Rat))
          rw [show ((0 : Int) : Rat) = 0 from rfl]; grind
        · show ((b : Int) : Rat) = (0 : Rat) + (((b : Int) : Rat) * ((1 : Int) : Rat) + (0 : Rat) * ((0 : Int) : Rat))
          rw [show ((0 : Int) : Rat) = 0 from rfl, show ((1 : Int) : Rat) = 1 from rfl]; grind
    obtain ⟨s, sp, ss, hv⟩ := hs
    unfold Ext.nrm
    dsimp only
    rw [ne_, nk_, hv]
    have cm1 : (1 : (extOF ratOF _ hp hn).C) < ((m : Int) : (extOF ratOF _ hp hn).C) := by
      have := cast_pos T1 (k := m - 1) (by omega)
      rw [Ring.intCast_sub, Ring.intCast_one] at this; grind
    have cc0 : 0 ≤ ((c : Int) : (extOF ratOF _ hp hn).C) := by
      by_cases z : c = 0
      · rw [z, Ring.intCast_zero]; exact Std.le_refl _
      · exact Std.le_of_lt (cast_pos T1 (by omega))
    have ce0 : 0 ≤ ((e : Int) : (extOF ratOF _ hp hn).C) := by
      by_cases z : e = 0
      · rw [z, Ring.intCast_zero]; exact Std.le_refl _
      · exact Std.le_of_lt (cast_pos T1 (by omega))
    have cek : ((e : Int) : (extOF ratOF _ hp hn).C) < ((k : Int) : (extOF ratOF _ hp hn).C) := by
      have := cast_pos T1 (k := k - e) (by omega)
      rw [Ring.intCast_sub] at this; grind
    have cb1 : 1 ≤ ((b : Int) : (extOF ratOF _ hp hn).C) := by
      by_cases z : b = 1
      · rw [z, Ring.intCast_one]; exact Std.le_refl _
      · have := cast_pos T1 (k := b - 1) (by omega)
        rw [Ring.intCast_sub, Ring.intCast_one] at this; grind
    generalize ((m : Int) : (extOF ratOF _ hp hn).C) = M at *
    generalize ((c : Int) : (extOF ratOF _ hp hn).C) = A at *
    generalize ((b : Int) : (extOF ratOF _ hp hn).C) = B at *
    generalize ((e : Int) : (extOF ratOF _ hp hn).C) = E at *
    generalize ((k : Int) : (extOF ratOF _ hp hn).C) = K at *
    have s1 : 1 < s := by
      by_cases q : 1 < s
      · exact q
      · have := mulNN (a := 1 - s) (b := 1 + s) (by grind) (by grind)
        grind
    have bs : 1 < B * s := by
      have := mulNN (a := B - 1) (b := s) (by grind) (by grind)
      grind
    have ee := mulLT ce0 cek ce0 cek
    have kk := sqNN K
    have q := mulNN (a := K * K) (b := A + B * s - 1) kk (by grind)
    grind
  have ee : exOf (exOf hd0 [m] hp hn) [c, b] p2 s2 [e, 0, k, 0] = mkE p2 s2 (exOf hd0 [m] hp hn [e, 0]) (exOf hd0 [m] hp hn [k, 0]) := exE e4 e5
  exact ⟨_, _, Tow.cons T2 [e, 0, k, 0] rfl (by rw [ee]; exact p3) (by rw [ee]; exact ns_nrm (F := extOF ratOF _ hp hn) n3)⟩
theorem sc_primes {p q s : Int} (hp : 0 < p) (hq : 0 < q) (hs : 0 < s) (h : ∀ n ∈ [p, q, q * p, s, s * p, s * q, s * q * p], ∃ r : Int, 0 ≤ r ∧ r * r < n ∧ n < (r + 1) * (r + 1)) : IsSc [[p]] ∧ IsSc [[q, 0], [p]] ∧ IsSc [[s, 0, 0, 0], [q, 0], [p]] := by
  have ns : ∀ n ∈ [p, q, q * p, s, s * p, s * q, s * q * p], NS (F := ratOF) ((n : Int) : Rat) := fun n hn => by
    obtain ⟨r, a, b, c⟩ := h n hn
    exact ns_rat a b c
  obtain ⟨r, a, b, c⟩ := h p (by simp)
  obtain ⟨h1, h2, T1⟩ := sc_one a b c
  have p2 : 0 < exOf (F := ratOF) hd0 [p] h1 h2 [q, 0] := by rw [ex2]; exact ext_posa (F := ratOF) (ratlt hq)
  have n2 : NS (exOf (F := ratOF) hd0 [p] h1 h2 [q, 0]) := by
    rw [ex2]
    exact ns_up (F := ratOF) (ns q (by simp)) (by
    have := ns (q * p) (by simp)
    rw [Rat.intCast_mul] at this; exact this)
  have T2 := Tow.cons T1 [q, 0] rfl p2 n2
  refine ⟨⟨_, _, T1⟩, ⟨_, _, T2⟩, ?_⟩
  have zz : exOf (F := ratOF) hd0 [p] h1 h2 [0, 0] = 0 := by rw [ex2]; exact Ext.eqs (F := ratOF) rfl rfl
  have p3 := ext_posa (F := extOF ratOF _ h1 h2) (r := exOf (F := ratOF) hd0 [p] h1 h2 [q, 0]) (hr := p2) (hn := n2) (a := exOf (F := ratOF) hd0 [p] h1 h2 [s, 0]) (by rw [ex2]; exact ext_posa (F := ratOF) (ratlt hs))
  have a1 : NS (exOf (F := ratOF) hd0 [p] h1 h2 [s, 0]) := by
    rw [ex2]
    exact ns_up (F := ratOF) (ns s (by simp)) (by
    have := ns (s * p) (by simp)
    rw [Rat.intCast_mul] at this; exact this)
  have a2 : NS (exOf (F := ratOF) hd0 [p] h1 h2 [s, 0] * exOf (F := ratOF) hd0 [p] h1 h2 [q, 0]) := by
    have e : exOf (F := ratOF) hd0 [p] h1 h2 [s, 0] * exOf (F := ratOF) hd0 [p] h1 h2 [q, 0] = exOf (F := ratOF) hd0 [p] h1 h2 [s * q, 0] := by
      rw [ex2, ex2, ex2]
      refine Ext.eqs (F := ratOF) ?_ ?_
      · show ((s : Int) : Rat) * ((q : Int) : Rat) + ((0 : Int) : Rat) * ((0 : Int) : Rat) * ((p : Int) : Rat) = (((s * q : Int)) : Rat)
        rw [Rat.intCast_mul, show ((0 : Int) : Rat) = 0 from rfl]; grind
      · show ((s : Int) : Rat) * ((0 : Int) : Rat) + ((0 : Int) : Rat) * ((q : Int) : Rat) = ((0 : Int) : Rat)
        rw [show ((0 : Int) : Rat) = 0 from rfl]; grind
    rw [e, ex2]
    exact ns_up (F := ratOF) (ns (s * q) (by simp)) (by
      have := ns (s * q * p) (by simp)
      rw [Rat.intCast_mul] at this; exact this)
  have n3 := ns_up (F := extOF ratOF _ h1 h2) (r := exOf (F := ratOF) hd0 [p] h1 h2 [q, 0]) (hr := p2) (hn := n2) a1 a2
  have ee : exOf (F := extOF ratOF _ h1 h2) (exOf (F := ratOF) hd0 [p] h1 h2) [q, 0] p2 n2 [s, 0, 0, 0] = mkE p2 n2 (exOf (F := ratOF) hd0 [p] h1 h2 [s, 0]) 0 := (exE (frH4 s 0 0 0) (bhH4 s 0 0 0)).trans (by rw [zz])
  exact ⟨_, _, Tow.cons T2 [s, 0, 0, 0] rfl (by rw [ee]; exact p3) (by rw [ee]; exact n3)⟩
end Mine
set_option Elab.async false
set_option linter.all false
set_option maxRecDepth 100000
namespace DL
open PySem PySem.Spec PyProof.Rows L2
end DL
local macro_rules
  | `(tactic| push_cast [$xs,*]) => `(tactic| simp only [DL.ap_seq, DL.sq_nxt, DL.sq_ret, DL.ap_set, DL.on_ok, DL.ont_ok, DL.onl_ok, DL.ap_if, DL.ap_two, DL.ap_bF, DL.ap_bT, DL.ap_bL, DL.ap_bR, DL.ap_cons, DL.ap_tup, DL.ap_lst, DL.ap_ret, DL.ap_neg, DL.neg_ok, DL.ap_notT, DL.ap_orT, DL.ap_andV, DL.ap_ifD, DL.ap_for, DL.ap_forR, DL.ap_slice, DL.ap_part, DL.ap_noPart, DL.part_int, DL.out_ret, DL.cmp_ok, DL.add_ok, DL.sub_ok, DL.bool_ok, DL.truth_bl, DL.abs_ok, DL.len_tup, DL.len_lst, DL.tuple_lst, DL.seq_tup, DL.seq_lst, DL.vw_val, DL.vw_arg, DL.eqI, DL.neI, DL.bnd_ok, DL.mulE_i, DL.sl0, DL.st0, DL.sl1, DL.st1, DL.sl2, DL.st2, DL.sl3, DL.st3, DL.sl4, DL.st4, DL.sl5, DL.st5, DL.sl6, DL.st6, DL.sl7, DL.st7, DL.sl8, DL.st8, DL.sl9, DL.tup1, DL.tup2, DL.tup3, DL.tup4, DL.lst4, DL.lst5, DL.lst6, DL.ix_tup0, DL.ix_lst0, DL.ix_tup1, DL.ix_lst1, DL.ix_lst2, DL.ix_lst3, ↓reduceIte, decide_true, decide_false, Bool.not_true, Bool.not_false, Bool.false_eq_true, Int.reduceEq, Int.reduceNe, Int.reduceLT, Int.reduceLE, Nat.reduceAdd, DL.cN0, DL.cN1, List.length_cons, List.length_nil, $xs,*])
set_option Elab.async false
set_option linter.all false
set_option maxRecDepth 100000
set_option maxHeartbeats 4000000
namespace Bk
open PySem PySem.Spec PyProof.Rows L2 DL
noncomputable def is_int : D → Option Bool
  | .non => some false
  | .bl _ => some true
  | .int _ => some true
  | .str _ => some false
  | .tup _ => some false
  | .lst _ => some false
  | .exc _ => none
noncomputable def is_bool : D → Option Bool
  | .non => some false
  | .bl _ => some true
  | .int _ => some false
  | .str _ => some false
  | .tup _ => some false
  | .lst _ => some false
  | .exc _ => none
noncomputable def absAt (i : Nat) (δ : DS) : Nat := match δ[i]? with
  | some (some sv) => (match sv.view with | .int i => i.natAbs + 1 | _ => 0)
  | _ => 0
end Bk
set_option Elab.async false
set_option linter.all false
set_option maxRecDepth 100000
set_option maxHeartbeats 4000000
namespace Bk
open PySem PySem.Spec PyProof.Rows L2 DL
noncomputable def b_front_tops : DS → Out :=
  (retD (sliceF (slotD 0) noPart (partF (two (bindF (consD (slotD 0) (fun _ => .ok [])) lenG) (fun _ => .ok (.int 2)) fdivD))))
noncomputable def F_front_tops : List D → Res D := fnD 1 1 b_front_tops
noncomputable def b_behind_tops : DS → Out :=
  (retD (sliceF (slotD 0) (partF (two (bindF (consD (slotD 0) (fun _ => .ok [])) lenG) (fun _ => .ok (.int 2)) fdivD)) noPart))
noncomputable def F_behind_tops : List D → Res D := fnD 1 1 b_behind_tops
noncomputable def b_law_cell : DS → Out :=
  (seqD (ifS (bindT (two (slotD 1) (bindF (consD (slotD 0) (fun _ => .ok [])) lenG) (cmpD fun i j => decide (i < j))) boolD) (retD (two (slotD 0) (slotD 1) ixD)) Out.nxt) (retD (fun _ => .ok (.int 0))))
noncomputable def F_law_cell : List D → Res D := fnD 2 2 b_law_cell
noncomputable def b_law_whole : DS → Out :=
  (retD (andV (bindF (slotD 0) (isG Bk.is_int)) (notV (bindF (slotD 0) (isG Bk.is_bool)))))
noncomputable def F_law_whole : List D → Res D := fnD 1 1 b_law_whole
noncomputable def fuel_law_common_1 : DS → Nat := absAt 1
noncomputable def b_law_common : DS → Out :=
  (seqD (whileF fuel_law_common_1 (bindT (two (slotD 1) (fun _ => .ok (.int 0)) neD) boolD) (seqD (setD 2 (two (slotD 0) (slotD 1) modD)) (seqD (setD 0 (slotD 1)) (setD 1 (slotD 2))))) (retD (bindF (consD (slotD 0) (fun _ => .ok [])) absG)))
noncomputable def F_law_common : List D → Res D := fnD 2 3 b_law_common
noncomputable def b_law_added : DS → Out :=
  (retD (bindF (consD (compD 2 [] (tupTgt [0, 1]) (two (slotD 0) (slotD 1) addD) (bindRg (consD (slotD 0) (consD (slotD 1) (fun _ => .ok []))) zipG)) (fun _ => .ok [])) tupleG))
noncomputable def F_law_added : List D → Res D := fnD 2 2 b_law_added
noncomputable def b_law_scaled : DS → Out :=
  (retD (bindF (consD (compD 1 [0] (tgtN 0) (two (slotD 1) (slotD 0) mulE) (bindL (slotD 1) seqItems)) (fun _ => .ok [])) tupleG))
noncomputable def F_law_scaled : List D → Res D := fnD 2 2 b_law_scaled
noncomputable def b_law_mixed : DS → Out :=
  (seqD (setD 3 (lstF (consD (fun _ => .ok (.int 271828183)) (consD (fun _ => .ok (.int 314159269)) (consD (fun _ => .ok (.int 161803399)) (consD (fun _ => .ok (.int 141421357)) (consD (fun _ => .ok (.int 173205081)) (fun _ => .ok [])))))))) (seqD (setD 3 (two (slotD 3) (lstF (consD (fun _ => .ok (.int 223606797)) (consD (fun _ => .ok (.int 244948975)) (consD (fun _ => .ok (.int 264575131)) (consD (fun _ => .ok (.int 331662479)) (consD (fun _ => .ok (.int 360555127)) (fun _ => .ok []))))))) addD)) (retD (two (two (two (two (slotD 0) (fun _ => .ok (.int 1)) addD) (two (slotD 3) (slotD 1) ixD) mulE) (fun _ => .ok (.int 1000000007)) modD) (slotD 2) modD))))
noncomputable def F_law_mixed : List D → Res D := fnD 3 4 b_law_mixed
noncomputable def b_law_scaffold : DS → Out :=
  (seqD (setD 2 (two (fun _ => .ok (.int 1)) (bindF (consD (slotD 0) (consD (fun _ => .ok (.int 0)) (consD (fun _ => .ok (.int 6)) (fun _ => .ok [])))) F_law_mixed) addD)) (seqD (setD 3 (two (two (two (slotD 2) (slotD 2) mulE) (fun _ => .ok (.int 1)) addD) (bindF (consD (slotD 0) (consD (fun _ => .ok (.int 1)) (consD (two (fun _ => .ok (.int 2)) (slotD 2) mulE) (fun _ => .ok [])))) F_law_mixed) addD)) (seqD (setD 4 (two (fun _ => .ok (.int 1)) (bindF (consD (slotD 0) (consD (fun _ => .ok (.int 2)) (consD (fun _ => .ok (.int 3)) (fun _ => .ok [])))) F_law_mixed) addD)) (seqD (setD 5 (two (fun _ => .ok (.int 1)) (bindF (consD (slotD 0) (consD (fun _ => .ok (.int 3)) (consD (fun _ => .ok (.int 3)) (fun _ => .ok [])))) F_law_mixed) addD)) (seqD (setD 6 (tupF (consD (tupF (consD (slotD 3) (fun _ => .ok []))) (consD (tupF (consD (bindF (consD (slotD 0) (consD (fun _ => .ok (.int 4)) (consD (two (two (slotD 4) (slotD 2) mulE) (fun _ => .ok (.int 1)) addD) (fun _ => .ok [])))) F_law_mixed) (consD (slotD 4) (fun _ => .ok [])))) (consD (tupF (consD (bindF (consD (slotD 0) (consD (fun _ => .ok (.int 5)) (consD (slotD 5) (fun _ => .ok [])))) F_law_mixed) (consD (fun _ => .ok (.int 0)) (consD (slotD 5) (consD (fun _ => .ok (.int 0)) (fun _ => .ok [])))))) (fun _ => .ok [])))))) (seqD (ifS (bindT (two (bindF (consD (slotD 0) (consD (fun _ => .ok (.int 6)) (consD (fun _ => .ok (.int 3)) (fun _ => .ok [])))) F_law_mixed) (fun _ => .ok (.int 0)) eqD) boolD) (seqD (setD 7 (lstF (consD (fun _ => .ok (.int 2)) (consD (fun _ => .ok (.int 3)) (consD (fun _ => .ok (.int 5)) (consD (fun _ => .ok (.int 7)) (consD (fun _ => .ok (.int 11)) (consD (fun _ => .ok (.int 13)) (fun _ => .ok []))))))))) (seqD (setD 8 (bindF (consD (slotD 0) (consD (fun _ => .ok (.int 7)) (consD (fun _ => .ok (.int 6)) (fun _ => .ok [])))) F_law_mixed)) (setD 6 (tupF (consD (tupF (consD (two (slotD 7) (slotD 8) ixD) (fun _ => .ok []))) (consD (tupF (consD (two (slotD 7) (two (two (slotD 8) (fun _ => .ok (.int 1)) addD) (fun _ => .ok (.int 6)) modD) ixD) (consD (fun _ => .ok (.int 0)) (fun _ => .ok [])))) (consD (tupF (consD (two (slotD 7) (two (two (slotD 8) (fun _ => .ok (.int 2)) addD) (fun _ => .ok (.int 6)) modD) ixD) (consD (fun _ => .ok (.int 0)) (consD (fun _ => .ok (.int 0)) (consD (fun _ => .ok (.int 0)) (fun _ => .ok [])))))) (fun _ => .ok [])))))))) Out.nxt) (retD (sliceF (slotD 6) noPart (partF (slotD 1))))))))))
noncomputable def F_law_scaffold : List D → Res D := fnD 2 9 b_law_scaffold
noncomputable def b_law_tops_times (R : List D → Res D) : DS → Out :=
  (seqD (ifS (bindT (two (bindF (consD (slotD 1) (fun _ => .ok [])) lenG) (fun _ => .ok (.int 1)) eqD) boolD) (retD (tupF (consD (two (two (slotD 1) (fun _ => .ok (.int 0)) ixD) (two (slotD 2) (fun _ => .ok (.int 0)) ixD) mulE) (fun _ => .ok [])))) Out.nxt) (seqD (setD 3 (two (bindF (consD (slotD 1) (fun _ => .ok [])) lenG) (fun _ => .ok (.int 2)) fdivD)) (seqD (setD 4 (sliceF (slotD 0) noPart (partF (negF (fun _ => .ok (.int 1)))))) (seqD (setD 5 (bindF (consD (slotD 4) (consD (sliceF (slotD 1) (partF (slotD 3)) noPart) (consD (sliceF (slotD 2) (partF (slotD 3)) noPart) (fun _ => .ok [])))) R)) (seqD (setD 6 (bindF (consD (bindF (consD (slotD 4) (consD (sliceF (slotD 1) noPart (partF (slotD 3))) (consD (sliceF (slotD 2) noPart (partF (slotD 3))) (fun _ => .ok [])))) R) (consD (bindF (consD (slotD 4) (consD (two (slotD 0) (negF (fun _ => .ok (.int 1))) ixD) (consD (slotD 5) (fun _ => .ok [])))) R) (fun _ => .ok []))) F_law_added)) (seqD (setD 7 (bindF (consD (slotD 4) (consD (sliceF (slotD 1) noPart (partF (slotD 3))) (consD (sliceF (slotD 2) (partF (slotD 3)) noPart) (fun _ => .ok [])))) R)) (retD (two (slotD 6) (bindF (consD (slotD 7) (consD (bindF (consD (slotD 4) (consD (sliceF (slotD 1) (partF (slotD 3)) noPart) (consD (sliceF (slotD 2) noPart (partF (slotD 3))) (fun _ => .ok [])))) R) (fun _ => .ok []))) F_law_added) addD))))))))
noncomputable def Fr_law_tops_times : Nat → List D → Res D
  | 0 => fun _ => .stuck
  | n + 1 => fnD 3 8 (b_law_tops_times (Fr_law_tops_times n))
noncomputable def F_law_tops_times : List D → Res D := Fr_law_tops_times 4
noncomputable def b_law_lowest : DS → Out :=
  (seqD (setD 1 (two (slotD 0) (fun _ => .ok (.int 1)) ixD)) (seqD (forS (tgtN 2) (bindL (two (slotD 0) (fun _ => .ok (.int 0)) ixD) seqItems) (setD 1 (bindF (consD (slotD 1) (consD (slotD 2) (fun _ => .ok []))) F_law_common))) (retD (tupF (consD (bindF (consD (compD 1 [1] (tgtN 0) (two (slotD 0) (slotD 1) fdivD) (bindL (two (slotD 0) (fun _ => .ok (.int 0)) ixD) seqItems)) (fun _ => .ok [])) tupleG) (consD (two (two (slotD 0) (fun _ => .ok (.int 1)) ixD) (slotD 1) fdivD) (fun _ => .ok [])))))))
noncomputable def F_law_lowest : List D → Res D := fnD 1 3 b_law_lowest
noncomputable def b_law_sign_of (R : List D → Res D) : DS → Out :=
  (seqD (ifS (bindT (two (bindF (consD (slotD 1) (fun _ => .ok [])) lenG) (fun _ => .ok (.int 1)) eqD) boolD) (retD (two (bindF (consD (two (two (slotD 1) (fun _ => .ok (.int 0)) ixD) (fun _ => .ok (.int 0)) (cmpD fun i j => decide (j < i))) (fun _ => .ok [])) intG) (bindF (consD (two (two (slotD 1) (fun _ => .ok (.int 0)) ixD) (fun _ => .ok (.int 0)) (cmpD fun i j => decide (i < j))) (fun _ => .ok [])) intG) subD)) Out.nxt) (seqD (setD 2 (two (bindF (consD (slotD 1) (fun _ => .ok [])) lenG) (fun _ => .ok (.int 2)) fdivD)) (seqD (setD 3 (sliceF (slotD 0) noPart (partF (negF (fun _ => .ok (.int 1)))))) (seqD (setD 4 (bindF (consD (slotD 3) (consD (sliceF (slotD 1) noPart (partF (slotD 2))) (fun _ => .ok []))) R)) (seqD (setD 5 (bindF (consD (slotD 3) (consD (sliceF (slotD 1) (partF (slotD 2)) noPart) (fun _ => .ok []))) R)) (seqD (ifS (orT (bindT (two (slotD 4) (slotD 5) eqD) boolD) (bindT (two (slotD 5) (fun _ => .ok (.int 0)) eqD) boolD)) (retD (slotD 4)) Out.nxt) (seqD (ifS (bindT (two (slotD 4) (fun _ => .ok (.int 0)) eqD) boolD) (retD (slotD 5)) Out.nxt) (seqD (setD 6 (bindF (consD (slotD 3) (consD (sliceF (slotD 1) (partF (slotD 2)) noPart) (consD (sliceF (slotD 1) (partF (slotD 2)) noPart) (fun _ => .ok [])))) F_law_tops_times)) (seqD (setD 7 (bindF (consD (negF (fun _ => .ok (.int 1))) (consD (bindF (consD (slotD 3) (consD (two (slotD 0) (negF (fun _ => .ok (.int 1))) ixD) (consD (slotD 6) (fun _ => .ok [])))) F_law_tops_times) (fun _ => .ok []))) F_law_scaled)) (retD (two (slotD 4) (bindF (consD (slotD 3) (consD (bindF (consD (bindF (consD (slotD 3) (consD (sliceF (slotD 1) noPart (partF (slotD 2))) (consD (sliceF (slotD 1) noPart (partF (slotD 2))) (fun _ => .ok [])))) F_law_tops_times) (consD (slotD 7) (fun _ => .ok []))) F_law_added) (fun _ => .ok []))) R) mulE)))))))))))
noncomputable def Fr_law_sign_of : Nat → List D → Res D
  | 0 => fun _ => .stuck
  | n + 1 => fnD 2 8 (b_law_sign_of (Fr_law_sign_of n))
noncomputable def F_law_sign_of : List D → Res D := Fr_law_sign_of 4
noncomputable def b_ten_times_itself : DS → Out :=
  (seqD (setD 1 (fun _ => .ok (.int 1))) (seqD (forR (rng1) (tgtN 2) (consD (slotD 0) (fun _ => .ok [])) (setD 1 (two (slotD 1) (fun _ => .ok (.int 10)) mulD))) (retD (slotD 1))))
noncomputable def F_ten_times_itself : List D → Res D := fnD 1 3 b_ten_times_itself
noncomputable def fuel_whole_root_1 : DS → Nat := absAt 1
noncomputable def b_whole_root : DS → Out :=
  (seqD (ifS (bindT (two (slotD 0) (fun _ => .ok (.int 0)) (cmpD fun i j => decide (i < j))) boolD) (raiseD "Below" (consD (fun _ => .ok (.str "a number below nought has no whole root")) (fun _ => .ok []))) Out.nxt) (seqD (setD 1 (two (fun _ => .ok (.int 1)) (two (two (bindF (slotD 0) (fun d => bitsG d [])) (fun _ => .ok (.int 1)) addD) (fun _ => .ok (.int 2)) fdivD) shlD)) (seqD (whileF fuel_whole_root_1 (bindT (two (two (slotD 1) (slotD 1) mulE) (slotD 0) (cmpD fun i j => decide (j < i))) boolD) (setD 1 (two (two (slotD 1) (two (slotD 0) (slotD 1) fdivD) addD) (fun _ => .ok (.int 2)) fdivD))) (retD (slotD 1)))))
noncomputable def F_whole_root : List D → Res D := fnD 1 2 b_whole_root
noncomputable def b_root_bounds (R : List D → Res D) : DS → Out :=
  (seqD (setD 2 (bindF (consD (sliceF (slotD 0) noPart (partF (negF (fun _ => .ok (.int 1))))) (consD (two (slotD 0) (negF (fun _ => .ok (.int 1))) ixD) (consD (slotD 1) (fun _ => .ok [])))) R)) (retD (tupF (consD (bindF (consD (two (bindF (consD (two (slotD 2) (fun _ => .ok (.int 0)) ixD) (consD (fun _ => .ok (.int 0)) (fun _ => .ok []))) maxG) (slotD 1) mulE) (fun _ => .ok [])) F_whole_root) (consD (two (bindF (consD (two (two (slotD 2) (fun _ => .ok (.int 1)) ixD) (slotD 1) mulE) (fun _ => .ok [])) F_whole_root) (fun _ => .ok (.int 1)) addD) (fun _ => .ok []))))))
noncomputable def b_bounds (R : List D → Res D) : DS → Out :=
  (seqD (ifS (bindT (two (bindF (consD (slotD 0) (fun _ => .ok [])) lenG) (fun _ => .ok (.int 0)) eqD) boolD) (retD (tupF (consD (two (two (slotD 1) (fun _ => .ok (.int 0)) ixD) (slotD 2) mulE) (consD (two (two (slotD 1) (fun _ => .ok (.int 0)) ixD) (slotD 2) mulE) (fun _ => .ok []))))) Out.nxt) (seqD (setD 3 (bindF (consD (sliceF (slotD 0) noPart (partF (negF (fun _ => .ok (.int 1))))) (consD (bindF (consD (slotD 1) (fun _ => .ok [])) F_front_tops) (consD (slotD 2) (fun _ => .ok [])))) R)) (seqD (setD 4 (bindF (consD (sliceF (slotD 0) noPart (partF (negF (fun _ => .ok (.int 1))))) (consD (bindF (consD (slotD 1) (fun _ => .ok [])) F_behind_tops) (consD (slotD 2) (fun _ => .ok [])))) R)) (seqD (setD 5 (bindF (consD (slotD 0) (consD (slotD 2) (fun _ => .ok []))) (fnD 2 3 (b_root_bounds R)))) (seqD (setD 6 (two (two (slotD 4) (fun _ => .ok (.int 0)) ixD) (ifD (bindT (two (two (slotD 4) (fun _ => .ok (.int 0)) ixD) (fun _ => .ok (.int 0)) (cmpD fun i j => decide (j ≤ i))) boolD) (two (slotD 5) (fun _ => .ok (.int 0)) ixD) (two (slotD 5) (fun _ => .ok (.int 1)) ixD)) mulE)) (seqD (setD 7 (two (two (slotD 4) (fun _ => .ok (.int 1)) ixD) (ifD (bindT (two (two (slotD 4) (fun _ => .ok (.int 1)) ixD) (fun _ => .ok (.int 0)) (cmpD fun i j => decide (j ≤ i))) boolD) (two (slotD 5) (fun _ => .ok (.int 1)) ixD) (two (slotD 5) (fun _ => .ok (.int 0)) ixD)) mulE)) (retD (tupF (consD (two (two (slotD 3) (fun _ => .ok (.int 0)) ixD) (two (slotD 6) (slotD 2) fdivD) addD) (consD (two (two (two (slotD 3) (fun _ => .ok (.int 1)) ixD) (two (slotD 7) (slotD 2) fdivD) addD) (fun _ => .ok (.int 1)) addD) (fun _ => .ok [])))))))))))
noncomputable def Fr_bounds : Nat → List D → Res D
  | 0 => fun _ => .stuck
  | n + 1 => fnD 3 8 (b_bounds (Fr_bounds n))
noncomputable def F_bounds : List D → Res D := Fr_bounds 4
noncomputable def F_root_bounds : List D → Res D := fnD 2 3 (b_root_bounds (Fr_bounds 4))
noncomputable def b_floors_around : DS → Out :=
  (seqD (setD 4 (bindF (consD (slotD 0) (consD (slotD 1) (consD (two (fun _ => .ok (.int 1)) (slotD 3) shlD) (fun _ => .ok [])))) F_bounds)) (seqD (setD 5 (two (slotD 2) (slotD 3) shlD)) (retD (tupF (consD (two (two (slotD 4) (fun _ => .ok (.int 0)) ixD) (slotD 5) fdivD) (consD (two (two (slotD 4) (fun _ => .ok (.int 1)) ixD) (slotD 5) fdivD) (fun _ => .ok [])))))))
noncomputable def F_floors_around : List D → Res D := fnD 4 6 b_floors_around
noncomputable def fuel_floor_at_1 : DS → Nat := fun _ => 12
noncomputable def b_floor_at : DS → Out :=
  (seqD (setD 3 (bindF (consD (slotD 2) (fun _ => .ok [])) F_ten_times_itself)) (seqD (setD 4 (bindF (consD (compD 1 [3] (tgtN 0) (two (slotD 0) (slotD 1) mulE) (bindL (two (slotD 1) (fun _ => .ok (.int 0)) ixD) seqItems)) (fun _ => .ok [])) tupleG)) (seqD (setD 5 (fun _ => .ok (.int 64))) (seqD (setD 6 (bindF (consD (slotD 0) (consD (slotD 4) (consD (two (slotD 1) (fun _ => .ok (.int 1)) ixD) (consD (slotD 5) (fun _ => .ok []))))) F_floors_around)) (seqD (whileF fuel_floor_at_1 (bindT (two (two (slotD 6) (fun _ => .ok (.int 0)) ixD) (two (slotD 6) (fun _ => .ok (.int 1)) ixD) neD) boolD) (seqD (setD 5 (two (slotD 5) (fun _ => .ok (.int 2)) mulD)) (setD 6 (bindF (consD (slotD 0) (consD (slotD 4) (consD (two (slotD 1) (fun _ => .ok (.int 1)) ixD) (consD (slotD 5) (fun _ => .ok []))))) F_floors_around)))) (retD (two (slotD 6) (fun _ => .ok (.int 0)) ixD)))))))
noncomputable def F_floor_at : List D → Res D := fnD 3 7 b_floor_at
noncomputable def b_law_drawn_2 : DS → Out :=
  (seqD (ownC 2 (compD 1 [0] (tgtN 0) (two (bindF (consD (two (slotD 1) (fun _ => .ok (.int 5)) fdivD) (consD (slotD 0) (consD (fun _ => .ok (.int 19)) (fun _ => .ok [])))) F_law_mixed) (fun _ => .ok (.int 9)) subD) (bindRg (consD (slotD 1) (fun _ => .ok [])) rng1))) (seqD (ifS (bindT (two (two (slotD 0) (fun _ => .ok (.int 5)) modD) (fun _ => .ok (.int 1)) eqD) boolD) (putD 2 (noX (two (two (slotD 0) (fun _ => .ok (.int 5)) fdivD) (slotD 1) modD)) (two (two (two (slotD 0) (fun _ => .ok (.int 5)) fdivD) (two (two (fun _ => .ok (.int 2)) (two (fun _ => .ok (.int 10)) (fun _ => .ok (.int 9)) powD) mulE) (fun _ => .ok (.int 1)) addD) modD) (two (fun _ => .ok (.int 10)) (fun _ => .ok (.int 9)) powD) subD)) Out.nxt) (seqD (ifS (bindT (two (two (slotD 0) (fun _ => .ok (.int 5)) modD) (fun _ => .ok (.int 2)) eqD) boolD) (ownC 2 (compD 2 [0] (tupTgt [0, 1]) (two (slotD 1) (bindF (consD (two (two (two (two (slotD 2) (fun _ => .ok (.int 5)) fdivD) (two (slotD 0) (fun _ => .ok (.int 1)) addD) fdivD) (fun _ => .ok (.int 2)) modD) (fun _ => .ok (.int 0)) eqD) (fun _ => .ok [])) intG) mulE) (bindRg (consD (slotD 2) (fun _ => .ok [])) enumG))) Out.nxt) (seqD (ifS (bindT (two (two (slotD 0) (fun _ => .ok (.int 5)) modD) (fun _ => .ok (.int 3)) eqD) boolD) (ownC 2 (compD 2 [1, 0] (tupTgt [0, 1]) (two (slotD 1) (bindF (consD (two (slotD 0) (two (two (two (slotD 3) (fun _ => .ok (.int 5)) fdivD) (slotD 2) modD) (fun _ => .ok (.int 1)) addD) (cmpD fun i j => decide (i < j))) (fun _ => .ok [])) intG) mulE) (bindRg (consD (slotD 2) (fun _ => .ok [])) enumG))) Out.nxt) (retD (bindF (consD (tupF (consD (bindF (consD (slotD 2) (fun _ => .ok [])) tupleG) (consD (two (fun _ => .ok (.int 1)) (bindF (consD (two (slotD 0) (fun _ => .ok (.int 5)) fdivD) (consD (fun _ => .ok (.int 8)) (consD (fun _ => .ok (.int 12)) (fun _ => .ok [])))) F_law_mixed) addD) (fun _ => .ok [])))) (fun _ => .ok [])) F_law_lowest))))))
noncomputable def F_law_drawn_2 : List D → Res D := fnD 2 3 b_law_drawn_2
end Bk
set_option Elab.async false
set_option linter.all false
set_option maxRecDepth 100000
set_option maxHeartbeats 4000000
set_option exponentiation.threshold 300000
namespace Bk
open PySem PySem.Spec PyProof.Rows L2 DL Mine
theorem w_law_whole (i : Int) : F_law_whole [.int i] = .ok (.bl true) := rfl
noncomputable def cell (ns : List Int) (k : Nat) : Int := ns.getD k 0
theorem w_cell (ns : List Int) (k : Nat) : F_law_cell [.lst (ns.map .int), .int k] = .ok (.int (cell ns k)) := by
  show outD (b_law_cell [some (.arg (.lst (ns.map .int))), some (.arg (.int k))]) = _
  unfold b_law_cell cell
  push_cast [List.length_map]
  by_cases h : k < ns.length
  · have h' : ((k : Int) < (ns.length : Int)) := by omega
    have hz : (ns.map D.int)[k]? = some (.int ns[k]) := by simp [h]
    simp only [h', decide_true, ↓reduceIte, sq_ret, out_ret, ix_lst _ k _ hz, on_ok]
    simp [h]
  · have h' : ¬ ((k : Int) < (ns.length : Int)) := by omega
    have hz : ns[k]? = none := List.getElem?_eq_none (by omega)
    simp only [h', decide_false, Bool.false_eq_true, ↓reduceIte, sq_nxt, on_ok, out_ret]
    simp [hz]
    rfl
abbrev lcc : DS → Res Bool := bindT (two (slotD 1) (fun _ => .ok (.int 0)) neD) boolD
abbrev lcb : DS → Out := seqD (setD 2 (two (slotD 0) (slotD 1) modD)) (seqD (setD 0 (slotD 1)) (setD 1 (slotD 2)))
theorem loop_lc : ∀ (n : Nat) (s0 s1 : SV) (z : Option SV) (x y : Int), s0.view = .int x → s1.view = .int y → y.natAbs < n →
    ∃ s0' s1' z' g, whileD lcc lcb n [some s0, some s1, z] = .nxt [some s0', s1', z'] ∧ s0'.view = .int g ∧ g.natAbs = Int.gcd x y
  | 0, _, _, _, _, _, _, _, h => absurd h (Nat.not_lt_zero _)
  | n + 1, s0, s1, z, x, y, h0, h1, h => by
    rw [whileD]
    have e : lcc [some s0, some s1, z] = .ok (!decide (y = 0)) := by
      simp only [lcc, ap_seq, sq_nxt, sq_ret, ap_set, on_ok, ont_ok, onl_ok, ap_if, ap_two, ap_bF, ap_bT, ap_bL, ap_bR, ap_cons, ap_tup, ap_lst, ap_ret, ap_neg, neg_ok, ap_notT, ap_orT, ap_andV, ap_ifD, ap_for, ap_forR, ap_slice, ap_part, ap_noPart, part_int, out_ret, cmp_ok, add_ok, sub_ok, bool_ok, truth_bl, abs_ok, len_tup, len_lst, tuple_lst, seq_tup, seq_lst, vw_val, vw_arg, eqI, neI, bnd_ok, mulE_i, sl0, st0, sl1, st1, sl2, st2, sl3, st3, sl4, st4, sl5, st5, sl6, st6, sl7, st7, sl8, st8, sl9, tup1, tup2, tup3, tup4, lst4, lst5, lst6, ix_tup0, ix_lst0, ix_tup1, ix_lst1, ix_lst2, ix_lst3, ↓reduceIte, decide_true, decide_false, Bool.not_true, Bool.not_false, Bool.false_eq_true, Int.reduceEq, Int.reduceNe, Int.reduceLT, Int.reduceLE, Nat.reduceAdd, cN0, cN1, List.length_cons, List.length_nil, h1]
    rw [e]
    by_cases c : y = 0
    · subst c
      exact ⟨s0, some s1, z, x, rfl, h0, by simp⟩
    · simp only [c, decide_false, Bool.not_false]
      have e2 : lcb [some s0, some s1, z] = .nxt [some (.val (.int y)), some (.val (.int (Int.fmod x y))), some (.val (.int (Int.fmod x y)))] := by
        simp only [lcb, ap_seq, sq_nxt, sq_ret, ap_set, on_ok, ont_ok, onl_ok, ap_if, ap_two, ap_bF, ap_bT, ap_bL, ap_bR, ap_cons, ap_tup, ap_lst, ap_ret, ap_neg, neg_ok, ap_notT, ap_orT, ap_andV, ap_ifD, ap_for, ap_forR, ap_slice, ap_part, ap_noPart, part_int, out_ret, cmp_ok, add_ok, sub_ok, bool_ok, truth_bl, abs_ok, len_tup, len_lst, tuple_lst, seq_tup, seq_lst, vw_val, vw_arg, eqI, neI, bnd_ok, mulE_i, sl0, st0, sl1, st1, sl2, st2, sl3, st3, sl4, st4, sl5, st5, sl6, st6, sl7, st7, sl8, st8, sl9, tup1, tup2, tup3, tup4, lst4, lst5, lst6, ix_tup0, ix_lst0, ix_tup1, ix_lst1, ix_lst2, ix_lst3, ↓reduceIte, decide_true, decide_false, Bool.not_true, Bool.not_false, Bool.false_eq_true, Int.reduceEq, Int.reduceNe, Int.reduceLT, Int.reduceLE, Nat.reduceAdd, cN0, cN1, List.length_cons, List.length_nil, h1, h0, modI c]
      rw [e2]
      obtain ⟨s0', s1', z', g, q1, q2, q3⟩ := loop_lc n (.val (.int y)) (.val (.int (Int.fmod x y))) (some (.val (.int (Int.fmod x y)))) y (Int.fmod x y) rfl rfl (by have := fmod_small x c; omega)
      exact ⟨s0', s1', z', g, q1, q2, by rw [q3, gcd_fmod]⟩
theorem w_law_common (a b : Int) : F_law_common [.int a, .int b] = .ok (.int (cm a b)) := by
  show outD (b_law_common [some (.arg (.int a)), some (.arg (.int b)), none]) = _
  unfold b_law_common
  obtain ⟨s0', s1', z', g, q1, q2, q3⟩ := loop_lc (b.natAbs + 1) (.arg (.int a)) (.arg (.int b)) none a b rfl rfl (Nat.lt_succ_self _)
  rw [ap_seq]
  show outD ((whileD lcc lcb (b.natAbs + 1) [some (.arg (.int a)), some (.arg (.int b)), none]).seq _) = _
  rw [q1]
  push_cast [q2, q3]
  rfl
abbrev cc : DS → Res Bool := bindT (two (slotD 3) (fun _ => .ok (.int 0)) neD) boolD
abbrev cb : DS → Out := (seqD (setD 4 (two (slotD 2) (slotD 3) modD)) (seqD (setD 2 (slotD 3)) (setD 3 (slotD 4))))
theorem w_front (x : List Int) : F_front_tops [TI x] = .ok (TI (frH x)) := by
  show outD (b_front_tops [some (.arg (TI x))]) = _
  unfold b_front_tops frH
  push_cast [List.length_map, half_int, take_TI]
theorem w_behind (x : List Int) : F_behind_tops [TI x] = .ok (TI (bhH x)) := by
  show outD (b_behind_tops [some (.arg (TI x))]) = _
  unfold b_behind_tops bhH
  push_cast [List.length_map, half_int, drop_TI]
theorem mulB {a b : Int} (h : a.natAbs < 2 ^ 200000) (h2 : b.natAbs < 2 ^ 200000) : mulD (.int a) (.int b) = .ok (.int (a * b)) := by
  unfold mulD
  have e : 200000 ≤ 2 ^ 20 := by decide
  exact if_pos (.inl ⟨Nat.le_trans (intBits_le h) e, Nat.le_trans (intBits_le h2) e⟩)
theorem pw_le {n m : Nat} (e : n ≤ m) : 2 ^ n ≤ 2 ^ m := Nat.pow_le_pow_right (by decide) e
theorem upB {x n : Nat} (h : x < 2 ^ n) (e : n ≤ 200000) : x < 2 ^ 200000 := Nat.lt_of_lt_of_le h (pw_le e)
theorem up8 {x n : Nat} (h : x < 2 ^ n) (e : n ≤ 8000) : x < 2 ^ 8000 := Nat.lt_of_lt_of_le h (pw_le e)
noncomputable def eT (ρ : Nat) : Nat → Nat
  | 0 => 0
  | k + 1 => 2 * eT ρ k + ρ + 1
theorem ptB {ρ : Nat} : ∀ (rs : List (List Int)) {x y : List Int} {p q : Nat}, (∀ r ∈ rs, Bd ρ r) → Bd p x → Bd q y → Bd (p + q + eT ρ rs.length) (pt rs x y)
  | [], x, y, p, q, _, h1, h2 => fun t ht => by
    rw [pt, List.mem_singleton] at ht
    rw [ht]; show _ < 2 ^ (p + q); exact mul_bd h1.head h2.head
  | r :: rs, x, y, p, q, hr, h1, h2 => by
    have hr' : ∀ r ∈ rs, Bd ρ r := fun u hu => hr u (List.mem_cons_of_mem _ hu)
    have ac := ptB rs hr' h1.fr h2.fr
    have bd := ptB rs hr' h1.bh h2.bh
    have ad := ptB rs hr' h1.fr h2.bh
    have bc := ptB rs hr' h1.bh h2.fr
    have sq := ptB rs hr' bd (hr r (by simp))
    rw [pt]
    show Bd (p + q + (2 * eT ρ rs.length + ρ + 1)) _
    refine Bd.app (Bd.mono ((ac.mono (by omega)).add sq) (by omega)) (Bd.mono (ad.add bc) (by omega))
section
variable {rs : List (List Int)} {F : OF} {of : List Int → F.C} {ρ : Nat}
theorem two_le8 {k : Nat} (h : k ≤ 3) : 2 ^ k ≤ 8 := Nat.le_trans (Nat.pow_le_pow_right (by decide) h) (by decide)
end
end Bk
set_option Elab.async false
set_option linter.all false
set_option maxRecDepth 100000
set_option maxHeartbeats 4000000
set_option exponentiation.threshold 300000
namespace Bk
open PySem PySem.Spec PyProof.Rows L2 DL Mine
section
variable {F : OF}
end
section
variable {rs : List (List Int)} {F : OF} {of : List Int → F.C} {ρ : Nat}
section
variable {r : F.C} {hr : 0 < r} {hn : ∀ z : F.C, z * z ≠ r}
noncomputable def cj (x : (extOF F r hr hn).C) : (extOF F r hr hn).C := (⟨Ext.a (r := r) x, -Ext.b (r := r) x⟩ : Ext r)
noncomputable def em (x : F.C) : (extOF F r hr hn).C := (⟨x, 0⟩ : Ext r)
theorem em_mul (x y : F.C) : em (hr := hr) (hn := hn) (x * y) = em x * em y := Ext.eqs (r := r) (show x * y = x * y + 0 * 0 * r by grind) (show (0 : F.C) = x * 0 + 0 * y by grind)
theorem cj_nrm (x : (extOF F r hr hn).C) : x * cj x = em (Ext.nrm (r := r) x) := by
  refine Ext.eqs (r := r) ?_ ?_
  · show Ext.a x * Ext.a x + Ext.b x * -Ext.b x * r = Ext.a x * Ext.a x - Ext.b x * Ext.b x * r
    grind
  · show Ext.a x * -Ext.b x + Ext.b x * Ext.a x = (0 : F.C)
    grind
theorem nrm_ne (x : (extOF F r hr hn).C) (h : x ≠ 0) : Ext.nrm (r := r) x ≠ 0 := fun z => h (Ext.nrm_0 hn z)
end
noncomputable def ntL (r : List Int) (rs : List (List Int)) (x : List Int) : List Int := addL (pt rs (frH x) (frH x)) ((pt rs (pt rs (bhH x) (bhH x)) r).map fun t => -t)
theorem ntL_len (S : Sc rs) {r x : List Int} (hl : r.length = 2 ^ rs.length) (lx : x.length = 2 ^ (rs.length + 1)) : (ntL r rs x).length = 2 ^ rs.length :=
  addL_len (pt_len rs _ _ S (frH_len lx) (frH_len lx)) (by rw [List.length_map]; exact pt_len rs _ _ S (pt_len rs _ _ S (bhH_len lx) (bhH_len lx)) hl)
theorem ntL_bd {r x : List Int} (hr : Bd ρ r) (hrs : ∀ r ∈ rs, Bd ρ r) {p : Nat} (h : Bd p x) : Bd (2 * p + eT ρ (rs.length + 1)) (ntL r rs x) := by
  have a := ptB rs hrs h.fr h.fr
  have b := ptB rs hrs (ptB rs hrs h.bh h.bh) hr
  have := (a.mono (show p + p + eT ρ rs.length ≤ p + p + eT ρ rs.length + ρ + eT ρ rs.length by omega)).add (bd_neg b)
  exact this.mono (by show _ ≤ 2 * p + (2 * eT ρ rs.length + ρ + 1); omega)
theorem of_ntL (T : Tow rs F of) {r x : List Int} (hl : r.length = 2 ^ rs.length) (lx : x.length = 2 ^ (rs.length + 1)) : of (ntL r rs x) = of (frH x) * of (frH x) - of (bhH x) * of (bhH x) * of r := by
  have S := T.sc
  have lf := frH_len lx
  have lb := bhH_len lx
  unfold ntL
  rw [of_add T (pt_len rs _ _ S lf lf) (by rw [List.length_map]; exact pt_len rs _ _ S (pt_len rs _ _ S lb lb) hl), of_neg T (pt_len rs _ _ S (pt_len rs _ _ S lb lb) hl), of_mul T lf lf, of_mul T (pt_len rs _ _ S lb lb) hl, of_mul T lb lb]
  grind
noncomputable def SOk (ρ : Nat) : Nat → Nat → Prop
  | 0, p => p ≤ 200000
  | k + 1, p => 2 * p + eT ρ (k + 1) ≤ 200000 ∧ SOk ρ k (2 * p + eT ρ (k + 1))
theorem SOk.mono {ρ : Nat} : ∀ {k p q : Nat}, SOk ρ k q → p ≤ q → SOk ρ k p
  | 0, _, _, h, e => Nat.le_trans e h
  | k + 1, p, q, ⟨h1, h2⟩, e => ⟨by omega, SOk.mono (k := k) h2 (by omega)⟩
theorem sgn_int (T : Tow rs F of) (k : Int) : sgn (k : F.C) = sg k := by
  rcases sg_cases k with ⟨h, e⟩ | ⟨h, e⟩ | ⟨h, e⟩ <;> rw [e]
  · rw [h]; exact sgn_0.mpr Lean.Grind.Ring.intCast_zero
  · exact sgn_p.mpr (cast_pos T h)
  · have := cast_pos T (k := -k) (by omega)
    rw [Lean.Grind.Ring.intCast_neg] at this
    exact sgn_n.mpr (by grind)
theorem sgn_small (x : F.C) : (sgn x).natAbs < 2 ^ 200000 := by
  refine Nat.lt_of_lt_of_le (show (sgn x).natAbs < 2 ^ 1 by rcases sgn_c x with ⟨_, e⟩ | ⟨_, e⟩ | ⟨_, e⟩ <;> rw [e] <;> decide) (pw_le (by decide))
theorem sgn_div (T : Tow rs F of) {u : F.C} {b : Int} (hb : 0 < b) : sgn (u / (b : F.C)) = sgn u := by
  have bp := cast_pos T hb
  have h1 : sgn ((b : F.C) * (u / (b : F.C))) = sgn (u / (b : F.C)) := by rw [sgn_mul, sgn_p.mpr bp, Int.one_mul]
  rw [← h1]; congr 1; grind
open Classical in
noncomputable def fabs {F : OF} (u : F.C) : F.C := if u < 0 then -u else u
end
end Bk
set_option Elab.async false
set_option linter.all false
set_option maxRecDepth 100000
set_option maxHeartbeats 4000000
set_option exponentiation.threshold 300000
namespace Bk
open PySem PySem.Spec PyProof.Rows L2 DL Mine
theorem lev4 (c : Int) : ∃ l : Nat, l ≤ 3 ∧ Int.fmod c 4 = (l : Int) := by
  have a := Int.fmod_nonneg_of_pos c (b := 4) (by decide)
  have b := Int.fmod_lt_of_pos c (b := 4) (by decide)
  exact ⟨(Int.fmod c 4).toNat, by omega, by omega⟩
theorem many_ix (l : Nat) (h : l ≤ 3) : ixD (.lst [.int 1, .int 2, .int 4, .int 8]) (.int l) = .ok (.int ((2 ^ l : Nat) : Int)) := by
  have : l = 0 ∨ l = 1 ∨ l = 2 ∨ l = 3 := by omega
  rcases this with z | z | z | z <;> subst z
  · exact ix_lst0 _ _
  · exact ix_lst1 _ _ _
  · exact ix_lst2 _ _ _ _
  · exact ix_lst3 _ _ _ _ _
theorem up {x n : Nat} (h : x < 2 ^ n) (m : Nat) (e : n ≤ m) : x < 2 ^ m := Nat.lt_of_lt_of_le h (Nat.pow_le_pow_right (by decide) e)
noncomputable def mixV : List Int := [271828183, 314159269, 161803399, 141421357, 173205081, 223606797, 244948975, 264575131, 331662479, 360555127]
noncomputable def mix (c : Int) (k : Nat) (m : Int) : Int := Int.fmod (Int.fmod ((c + 1) * mixV.getD k 0) 1000000007) m
theorem mix_bd (c : Int) (k : Nat) {m : Int} (h : 0 < m) : 0 ≤ mix c k m ∧ mix c k m < m := ⟨Int.fmod_nonneg_of_pos _ h, Int.fmod_lt_of_pos _ h⟩
theorem w_mixed (c : Int) (k : Nat) (m : Int) (hk : k < 10) (hm : 0 < m) : F_law_mixed [.int c, .int k, .int m] = .ok (.int (mix c k m)) := by
  show outD (b_law_mixed [some (.arg (.int c)), some (.arg (.int k)), some (.arg (.int m)), none]) = _
  unfold b_law_mixed mix
  have ad : addD (.lst [.int 271828183, .int 314159269, .int 161803399, .int 141421357, .int 173205081]) (.lst [.int 223606797, .int 244948975, .int 264575131, .int 331662479, .int 360555127]) = .ok (.lst (mixV.map .int)) := rfl
  have hl : k < mixV.length := hk
  have hg : (mixV.map D.int)[k]? = some (.int (mixV.getD k 0)) := by
    rw [List.getElem?_map, List.getD_eq_getElem?_getD, List.getElem?_eq_getElem hl]; rfl
  have hs : ∀ v ∈ mixV, v.natAbs < 2 ^ 64 := by decide
  have hv : (mixV.getD k 0).natAbs < 2 ^ 64 := by
    rw [List.getD_eq_getElem?_getD, List.getElem?_eq_getElem hl]; exact hs _ (List.getElem_mem hl)
  push_cast [ad, ix_lst _ k _ hg, mulR hv, modI (show (1000000007 : Int) ≠ 0 by decide), modI (Int.ne_of_gt hm)]
theorem sc_p0 : IsSc [[2]] ∧ IsSc [[3, 0], [2]] ∧ IsSc [[5, 0, 0, 0], [3, 0], [2]] := sc_primes (by decide) (by decide) (by decide) fun n hn => by
  simp only [List.mem_cons, List.not_mem_nil, or_false] at hn
  rcases hn with rfl | rfl | rfl | rfl | rfl | rfl | rfl
  · exact ⟨1, by decide, by decide, by decide⟩
  · exact ⟨1, by decide, by decide, by decide⟩
  · exact ⟨2, by decide, by decide, by decide⟩
  · exact ⟨2, by decide, by decide, by decide⟩
  · exact ⟨3, by decide, by decide, by decide⟩
  · exact ⟨3, by decide, by decide, by decide⟩
  · exact ⟨5, by decide, by decide, by decide⟩
theorem sc_p1 : IsSc [[3]] ∧ IsSc [[5, 0], [3]] ∧ IsSc [[7, 0, 0, 0], [5, 0], [3]] := sc_primes (by decide) (by decide) (by decide) fun n hn => by
  simp only [List.mem_cons, List.not_mem_nil, or_false] at hn
  rcases hn with rfl | rfl | rfl | rfl | rfl | rfl | rfl
  · exact ⟨1, by decide, by decide, by decide⟩
  · exact ⟨2, by decide, by decide, by decide⟩
  · exact ⟨3, by decide, by decide, by decide⟩
  · exact ⟨2, by decide, by decide, by decide⟩
  · exact ⟨4, by decide, by decide, by decide⟩
  · exact ⟨5, by decide, by decide, by decide⟩
  · exact ⟨10, by decide, by decide, by decide⟩
theorem sc_p2 : IsSc [[5]] ∧ IsSc [[7, 0], [5]] ∧ IsSc [[11, 0, 0, 0], [7, 0], [5]] := sc_primes (by decide) (by decide) (by decide) fun n hn => by
  simp only [List.mem_cons, List.not_mem_nil, or_false] at hn
  rcases hn with rfl | rfl | rfl | rfl | rfl | rfl | rfl
  · exact ⟨2, by decide, by decide, by decide⟩
  · exact ⟨2, by decide, by decide, by decide⟩
  · exact ⟨5, by decide, by decide, by decide⟩
  · exact ⟨3, by decide, by decide, by decide⟩
  · exact ⟨7, by decide, by decide, by decide⟩
  · exact ⟨8, by decide, by decide, by decide⟩
  · exact ⟨19, by decide, by decide, by decide⟩
theorem sc_p3 : IsSc [[7]] ∧ IsSc [[11, 0], [7]] ∧ IsSc [[13, 0, 0, 0], [11, 0], [7]] := sc_primes (by decide) (by decide) (by decide) fun n hn => by
  simp only [List.mem_cons, List.not_mem_nil, or_false] at hn
  rcases hn with rfl | rfl | rfl | rfl | rfl | rfl | rfl
  · exact ⟨2, by decide, by decide, by decide⟩
  · exact ⟨3, by decide, by decide, by decide⟩
  · exact ⟨8, by decide, by decide, by decide⟩
  · exact ⟨3, by decide, by decide, by decide⟩
  · exact ⟨9, by decide, by decide, by decide⟩
  · exact ⟨11, by decide, by decide, by decide⟩
  · exact ⟨31, by decide, by decide, by decide⟩
theorem sc_p4 : IsSc [[11]] ∧ IsSc [[13, 0], [11]] ∧ IsSc [[2, 0, 0, 0], [13, 0], [11]] := sc_primes (by decide) (by decide) (by decide) fun n hn => by
  simp only [List.mem_cons, List.not_mem_nil, or_false] at hn
  rcases hn with rfl | rfl | rfl | rfl | rfl | rfl | rfl
  · exact ⟨3, by decide, by decide, by decide⟩
  · exact ⟨3, by decide, by decide, by decide⟩
  · exact ⟨11, by decide, by decide, by decide⟩
  · exact ⟨1, by decide, by decide, by decide⟩
  · exact ⟨4, by decide, by decide, by decide⟩
  · exact ⟨5, by decide, by decide, by decide⟩
  · exact ⟨16, by decide, by decide, by decide⟩
theorem sc_p5 : IsSc [[13]] ∧ IsSc [[2, 0], [13]] ∧ IsSc [[3, 0, 0, 0], [2, 0], [13]] := sc_primes (by decide) (by decide) (by decide) fun n hn => by
  simp only [List.mem_cons, List.not_mem_nil, or_false] at hn
  rcases hn with rfl | rfl | rfl | rfl | rfl | rfl | rfl
  · exact ⟨3, by decide, by decide, by decide⟩
  · exact ⟨1, by decide, by decide, by decide⟩
  · exact ⟨5, by decide, by decide, by decide⟩
  · exact ⟨1, by decide, by decide, by decide⟩
  · exact ⟨6, by decide, by decide, by decide⟩
  · exact ⟨2, by decide, by decide, by decide⟩
  · exact ⟨8, by decide, by decide, by decide⟩
theorem primes_at (i : Int) (h0 : 0 ≤ i) (h6 : i < 6) : ∃ v1 v2 v3 : Int, ixD (.lst [.int 2, .int 3, .int 5, .int 7, .int 11, .int 13]) (.int i) = .ok (.int v1) ∧ ixD (.lst [.int 2, .int 3, .int 5, .int 7, .int 11, .int 13]) (.int (Int.fmod (i + 1) 6)) = .ok (.int v2) ∧ ixD (.lst [.int 2, .int 3, .int 5, .int 7, .int 11, .int 13]) (.int (Int.fmod (i + 2) 6)) = .ok (.int v3) ∧ v1.natAbs < 2 ^ 10 ∧ v2.natAbs < 2 ^ 10 ∧ v3.natAbs < 2 ^ 10 ∧ IsSc [[v1]] ∧ IsSc [[v2, 0], [v1]] ∧ IsSc [[v3, 0, 0, 0], [v2, 0], [v1]] := by
  have : i = 0 ∨ i = 1 ∨ i = 2 ∨ i = 3 ∨ i = 4 ∨ i = 5 := by omega
  rcases this with z | z | z | z | z | z <;> rw [z]
  · exact ⟨2, 3, 5, rfl, rfl, rfl, by decide, by decide, by decide, sc_p0⟩
  · exact ⟨3, 5, 7, rfl, rfl, rfl, by decide, by decide, by decide, sc_p1⟩
  · exact ⟨5, 7, 11, rfl, rfl, rfl, by decide, by decide, by decide, sc_p2⟩
  · exact ⟨7, 11, 13, rfl, rfl, rfl, by decide, by decide, by decide, sc_p3⟩
  · exact ⟨11, 13, 2, rfl, rfl, rfl, by decide, by decide, by decide, sc_p4⟩
  · exact ⟨13, 2, 3, rfl, rfl, rfl, by decide, by decide, by decide, sc_p5⟩
theorem bd1 {n : Nat} {a : Int} (h : a.natAbs < 2 ^ n) : Bd n [a] := fun t ht => by rw [List.mem_singleton.mp ht]; exact h
theorem bdc {n : Nat} {a : Int} {l : List Int} (h : a.natAbs < 2 ^ n) (hl : Bd n l) : Bd n (a :: l) := fun t ht => (List.mem_cons.mp ht).elim (fun z => by rw [z]; exact h) (hl t)
theorem w_scaf (c : Int) : ∃ R1 R2 R3 : List Int, R1.length = 1 ∧ R2.length = 2 ∧ R3.length = 4 ∧ Bd 10 R1 ∧ Bd 10 R2 ∧ Bd 10 R3 ∧ (IsSc [R1] ∧ IsSc [R2, R1] ∧ IsSc [R3, R2, R1]) ∧ ∀ level : Nat, F_law_scaffold [.int c, .int level] = .ok (.tup ([TI R1, TI R2, TI R3].take level)) := by
  have b0 := mix_bd c 0 (m := 6) (by decide)
  have x0 : F_law_mixed [.int c, .int 0, .int 6] = _ := w_mixed c 0 6 (by decide) (by decide)
  generalize mix c 0 6 = y0 at b0 x0
  have sq : (1 + y0) * (1 + y0) ≤ 6 * 6 := Int.mul_le_mul (by omega) (by omega) (by omega) (by decide)
  have sq0 : 0 ≤ (1 + y0) * (1 + y0) := Int.mul_nonneg (by omega) (by omega)
  have b1 := mix_bd c 1 (m := 2 * (1 + y0)) (by omega)
  have x1 : F_law_mixed [.int c, .int 1, .int (2 * (1 + y0))] = _ := w_mixed c 1 (2 * (1 + y0)) (by decide) (by omega)
  generalize mix c 1 (2 * (1 + y0)) = y1 at b1 x1
  have b2 := mix_bd c 2 (m := 3) (by decide)
  have x2 : F_law_mixed [.int c, .int 2, .int 3] = _ := w_mixed c 2 3 (by decide) (by decide)
  generalize mix c 2 3 = y2 at b2 x2
  have b3 := mix_bd c 3 (m := 3) (by decide)
  have x3 : F_law_mixed [.int c, .int 3, .int 3] = _ := w_mixed c 3 3 (by decide) (by decide)
  generalize mix c 3 3 = y3 at b3 x3
  have br : (1 + y2) * (1 + y0) ≤ 3 * 6 := Int.mul_le_mul (by omega) (by omega) (by omega) (by decide)
  have br0 : 0 ≤ (1 + y2) * (1 + y0) := Int.mul_nonneg (by omega) (by omega)
  have b4 := mix_bd c 4 (m := (1 + y2) * (1 + y0) + 1) (by omega)
  have x4 : F_law_mixed [.int c, .int 4, .int ((1 + y2) * (1 + y0) + 1)] = _ := w_mixed c 4 ((1 + y2) * (1 + y0) + 1) (by decide) (by omega)
  generalize mix c 4 ((1 + y2) * (1 + y0) + 1) = y4 at b4 x4
  have b5 := mix_bd c 5 (m := 1 + y3) (by omega)
  have x5 : F_law_mixed [.int c, .int 5, .int (1 + y3)] = _ := w_mixed c 5 (1 + y3) (by decide) (by omega)
  generalize mix c 5 (1 + y3) = y5 at b5 x5
  have x6 : F_law_mixed [.int c, .int 6, .int 3] = _ := w_mixed c 6 3 (by decide) (by decide)
  generalize mix c 6 3 = y6 at x6
  have b7 := mix_bd c 7 (m := 6) (by decide)
  have x7 : F_law_mixed [.int c, .int 7, .int 6] = _ := w_mixed c 7 6 (by decide) (by decide)
  generalize mix c 7 6 = y7 at b7 x7
  have big : (1024 : Nat) = 2 ^ 10 := by decide
  have tiny : ∀ {a : Int}, 0 ≤ a → a < 1000 → a.natAbs < 2 ^ 1000 := fun {a} h1 h2 => Nat.lt_of_lt_of_le (show a.natAbs < 2 ^ 10 by rw [← big]; omega) (Nat.pow_le_pow_right (by decide) (by decide))
  have m1 := mulI (a := 1 + y0) (b := 1 + y0) (tiny (by omega) (by omega)) (tiny (by omega) (by omega))
  have m2 := mulI (a := 2) (b := 1 + y0) (tiny (by omega) (by omega)) (tiny (by omega) (by omega))
  have m3 := mulI (a := 1 + y2) (b := 1 + y0) (tiny (by omega) (by omega)) (tiny (by omega) (by omega))
  have z10 : (0 : Int).natAbs < 2 ^ 10 := by decide
  by_cases h : y6 = 0
  · obtain ⟨v1, v2, v3, e1, e2, e3, w1, w2, w3, sc⟩ := primes_at y7 b7.1 b7.2
    refine ⟨[v1], [v2, 0], [v3, 0, 0, 0], rfl, rfl, rfl, bd1 w1, bdc w2 (bd1 z10), bdc w3 (bdc z10 (bdc z10 (bd1 z10))), sc, fun level => ?_⟩
    show outD (b_law_scaffold [some (.arg (.int c)), some (.arg (.int level)), none, none, none, none, none, none, none]) = _
    unfold b_law_scaffold
    push_cast [x0, x1, x2, x3, x4, x5, x6, x7, m1, m2, m3, h, e1, e2, e3, modI (show (6 : Int) ≠ 0 by decide), cut_take]
    rfl
  · have ex : (1 + y0 + 1) * (1 + y0 + 1) = (1 + y0) * (1 + y0) + 2 * (1 + y0) + 1 := by grind
    have sn := sc_nested (m := (1 + y0) * (1 + y0) + 1 + y1) (r := 1 + y0) (c := y4) (b := 1 + y2) (e := y5) (k := 1 + y3) (by omega) (by omega) (by omega) (by omega) (by omega) (by omega) (by omega) (by omega)
    refine ⟨[(1 + y0) * (1 + y0) + 1 + y1], [y4, 1 + y2], [y5, 0, 1 + y3, 0], rfl, rfl, rfl, bd1 (by rw [← big]; omega), bdc (by rw [← big]; omega) (bd1 (by rw [← big]; omega)), bdc (by rw [← big]; omega) (bdc z10 (bdc (by rw [← big]; omega) (bd1 z10))), sn, fun level => ?_⟩
    show outD (b_law_scaffold [some (.arg (.int c)), some (.arg (.int level)), none, none, none, none, none, none, none]) = _
    unfold b_law_scaffold
    push_cast [x0, x1, x2, x3, x4, x5, x6, m1, m2, m3, h, cut_take]
    rfl
theorem w_scaf_t (c : Int) (level : Nat) (h : level ≤ 3) : ∃ rs F of, F_law_scaffold [.int c, .int level] = .ok (RT rs) ∧ Tow rs F of ∧ rs.length = level ∧ ∀ r ∈ rs, Bd 10 r := by
  obtain ⟨R1, R2, R3, l1, l2, l3, b1, b2, b3, ⟨s1, s2, s3⟩, e⟩ := w_scaf c
  have : level = 0 ∨ level = 1 ∨ level = 2 ∨ level = 3 := by omega
  rcases this with z | z | z | z <;> subst z <;> rw [e]
  · exact ⟨[], _, _, rfl, Tow.nil, rfl, fun r hr => by cases hr⟩
  · obtain ⟨F, of, T⟩ := s1
    exact ⟨[R1], F, of, rfl, T, rfl, fun r hr => by rw [List.mem_singleton.mp hr]; exact b1⟩
  · obtain ⟨F, of, T⟩ := s2
    refine ⟨[R2, R1], F, of, rfl, T, rfl, fun r hr => ?_⟩
    rcases List.mem_cons.mp hr with z | z
    · rw [z]; exact b2
    · rw [List.mem_singleton.mp z]; exact b1
  · obtain ⟨F, of, T⟩ := s3
    refine ⟨[R3, R2, R1], F, of, rfl, T, rfl, fun r hr => ?_⟩
    rcases List.mem_cons.mp hr with z | z
    · rw [z]; exact b3
    · rcases List.mem_cons.mp z with z | z
      · rw [z]; exact b2
      · rw [List.mem_singleton.mp z]; exact b1
end Bk
set_option Elab.async false
set_option linter.all false
set_option maxRecDepth 100000
set_option maxHeartbeats 4000000
set_option exponentiation.threshold 300000
namespace Bk
open PySem PySem.Spec PyProof.Rows L2 DL Mine
theorem w_added (x y : List Int) (hl : x.length ≤ 1000) : F_law_added [TI x, TI y] = .ok (TI (addL x y)) := by
  show outD (b_law_added [some (.arg (TI x)), some (.arg (TI y))]) = _
  unfold b_law_added
  have c := comp_pairs (fe := two (slotD 0) (slotD 1) addD) (fi := bindRg (consD (slotD 0) (consD (slotD 1) (fun _ => .ok []))) zipG) (fr := []) (δ := [some (.arg (TI x)), some (.arg (TI y))]) (rest := []) (xs := x) (ys := y) (g := fun a b => .int (a + b))
    (rngF (ds := [TI x, TI y]) rfl rfl) rfl (Nat.le_trans hl (by decide)) fun a _ b _ => by push_cast [DL.ap_seq]
  rw [zipI] at c
  push_cast [c]
theorem w_scaled (k : Int) (x : List Int) (hl : x.length ≤ 1000) (hk : k.natAbs < 2 ^ 200000) (hx : Bd 200000 x) : F_law_scaled [.int k, TI x] = .ok (TI (x.map (k * ·))) := by
  show outD (b_law_scaled [some (.arg (.int k)), some (.arg (TI x))]) = _
  unfold b_law_scaled
  have c := comp_ints (fe := two (slotD 1) (slotD 0) mulE) (fi := bindL (slotD 1) seqItems) (fr := [0]) (δ := [some (.arg (.int k)), some (.arg (TI x))]) (rest := [some (.arg (.int k))]) (ts := x) (g := fun t => .int (k * t))
    (by push_cast [DL.ap_seq]) rfl (Nat.le_trans hl (by decide)) fun t ht => by push_cast [mulB hk (hx t ht)]
  rw [scale_TI] at c
  push_cast [c]
theorem w_lt {ρ : Nat} : ∀ (rs : List (List Int)) (n : Nat) (x y : List Int) (p q : Nat), rs.length < n → Sc rs → (∀ r ∈ rs, Bd ρ r) → x.length = 2 ^ rs.length → y.length = 2 ^ rs.length → Bd p x → Bd q y → p + q + eT ρ rs.length ≤ 200000 → rs.length ≤ 8 →
    Fr_law_tops_times n [RT rs, TI x, TI y] = .ok (TI (lt rs x y))
  | _, 0, _, _, _, _, h, _, _, _, _, _, _, _, _ => absurd h (Nat.not_lt_zero _)
  | [], n + 1, x, y, p, q, _, _, _, hx, hy, bx, by_, hb, _ => by
    show outD (b_law_tops_times (Fr_law_tops_times n) [some (.arg (RT [])), some (.arg (TI x)), some (.arg (TI y)), none, none, none, none, none]) = _
    unfold b_law_tops_times
    have e1 := upB bx.head (show p ≤ 200000 by omega)
    have e2 := upB by_.head (show q ≤ 200000 by omega)
    have hx' : x.length = 1 := hx
    push_cast [List.length_map, hx', ix_TI0 (ne_of_len (k := 0) hx), ix_TI0 (ne_of_len (k := 0) hy), mulB e1 e2]
    rfl
  | r :: rs, n + 1, x, y, p, q, hn, S, hr, hx, hy, bx, by_, hb, h8 => by
    obtain ⟨hr1, S⟩ := S
    have hb : p + q + (2 * eT ρ rs.length + ρ + 1) ≤ 200000 := hb
    have h8 : rs.length + 1 ≤ 8 := h8
    have hr' : ∀ r ∈ rs, Bd ρ r := fun u hu => hr u (List.mem_cons_of_mem _ hu)
    have a := frH_len hx
    have b := bhH_len hx
    have c := frH_len hy
    have d := bhH_len hy
    have hn' : rs.length < n := Nat.lt_of_succ_lt_succ hn
    have i1 := w_lt rs n (frH x) (frH y) p q hn' S hr' a c bx.fr by_.fr (by omega) (by omega)
    have i2 := w_lt rs n (bhH x) (bhH y) p q hn' S hr' b d bx.bh by_.bh (by omega) (by omega)
    have i3 := w_lt rs n (frH x) (bhH y) p q hn' S hr' a d bx.fr by_.bh (by omega) (by omega)
    have i4 := w_lt rs n (bhH x) (frH y) p q hn' S hr' b c bx.bh by_.fr (by omega) (by omega)
    have i5 := w_lt rs n r (lt rs (bhH x) (bhH y)) ρ (p + q + eT ρ rs.length) hn' S hr' hr1 (by rw [lt_eq]; exact pt_len rs _ _ S b d) (hr r (by simp)) (by rw [lt_eq]; exact ptB rs hr' bx.bh by_.bh) (by omega) (by omega)
    have small : 2 ^ rs.length ≤ 256 := Nat.le_trans (Nat.pow_le_pow_right (by decide) (show rs.length ≤ 8 by omega)) (by decide)
    have l1 : (lt rs (frH x) (frH y)).length = 2 ^ rs.length := by rw [lt_eq]; exact pt_len rs _ _ S a c
    have l2 : (lt rs r (lt rs (bhH x) (bhH y))).length = 2 ^ rs.length := by rw [lt_eq, lt_eq]; exact pt_len rs _ _ S hr1 (pt_len rs _ _ S b d)
    have l3 : (lt rs (frH x) (bhH y)).length = 2 ^ rs.length := by rw [lt_eq]; exact pt_len rs _ _ S a d
    have l4 : (lt rs (bhH x) (frH y)).length = 2 ^ rs.length := by rw [lt_eq]; exact pt_len rs _ _ S b c
    have p1 := w_added (lt rs (frH x) (frH y)) (lt rs r (lt rs (bhH x) (bhH y))) (by omega)
    have p2 := w_added (lt rs (frH x) (bhH y)) (lt rs (bhH x) (frH y)) (by omega)
    have f1 := addL_len l1 l2
    have f2 := addL_len l3 l4
    have ad := add_TI (a := addL (lt rs (frH x) (frH y)) (lt rs r (lt rs (bhH x) (bhH y)))) (b := addL (lt rs (frH x) (bhH y)) (lt rs (bhH x) (frH y))) (ne_of_len f1) (by omega)
    show outD (b_law_tops_times (Fr_law_tops_times n) [some (.arg (RT (r :: rs))), some (.arg (TI x)), some (.arg (TI y)), none, none, none, none, none]) = _
    unfold b_law_tops_times
    have z : ¬ ((x.length : Int) = 1) := by
      rw [hx]; show ¬ (((2 ^ (rs.length + 1) : Nat) : Int) = 1)
      have := Nat.two_pow_pos rs.length
      rw [Nat.pow_succ]; omega
    have fx : x.take (x.length / 2) = frH x := rfl
    have bx' : x.drop (x.length / 2) = bhH x := rfl
    have e : x.length / 2 = y.length / 2 := by rw [hx, hy]
    have fy : y.take (x.length / 2) = frH y := by rw [e]; rfl
    have by' : y.drop (x.length / 2) = bhH y := by rw [e]; rfl
    push_cast [List.length_map, z, half_int, cut_last, ix_last, take_TI, drop_TI, fx, bx', fy, by', i1, i2, i3, i4, i5, p1, p2, ad, lt]
noncomputable def Rw {F : OF} (of : List Int → F.C) (k n : Nat) (d : D) (v : F.C) : Prop :=
  ∃ x b, d = num x b ∧ 0 < b ∧ x.length = 2 ^ k ∧ Bd n x ∧ b.natAbs < 2 ^ n ∧ v = of x / (b : F.C)
section
variable {rs : List (List Int)} {F : OF} {of : List Int → F.C} {ρ : Nat}
theorem _root_.Mine.Nm.rw {k n : Nat} {d : D} {v : F.C} (h : Nm of k n d v) : Rw of k n d v := by
  obtain ⟨x, b, h1, h2, h3, h4, h5, h6⟩ := h
  exact ⟨x, b, h1, h2.pos, h3, h4, h5, h6⟩
theorem Rw.mono {k n m : Nat} {d : D} {v : F.C} (h : Rw of k n d v) (e : n ≤ m) : Rw of k m d v := by
  obtain ⟨x, b, h1, h2, h3, h4, h5, h6⟩ := h
  exact ⟨x, b, h1, h2, h3, h4.mono e, Nat.lt_of_lt_of_le h5 (pw_le e), h6⟩
end
end Bk
set_option Elab.async false
set_option linter.all false
set_option maxRecDepth 100000
set_option maxHeartbeats 4000000
set_option exponentiation.threshold 300000
namespace Bk
open PySem PySem.Spec PyProof.Rows L2 DL Mine
theorem SOk3 {k p : Nat} (h : k ≤ 3) (hp : p ≤ 20000) : SOk 10 k p := by
  have : k = 0 ∨ k = 1 ∨ k = 2 ∨ k = 3 := by omega
  rcases this with z | z | z | z <;> subst z <;> simp only [SOk, eT] <;> omega
section
variable {rs : List (List Int)} {F : OF} {of : List Int → F.C} {ρ : Nat}
end
end Bk
set_option Elab.async false
set_option linter.all false
set_option maxRecDepth 100000
set_option maxHeartbeats 4000000
namespace Bk
open PySem PySem.Spec PyProof.Rows L2 DL
end Bk
set_option Elab.async false
set_option linter.all false
set_option maxRecDepth 100000
set_option maxHeartbeats 4000000
set_option exponentiation.threshold 300000
namespace Bk
open PySem PySem.Spec PyProof.Rows L2 DL Mine
theorem vw_own (ds : List D) : (SV.own ds).view = .lst ds := Eq.trans rfl rfl
theorem int_bl (b : Bool) : intG [.bl b] = .ok (.int (if b then 1 else 0)) := Eq.trans rfl rfl
theorem flat_map (ts : List Int) : flatDs (ts.map .int) = true := by
  induction ts with
  | nil => rfl
  | cons t ts ih => rw [List.map_cons, flatDs, ih]; rfl
theorem ap_ownC (i : Nat) {f : DS → Res D} {δ : DS} {ds : List D} (h : f δ = .ok (.lst ds)) : ownC i f δ = .nxt (δ.set i (some (.own ds))) := by unfold ownC; rw [h]
theorem ap_put {i : Nat} {fi fe : DS → Res D} {δ : DS} {ds : List D} {d : D} {z : Int} {j : Nat} (h1 : δ[i]? = some (some (.own ds))) (h2 : fe δ = .ok d) (h3 : fi δ = .ok (.int z)) (h4 : ixN ds.length z = some j) (h5 : flatDs ds = true) (h6 : flatD d = true) : putD i fi fe δ = .nxt (setS i ds j d δ) := by
  unfold putD
  rw [h1]; dsimp only
  rw [h2]; dsimp only [onD]
  rw [h3]; dsimp only [onD]
  rw [h4]; dsimp only
  rw [if_pos ⟨h5, h6⟩]
theorem ixN_nat {n k : Nat} (h : k < n) : ixN n (k : Int) = some k := by
  unfold ixN
  rw [if_pos (by omega), if_pos (by omega)]
  congr 1
theorem mapR_enum {fe : DS → Res D} {rest : DS} {g : Int → Int → Int} {n : Nat} : ∀ (ts : List Int) (k : Nat), k + ts.length ≤ n → (∀ (i : Nat), i < n → ∀ t ∈ ts, fe (some (.val (.int (i : Int))) :: some (.val (.int t)) :: rest) = .ok (.int (g (i : Int) t))) →
    mapR (eltD (tupTgt [0, 1]) fe (none :: none :: rest)) (((ts.map D.int).zipIdx k).map fun p => D.tup [.int ((p.2 : Nat) : Int), p.1]) = .ok (((ts.zipIdx k).map fun p => g ((p.2 : Nat) : Int) p.1).map .int)
  | [], _, _, _ => rfl
  | t :: ts, k, hk, h => by
    have hk' : k + (ts.length + 1) ≤ n := hk
    have e : eltD (tupTgt [0, 1]) fe (none :: none :: rest) (.tup [.int (k : Int), .int t]) = .ok (.int (g (k : Int) t)) := by
      show (match fe (some (.val (.int (k : Int))) :: some (.val (.int t)) :: rest) with | .ok z => Res.ok z | _ => .stuck) = _
      rw [h k (by omega) t (by simp)]
    have ih := mapR_enum (n := n) (g := g) ts (k + 1) (by omega) fun i hi u hu => h i hi u (List.mem_cons_of_mem _ hu)
    rw [List.map_cons, List.zipIdx_cons, List.map_cons, List.zipIdx_cons, List.map_cons, List.map_cons]
    show mapR _ (D.tup [.int (k : Int), .int t] :: _) = _
    rw [mapR, e, Res.bind_ok, ih, Res.bind_ok]
theorem comp_enum {fe : DS → Res D} {fi : DS → Res (List D)} {fr : List Nat} {δ rest : DS} {ts : List Int} {g : Int → Int → Int} (hi : fi δ = .ok (enumD (ts.map .int))) (hr : compS 2 fr δ = none :: none :: rest) (hl : ts.length ≤ sizeLine)
    (h : ∀ (i : Nat), i < ts.length → ∀ t ∈ ts, fe (some (.val (.int (i : Int))) :: some (.val (.int t)) :: rest) = .ok (.int (g (i : Int) t))) : compD 2 fr (tupTgt [0, 1]) fe fi δ = .ok (.lst ((ts.zipIdx.map fun p => g ((p.2 : Nat) : Int) p.1).map .int)) := by
  unfold compD
  rw [hi, Res.bind_ok, hr]
  have := mapR_enum (fe := fe) (rest := rest) (g := g) (n := ts.length) ts 0 (by omega) h
  unfold enumD
  rw [this]
  unfold lstD
  rw [Res.bind_ok, if_pos (by rw [List.length_map, List.length_map, List.length_zipIdx]; exact hl)]
theorem mem_zipIdx_fst {α : Type} {l : List α} {k : Nat} {p : α × Nat} (h : p ∈ l.zipIdx k) : p.1 ∈ l := by
  induction l generalizing k with
  | nil => simp at h
  | cons a l ih =>
    rw [List.zipIdx_cons] at h
    rcases List.mem_cons.mp h with z | z
    · rw [z]; simp
    · exact List.mem_cons_of_mem _ (ih z)
section
variable {rs : List (List Int)} {F : OF} {of : List Int → F.C} {ρ : Nat}
theorem r_lowest (T : Tow rs F of) (h3 : rs.length ≤ 3) {p : Nat} {d : D} {u : F.C} (h : Rw of rs.length p d u) {q : Nat} (hq : ∀ x b, d = num x b → b.natAbs < 2 ^ q) (hq8 : q ≤ 8000) : ∃ z, F_law_lowest [d] = .ok z ∧ Nm of rs.length p z u := by
  obtain ⟨x, b, rfl, pb, lx, bx, bb, ex⟩ := h
  obtain ⟨K, y, c, k0, e1, e2, nf, yl, kb, hN⟩ := nm_low T lx (show b ≠ 0 by omega) bx bb
  rw [← ex] at hN
  refine ⟨_, ?_, hN⟩
  have cp := nf.pos
  have kp : 0 < K := by
    rcases Int.lt_or_le 0 K with q | q
    · exact q
    · have := Int.mul_nonpos_of_nonpos_of_nonneg q (Int.le_of_lt cp); omega
  have k8 : K.natAbs < 2 ^ 8000 := by
    have := hq x b rfl
    rw [e2, Int.natAbs_mul] at this
    exact up8 (Nat.lt_of_le_of_lt (Nat.le_mul_of_pos_right _ (by omega)) this) hq8
  have e8 := two_le8 h3
  have hs : x.foldl cm b = K := by
    rw [e1, e2, nf_shared nf k0 (ne_of_len yl)]; omega
  obtain ⟨z', e⟩ := for_fold (i := 2) (f := cm) (b := setD 1 (bindF (consD (slotD 1) (consD (slotD 2) (fun _ => .ok []))) F_law_common))
    (fun acc z => [some (.val (num x b)), some (.val (.int acc)), z])
    (fun acc z t => by push_cast [w_law_common]) x b none
  rw [hs] at e
  have th : thaw [some (SV.arg (num x b)), some (.val (.int b)), none] = [some (.val (num x b)), some (.val (.int b)), none] := rfl
  have th2 : thawO (Out.nxt [some (.val (num x b)), some (.val (.int K)), z']) = .nxt [some (.val (num x b)), some (.val (.int K)), z'.map thaw2] := rfl
  have cp' : ∀ z2, compD 1 [1] (tgtN 0) (two (slotD 0) (slotD 1) fdivD) (bindL (two (slotD 0) (fun _ => .ok (.int 0)) ixD) seqItems) [some (.val (num x b)), some (.val (.int K)), z2] = .ok (.lst (x.map fun t => .int (Int.fdiv t K))) := fun z2 =>
    comp_ints (rest := [some (.arg (.int K))]) (by push_cast [DL.ap_seq]) rfl (Nat.le_trans (show x.length ≤ 63 by omega) (by decide)) fun t _ => by
      push_cast [fdivI k0 k8]
  have cl : x.map (fun t => D.int (Int.fdiv t K)) = y.map .int := by
    rw [e1, List.map_map]
    simp only [Function.comp_def, fdiv_mul_l _ _ k0]
  have cb' : Int.fdiv b K = c := by rw [e2, fdiv_mul_l _ _ k0]
  show outD (b_law_lowest [some (.arg (num x b)), none, none]) = _
  unfold b_law_lowest
  push_cast [th, e, th2, cp', cl, fdivI k0 k8, cb']
theorem r_low (T : Tow rs F of) (h3 : rs.length ≤ 3) {p : Nat} {d : D} {u : F.C} (h : Rw of rs.length p d u) (hp : p ≤ 8000) : ∃ z, F_law_lowest [d] = .ok z ∧ Nm of rs.length p z u :=
  r_lowest T h3 h (q := p) (fun x b e => by
    obtain ⟨x', b', e', _, _, _, bb, _⟩ := h
    rw [e] at e'
    injection e' with e'
    injection e' with _ e'
    injection e' with e'
    injection e' with e'
    rw [e']; exact bb) hp
theorem w_lsign (T : Tow rs F of) : ∀ (n : Nat) (x : List Int) (p : Nat), rs.length < n → rs.length ≤ 3 → (∀ r ∈ rs, Bd ρ r) → x.length = 2 ^ rs.length → Bd p x → SOk ρ rs.length p →
    Fr_law_sign_of n [RT rs, TI x] = .ok (.int (sgn (of x))) := by
  induction T with
  | nil =>
    intro n x p hn h3 hrs lx bx hs
    match n, hn, x, lx with
    | n + 1, _, [a], _ =>
      show outD (b_law_sign_of (Fr_law_sign_of n) [some (.arg (RT [])), some (.arg (TI [a])), none, none, none, none, none, none]) = _
      unfold b_law_sign_of
      have ix0 : ixD (TI [a]) (.int 0) = .ok (.int a) := ix_tup0 _ _
      have e : sgn (F := ratOF) (((a : Int) : Rat)) = sg a := sgn_int Tow.nil a
      show _ = Res.ok (D.int (sgn (F := ratOF) (((a : Int) : Rat))))
      rw [e]
      have l1 : ((List.map D.int [a]).length : Int) = 1 := rfl
      rcases sg_cases a with ⟨h, e⟩ | ⟨h, e⟩ | ⟨h, e⟩ <;> rw [e]
      · subst h
        push_cast [l1, ix0, int_bl]; rfl
      · have h1 : ¬ (a < 0) := by omega
        push_cast [l1, ix0, int_bl, h, h1]; rfl
      · have h1 : ¬ (0 < a) := by omega
        push_cast [l1, ix0, int_bl, h, h1]; rfl
  | @cons rs F of T r hl hr hn' ih =>
    intro n x p hn h3 hrs lx bx hs
    match n, hn with
    | n + 1, hn =>
      obtain ⟨hs1, hs2⟩ := hs
      have h3' : rs.length + 1 ≤ 3 := h3
      have hrs' : ∀ r ∈ rs, Bd ρ r := fun u hu => hrs u (List.mem_cons_of_mem _ hu)
      have hrr := hrs r (by simp)
      have hn2 : rs.length < n := Nat.lt_of_succ_lt_succ hn
      have S := T.sc
      have lf := frH_len lx
      have lb := bhH_len lx
      have e8 := two_le8 (k := rs.length) (by omega)
      have hp' : 2 * p + (2 * eT ρ rs.length + ρ + 1) ≤ 200000 := hs1
      have i1 := ih n (frH x) p hn2 (by omega) hrs' lf bx.fr (hs2.mono (by omega))
      have i2 := ih n (bhH x) p hn2 (by omega) hrs' lb bx.bh (hs2.mono (by omega))
      have t2 : F_law_tops_times [RT rs, TI (bhH x), TI (bhH x)] = _ := w_lt rs 4 _ _ p p (by omega) S hrs' lb lb bx.bh bx.bh (by omega) (by omega)
      rw [lt_eq] at t2
      have l2 := pt_len rs _ _ S lb lb
      have t3 : F_law_tops_times [RT rs, TI r, TI (pt rs (bhH x) (bhH x))] = _ := w_lt rs 4 _ _ ρ (p + p + eT ρ rs.length) (by omega) S hrs' hl l2 hrr (ptB rs hrs' bx.bh bx.bh) (by omega) (by omega)
      rw [lt_eq, pt_comm rs r (pt rs (bhH x) (bhH x))] at t3
      have t1 : F_law_tops_times [RT rs, TI (frH x), TI (frH x)] = _ := w_lt rs 4 _ _ p p (by omega) S hrs' lf lf bx.fr bx.fr (by omega) (by omega)
      rw [lt_eq] at t1
      have l3 := pt_len rs _ _ S l2 hl
      have l1 := pt_len rs _ _ S lf lf
      have sc := w_scaled (-1) (pt rs (pt rs (bhH x) (bhH x)) r) (by omega) (Nat.lt_of_lt_of_le (show Int.natAbs (-1) < 2 ^ 1 by decide) (pw_le (by decide))) ((ptB rs hrs' (ptB rs hrs' bx.bh bx.bh) hrr).mono (by omega))
      rw [neg_map] at sc
      have ad := w_added (pt rs (frH x) (frH x)) ((pt rs (pt rs (bhH x) (bhH x)) r).map fun t => -t) (by omega)
      have i3 := ih n (ntL r rs x) _ hn2 (by omega) hrs' (ntL_len S hl lx) (ntL_bd hrr hrs' bx) hs2
      rw [of_ntL T hl lx] at i3
      have nt : addL (pt rs (frH x) (frH x)) ((pt rs (pt rs (bhH x) (bhH x)) r).map fun t => -t) = ntL r rs x := rfl
      rw [nt] at ad
      have es := ext_sgn (hr := hr) (hn := hn') (exOf of r hr hn' x)
      have es' : sgn (exOf of r hr hn' x) = if sgn (of (frH x)) = sgn (of (bhH x)) ∨ sgn (of (bhH x)) = 0 then sgn (of (frH x)) else if sgn (of (frH x)) = 0 then sgn (of (bhH x)) else sgn (of (frH x)) * sgn (of (frH x) * of (frH x) - of (bhH x) * of (bhH x) * of r) := es
      rw [es']
      have z : ¬ ((x.length : Int) = 1) := by
        rw [lx]; show ¬ (((2 ^ (rs.length + 1) : Nat) : Int) = 1)
        have := Nat.two_pow_pos rs.length
        rw [Nat.pow_succ]; omega
      have fx : x.take (x.length / 2) = frH x := rfl
      have bx' : x.drop (x.length / 2) = bhH x := rfl
      show outD (b_law_sign_of (Fr_law_sign_of n) [some (.arg (RT (r :: rs))), some (.arg (TI x)), none, none, none, none, none, none]) = _
      unfold b_law_sign_of
      generalize of (frH x) * of (frH x) - of (bhH x) * of (bhH x) * of r = nn at *
      have mu := mulB (sgn_small (of (frH x))) (sgn_small nn)
      by_cases c1 : sgn (of (frH x)) = sgn (of (bhH x))
      · rw [if_pos (.inl c1)]
        push_cast [List.length_map, z, half_int, take_TI, drop_TI, fx, bx', cut_last, i1, i2, c1]
      · by_cases c2 : sgn (of (bhH x)) = 0
        · rw [if_pos (.inr c2)]
          have c1' : ¬ (sgn (of (frH x)) = 0) := fun q => c1 (by rw [q, c2])
          push_cast [List.length_map, z, half_int, take_TI, drop_TI, fx, bx', cut_last, i1, i2, c2, c1']
        · rw [if_neg (fun q => q.elim c1 c2)]
          by_cases c3 : sgn (of (frH x)) = 0
          · rw [if_pos c3]
            have c1' : ¬ (0 = sgn (of (bhH x))) := fun q => c2 q.symm
            push_cast [List.length_map, z, half_int, take_TI, drop_TI, fx, bx', cut_last, i1, i2, c2, c3, c1']
          · rw [if_neg c3]
            push_cast [List.length_map, z, half_int, take_TI, drop_TI, fx, bx', cut_last, ix_last, i1, i2, c1, c2, c3, t1, t2, t3, sc, ad, i3, mu]
theorem drawn2_nm (T : Tow rs F of) (h3 : rs.length ≤ 3) (c : Int) : ∃ d v, F_law_drawn_2 [.int c, .int ((2 ^ rs.length : Nat) : Int)] = .ok d ∧ Nm of rs.length 31 d v := by
  have e8 := two_le8 h3
  have p0 := Nat.two_pow_pos rs.length
  have d5 : fdivD (.int c) (.int 5) = _ := fdivI (show (5 : Int) ≠ 0 by decide) (Nat.lt_of_lt_of_le (show 5 < 2 ^ 3 by decide) (Nat.pow_le_pow_right (by decide) (by decide)))
  have m5 : modD (.int c) (.int 5) = _ := modI (show (5 : Int) ≠ 0 by decide)
  generalize Int.fdiv c 5 = q at *
  have p9 : powD (.int 10) (.int 9) = .ok (.int (10 ^ 9)) := rfl
  have mu2 : mulD (.int 2) (.int (10 ^ 9)) = .ok (.int (2 * 10 ^ 9)) := mulR (by decide)
  have mB := modI (a := q) (show (2 * 10 ^ 9 + 1 : Int) ≠ 0 by decide)
  have b0 := Int.fmod_nonneg_of_pos q (show (0 : Int) < 2 * 10 ^ 9 + 1 by decide)
  have b1 := Int.fmod_lt_of_pos q (show (0 : Int) < 2 * 10 ^ 9 + 1 by decide)
  have mM := modI (a := q) (show ((2 ^ rs.length : Nat) : Int) ≠ 0 by omega)
  have a0 := Int.fmod_nonneg_of_pos q (show (0 : Int) < ((2 ^ rs.length : Nat) : Int) by omega)
  have a1 := Int.fmod_lt_of_pos q (show (0 : Int) < ((2 ^ rs.length : Nat) : Int) by omega)
  generalize Int.fmod q ((2 ^ rs.length : Nat) : Int) = at_ at *
  generalize Int.fmod q (2 * 10 ^ 9 + 1) = big at *
  obtain ⟨k, rfl⟩ := Int.eq_ofNat_of_zero_le a0
  have k1 : k < 2 ^ rs.length := by omega
  have x8 : F_law_mixed [.int q, .int 8, .int 12] = _ := w_mixed q 8 12 (by decide) (by decide)
  have b8 := mix_bd q 8 (m := 12) (by decide)
  generalize mix q 8 12 = bot at *
  let tops : List Int := ((List.range (2 ^ rs.length)).map fun (k : Nat) => (k : Int)).map fun t => mix q t.toNat 19 - 9
  have tl : tops.length = 2 ^ rs.length := by simp [tops]
  have tb : Bd 31 tops := fun t ht => by
    obtain ⟨u, _, rfl⟩ := List.mem_map.mp ht
    have := mix_bd q u.toNat (m := 19) (by decide)
    have e : (2147483648 : Nat) = 2 ^ 31 := by decide
    rw [← e]; omega
  have fin : ∀ (ts : List Int), ts.length = 2 ^ rs.length → Bd 31 ts → ∃ d v, (∀ s1, outD ((retD (bindF (consD (tupF (consD (bindF (consD (slotD 2) (fun _ => .ok [])) tupleG) (consD (two (fun _ => .ok (.int 1)) (bindF (consD (two (slotD 0) (fun _ => .ok (.int 5)) fdivD) (consD (fun _ => .ok (.int 8)) (consD (fun _ => .ok (.int 12)) (fun _ => .ok [])))) F_law_mixed) addD) (fun _ => .ok [])))) (fun _ => .ok [])) F_law_lowest)) [some (.arg (.int c)), s1, some (.own (ts.map .int))]) = .ok d) ∧ Nm of rs.length 31 d v := by
    intro ts hl hb
    have bb : (1 + bot).natAbs < 2 ^ 31 := by
      have e : (2147483648 : Nat) = 2 ^ 31 := by decide
      rw [← e]; omega
    have hR : Rw of rs.length 31 (num ts (1 + bot)) (of ts / ((1 + bot : Int) : F.C)) := ⟨ts, 1 + bot, rfl, by omega, hl, hb, bb, rfl⟩
    obtain ⟨z, ez, hz⟩ := r_low T h3 hR (by decide)
    refine ⟨z, _, fun s1 => ?_, hz⟩
    push_cast [d5, x8, vw_own, ez]
  have c0 : compD 1 [0] (tgtN 0) (two (bindF (consD (two (slotD 1) (fun _ => .ok (.int 5)) fdivD) (consD (slotD 0) (consD (fun _ => .ok (.int 19)) (fun _ => .ok [])))) F_law_mixed) (fun _ => .ok (.int 9)) subD) (bindRg (consD (slotD 1) (fun _ => .ok [])) rng1) [some (.arg (.int c)), some (.arg (.int ((2 ^ rs.length : Nat) : Int))), none] = .ok (.lst (tops.map .int)) := by
    have := comp_ints (fe := two (bindF (consD (two (slotD 1) (fun _ => .ok (.int 5)) fdivD) (consD (slotD 0) (consD (fun _ => .ok (.int 19)) (fun _ => .ok [])))) F_law_mixed) (fun _ => .ok (.int 9)) subD) (fi := bindRg (consD (slotD 1) (fun _ => .ok [])) rng1) (fr := [0]) (δ := [some (.arg (.int c)), some (.arg (.int ((2 ^ rs.length : Nat) : Int))), none]) (rest := [some (.arg (.int c))])
      (ts := (List.range (2 ^ rs.length)).map fun (k : Nat) => (k : Int)) (g := fun t => .int (mix q t.toNat 19 - 9)) (rngF (ds := [.int ((2 ^ rs.length : Nat) : Int)]) rfl (rng_nat _ (by omega))) rfl (by simp only [List.length_map, List.length_range]; exact Nat.le_trans e8 (by decide)) fun t ht => by
        obtain ⟨j, hj, rfl⟩ := List.mem_map.mp ht
        have hj' : j < 2 ^ rs.length := List.mem_range.mp hj
        push_cast [d5, w_mixed q j 19 (by omega) (by decide), Int.toNat_natCast]
    rw [this]
    simp only [tops, List.map_map, Function.comp_def]
  have bd0 : ∀ (b : Bool) (t : Int), t.natAbs < 2 ^ 31 → (t * (if b = true then 1 else 0)).natAbs < 2 ^ 31 := fun b t h => by
    cases b
    · simp only [Bool.false_eq_true, if_false, Int.mul_zero]; decide
    · simp only [if_true, Int.mul_one]; exact h
  have mr : ∀ (t : Int) (b : Bool), mulD (.int t) (.int (if b = true then 1 else 0)) = .ok (.int (t * (if b = true then 1 else 0))) := fun t b => mulR (by cases b <;> decide)
  show ∃ d v, outD (b_law_drawn_2 [some (.arg (.int c)), some (.arg (.int ((2 ^ rs.length : Nat) : Int))), none]) = .ok d ∧ _
  unfold b_law_drawn_2
  rw [ap_seq, ap_ownC 2 c0]
  by_cases h1 : Int.fmod c 5 = 1
  ·
    have hp : (putD 2 (noX (two (two (slotD 0) (fun _ => .ok (.int 5)) fdivD) (slotD 1) modD)) (two (two (two (slotD 0) (fun _ => .ok (.int 5)) fdivD) (two (two (fun _ => .ok (.int 2)) (two (fun _ => .ok (.int 10)) (fun _ => .ok (.int 9)) powD) mulE) (fun _ => .ok (.int 1)) addD) modD) (two (fun _ => .ok (.int 10)) (fun _ => .ok (.int 9)) powD) subD)) [some (.arg (.int c)), some (.arg (.int ((2 ^ rs.length : Nat) : Int))), some (.own (tops.map .int))] = .nxt [some (.arg (.int c)), some (.arg (.int ((2 ^ rs.length : Nat) : Int))), some (.own ((tops.set k (big - 10 ^ 9)).map .int))] := by
      have := ap_put (i := 2) (fi := (noX (two (two (slotD 0) (fun _ => .ok (.int 5)) fdivD) (slotD 1) modD))) (fe := (two (two (two (slotD 0) (fun _ => .ok (.int 5)) fdivD) (two (two (fun _ => .ok (.int 2)) (two (fun _ => .ok (.int 10)) (fun _ => .ok (.int 9)) powD) mulE) (fun _ => .ok (.int 1)) addD) modD) (two (fun _ => .ok (.int 10)) (fun _ => .ok (.int 9)) powD) subD))
        (δ := [some (.arg (.int c)), some (.arg (.int ((2 ^ rs.length : Nat) : Int))), some (.own (tops.map .int))]) (ds := tops.map .int) (d := .int (big - 10 ^ 9)) (z := (k : Int)) (j := k) rfl (by push_cast [d5, p9, mu2, mB]) (noX_ok (by push_cast [d5, mM])) (ixN_nat (by rw [List.length_map, tl]; exact k1)) (flat_map _) rfl
      rw [this]
      unfold setS
      rw [List.map_set]
      have fl := flat_map tops
      simp only [List.map_cons, List.map_nil, Option.bind_some, keepSV, fl, st2, ↓reduceIte]
    obtain ⟨d, v, ed, hd⟩ := fin (tops.set k (big - 10 ^ 9)) (by rw [List.length_set]; exact tl) (fun t ht => by
      rcases List.mem_or_eq_of_mem_set ht with z | z
      · exact tb t z
      · have e : (2147483648 : Nat) = 2 ^ 31 := by decide
        rw [z, ← e]; omega)
    refine ⟨d, v, ?_, hd⟩
    have := ed (some (.arg (.int ((2 ^ rs.length : Nat) : Int))))
    simp only [ap_seq, ap_if, ap_bT, ap_two, sl0, sl1, sl2, st0, st1, st2, sq_nxt, bnd_ok, vw_arg, m5, h1, eqI, bool_ok, ont_ok, decide_true, ↓reduceIte, hp, decide_false, Bool.false_eq_true, Int.reduceEq]
    exact this
  · by_cases h2 : Int.fmod c 5 = 2
    · have cc := comp_enum (fe := (two (slotD 1) (bindF (consD (two (two (two (two (slotD 2) (fun _ => .ok (.int 5)) fdivD) (two (slotD 0) (fun _ => .ok (.int 1)) addD) fdivD) (fun _ => .ok (.int 2)) modD) (fun _ => .ok (.int 0)) eqD) (fun _ => .ok [])) intG) mulE)) (fi := bindRg (consD (slotD 2) (fun _ => .ok [])) enumG) (fr := [0]) (δ := [some (.arg (.int c)), some (.arg (.int ((2 ^ rs.length : Nat) : Int))), some (.own (tops.map .int))]) (rest := [some (.arg (.int c))]) (ts := tops) (g := fun i t => t * (if decide (Int.fmod (Int.fdiv q (i + 1)) 2 = 0) = true then 1 else 0))
        (rngF (ds := [.lst (tops.map .int)]) rfl rfl) rfl (by rw [tl]; exact Nat.le_trans e8 (by decide)) fun i hi t ht => by
          have nz : ((i : Int) + 1) ≠ 0 := by omega
          have e16 : (16 : Nat) = 2 ^ 4 := by decide
          have sm4 : ((i : Int) + 1).natAbs < 2 ^ 4 := by rw [← e16]; omega
          have sm : ((i : Int) + 1).natAbs < 2 ^ 8000 := Nat.lt_of_lt_of_le sm4 (pw_le (by decide))
          push_cast [d5, fdivI nz sm, modI (show (2 : Int) ≠ 0 by decide), int_bl, mr]
      obtain ⟨d, v, ed, hd⟩ := fin (tops.zipIdx.map fun p => p.1 * (if decide (Int.fmod (Int.fdiv q (((p.2 : Nat) : Int) + 1)) 2 = 0) = true then 1 else 0)) (by rw [List.length_map, List.length_zipIdx]; exact tl) (fun t ht => by
        obtain ⟨p, hp, rfl⟩ := List.mem_map.mp ht
        exact bd0 _ _ (tb p.1 (mem_zipIdx_fst hp)))
      refine ⟨d, v, ?_, hd⟩
      have := ed (some (.arg (.int ((2 ^ rs.length : Nat) : Int))))
      have oc := ap_ownC 2 cc
      simp only [ap_seq, ap_if, ap_bT, ap_two, sl0, sl1, sl2, st0, st1, st2, sq_nxt, bnd_ok, vw_arg, m5, h1, h2, eqI, bool_ok, ont_ok, decide_true, ↓reduceIte, oc, decide_false, Bool.false_eq_true, Int.reduceEq]
      exact this
    · by_cases h4 : Int.fmod c 5 = 3
      · have cc := comp_enum (fe := (two (slotD 1) (bindF (consD (two (slotD 0) (two (two (two (slotD 3) (fun _ => .ok (.int 5)) fdivD) (slotD 2) modD) (fun _ => .ok (.int 1)) addD) (cmpD fun i j => decide (i < j))) (fun _ => .ok [])) intG) mulE)) (fi := bindRg (consD (slotD 2) (fun _ => .ok [])) enumG) (fr := [1, 0]) (δ := [some (.arg (.int c)), some (.arg (.int ((2 ^ rs.length : Nat) : Int))), some (.own (tops.map .int))]) (rest := [some (.arg (.int ((2 ^ rs.length : Nat) : Int))), some (.arg (.int c))]) (ts := tops) (g := fun i t => t * (if decide (i < (k : Int) + 1) = true then 1 else 0))
          (rngF (ds := [.lst (tops.map .int)]) rfl rfl) rfl (by rw [tl]; exact Nat.le_trans e8 (by decide)) fun i hi t ht => by
            push_cast [d5, mM, int_bl, mr]
        obtain ⟨d, v, ed, hd⟩ := fin (tops.zipIdx.map fun p => p.1 * (if decide (((p.2 : Nat) : Int) < (k : Int) + 1) = true then 1 else 0)) (by rw [List.length_map, List.length_zipIdx]; exact tl) (fun t ht => by
          obtain ⟨p, hp, rfl⟩ := List.mem_map.mp ht
          exact bd0 _ _ (tb p.1 (mem_zipIdx_fst hp)))
        refine ⟨d, v, ?_, hd⟩
        have := ed (some (.arg (.int ((2 ^ rs.length : Nat) : Int))))
        have oc := ap_ownC 2 cc
        simp only [ap_seq, ap_if, ap_bT, ap_two, sl0, sl1, sl2, st0, st1, st2, sq_nxt, bnd_ok, vw_arg, m5, h1, h2, h4, eqI, bool_ok, ont_ok, decide_true, ↓reduceIte, oc, decide_false, Bool.false_eq_true, Int.reduceEq]
        exact this
      · obtain ⟨d, v, ed, hd⟩ := fin tops tl tb
        refine ⟨d, v, ?_, hd⟩
        have := ed (some (.arg (.int ((2 ^ rs.length : Nat) : Int))))
        simp only [ap_seq, ap_if, ap_bT, ap_two, sl0, sl1, sl2, st0, st1, st2, sq_nxt, bnd_ok, vw_arg, m5, h1, h2, h4, eqI, bool_ok, ont_ok, decide_true, ↓reduceIte, decide_false, Bool.false_eq_true, Int.reduceEq]
        exact this
end
end Bk
set_option Elab.async false
set_option linter.all false
set_option maxRecDepth 100000
set_option maxHeartbeats 4000000
set_option exponentiation.threshold 300000
namespace Bk
open PySem PySem.Spec PyProof.Rows L2 DL Mine Lean.Grind
section
variable {F : OF} {r : F.C} {hr : 0 < r} {hn : ∀ z : F.C, z * z ≠ r}
theorem em_one : em (hr := hr) (hn := hn) (1 : F.C) = 1 := rfl
theorem em_int (k : Int) : em (hr := hr) (hn := hn) ((k : Int) : F.C) = ((k : Int) : (extOF F r hr hn).C) := rfl
theorem em_neg (x : F.C) : em (hr := hr) (hn := hn) (-x) = -em x := Ext.eqs (r := r) rfl (show (0 : F.C) = -0 by grind)
theorem em_sub (x y : F.C) : em (hr := hr) (hn := hn) (x - y) = em x - em y := Ext.eqs (r := r) rfl (show (0 : F.C) = 0 - 0 by grind)
theorem em_pos {x : F.C} (h : 0 < x) : 0 < em (hr := hr) (hn := hn) x := ext_posa h
theorem em_lt {x y : F.C} (h : x < y) : em (hr := hr) (hn := hn) x < em y := by
  have := em_pos (hr := hr) (hn := hn) (x := y - x) (by grind)
  rw [em_sub] at this; grind
theorem em_le {x y : F.C} (h : x ≤ y) : em (hr := hr) (hn := hn) x ≤ em y := by
  by_cases c : x = y
  · rw [c]; exact Std.le_refl _
  · exact Std.le_of_lt (em_lt (by grind))
noncomputable def rtE (hr : 0 < r) (hn : ∀ z : F.C, z * z ≠ r) : (extOF F r hr hn).C := mkE hr hn 0 1
theorem rtE_sq : rtE hr hn * rtE hr hn = em r := Ext.eqs (r := r) (show (0 : F.C) * 0 + 1 * 1 * r = r by grind) (show (0 : F.C) * 1 + 1 * 0 = 0 by grind)
theorem rtE_pos : 0 < rtE hr hn := by
  have := OrderedRing.zero_lt_one (R := F.C)
  exact ext_pos (Std.le_refl _) this
theorem ext_split (x : (extOF F r hr hn).C) : x = em (Ext.a (r := r) x) + em (Ext.b (r := r) x) * rtE hr hn :=
  Ext.eqs (r := r) (show Ext.a (r := r) x = Ext.a (r := r) x + (Ext.b (r := r) x * 0 + 0 * 1 * r) by grind) (show Ext.b (r := r) x = 0 + (Ext.b (r := r) x * 1 + 0 * 0) by grind)
end
section
variable {rs : List (List Int)} {F : OF} {of : List Int → F.C} {ρ : Nat}
theorem ex_split {r : List Int} {hr : 0 < of r} {hn : ∀ z : F.C, z * z ≠ of r} (x : List Int) : exOf of r hr hn x = em (of (frH x)) + em (of (bhH x)) * rtE hr hn := ext_split (exOf of r hr hn x)
noncomputable def hB (ρ : Nat) : Nat → Nat → Nat
  | 0, p => p
  | k + 1, p => hB ρ k p + hB ρ k ρ + 1
theorem int_le (T : Tow rs F of) {a b : Int} (h : a ≤ b) : ((a : Int) : F.C) ≤ ((b : Int) : F.C) := by
  by_cases c : a = b
  · rw [c]; exact Std.le_refl _
  · have := cast_pos T (k := b - a) (by omega)
    rw [Ring.intCast_sub] at this; grind
theorem int_lt (T : Tow rs F of) {a b : Int} (h : a < b) : ((a : Int) : F.C) < ((b : Int) : F.C) := by
  have := cast_pos T (k := b - a) (by omega)
  rw [Ring.intCast_sub] at this; grind
theorem lt_int (T : Tow rs F of) {a b : Int} (h : ((a : Int) : F.C) < ((b : Int) : F.C)) : a < b := by
  rcases Int.lt_or_le a b with c | c
  · exact c
  · have := int_le T c; grind
theorem le_int (T : Tow rs F of) {a b : Int} (h : ((a : Int) : F.C) ≤ ((b : Int) : F.C)) : a ≤ b := by
  rcases Int.lt_or_le b a with c | c
  · have := int_lt T c; grind
  · exact c
theorem cst_mul (T : Tow rs F of) (a b : Int) : ((a * b : Int) : F.C) = (a : F.C) * (b : F.C) := Ring.intCast_mul a b
theorem fl_ub {a b s M S : F.C} (h1 : a ≤ M) (h2 : -M ≤ a) (h3 : b ≤ M) (h4 : -M ≤ b) (s0 : 0 < s) (hs : s ≤ S) (hS : 1 ≤ S) (M0 : 0 ≤ M) : a + b * s ≤ 2 * (M * S) ∧ -(2 * (M * S)) ≤ a + b * s := by
  have q1 := mulNN (a := M - b) (b := s) (by grind) (by grind)
  have q2 := mulNN (a := M + b) (b := s) (by grind) (by grind)
  have q3 := mulNN (a := M) (b := S - s) M0 (by grind)
  have q4 := mulNN (a := M) (b := S - 1) M0 (by grind)
  constructor <;> grind
theorem fl_sqle {s S d : F.C} (s0 : 0 < s) (e : s * s = d) (h : d ≤ S) (hS : 1 ≤ S) : s ≤ S := by
  by_cases c : s ≤ S
  · exact c
  · exfalso
    have q1 := mulP (a := s - S) (b := s) (by grind) s0
    have q2 := mulNN (a := S) (b := s - 1) (by grind) (by grind)
    grind
theorem ub (T : Tow rs F of) : ∀ {x : List Int} {p : Nat}, (∀ r ∈ rs, Bd ρ r) → x.length = 2 ^ rs.length → Bd p x → of x ≤ ((2 ^ hB ρ rs.length p : Int) : F.C) ∧ -((2 ^ hB ρ rs.length p : Int) : F.C) ≤ of x := by
  induction T with
  | nil =>
    intro x p hrs lx bx
    match x, lx with
    | [a], _ =>
      have h := bx a (by simp)
      have h2 : ((a.natAbs : Nat) : Int) < ((2 ^ p : Nat) : Int) := by omega
      rw [show ((2 ^ p : Nat) : Int) = (2 ^ p : Int) by simp] at h2
      have q1 := int_le Tow.nil (a := a) (b := 2 ^ p) (by omega)
      have q2 := int_le Tow.nil (a := -(2 ^ p)) (b := a) (by omega)
      rw [Ring.intCast_neg] at q2
      exact ⟨q1, q2⟩
  | @cons rs F of T r hl hr hn ih =>
    intro x p hrs lx bx
    have hrs' : ∀ r ∈ rs, Bd ρ r := fun u hu => hrs u (List.mem_cons_of_mem _ hu)
    obtain ⟨a1, a2⟩ := ih hrs' (frH_len lx) bx.fr
    obtain ⟨b1, b2⟩ := ih hrs' (bhH_len lx) bx.bh
    obtain ⟨r1, _⟩ := ih hrs' hl (hrs r (by simp))
    have TT := Tow.cons T r hl hr hn
    have e1 := em_le (hr := hr) (hn := hn) a1
    have e2 := em_le (hr := hr) (hn := hn) a2
    have e3 := em_le (hr := hr) (hn := hn) b1
    have e4 := em_le (hr := hr) (hn := hn) b2
    have e5 := em_le (hr := hr) (hn := hn) r1
    rw [em_neg] at e2 e4
    have pw1 : (1 : Int) ≤ 2 ^ hB ρ rs.length ρ := by
      have := Int.pow_pos (n := 2) (m := hB ρ rs.length ρ) (by decide); omega
    have pw2 : (0 : Int) ≤ 2 ^ hB ρ rs.length p := Int.le_of_lt (Int.pow_pos (by decide))
    have S1 := int_le TT pw1
    have M0 := int_le TT pw2
    rw [Ring.intCast_one] at S1
    rw [Ring.intCast_zero] at M0
    rw [em_int] at e1 e2 e3 e4 e5
    have s1 := fl_sqle rtE_pos (rtE_sq (hr := hr) (hn := hn)) e5 S1
    have fin := fl_ub e1 e2 e3 e4 rtE_pos s1 S1 M0
    have pe : ((2 ^ hB ρ (r :: rs).length p : Int) : (extOF F (of r) hr hn).C) = 2 * (((2 ^ hB ρ rs.length p : Int) : (extOF F (of r) hr hn).C) * ((2 ^ hB ρ rs.length ρ : Int) : (extOF F (of r) hr hn).C)) := by
      have : (2 ^ hB ρ (r :: rs).length p : Int) = 2 * (2 ^ hB ρ rs.length p * 2 ^ hB ρ rs.length ρ) := by
        show (2 : Int) ^ (hB ρ rs.length p + hB ρ rs.length ρ + 1) = _
        rw [Int.pow_succ, Int.pow_add, Int.mul_comm]
      rw [this, Ring.intCast_mul, Ring.intCast_mul]
      congr 1
      exact Ring.intCast_ofNat 2
    rw [pe, ex_split]
    exact fin
end
end Bk
set_option Elab.async false
set_option linter.all false
set_option maxRecDepth 100000
set_option maxHeartbeats 4000000
set_option exponentiation.threshold 300000
namespace Bk
open PySem PySem.Spec PyProof.Rows L2 DL Mine Lean.Grind
theorem while_step {c : DS → Res Bool} {b : DS → Out} {m : Nat} {δ δ' : DS} (h1 : c δ = .ok true) (h2 : b δ = .nxt δ') : whileD c b (m + 1) δ = whileD c b m δ' := by
  rw [whileD, h1]
  dsimp only
  rw [h2]
theorem while_stop {c : DS → Res Bool} {b : DS → Out} {m : Nat} {δ : DS} (h1 : c δ = .ok false) : whileD c b (m + 1) δ = .nxt δ := by
  rw [whileD, h1]
theorem for_step {t : TGD} {b : DS → Out} {d : D} {ds : List D} {δ δ1 δ2 : DS} (h1 : t d δ = some δ1) (h2 : b δ1 = .nxt δ2) : forD t b (d :: ds) δ = forD t b ds δ2 := by
  rw [forD, h1]
  dsimp only
  rw [h2]
theorem for_stop {t : TGD} {b : DS → Out} {δ : DS} : forD t b [] δ = .nxt δ := Eq.trans rfl rfl
section
variable {rs : List (List Int)} {F : OF} {of : List Int → F.C} {ρ : Nat}
theorem r_signof (T : Tow rs F of) (h3 : rs.length ≤ 3) (hr : ∀ r ∈ rs, Bd 10 r) {p : Nat} {x : List Int} {b : Int} {u : F.C} (h : Rw of rs.length p (num x b) u) (hp : p ≤ 20000) : F_law_sign_of [RT rs, TI x] = .ok (.int (sgn u)) := by
  obtain ⟨y, c, e, pc, ly, b_y, bc, ey⟩ := h
  have e1 : x = y := by
    simp only [num, D.tup.injEq, List.cons.injEq, D.int.injEq, and_true] at e
    have inj : ∀ (x y : List Int), x.map D.int = y.map D.int → x = y := by
      intro x
      induction x with
      | nil => intro y h; cases y with | nil => rfl | cons _ _ => simp at h
      | cons a x ih =>
        intro y h
        cases y with
        | nil => simp at h
        | cons a' y =>
          simp only [List.map_cons, List.cons.injEq, D.int.injEq] at h
          rw [h.1, ih y h.2]
    exact inj _ _ e.1
  subst e1
  have i : F_law_sign_of [RT rs, TI x] = _ := w_lsign T 4 x p (by omega) h3 hr ly b_y (SOk3 h3 hp)
  rw [i, ey, sgn_div T pc]
end
end Bk
set_option Elab.async false
set_option linter.all false
set_option maxRecDepth 100000
set_option maxHeartbeats 4000000
namespace K12
open PySem PySem.Spec PyProof.Rows L2 DL Bk Mine
noncomputable def top (i : Nat) : Stmt := PySem.Challenge.pw_compasshall_k12_floors_bound.main.body.getD i (.Pass ⟨0, 0, 0, 0⟩)
abbrev st_ten_times_itself : Stmt := top 4
abbrev st_whole_root : Stmt := top 5
abbrev st_front_tops : Stmt := top 7
abbrev st_behind_tops : Stmt := top 8
abbrev st_law_cell : Stmt := top 16
abbrev st_law_whole : Stmt := top 17
abbrev st_law_mixed : Stmt := top 18
abbrev st_law_added : Stmt := top 20
abbrev st_law_scaled : Stmt := top 21
abbrev st_law_common : Stmt := top 23
abbrev st_law_scaffold : Stmt := top 19
abbrev st_law_lowest : Stmt := top 24
abbrev st_law_drawn_2 : Stmt := top 25
abbrev st_law_tops_times : Stmt := top 22
abbrev st_bounds : Stmt := top 13
abbrev st_law_sign_of : Stmt := top 26
abbrev st_floors_around : Stmt := top 12
abbrev st_root_bounds : Stmt := top 14
abbrev st_law_side : Stmt := top 27
abbrev st_floor_at : Stmt := top 11
abbrev st_law_holds : Stmt := top 28
abbrev st_law : Stmt := top 29
theorem sc_ten_times_itself : FnScope ["many", "product", "time"] ["many"] (defScope st_ten_times_itself) := ⟨rfl, rfl, rfl, by decide +kernel, rfl, by decide +kernel, by decide +kernel⟩
theorem sc_whole_root : FnScope ["n", "guess"] ["n"] (defScope st_whole_root) := ⟨rfl, rfl, rfl, by decide +kernel, rfl, by decide +kernel, by decide +kernel⟩
theorem sc_front_tops : FnScope ["tops"] ["tops"] (defScope st_front_tops) := ⟨rfl, rfl, rfl, by decide +kernel, rfl, by decide +kernel, by decide +kernel⟩
theorem sc_behind_tops : FnScope ["tops"] ["tops"] (defScope st_behind_tops) := ⟨rfl, rfl, rfl, by decide +kernel, rfl, by decide +kernel, by decide +kernel⟩
theorem sc_law_cell : FnScope ["_law_script", "_law_k"] ["_law_script", "_law_k"] (defScope st_law_cell) := ⟨rfl, rfl, rfl, by decide +kernel, rfl, by decide +kernel, by decide +kernel⟩
theorem sc_law_whole : FnScope ["_law_found"] ["_law_found"] (defScope st_law_whole) := ⟨rfl, rfl, rfl, by decide +kernel, rfl, by decide +kernel, by decide +kernel⟩
theorem sc_law_mixed : FnScope ["_law_cell_here", "_law_k", "_law_many", "_law_some"] ["_law_cell_here", "_law_k", "_law_many"] (defScope st_law_mixed) := ⟨rfl, rfl, rfl, by decide +kernel, rfl, by decide +kernel, by decide +kernel⟩
theorem sc_law_added : FnScope ["_law_one", "_law_other"] ["_law_one", "_law_other"] (defScope st_law_added) := ⟨rfl, rfl, rfl, by decide +kernel, rfl, by decide +kernel, by decide +kernel⟩
theorem sc_law_scaled : FnScope ["_law_k", "_law_one"] ["_law_k", "_law_one"] (defScope st_law_scaled) := ⟨rfl, rfl, rfl, by decide +kernel, rfl, by decide +kernel, by decide +kernel⟩
theorem sc_law_common : FnScope ["_law_one", "_law_other", "_law_rest"] ["_law_one", "_law_other"] (defScope st_law_common) := ⟨rfl, rfl, rfl, by decide +kernel, rfl, by decide +kernel, by decide +kernel⟩
theorem sc_law_scaffold : FnScope ["_law_cell_here", "_law_many", "_law_r", "_law_m", "_law_b", "_law_k", "_law_roots", "_law_primes", "_law_at"] ["_law_cell_here", "_law_many"] (defScope st_law_scaffold) := ⟨rfl, rfl, rfl, by decide +kernel, rfl, by decide +kernel, by decide +kernel⟩
theorem sc_law_lowest : FnScope ["_law_one", "_law_shared", "_law_top"] ["_law_one"] (defScope st_law_lowest) := ⟨rfl, rfl, rfl, by decide +kernel, rfl, by decide +kernel, by decide +kernel⟩
theorem sc_law_drawn_2 : FnScope ["_law_cell_here", "_law_many", "_law_tops"] ["_law_cell_here", "_law_many"] (defScope st_law_drawn_2) := ⟨rfl, rfl, rfl, by decide +kernel, rfl, by decide +kernel, by decide +kernel⟩
theorem sc_law_tops_times : FnScope ["_law_roots", "_law_one", "_law_other", "_law_half", "_law_below", "_law_both", "_law_left", "_law_cross"] ["_law_roots", "_law_one", "_law_other"] (defScope st_law_tops_times) := ⟨rfl, rfl, rfl, by decide +kernel, rfl, by decide +kernel, by decide +kernel⟩
theorem sc_bounds : FnScope ["roots", "tops", "fine", "front", "behind", "last", "least", "most"] ["roots", "tops", "fine"] (defScope st_bounds) := ⟨rfl, rfl, rfl, by decide +kernel, rfl, by decide +kernel, by decide +kernel⟩
theorem sc_law_sign_of : FnScope ["_law_roots", "_law_tops", "_law_half", "_law_below", "_law_here", "_law_there", "_law_square", "_law_other"] ["_law_roots", "_law_tops"] (defScope st_law_sign_of) := ⟨rfl, rfl, rfl, by decide +kernel, rfl, by decide +kernel, by decide +kernel⟩
theorem sc_floors_around : FnScope ["roots", "tops", "bottom", "bits", "around", "divisor"] ["roots", "tops", "bottom", "bits"] (defScope st_floors_around) := ⟨rfl, rfl, rfl, by decide +kernel, rfl, by decide +kernel, by decide +kernel⟩
theorem sc_root_bounds : FnScope ["roots", "fine", "under"] ["roots", "fine"] (defScope st_root_bounds) := ⟨rfl, rfl, rfl, by decide +kernel, rfl, by decide +kernel, by decide +kernel⟩
theorem sc_law_side : FnScope ["_law_roots", "_law_one", "_law_scale", "_law_whole_here", "_law_first"] ["_law_roots", "_law_one", "_law_scale", "_law_whole_here"] (defScope st_law_side) := ⟨rfl, rfl, rfl, by decide +kernel, rfl, by decide +kernel, by decide +kernel⟩
theorem sc_floor_at : FnScope ["roots", "x", "places", "scale", "tops", "bits", "around"] ["roots", "x", "places"] (defScope st_floor_at) := ⟨rfl, rfl, rfl, by decide +kernel, rfl, by decide +kernel, by decide +kernel⟩
theorem sc_law_holds : FnScope ["_law_roots", "_law_one", "_law_places", "_law_scale", "_law_k", "_law_got", "_law_here", "_law_least"] ["_law_roots", "_law_one", "_law_places"] (defScope st_law_holds) := ⟨rfl, rfl, rfl, by decide +kernel, rfl, by decide +kernel, by decide +kernel⟩
theorem sc_law : FnScope ["_law_script", "_law_first", "_law_roots", "_law_many", "_law_places", "_law_step", "_law_cells", "_law_cell_here", "_law_k", "_law_part"] ["_law_script"] (defScope st_law) := ⟨rfl, rfl, rfl, by decide +kernel, rfl, by decide +kernel, by decide +kernel⟩
noncomputable def b_law_side : DS → Out :=
  (seqD (setD 4 (two (two (slotD 2) (two (two (slotD 1) (fun _ => .ok (.int 0)) ixD) (fun _ => .ok (.int 0)) ixD) mulE) (two (slotD 3) (two (slotD 1) (fun _ => .ok (.int 1)) ixD) mulE) subD)) (retD (bindF (consD (slotD 0) (consD (two (tupF (consD (slotD 4) (fun _ => .ok []))) (bindF (consD (compD 1 [2] (tgtN 0) (two (slotD 1) (slotD 0) mulE) (bindL (sliceF (two (slotD 1) (fun _ => .ok (.int 0)) ixD) (partF (fun _ => .ok (.int 1))) noPart) seqItems)) (fun _ => .ok [])) tupleG) addD) (fun _ => .ok []))) F_law_sign_of)))
noncomputable def F_law_side : List D → Res D := fnD 4 5 b_law_side
noncomputable def b_law_holds : DS → Out :=
  (seqD (setD 3 (fun _ => .ok (.int 1))) (seqD (forR (rng1) (tgtN 4) (consD (slotD 2) (fun _ => .ok [])) (setD 3 (two (slotD 3) (fun _ => .ok (.int 10)) mulE))) (seqD (setD 5 (bindF (consD (slotD 0) (consD (slotD 1) (consD (slotD 2) (fun _ => .ok [])))) F_floor_at)) (seqD (ifS (notT (bindT (bindF (consD (slotD 5) (fun _ => .ok [])) F_law_whole) truthD)) (retD (fun _ => .ok (.bl false))) Out.nxt) (seqD (setD 6 (bindF (consD (slotD 0) (consD (slotD 1) (consD (slotD 3) (consD (slotD 5) (fun _ => .ok []))))) F_law_side)) (seqD (ifS (orT (bindT (two (slotD 6) (fun _ => .ok (.int 0)) (cmpD fun i j => decide (i < j))) boolD) (bindT (two (bindF (consD (slotD 0) (consD (slotD 1) (consD (slotD 3) (consD (two (slotD 5) (fun _ => .ok (.int 1)) addD) (fun _ => .ok []))))) F_law_side) (fun _ => .ok (.int 0)) (cmpD fun i j => decide (j ≤ i))) boolD)) (retD (fun _ => .ok (.bl false))) Out.nxt) (seqD (ifS (orT (bindT (two (bindF (consD (slotD 0) (fun _ => .ok [])) lenG) (fun _ => .ok (.int 3)) (cmpD fun i j => decide (i < j))) boolD) (bindT (two (slotD 2) (fun _ => .ok (.int 4)) (cmpD fun i j => decide (i < j))) boolD)) (ifS (bindT (two (bindF (consD (slotD 0) (consD (tupF (consD (bindF (consD (negF (fun _ => .ok (.int 1))) (consD (two (slotD 1) (fun _ => .ok (.int 0)) ixD) (fun _ => .ok []))) F_law_scaled) (consD (two (slotD 1) (fun _ => .ok (.int 1)) ixD) (fun _ => .ok [])))) (consD (slotD 2) (fun _ => .ok [])))) F_floor_at) (two (negF (slotD 5)) (bindF (consD (two (slotD 6) (fun _ => .ok (.int 0)) (cmpD fun i j => decide (j < i))) (fun _ => .ok [])) intG) subD) neD) boolD) (retD (fun _ => .ok (.bl false))) Out.nxt) Out.nxt) (seqD (setD 7 (slotD 5)) (seqD (forR (rng1) (tgtN 4) (consD (slotD 2) (fun _ => .ok [])) (setD 7 (two (slotD 7) (fun _ => .ok (.int 10)) fdivD))) (retD (andV (two (bindF (consD (slotD 0) (consD (slotD 1) (fun _ => .ok []))) fun ds => F_floor_at (ds ++ [.int 0])) (slotD 7) eqD) (two (bindF (consD (slotD 0) (consD (slotD 1) (consD (fun _ => .ok (.int 0)) (fun _ => .ok [])))) F_floor_at) (slotD 7) eqD))))))))))))
noncomputable def F_law_holds : List D → Res D := fnD 3 8 b_law_holds
noncomputable def b_law : DS → Out :=
  (seqD (setD 1 (bindF (consD (slotD 0) (consD (fun _ => .ok (.int 1)) (fun _ => .ok []))) F_law_cell)) (seqD (setD 2 (bindF (consD (bindF (consD (slotD 0) (consD (fun _ => .ok (.int 0)) (fun _ => .ok []))) F_law_cell) (consD (two (slotD 1) (fun _ => .ok (.int 4)) modD) (fun _ => .ok []))) F_law_scaffold)) (seqD (setD 3 (two (lstF (consD (fun _ => .ok (.int 1)) (consD (fun _ => .ok (.int 2)) (consD (fun _ => .ok (.int 4)) (consD (fun _ => .ok (.int 8)) (fun _ => .ok [])))))) (bindF (consD (slotD 2) (fun _ => .ok [])) lenG) ixD)) (seqD (setD 4 (bindF (consD (slotD 1) (consD (fun _ => .ok (.int 1)) (consD (fun _ => .ok (.int 61)) (fun _ => .ok [])))) F_law_mixed)) (seqD (ifS (bindT (two (bindF (consD (slotD 1) (consD (fun _ => .ok (.int 2)) (consD (fun _ => .ok (.int 2)) (fun _ => .ok [])))) F_law_mixed) (fun _ => .ok (.int 0)) eqD) boolD) (setD 4 (two (slotD 4) (fun _ => .ok (.int 4)) modD)) Out.nxt) (seqD (setD 5 (two (lstF (consD (fun _ => .ok (.int 7)) (consD (fun _ => .ok (.int 4)) (consD (fun _ => .ok (.int 2)) (consD (fun _ => .ok (.int 1)) (fun _ => .ok [])))))) (bindF (consD (slotD 2) (fun _ => .ok [])) lenG) ixD)) (seqD (forS (tgtN 6) (bindL (compD 1 [0, 5] (tgtN 0) (stepF (slotD 1) (partF (two (fun _ => .ok (.int 2)) (slotD 0) addD)) (partF (fun _ => .ok (.int 64))) (partF (slotD 2))) (bindRg (consD (slotD 5) (fun _ => .ok [])) rng1)) seqItems) (seqD (setD 7 (fun _ => .ok (.int 0))) (seqD (forS (tupTgt [8, 9]) (bindRg (consD (slotD 6) (fun _ => .ok [])) enumG) (setD 7 (two (slotD 7) (two (two (two (fun _ => .ok (.int 2)) (slotD 8) mulE) (fun _ => .ok (.int 1)) addD) (two (slotD 9) (two (fun _ => .ok (.int 10)) (fun _ => .ok (.int 30)) powD) modD) mulE) addD))) (ifS (notT (bindT (bindF (consD (slotD 2) (consD (bindF (consD (slotD 7) (consD (slotD 3) (fun _ => .ok []))) F_law_drawn_2) (consD (slotD 4) (fun _ => .ok [])))) F_law_holds) truthD)) (retD (fun _ => .ok (.bl false))) Out.nxt)))) (retD (fun _ => .ok (.bl true))))))))))
noncomputable def F_law : List D → Res D := fnD 1 10 b_law
structure Adr where
  c_HallError : Addr
  c_Below : Addr
  f_ten_times_itself : Addr
  f_whole_root : Addr
  f_front_tops : Addr
  f_behind_tops : Addr
  f_law_cell : Addr
  f_law_whole : Addr
  f_law_mixed : Addr
  f_law_added : Addr
  f_law_scaled : Addr
  f_law_common : Addr
  f_law_scaffold : Addr
  f_law_lowest : Addr
  f_law_drawn_2 : Addr
  f_law_tops_times : Addr
  f_bounds : Addr
  f_law_sign_of : Addr
  f_floors_around : Addr
  f_root_bounds : Addr
  f_law_side : Addr
  f_floor_at : Addr
  f_law_holds : Addr
  f_law : Addr
structure Txt (K : PySem.W.Frag) (mg : Str → Option Value) (a : Adr) : Prop where
  m_ten_times_itself : mg "ten_times_itself" = some (.ref a.f_ten_times_itself)
  k_ten_times_itself : PySem.W.keepIn K (.ref a.f_ten_times_itself) = true
  m_whole_root : mg "whole_root" = some (.ref a.f_whole_root)
  k_whole_root : PySem.W.keepIn K (.ref a.f_whole_root) = true
  m_front_tops : mg "front_tops" = some (.ref a.f_front_tops)
  k_front_tops : PySem.W.keepIn K (.ref a.f_front_tops) = true
  m_behind_tops : mg "behind_tops" = some (.ref a.f_behind_tops)
  k_behind_tops : PySem.W.keepIn K (.ref a.f_behind_tops) = true
  m_law_cell : mg "_law_cell" = some (.ref a.f_law_cell)
  k_law_cell : PySem.W.keepIn K (.ref a.f_law_cell) = true
  m_law_whole : mg "_law_whole" = some (.ref a.f_law_whole)
  k_law_whole : PySem.W.keepIn K (.ref a.f_law_whole) = true
  m_law_mixed : mg "_law_mixed" = some (.ref a.f_law_mixed)
  k_law_mixed : PySem.W.keepIn K (.ref a.f_law_mixed) = true
  m_law_added : mg "_law_added" = some (.ref a.f_law_added)
  k_law_added : PySem.W.keepIn K (.ref a.f_law_added) = true
  m_law_scaled : mg "_law_scaled" = some (.ref a.f_law_scaled)
  k_law_scaled : PySem.W.keepIn K (.ref a.f_law_scaled) = true
  m_law_common : mg "_law_common" = some (.ref a.f_law_common)
  k_law_common : PySem.W.keepIn K (.ref a.f_law_common) = true
  m_law_scaffold : mg "_law_scaffold" = some (.ref a.f_law_scaffold)
  k_law_scaffold : PySem.W.keepIn K (.ref a.f_law_scaffold) = true
  m_law_lowest : mg "_law_lowest" = some (.ref a.f_law_lowest)
  k_law_lowest : PySem.W.keepIn K (.ref a.f_law_lowest) = true
  m_law_drawn_2 : mg "_law_drawn" = some (.ref a.f_law_drawn_2)
  k_law_drawn_2 : PySem.W.keepIn K (.ref a.f_law_drawn_2) = true
  m_law_tops_times : mg "_law_tops_times" = some (.ref a.f_law_tops_times)
  k_law_tops_times : PySem.W.keepIn K (.ref a.f_law_tops_times) = true
  m_bounds : mg "bounds" = some (.ref a.f_bounds)
  k_bounds : PySem.W.keepIn K (.ref a.f_bounds) = true
  m_law_sign_of : mg "_law_sign_of" = some (.ref a.f_law_sign_of)
  k_law_sign_of : PySem.W.keepIn K (.ref a.f_law_sign_of) = true
  m_floors_around : mg "floors_around" = some (.ref a.f_floors_around)
  k_floors_around : PySem.W.keepIn K (.ref a.f_floors_around) = true
  m_root_bounds : mg "root_bounds" = some (.ref a.f_root_bounds)
  k_root_bounds : PySem.W.keepIn K (.ref a.f_root_bounds) = true
  m_law_side : mg "_law_side" = some (.ref a.f_law_side)
  k_law_side : PySem.W.keepIn K (.ref a.f_law_side) = true
  m_floor_at : mg "floor_at" = some (.ref a.f_floor_at)
  k_floor_at : PySem.W.keepIn K (.ref a.f_floor_at) = true
  m_law_holds : mg "_law_holds" = some (.ref a.f_law_holds)
  k_law_holds : PySem.W.keepIn K (.ref a.f_law_holds) = true
  m_law : mg "law" = some (.ref a.f_law)
  k_law : PySem.W.keepIn K (.ref a.f_law) = true
  m_HallError : mg "HallError" = some (.ref a.c_HallError)
  n_HallError : PySem.W.nsIn K mainGlobals "HallError" = some (some (.ref a.c_HallError))
  x_HallError : PySem.W.excIn K a.c_HallError [.type "ValueError", .type "Exception", .type "BaseException", .type "object"] "ValueError.__new__" = true
  m_Below : mg "Below" = some (.ref a.c_Below)
  n_Below : PySem.W.nsIn K mainGlobals "Below" = some (some (.ref a.c_Below))
  x_Below : PySem.W.excIn K a.c_Below [.type "ValueError", .type "Exception", .type "BaseException", .type "object"] "ValueError.__new__" = true
  m_FIRST_BITS : ∃ t : Tok, mg "FIRST_BITS" = some (.int 64 t)
  i_int : ∀ d b, Bk.is_int d = some b → IsOk K (.type "int") b d
  i_bool : ∀ d b, Bk.is_bool d = some b → IsOk K (.type "bool") b d
  z_abs : mg "abs" = none
  z_bool : mg "bool" = none
  z_enumerate : mg "enumerate" = none
  z_int : mg "int" = none
  z_isinstance : mg "isinstance" = none
  z_len : mg "len" = none
  z_max : mg "max" = none
  z_range : mg "range" = none
  z_tuple : mg "tuple" = none
  z_zip : mg "zip" = none
end K12
set_option Elab.async false
set_option linter.all false
set_option maxRecDepth 100000
set_option maxHeartbeats 4000000
namespace K12
open PySem PySem.Spec PyProof.Rows L2 DL Bk Mine
section
variable {P : Program} {w : World} {K : PySem.W.Frag} {mg : Str → Option Value} {base : Heap} {a : Adr}
theorem ok_ten_times_itself (T : Txt K mg a) {fd_ten_times_itself : FuncData} (F : Fun K "ten_times_itself" "ten_times_itself" st_ten_times_itself a.f_ten_times_itself fd_ten_times_itself) :
    FnOk P w K mg base (CX1 P w) 1 a.f_ten_times_itself fd_ten_times_itself ["many"] (spD K F_ten_times_itself) := by
  have hb : ∀ (cdv : Value) (A : Around) (outer : List Env) (s : Shared) (H : Hp) (E : XK), Room 0 (A.deeper (envOfC "ten_times_itself" (defScope st_ten_times_itself) s.heap.objs.size a.f_ten_times_itself cdv)) →
      PSDs (cxOf (CX1 P w) P w K mg base ["many", "product", "time"] "ten_times_itself" (defScope st_ten_times_itself) a.f_ten_times_itself cdv A outer s H E) (defBody st_ten_times_itself) b_ten_times_itself := fun cdv A outer s H E hr => by
    unfold b_ten_times_itself
    exact (psd_cons (psd_set 1 pd_int sc_ten_times_itself.nd) (psd_cons (psd_for_range1 rfl rfl T.z_range (pad_cons (pd_var 0) pad_nil) (pgd_name 2 sc_ten_times_itself.nd) (psd_one (psd_aug 1 od_imul ne_mul pd_int sc_ten_times_itself.nd))) (psd_one (psd_ret (pd_var 1)))))
  exact fun_d (N := ["many", "product", "time"]) (ps := ["many"]) (k := 0) (body := b_ten_times_itself) F sc_ten_times_itself hb
end
end K12
set_option Elab.async false
set_option linter.all false
set_option maxRecDepth 100000
set_option maxHeartbeats 4000000
namespace K12
open PySem PySem.Spec PyProof.Rows L2 DL Bk Mine
section
variable {P : Program} {w : World} {K : PySem.W.Frag} {mg : Str → Option Value} {base : Heap} {a : Adr}
theorem ok_whole_root (T : Txt K mg a) {fd_whole_root : FuncData} (F : Fun K "whole_root" "whole_root" st_whole_root a.f_whole_root fd_whole_root) :
    FnOk P w K mg base (CX1 P w) 1 a.f_whole_root fd_whole_root ["n"] (spD K F_whole_root) := by
  have hb : ∀ (cdv : Value) (A : Around) (outer : List Env) (s : Shared) (H : Hp) (E : XK), Room 0 (A.deeper (envOfC "whole_root" (defScope st_whole_root) s.heap.objs.size a.f_whole_root cdv)) →
      PSDs (cxOf (CX1 P w) P w K mg base ["n", "guess"] "whole_root" (defScope st_whole_root) a.f_whole_root cdv A outer s H E) (defBody st_whole_root) b_whole_root := fun cdv A outer s H E hr => by
    unfold b_whole_root
    exact (psd_cons (psd_if (ptd_cmp od_lt (ne_cmp _) (pd_var 0) pd_int (nomark _)) (psd_one (psd_raise rfl PySem.F.excBase_ValueError T.n_Below T.x_Below rfl T.m_Below (pad_cons pd_str pad_nil) (by decide) (hlen := fun δ ds h => len_cons1 h))) psd_nil) (psd_cons (psd_set 1 (pd_op od_shl ne_shl pd_int (pd_op od_fdiv ne_fdiv (pd_op od_add ne_add (pd_bits (pd_var 0)) pd_int) pd_int)) sc_whole_root.nd) (psd_cons (psd_while fuel_whole_root_1 (ptd_cmp od_gt (ne_cmp _) (pd_op od_mulE ne_mulE (pd_var 1) (pd_var 1)) (pd_var 0) (nomark _)) (psd_one (psd_set 1 (pd_op od_fdiv ne_fdiv (pd_op od_add ne_add (pd_var 1) (pd_op od_fdiv ne_fdiv (pd_var 0) (pd_var 1))) pd_int) sc_whole_root.nd))) (psd_one (psd_ret (pd_var 1))))))
  exact fun_d (N := ["n", "guess"]) (ps := ["n"]) (k := 0) (body := b_whole_root) F sc_whole_root hb
end
end K12
set_option Elab.async false
set_option linter.all false
set_option maxRecDepth 100000
set_option maxHeartbeats 4000000
namespace K12
open PySem PySem.Spec PyProof.Rows L2 DL Bk Mine
section
variable {P : Program} {w : World} {K : PySem.W.Frag} {mg : Str → Option Value} {base : Heap} {a : Adr}
theorem ok_front_tops (T : Txt K mg a) {fd_front_tops : FuncData} (F : Fun K "front_tops" "front_tops" st_front_tops a.f_front_tops fd_front_tops) :
    FnOk P w K mg base (CX1 P w) 1 a.f_front_tops fd_front_tops ["tops"] (spD K F_front_tops) := by
  have hb : ∀ (cdv : Value) (A : Around) (outer : List Env) (s : Shared) (H : Hp) (E : XK), Room 0 (A.deeper (envOfC "front_tops" (defScope st_front_tops) s.heap.objs.size a.f_front_tops cdv)) →
      PSDs (cxOf (CX1 P w) P w K mg base ["tops"] "front_tops" (defScope st_front_tops) a.f_front_tops cdv A outer s H E) (defBody st_front_tops) b_front_tops := fun cdv A outer s H E hr => by
    unfold b_front_tops
    exact (psd_one (psd_ret (pd_slice (pd_var 0) pod_none (pod_some (pd_op od_fdiv ne_fdiv (pd_callB cd_len ne_len rfl T.z_len (by decide +kernel) (pad_cons (pd_var 0) pad_nil)) pd_int)))))
  exact fun_d (N := ["tops"]) (ps := ["tops"]) (k := 0) (body := b_front_tops) F sc_front_tops hb
end
end K12
set_option Elab.async false
set_option linter.all false
set_option maxRecDepth 100000
set_option maxHeartbeats 4000000
namespace K12
open PySem PySem.Spec PyProof.Rows L2 DL Bk Mine
section
variable {P : Program} {w : World} {K : PySem.W.Frag} {mg : Str → Option Value} {base : Heap} {a : Adr}
theorem ok_behind_tops (T : Txt K mg a) {fd_behind_tops : FuncData} (F : Fun K "behind_tops" "behind_tops" st_behind_tops a.f_behind_tops fd_behind_tops) :
    FnOk P w K mg base (CX1 P w) 1 a.f_behind_tops fd_behind_tops ["tops"] (spD K F_behind_tops) := by
  have hb : ∀ (cdv : Value) (A : Around) (outer : List Env) (s : Shared) (H : Hp) (E : XK), Room 0 (A.deeper (envOfC "behind_tops" (defScope st_behind_tops) s.heap.objs.size a.f_behind_tops cdv)) →
      PSDs (cxOf (CX1 P w) P w K mg base ["tops"] "behind_tops" (defScope st_behind_tops) a.f_behind_tops cdv A outer s H E) (defBody st_behind_tops) b_behind_tops := fun cdv A outer s H E hr => by
    unfold b_behind_tops
    exact (psd_one (psd_ret (pd_slice (pd_var 0) (pod_some (pd_op od_fdiv ne_fdiv (pd_callB cd_len ne_len rfl T.z_len (by decide +kernel) (pad_cons (pd_var 0) pad_nil)) pd_int)) pod_none)))
  exact fun_d (N := ["tops"]) (ps := ["tops"]) (k := 0) (body := b_behind_tops) F sc_behind_tops hb
end
end K12
set_option Elab.async false
set_option linter.all false
set_option maxRecDepth 100000
set_option maxHeartbeats 4000000
namespace K12
open PySem PySem.Spec PyProof.Rows L2 DL Bk Mine
section
variable {P : Program} {w : World} {K : PySem.W.Frag} {mg : Str → Option Value} {base : Heap} {a : Adr}
theorem ok_law_cell (T : Txt K mg a) {fd_law_cell : FuncData} (F : Fun K "_law_cell" "_law_cell" st_law_cell a.f_law_cell fd_law_cell) :
    FnOk P w K mg base (CX1 P w) 1 a.f_law_cell fd_law_cell ["_law_script", "_law_k"] (spD K F_law_cell) := by
  have hb : ∀ (cdv : Value) (A : Around) (outer : List Env) (s : Shared) (H : Hp) (E : XK), Room 0 (A.deeper (envOfC "_law_cell" (defScope st_law_cell) s.heap.objs.size a.f_law_cell cdv)) →
      PSDs (cxOf (CX1 P w) P w K mg base ["_law_script", "_law_k"] "_law_cell" (defScope st_law_cell) a.f_law_cell cdv A outer s H E) (defBody st_law_cell) b_law_cell := fun cdv A outer s H E hr => by
    unfold b_law_cell
    exact (psd_cons (psd_if (ptd_cmp od_lt (ne_cmp _) (pd_var 1) (pd_callB cd_len ne_len rfl T.z_len (by decide +kernel) (pad_cons (pd_var 0) pad_nil)) (nomark _)) (psd_one (psd_ret (pd_ix (pd_var 0) (pd_var 1)))) psd_nil) (psd_one (psd_ret pd_int)))
  exact fun_d (N := ["_law_script", "_law_k"]) (ps := ["_law_script", "_law_k"]) (k := 0) (body := b_law_cell) F sc_law_cell hb
end
end K12
set_option Elab.async false
set_option linter.all false
set_option maxRecDepth 100000
set_option maxHeartbeats 4000000
namespace K12
open PySem PySem.Spec PyProof.Rows L2 DL Bk Mine
section
variable {P : Program} {w : World} {K : PySem.W.Frag} {mg : Str → Option Value} {base : Heap} {a : Adr}
theorem ok_law_whole (T : Txt K mg a) {fd_law_whole : FuncData} (F : Fun K "_law_whole" "_law_whole" st_law_whole a.f_law_whole fd_law_whole) :
    FnOk P w K mg base (CX1 P w) 1 a.f_law_whole fd_law_whole ["_law_found"] (spD K F_law_whole) := by
  have hb : ∀ (cdv : Value) (A : Around) (outer : List Env) (s : Shared) (H : Hp) (E : XK), Room 0 (A.deeper (envOfC "_law_whole" (defScope st_law_whole) s.heap.objs.size a.f_law_whole cdv)) →
      PSDs (cxOf (CX1 P w) P w K mg base ["_law_found"] "_law_whole" (defScope st_law_whole) a.f_law_whole cdv A outer s H E) (defBody st_law_whole) b_law_whole := fun cdv A outer s H E hr => by
    unfold b_law_whole
    exact (psd_one (psd_ret (pd_and (pd_isinst T.i_int (pd_var 0) (cls_blt rfl T.z_int (by decide +kernel)) rfl T.z_isinstance) (pd_one (pd_not (pd_isinst T.i_bool (pd_var 0) (cls_blt rfl T.z_bool (by decide +kernel)) rfl T.z_isinstance))))))
  exact fun_d (N := ["_law_found"]) (ps := ["_law_found"]) (k := 0) (body := b_law_whole) F sc_law_whole hb
end
end K12
set_option Elab.async false
set_option linter.all false
set_option maxRecDepth 100000
set_option maxHeartbeats 4000000
namespace K12
open PySem PySem.Spec PyProof.Rows L2 DL Bk Mine
section
variable {P : Program} {w : World} {K : PySem.W.Frag} {mg : Str → Option Value} {base : Heap} {a : Adr}
theorem ok_law_mixed (T : Txt K mg a) {fd_law_mixed : FuncData} (F : Fun K "_law_mixed" "_law_mixed" st_law_mixed a.f_law_mixed fd_law_mixed) :
    FnOk P w K mg base (CX1 P w) 1 a.f_law_mixed fd_law_mixed ["_law_cell_here", "_law_k", "_law_many"] (spD K F_law_mixed) := by
  have hb : ∀ (cdv : Value) (A : Around) (outer : List Env) (s : Shared) (H : Hp) (E : XK), Room 0 (A.deeper (envOfC "_law_mixed" (defScope st_law_mixed) s.heap.objs.size a.f_law_mixed cdv)) →
      PSDs (cxOf (CX1 P w) P w K mg base ["_law_cell_here", "_law_k", "_law_many", "_law_some"] "_law_mixed" (defScope st_law_mixed) a.f_law_mixed cdv A outer s H E) (defBody st_law_mixed) b_law_mixed := fun cdv A outer s H E hr => by
    unfold b_law_mixed
    exact (psd_cons (psd_set 3 (pd_lst (pad_cons pd_int (pad_cons pd_int (pad_cons pd_int (pad_cons pd_int (pad_cons pd_int pad_nil)))))) sc_law_mixed.nd) (psd_cons (psd_set 3 (pd_op od_add ne_add (pd_var 3) (pd_lst (pad_cons pd_int (pad_cons pd_int (pad_cons pd_int (pad_cons pd_int (pad_cons pd_int pad_nil))))))) sc_law_mixed.nd) (psd_one (psd_ret (pd_op od_mod ne_mod (pd_op od_mod ne_mod (pd_op od_mulE ne_mulE (pd_op od_add ne_add (pd_var 0) pd_int) (pd_ix (pd_var 3) (pd_var 1))) pd_int) (pd_var 2))))))
  exact fun_d (N := ["_law_cell_here", "_law_k", "_law_many", "_law_some"]) (ps := ["_law_cell_here", "_law_k", "_law_many"]) (k := 0) (body := b_law_mixed) F sc_law_mixed hb
end
end K12
set_option Elab.async false
set_option linter.all false
set_option maxRecDepth 100000
set_option maxHeartbeats 4000000
namespace K12
open PySem PySem.Spec PyProof.Rows L2 DL Bk Mine
section
variable {P : Program} {w : World} {K : PySem.W.Frag} {mg : Str → Option Value} {base : Heap} {a : Adr}
theorem ok_law_added (T : Txt K mg a) {fd_law_added : FuncData} (F : Fun K "_law_added" "_law_added" st_law_added a.f_law_added fd_law_added) :
    FnOk P w K mg base (CX1 P w) 1 a.f_law_added fd_law_added ["_law_one", "_law_other"] (spD K F_law_added) := by
  have hb : ∀ (cdv : Value) (A : Around) (outer : List Env) (s : Shared) (H : Hp) (E : XK), Room 0 (A.deeper (envOfC "_law_added" (defScope st_law_added) s.heap.objs.size a.f_law_added cdv)) →
      PSDs (cxOf (CX1 P w) P w K mg base ["_law_one", "_law_other"] "_law_added" (defScope st_law_added) a.f_law_added cdv A outer s H E) (defBody st_law_added) b_law_added := fun cdv A outer s H E hr => by
    unfold b_law_added
    exact (psd_one (psd_ret (pd_callTy cd_tuple ne_tupleG rfl T.z_tuple (by decide +kernel) (pad_cons (pd_comp (N' := ["_law_a", "_law_b"]) (m := 2) (fr := []) around0 rfl (keeps_two (by decide) (by decide)) (pid_zip rfl T.z_zip (pad_cons (pd_var 0) (pad_cons (pd_var 1) pad_nil))) (fun _ _ _ _ => pgd_tup rfl (fun _ => pgs_namesCons 0 (show List.Nodup (["_law_a", "_law_b"] : List Str) by decide +kernel) (pgs_namesCons 1 (show List.Nodup (["_law_a", "_law_b"] : List Str) by decide +kernel) pgs_namesNil))) (fun _ _ _ _ => (pd_op od_add ne_add (pd_var 0) (pd_var 1)))) pad_nil))))
  exact fun_d (N := ["_law_one", "_law_other"]) (ps := ["_law_one", "_law_other"]) (k := 0) (body := b_law_added) F sc_law_added hb
end
end K12
set_option Elab.async false
set_option linter.all false
set_option maxRecDepth 100000
set_option maxHeartbeats 4000000
namespace K12
open PySem PySem.Spec PyProof.Rows L2 DL Bk Mine
section
variable {P : Program} {w : World} {K : PySem.W.Frag} {mg : Str → Option Value} {base : Heap} {a : Adr}
theorem ok_law_scaled (T : Txt K mg a) {fd_law_scaled : FuncData} (F : Fun K "_law_scaled" "_law_scaled" st_law_scaled a.f_law_scaled fd_law_scaled) :
    FnOk P w K mg base (CX1 P w) 1 a.f_law_scaled fd_law_scaled ["_law_k", "_law_one"] (spD K F_law_scaled) := by
  have hb : ∀ (cdv : Value) (A : Around) (outer : List Env) (s : Shared) (H : Hp) (E : XK), Room 0 (A.deeper (envOfC "_law_scaled" (defScope st_law_scaled) s.heap.objs.size a.f_law_scaled cdv)) →
      PSDs (cxOf (CX1 P w) P w K mg base ["_law_k", "_law_one"] "_law_scaled" (defScope st_law_scaled) a.f_law_scaled cdv A outer s H E) (defBody st_law_scaled) b_law_scaled := fun cdv A outer s H E hr => by
    unfold b_law_scaled
    exact (psd_one (psd_ret (pd_callTy cd_tuple ne_tupleG rfl T.z_tuple (by decide +kernel) (pad_cons (pd_comp (N' := ["_law_a", "_law_k"]) (m := 1) (fr := [0]) (aroundB (defScope st_law_scaled) ["_law_k", "_law_one"] rfl rfl rfl rfl rfl (by decide +kernel)) rfl (keeps_name (by decide)) (pid_seq (pd_var 1)) (fun _ _ _ _ => pgd_name 0 (show List.Nodup (["_law_a", "_law_k"] : List Str) by decide +kernel)) (fun _ _ _ _ => (pd_op od_mulE ne_mulE (pd_var 1) (pd_var 0)))) pad_nil))))
  exact fun_d (N := ["_law_k", "_law_one"]) (ps := ["_law_k", "_law_one"]) (k := 0) (body := b_law_scaled) F sc_law_scaled hb
end
end K12
set_option Elab.async false
set_option linter.all false
set_option maxRecDepth 100000
set_option maxHeartbeats 4000000
namespace K12
open PySem PySem.Spec PyProof.Rows L2 DL Bk Mine
section
variable {P : Program} {w : World} {K : PySem.W.Frag} {mg : Str → Option Value} {base : Heap} {a : Adr}
theorem ok_law_common (T : Txt K mg a) {fd_law_common : FuncData} (F : Fun K "_law_common" "_law_common" st_law_common a.f_law_common fd_law_common) :
    FnOk P w K mg base (CX1 P w) 1 a.f_law_common fd_law_common ["_law_one", "_law_other"] (spD K F_law_common) := by
  have hb : ∀ (cdv : Value) (A : Around) (outer : List Env) (s : Shared) (H : Hp) (E : XK), Room 0 (A.deeper (envOfC "_law_common" (defScope st_law_common) s.heap.objs.size a.f_law_common cdv)) →
      PSDs (cxOf (CX1 P w) P w K mg base ["_law_one", "_law_other", "_law_rest"] "_law_common" (defScope st_law_common) a.f_law_common cdv A outer s H E) (defBody st_law_common) b_law_common := fun cdv A outer s H E hr => by
    unfold b_law_common
    exact (psd_cons (psd_while fuel_law_common_1 (ptd_cmp (od_ne hr.units) ne_neD (pd_var 1) pd_int (nomark _)) (psd_cons (psd_set 2 (pd_op od_mod ne_mod (pd_var 0) (pd_var 1)) sc_law_common.nd) (psd_cons (psd_set 0 (pd_var 1) sc_law_common.nd) (psd_one (psd_set 1 (pd_var 2) sc_law_common.nd))))) (psd_one (psd_ret (pd_callB cd_abs ne_abs rfl T.z_abs (by decide +kernel) (pad_cons (pd_var 0) pad_nil)))))
  exact fun_d (N := ["_law_one", "_law_other", "_law_rest"]) (ps := ["_law_one", "_law_other"]) (k := 0) (body := b_law_common) F sc_law_common hb
end
end K12
set_option Elab.async false
set_option linter.all false
set_option maxRecDepth 100000
set_option maxHeartbeats 4000000
namespace K12
open PySem PySem.Spec PyProof.Rows L2 DL Bk Mine
section
variable {P : Program} {w : World} {K : PySem.W.Frag} {mg : Str → Option Value} {base : Heap} {a : Adr}
theorem ok_law_scaffold (T : Txt K mg a) {fd_law_scaffold : FuncData} (F : Fun K "_law_scaffold" "_law_scaffold" st_law_scaffold a.f_law_scaffold fd_law_scaffold) {fd_law_mixed : FuncData} (G_law_mixed : FnOk P w K mg base (CX1 P w) 1 a.f_law_mixed fd_law_mixed ["_law_cell_here", "_law_k", "_law_many"] (spD K F_law_mixed)) (B_law_mixed : Binds K fd_law_mixed ["_law_cell_here", "_law_k", "_law_many"] []) :
    FnOk P w K mg base (CX1 P w) 2 a.f_law_scaffold fd_law_scaffold ["_law_cell_here", "_law_many"] (spD K F_law_scaffold) := by
  have hb : ∀ (cdv : Value) (A : Around) (outer : List Env) (s : Shared) (H : Hp) (E : XK), Room 1 (A.deeper (envOfC "_law_scaffold" (defScope st_law_scaffold) s.heap.objs.size a.f_law_scaffold cdv)) →
      PSDs (cxOf (CX1 P w) P w K mg base ["_law_cell_here", "_law_many", "_law_r", "_law_m", "_law_b", "_law_k", "_law_roots", "_law_primes", "_law_at"] "_law_scaffold" (defScope st_law_scaffold) a.f_law_scaffold cdv A outer s H E) (defBody st_law_scaffold) b_law_scaffold := fun cdv A outer s H E hr => by
    unfold b_law_scaffold
    exact (psd_cons (psd_set 2 (pd_op od_add ne_add pd_int (pd_call (G_law_mixed.mono (by decide)) hr rfl T.m_law_mixed T.k_law_mixed B_law_mixed (pad_cons (pd_var 0) (pad_cons pd_int (pad_cons pd_int pad_nil))))) sc_law_scaffold.nd) (psd_cons (psd_set 3 (pd_op od_add ne_add (pd_op od_add ne_add (pd_op od_mulE ne_mulE (pd_var 2) (pd_var 2)) pd_int) (pd_call (G_law_mixed.mono (by decide)) hr rfl T.m_law_mixed T.k_law_mixed B_law_mixed (pad_cons (pd_var 0) (pad_cons pd_int (pad_cons (pd_op od_mulE ne_mulE pd_int (pd_var 2)) pad_nil))))) sc_law_scaffold.nd) (psd_cons (psd_set 4 (pd_op od_add ne_add pd_int (pd_call (G_law_mixed.mono (by decide)) hr rfl T.m_law_mixed T.k_law_mixed B_law_mixed (pad_cons (pd_var 0) (pad_cons pd_int (pad_cons pd_int pad_nil))))) sc_law_scaffold.nd) (psd_cons (psd_set 5 (pd_op od_add ne_add pd_int (pd_call (G_law_mixed.mono (by decide)) hr rfl T.m_law_mixed T.k_law_mixed B_law_mixed (pad_cons (pd_var 0) (pad_cons pd_int (pad_cons pd_int pad_nil))))) sc_law_scaffold.nd) (psd_cons (psd_set 6 (pd_tup (pad_cons (pd_tup (pad_cons (pd_var 3) pad_nil)) (pad_cons (pd_tup (pad_cons (pd_call (G_law_mixed.mono (by decide)) hr rfl T.m_law_mixed T.k_law_mixed B_law_mixed (pad_cons (pd_var 0) (pad_cons pd_int (pad_cons (pd_op od_add ne_add (pd_op od_mulE ne_mulE (pd_var 4) (pd_var 2)) pd_int) pad_nil)))) (pad_cons (pd_var 4) pad_nil))) (pad_cons (pd_tup (pad_cons (pd_call (G_law_mixed.mono (by decide)) hr rfl T.m_law_mixed T.k_law_mixed B_law_mixed (pad_cons (pd_var 0) (pad_cons pd_int (pad_cons (pd_var 5) pad_nil)))) (pad_cons pd_int (pad_cons (pd_var 5) (pad_cons pd_int pad_nil))))) pad_nil)))) sc_law_scaffold.nd) (psd_cons (psd_if (ptd_cmp (od_eq hr.units) ne_eqD (pd_call (G_law_mixed.mono (by decide)) hr rfl T.m_law_mixed T.k_law_mixed B_law_mixed (pad_cons (pd_var 0) (pad_cons pd_int (pad_cons pd_int pad_nil)))) pd_int (nomark _)) (psd_cons (psd_set 7 (pd_lst (pad_cons pd_int (pad_cons pd_int (pad_cons pd_int (pad_cons pd_int (pad_cons pd_int (pad_cons pd_int pad_nil))))))) sc_law_scaffold.nd) (psd_cons (psd_set 8 (pd_call (G_law_mixed.mono (by decide)) hr rfl T.m_law_mixed T.k_law_mixed B_law_mixed (pad_cons (pd_var 0) (pad_cons pd_int (pad_cons pd_int pad_nil)))) sc_law_scaffold.nd) (psd_one (psd_set 6 (pd_tup (pad_cons (pd_tup (pad_cons (pd_ix (pd_var 7) (pd_var 8)) pad_nil)) (pad_cons (pd_tup (pad_cons (pd_ix (pd_var 7) (pd_op od_mod ne_mod (pd_op od_add ne_add (pd_var 8) pd_int) pd_int)) (pad_cons pd_int pad_nil))) (pad_cons (pd_tup (pad_cons (pd_ix (pd_var 7) (pd_op od_mod ne_mod (pd_op od_add ne_add (pd_var 8) pd_int) pd_int)) (pad_cons pd_int (pad_cons pd_int (pad_cons pd_int pad_nil))))) pad_nil)))) sc_law_scaffold.nd)))) psd_nil) (psd_one (psd_ret (pd_slice (pd_var 6) pod_none (pod_some (pd_var 1)))))))))))
  exact fun_d (N := ["_law_cell_here", "_law_many", "_law_r", "_law_m", "_law_b", "_law_k", "_law_roots", "_law_primes", "_law_at"]) (ps := ["_law_cell_here", "_law_many"]) (k := 1) (body := b_law_scaffold) F sc_law_scaffold hb
end
end K12
set_option Elab.async false
set_option linter.all false
set_option maxRecDepth 100000
set_option maxHeartbeats 4000000
namespace K12
open PySem PySem.Spec PyProof.Rows L2 DL Bk Mine
section
variable {P : Program} {w : World} {K : PySem.W.Frag} {mg : Str → Option Value} {base : Heap} {a : Adr}
theorem ok_law_lowest (T : Txt K mg a) {fd_law_lowest : FuncData} (F : Fun K "_law_lowest" "_law_lowest" st_law_lowest a.f_law_lowest fd_law_lowest) {fd_law_common : FuncData} (G_law_common : FnOk P w K mg base (CX1 P w) 1 a.f_law_common fd_law_common ["_law_one", "_law_other"] (spD K F_law_common)) (B_law_common : Binds K fd_law_common ["_law_one", "_law_other"] []) :
    FnOk P w K mg base (CX1 P w) 2 a.f_law_lowest fd_law_lowest ["_law_one"] (spD K F_law_lowest) := by
  have hb : ∀ (cdv : Value) (A : Around) (outer : List Env) (s : Shared) (H : Hp) (E : XK), Room 1 (A.deeper (envOfC "_law_lowest" (defScope st_law_lowest) s.heap.objs.size a.f_law_lowest cdv)) →
      PSDs (cxOf (CX1 P w) P w K mg base ["_law_one", "_law_shared", "_law_top"] "_law_lowest" (defScope st_law_lowest) a.f_law_lowest cdv A outer s H E) (defBody st_law_lowest) b_law_lowest := fun cdv A outer s H E hr => by
    unfold b_law_lowest
    exact (psd_cons (psd_set 1 (pd_ix (pd_var 0) pd_int) sc_law_lowest.nd) (psd_cons (psd_for rfl (pid_seq (pd_ix (pd_var 0) pd_int)) (pgd_name 2 sc_law_lowest.nd) (psd_one (psd_set 1 (pd_call (G_law_common.mono (by decide)) hr rfl T.m_law_common T.k_law_common B_law_common (pad_cons (pd_var 1) (pad_cons (pd_var 2) pad_nil))) sc_law_lowest.nd))) (psd_one (psd_ret (pd_tup (pad_cons (pd_callTy cd_tuple ne_tupleG rfl T.z_tuple (by decide +kernel) (pad_cons (pd_comp (N' := ["_law_top", "_law_shared"]) (m := 1) (fr := [1]) (aroundB (defScope st_law_lowest) ["_law_one", "_law_shared", "_law_top"] rfl rfl rfl rfl rfl (by decide +kernel)) rfl (keeps_name (by decide)) (pid_seq (pd_ix (pd_var 0) pd_int)) (fun _ _ _ _ => pgd_name 0 (show List.Nodup (["_law_top", "_law_shared"] : List Str) by decide +kernel)) (fun _ _ _ _ => (pd_op od_fdiv ne_fdiv (pd_var 0) (pd_var 1)))) pad_nil)) (pad_cons (pd_op od_fdiv ne_fdiv (pd_ix (pd_var 0) pd_int) (pd_var 1)) pad_nil)))))))
  exact fun_d (N := ["_law_one", "_law_shared", "_law_top"]) (ps := ["_law_one"]) (k := 1) (body := b_law_lowest) F sc_law_lowest hb
end
end K12
set_option Elab.async false
set_option linter.all false
set_option maxRecDepth 100000
set_option maxHeartbeats 4000000
namespace K12
open PySem PySem.Spec PyProof.Rows L2 DL Bk Mine
section
variable {P : Program} {w : World} {K : PySem.W.Frag} {mg : Str → Option Value} {base : Heap} {a : Adr}
theorem ok_law_drawn_2 (T : Txt K mg a) {fd_law_drawn_2 : FuncData} (F : Fun K "_law_drawn" "_law_drawn" st_law_drawn_2 a.f_law_drawn_2 fd_law_drawn_2) {fd_law_lowest : FuncData} (G_law_lowest : FnOk P w K mg base (CX1 P w) 2 a.f_law_lowest fd_law_lowest ["_law_one"] (spD K F_law_lowest)) (B_law_lowest : Binds K fd_law_lowest ["_law_one"] []) {fd_law_mixed : FuncData} (G_law_mixed : FnOk P w K mg base (CX1 P w) 1 a.f_law_mixed fd_law_mixed ["_law_cell_here", "_law_k", "_law_many"] (spD K F_law_mixed)) (B_law_mixed : Binds K fd_law_mixed ["_law_cell_here", "_law_k", "_law_many"] []) :
    FnOk P w K mg base (CX1 P w) 3 a.f_law_drawn_2 fd_law_drawn_2 ["_law_cell_here", "_law_many"] (spD K F_law_drawn_2) := by
  have hb : ∀ (cdv : Value) (A : Around) (outer : List Env) (s : Shared) (H : Hp) (E : XK), Room 2 (A.deeper (envOfC "_law_drawn" (defScope st_law_drawn_2) s.heap.objs.size a.f_law_drawn_2 cdv)) →
      PSDs (cxOf (CX1 P w) P w K mg base ["_law_cell_here", "_law_many", "_law_tops"] "_law_drawn" (defScope st_law_drawn_2) a.f_law_drawn_2 cdv A outer s H E) (defBody st_law_drawn_2) b_law_drawn_2 := fun cdv A outer s H E hr => by
    unfold b_law_drawn_2
    exact (psd_cons (psd_ownComp 2 (N' := ["_law_k", "_law_cell_here"]) (m := 1) (fr := [0]) (aroundB (defScope st_law_drawn_2) ["_law_cell_here", "_law_many", "_law_tops"] rfl rfl rfl rfl rfl (by decide +kernel)) rfl (keeps_name (by decide)) (pid_range1 rfl T.z_range (pad_cons (pd_var 1) pad_nil)) (fun _ _ _ _ => pgd_name 0 (show List.Nodup (["_law_k", "_law_cell_here"] : List Str) by decide +kernel)) (fun _ _ _ _ => (pd_op od_sub ne_sub (pd_call (G_law_mixed.mono (by decide)) hr rfl T.m_law_mixed T.k_law_mixed B_law_mixed (pad_cons (pd_op od_fdiv ne_fdiv (pd_var 1) pd_int) (pad_cons (pd_var 0) (pad_cons pd_int pad_nil)))) pd_int)) sc_law_drawn_2.nd) (psd_cons (psd_if (ptd_cmp (od_eq hr.units) ne_eqD (pd_op od_mod ne_mod (pd_var 0) pd_int) pd_int (nomark _)) (psd_one (psd_put 2 (pd_op od_sub ne_sub (pd_op od_mod ne_mod (pd_op od_fdiv ne_fdiv (pd_var 0) pd_int) (pd_op od_add ne_add (pd_op od_mulE ne_mulE pd_int (pd_op od_pow ne_pow pd_int pd_int)) pd_int)) (pd_op od_pow ne_pow pd_int pd_int)) (pd_noX (pd_op od_mod ne_mod (pd_op od_fdiv ne_fdiv (pd_var 0) pd_int) (pd_var 1))) (ne_noX _))) psd_nil) (psd_cons (psd_if (ptd_cmp (od_eq hr.units) ne_eqD (pd_op od_mod ne_mod (pd_var 0) pd_int) pd_int (nomark _)) (psd_one (psd_ownComp 2 (N' := ["_law_k", "_law_top", "_law_cell_here"]) (m := 2) (fr := [0]) (aroundB (defScope st_law_drawn_2) ["_law_cell_here", "_law_many", "_law_tops"] rfl rfl rfl rfl rfl (by decide +kernel)) rfl (keeps_two (by decide) (by decide)) (pid_enum rfl T.z_enumerate (pad_cons (pd_var 2) pad_nil)) (fun _ _ _ _ => pgd_tup rfl (fun _ => pgs_namesCons 0 (show List.Nodup (["_law_k", "_law_top", "_law_cell_here"] : List Str) by decide +kernel) (pgs_namesCons 1 (show List.Nodup (["_law_k", "_law_top", "_law_cell_here"] : List Str) by decide +kernel) pgs_namesNil))) (fun _ _ _ _ => (pd_op od_mulE ne_mulE (pd_var 1) (pd_callTy cd_int ne_int rfl T.z_int (by decide +kernel) (pad_cons (pd_cmp (od_eq hr.units) ne_eqD (pd_op od_mod ne_mod (pd_op od_fdiv ne_fdiv (pd_op od_fdiv ne_fdiv (pd_var 2) pd_int) (pd_op od_add ne_add (pd_var 0) pd_int)) pd_int) pd_int (nomark _)) pad_nil)))) sc_law_drawn_2.nd)) psd_nil) (psd_cons (psd_if (ptd_cmp (od_eq hr.units) ne_eqD (pd_op od_mod ne_mod (pd_var 0) pd_int) pd_int (nomark _)) (psd_one (psd_ownComp 2 (N' := ["_law_k", "_law_top", "_law_many", "_law_cell_here"]) (m := 2) (fr := [1, 0]) (aroundB (defScope st_law_drawn_2) ["_law_cell_here", "_law_many", "_law_tops"] rfl rfl rfl rfl rfl (by decide +kernel)) rfl (keeps_two (by decide) (by decide)) (pid_enum rfl T.z_enumerate (pad_cons (pd_var 2) pad_nil)) (fun _ _ _ _ => pgd_tup rfl (fun _ => pgs_namesCons 0 (show List.Nodup (["_law_k", "_law_top", "_law_many", "_law_cell_here"] : List Str) by decide +kernel) (pgs_namesCons 1 (show List.Nodup (["_law_k", "_law_top", "_law_many", "_law_cell_here"] : List Str) by decide +kernel) pgs_namesNil))) (fun _ _ _ _ => (pd_op od_mulE ne_mulE (pd_var 1) (pd_callTy cd_int ne_int rfl T.z_int (by decide +kernel) (pad_cons (pd_cmp od_lt (ne_cmp _) (pd_var 0) (pd_op od_add ne_add (pd_op od_mod ne_mod (pd_op od_fdiv ne_fdiv (pd_var 3) pd_int) (pd_var 2)) pd_int) (nomark _)) pad_nil)))) sc_law_drawn_2.nd)) psd_nil) (psd_one (psd_ret (pd_call (G_law_lowest.mono (by decide)) hr rfl T.m_law_lowest T.k_law_lowest B_law_lowest (pad_cons (pd_tup (pad_cons (pd_callTy cd_tuple ne_tupleG rfl T.z_tuple (by decide +kernel) (pad_cons (pd_var 2) pad_nil)) (pad_cons (pd_op od_add ne_add pd_int (pd_call (G_law_mixed.mono (by decide)) hr rfl T.m_law_mixed T.k_law_mixed B_law_mixed (pad_cons (pd_op od_fdiv ne_fdiv (pd_var 0) pd_int) (pad_cons pd_int (pad_cons pd_int pad_nil))))) pad_nil))) pad_nil))))))))
  exact fun_d (N := ["_law_cell_here", "_law_many", "_law_tops"]) (ps := ["_law_cell_here", "_law_many"]) (k := 2) (body := b_law_drawn_2) F sc_law_drawn_2 hb
end
end K12
set_option Elab.async false
set_option linter.all false
set_option maxRecDepth 100000
set_option maxHeartbeats 4000000
namespace K12
open PySem PySem.Spec PyProof.Rows L2 DL Bk Mine
section
variable {P : Program} {w : World} {K : PySem.W.Frag} {mg : Str → Option Value} {base : Heap} {a : Adr}
theorem step_law_tops_times (T : Txt K mg a) {fd_law_tops_times : FuncData} (F : Fun K "_law_tops_times" "_law_tops_times" st_law_tops_times a.f_law_tops_times fd_law_tops_times) {fd_law_added : FuncData} (G_law_added : FnOk P w K mg base (CX1 P w) 1 a.f_law_added fd_law_added ["_law_one", "_law_other"] (spD K F_law_added)) (B_law_added : Binds K fd_law_added ["_law_one", "_law_other"] []) (B_law_tops_times : Binds K fd_law_tops_times ["_law_roots", "_law_one", "_law_other"] []) {R : List D → Res D} {k : Nat} (hk : 1 ≤ k) (G_law_tops_times : FnOk P w K mg base (CX1 P w) k a.f_law_tops_times fd_law_tops_times ["_law_roots", "_law_one", "_law_other"] (spD K R)) :
    FnOk P w K mg base (CX1 P w) (k + 1) a.f_law_tops_times fd_law_tops_times ["_law_roots", "_law_one", "_law_other"] (spD K (fnD 3 8 (b_law_tops_times R))) := by
  have hb : ∀ (cdv : Value) (A : Around) (outer : List Env) (s : Shared) (H : Hp) (E : XK), Room k (A.deeper (envOfC "_law_tops_times" (defScope st_law_tops_times) s.heap.objs.size a.f_law_tops_times cdv)) →
      PSDs (cxOf (CX1 P w) P w K mg base ["_law_roots", "_law_one", "_law_other", "_law_half", "_law_below", "_law_both", "_law_left", "_law_cross"] "_law_tops_times" (defScope st_law_tops_times) a.f_law_tops_times cdv A outer s H E) (defBody st_law_tops_times) (b_law_tops_times R) := fun cdv A outer s H E hr => by
    unfold b_law_tops_times
    exact (psd_cons (psd_if (ptd_cmp (od_eq hr.units) ne_eqD (pd_callB cd_len ne_len rfl T.z_len (by decide +kernel) (pad_cons (pd_var 1) pad_nil)) pd_int (nomark _)) (psd_one (psd_ret (pd_tup (pad_cons (pd_op od_mulE ne_mulE (pd_ix (pd_var 1) pd_int) (pd_ix (pd_var 2) pd_int)) pad_nil)))) psd_nil) (psd_cons (psd_set 3 (pd_op od_fdiv ne_fdiv (pd_callB cd_len ne_len rfl T.z_len (by decide +kernel) (pad_cons (pd_var 1) pad_nil)) pd_int) sc_law_tops_times.nd) (psd_cons (psd_set 4 (pd_slice (pd_var 0) pod_none (pod_some (pd_negF pd_int))) sc_law_tops_times.nd) (psd_cons (psd_set 5 (pd_call (G_law_tops_times.mono (by omega)) hr rfl T.m_law_tops_times T.k_law_tops_times B_law_tops_times (pad_cons (pd_var 4) (pad_cons (pd_slice (pd_var 1) (pod_some (pd_var 3)) pod_none) (pad_cons (pd_slice (pd_var 2) (pod_some (pd_var 3)) pod_none) pad_nil)))) sc_law_tops_times.nd) (psd_cons (psd_set 6 (pd_call (G_law_added.mono (by omega)) hr rfl T.m_law_added T.k_law_added B_law_added (pad_cons (pd_call (G_law_tops_times.mono (by omega)) hr rfl T.m_law_tops_times T.k_law_tops_times B_law_tops_times (pad_cons (pd_var 4) (pad_cons (pd_slice (pd_var 1) pod_none (pod_some (pd_var 3))) (pad_cons (pd_slice (pd_var 2) pod_none (pod_some (pd_var 3))) pad_nil)))) (pad_cons (pd_call (G_law_tops_times.mono (by omega)) hr rfl T.m_law_tops_times T.k_law_tops_times B_law_tops_times (pad_cons (pd_var 4) (pad_cons (pd_ix (pd_var 0) (pd_negF pd_int)) (pad_cons (pd_var 5) pad_nil)))) pad_nil))) sc_law_tops_times.nd) (psd_cons (psd_set 7 (pd_call (G_law_tops_times.mono (by omega)) hr rfl T.m_law_tops_times T.k_law_tops_times B_law_tops_times (pad_cons (pd_var 4) (pad_cons (pd_slice (pd_var 1) pod_none (pod_some (pd_var 3))) (pad_cons (pd_slice (pd_var 2) (pod_some (pd_var 3)) pod_none) pad_nil)))) sc_law_tops_times.nd) (psd_one (psd_ret (pd_op od_add ne_add (pd_var 6) (pd_call (G_law_added.mono (by omega)) hr rfl T.m_law_added T.k_law_added B_law_added (pad_cons (pd_var 7) (pad_cons (pd_call (G_law_tops_times.mono (by omega)) hr rfl T.m_law_tops_times T.k_law_tops_times B_law_tops_times (pad_cons (pd_var 4) (pad_cons (pd_slice (pd_var 1) (pod_some (pd_var 3)) pod_none) (pad_cons (pd_slice (pd_var 2) pod_none (pod_some (pd_var 3))) pad_nil)))) pad_nil))))))))))))
  exact fun_d (N := ["_law_roots", "_law_one", "_law_other", "_law_half", "_law_below", "_law_both", "_law_left", "_law_cross"]) (ps := ["_law_roots", "_law_one", "_law_other"]) (k := k) (body := (b_law_tops_times R)) F sc_law_tops_times hb
theorem all_law_tops_times (T : Txt K mg a) {fd_law_tops_times : FuncData} (F : Fun K "_law_tops_times" "_law_tops_times" st_law_tops_times a.f_law_tops_times fd_law_tops_times) {fd_law_added : FuncData} (G_law_added : FnOk P w K mg base (CX1 P w) 1 a.f_law_added fd_law_added ["_law_one", "_law_other"] (spD K F_law_added)) (B_law_added : Binds K fd_law_added ["_law_one", "_law_other"] []) (B_law_tops_times : Binds K fd_law_tops_times ["_law_roots", "_law_one", "_law_other"] []) : ∀ n, FnOk P w K mg base (CX1 P w) (1 + 1 * n) a.f_law_tops_times fd_law_tops_times ["_law_roots", "_law_one", "_law_other"] (spD K (Fr_law_tops_times n))
  | 0 => ⟨fun _ _ _ _ q => by obtain ⟨_, _, z⟩ := q; exact z.elim, fun _ _ _ _ _ _ _ _ _ _ _ _ _ q => by obtain ⟨_, _, z⟩ := q; exact z.elim⟩
  | n + 1 => step_law_tops_times T F G_law_added B_law_added B_law_tops_times  (Nat.le_add_right _ _) (all_law_tops_times T F G_law_added B_law_added B_law_tops_times   n)
theorem ok_law_tops_times (T : Txt K mg a) {fd_law_tops_times : FuncData} (F : Fun K "_law_tops_times" "_law_tops_times" st_law_tops_times a.f_law_tops_times fd_law_tops_times) {fd_law_added : FuncData} (G_law_added : FnOk P w K mg base (CX1 P w) 1 a.f_law_added fd_law_added ["_law_one", "_law_other"] (spD K F_law_added)) (B_law_added : Binds K fd_law_added ["_law_one", "_law_other"] []) (B_law_tops_times : Binds K fd_law_tops_times ["_law_roots", "_law_one", "_law_other"] []) :
    FnOk P w K mg base (CX1 P w) 5 a.f_law_tops_times fd_law_tops_times ["_law_roots", "_law_one", "_law_other"] (spD K F_law_tops_times) := all_law_tops_times T F G_law_added B_law_added B_law_tops_times   4
end
end K12
set_option Elab.async false
set_option linter.all false
set_option maxRecDepth 100000
set_option maxHeartbeats 4000000
namespace K12
open PySem PySem.Spec PyProof.Rows L2 DL Bk Mine
section
variable {P : Program} {w : World} {K : PySem.W.Frag} {mg : Str → Option Value} {base : Heap} {a : Adr}
theorem step_bounds (T : Txt K mg a) {fd_bounds : FuncData} (F : Fun K "bounds" "bounds" st_bounds a.f_bounds fd_bounds) {fd_front_tops : FuncData} (G_front_tops : FnOk P w K mg base (CX1 P w) 1 a.f_front_tops fd_front_tops ["tops"] (spD K F_front_tops)) (B_front_tops : Binds K fd_front_tops ["tops"] []) {fd_behind_tops : FuncData} (G_behind_tops : FnOk P w K mg base (CX1 P w) 1 a.f_behind_tops fd_behind_tops ["tops"] (spD K F_behind_tops)) (B_behind_tops : Binds K fd_behind_tops ["tops"] []) (B_bounds : Binds K fd_bounds ["roots", "tops", "fine"] []) {fd_root_bounds : FuncData} (B_root_bounds : Binds K fd_root_bounds ["roots", "fine"] []) {R : List D → Res D} {k : Nat} (hk : 1 ≤ k) (G_bounds : FnOk P w K mg base (CX1 P w) k a.f_bounds fd_bounds ["roots", "tops", "fine"] (spD K R)) (G_root_bounds : FnOk P w K mg base (CX1 P w) (k + 1) a.f_root_bounds fd_root_bounds ["roots", "fine"] (spD K (fnD 2 3 (b_root_bounds R)))) :
    FnOk P w K mg base (CX1 P w) (k + 2) a.f_bounds fd_bounds ["roots", "tops", "fine"] (spD K (fnD 3 8 (b_bounds R))) := by
  have hb : ∀ (cdv : Value) (A : Around) (outer : List Env) (s : Shared) (H : Hp) (E : XK), Room (k + 1) (A.deeper (envOfC "bounds" (defScope st_bounds) s.heap.objs.size a.f_bounds cdv)) →
      PSDs (cxOf (CX1 P w) P w K mg base ["roots", "tops", "fine", "front", "behind", "last", "least", "most"] "bounds" (defScope st_bounds) a.f_bounds cdv A outer s H E) (defBody st_bounds) (b_bounds R) := fun cdv A outer s H E hr => by
    unfold b_bounds
    exact (psd_cons (psd_if (ptd_cmp (od_eq hr.units) ne_eqD (pd_callB cd_len ne_len rfl T.z_len (by decide +kernel) (pad_cons (pd_var 0) pad_nil)) pd_int (nomark _)) (psd_one (psd_ret (pd_tup (pad_cons (pd_op od_mulE ne_mulE (pd_ix (pd_var 1) pd_int) (pd_var 2)) (pad_cons (pd_op od_mulE ne_mulE (pd_ix (pd_var 1) pd_int) (pd_var 2)) pad_nil))))) psd_nil) (psd_cons (psd_set 3 (pd_call (G_bounds.mono (by omega)) hr rfl T.m_bounds T.k_bounds B_bounds (pad_cons (pd_slice (pd_var 0) pod_none (pod_some (pd_negF pd_int))) (pad_cons (pd_call (G_front_tops.mono (by omega)) hr rfl T.m_front_tops T.k_front_tops B_front_tops (pad_cons (pd_var 1) pad_nil)) (pad_cons (pd_var 2) pad_nil)))) sc_bounds.nd) (psd_cons (psd_set 4 (pd_call (G_bounds.mono (by omega)) hr rfl T.m_bounds T.k_bounds B_bounds (pad_cons (pd_slice (pd_var 0) pod_none (pod_some (pd_negF pd_int))) (pad_cons (pd_call (G_behind_tops.mono (by omega)) hr rfl T.m_behind_tops T.k_behind_tops B_behind_tops (pad_cons (pd_var 1) pad_nil)) (pad_cons (pd_var 2) pad_nil)))) sc_bounds.nd) (psd_cons (psd_set 5 (pd_call (G_root_bounds.mono (by omega)) hr rfl T.m_root_bounds T.k_root_bounds B_root_bounds (pad_cons (pd_var 0) (pad_cons (pd_var 2) pad_nil))) sc_bounds.nd) (psd_cons (psd_set 6 (pd_op od_mulE ne_mulE (pd_ix (pd_var 4) pd_int) (pd_ifExp (ptd_cmp od_ge (ne_cmp _) (pd_ix (pd_var 4) pd_int) pd_int (nomark _)) (pd_ix (pd_var 5) pd_int) (pd_ix (pd_var 5) pd_int))) sc_bounds.nd) (psd_cons (psd_set 7 (pd_op od_mulE ne_mulE (pd_ix (pd_var 4) pd_int) (pd_ifExp (ptd_cmp od_ge (ne_cmp _) (pd_ix (pd_var 4) pd_int) pd_int (nomark _)) (pd_ix (pd_var 5) pd_int) (pd_ix (pd_var 5) pd_int))) sc_bounds.nd) (psd_one (psd_ret (pd_tup (pad_cons (pd_op od_add ne_add (pd_ix (pd_var 3) pd_int) (pd_op od_fdiv ne_fdiv (pd_var 6) (pd_var 2))) (pad_cons (pd_op od_add ne_add (pd_op od_add ne_add (pd_ix (pd_var 3) pd_int) (pd_op od_fdiv ne_fdiv (pd_var 7) (pd_var 2))) pd_int) pad_nil)))))))))))
  exact fun_d (N := ["roots", "tops", "fine", "front", "behind", "last", "least", "most"]) (ps := ["roots", "tops", "fine"]) (k := (k + 1)) (body := (b_bounds R)) F sc_bounds hb
theorem all_bounds (T : Txt K mg a) {fd_bounds : FuncData} (F : Fun K "bounds" "bounds" st_bounds a.f_bounds fd_bounds) {fd_front_tops : FuncData} (G_front_tops : FnOk P w K mg base (CX1 P w) 1 a.f_front_tops fd_front_tops ["tops"] (spD K F_front_tops)) (B_front_tops : Binds K fd_front_tops ["tops"] []) {fd_behind_tops : FuncData} (G_behind_tops : FnOk P w K mg base (CX1 P w) 1 a.f_behind_tops fd_behind_tops ["tops"] (spD K F_behind_tops)) (B_behind_tops : Binds K fd_behind_tops ["tops"] []) (B_bounds : Binds K fd_bounds ["roots", "tops", "fine"] []) {fd_root_bounds : FuncData} (B_root_bounds : Binds K fd_root_bounds ["roots", "fine"] []) (S_root_bounds : ∀ (R : List D → Res D) (k : Nat), 1 ≤ k → FnOk P w K mg base (CX1 P w) k a.f_bounds fd_bounds ["roots", "tops", "fine"] (spD K R) → FnOk P w K mg base (CX1 P w) (k + 1) a.f_root_bounds fd_root_bounds ["roots", "fine"] (spD K (fnD 2 3 (b_root_bounds R)))) : ∀ n, FnOk P w K mg base (CX1 P w) (1 + 2 * n) a.f_bounds fd_bounds ["roots", "tops", "fine"] (spD K (Fr_bounds n))
  | 0 => ⟨fun _ _ _ _ q => by obtain ⟨_, _, z⟩ := q; exact z.elim, fun _ _ _ _ _ _ _ _ _ _ _ _ _ q => by obtain ⟨_, _, z⟩ := q; exact z.elim⟩
  | n + 1 => step_bounds T F G_front_tops B_front_tops G_behind_tops B_behind_tops B_bounds B_root_bounds (Nat.le_add_right _ _) (all_bounds T F G_front_tops B_front_tops G_behind_tops B_behind_tops B_bounds B_root_bounds S_root_bounds n) (S_root_bounds _ _ (Nat.le_add_right _ _) (all_bounds T F G_front_tops B_front_tops G_behind_tops B_behind_tops B_bounds B_root_bounds S_root_bounds n))
theorem ok_bounds (T : Txt K mg a) {fd_bounds : FuncData} (F : Fun K "bounds" "bounds" st_bounds a.f_bounds fd_bounds) {fd_front_tops : FuncData} (G_front_tops : FnOk P w K mg base (CX1 P w) 1 a.f_front_tops fd_front_tops ["tops"] (spD K F_front_tops)) (B_front_tops : Binds K fd_front_tops ["tops"] []) {fd_behind_tops : FuncData} (G_behind_tops : FnOk P w K mg base (CX1 P w) 1 a.f_behind_tops fd_behind_tops ["tops"] (spD K F_behind_tops)) (B_behind_tops : Binds K fd_behind_tops ["tops"] []) (B_bounds : Binds K fd_bounds ["roots", "tops", "fine"] []) {fd_root_bounds : FuncData} (B_root_bounds : Binds K fd_root_bounds ["roots", "fine"] []) (S_root_bounds : ∀ (R : List D → Res D) (k : Nat), 1 ≤ k → FnOk P w K mg base (CX1 P w) k a.f_bounds fd_bounds ["roots", "tops", "fine"] (spD K R) → FnOk P w K mg base (CX1 P w) (k + 1) a.f_root_bounds fd_root_bounds ["roots", "fine"] (spD K (fnD 2 3 (b_root_bounds R)))) :
    FnOk P w K mg base (CX1 P w) 9 a.f_bounds fd_bounds ["roots", "tops", "fine"] (spD K F_bounds) := all_bounds T F G_front_tops B_front_tops G_behind_tops B_behind_tops B_bounds B_root_bounds S_root_bounds 4
end
end K12
set_option Elab.async false
set_option linter.all false
set_option maxRecDepth 100000
set_option maxHeartbeats 4000000
namespace K12
open PySem PySem.Spec PyProof.Rows L2 DL Bk Mine
section
variable {P : Program} {w : World} {K : PySem.W.Frag} {mg : Str → Option Value} {base : Heap} {a : Adr}
theorem step_law_sign_of (T : Txt K mg a) {fd_law_sign_of : FuncData} (F : Fun K "_law_sign_of" "_law_sign_of" st_law_sign_of a.f_law_sign_of fd_law_sign_of) {fd_law_tops_times : FuncData} (G_law_tops_times : FnOk P w K mg base (CX1 P w) 5 a.f_law_tops_times fd_law_tops_times ["_law_roots", "_law_one", "_law_other"] (spD K F_law_tops_times)) (B_law_tops_times : Binds K fd_law_tops_times ["_law_roots", "_law_one", "_law_other"] []) {fd_law_scaled : FuncData} (G_law_scaled : FnOk P w K mg base (CX1 P w) 1 a.f_law_scaled fd_law_scaled ["_law_k", "_law_one"] (spD K F_law_scaled)) (B_law_scaled : Binds K fd_law_scaled ["_law_k", "_law_one"] []) {fd_law_added : FuncData} (G_law_added : FnOk P w K mg base (CX1 P w) 1 a.f_law_added fd_law_added ["_law_one", "_law_other"] (spD K F_law_added)) (B_law_added : Binds K fd_law_added ["_law_one", "_law_other"] []) (B_law_sign_of : Binds K fd_law_sign_of ["_law_roots", "_law_tops"] []) {R : List D → Res D} {k : Nat} (hk : 5 ≤ k) (G_law_sign_of : FnOk P w K mg base (CX1 P w) k a.f_law_sign_of fd_law_sign_of ["_law_roots", "_law_tops"] (spD K R)) :
    FnOk P w K mg base (CX1 P w) (k + 1) a.f_law_sign_of fd_law_sign_of ["_law_roots", "_law_tops"] (spD K (fnD 2 8 (b_law_sign_of R))) := by
  have hb : ∀ (cdv : Value) (A : Around) (outer : List Env) (s : Shared) (H : Hp) (E : XK), Room k (A.deeper (envOfC "_law_sign_of" (defScope st_law_sign_of) s.heap.objs.size a.f_law_sign_of cdv)) →
      PSDs (cxOf (CX1 P w) P w K mg base ["_law_roots", "_law_tops", "_law_half", "_law_below", "_law_here", "_law_there", "_law_square", "_law_other"] "_law_sign_of" (defScope st_law_sign_of) a.f_law_sign_of cdv A outer s H E) (defBody st_law_sign_of) (b_law_sign_of R) := fun cdv A outer s H E hr => by
    unfold b_law_sign_of
    exact (psd_cons (psd_if (ptd_cmp (od_eq hr.units) ne_eqD (pd_callB cd_len ne_len rfl T.z_len (by decide +kernel) (pad_cons (pd_var 1) pad_nil)) pd_int (nomark _)) (psd_one (psd_ret (pd_op od_sub ne_sub (pd_callTy cd_int ne_int rfl T.z_int (by decide +kernel) (pad_cons (pd_cmp od_gt (ne_cmp _) (pd_ix (pd_var 1) pd_int) pd_int (nomark _)) pad_nil)) (pd_callTy cd_int ne_int rfl T.z_int (by decide +kernel) (pad_cons (pd_cmp od_lt (ne_cmp _) (pd_ix (pd_var 1) pd_int) pd_int (nomark _)) pad_nil))))) psd_nil) (psd_cons (psd_set 2 (pd_op od_fdiv ne_fdiv (pd_callB cd_len ne_len rfl T.z_len (by decide +kernel) (pad_cons (pd_var 1) pad_nil)) pd_int) sc_law_sign_of.nd) (psd_cons (psd_set 3 (pd_slice (pd_var 0) pod_none (pod_some (pd_negF pd_int))) sc_law_sign_of.nd) (psd_cons (psd_set 4 (pd_call (G_law_sign_of.mono (by omega)) hr rfl T.m_law_sign_of T.k_law_sign_of B_law_sign_of (pad_cons (pd_var 3) (pad_cons (pd_slice (pd_var 1) pod_none (pod_some (pd_var 2))) pad_nil))) sc_law_sign_of.nd) (psd_cons (psd_set 5 (pd_call (G_law_sign_of.mono (by omega)) hr rfl T.m_law_sign_of T.k_law_sign_of B_law_sign_of (pad_cons (pd_var 3) (pad_cons (pd_slice (pd_var 1) (pod_some (pd_var 2)) pod_none) pad_nil))) sc_law_sign_of.nd) (psd_cons (psd_if (PWD.pt (pwd_or (ptd_cmp (od_eq hr.units) ne_eqD (pd_var 4) (pd_var 5) (nomark _)) (pwd_or1 (ptd_cmp (od_eq hr.units) ne_eqD (pd_var 5) pd_int (nomark _))))) (psd_one (psd_ret (pd_var 4))) psd_nil) (psd_cons (psd_if (ptd_cmp (od_eq hr.units) ne_eqD (pd_var 4) pd_int (nomark _)) (psd_one (psd_ret (pd_var 5))) psd_nil) (psd_cons (psd_set 6 (pd_call (G_law_tops_times.mono (by omega)) hr rfl T.m_law_tops_times T.k_law_tops_times B_law_tops_times (pad_cons (pd_var 3) (pad_cons (pd_slice (pd_var 1) (pod_some (pd_var 2)) pod_none) (pad_cons (pd_slice (pd_var 1) (pod_some (pd_var 2)) pod_none) pad_nil)))) sc_law_sign_of.nd) (psd_cons (psd_set 7 (pd_call (G_law_scaled.mono (by omega)) hr rfl T.m_law_scaled T.k_law_scaled B_law_scaled (pad_cons (pd_negF pd_int) (pad_cons (pd_call (G_law_tops_times.mono (by omega)) hr rfl T.m_law_tops_times T.k_law_tops_times B_law_tops_times (pad_cons (pd_var 3) (pad_cons (pd_ix (pd_var 0) (pd_negF pd_int)) (pad_cons (pd_var 6) pad_nil)))) pad_nil))) sc_law_sign_of.nd) (psd_one (psd_ret (pd_op od_mulE ne_mulE (pd_var 4) (pd_call (G_law_sign_of.mono (by omega)) hr rfl T.m_law_sign_of T.k_law_sign_of B_law_sign_of (pad_cons (pd_var 3) (pad_cons (pd_call (G_law_added.mono (by omega)) hr rfl T.m_law_added T.k_law_added B_law_added (pad_cons (pd_call (G_law_tops_times.mono (by omega)) hr rfl T.m_law_tops_times T.k_law_tops_times B_law_tops_times (pad_cons (pd_var 3) (pad_cons (pd_slice (pd_var 1) pod_none (pod_some (pd_var 2))) (pad_cons (pd_slice (pd_var 1) pod_none (pod_some (pd_var 2))) pad_nil)))) (pad_cons (pd_var 7) pad_nil))) pad_nil)))))))))))))))
  exact fun_d (N := ["_law_roots", "_law_tops", "_law_half", "_law_below", "_law_here", "_law_there", "_law_square", "_law_other"]) (ps := ["_law_roots", "_law_tops"]) (k := k) (body := (b_law_sign_of R)) F sc_law_sign_of hb
theorem all_law_sign_of (T : Txt K mg a) {fd_law_sign_of : FuncData} (F : Fun K "_law_sign_of" "_law_sign_of" st_law_sign_of a.f_law_sign_of fd_law_sign_of) {fd_law_tops_times : FuncData} (G_law_tops_times : FnOk P w K mg base (CX1 P w) 5 a.f_law_tops_times fd_law_tops_times ["_law_roots", "_law_one", "_law_other"] (spD K F_law_tops_times)) (B_law_tops_times : Binds K fd_law_tops_times ["_law_roots", "_law_one", "_law_other"] []) {fd_law_scaled : FuncData} (G_law_scaled : FnOk P w K mg base (CX1 P w) 1 a.f_law_scaled fd_law_scaled ["_law_k", "_law_one"] (spD K F_law_scaled)) (B_law_scaled : Binds K fd_law_scaled ["_law_k", "_law_one"] []) {fd_law_added : FuncData} (G_law_added : FnOk P w K mg base (CX1 P w) 1 a.f_law_added fd_law_added ["_law_one", "_law_other"] (spD K F_law_added)) (B_law_added : Binds K fd_law_added ["_law_one", "_law_other"] []) (B_law_sign_of : Binds K fd_law_sign_of ["_law_roots", "_law_tops"] []) : ∀ n, FnOk P w K mg base (CX1 P w) (5 + 1 * n) a.f_law_sign_of fd_law_sign_of ["_law_roots", "_law_tops"] (spD K (Fr_law_sign_of n))
  | 0 => ⟨fun _ _ _ _ q => by obtain ⟨_, _, z⟩ := q; exact z.elim, fun _ _ _ _ _ _ _ _ _ _ _ _ _ q => by obtain ⟨_, _, z⟩ := q; exact z.elim⟩
  | n + 1 => step_law_sign_of T F G_law_tops_times B_law_tops_times G_law_scaled B_law_scaled G_law_added B_law_added B_law_sign_of  (Nat.le_add_right _ _) (all_law_sign_of T F G_law_tops_times B_law_tops_times G_law_scaled B_law_scaled G_law_added B_law_added B_law_sign_of   n)
theorem ok_law_sign_of (T : Txt K mg a) {fd_law_sign_of : FuncData} (F : Fun K "_law_sign_of" "_law_sign_of" st_law_sign_of a.f_law_sign_of fd_law_sign_of) {fd_law_tops_times : FuncData} (G_law_tops_times : FnOk P w K mg base (CX1 P w) 5 a.f_law_tops_times fd_law_tops_times ["_law_roots", "_law_one", "_law_other"] (spD K F_law_tops_times)) (B_law_tops_times : Binds K fd_law_tops_times ["_law_roots", "_law_one", "_law_other"] []) {fd_law_scaled : FuncData} (G_law_scaled : FnOk P w K mg base (CX1 P w) 1 a.f_law_scaled fd_law_scaled ["_law_k", "_law_one"] (spD K F_law_scaled)) (B_law_scaled : Binds K fd_law_scaled ["_law_k", "_law_one"] []) {fd_law_added : FuncData} (G_law_added : FnOk P w K mg base (CX1 P w) 1 a.f_law_added fd_law_added ["_law_one", "_law_other"] (spD K F_law_added)) (B_law_added : Binds K fd_law_added ["_law_one", "_law_other"] []) (B_law_sign_of : Binds K fd_law_sign_of ["_law_roots", "_law_tops"] []) :
    FnOk P w K mg base (CX1 P w) 9 a.f_law_sign_of fd_law_sign_of ["_law_roots", "_law_tops"] (spD K F_law_sign_of) := all_law_sign_of T F G_law_tops_times B_law_tops_times G_law_scaled B_law_scaled G_law_added B_law_added B_law_sign_of   4
end
end K12
set_option Elab.async false
set_option linter.all false
set_option maxRecDepth 100000
set_option maxHeartbeats 4000000
namespace K12
open PySem PySem.Spec PyProof.Rows L2 DL Bk Mine
section
variable {P : Program} {w : World} {K : PySem.W.Frag} {mg : Str → Option Value} {base : Heap} {a : Adr}
theorem ok_floors_around (T : Txt K mg a) {fd_floors_around : FuncData} (F : Fun K "floors_around" "floors_around" st_floors_around a.f_floors_around fd_floors_around) {fd_bounds : FuncData} (G_bounds : FnOk P w K mg base (CX1 P w) 9 a.f_bounds fd_bounds ["roots", "tops", "fine"] (spD K F_bounds)) (B_bounds : Binds K fd_bounds ["roots", "tops", "fine"] []) :
    FnOk P w K mg base (CX1 P w) 10 a.f_floors_around fd_floors_around ["roots", "tops", "bottom", "bits"] (spD K F_floors_around) := by
  have hb : ∀ (cdv : Value) (A : Around) (outer : List Env) (s : Shared) (H : Hp) (E : XK), Room 9 (A.deeper (envOfC "floors_around" (defScope st_floors_around) s.heap.objs.size a.f_floors_around cdv)) →
      PSDs (cxOf (CX1 P w) P w K mg base ["roots", "tops", "bottom", "bits", "around", "divisor"] "floors_around" (defScope st_floors_around) a.f_floors_around cdv A outer s H E) (defBody st_floors_around) b_floors_around := fun cdv A outer s H E hr => by
    unfold b_floors_around
    exact (psd_cons (psd_set 4 (pd_call (G_bounds.mono (by decide)) hr rfl T.m_bounds T.k_bounds B_bounds (pad_cons (pd_var 0) (pad_cons (pd_var 1) (pad_cons (pd_op od_shl ne_shl pd_int (pd_var 3)) pad_nil)))) sc_floors_around.nd) (psd_cons (psd_set 5 (pd_op od_shl ne_shl (pd_var 2) (pd_var 3)) sc_floors_around.nd) (psd_one (psd_ret (pd_tup (pad_cons (pd_op od_fdiv ne_fdiv (pd_ix (pd_var 4) pd_int) (pd_var 5)) (pad_cons (pd_op od_fdiv ne_fdiv (pd_ix (pd_var 4) pd_int) (pd_var 5)) pad_nil)))))))
  exact fun_d (N := ["roots", "tops", "bottom", "bits", "around", "divisor"]) (ps := ["roots", "tops", "bottom", "bits"]) (k := 9) (body := b_floors_around) F sc_floors_around hb
end
end K12
set_option Elab.async false
set_option linter.all false
set_option maxRecDepth 100000
set_option maxHeartbeats 4000000
namespace K12
open PySem PySem.Spec PyProof.Rows L2 DL Bk Mine
section
variable {P : Program} {w : World} {K : PySem.W.Frag} {mg : Str → Option Value} {base : Heap} {a : Adr}
theorem okR_root_bounds (T : Txt K mg a) {fd_root_bounds : FuncData} (F : Fun K "root_bounds" "root_bounds" st_root_bounds a.f_root_bounds fd_root_bounds) {fd_whole_root : FuncData} (G_whole_root : FnOk P w K mg base (CX1 P w) 1 a.f_whole_root fd_whole_root ["n"] (spD K F_whole_root)) (B_whole_root : Binds K fd_whole_root ["n"] []) {fd_bounds : FuncData} (B_bounds : Binds K fd_bounds ["roots", "tops", "fine"] []) {R : List D → Res D} {k : Nat} (hk : 1 ≤ k) (G_bounds : FnOk P w K mg base (CX1 P w) k a.f_bounds fd_bounds ["roots", "tops", "fine"] (spD K R)) :
    FnOk P w K mg base (CX1 P w) (k + 1) a.f_root_bounds fd_root_bounds ["roots", "fine"] (spD K (fnD 2 3 (b_root_bounds R))) := by
  have hb : ∀ (cdv : Value) (A : Around) (outer : List Env) (s : Shared) (H : Hp) (E : XK), Room k (A.deeper (envOfC "root_bounds" (defScope st_root_bounds) s.heap.objs.size a.f_root_bounds cdv)) →
      PSDs (cxOf (CX1 P w) P w K mg base ["roots", "fine", "under"] "root_bounds" (defScope st_root_bounds) a.f_root_bounds cdv A outer s H E) (defBody st_root_bounds) (b_root_bounds R) := fun cdv A outer s H E hr => by
    unfold b_root_bounds
    exact (psd_cons (psd_set 2 (pd_call (G_bounds.mono (by omega)) hr rfl T.m_bounds T.k_bounds B_bounds (pad_cons (pd_slice (pd_var 0) pod_none (pod_some (pd_negF pd_int))) (pad_cons (pd_ix (pd_var 0) (pd_negF pd_int)) (pad_cons (pd_var 1) pad_nil)))) sc_root_bounds.nd) (psd_one (psd_ret (pd_tup (pad_cons (pd_call (G_whole_root.mono (by omega)) hr rfl T.m_whole_root T.k_whole_root B_whole_root (pad_cons (pd_op od_mulE ne_mulE (pd_callB (cd_max rfl) ne_max rfl T.z_max (by decide +kernel) (pad_cons (pd_ix (pd_var 2) pd_int) (pad_cons pd_int pad_nil))) (pd_var 1)) pad_nil)) (pad_cons (pd_op od_add ne_add (pd_call (G_whole_root.mono (by omega)) hr rfl T.m_whole_root T.k_whole_root B_whole_root (pad_cons (pd_op od_mulE ne_mulE (pd_ix (pd_var 2) pd_int) (pd_var 1)) pad_nil)) pd_int) pad_nil))))))
  exact fun_d (N := ["roots", "fine", "under"]) (ps := ["roots", "fine"]) (k := k) (body := (b_root_bounds R)) F sc_root_bounds hb
end
end K12
set_option Elab.async false
set_option linter.all false
set_option maxRecDepth 100000
set_option maxHeartbeats 4000000
namespace K12
open PySem PySem.Spec PyProof.Rows L2 DL Bk Mine
section
variable {P : Program} {w : World} {K : PySem.W.Frag} {mg : Str → Option Value} {base : Heap} {a : Adr}
theorem ok_law_side (T : Txt K mg a) {fd_law_side : FuncData} (F : Fun K "_law_side" "_law_side" st_law_side a.f_law_side fd_law_side) {fd_law_sign_of : FuncData} (G_law_sign_of : FnOk P w K mg base (CX1 P w) 9 a.f_law_sign_of fd_law_sign_of ["_law_roots", "_law_tops"] (spD K F_law_sign_of)) (B_law_sign_of : Binds K fd_law_sign_of ["_law_roots", "_law_tops"] []) :
    FnOk P w K mg base (CX1 P w) 10 a.f_law_side fd_law_side ["_law_roots", "_law_one", "_law_scale", "_law_whole_here"] (spD K F_law_side) := by
  have hb : ∀ (cdv : Value) (A : Around) (outer : List Env) (s : Shared) (H : Hp) (E : XK), Room 9 (A.deeper (envOfC "_law_side" (defScope st_law_side) s.heap.objs.size a.f_law_side cdv)) →
      PSDs (cxOf (CX1 P w) P w K mg base ["_law_roots", "_law_one", "_law_scale", "_law_whole_here", "_law_first"] "_law_side" (defScope st_law_side) a.f_law_side cdv A outer s H E) (defBody st_law_side) b_law_side := fun cdv A outer s H E hr => by
    unfold b_law_side
    exact (psd_cons (psd_set 4 (pd_op od_sub ne_sub (pd_op od_mulE ne_mulE (pd_var 2) (pd_ix (pd_ix (pd_var 1) pd_int) pd_int)) (pd_op od_mulE ne_mulE (pd_var 3) (pd_ix (pd_var 1) pd_int))) sc_law_side.nd) (psd_one (psd_ret (pd_call (G_law_sign_of.mono (by decide)) hr rfl T.m_law_sign_of T.k_law_sign_of B_law_sign_of (pad_cons (pd_var 0) (pad_cons (pd_op od_add ne_add (pd_tup (pad_cons (pd_var 4) pad_nil)) (pd_callTy cd_tuple ne_tupleG rfl T.z_tuple (by decide +kernel) (pad_cons (pd_comp (N' := ["_law_top", "_law_scale"]) (m := 1) (fr := [2]) (aroundB (defScope st_law_side) ["_law_roots", "_law_one", "_law_scale", "_law_whole_here", "_law_first"] rfl rfl rfl rfl rfl (by decide +kernel)) rfl (keeps_name (by decide)) (pid_seq (pd_slice (pd_ix (pd_var 1) pd_int) (pod_some pd_int) pod_none)) (fun _ _ _ _ => pgd_name 0 (show List.Nodup (["_law_top", "_law_scale"] : List Str) by decide +kernel)) (fun _ _ _ _ => (pd_op od_mulE ne_mulE (pd_var 1) (pd_var 0)))) pad_nil))) pad_nil))))))
  exact fun_d (N := ["_law_roots", "_law_one", "_law_scale", "_law_whole_here", "_law_first"]) (ps := ["_law_roots", "_law_one", "_law_scale", "_law_whole_here"]) (k := 9) (body := b_law_side) F sc_law_side hb
end
end K12
set_option Elab.async false
set_option linter.all false
set_option maxRecDepth 100000
set_option maxHeartbeats 4000000
namespace K12
open PySem PySem.Spec PyProof.Rows L2 DL Bk Mine
section
variable {P : Program} {w : World} {K : PySem.W.Frag} {mg : Str → Option Value} {base : Heap} {a : Adr}
theorem ok_floor_at (T : Txt K mg a) {fd_floor_at : FuncData} (F : FunV K "floor_at" "floor_at" st_floor_at a.f_floor_at fd_floor_at) {fd_ten_times_itself : FuncData} (G_ten_times_itself : FnOk P w K mg base (CX1 P w) 1 a.f_ten_times_itself fd_ten_times_itself ["many"] (spD K F_ten_times_itself)) (B_ten_times_itself : Binds K fd_ten_times_itself ["many"] []) {fd_floors_around : FuncData} (G_floors_around : FnOk P w K mg base (CX1 P w) 10 a.f_floors_around fd_floors_around ["roots", "tops", "bottom", "bits"] (spD K F_floors_around)) (B_floors_around : Binds K fd_floors_around ["roots", "tops", "bottom", "bits"] []) :
    FnOk P w K mg base (CX1 P w) 11 a.f_floor_at fd_floor_at ["roots", "x", "places"] (spD K F_floor_at) := by
  have hb : ∀ (cdv : Value) (A : Around) (outer : List Env) (s : Shared) (H : Hp) (E : XK), Room 10 (A.deeper (envOfC "floor_at" (defScope st_floor_at) s.heap.objs.size a.f_floor_at cdv)) →
      PSDs (cxOf (CX1 P w) P w K mg base ["roots", "x", "places", "scale", "tops", "bits", "around"] "floor_at" (defScope st_floor_at) a.f_floor_at cdv A outer s H E) (defBody st_floor_at) b_floor_at := fun cdv A outer s H E hr => by
    unfold b_floor_at
    exact (psd_cons (psd_set 3 (pd_call (G_ten_times_itself.mono (by decide)) hr rfl T.m_ten_times_itself T.k_ten_times_itself B_ten_times_itself (pad_cons (pd_var 2) pad_nil)) sc_floor_at.nd) (psd_cons (psd_set 4 (pd_callTy cd_tuple ne_tupleG rfl T.z_tuple (by decide +kernel) (pad_cons (pd_comp (N' := ["top", "scale"]) (m := 1) (fr := [3]) (aroundB (defScope st_floor_at) ["roots", "x", "places", "scale", "tops", "bits", "around"] rfl rfl rfl rfl rfl (by decide +kernel)) rfl (keeps_name (by decide)) (pid_seq (pd_ix (pd_var 1) pd_int)) (fun _ _ _ _ => pgd_name 0 (show List.Nodup (["top", "scale"] : List Str) by decide +kernel)) (fun _ _ _ _ => (pd_op od_mulE ne_mulE (pd_var 0) (pd_var 1)))) pad_nil)) sc_floor_at.nd) (psd_cons (psd_set 5 (pd_gint rfl T.m_FIRST_BITS) sc_floor_at.nd) (psd_cons (psd_set 6 (pd_call (G_floors_around.mono (by decide)) hr rfl T.m_floors_around T.k_floors_around B_floors_around (pad_cons (pd_var 0) (pad_cons (pd_var 4) (pad_cons (pd_ix (pd_var 1) pd_int) (pad_cons (pd_var 5) pad_nil))))) sc_floor_at.nd) (psd_cons (psd_while fuel_floor_at_1 (ptd_cmp (od_ne hr.units) ne_neD (pd_ix (pd_var 6) pd_int) (pd_ix (pd_var 6) pd_int) (nomark _)) (psd_cons (psd_aug 5 od_imul ne_mul pd_int sc_floor_at.nd) (psd_one (psd_set 6 (pd_call (G_floors_around.mono (by decide)) hr rfl T.m_floors_around T.k_floors_around B_floors_around (pad_cons (pd_var 0) (pad_cons (pd_var 4) (pad_cons (pd_ix (pd_var 1) pd_int) (pad_cons (pd_var 5) pad_nil))))) sc_floor_at.nd)))) (psd_one (psd_ret (pd_ix (pd_var 6) pd_int))))))))
  exact fun_dV (N := ["roots", "x", "places", "scale", "tops", "bits", "around"]) (ps := ["roots", "x", "places"]) (k := 10) (body := b_floor_at) F sc_floor_at hb
end
end K12
set_option Elab.async false
set_option linter.all false
set_option maxRecDepth 100000
set_option maxHeartbeats 4000000
namespace K12
open PySem PySem.Spec PyProof.Rows L2 DL Bk Mine
section
variable {P : Program} {w : World} {K : PySem.W.Frag} {mg : Str → Option Value} {base : Heap} {a : Adr}
theorem ok_law_holds (T : Txt K mg a) {fd_law_holds : FuncData} (F : Fun K "_law_holds" "_law_holds" st_law_holds a.f_law_holds fd_law_holds) {fd_floor_at : FuncData} (G_floor_at : FnOk P w K mg base (CX1 P w) 11 a.f_floor_at fd_floor_at ["roots", "x", "places"] (spD K F_floor_at)) (B_floor_at : Binds K fd_floor_at ["roots", "x", "places"] []) {t_floor_at : Tok} (D_floor_at : Binds K fd_floor_at ["roots", "x", "places"] [.int 0 t_floor_at]) {fd_law_side : FuncData} (G_law_side : FnOk P w K mg base (CX1 P w) 10 a.f_law_side fd_law_side ["_law_roots", "_law_one", "_law_scale", "_law_whole_here"] (spD K F_law_side)) (B_law_side : Binds K fd_law_side ["_law_roots", "_law_one", "_law_scale", "_law_whole_here"] []) {fd_law_whole : FuncData} (G_law_whole : FnOk P w K mg base (CX1 P w) 1 a.f_law_whole fd_law_whole ["_law_found"] (spD K F_law_whole)) (B_law_whole : Binds K fd_law_whole ["_law_found"] []) {fd_law_scaled : FuncData} (G_law_scaled : FnOk P w K mg base (CX1 P w) 1 a.f_law_scaled fd_law_scaled ["_law_k", "_law_one"] (spD K F_law_scaled)) (B_law_scaled : Binds K fd_law_scaled ["_law_k", "_law_one"] []) :
    FnOk P w K mg base (CX1 P w) 12 a.f_law_holds fd_law_holds ["_law_roots", "_law_one", "_law_places"] (spD K F_law_holds) := by
  have hb : ∀ (cdv : Value) (A : Around) (outer : List Env) (s : Shared) (H : Hp) (E : XK), Room 11 (A.deeper (envOfC "_law_holds" (defScope st_law_holds) s.heap.objs.size a.f_law_holds cdv)) →
      PSDs (cxOf (CX1 P w) P w K mg base ["_law_roots", "_law_one", "_law_places", "_law_scale", "_law_k", "_law_got", "_law_here", "_law_least"] "_law_holds" (defScope st_law_holds) a.f_law_holds cdv A outer s H E) (defBody st_law_holds) b_law_holds := fun cdv A outer s H E hr => by
    unfold b_law_holds
    exact (psd_cons (psd_set 3 pd_int sc_law_holds.nd) (psd_cons (psd_for_range1 rfl rfl T.z_range (pad_cons (pd_var 2) pad_nil) (pgd_name 4 sc_law_holds.nd) (psd_one (psd_set 3 (pd_op od_mulE ne_mulE (pd_var 3) pd_int) sc_law_holds.nd))) (psd_cons (psd_set 5 (pd_call (G_floor_at.mono (by decide)) hr rfl T.m_floor_at T.k_floor_at B_floor_at (pad_cons (pd_var 0) (pad_cons (pd_var 1) (pad_cons (pd_var 2) pad_nil)))) sc_law_holds.nd) (psd_cons (psd_if (ptd_not (ptd_truth (pd_call (G_law_whole.mono (by decide)) hr rfl T.m_law_whole T.k_law_whole B_law_whole (pad_cons (pd_var 5) pad_nil)))) (psd_one (psd_ret pd_bl)) psd_nil) (psd_cons (psd_set 6 (pd_call (G_law_side.mono (by decide)) hr rfl T.m_law_side T.k_law_side B_law_side (pad_cons (pd_var 0) (pad_cons (pd_var 1) (pad_cons (pd_var 3) (pad_cons (pd_var 5) pad_nil))))) sc_law_holds.nd) (psd_cons (psd_if (PWD.pt (pwd_or (ptd_cmp od_lt (ne_cmp _) (pd_var 6) pd_int (nomark _)) (pwd_or1 (ptd_cmp od_ge (ne_cmp _) (pd_call (G_law_side.mono (by decide)) hr rfl T.m_law_side T.k_law_side B_law_side (pad_cons (pd_var 0) (pad_cons (pd_var 1) (pad_cons (pd_var 3) (pad_cons (pd_op od_add ne_add (pd_var 5) pd_int) pad_nil))))) pd_int (nomark _))))) (psd_one (psd_ret pd_bl)) psd_nil) (psd_cons (psd_if (PWD.pt (pwd_or (ptd_cmp od_lt (ne_cmp _) (pd_callB cd_len ne_len rfl T.z_len (by decide +kernel) (pad_cons (pd_var 0) pad_nil)) pd_int (nomark _)) (pwd_or1 (ptd_cmp od_lt (ne_cmp _) (pd_var 2) pd_int (nomark _))))) (psd_one (psd_if (ptd_cmp (od_ne hr.units) ne_neD (pd_call (G_floor_at.mono (by decide)) hr rfl T.m_floor_at T.k_floor_at B_floor_at (pad_cons (pd_var 0) (pad_cons (pd_tup (pad_cons (pd_call (G_law_scaled.mono (by decide)) hr rfl T.m_law_scaled T.k_law_scaled B_law_scaled (pad_cons (pd_negF pd_int) (pad_cons (pd_ix (pd_var 1) pd_int) pad_nil))) (pad_cons (pd_ix (pd_var 1) pd_int) pad_nil))) (pad_cons (pd_var 2) pad_nil)))) (pd_op od_sub ne_sub (pd_negF (pd_var 5)) (pd_callTy cd_int ne_int rfl T.z_int (by decide +kernel) (pad_cons (pd_cmp od_gt (ne_cmp _) (pd_var 6) pd_int (nomark _)) pad_nil))) (nomark _)) (psd_one (psd_ret pd_bl)) psd_nil)) psd_nil) (psd_cons (psd_set 7 (pd_var 5) sc_law_holds.nd) (psd_cons (psd_for_range1 rfl rfl T.z_range (pad_cons (pd_var 2) pad_nil) (pgd_name 4 sc_law_holds.nd) (psd_one (psd_set 7 (pd_op od_fdiv ne_fdiv (pd_var 7) pd_int) sc_law_holds.nd))) (psd_one (psd_ret (pd_and (pd_cmp (od_eq hr.units) ne_eqD (pd_callD (G_floor_at.mono (by decide)) hr rfl T.m_floor_at T.k_floor_at D_floor_at (pad_cons (pd_var 0) (pad_cons (pd_var 1) pad_nil))) (pd_var 7) (nomark _)) (pd_one (pd_cmp (od_eq hr.units) ne_eqD (pd_call (G_floor_at.mono (by decide)) hr rfl T.m_floor_at T.k_floor_at B_floor_at (pad_cons (pd_var 0) (pad_cons (pd_var 1) (pad_cons pd_int pad_nil)))) (pd_var 7) (nomark _)))))))))))))))
  exact fun_d (N := ["_law_roots", "_law_one", "_law_places", "_law_scale", "_law_k", "_law_got", "_law_here", "_law_least"]) (ps := ["_law_roots", "_law_one", "_law_places"]) (k := 11) (body := b_law_holds) F sc_law_holds hb
end
end K12
set_option Elab.async false
set_option linter.all false
set_option maxRecDepth 100000
set_option maxHeartbeats 4000000
namespace K12
open PySem PySem.Spec PyProof.Rows L2 DL Bk Mine
section
variable {P : Program} {w : World} {K : PySem.W.Frag} {mg : Str → Option Value} {base : Heap} {a : Adr}
theorem ok_law (T : Txt K mg a) {fd_law : FuncData} (F : Fun K "law" "law" st_law a.f_law fd_law) {fd_law_cell : FuncData} (G_law_cell : FnOk P w K mg base (CX1 P w) 1 a.f_law_cell fd_law_cell ["_law_script", "_law_k"] (spD K F_law_cell)) (B_law_cell : Binds K fd_law_cell ["_law_script", "_law_k"] []) {fd_law_scaffold : FuncData} (G_law_scaffold : FnOk P w K mg base (CX1 P w) 2 a.f_law_scaffold fd_law_scaffold ["_law_cell_here", "_law_many"] (spD K F_law_scaffold)) (B_law_scaffold : Binds K fd_law_scaffold ["_law_cell_here", "_law_many"] []) {fd_law_mixed : FuncData} (G_law_mixed : FnOk P w K mg base (CX1 P w) 1 a.f_law_mixed fd_law_mixed ["_law_cell_here", "_law_k", "_law_many"] (spD K F_law_mixed)) (B_law_mixed : Binds K fd_law_mixed ["_law_cell_here", "_law_k", "_law_many"] []) {fd_law_holds : FuncData} (G_law_holds : FnOk P w K mg base (CX1 P w) 12 a.f_law_holds fd_law_holds ["_law_roots", "_law_one", "_law_places"] (spD K F_law_holds)) (B_law_holds : Binds K fd_law_holds ["_law_roots", "_law_one", "_law_places"] []) {fd_law_drawn_2 : FuncData} (G_law_drawn_2 : FnOk P w K mg base (CX1 P w) 3 a.f_law_drawn_2 fd_law_drawn_2 ["_law_cell_here", "_law_many"] (spD K F_law_drawn_2)) (B_law_drawn_2 : Binds K fd_law_drawn_2 ["_law_cell_here", "_law_many"] []) :
    FnOk P w K mg base (CX1 P w) 13 a.f_law fd_law ["_law_script"] (spD K F_law) := by
  have hb : ∀ (cdv : Value) (A : Around) (outer : List Env) (s : Shared) (H : Hp) (E : XK), Room 12 (A.deeper (envOfC "law" (defScope st_law) s.heap.objs.size a.f_law cdv)) →
      PSDs (cxOf (CX1 P w) P w K mg base ["_law_script", "_law_first", "_law_roots", "_law_many", "_law_places", "_law_step", "_law_cells", "_law_cell_here", "_law_k", "_law_part"] "law" (defScope st_law) a.f_law cdv A outer s H E) (defBody st_law) b_law := fun cdv A outer s H E hr => by
    unfold b_law
    exact (psd_cons (psd_set 1 (pd_call (G_law_cell.mono (by decide)) hr rfl T.m_law_cell T.k_law_cell B_law_cell (pad_cons (pd_var 0) (pad_cons pd_int pad_nil))) sc_law.nd) (psd_cons (psd_set 2 (pd_call (G_law_scaffold.mono (by decide)) hr rfl T.m_law_scaffold T.k_law_scaffold B_law_scaffold (pad_cons (pd_call (G_law_cell.mono (by decide)) hr rfl T.m_law_cell T.k_law_cell B_law_cell (pad_cons (pd_var 0) (pad_cons pd_int pad_nil))) (pad_cons (pd_op od_mod ne_mod (pd_var 1) pd_int) pad_nil))) sc_law.nd) (psd_cons (psd_set 3 (pd_ix (pd_lst (pad_cons pd_int (pad_cons pd_int (pad_cons pd_int (pad_cons pd_int pad_nil))))) (pd_callB cd_len ne_len rfl T.z_len (by decide +kernel) (pad_cons (pd_var 2) pad_nil))) sc_law.nd) (psd_cons (psd_set 4 (pd_call (G_law_mixed.mono (by decide)) hr rfl T.m_law_mixed T.k_law_mixed B_law_mixed (pad_cons (pd_var 1) (pad_cons pd_int (pad_cons pd_int pad_nil)))) sc_law.nd) (psd_cons (psd_if (ptd_cmp (od_eq hr.units) ne_eqD (pd_call (G_law_mixed.mono (by decide)) hr rfl T.m_law_mixed T.k_law_mixed B_law_mixed (pad_cons (pd_var 1) (pad_cons pd_int (pad_cons pd_int pad_nil)))) pd_int (nomark _)) (psd_one (psd_set 4 (pd_op od_mod ne_mod (pd_var 4) pd_int) sc_law.nd)) psd_nil) (psd_cons (psd_set 5 (pd_ix (pd_lst (pad_cons pd_int (pad_cons pd_int (pad_cons pd_int (pad_cons pd_int pad_nil))))) (pd_callB cd_len ne_len rfl T.z_len (by decide +kernel) (pad_cons (pd_var 2) pad_nil))) sc_law.nd) (psd_cons (psd_for rfl (pid_seq (pd_comp (N' := ["_law_k", "_law_script", "_law_step"]) (m := 1) (fr := [0, 5]) (aroundB (defScope st_law) ["_law_script", "_law_first", "_law_roots", "_law_many", "_law_places", "_law_step", "_law_cells", "_law_cell_here", "_law_k", "_law_part"] rfl rfl rfl rfl rfl (by decide +kernel)) rfl (keeps_name (by decide)) (pid_range1 rfl T.z_range (pad_cons (pd_var 5) pad_nil)) (fun _ _ _ _ => pgd_name 0 (show List.Nodup (["_law_k", "_law_script", "_law_step"] : List Str) by decide +kernel)) (fun _ _ _ _ => (pd_step (pd_var 1) (pod_some (pd_op od_add ne_add pd_int (pd_var 0))) (pod_some pd_int) (pod_some (pd_var 2)))))) (pgd_name 6 sc_law.nd) (psd_cons (psd_set 7 pd_int sc_law.nd) (psd_cons (psd_for rfl (pid_enum rfl T.z_enumerate (pad_cons (pd_var 6) pad_nil)) (pgd_tup rfl (fun _ => (pgs_namesCons 8 sc_law.nd (pgs_namesCons 9 sc_law.nd pgs_namesNil)))) (psd_one (psd_set 7 (pd_op od_add ne_add (pd_var 7) (pd_op od_mulE ne_mulE (pd_op od_add ne_add (pd_op od_mulE ne_mulE pd_int (pd_var 8)) pd_int) (pd_op od_mod ne_mod (pd_var 9) (pd_op od_pow ne_pow pd_int pd_int)))) sc_law.nd))) (psd_one (psd_if (ptd_not (ptd_truth (pd_call (G_law_holds.mono (by decide)) hr rfl T.m_law_holds T.k_law_holds B_law_holds (pad_cons (pd_var 2) (pad_cons (pd_call (G_law_drawn_2.mono (by decide)) hr rfl T.m_law_drawn_2 T.k_law_drawn_2 B_law_drawn_2 (pad_cons (pd_var 7) (pad_cons (pd_var 3) pad_nil))) (pad_cons (pd_var 4) pad_nil)))))) (psd_one (psd_ret pd_bl)) psd_nil))))) (psd_one (psd_ret pd_bl)))))))))
  exact fun_d (N := ["_law_script", "_law_first", "_law_roots", "_law_many", "_law_places", "_law_step", "_law_cells", "_law_cell_here", "_law_k", "_law_part"]) (ps := ["_law_script"]) (k := 12) (body := b_law) F sc_law hb
end
end K12
set_option Elab.async false
set_option linter.all false
set_option maxRecDepth 100000
set_option maxHeartbeats 4000000
set_option exponentiation.threshold 300000
namespace K12
open PySem PySem.Spec PyProof.Rows L2 DL Mine Bk Lean.Grind
noncomputable def lB : Nat → Nat → Nat
  | 0, _ => 0
  | k + 1, p => lB k (2 * p + eT 10 (k + 1)) + hB 10 (k + 1) p
section
variable {F : OF}
theorem fl_can {a b c : F.C} (h : 0 < a) (g : a * b ≤ a * c) : b ≤ c := by
  rcases Classical.em (b ≤ c) with q | q
  · exact q
  · have : 0 < b - c := by grind
    have := mulP h this
    grind
theorem fl_canl {a b c : F.C} (h : 0 < a) (g : a * b < a * c) : b < c := by
  rcases Classical.em (b < c) with q | q
  · exact q
  · have q2 : b = c ∨ 0 < b - c := by grind
    rcases q2 with q2 | q2
    · rw [q2] at g; grind
    · have := mulP h q2
      grind
theorem fl_ml {a b c : F.C} (h : 0 ≤ a) (g : b ≤ c) : a * b ≤ a * c := by
  have q : a = 0 ∨ 0 < a := by grind
  rcases q with q | q
  · rw [q]; grind
  · have q2 : b = c ∨ 0 < c - b := by grind
    rcases q2 with q2 | q2
    · rw [q2]; grind
    · have := mulP q q2
      grind
theorem fl_lb {K M X Y : F.C} (hK : 0 < K) (h1 : Y ≤ M) (h2 : -M ≤ Y) (h : 1 ≤ K * (X * Y) ∨ 1 ≤ K * -(X * Y)) : 1 ≤ K * M * X ∨ 1 ≤ K * M * -X := by
  have c : 0 ≤ X ∨ 0 ≤ -X := by grind
  rcases c with c | c
  · left
    have a1 := fl_ml c h1
    have a2 := fl_ml c (show -Y ≤ M by grind)
    have b1 := fl_ml (show 0 ≤ K by grind) a1
    have b2 := fl_ml (show 0 ≤ K by grind) a2
    rcases h with h | h <;> grind
  · right
    have a1 := fl_ml c h1
    have a2 := fl_ml c (show -Y ≤ M by grind)
    have b1 := fl_ml (show 0 ≤ K by grind) a1
    have b2 := fl_ml (show 0 ≤ K by grind) a2
    rcases h with h | h <;> grind
end
section
variable {rs : List (List Int)} {F : OF} {of : List Int → F.C}
theorem lb (T : Tow rs F of) : ∀ {x : List Int} {p : Nat}, (∀ r ∈ rs, Bd 10 r) → x.length = 2 ^ rs.length → Bd p x → of x ≠ 0 → (1 : F.C) ≤ ((2 ^ lB rs.length p : Int) : F.C) * of x ∨ (1 : F.C) ≤ ((2 ^ lB rs.length p : Int) : F.C) * -(of x) := by
  induction T with
  | nil =>
    intro x p _ hx _ h0
    match x, hx, h0 with
    | [a], _, h0 =>
      have a0 : a ≠ 0 := fun z => h0 (by rw [z]; rfl)
      have e1 : ((2 ^ lB ([] : List (List Int)).length p : Int) : ratOF.C) = 1 := by show ((2 ^ 0 : Int) : Rat) = 1; rfl
      rw [e1]
      have T := Tow.nil
      rcases Int.lt_or_lt_of_ne a0 with q | q
      · right
        have := int_le T (show (1 : Int) ≤ -a by omega)
        rw [Ring.intCast_neg, Ring.intCast_one] at this
        show (1 : ratOF.C) ≤ 1 * -((a : Int) : ratOF.C)
        grind
      · left
        have := int_le T (show (1 : Int) ≤ a by omega)
        rw [Ring.intCast_one] at this
        show (1 : ratOF.C) ≤ 1 * ((a : Int) : ratOF.C)
        grind
  | @cons rs F of T r hl hr hn ih =>
    intro x p hrs hx bx h0
    have T' := Tow.cons T r hl hr hn
    have hr1 := hrs r (by simp)
    have hrs' : ∀ s ∈ rs, Bd 10 s := fun s hs => hrs s (List.mem_cons_of_mem _ hs)
    have hx' : x.length = 2 ^ (rs.length + 1) := hx
    have n0 : of (ntL r rs x) ≠ 0 := by
      rw [of_ntL T hl hx']
      exact nrm_ne (exOf of r hr hn x) h0
    have q := ih hrs' (ntL_len T.sc hl hx') (ntL_bd hr1 hrs' bx) n0
    obtain ⟨y, ey, ly, by'⟩ : ∃ y, exOf of r hr hn y = cj (exOf of r hr hn x) ∧ y.length = 2 ^ (rs.length + 1) ∧ Bd p y := by
      refine ⟨frH x ++ (bhH x).map fun t => -t, ?_, ?_, ?_⟩
      · have ll : (frH x).length = ((bhH x).map fun t => -t).length := by rw [List.length_map, frH_len hx', bhH_len hx']
        refine Ext.eqs (r := of r) ?_ ?_
        · show of (frH _) = of (frH x)
          rw [frH_app ll]
        · show of (bhH _) = -of (bhH x)
          rw [bhH_app ll, of_neg T (bhH_len hx')]
      · rw [List.length_append, List.length_map, frH_len hx', bhH_len hx', Nat.pow_succ]; omega
      · intro t ht
        rcases List.mem_append.mp ht with z | z
        · exact bx t (by rw [← fr_bh x]; exact List.mem_append_left _ z)
        · obtain ⟨s, hs, rfl⟩ := List.mem_map.mp z
          have := bx s (by rw [← fr_bh x]; exact List.mem_append_right _ hs)
          rw [Int.natAbs_neg]; exact this
    have u := ub T' (ρ := 10) hrs ly by'
    rw [ey] at u
    have cn := cj_nrm (exOf of r hr hn x)
    have en : of (ntL r rs x) = Ext.nrm (r := of r) (exOf of r hr hn x) := of_ntL T hl hx'
    rw [en] at q
    have kp := cast_pos T' (k := 2 ^ lB rs.length (2 * p + eT 10 (rs.length + 1))) (Int.pow_pos (by decide))
    have q' : (1 : (extOF F (of r) hr hn).C) ≤ ((2 ^ lB rs.length (2 * p + eT 10 (rs.length + 1)) : Int) : (extOF F (of r) hr hn).C) * (exOf of r hr hn x * cj (exOf of r hr hn x)) ∨ (1 : (extOF F (of r) hr hn).C) ≤ ((2 ^ lB rs.length (2 * p + eT 10 (rs.length + 1)) : Int) : (extOF F (of r) hr hn).C) * -(exOf of r hr hn x * cj (exOf of r hr hn x)) := by
      rw [cn]
      rcases q with q | q
      · left
        have := em_le (hr := hr) (hn := hn) q
        rw [em_mul, em_int, em_one] at this
        exact this
      · right
        have := em_le (hr := hr) (hn := hn) q
        rw [em_mul, em_int, em_one, em_neg] at this
        exact this
    have z := fl_lb kp u.1 u.2 q'
    have e2 : ((2 ^ lB (r :: rs).length p : Int) : (extOF F (of r) hr hn).C) = ((2 ^ lB rs.length (2 * p + eT 10 (rs.length + 1)) : Int) : (extOF F (of r) hr hn).C) * ((2 ^ hB 10 (r :: rs).length p : Int) : (extOF F (of r) hr hn).C) := by
      rw [← cst_mul T', ← Int.pow_add]; rfl
    rw [e2]
    exact z
end
theorem rw1 {A B u0 u1 t P Q : Int} (t0 : 0 < t) (hA : 0 ≤ A) (hB : 1 ≤ B) (h1 : A * A ≤ u1 * t) (h2 : u0 * t ≤ B * B) (h3 : u1 - u0 ≤ P) (P0 : 0 ≤ P) (Q1 : 1 ≤ Q) (hQ : t ≤ Q * u1) (h4 : u1 * t < (A + 1) * (A + 1)) : A - B ≤ P * Q := by
  rcases Int.lt_or_le (P * Q) (A - B) with c | c
  · exfalso
    have pq : 0 ≤ P * Q := Int.mul_nonneg P0 (by omega)
    have D0 : 0 < A - B := by omega
    have e1 : (A - B) * (A + B) = A * A - B * B := by grind
    have e2 : (u1 - u0) * t ≤ P * t := Int.mul_le_mul_of_nonneg_right h3 (by omega)
    have e3 : (u1 - u0) * t = u1 * t - u0 * t := by grind
    have e4 : (A - B) * (A + B) ≤ P * t := by omega
    have qa : t < Q * (A + 1) := by
      rcases Int.lt_or_le t (Q * (A + 1)) with z | z
      · exact z
      · exfalso
        have a0 : 0 ≤ Q * (A + 1) := Int.mul_nonneg (by omega) (by omega)
        have s1 : Q * (A + 1) * (Q * (A + 1)) ≤ t * t := Int.mul_le_mul z z a0 (by omega)
        have s2 : Q * ((A + 1) * (A + 1)) ≤ Q * Q * ((A + 1) * (A + 1)) := Int.mul_le_mul_of_nonneg_right (by have := Int.mul_le_mul_of_nonneg_left Q1 (show 0 ≤ Q by omega); omega) (Int.mul_nonneg (by omega) (by omega))
        have s3 : Q * Q * ((A + 1) * (A + 1)) = Q * (A + 1) * (Q * (A + 1)) := by grind
        have s4 : Q * (u1 * t) < Q * ((A + 1) * (A + 1)) := Int.mul_lt_mul_of_pos_left h4 (by omega)
        have s5 : t * t ≤ Q * u1 * t := Int.mul_le_mul_of_nonneg_right hQ (by omega)
        have s6 : Q * u1 * t = Q * (u1 * t) := by grind
        omega
    have m1 : (A - B) * t < (A - B) * (Q * (A + 1)) := Int.mul_lt_mul_of_pos_left qa D0
    have m2 : Q * ((A - B) * (A + 1)) ≤ Q * ((A - B) * (A + B)) := Int.mul_le_mul_of_nonneg_left (Int.mul_le_mul_of_nonneg_left (by omega) (by omega)) (by omega)
    have m3 : Q * ((A - B) * (A + B)) ≤ Q * (P * t) := Int.mul_le_mul_of_nonneg_left e4 (by omega)
    have m4 : (A - B) * (Q * (A + 1)) = Q * ((A - B) * (A + 1)) := by grind
    have m5 : Q * (P * t) = P * Q * t := by grind
    have m6 : P * Q * t ≤ (A - B) * t := Int.mul_le_mul_of_nonneg_right (Int.le_of_lt c) (by omega)
    omega
  · exact c
theorem ml1 {g0 g1 s0 s1 G : Int} (h : g0 ≤ g1) (h0 : 0 ≤ s0) (h1 : s0 ≤ s1) (G0 : 0 ≤ G) (G1 : g0 ≤ G) (G2 : -g1 ≤ G) :
    g1 * (if 0 ≤ g1 then s1 else s0) - g0 * (if 0 ≤ g0 then s0 else s1) ≤ (g1 - g0) * s1 + G * (s1 - s0) := by
  have d : 0 ≤ s1 - s0 := by omega
  by_cases c0 : 0 ≤ g0
  · rw [if_pos c0, if_pos (show 0 ≤ g1 by omega)]
    have := Int.mul_le_mul_of_nonneg_right G1 d
    have e : g1 * s1 - g0 * s0 = (g1 - g0) * s1 + g0 * (s1 - s0) := by grind
    omega
  · rw [if_neg c0]
    by_cases c1 : 0 ≤ g1
    · rw [if_pos c1]
      have : 0 ≤ G * (s1 - s0) := Int.mul_nonneg G0 d
      have e : g1 * s1 - g0 * s1 = (g1 - g0) * s1 := by grind
      omega
    · rw [if_neg c1]
      have := Int.mul_le_mul_of_nonneg_right G2 d
      have e : g1 * s0 - g0 * s1 = (g1 - g0) * s1 + (-g1) * (s1 - s0) := by grind
      omega
theorem fdiv_lh {a d : Int} (hd : 0 < d) : d * Int.fdiv a d ≤ a ∧ a < d * (Int.fdiv a d + 1) := by
  have h := Int.mul_fdiv_add_fmod a d
  have h1 := Int.fmod_nonneg_of_pos a hd
  have h2 := Int.fmod_lt_of_pos a hd
  have : d * (Int.fdiv a d + 1) = d * Int.fdiv a d + d := by grind
  omega
theorem fd1 {m l t K : Int} (t0 : 0 < t) (h : m - l ≤ t * K) : Int.fdiv m t - Int.fdiv l t ≤ K + 1 := by
  have a := (fdiv_lh (a := m) t0).1
  have b := (fdiv_lh (a := l) t0).2
  rcases Int.lt_or_le (K + 1) (Int.fdiv m t - Int.fdiv l t) with c | c
  · exfalso
    have := Int.mul_le_mul_of_nonneg_left (show K + 1 ≤ Int.fdiv m t - Int.fdiv l t by omega) (show 0 ≤ t by omega)
    have e1 : t * (Int.fdiv m t - Int.fdiv l t) = t * Int.fdiv m t - t * Int.fdiv l t := by grind
    have e2 : t * (Int.fdiv l t + 1) = t * Int.fdiv l t + t := by grind
    have e3 : t * (K + 1) = t * K + t := by grind
    omega
  · exact c
theorem wd1 {f0 f1 g0 g1 s0 s1 t X Y Z : Int} (t0 : 0 < t) (X1 : 1 ≤ X) (Y1 : 1 ≤ Y) (Z1 : 1 ≤ Z) (hf : f1 - f0 ≤ X) (hg : g1 - g0 ≤ X) (hg0 : g0 ≤ g1) (h0 : 0 ≤ s0) (h1 : s0 ≤ s1) (hS : s1 ≤ t * (4096 * Y)) (hV : s1 - s0 ≤ 1024 * Y * Z + 2)
    (G1 : g0 ≤ t * (2 * X)) (G2 : -g1 ≤ t * (2 * X)) :
    (f1 + Int.fdiv (g1 * (if 0 ≤ g1 then s1 else s0)) t + 1) - (f0 + Int.fdiv (g0 * (if 0 ≤ g0 then s0 else s1)) t) ≤ 16384 * (X * Y * Z) := by
  have m := ml1 hg0 h0 h1 (Int.mul_nonneg (by omega) (by omega)) G1 G2
  have s10 : 0 ≤ s1 := by omega
  have a1 : (g1 - g0) * s1 ≤ X * (t * (4096 * Y)) := by
    have i1 := Int.mul_le_mul_of_nonneg_right hg s10
    have i2 := Int.mul_le_mul_of_nonneg_left hS (show 0 ≤ X by omega)
    omega
  have a2 : t * (2 * X) * (s1 - s0) ≤ t * (2 * X) * (1024 * Y * Z + 2) := Int.mul_le_mul_of_nonneg_left hV (Int.mul_nonneg (by omega) (by omega))
  have e : X * (t * (4096 * Y)) + t * (2 * X) * (1024 * Y * Z + 2) = t * (4096 * (X * Y) + 2048 * (X * Y * Z) + 4 * X) := by grind
  have k := fd1 t0 (K := 4096 * (X * Y) + 2048 * (X * Y * Z) + 4 * X) (m := g1 * (if 0 ≤ g1 then s1 else s0)) (l := g0 * (if 0 ≤ g0 then s0 else s1)) (by omega)
  have xy : X ≤ X * Y := by have := Int.mul_le_mul_of_nonneg_left Y1 (show 0 ≤ X by omega); omega
  have xyz : X * Y ≤ X * Y * Z := by have := Int.mul_le_mul_of_nonneg_left Z1 (show 0 ≤ X * Y by omega); omega
  omega
abbrev rc : DS → Res Bool := (bindT (two (two (slotD 1) (slotD 1) mulE) (slotD 0) (cmpD fun i j => decide (j < i))) boolD)
abbrev rb : DS → Out := (setD 1 (two (two (slotD 1) (two (slotD 0) (slotD 1) fdivD) addD) (fun _ => .ok (.int 2)) fdivD))
theorem up2 {x n m : Nat} (h : x < 2 ^ n) (e : n ≤ m) : x < 2 ^ m := Nat.lt_of_lt_of_le h (pw_le e)
theorem rc_at (n g : Int) (hg : g.natAbs < 2 ^ 7900) : rc [some (.arg (.int n)), some (.val (.int g))] = .ok (decide (n < g * g)) := by
  have := mulB (up2 hg (show 7900 ≤ 200000 by decide)) (up2 hg (show 7900 ≤ 200000 by decide))
  push_cast [this]
theorem rb_at (n g : Int) (hg : g.natAbs < 2 ^ 7900) (h : g ≠ 0) : rb [some (.arg (.int n)), some (.val (.int g))] = .nxt [some (.arg (.int n)), some (.val (.int (Int.fdiv (g + Int.fdiv n g) 2)))] := by
  have d1 := fdivI (a := n) h (up2 hg (show 7900 ≤ 8000 by decide))
  have d2 := fdivI (a := g + Int.fdiv n g) (show (2 : Int) ≠ 0 by decide) (up2 (show Int.natAbs 2 < 2 ^ 2 by decide) (show 2 ≤ 8000 by decide))
  push_cast [d1, d2]
theorem loop_root {n : Int} (hn : 0 ≤ n) : ∀ (m : Nat) (g : Int), 0 ≤ g → wroot n ≤ g → g.natAbs < 2 ^ 7900 → g.toNat < m →
    whileD rc rb m [some (.arg (.int n)), some (.val (.int g))] = .nxt [some (.arg (.int n)), some (.val (.int (wroot n)))]
  | 0, _, _, _, _, h => absurd h (Nat.not_lt_zero _)
  | m + 1, g, g0, hg, hl, h => by
    have t := rc_at n g hl
    by_cases c : n < g * g
    · obtain ⟨a1, a2, a3, a4⟩ := newton hn hg c g0
      rw [_root_.decide_eq_true c] at t
      refine Eq.trans (while_step t (rb_at n g hl (by omega))) ?_
      exact loop_root hn m _ a2 a1 (by omega) (by omega)
    · rw [_root_.decide_eq_false c] at t
      rw [while_stop t, newton_end hn hg c g0]
theorem w_root {n : Int} (hn : 0 ≤ n) (hl : intBits' n ≤ 15000) : F_whole_root [.int n] = .ok (.int (wroot n)) := by
  show outD (b_whole_root [some (.arg (.int n)), none]) = _
  unfold b_whole_root
  have hb : n.natAbs < 2 ^ intBits' n := natAbs_lt_pow_bits n
  have hnn : ¬ n < 0 := by omega
  have e2 : Int.fdiv ((intBits' n : Nat) + 1 : Int) 2 = (((intBits' n + 1) / 2 : Nat) : Int) := by rw [div2]; omega
  have d2 := fdivI (a := (intBits' n : Nat) + 1) (show (2 : Int) ≠ 0 by decide) (up2 (show Int.natAbs 2 < 2 ^ 2 by decide) (show 2 ≤ 8000 by decide))
  rw [e2] at d2
  have sh : shlD (.int 1) (.int (((intBits' n + 1) / 2 : Nat) : Int)) = .ok (.int (2 ^ ((intBits' n + 1) / 2))) := by
    simp only [shlD]
    rw [if_pos ⟨by omega, by omega, by decide⟩, Int.toNat_natCast, Int.one_mul]
  have p0 : (0 : Int) < 2 ^ ((intBits' n + 1) / 2) := Int.pow_pos (by decide)
  have pc : (((2 ^ ((intBits' n + 1) / 2) : Nat)) : Int) = 2 ^ ((intBits' n + 1) / 2) := by simp
  have big : wroot n ≤ 2 ^ ((intBits' n + 1) / 2) := by
    have r := (wroot_spec hn).1
    refine le_of_sq (Int.le_of_lt p0) ?_
    have a1 : (2 ^ intBits' n : Nat) ≤ 2 ^ ((intBits' n + 1) / 2) * 2 ^ ((intBits' n + 1) / 2) := by
      rw [← Nat.pow_add]; exact Nat.pow_le_pow_right (by decide) (by omega)
    have a2 : (((2 ^ ((intBits' n + 1) / 2) * 2 ^ ((intBits' n + 1) / 2) : Nat)) : Int) = 2 ^ ((intBits' n + 1) / 2) * 2 ^ ((intBits' n + 1) / 2) := by simp
    have a3 : ((2 : Int) ^ ((intBits' n + 1) / 2) + 1) * (2 ^ ((intBits' n + 1) / 2) + 1) = 2 ^ ((intBits' n + 1) / 2) * 2 ^ ((intBits' n + 1) / 2) + 2 * 2 ^ ((intBits' n + 1) / 2) + 1 := by
      rw [Int.add_mul, Int.mul_add]; omega
    rw [a3]
    omega
  have lt : ((2 : Int) ^ ((intBits' n + 1) / 2)).natAbs < 2 ^ 7900 := by
    rw [← pc, Int.natAbs_natCast]
    exact Nat.pow_lt_pow_right (by decide) (by omega)
  generalize (2 : Int) ^ ((intBits' n + 1) / 2) = g at *
  obtain ⟨fl, fu, fg⟩ : ∃ k, fuel_whole_root_1 [some (.arg (.int n)), some (.val (.int g))] = k ∧ g.toNat < k := ⟨g.natAbs + 1, rfl, by omega⟩
  have lp := loop_root hn fl g (Int.le_of_lt p0) big lt fg
  have wh : ∀ f : DS → Out, (whileF fuel_whole_root_1 rc rb [some (.arg (.int n)), some (.val (.int g))]).seq f = f [some (.arg (.int n)), some (.val (.int (wroot n)))] := fun f => by
    rw [ap_while, fu, lp, sq_nxt]
  have bg : bitsG (.int n) [] = .ok (.int (intBits' n)) := rfl
  push_cast [hnn, bg, d2, sh, wh]
theorem bd_base (n : Nat) {x t : Int} (hx : x.natAbs < 2 ^ 2000) (ht : t.natAbs < 2 ^ 5000) : Fr_bounds (n + 1) [RT [], TI [x], .int t] = .ok (.tup [.int (x * t), .int (x * t)]) := by
  have mu := mulB (a := x) (b := t) (up2 hx (by decide)) (up2 ht (by decide))
  have ix0 : ixD (TI [x]) (.int 0) = .ok (.int x) := ix_tup0 _ _
  show outD (b_bounds (Fr_bounds n) [some (.arg (RT [])), some (.arg (TI [x])), some (.arg (.int t)), none, none, none, none, none]) = _
  unfold b_bounds
  push_cast [List.reverse_nil, List.map_nil, ix0, mu]
section
variable {F : OF}
theorem fl_sq {a b : F.C} (hb : 0 ≤ b) (h : a * a ≤ b * b) : a ≤ b := by
  rcases Classical.em (a ≤ b) with q | q
  · exact q
  · have h1 : 0 < a - b := by grind
    have h2 : 0 < a + b := by grind
    have := mulP h1 h2
    grind
theorem fl_lo {f0 d t a c q l : F.C} (t0 : 0 < t) (h1 : f0 ≤ t * a) (h2 : t * d ≤ l) (h3 : l ≤ t * c * (t * q)) : f0 + d ≤ t * (a + c * q) := by
  have h4 : t * d ≤ t * (t * (c * q)) := by grind
  have := fl_can t0 h4
  grind
theorem fl_hi {f1 d t a c q m : F.C} (t0 : 0 < t) (h1 : t * a ≤ f1) (h2 : m ≤ t * (d + 1)) (h3 : t * c * (t * q) ≤ m) : t * (a + c * q) ≤ f1 + d + 1 := by
  have h4 : t * (t * (c * q)) ≤ t * (d + 1) := by grind
  have := fl_can t0 h4
  grind
theorem fl_lst {g s τ y : F.C} (h : (0 ≤ g ∧ s ≤ τ) ∨ (g ≤ 0 ∧ τ ≤ s)) (hy : g ≤ y) (hτ : 0 ≤ τ) : g * s ≤ y * τ := by
  have a := fl_ml hτ hy
  rcases h with ⟨h1, h2⟩ | ⟨h1, h2⟩
  · have := fl_ml h1 h2; grind
  · have := fl_ml (show 0 ≤ -g by grind) h2; grind
theorem fl_mst {g s τ y : F.C} (h : (0 ≤ g ∧ τ ≤ s) ∨ (g ≤ 0 ∧ s ≤ τ)) (hy : y ≤ g) (hτ : 0 ≤ τ) : y * τ ≤ g * s := by
  have a := fl_ml hτ hy
  rcases h with ⟨h1, h2⟩ | ⟨h1, h2⟩
  · have := fl_ml h1 h2; grind
  · have := fl_ml (show 0 ≤ -g by grind) h2; grind
theorem fl_r1 {s u t ρ τ q : F.C} (t0 : 0 < t) (q0 : 0 < q) (e : q * q = ρ) (h1 : s * s ≤ u * t) (h2 : u ≤ t * ρ) : s ≤ t * q := by
  refine fl_sq (by have := mulP t0 q0; grind) ?_
  have := fl_ml (show 0 ≤ t by grind) h2
  have e2 : t * q * (t * q) = t * (t * (q * q)) := by grind
  rw [e2, e]
  grind
theorem fl_r2 {s u t ρ q : F.C} (t0 : 0 < t) (s0 : 0 ≤ s) (e : q * q = ρ) (h1 : u * t ≤ s * s) (h2 : t * ρ ≤ u) : t * q ≤ s := by
  refine fl_sq s0 ?_
  have := fl_ml (show 0 ≤ t by grind) h2
  have e2 : t * q * (t * q) = t * (t * (q * q)) := by grind
  rw [e2, e]
  grind
theorem fl_nn {z ρ : F.C} (hz : 0 < z) (hp : 0 < ρ) (h : 1 ≤ z * -ρ) : False := by
  have := mulP hz hp
  have : (0 : F.C) < 1 := OrderedRing.zero_lt_one
  grind
theorem fl_tz {t z ρ u : F.C} (t0 : 0 < t) (z0 : 0 < z) (h : 1 ≤ z * ρ) (h2 : t * ρ ≤ u) : t ≤ z * u := by
  have a := fl_ml (show 0 ≤ t by grind) h
  have b := fl_ml (show 0 ≤ z by grind) h2
  grind
theorem fl_ub {t c g m : F.C} (t0 : 0 < t) (h : g ≤ t * c) (hc : c ≤ m) : g ≤ t * m := by
  have := fl_ml (show 0 ≤ t by grind) hc
  grind
theorem fl_lw {t c g m : F.C} (t0 : 0 < t) (h : t * c ≤ g) (hc : -m ≤ c) : -g ≤ t * m := by
  have := fl_ml (show 0 ≤ t by grind) hc
  grind
end
noncomputable def Cw : Nat → Nat
  | 0 => 0
  | k + 1 => 2 * Cw k + 14 + lB k 10
theorem hB_p (k p : Nat) (h : k ≤ 3) : hB 10 k p ≤ p + Cw k := by
  have : k = 0 ∨ k = 1 ∨ k = 2 ∨ k = 3 := by omega
  rcases this with z | z | z | z <;> subst z <;> simp only [hB, Cw, lB] <;> omega
theorem pw_int {n m : Nat} (h : n ≤ m) : (2 : Int) ^ n ≤ 2 ^ m := by
  have := Nat.pow_le_pow_right (show 2 > 0 by decide) h
  have e1 : (((2 ^ n : Nat)) : Int) = 2 ^ n := by simp
  have e2 : (((2 ^ m : Nat)) : Int) = 2 ^ m := by simp
  omega
theorem p2_pos (n : Nat) : (1 : Int) ≤ 2 ^ n := by
  have : 0 < (2 : Int) ^ n := Int.pow_pos (by decide)
  omega
theorem p2_abs (n : Nat) : ((2 : Int) ^ n).natAbs = 2 ^ n := by
  have e1 : (((2 ^ n : Nat)) : Int) = 2 ^ n := by simp
  rw [← e1, Int.natAbs_natCast]
section
variable {rs : List (List Int)} {F : OF} {of : List Int → F.C}
theorem w_rootb (T : Tow rs F of) (k2 : rs.length ≤ 2) (hrs : ∀ s ∈ rs, Bd 10 s) {r : List Int} (hl : r.length = 2 ^ rs.length) (br : Bd 10 r) {hp : 0 < of r} {hn : ∀ z : F.C, z * z ≠ of r} {n : Nat} {t u0 u1 : Int} (t0 : 0 < t) (tb : t.natAbs < 2 ^ 4097)
    (e : Fr_bounds n [RT rs, TI r, .int t] = .ok (.tup [.int u0, .int u1])) (h0 : (u0 : F.C) ≤ (t : F.C) * of r) (h1 : (t : F.C) * of r ≤ (u1 : F.C)) (hw : u1 - u0 ≤ 2 ^ (10 + Cw rs.length)) :
    ∃ s0 s1 : Int, fnD 2 3 (b_root_bounds (Fr_bounds n)) [RT (r :: rs), .int t] = .ok (.tup [.int s0, .int s1]) ∧ 0 ≤ s0 ∧ s0 ≤ s1 ∧ (s0 : (extOF F (of r) hp hn).C) ≤ (t : (extOF F (of r) hp hn).C) * rtE hp hn ∧ (t : (extOF F (of r) hp hn).C) * rtE hp hn ≤ (s1 : (extOF F (of r) hp hn).C) ∧
      s1 ≤ t * (4096 * 2 ^ Cw rs.length) ∧ s1 - s0 ≤ 1024 * 2 ^ Cw rs.length * 2 ^ lB rs.length 10 + 2 := by
  have T' := Tow.cons T r hl hp hn
  have tp := cast_pos T t0
  have tp' := cast_pos T' t0
  have trp := mulP tp hp
  have u1p : 0 < u1 := lt_int T (by rw [Ring.intCast_zero]; exact Std.lt_of_lt_of_le trp h1)
  have Y1 := p2_pos (Cw rs.length)
  have Z1 := p2_pos (lB rs.length 10)
  have w1 : (2 : Int) ^ (10 + Cw rs.length) = 1024 * 2 ^ Cw rs.length := by rw [Int.pow_add]; rfl
  rw [w1] at hw
  have hub := (ub T (ρ := 10) hrs hl br).1
  have hb : (2 : Int) ^ hB 10 rs.length 10 ≤ 1024 * 2 ^ Cw rs.length := by rw [← w1]; exact pw_int (hB_p _ _ (by omega))
  have u0b : u0 ≤ t * (1024 * 2 ^ Cw rs.length) := by
    have a := fl_ub tp h0 hub
    rw [← cst_mul T] at a
    have a := le_int T a
    have b := Int.mul_le_mul_of_nonneg_left hb (show 0 ≤ t by omega)
    omega
  have hz : t ≤ 2 ^ lB rs.length 10 * u1 := by
    have zp := cast_pos T (k := 2 ^ lB rs.length 10) (by omega)
    rcases lb T hrs hl br (by grind) with q | q
    · have a := fl_tz tp zp q h1
      rw [← cst_mul T] at a
      exact le_int T a
    · exact (fl_nn zp hp q).elim
  have er : ((2 : Int) ^ Cw rs.length).natAbs < 2 ^ 64 := by
    rw [p2_abs]
    refine Nat.pow_lt_pow_right (by decide) ?_
    have : rs.length = 0 ∨ rs.length = 1 ∨ rs.length = 2 := by omega
    rcases this with z | z | z <;> rw [z] <;> decide
  generalize (2 : Int) ^ Cw rs.length = Y at *
  generalize (2 : Int) ^ lB rs.length 10 = Z at *
  have tY : Y ≤ t * Y := by have := Int.mul_le_mul_of_nonneg_right (show 1 ≤ t by omega) (show 0 ≤ Y by omega); omega
  have u1b : u1 ≤ t * (2048 * Y) := by
    have e1 : t * (1024 * Y) = 1024 * (t * Y) := by grind
    have e2 : t * (2048 * Y) = 2048 * (t * Y) := by grind
    omega
  obtain ⟨m, hm⟩ : ∃ m, m = if 0 > u0 then 0 else u0 := ⟨_, rfl⟩
  have m0 : 0 ≤ m := by rw [hm]; split <;> omega
  have mu0 : u0 ≤ m := by rw [hm]; split <;> omega
  have mu1 : m ≤ u1 := by
    have : u0 ≤ u1 := le_int T (Std.le_trans h0 h1)
    rw [hm]; split <;> omega
  have mt0 : 0 ≤ m * t := Int.mul_nonneg m0 (by omega)
  have ut0 : 0 ≤ u1 * t := Int.mul_nonneg (by omega) (by omega)
  obtain ⟨a1, a2⟩ := wroot_spec mt0
  obtain ⟨b1, b2⟩ := wroot_spec ut0
  have a0 := wroot_nonneg (m * t)
  have b0 := wroot_nonneg (u1 * t)
  have mtut : m * t ≤ u1 * t := Int.mul_le_mul_of_nonneg_right mu1 (by omega)
  have tYb : (t * (2048 * Y)).natAbs < 2 ^ (4097 + 76) := mul_bd tb (show (2048 * Y).natAbs < 2 ^ 76 by omega)
  have u1B : u1.natAbs < 2 ^ (4097 + 76) := by omega
  have utB := mul_bd u1B tb
  have mtB : (m * t).natAbs < 2 ^ (4097 + 76 + 4097) := by omega
  have r0 := w_root mt0 (Nat.le_trans (intBits_le mtB) (by decide))
  have r1 := w_root ut0 (Nat.le_trans (intBits_le utB) (by decide))
  have mm := mulB (a := m) (b := t) (up2 (show m.natAbs < 2 ^ (4097 + 76) by omega) (by decide)) (up2 tb (by decide))
  have mu := mulB (a := u1) (b := t) (up2 u1B (by decide)) (up2 tb (by decide))
  have mx : maxG [.int u0, .int 0] = .ok (.int m) := by rw [hm]; rfl
  have s01 : wroot (m * t) ≤ wroot (u1 * t) + 1 := by
    rcases Int.lt_or_le (wroot (u1 * t) + 1) (wroot (m * t)) with c | c
    · have := Int.mul_le_mul (Int.le_of_lt c) (Int.le_of_lt c) (show 0 ≤ wroot (u1 * t) + 1 by omega) a0
      omega
    · exact c
  have v := rw1 (A := wroot (u1 * t)) (B := wroot (m * t) + 1) (u0 := u0) (u1 := u1) (t := t) (P := 1024 * Y) (Q := Z) t0 b0 (by omega) b1 (by have := Int.mul_le_mul_of_nonneg_right mu0 (show 0 ≤ t by omega); omega) hw (by omega) Z1 hz b2
  have sb : wroot (u1 * t) ≤ t * (2048 * Y) := by
    rcases Int.lt_or_le (t * (2048 * Y)) (wroot (u1 * t)) with c | c
    · exfalso
      have t2 : 0 ≤ t * (2048 * Y) := Int.mul_nonneg (by omega) (by omega)
      have c1 := Int.mul_lt_mul_of_pos_left c (show 0 < wroot (u1 * t) by omega)
      have c2 := Int.mul_le_mul_of_nonneg_right (Int.le_of_lt c) t2
      have c3 := Int.mul_le_mul_of_nonneg_right u1b (show 0 ≤ t by omega)
      have c4 : t ≤ t * (2048 * Y) := by have := Int.mul_le_mul_of_nonneg_left (show 1 ≤ 2048 * Y by omega) (show 0 ≤ t by omega); omega
      have c5 := Int.mul_le_mul_of_nonneg_left c4 t2
      omega
    · exact c
  refine ⟨wroot (m * t), wroot (u1 * t) + 1, ?_, a0, s01, ?_, ?_, ?_, by omega⟩
  · show outD (b_root_bounds (Fr_bounds n) [some (.arg (RT (r :: rs))), some (.arg (.int t)), none]) = _
    unfold b_root_bounds
    have ix := ix_last r rs
    have cl := cut_last r rs
    generalize RT (r :: rs) = G at *
    generalize RT rs = G0 at *
    push_cast [cl, ix, e, mx, mm, mu, r0, r1]
  · refine fl_r1 (u := ((m : Int) : (extOF F (of r) hp hn).C)) (ρ := em (of r)) (τ := 0) tp' rtE_pos rtE_sq ?_ ?_
    · rw [← cst_mul T', ← cst_mul T']; exact int_le T' a1
    · have : (m : F.C) ≤ (t : F.C) * of r := by
        rw [hm]; split
        · rw [Ring.intCast_zero]; exact Std.le_of_lt trp
        · exact h0
      have := em_le (hr := hp) (hn := hn) this
      rw [em_mul, em_int, em_int] at this
      exact this
  · refine fl_r2 (u := ((u1 : Int) : (extOF F (of r) hp hn).C)) (ρ := em (of r)) tp' ?_ rtE_sq ?_ ?_
    · rw [← Ring.intCast_zero]; exact int_le T' (by omega)
    · rw [← cst_mul T', ← cst_mul T']; exact int_le T' (Int.le_of_lt b2)
    · have := em_le (hr := hp) (hn := hn) h1
      rw [em_mul, em_int, em_int] at this
      exact this
  · have e1 : t * (4096 * Y) = 4096 * (t * Y) := by grind
    have e2 : t * (2048 * Y) = 2048 * (t * Y) := by grind
    omega
end
section
variable {rs : List (List Int)} {F : OF} {of : List Int → F.C}
theorem c_mul_if {F : OF} (g s0 s1 : Int) (c : Prop) [Decidable c] : (((g * (if c then s0 else s1) : Int)) : F.C) = (g : F.C) * (if c then (s0 : F.C) else (s1 : F.C)) := by
  by_cases h : c
  · rw [if_pos h, if_pos h, Ring.intCast_mul]
  · rw [if_neg h, if_neg h, Ring.intCast_mul]
theorem nz_fr {k : Nat} {x0 : Int} : frH (x0 :: List.replicate (2 ^ (k + 1) - 1) 0) = x0 :: List.replicate (2 ^ k - 1) 0 ∧ bhH (x0 :: List.replicate (2 ^ (k + 1) - 1) 0) = 0 :: List.replicate (2 ^ k - 1) 0 := by
  have p := Nat.two_pow_pos k
  have e : x0 :: List.replicate (2 ^ (k + 1) - 1) 0 = (x0 :: List.replicate (2 ^ k - 1) 0) ++ (0 :: List.replicate (2 ^ k - 1) 0) := by
    rw [List.cons_append]
    congr 1
    rw [← List.replicate_succ, List.replicate_append_replicate]
    congr 1
    rw [Nat.pow_succ]; omega
  rw [e]
  exact ⟨frH_app (by simp), bhH_app (by simp)⟩
theorem w_bounds (T : Tow rs F of) : ∀ (n : Nat) (x : List Int) (p : Nat) (t : Int), rs.length < n → rs.length ≤ 3 → (∀ r ∈ rs, Bd 10 r) → x.length = 2 ^ rs.length → Bd p x → p ≤ 600 → 0 < t → t.natAbs < 2 ^ 4097 →
    ∃ lo hi : Int, Fr_bounds n [RT rs, TI x, .int t] = .ok (.tup [.int lo, .int hi]) ∧ (lo : F.C) ≤ (t : F.C) * of x ∧ (t : F.C) * of x ≤ (hi : F.C) ∧ hi - lo ≤ 2 ^ (p + Cw rs.length) ∧ (∀ x0, x = x0 :: List.replicate (2 ^ rs.length - 1) 0 → lo = x0 * t) := by
  induction T with
  | nil =>
    intro n x p t hn _ _ hx bx hp t0 tb
    match x, hx with
    | [a], _ =>
      obtain ⟨m, rfl⟩ : ∃ m, n = m + 1 := ⟨n - 1, by have : 0 < n := hn; omega⟩
      have ab : a.natAbs < 2 ^ 2000 := up2 (bx a (by simp)) (by omega)
      refine ⟨a * t, a * t, bd_base m ab (up2 tb (by decide)), ?_, ?_, ?_, fun x0 e => ?_⟩
      · show (((a * t : Int)) : ratOF.C) ≤ (t : ratOF.C) * ((a : Int) : ratOF.C)
        rw [Ring.intCast_mul]; grind
      · show (t : ratOF.C) * ((a : Int) : ratOF.C) ≤ (((a * t : Int)) : ratOF.C)
        rw [Ring.intCast_mul]; grind
      · have := p2_pos (p + Cw ([] : List (List Int)).length); omega
      · injection e with e; rw [e]
  | @cons rs F of T r hl hr hn ih =>
    intro n x p t hk h3 hrs hx bx hp t0 tb
    obtain ⟨m, rfl⟩ : ∃ m, n = m + 1 := ⟨n - 1, by omega⟩
    rw [List.length_cons] at hk h3
    have hx' : x.length = 2 ^ (rs.length + 1) := hx
    have T' := Tow.cons T r hl hr hn
    have hr1 := hrs r (by simp)
    have hrs' : ∀ s ∈ rs, Bd 10 s := fun s hs => hrs s (List.mem_cons_of_mem _ hs)
    have bf : Bd p (frH x) := fun s hs => bx s (by rw [← fr_bh x]; exact List.mem_append_left _ hs)
    have bb : Bd p (bhH x) := fun s hs => bx s (by rw [← fr_bh x]; exact List.mem_append_right _ hs)
    obtain ⟨f0, f1, ef, f0l, f1u, fw, fz⟩ := ih m (frH x) p t (by omega) (by omega) hrs' (frH_len hx') bf hp t0 tb
    obtain ⟨g0, g1, eg, g0l, g1u, gw, gz⟩ := ih m (bhH x) p t (by omega) (by omega) hrs' (bhH_len hx') bb hp t0 tb
    obtain ⟨u0, u1, eu, u0l, u1u, uw, _⟩ := ih m r 10 t (by omega) (by omega) hrs' hl hr1 (by decide) t0 tb
    obtain ⟨s0, s1, er, s00, s01, s0l, s1u, sS, sV⟩ := w_rootb T (by omega) hrs' hl hr1 (hp := hr) (hn := hn) t0 tb eu u0l u1u uw
    have tp := cast_pos T t0
    have tp' := cast_pos T' t0
    have hub := ub T (ρ := 10) hrs' (bhH_len hx') bb
    have g01 : g0 ≤ g1 := le_int T (Std.le_trans g0l g1u)
    have X1 := p2_pos (p + Cw rs.length)
    have Y1 := p2_pos (Cw rs.length)
    have Z1 := p2_pos (lB rs.length 10)
    have hb : (2 : Int) ^ hB 10 rs.length p ≤ 2 ^ (p + Cw rs.length) := pw_int (hB_p _ _ (by omega))
    have G1 : g0 ≤ t * (2 * 2 ^ (p + Cw rs.length)) := by
      have a := fl_ub tp g0l hub.1
      rw [← cst_mul T] at a
      have a := le_int T a
      have b := Int.mul_le_mul_of_nonneg_left hb (show 0 ≤ t by omega)
      have c : t * (2 * 2 ^ (p + Cw rs.length)) = 2 * (t * 2 ^ (p + Cw rs.length)) := by grind
      have d : 0 ≤ t * 2 ^ (p + Cw rs.length) := Int.mul_nonneg (by omega) (by omega)
      omega
    have G2 : -g1 ≤ t * (2 * 2 ^ (p + Cw rs.length)) := by
      have a := fl_lw tp g1u hub.2
      rw [← cst_mul T, ← Ring.intCast_neg] at a
      have a := le_int T a
      have b := Int.mul_le_mul_of_nonneg_left hb (show 0 ≤ t by omega)
      have c : t * (2 * 2 ^ (p + Cw rs.length)) = 2 * (t * 2 ^ (p + Cw rs.length)) := by grind
      have d : 0 ≤ t * 2 ^ (p + Cw rs.length) := Int.mul_nonneg (by omega) (by omega)
      omega
    have wd := wd1 t0 X1 Y1 Z1 fw gw g01 s00 s01 sS sV G1 G2
    have c3 : Cw rs.length ≤ 63 := by
      have : rs.length = 0 ∨ rs.length = 1 ∨ rs.length = 2 := by omega
      rcases this with z | z | z <;> rw [z] <;> decide
    have gB : (t * (2 * 2 ^ (p + Cw rs.length))).natAbs < 2 ^ (4097 + 700) := mul_bd tb (by
      rw [Int.natAbs_mul, p2_abs, show (2 : Int).natAbs = 2 from rfl]
      have : 2 ^ (p + Cw rs.length) ≤ 2 ^ 663 := pw_le (by omega)
      have e : (2 : Nat) ^ 700 = 2 ^ 37 * 2 ^ 663 := by rw [← Nat.pow_add]
      have e2 : (2 : Nat) ^ 37 = 137438953472 := by decide
      omega)
    have xB : ((2 : Int) ^ (p + Cw rs.length)).natAbs < 2 ^ (4097 + 700) := by
      rw [p2_abs]; exact Nat.pow_lt_pow_right (by decide) (by omega)
    have sB : (t * (4096 * 2 ^ Cw rs.length)).natAbs < 2 ^ (4097 + 700) := mul_bd tb (by
      rw [Int.natAbs_mul, p2_abs, show (4096 : Int).natAbs = 4096 from rfl]
      have : 2 ^ Cw rs.length ≤ 2 ^ 63 := pw_le c3
      have e : (2 : Nat) ^ 700 = 2 ^ 637 * 2 ^ 63 := by rw [← Nat.pow_add]
      have e2 : (4096 : Nat) < 2 ^ 637 := Nat.lt_of_lt_of_le (show 4096 < 2 ^ 13 by decide) (pw_le (by decide))
      rw [e]
      exact Nat.mul_lt_mul_of_lt_of_le e2 this (Nat.two_pow_pos 63))
    have b0 : g0.natAbs < 2 ^ 4800 := by
      have e : (2 : Nat) ^ 4800 = 2 ^ 3 * 2 ^ (4097 + 700) := by rw [← Nat.pow_add]
      omega
    have b1 : g1.natAbs < 2 ^ 4800 := by
      have e : (2 : Nat) ^ 4800 = 2 ^ 3 * 2 ^ (4097 + 700) := by rw [← Nat.pow_add]
      omega
    have bs0 : s0.natAbs < 2 ^ 4800 := by
      have e : (2 : Nat) ^ 4800 = 2 ^ 3 * 2 ^ (4097 + 700) := by rw [← Nat.pow_add]
      omega
    have bs1 : s1.natAbs < 2 ^ 4800 := by
      have e : (2 : Nat) ^ 4800 = 2 ^ 3 * 2 ^ (4097 + 700) := by rw [← Nat.pow_add]
      omega
    have fd := fun a : Int => fdivI (a := a) (b := t) (by omega) (up2 tb (by decide))
    have m0 : mulD (.int g0) (if 0 ≤ g0 then .int s0 else .int s1) = .ok (.int (g0 * (if 0 ≤ g0 then s0 else s1))) := by
      by_cases c : 0 ≤ g0
      · rw [if_pos c, if_pos c]; exact mulB (up2 b0 (by decide)) (up2 bs0 (by decide))
      · rw [if_neg c, if_neg c]; exact mulB (up2 b0 (by decide)) (up2 bs1 (by decide))
    have m1 : mulD (.int g1) (if 0 ≤ g1 then .int s1 else .int s0) = .ok (.int (g1 * (if 0 ≤ g1 then s1 else s0))) := by
      by_cases c : 0 ≤ g1
      · rw [if_pos c, if_pos c]; exact mulB (up2 b1 (by decide)) (up2 bs1 (by decide))
      · rw [if_neg c, if_neg c]; exact mulB (up2 b1 (by decide)) (up2 bs0 (by decide))
    obtain ⟨least, eleast⟩ : ∃ z, z = g0 * (if 0 ≤ g0 then s0 else s1) := ⟨_, rfl⟩
    obtain ⟨most, emost⟩ : ∃ z, z = g1 * (if 0 ≤ g1 then s1 else s0) := ⟨_, rfl⟩
    rw [← eleast] at m0 wd
    rw [← emost] at m1 wd
    have k0 := fdiv_lh (a := least) t0
    have k1 := fdiv_lh (a := most) t0
    refine ⟨f0 + Int.fdiv least t, f1 + Int.fdiv most t + 1, ?_, ?_, ?_, ?_, fun x0 e => ?_⟩
    · show outD (b_bounds (Fr_bounds m) [some (.arg (RT (r :: rs))), some (.arg (TI x)), some (.arg (.int t)), none, none, none, none, none]) = _
      unfold b_bounds
      have ln : lenG [RT (r :: rs)] = .ok (.int ((rs.length + 1 : Nat) : Int)) := by
        show Res.ok (D.int (((r :: rs).reverse.map TI).length : Int)) = _
        rw [List.length_map, List.length_reverse, List.length_cons]
      have hz : ¬ (((rs.length + 1 : Nat) : Int) = 0) := by omega
      have cl := cut_last r rs
      have wf := w_front x
      have wb := w_behind x
      generalize RT (r :: rs) = G at *
      generalize RT rs = G0 at *
      by_cases c0 : 0 ≤ g0
      · rw [if_pos c0] at m0
        by_cases c1 : 0 ≤ g1
        · rw [if_pos c1] at m1
          push_cast [ln, hz, cl, wf, wb, ef, eg, er, c0, c1, m0, m1, fd]
        · exact absurd c1 (by omega)
      · rw [if_neg c0] at m0
        by_cases c1 : 0 ≤ g1
        · rw [if_pos c1] at m1
          push_cast [ln, hz, cl, wf, wb, ef, eg, er, c0, c1, m0, m1, fd]
        · rw [if_neg c1] at m1
          push_cast [ln, hz, cl, wf, wb, ef, eg, er, c0, c1, m0, m1, fd]
    · rw [ex_split, Ring.intCast_add]
      refine fl_lo (l := ((least : Int) : (extOF F (of r) hr hn).C)) tp' ?_ ?_ ?_
      · have := em_le (hr := hr) (hn := hn) f0l
        rw [em_mul, em_int, em_int] at this; exact this
      · rw [← cst_mul T']; exact int_le T' k0.1
      · have gl := em_le (hr := hr) (hn := hn) g0l
        rw [em_mul, em_int, em_int] at gl
        rw [eleast, c_mul_if]
        refine fl_lst ?_ gl (by have := mulP tp' (rtE_pos (hr := hr) (hn := hn)); exact Std.le_of_lt this)
        by_cases c : 0 ≤ g0
        · rw [if_pos c]; exact .inl ⟨by rw [← Ring.intCast_zero]; exact int_le T' c, s0l⟩
        · rw [if_neg c]; exact .inr ⟨by rw [← Ring.intCast_zero]; exact int_le T' (by omega), s1u⟩
    · rw [ex_split, Ring.intCast_add, Ring.intCast_add, Ring.intCast_one]
      refine fl_hi (m := ((most : Int) : (extOF F (of r) hr hn).C)) tp' ?_ ?_ ?_
      · have := em_le (hr := hr) (hn := hn) f1u
        rw [em_mul, em_int, em_int] at this; exact this
      · have := int_le T' (Int.le_of_lt k1.2)
        rw [cst_mul T', Ring.intCast_add, Ring.intCast_one] at this; exact this
      · have gu := em_le (hr := hr) (hn := hn) g1u
        rw [em_mul, em_int, em_int] at gu
        rw [emost, c_mul_if]
        refine fl_mst ?_ gu (by have := mulP tp' (rtE_pos (hr := hr) (hn := hn)); exact Std.le_of_lt this)
        by_cases c : 0 ≤ g1
        · rw [if_pos c]; exact .inl ⟨by rw [← Ring.intCast_zero]; exact int_le T' c, s1u⟩
        · rw [if_neg c]; exact .inr ⟨by rw [← Ring.intCast_zero]; exact int_le T' (by omega), s0l⟩
    · have e : (2 : Int) ^ (p + Cw (r :: rs).length) = 16384 * (2 ^ (p + Cw rs.length) * 2 ^ Cw rs.length * 2 ^ lB rs.length 10) := by
        rw [← Int.pow_add, ← Int.pow_add, show (16384 : Int) = 2 ^ 14 from rfl, ← Int.pow_add]
        congr 1
        show p + (2 * Cw rs.length + 14 + lB rs.length 10) = _
        omega
      rw [e]; exact wd
    · have q := nz_fr (k := rs.length) (x0 := x0)
      rw [show 2 ^ (r :: rs).length = 2 ^ (rs.length + 1) from rfl] at e
      rw [← e] at q
      have z1 := fz x0 q.1
      have z2 := gz 0 q.2
      have l0 : least = 0 := by rw [eleast, z2, Int.zero_mul, Int.zero_mul]
      rw [l0, z1]
      simp
end
theorem ten_bd {k : Nat} (h : k ≤ 60) : ((10 : Int) ^ k).natAbs < 2 ^ 200 := by
  rw [Int.natAbs_pow]
  exact Nat.lt_of_le_of_lt (Nat.pow_le_pow_right (by decide) h) (by decide)
theorem ten_loop (s0 : SV) : ∀ (ds : List D) (k : Nat) (z : Option SV), k + ds.length ≤ 60 → ∃ z', forD (tgtN 2) (setD 1 (two (slotD 1) (fun _ => .ok (.int 10)) mulD)) ds [some s0, some (.val (.int (10 ^ k))), z] = .nxt [some s0, some (.val (.int (10 ^ (k + ds.length)))), z']
  | [], k, z, _ => ⟨z, for_stop⟩
  | d :: ds, k, z, h => by
    have h' : k + (ds.length + 1) ≤ 60 := h
    obtain ⟨z', e⟩ := ten_loop s0 ds (k + 1) (some (.val d)) (by omega)
    have mu := mulB (a := 10 ^ k) (b := 10) (up2 (ten_bd (show k ≤ 60 by omega)) (by decide)) (up2 (show Int.natAbs 10 < 2 ^ 4 by decide) (by decide))
    rw [← Int.pow_succ] at mu
    refine ⟨z', ?_⟩
    rw [show k + (d :: ds).length = k + 1 + ds.length by simp; omega]
    refine Eq.trans (for_step (δ1 := [some s0, some (.val (.int (10 ^ k))), some (.val d)]) (δ2 := [some s0, some (.val (.int (10 ^ (k + 1)))), some (.val d)]) rfl ?_) e
    push_cast [mu]
theorem w_ten {k : Nat} (h : k ≤ 60) : F_ten_times_itself [.int (k : Int)] = .ok (.int (10 ^ k)) := by
  show outD (b_ten_times_itself [some (.arg (.int (k : Int))), none, none]) = _
  unfold b_ten_times_itself
  have rg := rng_nat k (by omega)
  obtain ⟨z', e⟩ := ten_loop (.arg (.int (k : Int))) (((List.range k).map fun (j : Nat) => (j : Int)).map .int) 0 none (by simp; omega)
  rw [show 0 + (((List.range k).map fun (j : Nat) => (j : Int)).map D.int).length = k by simp, Int.pow_zero] at e
  push_cast [rg, e]
abbrev fc : DS → Res Bool := (bindT (two (two (slotD 6) (fun _ => .ok (.int 0)) ixD) (two (slotD 6) (fun _ => .ok (.int 1)) ixD) neD) boolD)
abbrev fb : DS → Out := (seqD (setD 5 (two (slotD 5) (fun _ => .ok (.int 2)) mulD)) (setD 6 (bindF (consD (slotD 0) (consD (slotD 4) (consD (two (slotD 1) (fun _ => .ok (.int 1)) ixD) (consD (slotD 5) (fun _ => .ok []))))) F_floors_around)))
theorem p2_double (k : Nat) : ((64 * 2 ^ (k + 1) : Nat) : Int) = ((64 * 2 ^ k : Nat) : Int) * 2 := by
  rw [Nat.pow_succ]; omega
section
variable {F : OF}
theorem fl_q1 {b t g l y : F.C} (t0 : 0 < t) (h1 : b * t * g ≤ l) (h2 : l ≤ t * y) : b * g ≤ y := by
  have h : t * (b * g) ≤ t * y := by grind
  exact fl_can t0 h
theorem fl_q2 {b t g h y : F.C} (t0 : 0 < t) (h1 : h < b * t * (g + 1)) (h2 : t * y ≤ h) : y < b * (g + 1) := by
  have h : t * y < t * (b * (g + 1)) := by grind
  exact fl_canl t0 h
theorem fl_far {t d W K : F.C} (t0 : 0 < t) (K0 : 0 < K) (h1 : t * d ≤ W) (h2 : -W ≤ t * d) (h : 1 ≤ K * d ∨ 1 ≤ K * -d) : t ≤ K * W := by
  rcases h with h | h
  · have a := fl_ml (show 0 ≤ t by grind) h
    have b := fl_ml (show 0 ≤ K by grind) h1
    grind
  · have a := fl_ml (show 0 ≤ t by grind) h
    have b := fl_ml (show 0 ≤ K by grind) (show -(t * d) ≤ W by grind)
    grind
theorem fl_d1 {t y m l h w : F.C} (h1 : l ≤ t * y) (h2 : t * y ≤ h) (h3 : l ≤ t * m) (h4 : t * m ≤ h) (hw : h - l ≤ w) : t * (y - m) ≤ w ∧ -w ≤ t * (y - m) := by
  constructor <;> grind
end
structure Ar {F : OF} (y : F.C) (W : Nat) (b t A0 A1 : Int) (ex : Int → Prop) : Prop where
  is : ∃ lo hi : Int, A0 = Int.fdiv lo (b * t) ∧ A1 = Int.fdiv hi (b * t) ∧ (lo : F.C) ≤ (t : F.C) * y ∧ (t : F.C) * y ≤ (hi : F.C) ∧ hi - lo ≤ 2 ^ W ∧ ∀ x0, ex x0 → lo = x0 * t
section
variable {rs : List (List Int)} {F : OF} {of : List Int → F.C}
theorem w_around (T : Tow rs F of) (h3 : rs.length ≤ 3) (hrs : ∀ r ∈ rs, Bd 10 r) {x : List Int} {p : Nat} (hx : x.length = 2 ^ rs.length) (bx : Bd p x) (hp : p ≤ 600) {b : Int} (b0 : 0 < b) (bb : b.natAbs < 2 ^ 60) {k : Nat} (hk : k ≤ 4096) :
    ∃ A0 A1 : Int, F_floors_around [RT rs, TI x, .int b, .int (k : Int)] = .ok (.tup [.int A0, .int A1]) ∧ Ar (of x) (p + Cw rs.length) b ((2 ^ k : Nat) : Int) A0 A1 (fun x0 => x = x0 :: List.replicate (2 ^ rs.length - 1) 0) := by
  obtain ⟨t, et⟩ : ∃ t : Int, t = ((2 ^ k : Nat) : Int) := ⟨_, rfl⟩
  have t0 : 0 < t := by rw [et]; have := Nat.two_pow_pos k; omega
  have ht : t.natAbs < 2 ^ 4097 := by
    rw [et, Int.natAbs_natCast]; exact Nat.pow_lt_pow_right (by decide) (by omega)
  have sh : shlD (.int 1) (.int (k : Int)) = .ok (.int t) := by
    simp only [shlD]
    rw [if_pos ⟨by omega, by omega, by decide⟩, Int.toNat_natCast, Int.one_mul, et]; simp
  have sq : shlD (.int b) (.int (k : Int)) = .ok (.int (b * t)) := by
    simp only [shlD]
    rw [if_pos ⟨by omega, by omega, up2 bb (by decide)⟩, Int.toNat_natCast, et]; simp
  obtain ⟨lo, hi, e, l1, l2, l3, l4⟩ := w_bounds T 4 x p t (by omega) h3 hrs hx bx hp t0 ht
  have e' : F_bounds [RT rs, TI x, .int t] = _ := e
  have qt : b * t ≠ 0 := by have := Int.mul_pos b0 t0; omega
  have qb := up2 (mul_bd bb ht) (show 60 + 4097 ≤ 8000 by decide)
  have d1 := fdivI (a := lo) qt qb
  have d2 := fdivI (a := hi) qt qb
  refine ⟨_, _, ?_, ⟨lo, hi, rfl, rfl, ?_, ?_, l3, ?_⟩⟩
  · show outD (b_floors_around [some (.arg (RT rs)), some (.arg (TI x)), some (.arg (.int b)), some (.arg (.int (k : Int))), none, none]) = _
    unfold b_floors_around
    rw [← et]
    generalize RT rs = G at *
    push_cast [sh, e', sq, d1, d2]
  · rw [← et]; exact l1
  · rw [← et]; exact l2
  · rw [← et]; exact l4
theorem ar_one (T : Tow rs F of) {y : F.C} {W : Nat} {b t A : Int} {ex : Int → Prop} (b0 : 0 < b) (t0 : 0 < t) (h : Ar y W b t A A ex) : (b : F.C) * (A : F.C) ≤ y ∧ y < (b : F.C) * ((A : F.C) + 1) := by
  obtain ⟨lo, hi, e1, e2, l1, l2, l3, _⟩ := h.is
  have bt := Int.mul_pos b0 t0
  have d1 := (fdiv_lh (a := lo) bt).1
  have d2 := (fdiv_lh (a := hi) bt).2
  rw [← e1] at d1
  rw [← e2] at d2
  have tp := cast_pos T t0
  constructor
  · refine fl_q1 tp (l := (lo : F.C)) ?_ l1
    rw [← cst_mul T, ← cst_mul T]; exact int_le T d1
  · refine fl_q2 tp (h := (hi : F.C)) ?_ l2
    have := int_lt T d2
    rw [cst_mul T, cst_mul T, Ring.intCast_add, Ring.intCast_one] at this; exact this
theorem addL_first {x : List Int} {n : Nat} (c : Int) (hx : x.length = n) (hn : 0 < n) : addL x (c :: List.replicate (n - 1) 0) = (x.headD 0 + c) :: x.tail := by
  cases x with
  | nil => simp at hx; omega
  | cons a x =>
    have hl : x.length = n - 1 := by simp at hx; omega
    show (a + c) :: List.zipWith (· + ·) x (List.replicate (n - 1) 0) = _
    have : List.zipWith (· + ·) x (List.replicate (n - 1) 0) = x := by
      rw [← hl]
      clear hx hn hl
      induction x with
      | nil => rfl
      | cons b x ih => simp only [List.length_cons, List.replicate_succ, List.zipWith_cons_cons, ih]; simp
    rw [this]; rfl
theorem ar_end (T : Tow rs F of) (h3 : rs.length ≤ 3) (hrs : ∀ r ∈ rs, Bd 10 r) {x : List Int} {p : Nat} (hx : x.length = 2 ^ rs.length) (bx : Bd p x) (hp : p ≤ 240) {b A0 A1 : Int} (b0 : 0 < b)
    (h : Ar (of x) (p + Cw rs.length) b ((2 ^ 4096 : Nat) : Int) A0 A1 (fun x0 => x = x0 :: List.replicate (2 ^ rs.length - 1) 0)) : A0 = A1 := by
  obtain ⟨t, et⟩ : ∃ t : Int, t = ((2 ^ 4096 : Nat) : Int) := ⟨_, rfl⟩
  rw [← et] at h
  have et2 : t = 2 ^ 4096 := by rw [et]; simp
  have t0 : 0 < t := by rw [et2]; exact Int.pow_pos (by decide)
  obtain ⟨lo, hi, e1, e2, l1, l2, l3, l4⟩ := h.is
  have bt := Int.mul_pos b0 t0
  have k1 := fdiv_lh (a := lo) bt
  have k2 := fdiv_lh (a := hi) bt
  rw [← e1] at k1
  rw [← e2] at k2
  have tp := cast_pos T t0
  have lh : lo ≤ hi := le_int T (Std.le_trans l1 l2)
  rcases Int.lt_trichotomy A0 A1 with c | c | c
  · exfalso
    have p1 := Nat.two_pow_pos rs.length
    have m1 : b * t * (A0 + 1) ≤ b * t * A1 := Int.mul_le_mul_of_nonneg_left (by omega) (Int.le_of_lt bt)
    have r1 : b * t * A1 = t * (b * A1) := by grind
    have lm : lo < t * (b * A1) := by omega
    have mh : t * (b * A1) ≤ hi := by omega
    have c3 : Cw rs.length ≤ 247 := by
      have : rs.length = 0 ∨ rs.length = 1 ∨ rs.length = 2 ∨ rs.length = 3 := by omega
      rcases this with z | z | z | z <;> rw [z] <;> decide
    have Wt : (2 : Int) ^ (p + Cw rs.length) ≤ t := by rw [et2]; exact pw_int (by omega)
    have hub := ub T (ρ := 10) hrs hx bx
    have u1 := le_int T (by have a := fl_ub tp l1 hub.1; rw [← cst_mul T] at a; exact a)
    have u2 := le_int T (by have a := fl_lw tp l2 hub.2; rw [← cst_mul T, ← Ring.intCast_neg] at a; exact a)
    have hB2 : (2 : Int) ^ hB 10 rs.length p ≤ 2 ^ 317 := pw_int (by
      have : hB 10 rs.length p ≤ p + 77 := by
        have : rs.length = 0 ∨ rs.length = 1 ∨ rs.length = 2 ∨ rs.length = 3 := by omega
        rcases this with z | z | z | z <;> rw [z] <;> simp only [hB] <;> omega
      omega)
    have mb : (b * A1).natAbs < 2 ^ 318 := by
      have q1 : b * A1 ≤ 2 ^ hB 10 rs.length p + 1 := by
        have : t * (b * A1) ≤ t * (2 ^ hB 10 rs.length p + 1) := by
          have e : t * (2 ^ hB 10 rs.length p + 1) = t * 2 ^ hB 10 rs.length p + t := by grind
          omega
        exact Int.le_of_mul_le_mul_left this t0
      have q2 : -(b * A1) ≤ 2 ^ hB 10 rs.length p + 1 := by
        have : t * -(b * A1) ≤ t * (2 ^ hB 10 rs.length p + 1) := by
          have e : t * (2 ^ hB 10 rs.length p + 1) = t * 2 ^ hB 10 rs.length p + t := by grind
          have e2 : t * -(b * A1) = -(t * (b * A1)) := by grind
          omega
        exact Int.le_of_mul_le_mul_left this t0
      have e : (2 : Int) ^ 317 + 1 < 2 ^ 318 := by decide
      have e2 : (((2 ^ 318 : Nat)) : Int) = 2 ^ 318 := by decide
      omega
    obtain ⟨yl, ey⟩ : ∃ yl, yl = addL x ((-(b * A1)) :: List.replicate (2 ^ rs.length - 1) 0) := ⟨_, rfl⟩
    have ll : ((-(b * A1)) :: List.replicate (2 ^ rs.length - 1) 0).length = 2 ^ rs.length := by simp; omega
    have oy : of yl = of x - ((b * A1 : Int) : F.C) := by
      rw [ey, of_add T hx ll, of_nat T, Ring.intCast_neg]; grind
    have ly : yl.length = 2 ^ rs.length := by rw [ey]; exact addL_len hx ll
    have by' : Bd 319 yl := by
      intro s hs
      rw [ey, addL_first _ hx p1] at hs
      have e : (2 : Nat) ^ 319 = 2 * 2 ^ 318 := by decide
      rcases List.mem_cons.mp hs with z | z
      · have hh : (x.headD 0).natAbs < 2 ^ 240 := by
          cases x with
          | nil => simp at hx; omega
          | cons a x => exact up2 (bx a (by simp)) hp
        have : (2 : Nat) ^ 240 ≤ 2 ^ 318 := by decide
        rw [z]; omega
      · exact up2 (bx s (List.mem_of_mem_tail z)) (by omega)
    have dd := fl_d1 (m := ((b * A1 : Int) : F.C)) (w := ((2 ^ (p + Cw rs.length) : Int) : F.C)) l1 l2 (by rw [← cst_mul T]; exact int_le T (Int.le_of_lt lm)) (by rw [← cst_mul T]; exact int_le T mh) (by
      have := int_le T l3
      rw [Int.sub_eq_add_neg, Ring.intCast_add, Ring.intCast_neg] at this
      grind)
    rw [← oy] at dd
    by_cases z : of yl = 0
    ·
      have ex : of x = of ((b * A1) :: List.replicate (2 ^ rs.length - 1) 0) := by
        rw [of_nat T]; rw [oy] at z; grind
      have := of_inj T hx (by simp; omega) ex
      have := l4 _ this
      have e : b * A1 * t = t * (b * A1) := by grind
      omega
    · have kp := cast_pos T (k := 2 ^ lB rs.length 319) (by have := p2_pos (lB rs.length 319); omega)
      have a := fl_far tp kp dd.1 dd.2 (lb T hrs ly by' z)
      rw [← cst_mul T] at a
      have a := le_int T a
      rw [← Int.pow_add, et2] at a
      have lt : lB rs.length 319 + (p + Cw rs.length) < 4096 := by
        have : lB rs.length 319 ≤ 2800 := by
          have : rs.length = 0 ∨ rs.length = 1 ∨ rs.length = 2 ∨ rs.length = 3 := by omega
          rcases this with z | z | z | z <;> rw [z] <;> decide
        omega
      have n := Nat.pow_lt_pow_right (a := 2) (by decide) lt
      have n1 : (((2 ^ (lB rs.length 319 + (p + Cw rs.length)) : Nat)) : Int) = 2 ^ (lB rs.length 319 + (p + Cw rs.length)) := by simp
      have n2 : (((2 ^ 4096 : Nat)) : Int) = 2 ^ 4096 := by simp
      generalize (2 : Int) ^ 4096 = q1 at *
      generalize (2 : Int) ^ (lB rs.length 319 + (p + Cw rs.length)) = q2 at *
      omega
  · exact c
  · exfalso
    have m1 : b * t * (A1 + 1) ≤ b * t * A0 := Int.mul_le_mul_of_nonneg_left (by omega) (Int.le_of_lt bt)
    omega
theorem loop_floor (T : Tow rs F of) (h3 : rs.length ≤ 3) (hrs : ∀ r ∈ rs, Bd 10 r) {x : List Int} {p : Nat} (hx : x.length = 2 ^ rs.length) (bx : Bd p x) (hp : p ≤ 240) {b : Int} (b0 : 0 < b) (bb : b.natAbs < 2 ^ 60) (xv s2 s3 : SV) (hxv : ∀ s0 s2 s3 s4 s5 s6, two (slotD 1) (fun _ => .ok (.int 1)) ixD [s0, some xv, s2, s3, s4, s5, s6] = .ok (.int b)) :
    ∀ (n j : Nat), j ≤ 6 → 6 < j + n → ∀ (l h : Int), Ar (of x) (p + Cw rs.length) b ((2 ^ (64 * 2 ^ j) : Nat) : Int) l h (fun x0 => x = x0 :: List.replicate (2 ^ rs.length - 1) 0) →
    ∃ f s5, whileD fc fb n [some (.arg (RT rs)), some xv, some s2, some s3, some (.val (TI x)), some (.val (.int ((64 * 2 ^ j : Nat) : Int))), some (.val (.tup [.int l, .int h]))] = .nxt [some (.arg (RT rs)), some xv, some s2, some s3, some (.val (TI x)), some s5, some (.val (.tup [.int f, .int f]))] ∧ (b : F.C) * (f : F.C) ≤ of x ∧ of x < (b : F.C) * ((f : F.C) + 1)
  | 0, j, hj, hn, _, _, _ => absurd hn (by omega)
  | n + 1, j, hj, hn, l, h, ha => by
    have t0 : (0 : Int) < ((2 ^ (64 * 2 ^ j) : Nat) : Int) := by have := Nat.two_pow_pos (64 * 2 ^ j); omega
    have tst : fc [some (.arg (RT rs)), some xv, some s2, some s3, some (.val (TI x)), some (.val (.int ((64 * 2 ^ j : Nat) : Int))), some (.val (.tup [.int l, .int h]))] = .ok (!decide (l = h)) := by
      push_cast [DL.ap_seq]
    by_cases c : l = h
    · subst c
      exact ⟨l, .val (.int ((64 * 2 ^ j : Nat) : Int)), while_stop (tst.trans (by simp)), ar_one T b0 t0 ha⟩
    · have tst' := tst.trans (show Res.ok (!decide (l = h)) = .ok true by simp [c])
      have j6 : j < 6 := by
        rcases Nat.lt_or_ge j 6 with z | z
        · exact z
        · exfalso
          have ej : j = 6 := by omega
          subst ej
          exact c (ar_end T h3 hrs hx bx hp b0 ha)
      obtain ⟨A0, A1, ar, ha'⟩ := w_around T h3 hrs hx bx (by omega) b0 bb (k := 64 * 2 ^ (j + 1)) (by
        have : j = 0 ∨ j = 1 ∨ j = 2 ∨ j = 3 ∨ j = 4 ∨ j = 5 := by omega
        rcases this with z | z | z | z | z | z <;> subst z <;> decide)
      obtain ⟨f, s5, e, hf⟩ := loop_floor T h3 hrs hx bx hp b0 bb xv s2 s3 hxv n (j + 1) (by omega) (by omega) A0 A1 ha'
      refine ⟨f, s5, ?_, hf⟩
      have mu := mulB (a := ((64 * 2 ^ j : Nat) : Int)) (b := 2) (by
        have : j = 0 ∨ j = 1 ∨ j = 2 ∨ j = 3 ∨ j = 4 ∨ j = 5 := by omega
        rcases this with z | z | z | z | z | z <;> subst z <;> exact up2 (n := 20) (by decide) (by decide)) (up2 (show Int.natAbs 2 < 2 ^ 2 by decide) (by decide))
      rw [← p2_double] at mu
      refine Eq.trans (while_step tst' (δ' := [some (.arg (RT rs)), some xv, some s2, some s3, some (.val (TI x)), some (.val (.int ((64 * 2 ^ (j + 1) : Nat) : Int))), some (.val (.tup [.int A0, .int A1]))]) ?_) e
      have ap : ∀ s5, two (slotD 1) (fun _ => .ok (.int 1)) ixD [some (.arg (RT rs)), some xv, some s2, some s3, some (.val (TI x)), some s5, some (.val (.tup [.int l, .int h]))] = .ok (.int b) := fun s5 => hxv _ _ _ _ _ _
      generalize ((64 * 2 ^ (j + 1) : Nat) : Int) = kk at *
      simp only [ap_seq, ap_set, ap_two _ _ mulD, ap_bF, ap_cons, ap, sl0, sl4, sl5, sl6, vw_val, vw_arg, bnd_ok, mu, on_ok, st5, sq_nxt, ar, st6]
theorem w_floor (T : Tow rs F of) (h3 : rs.length ≤ 3) (hrs : ∀ r ∈ rs, Bd 10 r) {x : List Int} {b : Int} (hx : x.length = 2 ^ rs.length) (bx : Bd 31 x) (b0 : 0 < b) (bb : b.natAbs < 2 ^ 31) {p : Nat} (hp : p ≤ 60) :
    ∃ f : Int, F_floor_at [RT rs, num x b, .int (p : Int)] = .ok (.int f) ∧ (b : F.C) * (f : F.C) ≤ ((10 ^ p : Int) : F.C) * of x ∧ ((10 ^ p : Int) : F.C) * of x < (b : F.C) * ((f : F.C) + 1) := by
  have te := w_ten hp
  have tb := ten_bd hp
  have e8 := two_le8 h3
  have by' : Bd 231 (x.map (10 ^ p * ·)) := by
    intro s hs
    obtain ⟨a, ha, rfl⟩ := List.mem_map.mp hs
    exact mul_bd (p := 200) (q := 31) tb (bx a ha)
  have ly : (x.map (10 ^ p * ·)).length = 2 ^ rs.length := by rw [List.length_map]; exact hx
  have oy := of_scale T (10 ^ p) hx
  have cp : compD 1 [3] (tgtN 0) (two (slotD 0) (slotD 1) mulE) (bindL (two (slotD 1) (fun _ => .ok (.int 0)) ixD) seqItems) [some (.arg (RT rs)), some (.arg (num x b)), some (.arg (.int (p : Int))), some (.val (.int (10 ^ p))), none, none, none] = .ok (.lst ((x.map (10 ^ p * ·)).map .int)) := by
    have c := comp_ints (fe := two (slotD 0) (slotD 1) mulE) (fi := bindL (two (slotD 1) (fun _ => .ok (.int 0)) ixD) seqItems) (fr := [3]) (δ := [some (.arg (RT rs)), some (.arg (num x b)), some (.arg (.int (p : Int))), some (.val (.int (10 ^ p))), none, none, none]) (rest := [some (.arg (.int (10 ^ p)))]) (ts := x) (g := fun s => .int (10 ^ p * s)) rfl rfl (Nat.le_trans (by omega : x.length ≤ 8) (by decide)) (fun s hs => by
      have mu := mulB (a := s) (b := 10 ^ p) (up2 (bx s hs) (by decide)) (up2 tb (by decide))
      rw [Int.mul_comm] at mu
      push_cast [mu])
    rw [c, List.map_map]; rfl
  obtain ⟨A0, A1, ar, ha⟩ := w_around T h3 hrs ly by' (by decide) b0 (up2 bb (by decide)) (k := 64) (by decide)
  obtain ⟨f, s5, e, hf⟩ := loop_floor T h3 hrs ly by' (by decide) b0 (up2 bb (by decide)) (.arg (num x b)) (.arg (.int (p : Int))) (.val (.int (10 ^ p))) (fun s0 s2 s3 s4 s5 s6 => by push_cast [DL.ap_seq]) 12 0 (by decide) (by decide) A0 A1 ha
  rw [oy] at hf
  refine ⟨f, ?_, hf⟩
  have e' : whileD fc fb 12 [some (.arg (RT rs)), some (.arg (num x b)), some (.arg (.int (p : Int))), some (.val (.int (10 ^ p))), some (.val (TI (x.map (10 ^ p * ·)))), some (.val (.int 64)), some (.val (.tup [.int A0, .int A1]))] = _ := e
  have ar' : F_floors_around [RT rs, TI (x.map (10 ^ p * ·)), .int b, .int 64] = _ := ar
  have wh : ∀ δ : DS, whileF fuel_floor_at_1 fc fb δ = whileD fc fb 12 δ := fun _ => rfl
  show outD (b_floor_at [some (.arg (RT rs)), some (.arg (num x b)), some (.arg (.int (p : Int))), none, none, none, none]) = _
  unfold b_floor_at
  have s0 : (setD 3 (bindF (consD (slotD 2) (fun _ => .ok [])) F_ten_times_itself)) [some (.arg (RT rs)), some (.arg (num x b)), some (.arg (.int (p : Int))), none, none, none, none] = .nxt [some (.arg (RT rs)), some (.arg (num x b)), some (.arg (.int (p : Int))), some (.val (.int (10 ^ p))), none, none, none] := by push_cast [te]
  have s1 : (setD 4 (bindF (consD (compD 1 [3] (tgtN 0) (two (slotD 0) (slotD 1) mulE) (bindL (two (slotD 1) (fun _ => .ok (.int 0)) ixD) seqItems)) (fun _ => .ok [])) tupleG)) [some (.arg (RT rs)), some (.arg (num x b)), some (.arg (.int (p : Int))), some (.val (.int (10 ^ p))), none, none, none] = .nxt [some (.arg (RT rs)), some (.arg (num x b)), some (.arg (.int (p : Int))), some (.val (.int (10 ^ p))), some (.val (TI (x.map (10 ^ p * ·)))), none, none] := by push_cast [cp]
  have s2 : (setD 5 (fun _ => .ok (.int 64))) [some (.arg (RT rs)), some (.arg (num x b)), some (.arg (.int (p : Int))), some (.val (.int (10 ^ p))), some (.val (TI (x.map (10 ^ p * ·)))), none, none] = .nxt [some (.arg (RT rs)), some (.arg (num x b)), some (.arg (.int (p : Int))), some (.val (.int (10 ^ p))), some (.val (TI (x.map (10 ^ p * ·)))), some (.val (.int 64)), none] := rfl
  have s3 : (setD 6 (bindF (consD (slotD 0) (consD (slotD 4) (consD (two (slotD 1) (fun _ => .ok (.int 1)) ixD) (consD (slotD 5) (fun _ => .ok []))))) F_floors_around)) [some (.arg (RT rs)), some (.arg (num x b)), some (.arg (.int (p : Int))), some (.val (.int (10 ^ p))), some (.val (TI (x.map (10 ^ p * ·)))), some (.val (.int 64)), none] = .nxt [some (.arg (RT rs)), some (.arg (num x b)), some (.arg (.int (p : Int))), some (.val (.int (10 ^ p))), some (.val (TI (x.map (10 ^ p * ·)))), some (.val (.int 64)), some (.val (.tup [.int A0, .int A1]))] := by
    generalize RT rs = G at *
    push_cast [ar']
  rw [ap_seq, s0, sq_nxt, ap_seq, s1, sq_nxt, ap_seq, s2, sq_nxt, ap_seq, s3, sq_nxt, ap_seq]
  show outD ((whileF fuel_floor_at_1 fc fb _).seq _) = _
  rw [wh, e', sq_nxt]
  push_cast [DL.ap_seq]
end
theorem mul64r {a b : Int} (h : b.natAbs < 2 ^ 64) : mulD (.int a) (.int b) = .ok (.int (a * b)) := by
  unfold mulD
  exact if_pos (.inr (.inr (intBits_le h)))
theorem mul64l {a b : Int} (h : a.natAbs < 2 ^ 64) : mulD (.int a) (.int b) = .ok (.int (a * b)) := by
  unfold mulD
  exact if_pos (.inr (.inl (intBits_le h)))
section
variable {F : OF}
theorem fl_one (v : F.C) : v = v / 1 := by grind
theorem fl_s1 {y m : F.C} (h : m ≤ y) : (y = m ∧ sgn (y - m) = 0) ∨ (m < y ∧ sgn (y - m) = 1) := by
  by_cases c : y = m
  · left
    refine ⟨c, ?_⟩
    unfold sgn
    rw [if_pos (by grind)]
  · right
    refine ⟨by grind, sgn_p.mpr (by grind)⟩
theorem fl_s2 {y m : F.C} (h : y < m) : sgn (y - m) = -1 := sgn_n.mpr (by grind)
theorem fl_n1 {y m : F.C} {b : F.C} (h1 : b * m < y) (h2 : y < b * (m + 1)) : b * (-m - 1) ≤ -y ∧ -y < b * (-m - 1 + 1) := by constructor <;> grind
theorem fl_n0 {y m b : F.C} (hb : 0 < b) (h1 : y = b * m) : b * -m ≤ -y ∧ -y < b * (-m + 1) := by constructor <;> grind
end
section
variable {rs : List (List Int)} {F : OF} {of : List Int → F.C}
theorem fl_uniq (T : Tow rs F of) {y : F.C} {b g h : Int} (b0 : 0 < b) (g1 : (b : F.C) * (g : F.C) ≤ y) (g2 : y < (b : F.C) * ((g : F.C) + 1)) (h1 : (b : F.C) * (h : F.C) ≤ y) (h2 : y < (b : F.C) * ((h : F.C) + 1)) : g = h := by
  have key : ∀ g h : Int, (b : F.C) * (g : F.C) ≤ y → y < (b : F.C) * ((h : F.C) + 1) → g ≤ h := fun g h a c => by
    have q := Std.lt_of_le_of_lt a c
    rw [← Ring.intCast_one, ← Ring.intCast_add, ← cst_mul T, ← cst_mul T] at q
    have q := lt_int T q
    have := Int.lt_of_mul_lt_mul_left q (Int.le_of_lt b0)
    omega
  exact Int.le_antisymm (key g h g1 h2) (key h g h1 g2)
theorem gb_bd (T : Tow rs F of) (h3 : rs.length ≤ 3) (hrs : ∀ r ∈ rs, Bd 10 r) {x : List Int} {b : Int} (hx : x.length = 2 ^ rs.length) (bx : Bd 31 x) (b0 : 0 < b) (bb : b.natAbs < 2 ^ 31) {p : Nat} (hp : p ≤ 60) {g : Int} (g1 : (b : F.C) * (g : F.C) ≤ ((10 ^ p : Int) : F.C) * of x) (g2 : ((10 ^ p : Int) : F.C) * of x < (b : F.C) * ((g : F.C) + 1)) :
    (g * b).natAbs < 2 ^ 400 := by
  have hub := ub T (ρ := 10) hrs hx bx
  have s0 : (0 : Int) < 10 ^ p := Int.pow_pos (by decide)
  have sp := cast_pos T s0
  have a := fl_ub sp g1 hub.1
  rw [← cst_mul T, ← cst_mul T] at a
  have a := le_int T a
  have c := fl_lw sp (Std.le_of_lt g2) hub.2
  rw [← Ring.intCast_one, ← Ring.intCast_add, ← cst_mul T, ← cst_mul T, ← Ring.intCast_neg] at c
  have c := le_int T c
  have hb : hB 10 rs.length 31 ≤ 108 := by
    have : rs.length = 0 ∨ rs.length = 1 ∨ rs.length = 2 ∨ rs.length = 3 := by omega
    rcases this with z | z | z | z <;> rw [z] <;> decide
  have e1 : (10 ^ p * 2 ^ hB 10 rs.length 31 : Int).natAbs < 2 ^ (200 + 110) := mul_bd (ten_bd hp) (by rw [p2_abs]; exact Nat.pow_lt_pow_right (by decide) (by omega))
  have e2 : b * (g + 1) = g * b + b := by grind
  have e3 : b * g = g * b := by grind
  have e4 : (2 : Nat) ^ (200 + 110) + 2 ^ 31 < 2 ^ 400 := by decide
  generalize (10 ^ p * 2 ^ hB 10 rs.length 31 : Int) = M at *
  omega
theorem w_side (T : Tow rs F of) (h3 : rs.length ≤ 3) (hrs : ∀ r ∈ rs, Bd 10 r) {x : List Int} {b : Int} (hx : x.length = 2 ^ rs.length) (bx : Bd 31 x) (b0 : 0 < b) (bb : b.natAbs < 2 ^ 31) {p : Nat} (hp : p ≤ 60) {g : Int} (gb : (g * b).natAbs < 2 ^ 401) :
    F_law_side [RT rs, num x b, .int (10 ^ p), .int g] = .ok (.int (sgn (((10 ^ p : Int) : F.C) * of x - (b : F.C) * (g : F.C)))) := by
  have tb := ten_bd hp
  have e8 := two_le8 h3
  have p1 := Nat.two_pow_pos rs.length
  cases x with
  | nil => simp at hx; omega
  | cons x0 xs =>
    have lxs : xs.length ≤ 8 := by simp at hx; omega
    have hl : xs.length = 2 ^ rs.length - 1 := by simp at hx; omega
    have b1 : Bd 31 xs := fun s hs => bx s (List.mem_cons_of_mem _ hs)
    have mx := mulB (a := 10 ^ p) (b := x0) (up2 tb (by decide)) (up2 (bx x0 (by simp)) (by decide))
    have mg : mulD (.int g) (.int b) = _ := mul64r (up2 bb (by decide))
    have ix0 : ixD (TI (x0 :: xs)) (.int 0) = .ok (.int x0) := ix_tup0 _ _
    have dr : cutD (TI (x0 :: xs)) (some 1) none = .ok (TI xs) := drop_TI (x0 :: xs) 1
    have cp : ∀ s4 : SV, compD 1 [2] (tgtN 0) (two (slotD 1) (slotD 0) mulE) (bindL (sliceF (two (slotD 1) (fun _ => .ok (.int 0)) ixD) (partF (fun _ => .ok (.int 1))) noPart) seqItems) [some (.arg (RT rs)), some (.arg (num (x0 :: xs) b)), some (.arg (.int (10 ^ p))), some (.arg (.int g)), some s4] = .ok (.lst ((xs.map (10 ^ p * ·)).map .int)) := fun s4 => by
      have c := comp_ints (fe := two (slotD 1) (slotD 0) mulE) (fi := bindL (sliceF (two (slotD 1) (fun _ => .ok (.int 0)) ixD) (partF (fun _ => .ok (.int 1))) noPart) seqItems) (fr := [2]) (δ := [some (.arg (RT rs)), some (.arg (num (x0 :: xs) b)), some (.arg (.int (10 ^ p))), some (.arg (.int g)), some s4]) (rest := [some (.arg (.int (10 ^ p)))]) (ts := xs) (g := fun s => .int (10 ^ p * s)) (by
          push_cast [dr]) rfl (Nat.le_trans lxs (by decide)) (fun s hs => by
        have mu := mulB (a := 10 ^ p) (b := s) (up2 tb (by decide)) (up2 (b1 s hs) (by decide))
        push_cast [mu])
      rw [c, List.map_map]; rfl
    have ad : addD (.tup [.int (10 ^ p * x0 - g * b)]) (TI (xs.map (10 ^ p * ·))) = .ok (TI ((10 ^ p * x0 - g * b) :: xs.map (10 ^ p * ·))) := add_TI' (a := [10 ^ p * x0 - g * b]) (b := xs.map (10 ^ p * ·)) (by rw [List.length_map]; simp; omega)
    have et : (10 ^ p * x0 - g * b) :: xs.map (10 ^ p * ·) = addL ((x0 :: xs).map (10 ^ p * ·)) ((-(g * b)) :: List.replicate (2 ^ rs.length - 1) 0) := by
      rw [addL_first _ (by rw [List.length_map]; exact hx) p1]
      rfl
    have lt : ((10 ^ p * x0 - g * b) :: xs.map (10 ^ p * ·)).length = 2 ^ rs.length := by simp; omega
    have ot : of ((10 ^ p * x0 - g * b) :: xs.map (10 ^ p * ·)) = ((10 ^ p : Int) : F.C) * of (x0 :: xs) - (b : F.C) * (g : F.C) := by
      rw [et, of_add T (by rw [List.length_map]; exact hx) (by simp; omega), of_scale T (10 ^ p) hx, of_nat T, Ring.intCast_neg, Ring.intCast_mul]
      grind
    have bt : Bd 402 ((10 ^ p * x0 - g * b) :: xs.map (10 ^ p * ·)) := by
      intro s hs
      rcases List.mem_cons.mp hs with z | z
      · have m1 := mul_bd tb (bx x0 (by simp))
        have e : (2 : Nat) ^ (200 + 31) + 2 ^ 401 ≤ 2 ^ 402 := by decide
        rw [z]; omega
      · obtain ⟨a, ha, rfl⟩ := List.mem_map.mp z
        exact up2 (mul_bd tb (b1 a ha)) (by decide)
    have sg := r_signof T h3 hrs (p := 402) (x := (10 ^ p * x0 - g * b) :: xs.map (10 ^ p * ·)) (b := 1) (u := ((10 ^ p : Int) : F.C) * of (x0 :: xs) - (b : F.C) * (g : F.C)) ⟨_, 1, rfl, by decide, lt, bt, by decide, by rw [ot, Ring.intCast_one]; exact fl_one _⟩ (by decide)
    show outD (b_law_side [some (.arg (RT rs)), some (.arg (num (x0 :: xs) b)), some (.arg (.int (10 ^ p))), some (.arg (.int g)), none]) = _
    unfold b_law_side
    generalize RT rs = G at *
    push_cast [ix0, mx, mg, cp, ad, sg]
theorem sc_loop (s0 s1 s2 : SV) {z5 z6 z7 : Option SV} : ∀ (ds : List D) (k : Nat) (z : Option SV), k + ds.length ≤ 60 → ∃ z', forD (tgtN 4) (setD 3 (two (slotD 3) (fun _ => .ok (.int 10)) mulE)) ds [some s0, some s1, some s2, some (.val (.int (10 ^ k))), z, z5, z6, z7] = .nxt [some s0, some s1, some s2, some (.val (.int (10 ^ (k + ds.length)))), z', z5, z6, z7]
  | [], k, z, _ => ⟨z, for_stop⟩
  | d :: ds, k, z, h => by
    have h' : k + (ds.length + 1) ≤ 60 := h
    obtain ⟨z', e⟩ := sc_loop s0 s1 s2 (z5 := z5) (z6 := z6) (z7 := z7) ds (k + 1) (some (.val d)) (by omega)
    have mu := mulB (a := 10 ^ k) (b := 10) (up2 (ten_bd (show k ≤ 60 by omega)) (by decide)) (up2 (show Int.natAbs 10 < 2 ^ 4 by decide) (by decide))
    rw [← Int.pow_succ] at mu
    refine ⟨z', ?_⟩
    rw [show k + (d :: ds).length = k + 1 + ds.length by simp; omega]
    refine Eq.trans (for_step (δ1 := [some s0, some s1, some s2, some (.val (.int (10 ^ k))), some (.val d), z5, z6, z7]) (δ2 := [some s0, some s1, some s2, some (.val (.int (10 ^ (k + 1)))), some (.val d), z5, z6, z7]) rfl ?_) e
    push_cast [mu]
theorem ls_loop (g : Int) (s0 s1 s2 s3 s5 s6 : SV) : ∀ (ds : List D) (k : Nat) (L : Int) (z : Option SV), 10 ^ k * L ≤ g → g < 10 ^ k * (L + 1) → ∃ (L' : Int) (z' : Option SV), forD (tgtN 4) (setD 7 (two (slotD 7) (fun _ => .ok (.int 10)) fdivD)) ds [some s0, some s1, some s2, some s3, z, some s5, some s6, some (.val (.int L))] = .nxt [some s0, some s1, some s2, some s3, z', some s5, some s6, some (.val (.int L'))] ∧ 10 ^ (k + ds.length) * L' ≤ g ∧ g < 10 ^ (k + ds.length) * (L' + 1)
  | [], k, L, z, h1, h2 => ⟨L, z, for_stop, h1, h2⟩
  | d :: ds, k, L, z, h1, h2 => by
    have q := fdiv_lh (a := L) (show (0 : Int) < 10 by decide)
    have p0 : (0 : Int) < 10 ^ k := Int.pow_pos (by decide)
    have a1 : (10 : Int) ^ (k + 1) * Int.fdiv L 10 ≤ g := by
      have := Int.mul_le_mul_of_nonneg_left q.1 (Int.le_of_lt p0)
      have e : (10 : Int) ^ (k + 1) * Int.fdiv L 10 = 10 ^ k * (10 * Int.fdiv L 10) := by rw [Int.pow_succ]; grind
      omega
    have a2 : g < (10 : Int) ^ (k + 1) * (Int.fdiv L 10 + 1) := by
      have := Int.mul_le_mul_of_nonneg_left (show L + 1 ≤ 10 * (Int.fdiv L 10 + 1) by omega) (Int.le_of_lt p0)
      have e : (10 : Int) ^ (k + 1) * (Int.fdiv L 10 + 1) = 10 ^ k * (10 * (Int.fdiv L 10 + 1)) := by rw [Int.pow_succ]; grind
      omega
    obtain ⟨L', z', e, r1, r2⟩ := ls_loop g s0 s1 s2 s3 s5 s6 ds (k + 1) (Int.fdiv L 10) (some (.val d)) a1 a2
    have fd : fdivD (.int L) (.int 10) = _ := fdivI (show (10 : Int) ≠ 0 by decide) (up2 (show Int.natAbs 10 < 2 ^ 4 by decide) (by decide))
    refine ⟨L', z', Eq.trans (for_step (δ1 := [some s0, some s1, some s2, some s3, some (.val d), some s5, some s6, some (.val (.int L))]) (δ2 := [some s0, some s1, some s2, some s3, some (.val d), some s5, some s6, some (.val (.int (Int.fdiv L 10)))]) rfl ?_) e, ?_, ?_⟩
    · push_cast [fd]
    · rw [show k + (d :: ds).length = k + 1 + ds.length by simp; omega]; exact r1
    · rw [show k + (d :: ds).length = k + 1 + ds.length by simp; omega]; exact r2
end
section
variable {rs : List (List Int)} {F : OF} {of : List Int → F.C}
theorem fl_mulr {F : OF} {s a b : F.C} (h : 0 < s) (g : 1 * a < b) : s * a < s * b := by
  have := mulP h (show 0 < b - a by grind)
  grind
theorem fl_ch {F : OF} {b g s y k : F.C} (h : b * g ≤ s * y) (w : s * y < s * (b * (k + 1))) : b * g < b * (s * (k + 1)) := by grind
theorem fl_ch2 {F : OF} {b g s y k : F.C} (w : s * (b * k) ≤ s * (1 * y)) (h : s * y < b * (g + 1)) : b * (s * k) < b * (g + 1) := by grind
theorem w_holds (T : Tow rs F of) (h3 : rs.length ≤ 3) (hrs : ∀ r ∈ rs, Bd 10 r) {x : List Int} {b : Int} (hx : x.length = 2 ^ rs.length) (bx : Bd 31 x) (b0 : 0 < b) (bb : b.natAbs < 2 ^ 31) {p : Nat} (hp : p ≤ 60) : F_law_holds [RT rs, num x b, .int (p : Int)] = .ok (.bl true) := by
  have e8 := two_le8 h3
  obtain ⟨g, eg, g1, g2⟩ := w_floor T h3 hrs hx bx b0 bb hp
  have gb := gb_bd T h3 hrs hx bx b0 bb hp g1 g2
  have bp := cast_pos T b0
  have rg := rng_nat p (by omega)
  obtain ⟨z4, e1⟩ := sc_loop (.arg (RT rs)) (.arg (num x b)) (.arg (.int (p : Int))) (z5 := none) (z6 := none) (z7 := none) (((List.range p).map fun (j : Nat) => (j : Int)).map .int) 0 none (by simp; omega)
  rw [show 0 + (((List.range p).map fun (j : Nat) => (j : Int)).map D.int).length = p by simp, Int.pow_zero] at e1
  have sd := w_side T h3 hrs hx bx b0 bb hp (g := g) (up2 gb (by decide))
  have gb1 : ((g + 1) * b).natAbs < 2 ^ 401 := by
    have e : (g + 1) * b = g * b + b := by grind
    have e2 : (2 : Nat) ^ 400 + 2 ^ 31 < 2 ^ 401 := by decide
    rw [e]; omega
  have sd1 := w_side T h3 hrs hx bx b0 bb hp (g := g + 1) gb1
  have m1 : sgn (((10 ^ p : Int) : F.C) * of x - (b : F.C) * ((g + 1 : Int) : F.C)) = -1 := fl_s2 (by rw [Ring.intCast_add, Ring.intCast_one]; exact g2)
  rw [m1] at sd1
  have lw := w_law_whole g
  have sc := w_scaled (-1) x (by omega) (by exact up2 (n := 2) (by decide) (by decide)) (bx.mono (by decide))
  have hx' : (x.map (-1 * ·)).length = 2 ^ rs.length := by rw [List.length_map]; exact hx
  have bx' : Bd 31 (x.map (-1 * ·)) := by
    intro s hs
    obtain ⟨a, ha, rfl⟩ := List.mem_map.mp hs
    have := bx a ha
    rw [Int.natAbs_mul]
    simpa using this
  obtain ⟨h, eh, h1, h2⟩ := w_floor T h3 hrs hx' bx' b0 bb hp
  have on : ((10 ^ p : Int) : F.C) * of (x.map (-1 * ·)) = -(((10 ^ p : Int) : F.C) * of x) := by
    rw [of_scale T (-1) hx, Ring.intCast_neg, Ring.intCast_one]; grind
  rw [on] at h1 h2
  obtain ⟨k, ek, k1, k2⟩ := w_floor T h3 hrs hx bx b0 bb (p := 0) (by decide)
  rw [Int.pow_zero, Ring.intCast_one] at k1 k2
  obtain ⟨L, z4', e2, L1, L2⟩ := ls_loop g (.arg (RT rs)) (.arg (num x b)) (.arg (.int (p : Int))) (.val (.int (10 ^ p))) (.val (.int g)) (.val (.int (sgn (((10 ^ p : Int) : F.C) * of x - (b : F.C) * (g : F.C))))) (((List.range p).map fun (j : Nat) => (j : Int)).map .int) 0 g z4 (by simp) (by simp; omega)
  rw [show 0 + (((List.range p).map fun (j : Nat) => (j : Int)).map D.int).length = p by simp] at L1 L2
  have s0 : (0 : Int) < 10 ^ p := Int.pow_pos (by decide)
  have sp := cast_pos T s0
  have kL : k = L := by
    have a : g < 10 ^ p * (k + 1) := by
      have q : (b : F.C) * (g : F.C) < ((b * (10 ^ p * (k + 1)) : Int) : F.C) := by
        have w := fl_mulr sp k2
        rw [cst_mul T, cst_mul T, Ring.intCast_add, Ring.intCast_one]
        exact fl_ch g1 w
      rw [← cst_mul T] at q
      exact Int.lt_of_mul_lt_mul_left (lt_int T q) (Int.le_of_lt b0)
    have c : 10 ^ p * k ≤ g := by
      have q : ((b * (10 ^ p * k) : Int) : F.C) < (b : F.C) * ((g + 1 : Int) : F.C) := by
        have w := fl_ml (Std.le_of_lt sp) k1
        rw [cst_mul T, cst_mul T, Ring.intCast_add, Ring.intCast_one]
        exact fl_ch2 w g2
      rw [← cst_mul T] at q
      have := Int.lt_of_mul_lt_mul_left (lt_int T q) (Int.le_of_lt b0)
      omega
    have u1 : 10 ^ p * k < 10 ^ p * (L + 1) := by omega
    have u2 : 10 ^ p * L < 10 ^ p * (k + 1) := by omega
    have v1 := Int.lt_of_mul_lt_mul_left u1 (Int.le_of_lt s0)
    have v2 := Int.lt_of_mul_lt_mul_left u2 (Int.le_of_lt s0)
    omega
  have ek' : F_floor_at [RT rs, num x b, .int 0] = .ok (.int k) := ek
  rw [kL] at ek'
  have ap0 : ([RT rs, num x b] ++ [D.int 0] : List D) = [RT rs, num x b, .int 0] := rfl
  have ln : lenG [RT rs] = .ok (.int (rs.length : Int)) := by
    show Res.ok (D.int ((rs.reverse.map TI).length : Int)) = _
    rw [List.length_map, List.length_reverse]
  have hs : ∃ c : Int, (c = 0 ∨ c = 1) ∧ sgn (((10 ^ p : Int) : F.C) * of x - (b : F.C) * (g : F.C)) = c ∧ h = -g - (if 0 < c then 1 else 0) := by
    rcases fl_s1 g1 with ⟨q, e⟩ | ⟨q, e⟩
    · refine ⟨0, .inl rfl, e, ?_⟩
      have w := fl_n0 bp q
      rw [← Ring.intCast_neg] at w
      have := fl_uniq T b0 h1 h2 w.1 w.2
      simp; omega
    · refine ⟨1, .inr rfl, e, ?_⟩
      have w := fl_n1 q g2
      have e1 : -(g : F.C) - 1 = ((-g - 1 : Int) : F.C) := by rw [Int.sub_eq_add_neg, Ring.intCast_add, Ring.intCast_neg, Ring.intCast_neg, Ring.intCast_one]; grind
      rw [e1] at w
      have := fl_uniq T b0 h1 h2 w.1 w.2
      simp; omega
  obtain ⟨c, c01, ec, ehc⟩ := hs
  rw [ec] at sd e2
  have fz : F_floor_at [RT rs, .tup [TI (x.map (-1 * ·)), .int b], .int (p : Int)] = .ok (.int h) := eh
  show outD (b_law_holds [some (.arg (RT rs)), some (.arg (num x b)), some (.arg (.int (p : Int))), none, none, none, none, none]) = _
  unfold b_law_holds
  have cn : ¬ (c < 0) := by omega
  have bl : ∀ q : Bool, intG [.bl q] = .ok (.int (if q then 1 else 0)) := fun q => rfl
  have qs6 : ∀ z4 : Option SV, (ifS (orT (bindT (two (bindF (consD (slotD 0) (fun _ => .ok [])) lenG) (fun _ => .ok (.int 3)) (cmpD fun i j => decide (i < j))) boolD) (bindT (two (slotD 2) (fun _ => .ok (.int 4)) (cmpD fun i j => decide (i < j))) boolD)) (ifS (bindT (two (bindF (consD (slotD 0) (consD (tupF (consD (bindF (consD (negF (fun _ => .ok (.int 1))) (consD (two (slotD 1) (fun _ => .ok (.int 0)) ixD) (fun _ => .ok []))) F_law_scaled) (consD (two (slotD 1) (fun _ => .ok (.int 1)) ixD) (fun _ => .ok [])))) (consD (slotD 2) (fun _ => .ok [])))) F_floor_at) (two (negF (slotD 5)) (bindF (consD (two (slotD 6) (fun _ => .ok (.int 0)) (cmpD fun i j => decide (j < i))) (fun _ => .ok [])) intG) subD) neD) boolD) (retD (fun _ => .ok (.bl false))) Out.nxt) Out.nxt) [some (.arg (RT rs)), some (.arg (num x b)), some (.arg (.int (p : Int))), some (.val (.int (10 ^ p))), z4, some (.val (.int g)), some (.val (.int c)), none] = .nxt [some (.arg (RT rs)), some (.arg (num x b)), some (.arg (.int (p : Int))), some (.val (.int (10 ^ p))), z4, some (.val (.int g)), some (.val (.int c)), none] := fun z4 => by
    have inner : ∀ z4 : Option SV, (ifS (bindT (two (bindF (consD (slotD 0) (consD (tupF (consD (bindF (consD (negF (fun _ => .ok (.int 1))) (consD (two (slotD 1) (fun _ => .ok (.int 0)) ixD) (fun _ => .ok []))) F_law_scaled) (consD (two (slotD 1) (fun _ => .ok (.int 1)) ixD) (fun _ => .ok [])))) (consD (slotD 2) (fun _ => .ok [])))) F_floor_at) (two (negF (slotD 5)) (bindF (consD (two (slotD 6) (fun _ => .ok (.int 0)) (cmpD fun i j => decide (j < i))) (fun _ => .ok [])) intG) subD) neD) boolD) (retD (fun _ => .ok (.bl false))) Out.nxt) [some (.arg (RT rs)), some (.arg (num x b)), some (.arg (.int (p : Int))), some (.val (.int (10 ^ p))), z4, some (.val (.int g)), some (.val (.int c)), none] = .nxt [some (.arg (RT rs)), some (.arg (num x b)), some (.arg (.int (p : Int))), some (.val (.int (10 ^ p))), z4, some (.val (.int g)), some (.val (.int c)), none] := fun z4 => by
      rcases c01 with z | z
      · subst z
        have h' : h = -g - 0 := by rw [ehc]; simp
        rw [h'] at fz
        generalize RT rs = G at *
        push_cast [sc, fz, bl]
      · subst z
        have h' : h = -g - 1 := by rw [ehc]; simp
        rw [h'] at fz
        generalize RT rs = G at *
        push_cast [sc, fz, bl]
    by_cases q1 : (rs.length : Int) < 3
    · generalize RT rs = G at *
      simp only [ap_if, ap_orT, ap_bT, ap_two, ap_bF, ap_cons, sl0, sl2, vw_arg, bnd_ok, ln, cmp_ok, bool_ok, q1, decide_true, ont_ok, ↓reduceIte]
      exact inner z4
    · by_cases q2 : (p : Int) < 4
      · generalize RT rs = G at *
        simp only [ap_if, ap_orT, ap_bT, ap_two, ap_bF, ap_cons, sl0, sl2, vw_arg, bnd_ok, ln, cmp_ok, bool_ok, q1, q2, decide_true, decide_false, Bool.false_eq_true, ont_ok, ↓reduceIte]
        exact inner z4
      · generalize RT rs = G at *
        push_cast [ln, q1, q2]
  generalize RT rs = G at *
  have t0 : (setD 3 (fun _ => .ok (.int 1))) [some (.arg G), some (.arg (num x b)), some (.arg (.int (p : Int))), none, none, none, none, none] = .nxt [some (.arg G), some (.arg (num x b)), some (.arg (.int (p : Int))), some (.val (.int 1)), none, none, none, none] := rfl
  have t1 : (forR (rng1) (tgtN 4) (consD (slotD 2) (fun _ => .ok [])) (setD 3 (two (slotD 3) (fun _ => .ok (.int 10)) mulE))) [some (.arg G), some (.arg (num x b)), some (.arg (.int (p : Int))), some (.val (.int 1)), none, none, none, none] = .nxt [some (.arg G), some (.arg (num x b)), some (.arg (.int (p : Int))), some (.val (.int (10 ^ p))), z4, none, none, none] := by
    push_cast [rg, e1]
  have t2 : (setD 5 (bindF (consD (slotD 0) (consD (slotD 1) (consD (slotD 2) (fun _ => .ok [])))) F_floor_at)) [some (.arg G), some (.arg (num x b)), some (.arg (.int (p : Int))), some (.val (.int (10 ^ p))), z4, none, none, none] = .nxt [some (.arg G), some (.arg (num x b)), some (.arg (.int (p : Int))), some (.val (.int (10 ^ p))), z4, some (.val (.int g)), none, none] := by
    push_cast [eg]
  have t3 : (ifS (notT (bindT (bindF (consD (slotD 5) (fun _ => .ok [])) F_law_whole) truthD)) (retD (fun _ => .ok (.bl false))) Out.nxt) [some (.arg G), some (.arg (num x b)), some (.arg (.int (p : Int))), some (.val (.int (10 ^ p))), z4, some (.val (.int g)), none, none] = .nxt [some (.arg G), some (.arg (num x b)), some (.arg (.int (p : Int))), some (.val (.int (10 ^ p))), z4, some (.val (.int g)), none, none] := by
    push_cast [lw]
  have t4 : (setD 6 (bindF (consD (slotD 0) (consD (slotD 1) (consD (slotD 3) (consD (slotD 5) (fun _ => .ok []))))) F_law_side)) [some (.arg G), some (.arg (num x b)), some (.arg (.int (p : Int))), some (.val (.int (10 ^ p))), z4, some (.val (.int g)), none, none] = .nxt [some (.arg G), some (.arg (num x b)), some (.arg (.int (p : Int))), some (.val (.int (10 ^ p))), z4, some (.val (.int g)), some (.val (.int c)), none] := by
    push_cast [sd]
  have t5 : (ifS (orT (bindT (two (slotD 6) (fun _ => .ok (.int 0)) (cmpD fun i j => decide (i < j))) boolD) (bindT (two (bindF (consD (slotD 0) (consD (slotD 1) (consD (slotD 3) (consD (two (slotD 5) (fun _ => .ok (.int 1)) addD) (fun _ => .ok []))))) F_law_side) (fun _ => .ok (.int 0)) (cmpD fun i j => decide (j ≤ i))) boolD)) (retD (fun _ => .ok (.bl false))) Out.nxt) [some (.arg G), some (.arg (num x b)), some (.arg (.int (p : Int))), some (.val (.int (10 ^ p))), z4, some (.val (.int g)), some (.val (.int c)), none] = .nxt [some (.arg G), some (.arg (num x b)), some (.arg (.int (p : Int))), some (.val (.int (10 ^ p))), z4, some (.val (.int g)), some (.val (.int c)), none] := by
    push_cast [cn, sd1]
  rw [ap_seq, t0, sq_nxt, ap_seq, t1, sq_nxt, ap_seq, t2, sq_nxt, ap_seq, t3, sq_nxt, ap_seq, t4, sq_nxt, ap_seq, t5, sq_nxt, ap_seq, qs6, sq_nxt]
  push_cast [rg, e2, List.cons_append, List.nil_append, ek']
end
theorem ap_step (fe : DS → Res D) (fl fu fs : DS → Res (Option Int)) (δ : DS) : stepF fe fl fu fs δ = (fe δ).bind fun d => (fl δ).bind fun l => (fu δ).bind fun u => (fs δ).bind fun st => stepD d l u st := Eq.trans rfl rfl
theorem stepL_map (ns : List Int) (lo hi : Option Int) (k : Nat) : stepL (ns.map D.int) lo hi k = (stepL ns lo hi k).map .int := by
  unfold stepL
  rw [List.length_map, List.map_filterMap]
  congr 1
  funext i
  rw [List.getElem?_map]
theorem enum_mem {ts : List Int} {d : D} (h : d ∈ enumD (ts.map D.int)) : ∃ (i : Nat) (c : Int), i < ts.length ∧ d = .tup [.int (i : Int), .int c] := by
  obtain ⟨i, hi⟩ := List.mem_iff_getElem?.mp h
  rw [enumD_get, List.getElem?_map] at hi
  cases e : ts[i]? with
  | none => rw [e] at hi; simp at hi
  | some c =>
    rw [e] at hi
    simp only [Option.map_some, Option.some.injEq] at hi
    exact ⟨i, c, (List.getElem?_eq_some_iff.mp e).1, hi.symm⟩
theorem law_inner {s0 s1 s2 s3 s4 s5 s6 : Option SV} : ∀ (L : List D), (∀ d ∈ L, ∃ (i : Nat) (c : Int), i < 1000 ∧ d = .tup [.int (i : Int), .int c]) → ∀ (a : Int) (z8 z9 : Option SV), ∃ (a' : Int) (z8' z9' : Option SV),
    forD (tupTgt [8, 9]) (setD 7 (two (slotD 7) (two (two (two (fun _ => .ok (.int 2)) (slotD 8) mulE) (fun _ => .ok (.int 1)) addD) (two (slotD 9) (two (fun _ => .ok (.int 10)) (fun _ => .ok (.int 30)) powD) modD) mulE) addD)) L [s0, s1, s2, s3, s4, s5, s6, some (.val (.int a)), z8, z9] = .nxt [s0, s1, s2, s3, s4, s5, s6, some (.val (.int a')), z8', z9']
  | [], _, a, z8, z9 => ⟨a, z8, z9, for_stop⟩
  | d :: L, h, a, z8, z9 => by
    obtain ⟨i, c, hi, rfl⟩ := h d (by simp)
    obtain ⟨a', z8', z9', e⟩ := law_inner (s0 := s0) (s1 := s1) (s2 := s2) (s3 := s3) (s4 := s4) (s5 := s5) (s6 := s6) L (fun d hd => h d (List.mem_cons_of_mem _ hd)) (a + (2 * (i : Int) + 1) * Int.fmod c (10 ^ 30)) (some (.val (.int (i : Int)))) (some (.val (.int c)))
    refine ⟨a', z8', z9', Eq.trans (for_step (δ1 := [s0, s1, s2, s3, s4, s5, s6, some (.val (.int a)), some (.val (.int (i : Int))), some (.val (.int c))]) ?_ ?_) e⟩
    · rfl
    · have m1 : mulD (.int 2) (.int (i : Int)) = _ := mul64l (by decide)
      have pw : powD (.int 10) (.int 30) = .ok (.int (10 ^ 30)) := rfl
      have mo : modD (.int c) (.int (10 ^ 30)) = _ := modI (show (10 ^ 30 : Int) ≠ 0 by decide)
      have m2 : mulD (.int (2 * (i : Int) + 1)) (.int (Int.fmod c (10 ^ 30))) = _ := mul64l (by
        have e : (2 : Nat) ^ 20 = 1048576 := by decide
        exact Nat.lt_of_lt_of_le (show (2 * (i : Int) + 1).natAbs < 2 ^ 20 by omega) (by decide))
      push_cast [m1, pw, mo, m2]
theorem w_law (ns : List Int) (hl63 : ns.length ≤ 63) : F_law [.lst (ns.map .int)] = .ok (.bl true) := by
  obtain ⟨l, l3, hl⟩ := lev4 (cell ns 1)
  have c0 : F_law_cell [.lst (ns.map .int), .int 0] = _ := w_cell ns 0
  have c1 : F_law_cell [.lst (ns.map .int), .int 1] = _ := w_cell ns 1
  have m4 : modD (.int (cell ns 1)) (.int 4) = _ := modI (show (4 : Int) ≠ 0 by decide)
  rw [hl] at m4
  obtain ⟨rs, F, of, hs, T, rl, hr⟩ := w_scaf_t (cell ns 0) l l3
  subst rl
  have e8 := two_le8 l3
  have mi := many_ix rs.length l3
  have ln : lenG [RT rs] = .ok (.int (rs.length : Int)) := by
    show Res.ok (D.int ((rs.reverse.map TI).length : Int)) = _
    rw [List.length_map, List.length_reverse]
  have w1 : F_law_mixed [.int (cell ns 1), .int 1, .int 61] = _ := w_mixed (cell ns 1) 1 61 (by decide) (by decide)
  have w2 : F_law_mixed [.int (cell ns 1), .int 2, .int 2] = _ := w_mixed (cell ns 1) 2 2 (by decide) (by decide)
  have b1 := mix_bd (cell ns 1) 1 (m := 61) (by decide)
  have pl : ∃ p : Nat, p ≤ 60 ∧ (ifS (bindT (two (bindF (consD (slotD 1) (consD (fun _ => .ok (.int 2)) (consD (fun _ => .ok (.int 2)) (fun _ => .ok [])))) F_law_mixed) (fun _ => .ok (.int 0)) eqD) boolD) (setD 4 (two (slotD 4) (fun _ => .ok (.int 4)) modD)) Out.nxt) [some (.arg (.lst (ns.map .int))), some (.val (.int (cell ns 1))), some (.val (RT rs)), some (.val (.int ((2 ^ rs.length : Nat) : Int))), some (.val (.int (mix (cell ns 1) 1 61))), none, none, none, none, none] = .nxt [some (.arg (.lst (ns.map .int))), some (.val (.int (cell ns 1))), some (.val (RT rs)), some (.val (.int ((2 ^ rs.length : Nat) : Int))), some (.val (.int (p : Int))), none, none, none, none, none] := by
    by_cases q : mix (cell ns 1) 2 2 = 0
    · have a := Int.fmod_nonneg_of_pos (mix (cell ns 1) 1 61) (b := 4) (by decide)
      have b := Int.fmod_lt_of_pos (mix (cell ns 1) 1 61) (b := 4) (by decide)
      have mo : modD (.int (mix (cell ns 1) 1 61)) (.int 4) = _ := modI (show (4 : Int) ≠ 0 by decide)
      obtain ⟨p, hp⟩ := Int.eq_ofNat_of_zero_le a
      have hp' : Int.fmod (mix (cell ns 1) 1 61) 4 = (p : Int) := hp
      rw [hp'] at mo
      exact ⟨p, by omega, by push_cast [w2, q, mo]⟩
    · obtain ⟨p, hp⟩ := Int.eq_ofNat_of_zero_le b1.1
      have hp' : mix (cell ns 1) 1 61 = (p : Int) := hp
      exact ⟨p, by omega, by push_cast [w2, q, hp']⟩
  obtain ⟨p, hp, pl⟩ := pl
  have stp : ∃ st : Nat, 0 < st ∧ st ≤ 7 ∧ ixD (.lst [.int 7, .int 4, .int 2, .int 1]) (.int (rs.length : Int)) = .ok (.int (st : Int)) := by
    have : rs.length = 0 ∨ rs.length = 1 ∨ rs.length = 2 ∨ rs.length = 3 := by omega
    rcases this with z | z | z | z <;> rw [z]
    · exact ⟨7, by decide, by decide, ix_lst0 _ _⟩
    · exact ⟨4, by decide, by decide, ix_lst1 _ _ _⟩
    · exact ⟨2, by decide, by decide, ix_lst2 _ _ _ _⟩
    · exact ⟨1, by decide, by decide, ix_lst3 _ _ _ _ _⟩
  obtain ⟨st, sp0, sp7, ist⟩ := stp
  have rg := rng_nat st (by omega)
  have cp : compD 1 [0, 5] (tgtN 0) (stepF (slotD 1) (partF (two (fun _ => .ok (.int 2)) (slotD 0) addD)) (partF (fun _ => .ok (.int 64))) (partF (slotD 2))) (bindRg (consD (slotD 5) (fun _ => .ok [])) rng1) [some (.arg (.lst (ns.map .int))), some (.val (.int (cell ns 1))), some (.val (RT rs)), some (.val (.int ((2 ^ rs.length : Nat) : Int))), some (.val (.int (p : Int))), some (.val (.int (st : Int))), none, none, none, none] = .ok (.lst (((List.range st).map fun (k : Nat) => (k : Int)).map fun t => .lst ((stepL ns (some (2 + t)) (some 64) st).map .int))) := by
    refine comp_ints (rest := [some (.arg (.lst (ns.map .int))), some (.arg (.int (st : Int)))]) (rngF (ds := [.int (st : Int)]) rfl rg) rfl (by simp only [List.length_map, List.length_range]; exact Nat.le_trans sp7 (by decide)) fun t ht => ?_
    have sd : stepD (.lst (ns.map .int)) (some (2 + t)) (some 64) (some (st : Int)) = .ok (.lst ((stepL ns (some (2 + t)) (some 64) st).map .int)) := by
      show (if 1 ≤ (st : Int) then Res.ok (D.lst (stepL (ns.map D.int) (some (2 + t)) (some 64) (st : Int).toNat)) else .stuck) = _
      rw [if_pos (by omega), Int.toNat_natCast, stepL_map]
    push_cast [ap_step, sd]
  have tho : ∀ δ, thawO (Out.nxt δ) = .nxt (δ.map (Option.map thaw2)) := fun _ => rfl
  have lp := for_keep (t := tgtN 6) (b := (seqD (setD 7 (fun _ => .ok (.int 0))) (seqD (forS (tupTgt [8, 9]) (bindRg (consD (slotD 6) (fun _ => .ok [])) enumG) (setD 7 (two (slotD 7) (two (two (two (fun _ => .ok (.int 2)) (slotD 8) mulE) (fun _ => .ok (.int 1)) addD) (two (slotD 9) (two (fun _ => .ok (.int 10)) (fun _ => .ok (.int 30)) powD) modD) mulE) addD))) (ifS (notT (bindT (bindF (consD (slotD 2) (consD (bindF (consD (slotD 7) (consD (slotD 3) (fun _ => .ok []))) F_law_drawn_2) (consD (slotD 4) (fun _ => .ok [])))) F_law_holds) truthD)) (retD (fun _ => .ok (.bl false))) Out.nxt)))) (P := fun δ => ∃ z6 z7 z8 z9, δ = [some (SV.val (.lst (ns.map .int))), some (.val (.int (cell ns 1))), some (.val (RT rs)), some (.val (.int ((2 ^ rs.length : Nat) : Int))), some (.val (.int (p : Int))), some (.val (.int (st : Int))), z6, z7, z8, z9])
    (((List.range st).map fun (k : Nat) => (k : Int)).map fun t => .lst ((stepL ns (some (2 + t)) (some 64) st).map .int)) (fun d hd δ hδ => by
      obtain ⟨z6, z7, z8, z9, rfl⟩ := hδ
      obtain ⟨t, _, rfl⟩ := List.mem_map.mp hd
      have sl := stepL_len ns (some (2 + t)) (some 64) (k := st) sp0
      generalize stepL ns (some (2 + t)) (some 64) st = ts at *
      obtain ⟨a', y8, y9, e⟩ := law_inner (s0 := some (.val (.lst (ns.map .int)))) (s1 := some (.val (.int (cell ns 1)))) (s2 := some (.val (RT rs))) (s3 := some (.val (.int ((2 ^ rs.length : Nat) : Int)))) (s4 := some (.val (.int (p : Int)))) (s5 := some (.val (.int (st : Int)))) (s6 := some (.val (.lst (ts.map .int)))) (enumD (ts.map .int)) (fun d hd => by
        obtain ⟨i, c, hi, e⟩ := enum_mem hd
        exact ⟨i, c, by omega, e⟩) 0 (z8.map thaw1) (z9.map thaw1)
      obtain ⟨d, v, ed, hd⟩ := drawn2_nm T l3 a'
      obtain ⟨x, b, rfl, nx, lx, bx, bb, _⟩ := hd
      have ho := w_holds T l3 hr lx bx nx.pos bb hp
      have en : enumG [.lst (ts.map .int)] = .ok (enumD (ts.map .int)) := rfl
      have th : thaw [some (SV.val (.lst (ns.map .int))), some (.val (.int (cell ns 1))), some (.val (RT rs)), some (.val (.int ((2 ^ rs.length : Nat) : Int))), some (.val (.int (p : Int))), some (.val (.int (st : Int))), some (.val (.lst (ts.map .int))), some (.val (.int 0)), z8, z9] = [some (SV.val (.lst (ns.map .int))), some (.val (.int (cell ns 1))), some (.val (RT rs)), some (.val (.int ((2 ^ rs.length : Nat) : Int))), some (.val (.int (p : Int))), some (.val (.int (st : Int))), some (.val (.lst (ts.map .int))), some (.val (.int 0)), z8.map thaw1, z9.map thaw1] := rfl
      have to : thawO (.nxt [some (SV.val (.lst (ns.map .int))), some (.val (.int (cell ns 1))), some (.val (RT rs)), some (.val (.int ((2 ^ rs.length : Nat) : Int))), some (.val (.int (p : Int))), some (.val (.int (st : Int))), some (.val (.lst (ts.map .int))), some (.val (.int a')), y8, y9]) = .nxt [some (SV.val (.lst (ns.map .int))), some (.val (.int (cell ns 1))), some (.val (RT rs)), some (.val (.int ((2 ^ rs.length : Nat) : Int))), some (.val (.int (p : Int))), some (.val (.int (st : Int))), some (.val (.lst (ts.map .int))), some (.val (.int a')), y8.map thaw2, y9.map thaw2] := rfl
      refine ⟨[some (SV.val (.lst (ns.map .int))), some (.val (.int (cell ns 1))), some (.val (RT rs)), some (.val (.int ((2 ^ rs.length : Nat) : Int))), some (.val (.int (p : Int))), some (.val (.int (st : Int))), some (.val (.lst (ts.map .int))), z7, z8, z9], [some (SV.val (.lst (ns.map .int))), some (.val (.int (cell ns 1))), some (.val (RT rs)), some (.val (.int ((2 ^ rs.length : Nat) : Int))), some (.val (.int (p : Int))), some (.val (.int (st : Int))), some (.val (.lst (ts.map .int))), some (.val (.int a')), y8.map thaw2, y9.map thaw2], rfl, ?_, _, _, _, _, rfl⟩
      generalize RT rs = G at *
      push_cast [en, th, e, to, ed, ho]) [some (SV.val (.lst (ns.map .int))), some (.val (.int (cell ns 1))), some (.val (RT rs)), some (.val (.int ((2 ^ rs.length : Nat) : Int))), some (.val (.int (p : Int))), some (.val (.int (st : Int))), none, none, none, none] ⟨_, _, _, _, rfl⟩
  obtain ⟨δ', el, _⟩ := lp
  have th0 : thaw [some (SV.arg (.lst (ns.map .int))), some (.val (.int (cell ns 1))), some (.val (RT rs)), some (.val (.int ((2 ^ rs.length : Nat) : Int))), some (.val (.int (p : Int))), some (.val (.int (st : Int))), none, none, none, none] = [some (SV.val (.lst (ns.map .int))), some (.val (.int (cell ns 1))), some (.val (RT rs)), some (.val (.int ((2 ^ rs.length : Nat) : Int))), some (.val (.int (p : Int))), some (.val (.int (st : Int))), none, none, none, none] := rfl
  show outD (b_law [some (.arg (.lst (ns.map .int))), none, none, none, none, none, none, none, none, none]) = _
  unfold b_law
  generalize RT rs = G at *
  have t0 : (setD 1 (bindF (consD (slotD 0) (consD (fun _ => .ok (.int 1)) (fun _ => .ok []))) F_law_cell)) [some (.arg (.lst (ns.map .int))), none, none, none, none, none, none, none, none, none] = .nxt [some (.arg (.lst (ns.map .int))), some (.val (.int (cell ns 1))), none, none, none, none, none, none, none, none] := by push_cast [c1]
  have t1 : (setD 2 (bindF (consD (bindF (consD (slotD 0) (consD (fun _ => .ok (.int 0)) (fun _ => .ok []))) F_law_cell) (consD (two (slotD 1) (fun _ => .ok (.int 4)) modD) (fun _ => .ok []))) F_law_scaffold)) [some (.arg (.lst (ns.map .int))), some (.val (.int (cell ns 1))), none, none, none, none, none, none, none, none] = .nxt [some (.arg (.lst (ns.map .int))), some (.val (.int (cell ns 1))), some (.val G), none, none, none, none, none, none, none] := by push_cast [c0, m4, hs]
  have t2 : (setD 3 (two (lstF (consD (fun _ => .ok (.int 1)) (consD (fun _ => .ok (.int 2)) (consD (fun _ => .ok (.int 4)) (consD (fun _ => .ok (.int 8)) (fun _ => .ok [])))))) (bindF (consD (slotD 2) (fun _ => .ok [])) lenG) ixD)) [some (.arg (.lst (ns.map .int))), some (.val (.int (cell ns 1))), some (.val G), none, none, none, none, none, none, none] = .nxt [some (.arg (.lst (ns.map .int))), some (.val (.int (cell ns 1))), some (.val G), some (.val (.int ((2 ^ rs.length : Nat) : Int))), none, none, none, none, none, none] := by push_cast [ln, mi]
  have t3 : (setD 4 (bindF (consD (slotD 1) (consD (fun _ => .ok (.int 1)) (consD (fun _ => .ok (.int 61)) (fun _ => .ok [])))) F_law_mixed)) [some (.arg (.lst (ns.map .int))), some (.val (.int (cell ns 1))), some (.val G), some (.val (.int ((2 ^ rs.length : Nat) : Int))), none, none, none, none, none, none] = .nxt [some (.arg (.lst (ns.map .int))), some (.val (.int (cell ns 1))), some (.val G), some (.val (.int ((2 ^ rs.length : Nat) : Int))), some (.val (.int (mix (cell ns 1) 1 61))), none, none, none, none, none] := by push_cast [w1]
  have t5 : (setD 5 (two (lstF (consD (fun _ => .ok (.int 7)) (consD (fun _ => .ok (.int 4)) (consD (fun _ => .ok (.int 2)) (consD (fun _ => .ok (.int 1)) (fun _ => .ok [])))))) (bindF (consD (slotD 2) (fun _ => .ok [])) lenG) ixD)) [some (.arg (.lst (ns.map .int))), some (.val (.int (cell ns 1))), some (.val G), some (.val (.int ((2 ^ rs.length : Nat) : Int))), some (.val (.int (p : Int))), none, none, none, none, none] = .nxt [some (.arg (.lst (ns.map .int))), some (.val (.int (cell ns 1))), some (.val G), some (.val (.int ((2 ^ rs.length : Nat) : Int))), some (.val (.int (p : Int))), some (.val (.int (st : Int))), none, none, none, none] := by push_cast [ln, ist]
  rw [ap_seq, t0, sq_nxt, ap_seq, t1, sq_nxt, ap_seq, t2, sq_nxt, ap_seq, t3, sq_nxt, ap_seq, pl, sq_nxt, ap_seq, t5, sq_nxt]
  push_cast [cp, th0, el, tho]
theorem reps_ints {K : PySem.W.Frag} {H : Hp} : ∀ ns : List Int, Reps K H (ns.map .int) (ns.map V.int)
  | [] => .nil
  | n :: ns => .cons mkI (reps_ints ns)
end K12
set_option Elab.async false
set_option linter.all false
set_option maxRecDepth 100000
set_option maxHeartbeats 4000000
namespace K12
open PySem PySem.Spec PyProof.Rows L2 DL
theorem all_mk {l : PySem.W.OpenLaw} {w : World} {K : PySem.W.Frag} {h : Heap} {mg : Str → Option Value} {fa c_HallError c_Below f_ten_times_itself f_whole_root f_front_tops f_behind_tops f_law_cell f_law_whole f_law_mixed f_law_added f_law_scaled f_law_common f_law_scaffold f_law_lowest f_law_drawn_2 f_law_tops_times f_bounds f_law_sign_of f_floors_around f_root_bounds f_law_side f_floor_at f_law_holds f_law : Addr} (X : K.In h) (G : h.Ns mainGlobals mg) (hfa : mg "law" = some (.ref fa))
    {t_FIRST_BITS : Tok}
    {od_ten_times_itself an_ten_times_itself od_whole_root an_whole_root od_front_tops an_front_tops od_behind_tops an_behind_tops od_law_cell an_law_cell od_law_whole an_law_whole od_law_mixed an_law_mixed od_law_added an_law_added od_law_scaled an_law_scaled od_law_common an_law_common od_law_scaffold an_law_scaffold od_law_lowest an_law_lowest od_law_drawn_2 an_law_drawn_2 od_law_tops_times an_law_tops_times od_bounds an_bounds od_law_sign_of an_law_sign_of od_floors_around an_floors_around od_root_bounds an_root_bounds od_law_side an_law_side od_floor_at an_floor_at od_law_holds an_law_holds od_law an_law odT_floor_at : Option Addr} {sl_ten_times_itself sl_whole_root sl_front_tops sl_behind_tops sl_law_cell sl_law_whole sl_law_mixed sl_law_added sl_law_scaled sl_law_common sl_law_scaffold sl_law_lowest sl_law_drawn_2 sl_law_tops_times sl_bounds sl_law_sign_of sl_floors_around sl_root_bounds sl_law_side sl_floor_at sl_law_holds sl_law slT_floor_at : Array (Option Value)} {oc_ten_times_itself kV_ten_times_itself dc_ten_times_itself pm_ten_times_itself cd_ten_times_itself ct_ten_times_itself oc_whole_root kV_whole_root dc_whole_root pm_whole_root cd_whole_root ct_whole_root oc_front_tops kV_front_tops dc_front_tops pm_front_tops cd_front_tops ct_front_tops oc_behind_tops kV_behind_tops dc_behind_tops pm_behind_tops cd_behind_tops ct_behind_tops oc_law_cell kV_law_cell dc_law_cell pm_law_cell cd_law_cell ct_law_cell oc_law_whole kV_law_whole dc_law_whole pm_law_whole cd_law_whole ct_law_whole oc_law_mixed kV_law_mixed dc_law_mixed pm_law_mixed cd_law_mixed ct_law_mixed oc_law_added kV_law_added dc_law_added pm_law_added cd_law_added ct_law_added oc_law_scaled kV_law_scaled dc_law_scaled pm_law_scaled cd_law_scaled ct_law_scaled oc_law_common kV_law_common dc_law_common pm_law_common cd_law_common ct_law_common oc_law_scaffold kV_law_scaffold dc_law_scaffold pm_law_scaffold cd_law_scaffold ct_law_scaffold oc_law_lowest kV_law_lowest dc_law_lowest pm_law_lowest cd_law_lowest ct_law_lowest oc_law_drawn_2 kV_law_drawn_2 dc_law_drawn_2 pm_law_drawn_2 cd_law_drawn_2 ct_law_drawn_2 oc_law_tops_times kV_law_tops_times dc_law_tops_times pm_law_tops_times cd_law_tops_times ct_law_tops_times oc_bounds kV_bounds dc_bounds pm_bounds cd_bounds ct_bounds oc_law_sign_of kV_law_sign_of dc_law_sign_of pm_law_sign_of cd_law_sign_of ct_law_sign_of oc_floors_around kV_floors_around dc_floors_around pm_floors_around cd_floors_around ct_floors_around oc_root_bounds kV_root_bounds dc_root_bounds pm_root_bounds cd_root_bounds ct_root_bounds oc_law_side kV_law_side dc_law_side pm_law_side cd_law_side ct_law_side oc_floor_at kV_floor_at dc_floor_at pm_floor_at cd_floor_at ct_floor_at oc_law_holds kV_law_holds dc_law_holds pm_law_holds cd_law_holds ct_law_holds oc_law kV_law dc_law pm_law cd_law ct_law ocT_floor_at : Value}
    {dV_floor_at : Tok}
    {T_floor_at : Addr} {nT_floor_at : Nat}
    (n_HallError : PySem.W.nsIn K mainGlobals "HallError" = some (some (.ref c_HallError)))
    (x_HallError : PySem.W.excIn K c_HallError [.type "ValueError", .type "Exception", .type "BaseException", .type "object"] "ValueError.__new__" = true)
    (n_Below : PySem.W.nsIn K mainGlobals "Below" = some (some (.ref c_Below)))
    (x_Below : PySem.W.excIn K c_Below [.type "ValueError", .type "Exception", .type "BaseException", .type "object"] "ValueError.__new__" = true)
    (n_ten_times_itself : PySem.W.nsIn K mainGlobals "ten_times_itself" = some (some (.ref f_ten_times_itself)))
    (l_ten_times_itself : K.lookup f_ten_times_itself = some ⟨oc_ten_times_itself, od_ten_times_itself, .func (PySem.W.fnOf "ten_times_itself" "ten_times_itself" (defArgs st_ten_times_itself) (defBody st_ten_times_itself) (defScope st_ten_times_itself) .none kV_ten_times_itself dc_ten_times_itself pm_ten_times_itself an_ten_times_itself cd_ten_times_itself ct_ten_times_itself), sl_ten_times_itself⟩)
    (c_ten_times_itself : PySem.W.codeIn K cd_ten_times_itself "ten_times_itself" = true)
    (k_ten_times_itself : PySem.W.keepIn K (.ref f_ten_times_itself) = true)
    (n_whole_root : PySem.W.nsIn K mainGlobals "whole_root" = some (some (.ref f_whole_root)))
    (l_whole_root : K.lookup f_whole_root = some ⟨oc_whole_root, od_whole_root, .func (PySem.W.fnOf "whole_root" "whole_root" (defArgs st_whole_root) (defBody st_whole_root) (defScope st_whole_root) .none kV_whole_root dc_whole_root pm_whole_root an_whole_root cd_whole_root ct_whole_root), sl_whole_root⟩)
    (c_whole_root : PySem.W.codeIn K cd_whole_root "whole_root" = true)
    (k_whole_root : PySem.W.keepIn K (.ref f_whole_root) = true)
    (n_front_tops : PySem.W.nsIn K mainGlobals "front_tops" = some (some (.ref f_front_tops)))
    (l_front_tops : K.lookup f_front_tops = some ⟨oc_front_tops, od_front_tops, .func (PySem.W.fnOf "front_tops" "front_tops" (defArgs st_front_tops) (defBody st_front_tops) (defScope st_front_tops) .none kV_front_tops dc_front_tops pm_front_tops an_front_tops cd_front_tops ct_front_tops), sl_front_tops⟩)
    (c_front_tops : PySem.W.codeIn K cd_front_tops "front_tops" = true)
    (k_front_tops : PySem.W.keepIn K (.ref f_front_tops) = true)
    (n_behind_tops : PySem.W.nsIn K mainGlobals "behind_tops" = some (some (.ref f_behind_tops)))
    (l_behind_tops : K.lookup f_behind_tops = some ⟨oc_behind_tops, od_behind_tops, .func (PySem.W.fnOf "behind_tops" "behind_tops" (defArgs st_behind_tops) (defBody st_behind_tops) (defScope st_behind_tops) .none kV_behind_tops dc_behind_tops pm_behind_tops an_behind_tops cd_behind_tops ct_behind_tops), sl_behind_tops⟩)
    (c_behind_tops : PySem.W.codeIn K cd_behind_tops "behind_tops" = true)
    (k_behind_tops : PySem.W.keepIn K (.ref f_behind_tops) = true)
    (n_law_cell : PySem.W.nsIn K mainGlobals "_law_cell" = some (some (.ref f_law_cell)))
    (l_law_cell : K.lookup f_law_cell = some ⟨oc_law_cell, od_law_cell, .func (PySem.W.fnOf "_law_cell" "_law_cell" (defArgs st_law_cell) (defBody st_law_cell) (defScope st_law_cell) .none kV_law_cell dc_law_cell pm_law_cell an_law_cell cd_law_cell ct_law_cell), sl_law_cell⟩)
    (c_law_cell : PySem.W.codeIn K cd_law_cell "_law_cell" = true)
    (k_law_cell : PySem.W.keepIn K (.ref f_law_cell) = true)
    (n_law_whole : PySem.W.nsIn K mainGlobals "_law_whole" = some (some (.ref f_law_whole)))
    (l_law_whole : K.lookup f_law_whole = some ⟨oc_law_whole, od_law_whole, .func (PySem.W.fnOf "_law_whole" "_law_whole" (defArgs st_law_whole) (defBody st_law_whole) (defScope st_law_whole) .none kV_law_whole dc_law_whole pm_law_whole an_law_whole cd_law_whole ct_law_whole), sl_law_whole⟩)
    (c_law_whole : PySem.W.codeIn K cd_law_whole "_law_whole" = true)
    (k_law_whole : PySem.W.keepIn K (.ref f_law_whole) = true)
    (n_law_mixed : PySem.W.nsIn K mainGlobals "_law_mixed" = some (some (.ref f_law_mixed)))
    (l_law_mixed : K.lookup f_law_mixed = some ⟨oc_law_mixed, od_law_mixed, .func (PySem.W.fnOf "_law_mixed" "_law_mixed" (defArgs st_law_mixed) (defBody st_law_mixed) (defScope st_law_mixed) .none kV_law_mixed dc_law_mixed pm_law_mixed an_law_mixed cd_law_mixed ct_law_mixed), sl_law_mixed⟩)
    (c_law_mixed : PySem.W.codeIn K cd_law_mixed "_law_mixed" = true)
    (k_law_mixed : PySem.W.keepIn K (.ref f_law_mixed) = true)
    (n_law_added : PySem.W.nsIn K mainGlobals "_law_added" = some (some (.ref f_law_added)))
    (l_law_added : K.lookup f_law_added = some ⟨oc_law_added, od_law_added, .func (PySem.W.fnOf "_law_added" "_law_added" (defArgs st_law_added) (defBody st_law_added) (defScope st_law_added) .none kV_law_added dc_law_added pm_law_added an_law_added cd_law_added ct_law_added), sl_law_added⟩)
    (c_law_added : PySem.W.codeIn K cd_law_added "_law_added" = true)
    (k_law_added : PySem.W.keepIn K (.ref f_law_added) = true)
    (n_law_scaled : PySem.W.nsIn K mainGlobals "_law_scaled" = some (some (.ref f_law_scaled)))
    (l_law_scaled : K.lookup f_law_scaled = some ⟨oc_law_scaled, od_law_scaled, .func (PySem.W.fnOf "_law_scaled" "_law_scaled" (defArgs st_law_scaled) (defBody st_law_scaled) (defScope st_law_scaled) .none kV_law_scaled dc_law_scaled pm_law_scaled an_law_scaled cd_law_scaled ct_law_scaled), sl_law_scaled⟩)
    (c_law_scaled : PySem.W.codeIn K cd_law_scaled "_law_scaled" = true)
    (k_law_scaled : PySem.W.keepIn K (.ref f_law_scaled) = true)
    (n_law_common : PySem.W.nsIn K mainGlobals "_law_common" = some (some (.ref f_law_common)))
    (l_law_common : K.lookup f_law_common = some ⟨oc_law_common, od_law_common, .func (PySem.W.fnOf "_law_common" "_law_common" (defArgs st_law_common) (defBody st_law_common) (defScope st_law_common) .none kV_law_common dc_law_common pm_law_common an_law_common cd_law_common ct_law_common), sl_law_common⟩)
    (c_law_common : PySem.W.codeIn K cd_law_common "_law_common" = true)
    (k_law_common : PySem.W.keepIn K (.ref f_law_common) = true)
    (n_law_scaffold : PySem.W.nsIn K mainGlobals "_law_scaffold" = some (some (.ref f_law_scaffold)))
    (l_law_scaffold : K.lookup f_law_scaffold = some ⟨oc_law_scaffold, od_law_scaffold, .func (PySem.W.fnOf "_law_scaffold" "_law_scaffold" (defArgs st_law_scaffold) (defBody st_law_scaffold) (defScope st_law_scaffold) .none kV_law_scaffold dc_law_scaffold pm_law_scaffold an_law_scaffold cd_law_scaffold ct_law_scaffold), sl_law_scaffold⟩)
    (c_law_scaffold : PySem.W.codeIn K cd_law_scaffold "_law_scaffold" = true)
    (k_law_scaffold : PySem.W.keepIn K (.ref f_law_scaffold) = true)
    (n_law_lowest : PySem.W.nsIn K mainGlobals "_law_lowest" = some (some (.ref f_law_lowest)))
    (l_law_lowest : K.lookup f_law_lowest = some ⟨oc_law_lowest, od_law_lowest, .func (PySem.W.fnOf "_law_lowest" "_law_lowest" (defArgs st_law_lowest) (defBody st_law_lowest) (defScope st_law_lowest) .none kV_law_lowest dc_law_lowest pm_law_lowest an_law_lowest cd_law_lowest ct_law_lowest), sl_law_lowest⟩)
    (c_law_lowest : PySem.W.codeIn K cd_law_lowest "_law_lowest" = true)
    (k_law_lowest : PySem.W.keepIn K (.ref f_law_lowest) = true)
    (n_law_drawn_2 : PySem.W.nsIn K mainGlobals "_law_drawn" = some (some (.ref f_law_drawn_2)))
    (l_law_drawn_2 : K.lookup f_law_drawn_2 = some ⟨oc_law_drawn_2, od_law_drawn_2, .func (PySem.W.fnOf "_law_drawn" "_law_drawn" (defArgs st_law_drawn_2) (defBody st_law_drawn_2) (defScope st_law_drawn_2) .none kV_law_drawn_2 dc_law_drawn_2 pm_law_drawn_2 an_law_drawn_2 cd_law_drawn_2 ct_law_drawn_2), sl_law_drawn_2⟩)
    (c_law_drawn_2 : PySem.W.codeIn K cd_law_drawn_2 "_law_drawn" = true)
    (k_law_drawn_2 : PySem.W.keepIn K (.ref f_law_drawn_2) = true)
    (n_law_tops_times : PySem.W.nsIn K mainGlobals "_law_tops_times" = some (some (.ref f_law_tops_times)))
    (l_law_tops_times : K.lookup f_law_tops_times = some ⟨oc_law_tops_times, od_law_tops_times, .func (PySem.W.fnOf "_law_tops_times" "_law_tops_times" (defArgs st_law_tops_times) (defBody st_law_tops_times) (defScope st_law_tops_times) .none kV_law_tops_times dc_law_tops_times pm_law_tops_times an_law_tops_times cd_law_tops_times ct_law_tops_times), sl_law_tops_times⟩)
    (c_law_tops_times : PySem.W.codeIn K cd_law_tops_times "_law_tops_times" = true)
    (k_law_tops_times : PySem.W.keepIn K (.ref f_law_tops_times) = true)
    (n_bounds : PySem.W.nsIn K mainGlobals "bounds" = some (some (.ref f_bounds)))
    (l_bounds : K.lookup f_bounds = some ⟨oc_bounds, od_bounds, .func (PySem.W.fnOf "bounds" "bounds" (defArgs st_bounds) (defBody st_bounds) (defScope st_bounds) .none kV_bounds dc_bounds pm_bounds an_bounds cd_bounds ct_bounds), sl_bounds⟩)
    (c_bounds : PySem.W.codeIn K cd_bounds "bounds" = true)
    (k_bounds : PySem.W.keepIn K (.ref f_bounds) = true)
    (n_law_sign_of : PySem.W.nsIn K mainGlobals "_law_sign_of" = some (some (.ref f_law_sign_of)))
    (l_law_sign_of : K.lookup f_law_sign_of = some ⟨oc_law_sign_of, od_law_sign_of, .func (PySem.W.fnOf "_law_sign_of" "_law_sign_of" (defArgs st_law_sign_of) (defBody st_law_sign_of) (defScope st_law_sign_of) .none kV_law_sign_of dc_law_sign_of pm_law_sign_of an_law_sign_of cd_law_sign_of ct_law_sign_of), sl_law_sign_of⟩)
    (c_law_sign_of : PySem.W.codeIn K cd_law_sign_of "_law_sign_of" = true)
    (k_law_sign_of : PySem.W.keepIn K (.ref f_law_sign_of) = true)
    (n_floors_around : PySem.W.nsIn K mainGlobals "floors_around" = some (some (.ref f_floors_around)))
    (l_floors_around : K.lookup f_floors_around = some ⟨oc_floors_around, od_floors_around, .func (PySem.W.fnOf "floors_around" "floors_around" (defArgs st_floors_around) (defBody st_floors_around) (defScope st_floors_around) .none kV_floors_around dc_floors_around pm_floors_around an_floors_around cd_floors_around ct_floors_around), sl_floors_around⟩)
    (c_floors_around : PySem.W.codeIn K cd_floors_around "floors_around" = true)
    (k_floors_around : PySem.W.keepIn K (.ref f_floors_around) = true)
    (n_root_bounds : PySem.W.nsIn K mainGlobals "root_bounds" = some (some (.ref f_root_bounds)))
    (l_root_bounds : K.lookup f_root_bounds = some ⟨oc_root_bounds, od_root_bounds, .func (PySem.W.fnOf "root_bounds" "root_bounds" (defArgs st_root_bounds) (defBody st_root_bounds) (defScope st_root_bounds) .none kV_root_bounds dc_root_bounds pm_root_bounds an_root_bounds cd_root_bounds ct_root_bounds), sl_root_bounds⟩)
    (c_root_bounds : PySem.W.codeIn K cd_root_bounds "root_bounds" = true)
    (k_root_bounds : PySem.W.keepIn K (.ref f_root_bounds) = true)
    (n_law_side : PySem.W.nsIn K mainGlobals "_law_side" = some (some (.ref f_law_side)))
    (l_law_side : K.lookup f_law_side = some ⟨oc_law_side, od_law_side, .func (PySem.W.fnOf "_law_side" "_law_side" (defArgs st_law_side) (defBody st_law_side) (defScope st_law_side) .none kV_law_side dc_law_side pm_law_side an_law_side cd_law_side ct_law_side), sl_law_side⟩)
    (c_law_side : PySem.W.codeIn K cd_law_side "_law_side" = true)
    (k_law_side : PySem.W.keepIn K (.ref f_law_side) = true)
    (n_floor_at : PySem.W.nsIn K mainGlobals "floor_at" = some (some (.ref f_floor_at)))
    (l_floor_at : K.lookup f_floor_at = some ⟨oc_floor_at, od_floor_at, .func (PySem.W.fnOf "floor_at" "floor_at" (defArgs st_floor_at) (defBody st_floor_at) (defScope st_floor_at) (.ref T_floor_at) kV_floor_at dc_floor_at pm_floor_at an_floor_at cd_floor_at ct_floor_at), sl_floor_at⟩)
    (d_floor_at : K.lookup T_floor_at = some ⟨ocT_floor_at, odT_floor_at, .seq #[(.int 0 dV_floor_at)] nT_floor_at, slT_floor_at⟩)
    (c_floor_at : PySem.W.codeIn K cd_floor_at "floor_at" = true)
    (k_floor_at : PySem.W.keepIn K (.ref f_floor_at) = true)
    (n_law_holds : PySem.W.nsIn K mainGlobals "_law_holds" = some (some (.ref f_law_holds)))
    (l_law_holds : K.lookup f_law_holds = some ⟨oc_law_holds, od_law_holds, .func (PySem.W.fnOf "_law_holds" "_law_holds" (defArgs st_law_holds) (defBody st_law_holds) (defScope st_law_holds) .none kV_law_holds dc_law_holds pm_law_holds an_law_holds cd_law_holds ct_law_holds), sl_law_holds⟩)
    (c_law_holds : PySem.W.codeIn K cd_law_holds "_law_holds" = true)
    (k_law_holds : PySem.W.keepIn K (.ref f_law_holds) = true)
    (n_law : PySem.W.nsIn K mainGlobals "law" = some (some (.ref f_law)))
    (l_law : K.lookup f_law = some ⟨oc_law, od_law, .func (PySem.W.fnOf "law" "law" (defArgs st_law) (defBody st_law) (defScope st_law) .none kV_law dc_law pm_law an_law cd_law ct_law), sl_law⟩)
    (c_law : PySem.W.codeIn K cd_law "law" = true)
    (k_law : PySem.W.keepIn K (.ref f_law) = true)
    (n_FIRST_BITS : PySem.W.nsIn K mainGlobals "FIRST_BITS" = some (some (.int 64 t_FIRST_BITS)))
    (z_abs : PySem.W.nsIn K mainGlobals "abs" = some none)
    (z_bool : PySem.W.nsIn K mainGlobals "bool" = some none)
    (z_enumerate : PySem.W.nsIn K mainGlobals "enumerate" = some none)
    (z_int : PySem.W.nsIn K mainGlobals "int" = some none)
    (z_isinstance : PySem.W.nsIn K mainGlobals "isinstance" = some none)
    (z_len : PySem.W.nsIn K mainGlobals "len" = some none)
    (z_max : PySem.W.nsIn K mainGlobals "max" = some none)
    (z_range : PySem.W.nsIn K mainGlobals "range" = some none)
    (z_tuple : PySem.W.nsIn K mainGlobals "tuple" = some none)
    (z_zip : PySem.W.nsIn K mainGlobals "zip" = some none)
    (e4 : PySem.W.specialIn K (.builtin "object.__class__") "__get__" = some (some (.builtin "getset_descriptor.__get__")))
    (e5 : PySem.W.takesIn K (.builtin "object.__class__") = some true)
    (i_int_int : PySem.W.kitOne K (.type "int") (.type "int") = some true)
    (i_bool_int : PySem.W.kitOne K (.type "bool") (.type "int") = some true)
    (i_NoneType_int : PySem.W.kitOne K (.type "NoneType") (.type "int") = some false)
    (i_str_int : PySem.W.kitOne K (.type "str") (.type "int") = some false)
    (i_tuple_int : PySem.W.kitOne K (.type "tuple") (.type "int") = some false)
    (i_list_int : PySem.W.kitOne K (.type "list") (.type "int") = some false)
    (i_int_bool : PySem.W.kitOne K (.type "int") (.type "bool") = some false)
    (i_bool_bool : PySem.W.kitOne K (.type "bool") (.type "bool") = some true)
    (i_NoneType_bool : PySem.W.kitOne K (.type "NoneType") (.type "bool") = some false)
    (i_str_bool : PySem.W.kitOne K (.type "str") (.type "bool") = some false)
    (i_tuple_bool : PySem.W.kitOne K (.type "tuple") (.type "bool") = some false)
    (i_list_bool : PySem.W.kitOne K (.type "list") (.type "bool") = some false)
    : ∃ fd : FuncData, (∀ (s : Shared) (v : Value), BindsTo s fd ⟨[v], []⟩ [("_law_script", v)]) ∧ ∀ base : Heap, K.In base → base.Ns mainGlobals mg → FnOk l.prog w K mg base (CX1 l.prog w) 13 fa fd ["_law_script"] (spD K F_law) := by
  have e := hfa.symm.trans (PySem.W.mg_of X G n_law)
  cases e
  have F_ten_times_itself := fun_mk (st := st_ten_times_itself) l_ten_times_itself c_ten_times_itself k_ten_times_itself
  have F_whole_root := fun_mk (st := st_whole_root) l_whole_root c_whole_root k_whole_root
  have F_front_tops := fun_mk (st := st_front_tops) l_front_tops c_front_tops k_front_tops
  have F_behind_tops := fun_mk (st := st_behind_tops) l_behind_tops c_behind_tops k_behind_tops
  have F_law_cell := fun_mk (st := st_law_cell) l_law_cell c_law_cell k_law_cell
  have F_law_whole := fun_mk (st := st_law_whole) l_law_whole c_law_whole k_law_whole
  have F_law_mixed := fun_mk (st := st_law_mixed) l_law_mixed c_law_mixed k_law_mixed
  have F_law_added := fun_mk (st := st_law_added) l_law_added c_law_added k_law_added
  have F_law_scaled := fun_mk (st := st_law_scaled) l_law_scaled c_law_scaled k_law_scaled
  have F_law_common := fun_mk (st := st_law_common) l_law_common c_law_common k_law_common
  have F_law_scaffold := fun_mk (st := st_law_scaffold) l_law_scaffold c_law_scaffold k_law_scaffold
  have F_law_lowest := fun_mk (st := st_law_lowest) l_law_lowest c_law_lowest k_law_lowest
  have F_law_drawn_2 := fun_mk (st := st_law_drawn_2) l_law_drawn_2 c_law_drawn_2 k_law_drawn_2
  have F_law_tops_times := fun_mk (st := st_law_tops_times) l_law_tops_times c_law_tops_times k_law_tops_times
  have F_bounds := fun_mk (st := st_bounds) l_bounds c_bounds k_bounds
  have F_law_sign_of := fun_mk (st := st_law_sign_of) l_law_sign_of c_law_sign_of k_law_sign_of
  have F_floors_around := fun_mk (st := st_floors_around) l_floors_around c_floors_around k_floors_around
  have F_root_bounds := fun_mk (st := st_root_bounds) l_root_bounds c_root_bounds k_root_bounds
  have F_law_side := fun_mk (st := st_law_side) l_law_side c_law_side k_law_side
  have F_floor_at := fun_mkV (st := st_floor_at) l_floor_at c_floor_at k_floor_at
  have F_law_holds := fun_mk (st := st_law_holds) l_law_holds c_law_holds k_law_holds
  have F_law := fun_mk (st := st_law) l_law c_law k_law
  have B_ten_times_itself := F_ten_times_itself.binds (ps := ["many"]) fun _ _ _ _ _ _ us hl => match us, hl with | [_], _ => rfl
  have B_whole_root := F_whole_root.binds (ps := ["n"]) fun _ _ _ _ _ _ us hl => match us, hl with | [_], _ => rfl
  have B_front_tops := F_front_tops.binds (ps := ["tops"]) fun _ _ _ _ _ _ us hl => match us, hl with | [_], _ => rfl
  have B_behind_tops := F_behind_tops.binds (ps := ["tops"]) fun _ _ _ _ _ _ us hl => match us, hl with | [_], _ => rfl
  have B_law_cell := F_law_cell.binds (ps := ["_law_script", "_law_k"]) fun _ _ _ _ _ _ us hl => match us, hl with | [_, _], _ => rfl
  have B_law_whole := F_law_whole.binds (ps := ["_law_found"]) fun _ _ _ _ _ _ us hl => match us, hl with | [_], _ => rfl
  have B_law_mixed := F_law_mixed.binds (ps := ["_law_cell_here", "_law_k", "_law_many"]) fun _ _ _ _ _ _ us hl => match us, hl with | [_, _, _], _ => rfl
  have B_law_added := F_law_added.binds (ps := ["_law_one", "_law_other"]) fun _ _ _ _ _ _ us hl => match us, hl with | [_, _], _ => rfl
  have B_law_scaled := F_law_scaled.binds (ps := ["_law_k", "_law_one"]) fun _ _ _ _ _ _ us hl => match us, hl with | [_, _], _ => rfl
  have B_law_common := F_law_common.binds (ps := ["_law_one", "_law_other"]) fun _ _ _ _ _ _ us hl => match us, hl with | [_, _], _ => rfl
  have B_law_scaffold := F_law_scaffold.binds (ps := ["_law_cell_here", "_law_many"]) fun _ _ _ _ _ _ us hl => match us, hl with | [_, _], _ => rfl
  have B_law_lowest := F_law_lowest.binds (ps := ["_law_one"]) fun _ _ _ _ _ _ us hl => match us, hl with | [_], _ => rfl
  have B_law_drawn_2 := F_law_drawn_2.binds (ps := ["_law_cell_here", "_law_many"]) fun _ _ _ _ _ _ us hl => match us, hl with | [_, _], _ => rfl
  have B_law_tops_times := F_law_tops_times.binds (ps := ["_law_roots", "_law_one", "_law_other"]) fun _ _ _ _ _ _ us hl => match us, hl with | [_, _, _], _ => rfl
  have B_bounds := F_bounds.binds (ps := ["roots", "tops", "fine"]) fun _ _ _ _ _ _ us hl => match us, hl with | [_, _, _], _ => rfl
  have B_law_sign_of := F_law_sign_of.binds (ps := ["_law_roots", "_law_tops"]) fun _ _ _ _ _ _ us hl => match us, hl with | [_, _], _ => rfl
  have B_floors_around := F_floors_around.binds (ps := ["roots", "tops", "bottom", "bits"]) fun _ _ _ _ _ _ us hl => match us, hl with | [_, _, _, _], _ => rfl
  have B_root_bounds := F_root_bounds.binds (ps := ["roots", "fine"]) fun _ _ _ _ _ _ us hl => match us, hl with | [_, _], _ => rfl
  have B_law_side := F_law_side.binds (ps := ["_law_roots", "_law_one", "_law_scale", "_law_whole_here"]) fun _ _ _ _ _ _ us hl => match us, hl with | [_, _, _, _], _ => rfl
  have B_floor_at : Binds K _ ["roots", "x", "places"] [] := fun s us hK hl => match us, hl with | [_, _, _], _ => BindsTo.of_defaults (fd := PySem.W.fnOf "floor_at" "floor_at" (defArgs st_floor_at) (defBody st_floor_at) (defScope st_floor_at) (.ref T_floor_at) kV_floor_at dc_floor_at pm_floor_at an_floor_at cd_floor_at ct_floor_at) rfl (hK _ _ d_floor_at) rfl rfl rfl
  have D_floor_at : Binds K _ ["roots", "x", "places"] [.int 0 dV_floor_at] := fun s us hK hl => match us, (show us.length = 2 by simpa using hl) with | [_, _], _ => BindsTo.of_defaults (fd := PySem.W.fnOf "floor_at" "floor_at" (defArgs st_floor_at) (defBody st_floor_at) (defScope st_floor_at) (.ref T_floor_at) kV_floor_at dc_floor_at pm_floor_at an_floor_at cd_floor_at ct_floor_at) rfl (hK _ _ d_floor_at) rfl rfl rfl
  have B_law_holds := F_law_holds.binds (ps := ["_law_roots", "_law_one", "_law_places"]) fun _ _ _ _ _ _ us hl => match us, hl with | [_, _, _], _ => rfl
  have B_law := F_law.binds (ps := ["_law_script"]) fun _ _ _ _ _ _ us hl => match us, hl with | [_], _ => rfl
  have T : Txt K mg { c_HallError := c_HallError, c_Below := c_Below, f_ten_times_itself := f_ten_times_itself, f_whole_root := f_whole_root, f_front_tops := f_front_tops, f_behind_tops := f_behind_tops, f_law_cell := f_law_cell, f_law_whole := f_law_whole, f_law_mixed := f_law_mixed, f_law_added := f_law_added, f_law_scaled := f_law_scaled, f_law_common := f_law_common, f_law_scaffold := f_law_scaffold, f_law_lowest := f_law_lowest, f_law_drawn_2 := f_law_drawn_2, f_law_tops_times := f_law_tops_times, f_bounds := f_bounds, f_law_sign_of := f_law_sign_of, f_floors_around := f_floors_around, f_root_bounds := f_root_bounds, f_law_side := f_law_side, f_floor_at := f_floor_at, f_law_holds := f_law_holds, f_law := fa } := {
    m_ten_times_itself := PySem.W.mg_of X G n_ten_times_itself
    k_ten_times_itself := k_ten_times_itself
    m_whole_root := PySem.W.mg_of X G n_whole_root
    k_whole_root := k_whole_root
    m_front_tops := PySem.W.mg_of X G n_front_tops
    k_front_tops := k_front_tops
    m_behind_tops := PySem.W.mg_of X G n_behind_tops
    k_behind_tops := k_behind_tops
    m_law_cell := PySem.W.mg_of X G n_law_cell
    k_law_cell := k_law_cell
    m_law_whole := PySem.W.mg_of X G n_law_whole
    k_law_whole := k_law_whole
    m_law_mixed := PySem.W.mg_of X G n_law_mixed
    k_law_mixed := k_law_mixed
    m_law_added := PySem.W.mg_of X G n_law_added
    k_law_added := k_law_added
    m_law_scaled := PySem.W.mg_of X G n_law_scaled
    k_law_scaled := k_law_scaled
    m_law_common := PySem.W.mg_of X G n_law_common
    k_law_common := k_law_common
    m_law_scaffold := PySem.W.mg_of X G n_law_scaffold
    k_law_scaffold := k_law_scaffold
    m_law_lowest := PySem.W.mg_of X G n_law_lowest
    k_law_lowest := k_law_lowest
    m_law_drawn_2 := PySem.W.mg_of X G n_law_drawn_2
    k_law_drawn_2 := k_law_drawn_2
    m_law_tops_times := PySem.W.mg_of X G n_law_tops_times
    k_law_tops_times := k_law_tops_times
    m_bounds := PySem.W.mg_of X G n_bounds
    k_bounds := k_bounds
    m_law_sign_of := PySem.W.mg_of X G n_law_sign_of
    k_law_sign_of := k_law_sign_of
    m_floors_around := PySem.W.mg_of X G n_floors_around
    k_floors_around := k_floors_around
    m_root_bounds := PySem.W.mg_of X G n_root_bounds
    k_root_bounds := k_root_bounds
    m_law_side := PySem.W.mg_of X G n_law_side
    k_law_side := k_law_side
    m_floor_at := PySem.W.mg_of X G n_floor_at
    k_floor_at := k_floor_at
    m_law_holds := PySem.W.mg_of X G n_law_holds
    k_law_holds := k_law_holds
    m_law := PySem.W.mg_of X G n_law
    k_law := k_law
    m_HallError := PySem.W.mg_of X G n_HallError
    n_HallError := n_HallError
    x_HallError := x_HallError
    m_Below := PySem.W.mg_of X G n_Below
    n_Below := n_Below
    x_Below := x_Below
    m_FIRST_BITS := ⟨_, PySem.W.mg_of X G n_FIRST_BITS⟩
    z_abs := PySem.W.mg_none_of X G z_abs
    z_bool := PySem.W.mg_none_of X G z_bool
    z_enumerate := PySem.W.mg_none_of X G z_enumerate
    z_int := PySem.W.mg_none_of X G z_int
    z_isinstance := PySem.W.mg_none_of X G z_isinstance
    z_len := PySem.W.mg_none_of X G z_len
    z_max := PySem.W.mg_none_of X G z_max
    z_range := PySem.W.mg_none_of X G z_range
    z_tuple := PySem.W.mg_none_of X G z_tuple
    z_zip := PySem.W.mg_none_of X G z_zip
    i_int := by
      intro d b hd
      cases d <;> simp only [Bk.is_int] at hd <;> cases hd <;> first | exact i_int_int | exact i_bool_int | exact i_NoneType_int | exact i_str_int | exact i_tuple_int | exact i_list_int
    i_bool := by
      intro d b hd
      cases d <;> simp only [Bk.is_bool] at hd <;> cases hd <;> first | exact i_int_bool | exact i_bool_bool | exact i_NoneType_bool | exact i_str_bool | exact i_tuple_bool | exact i_list_bool
  }
  refine ⟨PySem.W.fnOf "law" "law" (defArgs st_law) (defBody st_law) (defScope st_law) .none kV_law dc_law pm_law an_law cd_law ct_law, fun s v => .of_eq rfl, fun base _ _ => ?_⟩
  have G_ten_times_itself := ok_ten_times_itself (P := l.prog) (w := w) (base := base) T F_ten_times_itself
  have G_whole_root := ok_whole_root (P := l.prog) (w := w) (base := base) T F_whole_root
  have G_front_tops := ok_front_tops (P := l.prog) (w := w) (base := base) T F_front_tops
  have G_behind_tops := ok_behind_tops (P := l.prog) (w := w) (base := base) T F_behind_tops
  have G_law_cell := ok_law_cell (P := l.prog) (w := w) (base := base) T F_law_cell
  have G_law_whole := ok_law_whole (P := l.prog) (w := w) (base := base) T F_law_whole
  have G_law_mixed := ok_law_mixed (P := l.prog) (w := w) (base := base) T F_law_mixed
  have G_law_added := ok_law_added (P := l.prog) (w := w) (base := base) T F_law_added
  have G_law_scaled := ok_law_scaled (P := l.prog) (w := w) (base := base) T F_law_scaled
  have G_law_common := ok_law_common (P := l.prog) (w := w) (base := base) T F_law_common
  have G_law_scaffold := ok_law_scaffold (P := l.prog) (w := w) (base := base) T F_law_scaffold G_law_mixed B_law_mixed
  have G_law_lowest := ok_law_lowest (P := l.prog) (w := w) (base := base) T F_law_lowest G_law_common B_law_common
  have G_law_drawn_2 := ok_law_drawn_2 (P := l.prog) (w := w) (base := base) T F_law_drawn_2 G_law_lowest B_law_lowest G_law_mixed B_law_mixed
  have G_law_tops_times := ok_law_tops_times (P := l.prog) (w := w) (base := base) T F_law_tops_times G_law_added B_law_added B_law_tops_times
  have G_bounds := ok_bounds (P := l.prog) (w := w) (base := base) T F_bounds G_front_tops B_front_tops G_behind_tops B_behind_tops B_bounds B_root_bounds (fun R k hk G => (okR_root_bounds T F_root_bounds G_whole_root B_whole_root B_bounds  hk G ))
  have G_law_sign_of := ok_law_sign_of (P := l.prog) (w := w) (base := base) T F_law_sign_of G_law_tops_times B_law_tops_times G_law_scaled B_law_scaled G_law_added B_law_added B_law_sign_of
  have G_floors_around := ok_floors_around (P := l.prog) (w := w) (base := base) T F_floors_around G_bounds B_bounds
  have G_root_bounds := okR_root_bounds (P := l.prog) (w := w) (base := base) T F_root_bounds G_whole_root B_whole_root B_bounds  (by decide) G_bounds
  have G_law_side := ok_law_side (P := l.prog) (w := w) (base := base) T F_law_side G_law_sign_of B_law_sign_of
  have G_floor_at := ok_floor_at (P := l.prog) (w := w) (base := base) T F_floor_at G_ten_times_itself B_ten_times_itself G_floors_around B_floors_around
  have G_law_holds := ok_law_holds (P := l.prog) (w := w) (base := base) T F_law_holds G_floor_at B_floor_at D_floor_at G_law_side B_law_side G_law_whole B_law_whole G_law_scaled B_law_scaled
  exact ok_law (P := l.prog) (w := w) (base := base) T F_law G_law_cell B_law_cell G_law_scaffold B_law_scaffold G_law_mixed B_law_mixed G_law_holds B_law_holds G_law_drawn_2 B_law_drawn_2
theorem walk {l : PySem.W.OpenLaw} {q : Program} {loose : List Str} {XP : (Str → Option Value) → Heap → Prop} {YP : World → Heap → Prop} {d : DefRec} {K : Params → PySem.W.Frag} (hn : l.most = some 63) (hdf : d.params.defaults = [])
    (hY : ∀ (w : World) (h : Heap), YP w h → (K w.params).In h)
    (F : ∀ (w : World) (mg : Str → Option Value) (fa : Addr) (h : Heap), (K w.params).In h → h.Ns mainGlobals mg → mg d.name = some (.ref fa) →
      ∃ fd : FuncData, (∀ (s : Shared) (u : Value), BindsTo s fd ⟨[u], []⟩ [("_law_script", u)]) ∧ ∀ base : Heap, (K w.params).In base → base.Ns mainGlobals mg → FnOk l.prog w (K w.params) mg base (CX1 l.prog w) 13 fa fd ["_law_script"] (spD (K w.params) F_law)) :
    PySem.W.WalkO q loose XP YP l.row.toRowW d [] (fun f vs => PySem.call f vs) :=
  L2.walk_of (n := 63) (k := 13) (x := "_law_script") (CX := fun w => CX1 l.prog w) (sp := fun w => spD (K w.params) F_law) hn (by decide) hdf ⟨rfl, by decide, by decide⟩ hY F
    (fun w H a ns hl _ hS => ⟨[.lst (ns.map .int)], .cons (mkL hS (reps_ints ns)) .nil, by rw [w_law ns hl]; exact fun v H' _ r => by rw [Rep] at r; exact r⟩)
    fun _ _ _ _ _ z => by obtain ⟨_, _, _, _, _, _, _, _, _, z⟩ := z; exact z
end K12
open PySem PySem.W PyProof.Rows
set_option maxRecDepth 100000 in
set_option maxHeartbeats 0 in
theorem PySem.Challenge.cw_compasshall_k12_floors_bound_holds : PySem.Challenge.rw_compasshall_k12_floors_bound.Holds := by
  w_on; o_law; k_head; (case hw => w_witness2)
  k_fill
  refine K12.walk (l := PySem.Challenge.rw_compasshall_k12_floors_bound) rfl rfl (fun w h Y => PySem.W.kIn_of Y) ?F
  case F =>
    intro w mg fa h KX G hmg
    refine' K12.all_mk KX G hmg ?n_HallError ?x_HallError ?n_Below ?x_Below ?n_ten_times_itself ?l_ten_times_itself ?c_ten_times_itself ?k_ten_times_itself ?n_whole_root ?l_whole_root ?c_whole_root ?k_whole_root ?n_front_tops ?l_front_tops ?c_front_tops ?k_front_tops ?n_behind_tops ?l_behind_tops ?c_behind_tops ?k_behind_tops ?n_law_cell ?l_law_cell ?c_law_cell ?k_law_cell ?n_law_whole ?l_law_whole ?c_law_whole ?k_law_whole ?n_law_mixed ?l_law_mixed ?c_law_mixed ?k_law_mixed ?n_law_added ?l_law_added ?c_law_added ?k_law_added ?n_law_scaled ?l_law_scaled ?c_law_scaled ?k_law_scaled ?n_law_common ?l_law_common ?c_law_common ?k_law_common ?n_law_scaffold ?l_law_scaffold ?c_law_scaffold ?k_law_scaffold ?n_law_lowest ?l_law_lowest ?c_law_lowest ?k_law_lowest ?n_law_drawn_2 ?l_law_drawn_2 ?c_law_drawn_2 ?k_law_drawn_2 ?n_law_tops_times ?l_law_tops_times ?c_law_tops_times ?k_law_tops_times ?n_bounds ?l_bounds ?c_bounds ?k_bounds ?n_law_sign_of ?l_law_sign_of ?c_law_sign_of ?k_law_sign_of ?n_floors_around ?l_floors_around ?c_floors_around ?k_floors_around ?n_root_bounds ?l_root_bounds ?c_root_bounds ?k_root_bounds ?n_law_side ?l_law_side ?c_law_side ?k_law_side ?n_floor_at ?l_floor_at ?d_floor_at ?c_floor_at ?k_floor_at ?n_law_holds ?l_law_holds ?c_law_holds ?k_law_holds ?n_law ?l_law ?c_law ?k_law ?n_FIRST_BITS ?z_abs ?z_bool ?z_enumerate ?z_int ?z_isinstance ?z_len ?z_max ?z_range ?z_tuple ?z_zip ?e4 ?e5 ?i_int_int ?i_bool_int ?i_NoneType_int ?i_str_int ?i_tuple_int ?i_list_int ?i_int_bool ?i_bool_bool ?i_NoneType_bool ?i_str_bool ?i_tuple_bool ?i_list_bool
    (case n_HallError => k_is)
    (case x_HallError => k_exc)
    (case n_Below => k_is)
    (case x_Below => k_exc)
    (case n_ten_times_itself => k_is)
    (case l_ten_times_itself => k_is)
    (case c_ten_times_itself => k_is)
    (case k_ten_times_itself => k_is)
    (case n_whole_root => k_is)
    (case l_whole_root => k_is)
    (case c_whole_root => k_is)
    (case k_whole_root => k_is)
    (case n_front_tops => k_is)
    (case l_front_tops => k_is)
    (case c_front_tops => k_is)
    (case k_front_tops => k_is)
    (case n_behind_tops => k_is)
    (case l_behind_tops => k_is)
    (case c_behind_tops => k_is)
    (case k_behind_tops => k_is)
    (case n_law_cell => k_is)
    (case l_law_cell => k_is)
    (case c_law_cell => k_is)
    (case k_law_cell => k_is)
    (case n_law_whole => k_is)
    (case l_law_whole => k_is)
    (case c_law_whole => k_is)
    (case k_law_whole => k_is)
    (case n_law_mixed => k_is)
    (case l_law_mixed => k_is)
    (case c_law_mixed => k_is)
    (case k_law_mixed => k_is)
    (case n_law_added => k_is)
    (case l_law_added => k_is)
    (case c_law_added => k_is)
    (case k_law_added => k_is)
    (case n_law_scaled => k_is)
    (case l_law_scaled => k_is)
    (case c_law_scaled => k_is)
    (case k_law_scaled => k_is)
    (case n_law_common => k_is)
    (case l_law_common => k_is)
    (case c_law_common => k_is)
    (case k_law_common => k_is)
    (case n_law_scaffold => k_is)
    (case l_law_scaffold => k_is)
    (case c_law_scaffold => k_is)
    (case k_law_scaffold => k_is)
    (case n_law_lowest => k_is)
    (case l_law_lowest => k_is)
    (case c_law_lowest => k_is)
    (case k_law_lowest => k_is)
    (case n_law_drawn_2 => k_is)
    (case l_law_drawn_2 => k_is)
    (case c_law_drawn_2 => k_is)
    (case k_law_drawn_2 => k_is)
    (case n_law_tops_times => k_is)
    (case l_law_tops_times => k_is)
    (case c_law_tops_times => k_is)
    (case k_law_tops_times => k_is)
    (case n_bounds => k_is)
    (case l_bounds => k_is)
    (case c_bounds => k_is)
    (case k_bounds => k_is)
    (case n_law_sign_of => k_is)
    (case l_law_sign_of => k_is)
    (case c_law_sign_of => k_is)
    (case k_law_sign_of => k_is)
    (case n_floors_around => k_is)
    (case l_floors_around => k_is)
    (case c_floors_around => k_is)
    (case k_floors_around => k_is)
    (case n_root_bounds => k_is)
    (case l_root_bounds => k_is)
    (case c_root_bounds => k_is)
    (case k_root_bounds => k_is)
    (case n_law_side => k_is)
    (case l_law_side => k_is)
    (case c_law_side => k_is)
    (case k_law_side => k_is)
    (case n_floor_at => k_is)
    (case l_floor_at => k_is)
    (case d_floor_at => k_is)
    (case c_floor_at => k_is)
    (case k_floor_at => k_is)
    (case n_law_holds => k_is)
    (case l_law_holds => k_is)
    (case c_law_holds => k_is)
    (case k_law_holds => k_is)
    (case n_law => k_is)
    (case l_law => k_is)
    (case c_law => k_is)
    (case k_law => k_is)
    (case n_FIRST_BITS => k_is)
    (case z_abs => k_is)
    (case z_bool => k_is)
    (case z_enumerate => k_is)
    (case z_int => k_is)
    (case z_isinstance => k_is)
    (case z_len => k_is)
    (case z_max => k_is)
    (case z_range => k_is)
    (case z_tuple => k_is)
    (case z_zip => k_is)
    (case e4 => k_is)
    (case e5 => k_is)
    (case i_int_int => kit_is)
    (case i_bool_int => kit_is)
    (case i_NoneType_int => kit_is)
    (case i_str_int => kit_is)
    (case i_tuple_int => kit_is)
    (case i_list_int => kit_is)
    (case i_int_bool => kit_is)
    (case i_bool_bool => kit_is)
    (case i_NoneType_bool => kit_is)
    (case i_str_bool => kit_is)
    (case i_tuple_bool => kit_is)
    (case i_list_bool => kit_is)
