import PyProof.Rows.All
import Wide.All
import OpenK.AllK
import Wide.FinOn
import Lean
import PyProof.EqAt
import PyProof.EqKinds
import PyProof.TupleCall
import PySem.Challenge.RW_compasshall_k03_texts_refused
noncomputable section
set_option Elab.async false
set_option linter.all false
set_option maxRecDepth 100000
namespace L2
open PySem PySem.Spec PyProof.Rows
abbrev Key := Sum Int Str
noncomputable def keyIs : Key → Value → Bool
  | .inl k, v => Value.isInt k v
  | .inr x, v => Value.isStrOf x v
noncomputable def keyH (w : World) : Key → Int
  | .inl k => hashInt k
  | .inr x => hashStr w x
theorem keyIs_shape : ∀ {k : Key} {v : Value}, keyIs k v = true → (∃ i t, k = Sum.inl i ∧ v = Value.int i t) ∨ (∃ x t, k = Sum.inr x ∧ v = Value.str x t)
  | .inl i, v, h => by
    obtain ⟨t, e⟩ := Value.isInt_shape (k := i) (v := v) h
    exact .inl ⟨i, t, rfl, e⟩
  | .inr x, v, h => by
    obtain ⟨t, e⟩ := Value.isStrOf_shape (x := x) (v := v) h
    exact .inr ⟨x, t, rfl, e⟩
theorem key_ll (a b : Int) : decide ((Sum.inl a : Key) = Sum.inl b) = (a == b) := by
  by_cases e : a = b
  · subst e; simp
  · have h : ¬ (Sum.inl a : Key) = Sum.inl b := fun q => e (Sum.inl.inj q)
    rw [decide_eq_false h]
    exact (beq_eq_false_iff_ne.mpr e).symm
theorem key_rr (a b : Str) : decide ((Sum.inr a : Key) = Sum.inr b) = decide (a = b) := by
  by_cases e : a = b
  · subst e; simp
  · have h : ¬ (Sum.inr a : Key) = Sum.inr b := fun q => e (Sum.inr.inj q)
    rw [decide_eq_false h, decide_eq_false e]
theorem key_lr (a : Int) (b : Str) : decide ((Sum.inl a : Key) = Sum.inr b) = false := decide_eq_false (fun q => nomatch q)
theorem key_rl (a : Str) (b : Int) : decide ((Sum.inr a : Key) = Sum.inl b) = false := decide_eq_false (fun q => nomatch q)
noncomputable def mixKind (prog : Program) (w : World) : PySem.KeyKind prog w Key where
  is := keyIs
  hash := keyH w
  inj := fun v a b ha hb => by
    rcases keyIs_shape ha with ⟨i, t, rfl, rfl⟩ | ⟨x, t, rfl, rfl⟩
    · rcases keyIs_shape hb with ⟨j, u, rfl, e⟩ | ⟨y, u, rfl, e⟩
      · injection e with e1 _; rw [e1]
      · exact nomatch e
    · rcases keyIs_shape hb with ⟨j, u, rfl, e⟩ | ⟨y, u, rfl, e⟩
      · exact nomatch e
      · injection e with e1 _; rw [e1]
  byValue := fun k v h => by
    rcases keyIs_shape h with ⟨i, t, rfl, rfl⟩ | ⟨x, t, rfl, rfl⟩ <;> rfl
  pyHash := fun hv h => by
    rcases keyIs_shape hv with ⟨i, t, rfl, rfl⟩ | ⟨x, t, rfl, rfl⟩
    · exact wpAny_pyHash_int h
    · exact wpAny_pyHash_str h
  eqBool := fun hu hv h => by
    rcases keyIs_shape hu with ⟨i, t, rfl, rfl⟩ | ⟨x, t, rfl, rfl⟩
    · rcases keyIs_shape hv with ⟨j, u, rfl, rfl⟩ | ⟨y, u, rfl, rfl⟩
      · rw [key_ll] at h; exact wpAny_eqBool_int h
      · rw [key_lr] at h; exact SeqAt.EqAt.int_str i t y u _ _ _ _ h
    · rcases keyIs_shape hv with ⟨j, u, rfl, rfl⟩ | ⟨y, u, rfl, rfl⟩
      · rw [key_rl] at h; exact SeqAt.EqAt.str_int x t j u _ _ _ _ h
      · rw [key_rr] at h; exact wpAny_eqBool_str h
  «strs» := fun k x t v h => by
    rcases keyIs_shape h with ⟨i, u, rfl, e⟩ | ⟨y, u, rfl, e⟩
    · exact nomatch e
    · injection e with e1 _
      subst e1
      cases v <;> rfl
end L2
namespace L2
open PySem PySem.Spec PyProof.Rows
inductive V where
  | non | bl (b : Bool) | int (i : Int) | str (x : Str) | byt (b : Array UInt8) | flt (b : UInt64) | ref (a : Addr) | ty (n : String)
  deriving DecidableEq
noncomputable def RelV : V → Value → Prop
  | .non, u => u = Value.none
  | .bl b, u => u = Value.bool b
  | .int i, u => ∃ t, u = Value.int i t
  | .str x, u => ∃ t, u = Value.str x t
  | .byt b, u => ∃ t, u = Value.bytes b t
  | .flt b, u => ∃ t, u = Value.float b t
  | .ref a, u => u = Value.ref a
  | .ty n, u => u = Value.type n
abbrev Vals : List V → List Value → Prop := Paired RelV
theorem Vals.length {xs : List V} {us : List Value} (r : Vals xs us) : xs.length = us.length := Paired.length r
theorem Vals.get : ∀ {xs : List V} {us : List Value} {i : Nat} {x : V}, Vals xs us → xs[i]? = some x → ∃ u, us[i]? = some u ∧ RelV x u
  | _, _, _, _, .nil, e => by simp at e
  | _, _, 0, _, .cons r _, e => by simp at e; subst e; exact ⟨_, rfl, r⟩
  | _, _, i + 1, x, .cons _ t, e => by
    obtain ⟨u, h1, h2⟩ := Vals.get (i := i) (x := x) t (by simpa using e)
    exact ⟨u, by simpa using h1, h2⟩
theorem Vals.set {x : V} {u : Value} (r : RelV x u) : ∀ {xs : List V} {us : List Value} (i : Nat), Vals xs us → Vals (xs.set i x) (us.set i u)
  | _, _, _, .nil => .nil
  | _, _, 0, .cons _ t => .cons r t
  | _, _, i + 1, .cons q t => .cons q (Vals.set r i t)
theorem Vals.append : ∀ {xs ys : List V} {us ws : List Value}, Vals xs us → Vals ys ws → Vals (xs ++ ys) (us ++ ws)
  | _, _, _, _, .nil, s => s
  | _, _, _, _, .cons r t, s => .cons r (Vals.append t s)
theorem Vals.take : ∀ {xs : List V} {us : List Value} (n : Nat), Vals xs us → Vals (xs.take n) (us.take n)
  | _, _, 0, _ => .nil
  | _, _, _ + 1, .nil => .nil
  | _, _, n + 1, .cons r t => .cons r (Vals.take n t)
theorem Vals.drop : ∀ {xs : List V} {us : List Value} (n : Nat), Vals xs us → Vals (xs.drop n) (us.drop n)
  | _, _, 0, r => r
  | _, _, _ + 1, .nil => .nil
  | _, _, n + 1, .cons _ t => Vals.drop n t
noncomputable def RelO : Option V → Option Value → Prop
  | some v, some u => RelV v u
  | none, none => True
  | _, _ => False
noncomputable def KV {κ : Type} : List (κ × V) → List (κ × Value) → Prop := Paired fun (p : κ × V) (q : κ × Value) => p.1 = q.1 ∧ RelV p.2 q.2
noncomputable def kV : Key → V
  | .inl i => .int i
  | .inr x => .str x
inductive HO where
  | lst (xs : List V)
  | tup (xs : List V)
  | dK (kvs : List (Key × V)) | dT (kvs : List (List Key × V))
  | set (S : Int → Bool) (n : Nat)
  | ins (C dx : Addr) (fs : List (Str × V))
  | own (x : Addr)
  | xd (fs : List (Str × V))
  | met (f x : Addr)
  | rng (lo hi : Int)
  | frz (o : Obj) (u : HO)
  | tbl (ps : Array Value)
  | ext (φ : Heap → Prop)
abbrev Hp := Addr → Option HO
noncomputable def upd (H : Hp) (a : Addr) (o : HO) : Hp := fun b => if b = a then some o else H b
theorem upd_same {H : Hp} {a : Addr} {o : HO} : upd H a o a = some o := by unfold upd; rw [if_pos rfl]
theorem upd_ne {H : Hp} {a b : Addr} {o : HO} (h : b ≠ a) : upd H a o b = H b := by unfold upd; rw [if_neg h]
theorem ne_of_none {H : Hp} {a b : Addr} {o : HO} (h : H a = some o) (h' : H b = none) : a ≠ b := by
  intro e; subst e; rw [h] at h'; cases h'
section
variable (P : Program) (w : World)
noncomputable def ObjOk (H : Hp) (h : Heap) (a : Addr) : HO → Prop
  | .lst xs => xs.length ≤ sizeLine ∧ ∃ (its : List Value) (n : Nat), Vals xs its ∧ h.get? a = some { cls := .type "list", data := .seq its.toArray n }
  | .tup xs => xs.length ≤ sizeLine ∧ ∃ its : List Value, Vals xs its ∧ IsTup h a its.toArray
  | .dK kvs => kvs.length ≤ sizeLine ∧ (a == sysModules) = false ∧ ∃ vs, KV kvs vs ∧ h.DictOf (mixKind P w) a vs
  | .dT kvs => kvs.length ≤ sizeLine ∧ (a == sysModules) = false ∧ ∃ xs : List (List Key × Addr × Value),
      Paired (fun (p : List Key × V) (q : List Key × Addr × Value) => p.1 = q.1 ∧ H q.2.1 = some (.tup (p.1.map kV)) ∧ RelV p.2 q.2.2) kvs xs ∧
      ∃ o es ep, h.get? a = some o ∧ o.ExactDict ∧ o.data = .dict es ep ∧ es.toList = xs.map (entryOfKey (tupleKind (mixKind P w))) ∧ (xs.map (·.1)).Nodup
  | .set S n => h.SetOf (intKind P w) a S n
  | .ins C dx fs => H dx = some (.own a) ∧ fs.length ≤ 1000 ∧ dx ≠ a ∧ h.get? a = some (PySem.W.instObj C dx) ∧
      ∃ mA, h.Ns1 dx mA ∧ (∀ f, RelO (fs.lookup f) (mA f)) ∧ PySem.Within mA (fs.map (·.1))
  | .own _ => ∃ o, h.get? a = some o
  | .xd fs => ∃ mA, h.Ns1 a mA ∧ ∀ f, RelO (fs.lookup f) (mA f)
  | .rng lo hi => ∃ t u v, h.get? a = some { cls := .type "range", data := .fields #[.int lo t, .int hi u, .int 1 v] }
  | .frz o u => h.get? a = some o ∧ ObjOk H h a u
  | .tbl ps => h.get? a = some { cls := .none, data := .fields ps }
  | .met f x => h.get? a = some (PySem.W.methodObj (.ref f) (.ref x))
  | .ext φ => φ h ∧ (∃ o, h.get? a = some o) ∧ ∀ h1 h2 : Heap, φ h1 → (∀ o, h1.get? a = some o → h2.get? a = some o) → φ h2
noncomputable def HOk (H : Hp) (h : Heap) : Prop := ∀ a o, H a = some o → ObjOk P w H h a o
end
section
variable {P : Program} {w : World} {H H' : Hp} {h h' : Heap} {a : Addr} {o : HO}
theorem ObjOk.lt (x : ObjOk P w H h a o) : a < h.objs.size := by
  cases o with
  | lst xs => obtain ⟨_, _, _, _, e⟩ := x; exact Heap.lt_size e
  | tup xs => obtain ⟨_, _, _, p⟩ := x; exact p.lt
  | dK kvs => obtain ⟨_, _, _, _, o, _, _, e, _⟩ := x; exact Heap.lt_size e
  | dT kvs => obtain ⟨_, _, _, _, o, _, _, e, _⟩ := x; exact Heap.lt_size e
  | set S n => obtain ⟨o, _, _, _, e, _⟩ := x; exact Heap.lt_size e
  | ins C dx fs => obtain ⟨_, _, _, e, _⟩ := x; exact Heap.lt_size e
  | own y => obtain ⟨_, e⟩ := x; exact Heap.lt_size e
  | xd fs => obtain ⟨_, ⟨_, _, _, e, _⟩, _⟩ := x; exact Heap.lt_size e
  | rng lo hi => obtain ⟨_, _, _, e⟩ := x; exact Heap.lt_size e
  | frz ob u => obtain ⟨e, _⟩ := x; exact Heap.lt_size e
  | tbl ps => exact Heap.lt_size (show h.get? a = some _ from x)
  | met f y => exact Heap.lt_size (show h.get? a = some _ from x)
  | ext φ => obtain ⟨_, ⟨_, e⟩, _⟩ := x; exact Heap.lt_size e
theorem Paired.mapP {α β : Type} {F G : α → β → Prop} : ∀ {l₁ : List α} {l₂ : List β}, Paired F l₁ l₂ → (∀ a b, F a b → G a b) → Paired G l₁ l₂
  | _, _, .nil, _ => .nil
  | _, _, .cons r t, f => .cons (f _ _ r) (Paired.mapP t f)
theorem ObjOk.stay (x : ObjOk P w H h a o) (k : ∀ b u, (b = a ∨ H b = some (.own a)) → h.get? b = some u → h'.get? b = some u)
    (ho : ∀ b, H b = some (.own a) → H' b = some (.own a)) (ht : ∀ b xs, H b = some (.tup xs) → H' b = some (.tup xs)) : ObjOk P w H' h' a o := by
  induction o with
  | lst xs => obtain ⟨z, its, n, r, e⟩ := x; exact ⟨z, its, n, r, k _ _ (.inl rfl) e⟩
  | tup xs => obtain ⟨z, its, r, ob, e, c⟩ := x; exact ⟨z, its, r, ob, k _ _ (.inl rfl) e, c⟩
  | dK kvs => obtain ⟨z, y, vs, r, ob, es, ep, e, c⟩ := x; exact ⟨z, y, vs, r, ob, es, ep, k _ _ (.inl rfl) e, c⟩
  | dT kvs =>
    obtain ⟨z, y, xs, r, ob, es, ep, e, c⟩ := x
    exact ⟨z, y, xs, Paired.mapP r fun p q z => ⟨z.1, ht _ _ z.2.1, z.2.2⟩, ob, es, ep, k _ _ (.inl rfl) e, c⟩
  | set S n => obtain ⟨ob, es, ep, t, e, c⟩ := x; exact ⟨ob, es, ep, t, k _ _ (.inl rfl) e, c⟩
  | ins C dx fs =>
    obtain ⟨d, z, ne, e, mA, ⟨od, es, ep, e2, c⟩, r⟩ := x
    exact ⟨ho _ d, z, ne, k _ _ (.inl rfl) e, mA, ⟨od, es, ep, k _ _ (.inr d) e2, c⟩, r⟩
  | own y => obtain ⟨ob, e⟩ := x; exact ⟨ob, k _ _ (.inl rfl) e⟩
  | xd fs => obtain ⟨mA, ⟨od, es, ep, e, c⟩, r⟩ := x; exact ⟨mA, ⟨od, es, ep, k _ _ (.inl rfl) e, c⟩, r⟩
  | rng lo hi => obtain ⟨t, u, v, e⟩ := x; exact ⟨t, u, v, k _ _ (.inl rfl) e⟩
  | frz ob u ih => obtain ⟨e, q⟩ := x; exact ⟨k _ _ (.inl rfl) e, ih q⟩
  | tbl ps =>
    have e : h.get? a = some { cls := .none, data := .fields ps } := x
    show h'.get? a = some { cls := .none, data := .fields ps }
    exact k a _ (.inl rfl) e
  | met f y =>
    have e : h.get? a = some (PySem.W.methodObj (.ref f) (.ref y)) := x
    show h'.get? a = some (PySem.W.methodObj (.ref f) (.ref y))
    exact k a _ (.inl rfl) e
  | ext φ => obtain ⟨p, ⟨o, e⟩, st⟩ := x; exact ⟨st _ _ p fun o q => k _ _ (.inl rfl) q, ⟨o, k _ _ (.inl rfl) e⟩, st⟩
theorem HOk.lt (x : HOk P w H h) (e : H a = some o) : a < h.objs.size := (x a o e).lt
theorem HOk.fresh (x : HOk P w H h) (e : h.objs.size ≤ a) : H a = none := by
  cases q : H a with
  | none => rfl
  | some u => exact absurd (Nat.lt_of_lt_of_le (x.lt q) e) (Nat.lt_irrefl _)
theorem HOk.kept (x : HOk P w H h) (k : ∀ b u, h.get? b = some u → h'.get? b = some u) : HOk P w H h' := fun a o e =>
  (x a o e).stay (fun b u _ q => k b u q) (fun _ q => q) fun _ _ q => q
theorem HOk.laid (x : HOk P w H h) (k : ∀ b u, h.get? b = some u → h'.get? b = some u) (hp : h.objs.size ≤ a) (new : ObjOk P w (upd H a o) h' a o) : HOk P w (upd H a o) h' := fun b u e => by
  have hn := x.fresh hp
  by_cases hb : b = a
  · subst hb; rw [upd_same] at e; cases e; exact new
  · rw [upd_ne hb] at e
    exact (x b u e).stay (fun c v _ q => k c v q) (fun c q => by rw [upd_ne (ne_of_none q hn)]; exact q) fun c xs q => by rw [upd_ne (ne_of_none q hn)]; exact q
end
noncomputable def Rd (H : Hp) (a : Addr) (u : HO) : Prop := H a = some u ∨ ∃ o, H a = some (.frz o u)
theorem Rd.of {H : Hp} {a : Addr} {u : HO} (h : H a = some u) : Rd H a u := .inl h
theorem Rd.ok {P : Program} {w : World} {H : Hp} {h : Heap} {a : Addr} {u : HO} (r : Rd H a u) (x : HOk P w H h) : ObjOk P w H h a u := by
  rcases r with r | ⟨o, r⟩
  · exact x a u r
  · obtain ⟨_, q⟩ := x a _ r
    exact q
noncomputable def Mut : Option HO → Prop
  | some (.lst _) => True
  | some (.dK _) => True
  | some (.dT _) => True
  | some (.set _ _) => True
  | some (.ins _ _ _) => True
  | some (.ext _) => True
  | _ => False
section
variable {P : Program} {w : World} {H : Hp} {h h' : Heap} {x e : Addr} {o' : HO}
theorem HOk.write (ok : HOk P w H h) (mu : Mut (H x)) (he : e = x ∨ H e = some (.own x)) (k : ∀ b u, b ≠ e → h.get? b = some u → h'.get? b = some u) (heo : ∃ u, h'.get? e = some u)
    (new : ObjOk P w (upd H x o') h' x o') : HOk P w (upd H x o') h' := fun b u q => by
  have nown : ∀ c y, H c = some (.own y) → c ≠ x := fun c y r z => by subst z; rw [r] at mu; exact mu
  have ntup : ∀ c xs, H c = some (.tup xs) → c ≠ x := fun c xs r z => by subst z; rw [r] at mu; exact mu
  by_cases hb : b = x
  · subst hb; rw [upd_same] at q; cases q; exact new
  · rw [upd_ne hb] at q
    by_cases hbe : b = e
    · have q' : H b = some (.own x) := by
        rcases he with z | z
        · exact absurd (hbe.trans z) hb
        · rw [hbe]; exact z
      rw [q] at q'; cases q'
      obtain ⟨v, hv⟩ := heo
      exact ⟨v, by rw [hbe]; exact hv⟩
    · refine (ok b u q).stay (fun c v hc r => k c v ?_ r) (fun c r => by rw [upd_ne (nown c b r)]; exact r) fun c xs r => by rw [upd_ne (ntup c xs r)]; exact r
      rcases hc with rfl | hc
      · exact hbe
      · rintro rfl
        rcases he with z | z
        · exact nown c b hc z
        · rw [hc] at z; cases z; exact hb rfl
end
structure Un (fs ex : List Addr) (H H' : Hp) (h h' : Heap) : Prop where
  keep : ∀ b o, h.get? b = some o → H b = none → b ∉ fs → b ∉ ex → h'.get? b = some o
  slot : ∀ b o, h.get? b = some o → H b = none → b ∈ fs → b ∉ ex → ∃ sl, h'.get? b = some { o with slots := sl }
  free : ∀ b o, h.get? b = some o → H b = none → b ∉ ex → H' b = none
  there : ∀ b o, h.get? b = some o → b ∉ ex → ∃ o', h'.get? b = some o'
  tups : ∀ b xs, H b = some (.tup xs) → H' b = some (.tup xs)
  frzs : ∀ b o u, H b = some (.frz o u) → H' b = some (.frz o u)
  tbls : ∀ b ps, H b = some (.tbl ps) → ∃ more, H' b = some (.tbl (ps ++ more))
section
variable {fs fs' ex ex' : List Addr} {H H1 H2 : Hp} {h h1 h2 h' : Heap} {a x e : Addr} {o : HO}
theorem Un.any (u : Un fs ex H H1 h h1) {b : Addr} {ob : Obj} (q : h.get? b = some ob) (n : H b = none) (hx : b ∉ ex) : ∃ sl, h1.get? b = some { ob with slots := sl } := by
  by_cases hb : b ∈ fs
  · exact u.slot b ob q n hb hx
  · exact ⟨ob.slots, u.keep b ob q n hb hx⟩
theorem Un.trans (a : Un fs ex H H1 h h1) (b : Un fs ex H1 H2 h1 h2) : Un fs ex H H2 h h2 where
  keep := fun c ob q n hc hx => b.keep c ob (a.keep c ob q n hc hx) (a.free c ob q n hx) hc hx
  slot := fun c ob q n hc hx => by
    obtain ⟨sl, e1⟩ := a.slot c ob q n hc hx
    obtain ⟨sl', e2⟩ := b.slot c _ e1 (a.free c ob q n hx) hc hx
    exact ⟨sl', e2⟩
  free := fun c ob q n hx => by
    obtain ⟨o', e1⟩ := a.there c ob q hx
    exact b.free c o' e1 (a.free c ob q n hx) hx
  there := fun c ob q hx => by
    obtain ⟨o', e1⟩ := a.there c ob q hx
    exact b.there c o' e1 hx
  tups := fun c xs q => b.tups c xs (a.tups c xs q)
  frzs := fun c ob xs q => b.frzs c ob xs (a.frzs c ob xs q)
  tbls := fun c ps q => by
    obtain ⟨m1, e1⟩ := a.tbls c ps q
    obtain ⟨m2, e2⟩ := b.tbls c _ e1
    exact ⟨m1 ++ m2, by rw [e2, Array.append_assoc]⟩
theorem Un.kept (k : ∀ b u, h.get? b = some u → h'.get? b = some u) : Un fs ex H H h h' :=
  ⟨fun b ob q _ _ _ => k b ob q, fun b ob q _ _ _ => ⟨ob.slots, k b ob q⟩, fun _ _ _ n _ => n, fun b ob q _ => ⟨ob, k b ob q⟩, fun _ _ q => q, fun _ _ _ q => q, fun _ ps q => ⟨#[], by rw [q]; simp⟩⟩
theorem Un.refl : Un fs ex H H h h := Un.kept fun _ _ q => q
theorem Un.laid (k : ∀ b u, h.get? b = some u → h'.get? b = some u) (hp : h.objs.size ≤ a) (hn : H a = none) : Un fs ex H (upd H a o) h h' where
  keep := fun b u q _ _ _ => k b u q
  slot := fun b u q _ _ _ => ⟨u.slots, k b u q⟩
  free := fun b u q n _ => by rw [upd_ne (Nat.ne_of_lt (Nat.lt_of_lt_of_le (Heap.lt_size q) hp))]; exact n
  there := fun b u q _ => ⟨u, k b u q⟩
  tups := fun b xs q => by rw [upd_ne (ne_of_none q hn)]; exact q
  frzs := fun b u xs q => by rw [upd_ne (ne_of_none q hn)]; exact q
  tbls := fun b ps q => ⟨#[], by rw [upd_ne (ne_of_none q hn), q]; simp⟩
theorem Un.write (mu : Mut (H x)) (he : e = x ∨ H e = some (.own x)) (k : ∀ b u, b ≠ e → h.get? b = some u → h'.get? b = some u) (heo : ∃ u, h'.get? e = some u) : Un fs ex H (upd H x o) h h' := by
  have hx : ∀ b, H b = none → b ≠ x := fun b n z => by subst z; rw [n] at mu; exact mu
  have hb : ∀ b, H b = none → b ≠ e := fun b n z => by
    subst z
    rcases he with r | r
    · exact hx b n r
    · rw [n] at r; cases r
  have hm : ∀ b u, H b = some u → ¬ Mut (some u) → b ≠ x := fun b u q nm z => by subst z; rw [q] at mu; exact nm mu
  refine ⟨fun b u q n _ _ => k b u (hb b n) q, fun b u q n _ _ => ⟨u.slots, k b u (hb b n) q⟩, fun b u q n _ => by rw [upd_ne (hx b n)]; exact n, fun b u q _ => ?_,
    fun b xs q => by rw [upd_ne (hm b _ q fun z => z)]; exact q, fun b u xs q => by rw [upd_ne (hm b _ q fun z => z)]; exact q, fun b ps q => ⟨#[], by rw [upd_ne (hm b _ q fun z => z), q]; simp⟩⟩
  by_cases hbe : b = e
  · subst hbe; exact heo
  · exact ⟨u, k b u hbe q⟩
theorem Un.mono (u : Un fs ex H H1 h h1) (hs : ∀ b ∈ fs, b ∈ fs') (hx : ∀ b ∈ ex, b ∈ ex') : Un fs' ex' H H1 h h1 :=
  ⟨fun b ob q n hb he => u.keep b ob q n (fun z => hb (hs b z)) fun z => he (hx b z), fun _ _ q n _ he => u.any q n fun z => he (hx _ z), fun b ob q n he => u.free b ob q n fun z => he (hx b z), fun b ob q he => u.there b ob q fun z => he (hx b z), u.tups, u.frzs, u.tbls⟩
end
noncomputable def trk (h : Heap) (H : Hp) : List Addr := (List.range h.objs.size).filter fun a => (H a).isSome
noncomputable def hidT (h : Heap) (H : Hp) : Heap := PySem.W.hideAll h (trk h H)
theorem hidT_size (h : Heap) (H : Hp) : (hidT h H).objs.size = h.objs.size := PySem.W.hideAll_size _ _
theorem hidT_get {h : Heap} {H : Hp} {b : Addr} {o : Obj} (e : h.get? b = some o) (n : H b = none) : (hidT h H).get? b = some o :=
  PySem.W.hideAll_get _ e fun hm => by
    have q : (H b).isSome = true := (List.mem_filter.mp hm).2
    rw [n] at q; simp at q
theorem of_hidT {h : Heap} {H : Hp} {b : Addr} {o : Obj} (e : (hidT h H).get? b = some o) : h.get? b = some o ∧ H b = none := by
  have e' : h.get? b = some o := PySem.W.of_hideAll (trk h H) e
  refine ⟨e', ?_⟩
  cases q : H b with
  | none => rfl
  | some x =>
    have hm : b ∈ trk h H := List.mem_filter.mpr ⟨List.mem_range.mpr (Heap.lt_size e'), by simp [q]⟩
    have z : (hidT h H).get? b = none := PySem.W.hideAll_none (trk h H) hm
    rw [z] at e; cases e
noncomputable def allNews (g h : Heap) (L : Addr) : List (Addr × Obj) := (List.range h.objs.size).filterMap fun a => if a = L ∨ (g.get? a).isSome = true then none else (h.get? a).map fun o => (a, o)
noncomputable def rest (g h : Heap) (L d : Addr) : List (Addr × Obj) := (allNews g h L).filter fun p => decide (p.1 ≠ d)
end L2
namespace L2
open PySem PySem.Spec PyProof.Rows
structure Mod (K : PySem.W.Frag) (mg : Str → Option Value) (base : Heap) : Prop where
  kin : K.In base
  glob : base.Ns mainGlobals mg
  blt : ∃ mb, base.Ns builtinsNs mb ∧ ∀ x : Str, x ≠ "__name__" → mb x = bootBuiltins x
  nolimit : base.NoLimit
structure Cx where
  prog : Program
  w : World
  K : PySem.W.Frag
  mg : Str → Option Value
  base : Heap
  A : Around
  N : List Str
  s₀ : Shared
  H₀ : Hp
  env : Env
  outer : List Env
  stack : List Env
  ex : List Addr
  fn : Str → Bool
  calm : Bool
  pn : List (Addr × Obj)
  xe : Value → Shared → Prop
noncomputable def frs (l : List Env) : List Addr := l.filterMap (·.frame)
abbrev Cx.fs (X : Cx) : List Addr := frs X.outer
noncomputable def Vis (sc : Scope) (x : Str) : Prop := sc.names.lookup x = some .local ∨ sc.names.lookup x = some .cell ∨ sc.names.lookup x = some .free
noncomputable def Loc (sc : Scope) (x : Str) : Prop := sc.names.lookup x = some .local ∨ sc.names.lookup x = some .cell
noncomputable def Look (env : Env) (h : Heap) (m : Str → Option Value) (x : Str) (u : Value) : Prop :=
  (env.kindOf x = some .local ∧ m x = some u) ∨ ((env.kindOf x = some .cell ∨ env.kindOf x = some .free) ∧ ∃ c, env.cells.lookup x = some c ∧ h.IsCell c (some u))
structure Cx.Ok (X : Cx) : Prop where
  mod : Mod X.K X.mg X.base
  kind : X.env.scope.kind = .function
  glob : X.env.globals = mainGlobals
  blt : X.env.builtins = builtinsNs
  above : X.s₀.heap.objs.size ≤ X.env.locals
  inj : ∀ x y c, X.env.cells.lookup x = some c → X.env.cells.lookup y = some c → x = y
  has : ∀ x, (X.env.kindOf x = some .cell ∨ X.env.kindOf x = some .free) → ∃ c, X.env.cells.lookup x = some c
  cab : ∀ x c, X.fn x = true → X.env.cells.lookup x = some c → X.s₀.heap.objs.size ≤ c
  hd : X.calm = true → X.A.handled = none
  frames : X.A.frames = some X.stack
  stk : X.stack = X.outer ∨ (X.stack = X.env :: X.outer ∧ X.env.frame = some X.env.locals)
  exf : ∀ b ∈ X.ex, b ≠ X.env.locals ∧ ∀ x c, X.env.cells.lookup x = some c → c ≠ b
  bs : ∀ b o, X.base.get? b = some o → X.s₀.heap.get? b = some o ∧ X.H₀ b = none
  bsz : X.base.objs.size ≤ X.s₀.heap.objs.size
  noex : ∀ b o, X.base.get? b = some o → b ∉ X.ex
  exfs : ∀ b ∈ X.ex, b ∉ X.fs
  funs : X.s₀.heap.FunFrames X.base X.outer
  frf : ∀ b ∈ X.fs, X.H₀ b = none
structure Inv (X : Cx) (pins : List (Addr × Obj)) (σ : List (Option V)) (H : Hp) (s : Shared) : Prop where
  ok : X.Ok
  os : s.os = X.s₀.os
  bare : AllBare s.gens
  base : Un X.fs X.ex X.H₀ H X.s₀.heap s.heap
  loc : ∃ m, s.heap.Ns X.env.locals m ∧ ∀ (i : Nat) (x : Str) (v : V), X.N[i]? = some x → σ[i]? = some (some v) → Vis X.env.scope x → ∃ u, RelV v u ∧ Look X.env s.heap m x u
  cell : ∀ x c, X.env.cells.lookup x = some c → ∃ v, s.heap.IsCell c v
  free : H X.env.locals = none
  freeC : ∀ x c, X.env.cells.lookup x = some c → H c = none
  pin : ∀ p ∈ X.pn ++ pins, s.heap.get? p.1 = some p.2 ∧ H p.1 = none ∧ p.1 ≠ X.env.locals ∧ p.1 ∉ X.fs ∧ ∀ v, p.2.data ≠ .cell v
  hok : HOk X.prog X.w H s.heap
  len : σ.length = X.N.length
section
variable {X : Cx} {pins : List (Addr × Obj)} {σ : List (Option V)} {H H' : Hp} {s : Shared} {h' : Heap}
theorem Cx.Ok.nofr (ok : X.Ok) {b : Addr} {o : Obj} (e : X.base.get? b = some o) : b ∉ X.fs := fun hb => by
  have := (ok.funs.mem hb).1
  rw [e] at this; cases this
theorem Inv.bs (I : Inv X pins σ H s) : ∀ b o, X.base.get? b = some o → s.heap.get? b = some o ∧ H b = none := fun b o e =>
  ⟨I.base.keep b o (I.ok.bs b o e).1 (I.ok.bs b o e).2 (I.ok.nofr e) (I.ok.noex b o e), I.base.free b o (I.ok.bs b o e).1 (I.ok.bs b o e).2 (I.ok.noex b o e)⟩
theorem Inv.bk (I : Inv X pins σ H s) : ∀ b o, X.base.get? b = some o → s.heap.get? b = some o := fun b o e => (I.bs b o e).1
theorem Inv.mod (I : Inv X pins σ H s) : Mod X.K X.mg X.base := I.ok.mod
theorem Inv.kIn (I : Inv X pins σ H s) : X.K.In s.heap := I.ok.mod.kin.keeps I.bk
theorem Inv.nolimit (I : Inv X pins σ H s) : s.heap.NoLimit := I.ok.mod.nolimit.keeps I.bk
theorem Inv.fr (I : Inv X pins σ H s) : ∃ m, Fr X.base X.env.locals s.heap m :=
  let ⟨m, hn, _⟩ := I.loc
  ⟨m, hn, I.bk, Nat.le_trans I.ok.bsz I.ok.above⟩
theorem Inv.lt (I : Inv X pins σ H s) : X.env.locals < s.heap.objs.size := let ⟨_, hn, _⟩ := I.loc; hn.lt
theorem Inv.sz (I : Inv X pins σ H s) : X.s₀.heap.objs.size ≤ s.heap.objs.size := Nat.le_trans I.ok.above (Nat.le_of_lt I.lt)
theorem Inv.nofs (I : Inv X pins σ H s) {a : Addr} (h : s.heap.objs.size ≤ a) : a ∉ X.fs := fun hb => by
  obtain ⟨_, o, ho, _⟩ := I.ok.funs.mem hb
  exact absurd (Nat.lt_of_lt_of_le (Heap.lt_size ho) (Nat.le_trans I.sz h)) (Nat.lt_irrefl _)
theorem Inv.cne (I : Inv X pins σ H s) : ∀ x c, X.env.cells.lookup x = some c → c ≠ X.env.locals := fun x c e z => by
  obtain ⟨v, o, ho, hd⟩ := I.cell x c e
  obtain ⟨m, ⟨o', es, ep, ho', hd', _⟩, _⟩ := I.loc
  rw [z, ho'] at ho; cases ho; rw [hd'] at hd; cases hd
theorem Inv.funs (I : Inv X pins σ H s) : s.heap.FunFrames X.base X.outer := by
  have all : ∀ (l : List Env), (∀ b ∈ frs l, b ∈ X.fs) → X.s₀.heap.FunFrames X.base l → s.heap.FunFrames X.base l := by
    intro l
    induction l with
    | nil => intro _ _; trivial
    | cons env r ih =>
      intro hs hl
      obtain ⟨hk, ⟨L, o, hf, hn, ho, hd⟩, hr⟩ := hl
      have hL : L ∈ X.fs := hs L (by unfold frs; rw [List.filterMap_cons, hf]; exact List.mem_cons_self)
      obtain ⟨sl, e⟩ := I.base.slot L o ho (I.ok.frf L hL) hL fun z => I.ok.exfs L z hL
      exact ⟨hk, ⟨L, _, hf, hn, e, hd⟩, ih (fun b hb => hs b (by unfold frs; rw [List.filterMap_cons, hf]; exact List.mem_cons_of_mem _ hb)) hr⟩
  exact all X.outer (fun _ hb => hb) I.ok.funs
theorem Inv.stack (I : Inv X pins σ H s) : s.heap.FunFrames X.base X.stack := by
  rcases I.ok.stk with e | ⟨e, hf⟩
  · rw [e]; exact I.funs
  · rw [e]
    obtain ⟨m, hn, _⟩ := I.loc
    refine .cons (by rw [I.ok.kind]; decide) hf hn ?_ I.funs
    exact Heap.get?_none_of_le (Nat.le_trans I.ok.bsz I.ok.above)
theorem Inv.stkSub (I : Inv X pins σ H s) : ∀ b ∈ frs X.stack, b ∈ X.env.locals :: X.fs := fun b hb => by
  rcases I.ok.stk with e | ⟨e, hf⟩
  · rw [e] at hb; exact List.mem_cons_of_mem _ hb
  · rw [e] at hb
    unfold frs at hb
    rw [List.filterMap_cons, hf] at hb
    exact hb
theorem Inv.stkFree (I : Inv X pins σ H s) : ∀ b ∈ frs X.stack, H b = none := fun b hb => by
  rcases List.mem_cons.mp (I.stkSub b hb) with e | hb
  · rw [e]; exact I.free
  · obtain ⟨_, o, ho, _⟩ := I.ok.funs.mem hb
    exact I.base.free b o ho (I.ok.frf b hb) fun z => I.ok.exfs b z hb
theorem Inv.step {g' : Array GenState} {t' : Nat} {d' : Drawn} {ch : List Addr} (I : Inv X pins σ H s)
    (hch : ∀ b ∈ ch, (b ∈ X.ex ∨ X.s₀.heap.objs.size ≤ b) ∧ b ≠ X.env.locals ∧ (∀ x c, X.env.cells.lookup x = some c → c ≠ b) ∧ ∀ p ∈ X.pn ++ pins, p.1 ≠ b)
    (keep : ∀ b o, b ≠ X.env.locals → b ∉ X.fs → b ∉ ch → s.heap.get? b = some o → H b = none → h'.get? b = some o)
    (slot : ∀ b o, b ≠ X.env.locals → b ∈ X.fs → b ∉ ch → s.heap.get? b = some o → H b = none → ∃ sl, h'.get? b = some { o with slots := sl }) (free : ∀ b o, b ∉ ch → s.heap.get? b = some o → H b = none → H' b = none)
    (there : ∀ b o, b ∉ ch → s.heap.get? b = some o → ∃ o', h'.get? b = some o')
    (tups : ∀ b xs, H b = some (.tup xs) → H' b = some (.tup xs)) (frzs : ∀ b o u, H b = some (.frz o u) → H' b = some (.frz o u)) (tbls : ∀ b ps, H b = some (.tbl ps) → ∃ more, H' b = some (.tbl (ps ++ more)))
    (ns : ∀ m, s.heap.Ns X.env.locals m → h'.Ns X.env.locals m) (hok : HOk X.prog X.w H' h') (hg : AllBare g') :
    Inv X pins σ H' { s with heap := h', gens := g', drawn := d', toks := t' } := by
  have neL : ∀ b o, X.s₀.heap.get? b = some o → b ≠ X.env.locals := fun b o e => Nat.ne_of_lt (Nat.lt_of_lt_of_le (Heap.lt_size e) I.ok.above)
  have neC : ∀ b o, X.s₀.heap.get? b = some o → b ∉ X.ex → b ∉ ch := fun b o e hx hb => by
    rcases (hch b hb).1 with z | z
    · exact hx z
    · exact absurd (Nat.lt_of_lt_of_le (Heap.lt_size e) z) (Nat.lt_irrefl _)
  have cellK : ∀ x c, X.env.cells.lookup x = some c → ∀ v, s.heap.IsCell c v → h'.IsCell c v := fun x c e v ⟨o, ho, hd⟩ => by
    have nch : c ∉ ch := fun z => (hch c z).2.2.1 x c e rfl
    by_cases hc : c ∈ X.fs
    · obtain ⟨sl, q⟩ := slot c o (I.cne x c e) hc nch ho (I.freeC x c e)
      exact ⟨_, q, hd⟩
    · exact ⟨o, keep c o (I.cne x c e) hc nch ho (I.freeC x c e), hd⟩
  refine ⟨I.ok, I.os, hg, ⟨fun b o e n hb hx => ?_, fun b o e n hb hx => ?_, fun b o e n hx => ?_, fun b o e hx => ?_, fun b xs e => tups b xs (I.base.tups b xs e), fun b o xs e => frzs b o xs (I.base.frzs b o xs e), fun b ps e => ?_⟩, ?_, fun x c e => ?_, ?_, fun x c e => ?_, fun p hp => ?_, hok, I.len⟩
  · exact keep b o (neL b o e) hb (neC b o e hx) (I.base.keep b o e n hb hx) (I.base.free b o e n hx)
  · obtain ⟨sl, e1⟩ := I.base.slot b o e n hb hx
    obtain ⟨sl', e2⟩ := slot b _ (neL b o e) hb (neC b o e hx) e1 (I.base.free b o e n hx)
    exact ⟨sl', e2⟩
  · obtain ⟨o', e1⟩ := I.base.there b o e hx
    exact free b o' (neC b o e hx) e1 (I.base.free b o e n hx)
  · obtain ⟨o', e1⟩ := I.base.there b o e hx
    exact there b o' (neC b o e hx) e1
  · obtain ⟨m1, e1⟩ := I.base.tbls b ps e
    obtain ⟨m2, e2⟩ := tbls b _ e1
    exact ⟨m1 ++ m2, by rw [e2, Array.append_assoc]⟩
  · obtain ⟨m, hn, hl⟩ := I.loc
    refine ⟨m, ns m hn, fun i x v e1 e2 e3 => ?_⟩
    obtain ⟨u, r, l⟩ := hl i x v e1 e2 e3
    refine ⟨u, r, ?_⟩
    rcases l with l | ⟨k, c, e, z⟩
    · exact .inl l
    · exact .inr ⟨k, c, e, cellK x c e _ z⟩
  · obtain ⟨v, z⟩ := I.cell x c e
    exact ⟨v, cellK x c e v z⟩
  · obtain ⟨m, ⟨o, _, _, ho, _⟩, _⟩ := I.loc
    exact free _ o (fun z => (hch _ z).2.1 rfl) ho I.free
  · obtain ⟨v, o, ho, hd⟩ := I.cell x c e
    exact free c o (fun z => (hch c z).2.2.1 x c e rfl) ho (I.freeC x c e)
  · obtain ⟨e, n, ne, nf, d⟩ := I.pin p hp
    have nch : p.1 ∉ ch := fun z => (hch p.1 z).2.2.2 p hp rfl
    exact ⟨keep p.1 p.2 ne nf nch e n, free p.1 p.2 nch e n, ne, nf, d⟩
theorem Inv.un {t' : Nat} (I : Inv X pins σ H s) (u : Un X.fs [] H H' s.heap h') (hok : HOk X.prog X.w H' h') : Inv X pins σ H' { s with heap := h', toks := t' } := by
  obtain ⟨m, ⟨o, es, ep, ho, r⟩, _⟩ := id I.loc
  obtain ⟨sl, hL⟩ := u.any ho I.free (by simp)
  exact I.step (g' := s.gens) (d' := s.drawn) (ch := []) (fun _ z => nomatch z) (fun b o _ hb _ e n => u.keep b o e n hb (by simp)) (fun b o _ hb _ e n => u.slot b o e n hb (by simp)) (fun b o _ e n => u.free b o e n (by simp)) (fun b o _ e => u.there b o e (by simp)) u.tups u.frzs u.tbls (fun m' hm => by
    obtain ⟨o', es', ep', ho', r'⟩ := hm
    rw [ho] at ho'; cases ho'
    exact ⟨_, es', ep', hL, r'⟩) hok I.bare
theorem Inv.call {g' : Array GenState} {t' : Nat} {d' : Drawn} {ch : List Addr} (I : Inv X pins σ H s) (u : Un (frs X.stack) ch H H' s.heap h') (hok : HOk X.prog X.w H' h') (hg : AllBare g')
    (hch : ∀ b ∈ ch, (b ∈ X.ex ∨ X.s₀.heap.objs.size ≤ b) ∧ b ≠ X.env.locals ∧ (∀ x c, X.env.cells.lookup x = some c → c ≠ b) ∧ ∀ p ∈ X.pn ++ pins, p.1 ≠ b) :
    Inv X pins σ H' { s with heap := h', gens := g', drawn := d', toks := t' } := by
  obtain ⟨m, ⟨o, es, ep, ho, r⟩, _⟩ := id I.loc
  obtain ⟨sl, hL⟩ := u.any ho I.free fun z => (hch _ z).2.1 rfl
  exact I.step (ch := ch) hch (fun b o hL hb hc e n => u.keep b o e n (fun z => (List.mem_cons.mp (I.stkSub b z)).elim hL hb) hc) (fun b o _ _ hc e n => u.any e n hc) (fun b o hc e n => u.free b o e n hc) (fun b o hc e => u.there b o e hc) u.tups u.frzs u.tbls (fun m' hm => by
    obtain ⟨o', es', ep', ho', r'⟩ := hm
    rw [ho] at ho'; cases ho'
    exact ⟨_, es', ep', hL, r'⟩) hok hg
theorem Inv.turned {t' : Nat} {it : Addr} (I : Inv X pins σ H s) (k : ∀ b o, b ≠ it → s.heap.get? b = some o → h'.get? b = some o) (hn : H it = none) (hL : it ≠ X.env.locals)
    (h1 : it ∈ X.ex ∨ X.s₀.heap.objs.size ≤ it) (h2 : ∀ x c, X.env.cells.lookup x = some c → c ≠ it) (h3 : ∀ p ∈ X.pn ++ pins, p.1 ≠ it) : Inv X pins σ H { s with heap := h', toks := t' } := by
  have nit : ∀ b u, H b = some u → b ≠ it := fun b u e z => by rw [z, hn] at e; cases e
  refine I.step (g' := s.gens) (d' := s.drawn) (ch := [it]) (fun b hb => ?_) (fun b o _ _ hc e _ => k b o (fun z => hc (by simp [z])) e) (fun b o _ _ hc e _ => ⟨o.slots, k b o (fun z => hc (by simp [z])) e⟩) (fun _ _ _ _ n => n)
    (fun b o hc e => ⟨o, k b o (fun z => hc (by simp [z])) e⟩) (fun _ _ e => e) (fun _ _ _ e => e) (fun b ps e => ⟨#[], by rw [e]; simp⟩) (fun m hm => ?_) (fun b u e => ?_) I.bare
  · have e : b = it := by simpa using hb
    subst e
    exact ⟨h1, hL, h2, h3⟩
  · obtain ⟨o, es, ep, ho, r⟩ := hm
    exact ⟨o, es, ep, k _ o (Ne.symm hL) ho, r⟩
  · refine (I.hok b u e).stay (fun c v hc q => k c v ?_ q) (fun _ q => q) fun _ _ q => q
    rcases hc with z | z
    · rw [z]; exact nit b u e
    · exact nit c _ z
theorem Inv.tok (I : Inv X pins σ H s) (t : Nat) : Inv X pins σ H { s with toks := t } := I.un (h' := s.heap) (t' := t) Un.refl I.hok
theorem Inv.kept {t' : Nat} (I : Inv X pins σ H s) (k : ∀ b u, s.heap.get? b = some u → h'.get? b = some u) : Inv X pins σ H { s with heap := h', toks := t' } := I.un (Un.kept k) (I.hok.kept k)
theorem Inv.laid {a : Addr} {o : HO} {t' : Nat} (I : Inv X pins σ H s) (k : ∀ b u, s.heap.get? b = some u → h'.get? b = some u) (hp : s.heap.objs.size ≤ a) (new : ObjOk X.prog X.w (upd H a o) h' a o) :
    Inv X pins σ (upd H a o) { s with heap := h', toks := t' } := I.un (Un.laid k hp (I.hok.fresh hp)) (I.hok.laid k hp new)
theorem Inv.write {x e : Addr} {o : HO} {t' : Nat} (I : Inv X pins σ H s) (mu : Mut (H x)) (he : e = x ∨ H e = some (.own x)) (k : ∀ b u, b ≠ e → s.heap.get? b = some u → h'.get? b = some u) (heo : ∃ u, h'.get? e = some u)
    (new : ObjOk X.prog X.w (upd H x o) h' x o) : Inv X pins σ (upd H x o) { s with heap := h', toks := t' } := I.un (Un.write mu he k heo) (I.hok.write mu he k heo new)
theorem Inv.weak {σ' : List (Option V)} (I : Inv X pins σ H s) (hl : σ'.length = σ.length) (w : ∀ (i : Nat) v, σ'[i]? = some (some v) → σ[i]? = some (some v)) : Inv X pins σ' H s :=
  ⟨I.ok, I.os, I.bare, I.base, let ⟨m, hn, hl'⟩ := I.loc; ⟨m, hn, fun i x v e1 e2 e3 => hl' i x v e1 (w i v e2) e3⟩, I.cell, I.free, I.freeC, I.pin, I.hok, hl.trans I.len⟩
theorem Inv.pins_of {pins' : List (Addr × Obj)} (I : Inv X pins σ H s) (h : ∀ p ∈ pins', s.heap.get? p.1 = some p.2 ∧ H p.1 = none ∧ p.1 ≠ X.env.locals ∧ p.1 ∉ X.fs ∧ ∀ v, p.2.data ≠ .cell v) : Inv X pins' σ H s :=
  ⟨I.ok, I.os, I.bare, I.base, I.loc, I.cell, I.free, I.freeC, fun p hp => (List.mem_append.mp hp).elim (fun z => I.pin p (List.mem_append_left _ z)) (h p), I.hok, I.len⟩
theorem nodup_ix {N : List Str} (hN : N.Nodup) {i j : Nat} {x : Str} (a : N[i]? = some x) (b : N[j]? = some x) : i = j := by
  obtain ⟨h1, e1⟩ := List.getElem?_eq_some_iff.mp a
  obtain ⟨h2, e2⟩ := List.getElem?_eq_some_iff.mp b
  exact (List.getElem_inj hN).mp (e1.trans e2.symm)
theorem store_ok2 {M : Model} {A : Around} {E : Value → Shared → Prop} {i : Nat} {x : Str} {v : V} {u : Value} {Q : Unit → Shared → Prop} (I : Inv X pins σ H s) (hN : X.N.Nodup) (hi : X.N[i]? = some x) (hx : Loc X.env.scope x) (r : RelV v u)
    (h : ∀ s', Inv X pins (σ.set i (some v)) H s' → (∃ a, Heap.SameBut a s.heap s'.heap ∧ (a = X.env.locals ∨ X.env.cells.lookup x = some a)) → Q () s') (hf : X.fn x = true ∨ X.env.scope.names.lookup x = some .local := by first | exact .inl rfl | exact .inr rfl | assumption) : wpAny M A (storeName X.env x u) Q E s := by
  obtain ⟨m, hn, hl⟩ := id I.loc
  have hcls : (X.env.scope.kind == .class || (X.env.scope.kind == .module && X.env.locals != X.env.globals)) = false := by rw [I.ok.kind]; rfl
  have hiσ : i < σ.length := by rw [I.len]; exact (List.getElem?_eq_some_iff.mp hi).1
  have cne := I.cne
  have tracked : ∀ {a : Addr} {h' : Heap}, (∃ o, s.heap.get? a = some o ∧ H a = none) → Heap.SameBut a s.heap h' → HOk X.prog X.w H h' := fun {a h'} ha hs b ob e => by
    obtain ⟨_, _, hfree⟩ := ha
    refine (I.hok b ob e).stay (fun c w' hc q => (hs.2 c ?_).trans q) (fun _ q => q) fun _ _ q => q
    rintro rfl
    rcases hc with rfl | hc
    · rw [hfree] at e; cases e
    · rw [hfree] at hc; cases hc
  rcases hx with hk | hk
  · refine wpAny_storeName_local hk hn (fun h' hn' hs => ?_) hcls
    obtain ⟨oL, _, _, hoL, _⟩ := id hn
    refine h _ ⟨I.ok, I.os, I.bare, ⟨fun b o e n hb hx => ?_, fun b o e n hb hx => ?_, I.base.free, fun b o e hx => ?_, I.base.tups, I.base.frzs, I.base.tbls⟩, ⟨_, hn', fun j y v' e1 e2 e3 => ?_⟩, fun y c e => ?_, I.free, I.freeC, fun p hp => ?_, tracked ⟨oL, hoL, I.free⟩ hs, by simpa using I.len⟩ ⟨_, hs, .inl rfl⟩
    · exact (hs.2 b (Nat.ne_of_lt (Nat.lt_of_lt_of_le (Heap.lt_size e) I.ok.above))).trans (I.base.keep b o e n hb hx)
    · obtain ⟨sl, e1⟩ := I.base.slot b o e n hb hx
      exact ⟨sl, (hs.2 b (Nat.ne_of_lt (Nat.lt_of_lt_of_le (Heap.lt_size e) I.ok.above))).trans e1⟩
    · obtain ⟨o', e1⟩ := I.base.there b o e hx
      exact ⟨o', (hs.2 b (Nat.ne_of_lt (Nat.lt_of_lt_of_le (Heap.lt_size e) I.ok.above))).trans e1⟩
    · by_cases hj : j = i
      · subst hj
        rw [hi] at e1; cases e1
        rw [List.getElem?_set_self hiσ] at e2
        cases e2
        exact ⟨u, r, .inl ⟨hk, by simp⟩⟩
      · rw [List.getElem?_set_ne (Ne.symm hj)] at e2
        obtain ⟨u', r', q⟩ := hl j y v' e1 e2 e3
        refine ⟨u', r', ?_⟩
        rcases q with ⟨k, e⟩ | ⟨k, c, e, z⟩
        · refine .inl ⟨k, ?_⟩
          have : y ≠ x := fun e => hj (nodup_ix hN e1 (e ▸ hi))
          simp [this, e]
        · exact .inr ⟨k, c, e, z.sameBut hs (cne y c e)⟩
    · obtain ⟨w', z⟩ := I.cell y c e
      exact ⟨w', z.sameBut hs (cne y c e)⟩
    · obtain ⟨e, n, ne, nf, d⟩ := I.pin p hp
      exact ⟨(hs.2 p.1 ne).trans e, n, ne, nf, d⟩
  · have hfn : X.fn x = true := by
      rcases hf with z | z
      · exact z
      · rw [z] at hk; cases hk
    obtain ⟨c, hc⟩ := I.ok.has x (.inl hk)
    obtain ⟨w', z⟩ := I.cell x c hc
    refine wpAny_storeName_cell I.ok.kind hk hc z (fun h' hc' hs => ?_)
    obtain ⟨oc, hoc, hocd⟩ := id z
    refine h { s with heap := h' } ⟨I.ok, I.os, I.bare, ⟨fun b o e n hb hx => ?_, fun b o e n hb hx => ?_, I.base.free, fun b o e hx => ?_, I.base.tups, I.base.frzs, I.base.tbls⟩, ⟨m, hn.sameBut hs (Ne.symm (cne x c hc)), fun j y v' e1 e2 e3 => ?_⟩, fun y c' e => ?_, I.free, I.freeC, fun p hp => ?_, tracked ⟨oc, hoc, I.freeC x c hc⟩ hs, by simpa using I.len⟩ ⟨c, hs, .inr hc⟩
    · exact (hs.2 b (Nat.ne_of_lt (Nat.lt_of_lt_of_le (Heap.lt_size e) (I.ok.cab x c hfn hc)))).trans (I.base.keep b o e n hb hx)
    · obtain ⟨sl, e1⟩ := I.base.slot b o e n hb hx
      exact ⟨sl, (hs.2 b (Nat.ne_of_lt (Nat.lt_of_lt_of_le (Heap.lt_size e) (I.ok.cab x c hfn hc)))).trans e1⟩
    · obtain ⟨o', e1⟩ := I.base.there b o e hx
      exact ⟨o', (hs.2 b (Nat.ne_of_lt (Nat.lt_of_lt_of_le (Heap.lt_size e) (I.ok.cab x c hfn hc)))).trans e1⟩
    · by_cases hj : j = i
      · subst hj
        rw [hi] at e1; cases e1
        rw [List.getElem?_set_self hiσ] at e2
        cases e2
        exact ⟨u, r, .inr ⟨.inl hk, c, hc, hc'⟩⟩
      · rw [List.getElem?_set_ne (Ne.symm hj)] at e2
        obtain ⟨u', r', q⟩ := hl j y v' e1 e2 e3
        refine ⟨u', r', ?_⟩
        rcases q with q | ⟨k, c', e, z'⟩
        · exact .inl q
        · refine .inr ⟨k, c', e, z'.sameBut hs ?_⟩
          rintro rfl
          exact hj (nodup_ix hN e1 (I.ok.inj _ _ _ e hc ▸ hi))
    · by_cases hcc : c' = c
      · subst hcc; exact ⟨_, hc'⟩
      · obtain ⟨w2, z2⟩ := I.cell y c' e
        exact ⟨w2, z2.sameBut hs hcc⟩
    · obtain ⟨e, n, ne, nf, d⟩ := I.pin p hp
      refine ⟨(hs.2 p.1 ?_).trans e, n, ne, nf, d⟩
      intro q
      rw [q, hoc] at e
      have q' : oc = p.2 := Option.some.inj e
      exact d w' (by rw [← q']; exact hocd)
theorem store_ok {M : Model} {A : Around} {E : Value → Shared → Prop} {i : Nat} {x : Str} {v : V} {u : Value} {Q : Unit → Shared → Prop} (I : Inv X pins σ H s) (hN : X.N.Nodup) (hi : X.N[i]? = some x) (hx : Loc X.env.scope x) (r : RelV v u)
    (h : ∀ s', Inv X pins (σ.set i (some v)) H s' → Q () s') (hf : X.fn x = true ∨ X.env.scope.names.lookup x = some .local := by first | exact .inl rfl | exact .inr rfl | assumption) : wpAny M A (storeName X.env x u) Q E s :=
  store_ok2 I hN hi hx r (fun s' I' _ => h s' I') hf
theorem Inv.call' {s' : Shared} {ch : List Addr} (I : Inv X pins σ H s) (ho : s'.os = s.os) (u : Un (frs X.stack) ch H H' s.heap s'.heap) (hok : HOk X.prog X.w H' s'.heap) (hg : AllBare s'.gens)
    (hch : ∀ b ∈ ch, (b ∈ X.ex ∨ X.s₀.heap.objs.size ≤ b) ∧ b ≠ X.env.locals ∧ (∀ x c, X.env.cells.lookup x = some c → c ≠ b) ∧ ∀ p ∈ X.pn ++ pins, p.1 ≠ b) : Inv X pins σ H' s' := by
  obtain ⟨h', g', d', t', o'⟩ := s'
  have e : o' = s.os := ho
  subst e
  exact I.call (g' := g') (t' := t') (d' := d') u hok hg hch
end
abbrev XK := Value → Option Addr → Hp → Prop
abbrev St := List (Option V)
abbrev VK := V → Hp → Prop
abbrev TE := St → Hp → VK → Prop
abbrev TT := St → Hp → (Bool → Hp → Prop) → Prop
abbrev TA := St → Hp → (List V → Hp → Prop) → Prop
structure Ends where
  nx : St → Hp → Prop
  rt : VK
  bk : St → Hp → Prop := fun _ _ => False
  ct : St → Hp → Prop := fun _ _ => False
abbrev TS := Ends → St → Hp → Prop
noncomputable def EP (X : Cx) (pins : List (Addr × Obj)) (σ : St) (Q : VK) (u : Value) (s' : Shared) : Prop := ∃ v H', Inv X pins σ H' s' ∧ RelV v u ∧ Q v H'
noncomputable def TP (X : Cx) (pins : List (Addr × Obj)) (σ : St) (Q : Bool → Hp → Prop) (b : Bool) (s' : Shared) : Prop := ∃ H', Inv X pins σ H' s' ∧ Q b H'
noncomputable def AP (X : Cx) (pins : List (Addr × Obj)) (σ : St) (Q : List V → Hp → Prop) (us : List Value) (s' : Shared) : Prop := ∃ vs H', Inv X pins σ H' s' ∧ Vals vs us ∧ Q vs H'
noncomputable def SP (X : Cx) (pins : List (Addr × Obj)) (D : Ends) (f : Flow) (s' : Shared) : Prop :=
  match f with
  | .next => ∃ σ' H', Inv X pins σ' H' s' ∧ D.nx σ' H'
  | .brk => ∃ σ' H', Inv X pins σ' H' s' ∧ D.bk σ' H'
  | .cont => ∃ σ' H', Inv X pins σ' H' s' ∧ D.ct σ' H'
  | .ret u => ∃ v σ' H', Inv X pins σ' H' s' ∧ RelV v u ∧ D.rt v H'
noncomputable def PE (X : Cx) (e : Expr) (t : TE) : Prop :=
  ∀ (pins : List (Addr × Obj)) (s : Shared) (σ : St) (H : Hp) (Q : VK), Inv X pins σ H s → t σ H Q → wpAny (model X.prog X.w) X.A (eval e X.env) (EP X pins σ Q) X.xe s
noncomputable def PT (X : Cx) (e : Expr) (t : TT) : Prop :=
  ∀ (pins : List (Addr × Obj)) (s : Shared) (σ : St) (H : Hp) (Q : Bool → Hp → Prop), Inv X pins σ H s → t σ H Q → wpAny (model X.prog X.w) X.A (isTrue e X.env (eval e X.env)) (TP X pins σ Q) X.xe s
noncomputable def PW (X : Cx) (e : Expr) (t : TT) : Prop :=
  ∀ (whole : Sem Value) (pins : List (Addr × Obj)) (s : Shared) (σ : St) (H : Hp) (Q : Bool → Hp → Prop), Inv X pins σ H s → t σ H Q → wpAny (model X.prog X.w) X.A (isTrue e X.env whole) (TP X pins σ Q) X.xe s
theorem PW.pt {X : Cx} {e : Expr} {t : TT} (h : PW X e t) : PT X e t := h _
noncomputable def PA (X : Cx) (es : List Expr) (t : TA) : Prop :=
  ∀ (pos : Pos) (pins : List (Addr × Obj)) (s : Shared) (σ : St) (H : Hp) (Q : List V → Hp → Prop), Inv X pins σ H s → t σ H Q → wpAny (model X.prog X.w) X.A (spliced (backTo pos (starEach es X.env))) (AP X pins σ Q) X.xe s
noncomputable def PS (X : Cx) (st : Stmt) (t : TS) : Prop :=
  ∀ (pins : List (Addr × Obj)) (s : Shared) (σ : St) (H : Hp) (D : Ends), Inv X pins σ H s → t D σ H → wpAny (model X.prog X.w) X.A (exec st X.env) (SP X pins D) X.xe s
noncomputable def PSs (X : Cx) (st : List Stmt) (t : TS) : Prop :=
  ∀ (pins : List (Addr × Obj)) (s : Shared) (σ : St) (H : Hp) (D : Ends), Inv X pins σ H s → t D σ H → wpAny (model X.prog X.w) X.A (execs st X.env) (SP X pins D) X.xe s
theorem thn {α : Type} {t : Sem α} {Q Q' : α → Shared → Prop} {M : Model} {A : Around} {E : Value → Shared → Prop} {s : Shared} (h : wpAny M A t Q E s) (hQ : ∀ a s, Q a s → Q' a s) : wpAny M A t Q' E s := wpAny_mono h hQ fun _ _ x => x
end L2
namespace L2
open PySem PySem.Spec PyProof.Rows
section
variable {X : Cx}
noncomputable def tVar (i : Nat) : TE := fun σ H Q => ∃ v, σ[i]? = some (some v) ∧ Q v H
noncomputable def tC (v : V) : TE := fun _ H Q => Q v H
theorem pe_var {i : Nat} {x : Str} {pos : Pos} (hN : X.N[i]? = some x) (hv : Vis X.env.scope x) (hd : (x == ("__debug__" : Str)) = false := by decide) (hcd : (x == ("__classdict__" : Str)) = false := by decide) : PE X (.Name x pos) (tVar i) := by
  intro pins s σ H Q I h
  obtain ⟨v, e, h⟩ := h
  obtain ⟨m, hn, hl⟩ := I.loc
  obtain ⟨u, r, l⟩ := hl i x v hN e hv
  have fin : EP X pins σ Q u s := ⟨v, H, I, r, h⟩
  rcases l with ⟨hk, hm⟩ | ⟨hk, c, hc, hcell⟩
  · exact wpAny_Name (wpAny_loadName_local I.ok.kind hk hn hm fin) hd
  · rcases hk with hk | hk
    · exact wpAny_Name (wpAny_loadName_cell I.ok.kind hk hc hcell fin) hd
    · exact wpAny_Name (wpAny_loadName_free I.ok.kind hk hc hcell fin hcd) hd
theorem pe_int {i j pos} : PE X (.Constant (.int i) j pos) (tC (.int i)) := fun _ _ _ H _ I h => wpAny_Constant_int ⟨.int i, H, I.tok _, ⟨_, rfl⟩, h⟩
theorem pe_bl {b j pos} : PE X (.Constant (.bool b) j pos) (tC (.bl b)) := fun _ _ _ H _ I h => Constant_bool ⟨.bl b, H, I, rfl, h⟩
theorem pe_non {j pos} : PE X (.Constant .none j pos) (tC .non) := fun _ _ _ H _ I h => Constant_none ⟨.non, H, I, rfl, h⟩
theorem pe_str {x j pos} : PE X (.Constant (.str x) j pos) (tC (.str x)) := fun _ _ _ H _ I h => Calls.Constant_str ⟨.str x, H, I.tok _, ⟨_, rfl⟩, h⟩
noncomputable def Gl (X : Cx) (x : Str) : Prop := X.env.kindOf x = some .globalImplicit
theorem ld_glob {E : Value → Shared → Prop} {pins : List (Addr × Obj)} {s : Shared} {σ : St} {H : Hp} {x : Str} {u : Value} {pos : Pos} {Q : Value → Shared → Prop} (I : Inv X pins σ H s) (hg : Gl X x) (hm : X.mg x = some u) (h : Q u s)
    (hd : (x == ("__debug__" : Str)) = false := by decide) : wpAny (model X.prog X.w) X.A (eval (.Name x pos) X.env) Q E s :=
  Calls.Name_function_global I.ok.kind hg (Calls.loadGlobal_global (by rw [I.ok.glob]; exact I.mod.glob.keeps I.bk) hm h) hd
theorem ld_blt {E : Value → Shared → Prop} {pins : List (Addr × Obj)} {s : Shared} {σ : St} {H : Hp} {x : Str} {u : Value} {pos : Pos} {Q : Value → Shared → Prop} (I : Inv X pins σ H s) (hg : Gl X x) (hm : X.mg x = none) (hv : bootBuiltins x = some u) (h : Q u s)
    (hn : x ≠ "__name__" := by decide) (hd : (x == ("__debug__" : Str)) = false := by decide) : wpAny (model X.prog X.w) X.A (eval (.Name x pos) X.env) Q E s := by
  obtain ⟨mb, h1, h2⟩ := I.mod.blt
  exact Calls.Name_function_global I.ok.kind hg (Calls.loadGlobal_builtin (by rw [I.ok.glob]; exact I.mod.glob.keeps I.bk) hm (by rw [I.ok.blt]; exact h1.keeps I.bk) ((h2 x hn).trans hv) h) hd
theorem pe_glob {x : Str} {v : V} {u : Value} {pos : Pos} (hg : Gl X x) (hm : X.mg x = some u) (r : RelV v u) (hd : (x == ("__debug__" : Str)) = false := by decide) : PE X (.Name x pos) (tC v) :=
  fun _ _ _ H _ I h => ld_glob I hg hm ⟨v, H, I, r, h⟩ hd
noncomputable def t2I (ta tb : TE) (k : Int → Int → Hp → Prop) : St → Hp → Prop := fun σ H => ta σ H fun x H1 => tb σ H1 fun y H2 => ∃ i j, x = .int i ∧ y = .int j ∧ k i j H2
variable {a b : Expr} {ta tb : TE} {pos : Pos}
noncomputable def tCmp (p : Int → Int → Bool) (ta tb : TE) : TE := fun σ H Q => t2I ta tb (fun i j H2 => Q (.bl (p i j)) H2) σ H
abbrev tLt : TE → TE → TE := tCmp fun i j => decide (i < j)
abbrev tLe : TE → TE → TE := tCmp fun i j => decide (i ≤ j)
abbrev tGt : TE → TE → TE := tCmp fun i j => decide (j < i)
abbrev tGe : TE → TE → TE := tCmp fun i j => decide (j ≤ i)
abbrev tEqI : TE → TE → TE := tCmp fun i j => decide (i = j)
abbrev tNeI : TE → TE → TE := tCmp fun i j => !decide (i = j)
noncomputable def tB (t : TE) : TT := fun σ H Q => t σ H fun x H1 => ∃ c, x = .bl c ∧ Q c H1
variable {tA tB' : TT} {rest : List Expr}
end
end L2
namespace L2
open PySem PySem.Spec PyProof.Rows
noncomputable def SqL (K : PySem.W.Frag) (H : Hp) (a : Addr) (xs : List V) : Prop :=
  Rd H a (.lst xs) ∨
    ∃ (o : Obj) (its : Array Value) (n : Nat), K.lookup a = some o ∧ o.cls = .type "list" ∧ o.dict = none ∧ o.data = .seq its n ∧ its.size ≤ sizeLine ∧ Vals xs its.toList
noncomputable def SqT (K : PySem.W.Frag) (H : Hp) (a : Addr) (xs : List V) : Prop :=
  Rd H a (.tup xs) ∨
    ∃ (o : Obj) (its : Array Value) (n : Nat), K.lookup a = some o ∧ o.cls = .type "tuple" ∧ o.data = .seq its n ∧ its.size ≤ sizeLine ∧ Vals xs its.toList
noncomputable def absV : Value → Option V
  | .none => some .non
  | .bool b => some (.bl b)
  | .int i _ => some (.int i)
  | .str x _ => some (.str x)
  | .bytes b _ => some (.byt b)
  | .float b _ => some (.flt b)
  | .ref a => some (.ref a)
  | .type n => some (.ty n)
  | _ => none
theorem RelV.abs {x : V} {u : Value} (r : RelV x u) : absV u = some x := by
  cases x with
  | non => cases r; rfl
  | bl _ => cases r; rfl
  | int _ => obtain ⟨t, rfl⟩ := r; rfl
  | str _ => obtain ⟨t, rfl⟩ := r; rfl
  | byt _ => obtain ⟨t, rfl⟩ := r; rfl
  | flt _ => obtain ⟨t, rfl⟩ := r; rfl
  | ref _ => cases r; rfl
  | ty _ => cases r; rfl
theorem RelV.inj {x y : V} {u : Value} (r : RelV x u) (q : RelV y u) : x = y := Option.some.inj (r.abs.symm.trans q.abs)
theorem Vals.inj : ∀ {xs ys : List V} {us : List Value}, Vals xs us → Vals ys us → xs = ys
  | _, _, _, .nil, .nil => rfl
  | _, _, _, .cons r t, .cons r' t' => by rw [r.inj r', Vals.inj t t']
section
variable {X : Cx} {pins : List (Addr × Obj)} {σ : St} {H : Hp} {s : Shared} {a : Addr} {xs ys : List V}
theorem SqL.of {K : PySem.W.Frag} (h : H a = some (.lst xs)) : SqL K H a xs := .inl (.inl h)
theorem SqT.of {K : PySem.W.Frag} (h : H a = some (.tup xs)) : SqT K H a xs := .inl (.inl h)
theorem Inv.list (I : Inv X pins σ H s) (h : SqL X.K H a xs) : ∃ its : List Value, Vals xs its ∧ PlainL s.heap a its.toArray ∧ xs.length ≤ sizeLine := by
  rcases h with h | ⟨o, its, n, hk, hc, hd, hs, hz, r⟩
  · obtain ⟨z, its, n, r, e⟩ := h.ok I.hok
    exact ⟨its, r, ⟨_, n, e, rfl, rfl, rfl⟩, z⟩
  · refine ⟨its.toList, r, ⟨o, n, I.kIn a o hk, hc, hd, by simpa using hs⟩, ?_⟩
    have e := r.length
    simp only [Array.length_toList] at e
    omega
theorem Inv.tuple (I : Inv X pins σ H s) (h : SqT X.K H a xs) : ∃ its : List Value, Vals xs its ∧ IsTup s.heap a its.toArray ∧ xs.length ≤ sizeLine := by
  rcases h with h | ⟨o, its, n, hk, hc, hs, hz, r⟩
  · obtain ⟨z, its, r, p⟩ := h.ok I.hok
    exact ⟨its, r, p, z⟩
  · refine ⟨its.toList, r, ⟨o, I.kIn a o hk, hc, n, by simpa using hs⟩, ?_⟩
    have e := r.length
    simp only [Array.length_toList] at e
    omega
theorem Inv.list_inj (I : Inv X pins σ H s) (h : SqL X.K H a xs) (h' : SqL X.K H a ys) : xs = ys := by
  obtain ⟨its, r, ⟨o, n, e, _, _, d⟩, _⟩ := I.list h
  obtain ⟨its', r', ⟨o', n', e', _, _, d'⟩, _⟩ := I.list h'
  rw [e] at e'; cases e'
  rw [d] at d'
  injection d' with d1 _
  have : its = its' := by simpa using congrArg Array.toList d1
  subst this
  exact r.inj r'
theorem Inv.tuple_inj (I : Inv X pins σ H s) (h : SqT X.K H a xs) (h' : SqT X.K H a ys) : xs = ys := by
  obtain ⟨its, r, ⟨o, e, _, n, d⟩, _⟩ := I.tuple h
  obtain ⟨its', r', ⟨o', e', _, n', d'⟩, _⟩ := I.tuple h'
  rw [e] at e'; cases e'
  rw [d] at d'
  injection d' with d1 _
  have : its = its' := by simpa using congrArg Array.toList d1
  subst this
  exact r.inj r'
end
abbrev Cx.wish (X : Cx) (E : Value → Shared → Prop) : Cx := { X with xe := E }
abbrev Cx.nox (X : Cx) : Cx := X.wish fun _ _ => False
theorem Cx.Ok.wish {X : Cx} (ok : X.Ok) (E : Value → Shared → Prop) : (X.wish E).Ok :=
  ⟨ok.mod, ok.kind, ok.glob, ok.blt, ok.above, ok.inj, ok.has, ok.cab, ok.hd, ok.frames, ok.stk, ok.exf, ok.bs, ok.bsz, ok.noex, ok.exfs, ok.funs, ok.frf⟩
theorem Cx.Ok.unwish {X : Cx} {E : Value → Shared → Prop} (ok : (X.wish E).Ok) : X.Ok :=
  ⟨ok.mod, ok.kind, ok.glob, ok.blt, ok.above, ok.inj, ok.has, ok.cab, ok.hd, ok.frames, ok.stk, ok.exf, ok.bs, ok.bsz, ok.noex, ok.exfs, ok.funs, ok.frf⟩
section
variable {X : Cx} {pins : List (Addr × Obj)} {σ : St} {H : Hp} {s : Shared} {E : Value → Shared → Prop}
theorem Inv.wish (I : Inv X pins σ H s) (E : Value → Shared → Prop) : Inv (X.wish E) pins σ H s := ⟨I.ok.wish E, I.os, I.bare, I.base, I.loc, I.cell, I.free, I.freeC, I.pin, I.hok, I.len⟩
theorem Inv.unwish (I : Inv (X.wish E) pins σ H s) : Inv X pins σ H s := ⟨I.ok.unwish, I.os, I.bare, I.base, I.loc, I.cell, I.free, I.freeC, I.pin, I.hok, I.len⟩
theorem SP.unwish {D : Ends} {f : Flow} {s' : Shared} (h : SP (X.wish E) pins D f s') : SP X pins D f s' := by
  cases f with
  | next => obtain ⟨σ', H', I, q⟩ := h; exact ⟨σ', H', I.unwish, q⟩
  | brk => obtain ⟨σ', H', I, q⟩ := h; exact ⟨σ', H', I.unwish, q⟩
  | cont => obtain ⟨σ', H', I, q⟩ := h; exact ⟨σ', H', I.unwish, q⟩
  | ret u => obtain ⟨v, σ', H', I, r, q⟩ := h; exact ⟨v, σ', H', I.unwish, r, q⟩
theorem PE.nox {e : Expr} {t : TE} (h : PE X.nox e t) : PE X e t := fun pins s σ H Q I hw =>
  wpAny_mono (h pins s σ H Q (I.wish _) hw) (fun _ _ ⟨v, H', I', r, q⟩ => ⟨v, H', I'.unwish, r, q⟩) fun _ _ z => False.elim z
theorem PT.nox {e : Expr} {t : TT} (h : PT X.nox e t) : PT X e t := fun pins s σ H Q I hw =>
  wpAny_mono (h pins s σ H Q (I.wish _) hw) (fun _ _ ⟨H', I', q⟩ => ⟨H', I'.unwish, q⟩) fun _ _ z => False.elim z
theorem PSs.nox {st : List Stmt} {t : TS} (h : PSs X.nox st t) : PSs X st t := fun pins s σ H D I hw =>
  wpAny_mono (h pins s σ H D (I.wish _) hw) (fun _ _ q => q.unwish) fun _ _ z => False.elim z
end
section
variable {X : Cx} {st : Stmt} {rest : List Stmt} {t u : TS} {e : Expr} {te : TE} {pos : Pos}
end
abbrev TG := V → St → Hp → (St → Hp → Prop) → Prop
abbrev TGs := List V → St → Hp → (St → Hp → Prop) → Prop
noncomputable def PG (X : Cx) (target : Expr) (t : TG) : Prop :=
  ∀ (pins : List (Addr × Obj)) (s : Shared) (σ : St) (H : Hp) (v : V) (u : Value) (Q : St → Hp → Prop), Inv X pins σ H s → RelV v u → t v σ H Q →
    wpAny (model X.prog X.w) X.A (assign target X.env u) (fun _ s' => ∃ σ' H', Inv X pins σ' H' s' ∧ Q σ' H') X.xe s
abbrev TSet := V → V → V → Hp → (Hp → Prop) → Prop
abbrev TIp := V → V → Hp → VK → Prop
section
variable {X : Cx} {pos : Pos}
noncomputable def gName (i : Nat) : TG := fun v σ H Q => Q (σ.set i (some v)) H
theorem pg_name {i : Nat} {x : Str} (hN : X.N.Nodup) (hi : X.N[i]? = some x) (hx : Loc X.env.scope x) (hf : X.fn x = true ∨ X.env.scope.names.lookup x = some .local := by first | exact .inl rfl | exact .inr rfl | assumption) : PG X (.Name x pos) (gName i) := by
  intro pins s σ H v u Q I r h
  exact wpAny_assign_Name (store_ok I hN hi hx r (fun s' I' => ⟨_, H, I', h⟩) hf)
end
section
variable {X : Cx} {pos : Pos}
noncomputable def tWhile (c : TT) (tb : TS) : TS := fun D σ H => ∃ W : Nat → St → Hp → Prop, (∃ m, W m σ H) ∧ ∀ m σ H, W m σ H →
  c σ H fun b H1 => if b = true then ∃ N : St → Hp → Prop, (∀ σ' H', N σ' H' → ∃ m', m' < m ∧ W m' σ' H') ∧ tb { D with nx := N, ct := N, bk := D.nx } σ H1 else D.nx σ H1
theorem ps_while {c : Expr} {body : List Stmt} {tc : TT} {tb : TS} (hp : PassesOwn (model X.prog X.w) X.A X.env X.xe) (hc : PT X c tc) (hb : PSs X body tb) : PS X (.While c body [] pos) (tWhile tc tb) := by
  intro pins s σ H D I h
  obtain ⟨W, ⟨m0, w0⟩, turn⟩ := h
  refine wpAny_While (codeAny_whileLoop (fun n s' => ∃ σ' H', Inv X pins σ' H' s' ∧ W n σ' H') ?_ m0 ⟨σ, H, I, w0⟩)
  rintro n s1 ⟨σ1, H1, I1, w1⟩
  refine wpAny_passesOwn hp (thn (hc pins s1 σ1 H1 _ I1 (turn n σ1 H1 w1)) fun b s2 ⟨H2, I2, q2⟩ => ?_)
  cases b with
  | true =>
    obtain ⟨N, hN, q2⟩ := q2
    rw [if_pos rfl]
    refine wpAny_passesOwn hp (thn (hb pins s2 σ1 H2 _ I2 q2) fun f s3 q3 => ?_)
    cases f with
    | next =>
      obtain ⟨σ3, H3, I3, n3⟩ := q3
      obtain ⟨m', hm, w3⟩ := hN σ3 H3 n3
      exact ⟨m', hm, σ3, H3, I3, w3⟩
    | cont =>
      obtain ⟨σ3, H3, I3, n3⟩ := q3
      obtain ⟨m', hm, w3⟩ := hN σ3 H3 n3
      exact ⟨m', hm, σ3, H3, I3, w3⟩
    | brk => exact q3
    | ret v => exact q3
  | false =>
    rw [if_neg Bool.false_ne_true]
    exact wpAny_execs_nil ⟨σ1, H2, I2, q2⟩
end
structure It where
  go : Nat → Hp → Prop
  yld : Nat → Hp → V → Hp → Prop
  stop : Nat → Hp → Prop
noncomputable def FpOk (X : Cx) (pins : List (Addr × Obj)) (H : Hp) (b : Addr) : Prop :=
  H b = none ∧ b ≠ X.env.locals ∧ b ∉ X.fs ∧ (b ∈ X.ex ∨ X.s₀.heap.objs.size ≤ b) ∧ (∀ x c, X.env.cells.lookup x = some c → c ≠ b) ∧ ∀ p ∈ X.pn ++ pins, p.1 ≠ b
theorem Inv.fpOk {X : Cx} {pins : List (Addr × Obj)} {σ : St} {H H' : Hp} {s : Shared} {b : Addr} (I : Inv X pins σ H s) (hb : s.heap.objs.size ≤ b) (hn : H' b = none) : FpOk X pins H' b := by
  refine ⟨hn, Nat.ne_of_gt (Nat.lt_of_lt_of_le I.lt hb), I.nofs hb, .inr (Nat.le_trans I.sz hb), fun x c e z => ?_, fun p hp z => ?_⟩
  · obtain ⟨v, q⟩ := I.cell x c e
    exact absurd (Nat.lt_of_lt_of_le q.lt (by rw [z]; exact hb)) (Nat.lt_irrefl _)
  · exact absurd (Nat.lt_of_lt_of_le (Heap.lt_size (I.pin p hp).1) (by rw [z]; exact hb)) (Nat.lt_irrefl _)
structure Turn (P : Program) (w : World) (K : PySem.W.Frag) (tg : Expr) (J : It) (fp : List Addr) (it : Addr) (tn : Nat → Heap → Prop) : Prop where
  mem : it ∈ fp
  obj : ∀ i h, tn i h → ∀ b ∈ fp, ∃ o, h.get? b = some o ∧ ∀ v, o.data ≠ .cell v
  keep : ∀ i h h', tn i h → (∀ b ∈ fp, ∀ o, h.get? b = some o → h'.get? b = some o) → tn i h'
  item : ∀ (X : Cx), X.prog = P → X.w = w → X.K = K → X.calm = true → ∀ (i : Nat) (pins : List (Addr × Obj)) (s : Shared) (σ : St) (H : Hp) (E : Value → Shared → Prop), Inv X pins σ H s → (∀ b ∈ fp, FpOk X pins H b) → tn i s.heap → J.go i H →
    wpAny (model P w) X.A (pyNext (.ref it)) (fun r s1 => ∃ u, r = some u ∧
      wpAny (model P w) X.A (letOwnedTupleGo tg (.ref it) u) (fun _ s2 => ∃ x H', Inv X pins σ H' s2 ∧ RelV x u ∧ J.yld i H x H' ∧ tn (i + 1) s2.heap ∧ ∀ b ∈ fp, H' b = none) E s1) E s
  done : ∀ (X : Cx), X.prog = P → X.w = w → X.K = K → X.calm = true → ∀ (i : Nat) (pins : List (Addr × Obj)) (s : Shared) (σ : St) (H : Hp) (E : Value → Shared → Prop), Inv X pins σ H s → (∀ b ∈ fp, FpOk X pins H b) → tn i s.heap → J.stop i H →
    wpAny (model P w) X.A (pyNext (.ref it)) (fun r s1 => r = none ∧ Inv X pins σ H s1) E s
  self : ∀ (A : Around) (i : Nat) (s : Shared) (Q : Value → Shared → Prop) (E : Value → Shared → Prop), tn i s.heap → Q (.ref it) s → wpAny (model P w) A (pyIter (.ref it)) Q E s
abbrev TI := St → Hp → (It → Hp → Prop) → Prop
noncomputable def PIE (X : Cx) (pins : List (Addr × Obj)) (σ : St) (tg : Expr) (R : It → Hp → Prop) (itv : Value) (s2 : Shared) : Prop :=
  ∃ (it : Addr) (fp : List Addr) (tn : Nat → Heap → Prop) (J : It) (H' : Hp), itv = .ref it ∧ Inv X pins σ H' s2 ∧ Turn X.prog X.w X.K tg J fp it tn ∧ tn 0 s2.heap ∧ (∀ b ∈ fp, FpOk X pins H' b) ∧ R J H'
noncomputable def PI (X : Cx) (tg iter : Expr) (wi : TI) : Prop :=
  ∀ (pins : List (Addr × Obj)) (s : Shared) (σ : St) (H : Hp) (R : It → Hp → Prop), Inv X pins σ H s → wi σ H R →
    wpAny (model X.prog X.w) X.A (eval iter X.env) (fun v s1 => wpAny (model X.prog X.w) X.A (pyIter v) (PIE X pins σ tg R) X.xe s1) X.xe s
theorem go_of {M : Model} {A : Around} {E : Value → Shared → Prop} {s : Shared} {tg : Expr} {it : Addr} {u : Value} {o : Obj} {n : String} {vs : Array Value} {Q : Unit → Shared → Prop} (ho : s.heap.get? it = some o) (hc : o.cls = .type n) (hd : o.data = .fields vs)
    (hn : ["enumerate", "zip", "dict_itemiterator", "dict_reverseitemiterator", "odict_iterator", "itertools.zip_longest", "itertools.pairwise"].contains n = false) (hQ : Q () s) : wpAny M A (letOwnedTupleGo tg (.ref it) u) Q E s := by
  unfold letOwnedTupleGo
  cases tg <;> first
    | exact wpAny_pure hQ
    | (cases u <;> first
        | exact wpAny_pure hQ
        | (refine wpAny_bind (wpAny_load ho ?_)
           rw [hc, hd]
           show wpAny M A (if (["enumerate", "zip", "dict_itemiterator", "dict_reverseitemiterator", "odict_iterator", "itertools.zip_longest", "itertools.pairwise"].contains n && vs[0]? == some (rawInt _)) = true then _ else _) Q E s
           rw [if_neg (by intro h; rw [hn, Bool.false_and] at h; cases h)]
           exact wpAny_pure hQ))
noncomputable def Itl (K : PySem.W.Frag) (a : Addr) : It :=
  ⟨fun i H => ∃ xs x, SqL K H a xs ∧ xs[i]? = some x, fun i H x H' => H' = H ∧ ∀ xs, SqL K H a xs → xs[i]? = some x, fun i H => ∃ xs, SqL K H a xs ∧ xs.length ≤ i⟩
noncomputable def Itt (K : PySem.W.Frag) (a : Addr) : It :=
  ⟨fun i H => ∃ xs x, SqT K H a xs ∧ xs[i]? = some x, fun i H x H' => H' = H ∧ ∀ xs, SqT K H a xs → xs[i]? = some x, fun i H => ∃ xs, SqT K H a xs ∧ xs.length ≤ i⟩
noncomputable def Itr (lo : Int) (n : Nat) : It := ⟨fun i _ => i < n, fun i H x H' => H' = H ∧ x = .int (lo + i), fun i _ => n ≤ i⟩
theorem turn_list {P : Program} {w : World} {K : PySem.W.Frag} {tg : Expr} (a it : Addr) : Turn P w K tg (Itl K a) [it] it (fun i h => h.IsListIter it a i) where
  mem := by simp
  obj := fun i h st b hb => by
    have e : b = it := by simpa using hb
    subst e
    obtain ⟨o, e, c, d⟩ := st
    exact ⟨o, e, fun v z => by rw [d] at z; cases z⟩
  keep := fun i h h' st k => st.at fun o e => k it (by simp) o e
  item := by
    intro X hP hw hK hc i pins s σ H E I hf st hg
    subst hP hw hK
    obtain ⟨xs, x, hq, hx⟩ := hg
    obtain ⟨its, rv, p, hz⟩ := I.list hq
    obtain ⟨u, hu, ru⟩ := rv.get hx
    obtain ⟨f0, f1, f2, f3, f4, f5⟩ := hf it (by simp)
    refine wpAny_pyNext_list_item st p.isList (x := u) (by simpa using hu) fun h' st' sb => ?_
    have I1 : Inv X pins σ H { s with heap := h' } := I.turned (t' := s.toks) (fun b o hb e => (sb.2 b hb).trans e) f0 f1 f3 f4 f5
    obtain ⟨o, e, c, d⟩ := id st'
    exact ⟨u, rfl, go_of (s := { s with heap := h' }) e c d (by decide) ⟨x, H, I1, ru, ⟨rfl, fun ys hy => by rw [I.list_inj hy hq]; exact hx⟩, st', fun b hb => (hf b hb).1⟩⟩
  done := by
    intro X hP hw hK hc i pins s σ H E I hf st hg
    subst hP hw hK
    obtain ⟨xs, hq, hx⟩ := hg
    obtain ⟨its, rv, p, hz⟩ := I.list hq
    obtain ⟨f0, f1, f2, f3, f4, f5⟩ := hf it (by simp)
    have hl := rv.length
    exact wpAny_pyNext_list_end (I.ok.hd hc) st p.isList (by simp; omega) fun h' eb => ⟨rfl, I.turned (t' := s.toks) (fun b o hb e => eb b o hb e) f0 f1 f3 f4 f5⟩
  self := fun _ _ _ _ _ st h => wpAny_pyIter_listiter st h
theorem turn_tuple {P : Program} {w : World} {K : PySem.W.Frag} {tg : Expr} (a it : Addr) : Turn P w K tg (Itt K a) [it] it (fun i h => h.IsTupleIter it a i) where
  mem := by simp
  obj := fun i h st b hb => by
    have e : b = it := by simpa using hb
    subst e
    obtain ⟨o, e, c, d⟩ := st
    exact ⟨o, e, fun v z => by rw [d] at z; cases z⟩
  keep := fun i h h' st k => st.at fun o e => k it (by simp) o e
  item := by
    intro X hP hw hK hc i pins s σ H E I hf st hg
    subst hP hw hK
    obtain ⟨xs, x, hq, hx⟩ := hg
    obtain ⟨its, rv, p, hz⟩ := I.tuple hq
    obtain ⟨u, hu, ru⟩ := rv.get hx
    obtain ⟨f0, f1, f2, f3, f4, f5⟩ := hf it (by simp)
    refine wpAny_pyNext_tuple_item st (show s.heap.IsTuple a its.toArray from p) (x := u) (by simpa using hu) fun h' st' sb => ?_
    have I1 : Inv X pins σ H { s with heap := h' } := I.turned (t' := s.toks) (fun b o hb e => (sb.2 b hb).trans e) f0 f1 f3 f4 f5
    obtain ⟨o, e, c, d⟩ := id st'
    exact ⟨u, rfl, go_of (s := { s with heap := h' }) e c d (by decide) ⟨x, H, I1, ru, ⟨rfl, fun ys hy => by rw [I.tuple_inj hy hq]; exact hx⟩, st', fun b hb => (hf b hb).1⟩⟩
  done := by
    intro X hP hw hK hc i pins s σ H E I hf st hg
    subst hP hw hK
    obtain ⟨xs, hq, hx⟩ := hg
    obtain ⟨its, rv, p, hz⟩ := I.tuple hq
    obtain ⟨f0, f1, f2, f3, f4, f5⟩ := hf it (by simp)
    have hl := rv.length
    exact wpAny_pyNext_tuple_end (I.ok.hd hc) st (show s.heap.IsTuple a its.toArray from p) (by simp; omega) fun h' eb => ⟨rfl, I.turned (t' := s.toks) (fun b o hb e => eb b o hb e) f0 f1 f3 f4 f5⟩
  self := fun _ _ _ _ _ st h => wpAny_pyIter_tupleiter st h
theorem turn_range {P : Program} {w : World} {K : PySem.W.Frag} {tg : Expr} (it : Addr) (lo : Int) (n : Nat) : Turn P w K tg (Itr lo n) [it] it (fun i h => IsRangeIter h it (lo + (i : Nat) * 1) ((n : Int) - (i : Nat)) 1) where
  mem := by simp
  obj := fun i h st b hb => by
    have e : b = it := by simpa using hb
    subst e
    exact ⟨_, st, fun v z => by
      have z' : Data.fields _ = Data.cell v := z
      cases z'⟩
  keep := fun i h h' st k => k it (by simp) _ st
  item := by
    intro X hP hw hK hc i pins s σ H E I hf st hg
    subst hP hw hK
    obtain ⟨f0, f1, f2, f3, f4, f5⟩ := hf it (by simp)
    have W := Walks.range (prog := X.prog) (w := X.w) (I.ok.hd hc) it lo 1 n
    refine W.item i s _ _ hg st fun v h' tk hv st' kk => ?_
    obtain ⟨t, rfl⟩ := hv
    have I1 : Inv X pins σ H { s with heap := h', toks := tk } := I.turned (fun b o hb e => kk b o (by simpa using hb) e) f0 f1 f3 f4 f5
    refine ⟨_, rfl, go_of (s := { s with heap := h', toks := tk }) (n := "range_iterator") st' rfl rfl (by decide) ⟨.int (lo + i), H, I1, ⟨t, ?_⟩, ⟨rfl, rfl⟩, st', fun b hb => (hf b hb).1⟩⟩
    rw [Int.mul_one]
  done := by
    intro X hP hw hK hc i pins s σ H E I hf st hg
    subst hP hw hK
    obtain ⟨f0, f1, f2, f3, f4, f5⟩ := hf it (by simp)
    exact wpAny_pyNext_range_end (I.ok.hd hc) st (by have : n ≤ i := hg; omega) fun h' eb => ⟨rfl, I.turned (t' := s.toks) (fun b o hb e => eb b o hb e) f0 f1 f3 f4 f5⟩
  self := fun _ _ _ _ _ st h => wpAny_pyIter_rangeiter st h
end L2
namespace L2
open PySem PySem.Spec PyProof.Rows
section
variable {X : Cx} {tg : Expr}
theorem range_it {pins : List (Addr × Obj)} {σ : St} {H : Hp} {s : Shared} {R : It → Hp → Prop} {E : Value → Shared → Prop} {lo hi : Int} {t u v : Tok} {tk : Nat} (I : Inv X pins σ H s) (h1 : -(2 ^ 62) ≤ lo) (h2 : lo < 2 ^ 62) (h3 : -(2 ^ 62) ≤ hi) (h4 : hi < 2 ^ 62)
    (q : R (Itr lo (hi - lo).toNat) H) : wpAny (model X.prog X.w) X.A (pyIter (.ref s.heap.objs.size)) (PIE X pins σ tg R) E { s with heap := s.heap.push { cls := .type "range", data := .fields #[.int lo t, .int hi u, .int 1 v] }, toks := tk } := by
  refine wpAny_pyIter_range (IsRange.new ..) (small_one h1 h2 h3 h4) ?_
  have I1 : Inv X pins σ H { s with heap := s.heap.push { cls := .type "range", data := .fields #[.int lo t, .int hi u, .int 1 v] }, toks := tk } := I.kept fun b o e => Heap.get?_push_of_some _ e
  refine ⟨(s.heap.push { cls := .type "range", data := .fields #[.int lo t, .int hi u, .int 1 v] }).objs.size, [(s.heap.push { cls := .type "range", data := .fields #[.int lo t, .int hi u, .int 1 v] }).objs.size], _, _, H, rfl,
    I1.kept (t' := tk) fun b o e => Heap.get?_push_of_some _ e, turn_range _ lo (hi - lo).toNat, ?_, fun b hb => ?_, q⟩
  · have e1 : lo + ((0 : Nat) : Int) * 1 = lo := by simp
    have e2 : (((hi - lo).toNat : Nat) : Int) - ((0 : Nat) : Int) = Builtin.Range.rangeSize lo hi 1 := by rw [rangeSize_one]; split <;> omega
    show IsRangeIter _ _ (lo + ((0 : Nat) : Int) * 1) ((((hi - lo).toNat : Nat) : Int) - ((0 : Nat) : Int)) 1
    rw [e1, e2]
    exact Heap.get?_push_size _ rfl
  · have e : b = (s.heap.push { cls := .type "range", data := .fields #[.int lo t, .int hi u, .int 1 v] }).objs.size := by simpa using hb
    subst e
    exact I1.fpOk (Nat.le_refl _) (I1.hok.fresh (Nat.le_refl _))
noncomputable def iRng1 (ta : TA) : TI := fun σ H R => ta σ H fun vs H1 => ∃ j : Int, vs = [.int j] ∧ -(2 ^ 62) ≤ j ∧ j < 2 ^ 62 ∧ R (Itr 0 j.toNat) H1
theorem pi_range1 {a : Expr} {ta : TA} {p pos : Pos} (hg : Gl X "range") (hm : X.mg "range" = none) (ha : PA X [a] ta) (hs : starEach [a] X.env = [(false, eval a X.env)] := by rfl) : PI X tg (.Call (.Name "range" p) [a] [] pos) (iRng1 ta) := by
  intro pins s σ H R I h
  refine Call_ (ld_blt I hg hm boot_range (PyProof.Rows.callWith_type1 (thn (ha pos pins s σ H _ I h) fun us s1 ⟨vs, H1, I1, r1, q1⟩ => ?_) hs rfl))
  obtain ⟨j, e, q1, q2, q⟩ := q1
  subst e
  cases r1 with
  | cons r rr =>
    cases rr
    obtain ⟨t, rfl⟩ := r
    exact call_range_1 (range_it I1 (by omega) (by omega) q1 q2 (by simpa using q))
noncomputable def tFor (wi : TI) (g : TG) (tb : TS) : TS := fun D σ H => wi σ H fun J H1 => ∃ W : Nat → Nat → St → Hp → Prop, (∃ m, W 0 m σ H1) ∧ ∀ i m σ H, W i m σ H →
  (J.stop i H ∧ D.nx σ H) ∨ (J.go i H ∧ ∃ N : St → Hp → Prop, (∀ σ' H', N σ' H' → ∃ m', m' < m ∧ W (i + 1) m' σ' H') ∧ ∀ x H', J.yld i H x H' → g x σ H' fun σ2 H2 => tb { D with nx := N, ct := N, bk := D.nx } σ2 H2)
noncomputable def pinsAt (fp : List Addr) (h : Heap) : List (Addr × Obj) := fp.filterMap fun b => (h.get? b).map fun o => (b, o)
theorem mem_pinsAt {fp : List Addr} {h : Heap} {b : Addr} {o : Obj} (hb : b ∈ fp) (e : h.get? b = some o) : (b, o) ∈ pinsAt fp h := List.mem_filterMap.mpr ⟨b, hb, by rw [e]; rfl⟩
theorem of_pinsAt {fp : List Addr} {h : Heap} {p : Addr × Obj} (hp : p ∈ pinsAt fp h) : p.1 ∈ fp ∧ h.get? p.1 = some p.2 := by
  obtain ⟨b, hb, e⟩ := List.mem_filterMap.mp hp
  cases q : h.get? b with
  | none => rw [q] at e; cases e
  | some o =>
    rw [q] at e
    have e' : (b, o) = p := Option.some.inj e
    subst e'
    exact ⟨hb, q⟩
theorem Inv.pinned {pins : List (Addr × Obj)} {σ : St} {H : Hp} {s : Shared} {fp : List Addr} (I : Inv X pins σ H s) (hf : ∀ b ∈ fp, FpOk X pins H b) (ho : ∀ b ∈ fp, ∃ o, s.heap.get? b = some o ∧ ∀ v, o.data ≠ .cell v) : Inv X (pins ++ pinsAt fp s.heap) σ H s :=
  I.pins_of fun p hp => (List.mem_append.mp hp).elim (fun z => I.pin p (List.mem_append_right _ z)) fun z => by
    obtain ⟨hb, e⟩ := of_pinsAt z
    obtain ⟨f0, f1, f2, _⟩ := hf p.1 hb
    obtain ⟨o, e', d⟩ := ho p.1 hb
    rw [e] at e'; cases e'
    exact ⟨e, f0, f1, f2, d⟩
theorem Inv.unpinned {pins pl : List (Addr × Obj)} {σ : St} {H : Hp} {s : Shared} (I : Inv X (pins ++ pl) σ H s) : Inv X pins σ H s := I.pins_of fun p hp => I.pin p (List.mem_append_right _ (List.mem_append_left _ hp))
theorem ps_for {iter : Expr} {body : List Stmt} {wi : TI} {g : TG} {tb : TS} {pos : Pos} (hp : PassesOwn (model X.prog X.w) X.A X.env X.xe) (hc : X.calm = true) (hi : PI X tg iter wi) (hg : PG X tg g) (hb : PSs X body tb)
    (hs : ∀ x, foldedSetIterable iter X.env x = pure x := by intro _; rfl) : PS X (.For tg iter body [] pos) (tFor wi g tb) := by
  intro pins s σ H D I h
  refine wpAny_For (thn (hi pins s σ H _ I h) fun v s1 h1 => thn h1 fun itv s2 h2 => ?_) hs
  obtain ⟨it, fp, tn, J, H2, e, I2, T, st2, f2, W, ⟨m0, w0⟩, turn⟩ := h2
  subst e
  have stat : ∀ {H' : Hp}, (∀ b ∈ fp, H' b = none) → ∀ b ∈ fp, FpOk X pins H' b := fun hn b hb => ⟨hn b hb, (f2 b hb).2⟩
  refine codeAny_forLoop_any (fun n s' => ∃ i σ' H', Inv X pins σ' H' s' ∧ tn i s'.heap ∧ (∀ b ∈ fp, H' b = none) ∧ W i n σ' H') ?_ m0 ⟨0, σ, H2, I2, st2, fun b hb => (f2 b hb).1, w0⟩
  rintro n s3 ⟨i, σ3, H3, I3, st3, fr3, w3⟩
  rcases turn i n σ3 H3 w3 with ⟨stop, qn⟩ | ⟨go, N, hN, step⟩
  · refine wpAny_passesOwn hp (thn (T.done X rfl rfl rfl hc i pins s3 σ3 H3 X.xe I3 (stat fr3) st3 stop) fun r s4 ⟨hr, I4⟩ => ?_)
    subst hr
    exact wpAny_execs_nil ⟨σ3, H3, I4, qn⟩
  · refine wpAny_passesOwn hp (thn (T.item X rfl rfl rfl hc i pins s3 σ3 H3 X.xe I3 (stat fr3) st3 go) fun r s4 ⟨u, hr, h4⟩ => ?_)
    subst hr
    refine wpAny_passesOwn hp (thn h4 fun _ s5 ⟨x, H5, I5, r5, y5, st5, fr5⟩ => ?_)
    have I5' := I5.pinned (stat fr5) (T.obj _ _ st5)
    refine wpAny_passesOwn hp (thn (hg _ s5 σ3 H5 x u _ I5' r5 (step x H5 y5)) fun _ s6 ⟨σ6, H6, I6, q6⟩ => ?_)
    refine wpAny_passesOwn hp (thn (hb _ s6 σ6 H6 _ I6 q6) fun f s7 q7 => ?_)
    have again : ∀ {σ7 : St} {H7 : Hp}, Inv X (pins ++ pinsAt fp s5.heap) σ7 H7 s7 → N σ7 H7 → ∃ m, m < n ∧ ∃ i σ' H', Inv X pins σ' H' s7 ∧ tn i s7.heap ∧ (∀ b ∈ fp, H' b = none) ∧ W i m σ' H' := fun {σ7 H7} I7 n7 => by
      obtain ⟨m', hm, w7⟩ := hN σ7 H7 n7
      refine ⟨m', hm, i + 1, σ7, H7, I7.unpinned, T.keep _ _ _ st5 fun b hb o e => (I7.pin (b, o) (List.mem_append_right _ (List.mem_append_right _ (mem_pinsAt hb e)))).1, fun b hb => ?_, w7⟩
      obtain ⟨o, e, d⟩ := T.obj _ _ st5 b hb
      exact (I7.pin (b, o) (List.mem_append_right _ (List.mem_append_right _ (mem_pinsAt hb e)))).2.1
    cases f with
    | next => obtain ⟨σ7, H7, I7, n7⟩ := q7; exact again I7 n7
    | cont => obtain ⟨σ7, H7, I7, n7⟩ := q7; exact again I7 n7
    | brk => obtain ⟨σ7, H7, I7, q7⟩ := q7; exact ⟨σ7, H7, I7.unpinned, q7⟩
    | ret v => obtain ⟨x7, σ7, H7, I7, r7, q7⟩ := q7; exact ⟨x7, σ7, H7, I7.unpinned, r7, q7⟩
end
theorem for_range {lo : Int} {n : Nat} {g : TG} {tb : TS} {D : Ends} {σ : St} {H : Hp} (Pv : Nat → St → Hp → Prop) (h0 : Pv 0 σ H)
    (hs : ∀ i σ H, i < n → Pv i σ H → g (.int (lo + i)) σ H fun σ2 H2 => tb { D with nx := Pv (i + 1), ct := Pv (i + 1), bk := D.nx } σ2 H2) (hd : ∀ σ H, Pv n σ H → D.nx σ H) :
    ∃ W : Nat → Nat → St → Hp → Prop, (∃ m, W 0 m σ H) ∧ ∀ i m σ H, W i m σ H →
      ((Itr lo n).stop i H ∧ D.nx σ H) ∨ ((Itr lo n).go i H ∧ ∃ N : St → Hp → Prop, (∀ σ' H', N σ' H' → ∃ m', m' < m ∧ W (i + 1) m' σ' H') ∧ ∀ x H', (Itr lo n).yld i H x H' → g x σ H' fun σ2 H2 => tb { D with nx := N, ct := N, bk := D.nx } σ2 H2) := by
  refine ⟨fun i m σ H => m = n - i ∧ i ≤ n ∧ Pv i σ H, ⟨n, by simp, Nat.zero_le _, h0⟩, ?_⟩
  rintro i m σ H ⟨rfl, hi, p⟩
  by_cases hlt : i < n
  · refine .inr ⟨hlt, Pv (i + 1), fun σ' H' p' => ⟨n - (i + 1), by omega, rfl, hlt, p'⟩, fun x H' y => ?_⟩
    obtain ⟨e, y⟩ := y
    subst e y
    exact hs i σ _ hlt p
  · have e : i = n := by omega
    subst e
    exact .inl ⟨Nat.le_refl _, hd σ H p⟩
end L2
namespace L2
open PySem PySem.Spec PyProof.Rows
abbrev R2 := V → V → Hp → VK → Prop
noncomputable def OpR (X : Cx) (f : Value → Value → Sem Value) (r : R2) : Prop :=
  ∀ (pins : List (Addr × Obj)) (s : Shared) (σ : St) (H : Hp) (x y : V) (v u : Value) (Q : VK), Inv X pins σ H s → RelV x v → RelV y u → r x y H Q →
    wpAny (model X.prog X.w) X.A (f v u) (EP X pins σ Q) X.xe s
noncomputable def UnR (X : Cx) (f : Value → Sem Value) (r : V → Hp → VK → Prop) : Prop :=
  ∀ (pins : List (Addr × Obj)) (s : Shared) (σ : St) (H : Hp) (x : V) (v : Value) (Q : VK), Inv X pins σ H s → RelV x v → r x H Q →
    wpAny (model X.prog X.w) X.A (f v) (EP X pins σ Q) X.xe s
noncomputable def CallR (X : Cx) (f : Value) (r : List V → Hp → VK → Prop) : Prop :=
  ∀ (pins : List (Addr × Obj)) (s : Shared) (σ : St) (H : Hp) (xs : List V) (us : List Value) (Q : VK), Inv X pins σ H s → Vals xs us → r xs H Q →
    wpAny (model X.prog X.w) X.A (call f us) (EP X pins σ Q) X.xe s
noncomputable def TruR (X : Cx) (r : V → Hp → (Bool → Hp → Prop) → Prop) : Prop :=
  ∀ (pins : List (Addr × Obj)) (s : Shared) (σ : St) (H : Hp) (x : V) (v : Value) (Q : Bool → Hp → Prop), Inv X pins σ H s → RelV x v → r x H Q →
    wpAny (model X.prog X.w) X.A (truthy v) (TP X pins σ Q) X.xe s
noncomputable def rI (C : Int → Int → Prop) (g : Int → Int → V) : R2 := fun x y H Q => ∃ i j, x = .int i ∧ y = .int j ∧ C i j ∧ Q (g i j) H
noncomputable def rI0 (g : Int → Int → V) : R2 := fun x y H Q => ∃ i j, x = .int i ∧ y = .int j ∧ Q (g i j) H
noncomputable def rU (g : Int → V) : V → Hp → VK → Prop := fun x H Q => ∃ i, x = .int i ∧ Q (g i) H
section
variable {X : Cx} {a b c : Expr} {ta tb tc : TE} {pos : Pos}
theorem opI {f : Value → Value → Sem Value} {C : Int → Int → Prop} {g : Int → Int → Int}
    (rule : ∀ (i j : Int) (t u : Tok) (s : Shared) (Q : Value → Shared → Prop) (E : Value → Shared → Prop), C i j → Q (.int (g i j) s.toks) { s with toks := s.toks + 1 } → wpAny (model X.prog X.w) X.A (f (.int i t) (.int j u)) Q E s) :
    OpR X f (rI C fun i j => .int (g i j)) := by
  intro pins s σ H x y v u Q I rx ry h
  obtain ⟨i, j, rfl, rfl, hc, q⟩ := h
  obtain ⟨t, rfl⟩ := rx
  obtain ⟨t', rfl⟩ := ry
  exact rule i j t t' s _ _ hc ⟨.int (g i j), H, I.tok _, ⟨_, rfl⟩, q⟩
theorem opI0 {f : Value → Value → Sem Value} {g : Int → Int → Int}
    (rule : ∀ (i j : Int) (t u : Tok) (s : Shared) (Q : Value → Shared → Prop) (E : Value → Shared → Prop), Q (.int (g i j) s.toks) { s with toks := s.toks + 1 } → wpAny (model X.prog X.w) X.A (f (.int i t) (.int j u)) Q E s) :
    OpR X f (rI0 fun i j => .int (g i j)) := by
  intro pins s σ H x y v u Q I rx ry h
  obtain ⟨i, j, rfl, rfl, q⟩ := h
  obtain ⟨t, rfl⟩ := rx
  obtain ⟨t', rfl⟩ := ry
  exact rule i j t t' s _ _ ⟨.int (g i j), H, I.tok _, ⟨_, rfl⟩, q⟩
theorem opB0 {f : Value → Value → Sem Value} {g : Int → Int → Bool}
    (rule : ∀ (i j : Int) (t u : Tok) (s : Shared) (Q : Value → Shared → Prop) (E : Value → Shared → Prop), Q (.bool (g i j)) s → wpAny (model X.prog X.w) X.A (f (.int i t) (.int j u)) Q E s) :
    OpR X f (rI0 fun i j => .bl (g i j)) := by
  intro pins s σ H x y v u Q I rx ry h
  obtain ⟨i, j, rfl, rfl, q⟩ := h
  obtain ⟨t, rfl⟩ := rx
  obtain ⟨t', rfl⟩ := ry
  exact rule i j t t' s _ _ ⟨.bl (g i j), H, I, rfl, q⟩
noncomputable def CMul (i j : Int) : Prop := (-(2 ^ 64) < i ∧ i < 2 ^ 64) ∨ (-(2 ^ 64) < j ∧ j < 2 ^ 64)
theorem CMul.ok {i j : Int} (h : CMul i j) : IntMulOk i j := by
  rcases h with ⟨h1, h2⟩ | ⟨h1, h2⟩
  · exact .of_left (intBits_le_64 h1 h2)
  · exact .of_right (intBits_le_64 h1 h2)
theorem op_add : OpR X (binaryOp .Add) (rI0 fun i j => .int (i + j)) := opI0 fun _ _ _ _ _ _ _ q => add_int q
theorem op_modN : OpR X (binaryOp .Mod) (rI (fun _ j => j ≠ 0) fun i j => .int (i.fmod j)) := opI fun _ _ _ _ _ _ _ hc q => mod_int' hc q
theorem unI {f : Value → Sem Value} {g : Int → Int}
    (rule : ∀ (i : Int) (t : Tok) (s : Shared) (Q : Value → Shared → Prop) (E : Value → Shared → Prop), Q (.int (g i) s.toks) { s with toks := s.toks + 1 } → wpAny (model X.prog X.w) X.A (f (.int i t)) Q E s) :
    UnR X f (rU fun i => .int (g i)) := by
  intro pins s σ H x v Q I rx h
  obtain ⟨i, rfl, q⟩ := h
  obtain ⟨t, rfl⟩ := rx
  exact rule i t s _ _ ⟨.int (g i), H, I.tok _, ⟨_, rfl⟩, q⟩
theorem un_neg : UnR X (unaryOp .USub) (rU fun i => .int (-i)) := unI fun _ _ _ _ _ q => neg_int q
end
section
variable {X : Cx} {a b c : Expr} {ta tb tc : TE} {pos : Pos}
theorem fin_bl {pins : List (Addr × Obj)} {σ : St} {H : Hp} {s : Shared} {Q : VK} {k k' : Bool} (I : Inv X pins σ H s) (q : Q (.bl k) H) (e : k = k') : EP X pins σ Q (.bool k') s := by
  subst e
  exact ⟨.bl k, H, I, rfl, q⟩
theorem op_lt : OpR X (compareOp .Lt) (rI0 fun i j => .bl (decide (i < j))) := opB0 fun _ _ _ _ _ _ _ q => lt_int q
theorem op_gt : OpR X (compareOp .Gt) (rI0 fun i j => .bl (decide (j < i))) := opB0 fun _ _ _ _ _ _ _ q => gt_int q
theorem op_in_str : OpR X (compareOp .In) (fun x y H Q => ∃ i j, x = .str i ∧ y = .str j ∧ Q (.bl (!(Builtin.Str.occurrences j i 0 j.length 1).isEmpty)) H) := by
  intro pins s σ H x y v u Q I rx ry h
  obtain ⟨i, j, rfl, rfl, q⟩ := h
  obtain ⟨t, rfl⟩ := rx
  obtain ⟨t', rfl⟩ := ry
  exact in_str (fin_bl I q rfl)
theorem op_isN : OpR X (compareOp .Is) (fun x y H Q => y = .non ∧ Q (.bl (decide (x = .non))) H) := by
  intro pins s σ H x y v u Q I rx ry h
  obtain ⟨rfl, q⟩ := h
  cases ry
  refine is_none_gen (fin_bl I q ?_)
  cases x <;> first
    | (cases rx; rfl)
    | (obtain ⟨t, rfl⟩ := rx; rfl)
theorem op_notN : OpR X (compareOp .IsNot) (fun x y H Q => y = .non ∧ Q (.bl (!decide (x = .non))) H) := by
  intro pins s σ H x y v u Q I rx ry h
  obtain ⟨rfl, q⟩ := h
  cases ry
  refine isnot_none_gen (fin_bl I q ?_)
  cases x <;> first
    | (cases rx; rfl)
    | (obtain ⟨t, rfl⟩ := rx; rfl)
theorem OpR.or {f : Value → Value → Sem Value} {r r' : R2} (h : OpR X f r) (h' : OpR X f r') : OpR X f (fun x y H Q => r x y H Q ∨ r' x y H Q) := by
  intro pins s σ H x y v u Q I rx ry q
  rcases q with q | q
  · exact h pins s σ H x y v u Q I rx ry q
  · exact h' pins s σ H x y v u Q I rx ry q
theorem nomark (b : Expr) {op : CmpOp} (h : op ≠ .In := by decide) (h2 : op ≠ .NotIn := by decide) : behindInMarks op b = false := by
  have e1 : (op == CmpOp.In) = false := by cases op <;> first | rfl | exact absurd rfl h
  have e2 : (op == CmpOp.NotIn) = false := by cases op <;> first | rfl | exact absurd rfl h2
  cases b <;> simp [behindInMarks, e1, e2]
noncomputable def TruV (K : PySem.W.Frag) (x : V) (H : Hp) (k : Bool) : Prop :=
  match x with
  | .non => k = false
  | .bl b => k = b
  | .int i => k = (i != 0)
  | .str y => y.length ≤ sizeLine ∧ k = ((y.length : Int) != 0)
  | .byt y => y.size ≤ sizeLine ∧ k = ((y.size : Int) != 0)
  | .ref p => (∃ xs, SqL K H p xs ∧ k = !xs.isEmpty) ∨ (∃ xs, SqT K H p xs ∧ k = !xs.isEmpty) ∨ ∃ kvs, H p = some (.dK kvs) ∧ k = !kvs.isEmpty
  | _ => False
theorem isEmpty_kv {κ : Type} {kvs : List (κ × V)} {vs : List (κ × Value)} (r : KV kvs vs) : (!vs.isEmpty) = !kvs.isEmpty := by
  cases r <;> rfl
theorem isEmpty_of {xs : List V} {its : List Value} (r : Vals xs its) : (!its.toArray.isEmpty) = !xs.isEmpty := by
  cases r <;> simp
theorem line63 : (sizeLine : Nat) < 2 ^ 63 := by rw [sizeLine_eq]; decide
theorem tru_ok : TruR X (fun x H Q => ∃ k, TruV X.K x H k ∧ Q k H) := by
  intro pins s σ H x v Q I rx h
  obtain ⟨k, e, q⟩ := h
  have hl := line63
  have hs : sizeLine = 16777216 := sizeLine_eq
  cases x with
  | non =>
    cases rx
    have e' : k = false := e
    subst e'
    exact truthy_none ⟨H, I, q⟩
  | bl b =>
    cases rx
    have e' : k = b := e
    subst e'
    exact wpAny_truthy_bool ⟨H, I, q⟩
  | int i =>
    obtain ⟨t, rfl⟩ := rx
    have e' : k = (i != 0) := e
    subst e'
    exact PySem.P.truthy_int ⟨H, I, q⟩
  | str y =>
    obtain ⟨t, rfl⟩ := rx
    obtain ⟨hy, e'⟩ : y.length ≤ sizeLine ∧ k = ((y.length : Int) != 0) := e
    subst e'
    exact PySem.P.truthy_str (by omega) ⟨H, I.tok _, q⟩
  | byt y =>
    obtain ⟨t, rfl⟩ := rx
    obtain ⟨hy, e'⟩ : y.size ≤ sizeLine ∧ k = ((y.size : Int) != 0) := e
    subst e'
    exact PySem.W.truthy_bytes (by omega) ⟨H, I.tok _, q⟩
  | ref p =>
    cases rx
    have e' : (∃ xs, SqL X.K H p xs ∧ k = !xs.isEmpty) ∨ (∃ xs, SqT X.K H p xs ∧ k = !xs.isEmpty) ∨ ∃ kvs, H p = some (.dK kvs) ∧ k = !kvs.isEmpty := e
    rcases e' with ⟨xs, hx, e'⟩ | ⟨xs, hx, e'⟩ | ⟨kvs, hx, e'⟩
    · subst e'
      obtain ⟨its, r, pl, hz⟩ := I.list hx
      have hlen := r.length
      exact wpAny_truthy_list pl.isList (by simp only [List.size_toArray]; omega) ⟨H, I.tok _, by rw [isEmpty_of r]; exact q⟩
    · subst e'
      obtain ⟨its, r, pl, hz⟩ := I.tuple hx
      have hlen := r.length
      exact truthy_tuple pl (by simp only [List.size_toArray]; omega) ⟨H, I.tok _, by rw [isEmpty_of r]; exact q⟩
    · subst e'
      obtain ⟨hz, hS, vs, r, m⟩ : kvs.length ≤ sizeLine ∧ (p == sysModules) = false ∧ ∃ vs, KV kvs vs ∧ s.heap.DictOf (mixKind X.prog X.w) p vs := I.hok p _ hx
      have hlen : kvs.length = vs.length := Paired.length r
      exact wpAny_truthy_dict hS m (by omega) ⟨H, I.tok _, by rw [isEmpty_kv r]; exact q⟩
  | _ => exact (show False from e).elim
theorem op_add_str : OpR X (binaryOp .Add) (fun x y H Q => ∃ i j, x = .str i ∧ y = .str j ∧ i.length + j.length ≤ sizeLine ∧ Q (.str (i ++ j)) H) := by
  intro pins s σ H x y v u Q I rx ry h
  obtain ⟨i, j, rfl, rfl, hz, q⟩ := h
  obtain ⟨t, rfl⟩ := rx
  obtain ⟨t', rfl⟩ := ry
  exact add_str (fun t' tk => ⟨.str (i ++ j), H, I.tok _, ⟨_, rfl⟩, q⟩) hz
theorem vals1 {x : V} {us : List Value} (r : Vals [x] us) : ∃ u, us = [u] ∧ RelV x u := by
  cases r with
  | cons r1 r2 => cases r2; exact ⟨_, rfl, r1⟩
theorem call_abs : CallR X (.builtin "abs") (fun xs H Q => ∃ i, xs = [.int i] ∧ Q (.int (if i < 0 then -i else i)) H) := by
  intro pins s σ H xs us Q I r h
  obtain ⟨i, rfl, q⟩ := h
  obtain ⟨u, rfl, t, rfl⟩ := vals1 r
  exact call_abs_int fun u tk => ⟨.int (if i < 0 then -i else i), H, I.tok _, ⟨_, rfl⟩, q⟩
theorem call_str_int : CallR X (.type "str") (fun xs H Q => ∃ i, xs = [.int i] ∧ i.natAbs.log2 < 1920 ∧ Q (.str (toString i)) H) := by
  intro pins s σ H xs us Q I r h
  obtain ⟨i, rfl, hz, q⟩ := h
  obtain ⟨u, rfl, t, rfl⟩ := vals1 r
  exact PySem.P.str_of_int hz ⟨.str _, H, I.tok _, ⟨_, rfl⟩, q⟩
noncomputable def LenV (K : PySem.W.Frag) (x : V) (H : Hp) (n : Nat) : Prop :=
  match x with
  | .str y => y.length ≤ sizeLine ∧ n = y.length
  | .byt y => y.size ≤ sizeLine ∧ n = y.size
  | .ref p => (∃ xs, SqL K H p xs ∧ n = xs.length) ∨ ∃ xs, SqT K H p xs ∧ n = xs.length
  | _ => False
theorem call_len : CallR X (.builtin "len") (fun xs H Q => ∃ x n, xs = [x] ∧ LenV X.K x H n ∧ Q (.int n) H) := by
  intro pins s σ H xs us Q I r h
  obtain ⟨x, n, rfl, e, q⟩ := h
  obtain ⟨u, rfl, rx⟩ := vals1 r
  have hl := line63
  have hs : sizeLine = 16777216 := sizeLine_eq
  cases x with
  | str y =>
    obtain ⟨t, rfl⟩ := rx
    obtain ⟨hy, e'⟩ : y.length ≤ sizeLine ∧ n = y.length := e
    subst e'
    exact len_str (by omega) ⟨.int _, H, I.tok _, ⟨_, rfl⟩, q⟩
  | byt y =>
    obtain ⟨t, rfl⟩ := rx
    obtain ⟨hy, e'⟩ : y.size ≤ sizeLine ∧ n = y.size := e
    subst e'
    exact PySem.W.len_bytes (by omega) ⟨.int _, H, I.tok _, ⟨_, rfl⟩, q⟩
  | ref p =>
    cases rx
    have e' : (∃ xs, SqL X.K H p xs ∧ n = xs.length) ∨ ∃ xs, SqT X.K H p xs ∧ n = xs.length := e
    rcases e' with ⟨xs, hx, e'⟩ | ⟨xs, hx, e'⟩
    · subst e'
      obtain ⟨its, r', pl, hz⟩ := I.list hx
      have hlen := r'.length
      exact Calls.call_len_list pl.isList (by simp only [List.size_toArray]; omega) ⟨.int xs.length, H, I.tok _, ⟨_, by simp only [List.size_toArray]; rw [hlen]⟩, q⟩
    · subst e'
      obtain ⟨its, r', pl, hz⟩ := I.tuple hx
      have hlen := r'.length
      exact len_tuple pl (by simp only [List.size_toArray]; omega) ⟨.int xs.length, H, I.tok _, ⟨_, by simp only [List.size_toArray]; rw [hlen]⟩, q⟩
  | _ => exact (show False from e).elim
end
end L2
namespace L2
open PySem PySem.Spec PyProof.Rows
structure ObjM (h : Heap) (x dx C : Addr) (mA : Str → Option Value) : Prop where
  obj : h.get? x = some (PySem.W.instObj C dx)
  ns : h.Ns1 dx mA
  ne : dx ≠ x
theorem lookIn_ns {h : Heap} {dx : Addr} {mA : Str → Option Value} (n : h.Ns1 dx mA) : ∃ od, h.get? dx = some od ∧ ∀ name, PySem.W.lookIn name od = some (mA name) := by
  obtain ⟨o, es, ep, ho, hd, hk, _, hm⟩ := n
  refine ⟨o, ho, fun name => ?_⟩
  have e := hm name
  unfold nsFind findBy at e
  rw [← Array.find?_toList] at e
  unfold PySem.W.lookIn
  rw [hd]
  dsimp only
  split
  · rename_i y q
    rw [q] at e
    exact congrArg some e
  · rename_i q
    rw [q] at e
    have a : es.toList.any (·.refKey) = false := by
      rw [List.any_eq_false]
      intro y hy
      obtain ⟨z, t, hkey⟩ := hk y (Array.mem_toList_iff.mp hy)
      simp [DictEntry.refKey, hkey]
    have a' : ¬ es.toList.any (·.refKey) = true := by rw [a]; exact Bool.false_ne_true
    rw [if_neg a']
    exact congrArg some e
theorem ObjM.look {h : Heap} {x dx C : Addr} {mA : Str → Option Value} (I : ObjM h x dx C mA) : ∃ od, PySem.W.InstAt h x (PySem.W.instObj C dx) C (some od) ∧ ∀ name, PySem.W.lookIn name od = some (mA name) :=
  let ⟨od, ho, hl⟩ := lookIn_ns I.ns
  ⟨od, ⟨I.obj, rfl, rfl, ho⟩, hl⟩
section
variable {prog : Program} {w : World} {A : Around} {E : Value → Shared → Prop} {s : Shared} {K : PySem.W.Frag} {x dx C f : Addr} {mA : Str → Option Value} {name : Str} {v : Value}
end
section
variable {P : Program} {w : World} {H H' : Hp} {h h' : Heap} {a C dx : Addr} {fs fs' : List (Str × V)}
theorem ins_get (hok : HOk P w H h) (e : H a = some (.ins C dx fs)) : ∃ mA, ObjM h a dx C mA ∧ (∀ f, RelO (fs.lookup f) (mA f)) ∧ PySem.Within mA (fs.map (·.1)) ∧ fs.length ≤ 1000 ∧ H dx = some (.own a) := by
  obtain ⟨d, z, ne, ob, mA, n, r, q⟩ := (show ObjOk P w H h a (.ins C dx fs) from hok a _ e)
  exact ⟨mA, ⟨ob, n, ne⟩, r, q, z, d⟩
end
structure Cls (K : PySem.W.Frag) (C : Addr) : Prop where
  pg : PySem.W.plainGet K C Str.empty = true
  hd : PySem.W.hasDictIn K C = true
  po : PySem.W.plainOver K C = true
  sa : PySem.W.findIn K (.ref C) "__setattr__" = some (some (.builtin "object.__setattr__"))
theorem Cls.get {K : PySem.W.Frag} {C : Addr} (c : Cls K C) (f : Str) : PySem.W.plainGet K C f = true := c.pg
structure Con (K : PySem.W.Frag) (C : Addr) (f : Str) (v : V) (u : Value) : Prop where
  at_ : PySem.W.findIn K (.ref C) f = some (some u)
  rel : RelV v u
  get : PySem.W.specialIn K u "__get__" = some none
  cp : PySem.W.copiedNames.contains f = false
structure Meth (K : PySem.W.Frag) (C : Addr) (m : Str) (f : Addr) : Prop where
  at_ : PySem.W.findIn K (.ref C) m = some (some (.ref f))
  fn : PySem.W.isFn K (.ref f) = true
  kp : PySem.W.keepIn K (.ref f) = true
section
variable {X : Cx} {pins : List (Addr × Obj)} {σ : St} {H : Hp} {s : Shared} {a C dx : Addr} {fs : List (Str × V)} {f : Str} {v : V} {A : Around} {E : Value → Shared → Prop}
end
section
variable {X : Cx} {o e value : Expr} {f : Str} {pos pos' tpos : Pos} {ta tv : TE}
end
section
variable {X : Cx} {pins : List (Addr × Obj)} {σ : St} {H : Hp} {s : Shared} {A : Around} {E : Value → Shared → Prop} {Q : Value → Shared → Prop} {c : Value} {b : Bool}
inductive TyOf (K : PySem.W.Frag) (H : Hp) : V → Value → Prop where
  | non : TyOf K H .non (.type "NoneType")
  | bl (x : Bool) : TyOf K H (.bl x) (.type "bool")
  | int (i : Int) : TyOf K H (.int i) (.type "int")
  | str (x : Str) : TyOf K H (.str x) (.type "str")
  | flt (x : UInt64) : TyOf K H (.flt x) (.type "float")
  | lst {a : Addr} {xs : List V} (e : H a = some (.lst xs)) : TyOf K H (.ref a) (.type "list")
  | frz {a : Addr} {o : Obj} {xs : List V} (e : H a = some (.frz o (.lst xs))) : TyOf K H (.ref a) (.type "list")
  | tup {a : Addr} {xs : List V} (e : H a = some (.tup xs)) : TyOf K H (.ref a) (.type "tuple")
  | dK {a : Addr} {kvs : List (Key × V)} (e : H a = some (.dK kvs)) : TyOf K H (.ref a) (.type "dict")
  | dT {a : Addr} {kvs : List (List Key × V)} (e : H a = some (.dT kvs)) : TyOf K H (.ref a) (.type "dict")
  | ins {a C dx : Addr} {fs : List (Str × V)} (e : H a = some (.ins C dx fs)) (cl : Cls K C) (ha : PySem.W.findIn K (.ref C) "__class__" = some (some (.builtin "object.__class__")))
      (hn : PySem.W.specialIn K (.builtin "object.__class__") "__get__" = some (some (.builtin "getset_descriptor.__get__"))) (htk : PySem.W.takesIn K (.builtin "object.__class__") = some true)
      (hm : PySem.W.mroIn K C (.type "object") = some true) : TyOf K H (.ref a) (.ref C)
theorem isinst_ok {x : V} {u t : Value} (I : Inv X pins σ H s) (rx : RelV x u) (ty : TyOf X.K H x t) (e : PySem.W.kitOne X.K t c = some b) (h : ∀ tk, Q (.bool b) { s with toks := tk }) :
    wpAny (model X.prog X.w) A (call (.builtin "isinstance") [u, c]) Q E s := by
  cases ty with
  | non => cases (show u = Value.none from rx); exact PySem.W.kia_one PySem.W.kitx_none I.kIn True.intro e (fun z => nomatch z) h
  | bl y => cases (show u = Value.bool y from rx); exact PySem.W.kia_one PySem.W.kitx_bool I.kIn True.intro e (fun z => nomatch z) h
  | int i => obtain ⟨t, q⟩ := (show ∃ t, u = Value.int i t from rx); cases q; exact PySem.W.kia_one PySem.W.kitx_int I.kIn True.intro e (fun z => nomatch z) h
  | str y => obtain ⟨t, q⟩ := (show ∃ t, u = Value.str y t from rx); cases q; exact PySem.W.kia_one PySem.W.kitx_str I.kIn True.intro e (fun z => nomatch z) h
  | flt y => obtain ⟨t, q⟩ := (show ∃ t, u = Value.float y t from rx); cases q; exact PySem.W.kia_one PySem.W.kitx_float I.kIn True.intro e (fun z => nomatch z) h
  | @lst a xs ea =>
    cases (show u = Value.ref a from rx)
    obtain ⟨_, _, n, _, h1⟩ := (show ObjOk X.prog X.w H s.heap a (.lst xs) from I.hok a _ ea)
    exact PySem.W.kia_one PySem.W.kitx_list I.kIn ⟨_, h1, rfl⟩ e (fun z => nomatch z) h
  | @frz a ob xs ea =>
    cases (show u = Value.ref a from rx)
    obtain ⟨_, _, _, n, _, h1⟩ := (show ObjOk X.prog X.w H s.heap a (.frz ob (.lst xs)) from I.hok a _ ea)
    exact PySem.W.kia_one PySem.W.kitx_list I.kIn ⟨_, h1, rfl⟩ e (fun z => nomatch z) h
  | @tup a xs ea =>
    cases (show u = Value.ref a from rx)
    obtain ⟨_, _, _, p⟩ := (show ObjOk X.prog X.w H s.heap a (.tup xs) from I.hok a _ ea)
    obtain ⟨o, h1, h2, _⟩ := p
    exact PySem.W.kia_one PySem.W.kitx_tuple I.kIn ⟨o, h1, h2⟩ e (fun z => nomatch z) h
  | @dK a kvs ea =>
    cases (show u = Value.ref a from rx)
    obtain ⟨_, _, vs, _, p⟩ := (show ObjOk X.prog X.w H s.heap a (.dK kvs) from I.hok a _ ea)
    obtain ⟨o, es, ep, h1, h2, _⟩ := p
    exact PySem.W.kia_one PySem.W.kitx_dict I.kIn ⟨o, h1, h2.1⟩ e (fun z => nomatch z) h
  | @dT a kvs ea =>
    cases (show u = Value.ref a from rx)
    obtain ⟨_, _, xs, _, o, es, ep, h1, h2, _⟩ := (show ObjOk X.prog X.w H s.heap a (.dT kvs) from I.hok a _ ea)
    exact PySem.W.kia_one PySem.W.kitx_dict I.kIn ⟨o, h1, h2.1⟩ e (fun z => nomatch z) h
  | @ins a C dx fs ea cl ha hn htk hm =>
    cases (show u = Value.ref a from rx)
    obtain ⟨mA, O, _⟩ := ins_get I.hok ea
    obtain ⟨od, J, _⟩ := O.look
    exact PySem.W.kia_one (PySem.W.kitx_own (cl.get _) cl.hd ha hn htk hm) I.kIn J e (fun z => nomatch z) h
end
end L2
namespace L2
open PySem PySem.Spec PyProof.Rows
structure Room (k : Nat) (A : Around) : Prop where
  hd : A.handled = none
  dp : A.depth + 3 * k + 5 < recursionLimit
  un : A.units + 16 * k + 200 < cLine
theorem Room.mono {j k : Nat} {A : Around} (r : Room k A) (h : j ≤ k) : Room j A := ⟨r.hd, by have := r.dp; omega, by have := r.un; omega⟩
theorem Room.deeper {k : Nat} {A : Around} (r : Room (k + 1) A) (env : Env) : Room k (A.deeper env) :=
  ⟨r.hd, by have := r.dp; show A.depth + 1 + 3 * k + 5 < _; omega, by have := r.un; show A.units + 3 + 16 * k + 200 < _; omega⟩
theorem Room.in1 {k : Nat} {A : Around} (r : Room (k + 1) A) : Room k A.in1 :=
  ⟨r.hd, by have := r.dp; show A.depth + 3 * k + 5 < _; omega, by have := r.un; show A.units + 1 + 16 * k + 200 < _; omega⟩
theorem Room.depth {k : Nat} {A : Around} (r : Room k A) : A.depth < recursionLimit := by have := r.dp; omega
theorem Room.units {k : Nat} {A : Around} (r : Room k A) : A.units + 64 < cLine := by have := r.un; omega
section
variable {X : Cx} {e : Expr} {es : List Expr} {te : TE} {t : TA} {pos : Pos}
end
abbrev Sp := List V → Hp → VK → XK → Prop
abbrev CXT := List Env → Hp → Shared → XK → Value → Shared → Prop
structure Env0 (P : Program) (w : World) (K : PySem.W.Frag) (mg : Str → Option Value) (base : Heap) (A : Around) (outer : List Env) (s : Shared) (H : Hp) : Prop where
  frames : A.frames = some outer
  mod : Mod K mg base
  bs : ∀ b o, base.get? b = some o → s.heap.get? b = some o ∧ H b = none
  bsz : base.objs.size ≤ s.heap.objs.size
  funs : s.heap.FunFrames base outer
  frf : ∀ b ∈ frs outer, H b = none
  hok : HOk P w H s.heap
  bare : AllBare s.gens
noncomputable def CE (outer : List Env) (P : Program) (w : World) (H : Hp) (s : Shared) (Q : VK) (u : Value) (s' : Shared) : Prop :=
  ∃ v H', s'.os = s.os ∧ AllBare s'.gens ∧ Un (frs outer) [] H H' s.heap s'.heap ∧ HOk P w H' s'.heap ∧ RelV v u ∧ Q v H'
noncomputable def CR (CX : CXT) (outer : List Env) (P : Program) (w : World) (H : Hp) (s : Shared) (Q : VK) (E : XK) (r : Result) (s' : Shared) : Prop :=
  match r with
  | .ok (.ret u) => CE outer P w H s Q u s'
  | .ok _ => False
  | .error e => CX outer H s E e s'
structure FnOk (P : Program) (w : World) (K : PySem.W.Frag) (mg : Str → Option Value) (base : Heap) (CX : CXT) (k : Nat) (f : Addr) (fd : FuncData) (ps : List Str) (sp : Sp) : Prop where
  len : ∀ vs H Q E, sp vs H Q E → vs.length = ps.length
  run : ∀ (A : Around) (outer : List Env) (s : Shared) (H : Hp) (args : Args) (us : List Value) (vs : List V) (Q : VK) (E : XK), Room k A → Env0 P w K mg base A outer s H → BindsTo s fd args (ps.zip us) → Vals vs us → sp vs H Q E →
    codeAny (model P w) A (.call (.ref f) args) (CR CX outer P w H s Q E) s
theorem FnOk.mono {P : Program} {w : World} {K : PySem.W.Frag} {mg : Str → Option Value} {base : Heap} {CX : CXT} {j k : Nat} {f : Addr} {fd : FuncData} {ps : List Str} {sp : Sp} (F : FnOk P w K mg base CX j f fd ps sp) (h : j ≤ k) :
    FnOk P w K mg base CX k f fd ps sp := ⟨F.len, fun A outer s H args us vs Q E hr => F.run A outer s H args us vs Q E (hr.mono h)⟩
theorem Env0.in1 {P : Program} {w : World} {K : PySem.W.Frag} {mg : Str → Option Value} {base : Heap} {A : Around} {outer : List Env} {s : Shared} {H : Hp} (e : Env0 P w K mg base A outer s H) :
    Env0 P w K mg base A.in1 outer s H := ⟨e.frames, e.mod, e.bs, e.bsz, e.funs, e.frf, e.hok, e.bare⟩
section
variable {X : Cx} {pins : List (Addr × Obj)} {σ : St} {H : Hp} {s s' : Shared}
theorem Inv.env0 (I : Inv X pins σ H s) : Env0 X.prog X.w X.K X.mg X.base X.A X.stack s H :=
  ⟨I.ok.frames, I.ok.mod, I.bs, Nat.le_trans I.ok.bsz I.sz, I.stack, I.stkFree, I.hok, I.bare⟩
theorem Inv.after {Q : VK} {u : Value} (I : Inv X pins σ H s) (h : CE X.stack X.prog X.w H s Q u s') : EP X pins σ Q u s' := by
  obtain ⟨v, H', os, bare, un, hok, r, q⟩ := h
  obtain ⟨hh, g, d, t, os'⟩ := s'
  obtain rfl : os' = s.os := os
  exact ⟨v, H', I.call (h' := hh) (g' := g) (d' := d) (t' := t) (ch := []) un hok bare (fun b z => absurd z (by simp)), r, q⟩
end
noncomputable def Binds (K : PySem.W.Frag) (fd : FuncData) (ps : List Str) (ds : List Value) : Prop :=
  ∀ (s : Shared) (us : List Value), K.In s.heap → (us ++ ds).length = ps.length → BindsTo s fd ⟨us, []⟩ (ps.zip (us ++ ds))
theorem Binds.all {K : PySem.W.Frag} {fd : FuncData} {ps : List Str} (h : ∀ us : List Value, us.length = ps.length → bindArgs fd ⟨us, []⟩ = pure (ps.zip us)) : Binds K fd ps [] := fun s us _ hl => by
  rw [List.append_nil] at hl ⊢
  exact .of_eq (h us hl)
section
variable {X : Cx} {CX : CXT} {k : Nat} {f C : Addr} {fd : FuncData} {ps : List Str} {sp : Sp} {dvs : List V} {ds : List Value} {E : XK} {x m : Str} {p pos apos : Pos} {e o : Expr} {es : List Expr} {ta : TE} {t : TA}
structure Mk (K : PySem.W.Frag) (C f : Addr) : Prop where
  makes : PySem.W.makesIn K C = true
  init : PySem.W.findIn K (.ref C) "__init__" = some (some (.ref f))
  fn : PySem.W.isFn K (.ref f) = true
  kp : PySem.W.keepIn K (.ref C) = true
end
section
variable {X : Cx} {CX : CXT} {k : Nat} {f C : Addr} {fd : FuncData} {ps ks : List Str} {sp : Sp} {E : XK} {x m : Str} {p pos apos kpos : Pos} {e o : Expr} {es : List Expr} {kws : List Keyword} {te ta : TE} {t tk : TA} {nm : Option Str}
structure KBinds (K : PySem.W.Frag) (fd : FuncData) (ps ks : List Str) (g : List Value → List Value → List Value) (gV : List V → List V → List V) : Prop where
  to : ∀ (s : Shared) (us ws : List Value), K.In s.heap → (g us ws).length = ps.length → BindsTo s fd ⟨us, ks.zip ws⟩ (ps.zip (g us ws))
  rel : ∀ {vs : List V} {us : List Value} {zs : List V} {ws : List Value}, Vals vs us → Vals zs ws → Vals (gV vs zs) (g us ws)
variable {g : List Value → List Value → List Value} {gV : List V → List V → List V}
end
structure FnScope (N P : List Str) (sc : Scope) : Prop where
  kind : sc.kind = .function
  co : sc.isCoroutine = false
  gen : sc.isGenerator = false
  nd : N.Nodup
  pre : N.take P.length = P
  par : ∀ x ∈ P, sc.names.lookup x = some .local ∨ sc.names.lookup x = some .cell
  nofree : ∀ y ∈ sc.names, y.2 ≠ .free
theorem bindL_out {kindOf : Str → Option NameKind} {x : Str} : ∀ {binds : List (Str × Value)} {m : Str → Option Value}, (∀ v, (x, v) ∉ binds) → bindL kindOf binds m x = m x
  | [], _, _ => rfl
  | (n, v) :: r, m, h => by
    unfold bindL
    rw [bindL_out fun w hw => h w (List.mem_cons_of_mem _ hw)]
    split
    · have : x ≠ n := by rintro rfl; exact h v List.mem_cons_self
      simp [this]
    · rfl
theorem bindC_out {kindOf : Str → Option NameKind} {x : Str} : ∀ {binds : List (Str × Value)} {m : Str → Option Value}, (∀ v, (x, v) ∉ binds) → bindC kindOf binds m x = m x
  | [], _, _ => rfl
  | (n, v) :: r, m, h => by
    unfold bindC
    rw [bindC_out fun w hw => h w (List.mem_cons_of_mem _ hw)]
    split
    · rfl
    · have : x ≠ n := by rintro rfl; exact h v List.mem_cons_self
      simp [this]
theorem bindL_get {kindOf : Str → Option NameKind} {x : Str} {v : Value} : ∀ {P : List Str} {vs : List Value} {i : Nat} {m : Str → Option Value}, P.Nodup → P[i]? = some x → vs[i]? = some v → kindOf x = some .local →
    bindL kindOf (P.zip vs) m x = some v
  | [], _, _, _, _, h, _, _ => by simp at h
  | _ :: _, [], _, _, _, _, h, _ => by simp at h
  | p :: P, w :: vs, 0, m, nd, h1, h2, hk => by
    simp at h1 h2; subst h1; subst h2
    show bindL kindOf ((p, w) :: P.zip vs) m p = _
    unfold bindL
    rw [bindL_out fun v hv => (List.nodup_cons.mp nd).1 (List.of_mem_zip hv).1, if_pos hk]
    simp
  | p :: P, w :: vs, i + 1, m, nd, h1, h2, hk => by
    show bindL kindOf ((p, w) :: P.zip vs) m x = _
    unfold bindL
    exact bindL_get (i := i) (List.nodup_cons.mp nd).2 (by simpa using h1) (by simpa using h2) hk
theorem bindC_get {kindOf : Str → Option NameKind} {x : Str} {v : Value} : ∀ {P : List Str} {vs : List Value} {i : Nat} {m : Str → Option Value}, P.Nodup → P[i]? = some x → vs[i]? = some v → kindOf x ≠ some .local →
    bindC kindOf (P.zip vs) m x = some v
  | [], _, _, _, _, h, _, _ => by simp at h
  | _ :: _, [], _, _, _, _, h, _ => by simp at h
  | p :: P, w :: vs, 0, m, nd, h1, h2, hk => by
    simp at h1 h2; subst h1; subst h2
    show bindC kindOf ((p, w) :: P.zip vs) m p = _
    unfold bindC
    rw [bindC_out fun v hv => (List.nodup_cons.mp nd).1 (List.of_mem_zip hv).1, if_neg hk]
    simp
  | p :: P, w :: vs, i + 1, m, nd, h1, h2, hk => by
    show bindC kindOf ((p, w) :: P.zip vs) m x = _
    unfold bindC
    exact bindC_get (i := i) (List.nodup_cons.mp nd).2 (by simpa using h1) (by simpa using h2) hk
noncomputable def start (N : List Str) (vs : List V) : St := vs.map some ++ List.replicate (N.length - vs.length) none
noncomputable def cxOf (CX : CXT) (P : Program) (w : World) (K : PySem.W.Frag) (mg : Str → Option Value) (base : Heap) (N : List Str) (qual : Str) (scope : Scope) (f : Addr) (cd : Value) (A : Around) (outer : List Env) (s : Shared) (H : Hp) (E : XK) : Cx where
  prog := P
  w := w
  K := K
  mg := mg
  base := base
  A := A.deeper (envOfC qual scope s.heap.objs.size f cd)
  N := N
  s₀ := s
  H₀ := H
  env := envOfC qual scope s.heap.objs.size f cd
  outer := outer
  stack := envOfC qual scope s.heap.objs.size f cd :: outer
  ex := []
  calm := true
  fn := fun _ => true
  pn := []
  xe := fun e s' => wpAny (model P w) (A.deeper (envOfC qual scope s.heap.objs.size f cd)) (leaving (envOfC qual scope s.heap.objs.size f cd) e) (fun _ s'' => CX outer H s E e s'') (fun e' s'' => CX outer H s E e' s'') s'
theorem cell_has {sc : Scope} {n : Nat} {x : Str} (h : sc.names.lookup x = some .cell) : ∃ c, (cellsFrom n sc.names []).lookup x = some c := by
  have q := PySem.W.cellsFrom_some sc.names n [] (.inl h)
  exact Option.isSome_iff_exists.mp q
theorem inv_start {CX : CXT} {P : Program} {w : World} {K : PySem.W.Frag} {mg : Str → Option Value} {base : Heap} {N ps : List Str} {qual : Str} {scope : Scope} {f : Addr} {cd : Value} {A : Around} {outer : List Env} {s s1 : Shared} {H : Hp} {E : XK} {us : List Value} {vs : List V}
    (S : FnScope N ps scope) (hd : A.handled = none) (e0 : Env0 P w K mg base A outer s H) (hl : vs.length = ps.length) (r : Vals vs us)
    (x : InCallC s s.heap.objs.size (bindL (envOfC qual scope s.heap.objs.size f cd).kindOf (ps.zip us) fun _ => none) (cellsFrom (s.heap.objs.size + 1) scope.names []) (bindC (envOfC qual scope s.heap.objs.size f cd).kindOf (ps.zip us) fun _ => none) s1) :
    Inv (cxOf CX P w K mg base N qual scope f cd A outer s H E) [] (start N vs) H s1 := by
  have hpl : ps.length ≤ N.length := by have := congrArg List.length S.pre; rw [List.length_take] at this; omega
  obtain ⟨h1, tk, rfl, hk⟩ := x.done
  have noA : ∀ b : Addr, b ∉ (cxOf CX P w K mg base N qual scope f cd A outer s H E).ex := fun b z => absurd (show b ∈ ([] : List Addr) from z) (by simp)
  refine ⟨⟨e0.mod, S.kind, rfl, rfl, Nat.le_refl _, fun y z c h1 h2 => ?_, fun y hy => ?_, fun y c _ h => ?_, fun _ => hd, Around.frames_deeper e0.frames, .inr ⟨rfl, rfl⟩, fun b z => absurd z (noA b), e0.bs, e0.bsz, fun b _ _ => noA b, fun b z => absurd z (noA b), e0.funs, e0.frf⟩,
    rfl, e0.bare, Un.kept hk, ⟨_, x.toInCall.ns, fun i y v h1 h2 h3 => ?_⟩, fun y c h => ⟨_, x.cell y c h⟩, e0.hok.fresh (Nat.le_refl _), fun y c h => ?_, fun p hp => absurd (show p ∈ ([] : List (Addr × Obj)) from hp) (by simp), e0.hok.kept hk, ?_⟩
  · exact name_of_addr x.apart (PySem.mem_of_lookup h1) (PySem.mem_of_lookup h2)
  · have hy : scope.names.lookup y = some .cell ∨ scope.names.lookup y = some .free := hy
    rcases hy with hy | hy
    · exact cell_has hy
    · exact absurd rfl (S.nofree _ (PySem.mem_of_lookup hy))
  · exact Nat.le_of_lt (x.above y c (PySem.mem_of_lookup h))
  · have hi : i < vs.length := by
      unfold start at h2
      by_cases hi : i < vs.length
      · exact hi
      · rw [List.getElem?_append_right (by simpa using hi)] at h2
        rw [List.getElem?_replicate] at h2
        split at h2 <;> cases h2
    have ha : vs[i]? = some v := by
      unfold start at h2
      rw [List.getElem?_append_left (by simpa using hi), List.getElem?_map] at h2
      cases e : vs[i]? with
      | none => rw [e] at h2; cases h2
      | some a => rw [e] at h2; cases h2; rfl
    obtain ⟨u, hu, rv⟩ := r.get ha
    have hp : ps[i]? = some y := by
      rw [← S.pre, List.getElem?_take_of_lt (by omega)]; exact h1
    have ndP : ps.Nodup := by rw [← S.pre]; exact S.nd.sublist (List.take_sublist _ _)
    refine ⟨u, rv, ?_⟩
    rcases S.par y (List.mem_of_getElem? hp) with k | k
    · exact .inl ⟨k, bindL_get ndP hp hu k⟩
    · obtain ⟨c, e⟩ := cell_has (n := s.heap.objs.size + 1) k
      refine .inr ⟨.inl k, c, e, ?_⟩
      have q := x.cell y c e
      rw [bindC_get ndP hp hu (by show scope.names.lookup y ≠ _; rw [k]; decide)] at q
      exact q
  · exact e0.hok.fresh (Nat.le_of_lt (x.above y c (PySem.mem_of_lookup h)))
  · unfold start
    show _ = N.length
    rw [List.length_append, List.length_map, List.length_replicate]
    omega
theorem fn_of {CX : CXT} {P : Program} {w : World} {K : PySem.W.Frag} {mg : Str → Option Value} {base : Heap} {k : Nat} {f : Addr} {name qual : Str} {params : Arguments} {body : List Stmt} {scope : Scope} {dV kV doc pm cdv ct oc : Value} {an od : Option Addr}
    {osl : Array (Option Value)} {N ps : List Str} {sp : Sp} (lk : K.lookup f = some ⟨oc, od, .func (PySem.W.fnOf name qual params body scope dV kV doc pm an cdv ct), osl⟩) (hcd : PySem.W.codeIn K cdv qual = true) (S : FnScope N ps scope)
    (len : ∀ vs H Q E, sp vs H Q E → vs.length = ps.length)
    (hbody : ∀ (A : Around) (outer : List Env) (s : Shared) (H : Hp) (vs : List V) (Q : VK) (E : XK), Room k (A.deeper (envOfC qual scope s.heap.objs.size f cdv)) → sp vs H Q E →
      ∃ t, PSs (cxOf CX P w K mg base N qual scope f cdv A outer s H E) body t ∧ t { nx := fun _ H' => Q .non H', rt := Q } (start N vs) H) :
    FnOk P w K mg base CX (k + 1) f (PySem.W.fnOf name qual params body scope dV kV doc pm an cdv ct) ps sp := by
  refine ⟨len, fun A outer s H args us vs Q E hr e0 hb r hsp => ?_⟩
  have hl := len _ _ _ _ hsp
  have KX : K.In s.heap := e0.mod.kin.keeps fun b o e => (e0.bs b o e).1
  have lim : s.heap.NoLimit := e0.mod.nolimit.keeps fun b o e => (e0.bs b o e).1
  have hkind : ∀ y ∈ ps.zip us, scope.names.lookup y.1 = some .local ∨ (scope.names.lookup y.1 = some .cell ∧ ((cellsFrom (s.heap.objs.size + 1) scope.names []).lookup y.1).isSome = true) := fun ⟨n, v⟩ hy => by
    rcases S.par n (List.of_mem_zip hy).1 with q | q
    · exact .inl q
    · exact .inr ⟨q, PySem.W.cellsFrom_some _ _ _ (.inl q)⟩
  refine codeAny_call_function hr.depth (KX _ _ lk) rfl S.co S.gen rfl (PySem.W.codeRec_of KX hcd) (hb _ _ _ _ ?_)
  refine wpAny_newFunctionEnv_cells S.kind hkind fun env he s1 x => ?_
  subst he
  refine ⟨lim.keeps x.toInCall.keep, codeAny_func ?_⟩
  obtain ⟨t, ht, hq⟩ := hbody A outer s H vs Q E (hr.deeper _) hsp
  have I : Inv (cxOf CX P w K mg base N qual scope f cdv A outer s H E) [] (start N vs) H s1 := inv_start S hr.hd e0 hl r x
  refine wpAny_mono (ht [] s1 (start N vs) H _ I hq) (fun fl s' hs => ?_) fun e s' hs => hs
  have fin : ∀ {σ' : St} {H' : Hp} {v : V} {u : Value}, Inv (cxOf CX P w K mg base N qual scope f cdv A outer s H E) [] σ' H' s' → RelV v u → Q v H' → CE outer P w H s Q u s' :=
    fun {σ' H' v u} J rv q => ⟨v, H', J.os, J.bare, J.base, J.hok, rv, q⟩
  cases fl with
  | ret u =>
    obtain ⟨v, σ', H', J, rv, q⟩ := hs
    exact fin J rv q
  | next =>
    obtain ⟨σ', H', J, q⟩ := hs
    exact fin (v := V.non) (u := Value.none) J rfl q
  | brk =>
    obtain ⟨_, _, _, q⟩ := hs
    exact False.elim q
  | cont =>
    obtain ⟨_, _, _, q⟩ := hs
    exact False.elim q
end L2
namespace L2
open PySem PySem.Spec PyProof.Rows
section
variable {X : Cx} {x : Str} {p pos : Pos} {e : Expr} {es : List Expr} {t : TA} {id T : String} {r : List V → Hp → VK → Prop}
end
end L2
namespace HT
open PySem PyProof.Rows
section
open PySem.SeqAt
open PySem.AutoSeq1 (wpAny_loadPart')
open PySem.MeetsSeq PySem.MeetsSeq2 PySem.MeetsSeq3
end
section
variable {prog : Program} {w : World} {A : Around} {E : Value → Shared → Prop} {s : Shared}
theorem cat_tup {t b : Addr} {vs ws : List Value} {Q : Value → Shared → Prop} (ht : IsTup s.heap t vs.toArray) (hb : IsTup s.heap b ws.toArray) (hv : vs ≠ [])
    (h1 : ws = [] → Q (.ref t) s) (h2 : ws ≠ [] → Q (.ref s.heap.objs.size) { s with heap := s.heap.push { cls := .type "tuple", data := .seq (vs ++ ws).toArray } })
    (hsz : vs.length + ws.length ≤ sizeLine) : wpAny (model prog w) A (binaryOp .Add (.ref t) (.ref b)) Q E s := by
  obtain ⟨⟨cls, dd, data, sl⟩, ho, hc, n, hd⟩ := id ht
  obtain ⟨⟨cls2, dd2, data2, sl2⟩, ho2, hc2, n2, hd2⟩ := id hb
  simp only at hc hd hc2 hd2
  subst hc hd hc2 hd2
  have e : vs.toArray ++ ws.toArray = (vs ++ ws).toArray := by simp
  by_cases hw : ws = []
  · exact concat_meets ⟨_, ho, rfl⟩ ⟨_, ho2, rfl⟩ noFill_tuple_add seq_tuple_add PySem.F.slot_tuple_add PySem.F.entry_tuple_add (PySem.F.args_tuple_add_2 _ _)
      (tuple_addW1 t b vs.toArray ws.toArray n n2 dd dd2 sl sl2 (by simpa using hv) (by simp [hw])) ⟨ho, ho2, h1 hw⟩
  · refine concat_meets ⟨_, ho, rfl⟩ ⟨_, ho2, rfl⟩ noFill_tuple_add seq_tuple_add PySem.F.slot_tuple_add PySem.F.entry_tuple_add (PySem.F.args_tuple_add_2 _ _)
      (tuple_addW2 t b vs.toArray ws.toArray n n2 dd dd2 sl sl2 (by simpa using hv) (by simpa using hw) (by rw [List.size_toArray, List.size_toArray]; exact hsz)) ⟨ho, ho2, ?_⟩
    rw [e]
    exact h2 hw
noncomputable def sIx (n d : Nat) : Option Int → Nat
  | none => d
  | some v => if v < 0 then (v + (n : Int)).toNat else min v.toNat n
theorem sIx_le (n d : Nat) (hd : d ≤ n) (o : Option Int) : sIx n d o ≤ n := by
  cases o with
  | none => exact hd
  | some v =>
    show (if v < 0 then (v + (n : Int)).toNat else min v.toNat n) ≤ n
    by_cases hv : v < 0
    · rw [if_pos hv]; omega
    · rw [if_neg hv]; exact Nat.min_le_right _ _
theorem clip_eq (v : Int) (n d : Nat) : (if v < 0 then max (v + (n : Int)) 0 else min v (n : Int)) = ((sIx n d (some v) : Nat) : Int) := by
  show (if v < 0 then max (v + (n : Int)) 0 else min v (n : Int)) = (((if v < 0 then (v + (n : Int)).toNat else min v.toNat n) : Nat) : Int)
  by_cases hv : v < 0
  · simp only [if_pos hv]; omega
  · simp only [if_neg hv]; omega
theorem adjust_gen (lo hi : Option Int) (n : Nat) : Builtin.Slice.sliceAdjust lo hi 1 (n : Int) = (((sIx n 0 lo : Nat) : Int), ((sIx n n hi : Nat) : Int)) := by
  have h1 : ¬ ((1 : Int) < 0) := by omega
  unfold Builtin.Slice.sliceAdjust
  simp only [h1, if_false]
  refine Prod.ext ?_ ?_
  · cases lo with
    | none => rfl
    | some v => exact clip_eq v n 0
  · cases hi with
    | none => rfl
    | some v => exact clip_eq v n n
theorem places_gen (i j : Nat) : Builtin.Slice.slicePlaces (i : Int) (j : Int) 1 = j - i := by
  unfold Builtin.Slice.slicePlaces
  have h1 : (1 : Int) > 0 := by omega
  simp only [h1, if_true, Int.ediv_one]
  split <;> omega
theorem slicePart_ {v : Value} {o : Option Int} {Q : Option Int → Shared → Prop} (p : IsPart v o) (h : Q o s) : wpAny (model prog w) A (Builtin.Slice.slicePartIndex v) Q E s := by
  cases p with
  | none => exact slicePart_none h
  | int i t => exact slicePart_int h
theorem sliceApplied_gen {sl : Addr} {vl vu : Value} {lo hi : Option Int} {n : Nat} {Q : Int × Int × Nat → Shared → Prop} (hs : s.heap.IsSliceOf sl vl vu .none) (pl : IsPart vl lo) (pu : IsPart vu hi)
    (h : Q (((sIx n 0 lo : Nat) : Int), 1, sIx n n hi - sIx n 0 lo) s) : wpAny (model prog w) A (Builtin.Slice.sliceApplied (.ref sl) (pure (n : Int))) Q E s := by
  obtain ⟨os, hos, hcs, hds⟩ := id hs
  unfold Builtin.Slice.sliceApplied Builtin.Slice.sliceFields
  refine wpAny_bind (wpAny_bind (wpAny_field hos hds (x := vl) rfl (wpAny_bind (wpAny_field hos hds (x := vu) rfl (wpAny_bind (wpAny_field hos hds (x := .none) rfl (wpAny_pure ?_)))))))
  refine wpAny_bind (slicePart_none ?_)
  show wpAny _ _ (if ((1 : Int) == 0) = true then _ else _) _ _ s
  rw [if_neg (by decide)]
  refine wpAny_bind (slicePart_ pl (wpAny_bind (slicePart_ pu (wpAny_bind (wpAny_pure ?_)))))
  show wpAny _ _ (match Builtin.Slice.sliceAdjust lo hi 1 (n : Int) with | (lo, hi) => pure (lo, (1 : Int), Builtin.Slice.slicePlaces lo hi 1)) _ _ s
  rw [adjust_gen lo hi n]
  show wpAny _ _ (pure (((sIx n 0 lo : Nat) : Int), (1 : Int), Builtin.Slice.slicePlaces ((sIx n 0 lo : Nat) : Int) ((sIx n n hi : Nat) : Int) 1)) _ _ s
  rw [places_gen]
  exact wpAny_pure h
theorem pick_gen (xs : Array Value) (i k : Nat) : ((List.range k).filterMap fun (m : Nat) => xs[((i : Int) + (m : Int) * 1).toNat]?).toArray = ((xs.toList.drop i).take k).toArray := by
  have e : (fun (m : Nat) => xs[((i : Int) + (m : Int) * 1).toNat]?) = fun m => xs[i + m]? := by
    funext m
    have : ((i : Int) + (m : Int) * 1).toNat = i + m := by omega
    rw [this]
  rw [e]
  have := pick_run xs i k
  rw [List.filterMap_map] at this
  have e2 : ((fun x => xs[x]?) ∘ fun x => i + x) = fun m => xs[i + m]? := rfl
  rw [e2] at this
  rw [this]
theorem getItem_tuple_cut {t sl : Addr} {items : Array Value} {vl vu : Value} {lo hi : Option Int} {Q : Value → Shared → Prop} (ht : IsTup s.heap t items) (hs : s.heap.IsSliceOf sl vl vu .none) (pl : IsPart vl lo) (pu : IsPart vu hi)
    (hw : ¬ (sIx items.size 0 lo = 0 ∧ sIx items.size items.size hi = items.size))
    (h : Q (.ref s.heap.objs.size) { s with heap := s.heap.push { cls := .type "tuple", data := .seq ((items.toList.drop (sIx items.size 0 lo)).take (sIx items.size items.size hi - sIx items.size 0 lo)).toArray } })
    (hsz : items.size ≤ sizeLine) : wpAny (model prog w) A (getItem (.ref t) (.ref sl)) Q E s := by
  have htake : sizeOk (.seq ((items.toList.drop (sIx items.size 0 lo)).take (sIx items.size items.size hi - sIx items.size 0 lo)).toArray) := by
    show ((items.toList.drop (sIx items.size 0 lo)).take (sIx items.size items.size hi - sIx items.size 0 lo)).toArray.size ≤ sizeLine
    rw [List.size_toArray, List.length_take, List.length_drop, Array.length_toList]
    omega
  have hj : sIx items.size items.size hi ≤ items.size := sIx_le _ _ (Nat.le_refl _) hi
  obtain ⟨os, hos, hcs, hds⟩ := id hs
  have hTs : s.TypeIs (.ref sl) "slice" := ⟨os, hos, hcs⟩
  unfold getItem
  try with_reducible refine wpAny_holding ?_
  first | refine wpAny_bind (wpAny_pure ?_) | skip
  refine wpAny_bind (wpAny_sequenceKey ht.typeIs (by decide) ?_)
  refine wpAny_bind (wpAny_callSpecial?_slot (name := Str.ofString "__getitem__") ht.typeIs PyProof.Rows.slot_tuple_getitem
    (wpAny_call_entry PyProof.Rows.slot_tuple_getitem ht.typeIs entry_tuple_getitem ?_ (args_tuple_getitem _ _)))
  show wpAny _ _ (Builtin.Tuple.tupleItemsOf (.ref t) >>= _) _ _ s
  refine wpAny_bind (tupleItemsOf_ ht ?_)
  refine wpAny_bind (wpAny_typeOf hTs ?_)
  rw [if_pos (by decide)]
  refine wpAny_bind (sliceApplied_gen hs pl pu ?_)
  have hno : ¬ ((((sIx items.size 0 lo : Nat) : Int) == 0 && (1 : Int) == 1 && (sIx items.size items.size hi - sIx items.size 0 lo) == items.size) = true) := by
    intro q
    rw [Bool.and_eq_true, Bool.and_eq_true] at q
    have q1 : ((sIx items.size 0 lo : Nat) : Int) = 0 := eq_of_beq q.1.1
    have q2 : sIx items.size items.size hi - sIx items.size 0 lo = items.size := eq_of_beq q.2
    exact hw ⟨by omega, by omega⟩
  show wpAny _ _ (if (((sIx items.size 0 lo : Nat) : Int) == 0 && (1 : Int) == 1 && (sIx items.size items.size hi - sIx items.size 0 lo) == items.size) = true then _ else _) _ _ s
  rw [if_neg hno, pick_gen]
  first
    | exact wpAny_bind (m := Builtin.Tuple.tupleExact _) (wpAny_newObj_type (wpAny_pure ⟨_, rfl, wpAny_pure h⟩) htake)
    | exact wpAny_bind (m := Builtin.Tuple.tupleExact _) (wpAny_newObj_type (wpAny_bind (wpAny_pure (wpAny_pure ⟨_, rfl, wpAny_pure h⟩))) htake)
    | exact wpAny_bind (wpAny_bind (m := Builtin.Tuple.tupleExact _) (wpAny_newObj_type (wpAny_pure (wpAny_pure ⟨_, rfl, wpAny_pure h⟩)) htake))
    | exact wpAny_bind (wpAny_bind (m := Builtin.Tuple.tupleExact _) (wpAny_newObj_type (wpAny_pure ⟨_, rfl, wpAny_pure h⟩) htake))
end
end HT
namespace L2
open PySem PySem.Spec PyProof.Rows
abbrev TO := St → Hp → (Option Int → Hp → Prop) → Prop
section
variable {X : Cx} {e : Expr} {te : TE} {lo hi : Option Expr} {tl th : TO} {pos p2 : Pos}
noncomputable def SlR (X : Cx) (r : V → Option Int → Option Int → Hp → VK → Prop) : Prop :=
  ∀ (pins : List (Addr × Obj)) (s : Shared) (σ : St) (H : Hp) (x : V) (v vl vu : Value) (lo hi : Option Int) (sl : Addr) (Q : VK), Inv X pins σ H s → RelV x v → s.heap.IsSliceOf sl vl vu .none → IsPart vl lo → IsPart vu hi → r x lo hi H Q →
    ∃ T id, typeLookup (.type T) "__getitem__" = pure (some (.builtin id)) ∧ s.TypeIs v T ∧ wpAny (model X.prog X.w) X.A (getItem v (.ref sl)) (EP X pins σ Q) X.xe s
theorem SlR.or {r r' : V → Option Int → Option Int → Hp → VK → Prop} (h : SlR X r) (h' : SlR X r') : SlR X (fun x lo hi H Q => r x lo hi H Q ∨ r' x lo hi H Q) := by
  intro pins s σ H x v vl vu lo hi sl Q I rx hs pl pu q
  rcases q with q | q
  · exact h pins s σ H x v vl vu lo hi sl Q I rx hs pl pu q
  · exact h' pins s σ H x v vl vu lo hi sl Q I rx hs pl pu q
noncomputable def cutV (xs : List V) (lo hi : Option Int) : List V := (xs.drop (HT.sIx xs.length 0 lo)).take (HT.sIx xs.length xs.length hi - HT.sIx xs.length 0 lo)
theorem cutV_length (xs : List V) (lo hi : Option Int) : (cutV xs lo hi).length ≤ xs.length := by
  unfold cutV
  rw [List.length_take, List.length_drop]
  omega
noncomputable def rSlT (K : PySem.W.Frag) : V → Option Int → Option Int → Hp → VK → Prop := fun x lo hi H Q => ∃ a xs, x = .ref a ∧ SqT K H a xs ∧
  ¬ (HT.sIx xs.length 0 lo = 0 ∧ HT.sIx xs.length xs.length hi = xs.length) ∧ ∀ p, H p = none → Q (.ref p) (upd H p (.tup (cutV xs lo hi)))
theorem sl_tup : SlR X (rSlT X.K) := by
  intro pins s σ H x v vl vu lo hi sl Q I rx hs pl pu h
  obtain ⟨a, xs, rfl, hx, hw, q⟩ := h
  cases rx
  obtain ⟨its, r, ht, hz⟩ := I.tuple hx
  have hlen : its.toArray.size = xs.length := by rw [List.size_toArray]; exact r.length.symm
  refine ⟨"tuple", _, PyProof.Rows.slot_tuple_getitem.lookup, ht.typeIs, ?_⟩
  refine HT.getItem_tuple_cut ht hs pl pu (by rw [hlen]; exact hw) ?_ (by rw [hlen]; exact hz)
  rw [hlen]
  refine ⟨.ref s.heap.objs.size, _, I.laid (t' := s.toks) (o := .tup (cutV xs lo hi)) (fun b ob q => Heap.get?_push_of_some _ q) (Nat.le_refl _) ?_, rfl, q _ (I.hok.fresh (Nat.le_refl _))⟩
  exact ⟨Nat.le_trans (cutV_length xs lo hi) hz, _, (r.drop (HT.sIx xs.length 0 lo)).take (HT.sIx xs.length xs.length hi - HT.sIx xs.length 0 lo), IsTup.new _ _⟩
noncomputable def rCatT (K : PySem.W.Frag) : R2 := fun x y H Q => ∃ a b xs ys, x = .ref a ∧ y = .ref b ∧ SqT K H a xs ∧ SqT K H b ys ∧ xs ≠ [] ∧ xs.length + ys.length ≤ sizeLine ∧
  (ys = [] → Q (.ref a) H) ∧ (ys ≠ [] → ∀ p, H p = none → Q (.ref p) (upd H p (.tup (xs ++ ys))))
theorem Vals.nil_iff {xs : List V} {us : List Value} (r : Vals xs us) : us = [] ↔ xs = [] := by
  cases r with
  | nil => simp
  | cons _ _ => simp
theorem op_catT : OpR X (binaryOp .Add) (rCatT X.K) := by
  intro pins s σ H x y v u Q I rx ry h
  obtain ⟨a, b, xs, ys, rfl, rfl, ha, hb, hx, hz, q1, q2⟩ := h
  cases rx
  cases ry
  obtain ⟨its, r1, p1, _⟩ := I.tuple ha
  obtain ⟨its2, r2, p2, _⟩ := I.tuple hb
  refine HT.cat_tup p1 p2 (fun z => hx (r1.nil_iff.mp z)) (fun z => ⟨.ref a, H, I, rfl, q1 (r2.nil_iff.mp z)⟩) (fun z => ?_) (by rw [← r1.length, ← r2.length]; exact hz)
  refine ⟨.ref s.heap.objs.size, _, I.laid (t' := s.toks) (o := .tup (xs ++ ys)) (fun b ob q => Heap.get?_push_of_some _ q) (Nat.le_refl _) ?_, rfl, q2 (fun w => z (r2.nil_iff.mpr w)) _ (I.hok.fresh (Nat.le_refl _))⟩
  exact ⟨by rw [List.length_append]; exact hz, _, r1.append r2, IsTup.new _ _⟩
end
end L2
namespace L2
open PySem PySem.Spec PyProof.Rows
noncomputable def ixN (n : Nat) (i : Int) : Option Nat := if 0 ≤ i then (if i < n then some i.toNat else none) else if -(n : Int) ≤ i then some (i + n).toNat else none
noncomputable def atI {α : Type} (xs : List α) (i : Int) : Option α := (ixN xs.length i).bind fun j => xs[j]?
theorem ixN_seq {n : Nat} {i : Int} {j : Nat} (h : ixN n i = some j) : seqIndex? i n = some j ∧ j < n ∧ -(n : Int) ≤ i ∧ i < n := by
  unfold ixN at h
  by_cases h0 : 0 ≤ i
  · rw [if_pos h0] at h
    by_cases h1 : i < n
    · rw [if_pos h1] at h
      have e : i.toNat = j := Option.some.inj h
      exact ⟨by rw [seqIndex_of h0 h1, e], by omega, by omega, h1⟩
    · rw [if_neg h1] at h; cases h
  · rw [if_neg h0] at h
    by_cases h1 : -(n : Int) ≤ i
    · rw [if_pos h1] at h
      have e : (i + n).toNat = j := Option.some.inj h
      exact ⟨by rw [seqIndex_neg (by omega) h1, e], by omega, h1, by omega⟩
    · rw [if_neg h1] at h; cases h
theorem atI_get {α : Type} {xs : List α} {i : Int} {v : α} (h : atI xs i = some v) : ∃ j, seqIndex? i xs.length = some j ∧ xs[j]? = some v ∧ j < xs.length ∧ -(xs.length : Int) ≤ i ∧ i < xs.length := by
  unfold atI at h
  cases e : ixN xs.length i with
  | none => rw [e] at h; cases h
  | some j =>
    rw [e] at h
    obtain ⟨h1, h2, h3, h4⟩ := ixN_seq e
    exact ⟨j, h1, h, h2, h3, h4⟩
noncomputable def PlainIx (b : Expr) : Prop := ∀ o i, subscripted b false o i = operate [o, i] (getItem o i)
noncomputable def IxR (X : Cx) (r : R2) : Prop :=
  ∀ (value slice : Expr) (pins : List (Addr × Obj)) (s : Shared) (σ : St) (H : Hp) (x y : V) (v u : Value) (Q : VK), Inv X pins σ H s → RelV x v → RelV y u → r x y H Q →
    subscripted slice false v u = operate [v, u] (getItem v u) → wpAny (model X.prog X.w) X.A (subscriptTail value slice v u) (EP X pins σ Q) X.xe s
noncomputable def MtR (X : Cx) (id : String) (r : V → List V → Hp → VK → Prop) : Prop :=
  ∀ (pins : List (Addr × Obj)) (s : Shared) (σ : St) (H : Hp) (x : V) (xs : List V) (v : Value) (us : List Value) (Q : VK), Inv X pins σ H s → RelV x v → Vals xs us → r x xs H Q →
    wpAny (model X.prog X.w) X.A (call (.builtin id) (v :: us)) (EP X pins σ Q) X.xe s
section
variable {X : Cx} {a b : Expr} {ta tb : TE} {pos : Pos}
theorem IxR.or {r r' : R2} (h : IxR X r) (h' : IxR X r') : IxR X (fun x y H Q => r x y H Q ∨ r' x y H Q) := by
  intro value slice pins s σ H x y v u Q I rx ry q hs
  rcases q with q | q
  · exact h value slice pins s σ H x y v u Q I rx ry q hs
  · exact h' value slice pins s σ H x y v u Q I rx ry q hs
theorem MtR.or {id : String} {r r' : V → List V → Hp → VK → Prop} (h : MtR X id r) (h' : MtR X id r') : MtR X id (fun x xs H Q => r x xs H Q ∨ r' x xs H Q) := by
  intro pins s σ H x xs v us Q I rx rs q
  rcases q with q | q
  · exact h pins s σ H x xs v us Q I rx rs q
  · exact h' pins s σ H x xs v us Q I rx rs q
noncomputable def rIxL (K : PySem.W.Frag) : R2 := fun x y H Q => ∃ p xs i v, x = .ref p ∧ y = .int i ∧ SqL K H p xs ∧ atI xs i = some v ∧ Q v H
noncomputable def rIxT (K : PySem.W.Frag) : R2 := fun x y H Q => ∃ p xs i v, x = .ref p ∧ y = .int i ∧ SqT K H p xs ∧ atI xs i = some v ∧ Q v H
noncomputable def rIxS : R2 := fun x y H Q => ∃ z i c, x = .str z ∧ y = .int i ∧ z.length ≤ sizeLine ∧ atI z.cps.toList i = some c ∧ Q (.str ⟨#[c]⟩) H
theorem ix_list : IxR X (rIxL X.K) := by
  intro value slice pins s σ H x y v u Q I rx ry h hs
  obtain ⟨p, xs, i, z, rfl, rfl, hq, he, q⟩ := h
  cases rx
  obtain ⟨t, rfl⟩ := ry
  obtain ⟨its, r, pl, hz⟩ := I.list hq
  obtain ⟨j, h1, h2, h3, h4, h5⟩ := atI_get he
  obtain ⟨w, ew, rw'⟩ := r.get h2
  have hl := r.length
  have hn := line63
  have fin : EP X pins σ Q w s := ⟨z, H, I, rw', q⟩
  by_cases h0 : 0 ≤ i
  · have hj : i.toNat = j := by
      rw [seqIndex_of h0 h5] at h1
      exact Option.some.inj h1
    exact item_listR pl.isList h0 (by omega) (by rw [hj]; simpa using ew) fin hs
  · have hj : (i + (its.toArray.size : Int)).toNat = j := by
      rw [seqIndex_neg (by omega) h4] at h1
      rw [List.size_toArray, ← hl]
      exact Option.some.inj h1
    exact subscriptTail_builtinR (x := w) pl.isList.typeIs slot_list_getitem.lookup
      (wpAny_getItem_list_neg (Q := fun r s' => r = w ∧ EP X pins σ Q r s') pl.isList (by omega) (by rw [List.size_toArray] <;> omega) (by omega) (by rw [hj]; simpa using ew) ⟨rfl, fin⟩) hs
theorem ix_tup : IxR X (rIxT X.K) := by
  intro value slice pins s σ H x y v u Q I rx ry h hs
  obtain ⟨p, xs, i, z, rfl, rfl, hq, he, q⟩ := h
  cases rx
  obtain ⟨t, rfl⟩ := ry
  obtain ⟨its, r, pl, hz⟩ := I.tuple hq
  obtain ⟨j, h1, h2, h3, h4, h5⟩ := atI_get he
  obtain ⟨w, ew, rw'⟩ := r.get h2
  have hl := r.length
  have hn := line63
  have fin : EP X pins σ Q w s := ⟨z, H, I, rw', q⟩
  exact subscriptTail_builtinR (x := w) pl.typeIs slot_tuple_getitem.lookup
    (getItem_tuple (j := j) (Q := fun r s' => r = w ∧ EP X pins σ Q r s') pl (by omega) (by omega) (by rw [List.size_toArray, ← hl]; exact h1) (by simpa using ew) ⟨rfl, fin⟩) hs
theorem ix_str : IxR X rIxS := by
  intro value slice pins s σ H x y v u Q I rx ry h hs
  obtain ⟨z, i, c, rfl, rfl, hz, he, q⟩ := h
  obtain ⟨t, rfl⟩ := rx
  obtain ⟨t', rfl⟩ := ry
  obtain ⟨j, h1, h2, h3, h4, h5⟩ := atI_get he
  have hl : z.cps.toList.length = z.length := by simp [Str.length]
  rw [hl] at h1 h4 h5
  have hn := line63
  exact tail_any (typeIs_str s z t) slot_str_getitem.lookup (getItem_str (c := c) (by
    have e1 : decide (i < -(2 ^ 63 : Int)) = false := decide_eq_false (by omega)
    have e2 : decide (i ≥ 2 ^ 63) = false := decide_eq_false (by omega)
    rw [e1, e2, Bool.or_false]) (by rw [h1]; simpa using h2) ⟨.str ⟨#[c]⟩, H, I.tok _, ⟨_, rfl⟩, q⟩) hs
noncomputable def rIx (K : PySem.W.Frag) : R2 := fun x y H Q => rIxL K x y H Q ∨ rIxT K x y H Q ∨ rIxS x y H Q
theorem ix_seq : IxR X (rIx X.K) := ix_list.or (ix_tup.or ix_str)
theorem Inv.lst {pins : List (Addr × Obj)} {σ : St} {H : Hp} {s : Shared} {p : Addr} {xs : List V} (I : Inv X pins σ H s) (h : H p = some (.lst xs)) :
    ∃ (its : List Value) (n : Nat), Vals xs its ∧ s.heap.get? p = some { cls := .type "list", data := .seq its.toArray n } ∧ xs.length ≤ sizeLine := by
  obtain ⟨z, its, n, r, e⟩ := I.hok p _ h
  exact ⟨its, n, r, e, z⟩
theorem slice_bounds (lo hi : Option Int) (n : Nat) : (sliceBounds lo hi none n).1 = ((HT.sIx n 0 lo : Nat) : Int) ∧ (sliceBounds lo hi none n).2.1 = ((HT.sIx n n hi : Nat) : Int) ∧ (sliceBounds lo hi none n).2.2 = 1 := by
  refine ⟨?_, ?_, rfl⟩
  · cases lo with
    | none => simp [sliceBounds, HT.sIx]
    | some i =>
      simp only [sliceBounds, HT.sIx, Option.getD_none, show (1 : Int) > 0 by decide, if_true]
      by_cases h : i < 0
      · simp only [h, if_true] <;> omega
      · simp only [h, if_false] <;> omega
  · cases hi with
    | none => simp [sliceBounds, HT.sIx]
    | some i =>
      simp only [sliceBounds, HT.sIx, Option.getD_none, show (1 : Int) > 0 by decide, if_true]
      by_cases h : i < 0
      · simp only [h, if_true] <;> omega
      · simp only [h, if_false] <;> omega
theorem slicePick_cut (its : List Value) (lo hi : Option Int) : slicePick its.toArray lo hi none = ((its.drop (HT.sIx its.length 0 lo)).take (HT.sIx its.length its.length hi - HT.sIx its.length 0 lo)).toArray := by
  obtain ⟨h1, h2, h3⟩ := slice_bounds lo hi its.toArray.size
  unfold slicePick
  rw [h1, h2, h3]
  simp only [sliceRange_one, pick_run, List.size_toArray] <;> rfl
noncomputable def rSlL (K : PySem.W.Frag) : V → Option Int → Option Int → Hp → VK → Prop := fun x lo hi H Q => ∃ a xs, x = .ref a ∧ SqL K H a xs ∧ ∀ p, H p = none → Q (.ref p) (upd H p (.lst (cutV xs lo hi)))
theorem sl_list : SlR X (rSlL X.K) := by
  intro pins s σ H x v vl vu lo hi sl Q I rx hs pl pu h
  obtain ⟨a, xs, rfl, hx, q⟩ := h
  cases rx
  obtain ⟨its, r, ht, hz⟩ := I.list hx
  have hlen := r.length
  refine ⟨"list", _, slot_list_getitem.lookup, ht.isList.typeIs, ?_⟩
  refine wpAny_getItem_list_slice ht.isList hs pl pu .none (by simp) ?_ (by rw [List.size_toArray] <;> omega)
  rw [slicePick_cut, ← hlen]
  refine ⟨.ref s.heap.objs.size, _, I.laid (t' := s.toks) (o := .lst (cutV xs lo hi)) (fun b ob q => Heap.get?_push_of_some _ q) (Nat.le_refl _) ?_, rfl, q _ (I.hok.fresh (Nat.le_refl _))⟩
  exact ⟨Nat.le_trans (cutV_length xs lo hi) hz, _, 0, (r.drop (HT.sIx xs.length 0 lo)).take (HT.sIx xs.length xs.length hi - HT.sIx xs.length 0 lo), Heap.get?_push_size _ rfl⟩
theorem CallR.or {f : Value} {r r' : List V → Hp → VK → Prop} (h : CallR X f r) (h' : CallR X f r') : CallR X f (fun xs H Q => r xs H Q ∨ r' xs H Q) := by
  intro pins s σ H xs us Q I rs q
  rcases q with q | q
  · exact h pins s σ H xs us Q I rs q
  · exact h' pins s σ H xs us Q I rs q
noncomputable def tyV (K : PySem.W.Frag) (T : String) (x : V) (H : Hp) : Prop := match x with
  | .str _ => T = "str"
  | .int _ => T = "int"
  | .ref p => (T = "list" ∧ ∃ xs, SqL K H p xs) ∨ (T = "tuple" ∧ ∃ o, K.lookup p = some o ∧ o.cls = .type "tuple" ∧ o.dict = none) ∨
      (T = "dict" ∧ ((∃ kvs, H p = some (.dK kvs)) ∨ ∃ kvs, H p = some (.dT kvs))) ∨ (T = "set" ∧ ∃ S n, H p = some (.set S n))
  | _ => False
theorem tyV_is {pins : List (Addr × Obj)} {σ : St} {H : Hp} {s : Shared} {T : String} {x : V} {v : Value} (I : Inv X pins σ H s) (r : RelV x v) (ty : tyV X.K T x H) :
    s.TypeIs v T ∧ ∀ a, v = .ref a → ∃ ob, s.heap.get? a = some ob ∧ ob.dict = none := by
  cases x with
  | str z =>
    obtain ⟨t, rfl⟩ := r
    cases (show T = "str" from ty)
    exact ⟨typeIs_str s z t, fun _ e => nomatch e⟩
  | int i =>
    obtain ⟨t, rfl⟩ := r
    cases (show T = "int" from ty)
    exact ⟨typeIs_int s i t, fun _ e => nomatch e⟩
  | ref p =>
    cases r
    rcases ty with ⟨rfl, xs, hq⟩ | ⟨rfl, o, hk, hc, hd⟩ | ⟨rfl, hk⟩ | ⟨rfl, S, n, hk⟩
    · obtain ⟨its, _, pl, _⟩ := I.list hq
      refine ⟨pl.isList.typeIs, fun a e => ?_⟩
      cases e
      obtain ⟨o, n, e, c, hd, _⟩ := pl
      exact ⟨o, e, hd⟩
    · refine ⟨⟨o, I.kIn p o hk, hc⟩, fun a e => ?_⟩
      cases e
      exact ⟨o, I.kIn _ o hk, hd⟩
    · have z : ∃ o, s.heap.get? p = some o ∧ o.ExactDict := by
        rcases hk with ⟨kvs, hk⟩ | ⟨kvs, hk⟩
        · obtain ⟨_, _, _, _, o, _, _, e, ex, _⟩ := I.hok p _ hk
          exact ⟨o, e, ex⟩
        · obtain ⟨_, _, _, _, o, _, _, e, ex, _⟩ := I.hok p _ hk
          exact ⟨o, e, ex⟩
      obtain ⟨o, e, ex⟩ := z
      refine ⟨⟨o, e, ex.1⟩, fun a e2 => ?_⟩
      cases e2
      exact ⟨o, e, ex.2.1⟩
    · obtain ⟨o, _, _, _, e, ex, _⟩ := I.hok p _ hk
      refine ⟨⟨o, e, ex.1⟩, fun a e2 => ?_⟩
      cases e2
      exact ⟨o, e, ex.2.1⟩
  | _ => exact False.elim ty
variable {o e : Expr} {es : List Expr} {to : TE} {t : TA} {name : Str} {apos cpos : Pos} {T id : String} {r : V → List V → Hp → VK → Prop}
end
end L2
namespace L2
open PySem PySem.Spec PyProof.Rows
theorem Vals.one : ∀ {x : V} {us : List Value}, Vals [x] us → ∃ u, us = [u] ∧ RelV x u
  | _, _, .cons r .nil => ⟨_, rfl, r⟩
theorem Vals.two : ∀ {x y : V} {us : List Value}, Vals [x, y] us → ∃ u v, us = [u, v] ∧ RelV x u ∧ RelV y v
  | _, _, _, .cons r (.cons q .nil) => ⟨_, _, rfl, r, q⟩
theorem Vals.zero : ∀ {us : List Value}, Vals [] us → us = []
  | _, .nil => rfl
theorem Vals.reverse {xs : List V} {us : List Value} (h : Vals xs us) : Vals xs.reverse us.reverse := by
  induction h with
  | nil => exact .nil
  | cons r t ih => rw [List.reverse_cons, List.reverse_cons]; exact Vals.append ih (.cons r .nil)
theorem Vals.rep {xs : List V} {us : List Value} (h : Vals xs us) : ∀ k : Nat, Vals (List.replicate k xs).flatten (List.replicate k us).flatten
  | 0 => .nil
  | k + 1 => by
    rw [List.replicate_succ, List.replicate_succ, List.flatten_cons, List.flatten_cons]
    exact Vals.append h (Vals.rep h k)
theorem foldl_rep (its : List Value) : ∀ (k : Nat) (acc : List Value),
    List.foldl (fun x1 x2 => x1 ++ x2) acc.toArray (List.replicate k its.toArray) = (acc ++ (List.replicate k its).flatten).toArray
  | 0, acc => by simp
  | k + 1, acc => by
    have e : acc.toArray ++ its.toArray = (acc ++ its).toArray := by simp
    have e2 : (acc ++ its) ++ (List.replicate k its).flatten = acc ++ (List.replicate (k + 1) its).flatten := by
      rw [List.replicate_succ, List.flatten_cons, List.append_assoc]
    rw [← e2, ← foldl_rep its k (acc ++ its), ← e, List.replicate_succ, List.foldl_cons]
section
variable {X : Cx} {pins : List (Addr × Obj)} {σ : St} {H : Hp} {s : Shared} {l b : Addr} {xs ys zs : List V}
theorem Inv.lset {its its' : List Value} {n : Nat} {f : Array Value → Array Value} {t' : Nat} (I : Inv X pins σ H s) (hH : H l = some (.lst xs))
    (e : s.heap.get? l = some { cls := .type "list", data := .seq its.toArray n }) (hf : f its.toArray = its'.toArray) (hv : Vals ys its') (hz : ys.length ≤ sizeLine) :
    Inv X pins σ (upd H l (.lst ys)) { s with heap := s.heap.update l (Obj.mapSeq f), toks := t' } := by
  have q := PySem.IsL.update e f
  rw [hf] at q
  refine I.write (x := l) (e := l) (by rw [hH]; exact trivial) (.inl rfl) (fun b' u hb hu => (Heap.get?_update_other s.heap (Obj.mapSeq f) (Ne.symm hb)).trans hu) ⟨_, q⟩ ?_
  exact ⟨hz, its', _, hv, q⟩
theorem Inv.fresh (I : Inv X pins σ H s) : H s.heap.objs.size = none := I.hok.fresh (Nat.le_refl _)
end
section
variable {X : Cx}
theorem len_rep {α : Type} (xs : List α) (k : Nat) : (List.replicate k xs).flatten.length = k * xs.length := by
  induction k with
  | zero => simp
  | succ k ih => rw [List.replicate_succ, List.flatten_cons, List.length_append, ih, Nat.succ_mul, Nat.add_comm]
end
section
variable {prog : Program} {w : World} {A : Around} {E : Value → Shared → Prop} {s : Shared}
end
section
variable {X : Cx}
end
end L2
namespace Att
open PySem PySem.W PySem.Calls PyProof.Rows
theorem ints_of_wellAll {P : Params} {h : Heap} : ∀ (ns : List Int) (vs : List Value), WellAll P h vs (ns.map WData.int) → IntsAre vs ns := by
  intro ns
  induction ns with
  | nil =>
    intro vs w
    rw [List.map_nil] at w
    cases w
    exact .nil
  | cons n ns ih =>
    intro vs w
    rw [List.map_cons] at w
    cases w with
    | cons a b =>
      cases a
      exact .cons _ _ (ih _ b)
theorem script_of {l : OpenLaw} {n : Nat} (hn : l.most = some n) {P : Params} {h : Heap} {args : List WData} {vals : List Value}
    (hpre : l.row.toRowW.claim.pre args = true) (hwl : WellAll P h vals args) :
    ∃ a vs ns, vals = [Value.ref a] ∧ args = [WData.list (ns.map WData.int)] ∧ h.get? a = some { cls := .type "list", data := .seq vs.toArray } ∧ IntsAre vs ns ∧ ns.length ≤ n := by
  have hsh : WShape.hasAll [] args [.list .int] = true := (pre_splitW hpre).1
  have hc : l.pre.holds [] { args := args } = true := (pre_splitW hpre).2
  obtain ⟨d, r, rfl, h1, h2⟩ := hasAllW_cons hsh
  obtain rfl := hasAllW_nil h2
  obtain ⟨xs, rfl, h3⟩ := hasW_list h1
  obtain ⟨ns, rfl⟩ := items_int h3
  have hlen : ns.length ≤ n := by
    unfold OpenLaw.pre at hc
    have h4 : (WTm.not (.lt (.lit (.int (n : Int))) (.len (.arg 0)))).holds [] { args := [.list (ns.map .int)] } = true := by
      have h4 := (holds_andW hc).1
      rw [hn] at h4
      exact h4
    have h5 := condW_of h4 (w_not (w_lt w_lit (w_len_list (w_arg rfl))))
    rw [List.length_map] at h5
    refine Nat.le_of_not_lt fun q => ?_
    have q' : (n : Int) < ((ns.length : Nat) : Int) := by omega
    first
      | (rw [decide_eq_true q'] at h5; exact absurd h5 (by decide))
      | (simp at h5; omega)
  cases hwl with
  | cons w1 w2 =>
    cases w2
    cases w1 with
    | list ho hall => exact ⟨_, _, ns, rfl, rfl, ho, ints_of_wellAll ns _ hall, hlen⟩
theorem post_true (l : OpenLaw) (args : List WData) : l.row.toRowW.claim.post args (.bool true) args = true :=
  postW_of (r := l.row.toRowW) (X := (true == true))
    (show WShape.has [] (.bool true) .bool = true by first | rfl | decide | simp [WShape.has, WShape.arms, WShape.armsAll])
    (show (WTm.eq .res (.lit (.bool true))).value [] { args := args, res := some (.bool true), after := args } = some (.bool (true == true)) from w_eq_bool (w_res rfl) w_lit) rfl
theorem attach_call {l : OpenLaw} {n : Nat} {q : Program} {loose : List Str} {XP : (Str → Option Value) → Heap → Prop} {YP : World → Heap → Prop} {d : DefRec}
    (hn : l.most = some n) (hdf : d.params.defaults = [])
    (call : ∀ (w : World) (s₀ s₁ : Shared) (mg mb : Str → Option Value) (fa : Addr) (o : Obj) (pm cd doc : Value) (a : Addr) (vs : List Value) (ns : List Int),
      Ground q loose [] XP w s₀ mg mb s₁.heap → YP w s₁.heap →
      s₁.heap.get? fa = some o → o.data = .func (docDef d.name d.params d.body d.scope pm cd doc) → s₁.heap.CodeRec cd d.name → mg d.name = some (.ref fa) →
      s₁.heap.get? a = some { cls := .type "list", data := .seq vs.toArray } → IntsAre vs ns → ns.length ≤ n → s₁.gens = #[] →
      codeAny (model l.prog w) callerA (.call (.ref fa) ⟨[.ref a], []⟩) (fun r s' => r = .ok (.ret (.bool true)) ∧ OldK s₁.heap s'.heap ∧ s'.os = s₁.os ∧ AllBare s'.gens) s₁) :
    WalkO q loose XP YP l.row.toRowW d [] (fun f vs => PySem.call f vs) := by
  intro w s₀ s₁ mg mb G Y fa o pm cd doc dV kV ho hd hcd hD hmg hg args vals as hpre hlay hrd hwl hlo
  obtain rfl : dV = .none := Dflts.none hD hdf
  obtain rfl : kV = .none := Dflts.noKw hD
  obtain ⟨a, vs, ns, rfl, rfl, hobj, hints, hlen⟩ := script_of hn hpre hwl
  refine enter_call (codeAny_mono (call w s₀ s₁ mg mb fa o pm cd doc a vs ns G Y ho (fd_plain hd) hcd hmg hobj hints hlen hg) fun r s' hq => ?_)
  obtain ⟨rfl, h2, h3, h4⟩ := hq
  exact ⟨.inl ⟨.bool true, .bool true, [], rfl, fun _ => rfl, .bool true, post_true l _, fun _ => ⟨List.Pairwise.nil, fun _ hm => (nomatch hm)⟩⟩, h2, h3, h4⟩
section
variable {prog : Program} {w : World} {A : Around} {E : Value → Shared → Prop} {s : Shared} {K : Frag}
noncomputable def noObjs (h : Heap) : Heap := { h with objs := #[] }
end
end Att
namespace L2
open PySem PySem.Spec PyProof.Rows
theorem vals_ints : ∀ {vs : List Value} {ns : List Int}, IntsAre vs ns → Vals (ns.map V.int) vs
  | _, _, .nil => .nil
  | _, _, .cons n t h => .cons ⟨t, rfl⟩ (vals_ints h)
noncomputable def Only (H : Hp) : Prop := ∀ b, H b = none ∨ ∃ o xs, H b = some (.frz o (.lst xs))
theorem law_call {P : Program} {w : World} {K : PySem.W.Frag} {mg mb : Str → Option Value} {CX : CXT} {k : Nat} {fa a : Addr} {fd : FuncData} {x : Str} {sp : Sp} {s₁ : Shared} {vs : List Value} {ns : List Int}
    (KX : K.In s₁.heap) (hns : s₁.heap.Ns mainGlobals mg) (hb : s₁.heap.Ns builtinsNs mb) (hbb : ∀ x : Str, x ≠ "__name__" → mb x = bootBuiltins x) (hlim : s₁.heap.NoLimit) (hg : s₁.gens = #[])
    (ha : s₁.heap.get? a = some { cls := .type "list", data := .seq vs.toArray }) (hi : IntsAre vs ns) (hl : ns.length ≤ sizeLine) (hr : Room k callerA)
    (F : ∀ base : Heap, K.In base → base.Ns mainGlobals mg → FnOk P w K mg base CX k fa fd [x] sp) (hbind : ∀ (s : Shared) (u : Value), BindsTo s fd ⟨[u], []⟩ [(x, u)])
    (hsp : ∀ H : Hp, Only H → SqL K H a (ns.map V.int) → sp [.ref a] H (fun v _ => v = .bl true) fun _ _ _ => False)
    (hCX : ∀ H e s', CX [] H s₁ (fun _ _ _ => False) e s' → False) :
    codeAny (model P w) callerA (.call (.ref fa) ⟨[.ref a], []⟩) (fun r s' => r = .ok (.ret (.bool true)) ∧ OldK s₁.heap s'.heap ∧ s'.os = s₁.os ∧ AllBare s'.gens) s₁ := by
  have rv := vals_ints hi
  have lenV := hi.length
  have core : ∀ H : Hp, Only H → SqL K H a (ns.map V.int) → HOk P w H s₁.heap → (∀ b, H b ≠ none → b = a) → (H a ≠ none → K.lookup a = none) →
      codeAny (model P w) callerA (.call (.ref fa) ⟨[.ref a], []⟩) (fun r s' => r = .ok (.ret (.bool true)) ∧ OldK s₁.heap s'.heap ∧ s'.os = s₁.os ∧ AllBare s'.gens) s₁ := by
    intro H hO hS hok hA hK
    have base_of : ∀ {b : Addr} {o : Obj}, s₁.heap.get? b = some o → H b = none → (hidT s₁.heap H).get? b = some o := fun e n => hidT_get e n
    have noA : ∀ {b : Addr} {o : Obj} {es : Array DictEntry} {ep : Nat}, s₁.heap.get? b = some o → o.data = .dict es ep → H b = none := fun {b o es ep} e d => by
      cases q : H b with
      | none => rfl
      | some u =>
        have e' : b = a := hA b (by rw [q]; simp)
        subst e'
        rw [ha] at e; cases e
        have d' : Data.seq vs.toArray _ = Data.dict es ep := d
        cases d'
    have nsK : ∀ {b : Addr} {m : Str → Option Value}, s₁.heap.Ns b m → (hidT s₁.heap H).Ns b m := fun {b m} ⟨o, es, ep, e, d, r⟩ => ⟨o, es, ep, base_of e (noA e d), d, r⟩
    have hKb : K.In (hidT s₁.heap H) := fun b o e => base_of (KX b o e) (by
      cases q : H b with
      | none => rfl
      | some u =>
        have e' : b = a := hA b (by rw [q]; simp)
        subst e'
        rw [hK (by rw [q]; simp)] at e; cases e)
    have hM : Mod K mg (hidT s₁.heap H) := ⟨hKb, nsK hns, ⟨mb, nsK hb, hbb⟩, let ⟨mc, h1, h2⟩ := hlim; ⟨mc, nsK h1, h2⟩⟩
    have e0 : Env0 P w K mg (hidT s₁.heap H) callerA [] s₁ H := ⟨rfl, hM, fun b o e => of_hidT e, Nat.le_of_eq (hidT_size _ _), trivial, fun b hb => absurd (show b ∈ ([] : List Addr) from hb) (by simp), hok, .of_eq hg⟩
    refine codeAny_mono ((F _ hKb (nsK hns)).run callerA [] s₁ H ⟨[.ref a], []⟩ [.ref a] [.ref a] _ _ hr e0 (hbind s₁ (.ref a)) (.cons rfl .nil) (hsp H hO hS)) fun r s' h => ?_
    cases r with
    | error e => exact (hCX H e s' h).elim
    | ok fl =>
      cases fl with
      | next => exact False.elim h
      | brk => exact False.elim h
      | cont => exact False.elim h
      | ret u =>
        obtain ⟨v, H', os, bare, un, hok', r', q⟩ := h
        have q' : v = .bl true := q
        subst q'
        obtain rfl : u = Value.bool true := r'
        refine ⟨rfl, OldK.of_keep fun b o e => ?_, os, bare⟩
        cases q : H b with
        | none => exact un.keep b o e q (by intro z; exact absurd (show b ∈ ([] : List Addr) from z) (by simp)) (by simp)
        | some u =>
          rcases hO b with z | ⟨ob, xs, z⟩
          · rw [q] at z; cases z
          · have z2 := un.frzs b ob _ z
            obtain ⟨e1, _⟩ := hok b _ z
            obtain ⟨e2, _⟩ := hok' b _ z2
            rw [e] at e1; cases e1
            exact e2
  cases hk : K.lookup a with
  | some o =>
    have e := KX a o hk
    rw [ha] at e
    cases e
    refine core (fun _ => none) (fun _ => .inl rfl) (.inr ⟨_, vs.toArray, _, hk, rfl, rfl, rfl, by rw [List.size_toArray, lenV]; exact hl, by simpa using rv⟩) (fun b u z => by have z' : (none : Option HO) = some u := z; cases z') (fun b z => absurd rfl z) fun z => absurd rfl z
  | none =>
    refine core (fun b => if b = a then some (.frz { cls := .type "list", data := .seq vs.toArray } (.lst (ns.map V.int))) else none) (fun b => ?_) (.inl (.inr ⟨{ cls := .type "list", data := .seq vs.toArray }, if_pos rfl⟩)) (fun b u z => ?_) (fun b z => ?_) fun _ => hk
    · by_cases hb : b = a
      · exact .inr ⟨_, _, if_pos hb⟩
      · exact .inl (if_neg hb)
    · by_cases hb : b = a
      · have z' := (if_pos hb).symm.trans z
        cases z'
        subst hb
        exact ⟨ha, by rw [List.length_map]; exact hl, vs, _, rv, ha⟩
      · have z' := (if_neg hb).symm.trans z
        cases z'
    · by_cases hb : b = a
      · exact hb
      · exact absurd (if_neg hb) z
end L2
namespace L2
open PySem PySem.Spec PyProof.Rows
abbrev KOf {K : PySem.W.Frag} {h : Heap} (_ : K.In h) : PySem.W.Frag := K
theorem walk_of {l : PySem.W.OpenLaw} {n k : Nat} {q : Program} {loose : List Str} {XP : (Str → Option Value) → Heap → Prop} {YP : World → Heap → Prop} {d : DefRec} {K : Params → PySem.W.Frag} {CX : World → CXT} {sp : World → Sp} {x : Str}
    (hn : l.most = some n) (hn2 : n ≤ sizeLine) (hdf : d.params.defaults = []) (hr : Room k callerA)
    (hY : ∀ (w : World) (h : Heap), YP w h → (K w.params).In h)
    (F : ∀ (w : World) (mg : Str → Option Value) (fa : Addr) (h : Heap), (K w.params).In h → h.Ns mainGlobals mg → mg d.name = some (.ref fa) →
      ∃ fd : FuncData, (∀ (s : Shared) (u : Value), BindsTo s fd ⟨[u], []⟩ [(x, u)]) ∧
        ∀ base : Heap, (K w.params).In base → base.Ns mainGlobals mg → FnOk l.prog w (K w.params) mg base (CX w) k fa fd [x] (sp w))
    (hsp : ∀ (w : World) (H : Hp) (a : Addr) (ns : List Int), ns.length ≤ n → Only H → SqL (K w.params) H a (ns.map V.int) → sp w [.ref a] H (fun v _ => v = .bl true) fun _ _ _ => False)
    (hCX : ∀ (w : World) (H : Hp) (s : Shared) (e : Value) (s' : Shared), CX w [] H s (fun _ _ _ => False) e s' → False) :
    PySem.W.WalkO q loose XP YP l.row.toRowW d [] (fun f vs => PySem.call f vs) := by
  refine Att.attach_call hn hdf fun w s₀ s₁ mg mb fa o pm cd doc a vs ns G Y ho hd hcd hmg hobj hints hlen hg => ?_
  have KX := hY w _ Y
  obtain ⟨fd, hb, hF⟩ := F w mg fa _ KX G.T.g hmg
  exact law_call KX G.T.g G.T.b G.T.builtins G.T.nolimit hg hobj hints (Nat.le_trans hlen hn2) hr hF hb (fun H hO hS => hsp w H a ns hlen hO hS) fun H e s' => hCX w H s₁ e s'
end L2
namespace L2
open PySem PySem.Spec PyProof.Rows
noncomputable def defArgs (s : Stmt) : Arguments := match s with
  | .FunctionDef _ a _ _ _ _ _ _ _ _ => a
  | _ => { posonlyargs := [], args := [], vararg := none, kwonlyargs := [], kw_defaults := [], kwarg := none, defaults := [] }
noncomputable def defBody (s : Stmt) : List Stmt := match s with
  | .FunctionDef _ _ b _ _ _ _ _ _ _ => b
  | _ => []
noncomputable def defScope (s : Stmt) : Scope := match s with
  | .FunctionDef _ _ _ _ _ _ sc _ _ _ => sc
  | _ => { kind := .function, names := [], isGenerator := false, isCoroutine := false }
abbrev CX0 : CXT := fun _ _ _ _ _ _ => False
abbrev E0 : XK := fun _ _ _ => False
structure Fun (K : PySem.W.Frag) (x qual : Str) (st : Stmt) (f : Addr) (fd : FuncData) : Prop where
  ex : ∃ (oc : Value) (od : Option Addr) (kV doc pm : Value) (an : Option Addr) (cdv ct : Value) (osl : Array (Option Value)),
    fd = PySem.W.fnOf x qual (defArgs st) (defBody st) (defScope st) .none kV doc pm an cdv ct ∧ K.lookup f = some ⟨oc, od, .func fd, osl⟩ ∧ PySem.W.codeIn K cdv qual = true
  kp : PySem.W.keepIn K (.ref f) = true
section
variable {P : Program} {w : World} {K : PySem.W.Frag} {mg : Str → Option Value} {base : Heap}
theorem Fun.ok {x qual : Str} {st : Stmt} {f : Addr} {fd : FuncData} {N ps : List Str} {k : Nat} {sp : Sp} (F : Fun K x qual st f fd) (S : FnScope N ps (defScope st)) (len : ∀ vs H Q E, sp vs H Q E → vs.length = ps.length)
    (hbody : ∀ (cdv : Value) (A : Around) (outer : List Env) (s : Shared) (H : Hp) (vs : List V) (Q : VK) (E : XK), Room k (A.deeper (envOfC qual (defScope st) s.heap.objs.size f cdv)) → sp vs H Q E →
      ∃ t, PSs (cxOf CX0 P w K mg base N qual (defScope st) f cdv A outer s H E).nox (defBody st) t ∧ t { nx := fun _ H' => Q .non H', rt := Q } (start N vs) H) : FnOk P w K mg base CX0 (k + 1) f fd ps sp := by
  obtain ⟨oc, od, kV, doc, pm, an, cdv, ct, osl, rfl, lk, hcd⟩ := F.ex
  refine fn_of lk hcd S len fun A outer s H vs Q E hr hsp => ?_
  obtain ⟨t, h, q⟩ := hbody cdv A outer s H vs Q E hr hsp
  exact ⟨t, h.nox, q⟩
theorem Fun.binds {x qual : Str} {st : Stmt} {f : Addr} {fd : FuncData} {ps : List Str} (F : Fun K x qual st f fd)
    (h : ∀ (kV doc pm : Value) (an : Option Addr) (cdv ct : Value) (us : List Value), us.length = ps.length → bindArgs (PySem.W.fnOf x qual (defArgs st) (defBody st) (defScope st) .none kV doc pm an cdv ct) ⟨us, []⟩ = pure (ps.zip us)) : Binds K fd ps [] := by
  obtain ⟨oc, od, kV, doc, pm, an, cdv, ct, osl, rfl, lk, hcd⟩ := F.ex
  exact .all (h kV doc pm an cdv ct)
theorem fun_mk {x qual : Str} {st : Stmt} {f : Addr} {oc : Value} {od an : Option Addr} {osl : Array (Option Value)} {kV doc pm cdv ct : Value} (l : K.lookup f = some ⟨oc, od, .func (PySem.W.fnOf x qual (defArgs st) (defBody st) (defScope st) .none kV doc pm an cdv ct), osl⟩)
    (c : PySem.W.codeIn K cdv qual = true) (k : PySem.W.keepIn K (.ref f) = true) : Fun K x qual st f (PySem.W.fnOf x qual (defArgs st) (defBody st) (defScope st) .none kV doc pm an cdv ct) := ⟨⟨oc, od, kV, doc, pm, an, cdv, ct, osl, rfl, l, c⟩, k⟩
end
section
variable {X : Cx}
end
noncomputable def Same (H H' : Hp) : Prop := ∀ b o, H b = some o → H' b = some o
theorem Same.refl (H : Hp) : Same H H := fun _ _ h => h
theorem Same.trans {H H1 H2 : Hp} (a : Same H H1) (b : Same H1 H2) : Same H H2 := fun c o h => b c o (a c o h)
theorem Same.free {H H' : Hp} (e : Same H H') {l : Addr} (h : H' l = Option.none) : H l = Option.none := by
  cases q : H l with
  | none => rfl
  | some o =>
    rw [e l o q] at h
    cases h
theorem Same.seq {K : PySem.W.Frag} {H H' : Hp} {a : Addr} {xs : List V} (e : Same H H') (h : SqL K H a xs) : SqL K H' a xs := by
  rcases h with (h | ⟨o, h⟩) | h
  · exact .inl (.inl (e _ _ h))
  · exact .inl (.inr ⟨o, e _ _ h⟩)
  · exact .inr h
end L2
set_option Elab.async false
set_option linter.all false
set_option maxRecDepth 100000
namespace DL
open PySem PySem.Spec PyProof.Rows L2
abbrev St := L2.St
inductive D where
  | non
  | bl (b : Bool)
  | int (i : Int)
  | str (x : Str)
  | tup (ds : List D)
  | lst (ds : List D)
  | exc (c : Str)
structure Exn where
  cls : Str
inductive Res (α : Type) where
  | stuck
  | ok (a : α)
  | err (x : Exn)
noncomputable def Res.bind {α β : Type} (r : Res α) (f : α → Res β) : Res β := match r with
  | .stuck => .stuck
  | .ok a => f a
  | .err x => .err x
@[simp] theorem Res.bind_ok {α β : Type} (a : α) (f : α → Res β) : (Res.ok a).bind f = f a := rfl
@[simp] theorem Res.bind_stuck {α β : Type} (f : α → Res β) : (Res.stuck).bind f = .stuck := rfl
@[simp] theorem Res.bind_err {α β : Type} (x : Exn) (f : α → Res β) : (Res.err x).bind f = .err x := rfl
noncomputable def excAt (a C : Addr) (h : Heap) : Prop := ∃ o vs, h.get? a = some o ∧ o.cls = .ref C ∧ o.dict = none ∧ o.data = .fields vs
section
variable (K : PySem.W.Frag)
mutual
noncomputable def Rep (H : Hp) : D → V → Prop
  | .non, v => v = .non
  | .bl b, v => v = .bl b
  | .int i, v => v = .int i
  | .str x, v => v = .str x
  | .tup ds, v => ∃ a xs, v = .ref a ∧ SqT K H a xs ∧ Reps H ds xs
  | .lst ds, v => ∃ a xs, v = .ref a ∧ SqL K H a xs ∧ Reps H ds xs
  | .exc c, v => ∃ a C, v = .ref a ∧ PySem.W.nsIn K mainGlobals c = some (some (.ref C)) ∧ H a = some (.ext (excAt a C))
noncomputable def Reps (H : Hp) : List D → List V → Prop
  | [], xs => xs = []
  | d :: ds, xs => ∃ v vs, xs = v :: vs ∧ Rep H d v ∧ Reps H ds vs
end
end
theorem SqT_mono {K : PySem.W.Frag} {H H' : Hp} {a : Addr} {xs : List V} (e : Same H H') (h : SqT K H a xs) : SqT K H' a xs := by
  rcases h with (h | ⟨o, h⟩) | h
  · exact .inl (.inl (e _ _ h))
  · exact .inl (.inr ⟨o, e _ _ h⟩)
  · exact .inr h
mutual
theorem Rep.mono {K : PySem.W.Frag} {H H' : Hp} (e : Same H H') : ∀ {d : D} {v : V}, Rep K H d v → Rep K H' d v
  | .non, _, h => by rw [Rep] at h ⊢; exact h
  | .bl _, _, h => by rw [Rep] at h ⊢; exact h
  | .int _, _, h => by rw [Rep] at h ⊢; exact h
  | .str _, _, h => by rw [Rep] at h ⊢; exact h
  | .tup ds, _, h => by
    rw [Rep] at h ⊢
    obtain ⟨a, xs, e1, e2, e3⟩ := h
    exact ⟨a, xs, e1, SqT_mono e e2, Reps.mono e e3⟩
  | .lst ds, _, h => by
    rw [Rep] at h ⊢
    obtain ⟨a, xs, e1, e2, e3⟩ := h
    exact ⟨a, xs, e1, e.seq e2, Reps.mono e e3⟩
  | .exc _, _, h => by
    rw [Rep] at h ⊢
    obtain ⟨a, C, e1, e2, e3⟩ := h
    exact ⟨a, C, e1, e2, e _ _ e3⟩
theorem Reps.mono {K : PySem.W.Frag} {H H' : Hp} (e : Same H H') : ∀ {ds : List D} {vs : List V}, Reps K H ds vs → Reps K H' ds vs
  | [], _, h => by rw [Reps] at h ⊢; exact h
  | d :: ds, _, h => by
    rw [Reps] at h ⊢
    obtain ⟨v, vs, e1, e2, e3⟩ := h
    exact ⟨v, vs, e1, Rep.mono e e2, Reps.mono e e3⟩
end
theorem Reps.nil {K : PySem.W.Frag} {H : Hp} : Reps K H [] [] := by rw [Reps]
theorem Reps.cons {K : PySem.W.Frag} {H : Hp} {d : D} {v : V} {ds : List D} {vs : List V} (h : Rep K H d v) (t : Reps K H ds vs) : Reps K H (d :: ds) (v :: vs) := by
  rw [Reps]; exact ⟨v, vs, rfl, h, t⟩
theorem Reps.nil_of {K : PySem.W.Frag} {H : Hp} {xs : List V} (h : Reps K H [] xs) : xs = [] := by rw [Reps] at h; exact h
theorem Reps.cons_of {K : PySem.W.Frag} {H : Hp} {d : D} {ds : List D} {xs : List V} (h : Reps K H (d :: ds) xs) : ∃ v vs, xs = v :: vs ∧ Rep K H d v ∧ Reps K H ds vs := by rw [Reps] at h; exact h
theorem Reps.length {K : PySem.W.Frag} {H : Hp} : ∀ {ds : List D} {vs : List V}, Reps K H ds vs → vs.length = ds.length
  | [], _, h => by rw [h.nil_of]; rfl
  | d :: ds, _, h => by
    obtain ⟨v, vs, rfl, _, t⟩ := h.cons_of
    simp [Reps.length t]
theorem Reps.isEmpty {K : PySem.W.Frag} {H : Hp} {ds : List D} {vs : List V} (h : Reps K H ds vs) : vs.isEmpty = ds.isEmpty := by
  cases ds with
  | nil => rw [h.nil_of]; rfl
  | cons d ds => obtain ⟨v, vs, rfl, _, _⟩ := h.cons_of; rfl
theorem Reps.get {K : PySem.W.Frag} {H : Hp} : ∀ {ds : List D} {vs : List V} {i : Nat} {d : D}, Reps K H ds vs → ds[i]? = some d → ∃ v, vs[i]? = some v ∧ Rep K H d v
  | [], _, i, d, h, e => by simp at e
  | d' :: ds, _, 0, d, h, e => by
    obtain ⟨v, vs, rfl, r, t⟩ := h.cons_of
    simp at e; subst e
    exact ⟨v, by simp, r⟩
  | d' :: ds, _, i + 1, d, h, e => by
    obtain ⟨v, vs, rfl, r, t⟩ := h.cons_of
    simp at e
    obtain ⟨u, e1, e2⟩ := Reps.get t e
    exact ⟨u, by simpa using e1, e2⟩
theorem Reps.get' {K : PySem.W.Frag} {H : Hp} : ∀ {ds : List D} {vs : List V} {i : Nat} {v : V}, Reps K H ds vs → vs[i]? = some v → ∃ d, ds[i]? = some d ∧ Rep K H d v
  | [], _, i, v, h, e => by rw [h.nil_of] at e; simp at e
  | d' :: ds, _, 0, v, h, e => by
    obtain ⟨v', vs, rfl, r, t⟩ := h.cons_of
    simp at e; subst e
    exact ⟨d', by simp, r⟩
  | d' :: ds, _, i + 1, v, h, e => by
    obtain ⟨v', vs, rfl, r, t⟩ := h.cons_of
    simp at e
    obtain ⟨u, e1, e2⟩ := Reps.get' t e
    exact ⟨u, by simpa using e1, e2⟩
theorem Reps.append {K : PySem.W.Frag} {H : Hp} : ∀ {ds es : List D} {vs ws : List V}, Reps K H ds vs → Reps K H es ws → Reps K H (ds ++ es) (vs ++ ws)
  | [], _, _, _, h, t => by rw [h.nil_of]; exact t
  | d :: ds, _, _, _, h, t => by
    obtain ⟨v, vs, rfl, r, q⟩ := h.cons_of
    exact Reps.cons r (Reps.append q t)
theorem Reps.take {K : PySem.W.Frag} {H : Hp} : ∀ (n : Nat) {ds : List D} {vs : List V}, Reps K H ds vs → Reps K H (ds.take n) (vs.take n)
  | 0, _, _, _ => by simpa using Reps.nil
  | n + 1, [], _, h => by rw [h.nil_of]; simpa using Reps.nil
  | n + 1, d :: ds, _, h => by
    obtain ⟨v, vs, rfl, r, q⟩ := h.cons_of
    simpa using Reps.cons r (Reps.take n q)
theorem Reps.drop {K : PySem.W.Frag} {H : Hp} : ∀ (n : Nat) {ds : List D} {vs : List V}, Reps K H ds vs → Reps K H (ds.drop n) (vs.drop n)
  | 0, _, _, h => by simpa using h
  | n + 1, [], _, h => by rw [h.nil_of]; simpa using Reps.nil
  | n + 1, d :: ds, _, h => by
    obtain ⟨v, vs, rfl, r, q⟩ := h.cons_of
    simpa using Reps.drop n q
inductive SV where
  | val (d : D)
  | arg (d : D)
  | own (ds : List D)
abbrev DS := List (Option SV)
noncomputable def SV.view : SV → D
  | .val d => d
  | .arg d => d
  | .own ds => .lst ds
noncomputable def RepSV (K : PySem.W.Frag) (G H : Hp) : SV → V → Prop
  | .val d, v => Rep K H d v
  | .arg d, v => Rep K G d v
  | .own ds, v => ∃ a xs, v = .ref a ∧ H a = some (.lst xs) ∧ Reps K H ds xs ∧ G a = none
structure RepSt (K : PySem.W.Frag) (G H : Hp) (σ : St) (δ : DS) : Prop where
  same : Same G H
  len : σ.length = δ.length
  at_ : ∀ (i : Nat) (sv : SV), δ[i]? = some (some sv) → ∃ v, σ[i]? = some (some v) ∧ RepSV K G H sv v
  sep : ∀ (i j : Nat) (ds es : List D) (v : V), i ≠ j → δ[i]? = some (some (.own ds)) → δ[j]? = some (some (.own es)) → σ[i]? = some (some v) → σ[j]? ≠ some (some v)
structure TK (H H' : Hp) : Prop where
  tup : ∀ b xs, H b = some (.tup xs) → H' b = some (.tup xs)
  frz : ∀ b o u, H b = some (.frz o u) → H' b = some (.frz o u)
  trk : ∀ b, H' b = none → H b = none
theorem _root_.L2.Same.tk {H H' : Hp} (e : Same H H') : TK H H' := ⟨fun b xs h => e b _ h, fun b o u h => e b _ h, fun b h => e.free h⟩
theorem TK.refl (H : Hp) : TK H H := ⟨fun _ _ h => h, fun _ _ _ h => h, fun _ h => h⟩
theorem TK.trans {H H1 H2 : Hp} (a : TK H H1) (b : TK H1 H2) : TK H H2 := ⟨fun c xs h => b.tup c xs (a.tup c xs h), fun c o u h => b.frz c o u (a.frz c o u h), fun c h => a.trk c (b.trk c h)⟩
theorem RepSt.mono {K : PySem.W.Frag} {G H H' : Hp} {σ : St} {δ : DS} (R : RepSt K G H σ δ) (e : Same H H') : RepSt K G H' σ δ where
  same := R.same.trans e
  len := R.len
  at_ := fun i sv h => by
    obtain ⟨v, e1, e2⟩ := R.at_ i sv h
    refine ⟨v, e1, ?_⟩
    cases sv with
    | val d => exact Rep.mono e e2
    | arg d => exact e2
    | own ds =>
      obtain ⟨a, xs, q1, q2, q3, q4⟩ := e2
      exact ⟨a, xs, q1, e _ _ q2, q3.mono e, q4⟩
  sep := R.sep
theorem RepSt.view {K : PySem.W.Frag} {G H : Hp} {σ : St} {δ : DS} (R : RepSt K G H σ δ) {i : Nat} {sv : SV} (h : δ[i]? = some (some sv)) : ∃ v, σ[i]? = some (some v) ∧ Rep K H sv.view v := by
  obtain ⟨v, e1, e2⟩ := R.at_ i sv h
  refine ⟨v, e1, ?_⟩
  cases sv with
  | val d => exact e2
  | arg d => exact Rep.mono R.same e2
  | own ds =>
    obtain ⟨a, xs, rfl, q2, q3, q4⟩ := e2
    show Rep K H (.lst ds) _
    rw [Rep]
    exact ⟨a, xs, rfl, SqL.of q2, q3⟩
theorem RepSt.set {K : PySem.W.Frag} {G H : Hp} {σ : St} {δ : DS} (R : RepSt K G H σ δ) (i : Nat) {d : D} {v : V} (h : Rep K H d v) : RepSt K G H (σ.set i (some v)) (δ.set i (some (.val d))) where
  same := R.same
  len := by simpa using R.len
  at_ := fun j sv e => by
    by_cases hj : i = j
    · subst hj
      have hl : i < δ.length := by
        rw [List.getElem?_set] at e
        by_cases q : i < δ.length
        · exact q
        · simp [q] at e
      rw [List.getElem?_set_self hl] at e
      cases e
      exact ⟨v, by rw [List.getElem?_set_self (by rw [R.len]; exact hl)], h⟩
    · rw [List.getElem?_set_ne hj] at e
      obtain ⟨u, e1, e2⟩ := R.at_ j sv e
      exact ⟨u, by rw [List.getElem?_set_ne hj]; exact e1, e2⟩
  sep := fun j k ds es u hjk e1 e2 e3 => by
    have n1 : i ≠ j := by
      rintro rfl
      rw [List.getElem?_set] at e1
      split at e1
      · split at e1 <;> cases e1
      · omega
    have n2 : i ≠ k := by
      rintro rfl
      rw [List.getElem?_set] at e2
      split at e2
      · split at e2 <;> cases e2
      · omega
    rw [List.getElem?_set_ne n1] at e1 e3
    rw [List.getElem?_set_ne n2] at e2
    rw [List.getElem?_set_ne n2]
    exact R.sep j k ds es u hjk e1 e2 e3
theorem obj_some {P : Program} {w : World} {H : Hp} {h : Heap} {a : Addr} {o : HO} (x : ObjOk P w H h a o) : ∃ ob, h.get? a = some ob := by
  cases o with
  | lst xs => obtain ⟨_, _, _, _, e⟩ := x; exact ⟨_, e⟩
  | tup xs => obtain ⟨_, _, _, o, e, _⟩ := x; exact ⟨o, e⟩
  | dK kvs => obtain ⟨_, _, _, _, o, _, _, e, _⟩ := x; exact ⟨o, e⟩
  | dT kvs => obtain ⟨_, _, _, _, o, _, _, e, _⟩ := x; exact ⟨o, e⟩
  | set S n => obtain ⟨o, _, _, _, e, _⟩ := x; exact ⟨o, e⟩
  | ins C dx fs => obtain ⟨_, _, _, e, _⟩ := x; exact ⟨_, e⟩
  | own y => obtain ⟨o, e⟩ := x; exact ⟨o, e⟩
  | xd fs => obtain ⟨_, ⟨o, _, _, e, _⟩, _⟩ := x; exact ⟨o, e⟩
  | rng lo hi => obtain ⟨_, _, _, e⟩ := x; exact ⟨_, e⟩
  | frz ob u => obtain ⟨e, _⟩ := x; exact ⟨_, e⟩
  | tbl ps => exact ⟨_, show h.get? a = some _ from x⟩
  | met f y => exact ⟨_, show h.get? a = some _ from x⟩
  | ext φ => obtain ⟨_, ⟨o, e⟩, _⟩ := x; exact ⟨o, e⟩
noncomputable def NoRec (h : Heap) (e : Addr) : Prop := ∀ o vs, h.get? e = some o → o.data ≠ .fields vs
noncomputable def Back (H : Hp) (h h1 : Heap) : Prop := ∀ e, H e = none → NoRec h1 e → NoRec h e
theorem Back.refl (H : Hp) (h : Heap) : Back H h h := fun _ _ q => q
theorem Back.trans {H H1 : Hp} {h h1 h2 : Heap} (a : Back H h h1) (b : Back H1 h1 h2) (k : ∀ e, H e = none → NoRec h2 e → H1 e = none) : Back H h h2 := fun e n q => a e n (b e (k e n q) q)
noncomputable def Fly (h0 : Heap) (H : Hp) (h : Heap) (e : Addr) (cls : Value) : Prop :=
  NoRec h0 e ∧ H e = none ∧ ∃ oe vs a0, h.get? e = some oe ∧ (oe.cls = cls ∧ oe.dict = none) ∧ oe.data = .fields vs ∧ vs[0]? = some a0 ∧
    (vs[1]? = some .none ∨ ∃ T oT ts, vs[1]? = some (.ref T) ∧ NoRec h0 T ∧ H T = none ∧ T ≠ e ∧ h.get? T = some oT ∧ oT.data = .fields ts ∧ ts[3]? = some .none)
theorem Fly.back {h0 h1 h : Heap} {H0 H1 H : Hp} {e : Addr} {cls : Value} (f : Fly h1 H h e cls) (e1 : TK H0 H1) (e2 : TK H1 H) (b : Back H0 h0 h1) : Fly h0 H h e cls := by
  obtain ⟨n, he, oe, vs, a0, q1, q2, q3, q4, q5⟩ := f
  refine ⟨b e (e1.trk e (e2.trk e he)) n, he, oe, vs, a0, q1, q2, q3, q4, ?_⟩
  rcases q5 with q5 | ⟨T, oT, ts, w1, w2, w3, w4⟩
  · exact .inl q5
  · exact .inr ⟨T, oT, ts, w1, b T (e1.trk T (e2.trk T w3)) w2, w3, w4⟩
noncomputable def EPost (X : Cx) (pins : List (Addr × Obj)) (σ : St) (H : Hp) (r : Res D) (u : Value) (s1 : Shared) : Prop := ∃ d v H1, r = .ok d ∧ Inv X pins σ H1 s1 ∧ RelV v u ∧ Same H H1 ∧ Rep X.K H1 d v
noncomputable def XPost {α : Type} (X : Cx) (pins : List (Addr × Obj)) (σ : St) (H : Hp) (h0 : Heap) (r : Res α) (e : Value) (s1 : Shared) : Prop :=
  ∃ x a C H1, r = .err x ∧ e = .ref a ∧ Inv X pins σ H1 s1 ∧ Same H H1 ∧ PySem.W.nsIn X.K mainGlobals x.cls = some (some (.ref C)) ∧ Fly h0 H1 s1.heap a (.ref C)
theorem XPost.back {α β : Type} {X : Cx} {pins : List (Addr × Obj)} {σ : St} {H H1 : Hp} {h h1 : Heap} {r : Res α} {r' : Res β} {e : Value} {s1 : Shared} (p : XPost X pins σ H1 h1 r e s1) (e1 : Same H H1) (b : Back H h h1) (hr : ∀ x, r = .err x → r' = .err x) : XPost X pins σ H h r' e s1 := by
  obtain ⟨x, a, C, H2, q1, q2, q3, q4, q5, q6⟩ := p
  exact ⟨x, a, C, H2, hr x q1, q2, q3, e1.trans q4, q5, q6.back e1.tk q4.tk b⟩
theorem XPost.same {α β : Type} {X : Cx} {pins : List (Addr × Obj)} {σ : St} {H : Hp} {h : Heap} {r : Res α} {r' : Res β} {e : Value} {s1 : Shared} (p : XPost X pins σ H h r e s1) (hr : ∀ x, r = .err x → r' = .err x) : XPost X pins σ H h r' e s1 := p.back (Same.refl H) (Back.refl H h) hr
theorem XPost.none {α : Type} {X : Cx} {pins : List (Addr × Obj)} {σ : St} {H : Hp} {h0 : Heap} {a : α} {e : Value} {s1 : Shared} (p : XPost X pins σ H h0 (.ok a) e s1) : False := by
  obtain ⟨x, _, _, _, q, _⟩ := p; cases q
noncomputable def PD (X : Cx) (e : Expr) (f : DS → Res D) : Prop :=
  ∀ (pins : List (Addr × Obj)) (s : Shared) (σ : St) (G H : Hp) (δ : DS), Inv X pins σ H s → RepSt X.K G H σ δ → f δ ≠ .stuck →
    wpAny (model X.prog X.w) X.A (eval e X.env) (EPost X pins σ H (f δ)) (XPost X pins σ H s.heap (f δ)) s
open Classical in
noncomputable def allP (X : Cx) (H : Hp) (h : Heap) : List (Addr × Obj) :=
  (List.range h.objs.size).filterMap fun a => (h.get? a).bind fun o => if H a = none ∧ a ≠ X.env.locals ∧ a ∉ X.fs ∧ (∀ v, o.data ≠ .cell v) then some (a, o) else none
theorem of_allP {X : Cx} {H : Hp} {h : Heap} {p : Addr × Obj} (hp : p ∈ allP X H h) : h.get? p.1 = some p.2 ∧ H p.1 = none ∧ p.1 ≠ X.env.locals ∧ p.1 ∉ X.fs ∧ ∀ v, p.2.data ≠ .cell v := by
  obtain ⟨a, _, e⟩ := List.mem_filterMap.mp hp
  cases q : h.get? a with
  | none => rw [q] at e; cases e
  | some o =>
    rw [q] at e
    simp only [Option.bind_some] at e
    split at e
    · rename_i c
      cases e
      exact ⟨q, c⟩
    · cases e
theorem mem_allP {X : Cx} {H : Hp} {h : Heap} {a : Addr} {o : Obj} (e : h.get? a = some o) (c : H a = none ∧ a ≠ X.env.locals ∧ a ∉ X.fs ∧ ∀ v, o.data ≠ .cell v) : (a, o) ∈ allP X H h := by
  refine List.mem_filterMap.mpr ⟨a, List.mem_range.mpr (Heap.lt_size e), ?_⟩
  rw [e]
  simp only [Option.bind_some]
  rw [if_pos c]
section
variable {X : Cx} {pins : List (Addr × Obj)} {s : Shared} {σ : St} {G H : Hp} {δ : DS}
theorem _root_.L2.Inv.all (I : Inv X pins σ H s) : Inv X (pins ++ allP X H s.heap) σ H s :=
  I.pins_of fun p hp => (List.mem_append.mp hp).elim (fun z => I.pin p (List.mem_append_right _ z)) of_allP
theorem _root_.L2.Inv.locals_dict (I : Inv X pins σ H s) {o : Obj} {vs : Array Value} (e : s.heap.get? X.env.locals = some o) : o.data ≠ .fields vs := by
  obtain ⟨m, ⟨o', es, ep, ho, hd, _⟩, _⟩ := I.loc
  rw [e] at ho; cases ho
  rw [hd]; intro z; cases z
theorem _root_.L2.Inv.fs_rec (I : Inv X pins σ H s) {b : Addr} (hb : b ∈ X.fs) {o : Obj} {vs : Array Value} (e : s.heap.get? b = some o) : o.data ≠ .fields vs := by
  obtain ⟨_, o', ho, hd⟩ := I.funs.mem hb
  rw [e] at ho; cases ho
  exact hd vs
theorem _root_.L2.Inv.backTo {σ1 : St} {H1 : Hp} {s1 : Shared} (I : Inv X pins σ H s) (J : Inv X (pins ++ allP X H s.heap) σ1 H1 s1) : Back H s.heap s1.heap := by
  intro e n q o vs ho hd
  have hm : (e, o) ∈ allP X H s.heap := mem_allP ho ⟨n, fun z => by subst z; exact I.locals_dict ho hd, fun z => I.fs_rec z ho hd, fun v z => by rw [hd] at z; cases z⟩
  exact q o vs (J.pin (e, o) (List.mem_append_right _ (List.mem_append_right _ hm))).1 hd
theorem PD.use {e : Expr} {f : DS → Res D} (h : PD X e f) (I : Inv X pins σ H s) (R : RepSt X.K G H σ δ) (hs : f δ ≠ .stuck) {P E : Value → Shared → Prop}
    (k : ∀ d u s1 v H1, f δ = .ok d → Inv X pins σ H1 s1 → RelV v u → Same H H1 → Back H s.heap s1.heap → Rep X.K H1 d v → P u s1)
    (kx : ∀ e s1, XPost X pins σ H s.heap (f δ) e s1 → E e s1) : wpAny (model X.prog X.w) X.A (eval e X.env) P E s := by
  refine wpAny_mono (h (pins ++ allP X H s.heap) s σ G H δ I.all R hs) (fun u s1 ⟨d, v, H1, q1, q2, q3, q4, q5⟩ => k d u s1 v H1 q1 q2.unpinned q3 q4 (I.backTo q2) q5) fun e s1 ⟨x, a, C, H1, q1, q2, q3, q4, q5, q6⟩ => kx e s1 ⟨x, a, C, H1, q1, q2, q3.unpinned, q4, q5, q6⟩
end
section
variable {X : Cx} {e : Expr} {pos : Pos}
theorem pd_leaf {d : D} {v : V} (h : ∀ E, PE (X.wish E) e (tC v)) (hr : ∀ H, Rep X.K H d v) : PD X e (fun _ => .ok d) := by
  intro pins s σ G H δ I R _
  refine wpAny_mono (h (fun _ _ => False) pins s σ H (fun v' H' => v' = v ∧ H' = H) (I.wish _) ⟨rfl, rfl⟩) (fun u s1 q => ?_) fun _ _ z => z.elim
  obtain ⟨v', H', I', r', e1, e2⟩ := q
  subst e1 e2
  exact ⟨d, v', H', rfl, I'.unwish, r', Same.refl _, hr _⟩
theorem pd_int {i : Int} {j} : PD X (.Constant (.int i) j pos) (fun _ => .ok (.int i)) := pd_leaf (fun _ => pe_int) (fun _ => by rw [Rep])
theorem pd_bl {k : Bool} {j} : PD X (.Constant (.bool k) j pos) (fun _ => .ok (.bl k)) := pd_leaf (fun _ => pe_bl) (fun _ => by rw [Rep])
theorem pd_non {j} : PD X (.Constant .none j pos) (fun _ => .ok .non) := pd_leaf (fun _ => pe_non) (fun _ => by rw [Rep])
theorem pd_str {x : Str} {j} : PD X (.Constant (.str x) j pos) (fun _ => .ok (.str x)) := pd_leaf (fun _ => pe_str) (fun _ => by rw [Rep])
theorem pd_glob {x : Str} {d : D} {v : V} {u : Value} (hg : Gl X x) (hm : X.mg x = some u) (r : RelV v u) (hr : ∀ H, Rep X.K H d v) (hd : (x == ("__debug__" : Str)) = false := by decide) : PD X (.Name x pos) (fun _ => .ok d) :=
  pd_leaf (fun _ => pe_glob hg hm r hd) hr
noncomputable def slotD (i : Nat) : DS → Res D := fun δ => match δ[i]? with | some (some sv) => .ok sv.view | _ => .stuck
theorem pd_var (i : Nat) {x : Str} (hN : X.N[i]? = some x := by rfl) (hv : Vis X.env.scope x := by first | exact Or.inl rfl | exact Or.inr (Or.inl rfl) | exact Or.inr (Or.inr rfl)) (hd : (x == ("__debug__" : Str)) = false := by decide)
    (hcd : (x == ("__classdict__" : Str)) = false := by decide) : PD X (.Name x pos) (slotD i) := by
  intro pins s σ G H δ I R hs
  try dsimp only at hs ⊢
  unfold slotD at hs ⊢
  split at hs
  · rename_i sv e
    obtain ⟨v, e1, e2⟩ := R.view e
    refine wpAny_mono (pe_var (X := X.wish fun _ _ => False) hN hv hd hcd pins s σ H (fun v' H' => v' = v ∧ H' = H) (I.wish _) ⟨v, e1, rfl, rfl⟩) (fun u s1 q => ?_) fun _ _ z => z.elim
    obtain ⟨v', H', I', r', e3, e4⟩ := q
    subst e3 e4
    exact ⟨_, v', H', rfl, I'.unwish, r', Same.refl _, e2⟩
  · exact (hs rfl).elim
end
noncomputable def OpD (X : Cx) (f : Value → Value → Sem Value) (g : D → D → Res D) : Prop :=
  ∀ (E : Value → Shared → Prop) (pins : List (Addr × Obj)) (s : Shared) (σ : St) (H : Hp) (x y : V) (v u : Value) (a b d : D), Inv X pins σ H s → RelV x v → RelV y u → Rep X.K H a x → Rep X.K H b y → g a b = .ok d →
    wpAny (model X.prog X.w) X.A (f v u) (EPost X pins σ H (.ok d)) E s
noncomputable def NoErr {α : Type} (r : Res α) : Prop := ∀ x, r ≠ .err x
noncomputable def two (fa fb : DS → Res D) (g : D → D → Res D) : DS → Res D := fun δ => (fa δ).bind fun x => (fb δ).bind fun y => g x y
theorem two_l {fa fb : DS → Res D} {g : D → D → Res D} {δ : DS} (h : two fa fb g δ ≠ .stuck) : fa δ ≠ .stuck := fun q => h (by unfold two; rw [q]; rfl)
theorem two_r {fa fb : DS → Res D} {g : D → D → Res D} {δ : DS} {x : D} (h : two fa fb g δ ≠ .stuck) (q1 : fa δ = .ok x) : fb δ ≠ .stuck := fun q => h (by unfold two; rw [q1, Res.bind_ok, q]; rfl)
theorem two_e {fa fb : DS → Res D} {g : D → D → Res D} {δ : DS} {x y : D} (q1 : fa δ = .ok x) (q2 : fb δ = .ok y) : two fa fb g δ = g x y := by unfold two; rw [q1, Res.bind_ok, q2, Res.bind_ok]
theorem two_x {fa fb : DS → Res D} {g : D → D → Res D} {δ : DS} {x : Exn} (q1 : fa δ = .err x) : two fa fb g δ = .err x := by unfold two; rw [q1]; rfl
theorem two_y {fa fb : DS → Res D} {g : D → D → Res D} {δ : DS} {x : D} {y : Exn} (q1 : fa δ = .ok x) (q2 : fb δ = .err y) : two fa fb g δ = .err y := by unfold two; rw [q1, Res.bind_ok, q2]; rfl
section
variable {X : Cx} {a b : Expr} {fa fb : DS → Res D} {pos : Pos}
theorem two_use {g : D → D → Res D} {pins : List (Addr × Obj)} {s : Shared} {σ : St} {G H : Hp} {δ : DS} (ha : PD X a fa) (hb : PD X b fb) (I : Inv X pins σ H s) (R : RepSt X.K G H σ δ) (hs : two fa fb g δ ≠ .stuck) {P : Value → Value → Shared → Prop} {E : Value → Shared → Prop}
    (k : ∀ x y v u s2 vx vy H2, two fa fb g δ = g x y → Inv X pins σ H2 s2 → RelV vx v → RelV vy u → Same H H2 → Rep X.K H2 x vx → Rep X.K H2 y vy → P v u s2)
    (kx : ∀ e s1, XPost X pins σ H s.heap (two fa fb g δ) e s1 → E e s1) :
    wpAny (model X.prog X.w) X.A (eval a X.env) (fun v s1 => wpAny (model X.prog X.w) X.A (eval b X.env) (fun u s2 => P v u s2) E s1) E s := by
  refine ha.use I R (two_l hs) (fun x u s1 v H1 qa I1 r1 e1 b1 p1 => ?_) fun e s1 q => kx e s1 (q.same fun x z => two_x z)
  refine hb.use I1 (R.mono e1) (two_r hs qa) (fun y u2 s2 v2 H2 qb I2 r2 e2 b2 p2 => ?_) fun e s2 q => kx e s2 (q.back e1 b1 fun x z => two_y qa z)
  exact k x y u u2 s2 v v2 H2 (two_e qa qb) I2 r1 r2 (e1.trans e2) (p1.mono e2) p2
theorem EPost.from {X : Cx} {pins : List (Addr × Obj)} {σ : St} {H H1 : Hp} {r r' : Res D} {u : Value} {s1 : Shared} (p : EPost X pins σ H1 r u s1) (e : Same H H1) (q : r = r') : EPost X pins σ H r' u s1 := by
  obtain ⟨d, v, H2, q1, q2, q3, q4, q5⟩ := p
  exact ⟨d, v, H2, q ▸ q1, q2, q3, e.trans q4, q5⟩
theorem two_op {g : D → D → Res D} {pins : List (Addr × Obj)} {s : Shared} {σ : St} {G H : Hp} {δ : DS} {f : Value → Value → Sem Value} (ho : OpD X f g) (hg : ∀ x y, NoErr (g x y)) (ha : PD X a fa) (hb : PD X b fb) (I : Inv X pins σ H s) (R : RepSt X.K G H σ δ) (hs : two fa fb g δ ≠ .stuck) {E : Value → Shared → Prop}
    (kx : ∀ e s1, XPost X pins σ H s.heap (two fa fb g δ) e s1 → E e s1) :
    wpAny (model X.prog X.w) X.A (eval a X.env) (fun v s1 => wpAny (model X.prog X.w) X.A (eval b X.env) (fun u s2 => wpAny (model X.prog X.w) X.A (f v u) (EPost X pins σ H (two fa fb g δ)) E s2) E s1) E s := by
  refine two_use ha hb I R hs (fun x y v u s2 vx vy H2 q I2 r1 r2 e2 p1 p2 => ?_) kx
  cases qg : g x y with
  | stuck => exact (hs (q.trans qg)).elim
  | err z => exact (hg x y z qg).elim
  | ok d => exact thn (ho E pins s2 σ H2 vx vy v u x y d I2 r1 r2 p1 p2 qg) fun w s3 p => p.from e2 (qg.symm.trans q.symm)
theorem pd_op {op : Operator} {g : D → D → Res D} (ho : OpD X (binaryOp op) g) (hg : ∀ x y, NoErr (g x y)) (ha : PD X a fa) (hb : PD X b fb) : PD X (.BinOp a op b pos) (two fa fb g) :=
  fun pins s σ G H δ I R hs => wpAny_BinOp (two_op ho hg ha hb I R hs fun _ _ q => q)
theorem pd_cmp {op : CmpOp} {g : D → D → Res D} (ho : OpD X (compareOp op) g) (hg : ∀ x y, NoErr (g x y)) (ha : PD X a fa) (hb : PD X b fb) (hm : behindInMarks op b = false) : PD X (.Compare a [op] [b] pos) (two fa fb g) :=
  fun pins s σ G H δ I R hs => wpAny_Compare1 (two_op ho hg ha hb I R hs fun _ _ q => q) hm
theorem OpD.of {f : Value → Value → Sem Value} {r : R2} {g : D → D → Res D} (ho : ∀ E, OpR (X.wish E) f r)
    (h : ∀ (H : Hp) (x y : V) (a b d : D) (Q : VK), Rep X.K H a x → Rep X.K H b y → g a b = .ok d → (∀ z H', Same H H' → Rep X.K H' d z → Q z H') → r x y H Q) : OpD X f g :=
  fun E pins s σ H x y v u a b d I r1 r2 p1 p2 e => thn (ho E pins s σ H x y v u (fun z H' => Same H H' ∧ Rep X.K H' d z) (I.wish _) r1 r2 (h H x y a b d _ p1 p2 e fun z H' a b => ⟨a, b⟩)) fun w s1 ⟨z, H1, I1, r3, e1, p3⟩ => ⟨d, z, H1, rfl, I1.unwish, r3, e1, p3⟩
end
noncomputable def TPost (X : Cx) (pins : List (Addr × Obj)) (σ : St) (H : Hp) (r : Res Bool) (u : Bool) (s1 : Shared) : Prop := ∃ H1, r = .ok u ∧ Inv X pins σ H1 s1 ∧ Same H H1
noncomputable def PTD (X : Cx) (e : Expr) (f : DS → Res Bool) : Prop :=
  ∀ (pins : List (Addr × Obj)) (s : Shared) (σ : St) (G H : Hp) (δ : DS), Inv X pins σ H s → RepSt X.K G H σ δ → f δ ≠ .stuck →
    wpAny (model X.prog X.w) X.A (isTrue e X.env (eval e X.env)) (TPost X pins σ H (f δ)) (XPost X pins σ H s.heap (f δ)) s
noncomputable def PWD (X : Cx) (e : Expr) (f : DS → Res Bool) : Prop :=
  ∀ (wh : Sem Value) (pins : List (Addr × Obj)) (s : Shared) (σ : St) (G H : Hp) (δ : DS), Inv X pins σ H s → RepSt X.K G H σ δ → f δ ≠ .stuck →
    wpAny (model X.prog X.w) X.A (isTrue e X.env wh) (TPost X pins σ H (f δ)) (XPost X pins σ H s.heap (f δ)) s
theorem PWD.pt {X : Cx} {e : Expr} {f : DS → Res Bool} (h : PWD X e f) : PTD X e f := h _
section
variable {X : Cx} {pins : List (Addr × Obj)} {s : Shared} {σ : St} {G H : Hp} {δ : DS}
theorem use_t {t : Sem Bool} {f : DS → Res Bool} (h : ∀ pins, Inv X pins σ H s → wpAny (model X.prog X.w) X.A t (TPost X pins σ H (f δ)) (XPost X pins σ H s.heap (f δ)) s) (I : Inv X pins σ H s) {P : Bool → Shared → Prop} {E : Value → Shared → Prop}
    (k : ∀ d s1 H1, f δ = .ok d → Inv X pins σ H1 s1 → Same H H1 → Back H s.heap s1.heap → P d s1) (kx : ∀ e s1, XPost X pins σ H s.heap (f δ) e s1 → E e s1) : wpAny (model X.prog X.w) X.A t P E s := by
  refine wpAny_mono (h (pins ++ allP X H s.heap) I.all) (fun d s1 ⟨H1, q1, q2, q3⟩ => k d s1 H1 q1 q2.unpinned q3 (I.backTo q2)) fun e s1 ⟨x, a, C, H1, q1, q2, q3, q4, q5, q6⟩ => kx e s1 ⟨x, a, C, H1, q1, q2, q3.unpinned, q4, q5, q6⟩
theorem PTD.use {e : Expr} {f : DS → Res Bool} (h : PTD X e f) (I : Inv X pins σ H s) (R : RepSt X.K G H σ δ) (hs : f δ ≠ .stuck) {P : Bool → Shared → Prop} {E : Value → Shared → Prop}
    (k : ∀ d s1 H1, f δ = .ok d → Inv X pins σ H1 s1 → Same H H1 → Back H s.heap s1.heap → P d s1) (kx : ∀ e s1, XPost X pins σ H s.heap (f δ) e s1 → E e s1) : wpAny (model X.prog X.w) X.A (isTrue e X.env (eval e X.env)) P E s :=
  use_t (f := f) (δ := δ) (fun pins I => h pins s σ G H δ I R hs) I k kx
theorem PWD.use {e : Expr} {f : DS → Res Bool} (h : PWD X e f) (wh : Sem Value) (I : Inv X pins σ H s) (R : RepSt X.K G H σ δ) (hs : f δ ≠ .stuck) {P : Bool → Shared → Prop} {E : Value → Shared → Prop}
    (k : ∀ d s1 H1, f δ = .ok d → Inv X pins σ H1 s1 → Same H H1 → Back H s.heap s1.heap → P d s1) (kx : ∀ e s1, XPost X pins σ H s.heap (f δ) e s1 → E e s1) : wpAny (model X.prog X.w) X.A (isTrue e X.env wh) P E s :=
  use_t (f := f) (δ := δ) (fun pins I => h wh pins s σ G H δ I R hs) I k kx
end
noncomputable def truthD : D → Res Bool
  | .non => .ok false
  | .bl b => .ok b
  | .int i => .ok (i != 0)
  | .str x => if x.length ≤ sizeLine then .ok ((x.length : Int) != 0) else .stuck
  | .tup ds => .ok (!ds.isEmpty)
  | .lst ds => .ok (!ds.isEmpty)
  | .exc _ => .stuck
noncomputable def boolD : D → Res Bool
  | .bl b => .ok b
  | _ => .stuck
theorem boolD_of {d : D} (h : boolD d ≠ .stuck) : ∃ b, d = .bl b := by
  cases d with
  | bl b => exact ⟨b, rfl⟩
  | _ => exact (h rfl).elim
theorem bind_l {α β : Type} {r : Res α} {f : α → Res β} (h : r.bind f ≠ .stuck) : r ≠ .stuck := fun q => h (by rw [q]; rfl)
theorem bind_r {α β : Type} {r : Res α} {f : α → Res β} {a : α} (h : r.bind f ≠ .stuck) (e : r = .ok a) : f a ≠ .stuck := fun q => h (by rw [e, Res.bind_ok, q])
theorem bind_x {α β : Type} {r : Res α} {f : α → Res β} {x : Exn} (e : r = .err x) : r.bind f = .err x := by rw [e]; rfl
section
variable {X : Cx} {a b : Expr} {rest : List Expr} {fa : DS → Res D} {ta tb : DS → Res Bool} {pos : Pos}
theorem ptd_cmp {op : CmpOp} {fb : DS → Res D} {g : D → D → Res D} (ho : OpD X (compareOp op) g) (hg : ∀ x y, NoErr (g x y)) (ha : PD X a fa) (hb : PD X b fb) (hm : behindInMarks op b = false) : PTD X (.Compare a [op] [b] pos) (fun δ => (two fa fb g δ).bind boolD) := by
  intro pins s σ G H δ I R hs
  try dsimp only at hs ⊢
  refine wpAny_isTrue_Compare1 (thn (two_op ho hg ha hb I R (bind_l hs) (fun _ _ q => q.same fun x z => bind_x z)) fun v s1 h1 => thn h1 fun u s2 h2 => thn h2 fun c s3 ⟨d, x, H1, q1, I1, r1, e1, p1⟩ => ?_) hm
  obtain ⟨k, rfl⟩ := boolD_of (bind_r hs q1)
  rw [Rep] at p1
  subst p1
  cases r1
  exact wpAny_truthy_bool ⟨H1, by rw [q1]; rfl, I1, e1⟩
theorem ptd_truth (ha : PD X a fa) (he : ∀ whole, isTrue a X.env whole = (do let v ← whole; standAt a.pos; holding [v] (truthy v)) := by intro _; rfl) : PTD X a (fun δ => (fa δ).bind truthD) := by
  intro pins s σ G H δ I R hs
  try dsimp only at hs ⊢
  refine isTrue_plain (ha.use I R (bind_l hs) (fun d u s1 v H1 q I1 r1 e1 b1 p1 => ?_) fun e s1 q => q.same fun x z => bind_x z) (he _)
  have hd := bind_r hs q
  refine wpAny_mono (tru_ok (X := X.wish fun _ _ => False) pins s1 σ H1 v u (fun k H2 => truthD d = .ok k ∧ H2 = H1) (I1.wish _) r1 ?_) (fun k s2 ⟨H2, I2, q2, e2⟩ => ⟨H2, by rw [q, Res.bind_ok]; exact q2, I2.unwish, by rw [e2]; exact e1⟩) fun _ _ z => z.elim
  cases d with
  | non => rw [Rep] at p1; subst p1; exact ⟨false, rfl, rfl, rfl⟩
  | bl b => rw [Rep] at p1; subst p1; exact ⟨b, rfl, rfl, rfl⟩
  | int i => rw [Rep] at p1; subst p1; exact ⟨_, rfl, rfl, rfl⟩
  | str x =>
    rw [Rep] at p1; subst p1
    by_cases hz : x.length ≤ sizeLine
    · exact ⟨_, ⟨hz, rfl⟩, by simp only [truthD, if_pos hz], rfl⟩
    · simp only [truthD, if_neg hz] at hd; exact (hd rfl).elim
  | tup ds =>
    rw [Rep] at p1
    obtain ⟨b, xs, rfl, w1, w2⟩ := p1
    exact ⟨!ds.isEmpty, .inr (.inl ⟨xs, w1, by rw [w2.isEmpty]⟩), rfl, rfl⟩
  | lst ds =>
    rw [Rep] at p1
    obtain ⟨b, xs, rfl, w1, w2⟩ := p1
    exact ⟨!ds.isEmpty, .inl ⟨xs, w1, by rw [w2.isEmpty]⟩, rfl, rfl⟩
  | exc c => exact (hd rfl).elim
theorem ptd_not (ha : PTD X a ta) : PTD X (.UnaryOp .Not a pos) (fun δ => (ta δ).bind fun c => .ok (!c)) := by
  intro pins s σ G H δ I R hs
  try dsimp only at hs ⊢
  exact isTrue_not (ha.use I R (bind_l hs) (fun d s1 H1 q I1 e1 b1 => ⟨H1, by rw [q]; rfl, I1, e1⟩) fun e s1 q => q.same fun x z => bind_x z)
noncomputable def andT (ta tb : DS → Res Bool) : DS → Res Bool := fun δ => (ta δ).bind fun c => if c = true then tb δ else .ok false
noncomputable def orT (ta tb : DS → Res Bool) : DS → Res Bool := fun δ => (ta δ).bind fun c => if c = true then .ok true else tb δ
theorem pwd_and1 (ha : PTD X a ta) : PWD X (.BoolOp .And [a] pos) ta := by
  intro wh pins s σ G H δ I R hs
  try dsimp only at hs ⊢
  refine isTrue_and (ha.use I R hs (fun c s1 H1 q I1 e1 b1 => ?_) fun e s1 q => q)
  cases c with
  | true => exact isTrue_and_nil ⟨H1, q, I1, e1⟩
  | false => exact ⟨H1, q, I1, e1⟩
theorem pwd_or1 (ha : PTD X a ta) : PWD X (.BoolOp .Or [a] pos) ta := by
  intro wh pins s σ G H δ I R hs
  try dsimp only at hs ⊢
  refine isTrue_or (ha.use I R hs (fun c s1 H1 q I1 e1 b1 => ?_) fun e s1 q => q)
  cases c with
  | false => exact isTrue_or_nil ⟨H1, q, I1, e1⟩
  | true => exact ⟨H1, q, I1, e1⟩
theorem pwd_and (ha : PTD X a ta) (hb : PWD X (.BoolOp .And (b :: rest) pos) tb) : PWD X (.BoolOp .And (a :: b :: rest) pos) (andT ta tb) := by
  intro wh pins s σ G H δ I R hs
  try dsimp only at hs ⊢
  have hs' : (ta δ).bind (fun c => if c = true then tb δ else .ok false) ≠ .stuck := hs
  refine isTrue_and (ha.use I R (bind_l hs') (fun c s1 H1 q I1 e1 b1 => ?_) fun e s1 q => q.same fun x z => bind_x z)
  have hc := bind_r hs' q
  have ev : andT ta tb δ = if c = true then tb δ else .ok false := by unfold andT; rw [q]; rfl
  cases c with
  | false => exact ⟨H1, ev, I1, e1⟩
  | true =>
    rw [if_pos rfl] at ev hc
    exact hb.use wh I1 (R.mono e1) hc (fun d s2 H2 q2 I2 e2 b2 => ⟨H2, ev.trans q2, I2, e1.trans e2⟩) fun e s2 q2 => q2.back e1 b1 fun x z => ev.trans z
theorem pwd_or (ha : PTD X a ta) (hb : PWD X (.BoolOp .Or (b :: rest) pos) tb) : PWD X (.BoolOp .Or (a :: b :: rest) pos) (orT ta tb) := by
  intro wh pins s σ G H δ I R hs
  try dsimp only at hs ⊢
  have hs' : (ta δ).bind (fun c => if c = true then .ok true else tb δ) ≠ .stuck := hs
  refine isTrue_or (ha.use I R (bind_l hs') (fun c s1 H1 q I1 e1 b1 => ?_) fun e s1 q => q.same fun x z => bind_x z)
  have hc := bind_r hs' q
  have ev : orT ta tb δ = if c = true then .ok true else tb δ := by unfold orT; rw [q]; rfl
  cases c with
  | true => exact ⟨H1, ev, I1, e1⟩
  | false =>
    rw [if_neg Bool.false_ne_true] at ev hc
    exact hb.use wh I1 (R.mono e1) hc (fun d s2 H2 q2 I2 e2 b2 => ⟨H2, ev.trans q2, I2, e1.trans e2⟩) fun e s2 q2 => q2.back e1 b1 fun x z => ev.trans z
noncomputable def orV (fa fb : DS → Res D) : DS → Res D := fun δ => (fa δ).bind fun x => (boolD x).bind fun c => if c = true then .ok (.bl true) else fb δ
theorem pd_one {op} (h : PD X a fa) : PD X (.BoolOp op [a] pos) fa := fun pins s σ G H δ I R hs => BoolOp_one (h pins s σ G H δ I R hs)
theorem pd_or {fb : DS → Res D} (ha : PD X a fa) (hb : PD X (.BoolOp .Or (b :: rest) pos) fb) : PD X (.BoolOp .Or (a :: b :: rest) pos) (orV fa fb) := by
  intro pins s σ G H δ I R hs
  try dsimp only at hs ⊢
  have hs' : (fa δ).bind (fun x => (boolD x).bind fun c => if c = true then .ok (.bl true) else fb δ) ≠ .stuck := hs
  refine BoolOp_or (ha.use I R (bind_l hs') (fun d u s1 v H1 q I1 r1 e1 b1 p1 => ?_) fun e s1 q => q.same fun x z => bind_x z)
  have h2 := bind_r hs' q
  obtain ⟨k, rfl⟩ := boolD_of (bind_l h2)
  rw [Rep] at p1
  subst p1
  cases r1
  have ev : orV fa fb δ = if k = true then .ok (.bl true) else fb δ := by unfold orV; rw [q]; rfl
  refine wpAny_truthy_bool ?_
  cases k with
  | true => exact ⟨_, .bl true, H1, ev, I1, rfl, e1, by rw [Rep]⟩
  | false =>
    rw [if_neg Bool.false_ne_true] at ev
    exact hb.use I1 (R.mono e1) (fun z => hs (ev.trans z)) (fun d2 u2 s2 v2 H2 q2 I2 r2 e2 b2 p2 => ⟨d2, v2, H2, ev.trans q2, I2, r2, e1.trans e2, p2⟩) fun e s2 q2 => q2.back e1 b1 fun x z => ev.trans z
noncomputable def ifD (tc : DS → Res Bool) (fa fb : DS → Res D) : DS → Res D := fun δ => (tc δ).bind fun c => if c = true then fa δ else fb δ
theorem pd_ifExp {c : Expr} {tc : DS → Res Bool} {fb : DS → Res D} (hc : PTD X c tc) (ha : PD X a fa) (hb : PD X b fb) : PD X (.IfExp c a b pos) (ifD tc fa fb) := by
  intro pins s σ G H δ I R hs
  try dsimp only at hs ⊢
  have hs' : (tc δ).bind (fun c => if c = true then fa δ else fb δ) ≠ .stuck := hs
  refine wpAny_IfExp (hc.use I R (bind_l hs') (fun k s1 H1 q I1 e1 b1 => ?_) fun e s1 q => q.same fun x z => bind_x z)
  have ev : ifD tc fa fb δ = if k = true then fa δ else fb δ := by unfold ifD; rw [q]; rfl
  cases k with
  | true =>
    rw [if_pos rfl] at ev
    exact ha.use I1 (R.mono e1) (fun z => hs (ev.trans z)) (fun d2 u2 s2 v2 H2 q2 I2 r2 e2 b2 p2 => ⟨d2, v2, H2, ev.trans q2, I2, r2, e1.trans e2, p2⟩) fun e s2 q2 => q2.back e1 b1 fun x z => ev.trans z
  | false =>
    rw [if_neg Bool.false_ne_true] at ev
    exact hb.use I1 (R.mono e1) (fun z => hs (ev.trans z)) (fun d2 u2 s2 v2 H2 q2 I2 r2 e2 b2 p2 => ⟨d2, v2, H2, ev.trans q2, I2, r2, e1.trans e2, p2⟩) fun e s2 q2 => q2.back e1 b1 fun x z => ev.trans z
theorem pd_un {op : UnaryOp} {g : D → Res D} (ho : ∀ (E : Value → Shared → Prop) (pins : List (Addr × Obj)) (s : Shared) (σ : St) (H : Hp) (x : V) (v : Value) (d r : D), Inv X pins σ H s → RelV x v → Rep X.K H d x → g d = .ok r → wpAny (model X.prog X.w) X.A (unaryOp op v) (EPost X pins σ H (.ok r)) E s)
    (hg : ∀ x, NoErr (g x)) (ha : PD X a fa) : PD X (.UnaryOp op a pos) (fun δ => (fa δ).bind g) := by
  intro pins s σ G H δ I R hs
  try dsimp only at hs ⊢
  refine UnaryOp_ (ha.use I R (bind_l hs) (fun d u s1 v H1 q I1 r1 e1 b1 p1 => ?_) fun e s1 q => q.same fun x z => bind_x z)
  have h2 := bind_r hs q
  cases qg : g d with
  | stuck => exact (h2 qg).elim
  | err z => exact (hg d z qg).elim
  | ok r => exact thn (ho _ pins s1 σ H1 v u d r I1 r1 p1 qg) fun w s2 p => p.from e1 (by rw [q, Res.bind_ok, qg])
end
end DL
set_option Elab.async false
set_option linter.all false
set_option maxRecDepth 100000
namespace DL
open PySem PySem.Spec PyProof.Rows L2
noncomputable def intBits' (i : Int) : Nat := Builtin.Int.intBits i
noncomputable def addD : D → D → Res D
  | .int i, .int j => .ok (.int (i + j))
  | .str x, .str y => if x.length + y.length ≤ sizeLine then .ok (.str (x ++ y)) else .stuck
  | .tup xs, .tup ys => if xs.length + ys.length ≤ sizeLine then .ok (.tup (xs ++ ys)) else .stuck
  | .lst xs, .lst ys => if xs.length + ys.length ≤ sizeLine then .ok (.lst (xs ++ ys)) else .stuck
  | _, _ => .stuck
noncomputable def subD : D → D → Res D
  | .int i, .int j => .ok (.int (i - j))
  | _, _ => .stuck
noncomputable def mulD : D → D → Res D
  | .int i, .int j => if (intBits' i ≤ 2 ^ 20 ∧ intBits' j ≤ 2 ^ 20) ∨ intBits' i ≤ 64 ∨ intBits' j ≤ 64 then .ok (.int (i * j)) else .stuck
  | _, _ => .stuck
noncomputable def fdivD : D → D → Res D
  | .int i, .int j => if j ≠ 0 ∧ Builtin.divisionGoesByPylong i j = false then .ok (.int (Int.fdiv i j)) else .stuck
  | _, _ => .stuck
noncomputable def modD : D → D → Res D
  | .int i, .int j => if j ≠ 0 then .ok (.int (Int.fmod i j)) else .stuck
  | _, _ => .stuck
noncomputable def cmpD (p : Int → Int → Bool) : D → D → Res D
  | .int i, .int j => .ok (.bl (p i j))
  | _, _ => .stuck
theorem noErr_ite {α : Type} {c : Prop} [Decidable c] {r r' : Res α} (h : NoErr r) (h' : NoErr r') : NoErr (if c then r else r') := by
  intro x; by_cases hc : c
  · rw [if_pos hc]; exact h x
  · rw [if_neg hc]; exact h' x
theorem noErr_ok {α : Type} {a : α} : NoErr (Res.ok a) := fun _ h => nomatch h
theorem noErr_stuck {α : Type} : NoErr (Res.stuck : Res α) := fun _ h => nomatch h
theorem ne_add (x y : D) : NoErr (addD x y) := by cases x <;> cases y <;> first | exact noErr_stuck | exact noErr_ok | exact noErr_ite noErr_ok noErr_stuck
theorem ne_mul (x y : D) : NoErr (mulD x y) := by cases x <;> cases y <;> first | exact noErr_stuck | exact noErr_ok | exact noErr_ite noErr_ok noErr_stuck
theorem ne_fdiv (x y : D) : NoErr (fdivD x y) := by cases x <;> cases y <;> first | exact noErr_stuck | exact noErr_ok | exact noErr_ite noErr_ok noErr_stuck
theorem ne_mod (x y : D) : NoErr (modD x y) := by cases x <;> cases y <;> first | exact noErr_stuck | exact noErr_ok | exact noErr_ite noErr_ok noErr_stuck
theorem ne_cmp (p : Int → Int → Bool) (x y : D) : NoErr (cmpD p x y) := by cases x <;> cases y <;> first | exact noErr_stuck | exact noErr_ok | exact noErr_ite noErr_ok noErr_stuck
section
variable {X : Cx} {a b : Expr} {fa fb : DS → Res D} {pos : Pos}
theorem repI {K : PySem.W.Frag} {H : Hp} {i : Int} {v : V} (h : Rep K H (.int i) v) : v = .int i := by rw [Rep] at h; exact h
theorem repS {K : PySem.W.Frag} {H : Hp} {i : Str} {v : V} (h : Rep K H (.str i) v) : v = .str i := by rw [Rep] at h; exact h
theorem repB {K : PySem.W.Frag} {H : Hp} {i : Bool} {v : V} (h : Rep K H (.bl i) v) : v = .bl i := by rw [Rep] at h; exact h
theorem repT {K : PySem.W.Frag} {H : Hp} {ds : List D} {v : V} (h : Rep K H (.tup ds) v) : ∃ a xs, v = .ref a ∧ SqT K H a xs ∧ Reps K H ds xs := by rw [Rep] at h; exact h
theorem repL {K : PySem.W.Frag} {H : Hp} {ds : List D} {v : V} (h : Rep K H (.lst ds) v) : ∃ a xs, v = .ref a ∧ SqL K H a xs ∧ Reps K H ds xs := by rw [Rep] at h; exact h
theorem mkI {K : PySem.W.Frag} {H : Hp} {i : Int} : Rep K H (.int i) (.int i) := by rw [Rep]
theorem mkS {K : PySem.W.Frag} {H : Hp} {i : Str} : Rep K H (.str i) (.str i) := by rw [Rep]
theorem mkB {K : PySem.W.Frag} {H : Hp} {i : Bool} : Rep K H (.bl i) (.bl i) := by rw [Rep]
theorem mkN {K : PySem.W.Frag} {H : Hp} : Rep K H .non .non := by rw [Rep]
theorem mkT {K : PySem.W.Frag} {H : Hp} {a : Addr} {xs : List V} {ds : List D} (h : SqT K H a xs) (r : Reps K H ds xs) : Rep K H (.tup ds) (.ref a) := by rw [Rep]; exact ⟨a, xs, rfl, h, r⟩
theorem mkL {K : PySem.W.Frag} {H : Hp} {a : Addr} {xs : List V} {ds : List D} (h : SqL K H a xs) (r : Reps K H ds xs) : Rep K H (.lst ds) (.ref a) := by rw [Rep]; exact ⟨a, xs, rfl, h, r⟩
theorem same_upd {H : Hp} {p : Addr} (h : H p = none) (o : HO) : Same H (upd H p o) := fun b u q => by rw [upd_ne (ne_of_none q h)]; exact q
theorem opI_d {f : Value → Value → Sem Value} {C : Int → Int → Prop} [∀ i j, Decidable (C i j)] {h : Int → Int → D} {k : Int → Int → V} {g : D → D → Res D} (ho : ∀ E, OpR (X.wish E) f (rI C k)) (hk : ∀ H i j, Rep X.K H (h i j) (k i j))
    (hg : ∀ x y d, g x y = .ok d → ∃ i j, x = .int i ∧ y = .int j ∧ C i j ∧ d = h i j) : OpD X f g :=
  .of ho fun H x y a b d Q p1 p2 e q => by
    obtain ⟨i, j, rfl, rfl, c, rfl⟩ := hg a b d e
    exact ⟨i, j, repI p1, repI p2, c, q _ H (Same.refl H) (hk H i j)⟩
theorem opI0_d {f : Value → Value → Sem Value} {h : Int → Int → D} {k : Int → Int → V} {g : D → D → Res D} (ho : ∀ E, OpR (X.wish E) f (rI0 k)) (hk : ∀ H i j, Rep X.K H (h i j) (k i j))
    (hg : ∀ x y d, g x y = .ok d → ∃ i j, x = .int i ∧ y = .int j ∧ d = h i j) : OpD X f g :=
  .of ho fun H x y a b d Q p1 p2 e q => by
    obtain ⟨i, j, rfl, rfl, rfl⟩ := hg a b d e
    exact ⟨i, j, repI p1, repI p2, q _ H (Same.refl H) (hk H i j)⟩
theorem od_cmp {p : Int → Int → Bool} {op : CmpOp} (ho : ∀ E, OpR (X.wish E) (compareOp op) (rI0 fun i j => .bl (p i j))) : OpD X (compareOp op) (cmpD p) := opI0_d ho (fun _ _ _ => mkB) fun x y d e => by
  cases x <;> cases y <;> first | (simp [cmpD] at e; done) | (simp only [cmpD, Res.ok.injEq] at e; exact ⟨_, _, rfl, rfl, e.symm⟩)
theorem od_lt : OpD X (compareOp .Lt) (cmpD fun i j => decide (i < j)) := od_cmp fun _ => op_lt
theorem od_gt : OpD X (compareOp .Gt) (cmpD fun i j => decide (j < i)) := od_cmp fun _ => op_gt
theorem op_mulB : OpR X (binaryOp .Mult) (rI (fun i j => (intBits' i ≤ 2 ^ 20 ∧ intBits' j ≤ 2 ^ 20) ∨ intBits' i ≤ 64 ∨ intBits' j ≤ 64) fun i j => .int (i * j)) := opI fun _ _ _ _ _ _ _ hc q => mul_int q (by
  rcases hc with hc | hc | hc
  · exact PySem.IntMulOk.of_bits hc.1 hc.2
  · exact PySem.IntMulOk.of_left hc
  · exact PySem.IntMulOk.of_right hc)
theorem od_mul : OpD X (binaryOp .Mult) mulD := opI_d (h := fun i j => .int (i * j)) (fun _ => op_mulB) (fun _ _ _ => mkI) fun x y d e => by
  cases x <;> cases y <;> first | (simp [mulD] at e; done) | skip
  rename_i i j
  simp only [mulD] at e
  split at e
  · rename_i c; cases e; exact ⟨_, _, rfl, rfl, c, rfl⟩
  · cases e
theorem op_fdivB : OpR X (binaryOp .FloorDiv) (rI (fun i j => j ≠ 0 ∧ Builtin.divisionGoesByPylong i j = false) fun i j => .int (i.fdiv j)) := opI fun _ _ _ _ _ _ _ hc q => floordiv_int hc.1 q (.inl hc.2)
theorem od_fdiv : OpD X (binaryOp .FloorDiv) fdivD := opI_d (h := fun i j => .int (i.fdiv j)) (fun _ => op_fdivB) (fun _ _ _ => mkI) fun x y d e => by
  cases x <;> cases y <;> first | (simp [fdivD] at e; done) | skip
  rename_i i j
  simp only [fdivD] at e
  split at e
  · rename_i c; cases e; exact ⟨_, _, rfl, rfl, c, rfl⟩
  · cases e
theorem od_mod : OpD X (binaryOp .Mod) modD := opI_d (h := fun i j => .int (i.fmod j)) (fun _ => op_modN) (fun _ _ _ => mkI) fun x y d e => by
  cases x <;> cases y <;> first | (simp [modD] at e; done) | skip
  rename_i i j
  simp only [modD] at e
  split at e
  · rename_i c; cases e; exact ⟨_, _, rfl, rfl, c, rfl⟩
  · cases e
theorem op_catT' (E : Value → Shared → Prop) : OpR (X.wish E) (binaryOp .Add) (rCatT X.K) := op_catT
noncomputable def rCatN (K : PySem.W.Frag) : R2 := fun x y H Q => ∃ a b ys, x = .ref a ∧ y = .ref b ∧ SqT K H a [] ∧ SqT K H b ys ∧ Q (.ref b) H
theorem op_catN : OpR X (binaryOp .Add) (rCatN X.K) := by
  intro pins s σ H x y v u Q I rx ry h
  obtain ⟨a, b, ys, rfl, rfl, h1, h2, q⟩ := h
  cases rx
  cases ry
  obtain ⟨its, r, ht, _⟩ := I.tuple h1
  obtain ⟨its2, r2, ht2, _⟩ := I.tuple h2
  cases r
  obtain ⟨⟨cls, dd, data, sl⟩, ho, hc, n, hd⟩ := id ht
  obtain ⟨⟨cls2, dd2, data2, sl2⟩, ho2, hc2, n2, hd2⟩ := id ht2
  simp only at hc hd hc2 hd2
  subst hc hd hc2 hd2
  exact concat_meets ⟨_, ho, rfl⟩ ⟨_, ho2, rfl⟩ noFill_tuple_add seq_tuple_add PySem.F.slot_tuple_add PySem.F.entry_tuple_add (PySem.F.args_tuple_add_2 _ _) (tuple_addW0 a b _ its2.toArray n n2 dd dd2 sl sl2 rfl) ⟨ho, ho2, .ref b, H, I, rfl, q⟩
theorem op_catN' (E : Value → Shared → Prop) : OpR (X.wish E) (binaryOp .Add) (rCatN X.K) := op_catN
noncomputable def rCatL (K : PySem.W.Frag) : R2 := fun x y H Q => ∃ a b xs ys, x = .ref a ∧ y = .ref b ∧ SqL K H a xs ∧ SqL K H b ys ∧ xs.length + ys.length ≤ sizeLine ∧ ∀ p, H p = none → Q (.ref p) (upd H p (.lst (xs ++ ys)))
theorem op_catL : OpR X (binaryOp .Add) (rCatL X.K) := by
  intro pins s σ H x y v u Q I rx ry h
  obtain ⟨a, b, xs, ys, rfl, rfl, h1, h2, hz, q⟩ := h
  cases rx
  cases ry
  obtain ⟨its, r, ⟨⟨cls, dd, data, sl⟩, n, ho, hc, hdd, hd⟩, _⟩ := I.list h1
  obtain ⟨its2, r2, ⟨⟨cls2, dd2, data2, sl2⟩, n2, ho2, hc2, hdd2, hd2⟩, _⟩ := I.list h2
  simp only at hc hd hc2 hd2
  subst hc hd hc2 hd2
  have l1 := r.length
  have l2 := r2.length
  refine concat_meets ⟨_, ho, rfl⟩ ⟨_, ho2, rfl⟩ noFill_list_add seq_list_add PySem.F.slot_list_add PySem.F.entry_list_add (PySem.F.args_list_add_2 _ _) (list_addW a b its.toArray its2.toArray n n2 dd dd2 sl sl2 (by simp only [List.size_toArray]; omega)) ⟨ho, ho2, ?_⟩
  have ea : its.toArray ++ its2.toArray = (its ++ its2).toArray := by simp
  rw [ea]
  refine ⟨.ref s.heap.objs.size, _, I.laid (t' := s.toks) (o := .lst (xs ++ ys)) (fun b ob q => Heap.get?_push_of_some _ q) (Nat.le_refl _) ?_, rfl, q _ (I.hok.fresh (Nat.le_refl _))⟩
  exact ⟨by rw [List.length_append]; omega, its ++ its2, 0, r.append r2, Heap.get?_push_size _ rfl⟩
theorem op_catL' (E : Value → Shared → Prop) : OpR (X.wish E) (binaryOp .Add) (rCatL X.K) := op_catL
theorem od_add : OpD X (binaryOp .Add) addD := .of (fun E => op_add.or (op_add_str.or ((op_catT' E).or ((op_catL' E).or (op_catN' E))))) fun H x y a b d Q p1 p2 e q => by
  cases a <;> cases b <;> first | (simp [addD] at e; done) | skip
  · rename_i i j
    simp only [addD, Res.ok.injEq] at e
    subst e
    exact .inl ⟨i, j, repI p1, repI p2, q _ H (Same.refl H) mkI⟩
  · rename_i i j
    simp only [addD] at e
    split at e
    · rename_i c; cases e; exact .inr (.inl ⟨i, j, repS p1, repS p2, c, q _ H (Same.refl H) mkS⟩)
    · cases e
  · rename_i xs ys
    simp only [addD] at e
    split at e
    · rename_i c
      cases e
      obtain ⟨p, us, rfl, s1, t1⟩ := repT p1
      obtain ⟨p', ws, rfl, s2, t2⟩ := repT p2
      by_cases hn : us = []
      · subst hn
        have hx : xs = [] := by
          have := t1.length; exact List.eq_nil_of_length_eq_zero this.symm
        subst hx
        exact .inr (.inr (.inr (.inr ⟨p, p', ws, rfl, rfl, s1, s2, q _ H (Same.refl H) (mkT s2 t2)⟩)))
      refine .inr (.inr (.inl ⟨p, p', us, ws, rfl, rfl, s1, s2, hn, ?_, fun z => ?_, fun _ z hz => ?_⟩))
      · rw [t1.length, t2.length]; exact c
      · have hy : ys = [] := by
          have := t2.length; rw [z] at this; exact List.eq_nil_of_length_eq_zero this.symm
        subst hy
        exact q _ H (Same.refl H) (mkT s1 (by simpa using t1))
      · exact q _ _ (same_upd hz _) (mkT (SqT.of upd_same) ((t1.append t2).mono (same_upd hz _)))
    · cases e
  · rename_i xs ys
    simp only [addD] at e
    split at e
    · rename_i c
      cases e
      obtain ⟨p, us, rfl, s1, t1⟩ := repL p1
      obtain ⟨p', ws, rfl, s2, t2⟩ := repL p2
      exact .inr (.inr (.inr (.inl ⟨p, p', us, ws, rfl, rfl, s1, s2, by rw [t1.length, t2.length]; exact c, fun z hz => q _ _ (same_upd hz _) (mkL (SqL.of upd_same) ((t1.append t2).mono (same_upd hz _)))⟩)))
    · cases e
end
noncomputable def APost (X : Cx) (pins : List (Addr × Obj)) (σ : St) (H : Hp) (r : Res (List D)) (us : List Value) (s1 : Shared) : Prop := ∃ ds vs H1, r = .ok ds ∧ Inv X pins σ H1 s1 ∧ Vals vs us ∧ Same H H1 ∧ Reps X.K H1 ds vs
noncomputable def PAD (X : Cx) (es : List Expr) (f : DS → Res (List D)) : Prop :=
  ∀ (pos : Pos) (pins : List (Addr × Obj)) (s : Shared) (σ : St) (G H : Hp) (δ : DS), Inv X pins σ H s → RepSt X.K G H σ δ → f δ ≠ .stuck →
    wpAny (model X.prog X.w) X.A (spliced (backTo pos (starEach es X.env))) (APost X pins σ H (f δ)) (XPost X pins σ H s.heap (f δ)) s
noncomputable def consD (f : DS → Res D) (fs : DS → Res (List D)) : DS → Res (List D) := fun δ => (f δ).bind fun d => (fs δ).bind fun ds => .ok (d :: ds)
section
variable {X : Cx} {e : Expr} {es : List Expr} {f : DS → Res D} {fs : DS → Res (List D)} {pos : Pos}
theorem PAD.use {pins : List (Addr × Obj)} {s : Shared} {σ : St} {G H : Hp} {δ : DS} (h : PAD X es fs) (I : Inv X pins σ H s) (R : RepSt X.K G H σ δ) (hs : fs δ ≠ .stuck) {P : List Value → Shared → Prop} {E : Value → Shared → Prop}
    (k : ∀ ds us s1 vs H1, fs δ = .ok ds → Inv X pins σ H1 s1 → Vals vs us → Same H H1 → Back H s.heap s1.heap → Reps X.K H1 ds vs → P us s1) (kx : ∀ e s1, XPost X pins σ H s.heap (fs δ) e s1 → E e s1) :
    wpAny (model X.prog X.w) X.A (spliced (backTo pos (starEach es X.env))) P E s := by
  refine wpAny_mono (h pos (pins ++ allP X H s.heap) s σ G H δ I.all R hs) (fun us s1 ⟨ds, vs, H1, q1, q2, q3, q4, q5⟩ => k ds us s1 vs H1 q1 q2.unpinned q3 q4 (I.backTo q2) q5) fun e s1 ⟨x, a, C, H1, q1, q2, q3, q4, q5, q6⟩ => kx e s1 ⟨x, a, C, H1, q1, q2, q3.unpinned, q4, q5, q6⟩
theorem pad_nil : PAD X [] (fun _ => .ok []) := fun pos pins s σ G H δ I R _ => Calls.spliced_nil ⟨[], [], H, rfl, I, .nil, Same.refl H, Reps.nil⟩
theorem pad_cons (ha : PD X e f) (hr : PAD X es fs) (hs : starEach (e :: es) X.env = (false, eval e X.env) :: starEach es X.env := by rfl) : PAD X (e :: es) (consD f fs) := by
  intro pos pins s σ G H δ I R hn
  have hn' : (f δ).bind (fun d => (fs δ).bind fun ds => .ok (d :: ds)) ≠ .stuck := hn
  rw [hs]
  show wpAny _ _ (spliced ((false, eval e X.env) :: backTo pos (starEach es X.env))) _ _ s
  refine Calls.spliced_cons (ha.use I R (bind_l hn') (fun d u s1 v H1 q I1 r1 e1 b1 p1 => ?_) fun e s1 q => q.same fun x z => bind_x z)
  have hn2 := bind_r hn' q
  refine hr.use I1 (R.mono e1) (bind_l hn2) (fun ds us s2 vs H2 q2 I2 r2 e2 b2 p2 => ⟨d :: ds, v :: vs, H2, by unfold consD; rw [q, Res.bind_ok, q2]; rfl, I2, .cons r1 r2, e1.trans e2, Reps.cons (p1.mono e2) p2⟩) fun e s2 q2 => q2.back e1 b1 fun x z => by unfold consD; rw [q, Res.bind_ok, z]; rfl
noncomputable def tupD (r : Res (List D)) : Res D := r.bind fun ds => if ds.length ≤ sizeLine then .ok (.tup ds) else .stuck
noncomputable def lstD (r : Res (List D)) : Res D := r.bind fun ds => if ds.length ≤ sizeLine then .ok (.lst ds) else .stuck
theorem pd_tup {x1} (h : PAD X es fs) : PD X (.Tuple es x1 pos) (fun δ => tupD (fs δ)) := by
  intro pins s σ G H δ I R hs
  try dsimp only at hs ⊢
  have hs' : (fs δ).bind (fun ds => if ds.length ≤ sizeLine then Res.ok (D.tup ds) else .stuck) ≠ .stuck := hs
  refine wpAny_Tuple_spliced (h.use I R (bind_l hs') (fun ds us s1 vs H1 q I1 r1 e1 b1 p1 => ?_) fun e s1 q => q.same fun x z => bind_x z)
  have h2 := bind_r hs' q
  have hz : ds.length ≤ sizeLine := by
    by_cases c : ds.length ≤ sizeLine
    · exact c
    · rw [if_neg c] at h2; exact (h2 rfl).elim
  refine ⟨by rw [← r1.length, p1.length]; exact hz, ?_⟩
  have hf : H1 s1.heap.objs.size = none := I1.hok.fresh (Nat.le_refl _)
  refine ⟨.tup ds, .ref s1.heap.objs.size, upd H1 s1.heap.objs.size (.tup vs), by unfold tupD; rw [q, Res.bind_ok, if_pos hz], I1.laid (t' := s1.toks) (fun b u e => Heap.get?_push_of_some _ e) (Nat.le_refl _) ?_, rfl, e1.trans (same_upd hf _), mkT (SqT.of upd_same) (p1.mono (same_upd hf _))⟩
  exact ⟨by rw [p1.length]; exact hz, us, r1, ⟨_, Heap.get?_push_size _ rfl, rfl, _, rfl⟩⟩
theorem pd_lst (h : PAD X es fs) : PD X (.List es pos) (fun δ => lstD (fs δ)) := by
  intro pins s σ G H δ I R hs
  try dsimp only at hs ⊢
  have hs' : (fs δ).bind (fun ds => if ds.length ≤ sizeLine then Res.ok (D.lst ds) else .stuck) ≠ .stuck := hs
  refine wpAny_List_spliced (h.use I R (bind_l hs') (fun ds us s1 vs H1 q I1 r1 e1 b1 p1 => ?_) fun e s1 q => q.same fun x z => bind_x z)
  have h2 := bind_r hs' q
  have hz : ds.length ≤ sizeLine := by
    by_cases c : ds.length ≤ sizeLine
    · exact c
    · rw [if_neg c] at h2; exact (h2 rfl).elim
  refine ⟨by rw [← r1.length, p1.length]; exact hz, ?_⟩
  have hf : H1 s1.heap.objs.size = none := I1.hok.fresh (Nat.le_refl _)
  refine ⟨.lst ds, .ref s1.heap.objs.size, upd H1 s1.heap.objs.size (.lst vs), by unfold lstD; rw [q, Res.bind_ok, if_pos hz], I1.laid (t' := s1.toks) (fun b u e => Heap.get?_push_of_some _ e) (Nat.le_refl _) ?_, rfl, e1.trans (same_upd hf _), mkL (SqL.of upd_same) (p1.mono (same_upd hf _))⟩
  exact ⟨by rw [p1.length]; exact hz, us, 0, r1, Heap.get?_push_size _ rfl⟩
noncomputable def ixD : D → D → Res D
  | .tup ds, .int i => match atI ds i with | some d => .ok d | none => .stuck
  | .lst ds, .int i => match atI ds i with | some d => .ok d | none => .stuck
  | .str z, .int i => if z.length ≤ sizeLine then (match atI z.cps.toList i with | some c => .ok (.str ⟨#[c]⟩) | none => .stuck) else .stuck
  | _, _ => .stuck
theorem ne_ix (x y : D) : NoErr (ixD x y) := by
  cases x <;> cases y <;> first | exact noErr_stuck | skip
  · simp only [ixD]; split <;> first | (split <;> first | exact noErr_ok | exact noErr_stuck) | exact noErr_stuck
  · simp only [ixD]; split <;> first | exact noErr_ok | exact noErr_stuck
  · simp only [ixD]; split <;> first | exact noErr_ok | exact noErr_stuck
theorem atI_rep {K : PySem.W.Frag} {H : Hp} {ds : List D} {vs : List V} {i : Int} {d : D} (r : Reps K H ds vs) (e : atI ds i = some d) : ∃ v, atI vs i = some v ∧ Rep K H d v := by
  unfold atI at e ⊢
  rw [r.length]
  cases q : ixN ds.length i with
  | none => rw [q] at e; cases e
  | some j =>
    rw [q] at e
    exact r.get e
theorem pd_ix {o i : Expr} {fo fi : DS → Res D} (ho : PD X o fo) (hi : PD X i fi) (hp : PlainIx i := by intro _ _; rfl) : PD X (.Subscript o i pos) (two fo fi ixD) := by
  intro pins s σ G H δ I R hs
  try dsimp only at hs ⊢
  refine Subscript_ (two_use ho hi I R hs (fun x y v u s2 vx vy H2 q I2 r1 r2 e2 p1 p2 => ?_) fun _ _ q => q)
  have hd : ixD x y ≠ .stuck := fun z => hs (q.trans z)
  cases qg : ixD x y with
  | stuck => exact (hd qg).elim
  | err z => exact (ne_ix x y z qg).elim
  | ok d =>
    refine wpAny_mono (ix_seq (X := X.wish fun _ _ => False) o i pins s2 σ H2 vx vy v u (fun z H' => H' = H2 ∧ Rep X.K H2 d z) (I2.wish _) r1 r2 ?_ (hp _ _)) (fun w s3 q3 => ?_) fun _ _ z => z.elim
    rotate_left
    · obtain ⟨z, H3, I3, r3, e3, p3⟩ := q3
      subst e3
      exact ⟨d, z, H3, q.trans qg, I3.unwish, r3, e2, p3⟩
    cases x with
    | tup ds =>
      cases y with
      | int k =>
        simp only [ixD] at qg
        split at qg
        · rename_i d' e
          cases qg
          obtain ⟨b, xs, rfl, w1, w2⟩ := repT p1
          obtain ⟨z, z1, z2⟩ := atI_rep w2 e
          exact .inr (.inl ⟨b, xs, k, z, rfl, repI p2, w1, z1, rfl, z2⟩)
        · cases qg
      | _ => cases qg
    | lst ds =>
      cases y with
      | int k =>
        simp only [ixD] at qg
        split at qg
        · rename_i d' e
          cases qg
          obtain ⟨b, xs, rfl, w1, w2⟩ := repL p1
          obtain ⟨z, z1, z2⟩ := atI_rep w2 e
          exact .inl ⟨b, xs, k, z, rfl, repI p2, w1, z1, rfl, z2⟩
        · cases qg
      | _ => cases qg
    | str z =>
      cases y with
      | int k =>
        simp only [ixD] at qg
        split at qg
        · rename_i hz
          split at qg
          · rename_i c e
            cases qg
            exact .inr (.inr ⟨z, k, c, repS p1, repI p2, hz, e, rfl, mkS⟩)
          · cases qg
        · cases qg
      | _ => cases qg
    | _ => cases qg
end
noncomputable def CallD (X : Cx) (f : Value) (g : List D → Res D) : Prop :=
  ∀ (E : Value → Shared → Prop) (pins : List (Addr × Obj)) (s : Shared) (σ : St) (H : Hp) (xs : List V) (us : List Value) (ds : List D) (d : D), Inv X pins σ H s → Vals xs us → Reps X.K H ds xs → g ds = .ok d →
    wpAny (model X.prog X.w) X.A (call f us) (EPost X pins σ H (.ok d)) E s
theorem CallD.of {X : Cx} {f : Value} {r : List V → Hp → VK → Prop} {g : List D → Res D} (hc : ∀ E, CallR (X.wish E) f r) (h : ∀ (H : Hp) (xs : List V) (ds : List D) (d : D) (Q : VK), Reps X.K H ds xs → g ds = .ok d → (∀ z H', Same H H' → Rep X.K H' d z → Q z H') → r xs H Q) : CallD X f g :=
  fun E pins s σ H xs us ds d I r1 p e => thn (hc E pins s σ H xs us (fun z H' => Same H H' ∧ Rep X.K H' d z) (I.wish _) r1 (h H xs ds d _ p e fun z H' a b => ⟨a, b⟩)) fun w s1 ⟨z, H1, I1, r3, e1, p3⟩ => ⟨d, z, H1, rfl, I1.unwish, r3, e1, p3⟩
section
variable {X : Cx} {e : Expr} {es : List Expr} {fs : DS → Res (List D)} {x : Str} {p pos : Pos} {id T : String} {g : List D → Res D}
theorem call_body {pins : List (Addr × Obj)} {s : Shared} {σ : St} {G H : Hp} {δ : DS} {f : Value} (hc : CallD X f g) (hg : ∀ ds, NoErr (g ds)) (ha : PAD X es fs) (I : Inv X pins σ H s) (R : RepSt X.K G H σ δ) (hs : (fs δ).bind g ≠ .stuck) :
    wpAny (model X.prog X.w) X.A (spliced (backTo pos (starEach es X.env))) (fun us s1 => wpAny (model X.prog X.w) X.A (call f us) (EPost X pins σ H ((fs δ).bind g)) (XPost X pins σ H s.heap ((fs δ).bind g)) s1) (XPost X pins σ H s.heap ((fs δ).bind g)) s := by
  refine ha.use I R (bind_l hs) (fun ds us s1 vs H1 q I1 r1 e1 b1 p1 => ?_) fun e s1 q => q.same fun x z => bind_x z
  have h2 := bind_r hs q
  cases qg : g ds with
  | stuck => exact (h2 qg).elim
  | err z => exact (hg ds z qg).elim
  | ok d => exact thn (hc _ pins s1 σ H1 vs us ds d I1 r1 p1 qg) fun w s2 p => p.from e1 (by rw [q, Res.bind_ok, qg])
theorem pd_callB (hc : CallD X (.builtin id) g) (hne : ∀ ds, NoErr (g ds)) (hg : Gl X x) (hm : X.mg x = none) (hv : bootBuiltins x = some (.builtin id)) (ha : PAD X (e :: es) fs) (hn : x ≠ "__name__" := by decide) (hdb : (x == ("__debug__" : Str)) = false := by decide)
    (he : starEach (e :: es) X.env = (false, eval e X.env) :: starEach es X.env := by rfl) (hpl : (backTo pos (starEach es X.env)).any (·.1) = false := by rfl) : PD X (.Call (.Name x p) (e :: es) [] pos) (fun δ => (fs δ).bind g) := by
  intro pins s σ G H δ I R hs
  try dsimp only at hs ⊢
  refine wpAny_Call_Name_kw (ld_blt I hg hm hv ?_ hn hdb)
  exact PyProof.Rows.callWith_builtin1 (call_body hc hne ha I R hs) he hpl
theorem pd_callTy (hc : CallD X (.type T) g) (hne : ∀ ds, NoErr (g ds)) (hg : Gl X x) (hm : X.mg x = none) (hv : bootBuiltins x = some (.type T)) (ha : PAD X (e :: es) fs) (hn : x ≠ "__name__" := by decide) (hdb : (x == ("__debug__" : Str)) = false := by decide)
    (he : starEach (e :: es) X.env = (false, eval e X.env) :: starEach es X.env := by rfl) (hpl : (backTo pos (starEach es X.env)).any (·.1) = false := by rfl) : PD X (.Call (.Name x p) (e :: es) [] pos) (fun δ => (fs δ).bind g) := by
  intro pins s σ G H δ I R hs
  try dsimp only at hs ⊢
  refine wpAny_Call_Name_kw (ld_blt I hg hm hv ?_ hn hdb)
  exact PyProof.Rows.callWith_type1 (call_body hc hne ha I R hs) he hpl
end
noncomputable def absG : List D → Res D
  | [.int i] => .ok (.int (if i < 0 then -i else i))
  | _ => .stuck
theorem cd_abs {X : Cx} : CallD X (.builtin "abs") absG := .of (fun _ => call_abs) fun H xs ds d Q r e q => by
  unfold absG at e
  split at e
  · rename_i i
    cases e
    obtain ⟨v, vs, rfl, p1, t⟩ := r.cons_of
    cases t.nil_of
    exact ⟨i, by rw [repI p1], q _ H (Same.refl H) mkI⟩
  · cases e
theorem ne_abs (ds : List D) : NoErr (absG ds) := by
  unfold absG
  split
  · exact noErr_ok
  · exact noErr_stuck
noncomputable def lenG : List D → Res D
  | [.tup ds] => .ok (.int ds.length)
  | [.lst ds] => .ok (.int ds.length)
  | [.str z] => if z.length ≤ sizeLine then .ok (.int z.length) else .stuck
  | _ => .stuck
theorem ne_len (ds : List D) : NoErr (lenG ds) := by
  unfold lenG
  split <;> first | exact noErr_ok | exact noErr_stuck | exact noErr_ite noErr_ok noErr_stuck
theorem call_len' {X : Cx} (E : Value → Shared → Prop) : CallR (X.wish E) (.builtin "len") (fun xs H Q => ∃ x n, xs = [x] ∧ LenV X.K x H n ∧ Q (.int n) H) := call_len
theorem cd_len {X : Cx} : CallD X (.builtin "len") lenG := .of call_len' fun H xs ds d Q r e q => by
  unfold lenG at e
  split at e
  · rename_i es
    cases e
    obtain ⟨v, vs, rfl, p1, t⟩ := r.cons_of
    cases t.nil_of
    obtain ⟨a, ys, rfl, w1, w2⟩ := repT p1
    exact ⟨_, es.length, rfl, .inr ⟨ys, w1, w2.length.symm⟩, q _ H (Same.refl H) mkI⟩
  · rename_i es
    cases e
    obtain ⟨v, vs, rfl, p1, t⟩ := r.cons_of
    cases t.nil_of
    obtain ⟨a, ys, rfl, w1, w2⟩ := repL p1
    exact ⟨_, es.length, rfl, .inl ⟨ys, w1, w2.length.symm⟩, q _ H (Same.refl H) mkI⟩
  · rename_i z
    split at e
    · rename_i hz
      cases e
      obtain ⟨v, vs, rfl, p1, t⟩ := r.cons_of
      cases t.nil_of
      cases repS p1
      exact ⟨_, z.length, rfl, ⟨hz, rfl⟩, q _ H (Same.refl H) mkI⟩
    · cases e
  · cases e
end DL
set_option Elab.async false
set_option linter.all false
set_option maxRecDepth 100000
namespace DL
open PySem PySem.Spec PyProof.Rows L2
inductive Out where
  | stuck
  | nxt (δ : DS)
  | ret (d : D)
  | brk (δ : DS)
  | cnt (δ : DS)
  | err (x : Exn) (δ : DS)
noncomputable def Out.seq (o : Out) (g : DS → Out) : Out := match o with
  | .nxt δ => g δ
  | o => o
noncomputable def SPost (X : Cx) (pins : List (Addr × Obj)) (G H : Hp) (o : Out) (fl : Flow) (s1 : Shared) : Prop := match fl with
  | .next => ∃ δ' σ' H', o = .nxt δ' ∧ Inv X pins σ' H' s1 ∧ TK H H' ∧ RepSt X.K G H' σ' δ'
  | .brk => ∃ δ' σ' H', o = .brk δ' ∧ Inv X pins σ' H' s1 ∧ TK H H' ∧ RepSt X.K G H' σ' δ'
  | .cont => ∃ δ' σ' H', o = .cnt δ' ∧ Inv X pins σ' H' s1 ∧ TK H H' ∧ RepSt X.K G H' σ' δ'
  | .ret u => ∃ d v σ' H', o = .ret d ∧ Inv X pins σ' H' s1 ∧ TK H H' ∧ Same G H' ∧ RelV v u ∧ Rep X.K H' d v
noncomputable def SX (X : Cx) (pins : List (Addr × Obj)) (G H : Hp) (h0 : Heap) (o : Out) (e : Value) (s1 : Shared) : Prop :=
  ∃ x δ' a C σ' H', o = .err x δ' ∧ e = .ref a ∧ Inv X pins σ' H' s1 ∧ TK H H' ∧ RepSt X.K G H' σ' δ' ∧ PySem.W.nsIn X.K mainGlobals x.cls = some (some (.ref C)) ∧ Fly h0 H' s1.heap a (.ref C)
noncomputable def PSD (X : Cx) (st : Stmt) (f : DS → Out) : Prop :=
  ∀ (pins : List (Addr × Obj)) (s : Shared) (σ : St) (G H : Hp) (δ : DS), Inv X pins σ H s → RepSt X.K G H σ δ → f δ ≠ .stuck →
    wpAny (model X.prog X.w) X.A (exec st X.env) (SPost X pins G H (f δ)) (SX X pins G H s.heap (f δ)) s
noncomputable def PSDs (X : Cx) (st : List Stmt) (f : DS → Out) : Prop :=
  ∀ (pins : List (Addr × Obj)) (s : Shared) (σ : St) (G H : Hp) (δ : DS), Inv X pins σ H s → RepSt X.K G H σ δ → f δ ≠ .stuck →
    wpAny (model X.prog X.w) X.A (execs st X.env) (SPost X pins G H (f δ)) (SX X pins G H s.heap (f δ)) s
noncomputable def onD (r : Res D) (δ : DS) (k : D → Out) : Out := match r with
  | .stuck => .stuck
  | .ok d => k d
  | .err x => .err x δ
noncomputable def onT (r : Res Bool) (δ : DS) (k : Bool → Out) : Out := match r with
  | .stuck => .stuck
  | .ok d => k d
  | .err x => .err x δ
theorem onD_l {r : Res D} {δ : DS} {k : D → Out} (h : onD r δ k ≠ .stuck) : r ≠ .stuck := fun q => h (by rw [q]; rfl)
theorem onT_l {r : Res Bool} {δ : DS} {k : Bool → Out} (h : onT r δ k ≠ .stuck) : r ≠ .stuck := fun q => h (by rw [q]; rfl)
section
variable {X : Cx} {pins : List (Addr × Obj)} {G H H1 : Hp} {h0 h1 : Heap} {s1 : Shared} {fl : Flow} {o o' : Out} {e : Value}
theorem SPost.from (p : SPost X pins G H1 o fl s1) (t : TK H H1) (q : o = o') : SPost X pins G H o' fl s1 := by
  subst q
  cases fl with
  | next => obtain ⟨δ', σ', H', q1, q2, q3, q4⟩ := p; exact ⟨δ', σ', H', q1, q2, t.trans q3, q4⟩
  | brk => obtain ⟨δ', σ', H', q1, q2, q3, q4⟩ := p; exact ⟨δ', σ', H', q1, q2, t.trans q3, q4⟩
  | cont => obtain ⟨δ', σ', H', q1, q2, q3, q4⟩ := p; exact ⟨δ', σ', H', q1, q2, t.trans q3, q4⟩
  | ret u => obtain ⟨d, v, σ', H', q1, q2, q3, q4, q5, q6⟩ := p; exact ⟨d, v, σ', H', q1, q2, t.trans q3, q4, q5, q6⟩
theorem SX.from (p : SX X pins G H1 h1 o e s1) (t : TK H H1) (b : Back H h0 h1) (q : o = o') : SX X pins G H h0 o' e s1 := by
  subst q
  obtain ⟨x, δ', a, C, σ', H', q1, q2, q3, q4, q5, q6, q7⟩ := p
  exact ⟨x, δ', a, C, σ', H', q1, q2, q3, t.trans q4, q5, q6, q7.back t q4 b⟩
theorem XPost.sx {α : Type} {σ : St} {δ : DS} {r : Res α} (p : XPost X pins σ H h0 r e s1) (R : RepSt X.K G H σ δ) (q : ∀ x, r = .err x → o = .err x δ) : SX X pins G H h0 o e s1 := by
  obtain ⟨x, a, C, H1, q1, q2, q3, q4, q5, q6⟩ := p
  exact ⟨x, δ, a, C, σ, H1, q x q1, q2, q3, q4.tk, R.mono q4, q5, q6⟩
theorem use_s {t : Sem Flow} {s : Shared} {σ : St} (h : ∀ pins, Inv X pins σ H s → wpAny (model X.prog X.w) X.A t (SPost X pins G H o) (SX X pins G H s.heap o) s) (I : Inv X pins σ H s) {P : Flow → Shared → Prop} {E : Value → Shared → Prop}
    (k : ∀ fl s1, SPost X pins G H o fl s1 → Back H s.heap s1.heap → P fl s1) (kx : ∀ e s1, SX X pins G H s.heap o e s1 → E e s1) : wpAny (model X.prog X.w) X.A t P E s := by
  refine wpAny_mono (h (pins ++ allP X H s.heap) I.all) (fun fl s1 p => ?_) fun e s1 ⟨x, δ', a, C, σ', H', q1, q2, q3, q4, q5, q6, q7⟩ => kx e s1 ⟨x, δ', a, C, σ', H', q1, q2, q3.unpinned, q4, q5, q6, q7⟩
  cases fl with
  | next => obtain ⟨δ', σ', H', q1, q2, q3, q4⟩ := p; exact k .next s1 ⟨δ', σ', H', q1, q2.unpinned, q3, q4⟩ (I.backTo q2)
  | brk => obtain ⟨δ', σ', H', q1, q2, q3, q4⟩ := p; exact k .brk s1 ⟨δ', σ', H', q1, q2.unpinned, q3, q4⟩ (I.backTo q2)
  | cont => obtain ⟨δ', σ', H', q1, q2, q3, q4⟩ := p; exact k .cont s1 ⟨δ', σ', H', q1, q2.unpinned, q3, q4⟩ (I.backTo q2)
  | ret u => obtain ⟨d, v, σ', H', q1, q2, q3, q4, q5, q6⟩ := p; exact k (.ret u) s1 ⟨d, v, σ', H', q1, q2.unpinned, q3, q4, q5, q6⟩ (I.backTo q2)
end
section
variable {X : Cx} {st : Stmt} {rest : List Stmt} {f g : DS → Out} {e : Expr} {fe : DS → Res D} {pos : Pos}
theorem psd_nil : PSDs X [] Out.nxt := fun pins s σ G H δ I R _ => wpAny_execs_nil ⟨δ, σ, H, rfl, I, TK.refl H, R⟩
noncomputable def seqD (f g : DS → Out) : DS → Out := fun δ => (f δ).seq g
theorem psd_cons (h1 : PSD X st f) (h2 : PSDs X rest g) : PSDs X (st :: rest) (seqD f g) := by
  intro pins s σ G H δ I R hs
  try dsimp only at hs ⊢
  have hf : f δ ≠ .stuck := fun q => hs (by unfold seqD; rw [q]; rfl)
  refine wpAny_execs_cons (use_s (fun pins I => h1 pins s σ G H δ I R hf) I (fun fl s1 p b => ?_) fun e s1 p => ?_)
  · cases fl with
    | next =>
      obtain ⟨δ', σ', H', q1, q2, q3, q4⟩ := p
      have ev : seqD f g δ = g δ' := by unfold seqD; rw [q1]; rfl
      exact wpAny_mono (h2 pins s1 σ' G H' δ' q2 q4 fun z => hs (ev.trans z)) (fun fl s2 p2 => p2.from q3 ev.symm) fun e s2 p2 => p2.from q3 b ev.symm
    | brk => obtain ⟨δ', σ', H', q1, q2, q3, q4⟩ := p; exact ⟨δ', σ', H', by unfold seqD; rw [q1]; rfl, q2, q3, q4⟩
    | cont => obtain ⟨δ', σ', H', q1, q2, q3, q4⟩ := p; exact ⟨δ', σ', H', by unfold seqD; rw [q1]; rfl, q2, q3, q4⟩
    | ret u => obtain ⟨d, v, σ', H', q1, q2⟩ := p; exact ⟨d, v, σ', H', by unfold seqD; rw [q1]; rfl, q2⟩
  · obtain ⟨x, δ', a, C, σ', H', q1, q2⟩ := p
    exact ⟨x, δ', a, C, σ', H', by unfold seqD; rw [q1]; rfl, q2⟩
theorem psd_one (h1 : PSD X st f) : PSDs X [st] f := by
  intro pins s σ G H δ I R hs
  try dsimp only at hs ⊢
  refine wpAny_execs_cons (wpAny_mono (h1 pins s σ G H δ I R hs) (fun fl s1 p => ?_) fun e s1 p => p)
  cases fl with
  | next => exact wpAny_execs_nil p
  | brk => exact p
  | cont => exact p
  | ret u => exact p
noncomputable def NOut (X : Cx) (G H : Hp) (o : Out) (E : Ends) : Prop := match o with
  | .stuck => False
  | .nxt δ => ∀ σ' H', TK H H' → RepSt X.K G H' σ' δ → E.nx σ' H'
  | .ret d => ∀ v H', TK H H' → Same G H' → Rep X.K H' d v → E.rt v H'
  | .brk δ => ∀ σ' H', TK H H' → RepSt X.K G H' σ' δ → E.bk σ' H'
  | .cnt δ => ∀ σ' H', TK H H' → RepSt X.K G H' σ' δ → E.ct σ' H'
  | .err _ _ => False
noncomputable def sD (X : Cx) (f : DS → Out) : TS := fun E σ H => ∃ G δ, RepSt X.K G H σ δ ∧ NOut X G H (f δ) E
theorem NOut.tk {X : Cx} {G H H1 : Hp} {o : Out} {E : Ends} (h : NOut X G H o E) (t : TK H H1) : NOut X G H1 o E := by
  cases o with
  | stuck => exact h
  | nxt δ => exact fun σ' H' t' r => h σ' H' (t.trans t') r
  | ret d => exact fun v H' t' r => h v H' (t.trans t') r
  | brk δ => exact fun σ' H' t' r => h σ' H' (t.trans t') r
  | cnt δ => exact fun σ' H' t' r => h σ' H' (t.trans t') r
  | err x δ => exact h
theorem nout_sp {pins : List (Addr × Obj)} {G H : Hp} {o : Out} {E : Ends} {fl : Flow} {s1 : Shared} {W : Value → Shared → Prop} (h : NOut X G H o E) (p : SPost X pins G H o fl s1) : SP (X.wish W) pins E fl s1 := by
  cases fl with
  | next => obtain ⟨δ', σ', H', q1, q2, q3, q4⟩ := p; subst q1; exact ⟨σ', H', q2.wish _, h σ' H' q3 q4⟩
  | brk => obtain ⟨δ', σ', H', q1, q2, q3, q4⟩ := p; subst q1; exact ⟨σ', H', q2.wish _, h σ' H' q3 q4⟩
  | cont => obtain ⟨δ', σ', H', q1, q2, q3, q4⟩ := p; subst q1; exact ⟨σ', H', q2.wish _, h σ' H' q3 q4⟩
  | ret u => obtain ⟨d, v, σ', H', q1, q2, q3, q4, q5, q6⟩ := p; subst q1; exact ⟨v, σ', H', q2.wish _, q5, h v H' q3 q4 q6⟩
theorem NOut.ns {G H : Hp} {o : Out} {E : Ends} (h : NOut X G H o E) : o ≠ .stuck := fun q => by subst q; exact h
theorem NOut.sx {pins : List (Addr × Obj)} {G H : Hp} {h0 : Heap} {o : Out} {E : Ends} {e : Value} {s1 : Shared} (h : NOut X G H o E) (p : SX X pins G H h0 o e s1) : False := by
  obtain ⟨x, δ', _, _, _, _, q, _⟩ := p; subst q; exact h
theorem PSDs.ps (h : PSDs X rest f) : PSs X.nox rest (sD X f) := by
  intro pins s σ H E I ⟨G, δ, R, n⟩
  exact wpAny_mono (h pins s σ G H δ I.unwish R n.ns) (fun fl s1 p => nout_sp n p) fun e s1 p => n.sx p
theorem PSD.ps (h : PSD X st f) : PS X.nox st (sD X f) := by
  intro pins s σ H E I ⟨G, δ, R, n⟩
  exact wpAny_mono (h pins s σ G H δ I.unwish R n.ns) (fun fl s1 p => nout_sp n p) fun e s1 p => n.sx p
theorem PTD.pt {c : Expr} {tc : DS → Res Bool} (h : PTD X c tc) : PT X.nox c (fun σ H Q => ∃ G δ d, RepSt X.K G H σ δ ∧ tc δ = .ok d ∧ ∀ H', Same H H' → Q d H') := by
  intro pins s σ H Q I ⟨G, δ, d, R, q, n⟩
  refine wpAny_mono (h pins s σ G H δ I.unwish R (by rw [q]; intro z; cases z)) (fun b s1 ⟨H1, q1, I1, e1⟩ => ?_) fun e s1 p => ?_
  · rw [q] at q1; cases q1
    exact ⟨H1, I1.wish _, n H1 e1⟩
  · rw [q] at p; exact p.none
theorem PAD.pa {es : List Expr} {fs : DS → Res (List D)} (h : PAD X es fs) : PA X.nox es (fun σ H Q => ∃ G δ ds, RepSt X.K G H σ δ ∧ fs δ = .ok ds ∧ ∀ vs H', Same H H' → Reps X.K H' ds vs → Q vs H') := by
  intro pos pins s σ H Q I ⟨G, δ, d, R, q, n⟩
  refine wpAny_mono (h pos pins s σ G H δ I.unwish R (by rw [q]; intro z; cases z)) (fun b s1 ⟨d', v, H1, q1, I1, r1, e1, p1⟩ => ?_) fun e s1 p => ?_
  · rw [q] at q1; cases q1
    exact ⟨v, H1, I1.wish _, r1, n v H1 e1 p1⟩
  · rw [q] at p; exact p.none
theorem psd_of (hne : ∀ δ x δ', f δ ≠ .err x δ') (h : PS X.nox st (sD X f)) : PSD X st f := by
  intro pins s σ G H δ I R hs
  try dsimp only at hs ⊢
  let E : Ends := { nx := fun σ' H' => ∃ δ', f δ = .nxt δ' ∧ TK H H' ∧ RepSt X.K G H' σ' δ', rt := fun v H' => ∃ d, f δ = .ret d ∧ TK H H' ∧ Same G H' ∧ Rep X.K H' d v, bk := fun σ' H' => ∃ δ', f δ = .brk δ' ∧ TK H H' ∧ RepSt X.K G H' σ' δ', ct := fun σ' H' => ∃ δ', f δ = .cnt δ' ∧ TK H H' ∧ RepSt X.K G H' σ' δ' }
  have n : NOut X G H (f δ) E := by
    cases q : f δ with
    | stuck => exact (hs q).elim
    | nxt δ' => exact fun σ' H' t r => ⟨δ', q, t, r⟩
    | brk δ' => exact fun σ' H' t r => ⟨δ', q, t, r⟩
    | cnt δ' => exact fun σ' H' t r => ⟨δ', q, t, r⟩
    | ret d => exact fun v H' t g r => ⟨d, q, t, g, r⟩
    | err x δ' => exact (hne δ x δ' q).elim
  refine wpAny_mono (h pins s σ H E (I.wish _) ⟨G, δ, R, n⟩) (fun fl s1 p => ?_) fun e s1 p => p.elim
  cases fl with
  | next => obtain ⟨σ', H', q2, δ', q1, q3, q4⟩ := p; exact ⟨δ', σ', H', q1, q2.unwish, q3, q4⟩
  | brk => obtain ⟨σ', H', q2, δ', q1, q3, q4⟩ := p; exact ⟨δ', σ', H', q1, q2.unwish, q3, q4⟩
  | cont => obtain ⟨σ', H', q2, δ', q1, q3, q4⟩ := p; exact ⟨δ', σ', H', q1, q2.unwish, q3, q4⟩
  | ret u => obtain ⟨v, σ', H', q2, q5, d, q1, q3, q4, q6⟩ := p; exact ⟨d, v, σ', H', q1, q2.unwish, q3, q4, q5, q6⟩
theorem psd_ret (he : PD X e fe) : PSD X (.Return (some e) pos) (fun δ => onD (fe δ) δ Out.ret) := by
  intro pins s σ G H δ I R hs
  try dsimp only at hs ⊢
  refine wpAny_Return_some (he.use I R (onD_l hs) (fun d u s1 v H1 q I1 r1 e1 b1 p1 => ⟨d, v, σ, H1, by rw [q]; rfl, I1, e1.tk, R.same.trans e1, r1, p1⟩) fun e s1 q => q.sx R fun x z => by rw [z]; rfl)
theorem psd_if {c : Expr} {a b : List Stmt} {tc : DS → Res Bool} {fa fb : DS → Out} (hc : PTD X c tc) (ha : PSDs X a fa) (hb : PSDs X b fb) : PSD X (.If c a b pos) (fun δ => onT (tc δ) δ fun k => if k = true then fa δ else fb δ) := by
  intro pins s σ G H δ I R hs
  try dsimp only at hs ⊢
  refine wpAny_If (hc.use I R (onT_l hs) (fun k s1 H1 q I1 e1 b1 => ?_) fun e s1 q => q.sx R fun x z => by rw [z]; rfl)
  cases k with
  | true =>
    have ev : onT (tc δ) δ (fun k => if k = true then fa δ else fb δ) = fa δ := by rw [q]; rfl
    exact wpAny_mono (ha pins s1 σ G H1 δ I1 (R.mono e1) fun z => hs (ev.trans z)) (fun fl s2 p => p.from e1.tk ev.symm) fun e s2 p => p.from e1.tk b1 ev.symm
  | false =>
    have ev : onT (tc δ) δ (fun k => if k = true then fa δ else fb δ) = fb δ := by rw [q]; rfl
    exact wpAny_mono (hb pins s1 σ G H1 δ I1 (R.mono e1) fun z => hs (ev.trans z)) (fun fl s2 p => p.from e1.tk ev.symm) fun e s2 p => p.from e1.tk b1 ev.symm
noncomputable def setD (i : Nat) (fe : DS → Res D) : DS → Out := fun δ => onD (fe δ) δ fun d => .nxt (δ.set i (some (.val d)))
theorem psd_set (i : Nat) {x : Str} {pos' : Pos} (he : PD X e fe) (hN : X.N.Nodup) (hi : X.N[i]? = some x := by rfl) (hx : Loc X.env.scope x := by first | exact Or.inl rfl | exact Or.inr rfl) (hw : swapsWith e (some (.Name x pos')) pos.line X.env = pure false := by rfl)
    (hf : X.fn x = true ∨ X.env.scope.names.lookup x = some .local := by first | exact .inl rfl | exact .inr rfl | assumption) : PSD X (.Assign [.Name x pos'] e pos) (setD i fe) := by
  intro pins s σ G H δ I R hs
  try dsimp only at hs ⊢
  refine wpAny_Assign_Name (he.use I R (onD_l hs) (fun d u s1 v H1 q I1 r1 e1 b1 p1 => ?_) fun e s1 q => q.sx R fun x z => by unfold setD; rw [z]; rfl) hw
  exact store_ok I1 hN hi hx r1 (fun s2 I2 => ⟨_, _, H1, by unfold setD; rw [q]; rfl, I2, e1.tk, (R.mono e1).set i p1⟩) hf
abbrev TGD := D → DS → Option DS
noncomputable def PGD (X : Cx) (tg : Expr) (t : TGD) : Prop :=
  ∀ (E : Value → Shared → Prop) (pins : List (Addr × Obj)) (s : Shared) (σ : St) (G H : Hp) (δ δ' : DS) (d : D) (v : V) (u : Value), Inv X pins σ H s → RelV v u → RepSt X.K G H σ δ → Rep X.K H d v → t d δ = some δ' →
    wpAny (model X.prog X.w) X.A (assign tg X.env u) (fun _ s1 => ∃ σ', Inv X pins σ' H s1 ∧ RepSt X.K G H σ' δ') E s
theorem pgd_name (i : Nat) {x : Str} (hN : X.N.Nodup) (hi : X.N[i]? = some x := by rfl) (hx : Loc X.env.scope x := by first | exact Or.inl rfl | exact Or.inr rfl) (hf : X.fn x = true ∨ X.env.scope.names.lookup x = some .local := by first | exact .inl rfl | exact .inr rfl | assumption) :
    PGD X (.Name x pos) (fun d δ => some (δ.set i (some (.val d)))) := by
  intro E pins s σ G H δ δ' d v u I r R p e
  cases e
  exact thn (pg_name (X := X.wish E) hN hi hx hf pins s σ H v u (fun σ' H' => σ' = σ.set i (some v) ∧ H' = H) (I.wish _) r ⟨rfl, rfl⟩) fun _ s1 ⟨σ', H', I', e1, e2⟩ => by
    subst e1 e2
    exact ⟨_, I'.unwish, R.set i p⟩
end
noncomputable def whileD (c : DS → Res Bool) (b : DS → Out) : Nat → DS → Out
  | 0, _ => .stuck
  | n + 1, δ => match c δ with
    | .ok true => (match b δ with
      | .nxt δ' => whileD c b n δ'
      | .cnt δ' => whileD c b n δ'
      | .brk δ' => .nxt δ'
      | .ret d => .ret d
      | _ => .stuck)
    | .ok false => .nxt δ
    | _ => .stuck
theorem whileD_ne (c : DS → Res Bool) (b : DS → Out) : ∀ (n : Nat) (δ : DS) (x : Exn) (δ' : DS), whileD c b n δ ≠ .err x δ'
  | 0, _, _, _, h => by simp [whileD] at h
  | n + 1, δ, x, δ', h => by
    rw [whileD] at h
    split at h
    · split at h <;> first | exact whileD_ne c b n _ x δ' h | cases h
    · cases h
    · cases h
theorem psd_while {X : Cx} {c : Expr} {body : List Stmt} {tc : DS → Res Bool} {fb : DS → Out} {pos : Pos} (fuel : DS → Nat) (hc : PTD X c tc) (hb : PSDs X body fb) :
    PSD X (.While c body [] pos) (fun δ => whileD tc fb (fuel δ) δ) := by
  refine psd_of (fun δ => whileD_ne tc fb (fuel δ) δ) fun pins s σ H E I h => ?_
  obtain ⟨G, δ, R, h⟩ := h
  refine ps_while PassesOwn.never hc.pt hb.ps pins s σ H E I ⟨fun m σ' H' => ∃ δ', RepSt X.K G H' σ' δ' ∧ NOut X G H' (whileD tc fb m δ') E, ⟨fuel δ, δ, R, h⟩, ?_⟩
  rintro m σ1 H1 ⟨δ1, R1, h1⟩
  cases m with
  | zero => exact h1.elim
  | succ m =>
    rw [whileD] at h1
    cases q : tc δ1 with
    | stuck => simp only [q] at h1; exact h1.elim
    | err x => simp only [q] at h1; exact h1.elim
    | ok k =>
      refine ⟨G, δ1, k, R1, q, fun H2 e2 => ?_⟩
      cases k with
      | false =>
        simp only [q] at h1
        rw [if_neg Bool.false_ne_true]
        exact h1 σ1 H2 e2.tk (R1.mono e2)
      | true =>
        simp only [q] at h1
        rw [if_pos rfl]
        refine ⟨fun σ' H' => ∃ δ', RepSt X.K G H' σ' δ' ∧ NOut X G H' (whileD tc fb m δ') E, fun σ' H' z => ⟨m, Nat.lt_succ_self m, z⟩, G, δ1, R1.mono e2, ?_⟩
        cases z : fb δ1 with
        | stuck => rw [z] at h1; exact h1
        | err x δ' => rw [z] at h1; exact h1
        | nxt δ' => rw [z] at h1; exact fun σ' H' t r => ⟨δ', r, h1.tk (e2.tk.trans t)⟩
        | cnt δ' => rw [z] at h1; exact fun σ' H' t r => ⟨δ', r, h1.tk (e2.tk.trans t)⟩
        | brk δ' => rw [z] at h1; exact fun σ' H' t r => h1 σ' H' (e2.tk.trans t) r
        | ret d => rw [z] at h1; exact fun v H' t g r => h1 v H' (e2.tk.trans t) g r
noncomputable def forD (t : TGD) (b : DS → Out) : List D → DS → Out
  | [], δ => .nxt δ
  | d :: ds, δ => match t d δ with
    | none => .stuck
    | some δ1 => match b δ1 with
      | .nxt δ' => forD t b ds δ'
      | .cnt δ' => forD t b ds δ'
      | .brk δ' => .nxt δ'
      | .ret d => .ret d
      | _ => .stuck
theorem forD_ne (t : TGD) (b : DS → Out) : ∀ (ds : List D) (δ : DS) (x : Exn) (δ' : DS), forD t b ds δ ≠ .err x δ'
  | [], _, _, _, h => by simp [forD] at h
  | d :: ds, δ, x, δ', h => by
    rw [forD] at h
    split at h
    · cases h
    · split at h <;> first | exact forD_ne t b ds _ x δ' h | cases h
noncomputable def rangeD (lo : Int) : Nat → List D
  | 0 => []
  | n + 1 => .int lo :: rangeD (lo + 1) n
theorem rangeD_drop (lo : Int) (n i : Nat) (h : i < n) : (rangeD lo n).drop i = .int (lo + i) :: (rangeD lo n).drop (i + 1) := by
  induction i generalizing lo n with
  | zero =>
    cases n with
    | zero => omega
    | succ n => simp [rangeD]
  | succ i ih =>
    cases n with
    | zero => omega
    | succ n =>
      have q := ih (lo + 1) n (by omega)
      simp only [rangeD, List.drop_succ_cons]
      rw [q]
      have : lo + 1 + (i : Int) = lo + ((i + 1 : Nat) : Int) := by omega
      rw [this]
theorem rangeD_length (lo : Int) (n : Nat) : (rangeD lo n).length = n := by
  induction n generalizing lo with
  | zero => rfl
  | succ n ih => simp [rangeD, ih]
noncomputable def gD (X : Cx) (t : TGD) : TG := fun v σ H Q => ∃ G δ d δ', RepSt X.K G H σ δ ∧ Rep X.K H d v ∧ t d δ = some δ' ∧ ∀ σ', RepSt X.K G H σ' δ' → Q σ' H
noncomputable def onL (r : Res (List D)) (k : List D → Out) : Out := match r with
  | .ok d => k d
  | _ => .stuck
theorem onL_ne {r : Res (List D)} {k : List D → Out} (h : ∀ ds x δ', k ds ≠ .err x δ') (x : Exn) (δ' : DS) : onL r k ≠ .err x δ' := by
  cases r with
  | ok d => exact h d x δ'
  | stuck => intro z; cases z
  | err _ => intro z; cases z
section
variable {X : Cx} {tg iter : Expr} {body : List Stmt} {t : TGD} {fb : DS → Out} {pos : Pos} {G H : Hp} {E : Ends}
theorem PGD.pg (h : PGD X tg t) : PG X.nox tg (gD X t) := by
  intro pins s σ H v u Q I r hq
  obtain ⟨G, δ, d, δ', R, p, e, q⟩ := hq
  exact thn (h _ pins s σ G H δ δ' d v u I.unwish r R p e) fun _ s1 ⟨σ', I', R'⟩ => ⟨σ', H, I'.wish _, q σ' R'⟩
theorem for_turn {ds : List D} {d : D} {δ : DS} {v : V} {σ : St} {N : St → Hp → Prop} (R : RepSt X.K G H σ δ) (p : Rep X.K H d v) (h : NOut X G H (forD t fb (d :: ds) δ) E)
    (hN : ∀ δ' σ' H', TK H H' → RepSt X.K G H' σ' δ' → NOut X G H' (forD t fb ds δ') E → N σ' H') : gD X t v σ H fun σ2 H2 => sD X fb { E with nx := N, ct := N, bk := E.nx } σ2 H2 := by
  rw [forD] at h
  cases z : t d δ with
  | none => rw [z] at h; exact h.elim
  | some δ1 =>
    rw [z] at h
    refine ⟨G, δ, d, δ1, R, p, z, fun σ' R' => ⟨G, δ1, R', ?_⟩⟩
    simp only at h
    cases q : fb δ1 with
    | stuck => rw [q] at h; exact h
    | err x δ' => rw [q] at h; exact h
    | nxt δ' => rw [q] at h; exact fun σ2 H2 t2 r2 => hN δ' σ2 H2 t2 r2 (h.tk t2)
    | cnt δ' => rw [q] at h; exact fun σ2 H2 t2 r2 => hN δ' σ2 H2 t2 r2 (h.tk t2)
    | brk δ' => rw [q] at h; exact fun σ2 H2 t2 r2 => h σ2 H2 t2 r2
    | ret d => rw [q] at h; exact fun v H2 t2 g r2 => h v H2 t2 g r2
noncomputable def rng1 : List D → Res (List D)
  | [.int j] => if -(2 ^ 62) ≤ j ∧ j < 2 ^ 62 then .ok (rangeD 0 j.toNat) else .stuck
  | _ => .stuck
theorem range_for {lo : Int} {n : Nat} {δ : DS} {σ : St} (R : RepSt X.K G H σ δ) (h : NOut X G H (forD t fb (rangeD lo n) δ) E) :
    ∃ W : Nat → Nat → St → Hp → Prop, (∃ m, W 0 m σ H) ∧ ∀ i m σ H, W i m σ H →
      ((Itr lo n).stop i H ∧ E.nx σ H) ∨ ((Itr lo n).go i H ∧ ∃ N : St → Hp → Prop, (∀ σ' H', N σ' H' → ∃ m', m' < m ∧ W (i + 1) m' σ' H') ∧ ∀ x H', (Itr lo n).yld i H x H' → gD X t x σ H' fun σ2 H2 => sD X fb { E with nx := N, ct := N, bk := E.nx } σ2 H2) := by
  refine for_range (fun i σ' H' => ∃ δ', RepSt X.K G H' σ' δ' ∧ NOut X G H' (forD t fb ((rangeD lo n).drop i) δ') E) ⟨δ, R, by simpa using h⟩ ?_ ?_
  · rintro i σ1 H1 hi ⟨δ1, R1, h1⟩
    rw [rangeD_drop lo n i hi] at h1
    exact for_turn R1 mkI h1 fun δ' σ' H' _ r z => ⟨δ', r, z⟩
  · rintro σ1 H1 ⟨δ1, R1, h1⟩
    rw [List.drop_eq_nil_of_le (by rw [rangeD_length]; exact Nat.le_refl _)] at h1
    exact h1 σ1 H1 (TK.refl H1) R1
theorem psd_for_range1 {a : Expr} {fa : DS → Res (List D)} {p ps : Pos} (hc : X.calm = true) (hgl : Gl X "range") (hm : X.mg "range" = none) (ha : PAD X [a] fa) (hg : PGD X tg t) (hb : PSDs X body fb)
    (hs : starEach [a] X.env = [(false, eval a X.env)] := by rfl) (hf : ∀ x, foldedSetIterable (.Call (.Name "range" p) [a] [] ps) X.env x = pure x := by intro _; rfl) :
    PSD X (.For tg (.Call (.Name "range" p) [a] [] ps) body [] pos) (fun δ => onL ((fa δ).bind rng1) fun ds => forD t fb ds δ) := by
  refine psd_of (fun δ => onL_ne fun ds => forD_ne t fb ds δ) fun pins s σ H E I h => ?_
  obtain ⟨G, δ, R, h⟩ := h
  refine ps_for (X := X.nox) PassesOwn.never hc (pi_range1 (X := X.nox) hgl hm ha.pa hs) hg.pg hb.ps hf pins s σ H E I ?_
  cases q : fa δ with
  | stuck => simp only [q] at h; exact h.elim
  | err x => simp only [q] at h; exact h.elim
  | ok ds =>
    simp only [q, Res.bind_ok] at h
    refine ⟨G, δ, ds, R, q, fun vs H1 e1 p1 => ?_⟩
    unfold rng1 at h
    split at h
    · rename_i j
      obtain ⟨v, ws, rfl, w1, w2⟩ := p1.cons_of
      cases w2.nil_of
      cases repI w1
      split at h
      · rename_i hj
        exact ⟨j, rfl, hj.1, hj.2, range_for (R.mono e1) (h.tk e1.tk)⟩
      · exact h.elim
    · exact h.elim
end
end DL
set_option Elab.async false
set_option linter.all false
set_option maxRecDepth 100000
namespace DL
open PySem PySem.Spec PyProof.Rows L2
theorem dict_mapFields (o : Obj) (f) : (o.mapFields f).dict = o.dict := by
  obtain ⟨c, d, dt, sl⟩ := o; cases dt <;> rfl
noncomputable def FlyT (h0 : Heap) (H : Hp) (h : Heap) (e : Addr) (cls fl : Value) : Prop :=
  NoRec h0 e ∧ H e = none ∧ ∃ oe vs a0 T oT ts, h.get? e = some oe ∧ (oe.cls = cls ∧ oe.dict = none) ∧ oe.data = .fields vs ∧ vs[0]? = some a0 ∧ vs[1]? = some (.ref T) ∧ NoRec h0 T ∧ H T = none ∧ T ≠ e ∧ h.get? T = some oT ∧ oT.data = .fields ts ∧ ts[3]? = some fl
theorem FlyT.fly {h0 : Heap} {H : Hp} {h : Heap} {e : Addr} {cls : Value} (f : FlyT h0 H h e cls .none) : Fly h0 H h e cls := by
  obtain ⟨n, he, oe, vs, a0, T, oT, ts, q1, q2, q3, q4, q5, q6⟩ := f
  exact ⟨n, he, oe, vs, a0, q1, q2, q3, q4, .inr ⟨T, oT, ts, q5, q6⟩⟩
noncomputable def InEx (h : Heap) (e b : Addr) : Prop := b = e ∨ ∃ oe vs, h.get? e = some oe ∧ oe.data = .fields vs ∧ vs[1]? = some (.ref b)
structure KF (e : Addr) (fs : List Addr) (h h' : Heap) : Prop where
  keep : ∀ b o, h.get? b = some o → b ∉ fs → ¬ InEx h e b → h'.get? b = some o
  slot : ∀ b o, h.get? b = some o → b ∈ fs → ¬ InEx h e b → ∃ sl, h'.get? b = some { o with slots := sl }
  there : ∀ b o, h.get? b = some o → ∃ o', h'.get? b = some o'
theorem Fly.ex {h0 h : Heap} {H : Hp} {e b : Addr} {cls : Value} (f : Fly h0 H h e cls) (x : InEx h e b) : NoRec h0 b ∧ H b = none ∧ ∃ o vs, h.get? b = some o ∧ o.data = .fields vs := by
  obtain ⟨n, he, oe, vs, a0, q1, q2, q3, q4, q5⟩ := f
  rcases x with rfl | ⟨oe', vs', w1, w2, w3⟩
  · exact ⟨n, he, oe, vs, q1, q3⟩
  · rw [q1] at w1; cases w1
    rw [q3] at w2; cases w2
    rcases q5 with q5 | ⟨T, oT, ts, z1, z2, z3, z4, z5, z6, z7⟩
    · rw [q5] at w3; cases w3
    · rw [z1] at w3; cases w3
      exact ⟨z2, z3, oT, ts, z5, z6⟩
theorem FlyT.ex {h0 h : Heap} {H : Hp} {e b : Addr} {cls fl : Value} (f : FlyT h0 H h e cls fl) (x : InEx h e b) : NoRec h0 b ∧ H b = none ∧ ∃ o vs, h.get? b = some o ∧ o.data = .fields vs := by
  obtain ⟨n, he, oe, vs, a0, T, oT, ts, q1, q2, q3, q4, z1, z2, z3, z4, z5, z6, z7⟩ := f
  rcases x with rfl | ⟨oe', vs', w1, w2, w3⟩
  · exact ⟨n, he, oe, vs, q1, q3⟩
  · rw [q1] at w1; cases w1
    rw [q3] at w2; cases w2
    rw [z1] at w3; cases w3
    exact ⟨z2, z3, oT, ts, z5, z6⟩
section
variable {M : Model} {A : Around} {E : Value → Shared → Prop} {s : Shared} {base h0 : Heap} {H : Hp} {env : Env} {outer : List Env} {L e : Addr} {Q : Unit → Shared → Prop}
theorem entry_fly {oe : Obj} {vs : Array Value} {head a0 : Value} {hadNext : Bool}
    (hfr : A.frames = some (env :: outer)) (hl : s.heap.FunFrames base (env :: outer)) (hf : env.frame = some L) (hz : h0.objs.size ≤ s.heap.objs.size) (hn : ∀ b, s.heap.objs.size ≤ b → H b = none)
    (nr : NoRec h0 e) (hH : H e = none) (he : s.heap.get? e = some oe) (hdd : oe.dict = none) (hd : oe.data = .fields vs) (hsz : 1 < vs.size) (h0' : vs[0]? = some a0)
    (h : ∀ h', (∀ b o, b ≠ e → s.heap.get? b = some o → b ∉ (env :: outer).filterMap (·.frame) → h'.get? b = some o) → (∀ b o, b ≠ e → s.heap.get? b = some o → ∃ sl, h'.get? b = some { o with slots := sl }) → FlyT h0 H h' e oe.cls (rawInt L) → (∀ b, InEx h' e b → b = e ∨ s.heap.objs.size ≤ b) → Q () { s with heap := h' }) :
    wpAny M A (do let a ← frameOf env; let pl ← entryPlaceOf L hadNext; let b ← EntryCells.newEntry head a .none (rawInt L) .none pl; setField (.ref e) 1 b) Q E s := by
  have hene : e ∉ (env :: outer).filterMap (·.frame) := fun hm => by
    obtain ⟨_, o, ho, hnf⟩ := hl.mem hm
    rw [he] at ho; injection ho with ho; subst ho; exact hnf vs hd
  refine wpAny_bind (wpAny_frameOf_fun hfr hl hf fun h₁ hs₁ => ?_)
  refine wpAny_bind (wpAny_entryPlaceOf fun pl hpl => ?_)
  unfold EntryCells.newEntry newFields
  refine wpAny_bind (wpAny_newObj_type ?_ (hpl.sizeOk5 _ _ _ _ _))
  have he₁ : h₁.get? e = some oe := (hs₁.2.1 e hene).trans he
  generalize hob : ({ cls := .type "traceback", dict := none, data := .fields ([head, .ref L, .none, rawInt L, .none] ++ (if pl.isEmpty then List.replicate 6 Value.none else pl)).toArray } : Obj) = ob
  have hobd : ob.data = .fields ([head, .ref L, .none, rawInt L, .none] ++ (if pl.isEmpty then List.replicate 6 Value.none else pl)).toArray := by rw [← hob]
  have hobf : ob.isFreed = false := Obj.isFreed_of_fields hobd
  have he₂ := Heap.get?_push_of_some (h := h₁) ob he₁
  refine wpAny_setField he₂ hd hsz ?_
  have hTe : h₁.objs.size ≠ e := Nat.ne_of_gt (Heap.lt_size he₁)
  have hd₃ := Obj.data_mapFields hd (·.setIfInBounds 1 (Value.ref h₁.objs.size))
  have he₃ := Heap.get?_update_self (Obj.mapFields (·.setIfInBounds 1 (Value.ref h₁.objs.size))) he₂ (Obj.isFreed_of_fields hd₃)
  have hT₃ := (Heap.get?_update_other (h₁.push ob) (Obj.mapFields (·.setIfInBounds 1 (Value.ref h₁.objs.size))) (Ne.symm hTe)).trans (Heap.get?_push_size h₁ hobf)
  have keep : ∀ b o, b ≠ e → h₁.get? b = some o → ((h₁.push ob).update e (Obj.mapFields (·.setIfInBounds 1 (Value.ref h₁.objs.size)))).get? b = some o := fun b o hbe hb => by
    rw [Heap.get?_update_other _ _ (Ne.symm hbe)]
    exact Heap.get?_push_of_some _ hb
  refine h _ (fun b o hbe hb hbf => keep b o hbe ((hs₁.2.1 b hbf).trans hb)) (fun b o hbe hb => ?_) ⟨nr, hH, _, _, a0, h₁.objs.size, _, _, he₃, ⟨Obj.cls_mapFields _ _, by rw [dict_mapFields]; exact hdd⟩, hd₃, ?_, ?_, ?_, ?_, hTe, hT₃, hobd, ?_⟩ fun b hx => ?_
  · obtain ⟨sl, hs⟩ := hs₁.2.2 b o hb
    exact ⟨sl, keep b _ hbe hs⟩
  · rw [Array.getElem?_setIfInBounds_ne (by decide)]; exact h0'
  · simp [hsz]
  · intro o vs' ho
    have := Heap.lt_size ho
    rw [hs₁.1] at this
    exact absurd this (Nat.not_lt.mpr hz)
  · exact hn _ (by rw [hs₁.1]; exact Nat.le_refl _)
  · simp
  · rcases hx with z | ⟨oe', vs', w1, w2, w3⟩
    · exact .inl z
    · rw [he₃] at w1; cases w1
      rw [hd₃] at w2; cases w2
      have w4 : (vs.setIfInBounds 1 (Value.ref h₁.objs.size))[1]? = some (.ref h₁.objs.size) := by simp [hsz]
      rw [w4] at w3; cases w3
      exact .inr (by rw [hs₁.1]; exact Nat.le_refl _)
theorem land_fly {cls fl : Value} (f : FlyT h0 H s.heap e cls fl) (h : ∀ h', (∀ b o, s.heap.get? b = some o → ¬ InEx s.heap e b → h'.get? b = some o) → (∀ b o, s.heap.get? b = some o → ∃ o', h'.get? b = some o') → FlyT h0 H h' e cls .none → (∀ b, InEx h' e b → InEx s.heap e b) → Q () { s with heap := h' }) : wpAny M A (setFlight (.ref e) none) Q E s := by
  obtain ⟨nr, hH, oe, vs, a0, T, oT, ts, he, hc, hd, h0', h1, nT, hT, hTe, gT, dT, h3⟩ := f
  have hsz := (Array.getElem?_eq_some_iff.mp h3).1
  refine wpAny_setFlight_none he hd h1 gT dT hsz ?_
  have other : ∀ b, b ≠ T → (s.heap.update T (Obj.mapFields (·.setIfInBounds 3 Value.none))).get? b = s.heap.get? b := fun b hb => Heap.get?_update_other _ _ (Ne.symm hb)
  have hd₃ := Obj.data_mapFields dT (·.setIfInBounds 3 Value.none)
  have hT₃ := Heap.get?_update_self (Obj.mapFields (·.setIfInBounds 3 Value.none)) gT (Obj.isFreed_of_fields hd₃)
  refine h _ (fun b o hb hk => (other b ?_).trans hb) (fun b o hb => ?_) ⟨nr, hH, oe, vs, a0, T, _, _, (other e (Ne.symm hTe)).trans he, hc, hd, h0', h1, nT, hT, hTe, hT₃, hd₃, by simp [hsz]⟩ fun b hx => ?_
  · rintro rfl
    exact hk (.inr ⟨oe, vs, he, hd, h1⟩)
  · by_cases hbT : b = T
    · subst hbT; exact ⟨_, hT₃⟩
    · exact ⟨o, (other b hbT).trans hb⟩
  · rcases hx with z | ⟨oe', vs', w1, w2, w3⟩
    · exact .inl z
    · exact .inr ⟨oe', vs', (other e (Ne.symm hTe)).symm.trans w1, w2, w3⟩
theorem note_land {cls : Value} (hfr : A.frames = some (env :: outer)) (hl : s.heap.FunFrames base (env :: outer)) (hf : env.frame = some L) (hz : h0.objs.size ≤ s.heap.objs.size) (hn : ∀ b, s.heap.objs.size ≤ b → H b = none)
    (fl : Fly h0 H s.heap e cls) (h : ∀ h', KF e ((env :: outer).filterMap (·.frame)) s.heap h' → FlyT h0 H h' e cls .none → (∀ b, InEx h' e b → b = e ∨ s.heap.objs.size ≤ b) → Q () { s with heap := h' }) : wpAny M A (noteFrame (.ref e) env) (fun _ s' => wpAny M A (setFlight (.ref e) none) Q E s') E s := by
  have hex := fun {b} => fl.ex (b := b)
  obtain ⟨nr, hH, oe, vs, a0, he, ⟨hc, hdd⟩, hd, h0', q⟩ := fl
  subst hc
  unfold noteFrame
  simp only [hf]
  have fin : ∀ (hm : Heap), (∀ b o, s.heap.get? b = some o → ¬ InEx s.heap e b → hm.get? b = some o) → (∀ b o, b ≠ e → s.heap.get? b = some o → ∃ o', hm.get? b = some o') →
      ∀ h1, (∀ b o, b ≠ e → hm.get? b = some o → b ∉ (env :: outer).filterMap (·.frame) → h1.get? b = some o) → (∀ b o, b ≠ e → hm.get? b = some o → ∃ sl, h1.get? b = some { o with slots := sl }) → FlyT h0 H h1 e oe.cls (rawInt L) → (∀ b, InEx h1 e b → b = e ∨ s.heap.objs.size ≤ b) →
      wpAny M A (setFlight (.ref e) none) Q E { s with heap := h1 } := by
    intro hm k1 k2 h1 k4 k5 f1 k6
    have nx : ∀ b o, s.heap.get? b = some o → b ≠ e → ¬ InEx h1 e b := fun b o hb hbe hx => by
      rcases k6 b hx with z | z
      · exact hbe z
      · exact absurd (Heap.lt_size hb) (Nat.not_lt.mpr z)
    refine land_fly (s := { s with heap := h1 }) f1 fun h2 k7 k8 f2 k9 => h h2 ⟨fun b o hb hbf hx => ?_, fun b o hb hbf hx => ?_, fun b o hb => ?_⟩ f2 fun b hx => k6 b (k9 b hx)
    · have hbe : b ≠ e := fun z => hx (.inl z)
      exact k7 b o (k4 b o hbe (k1 b o hb hx) hbf) (nx b o hb hbe)
    · have hbe : b ≠ e := fun z => hx (.inl z)
      obtain ⟨sl, q1⟩ := k5 b o hbe (k1 b o hb hx)
      exact ⟨sl, k7 b _ q1 (nx b o hb hbe)⟩
    · by_cases hbe : b = e
      · subst hbe
        obtain ⟨_, _, oe', _, _, _, _, _, q1, _⟩ := f1
        exact k8 b oe' q1
      · obtain ⟨o', q1⟩ := k2 b o hbe hb
        obtain ⟨sl, q2⟩ := k5 b o' hbe q1
        exact k8 b _ q2
  rcases q with h1 | ⟨T, oT, ts, h1, nT, hT, hTe, gT, dT, h3⟩
  · refine wpAny_bind (wpAny_field he hd h1 ?_)
    rw [if_neg (by decide)]
    exact entry_fly hfr hl hf hz hn nr hH he hdd hd (Array.getElem?_eq_some_iff.mp h1).1 h0' fun h1 k4 k5 f1 k6 => fin s.heap (fun b o hb _ => hb) (fun b o _ hb => ⟨o, hb⟩) h1 k4 k5 f1 k6
  · refine wpAny_bind (wpAny_field he hd h1 ?_)
    rw [if_pos (show (Value.ref T != Value.none) = true from by simp)]
    refine wpAny_bind (wpAny_field gT dT h3 ?_)
    rw [if_neg (show ¬ ((Value.none == rawInt L) = true) from by simp [rawInt])]
    refine wpAny_bind (wpAny_setField gT dT (Array.getElem?_eq_some_iff.mp h3).1 ?_)
    have other : ∀ b, b ≠ T → (s.heap.update T (Obj.mapFields (·.setIfInBounds 3 Value.none))).get? b = s.heap.get? b := fun b hb => Heap.get?_update_other _ _ (Ne.symm hb)
    have noRecord : ∀ b o, s.heap.get? b = some o → (∀ vs, o.data ≠ .fields vs) → b ≠ T := fun b o hb hnf q => by
      rw [q, gT] at hb; injection hb with hb; subst hb; exact hnf ts dT
    have hsize : (s.heap.update T (Obj.mapFields (·.setIfInBounds 3 Value.none))).objs.size = s.heap.objs.size := by simp [Heap.update]
    have hl' : (s.heap.update T (Obj.mapFields (·.setIfInBounds 3 Value.none))).FunFrames base (env :: outer) := hl.of_keeps fun b o hb hnf => ⟨o, (other b (noRecord b o hb hnf)).trans hb, rfl⟩
    refine entry_fly (s := { s with heap := s.heap.update T (Obj.mapFields (·.setIfInBounds 3 Value.none)) }) hfr hl' hf (by rw [hsize]; exact hz) (fun b hb => hn b (by rw [hsize] at hb; exact hb)) nr hH ((other e (Ne.symm hTe)).trans he) hdd hd (Array.getElem?_eq_some_iff.mp h1).1 h0' fun h1' k4 k5 f1 k6 => fin _ (fun b o hb hx => (other b fun z => ?_).trans hb) (fun b o hbe hb => ?_) h1' k4 k5 f1 (by rw [hsize] at k6; exact k6)
    · subst z; exact hx (.inr ⟨oe, vs, he, hd, h1⟩)
    · by_cases hbT : b = T
      · subst hbT; exact ⟨_, Heap.get?_update_self _ gT (Obj.isFreed_of_fields (Obj.data_mapFields dT (·.setIfInBounds 3 Value.none)))⟩
      · exact ⟨o, (other b hbT).trans hb⟩
end
theorem KF.plain {e : Addr} {fs : List Addr} {h h' : Heap} (k : KF e fs h h') {b : Addr} {o : Obj} (q : h.get? b = some o) (n : ¬ InEx h e b) : ∃ sl, h'.get? b = some { o with slots := sl } := by
  by_cases hb : b ∈ fs
  · exact k.slot b o q hb n
  · exact ⟨o.slots, k.keep b o q hb n⟩
theorem _root_.L2.Inv.kf {X : Cx} {pins : List (Addr × Obj)} {σ : St} {H : Hp} {s : Shared} {h' : Heap} {t' : Nat} {a : Addr} (I : Inv X pins σ H s) (k : KF a (frs X.stack) s.heap h')
    (hr : ∀ b, InEx s.heap a b → (∀ o vs, X.s₀.heap.get? b = some o → X.H₀ b = none → b ∉ X.fs → b ∉ X.ex → o.data ≠ .fields vs) ∧ H b = none ∧ (∃ o vs, s.heap.get? b = some o ∧ o.data = .fields vs) ∧ ∀ p ∈ X.pn ++ pins, p.1 ≠ b) : Inv X pins σ H { s with heap := h', toks := t' } := by
  have old : ∀ b, b < X.s₀.heap.objs.size → b ∉ X.fs → b ∉ frs X.stack := fun b hb hf hs => by
    rcases List.mem_cons.mp (I.stkSub b hs) with z | z
    · subst z; exact absurd hb (Nat.not_lt.mpr I.ok.above)
    · exact hf z
  have insub : ∀ b, b ∈ X.fs → b ∈ frs X.stack := fun b hb => by
    rcases I.ok.stk with z | ⟨z, hf⟩
    · rw [z]; exact hb
    · rw [z]; unfold frs; rw [List.filterMap_cons, hf]; exact List.mem_cons_of_mem _ hb
  have norec : ∀ b o, s.heap.get? b = some o → (∀ vs, o.data ≠ .fields vs) → ¬ InEx s.heap a b := fun b o hb hd hx => by
    obtain ⟨_, _, ⟨o', vs, e1, e2⟩, _⟩ := hr b hx
    rw [hb] at e1; cases e1
    exact hd vs e2
  have cellk : ∀ {c : Addr} {v : Option Value}, s.heap.IsCell c v → h'.IsCell c v := fun {c v} ⟨o, e, d⟩ => by
    obtain ⟨sl, e1⟩ := k.plain e (norec c o e fun vs z => by rw [d] at z; cases z)
    exact ⟨_, e1, d⟩
  refine ⟨I.ok, I.os, I.bare, ⟨fun b o e n hb hx => ?_, fun b o e n hb hx => ?_, I.base.free, fun b o e hx => ?_, I.base.tups, I.base.frzs, I.base.tbls⟩, ?_, fun x c e => ?_, I.free, I.freeC, fun p hpp => ?_, fun b u q => ?_, I.len⟩
  · have q := I.base.keep b o e n hb hx
    refine k.keep b o q (old b (Heap.lt_size e) hb) fun z => ?_
    obtain ⟨n1, _, ⟨o', vs, e1, e2⟩, _⟩ := hr b z
    rw [q] at e1; cases e1
    exact n1 o vs e n hb hx e2
  · obtain ⟨sl, q⟩ := I.base.slot b o e n hb hx
    obtain ⟨_, o', ho, hd⟩ := I.funs.mem hb
    rw [q] at ho; cases ho
    obtain ⟨sl2, q2⟩ := k.slot b _ q (insub b hb) (norec b _ q hd)
    exact ⟨sl2, q2⟩
  · obtain ⟨o', q⟩ := I.base.there b o e hx
    exact k.there b o' q
  · obtain ⟨m, ⟨o, es, ep, ho, hd, r⟩, hl⟩ := I.loc
    obtain ⟨sl, e1⟩ := k.plain ho (norec _ o ho fun vs z => by rw [hd] at z; cases z)
    refine ⟨m, ⟨_, es, ep, e1, hd, r⟩, fun i x v h1 h2 h3 => ?_⟩
    obtain ⟨u, r1, l⟩ := hl i x v h1 h2 h3
    refine ⟨u, r1, ?_⟩
    rcases l with l | ⟨l1, c, l2, l3⟩
    · exact .inl l
    · exact .inr ⟨l1, c, l2, cellk l3⟩
  · obtain ⟨v, q⟩ := I.cell x c e
    exact ⟨v, cellk q⟩
  · obtain ⟨e, n, ne, nf, d⟩ := I.pin p hpp
    refine ⟨k.keep p.1 p.2 e (fun z => ?_) (fun z => (hr p.1 z).2.2.2 p hpp rfl), n, ne, nf, d⟩
    rcases List.mem_cons.mp (I.stkSub _ z) with w | w
    · exact ne w
    · exact nf w
  · refine (I.hok b u q).stay (fun c v hc e => ?_) (fun _ z => z) fun _ _ z => z
    have hH : H c ≠ none := by
      rcases hc with rfl | hc
      · rw [q]; intro z; cases z
      · rw [hc]; intro z; cases z
    exact k.keep c v e (fun z => hH (I.stkFree c z)) fun z => hH (hr c z).2.1
noncomputable def CX1 (P : Program) (w : World) : CXT := fun outer H s E e s' => ∃ a Cv H', e = .ref a ∧ s'.os = s.os ∧ AllBare s'.gens ∧ Un (frs outer) [] H H' s.heap s'.heap ∧ HOk P w H' s'.heap ∧ Fly s.heap H' s'.heap a Cv ∧ E Cv none H'
noncomputable def spD (K : PySem.W.Frag) (F : List D → Res D) : Sp := fun vs H Q E => ∃ ds, Reps K H ds vs ∧ match F ds with
  | .stuck => False
  | .ok d => ∀ v H', Same H H' → Rep K H' d v → Q v H'
  | .err x => ∀ C H', PySem.W.nsIn K mainGlobals x.cls = some (some (.ref C)) → Same H H' → E (.ref C) none H'
section
variable {X : Cx} {k : Nat} {f : Addr} {fd : FuncData} {ps : List Str} {F : List D → Res D} {x : Str} {p pos : Pos} {e : Expr} {es : List Expr} {fs : DS → Res (List D)}
theorem pd_call (Fn : FnOk X.prog X.w X.K X.mg X.base (CX1 X.prog X.w) k f fd ps (spD X.K F)) (hr : Room k X.A) (hg : Gl X x) (hm : X.mg x = some (.ref f)) (hk : PySem.W.keepIn X.K (.ref f) = true) (hb : Binds X.K fd ps []) (ha : PAD X (e :: es) fs)
    (hdb : (x == ("__debug__" : Str)) = false := by decide) (he : starEach (e :: es) X.env = (false, eval e X.env) :: starEach es X.env := by rfl) (hpl : (backTo pos (starEach es X.env)).any (·.1) = false := by rfl) :
    PD X (.Call (.Name x p) (e :: es) [] pos) (fun δ => (fs δ).bind F) := by
  intro pins s σ G H δ I R hs
  try dsimp only at hs ⊢
  refine wpAny_Call_Name_kw (ld_glob I hg hm ?_ hdb)
  refine PySem.W.callWith_K (h₀ := X.base) I.ok.mod.kin hk (ha.use I R (bind_l hs) (fun ds us s1 vs H1 q I1 r1 e1 b1 p1 => ⟨I1.kIn, ?_⟩) fun e s1 q => q.same fun x z => bind_x z) he hpl
  have h2 := bind_r hs q
  have ev : (fs δ).bind F = F ds := by rw [q]; rfl
  cases qg : F ds with
  | stuck => exact (h2 qg).elim
  | ok d =>
    have hsp : spD X.K F vs H1 (fun v H' => Same H1 H' ∧ Rep X.K H' d v) (fun _ _ _ => False) := ⟨ds, p1, by rw [qg]; exact fun v H' a b => ⟨a, b⟩⟩
    have hl : us.length = ps.length := by rw [← r1.length]; exact Fn.len _ _ _ _ hsp
    refine wpAny_call (codeAny_mono (Fn.run X.A X.stack s1 H1 ⟨us, []⟩ us vs _ _ hr I1.env0 (by simpa using hb s1 us I1.kIn (by simpa using hl)) r1 hsp) fun r s' hq => ?_)
    cases r with
    | error e => obtain ⟨_, _, _, _, _, _, _, _, _, z⟩ := hq; exact z.elim
    | ok fl =>
      cases fl with
      | ret u =>
        obtain ⟨v, H', I', r', e', p'⟩ := I1.after hq
        exact ⟨d, v, H', ev.trans qg, I', r', e1.trans e', p'⟩
      | next => exact False.elim hq
      | brk => exact False.elim hq
      | cont => exact False.elim hq
  | err z =>
    have hsp : spD X.K F vs H1 (fun v H' => False) (fun Cv _ H' => ∃ C, Cv = .ref C ∧ PySem.W.nsIn X.K mainGlobals z.cls = some (some (.ref C)) ∧ Same H1 H') := ⟨ds, p1, by rw [qg]; exact fun C H' a b => ⟨C, rfl, a, b⟩⟩
    have hl : us.length = ps.length := by rw [← r1.length]; exact Fn.len _ _ _ _ hsp
    refine wpAny_call (codeAny_mono (Fn.run X.A X.stack s1 H1 ⟨us, []⟩ us vs _ _ hr I1.env0 (by simpa using hb s1 us I1.kIn (by simpa using hl)) r1 hsp) fun r s' hq => ?_)
    cases r with
    | error e =>
      obtain ⟨a, Cv, H', rfl, os, bare, un, hok, fly, C, rfl, hC, sm⟩ := hq
      exact ⟨z, a, C, H', ev.trans qg, rfl, I1.call' (ch := []) os un hok bare (fun b z => absurd z (by simp)), e1.trans sm, hC, fly.back e1.tk sm.tk b1⟩
    | ok fl =>
      cases fl with
      | ret u =>
        obtain ⟨v, H', _, _, _, _, _, z⟩ := hq
        exact z.elim
      | next => exact False.elim hq
      | brk => exact False.elim hq
      | cont => exact False.elim hq
end
noncomputable def startD (n N : Nat) (ds : List D) : DS := ds.map (fun d => some (.arg d)) ++ List.replicate (N - n) none
noncomputable def outD : Out → Res D
  | .ret d => .ok d
  | .nxt _ => .ok .non
  | .err x _ => .err x
  | _ => .stuck
noncomputable def fnD (n N : Nat) (body : DS → Out) : List D → Res D := fun ds => if ds.length = n then outD (body (startD n N ds)) else .stuck
theorem rep_start {K : PySem.W.Frag} {H : Hp} {ds : List D} {vs : List V} (N : List Str) (r : Reps K H ds vs) : RepSt K H H (start N vs) (startD ds.length N.length ds) := by
  have hl := r.length
  refine ⟨Same.refl H, ?_, fun i sv e => ?_, fun i j as es v hij e1 e2 => ?_⟩
  · unfold L2.start startD
    simp [hl]
  · unfold startD at e
    by_cases hi : i < ds.length
    · rw [List.getElem?_append_left (by simpa using hi), List.getElem?_map] at e
      cases q : ds[i]? with
      | none => rw [q] at e; cases e
      | some d =>
        rw [q] at e
        simp only [Option.map_some, Option.some.injEq] at e
        subst e
        obtain ⟨v, e1, e2⟩ := r.get q
        refine ⟨v, ?_, e2⟩
        unfold L2.start
        rw [List.getElem?_append_left (by simpa [hl] using hi), List.getElem?_map, e1]
        rfl
    · rw [List.getElem?_append_right (by simpa using hi), List.getElem?_replicate] at e
      split at e <;> cases e
  · exfalso
    unfold startD at e1
    by_cases hi : i < ds.length
    · rw [List.getElem?_append_left (by simpa using hi), List.getElem?_map] at e1
      cases q : ds[i]? with
      | none => rw [q] at e1; cases e1
      | some d => rw [q] at e1; cases e1
    · rw [List.getElem?_append_right (by simpa using hi), List.getElem?_replicate] at e1
      split at e1 <;> cases e1
section
variable {P : Program} {w : World} {K : PySem.W.Frag} {mg : Str → Option Value} {base : Heap}
theorem leave_fly {N : List Str} {qual : Str} {scope : Scope} {f : Addr} {cdv : Value} {A : Around} {outer : List Env} {s : Shared} {H : Hp} {E : XK} {pins : List (Addr × Obj)} {σ' : St} {H' : Hp} {s' : Shared} {a : Addr} {Cv : Value}
    (I : Inv (cxOf (CX1 P w) P w K mg base N qual scope f cdv A outer s H E) pins σ' H' s') (fl : Fly s.heap H' s'.heap a Cv) (hE : E Cv none H') :
    (cxOf (CX1 P w) P w K mg base N qual scope f cdv A outer s H E).xe (.ref a) s' := by
  show wpAny (model P w) (A.deeper (envOfC qual scope s.heap.objs.size f cdv)) (leaving (envOfC qual scope s.heap.objs.size f cdv) (.ref a)) (fun _ s'' => CX1 P w outer H s E (.ref a) s'') _ s'
  have hz : s.heap.objs.size ≤ s'.heap.objs.size := I.sz
  have hn : ∀ b, s'.heap.objs.size ≤ b → H' b = none := fun b hb => I.hok.fresh hb
  unfold leaving
  refine wpAny_bind (note_land (base := base) I.ok.frames I.stack rfl hz hn fl fun h2 k2 f2 _ => ?_)
  have I0 : Inv (cxOf (CX1 P w) P w K mg base N qual scope f cdv A outer s H E) [] σ' H' s' := I.pins_of fun p hp => absurd hp (by simp)
  have J := I0.kf (h' := h2) (t' := s'.toks) k2 fun b hx => by
    obtain ⟨n1, n2, n3⟩ := fl.ex hx
    exact ⟨fun o vs e _ _ _ => n1 o vs e, n2, n3, fun p hp => absurd (show p ∈ ([] : List (Addr × Obj)) ++ [] from hp) (by simp)⟩
  exact ⟨a, Cv, H', rfl, I.os, I.bare, J.base, J.hok, f2.fly, hE⟩
noncomputable def tB (X : Cx) (f : DS → Out) : TS := fun D σ H => ∃ G δ, RepSt X.K G H σ δ ∧ f δ ≠ .stuck ∧ (∀ pins fl s1, SPost X pins G H (f δ) fl s1 → SP X pins D fl s1) ∧ ∀ pins s2 e s1, Inv X pins σ H s2 → SX X pins G H s2.heap (f δ) e s1 → X.xe e s1
theorem PSDs.tb {X : Cx} {st : List Stmt} {f : DS → Out} (h : PSDs X st f) : PSs X st (tB X f) := by
  intro pins s σ H D I ⟨G, δ, R, n, k1, k2⟩
  exact wpAny_mono (h pins s σ G H δ I R n) (fun fl s1 p => k1 pins fl s1 p) fun e s1 p => k2 pins s e s1 I p
theorem fun_d {x qual : Str} {st : Stmt} {f : Addr} {fd : FuncData} {N ps : List Str} {k : Nat} {body : DS → Out} (F : Fun K x qual st f fd) (S : FnScope N ps (defScope st))
    (hb : ∀ (cdv : Value) (A : Around) (outer : List Env) (s : Shared) (H : Hp) (E : XK), Room k (A.deeper (envOfC qual (defScope st) s.heap.objs.size f cdv)) → PSDs (cxOf (CX1 P w) P w K mg base N qual (defScope st) f cdv A outer s H E) (defBody st) body) :
    FnOk P w K mg base (CX1 P w) (k + 1) f fd ps (spD K (fnD ps.length N.length body)) := by
  obtain ⟨oc, od, kV, doc, pm, an, cdv, ct, osl, rfl, lk, hcd⟩ := F.ex
  refine fn_of lk hcd S (fun vs H Q E ⟨ds, r, h⟩ => ?_) fun A outer s H vs Q E hr hsp => ?_
  · rw [r.length]
    unfold fnD at h
    by_cases c : ds.length = ps.length
    · exact c
    · rw [if_neg c] at h; exact h.elim
  · obtain ⟨ds, r, h⟩ := hsp
    have c : ds.length = ps.length := by
      unfold fnD at h
      by_cases c : ds.length = ps.length
      · exact c
      · rw [if_neg c] at h; exact h.elim
    have ev : fnD ps.length N.length body ds = outD (body (startD ds.length N.length ds)) := by unfold fnD; rw [if_pos c, c]
    rw [ev] at h
    refine ⟨_, (hb cdv A outer s H E hr).tb, H, startD ds.length N.length ds, rep_start N r, fun z => ?_, fun pins fl s1 p => ?_, fun pins s2 e s1 I p => ?_⟩
    · rw [z] at h; exact h
    · cases fl with
      | next =>
        obtain ⟨δ', σ', H', q1, q2, q3, q4⟩ := p
        rw [q1] at h
        exact ⟨σ', H', q2, h .non H' q4.same mkN⟩
      | brk => obtain ⟨δ', σ', H', q1, _⟩ := p; rw [q1] at h; exact h.elim
      | cont => obtain ⟨δ', σ', H', q1, _⟩ := p; rw [q1] at h; exact h.elim
      | ret u =>
        obtain ⟨d, v, σ', H', q1, q2, q3, q4, q5, q6⟩ := p
        rw [q1] at h
        exact ⟨v, σ', H', q2, q5, h v H' q4 q6⟩
    · obtain ⟨x, δ', a, C, σ', H', q1, rfl, q3, q4, q5, q6, q7⟩ := p
      rw [q1] at h
      refine leave_fly q3 ?_ (h C H' q6 q5.same)
      refine q7.back (h0 := s.heap) (H0 := H) (H1 := H) (TK.refl H) q4 fun e n z o vs ho hd => ?_
      by_cases hf : e ∈ frs outer
      · obtain ⟨_, o', ho', hd'⟩ := I.ok.funs.mem hf
        have ho2 : s.heap.get? e = some o' := ho'
        rw [ho] at ho2
        cases ho2
        exact hd' vs hd
      · exact z o vs (I.base.keep e o ho n hf (by intro z; exact absurd z (by show e ∉ ([] : List Addr); simp))) hd
end
end DL
set_option Elab.async false
set_option linter.all false
set_option maxRecDepth 100000
namespace DL
open PySem PySem.Spec PyProof.Rows L2
theorem own_cls {K : PySem.W.Frag} {h₀ : Heap} {mg : Str → Option Value} {x : Str} {C : Addr} {bmB : List Value} {newId : String} (X : K.In h₀) (hm : mg x = some (.ref C)) (q : PySem.W.excIn K C bmB newId = true) : OwnCls x C bmB newId mg h₀ := by
  refine ⟨hm, ?_⟩
  unfold PySem.W.excIn at q
  split at q
  · rename_i dd cd sl ho
    split at q
    · rename_i C' bm k0 k1 k2 k3 n k5 hm hs
      simp only [Bool.and_eq_true, beq_iff_eq, Bool.not_eq_true'] at q
      obtain ⟨⟨⟨⟨⟨rfl, rfl⟩, hdel⟩, ht⟩, hok⟩, hni⟩ := q
      obtain ⟨nm, bs, mro, ns, qn, hd, sn, sub, ab, col, del⟩ := cd
      dsimp only at hm hdel hok hni
      subst hm hdel
      have hsl : sl = #[k0, k1, k2, k3, some (.builtin n), k5] := by
        obtain ⟨l⟩ := sl
        simp only at hs
        rw [hs]
      subst hsl
      exact ⟨bm, ns, nm, qn, bs, hd, sn, sub, ab, col, dd, k0, k1, k2, k3, k5, _, X _ _ ho, .of_isNs (PySem.W.isNs_of_in X hok), PySem.W.nsMap_none_of_in X hok hni, PySem.W.tail_of_in X ht⟩
    · cases q
  · cases q
noncomputable def raiseD (x : Str) (fs : DS → Res (List D)) : DS → Out := fun δ => match fs δ with
  | .ok _ => .err ⟨x⟩ δ
  | .err y => .err y δ
  | .stuck => .stuck
section
variable {X : Cx} {e : Expr} {es : List Expr} {fs : DS → Res (List D)} {np cpos pos : Pos} {x : Str} {C : Addr} {B newId initId : String} {bmB : List Value}
theorem psd_raise (hc : X.calm = true) (FB : ExcBaseFacts B newId initId bmB) (hx : PySem.W.nsIn X.K mainGlobals x = some (some (.ref C))) (q : PySem.W.excIn X.K C bmB newId = true) (hg : Gl X x) (hm : X.mg x = some (.ref C)) (ha : PAD X (e :: es) fs) (hsz : (e :: es).length ≤ 100)
    (hdb : (x == ("__debug__" : Str)) = false := by decide) (he : starEach (e :: es) X.env = (false, eval e X.env) :: starEach es X.env := by rfl) (hplain : (backTo cpos (starEach es X.env)).any (·.1) = false := by rfl) (hlen : ∀ δ ds, fs δ = .ok ds → ds.length ≤ sizeLine) :
    PSD X (.Raise (some (.Call (.Name x np) (e :: es) [] cpos)) none pos) (raiseD x fs) := by
  intro pins s σ G H δ I R hs
  try dsimp only at hs ⊢
  have hs' : fs δ ≠ .stuck := fun z => hs (by unfold raiseD; rw [z])
  obtain ⟨tl, N, nm, qn, bs, hdct, sn, sub, ab, col, dd, k0, k1, k2, k3, k5, mN, hC, hN, hni, T⟩ := (own_cls I.ok.mod.kin hm q).obj
  refine wpAny_Raise_call_subT (C := C) (nm := nm) (q := qn) (N := N) (bs := bs) (bm := tl) (hdct := hdct) (sn := sn) (sub := sub) (ab := ab) (col := col) (dd := dd) (k0 := k0) (k1 := k1) (k2 := k2) (k3 := k3) (k5 := k5)
    FB (mN := mN) (T.hasType FB.hasBase) (I.ok.hd hc) (by rw [he]; show (false || (backTo cpos (starEach es X.env)).any (·.1)) = false; rw [hplain]; rfl) hni (ld_glob I hg hm ⟨rfl, ?_⟩ hdb)
  have ha' := fun {P : List Value → Shared → Prop} {E : Value → Shared → Prop} k kx => PAD.use (pos := cpos) (P := P) (E := E) ha I R hs' k kx
  rw [he] at ha' ⊢
  refine Calls.evalArgs_plain (ha' (fun ds us s1 vs H1 q1 I1 r1 e1 b1 p1 => ⟨rfl, ?_, I1.bk _ _ hC, hN.keeps I1.bk, T.keeps I1.bk, fun h' a hme => ?_⟩) fun e s1 p => ?_)
  · rw [← r1.length, p1.length]; exact hlen δ ds q1
  · obtain ⟨t, ht, ht2, ht3⟩ := hme.there
    have hn : H1 a = none := by
      cases z : H1 a with
      | none => rfl
      | some u =>
        obtain ⟨ob, q⟩ := obj_some (I1.hok a u z)
        rw [hme.new] at q; cases q
    refine ⟨⟨x⟩, δ, a, C, σ, H1, by unfold raiseD; rw [q1], rfl, I1.kept (t' := s1.toks) hme.keeps, e1.tk, R.mono e1, hx, ?_⟩
    refine ⟨b1 a (e1.free hn) (fun o vs ho => by rw [hme.new] at ho; cases ho), hn, _, _, _, ht, ⟨rfl, rfl⟩, rfl, rfl, .inl rfl⟩
  · exact p.sx R fun x z => by unfold raiseD; rw [z]
end
end DL
set_option Elab.async false
set_option linter.all false
set_option maxRecDepth 100000
namespace DL
open PySem PySem.Spec PyProof.Rows L2
theorem _root_.L2.Inv.goes {X : Cx} {pins : List (Addr × Obj)} {σ : St} {H : Hp} {s : Shared} {M : Model} {A : Around} {E : Value → Shared → Prop} {Q : Unit → Shared → Prop} {i : Nat} {n : Str} {pos : Pos}
    (I : Inv X pins σ H s) (hN : X.N.Nodup) (hi : X.N[i]? = some n) (hk : X.env.scope.names.lookup n = some .local) (h : ∀ s', Inv X pins (σ.set i none) H s' → Q () s') : wpAny M A (do bindName X.env n .none; unbindBehindTheSuite X.env n pos) Q E s := by
  obtain ⟨m, hn, hl⟩ := id I.loc
  have hcls : (X.env.scope.kind == .class || (X.env.scope.kind == .module && X.env.locals != X.env.globals)) = false := by rw [I.ok.kind]; rfl
  have cne := I.cne
  refine wpAny_nameGoes_keeps hk hn hcls fun h' v hn' hs => h _ ?_
  obtain ⟨oL, _, _, hoL, _⟩ := id hn
  have tracked : HOk X.prog X.w H h' := fun b ob e => by
    refine (I.hok b ob e).stay (fun c w' hc q => (hs.2 c ?_).trans q) (fun _ q => q) fun _ _ q => q
    rintro rfl
    rcases hc with rfl | hc
    · rw [I.free] at e; cases e
    · rw [I.free] at hc; cases hc
  refine ⟨I.ok, I.os, I.bare, ⟨fun b o e n hb hx => ?_, fun b o e n hb hx => ?_, I.base.free, fun b o e hx => ?_, I.base.tups, I.base.frzs, I.base.tbls⟩, ⟨_, hn', fun j y v' e1 e2 e3 => ?_⟩, fun y c e => ?_, I.free, I.freeC, fun p hp => ?_, tracked, by simpa using I.len⟩
  · exact (hs.2 b (Nat.ne_of_lt (Nat.lt_of_lt_of_le (Heap.lt_size e) I.ok.above))).trans (I.base.keep b o e n hb hx)
  · obtain ⟨sl, e1⟩ := I.base.slot b o e n hb hx
    exact ⟨sl, (hs.2 b (Nat.ne_of_lt (Nat.lt_of_lt_of_le (Heap.lt_size e) I.ok.above))).trans e1⟩
  · obtain ⟨o', e1⟩ := I.base.there b o e hx
    exact ⟨o', (hs.2 b (Nat.ne_of_lt (Nat.lt_of_lt_of_le (Heap.lt_size e) I.ok.above))).trans e1⟩
  · by_cases hj : j = i
    · subst hj
      rw [List.getElem?_set] at e2
      split at e2
      · split at e2 <;> cases e2
      · rename_i z; exact absurd rfl z
    · rw [List.getElem?_set_ne (Ne.symm hj)] at e2
      obtain ⟨u', r', q⟩ := hl j y v' e1 e2 e3
      refine ⟨u', r', ?_⟩
      rcases q with ⟨k, e⟩ | ⟨k, c, e, z⟩
      · refine .inl ⟨k, ?_⟩
        have : y ≠ n := fun e => hj (nodup_ix hN e1 (e ▸ hi))
        simp [this, e]
      · exact .inr ⟨k, c, e, z.sameBut hs (cne y c e)⟩
  · obtain ⟨w', z⟩ := I.cell y c e
    exact ⟨w', z.sameBut hs (cne y c e)⟩
  · obtain ⟨e, n, ne, nf, d⟩ := I.pin p hp
    exact ⟨(hs.2 p.1 ne).trans e, n, ne, nf, d⟩
theorem RepSt.clear {K : PySem.W.Frag} {G H : Hp} {σ : St} {δ : DS} (R : RepSt K G H σ δ) (i : Nat) : RepSt K G H (σ.set i none) (δ.set i none) where
  same := R.same
  len := by simpa using R.len
  at_ := fun j sv e => by
    by_cases hj : i = j
    · subst hj
      rw [List.getElem?_set] at e
      split at e
      · split at e <;> cases e
      · rename_i z; exact absurd rfl z
    · rw [List.getElem?_set_ne hj] at e
      obtain ⟨u, e1, e2⟩ := R.at_ j sv e
      exact ⟨u, by rw [List.getElem?_set_ne hj]; exact e1, e2⟩
  sep := fun j k ds es u hjk e1 e2 e3 => by
    have n1 : i ≠ j := by
      rintro rfl
      rw [List.getElem?_set] at e1
      split at e1
      · split at e1 <;> cases e1
      · omega
    have n2 : i ≠ k := by
      rintro rfl
      rw [List.getElem?_set] at e2
      split at e2
      · split at e2 <;> cases e2
      · omega
    rw [List.getElem?_set_ne n1] at e1 e3
    rw [List.getElem?_set_ne n2] at e2
    rw [List.getElem?_set_ne n2]
    exact R.sep j k ds es u hjk e1 e2 e3
abbrev _root_.L2.Cx.marked (X : Cx) (a : Addr) : Cx := { X with A := X.A.mark (some (.ref a)), calm := false }
theorem _root_.L2.Inv.marked {X : Cx} {pins : List (Addr × Obj)} {σ : St} {H : Hp} {s : Shared} (I : Inv X pins σ H s) (a : Addr) : Inv (X.marked a) pins σ H s :=
  ⟨⟨I.ok.mod, I.ok.kind, I.ok.glob, I.ok.blt, I.ok.above, I.ok.inj, I.ok.has, I.ok.cab, fun z => (by cases z), I.ok.frames, I.ok.stk, I.ok.exf, I.ok.bs, I.ok.bsz, I.ok.noex, I.ok.exfs, I.ok.funs, I.ok.frf⟩, I.os, I.bare, I.base, I.loc, I.cell, I.free, I.freeC, I.pin, I.hok, I.len⟩
theorem _root_.L2.Inv.unmarked {X : Cx} {pins : List (Addr × Obj)} {σ : St} {H : Hp} {s : Shared} {a : Addr} (ok : X.Ok) (I : Inv (X.marked a) pins σ H s) : Inv X pins σ H s :=
  ⟨ok, I.os, I.bare, I.base, I.loc, I.cell, I.free, I.freeC, I.pin, I.hok, I.len⟩
theorem _root_.L2.Inv.track {X : Cx} {pins : List (Addr × Obj)} {σ : St} {H : Hp} {s : Shared} {a : Addr} {o : HO} (I : Inv X pins σ H s) (hn : H a = none) (h0 : ∀ ob, X.s₀.heap.get? a = some ob → X.H₀ a = none → a ∈ X.ex) (hl : a ≠ X.env.locals) (hc : ∀ x c, X.env.cells.lookup x = some c → c ≠ a) (hp : ∀ p ∈ X.pn ++ pins, p.1 ≠ a)
    (new : ObjOk X.prog X.w (upd H a o) s.heap a o) : Inv X pins σ (upd H a o) s := by
  refine ⟨I.ok, I.os, I.bare, ⟨I.base.keep, I.base.slot, fun b ob e n hx => ?_, I.base.there, fun b xs e => ?_, fun b ob u e => ?_, fun b ps e => ?_⟩, I.loc, I.cell, ?_, fun x c e => ?_, fun p hpp => ?_, fun b u q => ?_, I.len⟩
  · rw [upd_ne (fun z => ?_)]
    · exact I.base.free b ob e n hx
    · subst z
      exact hx (h0 ob e n)
  · rw [upd_ne (ne_of_none (I.base.tups b xs e) hn)]; exact I.base.tups b xs e
  · rw [upd_ne (ne_of_none (I.base.frzs b ob u e) hn)]; exact I.base.frzs b ob u e
  · obtain ⟨more, q⟩ := I.base.tbls b ps e
    exact ⟨more, by rw [upd_ne (ne_of_none q hn)]; exact q⟩
  · rw [upd_ne (Ne.symm hl)]; exact I.free
  · rw [upd_ne (hc x c e)]; exact I.freeC x c e
  · obtain ⟨e, n, ne, nf, d⟩ := I.pin p hpp
    exact ⟨e, by rw [upd_ne (hp p hpp)]; exact n, ne, nf, d⟩
  · by_cases hb : b = a
    · subst hb; rw [upd_same] at q; cases q; exact new
    · rw [upd_ne hb] at q
      refine (I.hok b u q).stay (fun c v _ e => e) (fun c z => ?_) fun c xs z => ?_
      · rw [upd_ne (ne_of_none z hn)]; exact z
      · rw [upd_ne (ne_of_none z hn)]; exact z
noncomputable def tryD (i : Nat) (sub : Str → Option Bool) (fb fsu : DS → Out) : DS → Out := fun δ => match fb δ with
  | .err x δ' => (match sub x.cls with
    | some true => (match fsu (δ'.set i (some (.val (.exc x.cls)))) with
      | .nxt δ2 => .nxt (δ2.set i none)
      | .ret d => .ret d
      | _ => .stuck)
    | _ => .stuck)
  | o => o
noncomputable def noObjs (h : Heap) : Heap := { h with objs := #[] }
theorem noRec_none (h : Heap) (b : Addr) : NoRec (noObjs h) b := fun o vs e => absurd (Heap.lt_size e) (Nat.not_lt_zero _)
section
variable {X : Cx} {body suite : List Stmt} {b₀ : Stmt} {fb fsu : DS → Out} {sub : Str → Option Bool} {n c : Str} {C' : Addr} {cp hpos pos : Pos}
theorem psd_try (i : Nat) (hcalm : X.calm = true) (hst : X.stack = X.env :: X.outer ∧ X.env.frame = some X.env.locals) (hN : X.N.Nodup) (hcn : Gl X c) (hcm : X.mg c = some (.ref C'))
    (hsub : ∀ x C, PySem.W.nsIn X.K mainGlobals x = some (some (.ref C)) → sub x = some true → PySem.W.exmOne X.K (.ref C) (.ref C') = some true) (hb : PSDs X body fb) (hsu : ∀ a, PSDs (X.marked a) (b₀ :: suite) fsu)
    (hi : X.N[i]? = some n := by rfl) (hk : X.env.scope.names.lookup n = some .local := by rfl) (hdb : (c == ("__debug__" : Str)) = false := by decide) :
    PSD X (.Try body [.ExceptHandler (some (.Name c cp)) (some n) (b₀ :: suite) hpos] [] [] pos) (tryD i sub fb fsu) := by
  intro pins s σ G H δ I R hs
  have hfb : fb δ ≠ .stuck := fun z => hs (by unfold tryD; rw [z])
  refine wpAny_Try_except (use_s (fun pins I => hb pins s σ G H δ I R hfb) I (fun fl s1 p b => ?_) fun e s1 p => ?_)
  · cases fl with
    | next => obtain ⟨δ', σ', H', q1, q2⟩ := p; exact wpAny_execs_nil ⟨δ', σ', H', by unfold tryD; rw [q1], q2⟩
    | brk => obtain ⟨δ', σ', H', q1, q2⟩ := p; exact ⟨δ', σ', H', by unfold tryD; rw [q1], q2⟩
    | cont => obtain ⟨δ', σ', H', q1, q2⟩ := p; exact ⟨δ', σ', H', by unfold tryD; rw [q1], q2⟩
    | ret u => obtain ⟨d, v, σ', H', q1, q2⟩ := p; exact ⟨d, v, σ', H', by unfold tryD; rw [q1], q2⟩
  · obtain ⟨x, δ', a, C, σ', H', q1, rfl, I1, tk1, R1, hC, fly⟩ := p
    have hsx : sub x.cls = some true := by
      cases z : sub x.cls with
      | none => exact (hs (by unfold tryD; rw [q1]; simp only [z])).elim
      | some k =>
        cases k with
        | true => rfl
        | false => exact (hs (by unfold tryD; rw [q1]; simp only [z])).elim
    have ev : tryD i sub fb fsu δ = (match fsu (δ'.set i (some (.val (.exc x.cls)))) with
      | .nxt δ2 => .nxt (δ2.set i none)
      | .ret d => .ret d
      | _ => .stuck) := by unfold tryD; rw [q1]; simp only [hsx]
    have hfs : fsu (δ'.set i (some (.val (.exc x.cls)))) ≠ .stuck := fun z => hs (by rw [ev, z])
    have flyE : Fly (noObjs s.heap) H' s1.heap a (.ref C) := by
      obtain ⟨_, w2, oe, vs, a0, w3, w4, w5, w6, w7⟩ := fly
      refine ⟨noRec_none _ _, w2, oe, vs, a0, w3, w4, w5, w6, ?_⟩
      rcases w7 with w7 | ⟨T, oT, ts, z1, z2, z3⟩
      · exact .inl w7
      · exact .inr ⟨T, oT, ts, z1, noRec_none _ _, z3⟩
    have own : ∀ b, InEx s1.heap a b → (∀ o, X.s₀.heap.get? b = some o → X.H₀ b = none → b ∈ X.ex) ∧ H' b = none ∧ (∃ o vs, s1.heap.get? b = some o ∧ o.data = .fields vs) ∧ ∀ p ∈ X.pn ++ pins, p.1 ≠ b := fun b hx => by
      obtain ⟨n1, n2, o1, vs1, g1, d1⟩ := fly.ex hx
      refine ⟨fun o e n => ?_, n2, ⟨o1, vs1, g1, d1⟩, fun p hp z => ?_⟩
      · by_cases hxx : b ∈ X.ex
        · exact hxx
        · exfalso
          by_cases hf : b ∈ X.fs
          · exact I1.fs_rec hf g1 d1
          · have k1 := I1.base.keep b o e n hf hxx
            have k0 := I.base.keep b o e n hf hxx
            rw [g1] at k1; cases k1
            exact n1 o1 vs1 k0 d1
      · subst z
        have k1 := (I1.pin p hp).1
        have k0 := (I.pin p hp).1
        rw [g1] at k1
        rw [← Option.some.inj k1] at k0
        exact n1 o1 vs1 k0 d1
    have hfr : X.A.frames = some (X.env :: X.outer) := by rw [I.ok.frames, hst.1]
    have hfun : s1.heap.FunFrames X.base (X.env :: X.outer) := by have := I1.stack; rw [hst.1] at this; exact this
    have hfs' : (X.env :: X.outer).filterMap (·.frame) = frs X.stack := by rw [hst.1]; rfl
    refine note_land (base := X.base) hfr hfun hst.2 (Nat.zero_le _) (fun b hb => I1.hok.fresh hb) flyE fun h2 k2 f2 new2 => ?_
    rw [hfs'] at k2
    have J := I1.kf (t' := s1.toks) k2 fun b hx => by
      obtain ⟨w1, w2⟩ := own b hx
      exact ⟨fun o vs e n _ hxx => absurd (w1 o e n) hxx, w2⟩
    have own2 : ∀ b, InEx h2 a b → (∀ o, X.s₀.heap.get? b = some o → X.H₀ b = none → b ∈ X.ex) ∧ H' b = none ∧ (∃ o vs, h2.get? b = some o ∧ o.data = .fields vs) ∧ ∀ p ∈ X.pn ++ pins, p.1 ≠ b := fun b hx => by
      obtain ⟨_, n2, n3⟩ := f2.ex hx
      rcases new2 b hx with z | z
      · subst z
        obtain ⟨w1, _, _, w4⟩ := own b (.inl rfl)
        exact ⟨w1, n2, n3, w4⟩
      · refine ⟨fun o e _ => absurd (Nat.lt_of_lt_of_le (Heap.lt_size e) (Nat.le_trans I1.sz z)) (Nat.lt_irrefl _), n2, n3, fun p hp w => ?_⟩
        have := Heap.lt_size (I1.pin p hp).1
        rw [w] at this
        exact absurd this (Nat.not_lt.mpr z)
    have exf2 := f2
    obtain ⟨_, hHa, oe, vs, a0, T, oT, ts, ge, ⟨ce, dde⟩, de, rest⟩ := exf2
    have Jm := J.marked a
    refine wpAny_handleBy_cons (codeAny_handlers_test (ld_glob (X := X.marked a) Jm hcn hcm ?_ hdb)) (by intro q; cases q)
    have LT : PySem.W.Looks (model X.prog X.w) h2 (typeOf (.ref a)) (.ref C) := by
      rw [← ce]
      exact (PySem.W.Looks.ld ge).andThen .now
    refine PySem.W.exm_one J.kIn LT (hsub x.cls C hC hsx) _ _ _ _ (fun _ _ e => e) ?_
    refine codeAny_handlers_suite_as ?_
    refine land_fly (s := { s1 with heap := h2, toks := s1.toks }) f2 fun h3 k3 k3' f3 in3 => ?_
    have J3 : Inv (X.marked a) pins σ' H' { s1 with heap := h3, toks := s1.toks } := by
      have q := L2.Inv.kf (X := X.marked a) (s := { s1 with heap := h2, toks := s1.toks }) (h' := h3) (t' := s1.toks) (a := a) Jm ⟨fun b o hb _ hx => k3 b o hb hx, fun b o hb _ hx => ⟨o.slots, k3 b o hb hx⟩, k3'⟩ fun b hx => by
        obtain ⟨w1, w2⟩ := own2 b hx
        exact ⟨fun o vs e n _ hxx => absurd (w1 o e n) hxx, w2⟩
      exact q
    obtain ⟨_, _, oe3, vs3, _, _, _, _, ge3, ⟨ce3, dde3⟩, de3, _⟩ := f3
    have hHa' : H' a = none := hHa
    have J4 := J3.track (o := .ext (excAt a C)) hHa' (own a (.inl rfl)).1 (fun z => by
        have g : h3.get? (X.marked a).env.locals = some oe3 := by rw [← z]; exact ge3
        exact J3.locals_dict g de3) (fun y c' e z => by
        obtain ⟨v, o, g, d⟩ := J3.cell y _ e
        have g' : h3.get? a = some o := by rw [← z]; exact g
        rw [ge3] at g'; cases g'
        rw [de3] at d; cases d) (own a (.inl rfl)).2.2.2
      ⟨⟨oe3, vs3, ge3, ce3, dde3, de3⟩, ⟨oe3, ge3⟩, fun ha hb ⟨o, vs, g, q⟩ k => ⟨o, vs, k o g, q⟩⟩
    have sm := same_upd hHa' (.ext (excAt a C))
    refine store_ok (X := X.marked a) J4 hN hi (Or.inl hk) (v := .ref a) (u := .ref a) rfl (fun s4 I4 => ?_) (Or.inr hk)
    have R4 : RepSt X.K G (upd H' a (.ext (excAt a C))) (σ'.set i (some (.ref a))) (δ'.set i (some (.val (.exc x.cls)))) :=
      (R1.mono sm).set i (by rw [Rep]; exact ⟨a, C, rfl, hC, upd_same⟩)
    refine wpAny_mono (hsu a pins s4 _ G _ _ I4 R4 hfs) (fun fl s5 p => ?_) fun e s5 p => ?_
    · cases fl with
      | next =>
        obtain ⟨δ2, σ2, H2, q2, I5, t5, R5⟩ := p
        refine (I5.unmarked I.ok).goes hN hi hk fun s6 I6 => ?_
        exact ⟨δ2.set i none, _, H2, by rw [ev, q2], I6, tk1.trans (sm.tk.trans t5), R5.clear i⟩
      | brk => obtain ⟨δ2, σ2, H2, q2, _⟩ := p; exact (hs (by rw [ev, q2])).elim
      | cont => obtain ⟨δ2, σ2, H2, q2, _⟩ := p; exact (hs (by rw [ev, q2])).elim
      | ret u =>
        obtain ⟨d, v, σ2, H2, q2, I5, t5, g5, r5, p5⟩ := p
        refine (I5.unmarked I.ok).goes hN hi hk fun s6 I6 => ?_
        exact ⟨d, v, _, H2, by rw [ev, q2], I6, tk1.trans (sm.tk.trans t5), g5, r5, p5⟩
    · obtain ⟨y, δ2, _, _, _, _, q2, _⟩ := p
      exact (hs (by rw [ev, q2])).elim
end
end DL
set_option Elab.async false
set_option linter.all false
set_option maxRecDepth 100000
namespace DL
open PySem PySem.Spec PyProof.Rows L2
noncomputable def compX (X : Cx) (N' : List Str) (scope : Scope) (cl : List (Str × Addr)) (C : Addr) (s : Shared) (H : Hp) (fp : List Addr) : Cx where
  prog := X.prog
  w := X.w
  K := X.K
  mg := X.mg
  base := X.base
  A := X.A
  N := N'
  s₀ := s
  H₀ := H
  env := compEnvC scope cl C X.env
  outer := X.stack
  stack := X.stack
  ex := fp
  fn := fun _ => false
  calm := X.calm
  pn := []
  xe := fun _ _ => False
section
variable {X : Cx} {N' : List Str} {scope : Scope} {cl : List (Str × Addr)} {C : Addr} {s : Shared} {H : Hp} {fp : List Addr} {pins : List (Addr × Obj)} {σ : St}
theorem compX_ok (I : Inv X pins σ H s) (hk : scope.kind = .function) (hC : s.heap.objs.size ≤ C) (hc : ∀ x c, cl.lookup x = some c → X.env.cells.lookup x = some c)
    (has : ∀ x, ((relabel scope X.env).names.lookup x = some .cell ∨ (relabel scope X.env).names.lookup x = some .free) → ∃ c, cl.lookup x = some c) (hf : ∀ b ∈ fp, FpOk X pins H b ∧ b < s.heap.objs.size) : (compX X N' scope cl C s H fp).Ok where
  mod := I.ok.mod
  kind := hk
  glob := I.ok.glob
  blt := I.ok.blt
  above := hC
  inj := fun x y c h1 h2 => I.ok.inj x y c (hc x c h1) (hc y c h2)
  has := has
  cab := fun x c h => by cases h
  hd := I.ok.hd
  frames := I.ok.frames
  stk := .inl rfl
  exf := fun b hb => ⟨Nat.ne_of_lt (Nat.lt_of_lt_of_le (hf b hb).2 hC), fun x c h => (hf b hb).1.2.2.2.2.1 x c (hc x c h)⟩
  bs := I.bs
  bsz := Nat.le_trans I.ok.bsz I.sz
  noex := fun b o e hb => by
    obtain ⟨_, h1, h2, h3, _⟩ := (hf b hb).1
    rcases h3 with z | z
    · exact I.ok.noex b o e z
    · exact absurd (Nat.lt_of_lt_of_le (Heap.lt_size e) (Nat.le_trans I.ok.bsz z)) (Nat.lt_irrefl _)
  exfs := fun b hb z => by
    obtain ⟨_, h1, h2, _⟩ := (hf b hb).1
    rcases List.mem_cons.mp (I.stkSub b z) with w | w
    · exact h1 w
    · exact h2 w
  funs := I.stack
  frf := I.stkFree
end
noncomputable def Yields (K : PySem.W.Frag) (J : It) (H : Hp) (ds : List D) : Prop :=
  ∀ H', Same H H' → (∀ i d, ds[i]? = some d → J.go i H' ∧ ∀ x H'', J.yld i H' x H'' → Same H' H'' ∧ Rep K H'' d x) ∧ J.stop ds.length H'
noncomputable def IPost (X : Cx) (pins : List (Addr × Obj)) (σ : St) (H : Hp) (tg : Expr) (r : Res (List D)) (itv : Value) (s2 : Shared) : Prop :=
  ∃ (ds : List D) (it : Addr) (fp : List Addr) (tn : Nat → Heap → Prop) (J : It) (H' : Hp), r = .ok ds ∧ itv = .ref it ∧ Inv X pins σ H' s2 ∧ Turn X.prog X.w X.K tg J fp it tn ∧ tn 0 s2.heap ∧ (∀ b ∈ fp, FpOk X pins H' b) ∧ Same H H' ∧ Yields X.K J H' ds
noncomputable def PID (X : Cx) (tg iter : Expr) (f : DS → Res (List D)) : Prop :=
  ∀ (pins : List (Addr × Obj)) (s : Shared) (σ : St) (G H : Hp) (δ : DS), Inv X pins σ H s → RepSt X.K G H σ δ → f δ ≠ .stuck →
    wpAny (model X.prog X.w) X.A (eval iter X.env) (fun v s1 => wpAny (model X.prog X.w) X.A (pyIter v) (IPost X pins σ H tg (f δ)) (XPost X pins σ H s.heap (f δ)) s1) (XPost X pins σ H s.heap (f δ)) s
noncomputable def signsD (x : Str) : List D := x.cps.toList.map fun c => .str ⟨#[c]⟩
noncomputable def Its (x : Str) : It :=
  ⟨fun i _ => i < x.cps.size, fun i H v H' => H' = H ∧ ∃ c, x.cps[i]? = some c ∧ v = .str ⟨#[c]⟩, fun i _ => x.cps.size ≤ i⟩
theorem turn_ascii {P : Program} {w : World} {K : PySem.W.Frag} {tg : Expr} (x : Str) (t : Tok) (it : Addr) : Turn P w K tg (Its x) [it] it (fun i h => h.IsStrIter it "str_ascii_iterator" x t i) where
  mem := by simp
  obj := fun i h st b hb => by
    have e : b = it := by simpa using hb
    subst e
    obtain ⟨o, e, c, d⟩ := st
    exact ⟨o, e, fun v z => by rw [d] at z; cases z⟩
  keep := fun i h h' st k => by
    obtain ⟨o, e, c, d⟩ := st
    exact ⟨o, k it (by simp) o e, c, d⟩
  item := by
    intro X hP hw hK hc i pins s σ H E I hf st hg
    subst hP hw hK
    have hx : x.cps[i]? = some x.cps[i] := Array.getElem?_eq_getElem hg
    obtain ⟨f0, f1, f2, f3, f4, f5⟩ := hf it (by simp)
    refine wpAny_pyNext_ascii_item st hx fun h' st' sb => ?_
    have I1 : Inv X pins σ H { s with heap := h', toks := s.toks + 1 } := I.turned (t' := s.toks + 1) (fun b o hb e => (sb.2 b hb).trans e) f0 f1 f3 f4 f5
    obtain ⟨o, e, c, d⟩ := id st'
    exact ⟨_, rfl, go_of (s := { s with heap := h', toks := s.toks + 1 }) e c d (by decide) ⟨.str ⟨#[x.cps[i]]⟩, H, I1, ⟨_, rfl⟩, ⟨rfl, _, hx, rfl⟩, st', fun b hb => (hf b hb).1⟩⟩
  done := by
    intro X hP hw hK hc i pins s σ H E I hf st hg
    subst hP hw hK
    obtain ⟨f0, f1, f2, f3, f4, f5⟩ := hf it (by simp)
    exact wpAny_pyNext_ascii_end (I.ok.hd hc) st (Array.getElem?_eq_none hg) fun h' eb => ⟨rfl, I.turned (t' := s.toks) (fun b o hb e => eb b o hb e) f0 f1 f3 f4 f5⟩
  self := fun _ _ _ _ _ st h => wpAny_pyIter_striter_ascii st h
theorem yields_str {K : PySem.W.Frag} {H : Hp} {x : Str} : Yields K (Its x) H (signsD x) := by
  intro H' e
  refine ⟨fun i d hd => ?_, by unfold signsD; simp [Its]⟩
  unfold signsD at hd
  rw [List.getElem?_map] at hd
  cases z : x.cps.toList[i]? with
  | none => rw [z] at hd; cases hd
  | some c =>
    rw [z] at hd
    cases hd
    have hl : i < x.cps.size := by
      have := List.getElem?_eq_some_iff.mp z
      obtain ⟨q, _⟩ := this
      simpa using q
    have hc : x.cps[i]? = some c := by simpa using z
    refine ⟨hl, fun v H'' y => ?_⟩
    obtain ⟨rfl, c', h1, rfl⟩ := y
    rw [hc] at h1
    cases h1
    exact ⟨Same.refl _, by rw [Rep]⟩
noncomputable def seqItems : D → Res (List D)
  | .tup ds => .ok ds
  | .lst ds => .ok ds
  | .str x => if x.cps.all (· < 128) = true then .ok (signsD x) else .stuck
  | _ => .stuck
theorem yields_list {K : PySem.W.Frag} {H : Hp} {a : Addr} {xs : List V} {ds : List D} {X : Cx} {pins : List (Addr × Obj)} {σ : St} {s : Shared} (hq : SqL K H a xs) (r : Reps K H ds xs) : Yields K (Itl K a) H ds := by
  intro H' e
  have hq' := e.seq hq
  have r' := r.mono e
  refine ⟨fun i d hd => ?_, xs, hq', by rw [r.length]; exact Nat.le_refl _⟩
  obtain ⟨v, e1, e2⟩ := r'.get hd
  refine ⟨⟨xs, v, hq', e1⟩, fun x H'' y => ?_⟩
  obtain ⟨rfl, y⟩ := y
  have := y xs hq'
  rw [e1] at this
  cases this
  exact ⟨Same.refl _, e2⟩
theorem yields_tup {K : PySem.W.Frag} {H : Hp} {a : Addr} {xs : List V} {ds : List D} (hq : SqT K H a xs) (r : Reps K H ds xs) : Yields K (Itt K a) H ds := by
  intro H' e
  have hq' := SqT_mono e hq
  have r' := r.mono e
  refine ⟨fun i d hd => ?_, xs, hq', by rw [r.length]; exact Nat.le_refl _⟩
  obtain ⟨v, e1, e2⟩ := r'.get hd
  refine ⟨⟨xs, v, hq', e1⟩, fun x H'' y => ?_⟩
  obtain ⟨rfl, y⟩ := y
  have := y xs hq'
  rw [e1] at this
  cases this
  exact ⟨Same.refl _, e2⟩
theorem pid_seq {X : Cx} {tg iter : Expr} {f : DS → Res D} (h : PD X iter f) : PID X tg iter (fun δ => (f δ).bind seqItems) := by
  intro pins s σ G H δ I R hs
  try dsimp only at hs ⊢
  refine h.use I R (bind_l hs) (fun d u s1 v H1 q I1 r1 e1 b1 p1 => ?_) fun e s1 q => q.same fun x z => bind_x z
  have h2 := bind_r hs q
  cases d with
  | lst ds =>
    obtain ⟨a, xs, rfl, hq, r⟩ := repL p1
    cases r1
    obtain ⟨its, rv, p, hz⟩ := I1.list hq
    refine wpAny_pyIter_list p.isList ?_
    refine ⟨ds, s1.heap.objs.size, [s1.heap.objs.size], _, _, H1, by rw [q]; rfl, rfl, I1.kept (t' := s1.toks) fun b o e => Heap.get?_push_of_some _ e, turn_list a _, ⟨_, Heap.get?_push_size _ rfl, rfl, rfl⟩, fun b hb => ?_, e1, yields_list (X := X) (pins := pins) (σ := σ) (s := s1) hq r⟩
    have e : b = s1.heap.objs.size := by simpa using hb
    subst e
    exact I1.fpOk (Nat.le_refl _) (I1.hok.fresh (Nat.le_refl _))
  | tup ds =>
    obtain ⟨a, xs, rfl, hq, r⟩ := repT p1
    cases r1
    obtain ⟨its, rv, p, hz⟩ := I1.tuple hq
    refine wpAny_pyIter_tuple p ?_
    refine ⟨ds, s1.heap.objs.size, [s1.heap.objs.size], _, _, H1, by rw [q]; rfl, rfl, I1.kept (t' := s1.toks) fun b o e => Heap.get?_push_of_some _ e, turn_tuple a _, ⟨_, Heap.get?_push_size _ rfl, rfl, rfl⟩, fun b hb => ?_, e1, yields_tup hq r⟩
    have e : b = s1.heap.objs.size := by simpa using hb
    subst e
    exact I1.fpOk (Nat.le_refl _) (I1.hok.fresh (Nat.le_refl _))
  | str x =>
    rw [repS p1] at r1
    obtain ⟨t, rfl⟩ := r1
    have ha : x.cps.all (· < 128) = true := by
      cases z : x.cps.all (· < 128) with
      | true => rfl
      | false =>
        have h3 : (if (x.cps.all fun c => decide (c < 128)) = true then Res.ok (signsD x) else Res.stuck) ≠ .stuck := h2
        rw [z] at h3; exact (h3 rfl).elim
    refine wpAny_pyIter_ascii ha ?_
    refine ⟨signsD x, s1.heap.objs.size, [s1.heap.objs.size], _, _, H1, by rw [q]; unfold seqItems; rw [Res.bind_ok]; simp only [ha, if_true], rfl, I1.kept (t' := s1.toks) fun b o e => Heap.get?_push_of_some _ e, turn_ascii x t _, ⟨_, Heap.get?_push_size _ rfl, rfl, rfl⟩, fun b hb => ?_, e1, yields_str⟩
    have e : b = s1.heap.objs.size := by simpa using hb
    subst e
    exact I1.fpOk (Nat.le_refl _) (I1.hok.fresh (Nat.le_refl _))
  | _ => exact (h2 rfl).elim
noncomputable def frz1 : Option SV → Option SV
  | some sv => some (.arg sv.view)
  | none => none
noncomputable def compS (m : Nat) (fr : List Nat) (δ : DS) : DS := List.replicate m none ++ fr.map fun i => (δ[i]?).elim none frz1
noncomputable def mapR (g : D → Res D) : List D → Res (List D)
  | [] => .ok []
  | d :: ds => (g d).bind fun x => (mapR g ds).bind fun xs => .ok (x :: xs)
noncomputable def eltD (t : TGD) (fe : DS → Res D) (δ' : DS) (d : D) : Res D := match t d δ' with
  | some δ1 => (match fe δ1 with | .ok x => .ok x | _ => .stuck)
  | none => .stuck
noncomputable def compD (m : Nat) (fr : List Nat) (t : TGD) (fe : DS → Res D) (fi : DS → Res (List D)) : DS → Res D := fun δ => (fi δ).bind fun ds => lstD (mapR (eltD t fe (compS m fr δ)) ds)
noncomputable def KeepsT (m : Nat) (t : TGD) : Prop := ∀ d δ δ1, t d δ = some δ1 → δ1.length = δ.length ∧ ∀ i, m ≤ i → δ1[i]? = δ[i]?
theorem RepSt.weak {K : PySem.W.Frag} {G H : Hp} {σ : St} {δ δ1 : DS} {m : Nat} (R : RepSt K G H σ δ1) (hl : δ1.length = δ.length) (hm : ∀ i, m ≤ i → δ1[i]? = δ[i]?) (hn : ∀ i, i < m → ∀ sv, δ[i]? ≠ some (some sv)) : RepSt K G H σ δ where
  same := R.same
  len := R.len.trans hl
  at_ := fun i sv e => by
    by_cases h : i < m
    · exact (hn i h sv e).elim
    · exact R.at_ i sv (by rw [hm i (by omega)]; exact e)
  sep := fun i j ds es v hij e1 e2 e3 => by
    by_cases h1 : i < m
    · exact (hn i h1 _ e1).elim
    · by_cases h2 : j < m
      · exact (hn j h2 _ e2).elim
      · exact R.sep i j ds es v hij (by rw [hm i (by omega)]; exact e1) (by rw [hm j (by omega)]; exact e2) e3
theorem compS_low {m : Nat} {fr : List Nat} {δ : DS} (i : Nat) (h : i < m) (sv : SV) : (compS m fr δ)[i]? ≠ some (some sv) := by
  unfold compS
  rw [List.getElem?_append_left (by simpa using h), List.getElem?_replicate, if_pos h]
  intro z; cases z
noncomputable def compV (m : Nat) (fr : List Nat) (σ : St) : St := List.replicate m none ++ fr.map fun i => (σ[i]?).elim none id
theorem rep_comp {K : PySem.W.Frag} {G H : Hp} {σ : St} {δ : DS} (m : Nat) (fr : List Nat) (R : RepSt K G H σ δ) : RepSt K H H (compV m fr σ) (compS m fr δ) where
  same := Same.refl H
  len := by simp [compV, compS]
  at_ := fun i sv e => by
    by_cases h : i < m
    · exact (compS_low i h sv e).elim
    · unfold compS at e
      unfold compV
      rw [List.getElem?_append_right (by simpa using h), List.getElem?_map] at e
      rw [List.getElem?_append_right (by simpa using h), List.getElem?_map]
      simp only [List.length_replicate] at e ⊢
      cases q : fr[i - m]? with
      | none => rw [q] at e; cases e
      | some k =>
        rw [q] at e
        simp only [Option.map_some, Option.some.injEq] at e
        cases q2 : δ[k]? with
        | none => rw [q2] at e; cases e
        | some o =>
          rw [q2] at e
          cases o with
          | none => cases e
          | some sv' =>
            simp only [Option.elim_some, frz1, Option.some.injEq] at e
            subst e
            obtain ⟨v, e1, e2⟩ := R.view q2
            exact ⟨v, by simp [e1], e2⟩
  sep := fun i j ds es v hij e1 e2 e3 => by
    exfalso
    by_cases h : i < m
    · exact (compS_low i h _ e1).elim
    · unfold compS at e1
      rw [List.getElem?_append_right (by simpa using h), List.getElem?_map] at e1
      simp only [List.length_replicate] at e1
      cases q : fr[i - m]? with
      | none => rw [q] at e1; cases e1
      | some k =>
        rw [q] at e1
        simp only [Option.map_some, Option.some.injEq] at e1
        cases q2 : δ[k]? with
        | none => rw [q2] at e1; cases e1
        | some o =>
          rw [q2] at e1
          cases o with
          | none => cases e1
          | some sv' => simp [frz1] at e1
theorem mapR_len {g : D → Res D} : ∀ {ds rs : List D}, mapR g ds = .ok rs → rs.length = ds.length
  | [], rs, h => by simp only [mapR, Res.ok.injEq] at h; subst h; rfl
  | d :: ds, rs, h => by
    simp only [mapR] at h
    cases q : g d with
    | stuck => rw [q] at h; cases h
    | err x => rw [q] at h; cases h
    | ok x =>
      rw [q, Res.bind_ok] at h
      cases q2 : mapR g ds with
      | stuck => rw [q2] at h; cases h
      | err x => rw [q2] at h; cases h
      | ok xs =>
        rw [q2, Res.bind_ok] at h
        cases h
        simp [mapR_len q2]
theorem mapR_get {g : D → Res D} : ∀ {ds rs : List D} {i : Nat} {d : D}, mapR g ds = .ok rs → ds[i]? = some d → ∃ r, g d = .ok r ∧ rs[i]? = some r
  | [], rs, i, d, h, e => by simp at e
  | d' :: ds, rs, i, d, h, e => by
    simp only [mapR] at h
    cases q : g d' with
    | stuck => rw [q] at h; cases h
    | err x => rw [q] at h; cases h
    | ok x =>
      rw [q, Res.bind_ok] at h
      cases q2 : mapR g ds with
      | stuck => rw [q2] at h; cases h
      | err x => rw [q2] at h; cases h
      | ok xs =>
        rw [q2, Res.bind_ok] at h
        cases h
        cases i with
        | zero => simp at e; subst e; exact ⟨x, q, by simp⟩
        | succ i =>
          simp at e
          obtain ⟨r, e1, e2⟩ := mapR_get q2 e
          exact ⟨r, e1, by simpa using e2⟩
theorem mapR_ne {g : D → Res D} (hg : ∀ d, NoErr (g d)) : ∀ ds, NoErr (mapR g ds)
  | [] => noErr_ok
  | d :: ds => by
    intro x h
    simp only [mapR] at h
    cases q : g d with
    | stuck => rw [q] at h; cases h
    | err y => exact hg d y q
    | ok y =>
      rw [q, Res.bind_ok] at h
      cases q2 : mapR g ds with
      | stuck => rw [q2] at h; cases h
      | err z => exact mapR_ne hg ds z q2
      | ok xs => rw [q2, Res.bind_ok] at h; cases h
theorem eltD_ne {t : TGD} {fe : DS → Res D} {δ' : DS} (d : D) : NoErr (eltD t fe δ' d) := by
  intro x h
  unfold eltD at h
  split at h
  · split at h <;> cases h
  · cases h
theorem eltD_of {t : TGD} {fe : DS → Res D} {δ' : DS} {d r : D} (h : eltD t fe δ' d = .ok r) : ∃ δ1, t d δ' = some δ1 ∧ fe δ1 = .ok r := by
  unfold eltD at h
  split at h
  · rename_i δ1 e
    split at h
    · rename_i x q
      cases h
      exact ⟨δ1, e, q⟩
    · cases h
  · cases h
end DL
set_option Elab.async false
set_option linter.all false
set_option maxRecDepth 100000
namespace DL
open PySem PySem.Spec PyProof.Rows L2
theorem compTurn_any (elt target iter : Expr) (scope : Scope) (pos : Pos) (it acc : Value) (env : Env) :
    compTurn (.ListComp elt [⟨target, iter, [], 0⟩] scope pos) 0 it acc env = (standAt iter.pos >>= fun _ => pyNext it >>= fun r => match r with
      | none => pure (.done .next)
      | some v => letOwnedTupleGo target it v >>= fun _ => assign target env v >>= fun _ =>
        (eval elt env >>= fun x => call (.builtin "list.append") [acc, x] >>= fun _ => pure ()) >>= fun _ =>
          again (.compLoop (.ListComp elt [⟨target, iter, [], 0⟩] scope pos) 0 it acc env)) := by rfl
section
variable {X : Cx} {m : Nat} {fr : List Nat} {N' : List Str} {scope : Scope} {cl : List (Str × Addr)} {tg iter elt : Expr} {pos : Pos} {t : TGD} {fe : DS → Res D} {fi : DS → Res (List D)}
theorem comp_loop {C : Addr} {s3 : Shared} {H2 : Hp} {fp : List Addr} {it : Addr} {tn : Nat → Heap → Prop} {J : It} {ds rs : List D} {δ' : DS} {acc : Addr} {RR : Result → Shared → Prop} (hcalm : X.calm = true)
    (T : Turn X.prog X.w X.K tg J fp it tn) (Y : Yields X.K J H2 ds) (hR : mapR (eltD t fe δ') ds = .ok rs) (hz : ds.length ≤ sizeLine) (hkt : KeepsT m t) (hlow : ∀ i, i < m → ∀ sv, δ'[i]? ≠ some (some sv))
    (ht : PGD (compX X N' scope cl C s3 H2 (acc :: fp)) tg t) (he : PD (compX X N' scope cl C s3 H2 (acc :: fp)) elt fe)
    (hacc : acc ∉ fp) (hfp : ∀ b ∈ acc :: fp, b ≠ C ∧ b ∉ frs X.stack ∧ ∀ x c, cl.lookup x = some c → c ≠ b)
    (fin : ∀ s' σ' H' ys its, Inv (compX X N' scope cl C s3 H2 (acc :: fp)) [] σ' H' s' → Same H2 H' → H' acc = none → (∀ b ∈ fp, H' b = none) → s'.heap.PlainList acc its → Vals ys its.toList → Reps X.K H' rs ys → RR (.ok .next) s')
    {s4 : Shared} {σ0 : St} {its0 : Array Value} (I4 : Inv (compX X N' scope cl C s3 H2 (acc :: fp)) [] σ0 H2 s4) (R4 : RepSt X.K H2 H2 σ0 δ') (st4 : tn 0 s4.heap) (f4 : ∀ b ∈ acc :: fp, H2 b = none) (p4 : s4.heap.PlainList acc #[]) :
    codeAny (model X.prog X.w) X.A (.compLoop (.ListComp elt [⟨tg, iter, [], 0⟩] scope pos) 0 (.ref it) (.ref acc) (compEnvC scope cl C X.env)) RR s4 := by
  let X' := compX X N' scope cl C s3 H2 (acc :: fp)
  have fpok : ∀ {H' : Hp} {pn : List (Addr × Obj)}, (∀ b ∈ fp, H' b = none) → (∀ b ∈ fp, ∀ p ∈ pn, p.1 ≠ b) → ∀ b ∈ fp, FpOk X' pn H' b := fun hn hp b hb =>
    ⟨hn b hb, (hfp b (List.mem_cons_of_mem _ hb)).1, (hfp b (List.mem_cons_of_mem _ hb)).2.1, .inl (List.mem_cons_of_mem _ hb), (hfp b (List.mem_cons_of_mem _ hb)).2.2, fun p hpp => hp b hb p (by simpa [X', compX] using hpp)⟩
  refine codeAny_loop rfl (fun n s => ∃ i σ' H' ys its, n = ds.length - i ∧ i ≤ ds.length ∧ Inv X' [] σ' H' s ∧ Same H2 H' ∧ RepSt X.K H2 H' σ' δ' ∧ tn i s.heap ∧ H' acc = none ∧ (∀ b ∈ fp, H' b = none) ∧ s.heap.PlainList acc its ∧ Vals ys its.toList ∧ Reps X.K H' (rs.take i) ys) (fun n s hI => ?_) ds.length
    ⟨0, σ0, H2, [], #[], by simp, Nat.zero_le _, I4, Same.refl _, R4, st4, f4 acc (by simp), fun b hb => f4 b (List.mem_cons_of_mem _ hb), p4, .nil, by simpa using Reps.nil⟩
  obtain ⟨i, σ1, H1, ys, its, rfl, hi, I1, e1, R1, st1, ha1, fr1, p1, v1, r1⟩ := hI
  show wpAny _ _ ((compTurn (.ListComp elt [⟨tg, iter, [], 0⟩] scope pos) 0 (.ref it) (.ref acc) (compEnvC scope cl C X.env)).onRaise (fun x => do noteFrame x (compEnvC scope cl C X.env); theTreesLotGoes x)) _ _ s
  refine wpAny_noted ?_
  rw [compTurn_any]
  refine wpAny_bind (wpAny_standAt (wpAny_bind ?_))
  have pk : ∀ {b : Addr} {o : Obj}, True := trivial
  by_cases hlt : i < ds.length
  · obtain ⟨d, hd⟩ : ∃ d, ds[i]? = some d := ⟨ds[i], by simp [hlt]⟩
    obtain ⟨go, yl⟩ := (Y H1 e1).1 i d hd
    obtain ⟨r, hg, hr⟩ := mapR_get hR hd
    obtain ⟨δ1, ht1, hf1⟩ := eltD_of hg
    obtain ⟨na, oa⟩ := p1
    have pin1 : Inv X' [(acc, ({ cls := .type "list", data := .seq its na } : Obj))] σ1 H1 s := I1.pins_of fun p hp => by
      have : p = (acc, ({ cls := .type "list", data := .seq its na } : Obj)) := by simpa using hp
      subst this
      exact ⟨oa, ha1, (hfp acc (by simp)).1, (hfp acc (by simp)).2.1, fun v z => (by cases z)⟩
    refine wpAny_mono (T.item X' rfl rfl rfl hcalm i _ s σ1 H1 _ pin1 (fpok fr1 fun b hb p hp z => by
      have : p = (acc, ({ cls := .type "list", data := .seq its na } : Obj)) := by simpa using hp
      subst this; exact hacc (by rw [show acc = b from z]; exact hb)) st1 go) (fun rv s5 ⟨u, hrv, h5⟩ => ?_) fun _ _ z => z
    subst hrv
    refine wpAny_bind (wpAny_mono h5 (fun _ s6 ⟨x, H6, I6, rx, y6, st6, fr6⟩ => ?_) fun _ _ z => z)
    obtain ⟨e6, px⟩ := yl x H6 y6
    have I6' := I6.pinned (fpok fr6 fun b hb p hp z => by
      have : p = (acc, ({ cls := .type "list", data := .seq its na } : Obj)) := by simpa using hp
      subst this; exact hacc (by rw [show acc = b from z]; exact hb)) (T.obj _ _ st6)
    have R6 := R1.mono e6
    refine wpAny_bind (wpAny_mono (ht _ _ s6 σ1 H2 H6 δ' δ1 d x u I6' rx R6 px ht1) (fun _ s7 ⟨σ7, I7, R7⟩ => ?_) fun _ _ z => z)
    obtain ⟨hl1, hm1⟩ := hkt d δ' δ1 ht1
    have R7' : RepSt X.K H2 H6 σ7 δ' := R7.weak hl1 hm1 hlow
    refine wpAny_bind (wpAny_bind (he.use I7 R7 (by rw [hf1]; intro z; cases z) (fun d8 u8 s8 v8 H8 q8 I8 r8 e8 b8 p8 => ?_) fun e s8 q => by rw [hf1] at q; exact q.none.elim))
    rw [hf1] at q8; cases q8
    have oa8 := (I8.pin (acc, ({ cls := .type "list", data := .seq its na } : Obj)) (by simp)).1
    have ha8 := (I8.pin (acc, ({ cls := .type "list", data := .seq its na } : Obj)) (by simp)).2.1
    have hys : ys.length = i := by rw [r1.length, List.length_take, mapR_len hR]; omega
    have hsz : its.size = i := by have := v1.length; simp only [Array.length_toList] at this; omega
    refine wpAny_bind (wpAny_list_append_plain (show s8.heap.PlainList acc its from ⟨na, oa8⟩) (fun h9 p9 sb9 => ?_) (by omega))
    have I8' : Inv X' [] σ7 H8 s8 := I8.pins_of fun p hp => absurd hp (by simp)
    have fp8 : ∀ b ∈ fp, ∀ o, s6.heap.get? b = some o → s8.heap.get? b = some o ∧ H8 b = none := fun b hb o e => by
      have q := I8.pin (b, o) (List.mem_append_right _ (List.mem_append_right _ (mem_pinsAt hb e)))
      exact ⟨q.1, q.2.1⟩
    have nacc : ∀ b, H8 b ≠ none → b ≠ acc := fun b hb z => hb (by rw [z]; exact ha8)
    have I9 : Inv X' [] σ7 H8 { s8 with heap := h9 } := I8'.call' (ch := [acc]) rfl
      ⟨fun b o e n hb hx => (sb9.2 b (by simpa using hx)).trans e, fun b o e n hb hx => ⟨o.slots, (sb9.2 b (by simpa using hx)).trans e⟩, fun b o e n _ => n, fun b o e hx => ⟨o, (sb9.2 b (by simpa using hx)).trans e⟩, fun b xs e => e, fun b o u e => e, fun b ps e => ⟨#[], by simpa using e⟩⟩
      (fun b u q => (I8'.hok b u q).stay (fun c v hc e => (sb9.2 c (by
        rcases hc with rfl | hc
        · exact nacc c (by rw [q]; intro z; cases z)
        · exact nacc c (by rw [hc]; intro z; cases z))).trans e) (fun _ z => z) fun _ _ z => z) I8'.bare
      fun b hb => by
        have e : b = acc := by simpa using hb
        subst e
        exact ⟨.inl (by show b ∈ b :: fp; simp), (hfp b (by simp)).1, fun x c e => (hfp b (by simp)).2.2 x c e, fun p hp => absurd hp (by show p ∉ ([] : List (Addr × Obj)) ++ []; simp)⟩
    refine wpAny_pure (wpAny_pure ⟨rfl, ds.length - (i + 1), by omega, i + 1, σ7, H8, ys ++ [v8], its.push u8, rfl, hlt, I9, e1.trans (e6.trans e8), R7'.mono e8, ?_, ha8, fun b hb => ?_, p9, ?_, ?_⟩)
    · refine T.keep _ _ _ st6 fun b hb o e => (sb9.2 b (fun z => hacc (by rw [← z]; exact hb))).trans (fp8 b hb o e).1
    · obtain ⟨o, e, _⟩ := T.obj _ _ st6 b hb
      exact (fp8 b hb o e).2
    · rw [Array.toList_push]; exact v1.append (.cons r8 .nil)
    · have e9 : rs.take (i + 1) = rs.take i ++ [r] := by rw [List.take_succ, hr]; rfl
      rw [e9]
      exact (r1.mono (e6.trans e8)).append (Reps.cons p8 Reps.nil)
  · have e : i = ds.length := by omega
    subst e
    obtain ⟨na, oa⟩ := p1
    have pin1 : Inv X' [(acc, ({ cls := .type "list", data := .seq its na } : Obj))] σ1 H1 s := I1.pins_of fun p hp => by
      have : p = (acc, ({ cls := .type "list", data := .seq its na } : Obj)) := by simpa using hp
      subst this
      exact ⟨oa, ha1, (hfp acc (by simp)).1, (hfp acc (by simp)).2.1, fun v z => (by cases z)⟩
    refine wpAny_mono (T.done X' rfl rfl rfl hcalm ds.length _ s σ1 H1 _ pin1 (fpok fr1 fun b hb p hp z => by
      have : p = (acc, ({ cls := .type "list", data := .seq its na } : Obj)) := by simpa using hp
      subst this; exact hacc (by rw [show acc = b from z]; exact hb)) st1 (Y H1 e1).2) (fun rv s5 ⟨hrv, I5⟩ => ?_) fun _ _ z => z
    subst hrv
    refine wpAny_pure ?_
    have h := mapR_len hR
    rw [← h, List.take_length] at r1
    have oa5 := (I5.pin (acc, ({ cls := .type "list", data := .seq its na } : Obj)) (by simp)).1
    exact fin s5 σ1 H1 ys its (I5.pins_of fun p hp => absurd hp (by simp)) e1 ha1 fr1 ⟨na, oa5⟩ v1 r1
end
end DL
set_option Elab.async false
set_option linter.all false
set_option maxRecDepth 100000
namespace DL
open PySem PySem.Spec PyProof.Rows L2
theorem _root_.L2.Inv.but {X : Cx} {pins : List (Addr × Obj)} {σ : St} {H : Hp} {s : Shared} {C : Addr} {h' : Heap} {t' : Nat} (J : Inv X pins σ H s) (hC : H C = none) (hC0 : X.s₀.heap.objs.size ≤ C) (hCl : C ≠ X.env.locals) (hCc : ∀ x c, X.env.cells.lookup x = some c → c ≠ C)
    (hCp : ∀ p ∈ X.pn ++ pins, p.1 ≠ C) (hs : Heap.SameBut C s.heap h') : Inv X pins σ H { s with heap := h', toks := t' } := by
  have nC : ∀ b, H b ≠ none → b ≠ C := fun b hb z => hb (by rw [z]; exact hC)
  refine J.call' (ch := [C]) (s' := { s with heap := h', toks := t' }) rfl
      ⟨fun b o e n hb hx => (hs.2 b (by simpa using hx)).trans e, fun b o e n hb hx => ⟨o.slots, (hs.2 b (by simpa using hx)).trans e⟩, fun b o e n _ => n, fun b o e hx => ⟨o, (hs.2 b (by simpa using hx)).trans e⟩, fun b xs e => e, fun b o u e => e, fun b ps e => ⟨#[], by simpa using e⟩⟩
      (fun b u q => (J.hok b u q).stay (fun c v hc e => (hs.2 c (by
        rcases hc with rfl | hc
        · exact nC c (by rw [q]; intro z; cases z)
        · exact nC c (by rw [hc]; intro z; cases z))).trans e) (fun _ z => z) fun _ _ z => z) J.bare
      fun b hb => by
        have e : b = C := by simpa using hb
        subst e
        exact ⟨.inr hC0, hCl, hCc, hCp⟩
section
variable {X : Cx} {m : Nat} {fr : List Nat} {N' : List Str} {scope : Scope} {cl : List (Str × Addr)} {tg iter elt : Expr} {pos : Pos} {t : TGD} {fe : DS → Res D} {fi : DS → Res (List D)}
structure Around' (X : Cx) (m : Nat) (fr : List Nat) (N' : List Str) (scope : Scope) (cl : List (Str × Addr)) : Prop where
  clos : closureFor scope X.env = pure cl
  nocell : ∀ y ∈ scope.names, y.2 ≠ .cell
  kind : scope.kind = .function
  names : ∀ x ∈ scope.names, x.2 = .local → scope.names.lookup x.1 = some .local
  sub : ∀ x c, cl.lookup x = some c → X.env.cells.lookup x = some c
  has : ∀ x, ((relabel scope X.env).names.lookup x = some .cell ∨ (relabel scope X.env).names.lookup x = some .free) → ∃ c, cl.lookup x = some c
  len : N'.length = m + fr.length
  free : ∀ j i, fr[j]? = some i → ∃ x c, N'[m + j]? = some x ∧ X.N[i]? = some x ∧ Vis X.env.scope x ∧ (X.env.kindOf x = some .cell ∨ X.env.kindOf x = some .free) ∧ cl.lookup x = some c ∧ ((compEnvC scope cl 0 X.env).kindOf x = some .cell ∨ (compEnvC scope cl 0 X.env).kindOf x = some .free)
theorem comp_run (W : Around' X m fr N' scope cl) (hcalm : X.calm = true) (hkt : KeepsT m t) (hi : PID X tg iter fi) (ht : ∀ C s H fp, PGD (compX X N' scope cl C s H fp) tg t) (he : ∀ C s H fp, PD (compX X N' scope cl C s H fp) elt fe)
    {pins : List (Addr × Obj)} {s : Shared} {σ : St} {G H : Hp} {δ : DS} (I : Inv X pins σ H s) (R : RepSt X.K G H σ δ) (hs : compD m fr t fe fi δ ≠ .stuck) {E : Value → Shared → Prop} (hE : ∀ e s1, XPost X pins σ H s.heap (compD m fr t fe fi δ) e s1 → E e s1)
    {RR : Value → Addr → Result → Shared → Prop}
    (fin : ∀ a C s' H' ds xs mC, compD m fr t fe fi δ = .ok (.lst ds) → Inv X pins σ H' s' → Same H H' → H a = none → H' a = some (.lst xs) → Reps X.K H' ds xs → s'.heap.Ns C mC → H' C = none → C ≠ a → X.s₀.heap.objs.size ≤ C → C ∉ X.fs → C ≠ X.env.locals → (∀ x c, X.env.cells.lookup x = some c → c ≠ C) → (∀ p ∈ X.pn ++ pins, p.1 ≠ C) → RR (.ref a) C (.ok .next) s') :
    wpAny (model X.prog X.w) X.A (eval iter X.env) (fun x s₁ => wpAny (model X.prog X.w) X.A (pyIter x) (fun itv s₂ => wpAny (model X.prog X.w) X.A (newList []) (fun acc s₃ =>
      wpAny (model X.prog X.w) X.A (newFunctionEnv scope X.env.globals cl [] X.env.qual none .none (some X.env)) (fun cenv s₄ =>
        codeAny (model X.prog X.w) X.A (.compStart (.ListComp elt [⟨tg, iter, [], 0⟩] scope pos) 0 itv acc { cenv with scope := relabel scope X.env }) (RR acc cenv.locals) s₄) E s₃) E s₂) E s₁) E s := by
  have hs' : (fi δ).bind (fun ds => lstD (mapR (eltD t fe (compS m fr δ)) ds)) ≠ .stuck := hs
  refine wpAny_mono (hi pins s σ G H δ I R (bind_l hs')) (fun v s1 h1 => wpAny_mono h1 (fun itv s2 h2 => ?_) fun e s2 q => hE e s2 (q.same fun x z => bind_x z)) fun e s2 q => hE e s2 (q.same fun x z => bind_x z)
  obtain ⟨ds, it, fp, tn, J, H2, q, rfl, I2, T, st2, f2, e2, Y⟩ := h2
  have h3 := bind_r hs' q
  have hm : mapR (eltD t fe (compS m fr δ)) ds ≠ .stuck := bind_l (show (mapR (eltD t fe (compS m fr δ)) ds).bind _ ≠ Res.stuck from h3)
  cases hR : mapR (eltD t fe (compS m fr δ)) ds with
  | stuck => exact (hm hR).elim
  | err x => exact (mapR_ne (fun d => eltD_ne d) ds x hR).elim
  | ok rs =>
  have hz : rs.length ≤ sizeLine := by
    by_cases c : rs.length ≤ sizeLine
    · exact c
    · exact (h3 (by unfold lstD; rw [hR, Res.bind_ok, if_neg c])).elim
  have ev : compD m fr t fe fi δ = .ok (.lst rs) := by unfold compD; rw [q, Res.bind_ok]; unfold lstD; rw [hR, Res.bind_ok, if_pos hz]
  have hz' : ds.length ≤ sizeLine := by rw [← mapR_len hR]; exact hz
  have R2 := R.mono e2
  refine wpAny_newObj_type (wpAny_newFunctionEnv W.nocell (by intro y hy; simp at hy) (fun h₁ hns₁ hsb₁ => ?_) W.kind)
  dsimp only at hns₁ hsb₁ ⊢
  generalize hA : s2.heap.objs.size = acc at *
  generalize hH3 : s2.heap.push { cls := .type "list", dict := none, data := .seq ([] : List Value).toArray } = h3' at hns₁ hsb₁ ⊢
  have hC : h3'.objs.size = acc + 1 := by rw [← hH3, Heap.size_push, hA]
  generalize hCC : h3'.objs.size = C at *
  have k3 : ∀ b o, s2.heap.get? b = some o → h3'.get? b = some o := fun b o e => by rw [← hH3]; exact Heap.get?_push_of_some _ e
  have a3 : h3'.get? acc = some { cls := .type "list", dict := none, data := .seq ([] : List Value).toArray } := by rw [← hH3, ← hA]; exact Heap.get?_push_size _ rfl
  have k4 : ∀ b o, h3'.get? b = some o → h₁.get? b = some o := fun b o e => hsb₁.extBut b o (fun z => by have := Heap.lt_size e; rw [hCC, z] at this; exact Nat.lt_irrefl _ this) (Heap.get?_push_of_some _ e)
  have hacc2 : H2 acc = none := I2.hok.fresh (by rw [hA]; exact Nat.le_refl _)
  have I3 : Inv X pins σ H2 { s2 with heap := h3', toks := s2.toks } := I2.kept k3
  have fp2 : ∀ b ∈ fp, b < acc := fun b hb => by
    obtain ⟨o, e, _⟩ := T.obj _ _ st2 b hb
    have := Heap.lt_size e
    rw [hA] at this; exact this
  have f3 : ∀ b ∈ acc :: fp, FpOk X pins H2 b ∧ b < ({ s2 with heap := h3', toks := s2.toks } : Shared).heap.objs.size := fun b hb => by
    rcases List.mem_cons.mp hb with z | z
    · subst z
      exact ⟨I2.fpOk (by rw [hA]; exact Nat.le_refl _) hacc2, by show _ < h3'.objs.size; rw [hCC, hC]; exact Nat.lt_succ_self _⟩
    · exact ⟨f2 b z, by show _ < h3'.objs.size; rw [hCC, hC]; exact Nat.lt_succ_of_lt (fp2 b z)⟩
  have hacc : acc ∉ fp := fun z => Nat.lt_irrefl _ (fp2 acc z)
  have okX : (compX X N' scope cl C { s2 with heap := h3', toks := s2.toks } H2 (acc :: fp)).Ok := compX_ok I3 W.kind (by show h3'.objs.size ≤ C; rw [hCC]; exact Nat.le_refl _) W.sub W.has f3
  have hC2 : H2 C = none := I2.hok.fresh (by rw [hA, hC]; exact Nat.le_succ _)
  have hcells : ∀ x c, cl.lookup x = some c → ∃ v, h₁.IsCell c v := fun x c e => by
    obtain ⟨v, o, g, d⟩ := I2.cell x c (W.sub x c e)
    exact ⟨v, o, k4 _ _ (k3 _ _ g), d⟩
  have hos : s2.os = ({ s2 with heap := h3', toks := s2.toks } : Shared).os := rfl
  have I4 : ∀ tk, Inv (compX X N' scope cl C { s2 with heap := h3', toks := s2.toks } H2 (acc :: fp)) [] (compV m fr σ) H2 { s2 with heap := h₁, toks := tk } := fun tk => by
    refine ⟨okX, rfl, I2.bare, Un.kept k4, ⟨_, hns₁, fun i x v e1 e2 e3 => ?_⟩, hcells, hC2, fun x c e => I2.freeC x c (W.sub x c e), fun p hp => absurd hp (by show p ∉ ([] : List (Addr × Obj)) ++ []; simp), I3.hok.kept k4, by show _ = N'.length; rw [W.len]; simp [compV]⟩
    unfold compV at e2
    by_cases hm' : i < m
    · rw [List.getElem?_append_left (by simpa using hm'), List.getElem?_replicate, if_pos hm'] at e2
      cases e2
    · rw [List.getElem?_append_right (by simpa using hm'), List.getElem?_map] at e2
      simp only [List.length_replicate] at e2
      cases qf : fr[i - m]? with
      | none => rw [qf] at e2; cases e2
      | some k =>
        rw [qf] at e2
        simp only [Option.map_some, Option.some.injEq] at e2
        have e2' : σ[k]? = some (some v) := by
          cases qk : σ[k]? with
          | none => rw [qk] at e2; cases e2
          | some w => rw [qk] at e2; simp only [Option.elim_some, id] at e2; rw [e2]
        obtain ⟨x', c, w1, w2, w3, w4, w5, w6⟩ := W.free (i - m) k qf
        have hx : x' = x := by
          have : m + (i - m) = i := by omega
          rw [this] at w1
          have e1' : N'[i]? = some x := e1
          rw [e1'] at w1; cases w1; rfl
        subst hx
        obtain ⟨m0, hn0, hl0⟩ := I2.loc
        obtain ⟨u, r, l⟩ := hl0 k x' v w2 e2' w3
        refine ⟨u, r, ?_⟩
        rcases l with ⟨l1, _⟩ | ⟨l1, c', l2, o, g, d⟩
        · rcases w4 with z | z <;> (rw [z] at l1; cases l1)
        · have hcc : c' = c := by
            have := W.sub x' c w5
            rw [l2] at this; cases this; rfl
          subst hcc
          exact .inr ⟨w6, c', w5, o, k4 _ _ (k3 _ _ g), d⟩
  have R4 := rep_comp m fr R2
  have st4 : tn 0 h₁ := T.keep 0 _ _ st2 fun b hb o e => k4 _ _ (k3 _ _ e)
  have hfp : ∀ b ∈ acc :: fp, b ≠ C ∧ b ∉ frs X.stack ∧ ∀ x c, cl.lookup x = some c → c ≠ b := fun b hb => by
    obtain ⟨⟨g1, g2, g3, g4, g5, g6⟩, g7⟩ := f3 b hb
    refine ⟨Nat.ne_of_lt (by rw [← hCC]; exact g7), fun z => ?_, fun x c e => g5 x c (W.sub x c e)⟩
    rcases List.mem_cons.mp (I2.stkSub b z) with w | w
    · exact g2 w
    · exact g3 w
  have hCs : s2.heap.objs.size ≤ C := by rw [hA, hC]; exact Nat.le_succ _
  have loop : ∀ tk, codeAny (model X.prog X.w) X.A (.compLoop (.ListComp elt [⟨tg, iter, [], 0⟩] scope pos) 0 (.ref it) (.ref acc) (compEnvC scope cl C X.env)) (RR (.ref acc) C) { s2 with heap := h₁, toks := tk } := fun tk => by
    refine comp_loop (m := m) (its0 := #[]) hcalm T Y hR hz' hkt (fun i h sv => compS_low i h sv) (ht C _ H2 (acc :: fp)) (he C _ H2 (acc :: fp)) hacc hfp ?_ (I4 tk) R4 st4 (fun b hb => (f3 b hb).1.1) ⟨0, k4 _ _ a3⟩
    intro s' σ' H' ys its J e' ha' hf' p' v' r'
    have K1 : Inv X pins σ H' s' := I3.call' (ch := acc :: fp) J.os J.base J.hok J.bare fun b hb => by
      obtain ⟨⟨g1, g2, g3, g4, g5, g6⟩, g7⟩ := f3 b hb
      exact ⟨g4, g2, g5, g6⟩
    obtain ⟨⟨g1, g2, g3, g4, g5, g6⟩, g7⟩ := f3 acc (by simp)
    obtain ⟨n', o'⟩ := p'
    have K2 := K1.track (o := .lst ys) ha' (fun ob e _ => absurd (Nat.lt_of_lt_of_le (Heap.lt_size e) (by rw [← hA]; exact I2.sz)) (Nat.lt_irrefl _)) g2 g5 g6
      ⟨by rw [r'.length]; exact hz, its.toList, n', v', by simpa using o'⟩
    obtain ⟨mC, hmC, _⟩ := J.loc
    have sm := same_upd ha' (.lst ys)
    have hCa : C ≠ acc := by omega
    refine fin acc C s' (upd H' acc (.lst ys)) rs ys mC ev K2 (e2.trans (e'.trans sm)) (e2.free hacc2) upd_same (r'.mono sm) hmC (by rw [upd_ne hCa]; exact J.free) hCa (Nat.le_trans I2.sz hCs) (I2.nofs hCs) (Nat.ne_of_gt (Nat.lt_of_lt_of_le I2.lt hCs)) (fun x c e z => ?_) fun p hp z => ?_
    · obtain ⟨v, q⟩ := I2.cell x c e
      exact absurd (Nat.lt_of_lt_of_le q.lt (by rw [z]; exact hCs)) (Nat.lt_irrefl _)
    · exact absurd (Nat.lt_of_lt_of_le (Heap.lt_size (I2.pin p hp).1) (by rw [z]; exact hCs)) (Nat.lt_irrefl _)
  exact codeAny_compStart_list (loop _) (T.self X.A 0 _ _ _ st4 (loop _))
theorem pd_comp (W : Around' X m fr N' scope cl) (hcalm : X.calm = true) (hkt : KeepsT m t) (hi : PID X tg iter fi) (ht : ∀ C s H fp, PGD (compX X N' scope cl C s H fp) tg t) (he : ∀ C s H fp, PD (compX X N' scope cl C s H fp) elt fe)
    (hf : ∀ x, foldedSetIterable iter X.env x = pure x := by intro _; rfl) : PD X (.ListComp elt [⟨tg, iter, [], 0⟩] scope pos) (compD m fr t fe fi) := by
  intro pins s σ G H δ I R hs
  rw [eval_ListComp]
  refine wpAny_comprehension_free (use := none) rfl hf W.clos W.kind W.names (comp_run W hcalm hkt hi ht he I R hs (fun _ _ q => q) (RR := fun acc C => compPost _ _ _ none _ acc C) ?_)
  intro a C s' H' ds xs mC ev J e' ha hx hr hns hC hCa hC0 hCf hCl hCc hCp
  refine ⟨mC, hns, fun h' hs' => ?_⟩
  exact ⟨.lst ds, .ref a, H', ev, J.but (t' := s'.toks) hC hC0 hCl hCc hCp hs', rfl, e', mkL (SqL.of hx) hr⟩
end
end DL
set_option Elab.async false
set_option linter.all false
set_option maxRecDepth 100000
namespace DL
open PySem PySem.Spec PyProof.Rows L2
mutual
noncomputable def toP : D → PyData
  | .non => .none
  | .bl b => .bool b
  | .int i => .int i
  | .str x => .str x
  | .tup ds => .tuple (toPs ds)
  | .lst ds => .list (toPs ds)
  | .exc _ => .none
noncomputable def toPs : List D → List PyData
  | [] => []
  | d :: ds => toP d :: toPs ds
end
noncomputable def okD : Nat → D → Bool
  | _, .non => true
  | _, .bl _ => true
  | _, .int _ => true
  | _, .str x => PyData.strOk x
  | n + 1, .tup ds => ds.all (okD n)
  | n + 1, .lst ds => ds.all (okD n)
  | _, _ => false
theorem okD_lay : ∀ (n : Nat) (d : D), okD n d = true → (toP d).canLay0 = true ∧ (toP d).depth ≤ n := by
  intro n
  have all : ∀ n, (∀ d, okD n d = true → (toP d).canLay0 = true ∧ (toP d).depth ≤ n) → ∀ ds : List D, (∀ d ∈ ds, okD n d = true) → PyData.canLayAll0 (toPs ds) = true ∧ PyData.depthAll (toPs ds) ≤ n := by
    intro n ih ds
    induction ds with
    | nil => intro _; simp [toPs, PyData.canLayAll0, PyData.depthAll]
    | cons d ds hi =>
      intro h
      have q1 := ih d (h d (.head _))
      have q2 := hi fun x hx => h x (.tail _ hx)
      simp only [toPs, PyData.canLayAll0, PyData.depthAll, Bool.and_eq_true]
      exact ⟨⟨q1.1, q2.1⟩, by omega⟩
  induction n with
  | zero =>
    intro d h
    cases d <;> simp_all [okD, toP, PyData.canLay0, PyData.depth]
  | succ n ih =>
    intro d h
    cases d with
    | tup ds =>
      have := all n ih ds (by simpa [okD] using h)
      simp only [toP, PyData.canLay0, PyData.depth]
      exact ⟨this.1, by omega⟩
    | lst ds =>
      have := all n ih ds (by simpa [okD] using h)
      simp only [toP, PyData.canLay0, PyData.depth]
      exact ⟨this.1, by omega⟩
    | _ => simp_all [okD, toP, PyData.canLay0, PyData.depth]
section
variable {X : Cx} {pins : List (Addr × Obj)} {σ : St} {H : Hp} {s : Shared}
mutual
theorem reads_of (I : Inv X pins σ H s) : ∀ (n : Nat) {d : D} {v : V} {u : Value}, okD n d = true → Rep X.K H d v → RelV v u → ∃ as, Reads s.heap u (toP d) as
  | n, .non, v, u, _, p, r => by rw [Rep] at p; subst p; cases r; rw [toP]; exact ⟨_, Reads.none⟩
  | n, .bl b, v, u, _, p, r => by rw [Rep] at p; subst p; cases r; rw [toP]; exact ⟨_, Reads.bool b⟩
  | n, .int i, v, u, _, p, r => by rw [Rep] at p; subst p; obtain ⟨t, rfl⟩ := r; rw [toP]; exact ⟨_, Reads.int i t⟩
  | n, .str x, v, u, _, p, r => by rw [Rep] at p; subst p; obtain ⟨t, rfl⟩ := r; rw [toP]; exact ⟨_, Reads.str x t⟩
  | n + 1, .tup ds, v, u, h, p, r => by
    obtain ⟨a, xs, rfl, hq, rs⟩ := repT p
    cases r
    obtain ⟨its, rv, ⟨o, g, c, k, d⟩, hz⟩ := I.tuple hq
    obtain ⟨as, q⟩ := reads_all I n (by simpa [okD] using h) rs rv
    rw [toP]
    exact ⟨as, reads_tuple_at g c d (by simpa using q)⟩
  | n + 1, .lst ds, v, u, h, p, r => by
    obtain ⟨a, xs, rfl, hq, rs⟩ := repL p
    cases r
    obtain ⟨its, rv, ⟨o, k, g, c, _, d⟩, hz⟩ := I.list hq
    obtain ⟨as, q⟩ := reads_all I n (by simpa [okD] using h) rs rv
    rw [toP]
    exact ⟨_, reads_list_at g c d (by simpa using q)⟩
  | 0, .tup ds, v, u, h, p, r => by simp [okD] at h
  | 0, .lst ds, v, u, h, p, r => by simp [okD] at h
  | n, .exc c, v, u, h, p, r => by cases n <;> simp [okD] at h
theorem reads_all (I : Inv X pins σ H s) : ∀ (n : Nat) {ds : List D} {vs : List V} {us : List Value}, (∀ d ∈ ds, okD n d = true) → Reps X.K H ds vs → Vals vs us → ∃ as, ReadsAll s.heap us (toPs ds) as
  | n, [], vs, us, _, p, r => by
    cases p.nil_of
    cases r
    rw [toPs]
    exact ⟨_, ReadsAll.nil⟩
  | n, d :: ds, vs, us, h, p, r => by
    obtain ⟨v, ws, rfl, p1, p2⟩ := p.cons_of
    cases r with
    | cons r1 r2 =>
      obtain ⟨as, q⟩ := reads_of I n (h d (.head _)) p1 r1
      obtain ⟨bs, q2⟩ := reads_all I n (fun x hx => h x (.tail _ hx)) p2 r2
      rw [toPs]
      exact ⟨_, ReadsAll.cons q q2⟩
end
end
noncomputable def eqD (a b : D) : Res D := if okD 8 a = true ∧ okD 8 b = true then .ok (.bl (PyData.eqv (toP a) (toP b))) else .stuck
noncomputable def neD (a b : D) : Res D := if okD 8 a = true ∧ okD 8 b = true then .ok (.bl (!PyData.eqv (toP a) (toP b))) else .stuck
theorem ne_eqD (x y : D) : NoErr (eqD x y) := noErr_ite noErr_ok noErr_stuck
theorem ne_neD (x y : D) : NoErr (neD x y) := noErr_ite noErr_ok noErr_stuck
theorem shaped_ok {d : D} (h : okD 8 d = true) : SeqAt.shaped (toP d) = true := by
  have := okD_lay 8 d h
  unfold SeqAt.shaped
  rw [this.1, Bool.true_and]
  exact decide_eq_true (Nat.le_trans this.2 (by decide))
theorem od_eq {X : Cx} (hu : X.A.units + 64 < cLine) : OpD X (compareOp .Eq) eqD := by
  intro E pins s σ H x y v u a b d I r1 r2 p1 p2 e
  unfold eqD at e
  split at e
  · rename_i c
    cases e
    obtain ⟨as, ra⟩ := reads_of I 8 c.1 p1 r1
    obtain ⟨bs, rb⟩ := reads_of I 8 c.2 p2 r2
    exact SeqAt.compareEq_shaped ra rb (shaped_ok c.1) (shaped_ok c.2) hu ⟨_, .bl _, H, rfl, I, rfl, Same.refl H, mkB⟩
  · cases e
theorem od_ne {X : Cx} (hu : X.A.units + 64 < cLine) : OpD X (compareOp .NotEq) neD := by
  intro E pins s σ H x y v u a b d I r1 r2 p1 p2 e
  unfold neD at e
  split at e
  · rename_i c
    cases e
    obtain ⟨as, ra⟩ := reads_of I 8 c.1 p1 r1
    obtain ⟨bs, rb⟩ := reads_of I 8 c.2 p2 r2
    exact SeqAt.compareNe_shaped ra rb (shaped_ok c.1) (shaped_ok c.2) hu ⟨_, .bl _, H, rfl, I, rfl, Same.refl H, mkB⟩
  · cases e
noncomputable def tyName : D → String
  | .non => "NoneType"
  | .bl _ => "bool"
  | .int _ => "int"
  | .str _ => "str"
  | .tup _ => "tuple"
  | .lst _ => "list"
  | .exc _ => ""
theorem exc_ga {K : PySem.W.Frag} {prog : Program} {w : World} {A : Around} {s : Shared} {x D : Addr} {ox : Obj} {tk : Tok} {R : Result → Shared → Prop}
    (hdct : PySem.W.hasDictIn K D = true) (ha : PySem.W.findIn K (.ref D) "__class__" = some (some (.builtin "object.__class__")))
    (hn : PySem.W.specialIn K (.builtin "object.__class__") "__get__" = some (some (.builtin "getset_descriptor.__get__"))) (htk : PySem.W.takesIn K (.builtin "object.__class__") = some true) (hm : PySem.W.mroIn K D (.type "object") = some true) (hB : PySem.W.mroIn K D (.type "BaseException") = some true)
    (X : K.In s.heap) (I : PySem.W.InstAt s.heap x ox D none) (h : R (.ok (.ret (.ref D))) s) :
    codeAny (model prog w) A (.call (.builtin "BaseException.__getattribute__") ⟨[.ref x, .str "__class__" tk], []⟩) R s := by
  have hf : PySem.W.findObj K D none "__class__" = some (.bind (.builtin "getset_descriptor.__get__") (.builtin "object.__class__")) := by
    obtain ⟨cd, hc, _⟩ := PySem.W.any_some hdct
    unfold PySem.W.findObj
    rw [hc, Option.bind_some, ha, Option.bind_some]
    simp [hn, htk]
  have hk : builtinKind "BaseException.__getattribute__" = some .slot := by decide +kernel
  have hsplit : splitId "BaseException.__getattribute__" = some ("BaseException", "__getattribute__") := by decide +kernel
  have L0 := I.type (M := model prog w)
  have L1 := PySem.W.looks_find (M := model prog w) X I hf
  have L2 := PySem.W.looks_mroIn (M := model prog w) X hB
  have har := F.args_bexc_ga (.ref x) (.str "__class__" tk)
  refine codeAny_call_builtin (by decide +kernel) F.entry_bexc_ga ?_
  simp only [checkBuiltinCall, hk, hsplit]
  refine wpAny_bind ?_
  unfold isInstance
  refine wpAny_bind (L0.at (L2.at ?_))
  simp only [Bool.not_true, Bool.false_eq_true, if_false]
  repeat (first | with_reducible refine wpAny_pure ?_ | with_reducible refine wpAny_bind ?_ | wp_step)
  obtain ⟨hh, g, dr, t, os⟩ := s
  refine wpAny_loadPart I.at_ (wpAny_pure ?_)
  rw [I.cls]
  refine wpAny_bind (L1.at ?_)
  show wpAny _ _ (Builtin.ObjectAttr.bindTo _ _ _ _) _ _ _
  unfold Builtin.ObjectAttr.bindTo
  refine wpAny_bind (wpAny_holding (wpAny_call (PySem.W.class_get (s := ⟨hh, g, dr, t, os⟩) (ox := ox) (od := none) X I hm ?_)))
  exact wpAny_pure h
theorem exc_class {K : PySem.W.Frag} {prog : Program} {w : World} {A : Around} {E : Value → Shared → Prop} {s : Shared} {x D : Addr} {ox : Obj} {Q : Option Value → Shared → Prop}
    (hga : PySem.W.findIn K (.ref D) "__getattribute__" = some (some (.builtin "BaseException.__getattribute__"))) (hgk : PySem.W.findIn K (.ref D) "__getattr__" = some none)
    (hdct : PySem.W.hasDictIn K D = true) (ha : PySem.W.findIn K (.ref D) "__class__" = some (some (.builtin "object.__class__")))
    (hn : PySem.W.specialIn K (.builtin "object.__class__") "__get__" = some (some (.builtin "getset_descriptor.__get__"))) (htk : PySem.W.takesIn K (.builtin "object.__class__") = some true) (hm : PySem.W.mroIn K D (.type "object") = some true) (hB : PySem.W.mroIn K D (.type "BaseException") = some true)
    (X : K.In s.heap) (I : PySem.W.InstAt s.heap x ox D none) (h : Q (some (.ref D)) { s with toks := s.toks + 1 }) : wpAny (model prog w) A (getAttr? (.ref x) "__class__") Q E s := by
  obtain ⟨hh, g, d, t, os⟩ := s
  have L0 := I.type (M := model prog w)
  have L1 := PySem.W.looks_findIn (M := model prog w) X hga
  have Lk := PySem.W.looks_findIn (M := model prog w) X hgk
  unfold getAttr? getAttrBy? getAttrBy
  refine wpAny_bind (wpAny_mkText (wpAny_bind (wpAny_attempt (wpAny_holding (wpAny_bind (L0.at (wpAny_bind (L1.at ?_))))))))
  show wpAny _ _ (getAttrByItsOwn _ _ _ _ _ _) _ _ _
  unfold getAttrByItsOwn hookBefore
  refine wpAny_bind (Lk.at ?_)
  refine wpAny_bind (wpAny_attempt (wpAny_holding ?_))
  show wpAny _ _ (boundAndCalled _ _ _) _ _ _
  unfold boundAndCalled
  rw [PySem.F.attrBase_ValueError.ga.bind]
  refine wpAny_bind (wpAny_pure (wpAny_call (exc_ga (s := ⟨hh, g, d, t + 1, os⟩) hdct ha hn htk hm hB X I ?_)))
  exact PySem.W.handed_on rfl (wpAny_pure h)
structure ExcCls (K : PySem.W.Frag) (C : Addr) : Prop where
  hga : PySem.W.findIn K (.ref C) "__getattribute__" = some (some (.builtin "BaseException.__getattribute__"))
  hgk : PySem.W.findIn K (.ref C) "__getattr__" = some none
  hdct : PySem.W.hasDictIn K C = true
  ha : PySem.W.findIn K (.ref C) "__class__" = some (some (.builtin "object.__class__"))
  hn : PySem.W.specialIn K (.builtin "object.__class__") "__get__" = some (some (.builtin "getset_descriptor.__get__"))
  htk : PySem.W.takesIn K (.builtin "object.__class__") = some true
  hm : PySem.W.mroIn K C (.type "object") = some true
  hB : PySem.W.mroIn K C (.type "BaseException") = some true
theorem kitx_exc {K : PySem.W.Frag} {a C : Addr} (W : ExcCls K C) : PySem.W.KitX K (.ref a) (.ref C) (excAt a C) where
  ty := fun M h _ ⟨o, vs, g, c, _⟩ => by rw [← c]; exact (PySem.W.Looks.ld g).andThen .now
  it := fun _ _ X _ => by
    obtain ⟨cdD, hcD, _⟩ := PySem.W.any_some W.hdct
    unfold PySem.W.clsIn at hcD
    split at hcD
    · rename_i c' d' cd' sl' ho
      intro A' Q' E' s' k q
      unfold isType loadHead
      exact wpAny_bind (wpAny_loadPart (k _ _ (X _ _ ho)) (wpAny_pure q))
    · cases hcD
  ne := fun h tp dd its n sl X htp => by
    obtain ⟨cdD, hcD, _⟩ := PySem.W.any_some W.hdct
    refine Bool.eq_false_iff.mpr fun q => ?_
    have e : C = tp := Value.ref.inj (beq_iff_eq.mp q)
    subst e
    unfold PySem.W.clsIn at hcD
    split at hcD
    · rename_i c' d' cd' sl' ho
      have z := (X _ _ ho).symm.trans htp
      cases z
    · cases hcD
  ca := fun X ⟨o, vs, g, c, d, dd⟩ k => exc_class W.hga W.hgk W.hdct W.ha W.hn W.htk W.hm W.hB X ⟨g, c, by unfold PySem.W.notCls; rw [dd], by rw [d]; trivial⟩ k
noncomputable def IsOk (K : PySem.W.Frag) (cv : Value) (b : Bool) : D → Prop
  | .exc n => ∀ C, PySem.W.nsIn K mainGlobals n = some (some (.ref C)) → ExcCls K C ∧ PySem.W.kitOne K (.ref C) cv = some b
  | d => PySem.W.kitOne K (.type (tyName d)) cv = some b
theorem isinst_d {X : Cx} {pins : List (Addr × Obj)} {σ : St} {H : Hp} {s : Shared} {A : Around} {E : Value → Shared → Prop} {Q : Value → Shared → Prop} {cv u : Value} {v : V} {d : D} {b : Bool} (I : Inv X pins σ H s) (p : Rep X.K H d v) (r : RelV v u) (ok : IsOk X.K cv b d)
    (h : ∀ tk, Q (.bool b) { s with toks := tk }) : wpAny (model X.prog X.w) A (call (.builtin "isinstance") [u, cv]) Q E s := by
  cases d with
  | non => rw [Rep] at p; subst p; exact isinst_ok I r .non ok h
  | bl k => rw [Rep] at p; subst p; exact isinst_ok I r (.bl k) ok h
  | int k => rw [Rep] at p; subst p; exact isinst_ok I r (.int k) ok h
  | str k => rw [Rep] at p; subst p; exact isinst_ok I r (.str k) ok h
  | tup ds =>
    obtain ⟨a, xs, rfl, hq, _⟩ := repT p
    cases r
    obtain ⟨its, _, ⟨o, g, c, _⟩, _⟩ := I.tuple hq
    exact PySem.W.kia_one PySem.W.kitx_tuple I.kIn ⟨o, g, c⟩ ok (fun z => nomatch z) h
  | lst ds =>
    obtain ⟨a, xs, rfl, hq, _⟩ := repL p
    cases r
    obtain ⟨its, _, ⟨o, _, g, c, _⟩, _⟩ := I.list hq
    exact PySem.W.kia_one PySem.W.kitx_list I.kIn ⟨o, g, c⟩ ok (fun z => nomatch z) h
  | exc n =>
    rw [Rep] at p
    obtain ⟨a, C, rfl, hC, hH⟩ := p
    cases r
    obtain ⟨W, ok⟩ := ok C hC
    exact PySem.W.kia_one (kitx_exc W) I.kIn (I.hok a _ hH).1 ok (fun z => nomatch z) h
theorem boot_isi : bootBuiltins "isinstance" = some (.builtin "isinstance") := by decide +kernel
noncomputable def isG (isF : D → Option Bool) (d : D) : Res D := match isF d with | some b => .ok (.bl b) | none => .stuck
section
variable {X : Cx} {e : Expr} {f : DS → Res D} {c : Str} {p cp pos : Pos} {cv : Value} {isF : D → Option Bool}
theorem pd_isinst (hI : ∀ d b, isF d = some b → IsOk X.K cv b d) (ha : PD X e f) (hc : ∀ (pins : List (Addr × Obj)) (σ : St) (H : Hp) (s : Shared) (E : Value → Shared → Prop) (Q : Value → Shared → Prop), Inv X pins σ H s → Q cv s → wpAny (model X.prog X.w) X.A (eval (.Name c cp) X.env) Q E s)
    (hg : Gl X "isinstance") (hm : X.mg "isinstance" = none) (he : starEach [e, .Name c cp] X.env = (false, eval e X.env) :: starEach [.Name c cp] X.env := by rfl) (he2 : starEach [.Name c cp] X.env = [(false, eval (.Name c cp) X.env)] := by rfl) :
    PD X (.Call (.Name "isinstance" p) [e, .Name c cp] [] pos) (fun δ => (f δ).bind (isG isF)) := by
  intro pins s σ G H δ I R hs
  try dsimp only at hs ⊢
  refine wpAny_Call_Name_kw (ld_blt I hg hm (u := .builtin "isinstance") boot_isi ?_ (by decide) (by decide))
  refine PyProof.Rows.callWith_builtin1 ?_ he (by rw [he2]; rfl)
  rw [he]
  show wpAny _ _ (spliced ((false, eval e X.env) :: backTo pos (starEach [.Name c cp] X.env))) _ _ s
  refine Calls.spliced_cons (ha.use I R (bind_l hs) (fun d u s1 v H1 q I1 r1 e1 b1 p1 => ?_) fun e s1 q => q.same fun x z => bind_x z)
  rw [he2]
  show wpAny _ _ (spliced ((false, eval (.Name c cp) X.env) :: backTo pos [])) _ _ s1
  refine Calls.spliced_cons (hc pins σ H1 s1 _ _ I1 (Calls.spliced_nil ?_))
  have h2 := bind_r hs q
  cases z : isF d with
  | none => exact (h2 (by unfold isG; rw [z])).elim
  | some b => exact isinst_d I1 p1 r1 (hI d b z) fun tk => ⟨.bl b, .bl b, H1, by rw [q, Res.bind_ok]; unfold isG; rw [z], I1.tok tk, rfl, e1, mkB⟩
theorem cls_blt {T : String} (hg : Gl X c) (hm : X.mg c = none) (hv : bootBuiltins c = some (.type T)) (hn : c ≠ "__name__" := by decide) (hd : (c == ("__debug__" : Str)) = false := by decide) (pins : List (Addr × Obj)) (σ : St) (H : Hp) (s : Shared) (E : Value → Shared → Prop) (Q : Value → Shared → Prop) (I : Inv X pins σ H s) (h : Q (.type T) s) :
    wpAny (model X.prog X.w) X.A (eval (.Name c cp) X.env) Q E s := ld_blt I hg hm hv h hn hd
theorem cls_glob {C : Addr} (hg : Gl X c) (hm : X.mg c = some (.ref C)) (hd : (c == ("__debug__" : Str)) = false := by decide) (pins : List (Addr × Obj)) (σ : St) (H : Hp) (s : Shared) (E : Value → Shared → Prop) (Q : Value → Shared → Prop) (I : Inv X pins σ H s) (h : Q (.ref C) s) :
    wpAny (model X.prog X.w) X.A (eval (.Name c cp) X.env) Q E s := ld_glob I hg hm h hd
end
end DL
set_option Elab.async false
set_option linter.all false
set_option maxRecDepth 100000
namespace DL
open PySem PySem.Spec PyProof.Rows L2
noncomputable def bools : List D → Option (List Bool)
  | [] => some []
  | .bl b :: ds => (bools ds).map (b :: ·)
  | _ => none
theorem bools_get : ∀ {ds : List D} {bs : List Bool} {i : Nat} {d : D}, bools ds = some bs → ds[i]? = some d → ∃ b, d = .bl b ∧ bs[i]? = some b
  | [], _, _, _, _, e => by simp at e
  | .bl b :: ds, bs, i, d, h, e => by
    simp only [bools] at h
    cases q : bools ds with
    | none => rw [q] at h; cases h
    | some cs =>
      rw [q] at h
      simp only [Option.map_some, Option.some.injEq] at h
      subst h
      cases i with
      | zero => simp at e; subst e; exact ⟨b, rfl, by simp⟩
      | succ i =>
        simp at e
        obtain ⟨b', e1, e2⟩ := bools_get q e
        exact ⟨b', e1, by simpa using e2⟩
  | .non :: ds, bs, i, d, h, e => by simp [bools] at h
  | .int _ :: ds, bs, i, d, h, e => by simp [bools] at h
  | .str _ :: ds, bs, i, d, h, e => by simp [bools] at h
  | .tup _ :: ds, bs, i, d, h, e => by simp [bools] at h
  | .lst _ :: ds, bs, i, d, h, e => by simp [bools] at h
  | .exc _ :: ds, bs, i, d, h, e => by simp [bools] at h
theorem bools_len : ∀ {ds : List D} {bs : List Bool}, bools ds = some bs → bs.length = ds.length
  | [], bs, h => by simp [bools] at h; subst h; rfl
  | .bl b :: ds, bs, h => by
    simp only [bools] at h
    cases q : bools ds with
    | none => rw [q] at h; cases h
    | some cs =>
      rw [q] at h
      simp only [Option.map_some, Option.some.injEq] at h
      subst h
      simp [bools_len q]
  | .non :: ds, bs, h => by simp [bools] at h
  | .int _ :: ds, bs, h => by simp [bools] at h
  | .str _ :: ds, bs, h => by simp [bools] at h
  | .tup _ :: ds, bs, h => by simp [bools] at h
  | .lst _ :: ds, bs, h => by simp [bools] at h
  | .exc _ :: ds, bs, h => by simp [bools] at h
theorem range_all (bs : List Bool) : (List.range bs.length).all (fun i => bs.getD i true) = bs.all id := by
  rw [Bool.eq_iff_iff]
  simp only [List.all_eq_true, List.mem_range, id]
  constructor
  · intro h b hb
    obtain ⟨i, hi, rfl⟩ := List.mem_iff_getElem.mp hb
    have := h i hi
    simpa [List.getD, hi] using this
  · intro h i hi
    have := h bs[i] (List.getElem_mem hi)
    simpa [List.getD, hi] using this
noncomputable def allG : List D → Res D
  | [.lst ds] => match bools ds with | some bs => .ok (.bl (bs.all id)) | none => .stuck
  | _ => .stuck
theorem ne_allG (ds : List D) : NoErr (allG ds) := by
  unfold allG
  split
  · split
    · exact noErr_ok
    · exact noErr_stuck
  · exact noErr_stuck
theorem bool_walk {X : Cx} {pins : List (Addr × Obj)} {s : Shared} {σ : St} {H : Hp} {a : Addr} {xs : List V} {ds : List D} {bs : List Bool} {its : List Value} (rv : Vals xs its) (r : Reps X.K H ds xs) (hb : bools ds = some bs) {A : Around} :
    TruthOf X.prog X.w A (fun i v => its.toArray[i]? = some v) (fun i => bs.getD i true) := by
  intro i v s Q E hP hQ
  have hP' : its[i]? = some v := by simpa using hP
  have hl : i < xs.length := by rw [rv.length]; exact (List.getElem?_eq_some_iff.mp hP').1
  obtain ⟨d, e1, e2⟩ := r.get' (i := i) (v := xs[i]) (by simp [hl])
  obtain ⟨b, rfl, e3⟩ := bools_get hb e1
  obtain ⟨u, e4, e5⟩ := rv.get (i := i) (x := xs[i]) (by simp [hl])
  rw [hP'] at e4; cases e4
  rw [repB e2] at e5
  cases e5
  refine wpAny_truthy_bool ?_
  simpa [List.getD, e3] using hQ
theorem cd_all {X : Cx} (hcalm : X.calm = true) : CallD X (.builtin "all") allG := by
  intro E pins s σ H xs us ds d I r p e
  unfold allG at e
  split at e
  · rename_i es
    split at e
    · rename_i bs hb
      cases e
      obtain ⟨v, vs, rfl, p1, t⟩ := p.cons_of
      cases t.nil_of
      obtain ⟨u, rfl, rx⟩ := vals1 r
      obtain ⟨a, ys, rfl, hq, rs⟩ := repL p1
      cases rx
      obtain ⟨its, rv, pl, hz⟩ := I.list hq
      refine call_all_walk (wpAny_pyIter_list pl.isList ?_)
      have hax : a ≠ s.heap.objs.size := by
        obtain ⟨o, _, g, _⟩ := pl
        exact Nat.ne_of_lt (Heap.lt_size g)
      have hn : its.toArray.size = bs.length := by rw [List.size_toArray, ← rv.length, rs.length, bools_len hb]
      refine ⟨_, _, _, _, _, _, fun i => bs.getD i true, rfl, Walks.list (A := X.A.in1) (show X.A.in1.handled = none from I.ok.hd hcalm) s.heap.objs.size a hax its.toArray, ⟨⟨_, Heap.get?_push_size _ rfl, rfl, rfl⟩, (let ⟨o, g, r⟩ := pl.isList; ⟨o, Heap.get?_push_of_some _ g, r⟩)⟩, bool_walk (X := X) (pins := pins) (s := s) (σ := σ) (H := H) (a := a) rv rs hb, fun h' tk hk => ?_⟩
      rw [hn, range_all]
      have k : ∀ b o, s.heap.get? b = some o → h'.get? b = some o := fun b o e => hk b o (by
        intro z
        have : b = s.heap.objs.size := by simpa using z
        exact absurd (Heap.lt_size e) (by rw [this]; exact Nat.lt_irrefl _)) (Heap.get?_push_of_some _ e)
      exact ⟨_, .bl _, H, rfl, I.kept (t' := tk) k, rfl, Same.refl H, mkB⟩
    · cases e
  · cases e
noncomputable def MtD (X : Cx) (id : String) (g : D → List D → Res D) : Prop :=
  ∀ (E : Value → Shared → Prop) (pins : List (Addr × Obj)) (s : Shared) (σ : St) (H : Hp) (x : V) (xs : List V) (v : Value) (us : List Value) (a : D) (ds : List D) (d : D), Inv X pins σ H s → RelV x v → Vals xs us → Rep X.K H a x → Reps X.K H ds xs → g a ds = .ok d →
    wpAny (model X.prog X.w) X.A (call (.builtin id) (v :: us)) (EPost X pins σ H (.ok d)) E s
noncomputable def tyD (T : String) : D → Prop
  | .str _ => T = "str"
  | .int _ => T = "int"
  | .lst _ => T = "list"
  | _ => False
noncomputable def tyB (T : String) : D → Bool
  | .str _ => T == "str"
  | .int _ => T == "int"
  | .lst _ => T == "list"
  | _ => false
theorem tyB_of {T : String} {d : D} (h : tyB T d = true) : tyD T d := by
  cases d <;> first | exact beq_iff_eq.mp h | cases h
noncomputable def methD (T : String) (g : D → List D → Res D) (fo : DS → Res D) (fs : DS → Res (List D)) : DS → Res D := fun δ => (fo δ).bind fun d => if tyB T d = true then (fs δ).bind fun ds => g d ds else .stuck
section
variable {X : Cx} {o e : Expr} {es : List Expr} {fo : DS → Res D} {fs : DS → Res (List D)} {name : Str} {apos cpos : Pos} {T id : String} {g : D → List D → Res D}
theorem tyV_of {H : Hp} {d : D} {v : V} (ty : tyD T d) (p : Rep X.K H d v) : tyV X.K T v H := by
  cases d with
  | str z => rw [Rep] at p; subst p; exact ty
  | int z => rw [Rep] at p; subst p; exact ty
  | lst ds => obtain ⟨a, xs, rfl, hq, _⟩ := repL p; exact .inl ⟨ty, xs, hq⟩
  | _ => exact ty.elim
theorem pd_meth (pa : PlainAttrs T) (slot : Slot T name id) (hty : typeOf (.builtin id) = pure (.type "method_descriptor")) (hm : MtD X id g) (hne : ∀ d ds, NoErr (g d ds)) (ho : PD X o fo) (ha : PAD X (e :: es) fs)
    (hbase : attributeBase o name X.env (eval o X.env) = eval o X.env := by rfl)
    (hfew : ((backTo cpos (starEach (e :: es) X.env)).all (fun x => !x.1) && (backToKw cpos (keywordEach [] X.env)).all (fun x => x.1.isSome)
      && decide ((e :: es).length + ([] : List Keyword).length + (if ([] : List Keyword).isEmpty then 0 else 1) < 30)) = true := by rfl)
    (hline : (apos.endLine == cpos.line) = true := by rfl) (hse : starEach (e :: es) X.env = (false, eval e X.env) :: starEach es X.env := by rfl) (hplain : (backTo cpos (starEach es X.env)).any (·.1) = false := by rfl) :
    PD X (.Call (.Attribute o name apos) (e :: es) [] cpos) (methD T g fo fs) := by
  intro pins s σ G H δ I R hs
  unfold methD at hs ⊢
  refine wpAny_Call_method_late hbase hfew hline rfl (ho.use I R (bind_l hs) (fun d u s1 v H1 q I1 r1 e1 b1 p1 => ?_) fun e s1 q => q.same fun x z => bind_x z)
  have h2 := bind_r hs q
  have hB : tyB T d = true := by
    cases z : tyB T d with
    | true => rfl
    | false => rw [if_neg (by rw [z]; exact Bool.false_ne_true)] at h2; exact (h2 rfl).elim
  rw [if_pos hB] at h2
  have ev : ((fo δ).bind fun d => if tyB T d = true then (fs δ).bind fun ds => g d ds else .stuck) = (fs δ).bind fun ds => g d ds := by rw [q, Res.bind_ok, if_pos hB]
  rw [ev]
  have h3 : tyD T d := tyB_of hB
  obtain ⟨h1, h4⟩ := tyV_is I1 r1 (tyV_of h3 p1)
  refine ⟨T, id, pa, slot, hty, h1, h4, ?_⟩
  have hA := fun {P : List Value → Shared → Prop} {E : Value → Shared → Prop} k kx => PAD.use (pos := cpos) (P := P) (E := E) ha I1 (R.mono e1) (bind_l h2) k kx
  rw [hse] at hA ⊢
  refine Calls.callWith_builtin (by show (false || (backTo cpos (starEach es X.env)).any (·.1)) = false; rw [hplain] <;> rfl) (Calls.evalArgs_plain ?_)
  refine hA (fun ds us s2 vs H2 q2 I2 r2 e2 b2 p2 => ?_) fun e s2 q2 => q2.back e1 b1 fun x z => by rw [z]; rfl
  have h5 := bind_r h2 q2
  cases qg : g d ds with
  | stuck => exact (h5 qg).elim
  | err z => exact (hne d ds z qg).elim
  | ok r => exact thn (hm _ pins s2 σ H2 v vs u us d ds r I2 r1 r2 (p1.mono e2) p2 qg) fun w s3 p => p.from (e1.trans e2) (by rw [q2, Res.bind_ok, qg])
end
end DL
set_option Elab.async false
set_option linter.all false
set_option maxRecDepth 100000
namespace DL
open PySem PySem.Spec PyProof.Rows L2
noncomputable def bindF {α : Type} (f : DS → Res α) (g : α → Res D) : DS → Res D := fun δ => (f δ).bind g
noncomputable def bindL (f : DS → Res D) (g : D → Res (List D)) : DS → Res (List D) := fun δ => (f δ).bind g
noncomputable def bindT (f : DS → Res D) (g : D → Res Bool) : DS → Res Bool := fun δ => (f δ).bind g
noncomputable def notT (t : DS → Res Bool) : DS → Res Bool := fun δ => (t δ).bind fun c => .ok (!c)
noncomputable def tupF (f : DS → Res (List D)) : DS → Res D := fun δ => tupD (f δ)
noncomputable def lstF (f : DS → Res (List D)) : DS → Res D := fun δ => lstD (f δ)
noncomputable def negG : D → Res D
  | .int i => .ok (.int (-i))
  | _ => .stuck
noncomputable def negF (f : DS → Res D) : DS → Res D := fun δ => (f δ).bind negG
noncomputable def retD (f : DS → Res D) : DS → Out := fun δ => onD (f δ) δ Out.ret
noncomputable def ifS (t : DS → Res Bool) (a b : DS → Out) : DS → Out := fun δ => onT (t δ) δ fun k => if k = true then a δ else b δ
noncomputable def whileF (fuel : DS → Nat) (c : DS → Res Bool) (b : DS → Out) : DS → Out := fun δ => whileD c b (fuel δ) δ
noncomputable def tgtN (i : Nat) : TGD := fun d δ => some (δ.set i (some (.val d)))
noncomputable def forR (r : List D → Res (List D)) (t : TGD) (a : DS → Res (List D)) (b : DS → Out) : DS → Out := fun δ => onL ((a δ).bind r) fun ds => forD t b ds δ
theorem pd_negF {X : Cx} {a : Expr} {fa : DS → Res D} {pos : Pos} (ha : PD X a fa) : PD X (.UnaryOp .USub a pos) (negF fa) :=
  pd_un (g := negG) (fun E pins s σ H x v d r I r1 p1 e => by
    cases d with
    | int i =>
      simp only [negG, Res.ok.injEq] at e
      subst e
      exact wpAny_mono (un_neg (X := X.wish fun _ _ => False) pins s σ H x v (fun z H' => z = .int (-i) ∧ H' = H) (I.wish _) r1 ⟨i, repI p1, rfl, rfl⟩) (fun u s1 ⟨z, H1, I1, r2, e1, e2⟩ => by
        subst e1 e2
        exact ⟨_, _, _, rfl, I1.unwish, r2, Same.refl _, mkI⟩) fun _ _ z => z.elim
    | _ => simp [negG] at e) (fun x => by cases x <;> first | exact noErr_stuck | exact noErr_ok) ha
theorem keeps_name {m i : Nat} (h : i < m) : KeepsT m (tgtN i) := by
  intro d δ δ1 e
  simp only [tgtN, Option.some.injEq] at e
  subst e
  exact ⟨by simp, fun j hj => by rw [List.getElem?_set_ne (by omega)]⟩
theorem len_cons1 {f : DS → Res D} {δ : DS} {ds : List D} (h : consD f (fun _ => .ok []) δ = .ok ds) : ds.length ≤ sizeLine := by
  unfold consD at h
  cases q : f δ with
  | stuck => rw [q] at h; cases h
  | err x => rw [q] at h; cases h
  | ok d => rw [q] at h; cases h; show 1 ≤ sizeLine; decide
theorem relabel_no {scope : Scope} {env : Env} (hf : ∀ y ∈ scope.names, y.2 ≠ .free) : relabel scope env = scope := by
  unfold relabel
  have : (scope.names.map fun x => match x with | (n, k) => if (k == .free && env.scope.kind == .function && env.kindOf n == some .cell) = true then (n, NameKind.cell) else (n, k)) = scope.names := by
    refine map_eq_self fun x hx => ?_
    obtain ⟨n, k⟩ := x
    have : (k == NameKind.free) = false := by simpa using hf _ hx
    simp [this]
  show { scope with names := _ } = scope
  rw [this]
theorem around0 {X : Cx} {m : Nat} {N' : List Str} {scope : Scope} (hf : ∀ y ∈ scope.names, y.2 ≠ .free := by decide +kernel) (hc : ∀ y ∈ scope.names, y.2 ≠ .cell := by decide +kernel) (hk : scope.kind = .function := by rfl)
    (hn : ∀ x ∈ scope.names, x.2 = .local → scope.names.lookup x.1 = some .local := by decide +kernel) (hl : N'.length = m := by rfl) : Around' X m [] N' scope [] where
  clos := closureFor_none hf
  nocell := hc
  kind := hk
  names := hn
  sub := fun x c h => by simp at h
  has := fun x h => by
    exfalso
    rw [relabel_no hf] at h
    rcases h with h | h
    · exact hc _ (PySem.mem_of_lookup h) rfl
    · exact hf _ (PySem.mem_of_lookup h) rfl
  len := by simpa using hl
  free := fun j i h => by simp at h
end DL
set_option Elab.async false
set_option linter.all false
set_option maxRecDepth 100000
namespace DL
open PySem PySem.Spec PyProof.Rows L2
noncomputable def startsG : D → List D → Res D
  | .str x, [.str y] => .ok (.bl (Txt.startswith x y))
  | _, _ => .stuck
noncomputable def splitG : D → List D → Res D
  | .str x, [.str y] => if (y.length == 0) = false ∧ x.length + 2 ≤ sizeLine then .ok (.lst ((Txt.split x y).map .str)) else .stuck
  | _, _ => .stuck
theorem ne_starts (d : D) (ds : List D) : NoErr (startsG d ds) := by
  unfold startsG; split <;> first | exact noErr_ok | exact noErr_stuck
theorem ne_split (d : D) (ds : List D) : NoErr (splitG d ds) := by
  unfold splitG; split <;> first | exact noErr_stuck | exact noErr_ite noErr_ok noErr_stuck
theorem mkS' {K : PySem.W.Frag} {H : Hp} {i : Str} : Rep K H (.str i) (.str i) := by rw [Rep]
theorem mkB' {K : PySem.W.Frag} {H : Hp} {i : Bool} : Rep K H (.bl i) (.bl i) := by rw [Rep]
theorem md_starts {X : Cx} : MtD X "str.startswith" startsG := by
  intro E pins s σ H x xs v us a ds d I r1 r2 p1 p2 e
  unfold startsG at e
  split at e
  · rename_i x y
    cases e
    rw [repS p1] at r1
    obtain ⟨t, rfl⟩ := r1
    obtain ⟨v2, vs, rfl, p3, t3⟩ := p2.cons_of
    cases t3.nil_of
    obtain ⟨u, rfl, r3⟩ := vals1 r2
    rw [repS p3] at r3
    obtain ⟨t', rfl⟩ := r3
    exact PySem.SC.startswith ⟨_, .bl _, H, rfl, I, rfl, Same.refl H, mkB'⟩
  · cases e
theorem split_parts {x y : Str} (h : x.length + 2 ≤ sizeLine) : (Builtin.Str.partsBetween x (Builtin.Str.occurrences x y 0 x.length (x.length + 1)) y.length).length ≤ sizeLine := by
  have m := StrLaws.occ_length_le x y 0 x.length (x.length + 1)
  rw [length_partsBetween]
  omega
noncomputable def SplitTo (x y : Str) (R : Result → Shared → Prop) (s : Shared) : Prop :=
  ∀ l k, l.map (·.1) = Txt.split x y → R (.ok (.ret (.ref s.heap.objs.size))) { s with heap := s.heap.push { cls := .type "list", data := .seq (strValues l).toArray }, toks := k }
theorem meets_split {x y : Str} {t u : Tok} (hy : (y.length == 0) = false) (hsz : x.length + 2 ≤ sizeLine) : Meets (Builtin.«str.split» ⟨[.str x t, .str y u], []⟩) (fun _ R s => SplitTo x y R s) := by
  intro prog w A R s h
  by_cases c1 : (decide (x.length < y.length) || decide (Builtin.Str.strKind x < Builtin.Str.strKind y)) = true
  · exact meets_str_split_cannot_occur x y t u c1 prog w A R s (h [(x, t)] s.toks (by unfold Txt.split; rw [if_pos c1]; rfl))
  · have n1 := eq_false_of_ne_true c1
    by_cases c2 : (Builtin.Str.occurrences x y 0 x.length (x.length + 1)).isEmpty = true
    · exact meets_str_split_not_found x y t u n1 hy c2 prog w A R s (h [(x, t)] s.toks (by unfold Txt.split; rw [if_neg c1, if_pos c2]; rfl))
    · refine meets_str_split_sep x y t u n1 hy (eq_false_of_ne_true c2) (Nat.le_trans (Nat.le_add_right _ 2) hsz) (split_parts hsz) prog w A R s ?_
      have q := h (numbered s.toks (Builtin.Str.partsBetween x (Builtin.Str.occurrences x y 0 x.length (x.length + 1)) y.length)) (s.toks + (Builtin.Str.partsBetween x (Builtin.Str.occurrences x y 0 x.length (x.length + 1)) y.length).length) (by rw [numbered_texts]; unfold Txt.split; rw [if_neg c1, if_neg c2])
      rw [← strsFrom_eq] at q
      exact q
theorem split_push {prog : Program} {w : World} {A : Around} {E : Value → Shared → Prop} {s : Shared} {x y : Str} {t u : Tok} {Q : Value → Shared → Prop} (hy : (y.length == 0) = false)
    (h : ∀ l k, l.map (·.1) = Txt.split x y → Q (.ref s.heap.objs.size) { s with heap := s.heap.push { cls := .type "list", data := .seq (strValues l).toArray }, toks := k })
    (hsz : x.length + 2 ≤ sizeLine) : wpAny (model prog w) A (call (.builtin "str.split") [.str x t, .str y u]) Q E s :=
  call_meets F.slot_str_split (typeIs_str _ _ _) F.entry_str_split (F.args_str_split_2 _ _) (meets_split hy hsz) h
theorem split_few {x y : Str} (h : x.length + 2 ≤ sizeLine) : (Txt.split x y).length ≤ sizeLine := by
  unfold Txt.split
  split
  · show 1 ≤ sizeLine; decide
  · split
    · show 1 ≤ sizeLine; decide
    · exact split_parts h
theorem vals_strs : ∀ l : List (Str × Tok), Vals (l.map fun p => V.str p.1) (strValues l)
  | [] => .nil
  | p :: l => .cons ⟨_, rfl⟩ (vals_strs l)
theorem reps_strs {K : PySem.W.Frag} {H : Hp} : ∀ xs : List Str, Reps K H (xs.map .str) (xs.map .str)
  | [] => Reps.nil
  | x :: xs => Reps.cons mkS' (reps_strs xs)
theorem md_split {X : Cx} : MtD X "str.split" splitG := by
  intro E pins s σ H x xs v us a ds d I r1 r2 p1 p2 e
  unfold splitG at e
  split at e
  · rename_i x y
    split at e
    · rename_i hp
      cases e
      rw [repS p1] at r1
      obtain ⟨t, rfl⟩ := r1
      obtain ⟨v2, vs, rfl, p3, t3⟩ := p2.cons_of
      cases t3.nil_of
      obtain ⟨u, rfl, r3⟩ := vals1 r2
      rw [repS p3] at r3
      obtain ⟨t', rfl⟩ := r3
      refine split_push hp.1 (fun l k hl => ?_) hp.2
      have hf : H s.heap.objs.size = none := I.hok.fresh (Nat.le_refl _)
      have hz : ((Txt.split x y).map V.str).length ≤ sizeLine := by rw [List.length_map]; exact split_few hp.2
      refine ⟨_, .ref s.heap.objs.size, upd H s.heap.objs.size (.lst ((Txt.split x y).map V.str)), rfl, I.laid (t' := k) (fun b u e => Heap.get?_push_of_some _ e) (Nat.le_refl _) ?_, rfl, same_upd hf _, mkL (SqL.of upd_same) (reps_strs _)⟩
      refine ⟨hz, strValues l, 0, ?_, Heap.get?_push_size _ rfl⟩
      rw [← hl, List.map_map]; exact vals_strs l
    · cases e
  · cases e
noncomputable def inD : D → D → Res D
  | .str x, .str y => .ok (.bl (!(Builtin.Str.occurrences y x 0 y.length 1).isEmpty))
  | _, _ => .stuck
noncomputable def isNoneD : D → D → Res D
  | .exc _, .non => .ok (.bl false)
  | .non, .non => .ok (.bl true)
  | .int _, .non => .ok (.bl false)
  | .bl _, .non => .ok (.bl false)
  | .str _, .non => .ok (.bl false)
  | .tup _, .non => .ok (.bl false)
  | .lst _, .non => .ok (.bl false)
  | _, _ => .stuck
noncomputable def notNoneD (x y : D) : Res D := (isNoneD x y).bind fun d => match d with | .bl b => .ok (.bl (!b)) | _ => .stuck
theorem ne_in (x y : D) : NoErr (inD x y) := by cases x <;> cases y <;> first | exact noErr_stuck | exact noErr_ok
theorem ne_isNone (x y : D) : NoErr (isNoneD x y) := by cases x <;> cases y <;> first | exact noErr_stuck | exact noErr_ok
theorem ne_notNone (x y : D) : NoErr (notNoneD x y) := by cases x <;> cases y <;> first | exact noErr_stuck | exact noErr_ok
noncomputable def strG : List D → Res D
  | [.int i] => if i.natAbs.log2 < 1920 then .ok (.str (toString i)) else .stuck
  | _ => .stuck
noncomputable def intG : List D → Res D
  | [.int i] => .ok (.int i)
  | [.bl k] => .ok (.int (if k then 1 else 0))
  | [.str x] => if x.length ≤ 640 then (match PySem.intText? x with | some n => .ok (.int n) | none => .stuck) else .stuck
  | _ => .stuck
theorem ne_str (ds : List D) : NoErr (strG ds) := by
  unfold strG; split <;> first | exact noErr_stuck | exact noErr_ite noErr_ok noErr_stuck
theorem ne_int (ds : List D) : NoErr (intG ds) := by
  unfold intG
  split <;> first | exact noErr_ok | exact noErr_stuck | skip
  refine noErr_ite ?_ noErr_stuck
  split <;> first | exact noErr_ok | exact noErr_stuck
section
variable {X : Cx}
theorem od_in : OpD X (compareOp .In) inD := .of (fun _ => op_in_str) fun H x y a b d Q p1 p2 e q => by
  unfold inD at e
  split at e
  · rename_i i j
    cases e
    exact ⟨i, j, repS p1, repS p2, q _ H (Same.refl H) mkB'⟩
  · cases e
theorem isNone_of {K : PySem.W.Frag} {H : Hp} {a b d : D} {x y : V} (p1 : Rep K H a x) (p2 : Rep K H b y) (e : isNoneD a b = .ok d) : y = .non ∧ d = .bl (decide (x = .non)) := by
  cases b <;> (try (cases a <;> cases e))
  all_goals (rw [Rep] at p2; subst p2)
  all_goals (refine ⟨rfl, ?_⟩)
  · rw [Rep] at p1; subst p1; rfl
  · rw [Rep] at p1; subst p1; rfl
  · rw [Rep] at p1; subst p1; rfl
  · rw [Rep] at p1; subst p1; rfl
  · obtain ⟨_, _, rfl, _⟩ := repT p1; rfl
  · obtain ⟨_, _, rfl, _⟩ := repL p1; rfl
  · rw [Rep] at p1; obtain ⟨_, _, rfl, _⟩ := p1; rfl
theorem od_isN : OpD X (compareOp .Is) isNoneD := .of (fun _ => op_isN) fun H x y a b d Q p1 p2 e q => by
  obtain ⟨h1, rfl⟩ := isNone_of p1 p2 e
  exact ⟨h1, q _ H (Same.refl H) mkB'⟩
theorem od_notN : OpD X (compareOp .IsNot) notNoneD := .of (fun _ => op_notN) fun H x y a b d Q p1 p2 e q => by
  unfold notNoneD at e
  cases z : isNoneD a b with
  | ok r =>
    rw [z, Res.bind_ok] at e
    obtain ⟨h1, rfl⟩ := isNone_of p1 p2 z
    cases e
    exact ⟨h1, q _ H (Same.refl H) mkB'⟩
  | err _ => exact (ne_isNone a b _ z).elim
  | stuck => rw [z] at e; cases e
theorem cd_str : CallD X (.type "str") strG := .of (fun _ => call_str_int) fun H xs ds d Q r e q => by
  unfold strG at e
  split at e
  · rename_i i
    split at e
    · rename_i hz
      cases e
      obtain ⟨v, vs, rfl, p1, t⟩ := r.cons_of
      cases t.nil_of
      exact ⟨i, by rw [repI p1], hz, q _ H (Same.refl H) mkS'⟩
    · cases e
  · cases e
theorem cd_int : CallD X (.type "int") intG := by
  intro E pins s σ H xs us ds d I r p e
  unfold intG at e
  split at e
  · rename_i i
    cases e
    obtain ⟨v, vs, rfl, p1, t⟩ := p.cons_of
    cases t.nil_of
    rw [repI p1] at r
    obtain ⟨u, rfl, t, rfl⟩ := vals1 r
    exact call_int_int ⟨_, .int i, H, rfl, I, ⟨_, rfl⟩, Same.refl H, mkI⟩
  · rename_i k
    cases e
    obtain ⟨v, vs, rfl, p1, t⟩ := p.cons_of
    cases t.nil_of
    rw [Rep] at p1
    subst p1
    obtain ⟨u, rfl, r1⟩ := vals1 r
    cases r1
    exact call_int_bool ⟨_, .int (if k then 1 else 0), H, rfl, I.tok _, ⟨_, rfl⟩, Same.refl H, mkI⟩
  · rename_i x
    split at e
    · rename_i hl
      split at e
      · rename_i n hn
        cases e
        obtain ⟨v, vs, rfl, p1, t⟩ := p.cons_of
        cases t.nil_of
        rw [repS p1] at r
        obtain ⟨u, rfl, t, rfl⟩ := vals1 r
        exact PySem.W.KIN.call_text hn hl ⟨_, .int n, H, rfl, I.tok _, ⟨_, rfl⟩, Same.refl H, mkI⟩
      · cases e
    · cases e
  · cases e
end
end DL
set_option Elab.async false
set_option linter.all false
set_option maxRecDepth 100000
namespace DL
open PySem PySem.Spec PyProof.Rows L2
section
variable {X : Cx} {tg iter : Expr} {body : List Stmt} {t : TGD} {fb : DS → Out} {pos : Pos}
end
end DL
set_option Elab.async false
set_option linter.all false
set_option maxRecDepth 100000
namespace DL
open PySem PySem.Spec PyProof.Rows L2
section
open HT
variable {prog : Program} {w : World} {A : Around} {E : Value → Shared → Prop} {s : Shared}
theorem whole_tup {t sl : Addr} {items : Array Value} {vl vu : Value} {lo hi : Option Int} {Q : Value → Shared → Prop} (ht : IsTup s.heap t items) (hs : s.heap.IsSliceOf sl vl vu .none) (pl : IsPart vl lo) (pu : IsPart vu hi)
    (hw : sIx items.size 0 lo = 0 ∧ sIx items.size items.size hi = items.size) (h : Q (.ref t) s) : wpAny (model prog w) A (getItem (.ref t) (.ref sl)) Q E s := by
  obtain ⟨os, hos, hcs, hds⟩ := id hs
  unfold getItem
  refine wpAny_holding (wpAny_bind (wpAny_sequenceKey ht.typeIs (by decide) ?_))
  refine wpAny_bind (wpAny_callSpecial?_slot (name := Str.ofString "__getitem__") ht.typeIs PyProof.Rows.slot_tuple_getitem (wpAny_call_entry PyProof.Rows.slot_tuple_getitem ht.typeIs entry_tuple_getitem ?_ (args_tuple_getitem _ _)))
  show wpAny _ _ (Builtin.Tuple.tupleItemsOf (.ref t) >>= _) _ _ s
  refine wpAny_bind (tupleItemsOf_ ht (wpAny_bind (wpAny_typeOf ⟨os, hos, hcs⟩ ?_)))
  rw [if_pos (by decide)]
  refine wpAny_bind (sliceApplied_gen hs pl pu ?_)
  obtain ⟨w1, w2⟩ := hw
  have hc : (((sIx items.size 0 lo : Nat) : Int) == 0 && (1 : Int) == 1 && (sIx items.size items.size hi - sIx items.size 0 lo) == items.size) = true := by
    rw [w1, w2]; simp
  show wpAny _ _ (if (((sIx items.size 0 lo : Nat) : Int) == 0 && (1 : Int) == 1 && (sIx items.size items.size hi - sIx items.size 0 lo) == items.size) = true then _ else _) _ _ s
  rw [if_pos hc]
  refine wpAny_bind (m := Builtin.Tuple.tupleIsExact _) (wpAny_bind (wpAny_typeOf ht.typeIs (wpAny_pure ?_)))
  rw [if_pos (by decide)]
  exact wpAny_bind (wpAny_rule (wpAny_pure ⟨_, rfl, wpAny_pure h⟩))
end
noncomputable def rSlW (K : PySem.W.Frag) : V → Option Int → Option Int → Hp → VK → Prop := fun x lo hi H Q => ∃ a xs, x = .ref a ∧ SqT K H a xs ∧ (HT.sIx xs.length 0 lo = 0 ∧ HT.sIx xs.length xs.length hi = xs.length) ∧ Q (.ref a) H
theorem sl_whole {X : Cx} : SlR X (rSlW X.K) := by
  intro pins s σ H x v vl vu lo hi sl Q I rx hs pl pu h
  obtain ⟨a, xs, rfl, hx, hw, q⟩ := h
  cases rx
  obtain ⟨its, r, ht, hz⟩ := I.tuple hx
  have hlen : its.toArray.size = xs.length := by rw [List.size_toArray]; exact r.length.symm
  exact ⟨"tuple", _, PyProof.Rows.slot_tuple_getitem.lookup, ht.typeIs, whole_tup ht hs pl pu (by rw [hlen]; exact hw) ⟨.ref a, H, I, rfl, q⟩⟩
noncomputable def OPost (X : Cx) (pins : List (Addr × Obj)) (σ : St) (H : Hp) (r : Res (Option Int)) (u : Value) (s1 : Shared) : Prop := ∃ o H1, r = .ok o ∧ Inv X pins σ H1 s1 ∧ IsPart u o ∧ Same H H1
noncomputable def POD (X : Cx) (e : Option Expr) (f : DS → Res (Option Int)) : Prop :=
  ∀ (pins : List (Addr × Obj)) (s : Shared) (σ : St) (G H : Hp) (δ : DS), Inv X pins σ H s → RepSt X.K G H σ δ → f δ ≠ .stuck →
    wpAny (model X.prog X.w) X.A (evalPart e X.env) (OPost X pins σ H (f δ)) (XPost X pins σ H s.heap (f δ)) s
noncomputable def partG : D → Res (Option Int)
  | .int i => .ok (some i)
  | _ => .stuck
noncomputable def noPart : DS → Res (Option Int) := fun _ => .ok none
noncomputable def partF (f : DS → Res D) : DS → Res (Option Int) := fun δ => (f δ).bind partG
noncomputable def cutL (ds : List D) (lo hi : Option Int) : List D := (ds.drop (HT.sIx ds.length 0 lo)).take (HT.sIx ds.length ds.length hi - HT.sIx ds.length 0 lo)
noncomputable def cutD (d : D) (lo hi : Option Int) : Res D := match d with
  | .str z => if z.length ≤ sizeLine then .ok (.str (Txt.slice z lo hi)) else .stuck
  | .lst ds => .ok (.lst (cutL ds lo hi))
  | .tup ds => .ok (.tup (cutL ds lo hi))
  | _ => .stuck
noncomputable def sliceF (fe : DS → Res D) (fl fu : DS → Res (Option Int)) : DS → Res D := fun δ => (fe δ).bind fun d => (fl δ).bind fun l => (fu δ).bind fun u => cutD d l u
theorem ne_cut (d : D) (lo hi : Option Int) : NoErr (cutD d lo hi) := by
  unfold cutD; split <;> first | exact noErr_ok | exact noErr_stuck | exact noErr_ite noErr_ok noErr_stuck
theorem Reps.take' {K : PySem.W.Frag} {H : Hp} : ∀ (n : Nat) {ds : List D} {vs : List V}, Reps K H ds vs → Reps K H (ds.take n) (vs.take n)
  | 0, _, _, _ => by simp only [List.take_zero]; exact Reps.nil
  | n + 1, [], _, h => by cases h.nil_of; exact Reps.nil
  | n + 1, d :: ds, _, h => by
    obtain ⟨v, vs, rfl, r, q⟩ := h.cons_of
    exact Reps.cons r (Reps.take' n q)
theorem Reps.cut {K : PySem.W.Frag} {H : Hp} {ds : List D} {vs : List V} (h : Reps K H ds vs) (lo hi : Option Int) : Reps K H (cutL ds lo hi) (cutV vs lo hi) := by
  unfold cutL cutV
  rw [h.length]
  exact Reps.take' _ (Reps.drop _ h)
section
variable {X : Cx} {e : Expr} {fe : DS → Res D} {lo hi : Option Expr} {fl fu : DS → Res (Option Int)} {pos p2 : Pos}
theorem pod_none : POD X none noPart := by
  intro pins s σ G H δ I R _
  rw [evalPart_none]
  exact wpAny_pure ⟨none, H, rfl, I, .none, Same.refl H⟩
theorem pod_some (h : PD X e fe) : POD X (some e) (partF fe) := by
  intro pins s σ G H δ I R hs
  unfold partF at hs ⊢
  rw [evalPart_some]
  refine h.use I R (bind_l hs) (fun d u s1 v H1 q I1 r1 e1 b1 p1 => ?_) fun e s1 q => q.same fun x z => bind_x z
  have h2 := bind_r hs q
  cases d with
  | int i =>
    rw [repI p1] at r1
    obtain ⟨t, rfl⟩ := r1
    exact ⟨some i, H1, by rw [q]; rfl, I1, .int i t, e1⟩
  | _ => exact (h2 rfl).elim
theorem POD.use {pins : List (Addr × Obj)} {s : Shared} {σ : St} {G H : Hp} {δ : DS} (h : POD X lo fl) (I : Inv X pins σ H s) (R : RepSt X.K G H σ δ) (hs : fl δ ≠ .stuck) {P E : Value → Shared → Prop}
    (k : ∀ o u s1 H1, fl δ = .ok o → Inv X pins σ H1 s1 → IsPart u o → Same H H1 → Back H s.heap s1.heap → P u s1)
    (kx : ∀ e s1, XPost X pins σ H s.heap (fl δ) e s1 → E e s1) : wpAny (model X.prog X.w) X.A (evalPart lo X.env) P E s := by
  refine wpAny_mono (h (pins ++ allP X H s.heap) s σ G H δ I.all R hs) (fun u s1 ⟨o, H1, q1, q2, q3, q4⟩ => k o u s1 H1 q1 q2.unpinned q3 q4 (I.backTo q2)) fun e s1 ⟨x, a, C, H1, q1, q2, q3, q4, q5, q6⟩ => kx e s1 ⟨x, a, C, H1, q1, q2, q3.unpinned, q4, q5, q6⟩
noncomputable def rSlS : V → Option Int → Option Int → Hp → VK → Prop := fun x lo hi H Q => ∃ z, x = .str z ∧ z.length ≤ sizeLine ∧ Q (.str (Txt.slice z lo hi)) H
theorem sl_str : SlR X rSlS := by
  intro pins s σ H x v vl vu lo hi sl Q I rx hs pl pu h
  obtain ⟨z, rfl, hz, q⟩ := h
  obtain ⟨t, rfl⟩ := rx
  refine ⟨"str", _, PySem.F.slot_str_getitem.lookup, typeIs_str _ _ _, ?_⟩
  have hl : ∃ l : Option (Int × Tok), vl = partValue l ∧ l.map (·.1) = lo := by
    cases pl with
    | none => exact ⟨none, rfl, rfl⟩
    | int i t => exact ⟨some (i, t), rfl, rfl⟩
  have hu : ∃ u : Option (Int × Tok), vu = partValue u ∧ u.map (·.1) = hi := by
    cases pu with
    | none => exact ⟨none, rfl, rfl⟩
    | int i t => exact ⟨some (i, t), rfl, rfl⟩
  obtain ⟨l, rfl, rfl⟩ := hl
  obtain ⟨u, rfl, rfl⟩ := hu
  refine wpAny_getItem_str_slice (l := l) (u := u) (st := none) hs rfl ?_
  exact post_val_or_str ⟨Nat.le_trans (Txt.slice_le z _ _) hz, fun t' k => ⟨.str _, H, I.tok _, ⟨_, rfl⟩, q⟩⟩
theorem cut_sl {H : Hp} {d r : D} {v : V} {lo hi : Option Int} (p : Rep X.K H d v) (e : cutD d lo hi = .ok r) : (fun x lo hi H Q => rSlS x lo hi H Q ∨ rSlL X.K x lo hi H Q ∨ rSlT X.K x lo hi H Q ∨ rSlW X.K x lo hi H Q) v lo hi H (fun z H' => Same H H' ∧ Rep X.K H' r z) := by
  unfold cutD at e
  split at e
  · rename_i z
    split at e
    · rename_i hz
      cases e
      exact .inl ⟨z, repS p, hz, Same.refl H, mkS'⟩
    · cases e
  · rename_i ds
    cases e
    obtain ⟨a, xs, rfl, hq, rr⟩ := repL p
    exact .inr (.inl ⟨a, xs, rfl, hq, fun p hp => ⟨same_upd hp _, mkL (SqL.of upd_same) ((rr.cut _ _).mono (same_upd hp _))⟩⟩)
  · rename_i ds
    cases e
    obtain ⟨a, xs, rfl, hq, rr⟩ := repT p
    by_cases hw : HT.sIx ds.length 0 lo = 0 ∧ HT.sIx ds.length ds.length hi = ds.length
    · have ec : cutL ds lo hi = ds := by unfold cutL; rw [hw.1, hw.2]; simp
      exact .inr (.inr (.inr ⟨a, xs, rfl, hq, by rw [rr.length]; exact hw, Same.refl H, by rw [ec]; exact mkT hq rr⟩))
    · exact .inr (.inr (.inl ⟨a, xs, rfl, hq, by rw [rr.length]; exact hw, fun p hp => ⟨same_upd hp _, mkT (SqT.of upd_same) ((rr.cut _ _).mono (same_upd hp _))⟩⟩))
  · cases e
theorem pd_slice (he : PD X e fe) (hl : POD X lo fl) (hu : POD X hi fu) : PD X (.Subscript e (.Slice lo hi none p2) pos) (sliceF fe fl fu) := by
  intro pins s σ G H δ I R hs
  unfold sliceF at hs ⊢
  refine Subscript_ (he.use I R (bind_l hs) (fun d v s1 x H1 q I1 r1 e1 b1 p1 => ?_) fun e s1 q => q.same fun x z => bind_x z)
  have h2 := bind_r hs q
  rw [q, Res.bind_ok]
  refine wpAny_Slice (hl.use I1 (R.mono e1) (bind_l h2) (fun l vl s2 H2 q2 I2 pl e2 b2 => ?_) fun e s2 p => p.back e1 b1 fun x z => bind_x z)
  have h3 := bind_r h2 q2
  rw [q2, Res.bind_ok]
  refine hu.use I2 ((R.mono e1).mono e2) (bind_l h3) (fun u vu s3 H3 q3 I3 pu e3 b3 => ?_) fun e s3 p => (p.back e2 b2 (r' := (fu δ).bind fun u => cutD d l u) fun x z => bind_x z).back e1 b1 fun x z => z
  have h4 := bind_r h3 q3
  rw [q3, Res.bind_ok, evalPart_none]
  refine wpAny_pure ?_
  have I4 : Inv X pins σ H3 { s3 with heap := s3.heap.push { cls := .type "slice", data := .fields #[vl, vu, .none] } } := I3.kept (t' := s3.toks) fun b ob q => Heap.get?_push_of_some _ q
  cases qg : cutD d l u with
  | stuck => exact (h4 qg).elim
  | err z => exact (ne_cut d l u z qg).elim
  | ok r =>
    obtain ⟨T, id, hT, ht, hg⟩ := (sl_str.or (sl_list.or (sl_tup.or sl_whole)) : SlR X.nox _) pins { s3 with heap := s3.heap.push { cls := .type "slice", data := .fields #[vl, vu, .none] } } σ H3 x v vl vu l u s3.heap.objs.size _ (I4.wish _) r1 (Heap.IsSliceOf.new ..) pl pu (cut_sl (X := X) ((p1.mono e2).mono e3) qg)
    show wpAny (model X.prog X.w) X.A (subscriptTail e (.Slice lo hi none p2) v (.ref s3.heap.objs.size)) _ _ { s3 with heap := s3.heap.push { cls := .type "slice", data := .fields #[vl, vu, .none] } }
    refine wpAny_mono (tail_any (ops := [.ref s3.heap.objs.size, v]) ht hT hg (by with_unfolding_all rfl)) (fun w s4 q4 => ?_) fun _ _ z => z.elim
    obtain ⟨z, H4, I5, r5, e5, p5⟩ := q4
    exact ⟨r, z, H4, rfl, I5.unwish, r5, ((e1.trans e2).trans e3).trans e5, p5⟩
end
end DL
set_option Elab.async false
set_option linter.all false
set_option maxRecDepth 100000
namespace DL
open PySem PySem.Spec PyProof.Rows L2
mutual
noncomputable def flatD : D → Bool
  | .tup ds => flatDs ds
  | .lst _ => false
  | _ => true
noncomputable def flatDs : List D → Bool
  | [] => true
  | d :: ds => flatD d && flatDs ds
end
mutual
theorem Rep.lset {K : PySem.W.Frag} {H : Hp} {a : Addr} {xs ys : List V} (hH : H a = some (.lst xs)) : ∀ {d : D} {v : V}, flatD d = true → Rep K H d v → Rep K (upd H a (.lst ys)) d v
  | .non, v, _, h => by rw [Rep] at h ⊢; exact h
  | .bl _, v, _, h => by rw [Rep] at h ⊢; exact h
  | .int _, v, _, h => by rw [Rep] at h ⊢; exact h
  | .str _, v, _, h => by rw [Rep] at h ⊢; exact h
  | .lst _, v, hf, _ => by rw [flatD] at hf; cases hf
  | .tup ds, v, hf, h => by
    obtain ⟨b, zs, rfl, hq, r⟩ := repT h
    rw [flatD] at hf
    refine mkT ?_ (Reps.lset hH hf r)
    rcases hq with (hq | ⟨o, hq⟩) | hq
    · exact .inl (.inl (by rw [upd_ne (fun z => by subst z; rw [hH] at hq; cases hq)]; exact hq))
    · exact .inl (.inr ⟨o, by rw [upd_ne (fun z => by subst z; rw [hH] at hq; cases hq)]; exact hq⟩)
    · exact .inr hq
  | .exc n, v, _, h => by
    rw [Rep] at h ⊢
    obtain ⟨b, C, rfl, hC, hb⟩ := h
    exact ⟨b, C, rfl, hC, by rw [upd_ne (fun z => by subst z; rw [hH] at hb; cases hb)]; exact hb⟩
theorem Reps.lset {K : PySem.W.Frag} {H : Hp} {a : Addr} {xs ys : List V} (hH : H a = some (.lst xs)) : ∀ {ds : List D} {vs : List V}, flatDs ds = true → Reps K H ds vs → Reps K (upd H a (.lst ys)) ds vs
  | [], _, _, h => by cases h.nil_of; exact Reps.nil
  | d :: ds, _, hf, h => by
    rw [flatDs, Bool.and_eq_true] at hf
    obtain ⟨v, vs, rfl, r, q⟩ := h.cons_of
    exact Reps.cons (Rep.lset hH hf.1 r) (Reps.lset hH hf.2 q)
end
noncomputable def keepSV : SV → Option SV
  | .val d => if flatD d = true then some (.val d) else none
  | .arg d => some (.arg d)
  | .own ds => if flatDs ds = true then some (.own ds) else none
noncomputable def appS (i : Nat) (ds : List D) (d : D) (δ : DS) : DS := (δ.map fun o => o.bind keepSV).set i (some (.own (ds ++ [d])))
theorem keep_get {δ : DS} {j : Nat} {sv : SV} (h : (δ.map fun o => o.bind keepSV)[j]? = some (some sv)) : ∃ sv0, δ[j]? = some (some sv0) ∧ keepSV sv0 = some sv := by
  rw [List.getElem?_map] at h
  cases z : δ[j]? with
  | none => rw [z] at h; cases h
  | some o =>
    cases o with
    | none => rw [z] at h; cases h
    | some sv0 => rw [z] at h; exact ⟨sv0, rfl, by simpa using h⟩
theorem keep_own {sv : SV} {ds : List D} (h : keepSV sv = some (.own ds)) : sv = .own ds ∧ flatDs ds = true := by
  cases sv with
  | val d => simp only [keepSV] at h; split at h <;> cases h
  | arg d => cases h
  | own es =>
    simp only [keepSV] at h
    split at h
    · rename_i c; cases h; exact ⟨rfl, c⟩
    · cases h
theorem RepSt.app {K : PySem.W.Frag} {G H : Hp} {σ : St} {δ : DS} {i : Nat} {ds : List D} {d : D} {a : Addr} {xs : List V} {v : V} (R : RepSt K G H σ δ) (hδ : δ[i]? = some (some (.own ds))) (hσ : σ[i]? = some (some (.ref a))) (hH : H a = some (.lst xs)) (r : Reps K H ds xs) (hG : G a = none) (hf : flatDs ds = true) (hd : flatD d = true) (p : Rep K H d v) :
    RepSt K G (upd H a (.lst (xs ++ [v]))) σ (appS i ds d δ) where
  same := fun b o e => by
    have hb : b ≠ a := fun z => by subst z; rw [hG] at e; cases e
    rw [upd_ne hb]; exact R.same b o e
  len := by unfold appS; rw [List.length_set, List.length_map]; exact R.len
  at_ := fun j sv h => by
    unfold appS at h
    have hl : i < δ.length := (List.getElem?_eq_some_iff.mp hδ).1
    by_cases hj : i = j
    · subst hj
      rw [List.getElem?_set_self (by rw [List.length_map]; exact hl)] at h
      cases h
      exact ⟨.ref a, hσ, a, xs ++ [v], rfl, upd_same, (Reps.lset hH hf r).append (Reps.cons (Rep.lset hH hd p) Reps.nil), hG⟩
    · rw [List.getElem?_set_ne hj] at h
      obtain ⟨sv0, q1, q2⟩ := keep_get h
      obtain ⟨u, e1, e2⟩ := R.at_ j sv0 q1
      refine ⟨u, e1, ?_⟩
      cases sv0 with
      | val d' =>
        simp only [keepSV] at q2
        split at q2
        · rename_i c; cases q2; exact Rep.lset hH c e2
        · cases q2
      | arg d' => cases q2; exact e2
      | own es =>
        simp only [keepSV] at q2
        split at q2
        · rename_i c
          cases q2
          obtain ⟨b, ys, rfl, w2, w3, w4⟩ := e2
          have hb : b ≠ a := fun z => by subst z; exact R.sep i j ds es (.ref b) hj hδ q1 hσ e1
          exact ⟨b, ys, rfl, by rw [upd_ne hb]; exact w2, Reps.lset hH c w3, w4⟩
        · cases q2
  sep := fun j k es fs u hjk h1 h2 h3 => by
    have get : ∀ (m : Nat) (gs : List D), (appS i ds d δ)[m]? = some (some (.own gs)) → ∃ gs', δ[m]? = some (some (.own gs')) := fun m gs h => by
      unfold appS at h
      by_cases hm : i = m
      · subst hm; exact ⟨ds, hδ⟩
      · rw [List.getElem?_set_ne hm] at h
        obtain ⟨sv0, q1, q2⟩ := keep_get h
        obtain ⟨rfl, _⟩ := keep_own q2
        exact ⟨gs, q1⟩
    obtain ⟨es', g1⟩ := get j es h1
    obtain ⟨fs', g2⟩ := get k fs h2
    exact R.sep j k es' fs' u hjk g1 g2 h3
section
variable {X : Cx} {e : Expr} {es : List Expr} {fe : DS → Res D} {fs : DS → Res (List D)} {x : Str} {pos pos' lp np apos cpos : Pos}
end
end DL
set_option Elab.async false
set_option linter.all false
set_option maxRecDepth 100000
namespace DL
open PySem PySem.Spec PyProof.Rows L2
section
variable {prog : Program} {w : World} {A : Around} {E : Value → Shared → Prop} {s : Shared} {I : Addr} {fp wr : List Addr} {G : Array GenState → Array GenState → Prop} {n : Nat} {P : Nat → Value → Prop} {St : Nat → Shared → Prop}
end
section
variable {prog : Program} {w : World} {A : Around} {E : Value → Shared → Prop} {s : Shared} {x : Str} {t : Tok} {Q : Value → Shared → Prop}
end
section
variable {X : Cx} {e : Expr} {fe : DS → Res D} {sep : Str} {p0 apos np rp cpos : Pos}
end
end DL
set_option Elab.async false
set_option linter.all false
set_option maxRecDepth 100000
namespace DL
open PySem PySem.Spec PyProof.Rows L2
end DL
set_option Elab.async false
set_option linter.all false
set_option maxRecDepth 100000
namespace DL
open PySem PySem.Spec PyProof.Rows L2
end DL
set_option Elab.async false
set_option linter.all false
set_option maxRecDepth 100000
namespace DL
open PySem PySem.Spec PyProof.Rows L2
section
variable {prog : Program} {w : World} {A : Around} {E : Value → Shared → Prop} {s : Shared}
structure ZipT (h : Heap) (z TI TO i1 i2 t1 t2 : Addr) (f0 : Value) (i : Nat) : Prop where
  zip : IsZip h z TI TO f0
  ti : IsPair h TI (.ref i1) (.ref i2)
  to : ∃ a b, IsPair h TO a b
  j1 : h.IsTupleIter i1 t1 i
  j2 : h.IsTupleIter i2 t2 i
end
end DL
set_option Elab.async false
set_option linter.all false
set_option maxRecDepth 100000
namespace DL
open PySem PySem.Spec PyProof.Rows L2
section
variable {prog : Program} {w : World} {A : Around} {E : Value → Shared → Prop} {s : Shared}
end
end DL
set_option Elab.async false
set_option linter.all false
set_option maxRecDepth 100000
namespace DL
open PySem PySem.Spec PyProof.Rows L2
end DL
set_option Elab.async false
set_option linter.all false
set_option maxRecDepth 100000
namespace DL
open PySem PySem.Spec PyProof.Rows L2
end DL
set_option Elab.async false
set_option linter.all false
set_option maxRecDepth 100000
namespace DL
open PySem PySem.Spec PyProof.Rows L2
end DL
set_option Elab.async false
set_option linter.all false
set_option maxRecDepth 100000
namespace DL
open PySem PySem.Spec PyProof.Rows L2
section
variable {X : Cx} {e : Expr} {fe : DS → Res D} {pos : Pos} {op : Operator} {g : D → D → Res D}
end
end DL
set_option Elab.async false
set_option linter.all false
set_option maxRecDepth 100000
namespace DL
open PySem PySem.Spec PyProof.Rows L2
theorem noFill_tuple_mul' : fillsNumberSlot (.type "tuple") "mul" = pure false := by first | exact noFill_tuple_mul | (unfold fillsNumberSlot; kernel_rfl)
theorem repeat_tuple' : seqRepeat? (.type "tuple") = pure (some (.builtin "tuple.__mul__")) := by first | exact repeat_tuple | (unfold seqRepeat?; kernel_rfl)
section
variable {prog : Program} {w : World} {A : Around} {E : Value → Shared → Prop} {s : Shared}
theorem rmul_tup {t : Addr} {items : Array Value} {k : Int} {tok : Tok} {Q : Value → Shared → Prop} (ht : IsTup s.heap t items) (h : Q .notImplemented s) : wpAny (model prog w) A (call (.builtin "int.__rmul__") [.int k tok, .ref t]) Q E s := by
  obtain ⟨o, g, hc, n, hd⟩ := id ht
  refine wpAny_call (codeAny_call_builtin F.slot_int_rmul.plain F.entry_int_rmul (F.slot_int_rmul.check _ _ _ _ _ _ _ _ (typeIs_int s k tok) (F.args_int_rmul_2 _ _) ?_))
  refine wpAny_bind (m := slotArgs _ _ _) (wpAny_pure ?_)
  refine wpAny_bind (m := Builtin.Int.intOfSelf _) (wpAny_bind (m := asInt? _) (wpAny_pure (wpAny_pure ?_)))
  refine wpAny_bind (m := asInt? _) (wpAny_bind (m := load _) (wpAny_load g ?_))
  simp only [hd]
  refine wpAny_pure ?_
  exact wpAny_bind (wpAny_rule (wpAny_pure h))
theorem mul_tup {t : Addr} {items : Array Value} {k : Nat} {tok : Tok} {Q : Value → Shared → Prop} (ht : IsTup s.heap t items) (hne : items.isEmpty = false) (hk : items.size * k ≤ 1000) (h1 : k = 1 → Q (.ref t) s)
    (h2 : k ≠ 1 → Q (.ref s.heap.objs.size) { s with heap := s.heap.push { cls := .type "tuple", data := .seq (List.replicate k items.toList).flatten.toArray } }) : wpAny (model prog w) A (call (.builtin "tuple.__mul__") [.ref t, .int k tok]) Q E s := by
  refine wpAny_call (codeAny_call_builtin F.slot_tuple_mul.plain F.entry_tuple_mul (F.slot_tuple_mul.check _ _ _ _ _ _ _ _ ht.typeIs (F.args_tuple_mul_2 _ _) ?_))
  refine wpAny_bind (m := asIndex _) (wpAny_bind (m := asInt? _) (wpAny_pure (wpAny_pure ?_)))
  have p1 : 1 ≤ items.size := by
    rcases Nat.eq_zero_or_pos items.size with z | z
    · rw [Array.isEmpty_eq_false_iff, ← Array.size_pos_iff] at hne; omega
    · exact z
  have kk : k ≤ 1000 := Nat.le_trans (Nat.le_mul_of_pos_left k p1) hk
  have hfit : (decide ((k : Int) < -2 ^ 63) || decide ((k : Int) ≥ 2 ^ 63)) = false := by
    rw [Bool.or_eq_false_iff]
    exact ⟨decide_eq_false (by omega), decide_eq_false (by omega)⟩
  dsimp only
  rw [hfit, if_neg Bool.false_ne_true]
  refine wpAny_bind (tupleItemsOf_ ht ?_)
  by_cases c : k = 1
  · have hc : (items.isEmpty || ((k : Nat) : Int) == 1) = true := by rw [c]; simp
    rw [if_pos hc]
    refine wpAny_bind (m := Builtin.Tuple.tupleIsExact _) (wpAny_bind (wpAny_typeOf ht.typeIs (wpAny_pure ?_)))
    rw [if_pos (by decide)]
    exact wpAny_bind (wpAny_rule (wpAny_pure (h1 c)))
  · have hc : ¬ ((items.isEmpty || ((k : Nat) : Int) == 1) = true) := by
      rw [hne]; simp; omega
    rw [if_neg hc]
    have q := h2 c
    by_cases z : k = 0
    · have hz : (decide (((k : Nat) : Int) ≤ 0) || items.isEmpty) = true := by rw [z]; simp
      rw [if_pos hz]
      rw [z] at q
      exact wpAny_bind (m := Builtin.Tuple.tupleExact _) (wpAny_newObj_type (wpAny_pure q) (show 0 ≤ sizeLine from Nat.zero_le _))
    · have hz : ¬ ((decide (((k : Nat) : Int) ≤ 0) || items.isEmpty) = true) := by
        rw [hne]; simp; omega
      rw [if_neg hz]
      have e0 : ((items.size : Int) * (k : Int)) = ((items.size * k : Nat) : Int) := by simp
      have hs : (1000 : Nat) ≤ sizeLine := by decide
      have hm : ¬ ((items.size : Int) * (k : Int) > (2 ^ 63 - 1) / 8) := by
        rw [e0]
        have : ((2 : Int) ^ 63 - 1) / 8 = 1152921504606846975 := by decide
        omega
      rw [if_neg hm]
      have ht2 : ¬ (Builtin.Tuple.tupleTooMany ((items.size : Int) * (k : Int)) = true) := by
        unfold Builtin.Tuple.tupleTooMany
        rw [e0]; simp only [decide_eq_true_eq]; omega
      rw [if_neg ht2]
      have hf : List.foldl (fun x1 x2 => x1 ++ x2) #[] (List.replicate ((k : Nat) : Int).toNat items) = (List.replicate k items.toList).flatten.toArray := by
        have := foldl_rep items.toList k []
        rw [List.nil_append] at this
        rw [Int.toNat_natCast]
        simpa using this
      rw [hf]
      exact wpAny_bind (m := Builtin.Tuple.tupleExact _) (wpAny_newObj_type (wpAny_pure q) (by show _ ≤ sizeLine; rw [List.size_toArray, len_rep, Array.length_toList, Nat.mul_comm]; omega))
end
noncomputable def rRepT (K : PySem.W.Frag) : R2 := fun x y H Q => ∃ a k xs, x = .ref a ∧ y = .int ((k : Nat) : Int) ∧ SqT K H a xs ∧ xs ≠ [] ∧ xs.length * k ≤ 1000 ∧ (k = 1 → Q (.ref a) H) ∧ (k ≠ 1 → ∀ p, H p = none → Q (.ref p) (upd H p (.tup (List.replicate k xs).flatten)))
theorem op_repT {X : Cx} : OpR X (binaryOp .Mult) (rRepT X.K) := by
  intro pins s σ H x y v u Q I rx ry h
  obtain ⟨a, k, xs, rfl, rfl, hq, hne, hz, q1, q2⟩ := h
  cases rx
  obtain ⟨t, rfl⟩ := ry
  obtain ⟨its, r, ht, hzz⟩ := I.tuple hq
  have hl := r.length
  refine wpAny_binaryOp_repeat_ref (T := "tuple") (U := "int") (by decide) ht.typeIs (fun s' => typeIs_int s' k t) noFill_tuple_mul' F.fills_int_mul F.slot_int_rmul repeat_tuple' F.slot_int_index.lookup
    (rmul_tup ht ⟨rfl, ht.typeIs, ?_⟩)
  refine mul_tup ht ?_ (by rw [List.size_toArray, ← hl]; exact hz) (fun e => ⟨.ref a, H, I, rfl, q1 e⟩) fun e => ?_
  · cases its with
    | nil => exact (hne (List.eq_nil_of_length_eq_zero hl)).elim
    | cons b l => simp
  · have hb : (List.replicate k xs).flatten.length ≤ sizeLine := by
      rw [len_rep, Nat.mul_comm]; exact Nat.le_trans hz (by decide)
    exact ⟨.ref s.heap.objs.size, _, I.laid (t' := s.toks) (o := .tup (List.replicate k xs).flatten) (fun b ob q => Heap.get?_push_of_some _ q) (Nat.le_refl _) ⟨hb, _, r.rep k, IsTup.new _ _⟩, rfl, q2 e _ (I.hok.fresh (Nat.le_refl _))⟩
theorem Reps.rep {K : PySem.W.Frag} {H : Hp} {ds : List D} {vs : List V} (h : Reps K H ds vs) : ∀ k : Nat, Reps K H (List.replicate k ds).flatten (List.replicate k vs).flatten
  | 0 => Reps.nil
  | k + 1 => by
    rw [List.replicate_succ, List.replicate_succ, List.flatten_cons, List.flatten_cons]
    exact h.append (Reps.rep h k)
noncomputable def repD (ds : List D) (k : Int) : Res D := if ds.isEmpty = false ∧ 0 ≤ k ∧ ds.length * k.toNat ≤ 1000 then .ok (.tup (List.replicate k.toNat ds).flatten) else .stuck
noncomputable def mulE : D → D → Res D
  | .tup ds, .int k => repD ds k
  | a, b => mulD a b
theorem ne_mulE (x y : D) : NoErr (mulE x y) := by
  unfold mulE
  split
  · unfold repD; exact noErr_ite noErr_ok noErr_stuck
  · exact ne_mul _ _
theorem op_repT' {X : Cx} (E : Value → Shared → Prop) : OpR (X.wish E) (binaryOp .Mult) (rRepT X.K) := op_repT
theorem od_mulE {X : Cx} : OpD X (binaryOp .Mult) mulE := by
  intro E pins s σ H x y v u a b d I r1 r2 p1 p2 e
  unfold mulE at e
  split at e
  · rename_i ds k
    unfold repD at e
    split at e
    · rename_i c
      cases e
      obtain ⟨p, us, rfl, s1, t1⟩ := repT p1
      have hy := repI p2
      subst hy
      have hk : ((k.toNat : Nat) : Int) = k := by omega
      refine thn (op_repT' E pins s σ H (.ref p) (.int k) v u (fun z H' => Same H H' ∧ Rep X.K H' (.tup (List.replicate k.toNat ds).flatten) z) (I.wish _) r1 r2 ⟨p, k.toNat, us, rfl, by rw [hk], s1, ?_, by rw [t1.length]; exact c.2.2, fun e1 => ⟨Same.refl H, ?_⟩, fun _ z hz => ⟨same_upd hz _, mkT (SqT.of upd_same) ((t1.rep _).mono (same_upd hz _))⟩⟩) fun w s2 ⟨z, H1, I1, r3, e1, p3⟩ => ⟨_, z, H1, rfl, I1.unwish, r3, e1, p3⟩
      · intro z; rw [z] at t1; have := t1.isEmpty; rw [c.1] at this; cases this
      · rw [e1, List.replicate_one, List.flatten_cons, List.flatten_nil, List.append_nil]; exact mkT s1 t1
    · cases e
  · exact od_mul E pins s σ H x y v u a b d I r1 r2 p1 p2 e
end DL
set_option Elab.async false
set_option linter.all false
set_option maxRecDepth 100000
namespace DL
open PySem PySem.Spec PyProof.Rows L2
end DL
set_option Elab.async false
set_option linter.all false
set_option maxRecDepth 100000
namespace DL
open PySem PySem.Spec PyProof.Rows L2
theorem pd_gint {X : Cx} {x : Str} {pos : Pos} {v : Int} (hg : Gl X x) (hm : ∃ t : Tok, X.mg x = some (.int v t)) (hdb : (x == ("__debug__" : Str)) = false := by decide) : PD X (.Name x pos) (fun _ => .ok (.int v)) := by
  obtain ⟨t, h⟩ := hm
  exact pd_glob (v := .int v) hg h ⟨t, rfl⟩ (fun _ => mkI) hdb
theorem pd_gstr {X : Cx} {x : Str} {pos : Pos} {v : Str} (hg : Gl X x) (hm : ∃ t : Tok, X.mg x = some (.str v t)) (hdb : (x == ("__debug__" : Str)) = false := by decide) : PD X (.Name x pos) (fun _ => .ok (.str v)) := by
  obtain ⟨t, h⟩ := hm
  exact pd_glob (v := .str v) hg h ⟨t, rfl⟩ (fun _ => mkS) hdb
end DL
set_option Elab.async false
set_option linter.all false
set_option maxRecDepth 100000
namespace DL
open PySem PySem.Spec PyProof.Rows L2
section
variable {X : Cx}
end
structure FunV (K : PySem.W.Frag) (x qual : Str) (st : Stmt) (f : Addr) (fd : FuncData) : Prop where
  ex : ∃ (oc : Value) (od : Option Addr) (dV kV doc pm : Value) (an : Option Addr) (cdv ct : Value) (osl : Array (Option Value)),
    fd = PySem.W.fnOf x qual (defArgs st) (defBody st) (defScope st) dV kV doc pm an cdv ct ∧ K.lookup f = some ⟨oc, od, .func fd, osl⟩ ∧ PySem.W.codeIn K cdv qual = true
  kp : PySem.W.keepIn K (.ref f) = true
section
variable {P : Program} {w : World} {K : PySem.W.Frag} {mg : Str → Option Value} {base : Heap}
theorem FunV.binds {x qual : Str} {st : Stmt} {f : Addr} {fd : FuncData} {ps : List Str} (F : FunV K x qual st f fd)
    (h : ∀ (dV kV doc pm : Value) (an : Option Addr) (cdv ct : Value) (us : List Value), us.length = ps.length → bindArgs (PySem.W.fnOf x qual (defArgs st) (defBody st) (defScope st) dV kV doc pm an cdv ct) ⟨us, []⟩ = pure (ps.zip us)) : Binds K fd ps [] := by
  obtain ⟨oc, od, dV, kV, doc, pm, an, cdv, ct, osl, rfl, lk, hcd⟩ := F.ex
  exact .all (h dV kV doc pm an cdv ct)
end
end DL
set_option Elab.async false
set_option linter.all false
set_option maxRecDepth 100000
namespace DL
open PySem PySem.Spec PyProof.Rows L2
end DL
set_option Elab.async false
set_option linter.all false
set_option maxRecDepth 100000
namespace DL
open PySem PySem.Spec PyProof.Rows L2
section
variable {X : Cx} {m : Nat} {fr : List Nat} {N' : List Str} {scope : Scope} {cl : List (Str × Addr)} {tg iter elt : Expr} {pos : Pos} {t : TGD} {fe : DS → Res D} {fi : DS → Res (List D)}
end
section
variable {X : Cx} {e ix : Expr} {fe fi : DS → Res D} {x : Str} {pos np sp : Pos}
end
end DL
set_option Elab.async false
set_option linter.all false
set_option maxRecDepth 100000
namespace DL
open PySem PySem.Spec PyProof.Rows L2
section
variable {X : Cx}
end
end DL
set_option Elab.async false
set_option linter.all false
set_option maxRecDepth 100000
namespace DL
open PySem PySem.Spec PyProof.Rows L2
end DL
set_option Elab.async false
set_option linter.all false
set_option maxRecDepth 100000
namespace DL
open PySem PySem.Spec PyProof.Rows L2
section
variable {X : Cx} {a b : Expr} {fa fb : DS → Res D} {x : Str} {pos pos' bp : Pos}
end
end DL
set_option Elab.async false
set_option linter.all false
set_option maxRecDepth 100000
namespace DL
open PySem PySem.Spec PyProof.Rows L2
end DL
set_option Elab.async false
set_option linter.all false
set_option maxRecDepth 100000
namespace DL
open PySem PySem.Spec PyProof.Rows L2
section
variable {X : Cx} {e : Expr} {fe : DS → Res D} {lo hi : Option Expr} {st : Expr} {fl fu fs : DS → Res (Option Int)} {pos p2 : Pos}
end
end DL
set_option Elab.async false
set_option linter.all false
set_option maxRecDepth 100000
namespace DL
open PySem PySem.Spec PyProof.Rows L2
section
variable {X : Cx} {tg : Expr}
end
section
variable {X : Cx} {tg : Expr} {t : TGD} {body : List Stmt} {fb : DS → Out} {pos : Pos} {G H : Hp} {E : Ends}
end
end DL
set_option Elab.async false
set_option linter.all false
set_option maxRecDepth 100000
namespace DL
open PySem PySem.Spec PyProof.Rows L2
noncomputable def fstrG (c : Str) : D → Res D
  | .str x => if (reprText x).length ≤ sizeLine ∧ ((Str.empty ++ c) ++ reprText x).length ≤ sizeLine then .ok (.str ((Str.empty ++ c) ++ reprText x)) else .stuck
  | _ => .stuck
noncomputable def fstrF (c : Str) (f : DS → Res D) : DS → Res D := fun δ => (f δ).bind (fstrG c)
theorem pd_fstr {X : Cx} {e : Expr} {f : DS → Res D} {c : Str} {j} {p1 p2 pos : Pos} (he : PD X e f) (hz : (Str.empty ++ c).length ≤ sizeLine := by decide +kernel) : PD X (.JoinedStr [.Constant (.str c) j p1, .FormattedValue e 114 none p2] pos) (fstrF c f) := by
  intro pins s σ G H δ I R hs
  unfold fstrF at hs ⊢
  refine wpAny_JoinedStr ?_
  refine (pd_str (X := X) (x := c) (j := j) (pos := p1)).use I R (by intro z; cases z) (fun d u s1 v H1 q I1 r1 e1 b1 q1 => ?_) fun e s1 q => q.none.elim
  cases q
  rw [repS q1] at r1
  obtain ⟨t, rfl⟩ := r1
  refine ⟨c, t, rfl, hz, ?_⟩
  refine wpAny_FormattedValue_repr (he.use I1 (R.mono e1) (bind_l hs) (fun d u s2 v H2 q I2 r2 e2 b2 q2 => ?_) fun e s2 p => p.back e1 b1 fun x z => bind_x z)
  have h2 := bind_r hs q
  unfold fstrG at h2
  split at h2
  · rename_i x
    rw [repS q2] at r2
    obtain ⟨t2, rfl⟩ := r2
    split at h2
    · rename_i hl
      refine wpAny_pyReprObj_gives (T := "str") (typeIs_str _ _ _) PySem.F.slot_str_repr PySem.F.entry_str_repr (PySem.F.args_str_repr_1 _) (gives_str_repr x t2) ?_ rfl hl.1
      have fin : ∀ (t3 : Tok) (tk : Nat), Joins (model X.prog X.w) X.A (XPost X pins σ H s.heap ((f δ).bind (fstrG c))) [] ((Str.empty ++ c) ++ reprText x) (fun out s₁ => out.length ≤ sizeLine ∧ EPost X pins σ H ((f δ).bind (fstrG c)) (.str out s₁.toks) { s₁ with toks := s₁.toks + 1 }) { s2 with toks := tk } := fun t3 tk => by
        refine ⟨hl.2, .str _, .str _, H2, ?_, (I2.tok _).tok _, ⟨_, rfl⟩, e1.trans e2, mkS'⟩
        rw [q, Res.bind_ok]
        exact if_pos hl
      exact wpAny_formatField_str (hx := hl.1) ⟨_, _, rfl, hl.2, fin 0 _⟩ ⟨_, _, rfl, hl.2, fin 0 _⟩
    · exact (h2 rfl).elim
  · exact (h2 rfl).elim
noncomputable def mulS : D → D → Res D
  | .str x, .int k => if 2 ≤ k ∧ k ≤ 1000 ∧ 1 ≤ x.length ∧ x.length ≤ 1000 then .ok (.str ⟨(List.replicate k.toNat x.cps).foldl (· ++ ·) #[]⟩) else .stuck
  | a, b => mulE a b
theorem ne_mulS (x y : D) : NoErr (mulS x y) := by
  unfold mulS
  split
  · exact noErr_ite noErr_ok noErr_stuck
  · exact ne_mulE _ _
theorem rep_len (x : Array Nat) : ∀ (k : Nat) (a : Array Nat), ((List.replicate k x).foldl (· ++ ·) a).size = a.size + k * x.size
  | 0, a => by simp
  | k + 1, a => by
    rw [List.replicate_succ, List.foldl_cons, rep_len x k, Array.size_append, Nat.succ_mul]; omega
theorem od_mulS {X : Cx} : OpD X (binaryOp .Mult) mulS := by
  intro E pins s σ H x y v u a b d I r1 r2 p1 p2 e
  unfold mulS at e
  split at e
  · rename_i z k
    split at e
    · rename_i c
      cases e
      rw [repS p1] at r1
      obtain ⟨t, rfl⟩ := r1
      rw [repI p2] at r2
      obtain ⟨t2, rfl⟩ := r2
      have hz : z.length * k.toNat ≤ 1000000 := Nat.mul_le_mul c.2.2.2 (show k.toNat ≤ 1000 by omega)
      refine PySem.P.mul_str ?_ (fun _ _ => ?_) (fun _ _ => ?_) ?_
      · rw [decide_eq_false (by omega), decide_eq_false (by omega)]; rfl
      · have h1 : (z.length : Int) * k ≤ 1000 * 1000 := Int.mul_le_mul (by omega) (by omega) (by omega) (by decide)
        have h2 : (z.length : Int) ≤ (2 ^ 63 - 1) / k := Int.le_ediv_of_mul_le (by omega) (by omega)
        omega
      · exact decide_eq_false (Nat.not_lt.mpr (Nat.le_trans hz (by decide)))
      · have n1 : (k == 1 || z.length == 0) = false := by
          have a1 : (k == 1) = false := beq_eq_false_iff_ne.mpr (by omega)
          have a2 : (z.length == 0) = false := beq_eq_false_iff_ne.mpr (by omega)
          rw [a1, a2]; rfl
        rw [if_neg (by omega), n1]
        refine ⟨?_, .str _, .str _, H, rfl, I.tok _, ⟨_, rfl⟩, Same.refl H, mkS'⟩
        show ((List.replicate k.toNat z.cps).foldl (· ++ ·) #[]).size ≤ sizeLine
        rw [rep_len]
        have : k.toNat * z.cps.size = z.length * k.toNat := Nat.mul_comm ..
        rw [this]
        exact Nat.le_trans (by simpa using hz) (by decide)
    · cases e
  · exact od_mulE E pins s σ H x y v u _ _ d I r1 r2 p1 p2 e
end DL
set_option Elab.async false
set_option linter.all false
set_option maxRecDepth 100000
namespace DL
open PySem PySem.Spec PyProof.Rows L2
section
variable {X : Cx} {e : Expr} {fe : DS → Res D} {lo hi : Option Expr} {st : Expr} {fl fu fs : DS → Res (Option Int)} {pos p2 : Pos}
end
section
variable {X : Cx} {tg iter : Expr} {body : List Stmt} {t : TGD} {fb : DS → Out} {pos : Pos}
end
end DL
set_option Elab.async false
set_option linter.all false
set_option maxRecDepth 100000
namespace DL
open PySem PySem.Spec PyProof.Rows L2
theorem pad_str {X : Cx} {x : Str} {j} {pos : Pos} {es : List Expr} {fs : DS → Res (List D)} (h : PAD X es fs) : PAD X (.Constant (.str x) j pos :: es) (consD (fun _ => .ok (.str x)) fs) := pad_cons pd_str h
end DL
set_option Elab.async false
set_option linter.all false
set_option maxRecDepth 100000
namespace DL
open PySem PySem.Spec PyProof.Rows L2
section
variable {X : Cx} {e : Expr} {es : List Expr} {fs : DS → Res (List D)} {F : List D → Res D} {k : Nat} {f : Addr} {fd : FuncData} {ps : List Str} {x : Str} {p pos : Pos}
end
end DL
namespace Mine
noncomputable def cm (a b : Int) : Int := (Int.gcd a b : Nat)
theorem cm_turn {a b : Int} (ha : 0 ≤ a) (hb : 0 ≤ b) : cm b (Int.fmod a b) = cm a b := by
  unfold cm
  rw [Int.fmod_eq_emod_of_nonneg a hb]
  congr 1
  obtain ⟨x, rfl⟩ := Int.eq_ofNat_of_zero_le ha
  obtain ⟨y, rfl⟩ := Int.eq_ofNat_of_zero_le hb
  rw [← Int.natCast_emod]
  simp only [Int.gcd, Int.natAbs_natCast]
  rw [Nat.gcd_comm y (x % y), ← Nat.gcd_rec, Nat.gcd_comm]
theorem cm_zero {a : Int} (ha : 0 ≤ a) : cm a 0 = a := by
  unfold cm; rw [Int.gcd_zero_right]; omega
theorem cm_abs (a b : Int) : cm (a.natAbs : Int) (b.natAbs : Int) = cm a b := by
  unfold cm; simp [Int.gcd]
end Mine
set_option Elab.async false
set_option linter.all false
set_option maxRecDepth 100000
namespace DL
open PySem PySem.Spec PyProof.Rows L2
theorem ap_seq (a b : DS → Out) (δ : DS) : seqD a b δ = (a δ).seq b := Eq.trans rfl rfl
theorem bnd_ok {α β : Type} (a : α) (f : α → Res β) : (Res.ok a).bind f = f a := Eq.trans rfl rfl
theorem sq_nxt (δ : DS) (g : DS → Out) : (Out.nxt δ).seq g = g δ := Eq.trans rfl rfl
theorem sq_ret (d : D) (g : DS → Out) : (Out.ret d).seq g = .ret d := Eq.trans rfl rfl
theorem sq_err (x : Exn) (δ : DS) (g : DS → Out) : (Out.err x δ).seq g = .err x δ := Eq.trans rfl rfl
theorem ap_set (i : Nat) (f : DS → Res D) (δ : DS) : setD i f δ = onD (f δ) δ fun d => .nxt (δ.set i (some (.val d))) := Eq.trans rfl rfl
theorem on_ok (d : D) (δ : DS) (k : D → Out) : onD (.ok d) δ k = k d := Eq.trans rfl rfl
theorem on_err (x : Exn) (δ : DS) (k : D → Out) : onD (.err x) δ k = .err x δ := Eq.trans rfl rfl
theorem ont_ok (c : Bool) (δ : DS) (k : Bool → Out) : onT (.ok c) δ k = k c := Eq.trans rfl rfl
theorem onl_ok (ds : List D) (k : List D → Out) : onL (.ok ds) k = k ds := Eq.trans rfl rfl
theorem ap_if (t : DS → Res Bool) (a b : DS → Out) (δ : DS) : ifS t a b δ = onT (t δ) δ fun k => if k = true then a δ else b δ := Eq.trans rfl rfl
theorem ap_two (fa fb : DS → Res D) (g : D → D → Res D) (δ : DS) : two fa fb g δ = (fa δ).bind fun x => (fb δ).bind fun y => g x y := Eq.trans rfl rfl
theorem ap_bF {α : Type} (f : DS → Res α) (g : α → Res D) (δ : DS) : bindF f g δ = (f δ).bind g := Eq.trans rfl rfl
theorem ap_bT (f : DS → Res D) (g : D → Res Bool) (δ : DS) : bindT f g δ = (f δ).bind g := Eq.trans rfl rfl
theorem ap_cons (f : DS → Res D) (fs : DS → Res (List D)) (δ : DS) : consD f fs δ = (f δ).bind fun d => (fs δ).bind fun ds => .ok (d :: ds) := Eq.trans rfl rfl
theorem ap_tup (f : DS → Res (List D)) (δ : DS) : tupF f δ = tupD (f δ) := Eq.trans rfl rfl
theorem ap_lst (f : DS → Res (List D)) (δ : DS) : lstF f δ = lstD (f δ) := Eq.trans rfl rfl
theorem ap_ret (f : DS → Res D) (δ : DS) : retD f δ = onD (f δ) δ Out.ret := Eq.trans rfl rfl
theorem ap_neg (f : DS → Res D) (δ : DS) : negF f δ = (f δ).bind negG := Eq.trans rfl rfl
theorem neg_ok (i : Int) : negG (.int i) = .ok (.int (-i)) := Eq.trans rfl rfl
theorem ap_notT (f : DS → Res Bool) (δ : DS) : notT f δ = (f δ).bind fun c => .ok (!c) := Eq.trans rfl rfl
theorem ap_andT (f g : DS → Res Bool) (δ : DS) : andT f g δ = (f δ).bind fun c => if c = true then g δ else .ok false := Eq.trans rfl rfl
theorem ap_orT (f g : DS → Res Bool) (δ : DS) : orT f g δ = (f δ).bind fun c => if c = true then .ok true else g δ := Eq.trans rfl rfl
theorem ap_orV (f g : DS → Res D) (δ : DS) : orV f g δ = (f δ).bind fun x => (boolD x).bind fun c => if c = true then .ok (.bl true) else g δ := Eq.trans rfl rfl
theorem ap_ifD (t : DS → Res Bool) (f g : DS → Res D) (δ : DS) : ifD t f g δ = (t δ).bind fun c => if c = true then f δ else g δ := Eq.trans rfl rfl
theorem ap_forR (r : List D → Res (List D)) (t : TGD) (a : DS → Res (List D)) (b : DS → Out) (δ : DS) : forR r t a b δ = onL ((a δ).bind r) fun ds => forD t b ds δ := Eq.trans rfl rfl
theorem ap_slice (fe : DS → Res D) (fl fu : DS → Res (Option Int)) (δ : DS) : sliceF fe fl fu δ = (fe δ).bind fun d => (fl δ).bind fun l => (fu δ).bind fun u => cutD d l u := Eq.trans rfl rfl
theorem ap_part (f : DS → Res D) (δ : DS) : partF f δ = (f δ).bind partG := Eq.trans rfl rfl
theorem ap_noPart (δ : DS) : noPart δ = .ok none := Eq.trans rfl rfl
theorem part_int (i : Int) : partG (.int i) = .ok (some i) := Eq.trans rfl rfl
theorem ap_raise (x : Str) (fs : DS → Res (List D)) (δ : DS) (ds : List D) (h : fs δ = .ok ds) : raiseD x fs δ = .err ⟨x⟩ δ := by unfold raiseD; rw [h]
theorem out_ret (d : D) : outD (.ret d) = .ok d := Eq.trans rfl rfl
theorem out_err (x : Exn) (δ : DS) : outD (.err x δ) = .err x := Eq.trans rfl rfl
theorem cmp_ok (p : Int → Int → Bool) (i j : Int) : cmpD p (.int i) (.int j) = .ok (.bl (p i j)) := Eq.trans rfl rfl
theorem add_ok (i j : Int) : addD (.int i) (.int j) = .ok (.int (i + j)) := Eq.trans rfl rfl
theorem bool_ok (b : Bool) : boolD (.bl b) = .ok b := Eq.trans rfl rfl
theorem truth_bl (b : Bool) : truthD (.bl b) = .ok b := Eq.trans rfl rfl
theorem abs_ok (i : Int) : absG [.int i] = .ok (.int (i.natAbs : Nat)) := by
  show Res.ok (D.int _) = _
  congr 2
  split <;> omega
theorem len_lst (ds : List D) : lenG [.lst ds] = .ok (.int ds.length) := Eq.trans rfl rfl
theorem vw_val (d : D) : SV.view (.val d) = d := Eq.trans rfl rfl
theorem vw_arg (d : D) : SV.view (.arg d) = d := Eq.trans rfl rfl
theorem eqI (a b : Int) : eqD (.int a) (.int b) = .ok (.bl (decide (a = b))) := Eq.trans rfl rfl
theorem neI (a b : Int) : neD (.int a) (.int b) = .ok (.bl (!decide (a = b))) := Eq.trans rfl rfl
theorem modI {a b : Int} (h : b ≠ 0) : modD (.int a) (.int b) = .ok (.int (Int.fmod a b)) := by unfold modD; exact if_pos h
theorem mulR {a b : Int} (h : b.natAbs < 2 ^ 64) : mulD (.int a) (.int b) = .ok (.int (a * b)) := by
  unfold mulD
  exact if_pos (.inr (.inr (intBits_le h)))
theorem mulE_i (a b : Int) : mulE (.int a) (.int b) = mulD (.int a) (.int b) := Eq.trans rfl rfl
theorem log_lt {y : Int} (h : y.natAbs < 2 ^ 8000) : y.natAbs.log2 < 9000 := by
  by_cases c : y.natAbs = 0
  · rw [c]; decide
  · have := (Nat.log2_lt c).mpr h; omega
theorem fdivI {a b : Int} (h : b ≠ 0) (h2 : b.natAbs < 2 ^ 8000) : fdivD (.int a) (.int b) = .ok (.int (Int.fdiv a b)) := by
  unfold fdivD; exact if_pos ⟨h, PyProof.noPylong_of_log2 (log_lt h2)⟩
theorem cN1 : ((1 : Nat) : Int) = 1 := Eq.trans rfl rfl
theorem cN2 : ((2 : Nat) : Int) = 2 := Eq.trans rfl rfl
theorem sl0 (sv : SV) (r : DS) : slotD 0 (some sv :: r) = .ok sv.view := Eq.trans rfl rfl
theorem st0 (y x : Option SV) (r : DS) : List.set (y :: r) 0 x = x :: r := Eq.trans rfl rfl
theorem sl1 (a0 : Option SV) (sv : SV) (r : DS) : slotD 1 (a0 :: some sv :: r) = .ok sv.view := Eq.trans rfl rfl
theorem st1 (a0 : Option SV) (y x : Option SV) (r : DS) : List.set (a0 :: y :: r) 1 x = a0 :: x :: r := Eq.trans rfl rfl
theorem sl2 (a0 a1 : Option SV) (sv : SV) (r : DS) : slotD 2 (a0 :: a1 :: some sv :: r) = .ok sv.view := Eq.trans rfl rfl
theorem st2 (a0 a1 : Option SV) (y x : Option SV) (r : DS) : List.set (a0 :: a1 :: y :: r) 2 x = a0 :: a1 :: x :: r := Eq.trans rfl rfl
theorem sl3 (a0 a1 a2 : Option SV) (sv : SV) (r : DS) : slotD 3 (a0 :: a1 :: a2 :: some sv :: r) = .ok sv.view := Eq.trans rfl rfl
theorem st3 (a0 a1 a2 : Option SV) (y x : Option SV) (r : DS) : List.set (a0 :: a1 :: a2 :: y :: r) 3 x = a0 :: a1 :: a2 :: x :: r := Eq.trans rfl rfl
theorem sl4 (a0 a1 a2 a3 : Option SV) (sv : SV) (r : DS) : slotD 4 (a0 :: a1 :: a2 :: a3 :: some sv :: r) = .ok sv.view := Eq.trans rfl rfl
theorem st4 (a0 a1 a2 a3 : Option SV) (y x : Option SV) (r : DS) : List.set (a0 :: a1 :: a2 :: a3 :: y :: r) 4 x = a0 :: a1 :: a2 :: a3 :: x :: r := Eq.trans rfl rfl
theorem sl5 (a0 a1 a2 a3 a4 : Option SV) (sv : SV) (r : DS) : slotD 5 (a0 :: a1 :: a2 :: a3 :: a4 :: some sv :: r) = .ok sv.view := Eq.trans rfl rfl
theorem st5 (a0 a1 a2 a3 a4 : Option SV) (y x : Option SV) (r : DS) : List.set (a0 :: a1 :: a2 :: a3 :: a4 :: y :: r) 5 x = a0 :: a1 :: a2 :: a3 :: a4 :: x :: r := Eq.trans rfl rfl
theorem sl6 (a0 a1 a2 a3 a4 a5 : Option SV) (sv : SV) (r : DS) : slotD 6 (a0 :: a1 :: a2 :: a3 :: a4 :: a5 :: some sv :: r) = .ok sv.view := Eq.trans rfl rfl
theorem st6 (a0 a1 a2 a3 a4 a5 : Option SV) (y x : Option SV) (r : DS) : List.set (a0 :: a1 :: a2 :: a3 :: a4 :: a5 :: y :: r) 6 x = a0 :: a1 :: a2 :: a3 :: a4 :: a5 :: x :: r := Eq.trans rfl rfl
theorem tup1 (x0 : D) : tupD (.ok [x0]) = .ok (.tup [x0]) := Eq.trans rfl rfl
theorem tup2 (x0 x1 : D) : tupD (.ok [x0, x1]) = .ok (.tup [x0, x1]) := Eq.trans rfl rfl
theorem lst2 (x0 x1 : D) : lstD (.ok [x0, x1]) = .ok (.lst [x0, x1]) := Eq.trans rfl rfl
theorem lst3 (x0 x1 x2 : D) : lstD (.ok [x0, x1, x2]) = .ok (.lst [x0, x1, x2]) := Eq.trans rfl rfl
theorem lst5 (x0 x1 x2 x3 x4 : D) : lstD (.ok [x0, x1, x2, x3, x4]) = .ok (.lst [x0, x1, x2, x3, x4]) := Eq.trans rfl rfl
theorem ix_tup (ds : List D) (k : Nat) (d : D) (h : ds[k]? = some d) : ixD (.tup ds) (.int (k : Int)) = .ok d := by
  have hk : k < ds.length := by
    rcases Nat.lt_or_ge k ds.length with z | z
    · exact z
    · rw [List.getElem?_eq_none z] at h; cases h
  have e : atI ds (k : Int) = some d := by
    unfold atI ixN
    rw [if_pos (Int.natCast_nonneg k), if_pos (by omega)]
    simpa using h
  show (match atI ds (k : Int) with | some d => Res.ok d | none => .stuck) = _
  rw [e]
theorem ix_lst (ds : List D) (k : Nat) (d : D) (h : ds[k]? = some d) : ixD (.lst ds) (.int (k : Int)) = .ok d := by
  have hk : k < ds.length := by
    rcases Nat.lt_or_ge k ds.length with z | z
    · exact z
    · rw [List.getElem?_eq_none z] at h; cases h
  have e : atI ds (k : Int) = some d := by
    unfold atI ixN
    rw [if_pos (Int.natCast_nonneg k), if_pos (by omega)]
    simpa using h
  show (match atI ds (k : Int) with | some d => Res.ok d | none => .stuck) = _
  rw [e]
theorem ix_lst0 (x0 : D) (r : List D) : ixD (.lst (x0 :: r)) (.int 0) = .ok x0 := ix_lst _ 0 _ rfl
theorem ix_lst1 (x0 x1 : D) (r : List D) : ixD (.lst (x0 :: x1 :: r)) (.int 1) = .ok x1 := ix_lst _ 1 _ rfl
theorem ix_lst2 (x0 x1 x2 : D) (r : List D) : ixD (.lst (x0 :: x1 :: x2 :: r)) (.int 2) = .ok x2 := ix_lst _ 2 _ rfl
theorem rangeD_eq (lo : Int) : ∀ (n : Nat), rangeD lo n = ((List.range n).map fun k => D.int (lo + (k : Nat)))
  | 0 => rfl
  | n + 1 => by
    rw [rangeD, rangeD_eq (lo + 1) n, List.range_succ_eq_map, List.map_cons, List.map_map]
    congr 1
    · simp
    · refine List.map_congr_left fun k _ => ?_
      simp only [Function.comp, D.int.injEq]; omega
end DL
set_option Elab.async false
set_option linter.all false
set_option maxRecDepth 100000
namespace Mine
open PySem DL
noncomputable def gN (n : Nat) (ts : List Int) : Nat := ts.foldl (fun s t => Nat.gcd s t.natAbs) n
structure Nf (ts : List Int) (b : Int) : Prop where
  pos : 0 < b
  one : gN b.natAbs ts = 1
abbrev num (ts : List Int) (b : Int) : D := .tup [.tup (ts.map .int), .int b]
theorem toPs_map (ts : List Int) : toPs (ts.map .int) = ts.map PyData.int := by
  induction ts with
  | nil => rfl
  | cons t ts ih => simp only [List.map_cons, toPs, toP, ih]
theorem okD_ints (n : Nat) (ts : List Int) : (ts.map D.int).all (okD n) = true := by
  induction ts with
  | nil => rfl
  | cons t ts ih =>
    simp only [List.map_cons, List.all_cons, ih, Bool.and_true]
    cases n <;> rfl
theorem eqvAll_ints : ∀ (a b : List Int), PyData.eqvAll (a.map PyData.int) (b.map PyData.int) = decide (a = b)
  | [], [] => rfl
  | [], y :: ys => by simp [PyData.eqvAll]
  | x :: xs, [] => by simp [PyData.eqvAll]
  | x :: xs, y :: ys => by
    have e : PyData.eqv (.int x) (.int y) = decide (x = y) := rfl
    simp only [List.map_cons, PyData.eqvAll, e, eqvAll_ints xs ys, List.cons.injEq]
    by_cases h1 : x = y <;> by_cases h2 : xs = ys <;> simp [h1, h2]
theorem ok_num (a : List Int) (p : Int) : okD 8 (num a p) = true := by
  show ([D.tup (a.map .int), D.int p] : List D).all (okD 7) = true
  simp only [List.all_cons, List.all_nil, Bool.and_true]
  rw [show okD 7 (D.tup (a.map .int)) = (a.map D.int).all (okD 6) from rfl, okD_ints]; rfl
theorem eqv_num (a b : List Int) (p q : Int) : PyData.eqv (toP (num a p)) (toP (num b q)) = (decide (a = b) && decide (p = q)) := by
  simp only [toP, toPs, toPs_map, PyData.eqv, PyData.eqvAll, eqvAll_ints, Bool.and_true]
  rfl
theorem ne_num (a b : List Int) (p q : Int) : neD (num a p) (num b q) = .ok (.bl (!(decide (a = b) && decide (p = q)))) := by
  unfold neD
  rw [if_pos ⟨ok_num a p, ok_num b q⟩, eqv_num]
theorem fmod_small (x : Int) {y : Int} (h : y ≠ 0) : (Int.fmod x y).natAbs < y.natAbs := by
  rw [Int.fmod_eq_emod]
  have a := Int.emod_nonneg x h
  have b := Int.emod_lt_of_pos x (show 0 < (y.natAbs : Int) by omega)
  have e : x % (y.natAbs : Int) = x % y := by
    rcases Int.natAbs_eq y with q | q
    · rw [← q]
    · conv => rhs; rw [q]
      rw [Int.emod_neg]
  rw [e] at b
  split
  · omega
  · rename_i c
    have c1 : ¬ (0 ≤ y) := fun z => c (.inl z)
    have c2 : x % y ≠ 0 := fun z => c (.inr (Int.dvd_of_emod_eq_zero z))
    omega
theorem gcd_fmod (x y : Int) : Int.gcd y (Int.fmod x y) = Int.gcd x y := by
  have e : x = y * Int.fdiv x y + Int.fmod x y := (Int.mul_fdiv_add_fmod x y).symm
  refine Nat.dvd_antisymm ?_ ?_
  · refine Int.dvd_gcd ?_ (Int.gcd_dvd_left y _)
    rw (config := {occs := .pos [2]}) [e]
    exact Int.dvd_add (Int.dvd_trans (Int.gcd_dvd_left y _) (Int.dvd_mul_right ..)) (Int.gcd_dvd_right y _)
  · refine Int.dvd_gcd (Int.gcd_dvd_right x y) ?_
    have e2 : Int.fmod x y = x - y * Int.fdiv x y := by omega
    rw [e2]
    exact Int.dvd_sub (Int.gcd_dvd_left x y) (Int.dvd_trans (Int.gcd_dvd_right x y) (Int.dvd_mul_right ..))
theorem rng_nat (n : Nat) (h : n ≤ 1000) : rng1 [.int n] = .ok (((List.range n).map fun (k : Nat) => (k : Int)).map .int) := by
  unfold rng1
  have h1 : -(2 ^ 62) ≤ (n : Int) ∧ (n : Int) < 2 ^ 62 := ⟨by omega, by omega⟩
  simp only [h1, and_self, if_true, Int.toNat_natCast, rangeD_eq, List.map_map, Function.comp_def, Int.zero_add]
end Mine
set_option Elab.async false
set_option linter.all false
set_option maxRecDepth 100000
namespace Mine
open PySem DL L2
abbrev TI (l : List Int) : D := .tup (l.map .int)
abbrev RT (rs : List (List Int)) : D := .tup (rs.reverse.map TI)
noncomputable def addL (a b : List Int) : List Int := List.zipWith (fun x y => x + y) a b
noncomputable def frH (x : List Int) : List Int := x.take (x.length / 2)
noncomputable def bhH (x : List Int) : List Int := x.drop (x.length / 2)
noncomputable def pt : List (List Int) → List Int → List Int → List Int
  | [], x, y => [x.headD 0 * y.headD 0]
  | r :: rs, x, y => addL (pt rs (frH x) (frH y)) (pt rs (pt rs (bhH x) (bhH y)) r) ++ addL (pt rs (frH x) (bhH y)) (pt rs (bhH x) (frH y))
noncomputable def lt : List (List Int) → List Int → List Int → List Int
  | [], x, y => [x.headD 0 * y.headD 0]
  | r :: rs, x, y => addL (lt rs (frH x) (frH y)) (lt rs r (lt rs (bhH x) (bhH y))) ++ addL (lt rs (frH x) (bhH y)) (lt rs (bhH x) (frH y))
noncomputable def Bd (n : Nat) (l : List Int) : Prop := ∀ t ∈ l, t.natAbs < 2 ^ n
theorem Bd.mono {n m : Nat} {l : List Int} (h : Bd n l) (e : n ≤ m) : Bd m l := fun t ht => Nat.lt_of_lt_of_le (h t ht) (Nat.pow_le_pow_right (by decide) e)
theorem Bd.fr {n : Nat} {l : List Int} (h : Bd n l) : Bd n (frH l) := fun t ht => h t (List.mem_of_mem_take ht)
theorem Bd.head {n : Nat} {l : List Int} (h : Bd n l) : (l.headD 0).natAbs < 2 ^ n := by
  cases l with
  | nil => exact Nat.two_pow_pos n
  | cons a l => exact h a (by simp)
theorem Bd.app {n : Nat} {a b : List Int} (h1 : Bd n a) (h2 : Bd n b) : Bd n (a ++ b) := fun t ht => (List.mem_append.mp ht).elim (h1 t) (h2 t)
end Mine
namespace Mine
open PySem DL L2
theorem bools_map : ∀ (bs : List Bool), bools (bs.map .bl) = some bs
  | [] => rfl
  | b :: bs => by rw [List.map_cons, bools, bools_map bs]; rfl
theorem all_bl (bs : List Bool) : allG [.lst (bs.map .bl)] = .ok (.bl (bs.all id)) := by
  show (match bools (bs.map .bl) with | some bs => Res.ok (D.bl (bs.all id)) | none => .stuck) = _
  rw [bools_map]
end Mine
set_option Elab.async false
set_option linter.all false
set_option maxRecDepth 100000
namespace Mine
open PySem DL L2
noncomputable def dg (n : Nat) : List Nat := (Nat.toDigits 10 n).map Char.toNat
theorem chr_dig {d : Nat} (h : d < 10) : (Nat.digitChar d).toNat = 48 + d := by
  have : d = 0 ∨ d = 1 ∨ d = 2 ∨ d = 3 ∨ d = 4 ∨ d = 5 ∨ d = 6 ∨ d = 7 ∨ d = 8 ∨ d = 9 := by omega
  rcases this with z | z | z | z | z | z | z | z | z | z <;> subst z <;> rfl
theorem dg_lt {n : Nat} (h : n < 10) : dg n = [48 + n] := by
  unfold dg
  rw [Nat.toDigits_of_lt_base h, List.map_cons, List.map_nil, chr_dig h]
theorem dg_ge {n : Nat} (h : 10 ≤ n) : dg n = dg (n / 10) ++ [48 + n % 10] := by
  unfold dg
  rw [Nat.toDigits_of_base_le (by decide) h, List.map_append, List.map_cons, List.map_nil, chr_dig (Nat.mod_lt n (by decide))]
theorem dg_ind {P : Nat → Prop} (h1 : ∀ n, n < 10 → P n) (h2 : ∀ n, 10 ≤ n → P (n / 10) → P n) (n : Nat) : P n := by
  induction n using Nat.strongRecOn with
  | ind n ih =>
    by_cases h : n < 10
    · exact h1 n h
    · exact h2 n (by omega) (ih (n / 10) (by omega))
theorem dg_digit (n : Nat) : ∀ c ∈ dg n, 48 ≤ c ∧ c ≤ 57 := by
  refine dg_ind (P := fun n => ∀ c ∈ dg n, 48 ≤ c ∧ c ≤ 57) (fun n h c hc => ?_) (fun n h ih c hc => ?_) n
  · rw [dg_lt h, List.mem_singleton] at hc; omega
  · rw [dg_ge h] at hc
    rcases List.mem_append.mp hc with z | z
    · exact ih c z
    · rw [List.mem_singleton] at z; omega
theorem dg_len (n : Nat) : ∀ k, 1 ≤ k → n < 10 ^ k → (dg n).length ≤ k := by
  refine dg_ind (P := fun n => ∀ k, 1 ≤ k → n < 10 ^ k → (dg n).length ≤ k) (fun n h k hk _ => ?_) (fun n h ih k hk hn => ?_) n
  · rw [dg_lt h]; exact hk
  · rw [dg_ge h, List.length_append, List.length_singleton]
    have k2 : 2 ≤ k := by
      rcases Nat.lt_or_ge k 2 with z | z
      · have : k = 1 := by omega
        subst this; omega
      · exact z
    have e : 10 ^ k = 10 ^ (k - 1) * 10 := by rw [← Nat.pow_succ]; congr 1; omega
    have := ih (k - 1) (by omega) (by rw [e] at hn; omega)
    omega
abbrev sT (l : List Nat) : Str := ⟨l.toArray⟩
theorem str_num (n : Nat) : Str.ofString (toString ((n : Nat) : Int)) = sT (dg n) := PyProof.Rows.text_ofNat n
theorem starts1 (l : List Nat) (c : Nat) : Txt.startswith (sT l) (sT [c]) = decide (l.head? = some c) := by
  unfold Txt.startswith
  have h := StrLaws.subAt_one (sT l) c 0
  have hl : (sT l).cps.toList[0]? = l.head? := by cases l <;> simp
  rw [hl] at h
  rw [Bool.eq_iff_iff, Bool.and_eq_true, decide_eq_true_eq, decide_eq_true_eq]
  exact h
theorem slice_from1 (c : Nat) (l : List Nat) : Txt.slice (sT (c :: l)) (some 1) none = sT l := by
  have h := StrLaws.sliceText_from (x := sT (c :: l)) (i := 1) ⟨by decide, by simp; omega⟩
  have h' : Txt.slice (sT (c :: l)) (some 1) none = _ := h
  rw [h']
  simp
theorem slice_all (l : List Nat) : (sT l).cps.toList = l := by simp
theorem sT_ext {x : Str} {l : List Nat} (h : x.cps.toList = l) : x = sT l := by
  obtain ⟨a⟩ := x
  show Str.mk a = Str.mk l.toArray
  rw [← h]
theorem join_list (c : Nat) (x : Str) (rest : List Str) : ((sT [c]).join (x :: rest)).cps.toList = x.cps.toList ++ rest.flatMap (fun p => c :: p.cps.toList) := by
  rw [← StrLaws.glued_cons]
  have : ∀ (rest : List Str) (acc : Array Nat), (List.foldl (fun acc p => acc ++ (sT [c]).cps ++ p.cps) acc rest).toList = acc.toList ++ rest.flatMap (fun p => c :: p.cps.toList) := by
    intro rest
    induction rest with
    | nil => intro acc; simp
    | cons p rest ih => intro acc; rw [List.foldl_cons, ih, List.flatMap_cons]; simp
  exact this rest x.cps
theorem str_app (a b : List Nat) : sT a ++ sT b = sT (a ++ b) := by
  refine sT_ext ?_
  show ((sT a).cps ++ (sT b).cps).toList = _
  simp
end Mine
set_option Elab.async false
set_option linter.all false
set_option maxRecDepth 100000
namespace DL
open PySem PySem.Spec PyProof.Rows L2
end DL
local macro_rules
  | `(tactic| push_cast [$xs,*]) => `(tactic| simp only [DL.ap_seq, DL.sq_nxt, DL.sq_ret, DL.sq_err, DL.ap_set, DL.on_ok, DL.on_err, DL.ont_ok, DL.onl_ok, DL.ap_if, DL.ap_two, DL.ap_bF, DL.ap_bT, DL.ap_cons, DL.ap_tup, DL.ap_lst, DL.ap_ret, DL.ap_neg, DL.neg_ok, DL.ap_notT, DL.ap_andT, DL.ap_orT, DL.ap_orV, DL.ap_ifD, DL.ap_forR, DL.ap_slice, DL.ap_part, DL.ap_noPart, DL.part_int, DL.out_ret, DL.out_err, DL.cmp_ok, DL.add_ok, DL.bool_ok, DL.truth_bl, DL.abs_ok, DL.len_lst, DL.vw_val, DL.vw_arg, DL.eqI, DL.neI, DL.bnd_ok, DL.mulE_i, DL.sl0, DL.st0, DL.sl1, DL.st1, DL.sl2, DL.st2, DL.sl3, DL.st3, DL.sl4, DL.st4, DL.sl5, DL.st5, DL.sl6, DL.st6, DL.tup1, DL.tup2, DL.lst2, DL.lst3, DL.lst5, DL.ix_lst0, DL.ix_lst1, DL.ix_lst2, ↓reduceIte, decide_true, decide_false, Bool.not_true, Bool.not_false, Bool.false_eq_true, Int.reduceEq, Int.reduceNe, Int.reduceLT, Int.reduceLE, Nat.reduceAdd, DL.cN1, DL.cN2, List.length_cons, List.length_nil, $xs,*])
set_option Elab.async false
set_option linter.all false
set_option maxRecDepth 100000
set_option maxHeartbeats 4000000
namespace Bk
open PySem PySem.Spec PyProof.Rows L2 DL
noncomputable def absAt (i : Nat) (δ : DS) : Nat := match δ[i]? with
  | some (some sv) => (match sv.view with | .int i => i.natAbs + 1 | _ => 0)
  | _ => 0
end Bk
set_option Elab.async false
set_option linter.all false
set_option maxRecDepth 100000
set_option maxHeartbeats 4000000
namespace Bk
open PySem PySem.Spec PyProof.Rows L2 DL
noncomputable def fuel_common_1 : DS → Nat := absAt 3
noncomputable def b_common : DS → Out :=
  (seqD (setD 2 (bindF (consD (slotD 0) (fun _ => .ok [])) absG)) (seqD (setD 3 (bindF (consD (slotD 1) (fun _ => .ok [])) absG)) (seqD (whileF fuel_common_1 (bindT (two (slotD 3) (fun _ => .ok (.int 0)) neD) boolD) (seqD (setD 4 (two (slotD 2) (slotD 3) modD)) (seqD (setD 2 (slotD 3)) (setD 3 (slotD 4))))) (retD (slotD 2)))))
noncomputable def F_common : List D → Res D := fnD 2 5 b_common
noncomputable def b_law_cell : DS → Out :=
  (seqD (ifS (bindT (two (slotD 1) (bindF (consD (slotD 0) (fun _ => .ok [])) lenG) (cmpD fun i j => decide (i < j))) boolD) (retD (two (slotD 0) (slotD 1) ixD)) Out.nxt) (retD (fun _ => .ok (.int 0))))
noncomputable def F_law_cell : List D → Res D := fnD 2 2 b_law_cell
noncomputable def fuel_law_common_1 : DS → Nat := absAt 1
noncomputable def b_law_common : DS → Out :=
  (seqD (whileF fuel_law_common_1 (bindT (two (slotD 1) (fun _ => .ok (.int 0)) neD) boolD) (seqD (setD 2 (two (slotD 0) (slotD 1) modD)) (seqD (setD 0 (slotD 1)) (setD 1 (slotD 2))))) (retD (bindF (consD (slotD 0) (fun _ => .ok [])) absG)))
noncomputable def F_law_common : List D → Res D := fnD 2 3 b_law_common
noncomputable def b_law_mixed : DS → Out :=
  (seqD (setD 3 (lstF (consD (fun _ => .ok (.int 271828183)) (consD (fun _ => .ok (.int 314159269)) (consD (fun _ => .ok (.int 161803399)) (consD (fun _ => .ok (.int 141421357)) (consD (fun _ => .ok (.int 173205081)) (fun _ => .ok [])))))))) (seqD (setD 3 (two (slotD 3) (lstF (consD (fun _ => .ok (.int 223606797)) (consD (fun _ => .ok (.int 244948975)) (consD (fun _ => .ok (.int 264575131)) (consD (fun _ => .ok (.int 331662479)) (consD (fun _ => .ok (.int 360555127)) (fun _ => .ok []))))))) addD)) (retD (two (two (two (two (slotD 0) (fun _ => .ok (.int 1)) addD) (two (slotD 3) (slotD 1) ixD) mulE) (fun _ => .ok (.int 1000000007)) modD) (slotD 2) modD))))
noncomputable def F_law_mixed : List D → Res D := fnD 3 4 b_law_mixed
end Bk
set_option Elab.async false
set_option linter.all false
set_option maxRecDepth 100000
set_option maxHeartbeats 4000000
set_option exponentiation.threshold 300000
namespace Bk
open PySem PySem.Spec PyProof.Rows L2 DL Mine
noncomputable def cell (ns : List Int) (k : Nat) : Int := ns.getD k 0
theorem w_cell (ns : List Int) (k : Nat) : F_law_cell [.lst (ns.map .int), .int k] = .ok (.int (cell ns k)) := by
  show outD (b_law_cell [some (.arg (.lst (ns.map .int))), some (.arg (.int k))]) = _
  unfold b_law_cell cell
  push_cast [List.length_map]
  by_cases h : k < ns.length
  · have h' : ((k : Int) < (ns.length : Int)) := by omega
    have hz : (ns.map D.int)[k]? = some (.int ns[k]) := by simp [h]
    simp only [h', decide_true, ↓reduceIte, sq_ret, out_ret, ix_lst _ k _ hz, on_ok]
    simp [h]
  · have h' : ¬ ((k : Int) < (ns.length : Int)) := by omega
    have hz : ns[k]? = none := List.getElem?_eq_none (by omega)
    simp only [h', decide_false, Bool.false_eq_true, ↓reduceIte, sq_nxt, on_ok, out_ret]
    simp [hz]
    rfl
abbrev lcc : DS → Res Bool := bindT (two (slotD 1) (fun _ => .ok (.int 0)) neD) boolD
abbrev lcb : DS → Out := seqD (setD 2 (two (slotD 0) (slotD 1) modD)) (seqD (setD 0 (slotD 1)) (setD 1 (slotD 2)))
theorem loop_lc : ∀ (n : Nat) (s0 s1 : SV) (z : Option SV) (x y : Int), s0.view = .int x → s1.view = .int y → y.natAbs < n →
    ∃ s0' s1' z' g, whileD lcc lcb n [some s0, some s1, z] = .nxt [some s0', s1', z'] ∧ s0'.view = .int g ∧ g.natAbs = Int.gcd x y
  | 0, _, _, _, _, _, _, _, h => absurd h (Nat.not_lt_zero _)
  | n + 1, s0, s1, z, x, y, h0, h1, h => by
    rw [whileD]
    have e : lcc [some s0, some s1, z] = .ok (!decide (y = 0)) := by
      simp only [lcc, ap_seq, sq_nxt, sq_ret, sq_err, ap_set, on_ok, on_err, ont_ok, onl_ok, ap_if, ap_two, ap_bF, ap_bT, ap_cons, ap_tup, ap_lst, ap_ret, ap_neg, neg_ok, ap_notT, ap_andT, ap_orT, ap_orV, ap_ifD, ap_forR, ap_slice, ap_part, ap_noPart, part_int, out_ret, out_err, cmp_ok, add_ok, bool_ok, truth_bl, abs_ok, len_lst, vw_val, vw_arg, eqI, neI, bnd_ok, mulE_i, sl0, st0, sl1, st1, sl2, st2, sl3, st3, sl4, st4, sl5, st5, sl6, st6, tup1, tup2, lst2, lst3, lst5, ix_lst0, ix_lst1, ix_lst2, ↓reduceIte, decide_true, decide_false, Bool.not_true, Bool.not_false, Bool.false_eq_true, Int.reduceEq, Int.reduceNe, Int.reduceLT, Int.reduceLE, Nat.reduceAdd, cN1, cN2, List.length_cons, List.length_nil, h1]
    rw [e]
    by_cases c : y = 0
    · subst c
      exact ⟨s0, some s1, z, x, rfl, h0, by simp⟩
    · simp only [c, decide_false, Bool.not_false]
      have e2 : lcb [some s0, some s1, z] = .nxt [some (.val (.int y)), some (.val (.int (Int.fmod x y))), some (.val (.int (Int.fmod x y)))] := by
        simp only [lcb, ap_seq, sq_nxt, sq_ret, sq_err, ap_set, on_ok, on_err, ont_ok, onl_ok, ap_if, ap_two, ap_bF, ap_bT, ap_cons, ap_tup, ap_lst, ap_ret, ap_neg, neg_ok, ap_notT, ap_andT, ap_orT, ap_orV, ap_ifD, ap_forR, ap_slice, ap_part, ap_noPart, part_int, out_ret, out_err, cmp_ok, add_ok, bool_ok, truth_bl, abs_ok, len_lst, vw_val, vw_arg, eqI, neI, bnd_ok, mulE_i, sl0, st0, sl1, st1, sl2, st2, sl3, st3, sl4, st4, sl5, st5, sl6, st6, tup1, tup2, lst2, lst3, lst5, ix_lst0, ix_lst1, ix_lst2, ↓reduceIte, decide_true, decide_false, Bool.not_true, Bool.not_false, Bool.false_eq_true, Int.reduceEq, Int.reduceNe, Int.reduceLT, Int.reduceLE, Nat.reduceAdd, cN1, cN2, List.length_cons, List.length_nil, h1, h0, modI c]
      rw [e2]
      obtain ⟨s0', s1', z', g, q1, q2, q3⟩ := loop_lc n (.val (.int y)) (.val (.int (Int.fmod x y))) (some (.val (.int (Int.fmod x y)))) y (Int.fmod x y) rfl rfl (by have := fmod_small x c; omega)
      exact ⟨s0', s1', z', g, q1, q2, by rw [q3, gcd_fmod]⟩
theorem w_law_common (a b : Int) : F_law_common [.int a, .int b] = .ok (.int (cm a b)) := by
  show outD (b_law_common [some (.arg (.int a)), some (.arg (.int b)), none]) = _
  unfold b_law_common
  obtain ⟨s0', s1', z', g, q1, q2, q3⟩ := loop_lc (b.natAbs + 1) (.arg (.int a)) (.arg (.int b)) none a b rfl rfl (Nat.lt_succ_self _)
  rw [ap_seq]
  show outD ((whileD lcc lcb (b.natAbs + 1) [some (.arg (.int a)), some (.arg (.int b)), none]).seq _) = _
  rw [q1]
  push_cast [q2, q3]
  rfl
abbrev cc : DS → Res Bool := bindT (two (slotD 3) (fun _ => .ok (.int 0)) neD) boolD
abbrev cb : DS → Out := (seqD (setD 4 (two (slotD 2) (slotD 3) modD)) (seqD (setD 2 (slotD 3)) (setD 3 (slotD 4))))
theorem loop_common (p q : Option SV) : ∀ (n : Nat) (x y : Int) (z : Option SV), 0 ≤ x → 0 ≤ y → y.toNat < n →
    ∃ z', whileD cc cb n [p, q, some (.val (.int x)), some (.val (.int y)), z] = .nxt [p, q, some (.val (.int (cm x y))), some (.val (.int 0)), z']
  | 0, _, _, _, _, _, h => absurd h (Nat.not_lt_zero _)
  | n + 1, x, y, z, hx, hy, h => by
    rw [whileD]
    have e : cc [p, q, some (.val (.int x)), some (.val (.int y)), z] = .ok (!decide (y = 0)) := rfl
    rw [e]
    by_cases c : y = 0
    · subst c
      exact ⟨z, by rw [cm_zero hx]; rfl⟩
    · simp only [c, decide_false, Bool.not_false]
      have e2 : cb [p, q, some (.val (.int x)), some (.val (.int y)), z] = .nxt [p, q, some (.val (.int y)), some (.val (.int (Int.fmod x y))), some (.val (.int (Int.fmod x y)))] := by
        simp only [cb, ap_seq, sq_nxt, sq_ret, sq_err, ap_set, on_ok, on_err, ont_ok, onl_ok, ap_if, ap_two, ap_bF, ap_bT, ap_cons, ap_tup, ap_lst, ap_ret, ap_neg, neg_ok, ap_notT, ap_andT, ap_orT, ap_orV, ap_ifD, ap_forR, ap_slice, ap_part, ap_noPart, part_int, out_ret, out_err, cmp_ok, add_ok, bool_ok, truth_bl, abs_ok, len_lst, vw_val, vw_arg, eqI, neI, bnd_ok, mulE_i, sl0, st0, sl1, st1, sl2, st2, sl3, st3, sl4, st4, sl5, st5, sl6, st6, tup1, tup2, lst2, lst3, lst5, ix_lst0, ix_lst1, ix_lst2, ↓reduceIte, decide_true, decide_false, Bool.not_true, Bool.not_false, Bool.false_eq_true, Int.reduceEq, Int.reduceNe, Int.reduceLT, Int.reduceLE, Nat.reduceAdd, cN1, cN2, List.length_cons, List.length_nil, modI c]
      rw [e2]
      have yp : 0 < y := by omega
      obtain ⟨z', e⟩ := loop_common p q n y (Int.fmod x y) (some (.val (.int (Int.fmod x y)))) hy (Int.fmod_nonneg_of_pos x yp) (by have := Int.fmod_lt_of_pos x yp; omega)
      refine ⟨z', ?_⟩
      rw [cm_turn hx hy] at e
      exact e
theorem w_common (a b : Int) : F_common [.int a, .int b] = .ok (.int (cm a b)) := by
  show outD (b_common [some (.arg (.int a)), some (.arg (.int b)), none, none, none]) = _
  unfold b_common
  obtain ⟨z', e⟩ := loop_common (some (.arg (.int a))) (some (.arg (.int b))) (((b.natAbs : Int)).natAbs + 1) a.natAbs b.natAbs none (by omega) (by omega) (by omega)
  rw [cm_abs] at e
  push_cast [DL.ap_seq]
  show outD ((whileD cc cb (((b.natAbs : Int)).natAbs + 1) [some (.arg (.int a)), some (.arg (.int b)), some (.val (.int (a.natAbs : Nat))), some (.val (.int (b.natAbs : Nat))), none]).seq _) = _
  rw [e]; rfl
section
end
end Bk
set_option Elab.async false
set_option linter.all false
set_option maxRecDepth 100000
set_option maxHeartbeats 4000000
set_option exponentiation.threshold 300000
namespace Bk
open PySem PySem.Spec PyProof.Rows L2 DL Mine
noncomputable def mixV : List Int := [271828183, 314159269, 161803399, 141421357, 173205081, 223606797, 244948975, 264575131, 331662479, 360555127]
noncomputable def mix (c : Int) (k : Nat) (m : Int) : Int := Int.fmod (Int.fmod ((c + 1) * mixV.getD k 0) 1000000007) m
theorem mix_bd (c : Int) (k : Nat) {m : Int} (h : 0 < m) : 0 ≤ mix c k m ∧ mix c k m < m := ⟨Int.fmod_nonneg_of_pos _ h, Int.fmod_lt_of_pos _ h⟩
theorem w_mixed (c : Int) (k : Nat) (m : Int) (hk : k < 10) (hm : 0 < m) : F_law_mixed [.int c, .int k, .int m] = .ok (.int (mix c k m)) := by
  show outD (b_law_mixed [some (.arg (.int c)), some (.arg (.int k)), some (.arg (.int m)), none]) = _
  unfold b_law_mixed mix
  have ad : addD (.lst [.int 271828183, .int 314159269, .int 161803399, .int 141421357, .int 173205081]) (.lst [.int 223606797, .int 244948975, .int 264575131, .int 331662479, .int 360555127]) = .ok (.lst (mixV.map .int)) := rfl
  have hl : k < mixV.length := hk
  have hg : (mixV.map D.int)[k]? = some (.int (mixV.getD k 0)) := by
    rw [List.getElem?_map, List.getD_eq_getElem?_getD, List.getElem?_eq_getElem hl]; rfl
  have hs : ∀ v ∈ mixV, v.natAbs < 2 ^ 64 := by decide
  have hv : (mixV.getD k 0).natAbs < 2 ^ 64 := by
    rw [List.getD_eq_getElem?_getD, List.getElem?_eq_getElem hl]; exact hs _ (List.getElem_mem hl)
  push_cast [ad, ix_lst _ k _ hg, mulR hv, modI (show (1000000007 : Int) ≠ 0 by decide), modI (Int.ne_of_gt hm)]
end Bk
set_option Elab.async false
set_option linter.all false
set_option maxRecDepth 100000
set_option maxHeartbeats 4000000
namespace K03
open PySem PySem.Spec PyProof.Rows L2 DL Bk Mine
noncomputable def is_NoText : D → Option Bool
  | .exc c => if c = "NoText" then some true else none
  | .non => some false
  | _ => none
noncomputable def is_ValueError : D → Option Bool
  | .exc c => if c = "NoText" then some true else none
  | .non => some false
  | _ => none
noncomputable def is_NoOver : D → Option Bool
  | .exc c => if c = "NoText" then some false else none
  | .non => some false
  | _ => none
noncomputable def sub_HallError (c : Str) : Option Bool := if c = "NoText" then some true else none
noncomputable def top (i : Nat) : Stmt := PySem.Challenge.pw_compasshall_k03_texts_refused.main.body.getD i (.Pass ⟨0, 0, 0, 0⟩)
abbrev st_common : Stmt := top 5
abbrev st_is_plain : Stmt := top 11
abbrev st_law_cell : Stmt := top 13
abbrev st_law_mixed : Stmt := top 14
abbrev st_law_common : Stmt := top 15
abbrev st_law_sign_by : Stmt := top 16
abbrev st_law_odd : Stmt := top 17
abbrev st_law_figures : Stmt := top 19
abbrev st_are_parts : Stmt := top 10
abbrev st_law_text : Stmt := top 18
abbrev st_law_due : Stmt := top 20
abbrev st_fraction_read : Stmt := top 9
abbrev st_law : Stmt := top 21
theorem sc_common : FnScope ["a", "b", "one", "other", "rest"] ["a", "b"] (defScope st_common) := ⟨rfl, rfl, rfl, by decide +kernel, rfl, by decide +kernel, by decide +kernel⟩
theorem sc_is_plain : FnScope ["part"] ["part"] (defScope st_is_plain) := ⟨rfl, rfl, rfl, by decide +kernel, rfl, by decide +kernel, by decide +kernel⟩
theorem sc_law_cell : FnScope ["_law_script", "_law_k"] ["_law_script", "_law_k"] (defScope st_law_cell) := ⟨rfl, rfl, rfl, by decide +kernel, rfl, by decide +kernel, by decide +kernel⟩
theorem sc_law_mixed : FnScope ["_law_cell_here", "_law_k", "_law_many", "_law_some"] ["_law_cell_here", "_law_k", "_law_many"] (defScope st_law_mixed) := ⟨rfl, rfl, rfl, by decide +kernel, rfl, by decide +kernel, by decide +kernel⟩
theorem sc_law_common : FnScope ["_law_one", "_law_other", "_law_rest"] ["_law_one", "_law_other"] (defScope st_law_common) := ⟨rfl, rfl, rfl, by decide +kernel, rfl, by decide +kernel, by decide +kernel⟩
theorem sc_law_sign_by : FnScope ["_law_cell_here", "_law_some"] ["_law_cell_here"] (defScope st_law_sign_by) := ⟨rfl, rfl, rfl, by decide +kernel, rfl, by decide +kernel, by decide +kernel⟩
theorem sc_law_odd : FnScope ["_law_cell_here", "_law_some"] ["_law_cell_here"] (defScope st_law_odd) := ⟨rfl, rfl, rfl, by decide +kernel, rfl, by decide +kernel, by decide +kernel⟩
theorem sc_law_figures : FnScope ["_law_word"] ["_law_word"] (defScope st_law_figures) := ⟨rfl, rfl, rfl, by decide +kernel, rfl, by decide +kernel, by decide +kernel⟩
theorem sc_are_parts : FnScope ["parts"] ["parts"] (defScope st_are_parts) := ⟨rfl, rfl, rfl, by decide +kernel, rfl, by decide +kernel, by decide +kernel⟩
theorem sc_law_text : FnScope ["_law_cell_here", "_law_other", "_law_third", "_law_way", "_law_text_here", "_law_at"] ["_law_cell_here", "_law_other", "_law_third"] (defScope st_law_text) := ⟨rfl, rfl, rfl, by decide +kernel, rfl, by decide +kernel, by decide +kernel⟩
theorem sc_law_due : FnScope ["_law_text_here", "_law_way", "_law_parts", "_law_top", "_law_bottom", "_law_shared"] ["_law_text_here"] (defScope st_law_due) := ⟨rfl, rfl, rfl, by decide +kernel, rfl, by decide +kernel, by decide +kernel⟩
theorem sc_fraction_read : FnScope ["text", "below", "unsigned", "parts", "top", "bottom", "shared"] ["text"] (defScope st_fraction_read) := ⟨rfl, rfl, rfl, by decide +kernel, rfl, by decide +kernel, by decide +kernel⟩
theorem sc_law : FnScope ["_law_script", "_law_k", "_law_text_here", "_law_due_here", "_law_found", "_law_caught", "error"] ["_law_script"] (defScope st_law) := ⟨rfl, rfl, rfl, by decide +kernel, rfl, by decide +kernel, by decide +kernel⟩
noncomputable def b_is_plain : DS → Out :=
  (seqD (ifS (orT (bindT (two (slotD 0) (fun _ => .ok (.str "")) eqD) boolD) (orT (bindT (two (bindF (consD (slotD 0) (fun _ => .ok [])) lenG) (fun _ => .ok (.int 60)) (cmpD fun i j => decide (j < i))) boolD) (bindT (methD "str" startsG (slotD 0) (consD (fun _ => .ok (.str "0")) (fun _ => .ok []))) truthD))) (retD (fun _ => .ok (.bl false))) Out.nxt) (retD (bindF (consD (compD 1 [] (tgtN 0) (two (slotD 0) (fun _ => .ok (.str "0123456789")) inD) (bindL (slotD 0) seqItems)) (fun _ => .ok [])) allG)))
noncomputable def F_is_plain : List D → Res D := fnD 1 1 b_is_plain
noncomputable def b_law_sign_by : DS → Out :=
  (seqD (setD 1 (fun _ => .ok (.str " !\"#$&'()*+,-./0123456789:;<=>?@ABCDEFGHIJKLMNOPQRSTUVWXYZ[\\]^_"))) (seqD (setD 1 (two (slotD 1) (fun _ => .ok (.str "abcdefghijklmnopqrstuvwxyz{|}~")) addD)) (seqD (ifS (bindT (two (two (slotD 0) (fun _ => .ok (.int 2)) modD) (fun _ => .ok (.int 0)) eqD) boolD) (setD 1 (fun _ => .ok (.str "-/0123456789 "))) Out.nxt) (retD (two (slotD 1) (two (two (slotD 0) (fun _ => .ok (.int 2)) fdivD) (bindF (consD (slotD 1) (fun _ => .ok [])) lenG) modD) ixD)))))
noncomputable def F_law_sign_by : List D → Res D := fnD 1 2 b_law_sign_by
noncomputable def b_law_odd : DS → Out :=
  (seqD (setD 1 (lstF (consD (fun _ => .ok (.str "")) (consD (fun _ => .ok (.str "-")) (consD (fun _ => .ok (.str "/")) (consD (fun _ => .ok (.str "1/")) (consD (fun _ => .ok (.str "/2")) (consD (fun _ => .ok (.str "-/2")) (consD (fun _ => .ok (.str "0/0")) (consD (fun _ => .ok (.str "1/0")) (consD (fun _ => .ok (.str "1/-2")) (consD (fun _ => .ok (.str "--1")) (consD (fun _ => .ok (.str "+1")) (consD (fun _ => .ok (.str " 1")) (consD (fun _ => .ok (.str "1 ")) (consD (fun _ => .ok (.str "1 /2")) (consD (fun _ => .ok (.str "00")) (consD (fun _ => .ok (.str "01")) (consD (fun _ => .ok (.str "1/02")) (fun _ => .ok [])))))))))))))))))))) (seqD (setD 1 (two (slotD 1) (lstF (consD (fun _ => .ok (.str "1/2/3")) (consD (fun _ => .ok (.str "1.5")) (consD (fun _ => .ok (.str "1e3")) (consD (fun _ => .ok (.str "-01")) (consD (fun _ => .ok (.str "1//2")) (consD (fun _ => .ok (.str "a")) (consD (fun _ => .ok (.str "1_0")) (fun _ => .ok []))))))))) addD)) (retD (two (slotD 1) (two (slotD 0) (fun _ => .ok (.int 24)) modD) ixD))))
noncomputable def F_law_odd : List D → Res D := fnD 1 2 b_law_odd
noncomputable def b_law_figures : DS → Out :=
  (seqD (ifS (orT (bindT (two (bindF (consD (slotD 0) (fun _ => .ok [])) lenG) (fun _ => .ok (.int 1)) (cmpD fun i j => decide (i < j))) boolD) (orT (bindT (two (bindF (consD (slotD 0) (fun _ => .ok [])) lenG) (fun _ => .ok (.int 60)) (cmpD fun i j => decide (j < i))) boolD) (andT (bindT (two (bindF (consD (slotD 0) (fun _ => .ok [])) lenG) (fun _ => .ok (.int 1)) (cmpD fun i j => decide (j < i))) boolD) (bindT (two (two (slotD 0) (fun _ => .ok (.int 0)) ixD) (fun _ => .ok (.str "0")) eqD) boolD)))) (retD (fun _ => .ok (.bl false))) Out.nxt) (retD (bindF (consD (compD 1 [] (tgtN 0) (two (slotD 0) (fun _ => .ok (.str "0123456789")) inD) (bindL (slotD 0) seqItems)) (fun _ => .ok [])) allG)))
noncomputable def F_law_figures : List D → Res D := fnD 1 1 b_law_figures
noncomputable def b_are_parts : DS → Out :=
  (seqD (ifS (bindT (two (bindF (consD (slotD 0) (fun _ => .ok [])) lenG) (fun _ => .ok (.int 2)) (cmpD fun i j => decide (j < i))) boolD) (retD (fun _ => .ok (.bl false))) Out.nxt) (seqD (ifS (andT (bindT (two (bindF (consD (slotD 0) (fun _ => .ok [])) lenG) (fun _ => .ok (.int 2)) eqD) boolD) (notT (bindT (bindF (consD (two (slotD 0) (fun _ => .ok (.int 1)) ixD) (fun _ => .ok [])) F_is_plain) truthD))) (retD (fun _ => .ok (.bl false))) Out.nxt) (retD (orV (two (two (slotD 0) (fun _ => .ok (.int 0)) ixD) (fun _ => .ok (.str "0")) eqD) (bindF (consD (two (slotD 0) (fun _ => .ok (.int 0)) ixD) (fun _ => .ok [])) F_is_plain)))))
noncomputable def F_are_parts : List D → Res D := fnD 1 1 b_are_parts
noncomputable def b_law_text : DS → Out :=
  (seqD (setD 3 (bindF (consD (slotD 0) (consD (fun _ => .ok (.int 0)) (consD (fun _ => .ok (.int 6)) (fun _ => .ok [])))) F_law_mixed)) (seqD (ifS (bindT (two (slotD 3) (fun _ => .ok (.int 0)) eqD) boolD) (retD (bindF (consD (slotD 1) (fun _ => .ok [])) F_law_odd)) Out.nxt) (seqD (setD 4 (bindF (consD (two (slotD 1) (two (lstF (consD (fun _ => .ok (.int 10)) (consD (fun _ => .ok (.int 100)) (consD (fun _ => .ok (.int 1000)) (fun _ => .ok []))))) (two (slotD 2) (fun _ => .ok (.int 3)) modD) ixD) modD) (fun _ => .ok [])) strG)) (seqD (ifS (bindT (two (slotD 3) (fun _ => .ok (.int 1)) eqD) boolD) (setD 4 (two (fun _ => .ok (.str "7")) (two (fun _ => .ok (.int 55)) (two (slotD 2) (fun _ => .ok (.int 8)) modD) addD) mulS)) Out.nxt) (seqD (ifS (bindT (two (bindF (consD (slotD 0) (consD (fun _ => .ok (.int 1)) (consD (fun _ => .ok (.int 2)) (fun _ => .ok [])))) F_law_mixed) (fun _ => .ok (.int 0)) eqD) boolD) (setD 4 (two (two (two (slotD 4) (fun _ => .ok (.str "/")) addD) (two (lstF (consD (fun _ => .ok (.str "")) (consD (fun _ => .ok (.str "0")) (fun _ => .ok [])))) (bindF (consD (two (bindF (consD (slotD 0) (consD (fun _ => .ok (.int 2)) (consD (fun _ => .ok (.int 5)) (fun _ => .ok [])))) F_law_mixed) (fun _ => .ok (.int 0)) eqD) (fun _ => .ok [])) intG) ixD) addD) (bindF (consD (two (two (slotD 2) (fun _ => .ok (.int 3)) fdivD) (fun _ => .ok (.int 100)) modD) (fun _ => .ok [])) strG) addD)) Out.nxt) (seqD (ifS (bindT (two (slotD 3) (fun _ => .ok (.int 2)) eqD) boolD) (setD 4 (two (two (slotD 4) (fun _ => .ok (.str "/")) addD) (two (fun _ => .ok (.str "3")) (two (fun _ => .ok (.int 58)) (two (slotD 2) (fun _ => .ok (.int 5)) modD) addD) mulS) addD)) Out.nxt) (seqD (ifS (bindT (two (bindF (consD (slotD 0) (consD (fun _ => .ok (.int 3)) (consD (fun _ => .ok (.int 3)) (fun _ => .ok [])))) F_law_mixed) (fun _ => .ok (.int 0)) eqD) boolD) (setD 4 (two (fun _ => .ok (.str "-")) (slotD 4) addD)) Out.nxt) (seqD (setD 5 (bindF (consD (slotD 0) (consD (fun _ => .ok (.int 4)) (consD (two (bindF (consD (slotD 4) (fun _ => .ok [])) lenG) (fun _ => .ok (.int 1)) addD) (fun _ => .ok [])))) F_law_mixed)) (seqD (ifS (bindT (two (slotD 3) (fun _ => .ok (.int 3)) eqD) boolD) (retD (two (two (sliceF (slotD 4) noPart (partF (slotD 5))) (bindF (consD (two (slotD 2) (fun _ => .ok (.int 7)) fdivD) (fun _ => .ok [])) F_law_sign_by) addD) (sliceF (slotD 4) (partF (slotD 5)) noPart) addD)) Out.nxt) (seqD (ifS (bindT (two (slotD 3) (fun _ => .ok (.int 4)) eqD) boolD) (retD (two (two (sliceF (slotD 4) noPart (partF (slotD 5))) (bindF (consD (two (slotD 2) (fun _ => .ok (.int 7)) fdivD) (fun _ => .ok [])) F_law_sign_by) addD) (sliceF (slotD 4) (partF (two (slotD 5) (fun _ => .ok (.int 1)) addD)) noPart) addD)) Out.nxt) (retD (slotD 4))))))))))))
noncomputable def F_law_text : List D → Res D := fnD 3 6 b_law_text
noncomputable def b_law_due : DS → Out :=
  (seqD (setD 1 (fun _ => .ok (.int 1))) (seqD (ifS (bindT (two (sliceF (slotD 0) noPart (partF (fun _ => .ok (.int 1)))) (fun _ => .ok (.str "-")) eqD) boolD) (seqD (setD 1 (negF (fun _ => .ok (.int 1)))) (setD 0 (sliceF (slotD 0) (partF (fun _ => .ok (.int 1))) noPart))) Out.nxt) (seqD (setD 2 (methD "str" splitG (slotD 0) (consD (fun _ => .ok (.str "/")) (fun _ => .ok [])))) (seqD (ifS (orT (bindT (two (bindF (consD (slotD 2) (fun _ => .ok [])) lenG) (fun _ => .ok (.int 2)) (cmpD fun i j => decide (j < i))) boolD) (notT (bindT (bindF (consD (compD 1 [] (tgtN 0) (bindF (consD (slotD 0) (fun _ => .ok [])) F_law_figures) (bindL (slotD 2) seqItems)) (fun _ => .ok [])) allG) truthD))) (retD (fun _ => .ok .non)) Out.nxt) (seqD (ifS (bindT (two (bindF (consD (slotD 2) (fun _ => .ok [])) lenG) (fun _ => .ok (.int 1)) eqD) boolD) (retD (tupF (consD (tupF (consD (two (slotD 1) (bindF (consD (slotD 0) (fun _ => .ok [])) intG) mulE) (fun _ => .ok []))) (consD (fun _ => .ok (.int 1)) (fun _ => .ok []))))) Out.nxt) (seqD (setD 3 (bindF (consD (two (slotD 2) (fun _ => .ok (.int 0)) ixD) (fun _ => .ok [])) intG)) (seqD (setD 4 (bindF (consD (two (slotD 2) (fun _ => .ok (.int 1)) ixD) (fun _ => .ok [])) intG)) (seqD (ifS (bindT (two (slotD 4) (fun _ => .ok (.int 0)) eqD) boolD) (retD (fun _ => .ok .non)) Out.nxt) (seqD (setD 5 (bindF (consD (slotD 3) (consD (slotD 4) (fun _ => .ok []))) F_law_common)) (retD (tupF (consD (tupF (consD (two (slotD 1) (two (slotD 3) (slotD 5) fdivD) mulE) (fun _ => .ok []))) (consD (two (slotD 4) (slotD 5) fdivD) (fun _ => .ok []))))))))))))))
noncomputable def F_law_due : List D → Res D := fnD 1 6 b_law_due
noncomputable def b_fraction_read : DS → Out :=
  (seqD (setD 1 (methD "str" startsG (slotD 0) (consD (fun _ => .ok (.str "-")) (fun _ => .ok [])))) (seqD (setD 2 (ifD (bindT (slotD 1) truthD) (sliceF (slotD 0) (partF (fun _ => .ok (.int 1))) noPart) (slotD 0))) (seqD (setD 3 (methD "str" splitG (slotD 2) (consD (fun _ => .ok (.str "/")) (fun _ => .ok [])))) (seqD (ifS (notT (bindT (bindF (consD (slotD 3) (fun _ => .ok [])) F_are_parts) truthD)) (raiseD "NoText" (consD (fstrF "this is no fraction: " (slotD 0)) (fun _ => .ok []))) Out.nxt) (seqD (setD 4 (bindF (consD (two (slotD 3) (fun _ => .ok (.int 0)) ixD) (fun _ => .ok [])) intG)) (seqD (setD 5 (ifD (bindT (two (bindF (consD (slotD 3) (fun _ => .ok [])) lenG) (fun _ => .ok (.int 2)) eqD) boolD) (bindF (consD (two (slotD 3) (fun _ => .ok (.int 1)) ixD) (fun _ => .ok [])) intG) (fun _ => .ok (.int 1)))) (seqD (setD 6 (bindF (consD (slotD 4) (consD (slotD 5) (fun _ => .ok []))) F_common)) (seqD (ifS (bindT (slotD 1) truthD) (setD 4 (negF (slotD 4))) Out.nxt) (retD (tupF (consD (tupF (consD (two (slotD 4) (slotD 6) fdivD) (fun _ => .ok []))) (consD (two (slotD 5) (slotD 6) fdivD) (fun _ => .ok [])))))))))))))
noncomputable def F_fraction_read : List D → Res D := fnD 1 7 b_fraction_read
noncomputable def b_law : DS → Out :=
  (seqD (forR (rng1) (tgtN 1) (consD (fun _ => .ok (.int 3)) (fun _ => .ok [])) (seqD (setD 2 (bindF (consD (bindF (consD (slotD 0) (consD (two (fun _ => .ok (.int 3)) (slotD 1) mulE) (fun _ => .ok []))) F_law_cell) (consD (bindF (consD (slotD 0) (consD (two (two (fun _ => .ok (.int 3)) (slotD 1) mulE) (fun _ => .ok (.int 1)) addD) (fun _ => .ok []))) F_law_cell) (consD (bindF (consD (slotD 0) (consD (two (two (fun _ => .ok (.int 3)) (slotD 1) mulE) (fun _ => .ok (.int 2)) addD) (fun _ => .ok []))) F_law_cell) (fun _ => .ok [])))) F_law_text)) (seqD (setD 3 (bindF (consD (slotD 2) (fun _ => .ok [])) F_law_due)) (seqD (setD 4 (fun _ => .ok .non)) (seqD (setD 5 (fun _ => .ok .non)) (seqD (tryD 6 sub_HallError (setD 4 (bindF (consD (slotD 2) (fun _ => .ok [])) F_fraction_read)) (setD 5 (slotD 6))) (ifS (bindT (two (slotD 3) (fun _ => .ok .non) isNoneD) boolD) (ifS (orT (notT (bindT (bindF (slotD 5) (isG is_NoText)) truthD)) (orT (notT (bindT (bindF (slotD 5) (isG is_ValueError)) truthD)) (bindT (bindF (slotD 5) (isG is_NoOver)) truthD))) (retD (fun _ => .ok (.bl false))) Out.nxt) (ifS (orT (bindT (two (slotD 5) (fun _ => .ok .non) notNoneD) boolD) (bindT (two (slotD 4) (slotD 3) neD) boolD)) (retD (fun _ => .ok (.bl false))) Out.nxt)))))))) (retD (fun _ => .ok (.bl true))))
noncomputable def F_law : List D → Res D := fnD 1 7 b_law
structure Adr where
  c_HallError : Addr
  c_NoText : Addr
  c_NoOver : Addr
  f_common : Addr
  f_is_plain : Addr
  f_law_cell : Addr
  f_law_mixed : Addr
  f_law_common : Addr
  f_law_sign_by : Addr
  f_law_odd : Addr
  f_law_figures : Addr
  f_are_parts : Addr
  f_law_text : Addr
  f_law_due : Addr
  f_fraction_read : Addr
  f_law : Addr
structure Txt (K : PySem.W.Frag) (mg : Str → Option Value) (a : Adr) : Prop where
  m_common : mg "common" = some (.ref a.f_common)
  k_common : PySem.W.keepIn K (.ref a.f_common) = true
  m_is_plain : mg "is_plain" = some (.ref a.f_is_plain)
  k_is_plain : PySem.W.keepIn K (.ref a.f_is_plain) = true
  m_law_cell : mg "_law_cell" = some (.ref a.f_law_cell)
  k_law_cell : PySem.W.keepIn K (.ref a.f_law_cell) = true
  m_law_mixed : mg "_law_mixed" = some (.ref a.f_law_mixed)
  k_law_mixed : PySem.W.keepIn K (.ref a.f_law_mixed) = true
  m_law_common : mg "_law_common" = some (.ref a.f_law_common)
  k_law_common : PySem.W.keepIn K (.ref a.f_law_common) = true
  m_law_sign_by : mg "_law_sign_by" = some (.ref a.f_law_sign_by)
  k_law_sign_by : PySem.W.keepIn K (.ref a.f_law_sign_by) = true
  m_law_odd : mg "_law_odd" = some (.ref a.f_law_odd)
  k_law_odd : PySem.W.keepIn K (.ref a.f_law_odd) = true
  m_law_figures : mg "_law_figures" = some (.ref a.f_law_figures)
  k_law_figures : PySem.W.keepIn K (.ref a.f_law_figures) = true
  m_are_parts : mg "are_parts" = some (.ref a.f_are_parts)
  k_are_parts : PySem.W.keepIn K (.ref a.f_are_parts) = true
  m_law_text : mg "_law_text" = some (.ref a.f_law_text)
  k_law_text : PySem.W.keepIn K (.ref a.f_law_text) = true
  m_law_due : mg "_law_due" = some (.ref a.f_law_due)
  k_law_due : PySem.W.keepIn K (.ref a.f_law_due) = true
  m_fraction_read : mg "fraction_read" = some (.ref a.f_fraction_read)
  k_fraction_read : PySem.W.keepIn K (.ref a.f_fraction_read) = true
  m_law : mg "law" = some (.ref a.f_law)
  k_law : PySem.W.keepIn K (.ref a.f_law) = true
  m_HallError : mg "HallError" = some (.ref a.c_HallError)
  n_HallError : PySem.W.nsIn K mainGlobals "HallError" = some (some (.ref a.c_HallError))
  x_HallError : PySem.W.excIn K a.c_HallError [.type "ValueError", .type "Exception", .type "BaseException", .type "object"] "ValueError.__new__" = true
  m_NoText : mg "NoText" = some (.ref a.c_NoText)
  n_NoText : PySem.W.nsIn K mainGlobals "NoText" = some (some (.ref a.c_NoText))
  x_NoText : PySem.W.excIn K a.c_NoText [.type "ValueError", .type "Exception", .type "BaseException", .type "object"] "ValueError.__new__" = true
  m_NoOver : mg "NoOver" = some (.ref a.c_NoOver)
  n_NoOver : PySem.W.nsIn K mainGlobals "NoOver" = some (some (.ref a.c_NoOver))
  x_NoOver : PySem.W.excIn K a.c_NoOver [.type "ValueError", .type "Exception", .type "BaseException", .type "object"] "ValueError.__new__" = true
  m_FIGURES : ∃ t : Tok, mg "FIGURES" = some (.str "0123456789" t)
  m_MOST_FIGURES : ∃ t : Tok, mg "MOST_FIGURES" = some (.int 60 t)
  s_HallError : ∀ x C, PySem.W.nsIn K mainGlobals x = some (some (.ref C)) → sub_HallError x = some true → PySem.W.exmOne K (.ref C) (.ref a.c_HallError) = some true
  i_NoText : ∀ d b, is_NoText d = some b → IsOk K (.ref a.c_NoText) b d
  i_ValueError : ∀ d b, is_ValueError d = some b → IsOk K (.type "ValueError") b d
  i_NoOver : ∀ d b, is_NoOver d = some b → IsOk K (.ref a.c_NoOver) b d
  z_ValueError : mg "ValueError" = none
  z_abs : mg "abs" = none
  z_all : mg "all" = none
  z_int : mg "int" = none
  z_isinstance : mg "isinstance" = none
  z_len : mg "len" = none
  z_range : mg "range" = none
  z_str : mg "str" = none
end K03
set_option Elab.async false
set_option linter.all false
set_option maxRecDepth 100000
set_option maxHeartbeats 4000000
namespace K03
open PySem PySem.Spec PyProof.Rows L2 DL Bk Mine
section
variable {P : Program} {w : World} {K : PySem.W.Frag} {mg : Str → Option Value} {base : Heap} {a : Adr}
theorem ok_common (T : Txt K mg a) {fd_common : FuncData} (F : Fun K "common" "common" st_common a.f_common fd_common) :
    FnOk P w K mg base (CX1 P w) 1 a.f_common fd_common ["a", "b"] (spD K F_common) := by
  have hb : ∀ (cdv : Value) (A : Around) (outer : List Env) (s : Shared) (H : Hp) (E : XK), Room 0 (A.deeper (envOfC "common" (defScope st_common) s.heap.objs.size a.f_common cdv)) →
      PSDs (cxOf (CX1 P w) P w K mg base ["a", "b", "one", "other", "rest"] "common" (defScope st_common) a.f_common cdv A outer s H E) (defBody st_common) b_common := fun cdv A outer s H E hr => by
    unfold b_common
    exact (psd_cons (psd_set 2 (pd_callB cd_abs ne_abs rfl T.z_abs (by decide +kernel) (pad_cons (pd_var 0) pad_nil)) sc_common.nd) (psd_cons (psd_set 3 (pd_callB cd_abs ne_abs rfl T.z_abs (by decide +kernel) (pad_cons (pd_var 1) pad_nil)) sc_common.nd) (psd_cons (psd_while fuel_common_1 (ptd_cmp (od_ne hr.units) ne_neD (pd_var 3) pd_int (nomark _)) (psd_cons (psd_set 4 (pd_op od_mod ne_mod (pd_var 2) (pd_var 3)) sc_common.nd) (psd_cons (psd_set 2 (pd_var 3) sc_common.nd) (psd_one (psd_set 3 (pd_var 4) sc_common.nd))))) (psd_one (psd_ret (pd_var 2))))))
  exact fun_d (N := ["a", "b", "one", "other", "rest"]) (ps := ["a", "b"]) (k := 0) (body := b_common) F sc_common hb
end
end K03
set_option Elab.async false
set_option linter.all false
set_option maxRecDepth 100000
set_option maxHeartbeats 4000000
namespace K03
open PySem PySem.Spec PyProof.Rows L2 DL Bk Mine
section
variable {P : Program} {w : World} {K : PySem.W.Frag} {mg : Str → Option Value} {base : Heap} {a : Adr}
theorem ok_is_plain (T : Txt K mg a) {fd_is_plain : FuncData} (F : Fun K "is_plain" "is_plain" st_is_plain a.f_is_plain fd_is_plain) :
    FnOk P w K mg base (CX1 P w) 1 a.f_is_plain fd_is_plain ["part"] (spD K F_is_plain) := by
  have hb : ∀ (cdv : Value) (A : Around) (outer : List Env) (s : Shared) (H : Hp) (E : XK), Room 0 (A.deeper (envOfC "is_plain" (defScope st_is_plain) s.heap.objs.size a.f_is_plain cdv)) →
      PSDs (cxOf (CX1 P w) P w K mg base ["part"] "is_plain" (defScope st_is_plain) a.f_is_plain cdv A outer s H E) (defBody st_is_plain) b_is_plain := fun cdv A outer s H E hr => by
    unfold b_is_plain
    exact (psd_cons (psd_if (PWD.pt (pwd_or (ptd_cmp (od_eq hr.units) ne_eqD (pd_var 0) pd_str (nomark _)) (pwd_or (ptd_cmp od_gt (ne_cmp _) (pd_callB cd_len ne_len rfl T.z_len (by decide +kernel) (pad_cons (pd_var 0) pad_nil)) (pd_gint rfl T.m_MOST_FIGURES) (nomark _)) (pwd_or1 (ptd_truth (pd_meth PySem.F.plainAttrs_str PySem.F.slot_str_startswith PySem.F.type_str_startswith md_starts ne_starts (pd_var 0) (pad_cons pd_str pad_nil))))))) (psd_one (psd_ret pd_bl)) psd_nil) (psd_one (psd_ret (pd_callB (cd_all rfl) ne_allG rfl T.z_all (by decide +kernel) (pad_cons (pd_comp (N' := ["letter"]) (m := 1) (fr := []) around0 rfl (keeps_name (by decide)) (pid_seq (pd_var 0)) (fun _ _ _ _ => pgd_name 0 (show List.Nodup (["letter"] : List Str) by decide +kernel)) (fun _ _ _ _ => (pd_cmp od_in ne_in (pd_var 0) (pd_gstr rfl T.m_FIGURES) (by with_unfolding_all rfl)))) pad_nil)))))
  exact fun_d (N := ["part"]) (ps := ["part"]) (k := 0) (body := b_is_plain) F sc_is_plain hb
end
end K03
set_option Elab.async false
set_option linter.all false
set_option maxRecDepth 100000
set_option maxHeartbeats 4000000
namespace K03
open PySem PySem.Spec PyProof.Rows L2 DL Bk Mine
section
variable {P : Program} {w : World} {K : PySem.W.Frag} {mg : Str → Option Value} {base : Heap} {a : Adr}
theorem ok_law_cell (T : Txt K mg a) {fd_law_cell : FuncData} (F : Fun K "_law_cell" "_law_cell" st_law_cell a.f_law_cell fd_law_cell) :
    FnOk P w K mg base (CX1 P w) 1 a.f_law_cell fd_law_cell ["_law_script", "_law_k"] (spD K F_law_cell) := by
  have hb : ∀ (cdv : Value) (A : Around) (outer : List Env) (s : Shared) (H : Hp) (E : XK), Room 0 (A.deeper (envOfC "_law_cell" (defScope st_law_cell) s.heap.objs.size a.f_law_cell cdv)) →
      PSDs (cxOf (CX1 P w) P w K mg base ["_law_script", "_law_k"] "_law_cell" (defScope st_law_cell) a.f_law_cell cdv A outer s H E) (defBody st_law_cell) b_law_cell := fun cdv A outer s H E hr => by
    unfold b_law_cell
    exact (psd_cons (psd_if (ptd_cmp od_lt (ne_cmp _) (pd_var 1) (pd_callB cd_len ne_len rfl T.z_len (by decide +kernel) (pad_cons (pd_var 0) pad_nil)) (nomark _)) (psd_one (psd_ret (pd_ix (pd_var 0) (pd_var 1)))) psd_nil) (psd_one (psd_ret pd_int)))
  exact fun_d (N := ["_law_script", "_law_k"]) (ps := ["_law_script", "_law_k"]) (k := 0) (body := b_law_cell) F sc_law_cell hb
end
end K03
set_option Elab.async false
set_option linter.all false
set_option maxRecDepth 100000
set_option maxHeartbeats 4000000
namespace K03
open PySem PySem.Spec PyProof.Rows L2 DL Bk Mine
section
variable {P : Program} {w : World} {K : PySem.W.Frag} {mg : Str → Option Value} {base : Heap} {a : Adr}
theorem ok_law_mixed (T : Txt K mg a) {fd_law_mixed : FuncData} (F : Fun K "_law_mixed" "_law_mixed" st_law_mixed a.f_law_mixed fd_law_mixed) :
    FnOk P w K mg base (CX1 P w) 1 a.f_law_mixed fd_law_mixed ["_law_cell_here", "_law_k", "_law_many"] (spD K F_law_mixed) := by
  have hb : ∀ (cdv : Value) (A : Around) (outer : List Env) (s : Shared) (H : Hp) (E : XK), Room 0 (A.deeper (envOfC "_law_mixed" (defScope st_law_mixed) s.heap.objs.size a.f_law_mixed cdv)) →
      PSDs (cxOf (CX1 P w) P w K mg base ["_law_cell_here", "_law_k", "_law_many", "_law_some"] "_law_mixed" (defScope st_law_mixed) a.f_law_mixed cdv A outer s H E) (defBody st_law_mixed) b_law_mixed := fun cdv A outer s H E hr => by
    unfold b_law_mixed
    exact (psd_cons (psd_set 3 (pd_lst (pad_cons pd_int (pad_cons pd_int (pad_cons pd_int (pad_cons pd_int (pad_cons pd_int pad_nil)))))) sc_law_mixed.nd) (psd_cons (psd_set 3 (pd_op od_add ne_add (pd_var 3) (pd_lst (pad_cons pd_int (pad_cons pd_int (pad_cons pd_int (pad_cons pd_int (pad_cons pd_int pad_nil))))))) sc_law_mixed.nd) (psd_one (psd_ret (pd_op od_mod ne_mod (pd_op od_mod ne_mod (pd_op od_mulE ne_mulE (pd_op od_add ne_add (pd_var 0) pd_int) (pd_ix (pd_var 3) (pd_var 1))) pd_int) (pd_var 2))))))
  exact fun_d (N := ["_law_cell_here", "_law_k", "_law_many", "_law_some"]) (ps := ["_law_cell_here", "_law_k", "_law_many"]) (k := 0) (body := b_law_mixed) F sc_law_mixed hb
end
end K03
set_option Elab.async false
set_option linter.all false
set_option maxRecDepth 100000
set_option maxHeartbeats 4000000
namespace K03
open PySem PySem.Spec PyProof.Rows L2 DL Bk Mine
section
variable {P : Program} {w : World} {K : PySem.W.Frag} {mg : Str → Option Value} {base : Heap} {a : Adr}
theorem ok_law_common (T : Txt K mg a) {fd_law_common : FuncData} (F : Fun K "_law_common" "_law_common" st_law_common a.f_law_common fd_law_common) :
    FnOk P w K mg base (CX1 P w) 1 a.f_law_common fd_law_common ["_law_one", "_law_other"] (spD K F_law_common) := by
  have hb : ∀ (cdv : Value) (A : Around) (outer : List Env) (s : Shared) (H : Hp) (E : XK), Room 0 (A.deeper (envOfC "_law_common" (defScope st_law_common) s.heap.objs.size a.f_law_common cdv)) →
      PSDs (cxOf (CX1 P w) P w K mg base ["_law_one", "_law_other", "_law_rest"] "_law_common" (defScope st_law_common) a.f_law_common cdv A outer s H E) (defBody st_law_common) b_law_common := fun cdv A outer s H E hr => by
    unfold b_law_common
    exact (psd_cons (psd_while fuel_law_common_1 (ptd_cmp (od_ne hr.units) ne_neD (pd_var 1) pd_int (nomark _)) (psd_cons (psd_set 2 (pd_op od_mod ne_mod (pd_var 0) (pd_var 1)) sc_law_common.nd) (psd_cons (psd_set 0 (pd_var 1) sc_law_common.nd) (psd_one (psd_set 1 (pd_var 2) sc_law_common.nd))))) (psd_one (psd_ret (pd_callB cd_abs ne_abs rfl T.z_abs (by decide +kernel) (pad_cons (pd_var 0) pad_nil)))))
  exact fun_d (N := ["_law_one", "_law_other", "_law_rest"]) (ps := ["_law_one", "_law_other"]) (k := 0) (body := b_law_common) F sc_law_common hb
end
end K03
set_option Elab.async false
set_option linter.all false
set_option maxRecDepth 100000
set_option maxHeartbeats 4000000
namespace K03
open PySem PySem.Spec PyProof.Rows L2 DL Bk Mine
section
variable {P : Program} {w : World} {K : PySem.W.Frag} {mg : Str → Option Value} {base : Heap} {a : Adr}
theorem ok_law_sign_by (T : Txt K mg a) {fd_law_sign_by : FuncData} (F : Fun K "_law_sign_by" "_law_sign_by" st_law_sign_by a.f_law_sign_by fd_law_sign_by) :
    FnOk P w K mg base (CX1 P w) 1 a.f_law_sign_by fd_law_sign_by ["_law_cell_here"] (spD K F_law_sign_by) := by
  have hb : ∀ (cdv : Value) (A : Around) (outer : List Env) (s : Shared) (H : Hp) (E : XK), Room 0 (A.deeper (envOfC "_law_sign_by" (defScope st_law_sign_by) s.heap.objs.size a.f_law_sign_by cdv)) →
      PSDs (cxOf (CX1 P w) P w K mg base ["_law_cell_here", "_law_some"] "_law_sign_by" (defScope st_law_sign_by) a.f_law_sign_by cdv A outer s H E) (defBody st_law_sign_by) b_law_sign_by := fun cdv A outer s H E hr => by
    unfold b_law_sign_by
    exact (psd_cons (psd_set 1 pd_str sc_law_sign_by.nd) (psd_cons (psd_set 1 (pd_op od_add ne_add (pd_var 1) pd_str) sc_law_sign_by.nd) (psd_cons (psd_if (ptd_cmp (od_eq hr.units) ne_eqD (pd_op od_mod ne_mod (pd_var 0) pd_int) pd_int (nomark _)) (psd_one (psd_set 1 pd_str sc_law_sign_by.nd)) psd_nil) (psd_one (psd_ret (pd_ix (pd_var 1) (pd_op od_mod ne_mod (pd_op od_fdiv ne_fdiv (pd_var 0) pd_int) (pd_callB cd_len ne_len rfl T.z_len (by decide +kernel) (pad_cons (pd_var 1) pad_nil)))))))))
  exact fun_d (N := ["_law_cell_here", "_law_some"]) (ps := ["_law_cell_here"]) (k := 0) (body := b_law_sign_by) F sc_law_sign_by hb
end
end K03
set_option Elab.async false
set_option linter.all false
set_option maxRecDepth 100000
set_option maxHeartbeats 4000000
namespace K03
open PySem PySem.Spec PyProof.Rows L2 DL Bk Mine
section
variable {P : Program} {w : World} {K : PySem.W.Frag} {mg : Str → Option Value} {base : Heap} {a : Adr}
theorem ok_law_odd (T : Txt K mg a) {fd_law_odd : FuncData} (F : Fun K "_law_odd" "_law_odd" st_law_odd a.f_law_odd fd_law_odd) :
    FnOk P w K mg base (CX1 P w) 1 a.f_law_odd fd_law_odd ["_law_cell_here"] (spD K F_law_odd) := by
  have hb : ∀ (cdv : Value) (A : Around) (outer : List Env) (s : Shared) (H : Hp) (E : XK), Room 0 (A.deeper (envOfC "_law_odd" (defScope st_law_odd) s.heap.objs.size a.f_law_odd cdv)) →
      PSDs (cxOf (CX1 P w) P w K mg base ["_law_cell_here", "_law_some"] "_law_odd" (defScope st_law_odd) a.f_law_odd cdv A outer s H E) (defBody st_law_odd) b_law_odd := fun cdv A outer s H E hr => by
    unfold b_law_odd
    refine psd_cons ?_ ?_
    · refine psd_set 1 ?_ ?_ ?_ ?_ ?_ ?_
      · refine pd_lst ?_
        repeat' (first | exact pad_nil | refine pad_str ?_)
      · exact sc_law_odd.nd
      · rfl
      · exact Or.inl rfl
      · rfl
      · first | exact .inl rfl | exact .inr rfl
    · refine psd_cons ?_ ?_
      · refine psd_set 1 ?_ ?_ ?_ ?_ ?_ ?_
        · refine pd_op od_add ne_add (pd_var 1) ?_
          refine pd_lst ?_
          repeat' (first | exact pad_nil | refine pad_str ?_)
        · exact sc_law_odd.nd
        · rfl
        · exact Or.inl rfl
        · rfl
        · first | exact .inl rfl | exact .inr rfl
      · refine psd_one ?_
        refine psd_ret ?_
        exact (pd_ix (pd_var 1) (pd_op od_mod ne_mod (pd_var 0) pd_int))
  have S := sc_law_odd
  generalize st_law_odd = st at F S hb
  exact fun_d (N := ["_law_cell_here", "_law_some"]) (ps := ["_law_cell_here"]) (k := 0) (body := b_law_odd) F S hb
end
end K03
set_option Elab.async false
set_option linter.all false
set_option maxRecDepth 100000
set_option maxHeartbeats 4000000
namespace K03
open PySem PySem.Spec PyProof.Rows L2 DL Bk Mine
section
variable {P : Program} {w : World} {K : PySem.W.Frag} {mg : Str → Option Value} {base : Heap} {a : Adr}
theorem ok_law_figures (T : Txt K mg a) {fd_law_figures : FuncData} (F : Fun K "_law_figures" "_law_figures" st_law_figures a.f_law_figures fd_law_figures) :
    FnOk P w K mg base (CX1 P w) 1 a.f_law_figures fd_law_figures ["_law_word"] (spD K F_law_figures) := by
  have hb : ∀ (cdv : Value) (A : Around) (outer : List Env) (s : Shared) (H : Hp) (E : XK), Room 0 (A.deeper (envOfC "_law_figures" (defScope st_law_figures) s.heap.objs.size a.f_law_figures cdv)) →
      PSDs (cxOf (CX1 P w) P w K mg base ["_law_word"] "_law_figures" (defScope st_law_figures) a.f_law_figures cdv A outer s H E) (defBody st_law_figures) b_law_figures := fun cdv A outer s H E hr => by
    unfold b_law_figures
    exact (psd_cons (psd_if (PWD.pt (pwd_or (ptd_cmp od_lt (ne_cmp _) (pd_callB cd_len ne_len rfl T.z_len (by decide +kernel) (pad_cons (pd_var 0) pad_nil)) pd_int (nomark _)) (pwd_or (ptd_cmp od_gt (ne_cmp _) (pd_callB cd_len ne_len rfl T.z_len (by decide +kernel) (pad_cons (pd_var 0) pad_nil)) pd_int (nomark _)) (pwd_or1 (PWD.pt (pwd_and (ptd_cmp od_gt (ne_cmp _) (pd_callB cd_len ne_len rfl T.z_len (by decide +kernel) (pad_cons (pd_var 0) pad_nil)) pd_int (nomark _)) (pwd_and1 (ptd_cmp (od_eq hr.units) ne_eqD (pd_ix (pd_var 0) pd_int) pd_str (nomark _))))))))) (psd_one (psd_ret pd_bl)) psd_nil) (psd_one (psd_ret (pd_callB (cd_all rfl) ne_allG rfl T.z_all (by decide +kernel) (pad_cons (pd_comp (N' := ["_law_one"]) (m := 1) (fr := []) around0 rfl (keeps_name (by decide)) (pid_seq (pd_var 0)) (fun _ _ _ _ => pgd_name 0 (show List.Nodup (["_law_one"] : List Str) by decide +kernel)) (fun _ _ _ _ => (pd_cmp od_in ne_in (pd_var 0) pd_str (by with_unfolding_all rfl)))) pad_nil)))))
  exact fun_d (N := ["_law_word"]) (ps := ["_law_word"]) (k := 0) (body := b_law_figures) F sc_law_figures hb
end
end K03
set_option Elab.async false
set_option linter.all false
set_option maxRecDepth 100000
set_option maxHeartbeats 4000000
namespace K03
open PySem PySem.Spec PyProof.Rows L2 DL Bk Mine
section
variable {P : Program} {w : World} {K : PySem.W.Frag} {mg : Str → Option Value} {base : Heap} {a : Adr}
theorem ok_are_parts (T : Txt K mg a) {fd_are_parts : FuncData} (F : Fun K "are_parts" "are_parts" st_are_parts a.f_are_parts fd_are_parts) {fd_is_plain : FuncData} (G_is_plain : FnOk P w K mg base (CX1 P w) 1 a.f_is_plain fd_is_plain ["part"] (spD K F_is_plain)) (B_is_plain : Binds K fd_is_plain ["part"] []) :
    FnOk P w K mg base (CX1 P w) 2 a.f_are_parts fd_are_parts ["parts"] (spD K F_are_parts) := by
  have hb : ∀ (cdv : Value) (A : Around) (outer : List Env) (s : Shared) (H : Hp) (E : XK), Room 1 (A.deeper (envOfC "are_parts" (defScope st_are_parts) s.heap.objs.size a.f_are_parts cdv)) →
      PSDs (cxOf (CX1 P w) P w K mg base ["parts"] "are_parts" (defScope st_are_parts) a.f_are_parts cdv A outer s H E) (defBody st_are_parts) b_are_parts := fun cdv A outer s H E hr => by
    unfold b_are_parts
    exact (psd_cons (psd_if (ptd_cmp od_gt (ne_cmp _) (pd_callB cd_len ne_len rfl T.z_len (by decide +kernel) (pad_cons (pd_var 0) pad_nil)) pd_int (nomark _)) (psd_one (psd_ret pd_bl)) psd_nil) (psd_cons (psd_if (PWD.pt (pwd_and (ptd_cmp (od_eq hr.units) ne_eqD (pd_callB cd_len ne_len rfl T.z_len (by decide +kernel) (pad_cons (pd_var 0) pad_nil)) pd_int (nomark _)) (pwd_and1 (ptd_not (ptd_truth (pd_call (G_is_plain.mono (by decide)) hr rfl T.m_is_plain T.k_is_plain B_is_plain (pad_cons (pd_ix (pd_var 0) pd_int) pad_nil))))))) (psd_one (psd_ret pd_bl)) psd_nil) (psd_one (psd_ret (pd_or (pd_cmp (od_eq hr.units) ne_eqD (pd_ix (pd_var 0) pd_int) pd_str (nomark _)) (pd_one (pd_call (G_is_plain.mono (by decide)) hr rfl T.m_is_plain T.k_is_plain B_is_plain (pad_cons (pd_ix (pd_var 0) pd_int) pad_nil))))))))
  exact fun_d (N := ["parts"]) (ps := ["parts"]) (k := 1) (body := b_are_parts) F sc_are_parts hb
end
end K03
set_option Elab.async false
set_option linter.all false
set_option maxRecDepth 100000
set_option maxHeartbeats 4000000
namespace K03
open PySem PySem.Spec PyProof.Rows L2 DL Bk Mine
section
variable {P : Program} {w : World} {K : PySem.W.Frag} {mg : Str → Option Value} {base : Heap} {a : Adr}
theorem ok_law_text (T : Txt K mg a) {fd_law_text : FuncData} (F : Fun K "_law_text" "_law_text" st_law_text a.f_law_text fd_law_text) {fd_law_mixed : FuncData} (G_law_mixed : FnOk P w K mg base (CX1 P w) 1 a.f_law_mixed fd_law_mixed ["_law_cell_here", "_law_k", "_law_many"] (spD K F_law_mixed)) (B_law_mixed : Binds K fd_law_mixed ["_law_cell_here", "_law_k", "_law_many"] []) {fd_law_odd : FuncData} (G_law_odd : FnOk P w K mg base (CX1 P w) 1 a.f_law_odd fd_law_odd ["_law_cell_here"] (spD K F_law_odd)) (B_law_odd : Binds K fd_law_odd ["_law_cell_here"] []) {fd_law_sign_by : FuncData} (G_law_sign_by : FnOk P w K mg base (CX1 P w) 1 a.f_law_sign_by fd_law_sign_by ["_law_cell_here"] (spD K F_law_sign_by)) (B_law_sign_by : Binds K fd_law_sign_by ["_law_cell_here"] []) :
    FnOk P w K mg base (CX1 P w) 2 a.f_law_text fd_law_text ["_law_cell_here", "_law_other", "_law_third"] (spD K F_law_text) := by
  have hb : ∀ (cdv : Value) (A : Around) (outer : List Env) (s : Shared) (H : Hp) (E : XK), Room 1 (A.deeper (envOfC "_law_text" (defScope st_law_text) s.heap.objs.size a.f_law_text cdv)) →
      PSDs (cxOf (CX1 P w) P w K mg base ["_law_cell_here", "_law_other", "_law_third", "_law_way", "_law_text_here", "_law_at"] "_law_text" (defScope st_law_text) a.f_law_text cdv A outer s H E) (defBody st_law_text) b_law_text := fun cdv A outer s H E hr => by
    unfold b_law_text
    exact (psd_cons (psd_set 3 (pd_call (G_law_mixed.mono (by decide)) hr rfl T.m_law_mixed T.k_law_mixed B_law_mixed (pad_cons (pd_var 0) (pad_cons pd_int (pad_cons pd_int pad_nil)))) sc_law_text.nd) (psd_cons (psd_if (ptd_cmp (od_eq hr.units) ne_eqD (pd_var 3) pd_int (nomark _)) (psd_one (psd_ret (pd_call (G_law_odd.mono (by decide)) hr rfl T.m_law_odd T.k_law_odd B_law_odd (pad_cons (pd_var 1) pad_nil)))) psd_nil) (psd_cons (psd_set 4 (pd_callTy cd_str ne_str rfl T.z_str (by decide +kernel) (pad_cons (pd_op od_mod ne_mod (pd_var 1) (pd_ix (pd_lst (pad_cons pd_int (pad_cons pd_int (pad_cons pd_int pad_nil)))) (pd_op od_mod ne_mod (pd_var 2) pd_int))) pad_nil)) sc_law_text.nd) (psd_cons (psd_if (ptd_cmp (od_eq hr.units) ne_eqD (pd_var 3) pd_int (nomark _)) (psd_one (psd_set 4 (pd_op od_mulS ne_mulS pd_str (pd_op od_add ne_add pd_int (pd_op od_mod ne_mod (pd_var 2) pd_int))) sc_law_text.nd)) psd_nil) (psd_cons (psd_if (ptd_cmp (od_eq hr.units) ne_eqD (pd_call (G_law_mixed.mono (by decide)) hr rfl T.m_law_mixed T.k_law_mixed B_law_mixed (pad_cons (pd_var 0) (pad_cons pd_int (pad_cons pd_int pad_nil)))) pd_int (nomark _)) (psd_one (psd_set 4 (pd_op od_add ne_add (pd_op od_add ne_add (pd_op od_add ne_add (pd_var 4) pd_str) (pd_ix (pd_lst (pad_cons pd_str (pad_cons pd_str pad_nil))) (pd_callTy cd_int ne_int rfl T.z_int (by decide +kernel) (pad_cons (pd_cmp (od_eq hr.units) ne_eqD (pd_call (G_law_mixed.mono (by decide)) hr rfl T.m_law_mixed T.k_law_mixed B_law_mixed (pad_cons (pd_var 0) (pad_cons pd_int (pad_cons pd_int pad_nil)))) pd_int (nomark _)) pad_nil)))) (pd_callTy cd_str ne_str rfl T.z_str (by decide +kernel) (pad_cons (pd_op od_mod ne_mod (pd_op od_fdiv ne_fdiv (pd_var 2) pd_int) pd_int) pad_nil))) sc_law_text.nd)) psd_nil) (psd_cons (psd_if (ptd_cmp (od_eq hr.units) ne_eqD (pd_var 3) pd_int (nomark _)) (psd_one (psd_set 4 (pd_op od_add ne_add (pd_op od_add ne_add (pd_var 4) pd_str) (pd_op od_mulS ne_mulS pd_str (pd_op od_add ne_add pd_int (pd_op od_mod ne_mod (pd_var 2) pd_int)))) sc_law_text.nd)) psd_nil) (psd_cons (psd_if (ptd_cmp (od_eq hr.units) ne_eqD (pd_call (G_law_mixed.mono (by decide)) hr rfl T.m_law_mixed T.k_law_mixed B_law_mixed (pad_cons (pd_var 0) (pad_cons pd_int (pad_cons pd_int pad_nil)))) pd_int (nomark _)) (psd_one (psd_set 4 (pd_op od_add ne_add pd_str (pd_var 4)) sc_law_text.nd)) psd_nil) (psd_cons (psd_set 5 (pd_call (G_law_mixed.mono (by decide)) hr rfl T.m_law_mixed T.k_law_mixed B_law_mixed (pad_cons (pd_var 0) (pad_cons pd_int (pad_cons (pd_op od_add ne_add (pd_callB cd_len ne_len rfl T.z_len (by decide +kernel) (pad_cons (pd_var 4) pad_nil)) pd_int) pad_nil)))) sc_law_text.nd) (psd_cons (psd_if (ptd_cmp (od_eq hr.units) ne_eqD (pd_var 3) pd_int (nomark _)) (psd_one (psd_ret (pd_op od_add ne_add (pd_op od_add ne_add (pd_slice (pd_var 4) pod_none (pod_some (pd_var 5))) (pd_call (G_law_sign_by.mono (by decide)) hr rfl T.m_law_sign_by T.k_law_sign_by B_law_sign_by (pad_cons (pd_op od_fdiv ne_fdiv (pd_var 2) pd_int) pad_nil))) (pd_slice (pd_var 4) (pod_some (pd_var 5)) pod_none)))) psd_nil) (psd_cons (psd_if (ptd_cmp (od_eq hr.units) ne_eqD (pd_var 3) pd_int (nomark _)) (psd_one (psd_ret (pd_op od_add ne_add (pd_op od_add ne_add (pd_slice (pd_var 4) pod_none (pod_some (pd_var 5))) (pd_call (G_law_sign_by.mono (by decide)) hr rfl T.m_law_sign_by T.k_law_sign_by B_law_sign_by (pad_cons (pd_op od_fdiv ne_fdiv (pd_var 2) pd_int) pad_nil))) (pd_slice (pd_var 4) (pod_some (pd_op od_add ne_add (pd_var 5) pd_int)) pod_none)))) psd_nil) (psd_one (psd_ret (pd_var 4)))))))))))))
  exact fun_d (N := ["_law_cell_here", "_law_other", "_law_third", "_law_way", "_law_text_here", "_law_at"]) (ps := ["_law_cell_here", "_law_other", "_law_third"]) (k := 1) (body := b_law_text) F sc_law_text hb
end
end K03
set_option Elab.async false
set_option linter.all false
set_option maxRecDepth 100000
set_option maxHeartbeats 4000000
namespace K03
open PySem PySem.Spec PyProof.Rows L2 DL Bk Mine
section
variable {P : Program} {w : World} {K : PySem.W.Frag} {mg : Str → Option Value} {base : Heap} {a : Adr}
theorem ok_law_due (T : Txt K mg a) {fd_law_due : FuncData} (F : Fun K "_law_due" "_law_due" st_law_due a.f_law_due fd_law_due) {fd_law_common : FuncData} (G_law_common : FnOk P w K mg base (CX1 P w) 1 a.f_law_common fd_law_common ["_law_one", "_law_other"] (spD K F_law_common)) (B_law_common : Binds K fd_law_common ["_law_one", "_law_other"] []) {fd_law_figures : FuncData} (G_law_figures : FnOk P w K mg base (CX1 P w) 1 a.f_law_figures fd_law_figures ["_law_word"] (spD K F_law_figures)) (B_law_figures : Binds K fd_law_figures ["_law_word"] []) :
    FnOk P w K mg base (CX1 P w) 2 a.f_law_due fd_law_due ["_law_text_here"] (spD K F_law_due) := by
  have hb : ∀ (cdv : Value) (A : Around) (outer : List Env) (s : Shared) (H : Hp) (E : XK), Room 1 (A.deeper (envOfC "_law_due" (defScope st_law_due) s.heap.objs.size a.f_law_due cdv)) →
      PSDs (cxOf (CX1 P w) P w K mg base ["_law_text_here", "_law_way", "_law_parts", "_law_top", "_law_bottom", "_law_shared"] "_law_due" (defScope st_law_due) a.f_law_due cdv A outer s H E) (defBody st_law_due) b_law_due := fun cdv A outer s H E hr => by
    unfold b_law_due
    exact (psd_cons (psd_set 1 pd_int sc_law_due.nd) (psd_cons (psd_if (ptd_cmp (od_eq hr.units) ne_eqD (pd_slice (pd_var 0) pod_none (pod_some pd_int)) pd_str (nomark _)) (psd_cons (psd_set 1 (pd_negF pd_int) sc_law_due.nd) (psd_one (psd_set 0 (pd_slice (pd_var 0) (pod_some pd_int) pod_none) sc_law_due.nd))) psd_nil) (psd_cons (psd_set 2 (pd_meth PySem.F.plainAttrs_str PySem.F.slot_str_split PySem.F.type_str_split md_split ne_split (pd_var 0) (pad_cons pd_str pad_nil)) sc_law_due.nd) (psd_cons (psd_if (PWD.pt (pwd_or (ptd_cmp od_gt (ne_cmp _) (pd_callB cd_len ne_len rfl T.z_len (by decide +kernel) (pad_cons (pd_var 2) pad_nil)) pd_int (nomark _)) (pwd_or1 (ptd_not (ptd_truth (pd_callB (cd_all rfl) ne_allG rfl T.z_all (by decide +kernel) (pad_cons (pd_comp (N' := ["_law_part"]) (m := 1) (fr := []) around0 rfl (keeps_name (by decide)) (pid_seq (pd_var 2)) (fun _ _ _ _ => pgd_name 0 (show List.Nodup (["_law_part"] : List Str) by decide +kernel)) (fun _ _ _ _ => (pd_call (G_law_figures.mono (by decide)) hr rfl T.m_law_figures T.k_law_figures B_law_figures (pad_cons (pd_var 0) pad_nil)))) pad_nil))))))) (psd_one (psd_ret pd_non)) psd_nil) (psd_cons (psd_if (ptd_cmp (od_eq hr.units) ne_eqD (pd_callB cd_len ne_len rfl T.z_len (by decide +kernel) (pad_cons (pd_var 2) pad_nil)) pd_int (nomark _)) (psd_one (psd_ret (pd_tup (pad_cons (pd_tup (pad_cons (pd_op od_mulE ne_mulE (pd_var 1) (pd_callTy cd_int ne_int rfl T.z_int (by decide +kernel) (pad_cons (pd_var 0) pad_nil))) pad_nil)) (pad_cons pd_int pad_nil))))) psd_nil) (psd_cons (psd_set 3 (pd_callTy cd_int ne_int rfl T.z_int (by decide +kernel) (pad_cons (pd_ix (pd_var 2) pd_int) pad_nil)) sc_law_due.nd) (psd_cons (psd_set 4 (pd_callTy cd_int ne_int rfl T.z_int (by decide +kernel) (pad_cons (pd_ix (pd_var 2) pd_int) pad_nil)) sc_law_due.nd) (psd_cons (psd_if (ptd_cmp (od_eq hr.units) ne_eqD (pd_var 4) pd_int (nomark _)) (psd_one (psd_ret pd_non)) psd_nil) (psd_cons (psd_set 5 (pd_call (G_law_common.mono (by decide)) hr rfl T.m_law_common T.k_law_common B_law_common (pad_cons (pd_var 3) (pad_cons (pd_var 4) pad_nil))) sc_law_due.nd) (psd_one (psd_ret (pd_tup (pad_cons (pd_tup (pad_cons (pd_op od_mulE ne_mulE (pd_var 1) (pd_op od_fdiv ne_fdiv (pd_var 3) (pd_var 5))) pad_nil)) (pad_cons (pd_op od_fdiv ne_fdiv (pd_var 4) (pd_var 5)) pad_nil))))))))))))))
  exact fun_d (N := ["_law_text_here", "_law_way", "_law_parts", "_law_top", "_law_bottom", "_law_shared"]) (ps := ["_law_text_here"]) (k := 1) (body := b_law_due) F sc_law_due hb
end
end K03
set_option Elab.async false
set_option linter.all false
set_option maxRecDepth 100000
set_option maxHeartbeats 4000000
namespace K03
open PySem PySem.Spec PyProof.Rows L2 DL Bk Mine
section
variable {P : Program} {w : World} {K : PySem.W.Frag} {mg : Str → Option Value} {base : Heap} {a : Adr}
theorem ok_fraction_read (T : Txt K mg a) {fd_fraction_read : FuncData} (F : Fun K "fraction_read" "fraction_read" st_fraction_read a.f_fraction_read fd_fraction_read) {fd_common : FuncData} (G_common : FnOk P w K mg base (CX1 P w) 1 a.f_common fd_common ["a", "b"] (spD K F_common)) (B_common : Binds K fd_common ["a", "b"] []) {fd_are_parts : FuncData} (G_are_parts : FnOk P w K mg base (CX1 P w) 2 a.f_are_parts fd_are_parts ["parts"] (spD K F_are_parts)) (B_are_parts : Binds K fd_are_parts ["parts"] []) :
    FnOk P w K mg base (CX1 P w) 3 a.f_fraction_read fd_fraction_read ["text"] (spD K F_fraction_read) := by
  have hb : ∀ (cdv : Value) (A : Around) (outer : List Env) (s : Shared) (H : Hp) (E : XK), Room 2 (A.deeper (envOfC "fraction_read" (defScope st_fraction_read) s.heap.objs.size a.f_fraction_read cdv)) →
      PSDs (cxOf (CX1 P w) P w K mg base ["text", "below", "unsigned", "parts", "top", "bottom", "shared"] "fraction_read" (defScope st_fraction_read) a.f_fraction_read cdv A outer s H E) (defBody st_fraction_read) b_fraction_read := fun cdv A outer s H E hr => by
    unfold b_fraction_read
    exact (psd_cons (psd_set 1 (pd_meth PySem.F.plainAttrs_str PySem.F.slot_str_startswith PySem.F.type_str_startswith md_starts ne_starts (pd_var 0) (pad_cons pd_str pad_nil)) sc_fraction_read.nd) (psd_cons (psd_set 2 (pd_ifExp (ptd_truth (pd_var 1)) (pd_slice (pd_var 0) (pod_some pd_int) pod_none) (pd_var 0)) sc_fraction_read.nd) (psd_cons (psd_set 3 (pd_meth PySem.F.plainAttrs_str PySem.F.slot_str_split PySem.F.type_str_split md_split ne_split (pd_var 2) (pad_cons pd_str pad_nil)) sc_fraction_read.nd) (psd_cons (psd_if (ptd_not (ptd_truth (pd_call (G_are_parts.mono (by decide)) hr rfl T.m_are_parts T.k_are_parts B_are_parts (pad_cons (pd_var 3) pad_nil)))) (psd_one (psd_raise rfl PySem.F.excBase_ValueError T.n_NoText T.x_NoText rfl T.m_NoText (pad_cons (pd_fstr (pd_var 0)) pad_nil) (by decide) (hlen := fun δ ds h => len_cons1 h))) psd_nil) (psd_cons (psd_set 4 (pd_callTy cd_int ne_int rfl T.z_int (by decide +kernel) (pad_cons (pd_ix (pd_var 3) pd_int) pad_nil)) sc_fraction_read.nd) (psd_cons (psd_set 5 (pd_ifExp (ptd_cmp (od_eq hr.units) ne_eqD (pd_callB cd_len ne_len rfl T.z_len (by decide +kernel) (pad_cons (pd_var 3) pad_nil)) pd_int (nomark _)) (pd_callTy cd_int ne_int rfl T.z_int (by decide +kernel) (pad_cons (pd_ix (pd_var 3) pd_int) pad_nil)) pd_int) sc_fraction_read.nd) (psd_cons (psd_set 6 (pd_call (G_common.mono (by decide)) hr rfl T.m_common T.k_common B_common (pad_cons (pd_var 4) (pad_cons (pd_var 5) pad_nil))) sc_fraction_read.nd) (psd_cons (psd_if (ptd_truth (pd_var 1)) (psd_one (psd_set 4 (pd_negF (pd_var 4)) sc_fraction_read.nd)) psd_nil) (psd_one (psd_ret (pd_tup (pad_cons (pd_tup (pad_cons (pd_op od_fdiv ne_fdiv (pd_var 4) (pd_var 6)) pad_nil)) (pad_cons (pd_op od_fdiv ne_fdiv (pd_var 5) (pd_var 6)) pad_nil)))))))))))))
  exact fun_d (N := ["text", "below", "unsigned", "parts", "top", "bottom", "shared"]) (ps := ["text"]) (k := 2) (body := b_fraction_read) F sc_fraction_read hb
end
end K03
set_option Elab.async false
set_option linter.all false
set_option maxRecDepth 100000
set_option maxHeartbeats 4000000
namespace K03
open PySem PySem.Spec PyProof.Rows L2 DL Bk Mine
section
variable {P : Program} {w : World} {K : PySem.W.Frag} {mg : Str → Option Value} {base : Heap} {a : Adr}
theorem ok_law (T : Txt K mg a) {fd_law : FuncData} (F : Fun K "law" "law" st_law a.f_law fd_law) {fd_law_text : FuncData} (G_law_text : FnOk P w K mg base (CX1 P w) 2 a.f_law_text fd_law_text ["_law_cell_here", "_law_other", "_law_third"] (spD K F_law_text)) (B_law_text : Binds K fd_law_text ["_law_cell_here", "_law_other", "_law_third"] []) {fd_law_due : FuncData} (G_law_due : FnOk P w K mg base (CX1 P w) 2 a.f_law_due fd_law_due ["_law_text_here"] (spD K F_law_due)) (B_law_due : Binds K fd_law_due ["_law_text_here"] []) {fd_law_cell : FuncData} (G_law_cell : FnOk P w K mg base (CX1 P w) 1 a.f_law_cell fd_law_cell ["_law_script", "_law_k"] (spD K F_law_cell)) (B_law_cell : Binds K fd_law_cell ["_law_script", "_law_k"] []) {fd_fraction_read : FuncData} (G_fraction_read : FnOk P w K mg base (CX1 P w) 3 a.f_fraction_read fd_fraction_read ["text"] (spD K F_fraction_read)) (B_fraction_read : Binds K fd_fraction_read ["text"] []) :
    FnOk P w K mg base (CX1 P w) 4 a.f_law fd_law ["_law_script"] (spD K F_law) := by
  have hb : ∀ (cdv : Value) (A : Around) (outer : List Env) (s : Shared) (H : Hp) (E : XK), Room 3 (A.deeper (envOfC "law" (defScope st_law) s.heap.objs.size a.f_law cdv)) →
      PSDs (cxOf (CX1 P w) P w K mg base ["_law_script", "_law_k", "_law_text_here", "_law_due_here", "_law_found", "_law_caught", "error"] "law" (defScope st_law) a.f_law cdv A outer s H E) (defBody st_law) b_law := fun cdv A outer s H E hr => by
    unfold b_law
    exact (psd_cons (psd_for_range1 rfl rfl T.z_range (pad_cons pd_int pad_nil) (pgd_name 1 sc_law.nd) (psd_cons (psd_set 2 (pd_call (G_law_text.mono (by decide)) hr rfl T.m_law_text T.k_law_text B_law_text (pad_cons (pd_call (G_law_cell.mono (by decide)) hr rfl T.m_law_cell T.k_law_cell B_law_cell (pad_cons (pd_var 0) (pad_cons (pd_op od_mulE ne_mulE pd_int (pd_var 1)) pad_nil))) (pad_cons (pd_call (G_law_cell.mono (by decide)) hr rfl T.m_law_cell T.k_law_cell B_law_cell (pad_cons (pd_var 0) (pad_cons (pd_op od_add ne_add (pd_op od_mulE ne_mulE pd_int (pd_var 1)) pd_int) pad_nil))) (pad_cons (pd_call (G_law_cell.mono (by decide)) hr rfl T.m_law_cell T.k_law_cell B_law_cell (pad_cons (pd_var 0) (pad_cons (pd_op od_add ne_add (pd_op od_mulE ne_mulE pd_int (pd_var 1)) pd_int) pad_nil))) pad_nil)))) sc_law.nd) (psd_cons (psd_set 3 (pd_call (G_law_due.mono (by decide)) hr rfl T.m_law_due T.k_law_due B_law_due (pad_cons (pd_var 2) pad_nil)) sc_law.nd) (psd_cons (psd_set 4 pd_non sc_law.nd) (psd_cons (psd_set 5 pd_non sc_law.nd) (psd_cons (psd_try 6 rfl ⟨rfl, rfl⟩ sc_law.nd rfl T.m_HallError T.s_HallError (psd_one (psd_set 4 (pd_call (G_fraction_read.mono (by decide)) hr rfl T.m_fraction_read T.k_fraction_read B_fraction_read (pad_cons (pd_var 2) pad_nil)) sc_law.nd)) (fun _ => (psd_one (psd_set 5 (pd_var 6) sc_law.nd)))) (psd_one (psd_if (ptd_cmp od_isN ne_isNone (pd_var 3) pd_non (nomark _)) (psd_one (psd_if (PWD.pt (pwd_or (ptd_not (ptd_truth (pd_isinst T.i_NoText (pd_var 5) (cls_glob rfl T.m_NoText) rfl T.z_isinstance))) (pwd_or (ptd_not (ptd_truth (pd_isinst T.i_ValueError (pd_var 5) (cls_blt rfl T.z_ValueError (by decide +kernel)) rfl T.z_isinstance))) (pwd_or1 (ptd_truth (pd_isinst T.i_NoOver (pd_var 5) (cls_glob rfl T.m_NoOver) rfl T.z_isinstance)))))) (psd_one (psd_ret pd_bl)) psd_nil)) (psd_one (psd_if (PWD.pt (pwd_or (ptd_cmp od_notN ne_notNone (pd_var 5) pd_non (nomark _)) (pwd_or1 (ptd_cmp (od_ne hr.units) ne_neD (pd_var 4) (pd_var 3) (nomark _))))) (psd_one (psd_ret pd_bl)) psd_nil)))))))))) (psd_one (psd_ret pd_bl)))
  exact fun_d (N := ["_law_script", "_law_k", "_law_text_here", "_law_due_here", "_law_found", "_law_caught", "error"]) (ps := ["_law_script"]) (k := 3) (body := b_law) F sc_law hb
end
end K03
set_option Elab.async false
set_option linter.all false
set_option maxRecDepth 100000
set_option maxHeartbeats 4000000
set_option exponentiation.threshold 300000
namespace K03
open PySem PySem.Spec PyProof.Rows L2 DL Mine Bk Lean.Grind
theorem lit_minus : ("-" : Str) = sT [45] := rfl
theorem lit_slash : ("/" : Str) = sT [47] := rfl
theorem lit_zero : ("0" : Str) = sT [48] := rfl
theorem lit_none : ("" : Str) = sT [] := rfl
theorem lit_figs : ("0123456789" : Str) = sT [48, 49, 50, 51, 52, 53, 54, 55, 56, 57] := rfl
abbrev Pl (l : List Nat) : Prop := ∀ c ∈ l, c < 128
theorem okD_sT {l : List Nat} (h : Pl l) : PyData.strOk (sT l) = true := by
  unfold PyData.strOk
  rw [Array.all_eq_true']
  intro c hc
  have := h c (by simpa using hc)
  exact decide_eq_true (by omega)
theorem sT_inj {a b : List Nat} (h : sT a = sT b) : a = b := by
  have := congrArg (fun z : Str => z.cps.toList) h
  simpa using this
theorem eq_sT {a b : List Nat} (ha : Pl a) (hb : Pl b) : eqD (.str (sT a)) (.str (sT b)) = .ok (.bl (decide (a = b))) := by
  unfold eqD
  rw [if_pos ⟨okD_sT ha, okD_sT hb⟩]
  congr 2
  show decide (sT a = sT b) = decide (a = b)
  by_cases h : a = b
  · rw [h]; simp
  · have h' : ¬ (sT a = sT b) := fun z => h (sT_inj z)
    rw [decide_eq_false h, decide_eq_false h']
theorem sT_length (l : List Nat) : (sT l).length = l.length := by show l.toArray.size = _; simp
theorem len_sT {l : List Nat} (h : l.length ≤ 1000) : lenG [.str (sT l)] = .ok (.int (l.length : Nat)) := by
  show (if (sT l).length ≤ sizeLine then Res.ok (D.int ((sT l).length : Nat)) else .stuck) = _
  rw [sT_length, if_pos (Nat.le_trans h (by decide))]
theorem in_figs (c : Nat) : inD (.str (sT [c])) (.str "0123456789") = .ok (.bl (decide (48 ≤ c ∧ c ≤ 57))) := by
  rw [lit_figs]
  show Res.ok (D.bl (!(Builtin.Str.occurrences (sT [48, 49, 50, 51, 52, 53, 54, 55, 56, 57]) (sT [c]) 0 (sT [48, 49, 50, 51, 52, 53, 54, 55, 56, 57]).length 1).isEmpty)) = _
  rw [show (!(Builtin.Str.occurrences (sT [48, 49, 50, 51, 52, 53, 54, 55, 56, 57]) (sT [c]) 0 (sT [48, 49, 50, 51, 52, 53, 54, 55, 56, 57]).length 1).isEmpty) = _ from StrLaws.found_one (sT [48, 49, 50, 51, 52, 53, 54, 55, 56, 57]) c]
  congr 2
  rw [slice_all]
  have : (c ∈ [48, 49, 50, 51, 52, 53, 54, 55, 56, 57]) ↔ (48 ≤ c ∧ c ≤ 57) := by
    simp only [List.mem_cons, List.not_mem_nil, or_false]; omega
  simp only [this]
theorem mapR_gen {fe : DS → Res D} {rest : DS} {α : Type} {j : α → D} {g : α → D} : ∀ (l : List α), (∀ c ∈ l, fe (some (.val (j c)) :: rest) = .ok (g c)) → mapR (eltD (tgtN 0) fe (none :: rest)) (l.map j) = .ok (l.map g)
  | [], _ => rfl
  | t :: ts, h => by
    have e : eltD (tgtN 0) fe (none :: rest) (j t) = .ok (g t) := by
      show (match fe (some (.val (j t)) :: rest) with | .ok x => Res.ok x | _ => .stuck) = _
      rw [h t (by simp)]
    rw [List.map_cons, mapR, e, Res.bind_ok, mapR_gen ts (fun u hu => h u (List.mem_cons_of_mem _ hu)), Res.bind_ok]; rfl
theorem items_sT {l : List Nat} (h : Pl l) : seqItems (.str (sT l)) = .ok (l.map fun c => .str (sT [c])) := by
  have e : ((sT l).cps.all fun c => decide (c < 128)) = true := by
    rw [Array.all_eq_true']
    intro c hc
    exact decide_eq_true (h c (by simpa using hc))
  show (if ((sT l).cps.all fun c => decide (c < 128)) = true then Res.ok (signsD (sT l)) else .stuck) = _
  rw [if_pos e]
  unfold signsD
  rw [slice_all]
noncomputable def dgB (l : List Nat) : Bool := l.all fun c => decide (48 ≤ c ∧ c ≤ 57)
theorem comp_figs {l : List Nat} (h : Pl l) (hl : l.length ≤ 1000) {s0 : SV} (h0 : s0.view = .str (sT l)) : compD 1 [] (tgtN 0) (two (slotD 0) (fun _ => .ok (.str "0123456789")) inD) (bindL (slotD 0) seqItems) [some s0] = .ok (.lst ((l.map fun c => decide (48 ≤ c ∧ c ≤ 57)).map .bl)) := by
  unfold compD
  have hi : bindL (slotD 0) seqItems [some s0] = .ok (l.map fun c => .str (sT [c])) := by
    show seqItems s0.view = _
    rw [h0]; exact items_sT h
  have hm := mapR_gen (fe := two (slotD 0) (fun _ => .ok (.str "0123456789")) inD) (rest := []) (j := fun c => .str (sT [c])) (g := fun c => .bl (decide (48 ≤ c ∧ c ≤ 57))) l (fun c hc => by
    push_cast [in_figs])
  rw [hi, bnd_ok]
  show lstD (mapR (eltD (tgtN 0) (two (slotD 0) (fun _ => .ok (.str "0123456789")) inD) [none]) (l.map fun c => .str (sT [c]))) = _
  rw [hm]
  unfold lstD
  rw [bnd_ok, if_pos (by rw [List.length_map]; exact Nat.le_trans hl (by decide)), List.map_map]; rfl
theorem all_figs (l : List Nat) : ((l.map fun c => decide (48 ≤ c ∧ c ≤ 57)).all id) = dgB l := by
  unfold dgB; rw [List.all_map]; rfl
noncomputable def fgB (l : List Nat) : Bool := if l.length < 1 ∨ 60 < l.length ∨ (1 < l.length ∧ l.head? = some 48) then false else dgB l
theorem w_lfig {l : List Nat} (h : Pl l) (hl : l.length ≤ 1000) : F_law_figures [.str (sT l)] = .ok (.bl (fgB l)) := by
  have ln := len_sT hl
  have cf := comp_figs h hl (s0 := .arg (.str (sT l))) rfl
  have ix : 0 < l.length → ixD (.str (sT l)) (.int 0) = .ok (.str (sT [l.headD 0])) := fun p => by
    cases l with
    | nil => exact absurd p (Nat.lt_irrefl _)
    | cons a l =>
      have e : atI (sT (a :: l)).cps.toList 0 = some a := by rw [slice_all]; unfold atI ixN; simp
      show (if (sT (a :: l)).length ≤ sizeLine then (match atI (sT (a :: l)).cps.toList 0 with | some c => Res.ok (D.str ⟨#[c]⟩) | none => .stuck) else .stuck) = _
      rw [if_pos (by rw [sT_length]; exact Nat.le_trans hl (by decide)), e]; rfl
  have eq : 0 < l.length → eqD (.str (sT [l.headD 0])) (.str "0") = .ok (.bl (decide (l.head? = some 48))) := fun p => by
    rw [lit_zero]
    cases l with
    | nil => exact absurd p (Nat.lt_irrefl _)
    | cons a l =>
      rw [eq_sT (fun c hc => by rw [List.mem_singleton.mp hc]; exact h a (by simp)) (fun c hc => by rw [List.mem_singleton.mp hc]; decide)]
      simp
  show outD (b_law_figures [some (.arg (.str (sT l)))]) = _
  unfold b_law_figures
  by_cases c1 : l.length < 1
  · have e1 : ((l.length : Nat) : Int) < 1 := by omega
    have e2 : fgB l = false := if_pos (.inl c1)
    push_cast [ln, e1, e2]
  · have e1 : ¬ (((l.length : Nat) : Int) < 1) := by omega
    by_cases c2 : 60 < l.length
    · have e2 : (60 : Int) < (l.length : Nat) := by omega
      have e3 : fgB l = false := if_pos (.inr (.inl c2))
      push_cast [ln, e1, e2, e3]
    · have e2 : ¬ ((60 : Int) < (l.length : Nat)) := by omega
      by_cases c3 : 1 < l.length
      · have e3 : (1 : Int) < (l.length : Nat) := by omega
        by_cases c4 : l.head? = some 48
        · have e4 : fgB l = false := if_pos (.inr (.inr ⟨c3, c4⟩))
          have q := eq (by omega)
          rw [_root_.decide_eq_true c4] at q
          push_cast [ln, e1, e2, e3, ix (by omega), q, e4]
        · have e4 : fgB l = dgB l := if_neg (fun q => q.elim c1 fun q => q.elim c2 fun z => c4 z.2)
          have q := eq (by omega)
          rw [_root_.decide_eq_false c4] at q
          push_cast [ln, e1, e2, e3, ix (by omega), q, e4, cf, all_bl, all_figs]
      · have e3 : ¬ ((1 : Int) < (l.length : Nat)) := by omega
        have e4 : fgB l = dgB l := if_neg (fun q => q.elim c1 fun q => q.elim c2 fun z => c3 z.1)
        push_cast [ln, e1, e2, e3, e4, cf, all_bl, all_figs]
noncomputable def plB (l : List Nat) : Bool := fgB l && !decide (l = [48])
theorem w_plain {l : List Nat} (h : Pl l) (hl : l.length ≤ 1000) : F_is_plain [.str (sT l)] = .ok (.bl (plB l)) := by
  have ln := len_sT hl
  have cf := comp_figs h hl (s0 := .arg (.str (sT l))) rfl
  have e0 : eqD (.str (sT l)) (.str "") = .ok (.bl (decide (l = []))) := by rw [lit_none]; exact eq_sT h (fun c hc => by cases hc)
  have me : methD "str" startsG (slotD 0) (consD (fun _ => .ok (.str "0")) (fun _ => .ok [])) [some (.arg (.str (sT l)))] = .ok (.bl (decide (l.head? = some 48))) := by
    show (if tyB "str" (.str (sT l)) = true then startsG (.str (sT l)) [.str "0"] else .stuck) = _
    rw [if_pos (show tyB "str" (.str (sT l)) = true from rfl), lit_zero]
    show Res.ok (D.bl (Txt.startswith (sT l) (sT [48]))) = _
    rw [starts1]
  show outD (b_is_plain [some (.arg (.str (sT l)))]) = _
  unfold b_is_plain
  by_cases c1 : l = []
  · have e1 : plB l = false := by subst c1; rfl
    rw [_root_.decide_eq_true c1] at e0
    push_cast [e0, e1]
  · have l0 : ¬ (l.length < 1) := fun z => c1 (List.eq_nil_of_length_eq_zero (by omega))
    rw [_root_.decide_eq_false c1] at e0
    by_cases c2 : 60 < l.length
    · have e2 : (60 : Int) < (l.length : Nat) := by omega
      have e3 : plB l = false := by unfold plB; rw [show fgB l = false from if_pos (.inr (.inl c2))]; rfl
      push_cast [e0, ln, e2, e3]
    · have e2 : ¬ ((60 : Int) < (l.length : Nat)) := by omega
      by_cases c4 : l.head? = some 48
      · have e3 : plB l = false := by
          unfold plB
          by_cases c3 : 1 < l.length
          · rw [show fgB l = false from if_pos (.inr (.inr ⟨c3, c4⟩))]; rfl
          · have : l = [48] := by
              match l, c4, l0, c3 with
              | [a], c4, _, _ => simp at c4; rw [c4]
              | a :: b :: l, _, _, c3 => exact absurd (by simp) c3
            rw [this]; simp
        rw [_root_.decide_eq_true c4] at me
        push_cast [e0, ln, e2, me, e3]
      · have e4 : fgB l = dgB l := if_neg (fun q => q.elim l0 fun q => q.elim c2 fun z => c4 z.2)
        have e3 : plB l = dgB l := by
          unfold plB
          have : ¬ (l = [48]) := fun z => c4 (by rw [z]; rfl)
          rw [e4, _root_.decide_eq_false this]; simp
        rw [_root_.decide_eq_false c4] at me
        push_cast [e0, ln, e2, me, e3, cf, all_bl, all_figs]
abbrev val (l : List Nat) : Nat := NumText.digitsVal l
theorem fg_dig {l : List Nat} (h : fgB l = true) : (∀ c ∈ l, 48 ≤ c ∧ c ≤ 57) ∧ 1 ≤ l.length ∧ l.length ≤ 60 ∧ ¬ (1 < l.length ∧ l.head? = some 48) := by
  unfold fgB at h
  split at h
  · cases h
  · rename_i q
    refine ⟨fun c hc => ?_, by omega, by omega, fun z => q (.inr (.inr z))⟩
    unfold dgB at h
    rw [List.all_eq_true] at h
    exact of_decide_eq_true (h c hc)
theorem val_lt : ∀ (l : List Nat) (a : Nat), (∀ c ∈ l, 48 ≤ c ∧ c ≤ 57) → l.foldl (fun a c => a * 10 + (c - 48)) a < (a + 1) * 10 ^ l.length
  | [], a, _ => by simp
  | c :: l, a, h => by
    have := h c (by simp)
    have q := val_lt l (a * 10 + (c - 48)) fun d hd => h d (List.mem_cons_of_mem _ hd)
    rw [List.foldl_cons, List.length_cons, Nat.pow_succ]
    refine Nat.lt_of_lt_of_le q ?_
    have : a * 10 + (c - 48) + 1 ≤ (a + 1) * 10 := by omega
    calc (a * 10 + (c - 48) + 1) * 10 ^ l.length ≤ (a + 1) * 10 * 10 ^ l.length := Nat.mul_le_mul_right _ this
      _ = (a + 1) * (10 ^ l.length * 10) := by rw [Nat.mul_assoc, Nat.mul_comm 10]
theorem val_ge : ∀ (l : List Nat) (a : Nat), a ≤ l.foldl (fun a c => a * 10 + (c - 48)) a
  | [], a => Nat.le_refl a
  | c :: l, a => by
    have q := val_ge l (a * 10 + (c - 48))
    rw [List.foldl_cons]; omega
theorem val_bd {l : List Nat} (h : fgB l = true) : val l < 10 ^ 60 := by
  obtain ⟨h1, h2, h3, h4⟩ := fg_dig h
  have := val_lt l 0 h1
  rw [Nat.zero_add, Nat.one_mul] at this
  exact Nat.lt_of_lt_of_le this (Nat.pow_le_pow_right (by decide) h3)
theorem val_zero {l : List Nat} (h : fgB l = true) : val l = 0 ↔ l = [48] := by
  obtain ⟨h1, h2, h3, h4⟩ := fg_dig h
  constructor
  · intro e
    match l, h1, h2, h4, e with
    | c :: l, h1, h2, h4, e =>
      have q := val_ge l (0 * 10 + (c - 48))
      have e' : l.foldl (fun a c => a * 10 + (c - 48)) (0 * 10 + (c - 48)) = 0 := e
      have := h1 c (by simp)
      have c48 : c = 48 := by omega
      subst c48
      cases l with
      | nil => rfl
      | cons d l => exact absurd ⟨by simp, rfl⟩ h4
  · intro e; subst e; rfl
theorem int_val {l : List Nat} (h : fgB l = true) : intG [.str (sT l)] = .ok (.int (val l : Int)) := by
  obtain ⟨h1, h2, h3, h4⟩ := fg_dig h
  have e := intText_digits (x := sT l) (fun c hc => h1 c (by simpa using hc)) (by rw [slice_all]; intro z; rw [z] at h2; simp at h2) (by rw [sT_length]; omega)
  show (if (sT l).length ≤ 640 then (match intText? (sT l) with | some n => Res.ok (D.int n) | none => .stuck) else .stuck) = _
  rw [sT_length, if_pos (by omega), e, slice_all]
theorem slice_to {w : List Nat} {k : Nat} (h : k ≤ w.length) : Txt.slice (sT w) none (some (k : Int)) = sT (w.take k) := by
  have e := StrLaws.sliceText_to (x := sT w) (j := (k : Int)) ⟨by omega, by rw [slice_all]; omega⟩
  have e' : Txt.slice (sT w) none (some (k : Int)) = _ := e
  rw [e', slice_all, List.drop_zero, Int.sub_zero, Int.toNat_natCast]
theorem slice_from {w : List Nat} {k : Nat} (h : k ≤ w.length) : Txt.slice (sT w) (some (k : Int)) none = sT (w.drop k) := by
  have e := StrLaws.sliceText_from (x := sT w) (i := (k : Int)) ⟨by omega, by rw [slice_all]; omega⟩
  have e' : Txt.slice (sT w) (some (k : Int)) none = _ := e
  rw [e', slice_all, Int.toNat_natCast, List.take_of_length_le (by rw [List.length_drop]; omega)]
theorem slice_past (w : List Nat) : Txt.slice (sT w) (some ((w.length + 1 : Nat) : Int)) none = sT [] := by
  have e : Builtin.Str.strSliceIndices (some ((w.length + 1 : Nat) : Int)) none 1 (sT w).length = Builtin.Str.strSliceIndices (some ((w.length : Nat) : Int)) none 1 (sT w).length := by
    rw [sT_length]
    have a1 : ¬ (((w.length + 1 : Nat) : Int) < 0) := by omega
    have a2 : ¬ (((w.length : Nat) : Int) < 0) := by omega
    have m1 : min ((w.length + 1 : Nat) : Int) (w.length : Int) = (w.length : Int) := by omega
    have m2 : min ((w.length : Nat) : Int) (w.length : Int) = (w.length : Int) := by omega
    unfold Builtin.Str.strSliceIndices
    simp only [a1, a2, if_false, m1, m2, show (1 : Int) > 0 from by decide, if_true]
  have q : Txt.slice (sT w) (some ((w.length + 1 : Nat) : Int)) none = Txt.slice (sT w) (some ((w.length : Nat) : Int)) none := by
    show StrLaws.sliceText _ _ _ = StrLaws.sliceText _ _ _
    unfold StrLaws.sliceText
    rw [e]
  rw [q, slice_from (Nat.le_refl _), List.drop_length]
theorem split_parts (u : List Nat) : ∃ ps : List (List Nat), ps ≠ [] ∧ Txt.split (sT u) (sT [47]) = ps.map sT ∧ (∀ p ∈ ps, ∀ c ∈ p, c ∈ u) ∧ (∀ p ∈ ps, p.length ≤ u.length) ∧ (∀ a, ps = [a] → a = u) := by
  by_cases u0 : u = []
  · subst u0
    refine ⟨[[]], by simp, rfl, fun p hp c hc => by rw [List.mem_singleton.mp hp] at hc; exact hc, fun p hp => by rw [List.mem_singleton.mp hp]; exact Nat.le_refl _, fun a h => by injection h with h; exact h.symm⟩
  have j := StrLaws.join_split (sT u) (sT [47])
  cases q : Txt.split (sT u) (sT [47]) with
  | nil =>
    rw [q] at j
    exfalso
    have : (sT u).cps.toList = [] := by rw [← j]; rfl
    exact u0 (by simpa using this)
  | cons x rest =>
    rw [q] at j
    have e := congrArg (fun z : Str => z.cps.toList) j
    dsimp only at e
    rw [Mine.join_list, slice_all] at e
    have fm : ∀ (rest : List Str) (p : Str), p ∈ rest → (∀ c ∈ p.cps.toList, c ∈ rest.flatMap (fun p => 47 :: p.cps.toList)) ∧ p.cps.toList.length ≤ (rest.flatMap (fun p => 47 :: p.cps.toList)).length := by
      intro rest
      induction rest with
      | nil => intro p hp; cases hp
      | cons r rest ih =>
        intro p hp
        rw [List.flatMap_cons]
        rcases List.mem_cons.mp hp with z | z
        · subst z
          refine ⟨fun c hc => List.mem_append_left _ (List.mem_cons_of_mem _ hc), ?_⟩
          rw [List.length_append, List.length_cons]; omega
        · obtain ⟨h1, h2⟩ := ih p z
          refine ⟨fun c hc => List.mem_append_right _ (h1 c hc), ?_⟩
          rw [List.length_append]; omega
    refine ⟨(x :: rest).map fun p => p.cps.toList, by simp, ?_, fun p hp c hc => ?_, fun p hp => ?_, fun a ha => ?_⟩
    · rw [List.map_map]
      have : ∀ y ∈ x :: rest, (sT ∘ fun p : Str => p.cps.toList) y = y := fun y _ => (sT_ext rfl).symm
      rw [List.map_congr_left this, List.map_id']
    · obtain ⟨y, hy, rfl⟩ := List.mem_map.mp hp
      rw [← e]
      rcases List.mem_cons.mp hy with z | z
      · subst z; exact List.mem_append_left _ hc
      · exact List.mem_append_right _ ((fm rest y z).1 c hc)
    · obtain ⟨y, hy, rfl⟩ := List.mem_map.mp hp
      rw [← e, List.length_append]
      rcases List.mem_cons.mp hy with z | z
      · rw [z]; exact Nat.le_add_right _ _
      · exact Nat.le_trans (fm rest y z).2 (Nat.le_add_left _ _)
    · rw [List.map_cons] at ha
      injection ha with h1 h2
      have r0 : rest = [] := List.map_eq_nil_iff.mp h2
      rw [r0, List.flatMap_nil, List.append_nil] at e
      rw [← h1, e]
noncomputable def txts (ps : List (List Nat)) : List D := ps.map fun p => .str (sT p)
theorem split_ok {u : List Nat} {ps : List (List Nat)} (h : u.length ≤ 500) (e : Txt.split (sT u) (sT [47]) = ps.map sT) : splitG (.str (sT u)) [.str "/"] = .ok (.lst (txts ps)) := by
  have hs : 502 ≤ sizeLine := by decide
  rw [lit_slash]
  show (if ((sT [47]).length == 0) = false ∧ (sT u).length + 2 ≤ sizeLine then Res.ok (D.lst ((Txt.split (sT u) (sT [47])).map .str)) else .stuck) = _
  rw [if_pos ⟨rfl, by rw [sT_length]; omega⟩, e, List.map_map]
  rfl
noncomputable def way (neg : Bool) : Int := if neg = true then -1 else 1
noncomputable def rd (neg : Bool) : List (List Nat) → Option D
  | [a] => if fgB a = true then some (num [way neg * (val a : Int)] 1) else none
  | [a, b] => if fgB a = true ∧ fgB b = true ∧ val b ≠ 0 then some (num [way neg * Int.fdiv (val a : Int) (cm (val a) (val b))] (Int.fdiv (val b : Int) (cm (val a) (val b)))) else none
  | _ => none
noncomputable def orNon : Option D → D
  | some d => d
  | none => .non
theorem w_parts {ps : List (List Nat)} (h0 : ps ≠ []) (hp : ∀ p ∈ ps, Pl p ∧ p.length ≤ 1000) : F_are_parts [.lst (txts ps)] = .ok (.bl (match ps with | [a] => fgB a | [a, b] => fgB a && plB b | _ => false)) := by
  have z0 : ∀ {a : List Nat}, Pl a → eqD (.str (sT a)) (.str "0") = .ok (.bl (decide (a = [48]))) := fun ha => by
    rw [lit_zero]; exact eq_sT ha (fun c hc => by rw [List.mem_singleton.mp hc]; decide)
  have f48 : fgB [48] = true := rfl
  have pz : ∀ a : List Nat, ¬ (a = [48]) → plB a = fgB a := fun a q => by unfold plB; rw [_root_.decide_eq_false q]; simp
  show outD (b_are_parts [some (.arg (.lst (txts ps)))]) = _
  unfold b_are_parts
  match ps, h0, hp with
  | [a], _, hp =>
    obtain ⟨pa, la⟩ := hp a (by simp)
    have q := z0 pa
    have w := w_plain pa la
    rw [show txts [a] = [.str (sT a)] from rfl]
    by_cases c : a = [48]
    · rw [_root_.decide_eq_true c] at q
      have fa : fgB a = true := by rw [c]; rfl
      push_cast [q, fa]
    · rw [_root_.decide_eq_false c] at q
      rw [pz a c] at w
      push_cast [q, w]
  | [a, b], _, hp =>
    obtain ⟨pa, la⟩ := hp a (by simp)
    obtain ⟨pb, lb⟩ := hp b (by simp)
    have q := z0 pa
    have w := w_plain pa la
    have w2 := w_plain pb lb
    rw [show txts [a, b] = [.str (sT a), .str (sT b)] from rfl]
    cases hb : plB b with
    | false =>
      rw [hb] at w2
      push_cast [w2, hb, Bool.and_false]
    | true =>
      rw [hb] at w2
      by_cases c : a = [48]
      · rw [_root_.decide_eq_true c] at q
        have fa : fgB a = true := by rw [c]; rfl
        push_cast [w2, q, hb, Bool.and_true, fa]
      · rw [_root_.decide_eq_false c] at q
        rw [pz a c] at w
        push_cast [w2, q, w, hb, Bool.and_true]
  | a :: b :: c :: r, _, hp =>
    have e : (2 : Int) < ((txts (a :: b :: c :: r)).length : Nat) := by unfold txts; simp; omega
    push_cast [e]
theorem w_figs {ps : List (List Nat)} (hp : ∀ p ∈ ps, Pl p ∧ p.length ≤ 1000) (hl : ps.length ≤ 1000) {s0 s1 : Option SV} {r : DS} : compD 1 [] (tgtN 0) (bindF (consD (slotD 0) (fun _ => .ok [])) F_law_figures) (bindL (slotD 2) seqItems) (s0 :: s1 :: some (.val (.lst (txts ps))) :: r) = .ok (.lst ((ps.map fgB).map .bl)) := by
  unfold compD
  have hi : bindL (slotD 2) seqItems (s0 :: s1 :: some (.val (.lst (txts ps))) :: r) = .ok (ps.map fun p => .str (sT p)) := rfl
  have hm := mapR_gen (fe := bindF (consD (slotD 0) (fun _ => .ok [])) F_law_figures) (rest := []) (j := fun p => .str (sT p)) (g := fun p => .bl (fgB p)) ps (fun p hp' => by
    have := w_lfig (hp p hp').1 (hp p hp').2
    push_cast [this])
  rw [hi, bnd_ok]
  show lstD (mapR (eltD (tgtN 0) (bindF (consD (slotD 0) (fun _ => .ok [])) F_law_figures) [none]) (ps.map fun p => .str (sT p))) = _
  rw [hm]
  unfold lstD
  rw [bnd_ok, if_pos (by rw [List.length_map]; exact Nat.le_trans hl (by decide)), List.map_map]; rfl
theorem cm_pos {a b : Nat} (hb : b ≠ 0) : 0 < cm (a : Int) (b : Int) := by
  unfold cm
  have : 0 < Int.gcd a b := Int.gcd_pos_of_ne_zero_right _ (by omega)
  omega
theorem cm_bd {a b : Nat} (hb : b ≠ 0) (h : b < 10 ^ 60) : (cm (a : Int) (b : Int)).natAbs < 2 ^ 8000 := by
  unfold cm
  rw [Int.natAbs_natCast]
  have h1 : Int.gcd a b ≤ b := by
    have := Nat.le_of_dvd (by omega) (Int.gcd_dvd_natAbs_right (a : Int) (b : Int))
    simpa using this
  have h2 : (10 : Nat) ^ 60 < 2 ^ 200 := by decide
  exact Nat.lt_of_lt_of_le (Nat.lt_of_le_of_lt h1 (Nat.lt_trans h h2)) (Nat.pow_le_pow_right (by decide) (by decide))
theorem neg_fdiv {a b : Nat} (hb : b ≠ 0) : Int.fdiv (-(a : Int)) (cm (a : Int) (b : Int)) = -1 * Int.fdiv (a : Int) (cm (a : Int) (b : Int)) := by
  have g0 := cm_pos (a := a) hb
  have d : cm (a : Int) (b : Int) ∣ (a : Int) := by unfold cm; exact Int.gcd_dvd_left ..
  obtain ⟨k, hk⟩ := d
  generalize cm (a : Int) (b : Int) = g at *
  rw [hk, ← Int.mul_neg, Int.mul_fdiv_cancel_left _ (by omega), Int.mul_fdiv_cancel_left _ (by omega)]
  omega
theorem mul_way (neg : Bool) (x : Int) : mulD (.int (way neg)) (.int x) = .ok (.int (way neg * x)) := by
  unfold mulD
  refine if_pos (.inr (.inl (intBits_le ?_)))
  cases neg <;> decide
noncomputable def ngB (w : List Nat) : Bool := decide (w.head? = some 45)
noncomputable def unS (w : List Nat) : List Nat := if ngB w = true then w.tail else w
theorem ng_tail {w : List Nat} (h : ngB w = true) : w = 45 :: unS w := by
  have q : w.head? = some 45 := of_decide_eq_true h
  unfold unS
  rw [if_pos h]
  cases w with
  | nil => cases q
  | cons a w => simp at q; rw [q]; rfl
theorem un_of {w : List Nat} (h : ngB w = false) : unS w = w := by unfold unS; rw [if_neg (by rw [h]; decide)]
theorem un_mem {w : List Nat} : ∀ c ∈ unS w, c ∈ w := by
  intro c hc
  unfold unS at hc
  split at hc
  · exact List.mem_of_mem_tail hc
  · exact hc
theorem un_len (w : List Nat) : (unS w).length ≤ w.length := by
  unfold unS
  split
  · rw [List.length_tail]; omega
  · exact Nat.le_refl _
theorem cut_un {w : List Nat} (h : ngB w = true) (hl : w.length ≤ 500) : cutD (.str (sT w)) (some 1) none = .ok (.str (sT (unS w))) := by
  show (if (sT w).length ≤ sizeLine then Res.ok (D.str (Txt.slice (sT w) (some 1) none)) else .stuck) = _
  rw [if_pos (by rw [sT_length]; exact Nat.le_trans hl (by decide))]
  have e := ng_tail h
  have q : Txt.slice (sT w) (some 1) none = sT (unS w) := by
    rw [e, slice_from1]
    congr 2
  rw [q]
theorem w_due {w : List Nat} (hw : Pl w) (hl : w.length ≤ 500) : ∃ ps, ps ≠ [] ∧ Txt.split (sT (unS w)) (sT [47]) = ps.map sT ∧ (∀ p ∈ ps, Pl p ∧ p.length ≤ 1000) ∧ F_law_due [.str (sT w)] = .ok (orNon (rd (ngB w) ps)) := by
  obtain ⟨ps, p0, e, m1, m2, m3⟩ := split_parts (unS w)
  have ul := un_len w
  have hp : ∀ p ∈ ps, Pl p ∧ p.length ≤ 1000 := fun p hp => ⟨fun c hc => hw c (un_mem c (m1 p hp c hc)), by have := m2 p hp; omega⟩
  refine ⟨ps, p0, e, hp, ?_⟩
  have sp := split_ok (by omega) e
  have c1 : cutD (.str (sT w)) none (some 1) = .ok (.str (sT (w.take 1))) := by
    show (if (sT w).length ≤ sizeLine then Res.ok (D.str (Txt.slice (sT w) none (some 1))) else .stuck) = _
    rw [if_pos (by rw [sT_length]; exact Nat.le_trans hl (by decide))]
    cases w with
    | nil => rfl
    | cons a w => rw [show Txt.slice (sT (a :: w)) none (some 1) = _ from slice_to (k := 1) (by simp)]
  have q1 : eqD (.str (sT (w.take 1))) (.str "-") = .ok (.bl (ngB w)) := by
    rw [lit_minus, eq_sT (fun c hc => hw c (List.mem_of_mem_take hc)) (fun c hc => by rw [List.mem_singleton.mp hc]; decide)]
    unfold ngB
    congr 2
    cases w with
    | nil => rfl
    | cons a w => simp
  have pre : ∀ s0 : SV, s0.view = .str (sT w) → ∃ s0' : SV, s0'.view = .str (sT (unS w)) ∧ (ifS (bindT (two (sliceF (slotD 0) noPart (partF (fun _ => .ok (.int 1)))) (fun _ => .ok (.str "-")) eqD) boolD) (seqD (setD 1 (negF (fun _ => .ok (.int 1)))) (setD 0 (sliceF (slotD 0) (partF (fun _ => .ok (.int 1))) noPart))) Out.nxt) [some s0, some (.val (.int 1)), none, none, none, none] = .nxt [some s0', some (.val (.int (way (ngB w)))), none, none, none, none] := by
    intro s0 h0
    cases hn : ngB w with
    | true =>
      rw [hn] at q1
      refine ⟨.val (.str (sT (unS w))), rfl, ?_⟩
      push_cast [h0, c1, q1, cut_un hn hl]
      rfl
    | false =>
      rw [hn] at q1
      refine ⟨s0, by rw [un_of hn]; exact h0, ?_⟩
      push_cast [h0, c1, q1]
      rfl
  obtain ⟨s0', v0, pr⟩ := pre (.arg (.str (sT w))) rfl
  have sp' : methD "str" splitG (slotD 0) (consD (fun _ => .ok (.str "/")) (fun _ => .ok [])) [some s0', some (.val (.int (way (ngB w)))), none, none, none, none] = .ok (.lst (txts ps)) := by
    show (if tyB "str" s0'.view = true then splitG s0'.view [.str "/"] else .stuck) = _
    rw [v0, if_pos (show tyB "str" (.str (sT (unS w))) = true from rfl), sp]
  have st0 : (setD 1 (fun _ => .ok (.int 1))) [some (.arg (.str (sT w))), none, none, none, none, none] = .nxt [some (.arg (.str (sT w))), some (.val (.int 1)), none, none, none, none] := rfl
  have st2 : (setD 2 (methD "str" splitG (slotD 0) (consD (fun _ => .ok (.str "/")) (fun _ => .ok [])))) [some s0', some (.val (.int (way (ngB w)))), none, none, none, none] = .nxt [some s0', some (.val (.int (way (ngB w)))), some (.val (.lst (txts ps))), none, none, none] := by
    simp only [ap_set, sp', on_ok]; rfl
  show outD (b_law_due [some (.arg (.str (sT w))), none, none, none, none, none]) = _
  unfold b_law_due
  rw [ap_seq, st0, sq_nxt, ap_seq, pr, sq_nxt, ap_seq, st2, sq_nxt]
  match ps, p0, hp, m3 with
  | [a], _, hp, m3 =>
    have cf := w_figs hp (by simp) (s0 := some s0') (s1 := some (.val (.int (way (ngB w))))) (r := [none, none, none])
    rw [show txts [a] = [.str (sT a)] from rfl] at *
    have al : (List.map fgB [a]).all id = fgB a := by simp
    cases fa : fgB a with
    | false =>
      rw [fa] at al
      have er : rd (ngB w) [a] = none := by show (if fgB a = true then _ else _) = _; rw [fa]; rfl
      push_cast [cf, all_bl, al, er, orNon]
    | true =>
      rw [fa] at al
      have iv : intG [.str (sT (unS w))] = .ok (.int (val a : Int)) := by rw [← m3 a rfl]; exact int_val fa
      have er : rd (ngB w) [a] = some (num [way (ngB w) * (val a : Int)] 1) := by show (if fgB a = true then _ else _) = _; rw [fa]; rfl
      push_cast [cf, all_bl, al, er, orNon, v0, iv, mul_way]
      rfl
  | [a, b], _, hp, m3 =>
    have cf := w_figs hp (by simp) (s0 := some s0') (s1 := some (.val (.int (way (ngB w))))) (r := [none, none, none])
    rw [show txts [a, b] = [.str (sT a), .str (sT b)] from rfl] at *
    have al : (List.map fgB [a, b]).all id = (fgB a && fgB b) := by simp
    by_cases fab : fgB a = true ∧ fgB b = true
    · obtain ⟨fa, fb⟩ := fab
      rw [fa, fb] at al
      have ia := int_val fa
      have ib := int_val fb
      by_cases bz : val b = 0
      · have er : rd (ngB w) [a, b] = none := if_neg (fun z => z.2.2 bz)
        have bz' : (val b : Int) = 0 := by omega
        rw [bz'] at ib
        push_cast [cf, all_bl, al, Bool.and_self, er, orNon, ia, ib]
      · have er : rd (ngB w) [a, b] = some (num [way (ngB w) * Int.fdiv (val a : Int) (cm (val a) (val b))] (Int.fdiv (val b : Int) (cm (val a) (val b)))) := if_pos ⟨fa, fb, bz⟩
        have bz' : ¬ ((val b : Int) = 0) := by omega
        have lc := w_law_common (val a : Int) (val b : Int)
        have fd := fun x : Int => fdivI (a := x) (Int.ne_of_gt (cm_pos (a := val a) bz)) (cm_bd (a := val a) bz (val_bd fb))
        push_cast [cf, all_bl, al, Bool.and_self, er, orNon, ia, ib, bz', lc, fd, mul_way]
        rfl
    · have er : rd (ngB w) [a, b] = none := if_neg (fun z => fab ⟨z.1, z.2.1⟩)
      have al2 : (fgB a && fgB b) = false := by
        cases ha : fgB a with
        | false => rfl
        | true => cases hb : fgB b with
          | false => rfl
          | true => exact absurd ⟨ha, hb⟩ fab
      rw [al2] at al
      push_cast [cf, all_bl, al, er, orNon]
  | a :: b :: c :: r, _, hp, m3 =>
    have e : (2 : Int) < ((txts (a :: b :: c :: r)).length : Nat) := by unfold txts; simp; omega
    have er : rd (ngB w) (a :: b :: c :: r) = none := rfl
    push_cast [e, er, orNon]
noncomputable def orErr : Option D → Res D
  | some d => .ok d
  | none => .err ⟨"NoText"⟩
theorem fstr_ok {w : List Nat} (hw : Pl w) (hl : w.length ≤ 500) : ∃ d, fstrG "this is no fraction: " (.str (sT w)) = .ok d := by
  have r := StrLaws.reprText_len (sT w) (fun c hc => by
    rw [slice_all] at hc
    have := hw c hc
    exact Nat.lt_of_lt_of_le this (by decide))
  rw [sT_length w] at r
  have big : 6000 ≤ sizeLine := by decide
  have l2 : ((Str.empty ++ ("this is no fraction: " : Str)) ++ reprText (sT w)).length = 21 + (reprText (sT w)).length := by
    show ((Str.empty ++ ("this is no fraction: " : Str)).cps ++ (reprText (sT w)).cps).size = _
    rw [Array.size_append]
    rfl
  exact ⟨_, if_pos ⟨by omega, by rw [l2]; omega⟩⟩
theorem w_read {w : List Nat} (hw : Pl w) (hl : w.length ≤ 500) {ps : List (List Nat)} (p0 : ps ≠ []) (e : Txt.split (sT (unS w)) (sT [47]) = ps.map sT) (hp : ∀ p ∈ ps, Pl p ∧ p.length ≤ 1000) : F_fraction_read [.str (sT w)] = orErr (rd (ngB w) ps) := by
  have ul := un_len w
  have sp := split_ok (by omega) e
  have sw : methD "str" startsG (slotD 0) (consD (fun _ => .ok (.str "-")) (fun _ => .ok [])) [some (.arg (.str (sT w))), none, none, none, none, none, none] = .ok (.bl (ngB w)) := by
    show (if tyB "str" (.str (sT w)) = true then startsG (.str (sT w)) [.str "-"] else .stuck) = _
    rw [if_pos (show tyB "str" (.str (sT w)) = true from rfl), lit_minus]
    show Res.ok (D.bl (Txt.startswith (sT w) (sT [45]))) = _
    rw [starts1]; rfl
  have st0 : (setD 1 (methD "str" startsG (slotD 0) (consD (fun _ => .ok (.str "-")) (fun _ => .ok [])))) [some (.arg (.str (sT w))), none, none, none, none, none, none] = .nxt [some (.arg (.str (sT w))), some (.val (.bl (ngB w))), none, none, none, none, none] := by
    simp only [ap_set, sw, on_ok]; rfl
  have st1 : (setD 2 (ifD (bindT (slotD 1) truthD) (sliceF (slotD 0) (partF (fun _ => .ok (.int 1))) noPart) (slotD 0))) [some (.arg (.str (sT w))), some (.val (.bl (ngB w))), none, none, none, none, none] = .nxt [some (.arg (.str (sT w))), some (.val (.bl (ngB w))), some (.val (.str (sT (unS w)))), none, none, none, none] := by
    cases hn : ngB w with
    | true => push_cast [cut_un hn hl]
    | false => rw [un_of hn]; push_cast [DL.ap_seq]
  have sp' : methD "str" splitG (slotD 2) (consD (fun _ => .ok (.str "/")) (fun _ => .ok [])) [some (.arg (.str (sT w))), some (.val (.bl (ngB w))), some (.val (.str (sT (unS w)))), none, none, none, none] = .ok (.lst (txts ps)) := by
    show (if tyB "str" (.str (sT (unS w))) = true then splitG (.str (sT (unS w))) [.str "/"] else .stuck) = _
    rw [if_pos (show tyB "str" (.str (sT (unS w))) = true from rfl), sp]
  have st2 : (setD 3 (methD "str" splitG (slotD 2) (consD (fun _ => .ok (.str "/")) (fun _ => .ok [])))) [some (.arg (.str (sT w))), some (.val (.bl (ngB w))), some (.val (.str (sT (unS w)))), none, none, none, none] = .nxt [some (.arg (.str (sT w))), some (.val (.bl (ngB w))), some (.val (.str (sT (unS w)))), some (.val (.lst (txts ps))), none, none, none] := by
    simp only [ap_set, sp', on_ok]; rfl
  obtain ⟨fd, ef⟩ := fstr_ok hw hl
  have ra : ∀ δ : DS, slotD 0 δ = .ok (.str (sT w)) → raiseD "NoText" (consD (fstrF "this is no fraction: " (slotD 0)) (fun _ => .ok [])) δ = .err ⟨"NoText"⟩ δ := fun δ h => by
    refine ap_raise (ds := [fd]) _ _ _ ?_
    show (((slotD 0 δ).bind (fstrG "this is no fraction: ")).bind fun d => (Res.ok []).bind fun ds => Res.ok (d :: ds)) = _
    rw [h, Res.bind_ok, ef]; rfl
  have ra' := ra [some (.arg (.str (sT w))), some (.val (.bl (ngB w))), some (.val (.str (sT (unS w)))), some (.val (.lst (txts ps))), none, none, none] rfl
  have pa := w_parts p0 hp
  show outD (b_fraction_read [some (.arg (.str (sT w))), none, none, none, none, none, none]) = _
  unfold b_fraction_read
  rw [ap_seq, st0, sq_nxt, ap_seq, st1, sq_nxt, ap_seq, st2, sq_nxt]
  match ps, p0, hp with
  | [a], _, hp =>
    dsimp only at pa
    rw [show txts [a] = [.str (sT a)] from rfl] at *
    cases fa : fgB a with
    | false =>
      have er : rd (ngB w) [a] = none := by show (if fgB a = true then _ else _) = _; rw [fa]; rfl
      rw [fa] at pa
      push_cast [pa, ra', er, orErr]
    | true =>
      have er : rd (ngB w) [a] = some (num [way (ngB w) * (val a : Int)] 1) := by show (if fgB a = true then _ else _) = _; rw [fa]; rfl
      rw [fa] at pa
      have ia := int_val fa
      have cmn := w_common (val a : Int) 1
      have c1 : cm (val a : Int) 1 = 1 := by unfold cm; simp
      rw [c1] at cmn
      have fd : ∀ x : Int, fdivD (.int x) (.int 1) = .ok (.int x) := fun x => by
        rw [fdivI (show (1 : Int) ≠ 0 by decide) (Nat.lt_of_lt_of_le (show 1 < 2 ^ 1 by decide) (Nat.pow_le_pow_right (by decide) (by decide)))]
        rw [Int.fdiv_one]
      cases hn : ngB w with
      | true =>
        rw [hn] at er
        have wy : way true * (val a : Int) = -(val a : Int) := by show (-1 : Int) * _ = _; omega
        rw [wy] at er
        push_cast [pa, er, orErr, ia, cmn, fd]
        rfl
      | false =>
        rw [hn] at er
        have wy : way false * (val a : Int) = (val a : Int) := Int.one_mul _
        rw [wy] at er
        push_cast [pa, er, orErr, ia, cmn, fd]
        rfl
  | [a, b], _, hp =>
    dsimp only at pa
    rw [show txts [a, b] = [.str (sT a), .str (sT b)] from rfl] at *
    by_cases fab : fgB a = true ∧ fgB b = true ∧ val b ≠ 0
    · have er : rd (ngB w) [a, b] = some (num [way (ngB w) * Int.fdiv (val a : Int) (cm (val a) (val b))] (Int.fdiv (val b : Int) (cm (val a) (val b)))) := if_pos fab
      obtain ⟨fa, fb, bz⟩ := fab
      have pb : plB b = true := by
        unfold plB
        rw [fb, _root_.decide_eq_false (fun z => bz ((val_zero fb).mpr z))]; rfl
      rw [fa, pb] at pa
      have ia := int_val fa
      have ib := int_val fb
      have cmn := w_common (val a : Int) (val b : Int)
      have fd := fun x : Int => fdivI (a := x) (Int.ne_of_gt (cm_pos (a := val a) bz)) (cm_bd (a := val a) bz (val_bd fb))
      have nf := neg_fdiv (a := val a) bz
      cases hn : ngB w with
      | true =>
        rw [hn] at er
        rw [show way true = -1 from rfl, ← nf] at er
        push_cast [pa, Bool.and_self, er, orErr, ia, ib, cmn, fd]
        rfl
      | false =>
        rw [hn] at er
        rw [show way false = 1 from rfl, Int.one_mul] at er
        push_cast [pa, Bool.and_self, er, orErr, ia, ib, cmn, fd]
        rfl
    · have er : rd (ngB w) [a, b] = none := if_neg fab
      have pz : (fgB a && plB b) = false := by
        cases ha : fgB a with
        | false => rfl
        | true =>
          cases hb : plB b with
          | false => rfl
          | true =>
            unfold plB at hb
            rw [Bool.and_eq_true] at hb
            refine absurd ⟨ha, hb.1, fun z => ?_⟩ fab
            have := (val_zero hb.1).mp z
            rw [_root_.decide_eq_true this] at hb
            exact absurd hb.2 (by decide)
      rw [pz] at pa
      push_cast [pa, ra', er, orErr]
  | a :: b :: c :: r, _, hp =>
    have er : rd (ngB w) (a :: b :: c :: r) = none := rfl
    push_cast [pa, ra', er, orErr]
theorem fm_bd (c : Int) {k : Int} (h : 0 < k) : 0 ≤ Int.fmod c k ∧ Int.fmod c k < k := ⟨Int.fmod_nonneg_of_pos c h, Int.fmod_lt_of_pos c h⟩
theorem fdS {c k : Int} (h0 : 0 < k) (h : k < 100000) : fdivD (.int c) (.int k) = .ok (.int (Int.fdiv c k)) := by
  have h1 : k.natAbs < 100000 := by omega
  have h2 : k.natAbs < 2 ^ 17 := Nat.lt_of_lt_of_le h1 (by decide)
  exact fdivI (by omega) (Nat.lt_of_lt_of_le h2 (Nat.pow_le_pow_right (by decide) (by decide)))
theorem str_ok {n : Nat} (h : n < 10 ^ 60) : strG [.int (n : Int)] = .ok (.str (sT (dg n))) := by
  have hl : ((n : Int).natAbs).log2 < 1920 := by
    rw [Int.natAbs_natCast]
    by_cases c : n = 0
    · rw [c]; decide
    · have : (10 : Nat) ^ 60 < 2 ^ 200 := by decide
      exact Nat.lt_of_lt_of_le ((Nat.log2_lt c).mpr (Nat.lt_trans h this)) (by decide)
  show (if ((n : Int).natAbs).log2 < 1920 then Res.ok (D.str (Str.ofString (toString ((n : Nat) : Int)))) else .stuck) = _
  rw [if_pos hl, str_num]
noncomputable def Tx (n : Nat) (w : List Nat) : Prop := Pl w ∧ w.length ≤ n
theorem Tx.mono {n m : Nat} {w : List Nat} (h : Tx n w) (e : n ≤ m) : Tx m w := ⟨h.1, Nat.le_trans h.2 e⟩
theorem Tx.app {n m : Nat} {a b : List Nat} (h : Tx n a) (g : Tx m b) : Tx (n + m) (a ++ b) :=
  ⟨fun c hc => (List.mem_append.mp hc).elim (h.1 c) (g.1 c), by rw [List.length_append]; exact Nat.add_le_add h.2 g.2⟩
theorem add_sT {a b : List Nat} (h : a.length + b.length ≤ 1000) : addD (.str (sT a)) (.str (sT b)) = .ok (.str (sT (a ++ b))) := by
  show (if (sT a).length + (sT b).length ≤ sizeLine then Res.ok (D.str (sT a ++ sT b)) else .stuck) = _
  rw [sT_length, sT_length, if_pos (Nat.le_trans h (by decide)), str_app]
theorem tx_dg {n k : Nat} (hk : 1 ≤ k) (h : n < 10 ^ k) : Tx k (dg n) := ⟨fun c hc => by have := dg_digit n c hc; omega, dg_len n k hk h⟩
theorem str_fm (c : Int) {m : Int} (h0 : 0 < m) (h : m ≤ 1000) : ∃ w, strG [.int (Int.fmod c m)] = .ok (.str (sT w)) ∧ Tx 3 w := by
  obtain ⟨a, b⟩ := fm_bd c h0
  obtain ⟨n, hn⟩ := Int.eq_ofNat_of_zero_le a
  have h1 : n < 1000 := by omega
  refine ⟨dg n, ?_, tx_dg (by decide) (by simpa using h1)⟩
  have hn' : Int.fmod c m = (n : Int) := hn
  rw [hn']
  exact str_ok (Nat.lt_trans h1 (by decide))
theorem ix_str {l : List Nat} (hl : l.length ≤ 1000) {i : Int} (h0 : 0 ≤ i) (h1 : i < (l.length : Int)) : ∃ c ∈ l, ixD (.str (sT l)) (.int i) = .ok (.str (sT [c])) := by
  obtain ⟨k, rfl⟩ := Int.eq_ofNat_of_zero_le h0
  have hk : k < l.length := by omega
  refine ⟨l[k], List.getElem_mem hk, ?_⟩
  have e : atI (sT l).cps.toList (k : Int) = some l[k] := by
    rw [slice_all]
    unfold atI ixN
    simp [hk]
  show (if (sT l).length ≤ sizeLine then (match atI (sT l).cps.toList (k : Int) with | some c => Res.ok (D.str ⟨#[c]⟩) | none => .stuck) else .stuck) = _
  rw [if_pos (by rw [sT_length]; exact Nat.le_trans hl (by decide)), e]
theorem sT_of (x : Str) : x = sT x.cps.toList := sT_ext rfl
theorem rep_sT (c k : Nat) : (⟨(List.replicate k (sT [c]).cps).foldl (· ++ ·) #[]⟩ : Str) = sT (List.replicate k c) := by
  refine sT_ext ?_
  have key : ∀ (k : Nat) (a : Array Nat), ((List.replicate k (sT [c]).cps).foldl (· ++ ·) a).toList = a.toList ++ List.replicate k c := by
    intro k
    induction k with
    | zero => intro a; simp
    | succ k ih =>
      intro a
      rw [List.replicate_succ, List.foldl_cons, ih, List.replicate_succ]
      simp
  have := key k #[]
  simpa using this
theorem mul_str {c : Nat} (hc : c < 128) {k : Int} (h0 : 2 ≤ k) (h1 : k ≤ 70) : ∃ w, mulS (.str (sT [c])) (.int k) = .ok (.str (sT w)) ∧ Tx 70 w := by
  refine ⟨List.replicate k.toNat c, ?_, fun d hd => ?_, ?_⟩
  · show (if 2 ≤ k ∧ k ≤ 1000 ∧ 1 ≤ (sT [c]).length ∧ (sT [c]).length ≤ 1000 then Res.ok (D.str ⟨(List.replicate k.toNat (sT [c]).cps).foldl (· ++ ·) #[]⟩) else .stuck) = _
    rw [if_pos ⟨h0, by omega, by rw [sT_length]; simp, by rw [sT_length]; simp⟩, rep_sT]
  · rw [List.eq_of_mem_replicate hd]; exact hc
  · rw [List.length_replicate]; omega
theorem w_sign_by (x : Int) : ∃ c, c < 128 ∧ F_law_sign_by [.int x] = .ok (.str (sT [c])) := by
  have m2 : modD (.int x) (.int 2) = _ := modI (show (2 : Int) ≠ 0 by decide)
  have f2 : fdivD (.int x) (.int 2) = _ := fdS (by decide) (by decide)
  have key : ∀ (z : Str), (∀ c ∈ z.cps.toList, c < 128) → 0 < z.cps.toList.length → z.cps.toList.length ≤ 100 → ∃ c, c < 128 ∧ (two (slotD 1) (two (two (slotD 0) (fun _ => .ok (.int 2)) fdivD) (bindF (consD (slotD 1) (fun _ => .ok [])) lenG) modD) ixD) [some (.arg (.int x)), some (.val (.str z))] = .ok (.str (sT [c])) := by
    intro z h1 h2 h3
    have mo : modD (.int (Int.fdiv x 2)) (.int (z.cps.toList.length : Int)) = _ := modI (by omega)
    obtain ⟨a, b⟩ := fm_bd (Int.fdiv x 2) (show (0 : Int) < (z.cps.toList.length : Int) by omega)
    obtain ⟨c, hc, ei⟩ := ix_str (l := z.cps.toList) (by omega) a b
    have ln := len_sT (l := z.cps.toList) (by omega)
    refine ⟨c, h1 c hc, ?_⟩
    rw [← sT_of z] at ei ln
    push_cast [f2, ln, mo, ei]
  have ad : addD (.str " !\"#$&'()*+,-./0123456789:;<=>?@ABCDEFGHIJKLMNOPQRSTUVWXYZ[\\]^_") (.str "abcdefghijklmnopqrstuvwxyz{|}~") = .ok (.str " !\"#$&'()*+,-./0123456789:;<=>?@ABCDEFGHIJKLMNOPQRSTUVWXYZ[\\]^_abcdefghijklmnopqrstuvwxyz{|}~") := by
    have gen : ∀ x y : Str, addD (.str x) (.str y) = if x.length + y.length ≤ sizeLine then .ok (.str (x ++ y)) else .stuck := fun _ _ => rfl
    rw [gen, if_pos (by decide)]
    rfl
  show ∃ c, c < 128 ∧ outD (b_law_sign_by [some (.arg (.int x)), none]) = _
  unfold b_law_sign_by
  by_cases h : Int.fmod x 2 = 0
  · obtain ⟨c, hc, e⟩ := key "-/0123456789 " (by decide) (by decide) (by decide)
    refine ⟨c, hc, ?_⟩
    rw [h] at m2
    rw [ap_two, ap_two, ap_two] at e
    simp only [ap_seq, sq_nxt, sq_ret, sq_err, ap_set, on_ok, on_err, ont_ok, onl_ok, ap_if, ap_two, ap_bF, ap_bT, ap_cons, ap_tup, ap_lst, ap_ret, ap_neg, neg_ok, ap_notT, ap_andT, ap_orT, ap_orV, ap_ifD, ap_forR, ap_slice, ap_part, ap_noPart, part_int, out_ret, out_err, cmp_ok, add_ok, bool_ok, truth_bl, abs_ok, len_lst, vw_val, vw_arg, eqI, neI, bnd_ok, mulE_i, sl0, st0, sl1, st1, sl2, st2, sl3, st3, sl4, st4, sl5, st5, sl6, st6, tup1, tup2, lst2, lst3, lst5, ix_lst0, ix_lst1, ix_lst2, ↓reduceIte, decide_true, decide_false, Bool.not_true, Bool.not_false, Bool.false_eq_true, Int.reduceEq, Int.reduceNe, Int.reduceLT, Int.reduceLE, Nat.reduceAdd, cN1, cN2, List.length_cons, List.length_nil] at e
    push_cast [ad, m2, e]
  · obtain ⟨c, hc, e⟩ := key " !\"#$&'()*+,-./0123456789:;<=>?@ABCDEFGHIJKLMNOPQRSTUVWXYZ[\\]^_abcdefghijklmnopqrstuvwxyz{|}~" (by decide) (by decide) (by decide)
    refine ⟨c, hc, ?_⟩
    simp only [ap_seq, sq_nxt, sq_ret, sq_err, ap_set, on_ok, on_err, ont_ok, onl_ok, ap_if, ap_two, ap_bF, ap_bT, ap_cons, ap_tup, ap_lst, ap_ret, ap_neg, neg_ok, ap_notT, ap_andT, ap_orT, ap_orV, ap_ifD, ap_forR, ap_slice, ap_part, ap_noPart, part_int, out_ret, out_err, cmp_ok, add_ok, bool_ok, truth_bl, abs_ok, len_lst, vw_val, vw_arg, eqI, neI, bnd_ok, mulE_i, sl0, st0, sl1, st1, sl2, st2, sl3, st3, sl4, st4, sl5, st5, sl6, st6, tup1, tup2, lst2, lst3, lst5, ix_lst0, ix_lst1, ix_lst2, ↓reduceIte, decide_true, decide_false, Bool.not_true, Bool.not_false, Bool.false_eq_true, Int.reduceEq, Int.reduceNe, Int.reduceLT, Int.reduceLE, Nat.reduceAdd, cN1, cN2, List.length_cons, List.length_nil] at e
    push_cast [ad, m2, h, e]
noncomputable def oddL : List Str := ["", "-", "/", "1/", "/2", "-/2", "0/0", "1/0", "1/-2", "--1", "+1", " 1", "1 ", "1 /2", "00", "01", "1/02", "1/2/3", "1.5", "1e3", "-01", "1//2", "a", "1_0"]
theorem w_odd (x : Int) : ∃ w, F_law_odd [.int x] = .ok (.str (sT w)) ∧ Tx 10 w := by
  have m : modD (.int x) (.int 24) = _ := modI (show (24 : Int) ≠ 0 by decide)
  obtain ⟨a, b⟩ := fm_bd x (show (0 : Int) < 24 by decide)
  obtain ⟨k, hk⟩ := Int.eq_ofNat_of_zero_le a
  have hk' : Int.fmod x 24 = (k : Int) := hk
  have k24 : k < oddL.length := by show k < 24; omega
  have all : ∀ s ∈ oddL, (∀ c ∈ s.cps.toList, c < 128) ∧ s.cps.toList.length ≤ 10 := by decide
  have ix := ix_lst (oddL.map D.str) k (.str oddL[k]) (by rw [List.getElem?_map, List.getElem?_eq_getElem k24]; rfl)
  have q := all oddL[k] (List.getElem_mem k24)
  refine ⟨oddL[k].cps.toList, ?_, q.1, q.2⟩
  rw [← sT_of]
  have s0 : (setD 1 (lstF (consD (fun _ => .ok (.str "")) (consD (fun _ => .ok (.str "-")) (consD (fun _ => .ok (.str "/")) (consD (fun _ => .ok (.str "1/")) (consD (fun _ => .ok (.str "/2")) (consD (fun _ => .ok (.str "-/2")) (consD (fun _ => .ok (.str "0/0")) (consD (fun _ => .ok (.str "1/0")) (consD (fun _ => .ok (.str "1/-2")) (consD (fun _ => .ok (.str "--1")) (consD (fun _ => .ok (.str "+1")) (consD (fun _ => .ok (.str " 1")) (consD (fun _ => .ok (.str "1 ")) (consD (fun _ => .ok (.str "1 /2")) (consD (fun _ => .ok (.str "00")) (consD (fun _ => .ok (.str "01")) (consD (fun _ => .ok (.str "1/02")) (fun _ => .ok [])))))))))))))))))))) [some (.arg (.int x)), none] = .nxt [some (.arg (.int x)), some (.val (.lst ((oddL.take 17).map .str)))] := rfl
  have s1 : (setD 1 (two (slotD 1) (lstF (consD (fun _ => .ok (.str "1/2/3")) (consD (fun _ => .ok (.str "1.5")) (consD (fun _ => .ok (.str "1e3")) (consD (fun _ => .ok (.str "-01")) (consD (fun _ => .ok (.str "1//2")) (consD (fun _ => .ok (.str "a")) (consD (fun _ => .ok (.str "1_0")) (fun _ => .ok []))))))))) addD)) [some (.arg (.int x)), some (.val (.lst ((oddL.take 17).map .str)))] = .nxt [some (.arg (.int x)), some (.val (.lst (oddL.map .str)))] := rfl
  show outD (b_law_odd [some (.arg (.int x)), none]) = _
  unfold b_law_odd
  rw [ap_seq, s0, sq_nxt, ap_seq, s1, sq_nxt]
  rw [hk'] at m
  push_cast [m, ix]
theorem int_bl (b : Bool) : intG [.bl b] = .ok (.int (if b then 1 else 0)) := Eq.trans rfl rfl
theorem lit7 : ("7" : Str) = sT [55] := rfl
theorem lit3 : ("3" : Str) = sT [51] := rfl
theorem tx1 {c : Nat} (h : c < 128) : Tx 1 [c] := ⟨fun d hd => by rw [List.mem_singleton.mp hd]; exact h, by simp⟩
theorem w_text (c o t : Int) : ∃ w, F_law_text [.int c, .int o, .int t] = .ok (.str (sT w)) ∧ Tx 500 w := by
  have mx := fun (k : Nat) (m : Int) (hk : k < 10) (hm : 0 < m) => w_mixed c k m hk hm
  have w0 : F_law_mixed [.int c, .int 0, .int 6] = _ := mx 0 6 (by decide) (by decide)
  have w1 : F_law_mixed [.int c, .int 1, .int 2] = _ := mx 1 2 (by decide) (by decide)
  have w2 : F_law_mixed [.int c, .int 2, .int 5] = _ := mx 2 5 (by decide) (by decide)
  have w3 : F_law_mixed [.int c, .int 3, .int 3] = _ := mx 3 3 (by decide) (by decide)
  have m3 : modD (.int t) (.int 3) = _ := modI (show (3 : Int) ≠ 0 by decide)
  have m8 : modD (.int t) (.int 8) = _ := modI (show (8 : Int) ≠ 0 by decide)
  have m5 : modD (.int t) (.int 5) = _ := modI (show (5 : Int) ≠ 0 by decide)
  have f3 : fdivD (.int t) (.int 3) = _ := fdS (by decide) (by decide)
  have f7 : fdivD (.int t) (.int 7) = _ := fdS (by decide) (by decide)
  have m100 : modD (.int (Int.fdiv t 3)) (.int 100) = _ := modI (show (100 : Int) ≠ 0 by decide)
  obtain ⟨y, ey⟩ : ∃ y, y = mix c 0 6 := ⟨_, rfl⟩
  rw [← ey] at w0
  show ∃ w, outD (b_law_text [some (.arg (.int c)), some (.arg (.int o)), some (.arg (.int t)), none, none, none]) = _ ∧ _
  unfold b_law_text
  have s0 : (setD 3 (bindF (consD (slotD 0) (consD (fun _ => .ok (.int 0)) (consD (fun _ => .ok (.int 6)) (fun _ => .ok [])))) F_law_mixed)) [some (.arg (.int c)), some (.arg (.int o)), some (.arg (.int t)), none, none, none] = .nxt [some (.arg (.int c)), some (.arg (.int o)), some (.arg (.int t)), some (.val (.int y)), none, none] := by
    push_cast [w0]
  rw [ap_seq, s0, sq_nxt]
  by_cases y0 : y = 0
  · obtain ⟨w, ew, hw⟩ := w_odd o
    exact ⟨w, by push_cast [y0, ew], hw.mono (by decide)⟩
  have s1 : (ifS (bindT (two (slotD 3) (fun _ => .ok (.int 0)) eqD) boolD) (retD (bindF (consD (slotD 1) (fun _ => .ok [])) F_law_odd)) Out.nxt) [some (.arg (.int c)), some (.arg (.int o)), some (.arg (.int t)), some (.val (.int y)), none, none] = .nxt [some (.arg (.int c)), some (.arg (.int o)), some (.arg (.int t)), some (.val (.int y)), none, none] := by
    push_cast [y0]
  have lim : ∃ m : Int, 0 < m ∧ m ≤ 1000 ∧ ixD (.lst [.int 10, .int 100, .int 1000]) (.int (Int.fmod t 3)) = .ok (.int m) := by
    have b3 := fm_bd t (show (0 : Int) < 3 by decide)
    generalize Int.fmod t 3 = k at *
    have : k = 0 ∨ k = 1 ∨ k = 2 := by omega
    rcases this with z | z | z <;> subst z
    · exact ⟨10, by decide, by decide, ix_lst0 _ _⟩
    · exact ⟨100, by decide, by decide, ix_lst1 _ _ _⟩
    · exact ⟨1000, by decide, by decide, ix_lst2 _ _ _ _⟩
  obtain ⟨m, m0, m1, im⟩ := lim
  have mm : modD (.int o) (.int m) = _ := modI (show m ≠ 0 by omega)
  obtain ⟨t2, e2, h2⟩ := str_fm o m0 m1
  have s2 : (setD 4 (bindF (consD (two (slotD 1) (two (lstF (consD (fun _ => .ok (.int 10)) (consD (fun _ => .ok (.int 100)) (consD (fun _ => .ok (.int 1000)) (fun _ => .ok []))))) (two (slotD 2) (fun _ => .ok (.int 3)) modD) ixD) modD) (fun _ => .ok [])) strG)) [some (.arg (.int c)), some (.arg (.int o)), some (.arg (.int t)), some (.val (.int y)), none, none] = .nxt [some (.arg (.int c)), some (.arg (.int o)), some (.arg (.int t)), some (.val (.int y)), some (.val (.str (sT t2))), none] := by
    push_cast [m3, im, mm, e2]
  have b8 := fm_bd t (show (0 : Int) < 8 by decide)
  obtain ⟨sv, esv, hsv⟩ := mul_str (c := 55) (by decide) (k := 55 + Int.fmod t 8) (by omega) (by omega)
  have s3 : ∃ t3, Tx 70 t3 ∧ (ifS (bindT (two (slotD 3) (fun _ => .ok (.int 1)) eqD) boolD) (setD 4 (two (fun _ => .ok (.str "7")) (two (fun _ => .ok (.int 55)) (two (slotD 2) (fun _ => .ok (.int 8)) modD) addD) mulS)) Out.nxt) [some (.arg (.int c)), some (.arg (.int o)), some (.arg (.int t)), some (.val (.int y)), some (.val (.str (sT t2))), none] = .nxt [some (.arg (.int c)), some (.arg (.int o)), some (.arg (.int t)), some (.val (.int y)), some (.val (.str (sT t3))), none] := by
    by_cases q : y = 1
    · exact ⟨sv, hsv, by push_cast [q, m8, lit7, esv]⟩
    · exact ⟨t2, h2.mono (by decide), by push_cast [q]⟩
  obtain ⟨t3, h3, s3⟩ := s3
  obtain ⟨bt, ebt, hbt⟩ := str_fm (Int.fdiv t 3) (m := 100) (by decide) (by decide)
  have s4 : ∃ t4, Tx 75 t4 ∧ (ifS (bindT (two (bindF (consD (slotD 0) (consD (fun _ => .ok (.int 1)) (consD (fun _ => .ok (.int 2)) (fun _ => .ok [])))) F_law_mixed) (fun _ => .ok (.int 0)) eqD) boolD) (setD 4 (two (two (two (slotD 4) (fun _ => .ok (.str "/")) addD) (two (lstF (consD (fun _ => .ok (.str "")) (consD (fun _ => .ok (.str "0")) (fun _ => .ok [])))) (bindF (consD (two (bindF (consD (slotD 0) (consD (fun _ => .ok (.int 2)) (consD (fun _ => .ok (.int 5)) (fun _ => .ok [])))) F_law_mixed) (fun _ => .ok (.int 0)) eqD) (fun _ => .ok [])) intG) ixD) addD) (bindF (consD (two (two (slotD 2) (fun _ => .ok (.int 3)) fdivD) (fun _ => .ok (.int 100)) modD) (fun _ => .ok [])) strG) addD)) Out.nxt) [some (.arg (.int c)), some (.arg (.int o)), some (.arg (.int t)), some (.val (.int y)), some (.val (.str (sT t3))), none] = .nxt [some (.arg (.int c)), some (.arg (.int o)), some (.arg (.int t)), some (.val (.int y)), some (.val (.str (sT t4))), none] := by
    have a1 := add_sT (a := t3) (b := [47]) (by have := h3.2; simp; omega)
    have h31 := h3.app (tx1 (c := 47) (by decide))
    by_cases q : mix c 1 2 = 0
    · by_cases q2 : mix c 2 5 = 0
      · have a2 := add_sT (a := t3 ++ [47]) (b := [48]) (by have := h31.2; simp at this ⊢; omega)
        have h32 := h31.app (tx1 (c := 48) (by decide))
        have a3 := add_sT (a := t3 ++ [47] ++ [48]) (b := bt) (by have := h32.2; have := hbt.2; omega)
        exact ⟨_, (h32.app hbt).mono (by decide), by push_cast [w1, q, lit_slash, a1, w2, q2, int_bl, lit_zero, lit_none, a2, f3, m100, ebt, a3]⟩
      · have a2 := add_sT (a := t3 ++ [47]) (b := []) (by have := h31.2; simp at this ⊢; omega)
        have a3 := add_sT (a := t3 ++ [47] ++ []) (b := bt) (by rw [List.append_nil]; have := h31.2; have := hbt.2; omega)
        refine ⟨t3 ++ [47] ++ [] ++ bt, by rw [List.append_nil]; exact (h31.app hbt).mono (by decide), ?_⟩
        push_cast [w1, q, lit_slash, a1, w2, q2, int_bl, lit_zero, lit_none, a2, f3, m100, ebt, a3]
    · exact ⟨t3, h3.mono (by decide), by push_cast [w1, q]⟩
  obtain ⟨t4, h4, s4⟩ := s4
  have b5 := fm_bd t (show (0 : Int) < 5 by decide)
  obtain ⟨th, eth, hth⟩ := mul_str (c := 51) (by decide) (k := 58 + Int.fmod t 5) (by omega) (by omega)
  have s5 : ∃ t5, Tx 146 t5 ∧ (ifS (bindT (two (slotD 3) (fun _ => .ok (.int 2)) eqD) boolD) (setD 4 (two (two (slotD 4) (fun _ => .ok (.str "/")) addD) (two (fun _ => .ok (.str "3")) (two (fun _ => .ok (.int 58)) (two (slotD 2) (fun _ => .ok (.int 5)) modD) addD) mulS) addD)) Out.nxt) [some (.arg (.int c)), some (.arg (.int o)), some (.arg (.int t)), some (.val (.int y)), some (.val (.str (sT t4))), none] = .nxt [some (.arg (.int c)), some (.arg (.int o)), some (.arg (.int t)), some (.val (.int y)), some (.val (.str (sT t5))), none] := by
    by_cases q : y = 2
    · have h41 := h4.app (tx1 (c := 47) (by decide))
      have a1 := add_sT (a := t4) (b := [47]) (by have := h4.2; simp; omega)
      have a2 := add_sT (a := t4 ++ [47]) (b := th) (by have := h41.2; have := hth.2; omega)
      exact ⟨_, (h41.app hth).mono (by decide), by push_cast [q, lit_slash, a1, m5, lit3, eth, a2]⟩
    · exact ⟨t4, h4.mono (by decide), by push_cast [q]⟩
  obtain ⟨t5, h5, s5⟩ := s5
  have s6 : ∃ t6, Tx 147 t6 ∧ (ifS (bindT (two (bindF (consD (slotD 0) (consD (fun _ => .ok (.int 3)) (consD (fun _ => .ok (.int 3)) (fun _ => .ok [])))) F_law_mixed) (fun _ => .ok (.int 0)) eqD) boolD) (setD 4 (two (fun _ => .ok (.str "-")) (slotD 4) addD)) Out.nxt) [some (.arg (.int c)), some (.arg (.int o)), some (.arg (.int t)), some (.val (.int y)), some (.val (.str (sT t5))), none] = .nxt [some (.arg (.int c)), some (.arg (.int o)), some (.arg (.int t)), some (.val (.int y)), some (.val (.str (sT t6))), none] := by
    by_cases q : mix c 3 3 = 0
    · have a1 := add_sT (a := [45]) (b := t5) (by have := h5.2; simp; omega)
      exact ⟨_, ((tx1 (c := 45) (by decide)).app h5).mono (by decide), by push_cast [w3, q, lit_minus, a1]⟩
    · exact ⟨t5, h5.mono (by decide), by push_cast [w3, q]⟩
  obtain ⟨t6, h6, s6⟩ := s6
  have l6 := h6.2
  have ln := len_sT (l := t6) (by omega)
  have w4 : F_law_mixed [.int c, .int 4, .int ((t6.length : Int) + 1)] = _ := mx 4 ((t6.length : Int) + 1) (by decide) (by omega)
  have b4 := mix_bd c 4 (m := (t6.length : Int) + 1) (by omega)
  obtain ⟨k, hk⟩ := Int.eq_ofNat_of_zero_le b4.1
  have hk' : mix c 4 ((t6.length : Int) + 1) = (k : Int) := hk
  rw [hk'] at w4
  have kl : k ≤ t6.length := by omega
  have s7 : (setD 5 (bindF (consD (slotD 0) (consD (fun _ => .ok (.int 4)) (consD (two (bindF (consD (slotD 4) (fun _ => .ok [])) lenG) (fun _ => .ok (.int 1)) addD) (fun _ => .ok [])))) F_law_mixed)) [some (.arg (.int c)), some (.arg (.int o)), some (.arg (.int t)), some (.val (.int y)), some (.val (.str (sT t6))), none] = .nxt [some (.arg (.int c)), some (.arg (.int o)), some (.arg (.int t)), some (.val (.int y)), some (.val (.str (sT t6))), some (.val (.int (k : Int)))] := by
    push_cast [ln, w4]
  have gen : ∀ lo hi : Option Int, cutD (.str (sT t6)) lo hi = .ok (.str (Txt.slice (sT t6) lo hi)) := fun lo hi => by
    show (if (sT t6).length ≤ sizeLine then Res.ok (D.str (Txt.slice (sT t6) lo hi)) else .stuck) = _
    rw [if_pos (by rw [sT_length]; have : 1000 ≤ sizeLine := by decide
                   omega)]
  have c1 := gen none (some (k : Int))
  rw [slice_to kl] at c1
  have c2 := gen (some (k : Int)) none
  rw [slice_from kl] at c2
  obtain ⟨sg, hsg, esg⟩ := w_sign_by (Int.fdiv t 7)
  have tk : Tx 147 (t6.take k) := ⟨fun d hd => h6.1 d (List.mem_of_mem_take hd), by rw [List.length_take]; omega⟩
  have td : ∀ j, Tx 147 (t6.drop j) := fun j => ⟨fun d hd => h6.1 d (List.mem_of_mem_drop hd), by rw [List.length_drop]; omega⟩
  have c3 : ∃ v, Tx 147 v ∧ cutD (.str (sT t6)) (some ((k : Int) + 1)) none = .ok (.str (sT v)) := by
    have e1 : (k : Int) + 1 = ((k + 1 : Nat) : Int) := by omega
    rw [gen, e1]
    by_cases q : k + 1 ≤ t6.length
    · exact ⟨_, td (k + 1), by rw [slice_from q]⟩
    · have : k = t6.length := by omega
      subst this
      exact ⟨[], ⟨fun d hd => (by cases hd), by simp⟩, by rw [slice_past]⟩
  obtain ⟨v, hv, c3⟩ := c3
  have tks := tk.app (tx1 hsg)
  have a1 := add_sT (a := t6.take k) (b := [sg]) (by have := tk.2; simp; omega)
  have a2 := add_sT (a := t6.take k ++ [sg]) (b := t6.drop k) (by have := tks.2; have := (td k).2; omega)
  have a3 := add_sT (a := t6.take k ++ [sg]) (b := v) (by have := tks.2; have := hv.2; omega)
  rw [ap_seq, s1, sq_nxt, ap_seq, s2, sq_nxt, ap_seq, s3, sq_nxt, ap_seq, s4, sq_nxt, ap_seq, s5, sq_nxt, ap_seq, s6, sq_nxt, ap_seq, s7, sq_nxt]
  by_cases q3 : y = 3
  · exact ⟨_, by push_cast [q3, c1, f7, esg, a1, c2, a2], (tks.app (td k)).mono (by decide)⟩
  · by_cases q4 : y = 4
    · exact ⟨_, by push_cast [q4, c1, f7, esg, a1, c3, a3], (tks.app hv).mono (by decide)⟩
    · exact ⟨t6, by push_cast [q3, q4], h6.mono (by decide)⟩
theorem for_step {t : TGD} {b : DS → Out} {d : D} {ds : List D} {δ δ1 δ2 : DS} (h1 : t d δ = some δ1) (h2 : b δ1 = .nxt δ2) : forD t b (d :: ds) δ = forD t b ds δ2 := by
  rw [forD, h1]; dsimp only; rw [h2]
theorem rd_num {neg : Bool} {ps : List (List Nat)} {d : D} (h : rd neg ps = some d) : ∃ x b, d = num [x] b := by
  unfold rd at h
  split at h
  · split at h
    · injection h with h; exact ⟨_, _, h.symm⟩
    · cases h
  · split at h
    · injection h with h; exact ⟨_, _, h.symm⟩
    · cases h
  · cases h
theorem one_turn (ns : List Int) (k : Nat) (z2 z3 z4 z5 z6 : Option SV) : ∃ z2' z3' z4' z5' z6' : Option SV, (seqD (setD 2 (bindF (consD (bindF (consD (slotD 0) (consD (two (fun _ => .ok (.int 3)) (slotD 1) mulE) (fun _ => .ok []))) F_law_cell) (consD (bindF (consD (slotD 0) (consD (two (two (fun _ => .ok (.int 3)) (slotD 1) mulE) (fun _ => .ok (.int 1)) addD) (fun _ => .ok []))) F_law_cell) (consD (bindF (consD (slotD 0) (consD (two (two (fun _ => .ok (.int 3)) (slotD 1) mulE) (fun _ => .ok (.int 2)) addD) (fun _ => .ok []))) F_law_cell) (fun _ => .ok [])))) F_law_text)) (seqD (setD 3 (bindF (consD (slotD 2) (fun _ => .ok [])) F_law_due)) (seqD (setD 4 (fun _ => .ok .non)) (seqD (setD 5 (fun _ => .ok .non)) (seqD (tryD 6 sub_HallError (setD 4 (bindF (consD (slotD 2) (fun _ => .ok [])) F_fraction_read)) (setD 5 (slotD 6))) (ifS (bindT (two (slotD 3) (fun _ => .ok .non) isNoneD) boolD) (ifS (orT (notT (bindT (bindF (slotD 5) (isG is_NoText)) truthD)) (orT (notT (bindT (bindF (slotD 5) (isG is_ValueError)) truthD)) (bindT (bindF (slotD 5) (isG is_NoOver)) truthD))) (retD (fun _ => .ok (.bl false))) Out.nxt) (ifS (orT (bindT (two (slotD 5) (fun _ => .ok .non) notNoneD) boolD) (bindT (two (slotD 4) (slotD 3) neD) boolD)) (retD (fun _ => .ok (.bl false))) Out.nxt))))))) [some (.arg (.lst (ns.map .int))), some (.val (.int (k : Int))), z2, z3, z4, z5, z6] = .nxt [some (.arg (.lst (ns.map .int))), some (.val (.int (k : Int))), z2', z3', z4', z5', z6'] := by
  have mu : mulD (.int 3) (.int (k : Int)) = .ok (.int ((3 * k : Nat) : Int)) := by
    have e : ((3 * k : Nat) : Int) = 3 * (k : Int) := by omega
    rw [e]
    unfold mulD
    exact if_pos (.inr (.inl (intBits_le (show Int.natAbs 3 < 2 ^ 64 by decide))))
  have e1 : ((3 * k : Nat) : Int) + 1 = ((3 * k + 1 : Nat) : Int) := by omega
  have e2 : ((3 * k : Nat) : Int) + 2 = ((3 * k + 2 : Nat) : Int) := by omega
  have c0 := w_cell ns (3 * k)
  have c1 := w_cell ns (3 * k + 1)
  have c2 := w_cell ns (3 * k + 2)
  obtain ⟨w, ew, hw, hl⟩ := w_text (cell ns (3 * k)) (cell ns (3 * k + 1)) (cell ns (3 * k + 2))
  obtain ⟨ps, p0, es, hp, ed⟩ := w_due hw hl
  have er := w_read hw hl p0 es hp
  cases q : rd (ngB w) ps with
  | none =>
    rw [q] at ed er
    have ed' : F_law_due [.str (sT w)] = .ok .non := ed
    have er' : F_fraction_read [.str (sT w)] = .err ⟨"NoText"⟩ := er
    have fb : ∀ s3 : SV, (setD 4 (bindF (consD (slotD 2) (fun _ => .ok [])) F_fraction_read)) [some (.arg (.lst (ns.map .int))), some (.val (.int (k : Int))), some (.val (.str (sT w))), some s3, some (.val .non), some (.val .non), z6] = .err ⟨"NoText"⟩ [some (.arg (.lst (ns.map .int))), some (.val (.int (k : Int))), some (.val (.str (sT w))), some s3, some (.val .non), some (.val .non), z6] := fun s3 => by
      push_cast [er']
    have tr : (tryD 6 sub_HallError (setD 4 (bindF (consD (slotD 2) (fun _ => .ok [])) F_fraction_read)) (setD 5 (slotD 6))) [some (.arg (.lst (ns.map .int))), some (.val (.int (k : Int))), some (.val (.str (sT w))), some (.val .non), some (.val .non), some (.val .non), z6] = .nxt [some (.arg (.lst (ns.map .int))), some (.val (.int (k : Int))), some (.val (.str (sT w))), some (.val .non), some (.val .non), some (.val (.exc "NoText")), none] := by
      unfold tryD
      rw [fb]
      rfl
    have i1 : isNoneD .non .non = .ok (.bl true) := rfl
    have g1 : isG is_NoText (.exc "NoText") = .ok (.bl true) := rfl
    have g2 : isG is_ValueError (.exc "NoText") = .ok (.bl true) := rfl
    have g3 : isG is_NoOver (.exc "NoText") = .ok (.bl false) := rfl
    refine ⟨some (.val (.str (sT w))), some (.val .non), some (.val .non), some (.val (.exc "NoText")), none, ?_⟩
    push_cast [mu, c0, e1, c1, e2, c2, ew, ed', tr, i1, g1, g2, g3]
  | some d =>
    rw [q] at ed er
    obtain ⟨x, b, rfl⟩ := rd_num q
    have ed' : F_law_due [.str (sT w)] = .ok (num [x] b) := ed
    have er' : F_fraction_read [.str (sT w)] = .ok (num [x] b) := er
    have fb : ∀ s3 : SV, (setD 4 (bindF (consD (slotD 2) (fun _ => .ok [])) F_fraction_read)) [some (.arg (.lst (ns.map .int))), some (.val (.int (k : Int))), some (.val (.str (sT w))), some s3, some (.val .non), some (.val .non), z6] = .nxt [some (.arg (.lst (ns.map .int))), some (.val (.int (k : Int))), some (.val (.str (sT w))), some s3, some (.val (num [x] b)), some (.val .non), z6] := fun s3 => by
      push_cast [er']
    have tr : (tryD 6 sub_HallError (setD 4 (bindF (consD (slotD 2) (fun _ => .ok [])) F_fraction_read)) (setD 5 (slotD 6))) [some (.arg (.lst (ns.map .int))), some (.val (.int (k : Int))), some (.val (.str (sT w))), some (.val (num [x] b)), some (.val .non), some (.val .non), z6] = .nxt [some (.arg (.lst (ns.map .int))), some (.val (.int (k : Int))), some (.val (.str (sT w))), some (.val (num [x] b)), some (.val (num [x] b)), some (.val .non), z6] := by
      unfold tryD
      rw [fb]
    have i1 : isNoneD (num [x] b) .non = .ok (.bl false) := rfl
    have i2 : notNoneD .non .non = .ok (.bl false) := rfl
    have n1 : neD (num [x] b) (num [x] b) = .ok (.bl false) := by rw [ne_num]; simp
    refine ⟨some (.val (.str (sT w))), some (.val (num [x] b)), some (.val (num [x] b)), some (.val .non), z6, ?_⟩
    push_cast [mu, c0, e1, c1, e2, c2, ew, ed', tr, i1, i2, n1]
theorem loop3 (ns : List Int) : ∀ (ks : List Nat) (z1 z2 z3 z4 z5 z6 : Option SV), ∃ δ', forD (tgtN 1) (seqD (setD 2 (bindF (consD (bindF (consD (slotD 0) (consD (two (fun _ => .ok (.int 3)) (slotD 1) mulE) (fun _ => .ok []))) F_law_cell) (consD (bindF (consD (slotD 0) (consD (two (two (fun _ => .ok (.int 3)) (slotD 1) mulE) (fun _ => .ok (.int 1)) addD) (fun _ => .ok []))) F_law_cell) (consD (bindF (consD (slotD 0) (consD (two (two (fun _ => .ok (.int 3)) (slotD 1) mulE) (fun _ => .ok (.int 2)) addD) (fun _ => .ok []))) F_law_cell) (fun _ => .ok [])))) F_law_text)) (seqD (setD 3 (bindF (consD (slotD 2) (fun _ => .ok [])) F_law_due)) (seqD (setD 4 (fun _ => .ok .non)) (seqD (setD 5 (fun _ => .ok .non)) (seqD (tryD 6 sub_HallError (setD 4 (bindF (consD (slotD 2) (fun _ => .ok [])) F_fraction_read)) (setD 5 (slotD 6))) (ifS (bindT (two (slotD 3) (fun _ => .ok .non) isNoneD) boolD) (ifS (orT (notT (bindT (bindF (slotD 5) (isG is_NoText)) truthD)) (orT (notT (bindT (bindF (slotD 5) (isG is_ValueError)) truthD)) (bindT (bindF (slotD 5) (isG is_NoOver)) truthD))) (retD (fun _ => .ok (.bl false))) Out.nxt) (ifS (orT (bindT (two (slotD 5) (fun _ => .ok .non) notNoneD) boolD) (bindT (two (slotD 4) (slotD 3) neD) boolD)) (retD (fun _ => .ok (.bl false))) Out.nxt))))))) ((ks.map fun (k : Nat) => (k : Int)).map .int) [some (.arg (.lst (ns.map .int))), z1, z2, z3, z4, z5, z6] = .nxt δ'
  | [], _, _, _, _, _, _ => ⟨_, rfl⟩
  | k :: ks, z1, z2, z3, z4, z5, z6 => by
    obtain ⟨z2', z3', z4', z5', z6', e⟩ := one_turn ns k z2 z3 z4 z5 z6
    obtain ⟨δ', e'⟩ := loop3 ns ks (some (.val (.int (k : Int)))) z2' z3' z4' z5' z6'
    refine ⟨δ', ?_⟩
    exact Eq.trans (for_step (δ1 := [some (.arg (.lst (ns.map .int))), some (.val (.int (k : Int))), z2, z3, z4, z5, z6]) rfl e) e'
theorem w_law (ns : List Int) (hl63 : ns.length ≤ 63) : F_law [.lst (ns.map .int)] = .ok (.bl true) := by
  obtain ⟨δ', e⟩ := loop3 ns (List.range 3) none none none none none none
  have rg : rng1 [.int 3] = .ok (((List.range 3).map fun (k : Nat) => (k : Int)).map .int) := rng_nat 3 (by decide)
  show outD (b_law [some (.arg (.lst (ns.map .int))), none, none, none, none, none, none]) = _
  unfold b_law
  push_cast [rg, e]
theorem reps_ints {K : PySem.W.Frag} {H : Hp} : ∀ ns : List Int, Reps K H (ns.map .int) (ns.map V.int)
  | [] => .nil
  | n :: ns => .cons mkI (reps_ints ns)
end K03
set_option Elab.async false
set_option linter.all false
set_option maxRecDepth 100000
set_option maxHeartbeats 4000000
namespace K03
open PySem PySem.Spec PyProof.Rows L2 DL
theorem all_mk {l : PySem.W.OpenLaw} {w : World} {K : PySem.W.Frag} {h : Heap} {mg : Str → Option Value} {fa c_HallError c_NoText c_NoOver f_common f_is_plain f_law_cell f_law_mixed f_law_common f_law_sign_by f_law_odd f_law_figures f_are_parts f_law_text f_law_due f_fraction_read f_law : Addr} (X : K.In h) (G : h.Ns mainGlobals mg) (hfa : mg "law" = some (.ref fa))
    {t_FIGURES t_MOST_FIGURES : Tok}
    {od_common an_common od_is_plain an_is_plain od_law_cell an_law_cell od_law_mixed an_law_mixed od_law_common an_law_common od_law_sign_by an_law_sign_by od_law_odd an_law_odd od_law_figures an_law_figures od_are_parts an_are_parts od_law_text an_law_text od_law_due an_law_due od_fraction_read an_fraction_read od_law an_law : Option Addr} {sl_common sl_is_plain sl_law_cell sl_law_mixed sl_law_common sl_law_sign_by sl_law_odd sl_law_figures sl_are_parts sl_law_text sl_law_due sl_fraction_read sl_law : Array (Option Value)} {oc_common kV_common dc_common pm_common cd_common ct_common oc_is_plain kV_is_plain dc_is_plain pm_is_plain cd_is_plain ct_is_plain oc_law_cell kV_law_cell dc_law_cell pm_law_cell cd_law_cell ct_law_cell oc_law_mixed kV_law_mixed dc_law_mixed pm_law_mixed cd_law_mixed ct_law_mixed oc_law_common kV_law_common dc_law_common pm_law_common cd_law_common ct_law_common oc_law_sign_by kV_law_sign_by dc_law_sign_by pm_law_sign_by cd_law_sign_by ct_law_sign_by oc_law_odd kV_law_odd dc_law_odd pm_law_odd cd_law_odd ct_law_odd oc_law_figures kV_law_figures dc_law_figures pm_law_figures cd_law_figures ct_law_figures oc_are_parts kV_are_parts dc_are_parts pm_are_parts cd_are_parts ct_are_parts oc_law_text kV_law_text dc_law_text pm_law_text cd_law_text ct_law_text oc_law_due kV_law_due dc_law_due pm_law_due cd_law_due ct_law_due oc_fraction_read kV_fraction_read dc_fraction_read pm_fraction_read cd_fraction_read ct_fraction_read oc_law kV_law dc_law pm_law cd_law ct_law : Value}
    (n_HallError : PySem.W.nsIn K mainGlobals "HallError" = some (some (.ref c_HallError)))
    (x_HallError : PySem.W.excIn K c_HallError [.type "ValueError", .type "Exception", .type "BaseException", .type "object"] "ValueError.__new__" = true)
    (n_NoText : PySem.W.nsIn K mainGlobals "NoText" = some (some (.ref c_NoText)))
    (x_NoText : PySem.W.excIn K c_NoText [.type "ValueError", .type "Exception", .type "BaseException", .type "object"] "ValueError.__new__" = true)
    (n_NoOver : PySem.W.nsIn K mainGlobals "NoOver" = some (some (.ref c_NoOver)))
    (x_NoOver : PySem.W.excIn K c_NoOver [.type "ValueError", .type "Exception", .type "BaseException", .type "object"] "ValueError.__new__" = true)
    (n_common : PySem.W.nsIn K mainGlobals "common" = some (some (.ref f_common)))
    (l_common : K.lookup f_common = some ⟨oc_common, od_common, .func (PySem.W.fnOf "common" "common" (defArgs st_common) (defBody st_common) (defScope st_common) .none kV_common dc_common pm_common an_common cd_common ct_common), sl_common⟩)
    (c_common : PySem.W.codeIn K cd_common "common" = true)
    (k_common : PySem.W.keepIn K (.ref f_common) = true)
    (n_is_plain : PySem.W.nsIn K mainGlobals "is_plain" = some (some (.ref f_is_plain)))
    (l_is_plain : K.lookup f_is_plain = some ⟨oc_is_plain, od_is_plain, .func (PySem.W.fnOf "is_plain" "is_plain" (defArgs st_is_plain) (defBody st_is_plain) (defScope st_is_plain) .none kV_is_plain dc_is_plain pm_is_plain an_is_plain cd_is_plain ct_is_plain), sl_is_plain⟩)
    (c_is_plain : PySem.W.codeIn K cd_is_plain "is_plain" = true)
    (k_is_plain : PySem.W.keepIn K (.ref f_is_plain) = true)
    (n_law_cell : PySem.W.nsIn K mainGlobals "_law_cell" = some (some (.ref f_law_cell)))
    (l_law_cell : K.lookup f_law_cell = some ⟨oc_law_cell, od_law_cell, .func (PySem.W.fnOf "_law_cell" "_law_cell" (defArgs st_law_cell) (defBody st_law_cell) (defScope st_law_cell) .none kV_law_cell dc_law_cell pm_law_cell an_law_cell cd_law_cell ct_law_cell), sl_law_cell⟩)
    (c_law_cell : PySem.W.codeIn K cd_law_cell "_law_cell" = true)
    (k_law_cell : PySem.W.keepIn K (.ref f_law_cell) = true)
    (n_law_mixed : PySem.W.nsIn K mainGlobals "_law_mixed" = some (some (.ref f_law_mixed)))
    (l_law_mixed : K.lookup f_law_mixed = some ⟨oc_law_mixed, od_law_mixed, .func (PySem.W.fnOf "_law_mixed" "_law_mixed" (defArgs st_law_mixed) (defBody st_law_mixed) (defScope st_law_mixed) .none kV_law_mixed dc_law_mixed pm_law_mixed an_law_mixed cd_law_mixed ct_law_mixed), sl_law_mixed⟩)
    (c_law_mixed : PySem.W.codeIn K cd_law_mixed "_law_mixed" = true)
    (k_law_mixed : PySem.W.keepIn K (.ref f_law_mixed) = true)
    (n_law_common : PySem.W.nsIn K mainGlobals "_law_common" = some (some (.ref f_law_common)))
    (l_law_common : K.lookup f_law_common = some ⟨oc_law_common, od_law_common, .func (PySem.W.fnOf "_law_common" "_law_common" (defArgs st_law_common) (defBody st_law_common) (defScope st_law_common) .none kV_law_common dc_law_common pm_law_common an_law_common cd_law_common ct_law_common), sl_law_common⟩)
    (c_law_common : PySem.W.codeIn K cd_law_common "_law_common" = true)
    (k_law_common : PySem.W.keepIn K (.ref f_law_common) = true)
    (n_law_sign_by : PySem.W.nsIn K mainGlobals "_law_sign_by" = some (some (.ref f_law_sign_by)))
    (l_law_sign_by : K.lookup f_law_sign_by = some ⟨oc_law_sign_by, od_law_sign_by, .func (PySem.W.fnOf "_law_sign_by" "_law_sign_by" (defArgs st_law_sign_by) (defBody st_law_sign_by) (defScope st_law_sign_by) .none kV_law_sign_by dc_law_sign_by pm_law_sign_by an_law_sign_by cd_law_sign_by ct_law_sign_by), sl_law_sign_by⟩)
    (c_law_sign_by : PySem.W.codeIn K cd_law_sign_by "_law_sign_by" = true)
    (k_law_sign_by : PySem.W.keepIn K (.ref f_law_sign_by) = true)
    (n_law_odd : PySem.W.nsIn K mainGlobals "_law_odd" = some (some (.ref f_law_odd)))
    (l_law_odd : K.lookup f_law_odd = some ⟨oc_law_odd, od_law_odd, .func (PySem.W.fnOf "_law_odd" "_law_odd" (defArgs st_law_odd) (defBody st_law_odd) (defScope st_law_odd) .none kV_law_odd dc_law_odd pm_law_odd an_law_odd cd_law_odd ct_law_odd), sl_law_odd⟩)
    (c_law_odd : PySem.W.codeIn K cd_law_odd "_law_odd" = true)
    (k_law_odd : PySem.W.keepIn K (.ref f_law_odd) = true)
    (n_law_figures : PySem.W.nsIn K mainGlobals "_law_figures" = some (some (.ref f_law_figures)))
    (l_law_figures : K.lookup f_law_figures = some ⟨oc_law_figures, od_law_figures, .func (PySem.W.fnOf "_law_figures" "_law_figures" (defArgs st_law_figures) (defBody st_law_figures) (defScope st_law_figures) .none kV_law_figures dc_law_figures pm_law_figures an_law_figures cd_law_figures ct_law_figures), sl_law_figures⟩)
    (c_law_figures : PySem.W.codeIn K cd_law_figures "_law_figures" = true)
    (k_law_figures : PySem.W.keepIn K (.ref f_law_figures) = true)
    (n_are_parts : PySem.W.nsIn K mainGlobals "are_parts" = some (some (.ref f_are_parts)))
    (l_are_parts : K.lookup f_are_parts = some ⟨oc_are_parts, od_are_parts, .func (PySem.W.fnOf "are_parts" "are_parts" (defArgs st_are_parts) (defBody st_are_parts) (defScope st_are_parts) .none kV_are_parts dc_are_parts pm_are_parts an_are_parts cd_are_parts ct_are_parts), sl_are_parts⟩)
    (c_are_parts : PySem.W.codeIn K cd_are_parts "are_parts" = true)
    (k_are_parts : PySem.W.keepIn K (.ref f_are_parts) = true)
    (n_law_text : PySem.W.nsIn K mainGlobals "_law_text" = some (some (.ref f_law_text)))
    (l_law_text : K.lookup f_law_text = some ⟨oc_law_text, od_law_text, .func (PySem.W.fnOf "_law_text" "_law_text" (defArgs st_law_text) (defBody st_law_text) (defScope st_law_text) .none kV_law_text dc_law_text pm_law_text an_law_text cd_law_text ct_law_text), sl_law_text⟩)
    (c_law_text : PySem.W.codeIn K cd_law_text "_law_text" = true)
    (k_law_text : PySem.W.keepIn K (.ref f_law_text) = true)
    (n_law_due : PySem.W.nsIn K mainGlobals "_law_due" = some (some (.ref f_law_due)))
    (l_law_due : K.lookup f_law_due = some ⟨oc_law_due, od_law_due, .func (PySem.W.fnOf "_law_due" "_law_due" (defArgs st_law_due) (defBody st_law_due) (defScope st_law_due) .none kV_law_due dc_law_due pm_law_due an_law_due cd_law_due ct_law_due), sl_law_due⟩)
    (c_law_due : PySem.W.codeIn K cd_law_due "_law_due" = true)
    (k_law_due : PySem.W.keepIn K (.ref f_law_due) = true)
    (n_fraction_read : PySem.W.nsIn K mainGlobals "fraction_read" = some (some (.ref f_fraction_read)))
    (l_fraction_read : K.lookup f_fraction_read = some ⟨oc_fraction_read, od_fraction_read, .func (PySem.W.fnOf "fraction_read" "fraction_read" (defArgs st_fraction_read) (defBody st_fraction_read) (defScope st_fraction_read) .none kV_fraction_read dc_fraction_read pm_fraction_read an_fraction_read cd_fraction_read ct_fraction_read), sl_fraction_read⟩)
    (c_fraction_read : PySem.W.codeIn K cd_fraction_read "fraction_read" = true)
    (k_fraction_read : PySem.W.keepIn K (.ref f_fraction_read) = true)
    (n_law : PySem.W.nsIn K mainGlobals "law" = some (some (.ref f_law)))
    (l_law : K.lookup f_law = some ⟨oc_law, od_law, .func (PySem.W.fnOf "law" "law" (defArgs st_law) (defBody st_law) (defScope st_law) .none kV_law dc_law pm_law an_law cd_law ct_law), sl_law⟩)
    (c_law : PySem.W.codeIn K cd_law "law" = true)
    (k_law : PySem.W.keepIn K (.ref f_law) = true)
    (n_FIGURES : PySem.W.nsIn K mainGlobals "FIGURES" = some (some (.str "0123456789" t_FIGURES)))
    (n_MOST_FIGURES : PySem.W.nsIn K mainGlobals "MOST_FIGURES" = some (some (.int 60 t_MOST_FIGURES)))
    (z_ValueError : PySem.W.nsIn K mainGlobals "ValueError" = some none)
    (z_abs : PySem.W.nsIn K mainGlobals "abs" = some none)
    (z_all : PySem.W.nsIn K mainGlobals "all" = some none)
    (z_int : PySem.W.nsIn K mainGlobals "int" = some none)
    (z_isinstance : PySem.W.nsIn K mainGlobals "isinstance" = some none)
    (z_len : PySem.W.nsIn K mainGlobals "len" = some none)
    (z_range : PySem.W.nsIn K mainGlobals "range" = some none)
    (z_str : PySem.W.nsIn K mainGlobals "str" = some none)
    (e0_NoText : PySem.W.findIn K (.ref c_NoText) "__getattribute__" = some (some (.builtin "BaseException.__getattribute__")))
    (e1_NoText : PySem.W.findIn K (.ref c_NoText) "__getattr__" = some none)
    (e2_NoText : PySem.W.hasDictIn K c_NoText = true)
    (e3_NoText : PySem.W.findIn K (.ref c_NoText) "__class__" = some (some (.builtin "object.__class__")))
    (e6_NoText : PySem.W.mroIn K c_NoText (.type "object") = some true)
    (e7_NoText : PySem.W.mroIn K c_NoText (.type "BaseException") = some true)
    (e4 : PySem.W.specialIn K (.builtin "object.__class__") "__get__" = some (some (.builtin "getset_descriptor.__get__")))
    (e5 : PySem.W.takesIn K (.builtin "object.__class__") = some true)
    (s_NoText_HallError : PySem.W.exmOne K (.ref c_NoText) (.ref c_HallError) = some true)
    (i_NoneType_NoText : PySem.W.kitOne K (.type "NoneType") (.ref c_NoText) = some false)
    (i_NoText_NoText : PySem.W.kitOne K (.ref c_NoText) (.ref c_NoText) = some true)
    (i_NoneType_ValueError : PySem.W.kitOne K (.type "NoneType") (.type "ValueError") = some false)
    (i_NoText_ValueError : PySem.W.kitOne K (.ref c_NoText) (.type "ValueError") = some true)
    (i_NoneType_NoOver : PySem.W.kitOne K (.type "NoneType") (.ref c_NoOver) = some false)
    (i_NoText_NoOver : PySem.W.kitOne K (.ref c_NoText) (.ref c_NoOver) = some false)
    : ∃ fd : FuncData, (∀ (s : Shared) (v : Value), BindsTo s fd ⟨[v], []⟩ [("_law_script", v)]) ∧ ∀ base : Heap, K.In base → base.Ns mainGlobals mg → FnOk l.prog w K mg base (CX1 l.prog w) 4 fa fd ["_law_script"] (spD K F_law) := by
  have e := hfa.symm.trans (PySem.W.mg_of X G n_law)
  cases e
  have F_common := fun_mk (st := st_common) l_common c_common k_common
  have F_is_plain := fun_mk (st := st_is_plain) l_is_plain c_is_plain k_is_plain
  have F_law_cell := fun_mk (st := st_law_cell) l_law_cell c_law_cell k_law_cell
  have F_law_mixed := fun_mk (st := st_law_mixed) l_law_mixed c_law_mixed k_law_mixed
  have F_law_common := fun_mk (st := st_law_common) l_law_common c_law_common k_law_common
  have F_law_sign_by := fun_mk (st := st_law_sign_by) l_law_sign_by c_law_sign_by k_law_sign_by
  have F_law_odd := fun_mk (st := st_law_odd) l_law_odd c_law_odd k_law_odd
  have F_law_figures := fun_mk (st := st_law_figures) l_law_figures c_law_figures k_law_figures
  have F_are_parts := fun_mk (st := st_are_parts) l_are_parts c_are_parts k_are_parts
  have F_law_text := fun_mk (st := st_law_text) l_law_text c_law_text k_law_text
  have F_law_due := fun_mk (st := st_law_due) l_law_due c_law_due k_law_due
  have F_fraction_read := fun_mk (st := st_fraction_read) l_fraction_read c_fraction_read k_fraction_read
  have F_law := fun_mk (st := st_law) l_law c_law k_law
  have B_common := F_common.binds (ps := ["a", "b"]) fun _ _ _ _ _ _ us hl => match us, hl with | [_, _], _ => rfl
  have B_is_plain := F_is_plain.binds (ps := ["part"]) fun _ _ _ _ _ _ us hl => match us, hl with | [_], _ => rfl
  have B_law_cell := F_law_cell.binds (ps := ["_law_script", "_law_k"]) fun _ _ _ _ _ _ us hl => match us, hl with | [_, _], _ => rfl
  have B_law_mixed := F_law_mixed.binds (ps := ["_law_cell_here", "_law_k", "_law_many"]) fun _ _ _ _ _ _ us hl => match us, hl with | [_, _, _], _ => rfl
  have B_law_common := F_law_common.binds (ps := ["_law_one", "_law_other"]) fun _ _ _ _ _ _ us hl => match us, hl with | [_, _], _ => rfl
  have B_law_sign_by := F_law_sign_by.binds (ps := ["_law_cell_here"]) fun _ _ _ _ _ _ us hl => match us, hl with | [_], _ => rfl
  have B_law_odd := F_law_odd.binds (ps := ["_law_cell_here"]) fun _ _ _ _ _ _ us hl => match us, hl with | [_], _ => rfl
  have B_law_figures := F_law_figures.binds (ps := ["_law_word"]) fun _ _ _ _ _ _ us hl => match us, hl with | [_], _ => rfl
  have B_are_parts := F_are_parts.binds (ps := ["parts"]) fun _ _ _ _ _ _ us hl => match us, hl with | [_], _ => rfl
  have B_law_text := F_law_text.binds (ps := ["_law_cell_here", "_law_other", "_law_third"]) fun _ _ _ _ _ _ us hl => match us, hl with | [_, _, _], _ => rfl
  have B_law_due := F_law_due.binds (ps := ["_law_text_here"]) fun _ _ _ _ _ _ us hl => match us, hl with | [_], _ => rfl
  have B_fraction_read := F_fraction_read.binds (ps := ["text"]) fun _ _ _ _ _ _ us hl => match us, hl with | [_], _ => rfl
  have B_law := F_law.binds (ps := ["_law_script"]) fun _ _ _ _ _ _ us hl => match us, hl with | [_], _ => rfl
  have T : Txt K mg { c_HallError := c_HallError, c_NoText := c_NoText, c_NoOver := c_NoOver, f_common := f_common, f_is_plain := f_is_plain, f_law_cell := f_law_cell, f_law_mixed := f_law_mixed, f_law_common := f_law_common, f_law_sign_by := f_law_sign_by, f_law_odd := f_law_odd, f_law_figures := f_law_figures, f_are_parts := f_are_parts, f_law_text := f_law_text, f_law_due := f_law_due, f_fraction_read := f_fraction_read, f_law := fa } := {
    m_common := PySem.W.mg_of X G n_common
    k_common := k_common
    m_is_plain := PySem.W.mg_of X G n_is_plain
    k_is_plain := k_is_plain
    m_law_cell := PySem.W.mg_of X G n_law_cell
    k_law_cell := k_law_cell
    m_law_mixed := PySem.W.mg_of X G n_law_mixed
    k_law_mixed := k_law_mixed
    m_law_common := PySem.W.mg_of X G n_law_common
    k_law_common := k_law_common
    m_law_sign_by := PySem.W.mg_of X G n_law_sign_by
    k_law_sign_by := k_law_sign_by
    m_law_odd := PySem.W.mg_of X G n_law_odd
    k_law_odd := k_law_odd
    m_law_figures := PySem.W.mg_of X G n_law_figures
    k_law_figures := k_law_figures
    m_are_parts := PySem.W.mg_of X G n_are_parts
    k_are_parts := k_are_parts
    m_law_text := PySem.W.mg_of X G n_law_text
    k_law_text := k_law_text
    m_law_due := PySem.W.mg_of X G n_law_due
    k_law_due := k_law_due
    m_fraction_read := PySem.W.mg_of X G n_fraction_read
    k_fraction_read := k_fraction_read
    m_law := PySem.W.mg_of X G n_law
    k_law := k_law
    m_HallError := PySem.W.mg_of X G n_HallError
    n_HallError := n_HallError
    x_HallError := x_HallError
    m_NoText := PySem.W.mg_of X G n_NoText
    n_NoText := n_NoText
    x_NoText := x_NoText
    m_NoOver := PySem.W.mg_of X G n_NoOver
    n_NoOver := n_NoOver
    x_NoOver := x_NoOver
    m_FIGURES := ⟨_, PySem.W.mg_of X G n_FIGURES⟩
    m_MOST_FIGURES := ⟨_, PySem.W.mg_of X G n_MOST_FIGURES⟩
    z_ValueError := PySem.W.mg_none_of X G z_ValueError
    z_abs := PySem.W.mg_none_of X G z_abs
    z_all := PySem.W.mg_none_of X G z_all
    z_int := PySem.W.mg_none_of X G z_int
    z_isinstance := PySem.W.mg_none_of X G z_isinstance
    z_len := PySem.W.mg_none_of X G z_len
    z_range := PySem.W.mg_none_of X G z_range
    z_str := PySem.W.mg_none_of X G z_str
    s_HallError := by
      intro x C hC hs
      unfold sub_HallError at hs
      split at hs
      · rename_i e; subst e; cases n_NoText.symm.trans hC; exact s_NoText_HallError
      · cases hs
    i_NoText := by
      intro d b hd
      cases d with
      | exc c =>
        simp only [is_NoText] at hd
        split at hd
        · rename_i e; subst e; cases hd; intro C hC; cases n_NoText.symm.trans hC; exact ⟨⟨e0_NoText, e1_NoText, e2_NoText, e3_NoText, e4, e5, e6_NoText, e7_NoText⟩, i_NoText_NoText⟩
        · cases hd
      | non => simp only [is_NoText] at hd; cases hd; exact i_NoneType_NoText
      | _ => cases hd
    i_ValueError := by
      intro d b hd
      cases d with
      | exc c =>
        simp only [is_ValueError] at hd
        split at hd
        · rename_i e; subst e; cases hd; intro C hC; cases n_NoText.symm.trans hC; exact ⟨⟨e0_NoText, e1_NoText, e2_NoText, e3_NoText, e4, e5, e6_NoText, e7_NoText⟩, i_NoText_ValueError⟩
        · cases hd
      | non => simp only [is_ValueError] at hd; cases hd; exact i_NoneType_ValueError
      | _ => cases hd
    i_NoOver := by
      intro d b hd
      cases d with
      | exc c =>
        simp only [is_NoOver] at hd
        split at hd
        · rename_i e; subst e; cases hd; intro C hC; cases n_NoText.symm.trans hC; exact ⟨⟨e0_NoText, e1_NoText, e2_NoText, e3_NoText, e4, e5, e6_NoText, e7_NoText⟩, i_NoText_NoOver⟩
        · cases hd
      | non => simp only [is_NoOver] at hd; cases hd; exact i_NoneType_NoOver
      | _ => cases hd
  }
  refine ⟨PySem.W.fnOf "law" "law" (defArgs st_law) (defBody st_law) (defScope st_law) .none kV_law dc_law pm_law an_law cd_law ct_law, fun s v => .of_eq rfl, fun base _ _ => ?_⟩
  have G_common := ok_common (P := l.prog) (w := w) (base := base) T F_common
  have G_is_plain := ok_is_plain (P := l.prog) (w := w) (base := base) T F_is_plain
  have G_law_cell := ok_law_cell (P := l.prog) (w := w) (base := base) T F_law_cell
  have G_law_mixed := ok_law_mixed (P := l.prog) (w := w) (base := base) T F_law_mixed
  have G_law_common := ok_law_common (P := l.prog) (w := w) (base := base) T F_law_common
  have G_law_sign_by := ok_law_sign_by (P := l.prog) (w := w) (base := base) T F_law_sign_by
  have G_law_odd := ok_law_odd (P := l.prog) (w := w) (base := base) T F_law_odd
  have G_law_figures := ok_law_figures (P := l.prog) (w := w) (base := base) T F_law_figures
  have G_are_parts := ok_are_parts (P := l.prog) (w := w) (base := base) T F_are_parts G_is_plain B_is_plain
  have G_law_text := ok_law_text (P := l.prog) (w := w) (base := base) T F_law_text G_law_mixed B_law_mixed G_law_odd B_law_odd G_law_sign_by B_law_sign_by
  have G_law_due := ok_law_due (P := l.prog) (w := w) (base := base) T F_law_due G_law_common B_law_common G_law_figures B_law_figures
  have G_fraction_read := ok_fraction_read (P := l.prog) (w := w) (base := base) T F_fraction_read G_common B_common G_are_parts B_are_parts
  exact ok_law (P := l.prog) (w := w) (base := base) T F_law G_law_text B_law_text G_law_due B_law_due G_law_cell B_law_cell G_fraction_read B_fraction_read
theorem walk {l : PySem.W.OpenLaw} {q : Program} {loose : List Str} {XP : (Str → Option Value) → Heap → Prop} {YP : World → Heap → Prop} {d : DefRec} {K : Params → PySem.W.Frag} (hn : l.most = some 63) (hdf : d.params.defaults = [])
    (hY : ∀ (w : World) (h : Heap), YP w h → (K w.params).In h)
    (F : ∀ (w : World) (mg : Str → Option Value) (fa : Addr) (h : Heap), (K w.params).In h → h.Ns mainGlobals mg → mg d.name = some (.ref fa) →
      ∃ fd : FuncData, (∀ (s : Shared) (u : Value), BindsTo s fd ⟨[u], []⟩ [("_law_script", u)]) ∧ ∀ base : Heap, (K w.params).In base → base.Ns mainGlobals mg → FnOk l.prog w (K w.params) mg base (CX1 l.prog w) 4 fa fd ["_law_script"] (spD (K w.params) F_law)) :
    PySem.W.WalkO q loose XP YP l.row.toRowW d [] (fun f vs => PySem.call f vs) :=
  L2.walk_of (n := 63) (k := 4) (x := "_law_script") (CX := fun w => CX1 l.prog w) (sp := fun w => spD (K w.params) F_law) hn (by decide) hdf ⟨rfl, by decide, by decide⟩ hY F
    (fun w H a ns hl _ hS => ⟨[.lst (ns.map .int)], .cons (mkL hS (reps_ints ns)) .nil, by rw [w_law ns hl]; exact fun v H' _ r => by rw [Rep] at r; exact r⟩)
    fun _ _ _ _ _ z => by obtain ⟨_, _, _, _, _, _, _, _, _, z⟩ := z; exact z
end K03
open PySem PySem.W PyProof.Rows
set_option maxRecDepth 100000 in
set_option maxHeartbeats 0 in
theorem PySem.Challenge.cw_compasshall_k03_texts_refused_holds : PySem.Challenge.rw_compasshall_k03_texts_refused.Holds := by
  w_on; o_law; k_head; (case hw => w_witness2)
  k_fill
  refine K03.walk (l := PySem.Challenge.rw_compasshall_k03_texts_refused) rfl rfl (fun w h Y => PySem.W.kIn_of Y) ?F
  case F =>
    intro w mg fa h KX G hmg
    refine' K03.all_mk KX G hmg ?n_HallError ?x_HallError ?n_NoText ?x_NoText ?n_NoOver ?x_NoOver ?n_common ?l_common ?c_common ?k_common ?n_is_plain ?l_is_plain ?c_is_plain ?k_is_plain ?n_law_cell ?l_law_cell ?c_law_cell ?k_law_cell ?n_law_mixed ?l_law_mixed ?c_law_mixed ?k_law_mixed ?n_law_common ?l_law_common ?c_law_common ?k_law_common ?n_law_sign_by ?l_law_sign_by ?c_law_sign_by ?k_law_sign_by ?n_law_odd ?l_law_odd ?c_law_odd ?k_law_odd ?n_law_figures ?l_law_figures ?c_law_figures ?k_law_figures ?n_are_parts ?l_are_parts ?c_are_parts ?k_are_parts ?n_law_text ?l_law_text ?c_law_text ?k_law_text ?n_law_due ?l_law_due ?c_law_due ?k_law_due ?n_fraction_read ?l_fraction_read ?c_fraction_read ?k_fraction_read ?n_law ?l_law ?c_law ?k_law ?n_FIGURES ?n_MOST_FIGURES ?z_ValueError ?z_abs ?z_all ?z_int ?z_isinstance ?z_len ?z_range ?z_str ?e0_NoText ?e1_NoText ?e2_NoText ?e3_NoText ?e6_NoText ?e7_NoText ?e4 ?e5 ?s_NoText_HallError ?i_NoneType_NoText ?i_NoText_NoText ?i_NoneType_ValueError ?i_NoText_ValueError ?i_NoneType_NoOver ?i_NoText_NoOver
    (case n_HallError => k_is)
    (case x_HallError => k_exc)
    (case n_NoText => k_is)
    (case x_NoText => k_exc)
    (case n_NoOver => k_is)
    (case x_NoOver => k_exc)
    (case n_common => k_is)
    (case l_common => k_is)
    (case c_common => k_is)
    (case k_common => k_is)
    (case n_is_plain => k_is)
    (case l_is_plain => k_is)
    (case c_is_plain => k_is)
    (case k_is_plain => k_is)
    (case n_law_cell => k_is)
    (case l_law_cell => k_is)
    (case c_law_cell => k_is)
    (case k_law_cell => k_is)
    (case n_law_mixed => k_is)
    (case l_law_mixed => k_is)
    (case c_law_mixed => k_is)
    (case k_law_mixed => k_is)
    (case n_law_common => k_is)
    (case l_law_common => k_is)
    (case c_law_common => k_is)
    (case k_law_common => k_is)
    (case n_law_sign_by => k_is)
    (case l_law_sign_by => k_is)
    (case c_law_sign_by => k_is)
    (case k_law_sign_by => k_is)
    (case n_law_odd => k_is)
    (case l_law_odd => k_is)
    (case c_law_odd => k_is)
    (case k_law_odd => k_is)
    (case n_law_figures => k_is)
    (case l_law_figures => k_is)
    (case c_law_figures => k_is)
    (case k_law_figures => k_is)
    (case n_are_parts => k_is)
    (case l_are_parts => k_is)
    (case c_are_parts => k_is)
    (case k_are_parts => k_is)
    (case n_law_text => k_is)
    (case l_law_text => k_is)
    (case c_law_text => k_is)
    (case k_law_text => k_is)
    (case n_law_due => k_is)
    (case l_law_due => k_is)
    (case c_law_due => k_is)
    (case k_law_due => k_is)
    (case n_fraction_read => k_is)
    (case l_fraction_read => k_is)
    (case c_fraction_read => k_is)
    (case k_fraction_read => k_is)
    (case n_law => k_is)
    (case l_law => k_is)
    (case c_law => k_is)
    (case k_law => k_is)
    (case n_FIGURES => k_is)
    (case n_MOST_FIGURES => k_is)
    (case z_ValueError => k_is)
    (case z_abs => k_is)
    (case z_all => k_is)
    (case z_int => k_is)
    (case z_isinstance => k_is)
    (case z_len => k_is)
    (case z_range => k_is)
    (case z_str => k_is)
    (case e0_NoText => k_is)
    (case e1_NoText => k_is)
    (case e2_NoText => k_is)
    (case e3_NoText => k_is)
    (case e6_NoText => k_is)
    (case e7_NoText => k_is)
    (case e4 => k_is)
    (case e5 => k_is)
    (case s_NoText_HallError => kts_exm)
    (case i_NoneType_NoText => kit_is)
    (case i_NoText_NoText => kit_is)
    (case i_NoneType_ValueError => kit_is)
    (case i_NoText_ValueError => kit_is)
    (case i_NoneType_NoOver => kit_is)
    (case i_NoText_NoOver => kit_is)
