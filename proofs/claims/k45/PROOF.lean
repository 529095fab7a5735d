import PyProof.Rows.All
import Wide.All
import OpenK.AllK
import Wide.FinOn
import Lean
import PyProof.EqAt
import PyProof.EqKinds
import PyProof.TupleCall
import PySem.Challenge.RW_needplan_k45_plain_model_beside
set_option Elab.async false
set_option linter.all false
set_option maxRecDepth 100000
namespace L2
open PySem PySem.Spec PyProof.Rows
abbrev Key := Sum Int Str
def keyIs : Key → Value → Bool
  | .inl k, v => Value.isInt k v
  | .inr x, v => Value.isStrOf x v
def keyH (w : World) : Key → Int
  | .inl k => hashInt k
  | .inr x => hashStr w x
theorem keyIs_shape : ∀ {k : Key} {v : Value}, keyIs k v = true → (∃ i t, k = Sum.inl i ∧ v = Value.int i t) ∨ (∃ x t, k = Sum.inr x ∧ v = Value.str x t)
  | .inl i, v, h => by
    obtain ⟨t, e⟩ := Value.isInt_shape (k := i) (v := v) h
    exact .inl ⟨i, t, rfl, e⟩
  | .inr x, v, h => by
    obtain ⟨t, e⟩ := Value.isStrOf_shape (x := x) (v := v) h
    exact .inr ⟨x, t, rfl, e⟩
theorem keyIs_int (i : Int) (t : Tok) : keyIs (.inl i) (.int i t) = true := by simp [keyIs, Value.isInt]
theorem keyIs_str (x : Str) (t : Tok) : keyIs (.inr x) (.str x t) = true := by simp [keyIs, Value.isStrOf]
theorem key_ll (a b : Int) : decide ((Sum.inl a : Key) = Sum.inl b) = (a == b) := by
  by_cases e : a = b
  · subst e; simp
  · have h : ¬ (Sum.inl a : Key) = Sum.inl b := fun q => e (Sum.inl.inj q)
    rw [decide_eq_false h]
    exact (beq_eq_false_iff_ne.mpr e).symm
theorem key_rr (a b : Str) : decide ((Sum.inr a : Key) = Sum.inr b) = decide (a = b) := by
  by_cases e : a = b
  · subst e; simp
  · have h : ¬ (Sum.inr a : Key) = Sum.inr b := fun q => e (Sum.inr.inj q)
    rw [decide_eq_false h, decide_eq_false e]
theorem key_lr (a : Int) (b : Str) : decide ((Sum.inl a : Key) = Sum.inr b) = false := decide_eq_false (fun q => nomatch q)
theorem key_rl (a : Str) (b : Int) : decide ((Sum.inr a : Key) = Sum.inl b) = false := decide_eq_false (fun q => nomatch q)
def mixKind (prog : Program) (w : World) : PySem.KeyKind prog w Key where
  is := keyIs
  hash := keyH w
  inj := fun v a b ha hb => by
    rcases keyIs_shape ha with ⟨i, t, rfl, rfl⟩ | ⟨x, t, rfl, rfl⟩
    · rcases keyIs_shape hb with ⟨j, u, rfl, e⟩ | ⟨y, u, rfl, e⟩
      · injection e with e1 _; rw [e1]
      · exact nomatch e
    · rcases keyIs_shape hb with ⟨j, u, rfl, e⟩ | ⟨y, u, rfl, e⟩
      · exact nomatch e
      · injection e with e1 _; rw [e1]
  byValue := fun k v h => by
    rcases keyIs_shape h with ⟨i, t, rfl, rfl⟩ | ⟨x, t, rfl, rfl⟩ <;> rfl
  pyHash := fun hv h => by
    rcases keyIs_shape hv with ⟨i, t, rfl, rfl⟩ | ⟨x, t, rfl, rfl⟩
    · exact wpAny_pyHash_int h
    · exact wpAny_pyHash_str h
  eqBool := fun hu hv h => by
    rcases keyIs_shape hu with ⟨i, t, rfl, rfl⟩ | ⟨x, t, rfl, rfl⟩
    · rcases keyIs_shape hv with ⟨j, u, rfl, rfl⟩ | ⟨y, u, rfl, rfl⟩
      · rw [key_ll] at h; exact wpAny_eqBool_int h
      · rw [key_lr] at h; exact SeqAt.EqAt.int_str i t y u _ _ _ _ h
    · rcases keyIs_shape hv with ⟨j, u, rfl, rfl⟩ | ⟨y, u, rfl, rfl⟩
      · rw [key_rl] at h; exact SeqAt.EqAt.str_int x t j u _ _ _ _ h
      · rw [key_rr] at h; exact wpAny_eqBool_str h
  «strs» := fun k x t v h => by
    rcases keyIs_shape h with ⟨i, u, rfl, e⟩ | ⟨y, u, rfl, e⟩
    · exact nomatch e
    · injection e with e1 _
      subst e1
      cases v <;> rfl
theorem mixKind_int (prog : Program) (w : World) (i : Int) (t : Tok) : (mixKind prog w).is (.inl i) (.int i t) = true := keyIs_int i t
theorem mixKind_str (prog : Program) (w : World) (x : Str) (t : Tok) : (mixKind prog w).is (.inr x) (.str x t) = true := keyIs_str x t
end L2
namespace L2
open PySem PySem.Spec PyProof.Rows
inductive V where
  | non | bl (b : Bool) | int (i : Int) | str (x : Str) | byt (b : Array UInt8) | flt (b : UInt64) | ref (a : Addr) | ty (n : String)
  deriving DecidableEq
def RelV : V → Value → Prop
  | .non, u => u = Value.none
  | .bl b, u => u = Value.bool b
  | .int i, u => ∃ t, u = Value.int i t
  | .str x, u => ∃ t, u = Value.str x t
  | .byt b, u => ∃ t, u = Value.bytes b t
  | .flt b, u => ∃ t, u = Value.float b t
  | .ref a, u => u = Value.ref a
  | .ty n, u => u = Value.type n
abbrev Vals : List V → List Value → Prop := Paired RelV
theorem Vals.length {xs : List V} {us : List Value} (r : Vals xs us) : xs.length = us.length := Paired.length r
theorem Vals.get : ∀ {xs : List V} {us : List Value} {i : Nat} {x : V}, Vals xs us → xs[i]? = some x → ∃ u, us[i]? = some u ∧ RelV x u
  | _, _, _, _, .nil, e => by simp at e
  | _, _, 0, _, .cons r _, e => by simp at e; subst e; exact ⟨_, rfl, r⟩
  | _, _, i + 1, x, .cons _ t, e => by
    obtain ⟨u, h1, h2⟩ := Vals.get (i := i) (x := x) t (by simpa using e)
    exact ⟨u, by simpa using h1, h2⟩
theorem Vals.set {x : V} {u : Value} (r : RelV x u) : ∀ {xs : List V} {us : List Value} (i : Nat), Vals xs us → Vals (xs.set i x) (us.set i u)
  | _, _, _, .nil => .nil
  | _, _, 0, .cons _ t => .cons r t
  | _, _, i + 1, .cons q t => .cons q (Vals.set r i t)
theorem Vals.append : ∀ {xs ys : List V} {us ws : List Value}, Vals xs us → Vals ys ws → Vals (xs ++ ys) (us ++ ws)
  | _, _, _, _, .nil, s => s
  | _, _, _, _, .cons r t, s => .cons r (Vals.append t s)
theorem Vals.take : ∀ {xs : List V} {us : List Value} (n : Nat), Vals xs us → Vals (xs.take n) (us.take n)
  | _, _, 0, _ => .nil
  | _, _, _ + 1, .nil => .nil
  | _, _, n + 1, .cons r t => .cons r (Vals.take n t)
theorem Vals.drop : ∀ {xs : List V} {us : List Value} (n : Nat), Vals xs us → Vals (xs.drop n) (us.drop n)
  | _, _, 0, r => r
  | _, _, _ + 1, .nil => .nil
  | _, _, n + 1, .cons _ t => Vals.drop n t
def RelO : Option V → Option Value → Prop
  | some v, some u => RelV v u
  | none, none => True
  | _, _ => False
def KV {κ : Type} : List (κ × V) → List (κ × Value) → Prop := Paired fun (p : κ × V) (q : κ × Value) => p.1 = q.1 ∧ RelV p.2 q.2
def kV : Key → V
  | .inl i => .int i
  | .inr x => .str x
inductive HO where
  | lst (xs : List V)
  | tup (xs : List V)
  | dK (kvs : List (Key × V)) | dT (kvs : List (List Key × V))
  | set (S : Int → Bool) (n : Nat)
  | ins (C dx : Addr) (fs : List (Str × V))
  | own (x : Addr)
  | xd (fs : List (Str × V))
  | met (f x : Addr)
  | rng (lo hi : Int)
  | frz (o : Obj) (u : HO)
  | tbl (ps : Array Value)
  | ext (φ : Heap → Prop)
abbrev Hp := Addr → Option HO
def upd (H : Hp) (a : Addr) (o : HO) : Hp := fun b => if b = a then some o else H b
theorem upd_same {H : Hp} {a : Addr} {o : HO} : upd H a o a = some o := by unfold upd; rw [if_pos rfl]
theorem upd_ne {H : Hp} {a b : Addr} {o : HO} (h : b ≠ a) : upd H a o b = H b := by unfold upd; rw [if_neg h]
theorem ne_of {H : Hp} {a b : Addr} {o u : HO} (h : H a = some o) (h' : H b = some u) (d : o ≠ u) : a ≠ b := by
  intro e; subst e; rw [h] at h'; exact d (Option.some.inj h')
theorem ne_of_none {H : Hp} {a b : Addr} {o : HO} (h : H a = some o) (h' : H b = none) : a ≠ b := by
  intro e; subst e; rw [h] at h'; cases h'
section
variable (P : Program) (w : World)
def ObjOk (H : Hp) (h : Heap) (a : Addr) : HO → Prop
  | .lst xs => xs.length ≤ sizeLine ∧ ∃ (its : List Value) (n : Nat), Vals xs its ∧ h.get? a = some { cls := .type "list", data := .seq its.toArray n }
  | .tup xs => xs.length ≤ sizeLine ∧ ∃ its : List Value, Vals xs its ∧ IsTup h a its.toArray
  | .dK kvs => kvs.length ≤ sizeLine ∧ (a == sysModules) = false ∧ ∃ vs, KV kvs vs ∧ h.DictOf (mixKind P w) a vs
  | .dT kvs => kvs.length ≤ sizeLine ∧ (a == sysModules) = false ∧ ∃ xs : List (List Key × Addr × Value),
      Paired (fun (p : List Key × V) (q : List Key × Addr × Value) => p.1 = q.1 ∧ H q.2.1 = some (.tup (p.1.map kV)) ∧ RelV p.2 q.2.2) kvs xs ∧
      ∃ o es ep, h.get? a = some o ∧ o.ExactDict ∧ o.data = .dict es ep ∧ es.toList = xs.map (entryOfKey (tupleKind (mixKind P w))) ∧ (xs.map (·.1)).Nodup
  | .set S n => h.SetOf (intKind P w) a S n
  | .ins C dx fs => H dx = some (.own a) ∧ fs.length ≤ 1000 ∧ dx ≠ a ∧ h.get? a = some (PySem.W.instObj C dx) ∧
      ∃ mA, h.Ns1 dx mA ∧ (∀ f, RelO (fs.lookup f) (mA f)) ∧ PySem.Within mA (fs.map (·.1))
  | .own _ => ∃ o, h.get? a = some o
  | .xd fs => ∃ mA, h.Ns1 a mA ∧ ∀ f, RelO (fs.lookup f) (mA f)
  | .rng lo hi => ∃ t u v, h.get? a = some { cls := .type "range", data := .fields #[.int lo t, .int hi u, .int 1 v] }
  | .frz o u => h.get? a = some o ∧ ObjOk H h a u
  | .tbl ps => h.get? a = some { cls := .none, data := .fields ps }
  | .met f x => h.get? a = some (PySem.W.methodObj (.ref f) (.ref x))
  | .ext φ => φ h ∧ (∃ o, h.get? a = some o) ∧ ∀ h1 h2 : Heap, φ h1 → (∀ o, h1.get? a = some o → h2.get? a = some o) → φ h2
def HOk (H : Hp) (h : Heap) : Prop := ∀ a o, H a = some o → ObjOk P w H h a o
end
section
variable {P : Program} {w : World} {H H' : Hp} {h h' : Heap} {a : Addr} {o : HO}
theorem ObjOk.lt (x : ObjOk P w H h a o) : a < h.objs.size := by
  cases o with
  | lst xs => obtain ⟨_, _, _, _, e⟩ := x; exact Heap.lt_size e
  | tup xs => obtain ⟨_, _, _, p⟩ := x; exact p.lt
  | dK kvs => obtain ⟨_, _, _, _, o, _, _, e, _⟩ := x; exact Heap.lt_size e
  | dT kvs => obtain ⟨_, _, _, _, o, _, _, e, _⟩ := x; exact Heap.lt_size e
  | set S n => obtain ⟨o, _, _, _, e, _⟩ := x; exact Heap.lt_size e
  | ins C dx fs => obtain ⟨_, _, _, e, _⟩ := x; exact Heap.lt_size e
  | own y => obtain ⟨_, e⟩ := x; exact Heap.lt_size e
  | xd fs => obtain ⟨_, ⟨_, _, _, e, _⟩, _⟩ := x; exact Heap.lt_size e
  | rng lo hi => obtain ⟨_, _, _, e⟩ := x; exact Heap.lt_size e
  | frz ob u => obtain ⟨e, _⟩ := x; exact Heap.lt_size e
  | tbl ps => exact Heap.lt_size (show h.get? a = some _ from x)
  | met f y => exact Heap.lt_size (show h.get? a = some _ from x)
  | ext φ => obtain ⟨_, ⟨_, e⟩, _⟩ := x; exact Heap.lt_size e
theorem Paired.mapP {α β : Type} {F G : α → β → Prop} : ∀ {l₁ : List α} {l₂ : List β}, Paired F l₁ l₂ → (∀ a b, F a b → G a b) → Paired G l₁ l₂
  | _, _, .nil, _ => .nil
  | _, _, .cons r t, f => .cons (f _ _ r) (Paired.mapP t f)
theorem ObjOk.stay (x : ObjOk P w H h a o) (k : ∀ b u, (b = a ∨ H b = some (.own a)) → h.get? b = some u → h'.get? b = some u)
    (ho : ∀ b, H b = some (.own a) → H' b = some (.own a)) (ht : ∀ b xs, H b = some (.tup xs) → H' b = some (.tup xs)) : ObjOk P w H' h' a o := by
  induction o with
  | lst xs => obtain ⟨z, its, n, r, e⟩ := x; exact ⟨z, its, n, r, k _ _ (.inl rfl) e⟩
  | tup xs => obtain ⟨z, its, r, ob, e, c⟩ := x; exact ⟨z, its, r, ob, k _ _ (.inl rfl) e, c⟩
  | dK kvs => obtain ⟨z, y, vs, r, ob, es, ep, e, c⟩ := x; exact ⟨z, y, vs, r, ob, es, ep, k _ _ (.inl rfl) e, c⟩
  | dT kvs =>
    obtain ⟨z, y, xs, r, ob, es, ep, e, c⟩ := x
    exact ⟨z, y, xs, Paired.mapP r fun p q z => ⟨z.1, ht _ _ z.2.1, z.2.2⟩, ob, es, ep, k _ _ (.inl rfl) e, c⟩
  | set S n => obtain ⟨ob, es, ep, t, e, c⟩ := x; exact ⟨ob, es, ep, t, k _ _ (.inl rfl) e, c⟩
  | ins C dx fs =>
    obtain ⟨d, z, ne, e, mA, ⟨od, es, ep, e2, c⟩, r⟩ := x
    exact ⟨ho _ d, z, ne, k _ _ (.inl rfl) e, mA, ⟨od, es, ep, k _ _ (.inr d) e2, c⟩, r⟩
  | own y => obtain ⟨ob, e⟩ := x; exact ⟨ob, k _ _ (.inl rfl) e⟩
  | xd fs => obtain ⟨mA, ⟨od, es, ep, e, c⟩, r⟩ := x; exact ⟨mA, ⟨od, es, ep, k _ _ (.inl rfl) e, c⟩, r⟩
  | rng lo hi => obtain ⟨t, u, v, e⟩ := x; exact ⟨t, u, v, k _ _ (.inl rfl) e⟩
  | frz ob u ih => obtain ⟨e, q⟩ := x; exact ⟨k _ _ (.inl rfl) e, ih q⟩
  | tbl ps =>
    have e : h.get? a = some { cls := .none, data := .fields ps } := x
    show h'.get? a = some { cls := .none, data := .fields ps }
    exact k a _ (.inl rfl) e
  | met f y =>
    have e : h.get? a = some (PySem.W.methodObj (.ref f) (.ref y)) := x
    show h'.get? a = some (PySem.W.methodObj (.ref f) (.ref y))
    exact k a _ (.inl rfl) e
  | ext φ => obtain ⟨p, ⟨o, e⟩, st⟩ := x; exact ⟨st _ _ p fun o q => k _ _ (.inl rfl) q, ⟨o, k _ _ (.inl rfl) e⟩, st⟩
theorem HOk.lt (x : HOk P w H h) (e : H a = some o) : a < h.objs.size := (x a o e).lt
theorem HOk.fresh (x : HOk P w H h) (e : h.objs.size ≤ a) : H a = none := by
  cases q : H a with
  | none => rfl
  | some u => exact absurd (Nat.lt_of_lt_of_le (x.lt q) e) (Nat.lt_irrefl _)
theorem HOk.kept (x : HOk P w H h) (k : ∀ b u, h.get? b = some u → h'.get? b = some u) : HOk P w H h' := fun a o e =>
  (x a o e).stay (fun b u _ q => k b u q) (fun _ q => q) fun _ _ q => q
theorem HOk.laid (x : HOk P w H h) (k : ∀ b u, h.get? b = some u → h'.get? b = some u) (hp : h.objs.size ≤ a) (new : ObjOk P w (upd H a o) h' a o) : HOk P w (upd H a o) h' := fun b u e => by
  have hn := x.fresh hp
  by_cases hb : b = a
  · subst hb; rw [upd_same] at e; cases e; exact new
  · rw [upd_ne hb] at e
    exact (x b u e).stay (fun c v _ q => k c v q) (fun c q => by rw [upd_ne (ne_of_none q hn)]; exact q) fun c xs q => by rw [upd_ne (ne_of_none q hn)]; exact q
end
def Rd (H : Hp) (a : Addr) (u : HO) : Prop := H a = some u ∨ ∃ o, H a = some (.frz o u)
theorem Rd.of {H : Hp} {a : Addr} {u : HO} (h : H a = some u) : Rd H a u := .inl h
theorem Rd.ok {P : Program} {w : World} {H : Hp} {h : Heap} {a : Addr} {u : HO} (r : Rd H a u) (x : HOk P w H h) : ObjOk P w H h a u := by
  rcases r with r | ⟨o, r⟩
  · exact x a u r
  · obtain ⟨_, q⟩ := x a _ r
    exact q
def Mut : Option HO → Prop
  | some (.lst _) => True
  | some (.dK _) => True
  | some (.dT _) => True
  | some (.set _ _) => True
  | some (.ins _ _ _) => True
  | some (.ext _) => True
  | _ => False
section
variable {P : Program} {w : World} {H : Hp} {h h' : Heap} {x e : Addr} {o' : HO}
theorem HOk.write (ok : HOk P w H h) (mu : Mut (H x)) (he : e = x ∨ H e = some (.own x)) (k : ∀ b u, b ≠ e → h.get? b = some u → h'.get? b = some u) (heo : ∃ u, h'.get? e = some u)
    (new : ObjOk P w (upd H x o') h' x o') : HOk P w (upd H x o') h' := fun b u q => by
  have nown : ∀ c y, H c = some (.own y) → c ≠ x := fun c y r z => by subst z; rw [r] at mu; exact mu
  have ntup : ∀ c xs, H c = some (.tup xs) → c ≠ x := fun c xs r z => by subst z; rw [r] at mu; exact mu
  by_cases hb : b = x
  · subst hb; rw [upd_same] at q; cases q; exact new
  · rw [upd_ne hb] at q
    by_cases hbe : b = e
    · have q' : H b = some (.own x) := by
        rcases he with z | z
        · exact absurd (hbe.trans z) hb
        · rw [hbe]; exact z
      rw [q] at q'; cases q'
      obtain ⟨v, hv⟩ := heo
      exact ⟨v, by rw [hbe]; exact hv⟩
    · refine (ok b u q).stay (fun c v hc r => k c v ?_ r) (fun c r => by rw [upd_ne (nown c b r)]; exact r) fun c xs r => by rw [upd_ne (ntup c xs r)]; exact r
      rcases hc with rfl | hc
      · exact hbe
      · rintro rfl
        rcases he with z | z
        · exact nown c b hc z
        · rw [hc] at z; cases z; exact hb rfl
end
structure Un (fs ex : List Addr) (H H' : Hp) (h h' : Heap) : Prop where
  keep : ∀ b o, h.get? b = some o → H b = none → b ∉ fs → b ∉ ex → h'.get? b = some o
  slot : ∀ b o, h.get? b = some o → H b = none → b ∈ fs → b ∉ ex → ∃ sl, h'.get? b = some { o with slots := sl }
  free : ∀ b o, h.get? b = some o → H b = none → b ∉ ex → H' b = none
  there : ∀ b o, h.get? b = some o → b ∉ ex → ∃ o', h'.get? b = some o'
  tups : ∀ b xs, H b = some (.tup xs) → H' b = some (.tup xs)
  frzs : ∀ b o u, H b = some (.frz o u) → H' b = some (.frz o u)
  tbls : ∀ b ps, H b = some (.tbl ps) → ∃ more, H' b = some (.tbl (ps ++ more))
section
variable {fs fs' ex ex' : List Addr} {H H1 H2 : Hp} {h h1 h2 h' : Heap} {a x e : Addr} {o : HO}
theorem Un.any (u : Un fs ex H H1 h h1) {b : Addr} {ob : Obj} (q : h.get? b = some ob) (n : H b = none) (hx : b ∉ ex) : ∃ sl, h1.get? b = some { ob with slots := sl } := by
  by_cases hb : b ∈ fs
  · exact u.slot b ob q n hb hx
  · exact ⟨ob.slots, u.keep b ob q n hb hx⟩
theorem Un.trans (a : Un fs ex H H1 h h1) (b : Un fs ex H1 H2 h1 h2) : Un fs ex H H2 h h2 where
  keep := fun c ob q n hc hx => b.keep c ob (a.keep c ob q n hc hx) (a.free c ob q n hx) hc hx
  slot := fun c ob q n hc hx => by
    obtain ⟨sl, e1⟩ := a.slot c ob q n hc hx
    obtain ⟨sl', e2⟩ := b.slot c _ e1 (a.free c ob q n hx) hc hx
    exact ⟨sl', e2⟩
  free := fun c ob q n hx => by
    obtain ⟨o', e1⟩ := a.there c ob q hx
    exact b.free c o' e1 (a.free c ob q n hx) hx
  there := fun c ob q hx => by
    obtain ⟨o', e1⟩ := a.there c ob q hx
    exact b.there c o' e1 hx
  tups := fun c xs q => b.tups c xs (a.tups c xs q)
  frzs := fun c ob xs q => b.frzs c ob xs (a.frzs c ob xs q)
  tbls := fun c ps q => by
    obtain ⟨m1, e1⟩ := a.tbls c ps q
    obtain ⟨m2, e2⟩ := b.tbls c _ e1
    exact ⟨m1 ++ m2, by rw [e2, Array.append_assoc]⟩
theorem Un.kept (k : ∀ b u, h.get? b = some u → h'.get? b = some u) : Un fs ex H H h h' :=
  ⟨fun b ob q _ _ _ => k b ob q, fun b ob q _ _ _ => ⟨ob.slots, k b ob q⟩, fun _ _ _ n _ => n, fun b ob q _ => ⟨ob, k b ob q⟩, fun _ _ q => q, fun _ _ _ q => q, fun _ ps q => ⟨#[], by rw [q]; simp⟩⟩
theorem Un.refl : Un fs ex H H h h := Un.kept fun _ _ q => q
theorem Un.laid (k : ∀ b u, h.get? b = some u → h'.get? b = some u) (hp : h.objs.size ≤ a) (hn : H a = none) : Un fs ex H (upd H a o) h h' where
  keep := fun b u q _ _ _ => k b u q
  slot := fun b u q _ _ _ => ⟨u.slots, k b u q⟩
  free := fun b u q n _ => by rw [upd_ne (Nat.ne_of_lt (Nat.lt_of_lt_of_le (Heap.lt_size q) hp))]; exact n
  there := fun b u q _ => ⟨u, k b u q⟩
  tups := fun b xs q => by rw [upd_ne (ne_of_none q hn)]; exact q
  frzs := fun b u xs q => by rw [upd_ne (ne_of_none q hn)]; exact q
  tbls := fun b ps q => ⟨#[], by rw [upd_ne (ne_of_none q hn), q]; simp⟩
theorem Un.write (mu : Mut (H x)) (he : e = x ∨ H e = some (.own x)) (k : ∀ b u, b ≠ e → h.get? b = some u → h'.get? b = some u) (heo : ∃ u, h'.get? e = some u) : Un fs ex H (upd H x o) h h' := by
  have hx : ∀ b, H b = none → b ≠ x := fun b n z => by subst z; rw [n] at mu; exact mu
  have hb : ∀ b, H b = none → b ≠ e := fun b n z => by
    subst z
    rcases he with r | r
    · exact hx b n r
    · rw [n] at r; cases r
  have hm : ∀ b u, H b = some u → ¬ Mut (some u) → b ≠ x := fun b u q nm z => by subst z; rw [q] at mu; exact nm mu
  refine ⟨fun b u q n _ _ => k b u (hb b n) q, fun b u q n _ _ => ⟨u.slots, k b u (hb b n) q⟩, fun b u q n _ => by rw [upd_ne (hx b n)]; exact n, fun b u q _ => ?_,
    fun b xs q => by rw [upd_ne (hm b _ q fun z => z)]; exact q, fun b u xs q => by rw [upd_ne (hm b _ q fun z => z)]; exact q, fun b ps q => ⟨#[], by rw [upd_ne (hm b _ q fun z => z), q]; simp⟩⟩
  by_cases hbe : b = e
  · subst hbe; exact heo
  · exact ⟨u, k b u hbe q⟩
theorem Un.mono (u : Un fs ex H H1 h h1) (hs : ∀ b ∈ fs, b ∈ fs') (hx : ∀ b ∈ ex, b ∈ ex') : Un fs' ex' H H1 h h1 :=
  ⟨fun b ob q n hb he => u.keep b ob q n (fun z => hb (hs b z)) fun z => he (hx b z), fun _ _ q n _ he => u.any q n fun z => he (hx _ z), fun b ob q n he => u.free b ob q n fun z => he (hx b z), fun b ob q he => u.there b ob q fun z => he (hx b z), u.tups, u.frzs, u.tbls⟩
end
def trk (h : Heap) (H : Hp) : List Addr := (List.range h.objs.size).filter fun a => (H a).isSome
def hidT (h : Heap) (H : Hp) : Heap := PySem.W.hideAll h (trk h H)
theorem hidT_size (h : Heap) (H : Hp) : (hidT h H).objs.size = h.objs.size := PySem.W.hideAll_size _ _
theorem hidT_get {h : Heap} {H : Hp} {b : Addr} {o : Obj} (e : h.get? b = some o) (n : H b = none) : (hidT h H).get? b = some o :=
  PySem.W.hideAll_get _ e fun hm => by
    have q : (H b).isSome = true := (List.mem_filter.mp hm).2
    rw [n] at q; simp at q
theorem of_hidT {h : Heap} {H : Hp} {b : Addr} {o : Obj} (e : (hidT h H).get? b = some o) : h.get? b = some o ∧ H b = none := by
  have e' : h.get? b = some o := PySem.W.of_hideAll (trk h H) e
  refine ⟨e', ?_⟩
  cases q : H b with
  | none => rfl
  | some x =>
    have hm : b ∈ trk h H := List.mem_filter.mpr ⟨List.mem_range.mpr (Heap.lt_size e'), by simp [q]⟩
    have z : (hidT h H).get? b = none := PySem.W.hideAll_none (trk h H) hm
    rw [z] at e; cases e
def allNews (g h : Heap) (L : Addr) : List (Addr × Obj) := (List.range h.objs.size).filterMap fun a => if a = L ∨ (g.get? a).isSome = true then none else (h.get? a).map fun o => (a, o)
def rest (g h : Heap) (L d : Addr) : List (Addr × Obj) := (allNews g h L).filter fun p => decide (p.1 ≠ d)
end L2
namespace L2
open PySem PySem.Spec PyProof.Rows
structure Mod (K : PySem.W.Frag) (mg : Str → Option Value) (base : Heap) : Prop where
  kin : K.In base
  glob : base.Ns mainGlobals mg
  blt : ∃ mb, base.Ns builtinsNs mb ∧ ∀ x : Str, x ≠ "__name__" → mb x = bootBuiltins x
  nolimit : base.NoLimit
structure Cx where
  prog : Program
  w : World
  K : PySem.W.Frag
  mg : Str → Option Value
  base : Heap
  A : Around
  N : List Str
  s₀ : Shared
  H₀ : Hp
  env : Env
  outer : List Env
  stack : List Env
  ex : List Addr
  fn : Str → Bool
  calm : Bool
  pn : List (Addr × Obj)
  xe : Value → Shared → Prop
def frs (l : List Env) : List Addr := l.filterMap (·.frame)
abbrev Cx.fs (X : Cx) : List Addr := frs X.outer
def Vis (sc : Scope) (x : Str) : Prop := sc.names.lookup x = some .local ∨ sc.names.lookup x = some .cell ∨ sc.names.lookup x = some .free
def Loc (sc : Scope) (x : Str) : Prop := sc.names.lookup x = some .local ∨ sc.names.lookup x = some .cell
def Look (env : Env) (h : Heap) (m : Str → Option Value) (x : Str) (u : Value) : Prop :=
  (env.kindOf x = some .local ∧ m x = some u) ∨ ((env.kindOf x = some .cell ∨ env.kindOf x = some .free) ∧ ∃ c, env.cells.lookup x = some c ∧ h.IsCell c (some u))
structure Cx.Ok (X : Cx) : Prop where
  mod : Mod X.K X.mg X.base
  kind : X.env.scope.kind = .function
  glob : X.env.globals = mainGlobals
  blt : X.env.builtins = builtinsNs
  above : X.s₀.heap.objs.size ≤ X.env.locals
  inj : ∀ x y c, X.env.cells.lookup x = some c → X.env.cells.lookup y = some c → x = y
  has : ∀ x, (X.env.kindOf x = some .cell ∨ X.env.kindOf x = some .free) → ∃ c, X.env.cells.lookup x = some c
  cab : ∀ x c, X.fn x = true → X.env.cells.lookup x = some c → X.s₀.heap.objs.size ≤ c
  hd : X.calm = true → X.A.handled = none
  frames : X.A.frames = some X.stack
  stk : X.stack = X.outer ∨ (X.stack = X.env :: X.outer ∧ X.env.frame = some X.env.locals)
  exf : ∀ b ∈ X.ex, b ≠ X.env.locals ∧ ∀ x c, X.env.cells.lookup x = some c → c ≠ b
  bs : ∀ b o, X.base.get? b = some o → X.s₀.heap.get? b = some o ∧ X.H₀ b = none
  bsz : X.base.objs.size ≤ X.s₀.heap.objs.size
  noex : ∀ b o, X.base.get? b = some o → b ∉ X.ex
  exfs : ∀ b ∈ X.ex, b ∉ X.fs
  funs : X.s₀.heap.FunFrames X.base X.outer
  frf : ∀ b ∈ X.fs, X.H₀ b = none
structure Inv (X : Cx) (pins : List (Addr × Obj)) (σ : List (Option V)) (H : Hp) (s : Shared) : Prop where
  ok : X.Ok
  os : s.os = X.s₀.os
  bare : AllBare s.gens
  base : Un X.fs X.ex X.H₀ H X.s₀.heap s.heap
  loc : ∃ m, s.heap.Ns X.env.locals m ∧ ∀ (i : Nat) (x : Str) (v : V), X.N[i]? = some x → σ[i]? = some (some v) → Vis X.env.scope x → ∃ u, RelV v u ∧ Look X.env s.heap m x u
  cell : ∀ x c, X.env.cells.lookup x = some c → ∃ v, s.heap.IsCell c v
  free : H X.env.locals = none
  freeC : ∀ x c, X.env.cells.lookup x = some c → H c = none
  pin : ∀ p ∈ X.pn ++ pins, s.heap.get? p.1 = some p.2 ∧ H p.1 = none ∧ p.1 ≠ X.env.locals ∧ p.1 ∉ X.fs ∧ ∀ v, p.2.data ≠ .cell v
  hok : HOk X.prog X.w H s.heap
  len : σ.length = X.N.length
section
variable {X : Cx} {pins : List (Addr × Obj)} {σ : List (Option V)} {H H' : Hp} {s : Shared} {h' : Heap}
theorem Cx.Ok.nofr (ok : X.Ok) {b : Addr} {o : Obj} (e : X.base.get? b = some o) : b ∉ X.fs := fun hb => by
  have := (ok.funs.mem hb).1
  rw [e] at this; cases this
theorem Inv.bs (I : Inv X pins σ H s) : ∀ b o, X.base.get? b = some o → s.heap.get? b = some o ∧ H b = none := fun b o e =>
  ⟨I.base.keep b o (I.ok.bs b o e).1 (I.ok.bs b o e).2 (I.ok.nofr e) (I.ok.noex b o e), I.base.free b o (I.ok.bs b o e).1 (I.ok.bs b o e).2 (I.ok.noex b o e)⟩
theorem Inv.bk (I : Inv X pins σ H s) : ∀ b o, X.base.get? b = some o → s.heap.get? b = some o := fun b o e => (I.bs b o e).1
theorem Inv.mod (I : Inv X pins σ H s) : Mod X.K X.mg X.base := I.ok.mod
theorem Inv.kIn (I : Inv X pins σ H s) : X.K.In s.heap := I.ok.mod.kin.keeps I.bk
theorem Inv.nolimit (I : Inv X pins σ H s) : s.heap.NoLimit := I.ok.mod.nolimit.keeps I.bk
theorem Inv.fr (I : Inv X pins σ H s) : ∃ m, Fr X.base X.env.locals s.heap m :=
  let ⟨m, hn, _⟩ := I.loc
  ⟨m, hn, I.bk, Nat.le_trans I.ok.bsz I.ok.above⟩
theorem Inv.lt (I : Inv X pins σ H s) : X.env.locals < s.heap.objs.size := let ⟨_, hn, _⟩ := I.loc; hn.lt
theorem Inv.sz (I : Inv X pins σ H s) : X.s₀.heap.objs.size ≤ s.heap.objs.size := Nat.le_trans I.ok.above (Nat.le_of_lt I.lt)
theorem Inv.nofs (I : Inv X pins σ H s) {a : Addr} (h : s.heap.objs.size ≤ a) : a ∉ X.fs := fun hb => by
  obtain ⟨_, o, ho, _⟩ := I.ok.funs.mem hb
  exact absurd (Nat.lt_of_lt_of_le (Heap.lt_size ho) (Nat.le_trans I.sz h)) (Nat.lt_irrefl _)
theorem Inv.cne (I : Inv X pins σ H s) : ∀ x c, X.env.cells.lookup x = some c → c ≠ X.env.locals := fun x c e z => by
  obtain ⟨v, o, ho, hd⟩ := I.cell x c e
  obtain ⟨m, ⟨o', es, ep, ho', hd', _⟩, _⟩ := I.loc
  rw [z, ho'] at ho; cases ho; rw [hd'] at hd; cases hd
theorem Inv.funs (I : Inv X pins σ H s) : s.heap.FunFrames X.base X.outer := by
  have all : ∀ (l : List Env), (∀ b ∈ frs l, b ∈ X.fs) → X.s₀.heap.FunFrames X.base l → s.heap.FunFrames X.base l := by
    intro l
    induction l with
    | nil => intro _ _; trivial
    | cons env r ih =>
      intro hs hl
      obtain ⟨hk, ⟨L, o, hf, hn, ho, hd⟩, hr⟩ := hl
      have hL : L ∈ X.fs := hs L (by unfold frs; rw [List.filterMap_cons, hf]; exact List.mem_cons_self)
      obtain ⟨sl, e⟩ := I.base.slot L o ho (I.ok.frf L hL) hL fun z => I.ok.exfs L z hL
      exact ⟨hk, ⟨L, _, hf, hn, e, hd⟩, ih (fun b hb => hs b (by unfold frs; rw [List.filterMap_cons, hf]; exact List.mem_cons_of_mem _ hb)) hr⟩
  exact all X.outer (fun _ hb => hb) I.ok.funs
theorem Inv.stack (I : Inv X pins σ H s) : s.heap.FunFrames X.base X.stack := by
  rcases I.ok.stk with e | ⟨e, hf⟩
  · rw [e]; exact I.funs
  · rw [e]
    obtain ⟨m, hn, _⟩ := I.loc
    refine .cons (by rw [I.ok.kind]; decide) hf hn ?_ I.funs
    exact Heap.get?_none_of_le (Nat.le_trans I.ok.bsz I.ok.above)
theorem Inv.stkSub (I : Inv X pins σ H s) : ∀ b ∈ frs X.stack, b ∈ X.env.locals :: X.fs := fun b hb => by
  rcases I.ok.stk with e | ⟨e, hf⟩
  · rw [e] at hb; exact List.mem_cons_of_mem _ hb
  · rw [e] at hb
    unfold frs at hb
    rw [List.filterMap_cons, hf] at hb
    exact hb
theorem Inv.stkFree (I : Inv X pins σ H s) : ∀ b ∈ frs X.stack, H b = none := fun b hb => by
  rcases List.mem_cons.mp (I.stkSub b hb) with e | hb
  · rw [e]; exact I.free
  · obtain ⟨_, o, ho, _⟩ := I.ok.funs.mem hb
    exact I.base.free b o ho (I.ok.frf b hb) fun z => I.ok.exfs b z hb
theorem Inv.step {g' : Array GenState} {t' : Nat} {d' : Drawn} {ch : List Addr} (I : Inv X pins σ H s)
    (hch : ∀ b ∈ ch, (b ∈ X.ex ∨ X.s₀.heap.objs.size ≤ b) ∧ b ≠ X.env.locals ∧ (∀ x c, X.env.cells.lookup x = some c → c ≠ b) ∧ ∀ p ∈ X.pn ++ pins, p.1 ≠ b)
    (keep : ∀ b o, b ≠ X.env.locals → b ∉ X.fs → b ∉ ch → s.heap.get? b = some o → H b = none → h'.get? b = some o)
    (slot : ∀ b o, b ≠ X.env.locals → b ∈ X.fs → b ∉ ch → s.heap.get? b = some o → H b = none → ∃ sl, h'.get? b = some { o with slots := sl }) (free : ∀ b o, b ∉ ch → s.heap.get? b = some o → H b = none → H' b = none)
    (there : ∀ b o, b ∉ ch → s.heap.get? b = some o → ∃ o', h'.get? b = some o')
    (tups : ∀ b xs, H b = some (.tup xs) → H' b = some (.tup xs)) (frzs : ∀ b o u, H b = some (.frz o u) → H' b = some (.frz o u)) (tbls : ∀ b ps, H b = some (.tbl ps) → ∃ more, H' b = some (.tbl (ps ++ more)))
    (ns : ∀ m, s.heap.Ns X.env.locals m → h'.Ns X.env.locals m) (hok : HOk X.prog X.w H' h') (hg : AllBare g') :
    Inv X pins σ H' { s with heap := h', gens := g', drawn := d', toks := t' } := by
  have neL : ∀ b o, X.s₀.heap.get? b = some o → b ≠ X.env.locals := fun b o e => Nat.ne_of_lt (Nat.lt_of_lt_of_le (Heap.lt_size e) I.ok.above)
  have neC : ∀ b o, X.s₀.heap.get? b = some o → b ∉ X.ex → b ∉ ch := fun b o e hx hb => by
    rcases (hch b hb).1 with z | z
    · exact hx z
    · exact absurd (Nat.lt_of_lt_of_le (Heap.lt_size e) z) (Nat.lt_irrefl _)
  have cellK : ∀ x c, X.env.cells.lookup x = some c → ∀ v, s.heap.IsCell c v → h'.IsCell c v := fun x c e v ⟨o, ho, hd⟩ => by
    have nch : c ∉ ch := fun z => (hch c z).2.2.1 x c e rfl
    by_cases hc : c ∈ X.fs
    · obtain ⟨sl, q⟩ := slot c o (I.cne x c e) hc nch ho (I.freeC x c e)
      exact ⟨_, q, hd⟩
    · exact ⟨o, keep c o (I.cne x c e) hc nch ho (I.freeC x c e), hd⟩
  refine ⟨I.ok, I.os, hg, ⟨fun b o e n hb hx => ?_, fun b o e n hb hx => ?_, fun b o e n hx => ?_, fun b o e hx => ?_, fun b xs e => tups b xs (I.base.tups b xs e), fun b o xs e => frzs b o xs (I.base.frzs b o xs e), fun b ps e => ?_⟩, ?_, fun x c e => ?_, ?_, fun x c e => ?_, fun p hp => ?_, hok, I.len⟩
  · exact keep b o (neL b o e) hb (neC b o e hx) (I.base.keep b o e n hb hx) (I.base.free b o e n hx)
  · obtain ⟨sl, e1⟩ := I.base.slot b o e n hb hx
    obtain ⟨sl', e2⟩ := slot b _ (neL b o e) hb (neC b o e hx) e1 (I.base.free b o e n hx)
    exact ⟨sl', e2⟩
  · obtain ⟨o', e1⟩ := I.base.there b o e hx
    exact free b o' (neC b o e hx) e1 (I.base.free b o e n hx)
  · obtain ⟨o', e1⟩ := I.base.there b o e hx
    exact there b o' (neC b o e hx) e1
  · obtain ⟨m1, e1⟩ := I.base.tbls b ps e
    obtain ⟨m2, e2⟩ := tbls b _ e1
    exact ⟨m1 ++ m2, by rw [e2, Array.append_assoc]⟩
  · obtain ⟨m, hn, hl⟩ := I.loc
    refine ⟨m, ns m hn, fun i x v e1 e2 e3 => ?_⟩
    obtain ⟨u, r, l⟩ := hl i x v e1 e2 e3
    refine ⟨u, r, ?_⟩
    rcases l with l | ⟨k, c, e, z⟩
    · exact .inl l
    · exact .inr ⟨k, c, e, cellK x c e _ z⟩
  · obtain ⟨v, z⟩ := I.cell x c e
    exact ⟨v, cellK x c e v z⟩
  · obtain ⟨m, ⟨o, _, _, ho, _⟩, _⟩ := I.loc
    exact free _ o (fun z => (hch _ z).2.1 rfl) ho I.free
  · obtain ⟨v, o, ho, hd⟩ := I.cell x c e
    exact free c o (fun z => (hch c z).2.2.1 x c e rfl) ho (I.freeC x c e)
  · obtain ⟨e, n, ne, nf, d⟩ := I.pin p hp
    have nch : p.1 ∉ ch := fun z => (hch p.1 z).2.2.2 p hp rfl
    exact ⟨keep p.1 p.2 ne nf nch e n, free p.1 p.2 nch e n, ne, nf, d⟩
theorem Inv.un {t' : Nat} (I : Inv X pins σ H s) (u : Un X.fs [] H H' s.heap h') (hok : HOk X.prog X.w H' h') : Inv X pins σ H' { s with heap := h', toks := t' } := by
  obtain ⟨m, ⟨o, es, ep, ho, r⟩, _⟩ := id I.loc
  obtain ⟨sl, hL⟩ := u.any ho I.free (by simp)
  exact I.step (g' := s.gens) (d' := s.drawn) (ch := []) (fun _ z => nomatch z) (fun b o _ hb _ e n => u.keep b o e n hb (by simp)) (fun b o _ hb _ e n => u.slot b o e n hb (by simp)) (fun b o _ e n => u.free b o e n (by simp)) (fun b o _ e => u.there b o e (by simp)) u.tups u.frzs u.tbls (fun m' hm => by
    obtain ⟨o', es', ep', ho', r'⟩ := hm
    rw [ho] at ho'; cases ho'
    exact ⟨_, es', ep', hL, r'⟩) hok I.bare
theorem Inv.call {g' : Array GenState} {t' : Nat} {d' : Drawn} {ch : List Addr} (I : Inv X pins σ H s) (u : Un (frs X.stack) ch H H' s.heap h') (hok : HOk X.prog X.w H' h') (hg : AllBare g')
    (hch : ∀ b ∈ ch, (b ∈ X.ex ∨ X.s₀.heap.objs.size ≤ b) ∧ b ≠ X.env.locals ∧ (∀ x c, X.env.cells.lookup x = some c → c ≠ b) ∧ ∀ p ∈ X.pn ++ pins, p.1 ≠ b) :
    Inv X pins σ H' { s with heap := h', gens := g', drawn := d', toks := t' } := by
  obtain ⟨m, ⟨o, es, ep, ho, r⟩, _⟩ := id I.loc
  obtain ⟨sl, hL⟩ := u.any ho I.free fun z => (hch _ z).2.1 rfl
  exact I.step (ch := ch) hch (fun b o hL hb hc e n => u.keep b o e n (fun z => (List.mem_cons.mp (I.stkSub b z)).elim hL hb) hc) (fun b o _ _ hc e n => u.any e n hc) (fun b o hc e n => u.free b o e n hc) (fun b o hc e => u.there b o e hc) u.tups u.frzs u.tbls (fun m' hm => by
    obtain ⟨o', es', ep', ho', r'⟩ := hm
    rw [ho] at ho'; cases ho'
    exact ⟨_, es', ep', hL, r'⟩) hok hg
theorem Inv.turned {t' : Nat} {it : Addr} (I : Inv X pins σ H s) (k : ∀ b o, b ≠ it → s.heap.get? b = some o → h'.get? b = some o) (hn : H it = none) (hL : it ≠ X.env.locals)
    (h1 : it ∈ X.ex ∨ X.s₀.heap.objs.size ≤ it) (h2 : ∀ x c, X.env.cells.lookup x = some c → c ≠ it) (h3 : ∀ p ∈ X.pn ++ pins, p.1 ≠ it) : Inv X pins σ H { s with heap := h', toks := t' } := by
  have nit : ∀ b u, H b = some u → b ≠ it := fun b u e z => by rw [z, hn] at e; cases e
  refine I.step (g' := s.gens) (d' := s.drawn) (ch := [it]) (fun b hb => ?_) (fun b o _ _ hc e _ => k b o (fun z => hc (by simp [z])) e) (fun b o _ _ hc e _ => ⟨o.slots, k b o (fun z => hc (by simp [z])) e⟩) (fun _ _ _ _ n => n)
    (fun b o hc e => ⟨o, k b o (fun z => hc (by simp [z])) e⟩) (fun _ _ e => e) (fun _ _ _ e => e) (fun b ps e => ⟨#[], by rw [e]; simp⟩) (fun m hm => ?_) (fun b u e => ?_) I.bare
  · have e : b = it := by simpa using hb
    subst e
    exact ⟨h1, hL, h2, h3⟩
  · obtain ⟨o, es, ep, ho, r⟩ := hm
    exact ⟨o, es, ep, k _ o (Ne.symm hL) ho, r⟩
  · refine (I.hok b u e).stay (fun c v hc q => k c v ?_ q) (fun _ q => q) fun _ _ q => q
    rcases hc with z | z
    · rw [z]; exact nit b u e
    · exact nit c _ z
theorem Inv.tok (I : Inv X pins σ H s) (t : Nat) : Inv X pins σ H { s with toks := t } := I.un (h' := s.heap) (t' := t) Un.refl I.hok
theorem Inv.kept {t' : Nat} (I : Inv X pins σ H s) (k : ∀ b u, s.heap.get? b = some u → h'.get? b = some u) : Inv X pins σ H { s with heap := h', toks := t' } := I.un (Un.kept k) (I.hok.kept k)
theorem Inv.laid {a : Addr} {o : HO} {t' : Nat} (I : Inv X pins σ H s) (k : ∀ b u, s.heap.get? b = some u → h'.get? b = some u) (hp : s.heap.objs.size ≤ a) (new : ObjOk X.prog X.w (upd H a o) h' a o) :
    Inv X pins σ (upd H a o) { s with heap := h', toks := t' } := I.un (Un.laid k hp (I.hok.fresh hp)) (I.hok.laid k hp new)
theorem Inv.write {x e : Addr} {o : HO} {t' : Nat} (I : Inv X pins σ H s) (mu : Mut (H x)) (he : e = x ∨ H e = some (.own x)) (k : ∀ b u, b ≠ e → s.heap.get? b = some u → h'.get? b = some u) (heo : ∃ u, h'.get? e = some u)
    (new : ObjOk X.prog X.w (upd H x o) h' x o) : Inv X pins σ (upd H x o) { s with heap := h', toks := t' } := I.un (Un.write mu he k heo) (I.hok.write mu he k heo new)
theorem Inv.weak {σ' : List (Option V)} (I : Inv X pins σ H s) (hl : σ'.length = σ.length) (w : ∀ (i : Nat) v, σ'[i]? = some (some v) → σ[i]? = some (some v)) : Inv X pins σ' H s :=
  ⟨I.ok, I.os, I.bare, I.base, let ⟨m, hn, hl'⟩ := I.loc; ⟨m, hn, fun i x v e1 e2 e3 => hl' i x v e1 (w i v e2) e3⟩, I.cell, I.free, I.freeC, I.pin, I.hok, hl.trans I.len⟩
theorem Inv.pins_of {pins' : List (Addr × Obj)} (I : Inv X pins σ H s) (h : ∀ p ∈ pins', s.heap.get? p.1 = some p.2 ∧ H p.1 = none ∧ p.1 ≠ X.env.locals ∧ p.1 ∉ X.fs ∧ ∀ v, p.2.data ≠ .cell v) : Inv X pins' σ H s :=
  ⟨I.ok, I.os, I.bare, I.base, I.loc, I.cell, I.free, I.freeC, fun p hp => (List.mem_append.mp hp).elim (fun z => I.pin p (List.mem_append_left _ z)) (h p), I.hok, I.len⟩
theorem nodup_ix {N : List Str} (hN : N.Nodup) {i j : Nat} {x : Str} (a : N[i]? = some x) (b : N[j]? = some x) : i = j := by
  obtain ⟨h1, e1⟩ := List.getElem?_eq_some_iff.mp a
  obtain ⟨h2, e2⟩ := List.getElem?_eq_some_iff.mp b
  exact (List.getElem_inj hN).mp (e1.trans e2.symm)
theorem store_ok2 {M : Model} {A : Around} {E : Value → Shared → Prop} {i : Nat} {x : Str} {v : V} {u : Value} {Q : Unit → Shared → Prop} (I : Inv X pins σ H s) (hN : X.N.Nodup) (hi : X.N[i]? = some x) (hx : Loc X.env.scope x) (r : RelV v u)
    (h : ∀ s', Inv X pins (σ.set i (some v)) H s' → (∃ a, Heap.SameBut a s.heap s'.heap ∧ (a = X.env.locals ∨ X.env.cells.lookup x = some a)) → Q () s') (hf : X.fn x = true ∨ X.env.scope.names.lookup x = some .local := by first | exact .inl rfl | exact .inr rfl | assumption) : wpAny M A (storeName X.env x u) Q E s := by
  obtain ⟨m, hn, hl⟩ := id I.loc
  have hcls : (X.env.scope.kind == .class || (X.env.scope.kind == .module && X.env.locals != X.env.globals)) = false := by rw [I.ok.kind]; rfl
  have hiσ : i < σ.length := by rw [I.len]; exact (List.getElem?_eq_some_iff.mp hi).1
  have cne := I.cne
  have tracked : ∀ {a : Addr} {h' : Heap}, (∃ o, s.heap.get? a = some o ∧ H a = none) → Heap.SameBut a s.heap h' → HOk X.prog X.w H h' := fun {a h'} ha hs b ob e => by
    obtain ⟨_, _, hfree⟩ := ha
    refine (I.hok b ob e).stay (fun c w' hc q => (hs.2 c ?_).trans q) (fun _ q => q) fun _ _ q => q
    rintro rfl
    rcases hc with rfl | hc
    · rw [hfree] at e; cases e
    · rw [hfree] at hc; cases hc
  rcases hx with hk | hk
  · refine wpAny_storeName_local hk hn (fun h' hn' hs => ?_) hcls
    obtain ⟨oL, _, _, hoL, _⟩ := id hn
    refine h _ ⟨I.ok, I.os, I.bare, ⟨fun b o e n hb hx => ?_, fun b o e n hb hx => ?_, I.base.free, fun b o e hx => ?_, I.base.tups, I.base.frzs, I.base.tbls⟩, ⟨_, hn', fun j y v' e1 e2 e3 => ?_⟩, fun y c e => ?_, I.free, I.freeC, fun p hp => ?_, tracked ⟨oL, hoL, I.free⟩ hs, by simpa using I.len⟩ ⟨_, hs, .inl rfl⟩
    · exact (hs.2 b (Nat.ne_of_lt (Nat.lt_of_lt_of_le (Heap.lt_size e) I.ok.above))).trans (I.base.keep b o e n hb hx)
    · obtain ⟨sl, e1⟩ := I.base.slot b o e n hb hx
      exact ⟨sl, (hs.2 b (Nat.ne_of_lt (Nat.lt_of_lt_of_le (Heap.lt_size e) I.ok.above))).trans e1⟩
    · obtain ⟨o', e1⟩ := I.base.there b o e hx
      exact ⟨o', (hs.2 b (Nat.ne_of_lt (Nat.lt_of_lt_of_le (Heap.lt_size e) I.ok.above))).trans e1⟩
    · by_cases hj : j = i
      · subst hj
        rw [hi] at e1; cases e1
        rw [List.getElem?_set_self hiσ] at e2
        cases e2
        exact ⟨u, r, .inl ⟨hk, by simp⟩⟩
      · rw [List.getElem?_set_ne (Ne.symm hj)] at e2
        obtain ⟨u', r', q⟩ := hl j y v' e1 e2 e3
        refine ⟨u', r', ?_⟩
        rcases q with ⟨k, e⟩ | ⟨k, c, e, z⟩
        · refine .inl ⟨k, ?_⟩
          have : y ≠ x := fun e => hj (nodup_ix hN e1 (e ▸ hi))
          simp [this, e]
        · exact .inr ⟨k, c, e, z.sameBut hs (cne y c e)⟩
    · obtain ⟨w', z⟩ := I.cell y c e
      exact ⟨w', z.sameBut hs (cne y c e)⟩
    · obtain ⟨e, n, ne, nf, d⟩ := I.pin p hp
      exact ⟨(hs.2 p.1 ne).trans e, n, ne, nf, d⟩
  · have hfn : X.fn x = true := by
      rcases hf with z | z
      · exact z
      · rw [z] at hk; cases hk
    obtain ⟨c, hc⟩ := I.ok.has x (.inl hk)
    obtain ⟨w', z⟩ := I.cell x c hc
    refine wpAny_storeName_cell I.ok.kind hk hc z (fun h' hc' hs => ?_)
    obtain ⟨oc, hoc, hocd⟩ := id z
    refine h { s with heap := h' } ⟨I.ok, I.os, I.bare, ⟨fun b o e n hb hx => ?_, fun b o e n hb hx => ?_, I.base.free, fun b o e hx => ?_, I.base.tups, I.base.frzs, I.base.tbls⟩, ⟨m, hn.sameBut hs (Ne.symm (cne x c hc)), fun j y v' e1 e2 e3 => ?_⟩, fun y c' e => ?_, I.free, I.freeC, fun p hp => ?_, tracked ⟨oc, hoc, I.freeC x c hc⟩ hs, by simpa using I.len⟩ ⟨c, hs, .inr hc⟩
    · exact (hs.2 b (Nat.ne_of_lt (Nat.lt_of_lt_of_le (Heap.lt_size e) (I.ok.cab x c hfn hc)))).trans (I.base.keep b o e n hb hx)
    · obtain ⟨sl, e1⟩ := I.base.slot b o e n hb hx
      exact ⟨sl, (hs.2 b (Nat.ne_of_lt (Nat.lt_of_lt_of_le (Heap.lt_size e) (I.ok.cab x c hfn hc)))).trans e1⟩
    · obtain ⟨o', e1⟩ := I.base.there b o e hx
      exact ⟨o', (hs.2 b (Nat.ne_of_lt (Nat.lt_of_lt_of_le (Heap.lt_size e) (I.ok.cab x c hfn hc)))).trans e1⟩
    · by_cases hj : j = i
      · subst hj
        rw [hi] at e1; cases e1
        rw [List.getElem?_set_self hiσ] at e2
        cases e2
        exact ⟨u, r, .inr ⟨.inl hk, c, hc, hc'⟩⟩
      · rw [List.getElem?_set_ne (Ne.symm hj)] at e2
        obtain ⟨u', r', q⟩ := hl j y v' e1 e2 e3
        refine ⟨u', r', ?_⟩
        rcases q with q | ⟨k, c', e, z'⟩
        · exact .inl q
        · refine .inr ⟨k, c', e, z'.sameBut hs ?_⟩
          rintro rfl
          exact hj (nodup_ix hN e1 (I.ok.inj _ _ _ e hc ▸ hi))
    · by_cases hcc : c' = c
      · subst hcc; exact ⟨_, hc'⟩
      · obtain ⟨w2, z2⟩ := I.cell y c' e
        exact ⟨w2, z2.sameBut hs hcc⟩
    · obtain ⟨e, n, ne, nf, d⟩ := I.pin p hp
      refine ⟨(hs.2 p.1 ?_).trans e, n, ne, nf, d⟩
      intro q
      rw [q, hoc] at e
      have q' : oc = p.2 := Option.some.inj e
      exact d w' (by rw [← q']; exact hocd)
theorem store_ok {M : Model} {A : Around} {E : Value → Shared → Prop} {i : Nat} {x : Str} {v : V} {u : Value} {Q : Unit → Shared → Prop} (I : Inv X pins σ H s) (hN : X.N.Nodup) (hi : X.N[i]? = some x) (hx : Loc X.env.scope x) (r : RelV v u)
    (h : ∀ s', Inv X pins (σ.set i (some v)) H s' → Q () s') (hf : X.fn x = true ∨ X.env.scope.names.lookup x = some .local := by first | exact .inl rfl | exact .inr rfl | assumption) : wpAny M A (storeName X.env x u) Q E s :=
  store_ok2 I hN hi hx r (fun s' I' _ => h s' I') hf
theorem Inv.call' {s' : Shared} {ch : List Addr} (I : Inv X pins σ H s) (ho : s'.os = s.os) (u : Un (frs X.stack) ch H H' s.heap s'.heap) (hok : HOk X.prog X.w H' s'.heap) (hg : AllBare s'.gens)
    (hch : ∀ b ∈ ch, (b ∈ X.ex ∨ X.s₀.heap.objs.size ≤ b) ∧ b ≠ X.env.locals ∧ (∀ x c, X.env.cells.lookup x = some c → c ≠ b) ∧ ∀ p ∈ X.pn ++ pins, p.1 ≠ b) : Inv X pins σ H' s' := by
  obtain ⟨h', g', d', t', o'⟩ := s'
  have e : o' = s.os := ho
  subst e
  exact I.call (g' := g') (t' := t') (d' := d') u hok hg hch
end
abbrev XK := Value → Option Addr → Hp → Prop
abbrev St := List (Option V)
abbrev VK := V → Hp → Prop
abbrev TE := St → Hp → VK → Prop
abbrev TT := St → Hp → (Bool → Hp → Prop) → Prop
abbrev TA := St → Hp → (List V → Hp → Prop) → Prop
structure Ends where
  nx : St → Hp → Prop
  rt : VK
  bk : St → Hp → Prop := fun _ _ => False
  ct : St → Hp → Prop := fun _ _ => False
abbrev TS := Ends → St → Hp → Prop
def EP (X : Cx) (pins : List (Addr × Obj)) (σ : St) (Q : VK) (u : Value) (s' : Shared) : Prop := ∃ v H', Inv X pins σ H' s' ∧ RelV v u ∧ Q v H'
def TP (X : Cx) (pins : List (Addr × Obj)) (σ : St) (Q : Bool → Hp → Prop) (b : Bool) (s' : Shared) : Prop := ∃ H', Inv X pins σ H' s' ∧ Q b H'
def AP (X : Cx) (pins : List (Addr × Obj)) (σ : St) (Q : List V → Hp → Prop) (us : List Value) (s' : Shared) : Prop := ∃ vs H', Inv X pins σ H' s' ∧ Vals vs us ∧ Q vs H'
def SP (X : Cx) (pins : List (Addr × Obj)) (D : Ends) (f : Flow) (s' : Shared) : Prop :=
  match f with
  | .next => ∃ σ' H', Inv X pins σ' H' s' ∧ D.nx σ' H'
  | .brk => ∃ σ' H', Inv X pins σ' H' s' ∧ D.bk σ' H'
  | .cont => ∃ σ' H', Inv X pins σ' H' s' ∧ D.ct σ' H'
  | .ret u => ∃ v σ' H', Inv X pins σ' H' s' ∧ RelV v u ∧ D.rt v H'
def PE (X : Cx) (e : Expr) (t : TE) : Prop :=
  ∀ (pins : List (Addr × Obj)) (s : Shared) (σ : St) (H : Hp) (Q : VK), Inv X pins σ H s → t σ H Q → wpAny (model X.prog X.w) X.A (eval e X.env) (EP X pins σ Q) X.xe s
def PT (X : Cx) (e : Expr) (t : TT) : Prop :=
  ∀ (pins : List (Addr × Obj)) (s : Shared) (σ : St) (H : Hp) (Q : Bool → Hp → Prop), Inv X pins σ H s → t σ H Q → wpAny (model X.prog X.w) X.A (isTrue e X.env (eval e X.env)) (TP X pins σ Q) X.xe s
def PW (X : Cx) (e : Expr) (t : TT) : Prop :=
  ∀ (whole : Sem Value) (pins : List (Addr × Obj)) (s : Shared) (σ : St) (H : Hp) (Q : Bool → Hp → Prop), Inv X pins σ H s → t σ H Q → wpAny (model X.prog X.w) X.A (isTrue e X.env whole) (TP X pins σ Q) X.xe s
theorem PW.pt {X : Cx} {e : Expr} {t : TT} (h : PW X e t) : PT X e t := h _
def PA (X : Cx) (es : List Expr) (t : TA) : Prop :=
  ∀ (pos : Pos) (pins : List (Addr × Obj)) (s : Shared) (σ : St) (H : Hp) (Q : List V → Hp → Prop), Inv X pins σ H s → t σ H Q → wpAny (model X.prog X.w) X.A (spliced (backTo pos (starEach es X.env))) (AP X pins σ Q) X.xe s
def PS (X : Cx) (st : Stmt) (t : TS) : Prop :=
  ∀ (pins : List (Addr × Obj)) (s : Shared) (σ : St) (H : Hp) (D : Ends), Inv X pins σ H s → t D σ H → wpAny (model X.prog X.w) X.A (exec st X.env) (SP X pins D) X.xe s
def PSs (X : Cx) (st : List Stmt) (t : TS) : Prop :=
  ∀ (pins : List (Addr × Obj)) (s : Shared) (σ : St) (H : Hp) (D : Ends), Inv X pins σ H s → t D σ H → wpAny (model X.prog X.w) X.A (execs st X.env) (SP X pins D) X.xe s
theorem thn {α : Type} {t : Sem α} {Q Q' : α → Shared → Prop} {M : Model} {A : Around} {E : Value → Shared → Prop} {s : Shared} (h : wpAny M A t Q E s) (hQ : ∀ a s, Q a s → Q' a s) : wpAny M A t Q' E s := wpAny_mono h hQ fun _ _ x => x
end L2
namespace L2
open PySem PySem.Spec PyProof.Rows
section
variable {X : Cx}
def tVar (i : Nat) : TE := fun σ H Q => ∃ v, σ[i]? = some (some v) ∧ Q v H
def tC (v : V) : TE := fun _ H Q => Q v H
theorem pe_var {i : Nat} {x : Str} {pos : Pos} (hN : X.N[i]? = some x) (hv : Vis X.env.scope x) (hd : (x == ("__debug__" : Str)) = false := by decide) (hcd : (x == ("__classdict__" : Str)) = false := by decide) : PE X (.Name x pos) (tVar i) := by
  intro pins s σ H Q I h
  obtain ⟨v, e, h⟩ := h
  obtain ⟨m, hn, hl⟩ := I.loc
  obtain ⟨u, r, l⟩ := hl i x v hN e hv
  have fin : EP X pins σ Q u s := ⟨v, H, I, r, h⟩
  rcases l with ⟨hk, hm⟩ | ⟨hk, c, hc, hcell⟩
  · exact wpAny_Name (wpAny_loadName_local I.ok.kind hk hn hm fin) hd
  · rcases hk with hk | hk
    · exact wpAny_Name (wpAny_loadName_cell I.ok.kind hk hc hcell fin) hd
    · exact wpAny_Name (wpAny_loadName_free I.ok.kind hk hc hcell fin hcd) hd
theorem pe_int {i j pos} : PE X (.Constant (.int i) j pos) (tC (.int i)) := fun _ _ _ H _ I h => wpAny_Constant_int ⟨.int i, H, I.tok _, ⟨_, rfl⟩, h⟩
theorem pe_non {j pos} : PE X (.Constant .none j pos) (tC .non) := fun _ _ _ H _ I h => Constant_none ⟨.non, H, I, rfl, h⟩
def Gl (X : Cx) (x : Str) : Prop := X.env.kindOf x = some .globalImplicit
theorem ld_glob {E : Value → Shared → Prop} {pins : List (Addr × Obj)} {s : Shared} {σ : St} {H : Hp} {x : Str} {u : Value} {pos : Pos} {Q : Value → Shared → Prop} (I : Inv X pins σ H s) (hg : Gl X x) (hm : X.mg x = some u) (h : Q u s)
    (hd : (x == ("__debug__" : Str)) = false := by decide) : wpAny (model X.prog X.w) X.A (eval (.Name x pos) X.env) Q E s :=
  Calls.Name_function_global I.ok.kind hg (Calls.loadGlobal_global (by rw [I.ok.glob]; exact I.mod.glob.keeps I.bk) hm h) hd
theorem ld_blt {E : Value → Shared → Prop} {pins : List (Addr × Obj)} {s : Shared} {σ : St} {H : Hp} {x : Str} {u : Value} {pos : Pos} {Q : Value → Shared → Prop} (I : Inv X pins σ H s) (hg : Gl X x) (hm : X.mg x = none) (hv : bootBuiltins x = some u) (h : Q u s)
    (hn : x ≠ "__name__" := by decide) (hd : (x == ("__debug__" : Str)) = false := by decide) : wpAny (model X.prog X.w) X.A (eval (.Name x pos) X.env) Q E s := by
  obtain ⟨mb, h1, h2⟩ := I.mod.blt
  exact Calls.Name_function_global I.ok.kind hg (Calls.loadGlobal_builtin (by rw [I.ok.glob]; exact I.mod.glob.keeps I.bk) hm (by rw [I.ok.blt]; exact h1.keeps I.bk) ((h2 x hn).trans hv) h) hd
theorem pe_glob {x : Str} {v : V} {u : Value} {pos : Pos} (hg : Gl X x) (hm : X.mg x = some u) (r : RelV v u) (hd : (x == ("__debug__" : Str)) = false := by decide) : PE X (.Name x pos) (tC v) :=
  fun _ _ _ H _ I h => ld_glob I hg hm ⟨v, H, I, r, h⟩ hd
variable {a b : Expr} {ta tb : TE} {pos : Pos}
def PC (X : Cx) (op : CmpOp) (a b : Expr) (t : TE) : Prop :=
  ∀ (pins : List (Addr × Obj)) (s : Shared) (σ : St) (H : Hp) (Q : VK), Inv X pins σ H s → t σ H Q →
    wpAny (model X.prog X.w) X.A (eval a X.env) (fun v s₁ => wpAny (model X.prog X.w) X.A (eval b X.env) (fun u s₂ => wpAny (model X.prog X.w) X.A (compareOp op v u) (EP X pins σ Q) X.xe s₂) X.xe s₁) X.xe s
def tB (t : TE) : TT := fun σ H Q => t σ H fun x H1 => ∃ c, x = .bl c ∧ Q c H1
theorem pt_val {e : Expr} {t : TE} (h : PE X e t) (he : ∀ whole, isTrue e X.env whole = (do let v ← whole; standAt e.pos; holding [v] (truthy v)) := by intro _; rfl) : PT X e (tB t) := by
  intro pins s σ H Q I hw
  refine isTrue_plain (thn (h pins s σ H _ I hw) fun v s1 ⟨x, H1, I1, r1, q1⟩ => ?_) (he _)
  obtain ⟨d, rfl, q⟩ := q1
  cases r1
  exact wpAny_truthy_bool ⟨H1, I1, q⟩
variable {tA tB' : TT} {rest : List Expr}
def tAnd (t u : TT) : TT := fun σ H Q => t σ H fun c H1 => if c = true then u σ H1 Q else Q false H1
def tOr (t u : TT) : TT := fun σ H Q => t σ H fun c H1 => if c = true then Q true H1 else u σ H1 Q
def tNot (t : TT) : TT := fun σ H Q => t σ H fun c H1 => Q (!c) H1
theorem pw_and1 (ha : PT X a tA) : PW X (.BoolOp .And [a] pos) tA := by
  intro wh pins s σ H Q I h
  refine isTrue_and (thn (ha pins s σ H Q I h) fun c s1 e => ?_)
  cases c with
  | true => exact isTrue_and_nil e
  | false => exact e
theorem pw_or1 (ha : PT X a tA) : PW X (.BoolOp .Or [a] pos) tA := by
  intro wh pins s σ H Q I h
  refine isTrue_or (thn (ha pins s σ H Q I h) fun c s1 e => ?_)
  cases c with
  | false => exact isTrue_or_nil e
  | true => exact e
theorem pw_and (ha : PT X a tA) (hb : PW X (.BoolOp .And (b :: rest) pos) tB') : PW X (.BoolOp .And (a :: b :: rest) pos) (tAnd tA tB') := by
  intro wh pins s σ H Q I h
  refine isTrue_and (thn (ha pins s σ H _ I h) fun c s1 ⟨H1, I1, q1⟩ => ?_)
  cases c with
  | true => exact hb wh pins s1 σ H1 Q I1 q1
  | false => exact ⟨H1, I1, q1⟩
theorem pw_or (ha : PT X a tA) (hb : PW X (.BoolOp .Or (b :: rest) pos) tB') : PW X (.BoolOp .Or (a :: b :: rest) pos) (tOr tA tB') := by
  intro wh pins s σ H Q I h
  refine isTrue_or (thn (ha pins s σ H _ I h) fun c s1 ⟨H1, I1, q1⟩ => ?_)
  cases c with
  | true => exact ⟨H1, I1, q1⟩
  | false => exact hb wh pins s1 σ H1 Q I1 q1
theorem pt_not (ha : PT X a tA) : PT X (.UnaryOp .Not a pos) (tNot tA) := by
  intro pins s σ H Q I h
  exact isTrue_not (ha pins s σ H (fun c H1 => Q (!c) H1) I h)
def tAndV (ta tb : TE) : TE := fun σ H Q => ta σ H fun x H1 => ∃ c, x = .bl c ∧ if c = true then tb σ H1 Q else Q (.bl false) H1
def tOrV (ta tb : TE) : TE := fun σ H Q => ta σ H fun x H1 => ∃ c, x = .bl c ∧ if c = true then Q (.bl true) H1 else tb σ H1 Q
def tNotV (ta : TE) : TE := fun σ H Q => ta σ H fun x H1 => ∃ c, x = .bl c ∧ Q (.bl (!c)) H1
def tIf (t : TT) (ta tb : TE) : TE := fun σ H Q => t σ H fun c H1 => if c = true then ta σ H1 Q else tb σ H1 Q
theorem pe_ifExp {c : Expr} (hc : PT X c tA) (ha : PE X a ta) (hb : PE X b tb) : PE X (.IfExp c a b pos) (tIf tA ta tb) := by
  intro pins s σ H Q I h
  refine wpAny_IfExp (thn (hc pins s σ H _ I h) fun d s1 ⟨H1, I1, q1⟩ => ?_)
  cases d with
  | true => exact ha pins s1 σ H1 Q I1 q1
  | false => exact hb pins s1 σ H1 Q I1 q1
end
end L2
namespace L2
open PySem PySem.Spec PyProof.Rows
def SqL (K : PySem.W.Frag) (H : Hp) (a : Addr) (xs : List V) : Prop :=
  Rd H a (.lst xs) ∨
    ∃ (o : Obj) (its : Array Value) (n : Nat), K.lookup a = some o ∧ o.cls = .type "list" ∧ o.dict = none ∧ o.data = .seq its n ∧ its.size ≤ sizeLine ∧ Vals xs its.toList
def SqT (K : PySem.W.Frag) (H : Hp) (a : Addr) (xs : List V) : Prop :=
  Rd H a (.tup xs) ∨
    ∃ (o : Obj) (its : Array Value) (n : Nat), K.lookup a = some o ∧ o.cls = .type "tuple" ∧ o.data = .seq its n ∧ its.size ≤ sizeLine ∧ Vals xs its.toList
def absV : Value → Option V
  | .none => some .non
  | .bool b => some (.bl b)
  | .int i _ => some (.int i)
  | .str x _ => some (.str x)
  | .bytes b _ => some (.byt b)
  | .float b _ => some (.flt b)
  | .ref a => some (.ref a)
  | .type n => some (.ty n)
  | _ => none
theorem RelV.abs {x : V} {u : Value} (r : RelV x u) : absV u = some x := by
  cases x with
  | non => cases r; rfl
  | bl _ => cases r; rfl
  | int _ => obtain ⟨t, rfl⟩ := r; rfl
  | str _ => obtain ⟨t, rfl⟩ := r; rfl
  | byt _ => obtain ⟨t, rfl⟩ := r; rfl
  | flt _ => obtain ⟨t, rfl⟩ := r; rfl
  | ref _ => cases r; rfl
  | ty _ => cases r; rfl
theorem RelV.inj {x y : V} {u : Value} (r : RelV x u) (q : RelV y u) : x = y := Option.some.inj (r.abs.symm.trans q.abs)
theorem Vals.inj : ∀ {xs ys : List V} {us : List Value}, Vals xs us → Vals ys us → xs = ys
  | _, _, _, .nil, .nil => rfl
  | _, _, _, .cons r t, .cons r' t' => by rw [r.inj r', Vals.inj t t']
section
variable {X : Cx} {pins : List (Addr × Obj)} {σ : St} {H : Hp} {s : Shared} {a : Addr} {xs ys : List V}
theorem SqL.of {K : PySem.W.Frag} (h : H a = some (.lst xs)) : SqL K H a xs := .inl (.inl h)
theorem SqT.of {K : PySem.W.Frag} (h : H a = some (.tup xs)) : SqT K H a xs := .inl (.inl h)
theorem Inv.list (I : Inv X pins σ H s) (h : SqL X.K H a xs) : ∃ its : List Value, Vals xs its ∧ PlainL s.heap a its.toArray ∧ xs.length ≤ sizeLine := by
  rcases h with h | ⟨o, its, n, hk, hc, hd, hs, hz, r⟩
  · obtain ⟨z, its, n, r, e⟩ := h.ok I.hok
    exact ⟨its, r, ⟨_, n, e, rfl, rfl, rfl⟩, z⟩
  · refine ⟨its.toList, r, ⟨o, n, I.kIn a o hk, hc, hd, by simpa using hs⟩, ?_⟩
    have e := r.length
    simp only [Array.length_toList] at e
    omega
theorem Inv.tuple (I : Inv X pins σ H s) (h : SqT X.K H a xs) : ∃ its : List Value, Vals xs its ∧ IsTup s.heap a its.toArray ∧ xs.length ≤ sizeLine := by
  rcases h with h | ⟨o, its, n, hk, hc, hs, hz, r⟩
  · obtain ⟨z, its, r, p⟩ := h.ok I.hok
    exact ⟨its, r, p, z⟩
  · refine ⟨its.toList, r, ⟨o, I.kIn a o hk, hc, n, by simpa using hs⟩, ?_⟩
    have e := r.length
    simp only [Array.length_toList] at e
    omega
theorem Inv.list_inj (I : Inv X pins σ H s) (h : SqL X.K H a xs) (h' : SqL X.K H a ys) : xs = ys := by
  obtain ⟨its, r, ⟨o, n, e, _, _, d⟩, _⟩ := I.list h
  obtain ⟨its', r', ⟨o', n', e', _, _, d'⟩, _⟩ := I.list h'
  rw [e] at e'; cases e'
  rw [d] at d'
  injection d' with d1 _
  have : its = its' := by simpa using congrArg Array.toList d1
  subst this
  exact r.inj r'
end
abbrev Cx.wish (X : Cx) (E : Value → Shared → Prop) : Cx := { X with xe := E }
abbrev Cx.nox (X : Cx) : Cx := X.wish fun _ _ => False
theorem Cx.Ok.wish {X : Cx} (ok : X.Ok) (E : Value → Shared → Prop) : (X.wish E).Ok :=
  ⟨ok.mod, ok.kind, ok.glob, ok.blt, ok.above, ok.inj, ok.has, ok.cab, ok.hd, ok.frames, ok.stk, ok.exf, ok.bs, ok.bsz, ok.noex, ok.exfs, ok.funs, ok.frf⟩
theorem Cx.Ok.unwish {X : Cx} {E : Value → Shared → Prop} (ok : (X.wish E).Ok) : X.Ok :=
  ⟨ok.mod, ok.kind, ok.glob, ok.blt, ok.above, ok.inj, ok.has, ok.cab, ok.hd, ok.frames, ok.stk, ok.exf, ok.bs, ok.bsz, ok.noex, ok.exfs, ok.funs, ok.frf⟩
section
variable {X : Cx} {pins : List (Addr × Obj)} {σ : St} {H : Hp} {s : Shared} {E : Value → Shared → Prop}
theorem Inv.wish (I : Inv X pins σ H s) (E : Value → Shared → Prop) : Inv (X.wish E) pins σ H s := ⟨I.ok.wish E, I.os, I.bare, I.base, I.loc, I.cell, I.free, I.freeC, I.pin, I.hok, I.len⟩
theorem Inv.unwish (I : Inv (X.wish E) pins σ H s) : Inv X pins σ H s := ⟨I.ok.unwish, I.os, I.bare, I.base, I.loc, I.cell, I.free, I.freeC, I.pin, I.hok, I.len⟩
theorem SP.unwish {D : Ends} {f : Flow} {s' : Shared} (h : SP (X.wish E) pins D f s') : SP X pins D f s' := by
  cases f with
  | next => obtain ⟨σ', H', I, q⟩ := h; exact ⟨σ', H', I.unwish, q⟩
  | brk => obtain ⟨σ', H', I, q⟩ := h; exact ⟨σ', H', I.unwish, q⟩
  | cont => obtain ⟨σ', H', I, q⟩ := h; exact ⟨σ', H', I.unwish, q⟩
  | ret u => obtain ⟨v, σ', H', I, r, q⟩ := h; exact ⟨v, σ', H', I.unwish, r, q⟩
theorem PE.nox {e : Expr} {t : TE} (h : PE X.nox e t) : PE X e t := fun pins s σ H Q I hw =>
  wpAny_mono (h pins s σ H Q (I.wish _) hw) (fun _ _ ⟨v, H', I', r, q⟩ => ⟨v, H', I'.unwish, r, q⟩) fun _ _ z => False.elim z
theorem PT.nox {e : Expr} {t : TT} (h : PT X.nox e t) : PT X e t := fun pins s σ H Q I hw =>
  wpAny_mono (h pins s σ H Q (I.wish _) hw) (fun _ _ ⟨H', I', q⟩ => ⟨H', I'.unwish, q⟩) fun _ _ z => False.elim z
theorem PSs.nox {st : List Stmt} {t : TS} (h : PSs X.nox st t) : PSs X st t := fun pins s σ H D I hw =>
  wpAny_mono (h pins s σ H D (I.wish _) hw) (fun _ _ q => q.unwish) fun _ _ z => False.elim z
end
section
variable {X : Cx} {st : Stmt} {rest : List Stmt} {t u : TS} {e : Expr} {te : TE} {pos : Pos}
def tNext : TS := fun D σ H => D.nx σ H
def tSeq (t u : TS) : TS := fun D σ H => t { D with nx := u D } σ H
theorem pss_nil : PSs X [] tNext := fun _ _ σ H _ I h => wpAny_execs_nil ⟨σ, H, I, h⟩
theorem pss_cons (h1 : PS X st t) (h2 : PSs X rest u) : PSs X (st :: rest) (tSeq t u) := by
  intro pins s σ H D I h
  refine wpAny_execs_cons (thn (h1 pins s σ H { D with nx := u D } I h) fun f s1 q => ?_)
  cases f with
  | next =>
    obtain ⟨σ', H', I', q⟩ := q
    exact h2 pins s1 σ' H' D I' q
  | ret v => exact q
  | brk => exact q
  | cont => exact q
theorem pss_one (h1 : PS X st t) : PSs X [st] t := by
  intro pins s σ H D I h
  refine wpAny_execs_cons (thn (h1 pins s σ H D I h) fun f s1 q => ?_)
  cases f with
  | next => exact wpAny_execs_nil q
  | ret v => exact q
  | brk => exact q
  | cont => exact q
theorem Inv.quiet {pins : List (Addr × Obj)} {σ : St} {H : Hp} {s : Shared} (I : Inv X pins σ H s) : interactive X.env = false := by simp [interactive, I.ok.kind]
def tDrop (te : TE) : TS := fun D σ H => te σ H fun _ H1 => D.nx σ H1
theorem ps_expr (he : PE X e te) (hs : swapsWith e none pos.line X.env = pure false := by rfl) : PS X (.Expr e pos) (tDrop te) := by
  intro pins s σ H D I h
  exact wpAny_Expr_any (thn (he pins s σ H _ I h) fun v s1 ⟨x, H1, I1, r1, q1⟩ => ⟨σ, H1, I1, q1⟩) I.quiet hs
def tRet (te : TE) : TS := fun D σ H => te σ H D.rt
theorem ps_ret (he : PE X e te) : PS X (.Return (some e) pos) (tRet te) := by
  intro pins s σ H D I h
  exact wpAny_Return_some (thn (he pins s σ H _ I h) fun v s1 ⟨x, H1, I1, r1, q1⟩ => ⟨x, σ, H1, I1, r1, q1⟩)
def tRetN : TS := fun D _ H => D.rt .non H
def tIfS (c : TT) (t u : TS) : TS := fun D σ H => c σ H fun b H1 => if b = true then t D σ H1 else u D σ H1
theorem ps_if {c : Expr} {a b : List Stmt} {tc : TT} (hc : PT X c tc) (ha : PSs X a t) (hb : PSs X b u) : PS X (.If c a b pos) (tIfS tc t u) := by
  intro pins s σ H D I h
  refine wpAny_If (thn (hc pins s σ H _ I h) fun d s1 ⟨H1, I1, q1⟩ => ?_)
  cases d with
  | true => exact ha pins s1 σ H1 D I1 q1
  | false => exact hb pins s1 σ H1 D I1 q1
def tNever : TS := fun _ _ _ => False
theorem pss_never {sts : List Stmt} : PSs X sts tNever := fun _ _ _ _ _ _ h => h.elim
end
abbrev TG := V → St → Hp → (St → Hp → Prop) → Prop
abbrev TGs := List V → St → Hp → (St → Hp → Prop) → Prop
def PG (X : Cx) (target : Expr) (t : TG) : Prop :=
  ∀ (pins : List (Addr × Obj)) (s : Shared) (σ : St) (H : Hp) (v : V) (u : Value) (Q : St → Hp → Prop), Inv X pins σ H s → RelV v u → t v σ H Q →
    wpAny (model X.prog X.w) X.A (assign target X.env u) (fun _ s' => ∃ σ' H', Inv X pins σ' H' s' ∧ Q σ' H') X.xe s
def PGs (X : Cx) (ts : List Expr) (t : TGs) : Prop :=
  ∀ (pins : List (Addr × Obj)) (s : Shared) (σ : St) (H : Hp) (vs : List V) (us : List Value) (Q : St → Hp → Prop), Inv X pins σ H s → Vals vs us → t vs σ H Q →
    wpAny (model X.prog X.w) X.A (assignInOrder ((assignEach ts X.env).map (·.2)) us) (fun _ s' => ∃ σ' H', Inv X pins σ' H' s' ∧ Q σ' H') X.xe s
abbrev TSet := V → V → V → Hp → (Hp → Prop) → Prop
def PSet (X : Cx) (t : TSet) : Prop :=
  ∀ (pins : List (Addr × Obj)) (s : Shared) (σ : St) (H : Hp) (o i v : V) (ov iv u : Value) (Q : Hp → Prop), Inv X pins σ H s → RelV o ov → RelV i iv → RelV v u → t o i v H Q →
    wpAny (model X.prog X.w) X.A (setItem ov iv u) (fun _ s' => ∃ H', Inv X pins σ H' s' ∧ Q H') X.xe s
abbrev TIp := V → V → Hp → VK → Prop
def PIp (X : Cx) (op : Operator) (t : TIp) : Prop :=
  ∀ (pins : List (Addr × Obj)) (s : Shared) (σ : St) (H : Hp) (x y : V) (v u : Value) (Q : VK), Inv X pins σ H s → RelV x v → RelV y u → t x y H Q →
    wpAny (model X.prog X.w) X.A (inplaceOp op v u) (EP X pins σ Q) X.xe s
section
variable {X : Cx} {pos : Pos}
def gName (i : Nat) : TG := fun v σ H Q => Q (σ.set i (some v)) H
theorem pg_name {i : Nat} {x : Str} (hN : X.N.Nodup) (hi : X.N[i]? = some x) (hx : Loc X.env.scope x) (hf : X.fn x = true ∨ X.env.scope.names.lookup x = some .local := by first | exact .inl rfl | exact .inr rfl | assumption) : PG X (.Name x pos) (gName i) := by
  intro pins s σ H v u Q I r h
  exact wpAny_assign_Name (store_ok I hN hi hx r (fun s' I' => ⟨_, H, I', h⟩) hf)
def gNil : TGs := fun vs σ H Q => vs = [] ∧ Q σ H
def gCons (t : TG) (u : TGs) : TGs := fun vs σ H Q => ∃ v r, vs = v :: r ∧ t v σ H fun σ' H' => u r σ' H' Q
theorem pgs_nil : PGs X [] gNil := by
  intro pins s σ H vs us Q I r h
  obtain ⟨e, h⟩ := h
  subst e
  cases r
  exact assignInOrder_nil ⟨σ, H, I, h⟩
theorem pgs_cons {e : Expr} {es : List Expr} {t : TG} {u : TGs} (h1 : PG X e t) (h2 : PGs X es u)
    (hs : (assignEach (e :: es) X.env).map (·.2) = assign e X.env :: (assignEach es X.env).map (·.2) := by rfl) : PGs X (e :: es) (gCons t u) := by
  intro pins s σ H vs us Q I r h
  obtain ⟨v, vr, e1, h⟩ := h
  subst e1
  cases r with
  | cons r rr =>
    rw [hs]
    refine assignInOrder_cons (thn (h1 pins s σ H _ _ _ I r h) fun _ s1 ⟨σ1, H1, I1, q1⟩ => ?_)
    exact h2 pins s1 σ1 H1 _ _ Q I1 rr q1
def gTup (K : PySem.W.Frag) (n : Nat) (t : TGs) : TG := fun v σ H Q => ∃ a xs, v = .ref a ∧ SqT K H a xs ∧ xs.length = n ∧ t xs σ H Q
theorem pg_tup {es : List Expr} {k : Nat} {t : TGs} {n : Nat} (hc : X.calm = true) (h : PGs X es t)
    (hn : (assignEach es X.env).length = n := by rfl) (hst : (assignEach es X.env).findIdx? (·.1) = none := by rfl) : PG X (.Tuple es k pos) (gTup X.K n t) := by
  intro pins s σ H v u Q I r hw
  obtain ⟨a, xs, e1, hq, hl, hw⟩ := hw
  subst e1
  cases r
  obtain ⟨its, rv, ht, hz⟩ := I.tuple hq
  refine assign_Tuple_tuple (I.ok.hd hc) ht (by simp [hn, ← hl, rv.length]) hst fun h' hx => ?_
  have I1 : Inv X pins σ H { s with heap := h' } := I.kept (t' := s.toks) fun b o e => hx b o (Nat.ne_of_lt (Heap.lt_size e)) e
  exact h pins _ σ H xs _ Q I1 (by simpa using rv) hw
def gSub (to ti : TE) (t : TSet) : TG := fun v σ H Q => to σ H fun o H1 => ti σ H1 fun i H2 => t o i v H2 fun H3 => Q σ H3
theorem pg_sub {o i : Expr} {to ti : TE} {t : TSet} (ho : PE X o to) (hi : PE X i ti) (hs : PSet X t)
    (ha : ∀ v, assign (.Subscript o i pos) X.env v = (do
      let ov ← holding [v] (eval o X.env)
      let iv ← holding [v, ov] (eval i X.env)
      standAt pos
      holding [v, ov, iv] (setItem ov iv v)
      release [v, ov, iv] []) := by intro _; rfl) : PG X (.Subscript o i pos) (gSub to ti t) := by
  intro pins s σ H v u Q I r h
  rw [ha]
  refine wpAny_bind (wpAny_holding (thn (ho pins s σ H _ I h) fun ov s1 ⟨x, H1, I1, r1, q1⟩ => ?_))
  refine wpAny_bind (wpAny_holding (thn (hi pins s1 σ H1 _ I1 q1) fun iv s2 ⟨y, H2, I2, r2, q2⟩ => ?_))
  refine wpAny_bind (wpAny_standAt (wpAny_bind (wpAny_holding (thn (hs pins s2 σ H2 x y v ov iv u _ I2 r1 r2 r q2) fun _ s3 ⟨H3, I3, q3⟩ => ?_))))
  exact wpAny_release ⟨σ, H3, I3, q3⟩
def tAsg (te : TE) (g : TG) : TS := fun D σ H => te σ H fun x H1 => g x σ H1 D.nx
theorem ps_asg {tg e : Expr} {te : TE} {g : TG} (he : PE X e te) (hg : PG X tg g) (hs : swapsWithSole [tg] e pos.line X.env = pure false := by rfl) (hw : swappedStores [tg] e X.env = pure none := by rfl)
    (h1 : (assignEach [tg] X.env).map (·.2) = [assign tg X.env] := by rfl) : PS X (.Assign [tg] e pos) (tAsg te g) := by
  intro pins s σ H D I h
  refine wpAny_Assign_stores (thn (he pins s σ H _ I h) fun v s1 ⟨x, H1, I1, r1, q1⟩ => ?_) hs hw
  rw [h1]
  exact thn (hg pins s1 σ H1 x v _ I1 r1 q1) fun _ s2 q => q
theorem ps_set {i : Nat} {x : Str} {e : Expr} {te : TE} {pos' : Pos} (hN : X.N.Nodup) (hi : X.N[i]? = some x) (hx : Loc X.env.scope x) (he : PE X e te) (hs : swapsWith e (some (.Name x pos')) pos.line X.env = pure false := by rfl) (hf : X.fn x = true ∨ X.env.scope.names.lookup x = some .local := by first | exact .inl rfl | exact .inr rfl | assumption) :
    PS X (.Assign [.Name x pos'] e pos) (tAsg te (gName i)) := by
  intro pins s σ H D I h
  refine wpAny_Assign_Name (thn (he pins s σ H _ I h) fun v s1 ⟨y, H1, I1, r1, q1⟩ => ?_) hs
  exact store_ok I1 hN hi hx r1 (fun s2 I2 => ⟨_, H1, I2, q1⟩) hf
def tAug (i : Nat) (te : TE) (ti : TIp) : TS := fun D σ H => ∃ x, σ[i]? = some (some x) ∧ te σ H fun y H1 => ti x y H1 fun z H2 => D.nx (σ.set i (some z)) H2
theorem ps_aug {i : Nat} {x : Str} {e : Expr} {te : TE} {op : Operator} {ti : TIp} {pos' : Pos} (hN : X.N.Nodup) (hi : X.N[i]? = some x) (hx : Loc X.env.scope x) (he : PE X e te) (ho : PIp X op ti) (hf : X.fn x = true ∨ X.env.scope.names.lookup x = some .local := by first | exact .inl rfl | exact .inr rfl | assumption) :
    PS X (.AugAssign (.Name x pos') op e pos) (tAug i te ti) := by
  intro pins s σ H D I h
  obtain ⟨v, e1, h⟩ := h
  obtain ⟨m, hn, hl⟩ := I.loc
  have vis : Vis X.env.scope x := by rcases hx with k | k; exact .inl k; exact .inr (.inl k)
  obtain ⟨u, r, l⟩ := hl i x v hi e1 vis
  refine wpAny_AugAssign_Name ?_
  have go : wpAny (model X.prog X.w) X.A (eval e X.env) (fun w s₂ => wpAny (model X.prog X.w) X.A (inplaceOp op u w) (fun r s₃ => wpAny (model X.prog X.w) X.A (storeName X.env x r) (fun _ => SP X pins D .next) X.xe s₃) X.xe s₂) X.xe s := by
    refine thn (he pins s σ H _ I h) fun w s1 ⟨y, H1, I1, r1, q1⟩ => ?_
    refine thn (ho pins s1 σ H1 v y u w _ I1 r r1 q1) fun z s2 ⟨zv, H2, I2, r2, q2⟩ => ?_
    exact store_ok I2 hN hi hx r2 (fun s3 I3 => ⟨_, H2, I3, q2⟩) hf
  rcases l with ⟨hk, hm⟩ | ⟨hk, c, hc, hcell⟩
  · exact wpAny_loadName_local I.ok.kind hk hn hm go
  · rcases hk with hk | hk
    · exact wpAny_loadName_cell I.ok.kind hk hc hcell go
    · rcases hx with k | k
      · have : X.env.scope.names.lookup x = some .free := hk
        rw [k] at this; cases this
      · have : X.env.scope.names.lookup x = some .free := hk
        rw [k] at this; cases this
def tAugS (to ti te : TE) (tget : V → V → Hp → VK → Prop) (tip : TIp) (tset : TSet) : TS := fun D σ H => to σ H fun o H1 => ti σ H1 fun i H2 => tget o i H2 fun x H3 => te σ H3 fun y H4 => tip x y H4 fun z H5 => tset o i z H5 fun H6 => D.nx σ H6
def PGet (X : Cx) (t : V → V → Hp → VK → Prop) : Prop :=
  ∀ (pins : List (Addr × Obj)) (s : Shared) (σ : St) (H : Hp) (o i : V) (ov iv : Value) (Q : VK), Inv X pins σ H s → RelV o ov → RelV i iv → t o i H Q →
    wpAny (model X.prog X.w) X.A (getItem ov iv) (EP X pins σ Q) X.xe s
theorem ps_augS {o i e : Expr} {to ti te : TE} {tget : V → V → Hp → VK → Prop} {tip : TIp} {tset : TSet} {op : Operator} {tpos : Pos} (ho : PE X o to) (hi : PE X i ti) (hg : PGet X tget) (he : PE X e te) (hp : PIp X op tip) (hs : PSet X tset)
    (ha : ∀ ov iv new, augStore i ov iv new = (do holding [new, ov, iv] (setItem ov iv new); release [new, ov, iv] []; pure .next) := by intros; rfl) : PS X (.AugAssign (.Subscript o i tpos) op e pos) (tAugS to ti te tget tip tset) := by
  intro pins s σ H D I h
  refine wpAny_AugAssign_SubscriptAny (thn (ho pins s σ H _ I h) fun ov s1 ⟨x1, H1, I1, r1, q1⟩ => ?_) ha
  refine thn (hi pins s1 σ H1 _ I1 q1) fun iv s2 ⟨x2, H2, I2, r2, q2⟩ => ?_
  refine thn (hg pins s2 σ H2 x1 x2 ov iv _ I2 r1 r2 q2) fun old s3 ⟨x3, H3, I3, r3, q3⟩ => ?_
  refine thn (he pins s3 σ H3 _ I3 q3) fun v s4 ⟨x4, H4, I4, r4, q4⟩ => ?_
  refine thn (hp pins s4 σ H4 x3 x4 old v _ I4 r3 r4 q4) fun new s5 ⟨x5, H5, I5, r5, q5⟩ => ?_
  exact thn (hs pins s5 σ H5 x1 x2 x5 ov iv new _ I5 r1 r2 r5 q5) fun _ s6 ⟨H6, I6, q6⟩ => ⟨σ, H6, I6, q6⟩
end
section
variable {X : Cx} {pos : Pos}
def tWhile (c : TT) (tb : TS) : TS := fun D σ H => ∃ W : Nat → St → Hp → Prop, (∃ m, W m σ H) ∧ ∀ m σ H, W m σ H →
  c σ H fun b H1 => if b = true then ∃ N : St → Hp → Prop, (∀ σ' H', N σ' H' → ∃ m', m' < m ∧ W m' σ' H') ∧ tb { D with nx := N, ct := N, bk := D.nx } σ H1 else D.nx σ H1
theorem ps_while {c : Expr} {body : List Stmt} {tc : TT} {tb : TS} (hp : PassesOwn (model X.prog X.w) X.A X.env X.xe) (hc : PT X c tc) (hb : PSs X body tb) : PS X (.While c body [] pos) (tWhile tc tb) := by
  intro pins s σ H D I h
  obtain ⟨W, ⟨m0, w0⟩, turn⟩ := h
  refine wpAny_While (codeAny_whileLoop (fun n s' => ∃ σ' H', Inv X pins σ' H' s' ∧ W n σ' H') ?_ m0 ⟨σ, H, I, w0⟩)
  rintro n s1 ⟨σ1, H1, I1, w1⟩
  refine wpAny_passesOwn hp (thn (hc pins s1 σ1 H1 _ I1 (turn n σ1 H1 w1)) fun b s2 ⟨H2, I2, q2⟩ => ?_)
  cases b with
  | true =>
    obtain ⟨N, hN, q2⟩ := q2
    rw [if_pos rfl]
    refine wpAny_passesOwn hp (thn (hb pins s2 σ1 H2 _ I2 q2) fun f s3 q3 => ?_)
    cases f with
    | next =>
      obtain ⟨σ3, H3, I3, n3⟩ := q3
      obtain ⟨m', hm, w3⟩ := hN σ3 H3 n3
      exact ⟨m', hm, σ3, H3, I3, w3⟩
    | cont =>
      obtain ⟨σ3, H3, I3, n3⟩ := q3
      obtain ⟨m', hm, w3⟩ := hN σ3 H3 n3
      exact ⟨m', hm, σ3, H3, I3, w3⟩
    | brk => exact q3
    | ret v => exact q3
  | false =>
    rw [if_neg Bool.false_ne_true]
    exact wpAny_execs_nil ⟨σ1, H2, I2, q2⟩
end
structure It where
  go : Nat → Hp → Prop
  yld : Nat → Hp → V → Hp → Prop
  stop : Nat → Hp → Prop
def FpOk (X : Cx) (pins : List (Addr × Obj)) (H : Hp) (b : Addr) : Prop :=
  H b = none ∧ b ≠ X.env.locals ∧ b ∉ X.fs ∧ (b ∈ X.ex ∨ X.s₀.heap.objs.size ≤ b) ∧ (∀ x c, X.env.cells.lookup x = some c → c ≠ b) ∧ ∀ p ∈ X.pn ++ pins, p.1 ≠ b
theorem Inv.fpOk {X : Cx} {pins : List (Addr × Obj)} {σ : St} {H H' : Hp} {s : Shared} {b : Addr} (I : Inv X pins σ H s) (hb : s.heap.objs.size ≤ b) (hn : H' b = none) : FpOk X pins H' b := by
  refine ⟨hn, Nat.ne_of_gt (Nat.lt_of_lt_of_le I.lt hb), I.nofs hb, .inr (Nat.le_trans I.sz hb), fun x c e z => ?_, fun p hp z => ?_⟩
  · obtain ⟨v, q⟩ := I.cell x c e
    exact absurd (Nat.lt_of_lt_of_le q.lt (by rw [z]; exact hb)) (Nat.lt_irrefl _)
  · exact absurd (Nat.lt_of_lt_of_le (Heap.lt_size (I.pin p hp).1) (by rw [z]; exact hb)) (Nat.lt_irrefl _)
structure Turn (P : Program) (w : World) (K : PySem.W.Frag) (tg : Expr) (J : It) (fp : List Addr) (it : Addr) (tn : Nat → Heap → Prop) : Prop where
  mem : it ∈ fp
  obj : ∀ i h, tn i h → ∀ b ∈ fp, ∃ o, h.get? b = some o ∧ ∀ v, o.data ≠ .cell v
  keep : ∀ i h h', tn i h → (∀ b ∈ fp, ∀ o, h.get? b = some o → h'.get? b = some o) → tn i h'
  item : ∀ (X : Cx), X.prog = P → X.w = w → X.K = K → X.calm = true → ∀ (i : Nat) (pins : List (Addr × Obj)) (s : Shared) (σ : St) (H : Hp) (E : Value → Shared → Prop), Inv X pins σ H s → (∀ b ∈ fp, FpOk X pins H b) → tn i s.heap → J.go i H →
    wpAny (model P w) X.A (pyNext (.ref it)) (fun r s1 => ∃ u, r = some u ∧
      wpAny (model P w) X.A (letOwnedTupleGo tg (.ref it) u) (fun _ s2 => ∃ x H', Inv X pins σ H' s2 ∧ RelV x u ∧ J.yld i H x H' ∧ tn (i + 1) s2.heap ∧ ∀ b ∈ fp, H' b = none) E s1) E s
  done : ∀ (X : Cx), X.prog = P → X.w = w → X.K = K → X.calm = true → ∀ (i : Nat) (pins : List (Addr × Obj)) (s : Shared) (σ : St) (H : Hp) (E : Value → Shared → Prop), Inv X pins σ H s → (∀ b ∈ fp, FpOk X pins H b) → tn i s.heap → J.stop i H →
    wpAny (model P w) X.A (pyNext (.ref it)) (fun r s1 => r = none ∧ Inv X pins σ H s1) E s
  self : ∀ (A : Around) (i : Nat) (s : Shared) (Q : Value → Shared → Prop) (E : Value → Shared → Prop), tn i s.heap → Q (.ref it) s → wpAny (model P w) A (pyIter (.ref it)) Q E s
abbrev TI := St → Hp → (It → Hp → Prop) → Prop
def PIE (X : Cx) (pins : List (Addr × Obj)) (σ : St) (tg : Expr) (R : It → Hp → Prop) (itv : Value) (s2 : Shared) : Prop :=
  ∃ (it : Addr) (fp : List Addr) (tn : Nat → Heap → Prop) (J : It) (H' : Hp), itv = .ref it ∧ Inv X pins σ H' s2 ∧ Turn X.prog X.w X.K tg J fp it tn ∧ tn 0 s2.heap ∧ (∀ b ∈ fp, FpOk X pins H' b) ∧ R J H'
def PI (X : Cx) (tg iter : Expr) (wi : TI) : Prop :=
  ∀ (pins : List (Addr × Obj)) (s : Shared) (σ : St) (H : Hp) (R : It → Hp → Prop), Inv X pins σ H s → wi σ H R →
    wpAny (model X.prog X.w) X.A (eval iter X.env) (fun v s1 => wpAny (model X.prog X.w) X.A (pyIter v) (PIE X pins σ tg R) X.xe s1) X.xe s
theorem go_of {M : Model} {A : Around} {E : Value → Shared → Prop} {s : Shared} {tg : Expr} {it : Addr} {u : Value} {o : Obj} {n : String} {vs : Array Value} {Q : Unit → Shared → Prop} (ho : s.heap.get? it = some o) (hc : o.cls = .type n) (hd : o.data = .fields vs)
    (hn : ["enumerate", "zip", "dict_itemiterator", "dict_reverseitemiterator", "odict_iterator", "itertools.zip_longest", "itertools.pairwise"].contains n = false) (hQ : Q () s) : wpAny M A (letOwnedTupleGo tg (.ref it) u) Q E s := by
  unfold letOwnedTupleGo
  cases tg <;> first
    | exact wpAny_pure hQ
    | (cases u <;> first
        | exact wpAny_pure hQ
        | (refine wpAny_bind (wpAny_load ho ?_)
           rw [hc, hd]
           show wpAny M A (if (["enumerate", "zip", "dict_itemiterator", "dict_reverseitemiterator", "odict_iterator", "itertools.zip_longest", "itertools.pairwise"].contains n && vs[0]? == some (rawInt _)) = true then _ else _) Q E s
           rw [if_neg (by intro h; rw [hn, Bool.false_and] at h; cases h)]
           exact wpAny_pure hQ))
def Itl (K : PySem.W.Frag) (a : Addr) : It :=
  ⟨fun i H => ∃ xs x, SqL K H a xs ∧ xs[i]? = some x, fun i H x H' => H' = H ∧ ∀ xs, SqL K H a xs → xs[i]? = some x, fun i H => ∃ xs, SqL K H a xs ∧ xs.length ≤ i⟩
def Itr (lo : Int) (n : Nat) : It := ⟨fun i _ => i < n, fun i H x H' => H' = H ∧ x = .int (lo + i), fun i _ => n ≤ i⟩
theorem turn_list {P : Program} {w : World} {K : PySem.W.Frag} {tg : Expr} (a it : Addr) : Turn P w K tg (Itl K a) [it] it (fun i h => h.IsListIter it a i) where
  mem := by simp
  obj := fun i h st b hb => by
    have e : b = it := by simpa using hb
    subst e
    obtain ⟨o, e, c, d⟩ := st
    exact ⟨o, e, fun v z => by rw [d] at z; cases z⟩
  keep := fun i h h' st k => st.at fun o e => k it (by simp) o e
  item := by
    intro X hP hw hK hc i pins s σ H E I hf st hg
    subst hP hw hK
    obtain ⟨xs, x, hq, hx⟩ := hg
    obtain ⟨its, rv, p, hz⟩ := I.list hq
    obtain ⟨u, hu, ru⟩ := rv.get hx
    obtain ⟨f0, f1, f2, f3, f4, f5⟩ := hf it (by simp)
    refine wpAny_pyNext_list_item st p.isList (x := u) (by simpa using hu) fun h' st' sb => ?_
    have I1 : Inv X pins σ H { s with heap := h' } := I.turned (t' := s.toks) (fun b o hb e => (sb.2 b hb).trans e) f0 f1 f3 f4 f5
    obtain ⟨o, e, c, d⟩ := id st'
    exact ⟨u, rfl, go_of (s := { s with heap := h' }) e c d (by decide) ⟨x, H, I1, ru, ⟨rfl, fun ys hy => by rw [I.list_inj hy hq]; exact hx⟩, st', fun b hb => (hf b hb).1⟩⟩
  done := by
    intro X hP hw hK hc i pins s σ H E I hf st hg
    subst hP hw hK
    obtain ⟨xs, hq, hx⟩ := hg
    obtain ⟨its, rv, p, hz⟩ := I.list hq
    obtain ⟨f0, f1, f2, f3, f4, f5⟩ := hf it (by simp)
    have hl := rv.length
    exact wpAny_pyNext_list_end (I.ok.hd hc) st p.isList (by simp; omega) fun h' eb => ⟨rfl, I.turned (t' := s.toks) (fun b o hb e => eb b o hb e) f0 f1 f3 f4 f5⟩
  self := fun _ _ _ _ _ st h => wpAny_pyIter_listiter st h
theorem turn_range {P : Program} {w : World} {K : PySem.W.Frag} {tg : Expr} (it : Addr) (lo : Int) (n : Nat) : Turn P w K tg (Itr lo n) [it] it (fun i h => IsRangeIter h it (lo + (i : Nat) * 1) ((n : Int) - (i : Nat)) 1) where
  mem := by simp
  obj := fun i h st b hb => by
    have e : b = it := by simpa using hb
    subst e
    exact ⟨_, st, fun v z => by
      have z' : Data.fields _ = Data.cell v := z
      cases z'⟩
  keep := fun i h h' st k => k it (by simp) _ st
  item := by
    intro X hP hw hK hc i pins s σ H E I hf st hg
    subst hP hw hK
    obtain ⟨f0, f1, f2, f3, f4, f5⟩ := hf it (by simp)
    have W := Walks.range (prog := X.prog) (w := X.w) (I.ok.hd hc) it lo 1 n
    refine W.item i s _ _ hg st fun v h' tk hv st' kk => ?_
    obtain ⟨t, rfl⟩ := hv
    have I1 : Inv X pins σ H { s with heap := h', toks := tk } := I.turned (fun b o hb e => kk b o (by simpa using hb) e) f0 f1 f3 f4 f5
    refine ⟨_, rfl, go_of (s := { s with heap := h', toks := tk }) (n := "range_iterator") st' rfl rfl (by decide) ⟨.int (lo + i), H, I1, ⟨t, ?_⟩, ⟨rfl, rfl⟩, st', fun b hb => (hf b hb).1⟩⟩
    rw [Int.mul_one]
  done := by
    intro X hP hw hK hc i pins s σ H E I hf st hg
    subst hP hw hK
    obtain ⟨f0, f1, f2, f3, f4, f5⟩ := hf it (by simp)
    exact wpAny_pyNext_range_end (I.ok.hd hc) st (by have : n ≤ i := hg; omega) fun h' eb => ⟨rfl, I.turned (t' := s.toks) (fun b o hb e => eb b o hb e) f0 f1 f3 f4 f5⟩
  self := fun _ _ _ _ _ st h => wpAny_pyIter_rangeiter st h
end L2
namespace L2
open PySem PySem.Spec PyProof.Rows
section
variable {X : Cx} {tg : Expr}
def iList (K : PySem.W.Frag) (tl : TE) : TI := fun σ H R => tl σ H fun x H1 => ∃ a, x = .ref a ∧ (∃ xs, SqL K H1 a xs) ∧ R (Itl K a) H1
theorem pi_list {l : Expr} {tl : TE} (hl : PE X l tl) : PI X tg l (iList X.K tl) := by
  intro pins s σ H R I h
  refine thn (hl pins s σ H _ I h) fun v s1 ⟨x, H1, I1, r1, q1⟩ => ?_
  obtain ⟨a, e, ⟨xs, hq⟩, q⟩ := q1
  subst e
  cases r1
  obtain ⟨its, rv, p, hz⟩ := I1.list hq
  refine wpAny_pyIter_list p.isList ?_
  refine ⟨s1.heap.objs.size, [s1.heap.objs.size], _, _, H1, rfl, I1.kept (t' := s1.toks) fun b o e => Heap.get?_push_of_some _ e, turn_list a _, ⟨_, Heap.get?_push_size _ rfl, rfl, rfl⟩, fun b hb => ?_, q⟩
  have e : b = s1.heap.objs.size := by simpa using hb
  subst e
  exact I1.fpOk (Nat.le_refl _) (I1.hok.fresh (Nat.le_refl _))
theorem range_it {pins : List (Addr × Obj)} {σ : St} {H : Hp} {s : Shared} {R : It → Hp → Prop} {E : Value → Shared → Prop} {lo hi : Int} {t u v : Tok} {tk : Nat} (I : Inv X pins σ H s) (h1 : -(2 ^ 62) ≤ lo) (h2 : lo < 2 ^ 62) (h3 : -(2 ^ 62) ≤ hi) (h4 : hi < 2 ^ 62)
    (q : R (Itr lo (hi - lo).toNat) H) : wpAny (model X.prog X.w) X.A (pyIter (.ref s.heap.objs.size)) (PIE X pins σ tg R) E { s with heap := s.heap.push { cls := .type "range", data := .fields #[.int lo t, .int hi u, .int 1 v] }, toks := tk } := by
  refine wpAny_pyIter_range (IsRange.new ..) (small_one h1 h2 h3 h4) ?_
  have I1 : Inv X pins σ H { s with heap := s.heap.push { cls := .type "range", data := .fields #[.int lo t, .int hi u, .int 1 v] }, toks := tk } := I.kept fun b o e => Heap.get?_push_of_some _ e
  refine ⟨(s.heap.push { cls := .type "range", data := .fields #[.int lo t, .int hi u, .int 1 v] }).objs.size, [(s.heap.push { cls := .type "range", data := .fields #[.int lo t, .int hi u, .int 1 v] }).objs.size], _, _, H, rfl,
    I1.kept (t' := tk) fun b o e => Heap.get?_push_of_some _ e, turn_range _ lo (hi - lo).toNat, ?_, fun b hb => ?_, q⟩
  · have e1 : lo + ((0 : Nat) : Int) * 1 = lo := by simp
    have e2 : (((hi - lo).toNat : Nat) : Int) - ((0 : Nat) : Int) = Builtin.Range.rangeSize lo hi 1 := by rw [rangeSize_one]; split <;> omega
    show IsRangeIter _ _ (lo + ((0 : Nat) : Int) * 1) ((((hi - lo).toNat : Nat) : Int) - ((0 : Nat) : Int)) 1
    rw [e1, e2]
    exact Heap.get?_push_size _ rfl
  · have e : b = (s.heap.push { cls := .type "range", data := .fields #[.int lo t, .int hi u, .int 1 v] }).objs.size := by simpa using hb
    subst e
    exact I1.fpOk (Nat.le_refl _) (I1.hok.fresh (Nat.le_refl _))
def iRng1 (ta : TA) : TI := fun σ H R => ta σ H fun vs H1 => ∃ j : Int, vs = [.int j] ∧ -(2 ^ 62) ≤ j ∧ j < 2 ^ 62 ∧ R (Itr 0 j.toNat) H1
def iRng2 (ta : TA) : TI := fun σ H R => ta σ H fun vs H1 => ∃ i j : Int, vs = [.int i, .int j] ∧ (-(2 ^ 62) ≤ i ∧ i < 2 ^ 62 ∧ -(2 ^ 62) ≤ j ∧ j < 2 ^ 62) ∧ R (Itr i (j - i).toNat) H1
theorem pi_range1 {a : Expr} {ta : TA} {p pos : Pos} (hg : Gl X "range") (hm : X.mg "range" = none) (ha : PA X [a] ta) (hs : starEach [a] X.env = [(false, eval a X.env)] := by rfl) : PI X tg (.Call (.Name "range" p) [a] [] pos) (iRng1 ta) := by
  intro pins s σ H R I h
  refine Call_ (ld_blt I hg hm boot_range (PyProof.Rows.callWith_type1 (thn (ha pos pins s σ H _ I h) fun us s1 ⟨vs, H1, I1, r1, q1⟩ => ?_) hs rfl))
  obtain ⟨j, e, q1, q2, q⟩ := q1
  subst e
  cases r1 with
  | cons r rr =>
    cases rr
    obtain ⟨t, rfl⟩ := r
    exact call_range_1 (range_it I1 (by omega) (by omega) q1 q2 (by simpa using q))
def tFor (wi : TI) (g : TG) (tb : TS) : TS := fun D σ H => wi σ H fun J H1 => ∃ W : Nat → Nat → St → Hp → Prop, (∃ m, W 0 m σ H1) ∧ ∀ i m σ H, W i m σ H →
  (J.stop i H ∧ D.nx σ H) ∨ (J.go i H ∧ ∃ N : St → Hp → Prop, (∀ σ' H', N σ' H' → ∃ m', m' < m ∧ W (i + 1) m' σ' H') ∧ ∀ x H', J.yld i H x H' → g x σ H' fun σ2 H2 => tb { D with nx := N, ct := N, bk := D.nx } σ2 H2)
def pinsAt (fp : List Addr) (h : Heap) : List (Addr × Obj) := fp.filterMap fun b => (h.get? b).map fun o => (b, o)
theorem mem_pinsAt {fp : List Addr} {h : Heap} {b : Addr} {o : Obj} (hb : b ∈ fp) (e : h.get? b = some o) : (b, o) ∈ pinsAt fp h := List.mem_filterMap.mpr ⟨b, hb, by rw [e]; rfl⟩
theorem of_pinsAt {fp : List Addr} {h : Heap} {p : Addr × Obj} (hp : p ∈ pinsAt fp h) : p.1 ∈ fp ∧ h.get? p.1 = some p.2 := by
  obtain ⟨b, hb, e⟩ := List.mem_filterMap.mp hp
  cases q : h.get? b with
  | none => rw [q] at e; cases e
  | some o =>
    rw [q] at e
    have e' : (b, o) = p := Option.some.inj e
    subst e'
    exact ⟨hb, q⟩
theorem Inv.pinned {pins : List (Addr × Obj)} {σ : St} {H : Hp} {s : Shared} {fp : List Addr} (I : Inv X pins σ H s) (hf : ∀ b ∈ fp, FpOk X pins H b) (ho : ∀ b ∈ fp, ∃ o, s.heap.get? b = some o ∧ ∀ v, o.data ≠ .cell v) : Inv X (pins ++ pinsAt fp s.heap) σ H s :=
  I.pins_of fun p hp => (List.mem_append.mp hp).elim (fun z => I.pin p (List.mem_append_right _ z)) fun z => by
    obtain ⟨hb, e⟩ := of_pinsAt z
    obtain ⟨f0, f1, f2, _⟩ := hf p.1 hb
    obtain ⟨o, e', d⟩ := ho p.1 hb
    rw [e] at e'; cases e'
    exact ⟨e, f0, f1, f2, d⟩
theorem Inv.unpinned {pins pl : List (Addr × Obj)} {σ : St} {H : Hp} {s : Shared} (I : Inv X (pins ++ pl) σ H s) : Inv X pins σ H s := I.pins_of fun p hp => I.pin p (List.mem_append_right _ (List.mem_append_left _ hp))
theorem ps_for {iter : Expr} {body : List Stmt} {wi : TI} {g : TG} {tb : TS} {pos : Pos} (hp : PassesOwn (model X.prog X.w) X.A X.env X.xe) (hc : X.calm = true) (hi : PI X tg iter wi) (hg : PG X tg g) (hb : PSs X body tb)
    (hs : ∀ x, foldedSetIterable iter X.env x = pure x := by intro _; rfl) : PS X (.For tg iter body [] pos) (tFor wi g tb) := by
  intro pins s σ H D I h
  refine wpAny_For (thn (hi pins s σ H _ I h) fun v s1 h1 => thn h1 fun itv s2 h2 => ?_) hs
  obtain ⟨it, fp, tn, J, H2, e, I2, T, st2, f2, W, ⟨m0, w0⟩, turn⟩ := h2
  subst e
  have stat : ∀ {H' : Hp}, (∀ b ∈ fp, H' b = none) → ∀ b ∈ fp, FpOk X pins H' b := fun hn b hb => ⟨hn b hb, (f2 b hb).2⟩
  refine codeAny_forLoop_any (fun n s' => ∃ i σ' H', Inv X pins σ' H' s' ∧ tn i s'.heap ∧ (∀ b ∈ fp, H' b = none) ∧ W i n σ' H') ?_ m0 ⟨0, σ, H2, I2, st2, fun b hb => (f2 b hb).1, w0⟩
  rintro n s3 ⟨i, σ3, H3, I3, st3, fr3, w3⟩
  rcases turn i n σ3 H3 w3 with ⟨stop, qn⟩ | ⟨go, N, hN, step⟩
  · refine wpAny_passesOwn hp (thn (T.done X rfl rfl rfl hc i pins s3 σ3 H3 X.xe I3 (stat fr3) st3 stop) fun r s4 ⟨hr, I4⟩ => ?_)
    subst hr
    exact wpAny_execs_nil ⟨σ3, H3, I4, qn⟩
  · refine wpAny_passesOwn hp (thn (T.item X rfl rfl rfl hc i pins s3 σ3 H3 X.xe I3 (stat fr3) st3 go) fun r s4 ⟨u, hr, h4⟩ => ?_)
    subst hr
    refine wpAny_passesOwn hp (thn h4 fun _ s5 ⟨x, H5, I5, r5, y5, st5, fr5⟩ => ?_)
    have I5' := I5.pinned (stat fr5) (T.obj _ _ st5)
    refine wpAny_passesOwn hp (thn (hg _ s5 σ3 H5 x u _ I5' r5 (step x H5 y5)) fun _ s6 ⟨σ6, H6, I6, q6⟩ => ?_)
    refine wpAny_passesOwn hp (thn (hb _ s6 σ6 H6 _ I6 q6) fun f s7 q7 => ?_)
    have again : ∀ {σ7 : St} {H7 : Hp}, Inv X (pins ++ pinsAt fp s5.heap) σ7 H7 s7 → N σ7 H7 → ∃ m, m < n ∧ ∃ i σ' H', Inv X pins σ' H' s7 ∧ tn i s7.heap ∧ (∀ b ∈ fp, H' b = none) ∧ W i m σ' H' := fun {σ7 H7} I7 n7 => by
      obtain ⟨m', hm, w7⟩ := hN σ7 H7 n7
      refine ⟨m', hm, i + 1, σ7, H7, I7.unpinned, T.keep _ _ _ st5 fun b hb o e => (I7.pin (b, o) (List.mem_append_right _ (List.mem_append_right _ (mem_pinsAt hb e)))).1, fun b hb => ?_, w7⟩
      obtain ⟨o, e, d⟩ := T.obj _ _ st5 b hb
      exact (I7.pin (b, o) (List.mem_append_right _ (List.mem_append_right _ (mem_pinsAt hb e)))).2.1
    cases f with
    | next => obtain ⟨σ7, H7, I7, n7⟩ := q7; exact again I7 n7
    | cont => obtain ⟨σ7, H7, I7, n7⟩ := q7; exact again I7 n7
    | brk => obtain ⟨σ7, H7, I7, q7⟩ := q7; exact ⟨σ7, H7, I7.unpinned, q7⟩
    | ret v => obtain ⟨x7, σ7, H7, I7, r7, q7⟩ := q7; exact ⟨x7, σ7, H7, I7.unpinned, r7, q7⟩
end
theorem for_list {K : PySem.W.Frag} {a : Addr} {xs : List V} {g : TG} {tb : TS} {D : Ends} {σ : St} {H : Hp} (Pv : Nat → St → Hp → Prop) (h0 : Pv 0 σ H) (hl : ∀ i σ H, i ≤ xs.length → Pv i σ H → SqL K H a xs)
    (hs : ∀ i x σ H, xs[i]? = some x → Pv i σ H → g x σ H fun σ2 H2 => tb { D with nx := Pv (i + 1), ct := Pv (i + 1), bk := D.nx } σ2 H2) (hd : ∀ σ H, Pv xs.length σ H → D.nx σ H) :
    ∃ W : Nat → Nat → St → Hp → Prop, (∃ m, W 0 m σ H) ∧ ∀ i m σ H, W i m σ H →
      ((Itl K a).stop i H ∧ D.nx σ H) ∨ ((Itl K a).go i H ∧ ∃ N : St → Hp → Prop, (∀ σ' H', N σ' H' → ∃ m', m' < m ∧ W (i + 1) m' σ' H') ∧ ∀ x H', (Itl K a).yld i H x H' → g x σ H' fun σ2 H2 => tb { D with nx := N, ct := N, bk := D.nx } σ2 H2) := by
  refine ⟨fun i m σ H => m = xs.length - i ∧ i ≤ xs.length ∧ Pv i σ H, ⟨xs.length, by simp, Nat.zero_le _, h0⟩, ?_⟩
  rintro i m σ H ⟨rfl, hi, p⟩
  have q := hl i σ H hi p
  by_cases hlt : i < xs.length
  · refine .inr ⟨⟨xs, xs[i], q, by simp [hlt]⟩, Pv (i + 1), fun σ' H' p' => ⟨xs.length - (i + 1), by omega, rfl, hlt, p'⟩, fun x H' y => ?_⟩
    obtain ⟨e, y⟩ := y
    subst e
    exact hs i x σ _ (y xs q) p
  · have e : i = xs.length := by omega
    subst e
    exact .inl ⟨⟨xs, q, Nat.le_refl _⟩, hd σ H p⟩
end L2
namespace L2
open PySem PySem.Spec PyProof.Rows
abbrev R2 := V → V → Hp → VK → Prop
def OpR (X : Cx) (f : Value → Value → Sem Value) (r : R2) : Prop :=
  ∀ (pins : List (Addr × Obj)) (s : Shared) (σ : St) (H : Hp) (x y : V) (v u : Value) (Q : VK), Inv X pins σ H s → RelV x v → RelV y u → r x y H Q →
    wpAny (model X.prog X.w) X.A (f v u) (EP X pins σ Q) X.xe s
def UnR (X : Cx) (f : Value → Sem Value) (r : V → Hp → VK → Prop) : Prop :=
  ∀ (pins : List (Addr × Obj)) (s : Shared) (σ : St) (H : Hp) (x : V) (v : Value) (Q : VK), Inv X pins σ H s → RelV x v → r x H Q →
    wpAny (model X.prog X.w) X.A (f v) (EP X pins σ Q) X.xe s
def CallR (X : Cx) (f : Value) (r : List V → Hp → VK → Prop) : Prop :=
  ∀ (pins : List (Addr × Obj)) (s : Shared) (σ : St) (H : Hp) (xs : List V) (us : List Value) (Q : VK), Inv X pins σ H s → Vals xs us → r xs H Q →
    wpAny (model X.prog X.w) X.A (call f us) (EP X pins σ Q) X.xe s
def TruR (X : Cx) (r : V → Hp → (Bool → Hp → Prop) → Prop) : Prop :=
  ∀ (pins : List (Addr × Obj)) (s : Shared) (σ : St) (H : Hp) (x : V) (v : Value) (Q : Bool → Hp → Prop), Inv X pins σ H s → RelV x v → r x H Q →
    wpAny (model X.prog X.w) X.A (truthy v) (TP X pins σ Q) X.xe s
def tOp (r : R2) (ta tb : TE) : TE := fun σ H Q => ta σ H fun x H1 => tb σ H1 fun y H2 => r x y H2 Q
def tUn (r : V → Hp → VK → Prop) (ta : TE) : TE := fun σ H Q => ta σ H fun x H1 => r x H1 Q
def rI (C : Int → Int → Prop) (g : Int → Int → V) : R2 := fun x y H Q => ∃ i j, x = .int i ∧ y = .int j ∧ C i j ∧ Q (g i j) H
def rI0 (g : Int → Int → V) : R2 := fun x y H Q => ∃ i j, x = .int i ∧ y = .int j ∧ Q (g i j) H
def rU (g : Int → V) : V → Hp → VK → Prop := fun x H Q => ∃ i, x = .int i ∧ Q (g i) H
section
variable {X : Cx} {a b c : Expr} {ta tb tc : TE} {pos : Pos}
theorem binT (ha : PE X a ta) (hb : PE X b tb) {pins : List (Addr × Obj)} {s : Shared} {σ : St} {H : Hp} {R : V → V → Hp → Prop} (I : Inv X pins σ H s)
    (h : ta σ H fun x H1 => tb σ H1 fun y H2 => R x y H2) {Q : Value → Shared → Prop} {f : Value → Value → Sem Value}
    (hf : ∀ v u s2 x y H2, Inv X pins σ H2 s2 → RelV x v → RelV y u → R x y H2 → wpAny (model X.prog X.w) X.A (f v u) Q X.xe s2) :
    wpAny (model X.prog X.w) X.A (eval a X.env) (fun v s₁ => wpAny (model X.prog X.w) X.A (eval b X.env) (fun u s₂ => wpAny (model X.prog X.w) X.A (f v u) Q X.xe s₂) X.xe s₁) X.xe s := by
  refine thn (ha pins s σ H _ I h) fun v s1 ⟨x, H1, I1, r1, q1⟩ => ?_
  refine thn (hb pins s1 σ H1 _ I1 q1) fun u s2 ⟨y, H2, I2, r2, q2⟩ => ?_
  exact hf v u s2 x y H2 I2 r1 r2 q2
theorem pe_op {op : Operator} {r : R2} (ho : OpR X (binaryOp op) r) (ha : PE X a ta) (hb : PE X b tb) : PE X (.BinOp a op b pos) (tOp r ta tb) := by
  intro pins s σ H Q I h
  exact wpAny_BinOp (binT ha hb I h fun v u s2 x y H2 I2 rx ry q => ho pins s2 σ H2 x y v u Q I2 rx ry q)
theorem pe_un {op : UnaryOp} {r : V → Hp → VK → Prop} (ho : UnR X (unaryOp op) r) (ha : PE X a ta) : PE X (.UnaryOp op a pos) (tUn r ta) := by
  intro pins s σ H Q I h
  exact UnaryOp_ (thn (ha pins s σ H _ I h) fun v s1 ⟨x, H1, I1, r1, q1⟩ => ho pins s1 σ H1 x v Q I1 r1 q1)
theorem opI {f : Value → Value → Sem Value} {C : Int → Int → Prop} {g : Int → Int → Int}
    (rule : ∀ (i j : Int) (t u : Tok) (s : Shared) (Q : Value → Shared → Prop) (E : Value → Shared → Prop), C i j → Q (.int (g i j) s.toks) { s with toks := s.toks + 1 } → wpAny (model X.prog X.w) X.A (f (.int i t) (.int j u)) Q E s) :
    OpR X f (rI C fun i j => .int (g i j)) := by
  intro pins s σ H x y v u Q I rx ry h
  obtain ⟨i, j, rfl, rfl, hc, q⟩ := h
  obtain ⟨t, rfl⟩ := rx
  obtain ⟨t', rfl⟩ := ry
  exact rule i j t t' s _ _ hc ⟨.int (g i j), H, I.tok _, ⟨_, rfl⟩, q⟩
theorem opI0 {f : Value → Value → Sem Value} {g : Int → Int → Int}
    (rule : ∀ (i j : Int) (t u : Tok) (s : Shared) (Q : Value → Shared → Prop) (E : Value → Shared → Prop), Q (.int (g i j) s.toks) { s with toks := s.toks + 1 } → wpAny (model X.prog X.w) X.A (f (.int i t) (.int j u)) Q E s) :
    OpR X f (rI0 fun i j => .int (g i j)) := by
  intro pins s σ H x y v u Q I rx ry h
  obtain ⟨i, j, rfl, rfl, q⟩ := h
  obtain ⟨t, rfl⟩ := rx
  obtain ⟨t', rfl⟩ := ry
  exact rule i j t t' s _ _ ⟨.int (g i j), H, I.tok _, ⟨_, rfl⟩, q⟩
theorem opB0 {f : Value → Value → Sem Value} {g : Int → Int → Bool}
    (rule : ∀ (i j : Int) (t u : Tok) (s : Shared) (Q : Value → Shared → Prop) (E : Value → Shared → Prop), Q (.bool (g i j)) s → wpAny (model X.prog X.w) X.A (f (.int i t) (.int j u)) Q E s) :
    OpR X f (rI0 fun i j => .bl (g i j)) := by
  intro pins s σ H x y v u Q I rx ry h
  obtain ⟨i, j, rfl, rfl, q⟩ := h
  obtain ⟨t, rfl⟩ := rx
  obtain ⟨t', rfl⟩ := ry
  exact rule i j t t' s _ _ ⟨.bl (g i j), H, I, rfl, q⟩
def CPow (i j : Int) : Prop := 0 ≤ j ∧ j ≤ 1000000 ∧ i.natAbs < 2 ^ 64
def CMul (i j : Int) : Prop := (-(2 ^ 64) < i ∧ i < 2 ^ 64) ∨ (-(2 ^ 64) < j ∧ j < 2 ^ 64)
theorem CMul.ok {i j : Int} (h : CMul i j) : IntMulOk i j := by
  rcases h with ⟨h1, h2⟩ | ⟨h1, h2⟩
  · exact .of_left (intBits_le_64 h1 h2)
  · exact .of_right (intBits_le_64 h1 h2)
theorem two_pow_nn (k : Nat) : (0 : Int) ≤ 2 ^ k := by
  rw [two_pow_cast]
  exact Int.natCast_nonneg _
theorem op_add : OpR X (binaryOp .Add) (rI0 fun i j => .int (i + j)) := opI0 fun _ _ _ _ _ _ _ q => add_int q
theorem op_sub : OpR X (binaryOp .Sub) (rI0 fun i j => .int (i - j)) := opI0 fun _ _ _ _ _ _ _ q => sub_int q
theorem op_mod : OpR X (binaryOp .Mod) (rI (fun _ j => 0 < j) fun i j => .int (i % j)) := opI fun i j _ _ _ _ _ hc q => by
  have h1 : (0 : Int) < j := hc
  exact mod_int' (by omega) (by rw [Int.fmod_eq_emod_of_nonneg i (by omega)]; exact q)
theorem op_pow : OpR X (binaryOp .Pow) (rI CPow fun i j => .int (i ^ j.toNat)) := opI fun _ _ _ _ _ _ _ hc q => pow_int_small hc.1 hc.2.1 hc.2.2 q
theorem op_shl : OpR X (binaryOp .LShift) (rI CPow fun i j => .int (i * 2 ^ j.toNat)) := opI fun _ _ _ _ _ _ _ hc q => lshift_int_small hc.1 hc.2.1 hc.2.2 q
theorem op_shr : OpR X (binaryOp .RShift) (rI (fun _ j => 0 ≤ j) fun i j => .int (i / 2 ^ j.toNat)) := opI fun i j _ _ _ _ _ hc q =>
  rshift_int hc (by rw [Int.fdiv_eq_ediv_of_nonneg i (two_pow_nn _)]; exact q)
theorem op_and : OpR X (binaryOp .BitAnd) (rI0 fun i j => .int (Builtin.bitAnd i j)) := opI0 fun _ _ _ _ _ _ _ q => and_int q
theorem iop_add : OpR X (inplaceOp .Add) (rI0 fun i j => .int (i + j)) := opI0 fun _ _ _ _ _ _ _ q => iadd_int q
theorem iop_sub : OpR X (inplaceOp .Sub) (rI0 fun i j => .int (i - j)) := opI0 fun _ _ _ _ _ _ _ q => isub_int q
theorem unI {f : Value → Sem Value} {g : Int → Int}
    (rule : ∀ (i : Int) (t : Tok) (s : Shared) (Q : Value → Shared → Prop) (E : Value → Shared → Prop), Q (.int (g i) s.toks) { s with toks := s.toks + 1 } → wpAny (model X.prog X.w) X.A (f (.int i t)) Q E s) :
    UnR X f (rU fun i => .int (g i)) := by
  intro pins s σ H x v Q I rx h
  obtain ⟨i, rfl, q⟩ := h
  obtain ⟨t, rfl⟩ := rx
  exact rule i t s _ _ ⟨.int (g i), H, I.tok _, ⟨_, rfl⟩, q⟩
theorem un_neg : UnR X (unaryOp .USub) (rU fun i => .int (-i)) := unI fun _ _ _ _ _ q => neg_int q
end
def scal : V → V → Bool
  | .non, .non => true | .non, .int _ => true | .int _, .non => true | .non, .bl _ => true | .bl _, .non => true | .non, .str _ => true | .str _, .non => true
  | .int _, .int _ => true | .bl _, .bl _ => true | .str _, .str _ => true | .byt _, .byt _ => true
  | .int _, .str _ => true | .str _, .int _ => true | .bl _, .str _ => true | .str _, .bl _ => true
  | _, _ => false
def rEq : R2 := fun x y H Q => scal x y = true ∧ Q (.bl (decide (x = y))) H
def rNe : R2 := fun x y H Q => scal x y = true ∧ Q (.bl (!decide (x = y))) H
theorem dec_int {i j : Int} : decide (V.int i = V.int j) = (i == j) := by
  rw [Bool.eq_iff_iff]
  simp
theorem dec_bl {i j : Bool} : decide (V.bl i = V.bl j) = (i == j) := by
  rw [Bool.eq_iff_iff]
  simp
theorem dec_str {i j : Str} : decide (V.str i = V.str j) = (i == j) := by
  rw [Bool.eq_iff_iff]
  simp
theorem dec_byt {i j : Array UInt8} : decide (V.byt i = V.byt j) = (i.toList == j.toList) := by
  rw [Bool.eq_iff_iff]
  cases i
  cases j
  simp
section
variable {X : Cx} {a b c : Expr} {ta tb tc : TE} {pos : Pos}
theorem fin_bl {pins : List (Addr × Obj)} {σ : St} {H : Hp} {s : Shared} {Q : VK} {k k' : Bool} (I : Inv X pins σ H s) (q : Q (.bl k) H) (e : k = k') : EP X pins σ Q (.bool k') s := by
  subst e
  exact ⟨.bl k, H, I, rfl, q⟩
theorem op_eq : OpR X (compareOp .Eq) rEq := by
  intro pins s σ H x y v u Q I rx ry h
  obtain ⟨hs, q⟩ := h
  cases x with
  | non =>
    cases rx
    cases y with
    | non => cases ry; exact PySem.EqNone.eq_none_none (fin_bl I q (by simp))
    | bl j => cases ry; exact PySem.EqNone.eq_none_bool (fin_bl I q (by simp))
    | int j => obtain ⟨t', rfl⟩ := ry; exact PySem.EqNone.eq_none_int (fin_bl I q (by simp))
    | str j => obtain ⟨t', rfl⟩ := ry; exact PySem.EqNone.eq_none_str (fin_bl I q (by simp))
    | _ => exact absurd (show false = true from hs) Bool.false_ne_true
  | bl i =>
    cases rx
    cases y with
    | non => cases ry; exact PySem.EqNone.eq_bool_none (fin_bl I q (by simp))
    | bl j => cases ry; exact eq_bool (fin_bl I q dec_bl)
    | str j => obtain ⟨t', rfl⟩ := ry; exact PySem.EqMixed.eq_bool_str (fin_bl I q (by simp))
    | _ => exact absurd (show false = true from hs) Bool.false_ne_true
  | int i =>
    obtain ⟨t, rfl⟩ := rx
    cases y with
    | non => cases ry; exact PySem.EqNone.eq_int_none (fin_bl I q (by simp))
    | int j => obtain ⟨t', rfl⟩ := ry; exact eq_int (fin_bl I q dec_int)
    | str j => obtain ⟨t', rfl⟩ := ry; exact PySem.EqMixed.eq_int_str (fin_bl I q (by simp))
    | _ => exact absurd (show false = true from hs) Bool.false_ne_true
  | str i =>
    obtain ⟨t, rfl⟩ := rx
    cases y with
    | non => cases ry; exact PySem.EqNone.eq_str_none (fin_bl I q (by simp))
    | bl j => cases ry; exact PySem.EqMixed.eq_str_bool (fin_bl I q (by simp))
    | int j => obtain ⟨t', rfl⟩ := ry; exact PySem.EqMixed.eq_str_int (fin_bl I q (by simp))
    | str j => obtain ⟨t', rfl⟩ := ry; exact eq_str (fin_bl I q dec_str)
    | _ => exact absurd (show false = true from hs) Bool.false_ne_true
  | byt i =>
    obtain ⟨t, rfl⟩ := rx
    cases y with
    | byt j => obtain ⟨t', rfl⟩ := ry; exact PySem.W.eq_bytes (fin_bl I q dec_byt)
    | _ => exact absurd (show false = true from hs) Bool.false_ne_true
  | _ => cases y <;> exact absurd (show false = true from hs) Bool.false_ne_true
theorem op_lt : OpR X (compareOp .Lt) (rI0 fun i j => .bl (decide (i < j))) := opB0 fun _ _ _ _ _ _ _ q => lt_int q
theorem op_le : OpR X (compareOp .LtE) (rI0 fun i j => .bl (decide (i ≤ j))) := opB0 fun _ _ _ _ _ _ _ q => le_int q
theorem op_gt : OpR X (compareOp .Gt) (rI0 fun i j => .bl (decide (j < i))) := opB0 fun _ _ _ _ _ _ _ q => gt_int q
theorem op_ge : OpR X (compareOp .GtE) (rI0 fun i j => .bl (decide (j ≤ i))) := opB0 fun _ _ _ _ _ _ _ q => ge_int q
theorem op_in_str : OpR X (compareOp .In) (fun x y H Q => ∃ i j, x = .str i ∧ y = .str j ∧ Q (.bl (!(Builtin.Str.occurrences j i 0 j.length 1).isEmpty)) H) := by
  intro pins s σ H x y v u Q I rx ry h
  obtain ⟨i, j, rfl, rfl, q⟩ := h
  obtain ⟨t, rfl⟩ := rx
  obtain ⟨t', rfl⟩ := ry
  exact in_str (fin_bl I q rfl)
theorem op_isN : OpR X (compareOp .Is) (fun x y H Q => y = .non ∧ Q (.bl (decide (x = .non))) H) := by
  intro pins s σ H x y v u Q I rx ry h
  obtain ⟨rfl, q⟩ := h
  cases ry
  refine is_none_gen (fin_bl I q ?_)
  cases x <;> first
    | (cases rx; rfl)
    | (obtain ⟨t, rfl⟩ := rx; rfl)
theorem op_notN : OpR X (compareOp .IsNot) (fun x y H Q => y = .non ∧ Q (.bl (!decide (x = .non))) H) := by
  intro pins s σ H x y v u Q I rx ry h
  obtain ⟨rfl, q⟩ := h
  cases ry
  refine isnot_none_gen (fin_bl I q ?_)
  cases x <;> first
    | (cases rx; rfl)
    | (obtain ⟨t, rfl⟩ := rx; rfl)
theorem OpR.or {f : Value → Value → Sem Value} {r r' : R2} (h : OpR X f r) (h' : OpR X f r') : OpR X f (fun x y H Q => r x y H Q ∨ r' x y H Q) := by
  intro pins s σ H x y v u Q I rx ry q
  rcases q with q | q
  · exact h pins s σ H x y v u Q I rx ry q
  · exact h' pins s σ H x y v u Q I rx ry q
theorem nomark (b : Expr) {op : CmpOp} (h : op ≠ .In := by decide) (h2 : op ≠ .NotIn := by decide) : behindInMarks op b = false := by
  have e1 : (op == CmpOp.In) = false := by cases op <;> first | rfl | exact absurd rfl h
  have e2 : (op == CmpOp.NotIn) = false := by cases op <;> first | rfl | exact absurd rfl h2
  cases b <;> simp [behindInMarks, e1, e2]
theorem pe_cmpR {op : CmpOp} {r : R2} (ho : OpR X (compareOp op) r) (ha : PE X a ta) (hb : PE X b tb) (hm : behindInMarks op b = false) : PE X (.Compare a [op] [b] pos) (tOp r ta tb) := by
  intro pins s σ H Q I h
  exact wpAny_Compare1 (binT ha hb I h fun v u s2 x y H2 I2 rx ry q => ho pins s2 σ H2 x y v u Q I2 rx ry q) hm
def tTest (t : TE) : TT := fun σ H Q => t σ H fun x H' => ∃ k, x = .bl k ∧ Q k H'
theorem pt_cmpR {op : CmpOp} {r : R2} (ho : OpR X (compareOp op) r) (ha : PE X a ta) (hb : PE X b tb) (hm : behindInMarks op b = false) : PT X (.Compare a [op] [b] pos) (tTest (tOp r ta tb)) := by
  intro pins s σ H Q I h
  refine wpAny_isTrue_Compare1 (thn (ha pins s σ H _ I h) fun v s1 ⟨x, H1, I1, r1, q1⟩ => thn (hb pins s1 σ H1 _ I1 q1) fun u s2 ⟨y, H2, I2, r2, q2⟩ =>
    thn (ho pins s2 σ H2 x y v u _ I2 r1 r2 q2) fun c s3 ⟨z, H3, I3, r3, k, e, q3⟩ => ?_) hm
  subst e
  cases r3
  exact wpAny_truthy_bool ⟨H3, I3, q3⟩
def tChain (r r' : R2) (ta tb tc : TE) : TE := fun σ H Q => ta σ H fun x H1 => tb σ H1 fun y H2 => r x y H2 fun z H3 => ∃ k, z = .bl k ∧
  (if k = true then tc σ H3 fun w' H4 => r' y w' H4 Q else Q (.bl false) H3)
def TruV (K : PySem.W.Frag) (x : V) (H : Hp) (k : Bool) : Prop :=
  match x with
  | .non => k = false
  | .bl b => k = b
  | .int i => k = (i != 0)
  | .str y => y.length ≤ sizeLine ∧ k = ((y.length : Int) != 0)
  | .byt y => y.size ≤ sizeLine ∧ k = ((y.size : Int) != 0)
  | .ref p => (∃ xs, SqL K H p xs ∧ k = !xs.isEmpty) ∨ (∃ xs, SqT K H p xs ∧ k = !xs.isEmpty) ∨ ∃ kvs, H p = some (.dK kvs) ∧ k = !kvs.isEmpty
  | _ => False
theorem isEmpty_kv {κ : Type} {kvs : List (κ × V)} {vs : List (κ × Value)} (r : KV kvs vs) : (!vs.isEmpty) = !kvs.isEmpty := by
  cases r <;> rfl
theorem isEmpty_of {xs : List V} {its : List Value} (r : Vals xs its) : (!its.toArray.isEmpty) = !xs.isEmpty := by
  cases r <;> simp
theorem line63 : (sizeLine : Nat) < 2 ^ 63 := by rw [sizeLine_eq]; decide
theorem tru_ok : TruR X (fun x H Q => ∃ k, TruV X.K x H k ∧ Q k H) := by
  intro pins s σ H x v Q I rx h
  obtain ⟨k, e, q⟩ := h
  have hl := line63
  have hs : sizeLine = 16777216 := sizeLine_eq
  cases x with
  | non =>
    cases rx
    have e' : k = false := e
    subst e'
    exact truthy_none ⟨H, I, q⟩
  | bl b =>
    cases rx
    have e' : k = b := e
    subst e'
    exact wpAny_truthy_bool ⟨H, I, q⟩
  | int i =>
    obtain ⟨t, rfl⟩ := rx
    have e' : k = (i != 0) := e
    subst e'
    exact PySem.P.truthy_int ⟨H, I, q⟩
  | str y =>
    obtain ⟨t, rfl⟩ := rx
    obtain ⟨hy, e'⟩ : y.length ≤ sizeLine ∧ k = ((y.length : Int) != 0) := e
    subst e'
    exact PySem.P.truthy_str (by omega) ⟨H, I.tok _, q⟩
  | byt y =>
    obtain ⟨t, rfl⟩ := rx
    obtain ⟨hy, e'⟩ : y.size ≤ sizeLine ∧ k = ((y.size : Int) != 0) := e
    subst e'
    exact PySem.W.truthy_bytes (by omega) ⟨H, I.tok _, q⟩
  | ref p =>
    cases rx
    have e' : (∃ xs, SqL X.K H p xs ∧ k = !xs.isEmpty) ∨ (∃ xs, SqT X.K H p xs ∧ k = !xs.isEmpty) ∨ ∃ kvs, H p = some (.dK kvs) ∧ k = !kvs.isEmpty := e
    rcases e' with ⟨xs, hx, e'⟩ | ⟨xs, hx, e'⟩ | ⟨kvs, hx, e'⟩
    · subst e'
      obtain ⟨its, r, pl, hz⟩ := I.list hx
      have hlen := r.length
      exact wpAny_truthy_list pl.isList (by simp only [List.size_toArray]; omega) ⟨H, I.tok _, by rw [isEmpty_of r]; exact q⟩
    · subst e'
      obtain ⟨its, r, pl, hz⟩ := I.tuple hx
      have hlen := r.length
      exact truthy_tuple pl (by simp only [List.size_toArray]; omega) ⟨H, I.tok _, by rw [isEmpty_of r]; exact q⟩
    · subst e'
      obtain ⟨hz, hS, vs, r, m⟩ : kvs.length ≤ sizeLine ∧ (p == sysModules) = false ∧ ∃ vs, KV kvs vs ∧ s.heap.DictOf (mixKind X.prog X.w) p vs := I.hok p _ hx
      have hlen : kvs.length = vs.length := Paired.length r
      exact wpAny_truthy_dict hS m (by omega) ⟨H, I.tok _, by rw [isEmpty_kv r]; exact q⟩
  | _ => exact (show False from e).elim
theorem vals1 {x : V} {us : List Value} (r : Vals [x] us) : ∃ u, us = [u] ∧ RelV x u := by
  cases r with
  | cons r1 r2 => cases r2; exact ⟨_, rfl, r1⟩
theorem vals2 {x y : V} {us : List Value} (r : Vals [x, y] us) : ∃ u w', us = [u, w'] ∧ RelV x u ∧ RelV y w' := by
  cases r with
  | cons r1 r2 =>
    cases r2 with
    | cons r3 r4 => cases r4; exact ⟨_, _, rfl, r1, r3⟩
end
end L2
namespace L2
open PySem PySem.Spec PyProof.Rows
structure ObjM (h : Heap) (x dx C : Addr) (mA : Str → Option Value) : Prop where
  obj : h.get? x = some (PySem.W.instObj C dx)
  ns : h.Ns1 dx mA
  ne : dx ≠ x
theorem lookIn_ns {h : Heap} {dx : Addr} {mA : Str → Option Value} (n : h.Ns1 dx mA) : ∃ od, h.get? dx = some od ∧ ∀ name, PySem.W.lookIn name od = some (mA name) := by
  obtain ⟨o, es, ep, ho, hd, hk, _, hm⟩ := n
  refine ⟨o, ho, fun name => ?_⟩
  have e := hm name
  unfold nsFind findBy at e
  rw [← Array.find?_toList] at e
  unfold PySem.W.lookIn
  rw [hd]
  dsimp only
  split
  · rename_i y q
    rw [q] at e
    exact congrArg some e
  · rename_i q
    rw [q] at e
    have a : es.toList.any (·.refKey) = false := by
      rw [List.any_eq_false]
      intro y hy
      obtain ⟨z, t, hkey⟩ := hk y (Array.mem_toList_iff.mp hy)
      simp [DictEntry.refKey, hkey]
    have a' : ¬ es.toList.any (·.refKey) = true := by rw [a]; exact Bool.false_ne_true
    rw [if_neg a']
    exact congrArg some e
theorem ObjM.look {h : Heap} {x dx C : Addr} {mA : Str → Option Value} (I : ObjM h x dx C mA) : ∃ od, PySem.W.InstAt h x (PySem.W.instObj C dx) C (some od) ∧ ∀ name, PySem.W.lookIn name od = some (mA name) :=
  let ⟨od, ho, hl⟩ := lookIn_ns I.ns
  ⟨od, ⟨I.obj, rfl, rfl, ho⟩, hl⟩
section
variable {prog : Program} {w : World} {A : Around} {E : Value → Shared → Prop} {s : Shared} {K : PySem.W.Frag} {x dx C f : Addr} {mA : Str → Option Value} {name : Str} {v : Value}
theorem get_map {expr : Bool} {Q : Value → Shared → Prop} (X : K.In s.heap) (I : ObjM s.heap x dx C mA) (hg : PySem.W.plainGet K C name = true) (hh : PySem.W.hasDictIn K C = true)
    (ha : PySem.W.findIn K (.ref C) name = some none) (hv : mA name = some v) (hv' : PySem.W.handedIn v = true) (h : Q v { s with toks := s.toks + 1 }) :
    wpAny (model prog w) A (getAttr (.ref x) name expr) Q E s := by
  obtain ⟨od, J, hl⟩ := I.look
  exact PySem.W.get_value X J (PySem.W.plainGet_of hg).1 (PySem.W.findObj_own hh ha rfl (by rw [hl, hv])) hv' h
end
theorem RelO.some_of {v : V} {o : Option Value} (r : RelO (some v) o) : ∃ u, o = some u ∧ RelV v u := by
  cases o with
  | none => exact (show False from r).elim
  | some u => exact ⟨u, rfl, r⟩
section
variable {P : Program} {w : World} {H H' : Hp} {h h' : Heap} {a C dx : Addr} {fs fs' : List (Str × V)}
end
structure Cls (K : PySem.W.Frag) (C : Addr) : Prop where
  pg : PySem.W.plainGet K C Str.empty = true
  hd : PySem.W.hasDictIn K C = true
  po : PySem.W.plainOver K C = true
  sa : PySem.W.findIn K (.ref C) "__setattr__" = some (some (.builtin "object.__setattr__"))
theorem Cls.get {K : PySem.W.Frag} {C : Addr} (c : Cls K C) (f : Str) : PySem.W.plainGet K C f = true := c.pg
section
variable {X : Cx} {pins : List (Addr × Obj)} {σ : St} {H : Hp} {s : Shared} {a C dx : Addr} {fs : List (Str × V)} {f : Str} {v : V} {A : Around} {E : Value → Shared → Prop}
end
section
variable {X : Cx} {o e value : Expr} {f : Str} {pos pos' tpos : Pos} {ta tv : TE}
end
section
variable {X : Cx} {pins : List (Addr × Obj)} {σ : St} {H : Hp} {s : Shared} {A : Around} {E : Value → Shared → Prop} {Q : Value → Shared → Prop} {c : Value} {b : Bool}
end
end L2
namespace L2
open PySem PySem.Spec PyProof.Rows
structure Room (k : Nat) (A : Around) : Prop where
  hd : A.handled = none
  dp : A.depth + 3 * k + 5 < recursionLimit
  un : A.units + 16 * k + 200 < cLine
theorem Room.mono {j k : Nat} {A : Around} (r : Room k A) (h : j ≤ k) : Room j A := ⟨r.hd, by have := r.dp; omega, by have := r.un; omega⟩
theorem Room.deeper {k : Nat} {A : Around} (r : Room (k + 1) A) (env : Env) : Room k (A.deeper env) :=
  ⟨r.hd, by have := r.dp; show A.depth + 1 + 3 * k + 5 < _; omega, by have := r.un; show A.units + 3 + 16 * k + 200 < _; omega⟩
theorem Room.in1 {k : Nat} {A : Around} (r : Room (k + 1) A) : Room k A.in1 :=
  ⟨r.hd, by have := r.dp; show A.depth + 3 * k + 5 < _; omega, by have := r.un; show A.units + 1 + 16 * k + 200 < _; omega⟩
theorem Room.depth {k : Nat} {A : Around} (r : Room k A) : A.depth < recursionLimit := by have := r.dp; omega
theorem Room.units {k : Nat} {A : Around} (r : Room k A) : A.units + 64 < cLine := by have := r.un; omega
def tNil : TA := fun _ H Q => Q [] H
def tCons (ta : TE) (tr : TA) : TA := fun σ H Q => ta σ H fun x H1 => tr σ H1 fun xs H2 => Q (x :: xs) H2
section
variable {X : Cx} {e : Expr} {es : List Expr} {te : TE} {t : TA} {pos : Pos}
theorem pa_nil : PA X [] tNil := fun _ _ _ _ H Q I h => Calls.spliced_nil ⟨[], H, I, .nil, h⟩
theorem pa_cons (ha : PE X e te) (hr : PA X es t) (hs : starEach (e :: es) X.env = (false, eval e X.env) :: starEach es X.env := by rfl) : PA X (e :: es) (tCons te t) := by
  intro pos pins s σ H Q I h
  rw [hs]
  show wpAny _ _ (spliced ((false, eval e X.env) :: backTo pos (starEach es X.env))) _ _ s
  refine Calls.spliced_cons (thn (ha pins s σ H _ I h) fun u s1 ⟨x, H1, I1, r1, q1⟩ => ?_)
  exact thn (hr pos pins s1 σ H1 _ I1 q1) fun us s2 ⟨xs, H2, I2, r2, q2⟩ => ⟨x :: xs, H2, I2, .cons r1 r2, q2⟩
def tTup (t : TA) : TE := fun σ H Q => t σ H fun xs H1 => xs.length ≤ sizeLine ∧ ∀ p, H1 p = none → Q (.ref p) (upd H1 p (.tup xs))
def tLst (t : TA) : TE := fun σ H Q => t σ H fun xs H1 => xs.length ≤ sizeLine ∧ ∀ p, H1 p = none → Q (.ref p) (upd H1 p (.lst xs))
theorem pe_tup {x1} (h : PA X es t) : PE X (.Tuple es x1 pos) (tTup t) := by
  intro pins s σ H Q I hq
  refine wpAny_Tuple_spliced (thn (h pos pins s σ H _ I hq) fun us s1 ⟨xs, H1, I1, r, z, q⟩ => ⟨by rw [← r.length]; exact z, ?_⟩)
  have hf : H1 s1.heap.objs.size = none := I1.hok.fresh (Nat.le_refl _)
  refine ⟨.ref s1.heap.objs.size, upd H1 s1.heap.objs.size (.tup xs), I1.laid (t' := s1.toks) (fun b u e => Heap.get?_push_of_some _ e) (Nat.le_refl _) ?_, rfl, q _ hf⟩
  exact ⟨z, us, r, ⟨_, Heap.get?_push_size _ rfl, rfl, _, rfl⟩⟩
theorem pe_lst (h : PA X es t) : PE X (.List es pos) (tLst t) := by
  intro pins s σ H Q I hq
  refine wpAny_List_spliced (thn (h pos pins s σ H _ I hq) fun us s1 ⟨xs, H1, I1, r, z, q⟩ => ⟨by rw [← r.length]; exact z, ?_⟩)
  have hf : H1 s1.heap.objs.size = none := I1.hok.fresh (Nat.le_refl _)
  refine ⟨.ref s1.heap.objs.size, upd H1 s1.heap.objs.size (.lst xs), I1.laid (t' := s1.toks) (fun b u e => Heap.get?_push_of_some _ e) (Nat.le_refl _) ?_, rfl, q _ hf⟩
  exact ⟨z, us, 0, r, Heap.get?_push_size _ rfl⟩
end
abbrev Sp := List V → Hp → VK → XK → Prop
abbrev CXT := List Env → Hp → Shared → XK → Value → Shared → Prop
structure Env0 (P : Program) (w : World) (K : PySem.W.Frag) (mg : Str → Option Value) (base : Heap) (A : Around) (outer : List Env) (s : Shared) (H : Hp) : Prop where
  frames : A.frames = some outer
  mod : Mod K mg base
  bs : ∀ b o, base.get? b = some o → s.heap.get? b = some o ∧ H b = none
  bsz : base.objs.size ≤ s.heap.objs.size
  funs : s.heap.FunFrames base outer
  frf : ∀ b ∈ frs outer, H b = none
  hok : HOk P w H s.heap
  bare : AllBare s.gens
def CE (outer : List Env) (P : Program) (w : World) (H : Hp) (s : Shared) (Q : VK) (u : Value) (s' : Shared) : Prop :=
  ∃ v H', s'.os = s.os ∧ AllBare s'.gens ∧ Un (frs outer) [] H H' s.heap s'.heap ∧ HOk P w H' s'.heap ∧ RelV v u ∧ Q v H'
def CR (CX : CXT) (outer : List Env) (P : Program) (w : World) (H : Hp) (s : Shared) (Q : VK) (E : XK) (r : Result) (s' : Shared) : Prop :=
  match r with
  | .ok (.ret u) => CE outer P w H s Q u s'
  | .ok _ => False
  | .error e => CX outer H s E e s'
structure FnOk (P : Program) (w : World) (K : PySem.W.Frag) (mg : Str → Option Value) (base : Heap) (CX : CXT) (k : Nat) (f : Addr) (fd : FuncData) (ps : List Str) (sp : Sp) : Prop where
  len : ∀ vs H Q E, sp vs H Q E → vs.length = ps.length
  run : ∀ (A : Around) (outer : List Env) (s : Shared) (H : Hp) (args : Args) (us : List Value) (vs : List V) (Q : VK) (E : XK), Room k A → Env0 P w K mg base A outer s H → BindsTo s fd args (ps.zip us) → Vals vs us → sp vs H Q E →
    codeAny (model P w) A (.call (.ref f) args) (CR CX outer P w H s Q E) s
theorem FnOk.mono {P : Program} {w : World} {K : PySem.W.Frag} {mg : Str → Option Value} {base : Heap} {CX : CXT} {j k : Nat} {f : Addr} {fd : FuncData} {ps : List Str} {sp : Sp} (F : FnOk P w K mg base CX j f fd ps sp) (h : j ≤ k) :
    FnOk P w K mg base CX k f fd ps sp := ⟨F.len, fun A outer s H args us vs Q E hr => F.run A outer s H args us vs Q E (hr.mono h)⟩
theorem FnOk.imp {P : Program} {w : World} {K : PySem.W.Frag} {mg : Str → Option Value} {base : Heap} {CX : CXT} {k : Nat} {f : Addr} {fd : FuncData} {ps : List Str} {sp sp' : Sp} (F : FnOk P w K mg base CX k f fd ps sp)
    (h : ∀ vs H Q E, sp' vs H Q E → sp vs H Q E) : FnOk P w K mg base CX k f fd ps sp' :=
  ⟨fun vs H Q E q => F.len vs H Q E (h _ _ _ _ q), fun A outer s H args us vs Q E hr he hb hv hs => F.run A outer s H args us vs Q E hr he hb hv (h _ _ _ _ hs)⟩
theorem Env0.in1 {P : Program} {w : World} {K : PySem.W.Frag} {mg : Str → Option Value} {base : Heap} {A : Around} {outer : List Env} {s : Shared} {H : Hp} (e : Env0 P w K mg base A outer s H) :
    Env0 P w K mg base A.in1 outer s H := ⟨e.frames, e.mod, e.bs, e.bsz, e.funs, e.frf, e.hok, e.bare⟩
section
variable {X : Cx} {pins : List (Addr × Obj)} {σ : St} {H : Hp} {s s' : Shared}
theorem Inv.env0 (I : Inv X pins σ H s) : Env0 X.prog X.w X.K X.mg X.base X.A X.stack s H :=
  ⟨I.ok.frames, I.ok.mod, I.bs, Nat.le_trans I.ok.bsz I.sz, I.stack, I.stkFree, I.hok, I.bare⟩
theorem Inv.after {Q : VK} {u : Value} (I : Inv X pins σ H s) (h : CE X.stack X.prog X.w H s Q u s') : EP X pins σ Q u s' := by
  obtain ⟨v, H', os, bare, un, hok, r, q⟩ := h
  obtain ⟨hh, g, d, t, os'⟩ := s'
  obtain rfl : os' = s.os := os
  exact ⟨v, H', I.call (h' := hh) (g' := g) (d' := d) (t' := t) (ch := []) un hok bare (fun b z => absurd z (by simp)), r, q⟩
end
def tCall (sp : Sp) (dvs : List V) (E : XK) (t : TA) : TE := fun σ H Q => t σ H fun vs H1 => sp (vs ++ dvs) H1 Q E
def Binds (K : PySem.W.Frag) (fd : FuncData) (ps : List Str) (ds : List Value) : Prop :=
  ∀ (s : Shared) (us : List Value), K.In s.heap → (us ++ ds).length = ps.length → BindsTo s fd ⟨us, []⟩ (ps.zip (us ++ ds))
theorem Binds.all {K : PySem.W.Frag} {fd : FuncData} {ps : List Str} (h : ∀ us : List Value, us.length = ps.length → bindArgs fd ⟨us, []⟩ = pure (ps.zip us)) : Binds K fd ps [] := fun s us _ hl => by
  rw [List.append_nil] at hl ⊢
  exact .of_eq (h us hl)
def Passes (CX : CXT) (X : Cx) (E : XK) : Prop := ∀ (pins : List (Addr × Obj)) (σ : St) (H : Hp) (s : Shared) (e : Value) (s' : Shared), Inv X pins σ H s → CX X.stack H s E e s' → X.xe e s'
section
variable {X : Cx} {CX : CXT} {k : Nat} {f C : Addr} {fd : FuncData} {ps : List Str} {sp : Sp} {dvs : List V} {ds : List Value} {E : XK} {x m : Str} {p pos apos : Pos} {e o : Expr} {es : List Expr} {ta : TE} {t : TA}
theorem run_fn {pins : List (Addr × Obj)} {σ : St} {H : Hp} {s : Shared} {Q : VK} {us : List Value} {vs : List V} (F : FnOk X.prog X.w X.K X.mg X.base CX k f fd ps sp) (hr : Room k X.A) (hb : Binds X.K fd ps ds) (hd : Vals dvs ds) (hx : Passes CX X E)
    (I : Inv X pins σ H s) (r : Vals vs us) (h : sp (vs ++ dvs) H Q E) : wpAny (model X.prog X.w) X.A (call (.ref f) us) (EP X pins σ Q) X.xe s := by
  have r2 : Vals (vs ++ dvs) (us ++ ds) := r.append hd
  have hl : (us ++ ds).length = ps.length := by rw [← r2.length]; exact F.len _ _ _ _ h
  refine wpAny_call (codeAny_mono (F.run X.A X.stack s H ⟨us, []⟩ (us ++ ds) (vs ++ dvs) Q E hr I.env0 (hb s us I.kIn hl) r2 h) fun r s' hq => ?_)
  cases r with
  | error e => exact hx pins σ H s e s' I hq
  | ok fl =>
    cases fl with
    | ret u => exact I.after hq
    | next => exact False.elim hq
    | brk => exact False.elim hq
    | cont => exact False.elim hq
theorem pe_call (F : FnOk X.prog X.w X.K X.mg X.base CX k f fd ps sp) (hr : Room k X.A) (hg : Gl X x) (hm : X.mg x = some (.ref f)) (hk : PySem.W.keepIn X.K (.ref f) = true) (hb : Binds X.K fd ps ds) (hd : Vals dvs ds) (hx : Passes CX X E)
    (ha : PA X (e :: es) t) (hdb : (x == ("__debug__" : Str)) = false := by decide) (he : starEach (e :: es) X.env = (false, eval e X.env) :: starEach es X.env := by rfl) (hpl : (backTo pos (starEach es X.env)).any (·.1) = false := by rfl) :
    PE X (.Call (.Name x p) (e :: es) [] pos) (tCall sp dvs E t) := by
  intro pins s σ H Q I h
  refine wpAny_Call_Name_kw (ld_glob I hg hm ?_ hdb)
  refine PySem.W.callWith_K (h₀ := X.base) I.ok.mod.kin hk (thn (ha pos pins s σ H _ I h) fun us s1 ⟨vs, H1, I1, r, q⟩ => ⟨I1.kIn, ?_⟩) he hpl
  exact run_fn F hr hb hd hx I1 r q
end
section
variable {X : Cx} {CX : CXT} {k : Nat} {f C : Addr} {fd : FuncData} {ps ks : List Str} {sp : Sp} {E : XK} {x m : Str} {p pos apos kpos : Pos} {e o : Expr} {es : List Expr} {kws : List Keyword} {te ta : TE} {t tk : TA} {nm : Option Str}
variable {g : List Value → List Value → List Value} {gV : List V → List V → List V}
end
structure FnScope (N P : List Str) (sc : Scope) : Prop where
  kind : sc.kind = .function
  co : sc.isCoroutine = false
  gen : sc.isGenerator = false
  nd : N.Nodup
  pre : N.take P.length = P
  par : ∀ x ∈ P, sc.names.lookup x = some .local ∨ sc.names.lookup x = some .cell
  nofree : ∀ y ∈ sc.names, y.2 ≠ .free
theorem bindL_out {kindOf : Str → Option NameKind} {x : Str} : ∀ {binds : List (Str × Value)} {m : Str → Option Value}, (∀ v, (x, v) ∉ binds) → bindL kindOf binds m x = m x
  | [], _, _ => rfl
  | (n, v) :: r, m, h => by
    unfold bindL
    rw [bindL_out fun w hw => h w (List.mem_cons_of_mem _ hw)]
    split
    · have : x ≠ n := by rintro rfl; exact h v List.mem_cons_self
      simp [this]
    · rfl
theorem bindC_out {kindOf : Str → Option NameKind} {x : Str} : ∀ {binds : List (Str × Value)} {m : Str → Option Value}, (∀ v, (x, v) ∉ binds) → bindC kindOf binds m x = m x
  | [], _, _ => rfl
  | (n, v) :: r, m, h => by
    unfold bindC
    rw [bindC_out fun w hw => h w (List.mem_cons_of_mem _ hw)]
    split
    · rfl
    · have : x ≠ n := by rintro rfl; exact h v List.mem_cons_self
      simp [this]
theorem bindL_get {kindOf : Str → Option NameKind} {x : Str} {v : Value} : ∀ {P : List Str} {vs : List Value} {i : Nat} {m : Str → Option Value}, P.Nodup → P[i]? = some x → vs[i]? = some v → kindOf x = some .local →
    bindL kindOf (P.zip vs) m x = some v
  | [], _, _, _, _, h, _, _ => by simp at h
  | _ :: _, [], _, _, _, _, h, _ => by simp at h
  | p :: P, w :: vs, 0, m, nd, h1, h2, hk => by
    simp at h1 h2; subst h1; subst h2
    show bindL kindOf ((p, w) :: P.zip vs) m p = _
    unfold bindL
    rw [bindL_out fun v hv => (List.nodup_cons.mp nd).1 (List.of_mem_zip hv).1, if_pos hk]
    simp
  | p :: P, w :: vs, i + 1, m, nd, h1, h2, hk => by
    show bindL kindOf ((p, w) :: P.zip vs) m x = _
    unfold bindL
    exact bindL_get (i := i) (List.nodup_cons.mp nd).2 (by simpa using h1) (by simpa using h2) hk
theorem bindC_get {kindOf : Str → Option NameKind} {x : Str} {v : Value} : ∀ {P : List Str} {vs : List Value} {i : Nat} {m : Str → Option Value}, P.Nodup → P[i]? = some x → vs[i]? = some v → kindOf x ≠ some .local →
    bindC kindOf (P.zip vs) m x = some v
  | [], _, _, _, _, h, _, _ => by simp at h
  | _ :: _, [], _, _, _, _, h, _ => by simp at h
  | p :: P, w :: vs, 0, m, nd, h1, h2, hk => by
    simp at h1 h2; subst h1; subst h2
    show bindC kindOf ((p, w) :: P.zip vs) m p = _
    unfold bindC
    rw [bindC_out fun v hv => (List.nodup_cons.mp nd).1 (List.of_mem_zip hv).1, if_neg hk]
    simp
  | p :: P, w :: vs, i + 1, m, nd, h1, h2, hk => by
    show bindC kindOf ((p, w) :: P.zip vs) m x = _
    unfold bindC
    exact bindC_get (i := i) (List.nodup_cons.mp nd).2 (by simpa using h1) (by simpa using h2) hk
def start (N : List Str) (vs : List V) : St := vs.map some ++ List.replicate (N.length - vs.length) none
def cxOf (CX : CXT) (P : Program) (w : World) (K : PySem.W.Frag) (mg : Str → Option Value) (base : Heap) (N : List Str) (qual : Str) (scope : Scope) (f : Addr) (cd : Value) (A : Around) (outer : List Env) (s : Shared) (H : Hp) (E : XK) : Cx where
  prog := P
  w := w
  K := K
  mg := mg
  base := base
  A := A.deeper (envOfC qual scope s.heap.objs.size f cd)
  N := N
  s₀ := s
  H₀ := H
  env := envOfC qual scope s.heap.objs.size f cd
  outer := outer
  stack := envOfC qual scope s.heap.objs.size f cd :: outer
  ex := []
  calm := true
  fn := fun _ => true
  pn := []
  xe := fun e s' => wpAny (model P w) (A.deeper (envOfC qual scope s.heap.objs.size f cd)) (leaving (envOfC qual scope s.heap.objs.size f cd) e) (fun _ s'' => CX outer H s E e s'') (fun e' s'' => CX outer H s E e' s'') s'
theorem cell_has {sc : Scope} {n : Nat} {x : Str} (h : sc.names.lookup x = some .cell) : ∃ c, (cellsFrom n sc.names []).lookup x = some c := by
  have q := PySem.W.cellsFrom_some sc.names n [] (.inl h)
  exact Option.isSome_iff_exists.mp q
theorem inv_start {CX : CXT} {P : Program} {w : World} {K : PySem.W.Frag} {mg : Str → Option Value} {base : Heap} {N ps : List Str} {qual : Str} {scope : Scope} {f : Addr} {cd : Value} {A : Around} {outer : List Env} {s s1 : Shared} {H : Hp} {E : XK} {us : List Value} {vs : List V}
    (S : FnScope N ps scope) (hd : A.handled = none) (e0 : Env0 P w K mg base A outer s H) (hl : vs.length = ps.length) (r : Vals vs us)
    (x : InCallC s s.heap.objs.size (bindL (envOfC qual scope s.heap.objs.size f cd).kindOf (ps.zip us) fun _ => none) (cellsFrom (s.heap.objs.size + 1) scope.names []) (bindC (envOfC qual scope s.heap.objs.size f cd).kindOf (ps.zip us) fun _ => none) s1) :
    Inv (cxOf CX P w K mg base N qual scope f cd A outer s H E) [] (start N vs) H s1 := by
  have hpl : ps.length ≤ N.length := by have := congrArg List.length S.pre; rw [List.length_take] at this; omega
  obtain ⟨h1, tk, rfl, hk⟩ := x.done
  have noA : ∀ b : Addr, b ∉ (cxOf CX P w K mg base N qual scope f cd A outer s H E).ex := fun b z => absurd (show b ∈ ([] : List Addr) from z) (by simp)
  refine ⟨⟨e0.mod, S.kind, rfl, rfl, Nat.le_refl _, fun y z c h1 h2 => ?_, fun y hy => ?_, fun y c _ h => ?_, fun _ => hd, Around.frames_deeper e0.frames, .inr ⟨rfl, rfl⟩, fun b z => absurd z (noA b), e0.bs, e0.bsz, fun b _ _ => noA b, fun b z => absurd z (noA b), e0.funs, e0.frf⟩,
    rfl, e0.bare, Un.kept hk, ⟨_, x.toInCall.ns, fun i y v h1 h2 h3 => ?_⟩, fun y c h => ⟨_, x.cell y c h⟩, e0.hok.fresh (Nat.le_refl _), fun y c h => ?_, fun p hp => absurd (show p ∈ ([] : List (Addr × Obj)) from hp) (by simp), e0.hok.kept hk, ?_⟩
  · exact name_of_addr x.apart (PySem.mem_of_lookup h1) (PySem.mem_of_lookup h2)
  · have hy : scope.names.lookup y = some .cell ∨ scope.names.lookup y = some .free := hy
    rcases hy with hy | hy
    · exact cell_has hy
    · exact absurd rfl (S.nofree _ (PySem.mem_of_lookup hy))
  · exact Nat.le_of_lt (x.above y c (PySem.mem_of_lookup h))
  · have hi : i < vs.length := by
      unfold start at h2
      by_cases hi : i < vs.length
      · exact hi
      · rw [List.getElem?_append_right (by simpa using hi)] at h2
        rw [List.getElem?_replicate] at h2
        split at h2 <;> cases h2
    have ha : vs[i]? = some v := by
      unfold start at h2
      rw [List.getElem?_append_left (by simpa using hi), List.getElem?_map] at h2
      cases e : vs[i]? with
      | none => rw [e] at h2; cases h2
      | some a => rw [e] at h2; cases h2; rfl
    obtain ⟨u, hu, rv⟩ := r.get ha
    have hp : ps[i]? = some y := by
      rw [← S.pre, List.getElem?_take_of_lt (by omega)]; exact h1
    have ndP : ps.Nodup := by rw [← S.pre]; exact S.nd.sublist (List.take_sublist _ _)
    refine ⟨u, rv, ?_⟩
    rcases S.par y (List.mem_of_getElem? hp) with k | k
    · exact .inl ⟨k, bindL_get ndP hp hu k⟩
    · obtain ⟨c, e⟩ := cell_has (n := s.heap.objs.size + 1) k
      refine .inr ⟨.inl k, c, e, ?_⟩
      have q := x.cell y c e
      rw [bindC_get ndP hp hu (by show scope.names.lookup y ≠ _; rw [k]; decide)] at q
      exact q
  · exact e0.hok.fresh (Nat.le_of_lt (x.above y c (PySem.mem_of_lookup h)))
  · unfold start
    show _ = N.length
    rw [List.length_append, List.length_map, List.length_replicate]
    omega
theorem fn_of {CX : CXT} {P : Program} {w : World} {K : PySem.W.Frag} {mg : Str → Option Value} {base : Heap} {k : Nat} {f : Addr} {name qual : Str} {params : Arguments} {body : List Stmt} {scope : Scope} {dV kV doc pm cdv ct oc : Value} {an od : Option Addr}
    {osl : Array (Option Value)} {N ps : List Str} {sp : Sp} (lk : K.lookup f = some ⟨oc, od, .func (PySem.W.fnOf name qual params body scope dV kV doc pm an cdv ct), osl⟩) (hcd : PySem.W.codeIn K cdv qual = true) (S : FnScope N ps scope)
    (len : ∀ vs H Q E, sp vs H Q E → vs.length = ps.length)
    (hbody : ∀ (A : Around) (outer : List Env) (s : Shared) (H : Hp) (vs : List V) (Q : VK) (E : XK), Room k (A.deeper (envOfC qual scope s.heap.objs.size f cdv)) → sp vs H Q E →
      ∃ t, PSs (cxOf CX P w K mg base N qual scope f cdv A outer s H E) body t ∧ t { nx := fun _ H' => Q .non H', rt := Q } (start N vs) H) :
    FnOk P w K mg base CX (k + 1) f (PySem.W.fnOf name qual params body scope dV kV doc pm an cdv ct) ps sp := by
  refine ⟨len, fun A outer s H args us vs Q E hr e0 hb r hsp => ?_⟩
  have hl := len _ _ _ _ hsp
  have KX : K.In s.heap := e0.mod.kin.keeps fun b o e => (e0.bs b o e).1
  have lim : s.heap.NoLimit := e0.mod.nolimit.keeps fun b o e => (e0.bs b o e).1
  have hkind : ∀ y ∈ ps.zip us, scope.names.lookup y.1 = some .local ∨ (scope.names.lookup y.1 = some .cell ∧ ((cellsFrom (s.heap.objs.size + 1) scope.names []).lookup y.1).isSome = true) := fun ⟨n, v⟩ hy => by
    rcases S.par n (List.of_mem_zip hy).1 with q | q
    · exact .inl q
    · exact .inr ⟨q, PySem.W.cellsFrom_some _ _ _ (.inl q)⟩
  refine codeAny_call_function hr.depth (KX _ _ lk) rfl S.co S.gen rfl (PySem.W.codeRec_of KX hcd) (hb _ _ _ _ ?_)
  refine wpAny_newFunctionEnv_cells S.kind hkind fun env he s1 x => ?_
  subst he
  refine ⟨lim.keeps x.toInCall.keep, codeAny_func ?_⟩
  obtain ⟨t, ht, hq⟩ := hbody A outer s H vs Q E (hr.deeper _) hsp
  have I : Inv (cxOf CX P w K mg base N qual scope f cdv A outer s H E) [] (start N vs) H s1 := inv_start S hr.hd e0 hl r x
  refine wpAny_mono (ht [] s1 (start N vs) H _ I hq) (fun fl s' hs => ?_) fun e s' hs => hs
  have fin : ∀ {σ' : St} {H' : Hp} {v : V} {u : Value}, Inv (cxOf CX P w K mg base N qual scope f cdv A outer s H E) [] σ' H' s' → RelV v u → Q v H' → CE outer P w H s Q u s' :=
    fun {σ' H' v u} J rv q => ⟨v, H', J.os, J.bare, J.base, J.hok, rv, q⟩
  cases fl with
  | ret u =>
    obtain ⟨v, σ', H', J, rv, q⟩ := hs
    exact fin J rv q
  | next =>
    obtain ⟨σ', H', J, q⟩ := hs
    exact fin (v := V.non) (u := Value.none) J rfl q
  | brk =>
    obtain ⟨_, _, _, q⟩ := hs
    exact False.elim q
  | cont =>
    obtain ⟨_, _, _, q⟩ := hs
    exact False.elim q
end L2
namespace L2
open PySem PySem.Spec PyProof.Rows
section
variable {X : Cx} {x : Str} {p pos : Pos} {e : Expr} {es : List Expr} {t : TA} {id T : String} {r : List V → Hp → VK → Prop}
def tCB (r : List V → Hp → VK → Prop) (t : TA) : TE := fun σ H Q => t σ H fun vs H1 => r vs H1 Q
theorem pe_callB (hc : CallR X (.builtin id) r) (hg : Gl X x) (hm : X.mg x = none) (hv : bootBuiltins x = some (.builtin id)) (ha : PA X (e :: es) t) (hn : x ≠ "__name__" := by decide) (hdb : (x == ("__debug__" : Str)) = false := by decide)
    (he : starEach (e :: es) X.env = (false, eval e X.env) :: starEach es X.env := by rfl) (hpl : (backTo pos (starEach es X.env)).any (·.1) = false := by rfl) : PE X (.Call (.Name x p) (e :: es) [] pos) (tCB r t) := by
  intro pins s σ H Q I h
  refine wpAny_Call_Name_kw (ld_blt I hg hm hv ?_ hn hdb)
  exact PyProof.Rows.callWith_builtin1 (thn (ha pos pins s σ H _ I h) fun us s1 ⟨vs, H1, I1, r1, q1⟩ => hc pins s1 σ H1 vs us Q I1 r1 q1) he hpl
theorem pe_callTy (hc : CallR X (.type T) r) (hg : Gl X x) (hm : X.mg x = none) (hv : bootBuiltins x = some (.type T)) (ha : PA X (e :: es) t) (hn : x ≠ "__name__" := by decide) (hdb : (x == ("__debug__" : Str)) = false := by decide)
    (he : starEach (e :: es) X.env = (false, eval e X.env) :: starEach es X.env := by rfl) (hpl : (backTo pos (starEach es X.env)).any (·.1) = false := by rfl) : PE X (.Call (.Name x p) (e :: es) [] pos) (tCB r t) := by
  intro pins s σ H Q I h
  refine wpAny_Call_Name_kw (ld_blt I hg hm hv ?_ hn hdb)
  exact PyProof.Rows.callWith_type1 (thn (ha pos pins s σ H _ I h) fun us s1 ⟨vs, H1, I1, r1, q1⟩ => hc pins s1 σ H1 vs us Q I1 r1 q1) he hpl
end
end L2
namespace HT
open PySem PyProof.Rows
def lexLt : List Int → List Int → Bool
  | [], [] => false
  | [], _ :: _ => true
  | _ :: _, [] => false
  | x :: xs, y :: ys => if x = y then lexLt xs ys else decide (x < y)
section
open PySem.SeqAt
open PySem.AutoSeq1 (wpAny_loadPart')
open PySem.MeetsSeq PySem.MeetsSeq2 PySem.MeetsSeq3
end
section
variable {prog : Program} {w : World} {A : Around} {E : Value → Shared → Prop} {s : Shared}
def sIx (n d : Nat) : Option Int → Nat
  | none => d
  | some v => if v < 0 then (v + (n : Int)).toNat else min v.toNat n
end
end HT
namespace L2
open PySem PySem.Spec PyProof.Rows
abbrev TO := St → Hp → (Option Int → Hp → Prop) → Prop
def PO (X : Cx) (e : Option Expr) (t : TO) : Prop :=
  ∀ (pins : List (Addr × Obj)) (s : Shared) (σ : St) (H : Hp) (Q : Option Int → Hp → Prop), Inv X pins σ H s → t σ H Q →
    wpAny (model X.prog X.w) X.A (evalPart e X.env) (fun u s' => ∃ o H', Inv X pins σ H' s' ∧ IsPart u o ∧ Q o H') X.xe s
def tNoPart : TO := fun _ H Q => Q none H
def tPart (t : TE) : TO := fun σ H Q => t σ H fun x H1 => ∃ i, x = .int i ∧ Q (some i) H1
section
variable {X : Cx} {e : Expr} {te : TE} {lo hi : Option Expr} {tl th : TO} {pos p2 : Pos}
theorem po_none : PO X none tNoPart := by
  intro pins s σ H Q I h
  rw [evalPart_none]
  exact wpAny_pure ⟨none, H, I, .none, h⟩
theorem po_some (h : PE X e te) : PO X (some e) (tPart te) := by
  intro pins s σ H Q I hw
  rw [evalPart_some]
  refine thn (h pins s σ H _ I hw) fun u s1 ⟨x, H1, I1, r1, q1⟩ => ?_
  obtain ⟨i, rfl, q⟩ := q1
  obtain ⟨t, rfl⟩ := r1
  exact ⟨some i, H1, I1, .int i t, q⟩
def SlR (X : Cx) (r : V → Option Int → Option Int → Hp → VK → Prop) : Prop :=
  ∀ (pins : List (Addr × Obj)) (s : Shared) (σ : St) (H : Hp) (x : V) (v vl vu : Value) (lo hi : Option Int) (sl : Addr) (Q : VK), Inv X pins σ H s → RelV x v → s.heap.IsSliceOf sl vl vu .none → IsPart vl lo → IsPart vu hi → r x lo hi H Q →
    ∃ T id, typeLookup (.type T) "__getitem__" = pure (some (.builtin id)) ∧ s.TypeIs v T ∧ wpAny (model X.prog X.w) X.A (getItem v (.ref sl)) (EP X pins σ Q) X.xe s
theorem SlR.or {r r' : V → Option Int → Option Int → Hp → VK → Prop} (h : SlR X r) (h' : SlR X r') : SlR X (fun x lo hi H Q => r x lo hi H Q ∨ r' x lo hi H Q) := by
  intro pins s σ H x v vl vu lo hi sl Q I rx hs pl pu q
  rcases q with q | q
  · exact h pins s σ H x v vl vu lo hi sl Q I rx hs pl pu q
  · exact h' pins s σ H x v vl vu lo hi sl Q I rx hs pl pu q
def tSl (r : V → Option Int → Option Int → Hp → VK → Prop) (te : TE) (tl th : TO) : TE := fun σ H Q => te σ H fun x H1 => tl σ H1 fun l H2 => th σ H2 fun u H3 => r x l u H3 Q
theorem pe_slice {r : V → Option Int → Option Int → Hp → VK → Prop} (hr : SlR X r) (he : PE X e te) (hl : PO X lo tl) (hu : PO X hi th) : PE X (.Subscript e (.Slice lo hi none p2) pos) (tSl r te tl th) := by
  intro pins s σ H Q I h
  refine Subscript_ (thn (he pins s σ H _ I h) fun v s1 ⟨x, H1, I1, r1, q1⟩ => ?_)
  refine wpAny_Slice (thn (hl pins s1 σ H1 _ I1 q1) fun vl s2 ⟨l, H2, I2, pl, q2⟩ => thn (hu pins s2 σ H2 _ I2 q2) fun vu s3 ⟨u, H3, I3, pu, q3⟩ => ?_)
  rw [evalPart_none]
  refine wpAny_pure ?_
  have I4 : Inv X pins σ H3 { s3 with heap := s3.heap.push { cls := .type "slice", data := .fields #[vl, vu, .none] } } := I3.kept (t' := s3.toks) fun b ob q => Heap.get?_push_of_some _ q
  obtain ⟨T, id, hT, ht, hg⟩ := hr pins { s3 with heap := s3.heap.push { cls := .type "slice", data := .fields #[vl, vu, .none] } } σ H3 x v vl vu l u s3.heap.objs.size Q I4 r1 (Heap.IsSliceOf.new ..) pl pu q3
  show wpAny (model X.prog X.w) X.A (subscriptTail e (.Slice lo hi none p2) v (.ref s3.heap.objs.size)) (EP X pins σ Q) X.xe { s3 with heap := s3.heap.push { cls := .type "slice", data := .fields #[vl, vu, .none] } }
  exact tail_any (ops := [.ref s3.heap.objs.size, v]) ht hT hg (by with_unfolding_all rfl)
def cutV (xs : List V) (lo hi : Option Int) : List V := (xs.drop (HT.sIx xs.length 0 lo)).take (HT.sIx xs.length xs.length hi - HT.sIx xs.length 0 lo)
theorem cutV_length (xs : List V) (lo hi : Option Int) : (cutV xs lo hi).length ≤ xs.length := by
  unfold cutV
  rw [List.length_take, List.length_drop]
  omega
def rLtT (K : PySem.W.Frag) : R2 := fun x y H Q => ∃ a b ns ms, x = .ref a ∧ y = .ref b ∧ SqT K H a (ns.map V.int) ∧ SqT K H b (ms.map V.int) ∧ Q (.bl (HT.lexLt ns ms)) H
end
end L2
namespace L2
open PySem PySem.Spec PyProof.Rows
def ixN (n : Nat) (i : Int) : Option Nat := if 0 ≤ i then (if i < n then some i.toNat else none) else if -(n : Int) ≤ i then some (i + n).toNat else none
def atI {α : Type} (xs : List α) (i : Int) : Option α := (ixN xs.length i).bind fun j => xs[j]?
theorem ixN_seq {n : Nat} {i : Int} {j : Nat} (h : ixN n i = some j) : seqIndex? i n = some j ∧ j < n ∧ -(n : Int) ≤ i ∧ i < n := by
  unfold ixN at h
  by_cases h0 : 0 ≤ i
  · rw [if_pos h0] at h
    by_cases h1 : i < n
    · rw [if_pos h1] at h
      have e : i.toNat = j := Option.some.inj h
      exact ⟨by rw [seqIndex_of h0 h1, e], by omega, by omega, h1⟩
    · rw [if_neg h1] at h; cases h
  · rw [if_neg h0] at h
    by_cases h1 : -(n : Int) ≤ i
    · rw [if_pos h1] at h
      have e : (i + n).toNat = j := Option.some.inj h
      exact ⟨by rw [seqIndex_neg (by omega) h1, e], by omega, h1, by omega⟩
    · rw [if_neg h1] at h; cases h
theorem atI_get {α : Type} {xs : List α} {i : Int} {v : α} (h : atI xs i = some v) : ∃ j, seqIndex? i xs.length = some j ∧ xs[j]? = some v ∧ j < xs.length ∧ -(xs.length : Int) ≤ i ∧ i < xs.length := by
  unfold atI at h
  cases e : ixN xs.length i with
  | none => rw [e] at h; cases h
  | some j =>
    rw [e] at h
    obtain ⟨h1, h2, h3, h4⟩ := ixN_seq e
    exact ⟨j, h1, h, h2, h3, h4⟩
theorem atI_nat {α : Type} {xs : List α} {j : Nat} {v : α} (h : xs[j]? = some v) : atI xs (j : Int) = some v := by
  have hj : j < xs.length := (List.getElem?_eq_some_iff.mp h).1
  have e : ixN xs.length (j : Int) = some j := by
    unfold ixN
    rw [if_pos (by omega), if_pos (by omega)]; simp
  unfold atI; rw [e]; exact h
theorem atI_last {α : Type} (xs : List α) (v : α) : atI (xs ++ [v]) (-1) = some v := by
  have hl : (xs ++ [v]).length = xs.length + 1 := by simp
  have e : ixN (xs ++ [v]).length (-1) = some xs.length := by
    unfold ixN
    rw [hl, if_neg (by decide), if_pos (by omega)]
    congr 1
    omega
  unfold atI
  rw [e]
  show (xs ++ [v])[xs.length]? = some v
  simp
def PlainIx (b : Expr) : Prop := ∀ o i, subscripted b false o i = operate [o, i] (getItem o i)
def IxR (X : Cx) (r : R2) : Prop :=
  ∀ (value slice : Expr) (pins : List (Addr × Obj)) (s : Shared) (σ : St) (H : Hp) (x y : V) (v u : Value) (Q : VK), Inv X pins σ H s → RelV x v → RelV y u → r x y H Q →
    subscripted slice false v u = operate [v, u] (getItem v u) → wpAny (model X.prog X.w) X.A (subscriptTail value slice v u) (EP X pins σ Q) X.xe s
def MtR (X : Cx) (id : String) (r : V → List V → Hp → VK → Prop) : Prop :=
  ∀ (pins : List (Addr × Obj)) (s : Shared) (σ : St) (H : Hp) (x : V) (xs : List V) (v : Value) (us : List Value) (Q : VK), Inv X pins σ H s → RelV x v → Vals xs us → r x xs H Q →
    wpAny (model X.prog X.w) X.A (call (.builtin id) (v :: us)) (EP X pins σ Q) X.xe s
section
variable {X : Cx} {a b : Expr} {ta tb : TE} {pos : Pos}
theorem IxR.or {r r' : R2} (h : IxR X r) (h' : IxR X r') : IxR X (fun x y H Q => r x y H Q ∨ r' x y H Q) := by
  intro value slice pins s σ H x y v u Q I rx ry q hs
  rcases q with q | q
  · exact h value slice pins s σ H x y v u Q I rx ry q hs
  · exact h' value slice pins s σ H x y v u Q I rx ry q hs
theorem MtR.or {id : String} {r r' : V → List V → Hp → VK → Prop} (h : MtR X id r) (h' : MtR X id r') : MtR X id (fun x xs H Q => r x xs H Q ∨ r' x xs H Q) := by
  intro pins s σ H x xs v us Q I rx rs q
  rcases q with q | q
  · exact h pins s σ H x xs v us Q I rx rs q
  · exact h' pins s σ H x xs v us Q I rx rs q
theorem pe_ix {r : R2} (hr : IxR X r) (ha : PE X a ta) (hb : PE X b tb) (hs : PlainIx b) : PE X (.Subscript a b pos) (tOp r ta tb) := by
  intro pins s σ H Q I h
  exact Subscript_ (binT ha hb I h fun v u s2 x y H2 I2 rx ry q => hr a b pins s2 σ H2 x y v u Q I2 rx ry q (hs _ _))
def rIxL (K : PySem.W.Frag) : R2 := fun x y H Q => ∃ p xs i v, x = .ref p ∧ y = .int i ∧ SqL K H p xs ∧ atI xs i = some v ∧ Q v H
def rIxT (K : PySem.W.Frag) : R2 := fun x y H Q => ∃ p xs i v, x = .ref p ∧ y = .int i ∧ SqT K H p xs ∧ atI xs i = some v ∧ Q v H
def rIxS : R2 := fun x y H Q => ∃ z i c, x = .str z ∧ y = .int i ∧ z.length ≤ sizeLine ∧ atI z.cps.toList i = some c ∧ Q (.str ⟨#[c]⟩) H
theorem ix_list : IxR X (rIxL X.K) := by
  intro value slice pins s σ H x y v u Q I rx ry h hs
  obtain ⟨p, xs, i, z, rfl, rfl, hq, he, q⟩ := h
  cases rx
  obtain ⟨t, rfl⟩ := ry
  obtain ⟨its, r, pl, hz⟩ := I.list hq
  obtain ⟨j, h1, h2, h3, h4, h5⟩ := atI_get he
  obtain ⟨w, ew, rw'⟩ := r.get h2
  have hl := r.length
  have hn := line63
  have fin : EP X pins σ Q w s := ⟨z, H, I, rw', q⟩
  by_cases h0 : 0 ≤ i
  · have hj : i.toNat = j := by
      rw [seqIndex_of h0 h5] at h1
      exact Option.some.inj h1
    exact item_listR pl.isList h0 (by omega) (by rw [hj]; simpa using ew) fin hs
  · have hj : (i + (its.toArray.size : Int)).toNat = j := by
      rw [seqIndex_neg (by omega) h4] at h1
      rw [List.size_toArray, ← hl]
      exact Option.some.inj h1
    exact subscriptTail_builtinR (x := w) pl.isList.typeIs slot_list_getitem.lookup
      (wpAny_getItem_list_neg (Q := fun r s' => r = w ∧ EP X pins σ Q r s') pl.isList (by omega) (by rw [List.size_toArray] <;> omega) (by omega) (by rw [hj]; simpa using ew) ⟨rfl, fin⟩) hs
theorem ix_tup : IxR X (rIxT X.K) := by
  intro value slice pins s σ H x y v u Q I rx ry h hs
  obtain ⟨p, xs, i, z, rfl, rfl, hq, he, q⟩ := h
  cases rx
  obtain ⟨t, rfl⟩ := ry
  obtain ⟨its, r, pl, hz⟩ := I.tuple hq
  obtain ⟨j, h1, h2, h3, h4, h5⟩ := atI_get he
  obtain ⟨w, ew, rw'⟩ := r.get h2
  have hl := r.length
  have hn := line63
  have fin : EP X pins σ Q w s := ⟨z, H, I, rw', q⟩
  exact subscriptTail_builtinR (x := w) pl.typeIs slot_tuple_getitem.lookup
    (getItem_tuple (j := j) (Q := fun r s' => r = w ∧ EP X pins σ Q r s') pl (by omega) (by omega) (by rw [List.size_toArray, ← hl]; exact h1) (by simpa using ew) ⟨rfl, fin⟩) hs
theorem ix_str : IxR X rIxS := by
  intro value slice pins s σ H x y v u Q I rx ry h hs
  obtain ⟨z, i, c, rfl, rfl, hz, he, q⟩ := h
  obtain ⟨t, rfl⟩ := rx
  obtain ⟨t', rfl⟩ := ry
  obtain ⟨j, h1, h2, h3, h4, h5⟩ := atI_get he
  have hl : z.cps.toList.length = z.length := by simp [Str.length]
  rw [hl] at h1 h4 h5
  have hn := line63
  exact tail_any (typeIs_str s z t) slot_str_getitem.lookup (getItem_str (c := c) (by
    have e1 : decide (i < -(2 ^ 63 : Int)) = false := decide_eq_false (by omega)
    have e2 : decide (i ≥ 2 ^ 63) = false := decide_eq_false (by omega)
    rw [e1, e2, Bool.or_false]) (by rw [h1]; simpa using h2) ⟨.str ⟨#[c]⟩, H, I.tok _, ⟨_, rfl⟩, q⟩) hs
theorem mapSeq_set (its : List Value) (n j : Nat) (u : Value) : Obj.mapSeq (·.setIfInBounds j u) { cls := .type "list", data := .seq its.toArray n } = { cls := .type "list", data := .seq (its.set j u).toArray n } := by
  simp [Obj.mapSeq]
theorem Inv.lst {pins : List (Addr × Obj)} {σ : St} {H : Hp} {s : Shared} {p : Addr} {xs : List V} (I : Inv X pins σ H s) (h : H p = some (.lst xs)) :
    ∃ (its : List Value) (n : Nat), Vals xs its ∧ s.heap.get? p = some { cls := .type "list", data := .seq its.toArray n } ∧ xs.length ≤ sizeLine := by
  obtain ⟨z, its, n, r, e⟩ := I.hok p _ h
  exact ⟨its, n, r, e, z⟩
theorem Inv.lstUpd {pins : List (Addr × Obj)} {σ : St} {H : Hp} {s : Shared} {p : Addr} {xs ys : List V} {its its' : List Value} {n n' : Nat} {f : Obj → Obj} (I : Inv X pins σ H s) (h : H p = some (.lst xs))
    (ho : s.heap.get? p = some { cls := .type "list", data := .seq its.toArray n }) (hf : f { cls := .type "list", data := .seq its.toArray n } = { cls := .type "list", data := .seq its'.toArray n' }) (r : Vals ys its') (hz : ys.length ≤ sizeLine) (t : Nat) :
    Inv X pins σ (upd H p (.lst ys)) { s with heap := s.heap.update p f, toks := t } := by
  have e : (s.heap.update p f).get? p = some { cls := .type "list", data := .seq its'.toArray n' } := by
    rw [Heap.get?_update_self f ho (by rw [hf] <;> rfl), hf]
  refine I.write (x := p) (e := p) (by rw [h]; trivial) (.inl rfl) (fun b u hb q => (Heap.get?_update_other _ _ (Ne.symm hb)).trans q) ⟨_, e⟩ ?_
  exact ⟨hz, its', n', r, e⟩
def rSetL : V → V → V → Hp → (Hp → Prop) → Prop := fun o i v H Q => ∃ p xs k j, o = .ref p ∧ i = .int k ∧ H p = some (.lst xs) ∧ ixN xs.length k = some j ∧ Q (upd H p (.lst (xs.set j v)))
theorem set_list : PSet X rSetL := by
  intro pins s σ H o i v ov iv u Q I ro ri rv h
  obtain ⟨p, xs, k, j, rfl, rfl, hp, hj, q⟩ := h
  cases ro
  obtain ⟨t, rfl⟩ := ri
  obtain ⟨its, n, r, ho, hz⟩ := I.lst hp
  obtain ⟨h1, h2, h3, h4⟩ := ixN_seq hj
  have hl := r.length
  have hn := line63
  have I' : Inv X pins σ (upd H p (.lst (xs.set j v))) { s with heap := s.heap.update p (Obj.mapSeq (·.setIfInBounds j u)) } :=
    I.lstUpd hp ho (mapSeq_set its n j u) (r.set rv j) (by rw [List.length_set]; exact hz) s.toks
  by_cases h0 : 0 ≤ k
  · have hk : k.toNat = j := by
      rw [seqIndex_of h0 h4] at h1
      exact Option.some.inj h1
    exact PySem.W.ki_setAt ho h0 (by omega) (by rw [List.size_toArray, ← hl]; exact h4) (by rw [hk]; exact ⟨_, I', q⟩)
  · have hk : (k + (its.toArray.size : Int)).toNat = j := by
      rw [seqIndex_neg (by omega) h3] at h1
      rw [List.size_toArray, ← hl]
      exact Option.some.inj h1
    exact PySem.W.ki_setBack ho (by omega) (by rw [List.size_toArray, ← hl]; exact h3) (by omega) (by rw [hk]; exact ⟨_, I', q⟩)
theorem slice_bounds (lo hi : Option Int) (n : Nat) : (sliceBounds lo hi none n).1 = ((HT.sIx n 0 lo : Nat) : Int) ∧ (sliceBounds lo hi none n).2.1 = ((HT.sIx n n hi : Nat) : Int) ∧ (sliceBounds lo hi none n).2.2 = 1 := by
  refine ⟨?_, ?_, rfl⟩
  · cases lo with
    | none => simp [sliceBounds, HT.sIx]
    | some i =>
      simp only [sliceBounds, HT.sIx, Option.getD_none, show (1 : Int) > 0 by decide, if_true]
      by_cases h : i < 0
      · simp only [h, if_true] <;> omega
      · simp only [h, if_false] <;> omega
  · cases hi with
    | none => simp [sliceBounds, HT.sIx]
    | some i =>
      simp only [sliceBounds, HT.sIx, Option.getD_none, show (1 : Int) > 0 by decide, if_true]
      by_cases h : i < 0
      · simp only [h, if_true] <;> omega
      · simp only [h, if_false] <;> omega
theorem slicePick_cut (its : List Value) (lo hi : Option Int) : slicePick its.toArray lo hi none = ((its.drop (HT.sIx its.length 0 lo)).take (HT.sIx its.length its.length hi - HT.sIx its.length 0 lo)).toArray := by
  obtain ⟨h1, h2, h3⟩ := slice_bounds lo hi its.toArray.size
  unfold slicePick
  rw [h1, h2, h3]
  simp only [sliceRange_one, pick_run, List.size_toArray] <;> rfl
def rSlL (K : PySem.W.Frag) : V → Option Int → Option Int → Hp → VK → Prop := fun x lo hi H Q => ∃ a xs, x = .ref a ∧ SqL K H a xs ∧ ∀ p, H p = none → Q (.ref p) (upd H p (.lst (cutV xs lo hi)))
theorem sl_list : SlR X (rSlL X.K) := by
  intro pins s σ H x v vl vu lo hi sl Q I rx hs pl pu h
  obtain ⟨a, xs, rfl, hx, q⟩ := h
  cases rx
  obtain ⟨its, r, ht, hz⟩ := I.list hx
  have hlen := r.length
  refine ⟨"list", _, slot_list_getitem.lookup, ht.isList.typeIs, ?_⟩
  refine wpAny_getItem_list_slice ht.isList hs pl pu .none (by simp) ?_ (by rw [List.size_toArray] <;> omega)
  rw [slicePick_cut, ← hlen]
  refine ⟨.ref s.heap.objs.size, _, I.laid (t' := s.toks) (o := .lst (cutV xs lo hi)) (fun b ob q => Heap.get?_push_of_some _ q) (Nat.le_refl _) ?_, rfl, q _ (I.hok.fresh (Nat.le_refl _))⟩
  exact ⟨Nat.le_trans (cutV_length xs lo hi) hz, _, 0, (r.drop (HT.sIx xs.length 0 lo)).take (HT.sIx xs.length xs.length hi - HT.sIx xs.length 0 lo), Heap.get?_push_size _ rfl⟩
def flatV : V → Bool
  | .non => true
  | .bl _ => true
  | .int _ => true
  | .str _ => true
  | _ => false
def eqV : V → V → Bool
  | .non, .non => true
  | .bl a, .bl b => a == b
  | .bl a, .int b => (if a then 1 else 0) == b
  | .int a, .bl b => a == (if b then 1 else 0)
  | .int a, .int b => a == b
  | .str a, .str b => a == b
  | _, _ => false
theorem eqAt_V {A : Around} {s : Shared} {y x : V} {u v : Value} (ry : RelV y u) (rx : RelV x v) (fy : flatV y = true) (fx : flatV x = true) : SeqAt.EqAt A s u v (eqV y x) := by
  cases y with
  | non =>
    cases ry
    cases x with
    | non => cases rx; exact SeqAt.EqAt.same _
    | bl b => cases rx; exact SeqAt.EqAt.none_bool b
    | int b => obtain ⟨t, rfl⟩ := rx; exact SeqAt.EqAt.none_int b t
    | str b => obtain ⟨t, rfl⟩ := rx; exact SeqAt.EqAt.none_str b t
    | _ => exact absurd (show false = true from fx) Bool.false_ne_true
  | bl a =>
    cases ry
    cases x with
    | non => cases rx; exact SeqAt.EqAt.bool_none a
    | bl b => cases rx; exact SeqAt.EqAt.bool_bool a b
    | int b => obtain ⟨t, rfl⟩ := rx; exact SeqAt.EqAt.bool_int a b t
    | str b => obtain ⟨t, rfl⟩ := rx; exact SeqAt.EqAt.bool_str a b t
    | _ => exact absurd (show false = true from fx) Bool.false_ne_true
  | int a =>
    obtain ⟨t', rfl⟩ := ry
    cases x with
    | non => cases rx; exact SeqAt.EqAt.int_none a t'
    | bl b => cases rx; exact SeqAt.EqAt.int_bool a t' b
    | int b => obtain ⟨t, rfl⟩ := rx; exact SeqAt.EqAt.int_int a t' b t
    | str b => obtain ⟨t, rfl⟩ := rx; exact SeqAt.EqAt.int_str a t' b t
    | _ => exact absurd (show false = true from fx) Bool.false_ne_true
  | str a =>
    obtain ⟨t', rfl⟩ := ry
    cases x with
    | non => cases rx; exact SeqAt.EqAt.str_none a t'
    | bl b => cases rx; exact SeqAt.EqAt.str_bool a t' b
    | int b => obtain ⟨t, rfl⟩ := rx; exact SeqAt.EqAt.str_int a t' b t
    | str b => obtain ⟨t, rfl⟩ := rx; exact SeqAt.EqAt.str_str a t' b t
    | _ => exact absurd (show false = true from fx) Bool.false_ne_true
  | _ => exact absurd (show false = true from fy) Bool.false_ne_true
def eqU (x : V) (u : Value) : Bool := match u with
  | .none => eqV .non x
  | .bool b => eqV (.bl b) x
  | .int i _ => eqV (.int i) x
  | .str z _ => eqV (.str z) x
  | _ => false
theorem eqU_of {x y : V} {u : Value} (r : RelV y u) (f : flatV y = true) : eqU x u = eqV y x := by
  cases y with
  | non => cases r; rfl
  | bl b => cases r; rfl
  | int i => obtain ⟨t, rfl⟩ := r; rfl
  | str z => obtain ⟨t, rfl⟩ := r; rfl
  | _ => exact absurd (show false = true from f) Bool.false_ne_true
theorem any_eqU {x : V} : ∀ {xs : List V} {us : List Value}, Vals xs us → xs.all flatV = true → us.any (eqU x) = xs.any fun y => eqV y x
  | _, _, .nil, _ => rfl
  | y :: xs, u :: us, .cons r t, f => by
    rw [List.all_cons, Bool.and_eq_true] at f
    rw [List.any_cons, List.any_cons, eqU_of r f.1, any_eqU t f.2]
theorem mem_eqAt {A : Around} {s : Shared} {x : V} {v : Value} (rx : RelV x v) (fx : flatV x = true) : ∀ {xs : List V} {us : List Value}, Vals xs us → xs.all flatV = true → ∀ u ∈ us, SeqAt.EqAt A s u v (eqU x u)
  | _, _, .nil, _ => fun u hu => by cases hu
  | y :: xs, u :: us, .cons r t, f => fun u' hu => by
    rw [List.all_cons, Bool.and_eq_true] at f
    rcases List.mem_cons.mp hu with rfl | hu
    · rw [eqU_of r f.1]; exact eqAt_V r rx f.1 fx
    · exact mem_eqAt rx fx t f.2 u' hu
def inV (x : V) (xs : List V) : Bool := xs.any fun y => eqV y x
def rIn (K : PySem.W.Frag) (neg : Bool) : R2 := fun x y H Q => ∃ p xs, y = .ref p ∧ (SqL K H p xs ∨ SqT K H p xs) ∧ flatV x = true ∧ xs.all flatV = true ∧ Q (.bl (if neg then !inV x xs else inV x xs)) H
theorem op_in_seq : OpR X (compareOp .In) (rIn X.K false) := by
  intro pins s σ H x y v u Q I rx ry h
  obtain ⟨p, xs, rfl, hq, fx, fs, q⟩ := h
  cases ry
  rcases hq with hq | hq
  · obtain ⟨its, r, pl, hz⟩ := I.list hq
    refine SeqAt.in_listAt (eqU x) pl.isList (fun w hw => mem_eqAt rx fx r fs w (by simpa using hw)) ⟨.bl _, H, I, rfl, ?_⟩
    rw [show its.toArray.any (eqU x) = its.any (eqU x) by simp, any_eqU r fs]
    exact q
  · obtain ⟨its, r, pl, hz⟩ := I.tuple hq
    refine SeqAt.in_tupleAt (eqU x) pl (fun w hw => mem_eqAt rx fx r fs w (by simpa using hw)) ⟨.bl _, H, I, rfl, ?_⟩
    rw [show its.toArray.any (eqU x) = its.any (eqU x) by simp, any_eqU r fs]
    exact q
theorem call_len_seq : CallR X (.builtin "len") (fun xs H Q => ∃ p ys, xs = [.ref p] ∧ (SqL X.K H p ys ∨ SqT X.K H p ys) ∧ Q (.int ys.length) H) := by
  intro pins s σ H xs us Q I r h
  obtain ⟨p, ys, rfl, hq, q⟩ := h
  obtain ⟨u, rfl, rx⟩ := vals1 r
  cases rx
  have hn := line63
  rcases hq with hq | hq
  · obtain ⟨its, r', pl, hz⟩ := I.list hq
    have hlen := r'.length
    exact Calls.call_len_list pl.isList (by simp only [List.size_toArray] <;> omega) ⟨.int ys.length, H, I.tok _, ⟨s.toks + 1, by rw [List.size_toArray, hlen]⟩, q⟩
  · obtain ⟨its, r', pl, hz⟩ := I.tuple hq
    have hlen := r'.length
    exact len_tuple pl (by simp only [List.size_toArray] <;> omega) ⟨.int ys.length, H, I.tok _, ⟨s.toks + 1, by rw [List.size_toArray, hlen]⟩, q⟩
theorem call_len_str : CallR X (.builtin "len") (fun xs H Q => ∃ z, xs = [.str z] ∧ z.length ≤ sizeLine ∧ Q (.int z.length) H) := by
  intro pins s σ H xs us Q I r h
  obtain ⟨z, rfl, hz, q⟩ := h
  obtain ⟨u, rfl, t, rfl⟩ := vals1 r
  have hn := line63
  exact len_str (by omega) ⟨.int z.length, H, I.tok _, ⟨_, rfl⟩, q⟩
theorem CallR.or {f : Value} {r r' : List V → Hp → VK → Prop} (h : CallR X f r) (h' : CallR X f r') : CallR X f (fun xs H Q => r xs H Q ∨ r' xs H Q) := by
  intro pins s σ H xs us Q I rs q
  rcases q with q | q
  · exact h pins s σ H xs us Q I rs q
  · exact h' pins s σ H xs us Q I rs q
def tyV (K : PySem.W.Frag) (T : String) (x : V) (H : Hp) : Prop := match x with
  | .str _ => T = "str"
  | .int _ => T = "int"
  | .ref p => (T = "list" ∧ ∃ xs, SqL K H p xs) ∨ (T = "tuple" ∧ ∃ o, K.lookup p = some o ∧ o.cls = .type "tuple" ∧ o.dict = none) ∨
      (T = "dict" ∧ ((∃ kvs, H p = some (.dK kvs)) ∨ ∃ kvs, H p = some (.dT kvs))) ∨ (T = "set" ∧ ∃ S n, H p = some (.set S n))
  | _ => False
theorem tyV_is {pins : List (Addr × Obj)} {σ : St} {H : Hp} {s : Shared} {T : String} {x : V} {v : Value} (I : Inv X pins σ H s) (r : RelV x v) (ty : tyV X.K T x H) :
    s.TypeIs v T ∧ ∀ a, v = .ref a → ∃ ob, s.heap.get? a = some ob ∧ ob.dict = none := by
  cases x with
  | str z =>
    obtain ⟨t, rfl⟩ := r
    cases (show T = "str" from ty)
    exact ⟨typeIs_str s z t, fun _ e => nomatch e⟩
  | int i =>
    obtain ⟨t, rfl⟩ := r
    cases (show T = "int" from ty)
    exact ⟨typeIs_int s i t, fun _ e => nomatch e⟩
  | ref p =>
    cases r
    rcases ty with ⟨rfl, xs, hq⟩ | ⟨rfl, o, hk, hc, hd⟩ | ⟨rfl, hk⟩ | ⟨rfl, S, n, hk⟩
    · obtain ⟨its, _, pl, _⟩ := I.list hq
      refine ⟨pl.isList.typeIs, fun a e => ?_⟩
      cases e
      obtain ⟨o, n, e, c, hd, _⟩ := pl
      exact ⟨o, e, hd⟩
    · refine ⟨⟨o, I.kIn p o hk, hc⟩, fun a e => ?_⟩
      cases e
      exact ⟨o, I.kIn _ o hk, hd⟩
    · have z : ∃ o, s.heap.get? p = some o ∧ o.ExactDict := by
        rcases hk with ⟨kvs, hk⟩ | ⟨kvs, hk⟩
        · obtain ⟨_, _, _, _, o, _, _, e, ex, _⟩ := I.hok p _ hk
          exact ⟨o, e, ex⟩
        · obtain ⟨_, _, _, _, o, _, _, e, ex, _⟩ := I.hok p _ hk
          exact ⟨o, e, ex⟩
      obtain ⟨o, e, ex⟩ := z
      refine ⟨⟨o, e, ex.1⟩, fun a e2 => ?_⟩
      cases e2
      exact ⟨o, e, ex.2.1⟩
    · obtain ⟨o, _, _, _, e, ex, _⟩ := I.hok p _ hk
      refine ⟨⟨o, e, ex.1⟩, fun a e2 => ?_⟩
      cases e2
      exact ⟨o, e, ex.2.1⟩
  | _ => exact False.elim ty
variable {o e : Expr} {es : List Expr} {to : TE} {t : TA} {name : Str} {apos cpos : Pos} {T id : String} {r : V → List V → Hp → VK → Prop}
end
end L2
namespace L2
open PySem PySem.Spec PyProof.Rows
def MtM (X : Cx) (id : String) (r : V → List V → Hp → VK → Prop) : Prop :=
  ∀ (pins : List (Addr × Obj)) (s : Shared) (σ : St) (H : Hp) (x : V) (xs : List V) (v : Value) (us : List Value) (Q : VK), Inv X pins σ H s → RelV x v → Vals xs us → r x xs H Q →
    wpAny (model X.prog X.w) X.A (call (.builtin id) (v :: us)) (EP X pins σ Q) X.xe s
theorem Vals.one : ∀ {x : V} {us : List Value}, Vals [x] us → ∃ u, us = [u] ∧ RelV x u
  | _, _, .cons r .nil => ⟨_, rfl, r⟩
theorem Vals.zero : ∀ {us : List Value}, Vals [] us → us = []
  | _, .nil => rfl
theorem Vals.dropLast {xs : List V} {us : List Value} (h : Vals xs us) : Vals xs.dropLast us.dropLast := by
  induction h with
  | nil => exact .nil
  | cons r t ih =>
    cases t with
    | nil => exact .nil
    | cons q t' => exact .cons r ih
theorem Vals.eraseIdx : ∀ {xs : List V} {us : List Value} (i : Nat), Vals xs us → Vals (xs.eraseIdx i) (us.eraseIdx i)
  | _, _, _, .nil => .nil
  | _, _, 0, .cons _ t => t
  | _, _, i + 1, .cons r t => .cons r (Vals.eraseIdx i t)
theorem Vals.reverse {xs : List V} {us : List Value} (h : Vals xs us) : Vals xs.reverse us.reverse := by
  induction h with
  | nil => exact .nil
  | cons r t ih => rw [List.reverse_cons, List.reverse_cons]; exact Vals.append ih (.cons r .nil)
theorem Vals.rep {xs : List V} {us : List Value} (h : Vals xs us) : ∀ k : Nat, Vals (List.replicate k xs).flatten (List.replicate k us).flatten
  | 0 => .nil
  | k + 1 => by
    rw [List.replicate_succ, List.replicate_succ, List.flatten_cons, List.flatten_cons]
    exact Vals.append h (Vals.rep h k)
theorem len_erase {α : Type} : ∀ (l : List α) (i : Nat), (l.eraseIdx i).length ≤ l.length
  | [], _ => Nat.le_refl _
  | _ :: _, 0 => Nat.le_succ _
  | _ :: r, i + 1 => Nat.succ_le_succ (len_erase r i)
theorem foldl_rep (its : List Value) : ∀ (k : Nat) (acc : List Value),
    List.foldl (fun x1 x2 => x1 ++ x2) acc.toArray (List.replicate k its.toArray) = (acc ++ (List.replicate k its).flatten).toArray
  | 0, acc => by simp
  | k + 1, acc => by
    have e : acc.toArray ++ its.toArray = (acc ++ its).toArray := by simp
    have e2 : (acc ++ its) ++ (List.replicate k its).flatten = acc ++ (List.replicate (k + 1) its).flatten := by
      rw [List.replicate_succ, List.flatten_cons, List.append_assoc]
    rw [← e2, ← foldl_rep its k (acc ++ its), ← e, List.replicate_succ, List.foldl_cons]
section
variable {X : Cx} {pins : List (Addr × Obj)} {σ : St} {H : Hp} {s : Shared} {l b : Addr} {xs ys zs : List V}
theorem Inv.lset {its its' : List Value} {n : Nat} {f : Array Value → Array Value} {t' : Nat} (I : Inv X pins σ H s) (hH : H l = some (.lst xs))
    (e : s.heap.get? l = some { cls := .type "list", data := .seq its.toArray n }) (hf : f its.toArray = its'.toArray) (hv : Vals ys its') (hz : ys.length ≤ sizeLine) :
    Inv X pins σ (upd H l (.lst ys)) { s with heap := s.heap.update l (Obj.mapSeq f), toks := t' } := by
  have q := PySem.IsL.update e f
  rw [hf] at q
  refine I.write (x := l) (e := l) (by rw [hH]; exact trivial) (.inl rfl) (fun b' u hb hu => (Heap.get?_update_other s.heap (Obj.mapSeq f) (Ne.symm hb)).trans hu) ⟨_, q⟩ ?_
  exact ⟨hz, its', _, hv, q⟩
theorem Inv.lnew {its : List Value} {t' : Nat} (I : Inv X pins σ H s) (hv : Vals ys its) (hz : ys.length ≤ sizeLine) :
    Inv X pins σ (upd H s.heap.objs.size (.lst ys)) { s with heap := s.heap.push { cls := .type "list", data := .seq its.toArray }, toks := t' } :=
  I.laid (fun _ _ q => Heap.get?_push_of_some _ q) (Nat.le_refl _) ⟨hz, its, 0, hv, Heap.get?_push_size _ rfl⟩
theorem Inv.fresh (I : Inv X pins σ H s) : H s.heap.objs.size = none := I.hok.fresh (Nat.le_refl _)
theorem Inv.lstM (I : Inv X pins σ H s) (hH : H l = some (.lst xs)) : xs.length ≤ sizeLine ∧ ∃ (its : List Value) (n : Nat), Vals xs its ∧ xs.length = its.length ∧ s.heap.get? l = some { cls := .type "list", data := .seq its.toArray n } := by
  obtain ⟨z, its, n, r, e⟩ := I.hok l _ hH
  exact ⟨z, its, n, r, r.length, e⟩
theorem notLongL {n : Nat} (h : n ≤ sizeLine) : Builtin.List.listTooLong n = false := by
  unfold Builtin.List.listTooLong
  exact decide_eq_false (by omega)
end
section
variable {X : Cx}
def rAppend : V → List V → Hp → VK → Prop := fun x vs H Q => ∃ l xs y, x = .ref l ∧ vs = [y] ∧ H l = some (.lst xs) ∧ xs.length < sizeLine ∧ Q .non (upd H l (.lst (xs ++ [y])))
theorem mt_append : MtM X "list.append" rAppend := by
  intro pins s σ H x vs v us Q I rx rv h
  obtain ⟨l, xs, y, rfl, rfl, hH, hz, q⟩ := h
  cases rx
  obtain ⟨u, rfl, ru⟩ := rv.one
  obtain ⟨z, its, n, r, hl, e⟩ := I.lstM hH
  refine call_meets F.slot_list_append ⟨_, e, rfl⟩ F.entry_list_append (F.args_list_append_2 _ _) (PySem.list_append l its.toArray n u (by rw [List.size_toArray]; omega)) ⟨e, ?_⟩
  refine ⟨.non, _, I.lset (its' := its ++ [u]) hH e (by simp) (r.append (.cons ru .nil)) ?_, rfl, q⟩
  rw [List.length_append, List.length_singleton]
  omega
def rPopAt : V → List V → Hp → VK → Prop := fun x vs H Q => ∃ l xs i k y, x = .ref l ∧ vs = [.int i] ∧ H l = some (.lst xs) ∧ -(2 ^ 63) ≤ i ∧ i < 2 ^ 63 ∧ seqIndex? i xs.length = some k ∧ xs[k]? = some y ∧ Q y (upd H l (.lst (xs.eraseIdx k)))
theorem mt_popAt : MtM X "list.pop" rPopAt := by
  intro pins s σ H x vs v us Q I rx rv h
  obtain ⟨l, xs, i, k, y, rfl, rfl, hH, h1, h2, hk, hy, q⟩ := h
  cases rx
  obtain ⟨u, rfl, ru⟩ := rv.one
  obtain ⟨t, rfl⟩ := ru
  obtain ⟨z, its, n, r, hl, e⟩ := I.lstM hH
  obtain ⟨w, hw, rw'⟩ := r.get hy
  refine call_meets F.slot_list_pop ⟨_, e, rfl⟩ F.entry_list_pop (F.args_list_pop_2 _ _)
    (MeetsSeq.list_pop_at l its.toArray n i t k w (fitsIndex_both h1 h2) (by rw [List.size_toArray, ← hl]; exact hk) (by rw [← Array.getElem?_toList]; exact hw) (by rw [List.size_toArray]; omega)) ⟨e, ?_⟩
  refine ⟨y, _, I.lset (its' := its.eraseIdx k) hH e ?_ (r.eraseIdx k) ?_, rw', q⟩
  · show its.toArray.eraseIdxIfInBounds k = (its.eraseIdx k).toArray
    rw [List.eraseIdxIfInBounds_toArray]
  · have := len_erase xs k
    omega
def rReverse : V → List V → Hp → VK → Prop := fun x vs H Q => ∃ l xs, x = .ref l ∧ vs = [] ∧ H l = some (.lst xs) ∧ Q .non (upd H l (.lst xs.reverse))
def rCat : R2 := fun x y H Q => ∃ l b xs zs, x = .ref l ∧ y = .ref b ∧ H l = some (.lst xs) ∧ H b = some (.lst zs) ∧ xs.length + zs.length ≤ sizeLine ∧ ∀ p, H p = none → Q (.ref p) (upd H p (.lst (xs ++ zs)))
theorem op_cat : OpR X (binaryOp .Add) rCat := by
  intro pins s σ H x y v u Q I rx ry h
  obtain ⟨l, b, xs, zs, rfl, rfl, hH, hB, hz, q⟩ := h
  cases rx
  cases ry
  obtain ⟨z, its, n, r, hl, e⟩ := I.lstM hH
  obtain ⟨z2, its2, n2, r2, hl2, e2⟩ := I.lstM hB
  refine PySem.P.add_list e e2 ?_ (by rw [List.size_toArray, List.size_toArray]; omega)
  have ea : its.toArray ++ its2.toArray = (its ++ its2).toArray := by simp
  rw [ea]
  exact ⟨.ref _, _, I.lnew (t' := s.toks) (r.append r2) (by rw [List.length_append]; omega), rfl, q _ I.fresh⟩
def rRep : R2 := fun x y H Q => ∃ l k xs, x = .ref l ∧ y = .int k ∧ H l = some (.lst xs) ∧ -(2 ^ 63) ≤ k ∧ k < 2 ^ 63 ∧ xs.length * k.toNat ≤ sizeLine ∧
  ∀ p, H p = none → Q (.ref p) (upd H p (.lst (List.replicate k.toNat xs).flatten))
theorem len_rep {α : Type} (xs : List α) (k : Nat) : (List.replicate k xs).flatten.length = k * xs.length := by
  induction k with
  | zero => simp
  | succ k ih => rw [List.replicate_succ, List.flatten_cons, List.length_append, ih, Nat.succ_mul, Nat.add_comm]
theorem op_rep : OpR X (binaryOp .Mult) rRep := by
  intro pins s σ H x y v u Q I rx ry h
  obtain ⟨l, k, xs, rfl, rfl, hH, h1, h2, hz, q⟩ := h
  cases rx
  obtain ⟨t, rfl⟩ := ry
  obtain ⟨z, its, n, r, hl, e⟩ := I.lstM hH
  have hlen : its.toArray.size * k.toNat ≤ sizeLine := by rw [List.size_toArray, ← hl]; exact hz
  have hcap : ¬ its.toArray.size * k.toNat > (2 ^ 63 - 1) / 8 := by
    have : (sizeLine : Nat) ≤ (2 ^ 63 - 1) / 8 := by decide
    omega
  have hfit : ¬ (!Builtin.List.listFitsIndex k) = true := by
    rw [fitsIndex_both h1 h2]
    exact Bool.false_ne_true
  have hlong : ¬ Builtin.List.listTooLong (its.toArray.size * k.toNat) = true := by
    rw [notLongL hlen]
    exact Bool.false_ne_true
  have hnew : List.foldl (fun x1 x2 => x1 ++ x2) #[] (List.replicate (if its.toArray.isEmpty = true then 0 else k.toNat) its.toArray) = (List.replicate k.toNat its).flatten.toArray := by
    have f0 : ∀ m : Nat, List.foldl (fun x1 x2 => x1 ++ x2) #[] (List.replicate m its.toArray) = (List.replicate m its).flatten.toArray := fun m => by
      have := foldl_rep its m []
      rw [List.nil_append] at this
      exact this
    rw [f0]
    cases its with
    | nil => simp
    | cons a r' => rw [if_neg (by simp)]
  refine wpAny_binaryOp_repeat_ref (T := "list") (U := "int") (by decide) ⟨_, e, rfl⟩ (fun s' => typeIs_int s' k t) noFill_list_mul F.fills_int_mul F.slot_int_rmul repeat_list F.slot_int_index.lookup
    (call_meets F.slot_int_rmul (typeIs_int s k t) F.entry_int_rmul (F.args_int_rmul_2 _ _) (int___rmul___int_list k t l its.toArray n)
      ⟨e, rfl, ⟨_, e, rfl⟩, call_meets F.slot_list_mul ⟨_, e, rfl⟩ F.entry_list_mul (F.args_list_mul_2 _ _) (AutoListH.list___mul___list_int_3 l its.toArray n k t hfit hcap hlong) ⟨e, ?_⟩⟩)
  rw [hnew]
  exact ⟨.ref _, _, I.lnew (t' := s.toks) (r.rep k.toNat) (by rw [len_rep, Nat.mul_comm]; exact hz), rfl, q _ I.fresh⟩
end
section
variable {prog : Program} {w : World} {A : Around} {E : Value → Shared → Prop} {s : Shared}
end
section
variable {X : Cx}
end
end L2
namespace L2
open PySem PySem.Spec PyProof.Rows
section
variable {κ : Type} [DecidableEq κ]
def valV (kvs : List (κ × V)) (k : κ) : Option V := (kvs.find? fun kv => decide (kv.1 = k)).map (·.2)
def putK (kvs : List (κ × V)) (k : κ) (v : V) : List (κ × V) :=
  if (kvs.any fun kv => decide (kv.1 = k)) = true then kvs.map (fun kv => if kv.1 = k then (kv.1, v) else kv) else kvs ++ [(k, v)]
def dropK (kvs : List (κ × V)) (k : κ) : List (κ × V) := kvs.filter fun kv => decide (kv.1 ≠ k)
theorem valV_pos {p : κ × V} {r : List (κ × V)} {k : κ} (e : p.1 = k) : valV (p :: r) k = some p.2 := by simp [valV, List.find?_cons, e]
theorem valV_neg {p : κ × V} {r : List (κ × V)} {k : κ} (e : ¬ p.1 = k) : valV (p :: r) k = valV r k := by simp [valV, List.find?_cons, e]
theorem valV_any (k : κ) : ∀ kvs : List (κ × V), (kvs.any fun kv => decide (kv.1 = k)) = (valV kvs k).isSome
  | [] => rfl
  | p :: r => by
    rw [List.any_cons]
    by_cases e : p.1 = k
    · simp only [valV_pos e, decide_eq_true e, Bool.true_or, Option.isSome_some]
    · rw [valV_neg e, decide_eq_false e, Bool.false_or]; exact valV_any k r
theorem length_putK (kvs : List (κ × V)) (k : κ) (v : V) : (putK kvs k v).length ≤ kvs.length + 1 := by
  unfold putK
  split
  · rw [List.length_map]; omega
  · rw [List.length_append, List.length_cons, List.length_nil]; omega
theorem putK_new {kvs : List (κ × V)} {k : κ} (v : V) (h : valV kvs k = none) : putK kvs k v = kvs ++ [(k, v)] := by
  unfold putK
  rw [valV_any, h]
  exact if_neg (by decide)
theorem RelO.isSome_eq {o : Option V} {u : Option Value} (r : RelO o u) : o.isSome = u.isSome := by
  cases o with
  | none => cases u with
    | none => rfl
    | some _ => exact (show False from r).elim
  | some _ => cases u with
    | none => exact (show False from r).elim
    | some _ => rfl
theorem RelO.getD {o : Option V} {u : Option Value} {d : V} {d' : Value} (r : RelO o u) (rd : RelV d d') : RelV (o.getD d) (u.getD d') := by
  cases o with
  | none => cases u with
    | none => exact rd
    | some _ => exact (show False from r).elim
  | some _ => cases u with
    | none => exact (show False from r).elim
    | some _ => exact r
theorem KV.val {kvs : List (κ × V)} {vs : List (κ × Value)} (r : KV kvs vs) (k : κ) : RelO (valV kvs k) (valueAt vs k) := by
  unfold KV at r
  induction r with
  | nil => exact True.intro
  | @cons p q ps qs h t ih =>
    obtain ⟨h1, h2⟩ := h
    by_cases e : p.1 = k
    · have e' : q.1 = k := h1.symm.trans e
      have b : valueAt (q :: qs) k = some q.2 := by simp [valueAt, List.find?_cons, e']
      rw [valV_pos e, b]; exact h2
    · have e' : ¬ q.1 = k := fun z => e (h1.trans z)
      have b : valueAt (q :: qs) k = valueAt qs k := by simp [valueAt, List.find?_cons, e']
      rw [valV_neg e, b]; exact ih
theorem KV.any {kvs : List (κ × V)} {vs : List (κ × Value)} (r : KV kvs vs) (k : κ) : (kvs.any fun kv => decide (kv.1 = k)) = vs.any fun kv => decide (kv.1 = k) := by
  unfold KV at r
  induction r with
  | nil => rfl
  | cons h t ih => rw [List.any_cons, List.any_cons, ih, h.1]
theorem KV.repl {kvs : List (κ × V)} {vs : List (κ × Value)} (r : KV kvs vs) (k : κ) {y : V} {u : Value} (ry : RelV y u) :
    KV (kvs.map fun kv => if kv.1 = k then (kv.1, y) else kv) (vs.map fun kv => if kv.1 = k then (kv.1, u) else kv) := by
  unfold KV at r ⊢
  induction r with
  | nil => exact .nil
  | @cons p q ps qs h t ih =>
    rw [List.map_cons, List.map_cons]
    refine .cons ?_ ih
    obtain ⟨h1, h2⟩ := h
    by_cases e : p.1 = k
    · rw [if_pos e, if_pos (h1.symm.trans e)]; exact ⟨h1, ry⟩
    · rw [if_neg e, if_neg (fun z => e (h1.trans z))]; exact ⟨h1, h2⟩
theorem KV.put {kvs : List (κ × V)} {vs : List (κ × Value)} (r : KV kvs vs) (k : κ) {y : V} {u : Value} (ry : RelV y u) : KV (putK kvs k y) (stored vs k u) := by
  unfold putK stored
  rw [r.any k]
  by_cases e : (vs.any fun kv => decide (kv.1 = k)) = true
  · rw [if_pos e, if_pos e]; exact r.repl k ry
  · rw [if_neg e, if_neg e]; exact Paired.snoc r ⟨rfl, ry⟩
theorem KV.drop {kvs : List (κ × V)} {vs : List (κ × Value)} (r : KV kvs vs) (k : κ) : KV (dropK kvs k) (without vs k) := by
  unfold KV at r ⊢
  unfold dropK without
  induction r with
  | nil => exact .nil
  | @cons p q ps qs h t ih =>
    obtain ⟨h1, h2⟩ := h
    rw [List.filter_cons, List.filter_cons]
    by_cases e : p.1 = k
    · have a : ¬ decide (p.1 ≠ k) = true := by simp [e]
      have b : ¬ decide (q.1 ≠ k) = true := by simp [h1.symm.trans e]
      rw [if_neg a, if_neg b]; exact ih
    · have e' : ¬ q.1 = k := fun z => e (h1.trans z)
      have a : decide (p.1 ≠ k) = true := by simp [e]
      have b : decide (q.1 ≠ k) = true := by simp [e']
      rw [if_pos a, if_pos b]; exact .cons ⟨h1, h2⟩ ih
theorem KV.keys {kvs : List (κ × V)} {vs : List (κ × Value)} (r : KV kvs vs) : kvs.map (·.1) = vs.map (·.1) := by
  unfold KV at r
  induction r with
  | nil => rfl
  | cons h t ih => rw [List.map_cons, List.map_cons, ih, h.1]
theorem KV.length {kvs : List (κ × V)} {vs : List (κ × Value)} (r : KV kvs vs) : kvs.length = vs.length := Paired.length r
end
theorem kV_is {P : Program} {w : World} {k : Key} {u : Value} (r : RelV (kV k) u) : (mixKind P w).is k u = true := by
  cases k with
  | inl i => obtain ⟨t, e⟩ := (show ∃ t, u = Value.int i t from r); subst e; exact mixKind_int P w i t
  | inr x => obtain ⟨t, e⟩ := (show ∃ t, u = Value.str x t from r); subst e; exact mixKind_str P w x t
theorem items_are {P : Program} {w : World} : ∀ {ks : List Key} {us : List Value}, Vals (ks.map kV) us → ItemsAre (mixKind P w) ks us
  | [], _, r => by rw [List.map_nil] at r; cases r; exact .nil
  | k :: ks, _, r => by
    rw [List.map_cons] at r
    cases r with
    | cons h t => exact .cons (kV_is h) (items_are t)
abbrev KT (H : Hp) : List (List Key × V) → List (List Key × Addr × Value) → Prop := Paired fun p q => p.1 = q.1 ∧ H q.2.1 = some (.tup (p.1.map kV)) ∧ RelV p.2 q.2.2
theorem KT.val {H : Hp} {kvs : List (List Key × V)} {xs : List (List Key × Addr × Value)} (r : KT H kvs xs) (k : List Key) : RelO (valV kvs k) ((atKey xs k).map (·.2)) := by
  induction r with
  | nil => exact True.intro
  | @cons p q ps qs h t ih =>
    obtain ⟨h1, _, h2⟩ := h
    by_cases e : p.1 = k
    · have e' : q.1 = k := h1.symm.trans e
      have b : atKey (q :: qs) k = some q.2 := by simp [atKey, List.find?_cons, e']
      rw [valV_pos e, b]; exact h2
    · have e' : ¬ q.1 = k := fun z => e (h1.trans z)
      have b : atKey (q :: qs) k = atKey qs k := by simp [atKey, List.find?_cons, e']
      rw [valV_neg e, b]; exact ih
theorem KT.repl {H : Hp} {kvs : List (List Key × V)} {xs : List (List Key × Addr × Value)} (r : KT H kvs xs) (k : List Key) {y : V} {u : Value} (ry : RelV y u) :
    KT H (kvs.map fun kv => if kv.1 = k then (kv.1, y) else kv) (xs.map (putAt k u)) := by
  induction r with
  | nil => exact .nil
  | @cons p q ps qs h t ih =>
    rw [List.map_cons, List.map_cons]
    refine .cons ?_ ih
    obtain ⟨h1, h2, h3⟩ := h
    unfold putAt
    by_cases e : p.1 = k
    · rw [if_pos e, if_pos (h1.symm.trans e)]; exact ⟨h1, h2, ry⟩
    · rw [if_neg e, if_neg (fun z => e (h1.trans z))]; exact ⟨h1, h2, h3⟩
theorem KT.put {H : Hp} {kvs : List (List Key × V)} {xs : List (List Key × Addr × Value)} (r : KT H kvs xs) (k : List Key) {b : Addr} {y : V} {u : Value} (hb : H b = some (.tup (k.map kV))) (ry : RelV y u) :
    KT H (putK kvs k y) (storedH xs k b u) := by
  have e : (kvs.any fun kv => decide (kv.1 = k)) = (atKey xs k).isSome := by
    rw [valV_any, (r.val k).isSome_eq, Option.isSome_map]
  unfold putK storedH
  rw [e]
  by_cases q : (atKey xs k).isSome = true
  · rw [if_pos q, if_pos q]; exact r.repl k ry
  · rw [if_neg q, if_neg q]; exact Paired.snoc r ⟨rfl, hb, ry⟩
theorem KT.keeps {H H' : Hp} {kvs : List (List Key × V)} {xs : List (List Key × Addr × Value)} (r : KT H kvs xs) (ht : ∀ b ys, H b = some (.tup ys) → H' b = some (.tup ys)) : KT H' kvs xs :=
  Paired.mapP r fun _ _ z => ⟨z.1, ht _ _ z.2.1, z.2.2⟩
section
variable {P : Program} {w : World} {H : Hp} {h : Heap} {a : Addr}
theorem rd_of {u : HO} (ok : HOk P w H h) (e : Rd H a u) : ObjOk P w H h a u := e.ok ok
theorem dk_rd {kvs : List (Key × V)} (ok : HOk P w H h) (e : Rd H a (.dK kvs)) : kvs.length ≤ sizeLine ∧ (a == sysModules) = false ∧ ∃ vs, KV kvs vs ∧ h.DictOf (mixKind P w) a vs :=
  show ObjOk P w H h a (.dK kvs) from rd_of ok e
theorem dk_of {kvs : List (Key × V)} (ok : HOk P w H h) (e : H a = some (.dK kvs)) : kvs.length ≤ sizeLine ∧ (a == sysModules) = false ∧ ∃ vs, KV kvs vs ∧ h.DictOf (mixKind P w) a vs := dk_rd ok (.inl e)
theorem key_of {ks : List Key} (ok : HOk P w H h) (e : H a = some (.tup (ks.map kV))) : (tupleKind (mixKind P w)).is h ks a := by
  obtain ⟨_, its, r, o, h1, h2, n, h3⟩ := (show ObjOk P w H h a (.tup (ks.map kV)) from ok a _ e)
  exact ⟨o, its.toArray, n, h1, h2, h3, by simpa using items_are r⟩
theorem dt_rd {kvs : List (List Key × V)} (ok : HOk P w H h) (e : Rd H a (.dT kvs)) : kvs.length ≤ sizeLine ∧ (a == sysModules) = false ∧
    ∃ xs, KT H kvs xs ∧ h.DictOfH (tupleKind (mixKind P w)) a xs := by
  obtain ⟨z, y, xs, r, o, es, ep, h1, h2, h3, h4, h5⟩ := (show ObjOk P w H h a (.dT kvs) from rd_of ok e)
  refine ⟨z, y, xs, r, o, es, ep, h1, h2, h3, h4, fun x hx => ?_, h5⟩
  have all : ∀ {l : List (List Key × V)} {m : List (List Key × Addr × Value)}, KT H l m → ∀ x ∈ m, (tupleKind (mixKind P w)).is h x.1 x.2.1 := by
    intro l m q
    induction q with
    | nil => intro x hx; exact nomatch hx
    | @cons p q ps qs hq t ih =>
      intro x hx
      rcases List.mem_cons.mp hx with e | hx
      · subst e
        exact key_of ok (by rw [← hq.1]; exact hq.2.1)
      · exact ih x hx
  exact all r x hx
theorem dt_of {kvs : List (List Key × V)} (ok : HOk P w H h) (e : H a = some (.dT kvs)) : kvs.length ≤ sizeLine ∧ (a == sysModules) = false ∧
    ∃ xs, KT H kvs xs ∧ h.DictOfH (tupleKind (mixKind P w)) a xs := dt_rd ok (.inl e)
end
def DGet (H : Hp) (a : Addr) (y : V) (r : Option V) : Prop :=
  (∃ kvs k, Rd H a (.dK kvs) ∧ y = kV k ∧ r = valV kvs k) ∨ ∃ kvs k b, Rd H a (.dT kvs) ∧ y = .ref b ∧ H b = some (.tup (k.map kV)) ∧ r = valV kvs k
def DPut (H : Hp) (a : Addr) (y v : V) (H' : Hp) : Prop :=
  (∃ kvs k, H a = some (.dK kvs) ∧ y = kV k ∧ kvs.length < sizeLine ∧ H' = upd H a (.dK (putK kvs k v))) ∨
  ∃ kvs k b, H a = some (.dT kvs) ∧ y = .ref b ∧ H b = some (.tup (k.map kV)) ∧ kvs.length < sizeLine ∧ H' = upd H a (.dT (putK kvs k v))
theorem DGet.k {H : Hp} {a : Addr} {kvs : List (Key × V)} {k : Key} (e : H a = some (.dK kvs)) : DGet H a (kV k) (valV kvs k) := .inl ⟨kvs, k, .inl e, rfl, rfl⟩
theorem DGet.t {H : Hp} {a b : Addr} {kvs : List (List Key × V)} {k : List Key} (e : H a = some (.dT kvs)) (eb : H b = some (.tup (k.map kV))) : DGet H a (.ref b) (valV kvs k) := .inr ⟨kvs, k, b, .inl e, rfl, eb, rfl⟩
theorem DPut.k {H : Hp} {a : Addr} {kvs : List (Key × V)} {k : Key} {v : V} (e : H a = some (.dK kvs)) (hl : kvs.length < sizeLine) : DPut H a (kV k) v (upd H a (.dK (putK kvs k v))) := .inl ⟨kvs, k, e, rfl, hl, rfl⟩
theorem DPut.t {H : Hp} {a b : Addr} {kvs : List (List Key × V)} {k : List Key} {v : V} (e : H a = some (.dT kvs)) (eb : H b = some (.tup (k.map kV))) (hl : kvs.length < sizeLine) :
    DPut H a (.ref b) v (upd H a (.dT (putK kvs k v))) := .inr ⟨kvs, k, b, e, rfl, eb, hl, rfl⟩
section
variable {X : Cx} {pins : List (Addr × Obj)} {σ : St} {H : Hp} {s : Shared} {a : Addr} {y v : V} {u r : Value} {o : Option V} {A : Around} {E : Value → Shared → Prop}
theorem Inv.big (I : Inv X pins σ H s) : sysModules < s.heap.objs.size := by
  have h : mainGlobals < s.heap.objs.size := (I.mod.glob.keeps I.bk).lt
  exact Nat.lt_trans (by decide) h
theorem d_getItem {Q : Value → Shared → Prop} (hu : A.units + 1 < cLine) (I : Inv X pins σ H s) (g : DGet H a y (some v)) (ry : RelV y u) (h : ∀ w' s', Inv X pins σ H s' → RelV v w' → Q w' s') :
    wpAny (model X.prog X.w) A (getItem (.ref a) u) Q E s := by
  rcases g with ⟨kvs, k, e, ey, l⟩ | ⟨kvs, k, b, e, ey, eb, l⟩
  · subst ey
    obtain ⟨z, hd, vs, rel, dd⟩ := dk_rd I.hok e
    obtain ⟨w', hw, rw'⟩ := RelO.some_of (v := v) (o := valueAt vs k) (by rw [l]; exact rel.val k)
    exact wpAny_getItem_of (kV_is ry) dd.mapOf hw (h w' _ (I.tok _) rw')
  · subst ey
    cases (show u = Value.ref b from ry)
    obtain ⟨z, hd, xs, rel, dd⟩ := dt_rd I.hok e
    obtain ⟨w', hw, rw'⟩ := RelO.some_of (v := v) (o := (atKey xs k).map (·.2)) (by rw [l]; exact rel.val k)
    obtain ⟨p, hp, hp2⟩ := Option.map_eq_some_iff.mp hw
    refine wpAny_getItem_heap (tupleKind_room_in1 hu) (key_of I.hok eb) dd hp ?_
    rw [hp2]
    exact h w' _ (I.tok _) rw'
theorem d_in {Q : Value → Shared → Prop} (hu : A.units + 1 < cLine) (I : Inv X pins σ H s) (g : DGet H a y o) (ry : RelV y u) (h : ∀ s', Inv X pins σ H s' → Q (.bool o.isSome) s') :
    wpAny (model X.prog X.w) A (compareOp .In u (.ref a)) Q E s := by
  rcases g with ⟨kvs, k, e, ey, l⟩ | ⟨kvs, k, b, e, ey, eb, l⟩
  · subst ey
    obtain ⟨z, hd, vs, rel, dd⟩ := dk_rd I.hok e
    refine wpAny_in_of (kV_is ry) hd dd.mapOf ?_
    rw [← (rel.val k).isSome_eq, ← l]
    exact h _ (I.tok _)
  · subst ey
    cases (show u = Value.ref b from ry)
    obtain ⟨z, hd, xs, rel, dd⟩ := dt_rd I.hok e
    refine wpAny_in_heap (tupleKind_room_in1 hu) (key_of I.hok eb) hd dd ?_
    have q := (rel.val k).isSome_eq
    rw [Option.isSome_map] at q
    rw [← q, ← l]
    exact h _ (I.tok _)
theorem d_write {h' : Heap} {t' : Nat} {ob : HO} (I : Inv X pins σ H s) (mu : Mut (H a)) (hs : Heap.SameBut a s.heap h') (he : ∃ q, h'.get? a = some q) (new : ObjOk X.prog X.w (upd H a ob) h' a ob) :
    Inv X pins σ (upd H a ob) { s with heap := h', toks := t' } :=
  I.write (x := a) (e := a) mu (.inl rfl) (fun b q hb z => (hs.2 b hb).trans z) he new
theorem dk_new {P : Program} {w : World} {H' : Hp} {h' : Heap} {kvs : List (Key × V)} {vs : List (Key × Value)} (z : kvs.length ≤ sizeLine) (hd : (a == sysModules) = false) (rel : KV kvs vs) (dd : h'.DictOf (mixKind P w) a vs) :
    ObjOk P w H' h' a (.dK kvs) := ⟨z, hd, vs, rel, dd⟩
theorem d_setItem {H' : Hp} {Q : Unit → Shared → Prop} (hu : A.units + 1 < cLine) (I : Inv X pins σ H s) (g : DPut H a y v H') (ry : RelV y u) (rv : RelV v r) (h : ∀ s', Inv X pins σ H' s' → Q () s') :
    wpAny (model X.prog X.w) A (setItem (.ref a) u r) Q E s := by
  rcases g with ⟨kvs, k, e, ey, l, eH⟩ | ⟨kvs, k, b, e, ey, eb, l, eH⟩
  · subst ey eH
    obtain ⟨z, hd, vs, rel, dd⟩ := dk_of I.hok e
    have hz : vs.length ≤ sizeLine := by rw [← rel.length]; exact z
    have hl : (putK kvs k v).length ≤ sizeLine := by have := length_putK kvs k v; omega
    refine wpAny_setItem_pairs (hsz := hz) (kV_is ry) dd fun h' dd' hs => h _ ?_
    have he : ∃ q, h'.get? a = some q := let ⟨q, _, _, hq, _⟩ := dd'; ⟨q, hq⟩
    exact d_write I (by rw [e]; exact True.intro) hs he (dk_new hl hd (rel.put k rv) dd')
  · subst ey eH
    cases (show u = Value.ref b from ry)
    obtain ⟨z, hd, xs, rel, dd⟩ := dt_of I.hok e
    have hz : xs.length ≤ sizeLine := by rw [← Paired.length rel]; exact z
    have hl : (putK kvs k v).length ≤ sizeLine := by have := length_putK kvs k v; omega
    refine wpAny_setItem_heap (hsz := hz) (tupleKind_room_in1 hu) (key_of I.hok eb) dd fun h' dd' hs => h _ ?_
    obtain ⟨q, es, ep, hq, h2, h3, h4, _, h5⟩ := dd'
    refine d_write I (by rw [e]; exact True.intro) hs ⟨q, hq⟩ ⟨hl, hd, _, (rel.put k eb rv).keeps fun c ys ec => ?_, q, es, ep, hq, h2, h3, h4, h5⟩
    rw [upd_ne (ne_of ec e (fun z => nomatch z))]
    exact ec
end
section
variable {X : Cx} {pins : List (Addr × Obj)} {σ : St} {H : Hp} {s : Shared} {a : Addr} {kvs : List (Key × V)} {k : Key} {u : Value} {A : Around} {E : Value → Shared → Prop}
theorem d_len {Q : Value → Shared → Prop} (I : Inv X pins σ H s) (e : Rd H a (.dK kvs)) (h : ∀ t s', Inv X pins σ H s' → Q (.int kvs.length t) s') : wpAny (model X.prog X.w) A (call (.builtin "len") [.ref a]) Q E s := by
  obtain ⟨z, hd, vs, rel, dd⟩ := dk_rd I.hok e
  refine call_len_dict hd dd (by rw [← rel.length]; rw [sizeLine_eq] at z; omega) ?_
  rw [← rel.length]
  exact h _ _ (I.tok _)
end
theorem dict_typeIs {X : Cx} {pins : List (Addr × Obj)} {σ : St} {H : Hp} {s : Shared} {a : Addr} {y : V} {o : Option V} (I : Inv X pins σ H s) (g : DGet H a y o) : s.TypeIs (.ref a) "dict" := by
  rcases g with ⟨kvs, k, e, _, _⟩ | ⟨kvs, k, b, e, _, _, _⟩
  · obtain ⟨_, _, vs, _, dd⟩ := dk_rd I.hok e
    exact dd.typeIs
  · obtain ⟨_, _, xs, _, dd⟩ := dt_rd I.hok e
    exact dd.typeIs
section
variable {X : Cx} {o i e value : Expr} {pos pos' tpos : Pos} {td ty tv : TE}
end
theorem dk_empty {P : Program} {w : World} {H : Hp} (h : Heap) (hb : sysModules < h.objs.size) : ObjOk P w H (h.push { cls := .type "dict", data := .dict #[] }) h.objs.size (.dK []) :=
  ⟨Nat.zero_le _, beq_eq_false_iff_ne.mpr (Ne.symm (Nat.ne_of_lt hb)), [], .nil, Heap.DictOf.new h⟩
def tDNewK : TE := fun _ H Q => ∀ p, H p = none → Q (.ref p) (upd H p (.dK []))
section
variable {X : Cx} {pos : Pos}
theorem pe_dnewK : PE X (.Dict [] [] pos) tDNewK := fun pins s σ H Q I h =>
  wpAny_Dict_empty ⟨.ref s.heap.objs.size, _, I.laid (a := s.heap.objs.size) (o := .dK []) (t' := s.toks) (fun _ _ q => Heap.get?_push_of_some _ q) (Nat.le_refl _) (dk_empty s.heap I.big), rfl, h _ (I.hok.fresh (Nat.le_refl _))⟩
end
section
variable {X : Cx} {pins : List (Addr × Obj)} {σ : St} {H : Hp} {s : Shared} {a : Addr} {y d : V} {u r : Value} {o : Option V} {A : Around} {E : Value → Shared → Prop}
end
section
variable {X : Cx} {o e f : Expr} {apos cpos : Pos} {td ty tx : TE}
end
section
variable {X : Cx} {pins : List (Addr × Obj)} {σ : St} {H : Hp} {s : Shared} {a : Addr} {kvs : List (Key × V)} {A : Around} {E : Value → Shared → Prop}
end
section
variable {X : Cx} {pins : List (Addr × Obj)} {σ : St} {H : Hp} {s : Shared} {a : Addr} {y : V} {u : Value} {A : Around} {E : Value → Shared → Prop}
end
end L2
namespace Att
open PySem PySem.W PySem.Calls PyProof.Rows
theorem ints_of_wellAll {P : Params} {h : Heap} : ∀ (ns : List Int) (vs : List Value), WellAll P h vs (ns.map WData.int) → IntsAre vs ns := by
  intro ns
  induction ns with
  | nil =>
    intro vs w
    rw [List.map_nil] at w
    cases w
    exact .nil
  | cons n ns ih =>
    intro vs w
    rw [List.map_cons] at w
    cases w with
    | cons a b =>
      cases a
      exact .cons _ _ (ih _ b)
theorem script_of {l : OpenLaw} {n : Nat} (hn : l.most = some n) {P : Params} {h : Heap} {args : List WData} {vals : List Value}
    (hpre : l.row.toRowW.claim.pre args = true) (hwl : WellAll P h vals args) :
    ∃ a vs ns, vals = [Value.ref a] ∧ args = [WData.list (ns.map WData.int)] ∧ h.get? a = some { cls := .type "list", data := .seq vs.toArray } ∧ IntsAre vs ns ∧ ns.length ≤ n := by
  have hsh : WShape.hasAll [] args [.list .int] = true := (pre_splitW hpre).1
  have hc : l.pre.holds [] { args := args } = true := (pre_splitW hpre).2
  obtain ⟨d, r, rfl, h1, h2⟩ := hasAllW_cons hsh
  obtain rfl := hasAllW_nil h2
  obtain ⟨xs, rfl, h3⟩ := hasW_list h1
  obtain ⟨ns, rfl⟩ := items_int h3
  have hlen : ns.length ≤ n := by
    unfold OpenLaw.pre at hc
    have h4 : (WTm.not (.lt (.lit (.int (n : Int))) (.len (.arg 0)))).holds [] { args := [.list (ns.map .int)] } = true := by
      have h4 := (holds_andW hc).1
      rw [hn] at h4
      exact h4
    have h5 := condW_of h4 (w_not (w_lt w_lit (w_len_list (w_arg rfl))))
    rw [List.length_map] at h5
    refine Nat.le_of_not_lt fun q => ?_
    have q' : (n : Int) < ((ns.length : Nat) : Int) := by omega
    first
      | (rw [decide_eq_true q'] at h5; exact absurd h5 (by decide))
      | (simp at h5; omega)
  cases hwl with
  | cons w1 w2 =>
    cases w2
    cases w1 with
    | list ho hall => exact ⟨_, _, ns, rfl, rfl, ho, ints_of_wellAll ns _ hall, hlen⟩
theorem post_true (l : OpenLaw) (args : List WData) : l.row.toRowW.claim.post args (.bool true) args = true :=
  postW_of (r := l.row.toRowW) (X := (true == true))
    (show WShape.has [] (.bool true) .bool = true by first | rfl | decide | simp [WShape.has, WShape.arms, WShape.armsAll])
    (show (WTm.eq .res (.lit (.bool true))).value [] { args := args, res := some (.bool true), after := args } = some (.bool (true == true)) from w_eq_bool (w_res rfl) w_lit) rfl
theorem attach_call {l : OpenLaw} {n : Nat} {q : Program} {loose : List Str} {XP : (Str → Option Value) → Heap → Prop} {YP : World → Heap → Prop} {d : DefRec}
    (hn : l.most = some n) (hdf : d.params.defaults = [])
    (call : ∀ (w : World) (s₀ s₁ : Shared) (mg mb : Str → Option Value) (fa : Addr) (o : Obj) (pm cd doc : Value) (a : Addr) (vs : List Value) (ns : List Int),
      Ground q loose [] XP w s₀ mg mb s₁.heap → YP w s₁.heap →
      s₁.heap.get? fa = some o → o.data = .func (docDef d.name d.params d.body d.scope pm cd doc) → s₁.heap.CodeRec cd d.name → mg d.name = some (.ref fa) →
      s₁.heap.get? a = some { cls := .type "list", data := .seq vs.toArray } → IntsAre vs ns → ns.length ≤ n → s₁.gens = #[] →
      codeAny (model l.prog w) callerA (.call (.ref fa) ⟨[.ref a], []⟩) (fun r s' => r = .ok (.ret (.bool true)) ∧ OldK s₁.heap s'.heap ∧ s'.os = s₁.os ∧ AllBare s'.gens) s₁) :
    WalkO q loose XP YP l.row.toRowW d [] (fun f vs => PySem.call f vs) := by
  intro w s₀ s₁ mg mb G Y fa o pm cd doc dV kV ho hd hcd hD hmg hg args vals as hpre hlay hrd hwl hlo
  obtain rfl : dV = .none := Dflts.none hD hdf
  obtain rfl : kV = .none := Dflts.noKw hD
  obtain ⟨a, vs, ns, rfl, rfl, hobj, hints, hlen⟩ := script_of hn hpre hwl
  refine enter_call (codeAny_mono (call w s₀ s₁ mg mb fa o pm cd doc a vs ns G Y ho (fd_plain hd) hcd hmg hobj hints hlen hg) fun r s' hq => ?_)
  obtain ⟨rfl, h2, h3, h4⟩ := hq
  exact ⟨.inl ⟨.bool true, .bool true, [], rfl, fun _ => rfl, .bool true, post_true l _, fun _ => ⟨List.Pairwise.nil, fun _ hm => (nomatch hm)⟩⟩, h2, h3, h4⟩
section
variable {prog : Program} {w : World} {A : Around} {E : Value → Shared → Prop} {s : Shared} {K : Frag}
end
end Att
namespace L2
open PySem PySem.Spec PyProof.Rows
theorem vals_ints : ∀ {vs : List Value} {ns : List Int}, IntsAre vs ns → Vals (ns.map V.int) vs
  | _, _, .nil => .nil
  | _, _, .cons n t h => .cons ⟨t, rfl⟩ (vals_ints h)
end L2
namespace L2
open PySem PySem.Spec PyProof.Rows
end L2
namespace L2
open PySem PySem.Spec PyProof.Rows
def defArgs (s : Stmt) : Arguments := match s with
  | .FunctionDef _ a _ _ _ _ _ _ _ _ => a
  | _ => { posonlyargs := [], args := [], vararg := none, kwonlyargs := [], kw_defaults := [], kwarg := none, defaults := [] }
def defBody (s : Stmt) : List Stmt := match s with
  | .FunctionDef _ _ b _ _ _ _ _ _ _ => b
  | _ => []
def defScope (s : Stmt) : Scope := match s with
  | .FunctionDef _ _ _ _ _ _ sc _ _ _ => sc
  | _ => { kind := .function, names := [], isGenerator := false, isCoroutine := false }
abbrev CX0 : CXT := fun _ _ _ _ _ _ => False
abbrev E0 : XK := fun _ _ _ => False
theorem pass0 {X : Cx} : Passes CX0 X E0 := fun _ _ _ _ _ _ _ h => h.elim
structure Fun (K : PySem.W.Frag) (x qual : Str) (st : Stmt) (f : Addr) (fd : FuncData) : Prop where
  ex : ∃ (oc : Value) (od : Option Addr) (kV doc pm : Value) (an : Option Addr) (cdv ct : Value) (osl : Array (Option Value)),
    fd = PySem.W.fnOf x qual (defArgs st) (defBody st) (defScope st) .none kV doc pm an cdv ct ∧ K.lookup f = some ⟨oc, od, .func fd, osl⟩ ∧ PySem.W.codeIn K cdv qual = true
  kp : PySem.W.keepIn K (.ref f) = true
section
variable {P : Program} {w : World} {K : PySem.W.Frag} {mg : Str → Option Value} {base : Heap}
theorem Fun.ok {x qual : Str} {st : Stmt} {f : Addr} {fd : FuncData} {N ps : List Str} {k : Nat} {sp : Sp} (F : Fun K x qual st f fd) (S : FnScope N ps (defScope st)) (len : ∀ vs H Q E, sp vs H Q E → vs.length = ps.length)
    (hbody : ∀ (cdv : Value) (A : Around) (outer : List Env) (s : Shared) (H : Hp) (vs : List V) (Q : VK) (E : XK), Room k (A.deeper (envOfC qual (defScope st) s.heap.objs.size f cdv)) → sp vs H Q E →
      ∃ t, PSs (cxOf CX0 P w K mg base N qual (defScope st) f cdv A outer s H E).nox (defBody st) t ∧ t { nx := fun _ H' => Q .non H', rt := Q } (start N vs) H) : FnOk P w K mg base CX0 (k + 1) f fd ps sp := by
  obtain ⟨oc, od, kV, doc, pm, an, cdv, ct, osl, rfl, lk, hcd⟩ := F.ex
  refine fn_of lk hcd S len fun A outer s H vs Q E hr hsp => ?_
  obtain ⟨t, h, q⟩ := hbody cdv A outer s H vs Q E hr hsp
  exact ⟨t, h.nox, q⟩
theorem Fun.binds {x qual : Str} {st : Stmt} {f : Addr} {fd : FuncData} {ps : List Str} (F : Fun K x qual st f fd)
    (h : ∀ (kV doc pm : Value) (an : Option Addr) (cdv ct : Value) (us : List Value), us.length = ps.length → bindArgs (PySem.W.fnOf x qual (defArgs st) (defBody st) (defScope st) .none kV doc pm an cdv ct) ⟨us, []⟩ = pure (ps.zip us)) : Binds K fd ps [] := by
  obtain ⟨oc, od, kV, doc, pm, an, cdv, ct, osl, rfl, lk, hcd⟩ := F.ex
  exact .all (h kV doc pm an cdv ct)
theorem fun_mk {x qual : Str} {st : Stmt} {f : Addr} {oc : Value} {od an : Option Addr} {osl : Array (Option Value)} {kV doc pm cdv ct : Value} (l : K.lookup f = some ⟨oc, od, .func (PySem.W.fnOf x qual (defArgs st) (defBody st) (defScope st) .none kV doc pm an cdv ct), osl⟩)
    (c : PySem.W.codeIn K cdv qual = true) (k : PySem.W.keepIn K (.ref f) = true) : Fun K x qual st f (PySem.W.fnOf x qual (defArgs st) (defBody st) (defScope st) .none kV doc pm an cdv ct) := ⟨⟨oc, od, kV, doc, pm, an, cdv, ct, osl, rfl, l, c⟩, k⟩
end
theorem hu_of {A : Around} {k : Nat} (hr : Room k A) : A.units + 1 < cLine := Nat.lt_of_le_of_lt (Nat.add_le_add_left (by decide : 1 ≤ 64) _) hr.units
section
variable {X : Cx}
theorem pv (i : Nat) {x : Str} {pos : Pos} (hN : X.N[i]? = some x := by rfl) (hv : Vis X.env.scope x := by first | exact Or.inl rfl | exact Or.inr (Or.inl rfl) | exact Or.inr (Or.inr rfl)) (hd : (x == ("__debug__" : Str)) = false := by decide)
    (hcd : (x == ("__classdict__" : Str)) = false := by decide) : PE X (.Name x pos) (tVar i) := pe_var hN hv hd hcd
theorem call_lenD : CallR X (.builtin "len") (fun xs H Q => ∃ a kvs, xs = [V.ref a] ∧ H a = some (.dK kvs) ∧ Q (.int kvs.length) H) := by
  intro pins s σ H xs us Q I r h
  obtain ⟨a, kvs, rfl, ha, q⟩ := h
  obtain ⟨u, rfl, ru⟩ := vals1 r
  cases ru
  exact d_len I (.inl ha) fun t s' I' => ⟨.int kvs.length, H, I', ⟨t, rfl⟩, q⟩
end
theorem ite2 {c A B : Prop} [Decidable c] (h1 : c → A) (h2 : ¬ c → B) : if c then A else B := by
  by_cases h : c
  · rw [if_pos h]
    exact h1 h
  · rw [if_neg h]
    exact h2 h
def Same (H H' : Hp) : Prop := ∀ b o, H b = some o → H' b = some o
theorem Same.refl (H : Hp) : Same H H := fun _ _ h => h
theorem Same.trans {H H1 H2 : Hp} (a : Same H H1) (b : Same H1 H2) : Same H H2 := fun c o h => b c o (a c o h)
theorem Same.free {H H' : Hp} (e : Same H H') {l : Addr} (h : H' l = Option.none) : H l = Option.none := by
  cases q : H l with
  | none => rfl
  | some o =>
    rw [e l o q] at h
    cases h
theorem Same.seq {K : PySem.W.Frag} {H H' : Hp} {a : Addr} {xs : List V} (e : Same H H') (h : SqL K H a xs) : SqL K H' a xs := by
  rcases h with (h | ⟨o, h⟩) | h
  · exact .inl (.inl (e _ _ h))
  · exact .inl (.inr ⟨o, e _ _ h⟩)
  · exact .inr h
section
variable {κ : Type} [DecidableEq κ]
end
end L2
set_option Elab.async false
set_option linter.all false
set_option maxRecDepth 100000
namespace L2
open PySem PySem.Spec PyProof.Rows
theorem closureFor_go {env : Env} : ∀ (names : List (Str × NameKind)) (acc : List (Str × Addr)), (∀ y ∈ names, y.2 = .free → ∃ c, env.cells.lookup y.1 = some c) → (∀ x c, acc.lookup x = some c → env.cells.lookup x = some c) →
    ∃ cl, (forIn names acc (fun x r => if (x.2 == NameKind.free) = true then do let c ← cellOf env x.1; pure (ForInStep.yield ((x.1, c) :: r)) else pure (ForInStep.yield r)) : Sem _) = pure cl ∧
      (∀ x c, cl.lookup x = some c → env.cells.lookup x = some c) ∧ (∀ x, ((x, NameKind.free) ∈ names ∨ ∃ c, acc.lookup x = some c) → ∃ c, cl.lookup x = some c) := by
  intro names
  induction names with
  | nil => intro acc h ha; exact ⟨acc, rfl, ha, fun x hx => by simpa using hx⟩
  | cons y r ih =>
    intro acc h ha
    obtain ⟨n, k⟩ := y
    have hr : ∀ y ∈ r, y.2 = .free → ∃ c, env.cells.lookup y.1 = some c := fun y hy => h y (List.mem_cons_of_mem _ hy)
    rw [List.forIn_cons]
    by_cases hk : k = .free
    · subst hk
      obtain ⟨c, hc⟩ := h (n, .free) List.mem_cons_self rfl
      have e : cellOf env n = pure c := by unfold cellOf; rw [hc]
      obtain ⟨cl, e1, a, b⟩ := ih ((n, c) :: acc) hr (fun x c' hx => by
        rw [List.lookup_cons] at hx
        cases hxn : x == n with
        | true =>
          rw [hxn] at hx
          cases hx
          rw [eq_of_beq hxn]
          exact hc
        | false =>
          rw [hxn] at hx
          exact ha x c' hx)
      refine ⟨cl, ?_, a, fun x hx => b x ?_⟩
      · rw [← e1]
        show (if (NameKind.free == NameKind.free) = true then (cellOf env n >>= _) else _) >>= _ = _
        rw [if_pos (show (NameKind.free == NameKind.free) = true from rfl), e]
        rfl
      · rcases hx with hx | ⟨c', hx⟩
        · rcases List.mem_cons.mp hx with e2 | hx
          · have e3 : x = n := congrArg Prod.fst e2
            exact .inr ⟨c, by rw [List.lookup_cons, e3]; simp⟩
          · exact .inl hx
        · refine .inr ?_
          rw [List.lookup_cons]
          cases x == n with
          | true => exact ⟨c, rfl⟩
          | false => exact ⟨c', hx⟩
    · obtain ⟨cl, e1, a, b⟩ := ih acc hr ha
      refine ⟨cl, ?_, a, fun x hx => b x ?_⟩
      · rw [← e1]
        have hb : (k == NameKind.free) = false := by simpa using hk
        show (if (k == NameKind.free) = true then _ else _) >>= _ = _
        rw [if_neg (by rw [hb]; simp)]
        rfl
      · rcases hx with hx | hx
        · rcases List.mem_cons.mp hx with e2 | hx
          · exact absurd (congrArg Prod.snd e2).symm hk
          · exact .inl hx
        · exact .inr hx
theorem closureFor_some {scope : Scope} {env : Env} (h : ∀ y ∈ scope.names, y.2 = .free → ∃ c, env.cells.lookup y.1 = some c) :
    ∃ cl, closureFor scope env = pure cl ∧ (∀ x c, cl.lookup x = some c → env.cells.lookup x = some c) ∧ (∀ x, (x, NameKind.free) ∈ scope.names → ∃ c, cl.lookup x = some c) := by
  obtain ⟨cl, e, a, b⟩ := closureFor_go scope.names [] h (by intro x c e; cases e)
  refine ⟨cl, ?_, a, fun x hx => b x (.inl hx)⟩
  unfold closureFor
  exact congrArg (fun m => m >>= fun x => pure x) e
def cpN (N own : List Str) (cap : List Nat) : List Str := own ++ cap.map fun j => N.getD j ""
def cpSt (own : List Str) (cap : List Nat) (σ : St) : St := own.map (fun _ => none) ++ cap.map fun j => σ.getD j none
structure CpScope (N : List Str) (osc sc : Scope) (own : List Str) (cap : List Nat) : Prop where
  kind : sc.kind = .function
  names : ∀ x ∈ sc.names, x.2 = .local → sc.names.lookup x.1 = some .local
  nocell : ∀ y ∈ sc.names, y.2 ≠ .cell
  free : ∀ y ∈ sc.names, y.2 = .free → osc.names.lookup y.1 = some .cell ∨ osc.names.lookup y.1 = some .free
  cap : ∀ j ∈ cap, j < N.length ∧ sc.names.lookup (N.getD j "") = some .free
def cxComp (X : Cx) (sc : Scope) (own : List Str) (cap : List Nat) (cl : List (Str × Addr)) (C : Addr) (s : Shared) (H : Hp) (fp : List Addr) (pins : List (Addr × Obj)) : Cx :=
  { X with N := cpN X.N own cap, s₀ := s, H₀ := H, env := compEnvC sc cl C X.env, outer := X.stack, ex := fp, fn := fun _ => false, pn := X.pn ++ pins, xe := fun _ _ => False }
def PTs (X : Cx) (ifs : List Expr) (tt : TT) : Prop :=
  ∀ (pins : List (Addr × Obj)) (s : Shared) (σ : St) (H : Hp) (Q : Bool → Hp → Prop), Inv X pins σ H s → tt σ H Q →
    wpAny (model X.prog X.w) X.A (forIn ifs true fun c r => if r = true then do let ok ← isTrue c X.env (eval c X.env); pure (ForInStep.yield ok) else pure (ForInStep.yield r)) (TP X pins σ Q) X.xe s
def tYes : TT := fun _ H Q => Q true H
theorem pts_nil {X : Cx} : PTs X [] tYes := fun _ _ _ H _ I h => wpAny_tests_nil ⟨H, I, h⟩
theorem pts_one {X : Cx} {c : Expr} {tt : TT} (h : PT X c tt) : PTs X [c] tt := fun pins s σ H Q I hq => wpAny_tests_one (h pins s σ H Q I hq)
def GOwn (n : Nat) (g : TG) : Prop := ∀ v σ H Q, g v σ H Q → g v σ H fun σ' H' => (σ'.length = σ.length ∧ ∀ j, n ≤ j → σ'[j]? = σ[j]?) ∧ Q σ' H'
theorem gown_name {n i : Nat} (h : i < n) : GOwn n (gName i) := fun v σ H Q q => ⟨⟨by simp, fun j hj => by rw [List.getElem?_set_ne (by omega)]⟩, q⟩
def tComp (own : List Str) (cap : List Nat) (wi : TI) (g : TG) (tt : TT) (te : TE) : TE := fun σ H Q => wi σ H fun J H1 => ∃ W : Nat → Nat → List V → Hp → Prop, (∃ m, W 0 m [] H1) ∧ ∀ i m acc H, W i m acc H → acc.length ≤ sizeLine ∧
  ((J.stop i H ∧ ∀ p, H p = none → Q (.ref p) (upd H p (.lst acc))) ∨
   (J.go i H ∧ acc.length < sizeLine ∧ ∃ N : List V → Hp → Prop, (∀ acc' H', N acc' H' → ∃ m', m' < m ∧ W (i + 1) m' acc' H') ∧ ∀ x H', J.yld i H x H' → g x (cpSt own cap σ) H' fun σ2 H2 => tt σ2 H2 fun b H3 => if b = true then te σ2 H3 fun y H4 => N (acc ++ [y]) H4 else N acc H3))
section
variable {prog : Program} {w : World} {A : Around} {R : Result → Shared → Prop} {s : Shared}
theorem codeAny_compLoop_go {elt target iter : Expr} {ifs : List Expr} {scope : Scope} {pos : Pos} {it acc : Value} {env : Env} (I : Nat → Shared → Prop)
    (turn : ∀ n s, I n s → wpAny (model prog w) A (pyNext it) (fun r s₁ => match r with
      | none => R (.ok .next) s₁
      | some v => wpAny (model prog w) A (letOwnedTupleGo target it v) (fun _ s₁' => wpAny (model prog w) A (assign target env v) (fun _ s₂ =>
          wpAny (model prog w) A (forIn ifs true fun c r => if r = true then do let ok ← isTrue c env (eval c env); pure (ForInStep.yield ok) else pure (ForInStep.yield r)) (fun ok s₃ =>
            if ok = true then wpAny (model prog w) A (eval elt env) (fun x s₄ =>
              wpAny (model prog w) A (call (.builtin "list.append") [acc, x]) (fun _ s₅ => ∃ m, m < n ∧ I m s₅) (fun _ _ => False) s₄) (fun _ _ => False) s₃
            else ∃ m, m < n ∧ I m s₃) (fun _ _ => False) s₂) (fun _ _ => False) s₁') (fun _ _ => False) s₁) (fun _ _ => False) s)
    (n : Nat) (h : I n s) :
    codeAny (model prog w) A (.compLoop (.ListComp elt [⟨target, iter, ifs, 0⟩] scope pos) 0 it acc env) R s := by
  refine codeAny_loop rfl I (fun n s hI => ?_) n h
  show wpAny _ A ((compTurn (.ListComp elt [⟨target, iter, ifs, 0⟩] scope pos) 0 it acc env).onRaise (fun x => do noteFrame x env; theTreesLotGoes x)) _ _ s
  refine wpAny_noted ?_
  rw [compTurn_list]
  refine wpAny_bind (wpAny_standAt (wpAny_bind (wpAny_mono (turn n s hI) (fun r s₁ h₁ => ?_) fun _ _ h' => h'.elim)))
  cases r with
  | none => exact wpAny_pure h₁
  | some v =>
    refine wpAny_bind (wpAny_mono h₁ (fun _ s₁' h₁' => ?_) fun _ _ h' => h'.elim)
    refine wpAny_bind (wpAny_mono h₁' (fun _ s₂ h₂ => wpAny_bind (wpAny_mono h₂ (fun ok s₃ h₃ => ?_) fun _ _ h' => h'.elim)) fun _ _ h' => h'.elim)
    cases ok with
    | false => exact wpAny_pure ⟨rfl, h₃⟩
    | true =>
      exact wpAny_bind (wpAny_bind (wpAny_mono h₃ (fun x s₄ h₄ => wpAny_bind (wpAny_mono h₄ (fun _ s₅ h₅ => wpAny_pure (wpAny_pure ⟨rfl, h₅⟩)) fun _ _ h' => h'.elim)) fun _ _ h' => h'.elim))
end
section
variable {X : Cx}
theorem cpSt_some {own : List Str} {cap : List Nat} {σ : St} {i : Nat} {v : V} (h : (cpSt own cap σ)[i]? = some (some v)) : own.length ≤ i ∧ ∃ j, cap[i - own.length]? = some j ∧ σ[j]? = some (some v) := by
  unfold cpSt at h
  by_cases hi : i < own.length
  · rw [List.getElem?_append_left (by simpa using hi), List.getElem?_map] at h
    cases e : own[i]? with
    | none => rw [e] at h; cases h
    | some a => rw [e] at h; cases h
  · have hi' : own.length ≤ i := by omega
    rw [List.getElem?_append_right (by simpa using hi'), List.length_map, List.getElem?_map] at h
    refine ⟨hi', ?_⟩
    cases e : cap[i - own.length]? with
    | none => rw [e] at h; cases h
    | some j =>
      rw [e] at h
      have h2 : σ.getD j none = some v := Option.some.inj h
      refine ⟨j, rfl, ?_⟩
      rw [List.getD_eq_getElem?_getD] at h2
      cases e2 : σ[j]? with
      | none => rw [e2] at h2; cases h2
      | some o => rw [e2] at h2; simp at h2; rw [h2]
theorem lookup_relabel {env : Env} {x : Str} {k : NameKind} : ∀ {names : List (Str × NameKind)}, names.lookup x = some k →
    (names.map fun (n, k) => if (k == NameKind.free && env.scope.kind == .function && env.kindOf n == some .cell) then (n, NameKind.cell) else (n, k)).lookup x = some (if (k == NameKind.free && env.scope.kind == .function && env.kindOf x == some .cell) = true then .cell else k)
  | [], h => by simp at h
  | (n, k') :: r, h => by
    have ih := @lookup_relabel env x k r
    show List.lookup x ((if (k' == NameKind.free && env.scope.kind == .function && env.kindOf n == some .cell) = true then (n, NameKind.cell) else (n, k')) :: _) = _
    cases hx : x == n with
    | true =>
      simp only [List.lookup_cons, hx] at h
      cases h
      have e := eq_of_beq hx
      subst e
      by_cases hc : (k == NameKind.free && env.scope.kind == .function && env.kindOf x == some .cell) = true
      · rw [if_pos hc, if_pos hc]; simp [List.lookup_cons]
      · rw [if_neg hc, if_neg hc]; simp [List.lookup_cons]
    | false =>
      simp only [List.lookup_cons, hx] at h
      by_cases hc : (k' == NameKind.free && env.scope.kind == .function && env.kindOf n == some .cell) = true
      · rw [if_pos hc]; simp only [List.lookup_cons, hx]; exact ih h
      · rw [if_neg hc]; simp only [List.lookup_cons, hx]; exact ih h
theorem lookup_relabel_free {env : Env} {x : Str} : ∀ {names : List (Str × NameKind)}, (∀ y ∈ names, y.2 ≠ .cell) →
    ((names.map fun (n, k) => if (k == NameKind.free && env.scope.kind == .function && env.kindOf n == some .cell) then (n, NameKind.cell) else (n, k)).lookup x = some .cell ∨
     (names.map fun (n, k) => if (k == NameKind.free && env.scope.kind == .function && env.kindOf n == some .cell) then (n, NameKind.cell) else (n, k)).lookup x = some .free) → (x, NameKind.free) ∈ names
  | [], _, h => by simp at h
  | (n, k') :: r, hn, h => by
    have ih := @lookup_relabel_free env x r fun y hy => hn y (List.mem_cons_of_mem _ hy)
    have hk' : k' ≠ .cell := hn (n, k') List.mem_cons_self
    have h : List.lookup x ((if (k' == NameKind.free && env.scope.kind == .function && env.kindOf n == some .cell) = true then (n, NameKind.cell) else (n, k')) :: _) = some .cell ∨
      List.lookup x ((if (k' == NameKind.free && env.scope.kind == .function && env.kindOf n == some .cell) = true then (n, NameKind.cell) else (n, k')) :: _) = some .free := h
    cases hx : x == n with
    | true =>
      have e := eq_of_beq hx
      subst e
      by_cases hc : (k' == NameKind.free && env.scope.kind == .function && env.kindOf x == some .cell) = true
      · have : k' = .free := by
          rw [Bool.and_eq_true, Bool.and_eq_true] at hc
          exact eq_of_beq hc.1.1
        rw [this]
        exact List.mem_cons_self
      · rw [if_neg hc] at h
        simp [List.lookup_cons] at h
        rcases h with h | h
        · exact absurd h hk'
        · rw [h]; exact List.mem_cons_self
    | false =>
      by_cases hc : (k' == NameKind.free && env.scope.kind == .function && env.kindOf n == some .cell) = true
      · rw [if_pos hc] at h; simp only [List.lookup_cons, hx] at h; exact List.mem_cons_of_mem _ (ih h)
      · rw [if_neg hc] at h; simp only [List.lookup_cons, hx] at h; exact List.mem_cons_of_mem _ (ih h)
end
end L2
set_option Elab.async false
set_option linter.all false
set_option maxRecDepth 100000
namespace L2
open PySem PySem.Spec PyProof.Rows
theorem addr_ne {a b : Addr} {n : Nat} (h1 : a < n) (h2 : n ≤ b) : a ≠ b := Nat.ne_of_lt (Nat.lt_of_lt_of_le h1 h2)
section
variable {X : Cx} {pins : List (Addr × Obj)} {σ : St} {H : Hp} {s : Shared} {sc : Scope} {own : List Str} {cap : List Nat} {cl : List (Str × Addr)} {C : Addr} {fp : List Addr}
theorem cx_ok (S : CpScope X.N X.env.scope sc own cap) (cl1 : ∀ x c, cl.lookup x = some c → X.env.cells.lookup x = some c) (cl2 : ∀ x, (x, NameKind.free) ∈ sc.names → ∃ c, cl.lookup x = some c)
    (I : Inv X pins σ H s) (f : ∀ b ∈ fp, FpOk X pins H b) (live : ∀ b ∈ fp, b < s.heap.objs.size) (hC : s.heap.objs.size ≤ C) : (cxComp X sc own cap cl C s H fp pins).Ok where
  mod := I.ok.mod
  kind := S.kind
  glob := I.ok.glob
  blt := I.ok.blt
  above := hC
  inj := fun x y c h1 h2 => I.ok.inj x y c (cl1 x c h1) (cl1 y c h2)
  has := fun x hx => cl2 x (lookup_relabel_free S.nocell hx)
  cab := fun x c h => by cases h
  hd := I.ok.hd
  frames := I.ok.frames
  stk := .inl rfl
  exf := fun b hb => ⟨fun z => addr_ne (live b hb) hC z, fun x c e => (f b hb).2.2.2.2.1 x c (cl1 x c e)⟩
  bs := I.bs
  bsz := Nat.le_trans I.ok.bsz I.sz
  noex := fun b o e hb => by
    rcases (f b hb).2.2.2.1 with z | z
    · exact I.ok.noex b o e z
    · exact addr_ne (Nat.lt_of_lt_of_le (Heap.lt_size e) I.ok.bsz) z rfl
  exfs := fun b hb z => by
    rcases List.mem_cons.mp (I.stkSub b z) with q | q
    · exact (f b hb).2.1 q
    · exact (f b hb).2.2.1 q
  funs := I.stack
  frf := I.stkFree
theorem cx_inv (S : CpScope X.N X.env.scope sc own cap) (cl1 : ∀ x c, cl.lookup x = some c → X.env.cells.lookup x = some c) (cl2 : ∀ x, (x, NameKind.free) ∈ sc.names → ∃ c, cl.lookup x = some c)
    (I : Inv X pins σ H s) (ok : (cxComp X sc own cap cl C s H fp pins).Ok) (hC : s.heap.objs.size ≤ C) {h₁ : Heap} {tk : Nat} {m : Str → Option Value} (hns : h₁.Ns C m) (old : ∀ b o, s.heap.get? b = some o → h₁.get? b = some o) :
    Inv (cxComp X sc own cap cl C s H fp pins) [] (cpSt own cap σ) H { s with heap := h₁, toks := tk } := by
  have cellK : ∀ x c v, X.env.cells.lookup x = some c → s.heap.IsCell c v → h₁.IsCell c v := fun x c v _ z => by
    obtain ⟨o, ho, hd⟩ := z
    exact ⟨o, old c o ho, hd⟩
  refine ⟨ok, rfl, I.bare, Un.kept old, ⟨m, hns, fun i x v e1 e2 e3 => ?_⟩, fun x c e => ?_, I.hok.fresh hC, fun x c e => I.freeC x c (cl1 x c e), fun p hp => ?_, I.hok.kept old, ?_⟩
  · have e1 : (cpN X.N own cap)[i]? = some x := e1
    obtain ⟨hi, j, hj, hσ⟩ := cpSt_some e2
    unfold cpN at e1
    rw [List.getElem?_append_right hi, List.getElem?_map, hj] at e1
    have e1 : X.N.getD j "" = x := Option.some.inj e1
    obtain ⟨hjl, hfr⟩ := S.cap j (List.mem_of_getElem? hj)
    have hx : X.N[j]? = some x := by rw [← e1, List.getD_eq_getElem?_getD]; simp [hjl]
    rw [e1] at hfr
    have hfree := S.free (x, .free) (PySem.mem_of_lookup hfr) rfl
    obtain ⟨m0, _, hl⟩ := I.loc
    obtain ⟨u, r, l⟩ := hl j x v hx hσ (.inr hfree)
    refine ⟨u, r, ?_⟩
    rcases l with ⟨k, _⟩ | ⟨k, c, hc, z⟩
    · have k : X.env.scope.names.lookup x = some .local := k
      rcases hfree with q | q <;> (rw [q] at k; cases k)
    · obtain ⟨c', hc'⟩ := cl2 x (PySem.mem_of_lookup hfr)
      have e4 := cl1 x c' hc'
      rw [hc] at e4
      cases e4
      refine .inr ⟨?_, c, hc', cellK x c _ hc z⟩
      have q := lookup_relabel (env := X.env) hfr
      show (relabel sc X.env).names.lookup x = some .cell ∨ (relabel sc X.env).names.lookup x = some .free
      have q' : (relabel sc X.env).names.lookup x = some (if (NameKind.free == NameKind.free && X.env.scope.kind == .function && X.env.kindOf x == some .cell) = true then .cell else .free) := q
      rw [q']
      split
      · exact .inl rfl
      · exact .inr rfl
  · obtain ⟨v, z⟩ := I.cell x c (cl1 x c e)
    exact ⟨v, cellK x c v (cl1 x c e) z⟩
  · have hp : p ∈ (X.pn ++ pins) ++ [] := hp
    rw [List.append_nil] at hp
    obtain ⟨e, n, ne, nf, d⟩ := I.pin p hp
    refine ⟨old _ _ e, n, fun z => ?_, fun z => ?_, d⟩
    · exact addr_ne (Heap.lt_size e) hC z
    · rcases List.mem_cons.mp (I.stkSub p.1 z) with q | q
      · exact ne q
      · exact nf q
  · show (cpSt own cap σ).length = (cpN X.N own cap).length
    unfold cpSt cpN
    simp
theorem cx_back (I : Inv X pins σ H s) (f : ∀ b ∈ fp, FpOk X pins H b) (hC : s.heap.objs.size ≤ C) {D : Addr} (hD : s.heap.objs.size ≤ D) (hDC : D ≠ C) {σ' : St} {pl : List (Addr × Obj)} {H' : Hp} {s' : Shared} {acc : List V} {its : List Value} {nn : Nat}
    (J : Inv (cxComp X sc own cap cl C s H fp pins) pl σ' H' s') (hDn : H' D = none) (hDo : s'.heap.get? D = some { cls := .type "list", data := .seq its.toArray nn }) (hv : Vals acc its) (hz : acc.length ≤ sizeLine) :
    Inv X pins σ (upd H' D (.lst acc)) s' ∧ (∃ m, s'.heap.Ns C m) ∧ FpOk X pins (upd H' D (.lst acc)) C := by
  have u : Un (frs X.stack) fp H H' s.heap s'.heap := J.base
  have lt : ∀ b o, s.heap.get? b = some o → b ≠ D := fun b o e z => addr_ne (Heap.lt_size e) hD z
  have trk : ∀ b o, H b = some o → b ≠ D := fun b o e z => addr_ne (I.hok.lt e) hD z
  have CH : H' C = none := J.free
  refine ⟨I.call' (ch := fp) J.os ⟨u.keep, u.slot, fun b o e n hx => by rw [upd_ne (lt b o e)]; exact u.free b o e n hx, u.there, fun b xs e => by rw [upd_ne (trk b _ e)]; exact u.tups b xs e, fun b o xs e => by rw [upd_ne (trk b _ e)]; exact u.frzs b o xs e, fun b ps e => by rw [upd_ne (trk b _ e)]; exact u.tbls b ps e⟩ (fun b o e => ?_) J.bare fun b hb => ?_, ?_, ?_⟩
  · by_cases hb : b = D
    · subst hb
      rw [upd_same] at e
      cases e
      exact ⟨hz, its, nn, hv, hDo⟩
    · rw [upd_ne hb] at e
      refine (J.hok b o e).stay (fun c v _ q => q) (fun c q => ?_) fun c xs q => ?_
      · rw [upd_ne (ne_of_none q hDn)]; exact q
      · rw [upd_ne (ne_of_none q hDn)]; exact q
  · obtain ⟨f0, f1, f2, f3, f4, f5⟩ := f b hb
    exact ⟨f3, f1, f4, f5⟩
  · obtain ⟨m, hn, _⟩ := J.loc
    exact ⟨m, hn⟩
  · refine I.fpOk hC ?_
    rw [upd_ne (Ne.symm hDC)]
    exact CH
theorem comp_block {elt tg iter : Expr} {ifs : List Expr} {pos : Pos} {g : TG} {tt : TT} {te : TE} {E : Value → Shared → Prop}
    {it : Addr} {tn : Nat → Heap → Prop} {J : It} {Q : VK} {RR : Value → Addr → Result → Shared → Prop}
    (hc : X.calm = true) (S : CpScope X.N X.env.scope sc own cap) (hown : GOwn own.length g)
    (cl1 : ∀ x c, cl.lookup x = some c → X.env.cells.lookup x = some c) (cl2 : ∀ x, (x, NameKind.free) ∈ sc.names → ∃ c, cl.lookup x = some c)
    (hb : ∀ cl C s H fp pins, PG (cxComp X sc own cap cl C s H fp pins) tg g ∧ PTs (cxComp X sc own cap cl C s H fp pins) ifs tt ∧ PE (cxComp X sc own cap cl C s H fp pins) elt te)
    (I : Inv X pins σ H s) (T : Turn X.prog X.w X.K tg J fp it tn) (st : tn 0 s.heap) (f : ∀ b ∈ fp, FpOk X pins H b)
    (W : Nat → Nat → List V → Hp → Prop) (w0 : ∃ m, W 0 m [] H)
    (turn : ∀ i m acc H, W i m acc H → acc.length ≤ sizeLine ∧ ((J.stop i H ∧ ∀ p, H p = none → Q (.ref p) (upd H p (.lst acc))) ∨ (J.go i H ∧ acc.length < sizeLine ∧ ∃ N : List V → Hp → Prop, (∀ acc' H', N acc' H' → ∃ m', m' < m ∧ W (i + 1) m' acc' H') ∧ ∀ x H', J.yld i H x H' → g x (cpSt own cap σ) H' fun σ2 H2 => tt σ2 H2 fun b H3 => if b = true then te σ2 H3 fun y H4 => N (acc ++ [y]) H4 else N acc H3)))
    (hRR : ∀ D C H' s', Inv X pins σ H' s' → (∃ m, s'.heap.Ns C m) → FpOk X pins H' C → Q (.ref D) H' → RR (.ref D) C (.ok .next) s') :
    wpAny (model X.prog X.w) X.A (newList []) (fun acc s₃ => wpAny (model X.prog X.w) X.A (newFunctionEnv sc X.env.globals cl [] X.env.qual none .none (some X.env)) (fun cenv s₄ =>
      codeAny (model X.prog X.w) X.A (.compStart (.ListComp elt [⟨tg, iter, ifs, 0⟩] sc pos) 0 (.ref it) acc { cenv with scope := relabel sc X.env }) (RR acc cenv.locals) s₄) E s₃) E s := by
  refine wpAny_newObj_type (wpAny_newFunctionEnv S.nocell (by intro y hy; simp at hy) (fun h₁ hns₁ hsb₁ => ?_) S.kind)
  dsimp only at hns₁ hsb₁ ⊢
  generalize hH2 : s.heap.push { cls := .type "list", dict := none, data := .seq ([] : List Value).toArray } = H2 at hns₁ hsb₁ ⊢
  have hCs : H2.objs.size = s.heap.objs.size + 1 := by rw [← hH2, Heap.size_push]
  have hDC : s.heap.objs.size ≠ H2.objs.size := by omega
  have hCle : s.heap.objs.size ≤ H2.objs.size := by omega
  have old : ∀ b o, s.heap.get? b = some o → h₁.get? b = some o := fun b o e => by
    exact hsb₁.extBut b o (addr_ne (Heap.lt_size e) hCle) (Heap.get?_push_of_some _ (hH2 ▸ Heap.get?_push_of_some _ e))
  have hacc : h₁.get? s.heap.objs.size = some { cls := .type "list", data := .seq ([] : List Value).toArray 0 } := hsb₁.extBut _ _ hDC (Heap.get?_push_of_some _ (hH2 ▸ Heap.get?_push_size _ rfl))
  have live : ∀ b ∈ fp, b < s.heap.objs.size := fun b hb => by
    obtain ⟨o, e, _⟩ := T.obj _ _ st b hb
    exact Heap.lt_size e
  have ok := cx_ok (C := H2.objs.size) S cl1 cl2 I f live hCle
  have hDst : s.heap.objs.size ∉ frs X.stack := fun z => by
    rcases List.mem_cons.mp (I.stkSub _ z) with q | q
    · exact addr_ne I.lt (Nat.le_refl _) q.symm
    · exact I.nofs (Nat.le_refl _) q
  have fpX : ∀ (H' : Hp) (pl : List (Addr × Obj)), (∀ b ∈ fp, H' b = none) → (∀ p ∈ pl, ∀ b ∈ fp, p.1 ≠ b) → ∀ b ∈ fp, FpOk (cxComp X sc own cap cl H2.objs.size s H fp pins) pl H' b := fun H' pl hn hp b hb => by
    obtain ⟨f0, f1, f2, f3, f4, f5⟩ := f b hb
    refine ⟨hn b hb, fun z => ?_, fun z => ?_, .inl hb, fun x c e => f4 x c (cl1 x c e), fun p hpp => ?_⟩
    · exact addr_ne (live b hb) hCle z
    · rcases List.mem_cons.mp (I.stkSub b z) with q | q
      · exact f1 q
      · exact f2 q
    · rcases List.mem_append.mp hpp with q | q
      · exact f5 p q
      · exact hp p q b hb
  have loop : ∀ s₃ : Shared, s₃ = { s with heap := h₁, toks := s.toks + ([] : List (Str × Value)).length } →
      codeAny (model X.prog X.w) X.A (.compLoop (.ListComp elt [⟨tg, iter, ifs, 0⟩] sc pos) 0 (.ref it) (.ref s.heap.objs.size) (compEnvC sc cl H2.objs.size X.env))
        (RR (.ref s.heap.objs.size) H2.objs.size) s₃ := by
    rintro s₃ rfl
    obtain ⟨m0, w0⟩ := w0
    obtain ⟨hg, ht, he⟩ := hb cl H2.objs.size s H fp pins
    have I0 : Inv (cxComp X sc own cap cl H2.objs.size s H fp pins) [] (cpSt own cap σ) H { s with heap := h₁, toks := s.toks + ([] : List (Str × Value)).length } := cx_inv S cl1 cl2 I ok hCle hns₁ old
    refine codeAny_compLoop_go (fun n s' => ∃ i acc its nn H', Inv (cxComp X sc own cap cl H2.objs.size s H fp pins) [] (cpSt own cap σ) H' s' ∧ tn i s'.heap ∧ (∀ b ∈ fp, H' b = none) ∧
      s'.heap.get? s.heap.objs.size = some { cls := .type "list", data := .seq its.toArray nn } ∧ Vals acc its ∧ H' s.heap.objs.size = none ∧ W i n acc H') ?_ m0
      ⟨0, [], [], 0, H, I0, T.keep _ _ _ st (fun b _ o e => old b o e), fun b hb => (f b hb).1, hacc, .nil, I.hok.fresh (Nat.le_refl _), w0⟩
    rintro n s3 ⟨i, acc, its, nn, H3, I3, st3, fr3, hD3, rv3, hDn, w3⟩
    obtain ⟨hz, hcase⟩ := turn i n acc H3 w3
    have hpl : ∀ p ∈ [((s.heap.objs.size : Addr), ({ cls := .type "list", data := .seq its.toArray nn } : Obj))], ∀ b ∈ fp, p.1 ≠ b := fun p hp b hb z => by
      have e : p = _ := List.mem_singleton.mp hp
      rw [e] at z
      exact addr_ne (live b hb) (Nat.le_refl _) z.symm
    have I3' : Inv (cxComp X sc own cap cl H2.objs.size s H fp pins) [((s.heap.objs.size : Addr), ({ cls := .type "list", data := .seq its.toArray nn } : Obj))] (cpSt own cap σ) H3 s3 := I3.pins_of fun p hp => by
      have e : p = _ := List.mem_singleton.mp hp
      subst e
      exact ⟨hD3, hDn, hDC, hDst, fun v z => by cases z⟩
    rcases hcase with ⟨stop, fin⟩ | ⟨go, hlt, N, hN, step⟩
    · refine thn (T.done (cxComp X sc own cap cl H2.objs.size s H fp pins) rfl rfl rfl hc i _ s3 _ H3 _ I3' (fpX H3 _ fr3 hpl) st3 stop) fun r s4 ⟨hr, I4⟩ => ?_
      subst hr
      have hD4 := (I4.pin (_, _) (List.mem_append_right _ (List.mem_singleton.mpr rfl))).1
      obtain ⟨J1, J2, J3⟩ := cx_back I f hCle (Nat.le_refl _) hDC I4 hDn hD4 rv3 hz
      exact hRR _ _ _ _ J1 J2 J3 (fin _ hDn)
    · refine thn (T.item (cxComp X sc own cap cl H2.objs.size s H fp pins) rfl rfl rfl hc i _ s3 _ H3 _ I3' (fpX H3 _ fr3 hpl) st3 go) fun r s4 ⟨u, hr, h4⟩ => ?_
      subst hr
      refine thn h4 fun _ s5 ⟨x, H5, I5, r5, y5, st5, fr5⟩ => ?_
      have I5' := I5.pinned (fpX H5 _ fr5 hpl) (T.obj _ _ st5)
      refine thn (hg _ s5 _ H5 x u _ I5' r5 (hown _ _ _ _ (step x H5 y5))) fun _ s6 ⟨σ6, H6, I6, ⟨hx1, hx2⟩, q6⟩ => ?_
      refine thn (ht _ s6 σ6 H6 _ I6 q6) fun b s7 ⟨H7, I7, q7⟩ => ?_
      have wk : ∀ {H7 : Hp} {s7 : Shared} {pl : List (Addr × Obj)}, Inv (cxComp X sc own cap cl H2.objs.size s H fp pins) pl σ6 H7 s7 → Inv (cxComp X sc own cap cl H2.objs.size s H fp pins) pl (cpSt own cap σ) H7 s7 := fun I => I.weak hx1.symm fun j v e => by
        rw [hx2 j (cpSt_some e).1]
        exact e
      have stay : ∀ {H7 : Hp} {s7 : Shared} {σ7 : St}, Inv (cxComp X sc own cap cl H2.objs.size s H fp pins) ([((s.heap.objs.size : Addr), ({ cls := .type "list", data := .seq its.toArray nn } : Obj))] ++ pinsAt fp s5.heap) σ7 H7 s7 →
          tn (i + 1) s7.heap ∧ (∀ b ∈ fp, H7 b = none) ∧ s7.heap.get? s.heap.objs.size = some { cls := .type "list", data := .seq its.toArray nn } ∧ H7 s.heap.objs.size = none := fun {H7 s7 σ7} I7 => by
        refine ⟨T.keep _ _ _ st5 fun b hb o e => (I7.pin (b, o) (List.mem_append_right _ (List.mem_append_right _ (mem_pinsAt hb e)))).1, fun b hb => ?_, ?_, ?_⟩
        · obtain ⟨o, e, d⟩ := T.obj _ _ st5 b hb
          exact (I7.pin (b, o) (List.mem_append_right _ (List.mem_append_right _ (mem_pinsAt hb e)))).2.1
        · exact (I7.pin (_, _) (List.mem_append_right _ (List.mem_append_left _ (List.mem_singleton.mpr rfl)))).1
        · exact (I7.pin (_, _) (List.mem_append_right _ (List.mem_append_left _ (List.mem_singleton.mpr rfl)))).2.1
      cases b with
      | false =>
        rw [if_neg Bool.false_ne_true] at q7 ⊢
        obtain ⟨m', hm, w7⟩ := hN _ _ q7
        obtain ⟨a1, a2, a3, a4⟩ := stay I7
        exact ⟨m', hm, i + 1, acc, its, nn, H7, (wk I7).pins_of (fun p hp => absurd hp (by simp)), a1, a2, a3, rv3, a4, w7⟩
      | true =>
        rw [if_pos rfl] at q7 ⊢
        refine thn (he _ s7 σ6 H7 _ I7 q7) fun y s8 ⟨v, H8, I8, r8, n8⟩ => ?_
        obtain ⟨m', hm, w8⟩ := hN _ _ n8
        obtain ⟨a1, a2, a3, a4⟩ := stay I8
        have hlen := rv3.length
        refine call_meets F.slot_list_append ⟨_, a3, rfl⟩ F.entry_list_append (F.args_list_append_2 _ _) (PySem.list_append s.heap.objs.size its.toArray nn y (by rw [List.size_toArray]; omega)) ⟨a3, ?_⟩
        obtain ⟨n', q⟩ : ∃ n', (s8.heap.update s.heap.objs.size (Obj.mapSeq (·.push y))).get? s.heap.objs.size = some { cls := .type "list", data := .seq (its ++ [y]).toArray n' } := by
          have q := PySem.IsL.update a3 (·.push y)
          have e : (its.toArray.push y) = (its ++ [y]).toArray := by simp
          rw [← e]
          exact ⟨_, q⟩
        have I9 := (wk I8).pins_of (pins' := pinsAt fp s5.heap) fun p hp => (wk I8).pin p (List.mem_append_right _ (List.mem_append_right _ hp))
        have kk : ∀ b o, b ≠ s.heap.objs.size → s8.heap.get? b = some o → (s8.heap.update s.heap.objs.size (Obj.mapSeq (·.push y))).get? b = some o := fun b o hb e => (Heap.get?_update_other s8.heap (Obj.mapSeq (·.push y)) (Ne.symm hb)).trans e
        refine ⟨m', hm, i + 1, acc ++ [v], its ++ [y], n', H8, (I9.pins_of (pins' := []) fun p hp => absurd hp (by simp)).turned (it := s.heap.objs.size) kk a4 hDC (.inr (Nat.le_refl _)) (fun x c e z => ?_) (fun p hp z => ?_), T.keep _ _ _ a1 fun b hb o e => kk b o (fun z => ?_) e, a2, q, rv3.append (.cons r8 .nil), a4, w8⟩
        · have e := cl1 x c e
          obtain ⟨w', o, ho, _⟩ := I.cell x c e
          exact addr_ne (Heap.lt_size ho) (Nat.le_refl _) z
        · have hp : p ∈ (X.pn ++ pins) ++ [] := hp
          rw [List.append_nil] at hp
          exact addr_ne (Heap.lt_size (I.pin p hp).1) (Nat.le_refl _) z
        · exact addr_ne (live b hb) (Nat.le_refl _) z
  exact codeAny_compStart_list (loop _ rfl) (T.self _ 0 _ _ _ (T.keep _ _ _ st fun b _ o e => old b o e) (loop _ rfl))
theorem pe_comp {elt tg iter : Expr} {ifs : List Expr} {pos : Pos} {wi : TI} {g : TG} {tt : TT} {te : TE} (hc : X.calm = true) (S : CpScope X.N X.env.scope sc own cap) (hown : GOwn own.length g) (hi : PI X tg iter wi)
    (hb : ∀ cl C s H fp pins, PG (cxComp X sc own cap cl C s H fp pins) tg g ∧ PTs (cxComp X sc own cap cl C s H fp pins) ifs tt ∧ PE (cxComp X sc own cap cl C s H fp pins) elt te)
    (hs : ∀ x, foldedSetIterable iter X.env x = pure x := by intro _; rfl) : PE X (.ListComp elt [⟨tg, iter, ifs, 0⟩] sc pos) (tComp own cap wi g tt te) := by
  intro pins s σ H Q I h
  obtain ⟨cl, hcl, cl1, cl2⟩ := closureFor_some (env := X.env) (scope := sc) fun y hy hf => I.ok.has y.1 (S.free y hy hf)
  rw [eval_ListComp]
  refine wpAny_comprehension_free (use := none) rfl hs hcl S.kind S.names (thn (hi pins s σ H _ I h) fun xv s1 h1 => thn h1 fun itv s2 h2 => ?_)
  obtain ⟨it, fp, tn, J, H2, e, I2, T, st2, f2, W, w0, turn⟩ := h2
  subst e
  refine comp_block (RR := fun acc C => compPost (model X.prog X.w) X.A X.xe none (EP X pins σ Q) acc C) hc S hown cl1 cl2 hb I2 T st2 f2 W w0 turn ?_
  intro D C H' s' J1 ⟨m, J2⟩ ⟨c0, c1, c2, c3, c4, c5⟩ q
  exact ⟨m, J2, fun h' sb => ⟨.ref D, H', J1.turned (t' := s'.toks) (fun b o hb e => (sb.2 b hb).trans e) c0 c1 c3 c4 c5, rfl, q⟩⟩
theorem ps_setcomp {elt tg iter : Expr} {ifs : List Expr} {pos pos' spos : Pos} {wi : TI} {g : TG} {tt : TT} {te : TE} {i : Nat} {x : Str} (hc : X.calm = true) (S : CpScope X.N X.env.scope sc own cap) (hown : GOwn own.length g) (hN : X.N.Nodup) (hx : X.N[i]? = some x) (hl : X.env.scope.names.lookup x = some .local) (hi : PI X tg iter wi)
    (hb : ∀ cl C s H fp pins, PG (cxComp X sc own cap cl C s H fp pins) tg g ∧ PTs (cxComp X sc own cap cl C s H fp pins) ifs tt ∧ PE (cxComp X sc own cap cl C s H fp pins) elt te)
    (hsw : swapsWith (.ListComp elt [⟨tg, iter, ifs, 0⟩] sc pos) (some (.Name x pos')) spos.line X.env = pure true := by rfl)
    (hs : ∀ x, foldedSetIterable iter X.env x = pure x := by intro _; rfl) : PS X (.Assign [.Name x pos'] (.ListComp elt [⟨tg, iter, ifs, 0⟩] sc pos) spos) (tAsg (tComp own cap wi g tt te) (gName i)) := by
  intro pins s σ H D I h
  obtain ⟨cl, hcl, cl1, cl2⟩ := closureFor_some (env := X.env) (scope := sc) fun y hy hf => I.ok.has y.1 (S.free y hy hf)
  rw [exec_Assign_Name_used _ _ _ _ hsw]
  refine wpAny_bind (wpAny_standAt (wpAny_bind ?_))
  show wpAny _ _ (do let _ ← comprehension (.ListComp elt [⟨tg, iter, ifs, 0⟩] sc pos) sc X.env _ (newList []) false (eval iter X.env) (some (assign (.Name x pos') X.env))) _ _ s
  refine wpAny_bind (wpAny_mono (wpAny_comprehension_free (use := some (assign (.Name x pos') X.env)) (Q := fun _ s' => SP X pins D .next s') rfl hs hcl S.kind S.names (thn (hi pins s σ H _ I h) fun xv s1 h1 => thn h1 fun itv s2 h2 => ?_)) (fun _ s' hq => wpAny_pure (wpAny_pure hq)) fun _ _ e => e)
  obtain ⟨it, fp, tn, J, H2, e, I2, T, st2, f2, W, w0, turn⟩ := h2
  subst e
  refine comp_block (Q := fun x H1 => gName i x σ H1 D.nx) (RR := fun acc C => compPost (model X.prog X.w) X.A X.xe (some (assign (.Name x pos') X.env)) (fun _ s' => SP X pins D .next s') acc C) hc S hown cl1 cl2 hb I2 T st2 f2 W w0 turn ?_
  intro L C H' s' J1 ⟨m, J2⟩ ⟨c0, c1, c2, c3, c4, c5⟩ q
  show wpAny _ _ (assign (.Name x pos') X.env (.ref L)) _ _ s'
  refine wpAny_assign_Name (store_ok2 (v := .ref L) J1 hN hx (.inl hl) rfl (fun s'' J3 ⟨a, sb, ha⟩ => ?_) (.inr hl))
  have hCa : C ≠ a := by
    rcases ha with z | z
    · rw [z]; exact c1
    · exact Ne.symm (c4 _ _ z)
  refine ⟨m, J2.sameBut sb hCa, fun h' sb' => ⟨_, H', J3.turned (t' := s''.toks) (fun b o hb e => (sb'.2 b hb).trans e) c0 c1 c3 c4 c5, q⟩⟩
end
end L2
set_option Elab.async false
set_option linter.all false
set_option maxRecDepth 100000
namespace L2
open PySem PySem.Spec PyProof.Rows
def tyOf (H : Hp) : V → Option String
  | .non => some "NoneType"
  | .bl _ => some "bool"
  | .int _ => some "int"
  | .str _ => some "str"
  | .ref a => match H a with
    | some (.lst _) => some "list"
    | some (.tup _) => some "tuple"
    | some (.dK _) => some "dict"
    | _ => none
  | _ => none
def isiB (t T : String) : Bool := t == T || (t == "bool" && T == "int")
section
variable {X : Cx}
theorem Inv.walked {pins : List (Addr × Obj)} {σ : St} {H : Hp} {s : Shared} {o : Obj} {h' : Heap} {tk : Nat} (I : Inv X pins σ H s) (k : ∀ b ob, b ∉ [s.heap.objs.size] → (s.heap.push o).get? b = some ob → h'.get? b = some ob) : Inv X pins σ H { s with heap := h', toks := tk } :=
  I.kept fun b u e => k b u (by
    intro z
    exact addr_ne (Heap.lt_size e) (Nat.le_refl _) (List.mem_singleton.mp z)) (Heap.get?_push_of_some _ e)
theorem vals_bl : ∀ {bs : List Bool} {us : List Value}, Vals (bs.map V.bl) us → us = bs.map Value.bool
  | [], _, .nil => rfl
  | b :: r, _, .cons h t => by
    have h : _ = Value.bool b := h
    rw [h, vals_bl t]
    rfl
theorem range_all' (bs : List Bool) : ((List.range bs.length).all fun i => (bs[i]?).getD true) = bs.all id := by
  induction bs with
  | nil => rfl
  | cons b r ih =>
    rw [List.length_cons, List.range_succ_eq_map, List.all_cons, List.all_cons, List.all_map]
    show ((b :: r)[0]?.getD true && _) = _
    congr 1
theorem lst_iter {pins : List (Addr × Obj)} {σ : St} {H : Hp} {s : Shared} {a : Addr} {xs : List V} (I : Inv X pins σ H s) (h : H a = some (.lst xs)) : ∃ its : List Value, Vals xs its ∧ s.heap.IsList a its.toArray ∧ a < s.heap.objs.size := by
  obtain ⟨hz, its, n, r, e⟩ := I.hok a _ h
  exact ⟨its, r, ⟨_, e, rfl, n, rfl⟩, Heap.lt_size e⟩
theorem call_all (hc : X.calm = true) : CallR X (.builtin "all") (fun xs H Q => ∃ (a : Addr) (bs : List Bool), xs = [.ref a] ∧ H a = some (.lst (bs.map V.bl)) ∧ Q (.bl (bs.all id)) H) := by
  intro pins s σ H xs us Q I r h
  obtain ⟨a, bs, rfl, ha, q⟩ := h
  obtain ⟨u, rfl, ru⟩ := vals1 r
  cases ru
  obtain ⟨its, rv, hl, hlt⟩ := lst_iter I ha
  have e := vals_bl rv
  subst e
  refine call_all_walk (wpAny_pyIter_list hl ?_)
  refine ⟨s.heap.objs.size, [s.heap.objs.size, a], [s.heap.objs.size], (bs.map Value.bool).toArray.size, _, _, fun i => (bs[i]?).getD true, rfl, Walks.list (A := X.A.in1) (I.ok.hd hc) _ a (Nat.ne_of_lt hlt) (bs.map Value.bool).toArray,
    ⟨⟨_, Heap.get?_push_size _ rfl, rfl, rfl⟩, hl.push _⟩, fun i v s' Q' E' hP hQ => ?_, fun h' tk hk => ?_⟩
  · have hP : (bs.map Value.bool)[i]? = some v := by simpa using hP
    rw [List.getElem?_map] at hP
    cases e : bs[i]? with
    | none => rw [e] at hP; cases hP
    | some b =>
      rw [e] at hP
      cases hP
      simp only [e, Option.getD_some] at hQ
      exact wpAny_truthy_bool hQ
  · have e : ((List.range (bs.map Value.bool).toArray.size).all fun i => (bs[i]?).getD true) = bs.all id := by
      rw [List.size_toArray, List.length_map]; exact range_all' bs
    rw [e]
    exact ⟨.bl (bs.all id), H, I.walked hk, rfl, q⟩
theorem op_isB : OpR X (compareOp .Is) (fun x y H Q => ∃ i j, x = .bl i ∧ y = .bl j ∧ Q (.bl (i == j)) H) := by
  intro pins s σ H x y v u Q I rx ry h
  obtain ⟨i, j, rfl, rfl, q⟩ := h
  cases rx
  cases ry
  exact is_bool ⟨.bl (i == j), H, I, rfl, q⟩
theorem op_isnotB : OpR X (compareOp .IsNot) (fun x y H Q => ∃ i j, x = .bl i ∧ y = .bl j ∧ Q (.bl (i != j)) H) := by
  intro pins s σ H x y v u Q I rx ry h
  obtain ⟨i, j, rfl, rfl, q⟩ := h
  cases rx
  cases ry
  exact isnot_bool ⟨.bl (i != j), H, I, rfl, q⟩
def rCount : V → List V → Hp → VK → Prop := fun x vs H Q => ∃ l xs y, x = .ref l ∧ vs = [y] ∧ H l = some (.lst xs) ∧ flatV y = true ∧ xs.all flatV = true ∧ Q (.int (xs.countP fun z => eqV z y)) H
def Its (x : Str) : It := ⟨fun i _ => i < x.cps.size, fun i H v H' => H' = H ∧ ∃ c, x.cps[i]? = some c ∧ v = .str ⟨#[c]⟩, fun i _ => x.cps.size ≤ i⟩
theorem turn_seqL {P : Program} {w : World} {K : PySem.W.Frag} {tg : Expr} (a it : Addr) (xs : List V) : Turn P w K tg ⟨fun i H => H a = some (.lst xs) ∧ i < xs.length, fun i H x H' => H' = H ∧ xs[i]? = some x, fun i H => H a = some (.lst xs) ∧ xs.length ≤ i⟩ [it] it (fun i h => h.IsListIter it a i) where
  mem := (turn_list (P := P) (w := w) (K := K) (tg := tg) a it).mem
  obj := (turn_list (P := P) (w := w) (K := K) (tg := tg) a it).obj
  keep := (turn_list (P := P) (w := w) (K := K) (tg := tg) a it).keep
  item := by
    intro X hP hw hK hc i pins s σ H E I hf st hg
    obtain ⟨h1, h2⟩ := hg
    refine thn ((turn_list (P := P) (w := w) (K := K) (tg := tg) a it).item X hP hw hK hc i pins s σ H E I hf st ⟨xs, xs[i], SqL.of h1, by simp [h2]⟩) fun r s1 ⟨u, hr, h3⟩ => ⟨u, hr, thn h3 fun _ s2 ⟨x, H', I2, rx, ⟨y1, y2⟩, st2, f2⟩ => ⟨x, H', I2, rx, ⟨y1, y2 xs (SqL.of h1)⟩, st2, f2⟩⟩
  done := by
    intro X hP hw hK hc i pins s σ H E I hf st hg
    obtain ⟨h1, h2⟩ := hg
    exact (turn_list (P := P) (w := w) (K := K) (tg := tg) a it).done X hP hw hK hc i pins s σ H E I hf st ⟨xs, SqL.of h1, h2⟩
  self := (turn_list (P := P) (w := w) (K := K) (tg := tg) a it).self
def ItL (a : Addr) (xs : List V) : It := ⟨fun i H => H a = some (.lst xs) ∧ i < xs.length, fun i H x H' => H' = H ∧ xs[i]? = some x, fun i H => H a = some (.lst xs) ∧ xs.length ≤ i⟩
def ItT (a : Addr) (xs : List V) : It := ⟨fun i H => H a = some (.tup xs) ∧ i < xs.length, fun i H x H' => H' = H ∧ xs[i]? = some x, fun i H => H a = some (.tup xs) ∧ xs.length ≤ i⟩
def iAny (te : TE) : TI := fun σ H R => te σ H fun x H1 => (∃ a xs, x = .ref a ∧ H1 a = some (.lst xs) ∧ R (ItL a xs) H1) ∨ (∃ a xs, x = .ref a ∧ H1 a = some (.tup xs) ∧ R (ItT a xs) H1) ∨ (∃ z, x = .str z ∧ R (Its z) H1)
end
structure Goes (J : It) (n : Nat) (yl : Nat → V → Prop) (ok : Hp → Prop) : Prop where
  go : ∀ i H, i < n → ok H → J.go i H
  yld : ∀ i H x H', i < n → ok H → J.yld i H x H' → H' = H ∧ yl i x
  stop : ∀ H, ok H → J.stop n H
theorem goesL (a : Addr) (xs : List V) : Goes (ItL a xs) xs.length (fun i x => xs[i]? = some x) (fun H => H a = some (.lst xs)) := ⟨fun _ _ h o => ⟨o, h⟩, fun _ _ _ _ _ _ y => y, fun _ o => ⟨o, Nat.le_refl _⟩⟩
theorem goesR (lo : Int) (n : Nat) : Goes (Itr lo n) n (fun i x => x = .int (lo + i)) (fun _ => True) := ⟨fun _ _ h _ => h, fun _ _ _ _ _ _ y => y, fun _ _ => Nat.le_refl _⟩
theorem for_goes {J : It} {n : Nat} {yl : Nat → V → Prop} {ok : Hp → Prop} {g : TG} {tb : TS} {D : Ends} {σ : St} {H : Hp} (G : Goes J n yl ok) (Pv : Nat → St → Hp → Prop) (h0 : Pv 0 σ H) (hok : ∀ i σ H, i ≤ n → Pv i σ H → ok H)
    (hs : ∀ i x σ H, i < n → yl i x → Pv i σ H → g x σ H fun σ2 H2 => tb { D with nx := Pv (i + 1), ct := Pv (i + 1), bk := D.nx } σ2 H2) (hd : ∀ σ H, Pv n σ H → D.nx σ H) :
    ∃ W : Nat → Nat → St → Hp → Prop, (∃ m, W 0 m σ H) ∧ ∀ i m σ H, W i m σ H →
      (J.stop i H ∧ D.nx σ H) ∨ (J.go i H ∧ ∃ N : St → Hp → Prop, (∀ σ' H', N σ' H' → ∃ m', m' < m ∧ W (i + 1) m' σ' H') ∧ ∀ x H', J.yld i H x H' → g x σ H' fun σ2 H2 => tb { D with nx := N, ct := N, bk := D.nx } σ2 H2) := by
  refine ⟨fun i m σ H => m = n - i ∧ i ≤ n ∧ Pv i σ H, ⟨n, by simp, Nat.zero_le _, h0⟩, ?_⟩
  rintro i m σ H ⟨rfl, hi, p⟩
  have q := hok i σ H hi p
  by_cases hlt : i < n
  · refine .inr ⟨G.go i H hlt q, Pv (i + 1), fun σ' H' p' => ⟨n - (i + 1), by omega, rfl, hlt, p'⟩, fun x H' y => ?_⟩
    obtain ⟨e, y'⟩ := G.yld i H x H' hlt q y
    subst e
    exact hs i x σ _ hlt y' p
  · have e : i = n := by omega
    subst e
    exact .inl ⟨G.stop H q, hd σ H p⟩
theorem comp_goes {J : It} {n : Nat} {yl : Nat → V → Prop} {ok : Hp → Prop} {g : TG} {tt : TT} {te : TE} {σ0 : St} {H : Hp} {Q : VK} (G : Goes J n yl ok) (hn : n ≤ sizeLine) (Pv : Nat → List V → Hp → Prop) (h0 : Pv 0 [] H) (hok : ∀ i acc H, i ≤ n → Pv i acc H → ok H)
    (hlen : ∀ i acc H, Pv i acc H → acc.length ≤ i)
    (hs : ∀ i x acc H, i < n → yl i x → Pv i acc H → g x σ0 H fun σ2 H2 => tt σ2 H2 fun b H3 => if b = true then te σ2 H3 fun y H4 => Pv (i + 1) (acc ++ [y]) H4 else Pv (i + 1) acc H3)
    (hd : ∀ acc H, Pv n acc H → ∀ p, H p = none → Q (.ref p) (upd H p (.lst acc))) :
    ∃ W : Nat → Nat → List V → Hp → Prop, (∃ m, W 0 m [] H) ∧ ∀ i m acc H, W i m acc H → acc.length ≤ sizeLine ∧
      ((J.stop i H ∧ ∀ p, H p = none → Q (.ref p) (upd H p (.lst acc))) ∨
       (J.go i H ∧ acc.length < sizeLine ∧ ∃ N : List V → Hp → Prop, (∀ acc' H', N acc' H' → ∃ m', m' < m ∧ W (i + 1) m' acc' H') ∧ ∀ x H', J.yld i H x H' → g x σ0 H' fun σ2 H2 => tt σ2 H2 fun b H3 => if b = true then te σ2 H3 fun y H4 => N (acc ++ [y]) H4 else N acc H3)) := by
  refine ⟨fun i m acc H => m = n - i ∧ i ≤ n ∧ Pv i acc H, ⟨n, by simp, Nat.zero_le _, h0⟩, ?_⟩
  rintro i m acc H ⟨rfl, hi, p⟩
  have q := hok i acc H hi p
  have hl := hlen i acc H p
  refine ⟨by omega, ?_⟩
  by_cases hlt : i < n
  · refine .inr ⟨G.go i H hlt q, by omega, Pv (i + 1), fun acc' H' p' => ⟨n - (i + 1), by omega, rfl, hlt, p'⟩, fun x H' y => ?_⟩
    obtain ⟨e, y'⟩ := G.yld i H x H' hlt q y
    subst e
    exact hs i x acc _ hlt y' p
  · have e : i = n := by omega
    subst e
    exact .inl ⟨G.stop H q, hd acc H p⟩
end L2
set_option Elab.async false
set_option linter.all false
set_option maxRecDepth 100000
namespace L2
open PySem PySem.Spec PyProof.Rows
section
variable {X : Cx} {a b c e o : Expr} {ta tb tc te to : TE} {pos p apos cpos : Pos} {es : List Expr} {t : TA}
theorem op_fdivL : OpR X (binaryOp .FloorDiv) (rI (fun _ j => 0 < j ∧ j < 10 ^ 200) fun i j => .int (i / j)) := opI fun i j _ _ _ _ _ hc q => by
  have h : j.natAbs.log2 < 9000 := by
    have h1 : j.natAbs ≠ 0 := by omega
    rw [Nat.log2_lt h1]
    have h2 : j.natAbs < 10 ^ 200 := by have := hc.2; omega
    exact Nat.lt_of_lt_of_le h2 (by decide +kernel)
  refine floordiv_int (by omega) ?_ (.inl (PyProof.noPylong_of_log2 h))
  rw [Int.fdiv_eq_ediv_of_nonneg i (by omega)]
  exact q
def rCatTT : R2 := fun x y H Q => ∃ a b xs ys, x = .ref a ∧ y = .ref b ∧ H a = some (.tup xs) ∧ H b = some (.tup ys) ∧ xs.length + ys.length ≤ sizeLine ∧
  ∀ p H', H' p = some (.tup (xs ++ ys)) → Same H H' → (∀ q, q ≠ p → H' q = H q) → Q (.ref p) H'
def rAddA : R2 := fun x y H Q => (∃ i j, x = .int i ∧ y = .int j ∧ Q (.int (i + j)) H) ∨ (∃ i j, x = .str i ∧ y = .str j ∧ i.length + j.length ≤ sizeLine ∧ Q (.str (i ++ j)) H) ∨ rCat x y H Q ∨ rCatTT x y H Q
def rIAddA : R2 := fun x y H Q => (∃ i j, x = .int i ∧ y = .int j ∧ Q (.int (i + j)) H) ∨ (∃ i j, x = .str i ∧ y = .str j ∧ i.length + j.length ≤ sizeLine ∧ Q (.str (i ++ j)) H)
def Item (H : Hp) (x y v : V) : Prop :=
  (∃ p xs i, x = .ref p ∧ y = .int i ∧ (H p = some (.lst xs) ∨ H p = some (.tup xs)) ∧ atI xs i = some v) ∨
  (∃ z i c, x = .str z ∧ y = .int i ∧ z.length ≤ sizeLine ∧ atI z.cps.toList i = some c ∧ v = .str ⟨#[c]⟩) ∨
  (∃ p kvs k, x = .ref p ∧ y = kV k ∧ Rd H p (.dK kvs) ∧ valV kvs k = some v)
def rItem : R2 := fun x y H Q => ∃ v, Item H x y v ∧ Q v H
theorem ix_dict (hu : X.A.units + 1 < cLine) : IxR X (fun x y H Q => ∃ a v, x = .ref a ∧ DGet H a y (some v) ∧ Q v H) := by
  intro value slice pins s σ H x y v u Q I rx ry h hs
  obtain ⟨a, z, rfl, g, q⟩ := h
  cases rx
  exact tail_any (dict_typeIs I g) PySem.F.slot_dict_getitem.lookup (d_getItem hu I g ry fun w' s3 I3 rw' => ⟨z, H, I3, rw', q⟩) hs
theorem ix_item (hu : X.A.units + 1 < cLine) : IxR X rItem := by
  intro value slice pins s σ H x y v u Q I rx ry h hs
  obtain ⟨z, h, q⟩ := h
  rcases h with ⟨p, xs, i, rfl, rfl, h | h, he⟩ | ⟨z', i, c, rfl, rfl, hz, he, rfl⟩ | ⟨p, kvs, k, rfl, rfl, h, he⟩
  · exact ix_list value slice pins s σ H _ _ v u Q I rx ry ⟨p, xs, i, z, rfl, rfl, SqL.of h, he, q⟩ hs
  · exact ix_tup value slice pins s σ H _ _ v u Q I rx ry ⟨p, xs, i, z, rfl, rfl, SqT.of h, he, q⟩ hs
  · exact ix_str value slice pins s σ H _ _ v u Q I rx ry ⟨z', i, c, rfl, rfl, hz, he, q⟩ hs
  · refine ix_dict hu value slice pins s σ H _ _ v u Q I rx ry ⟨p, z, rfl, ?_, q⟩ hs
    have g : DGet H p (kV k) (valV kvs k) := .inl ⟨kvs, k, h, rfl, rfl⟩
    rw [he] at g
    exact g
theorem pe_item (hu : X.A.units + 1 < cLine) (ha : PE X a ta) (hb : PE X b tb) (hs : PlainIx b) : PE X (.Subscript a b pos) (tOp rItem ta tb) := pe_ix (ix_item hu) ha hb hs
theorem item_t {H : Hp} {p : Addr} {xs : List V} {j : Nat} {v : V} (h : H p = some (.tup xs)) (e : xs[j]? = some v) : Item H (.ref p) (.int j) v := .inl ⟨p, xs, j, rfl, rfl, .inr h, atI_nat e⟩
theorem item_l {H : Hp} {p : Addr} {xs : List V} {j : Nat} {v : V} (h : H p = some (.lst xs)) (e : xs[j]? = some v) : Item H (.ref p) (.int j) v := .inl ⟨p, xs, j, rfl, rfl, .inl h, atI_nat e⟩
theorem item_i {H : Hp} {p : Addr} {xs : List V} {i : Int} {v : V} (h : H p = some (.lst xs) ∨ H p = some (.tup xs)) (h0 : 0 ≤ i) (e : xs[i.toNat]? = some v) : Item H (.ref p) (.int i) v := by
  refine .inl ⟨p, xs, i, rfl, rfl, h, ?_⟩
  have q := atI_nat e
  rw [Int.toNat_of_nonneg h0] at q
  exact q
def lenA : List V → Hp → VK → Prop := fun xs H Q => (∃ p ys, xs = [.ref p] ∧ (H p = some (.lst ys) ∨ H p = some (.tup ys)) ∧ Q (.int ys.length) H) ∨ (∃ z, xs = [.str z] ∧ z.length ≤ sizeLine ∧ Q (.int z.length) H) ∨ (∃ p kvs, xs = [.ref p] ∧ H p = some (.dK kvs) ∧ Q (.int kvs.length) H)
theorem call_lenA : CallR X (.builtin "len") lenA := by
  intro pins s σ H xs us Q I r h
  rcases h with ⟨p, ys, rfl, h, q⟩ | ⟨z, rfl, hz, q⟩ | ⟨p, kvs, rfl, h, q⟩
  · exact call_len_seq pins s σ H _ us Q I r ⟨p, ys, rfl, h.imp SqL.of SqT.of, q⟩
  · exact call_len_str pins s σ H _ us Q I r ⟨z, rfl, hz, q⟩
  · exact call_lenD pins s σ H _ us Q I r ⟨p, kvs, rfl, h, q⟩
def InA (H : Hp) (x y : V) (b : Bool) : Prop :=
  (∃ p xs, y = .ref p ∧ (H p = some (.lst xs) ∨ H p = some (.tup xs)) ∧ flatV x = true ∧ xs.all flatV = true ∧ b = inV x xs) ∨
  (∃ i j, x = .str i ∧ y = .str j ∧ b = !(Builtin.Str.occurrences j i 0 j.length 1).isEmpty) ∨
  (∃ p kvs k, y = .ref p ∧ x = kV k ∧ Rd H p (.dK kvs) ∧ b = (valV kvs k).isSome)
theorem op_inA (hu : X.A.units + 1 < cLine) : OpR X (compareOp .In) (fun x y H Q => ∃ b, InA H x y b ∧ Q (.bl b) H) := by
  intro pins s σ H x y v u Q I rx ry h
  obtain ⟨b, h, q⟩ := h
  rcases h with ⟨p, xs, rfl, hp, fx, fxs, rfl⟩ | ⟨i, j, rfl, rfl, rfl⟩ | ⟨p, kvs, k, rfl, rfl, hp, rfl⟩
  · exact op_in_seq pins s σ H _ _ v u Q I rx ry ⟨p, xs, rfl, hp.imp SqL.of SqT.of, fx, fxs, q⟩
  · exact op_in_str pins s σ H _ _ v u Q I rx ry ⟨i, j, rfl, rfl, q⟩
  · cases ry
    exact d_in hu I (.inl ⟨kvs, k, hp, rfl, rfl⟩) rx fun s' I' => ⟨.bl _, H, I', rfl, q⟩
def rSetA : V → V → V → Hp → (Hp → Prop) → Prop := fun o i v H Q => rSetL o i v H Q ∨ (∃ p kvs k, o = .ref p ∧ i = kV k ∧ H p = some (.dK kvs) ∧ kvs.length < sizeLine ∧ Q (upd H p (.dK (putK kvs k v))))
theorem set_any (hu : X.A.units + 1 < cLine) : PSet X rSetA := by
  intro pins s σ H o i v ov iv u Q I ro ri rv h
  rcases h with h | ⟨p, kvs, k, rfl, rfl, hp, hl, q⟩
  · exact set_list pins s σ H o i v ov iv u Q I ro ri rv h
  · cases ro
    exact d_setItem hu I (DPut.k hp hl) ri rv fun s' I' => ⟨_, I', q⟩
theorem tyV_of {K : PySem.W.Frag} {H : Hp} {x : V} {T : String} (h : tyOf H x = some T) (hT : T = "list" ∨ T = "dict" ∨ T = "str") : tyV K T x H := by
  cases x with
  | str z => cases h; rfl
  | ref a =>
    unfold tyOf at h
    simp only at h
    cases e : H a with
    | none => rw [e] at h; cases h
    | some o =>
      rw [e] at h
      cases o with
      | lst xs => cases h; exact .inl ⟨rfl, xs, SqL.of e⟩
      | tup xs => cases h; exact absurd hT (by decide)
      | dK kvs => cases h; exact .inr (.inr (.inl ⟨rfl, .inl ⟨kvs, e⟩⟩))
      | _ => cases h
  | int i => cases h; exact absurd hT (by decide)
  | bl i => cases h; exact absurd hT (by decide)
  | non => cases h; exact absurd hT (by decide)
  | _ => cases h
def tBA0 (T : String) (r : V → List V → Hp → VK → Prop) (to : TE) : TE := fun σ H Q => to σ H fun x H1 => tyOf H1 x = some T ∧ r x [] H1 Q
def tBA (T : String) (r : V → List V → Hp → VK → Prop) (to : TE) (t : TA) : TE := fun σ H Q => to σ H fun x H1 => tyOf H1 x = some T ∧ t σ H1 fun xs H2 => r x xs H2 Q
theorem PE.weak {e : Expr} {t t' : TE} (h : PE X e t) (w : ∀ σ H Q, t' σ H Q → t σ H Q) : PE X e t' := fun pins s σ H Q I q => h pins s σ H Q I (w σ H Q q)
variable {name : Str} {T id : String} {r : V → List V → Hp → VK → Prop}
theorem pe_ba (pa : PlainAttrs T) (slot : Slot T name id) (hty : typeOf (.builtin id) = pure (.type "method_descriptor")) (hm : MtR X id r) (ho : PE X o to) (ha : PA X (e :: es) t) (hT : T = "list" ∨ T = "dict" ∨ T = "str" := by decide)
    (hbase : attributeBase o name X.env (eval o X.env) = eval o X.env := by rfl)
    (hfew : ((backTo cpos (starEach (e :: es) X.env)).all (fun x => !x.1) && (backToKw cpos (keywordEach [] X.env)).all (fun x => x.1.isSome)
      && decide ((e :: es).length + ([] : List Keyword).length + (if ([] : List Keyword).isEmpty then 0 else 1) < 30)) = true := by rfl)
    (hline : (apos.endLine == cpos.line) = true := by rfl) (hs : starEach (e :: es) X.env = (false, eval e X.env) :: starEach es X.env := by rfl) (hplain : (backTo cpos (starEach es X.env)).any (·.1) = false := by rfl) :
    PE X (.Call (.Attribute o name apos) (e :: es) [] cpos) (tBA T r to t) := by
  intro pins s σ H Q I h
  refine wpAny_Call_method_late hbase hfew hline rfl (thn (ho pins s σ H _ I h) fun v s1 ⟨x, H1, I1, r1, ty, q1⟩ => ?_)
  obtain ⟨h1, h2⟩ := tyV_is I1 r1 (tyV_of ty hT)
  refine ⟨T, id, pa, slot, hty, h1, h2, ?_⟩
  have hA := ha cpos pins s1 σ H1 _ I1 q1
  rw [hs] at hA ⊢
  refine Calls.callWith_builtin (by show (false || (backTo cpos (starEach es X.env)).any (·.1)) = false; rw [hplain] <;> rfl) (Calls.evalArgs_plain ?_)
  exact thn hA fun us s2 ⟨vs, H2, I2, r2, q2⟩ => hm pins s2 σ H2 x vs v us Q I2 r1 r2 q2
end
def Has (P : Program) (w : World) (K : PySem.W.Frag) (mg : Str → Option Value) (base : Heap) (x : Str) (k : Nat) (ps : List Str) (sp : Sp) : Prop :=
  ∃ f fd, mg x = some (.ref f) ∧ PySem.W.keepIn K (.ref f) = true ∧ Binds K fd ps [] ∧ FnOk P w K mg base CX0 k f fd ps sp
theorem pe_callH {X : Cx} {x : Str} {k : Nat} {ps : List Str} {sp : Sp} {e : Expr} {es : List Expr} {t : TA} {p pos : Pos} (h : Has X.prog X.w X.K X.mg X.base x k ps sp) (hr : Room k X.A) (hg : Gl X x) (ha : PA X (e :: es) t)
    (hdb : (x == ("__debug__" : Str)) = false := by decide) (he : starEach (e :: es) X.env = (false, eval e X.env) :: starEach es X.env := by rfl) (hpl : (backTo pos (starEach es X.env)).any (·.1) = false := by rfl) :
    PE X (.Call (.Name x p) (e :: es) [] pos) (tCall sp [] E0 t) := by
  obtain ⟨f, fd, hm, hk, hb, F⟩ := h
  exact pe_call F hr hg hm hk hb .nil pass0 ha hdb he hpl
end L2
set_option Elab.async false
set_option linter.all false
set_option maxRecDepth 100000
namespace HT
open PySem PyProof.Rows
section
variable {prog : Program} {w : World} {A : Around} {E : Value → Shared → Prop} {s : Shared}
end
end HT
namespace L2
open PySem PySem.Spec PyProof.Rows
section
variable {X : Cx} {a b c e o : Expr} {ta tb tc te to : TE} {pos p apos cpos : Pos} {es : List Expr} {t : TA}
theorem sl_lstA : SlR X (fun x lo hi H Q => ∃ a xs, x = .ref a ∧ H a = some (.lst xs) ∧ ∀ p, H p = none → Q (.ref p) (upd H p (.lst (cutV xs lo hi)))) := by
  intro pins s σ H x v vl vu lo hi sl Q I rx hs pl pu h
  obtain ⟨a, xs, rfl, hx, q⟩ := h
  exact sl_list pins s σ H _ v vl vu lo hi sl Q I rx hs pl pu ⟨a, xs, rfl, SqL.of hx, q⟩
theorem pe_globI {x : Str} {i : Int} {pos : Pos} (hg : Gl X x) (hm : ∃ t, X.mg x = some (.int i t)) (hd : (x == ("__debug__" : Str)) = false := by decide) : PE X (.Name x pos) (tC (.int i)) := by
  obtain ⟨t, hm⟩ := hm
  exact pe_glob hg hm ⟨t, rfl⟩ hd
theorem op_eqA (hu : X.A.units + 1 < cLine) : OpR X (compareOp .Eq) rEq := op_eq
theorem op_ltA (hu : X.A.units + 1 < cLine) : OpR X (compareOp .Lt) (rI0 fun i j => .bl (decide (i < j))) := op_lt
def rIsA : R2 := fun x y H Q => (∃ i j, x = .bl i ∧ y = .bl j ∧ Q (.bl (i == j)) H) ∨ (y = .non ∧ Q (.bl (decide (x = .non))) H)
theorem op_isA : OpR X (compareOp .Is) rIsA := op_isB.or op_isN
def rIsnotA : R2 := fun x y H Q => (∃ i j, x = .bl i ∧ y = .bl j ∧ Q (.bl (i != j)) H) ∨ (y = .non ∧ Q (.bl (!decide (x = .non))) H)
theorem op_isnotA : OpR X (compareOp .IsNot) rIsnotA := op_isnotB.or op_notN
def tupleA : List V → Hp → VK → Prop := fun xs H Q => ∃ p ys, xs = [.ref p] ∧ ((H p = some (.lst ys) ∧ ∀ l, H l = none → Q (.ref l) (upd H l (.tup ys))) ∨ (H p = some (.tup ys) ∧ Q (.ref p) H))
def listA : List V → Hp → VK → Prop := fun xs H Q => ∃ p ys, xs = [.ref p] ∧ (H p = some (.lst ys) ∨ H p = some (.tup ys)) ∧ ∀ l, H l = none → Q (.ref l) (upd H l (.lst ys))
def cpB (N : List Str) (osc sc : Scope) (own : List Str) (cap : List Nat) : Bool :=
  decide (sc.kind = .function) && sc.names.all (fun x => x.2 != .local || decide (sc.names.lookup x.1 = some .local)) && sc.names.all (fun y => y.2 != .cell) &&
  sc.names.all (fun y => y.2 != .free || decide (osc.names.lookup y.1 = some .cell) || decide (osc.names.lookup y.1 = some .free)) && cap.all fun j => decide (j < N.length) && decide (sc.names.lookup (N.getD j "") = some .free)
theorem cp_ok {N : List Str} {osc sc : Scope} {own : List Str} {cap : List Nat} (h : cpB N osc sc own cap = true) : CpScope N osc sc own cap := by
  unfold cpB at h
  rw [Bool.and_eq_true, Bool.and_eq_true, Bool.and_eq_true, Bool.and_eq_true] at h
  obtain ⟨⟨⟨⟨h1, h2⟩, h3⟩, h4⟩, h5⟩ := h
  refine ⟨of_decide_eq_true h1, fun x hx hl => ?_, fun y hy hc => ?_, fun y hy hf => ?_, fun j hj => ?_⟩
  · have q := List.all_eq_true.mp h2 x hx
    rw [hl] at q
    exact of_decide_eq_true (by simpa using q)
  · have q := List.all_eq_true.mp h3 y hy
    rw [hc] at q
    exact absurd q (by decide)
  · have q := List.all_eq_true.mp h4 y hy
    rw [hf] at q
    rw [Bool.or_eq_true, Bool.or_eq_true] at q
    rcases q with (q | q) | q
    · exact absurd q (by decide)
    · exact .inl (of_decide_eq_true q)
    · exact .inr (of_decide_eq_true q)
  · have q := List.all_eq_true.mp h5 j hj
    rw [Bool.and_eq_true] at q
    exact ⟨of_decide_eq_true q.1, of_decide_eq_true q.2⟩
end
end L2
set_option Elab.async false
set_option linter.all false
set_option maxRecDepth 100000
namespace L2
open PySem PySem.Spec PyProof.Rows
section
variable {X : Cx}
def rRepT : R2 := fun x y H Q => ∃ l k xs, x = .ref l ∧ y = .int k ∧ H l = some (.tup xs) ∧ xs ≠ [] ∧ 2 ≤ k ∧ k ≤ 1000 ∧ xs.length * k.toNat ≤ 10000 ∧
  ∀ p, H p = none → Q (.ref p) (upd H p (.tup (List.replicate k.toNat xs).flatten))
def rMulA : R2 := fun x y H Q => (∃ i j, x = .int i ∧ y = .int j ∧ CMul i j ∧ Q (.int (i * j)) H) ∨ rRepT x y H Q
theorem CallR.weak {f : Value} {r r' : List V → Hp → VK → Prop} (h : CallR X f r) (w : ∀ xs H Q, r' xs H Q → r xs H Q) : CallR X f r' := fun pins s σ H xs us Q I rv q => h pins s σ H xs us Q I rv (w _ _ _ q)
theorem PI.weak {tg it : Expr} {w1 w2 : TI} (h : PI X tg it w1) (w : ∀ σ H R, w2 σ H R → w1 σ H R) : PI X tg it w2 := fun pins s σ H R I q => h pins s σ H R I (w _ _ _ q)
def lenQ : List V → Hp → VK → Prop := fun xs H Q => ∃ p ys, xs = [.ref p] ∧ (H p = some (.lst ys) ∨ H p = some (.tup ys)) ∧ Q (.int ys.length) H
theorem call_len_q : CallR X (.builtin "len") lenQ := call_lenA.weak fun _ _ _ h => .inl h
def lenS : List V → Hp → VK → Prop := fun xs H Q => ∃ z, xs = [.str z] ∧ z.length ≤ sizeLine ∧ Q (.int z.length) H
def lenD : List V → Hp → VK → Prop := fun xs H Q => ∃ p kvs, xs = [.ref p] ∧ H p = some (.dK kvs) ∧ Q (.int kvs.length) H
def rSetD : V → V → V → Hp → (Hp → Prop) → Prop := fun o i v H Q => ∃ p kvs k, o = .ref p ∧ i = kV k ∧ H p = some (.dK kvs) ∧ kvs.length < sizeLine ∧ Q (upd H p (.dK (putK kvs k v)))
theorem set_dict (hu : X.A.units + 1 < cLine) : PSet X rSetD := fun pins s σ H o i v ov iv u Q I ro ri rv h => set_any hu pins s σ H o i v ov iv u Q I ro ri rv (.inr h)
theorem ip_addI : PIp X .Add (rI0 fun i j => .int (i + j)) := fun pins s σ H x y v u Q I rx ry q => iop_add pins s σ H x y v u Q I rx ry q
def rAddS : R2 := fun x y H Q => ∃ i j, x = .str i ∧ y = .str j ∧ i.length + j.length ≤ sizeLine ∧ Q (.str (i ++ j)) H
def iLst (te : TE) : TI := fun σ H R => te σ H fun x H1 => ∃ a xs, x = .ref a ∧ H1 a = some (.lst xs) ∧ R (ItL a xs) H1
def iTpl (te : TE) : TI := fun σ H R => te σ H fun x H1 => ∃ a xs, x = .ref a ∧ H1 a = some (.tup xs) ∧ R (ItT a xs) H1
def iTxt (te : TE) : TI := fun σ H R => te σ H fun x H1 => ∃ z, x = .str z ∧ R (Its z) H1
theorem pi_lst {tg l : Expr} {te : TE} (hl : PE X l te) : PI X tg l (iLst te) := by
  intro pins s σ H R I h
  refine thn (hl pins s σ H _ I h) fun v s1 ⟨x, H1, I1, r1, q1⟩ => ?_
  obtain ⟨a, xs, e, ha, q⟩ := q1
  subst e
  cases r1
  obtain ⟨its, rv, hli, hlt⟩ := lst_iter I1 ha
  refine wpAny_pyIter_list hli ?_
  refine ⟨s1.heap.objs.size, [s1.heap.objs.size], _, _, H1, rfl, I1.kept (t' := s1.toks) fun b o e => Heap.get?_push_of_some _ e, turn_seqL a _ xs, ⟨_, Heap.get?_push_size _ rfl, rfl, rfl⟩, fun b hb => ?_, q⟩
  have e : b = s1.heap.objs.size := by simpa using hb
  subst e
  exact I1.fpOk (Nat.le_refl _) (I1.hok.fresh (Nat.le_refl _))
end
end L2
set_option Elab.async false
set_option linter.all false
set_option maxRecDepth 100000
namespace NP
open PySem L2
theorem bt_all : bootBuiltins "all" = some (.builtin "all") := by decide +kernel
theorem bt_min : bootBuiltins "min" = some (.builtin "min") := by decide +kernel
theorem bt_len : bootBuiltins "len" = some (.builtin "len") := by decide +kernel
theorem bt_sum : bootBuiltins "sum" = some (.builtin "sum") := by decide +kernel
theorem bt_list : bootBuiltins "list" = some (.type "list") := by decide +kernel
theorem bt_enumerate : bootBuiltins "enumerate" = some (.type "enumerate") := by decide +kernel
theorem bt_zip : bootBuiltins "zip" = some (.type "zip") := by decide +kernel
def But (st : Addr) (H H' : Hp) : Prop := ∀ b o, b ≠ st → H b = some o → H' b = some o
theorem But.refl (st : Addr) (H : Hp) : But st H H := fun _ _ _ h => h
theorem But.trans {st : Addr} {H H1 H2 : Hp} (a : But st H H1) (b : But st H1 H2) : But st H H2 := fun c o n h => b c o n (a c o n h)
theorem same_but {st : Addr} {H H' : Hp} (s : Same H H') : But st H H' := fun b o _ h => s b o h
theorem same_upd {H : Hp} {p : Addr} {o : HO} (hp : H p = none) : Same H (upd H p o) := fun b u h => by rw [upd_ne (ne_of_none h hp)]; exact h
theorem but_upd {st : Addr} {H : Hp} {p : Addr} {o : HO} (hp : H p = none) : But st H (upd H p o) := same_but (same_upd hp)
theorem but_set {st : Addr} {H : Hp} {o : HO} : But st H (upd H st o) := fun b u n h => by rw [upd_ne n]; exact h
def StOk (H : Hp) (st : Addr) : Prop := ∃ ns : List Int, ns ≠ [] ∧ H st = some (.lst (ns.map V.int))
theorem StOk.same {H H' : Hp} {st : Addr} (h : StOk H st) (s : Same H H') : StOk H' st := let ⟨ns, n, e⟩ := h; ⟨ns, n, s _ _ e⟩
inductive D where
  | non | bl (b : Bool) | int (i : Int) | str (x : Str) | tup (ds : List D) | lst | dct
mutual
def Rep (H : Hp) : D → V → Prop
  | .non, v => v = .non
  | .bl b, v => v = .bl b
  | .int i, v => v = .int i
  | .str x, v => v = .str x ∧ x.length ≤ 1000
  | .tup ds, v => ∃ a xs, v = .ref a ∧ H a = some (.tup xs) ∧ ds.length ≤ 1000 ∧ Reps H ds xs
  | .lst, v => ∃ a xs, v = .ref a ∧ H a = some (.lst xs)
  | .dct, v => ∃ a kvs, v = .ref a ∧ H a = some (.dK kvs)
def Reps (H : Hp) : List D → List V → Prop
  | [], xs => xs = []
  | d :: ds, xs => ∃ x r, xs = x :: r ∧ Rep H d x ∧ Reps H ds r
end
def KeepT (H H' : Hp) : Prop := (∀ a xs, H a = some (.tup xs) → H' a = some (.tup xs)) ∧ (∀ a xs, H a = some (.lst xs) → ∃ ys, H' a = some (.lst ys)) ∧ ∀ a kvs, H a = some (.dK kvs) → ∃ kvs', H' a = some (.dK kvs')
theorem same_keepT {H H' : Hp} (s : Same H H') : KeepT H H' := ⟨fun _ _ h => s _ _ h, fun _ xs h => ⟨xs, s _ _ h⟩, fun _ kvs h => ⟨kvs, s _ _ h⟩⟩
mutual
theorem Rep.keep {H H' : Hp} (k : KeepT H H') : ∀ (d : D) (v : V), Rep H d v → Rep H' d v
  | .non, v, h => by rw [Rep] at h ⊢; exact h
  | .bl b, v, h => by rw [Rep] at h ⊢; exact h
  | .int i, v, h => by rw [Rep] at h ⊢; exact h
  | .str x, v, h => by rw [Rep] at h ⊢; exact h
  | .tup ds, v, h => by
    rw [Rep] at h ⊢
    obtain ⟨a, xs, e, h, z, r⟩ := h
    exact ⟨a, xs, e, k.1 a xs h, z, Reps.keep k ds xs r⟩
  | .lst, v, h => by
    rw [Rep] at h ⊢
    obtain ⟨a, xs, e, h⟩ := h
    obtain ⟨ys, h'⟩ := k.2.1 a xs h
    exact ⟨a, ys, e, h'⟩
  | .dct, v, h => by
    rw [Rep] at h ⊢
    obtain ⟨a, kvs, e, h⟩ := h
    obtain ⟨ys, h'⟩ := k.2.2 a kvs h
    exact ⟨a, ys, e, h'⟩
theorem Reps.keep {H H' : Hp} (k : KeepT H H') : ∀ (ds : List D) (xs : List V), Reps H ds xs → Reps H' ds xs
  | [], xs, h => by rw [Reps] at h ⊢; exact h
  | d :: ds, xs, h => by
    rw [Reps] at h ⊢
    obtain ⟨x, r, e, h1, h2⟩ := h
    exact ⟨x, r, e, Rep.keep k d x h1, Reps.keep k ds r h2⟩
end
theorem Rep.same {H H' : Hp} {d : D} {v : V} (h : Rep H d v) (s : Same H H') : Rep H' d v := Rep.keep (same_keepT s) d v h
theorem Reps.same {H H' : Hp} {ds : List D} {vs : List V} (h : Reps H ds vs) (s : Same H H') : Reps H' ds vs := Reps.keep (same_keepT s) ds vs h
theorem Reps.length {H : Hp} : ∀ {ds : List D} {xs : List V}, Reps H ds xs → xs.length = ds.length
  | [], xs, h => by rw [Reps] at h; rw [h]; rfl
  | d :: ds, xs, h => by
    rw [Reps] at h
    obtain ⟨x, r, e, _, h2⟩ := h
    rw [e, List.length_cons, List.length_cons, Reps.length h2]
theorem Reps.get {H : Hp} : ∀ {ds : List D} {xs : List V} {i : Nat} {x : V}, Reps H ds xs → xs[i]? = some x → ∃ d, ds[i]? = some d ∧ Rep H d x
  | [], xs, i, x, h, e => by rw [Reps] at h; rw [h] at e; cases e
  | d :: ds, xs, i, x, h, e => by
    rw [Reps] at h
    obtain ⟨y, r, ey, h1, h2⟩ := h
    rw [ey] at e
    cases i with
    | zero => cases e; exact ⟨d, rfl, h1⟩
    | succ i => exact Reps.get (ds := ds) (xs := r) (i := i) h2 (by simpa using e)
theorem Reps.get' {H : Hp} : ∀ {ds : List D} {xs : List V} {i : Nat} {d : D}, Reps H ds xs → ds[i]? = some d → ∃ x, xs[i]? = some x ∧ Rep H d x
  | [], xs, i, d, h, e => by cases e
  | d0 :: ds, xs, i, d, h, e => by
    rw [Reps] at h
    obtain ⟨y, r, ey, h1, h2⟩ := h
    rw [ey]
    cases i with
    | zero => cases e; exact ⟨y, rfl, h1⟩
    | succ i =>
      obtain ⟨x, h3, h4⟩ := Reps.get' (ds := ds) (xs := r) (i := i) (d := d) h2 (by simpa using e)
      exact ⟨x, by simpa using h3, h4⟩
def D.ty : D → String
  | .non => "NoneType"
  | .bl _ => "bool"
  | .int _ => "int"
  | .str _ => "str"
  | .tup _ => "tuple"
  | .lst => "list"
  | .dct => "dict"
theorem Rep.ty {H : Hp} {d : D} {v : V} (h : Rep H d v) : tyOf H v = some d.ty := by
  cases d <;> rw [Rep] at h
  · rw [h]; rfl
  · rw [h]; rfl
  · rw [h]; rfl
  · rw [h.1]; rfl
  · obtain ⟨a, xs, e, h, _⟩ := h; rw [e]; unfold tyOf; simp only [h]; rfl
  · obtain ⟨a, xs, e, h⟩ := h; rw [e]; unfold tyOf; simp only [h]; rfl
  · obtain ⟨a, xs, e, h⟩ := h; rw [e]; unfold tyOf; simp only [h]; rfl
def CompW (J : It) (own : List Str) (cap : List Nat) (g : TG) (tt : TT) (te : TE) (σ : St) (H1 : Hp) (Q : VK) : Prop := ∃ W : Nat → Nat → List V → Hp → Prop, (∃ m, W 0 m [] H1) ∧ ∀ i m acc H, W i m acc H → acc.length ≤ sizeLine ∧
  ((J.stop i H ∧ ∀ p, H p = none → Q (.ref p) (upd H p (.lst acc))) ∨
   (J.go i H ∧ acc.length < sizeLine ∧ ∃ N : List V → Hp → Prop, (∀ acc' H', N acc' H' → ∃ m', m' < m ∧ W (i + 1) m' acc' H') ∧ ∀ x H', J.yld i H x H' → g x (cpSt own cap σ) H' fun σ2 H2 => tt σ2 H2 fun b H3 => if b = true then te σ2 H3 fun y H4 => N (acc ++ [y]) H4 else N acc H3))
theorem tComp_eq (own : List Str) (cap : List Nat) (wi : TI) (g : TG) (tt : TT) (te : TE) (σ : St) (H : Hp) (Q : VK) : tComp own cap wi g tt te σ H Q = wi σ H fun J H1 => CompW J own cap g tt te σ H1 Q := rfl
def ForW (J : It) (g : TG) (tb : TS) (D : Ends) (σ : St) (H1 : Hp) : Prop := ∃ W : Nat → Nat → St → Hp → Prop, (∃ m, W 0 m σ H1) ∧ ∀ i m σ H, W i m σ H →
  (J.stop i H ∧ D.nx σ H) ∨ (J.go i H ∧ ∃ N : St → Hp → Prop, (∀ σ' H', N σ' H' → ∃ m', m' < m ∧ W (i + 1) m' σ' H') ∧ ∀ x H', J.yld i H x H' → g x σ H' fun σ2 H2 => tb { D with nx := N, ct := N, bk := D.nx } σ2 H2)
theorem tFor_eq (wi : TI) (g : TG) (tb : TS) (D : Ends) (σ : St) (H : Hp) : tFor wi g tb D σ H = wi σ H fun J H1 => ForW J g tb D σ H1 := rfl
theorem iAny_eq (te : TE) (σ : St) (H : Hp) (R : It → Hp → Prop) : iAny te σ H R = te σ H fun x H1 => (∃ a xs, x = .ref a ∧ H1 a = some (.lst xs) ∧ R (ItL a xs) H1) ∨ (∃ a xs, x = .ref a ∧ H1 a = some (.tup xs) ∧ R (ItT a xs) H1) ∨ (∃ z, x = .str z ∧ R (Its z) H1) := rfl
theorem mem_int : ("int" ∈ ["bool", "int", "str", "list", "tuple", "dict"]) = True := eq_true (by decide)
theorem mem_bool : ("bool" ∈ ["bool", "int", "str", "list", "tuple", "dict"]) = True := eq_true (by decide)
theorem mem_str : ("str" ∈ ["bool", "int", "str", "list", "tuple", "dict"]) = True := eq_true (by decide)
theorem mem_list : ("list" ∈ ["bool", "int", "str", "list", "tuple", "dict"]) = True := eq_true (by decide)
theorem mem_tuple : ("tuple" ∈ ["bool", "int", "str", "list", "tuple", "dict"]) = True := eq_true (by decide)
theorem mem_dict : ("dict" ∈ ["bool", "int", "str", "list", "tuple", "dict"]) = True := eq_true (by decide)
theorem isi_NoneType_bool : isiB "NoneType" "bool" = false := by decide
theorem isi_NoneType_int : isiB "NoneType" "int" = false := by decide
theorem isi_NoneType_str : isiB "NoneType" "str" = false := by decide
theorem isi_NoneType_list : isiB "NoneType" "list" = false := by decide
theorem isi_NoneType_tuple : isiB "NoneType" "tuple" = false := by decide
theorem isi_NoneType_dict : isiB "NoneType" "dict" = false := by decide
theorem isi_bool_bool : isiB "bool" "bool" = true := by decide
theorem isi_bool_int : isiB "bool" "int" = true := by decide
theorem isi_bool_str : isiB "bool" "str" = false := by decide
theorem isi_bool_list : isiB "bool" "list" = false := by decide
theorem isi_bool_tuple : isiB "bool" "tuple" = false := by decide
theorem isi_bool_dict : isiB "bool" "dict" = false := by decide
theorem isi_int_bool : isiB "int" "bool" = false := by decide
theorem isi_int_int : isiB "int" "int" = true := by decide
theorem isi_int_str : isiB "int" "str" = false := by decide
theorem isi_int_list : isiB "int" "list" = false := by decide
theorem isi_int_tuple : isiB "int" "tuple" = false := by decide
theorem isi_int_dict : isiB "int" "dict" = false := by decide
theorem isi_str_bool : isiB "str" "bool" = false := by decide
theorem isi_str_int : isiB "str" "int" = false := by decide
theorem isi_str_str : isiB "str" "str" = true := by decide
theorem isi_str_list : isiB "str" "list" = false := by decide
theorem isi_str_tuple : isiB "str" "tuple" = false := by decide
theorem isi_str_dict : isiB "str" "dict" = false := by decide
theorem isi_list_bool : isiB "list" "bool" = false := by decide
theorem isi_list_int : isiB "list" "int" = false := by decide
theorem isi_list_str : isiB "list" "str" = false := by decide
theorem isi_list_list : isiB "list" "list" = true := by decide
theorem isi_list_tuple : isiB "list" "tuple" = false := by decide
theorem isi_list_dict : isiB "list" "dict" = false := by decide
theorem isi_tuple_bool : isiB "tuple" "bool" = false := by decide
theorem isi_tuple_int : isiB "tuple" "int" = false := by decide
theorem isi_tuple_str : isiB "tuple" "str" = false := by decide
theorem isi_tuple_list : isiB "tuple" "list" = false := by decide
theorem isi_tuple_tuple : isiB "tuple" "tuple" = true := by decide
theorem isi_tuple_dict : isiB "tuple" "dict" = false := by decide
theorem isi_dict_bool : isiB "dict" "bool" = false := by decide
theorem isi_dict_int : isiB "dict" "int" = false := by decide
theorem isi_dict_str : isiB "dict" "str" = false := by decide
theorem isi_dict_list : isiB "dict" "list" = false := by decide
theorem isi_dict_tuple : isiB "dict" "tuple" = false := by decide
theorem isi_dict_dict : isiB "dict" "dict" = true := by decide
theorem comp_map {J : It} {n : Nat} {yl : Nat → V → Prop} {ok : Hp → Prop} {own : List Str} {cap : List Nat} {g : TG} {tt : TT} {te : TE} {σ : St} {H : Hp} {Q : VK} (G : Goes J n yl ok) (hn : n ≤ sizeLine) (hok : ∀ H', Same H H' → ok H') (ys : List V) (hl : ys.length = n)
    (hs : ∀ i x H', i < n → yl i x → Same H H' → ∀ (N : V → Hp → Prop) (M : Hp → Prop), (∀ y H4, Same H H4 → ys[i]? = some y → N y H4) → g x (cpSt own cap σ) H' fun σ2 H2 => tt σ2 H2 fun b H3 => if b = true then te σ2 H3 N else M H3)
    (hd : ∀ H', Same H H' → ∀ p, H' p = none → Q (.ref p) (upd H' p (.lst ys))) : CompW J own cap g tt te σ H Q := by
  refine comp_goes G hn (fun i acc H' => Same H H' ∧ acc = ys.take i) ⟨Same.refl H, by simp⟩ (fun i acc H' _ h => hok H' h.1) (fun i acc H' h => by rw [h.2, List.length_take]; omega) (fun i x acc H' hi hx h => ?_) (fun acc H' h p hp => ?_)
  · obtain ⟨s', rfl⟩ := h
    refine hs i x H' hi hx s' _ _ fun y H4 s4 hy => ⟨s4, ?_⟩
    rw [List.take_add_one, hy]
    rfl
  · obtain ⟨s', e⟩ := h
    rw [e, List.take_of_length_le (by omega)]
    exact hd H' s' p hp
theorem for_w {J : It} {n : Nat} {yl : Nat → V → Prop} {ok : Hp → Prop} {g : TG} {tb : TS} {D : Ends} {σ : St} {H : Hp} (G : Goes J n yl ok) (Pv : Nat → St → Hp → Prop) (h0 : Pv 0 σ H) (hok : ∀ i σ H, i ≤ n → Pv i σ H → ok H)
    (hs : ∀ i x σ H, i < n → yl i x → Pv i σ H → g x σ H fun σ2 H2 => tb { D with nx := Pv (i + 1), ct := Pv (i + 1), bk := D.nx } σ2 H2) (hd : ∀ σ H, Pv n σ H → D.nx σ H) : ForW J g tb D σ H := for_goes G Pv h0 hok hs hd
theorem StOk.upd {H : Hp} {st l : Addr} {o : HO} (h : StOk H st) (n : st ≠ l) : StOk (upd H l o) st := let ⟨ns, hn, e⟩ := h; ⟨ns, hn, by rw [upd_ne n]; exact e⟩
theorem StOk.ne {H : Hp} {st l : Addr} (h : StOk H st) (n : H l = none) : st ≠ l := let ⟨_, _, e⟩ := h; ne_of_none e n
theorem StOk.neT {H : Hp} {st l : Addr} {xs : List V} (h : StOk H st) (n : H l = some (.tup xs)) : l ≠ st := by
  obtain ⟨_, _, e⟩ := h
  exact ne_of n e (fun z => by cases z)
theorem But.upd {H H1 : Hp} {st l : Addr} {o : HO} (h : But st H H1) (hl : H l = none) : But st H (L2.upd H1 l o) := fun b u n e => by rw [upd_ne (ne_of_none e hl)]; exact h b u n e
theorem But.new {H H1 : Hp} {st l : Addr} {o : HO} (h : But st H H1) (hl : H1 l = none) : But st H (L2.upd H1 l o) := h.trans (but_upd hl)
theorem But.same {H H1 H2 : Hp} {st : Addr} (h : But st H H1) (s : Same H1 H2) : But st H H2 := h.trans (same_but s)
theorem But.none {H H1 : Hp} {st l : Addr} (h : But st H H1) (n : l ≠ st) (hl : H1 l = none) : H l = none := by
  cases e : H l with
  | none => rfl
  | some o => rw [h l o n e] at hl; cases hl
theorem line1000 {n : Nat} (h : n ≤ 1000) : n ≤ sizeLine := Nat.le_trans h (by decide)
end NP
set_option Elab.async false
set_option linter.all false
set_option maxRecDepth 100000
namespace L2
open PySem PySem.Spec PyProof.Rows
def noStar : List Expr → Bool
  | [] => true
  | .Starred .. :: _ => false
  | _ :: r => noStar r
theorem starEach_of {env : Env} : ∀ {es : List Expr}, noStar es = true → starEach es env = es.map fun e => (false, eval e env)
  | [], _ => rfl
  | e :: r, h => by
    cases e <;> first
      | (exact absurd h Bool.false_ne_true)
      | (rw [List.map_cons, ← starEach_of (env := env) (es := r) h]; rfl)
theorem starEach_cons {env : Env} {e : Expr} {es : List Expr} (h : noStar [e] = true) : starEach (e :: es) env = (false, eval e env) :: starEach es env := by
  cases e <;> first
    | (exact absurd h Bool.false_ne_true)
    | rfl
theorem noStar_cons {e : Expr} {es : List Expr} (h : noStar (e :: es) = true) : noStar [e] = true ∧ noStar es = true := by
  cases e <;> first
    | (exact absurd h Bool.false_ne_true)
    | exact ⟨rfl, h⟩
theorem backTo_any {env : Env} {pos : Pos} {es : List Expr} (h : noStar es = true) : (backTo pos (starEach es env)).any (·.1) = false := by
  rw [starEach_of h]
  unfold backTo
  rw [List.map_map, List.any_map]
  induction es with
  | nil => rfl
  | cons e r ih =>
    rw [List.any_cons]
    exact ih (noStar_cons h).2
theorem backTo_all {env : Env} {pos : Pos} {es : List Expr} (h : noStar es = true) : (backTo pos (starEach es env)).all (fun x => !x.1) = true := by
  rw [starEach_of h]
  unfold backTo
  rw [List.map_map, List.all_map]
  induction es with
  | nil => rfl
  | cons e r ih =>
    rw [List.all_cons]
    exact ih (noStar_cons h).2
section
variable {X : Cx} {x : Str} {p pos apos cpos : Pos} {e o tg : Expr} {es : List Expr} {te to : TE} {t : TA} {id T : String} {r : List V → Hp → VK → Prop} {rm : V → List V → Hp → VK → Prop} {k : Nat} {ps : List Str} {sp : Sp} {name : Str}
theorem pa_e (ha : PE X e te) (hr : PA X es t) (hn : noStar [e] = true := by rfl) : PA X (e :: es) (tCons te t) := pa_cons ha hr (starEach_cons hn)
theorem pe_callS (h : Has X.prog X.w X.K X.mg X.base x k ps sp) (hr : Room k X.A) (hg : Gl X x) (ha : PA X (e :: es) t) (hn : noStar (e :: es) = true := by rfl) (hdb : (x == ("__debug__" : Str)) = false := by decide) :
    PE X (.Call (.Name x p) (e :: es) [] pos) (tCall sp [] E0 t) := pe_callH h hr hg ha hdb (starEach_cons (noStar_cons hn).1) (backTo_any (noStar_cons hn).2)
theorem pe_callBS (hc : CallR X (.builtin id) r) (hg : Gl X x) (hm : X.mg x = none) (hv : bootBuiltins x = some (.builtin id)) (ha : PA X (e :: es) t) (hn : noStar (e :: es) = true := by rfl) (hnm : x ≠ "__name__" := by decide) (hdb : (x == ("__debug__" : Str)) = false := by decide) :
    PE X (.Call (.Name x p) (e :: es) [] pos) (tCB r t) := pe_callB hc hg hm hv ha hnm hdb (starEach_cons (noStar_cons hn).1) (backTo_any (noStar_cons hn).2)
theorem pe_callTS (hc : CallR X (.type T) r) (hg : Gl X x) (hm : X.mg x = none) (hv : bootBuiltins x = some (.type T)) (ha : PA X (e :: es) t) (hn : noStar (e :: es) = true := by rfl) (hnm : x ≠ "__name__" := by decide) (hdb : (x == ("__debug__" : Str)) = false := by decide) :
    PE X (.Call (.Name x p) (e :: es) [] pos) (tCB r t) := pe_callTy hc hg hm hv ha hnm hdb (starEach_cons (noStar_cons hn).1) (backTo_any (noStar_cons hn).2)
theorem pe_bs (pa : PlainAttrs T) (slot : Slot T name id) (hty : typeOf (.builtin id) = pure (.type "method_descriptor")) (hm : MtR X id rm) (ho : PE X o to) (ha : PA X (e :: es) t) (hT : T = "list" ∨ T = "dict" ∨ T = "str" := by decide)
    (hbase : attributeBase o name X.env (eval o X.env) = eval o X.env := by rfl) (hn : noStar (e :: es) = true := by rfl) (hlen : (e :: es).length < 20 := by decide) (hline : (apos.endLine == cpos.line) = true := by rfl) :
    PE X (.Call (.Attribute o name apos) (e :: es) [] cpos) (tBA T rm to t) := by
  refine pe_ba pa slot hty hm ho ha hT hbase ?_ hline (starEach_cons (noStar_cons hn).1) (backTo_any (noStar_cons hn).2)
  rw [backTo_all hn, Bool.true_and]
  have e1 : (backToKw cpos (keywordEach [] X.env)).all (fun x => x.1.isSome) = true := rfl
  rw [e1, Bool.true_and]
  refine decide_eq_true ?_
  show (e :: es).length + 0 + 0 < 30
  omega
theorem pi_rangeS1 {ta : TA} (hg : Gl X "range") (hm : X.mg "range" = none) (ha : PA X [e] ta) (hn : noStar [e] = true := by rfl) : PI X tg (.Call (.Name "range" p) [e] [] pos) (iRng1 ta) := pi_range1 hg hm ha (starEach_of hn)
end
end L2
set_option Elab.async false
set_option linter.all false
set_option maxRecDepth 100000
namespace L2
open PySem PySem.Spec PyProof.Rows
mutual
def RD (H : Hp) : PyData → V → Prop
  | .none, v => v = .non
  | .bool b, v => v = .bl b
  | .int i, v => v = .int i
  | .str x, v => v = .str x
  | .list ds, v => ∃ a xs, v = .ref a ∧ H a = some (.lst xs) ∧ RDs H ds xs
  | .tuple ds, v => ∃ a xs, v = .ref a ∧ H a = some (.tup xs) ∧ RDs H ds xs
  | .dict _, _ => False
def RDs (H : Hp) : List PyData → List V → Prop
  | [], xs => xs = []
  | d :: ds, xs => ∃ x r, xs = x :: r ∧ RD H d x ∧ RDs H ds r
end
mutual
theorem RD.reads {P : Program} {w : World} {H : Hp} {h : Heap} (ok : HOk P w H h) : ∀ (d : PyData) (v : V) (u : Value), RD H d v → RelV v u → ∃ as, Reads h u d as
  | .none, v, u, r, e => by
    rw [RD] at r; subst r; cases e; exact ⟨_, .none⟩
  | .bool b, v, u, r, e => by
    rw [RD] at r; subst r; cases e; exact ⟨_, .bool b⟩
  | .int i, v, u, r, e => by
    rw [RD] at r; subst r; obtain ⟨t, rfl⟩ := e; exact ⟨_, .int i t⟩
  | .str x, v, u, r, e => by
    rw [RD] at r; subst r; obtain ⟨t, rfl⟩ := e; exact ⟨_, .str x t⟩
  | .list ds, v, u, r, e => by
    rw [RD] at r
    obtain ⟨a, xs, rfl, ha, r⟩ := r
    cases e
    obtain ⟨hz, its, n, rv, eo⟩ := ok a _ ha
    obtain ⟨as, q⟩ := RDs.reads ok ds xs its r rv
    exact ⟨_, .list (vs := its.toArray) eo rfl rfl q⟩
  | .tuple ds, v, u, r, e => by
    rw [RD] at r
    obtain ⟨a, xs, rfl, ha, r⟩ := r
    cases e
    obtain ⟨hz, its, rv, o, ho, hc, n, hd⟩ := ok a _ ha
    obtain ⟨as, q⟩ := RDs.reads ok ds xs its r rv
    exact ⟨_, .tuple (vs := its.toArray) ho hc hd q⟩
  | .dict _, v, u, r, e => by
    rw [RD] at r; exact r.elim
theorem RDs.reads {P : Program} {w : World} {H : Hp} {h : Heap} (ok : HOk P w H h) : ∀ (ds : List PyData) (xs : List V) (us : List Value), RDs H ds xs → Vals xs us → ∃ as, ReadsAll h us ds as
  | [], xs, us, r, e => by
    rw [RDs] at r; subst r; cases e; exact ⟨_, .nil⟩
  | d :: ds, xs, us, r, e => by
    rw [RDs] at r
    obtain ⟨x, r', rfl, h1, h2⟩ := r
    cases e with
    | cons r1 r2 =>
      obtain ⟨as, q1⟩ := RD.reads ok d x _ h1 r1
      obtain ⟨bs, q2⟩ := RDs.reads ok ds r' _ h2 r2
      exact ⟨_, .cons q1 q2⟩
end
def okD (d : PyData) : Bool := d.canLay0 && decide (d.depth ≤ 50)
def rEqD : R2 := fun x y H Q => ∃ d e, RD H d x ∧ RD H e y ∧ okD d = true ∧ okD e = true ∧ Q (.bl (PyData.eqv d e)) H
def rNeD : R2 := fun x y H Q => ∃ d e, RD H d x ∧ RD H e y ∧ okD d = true ∧ okD e = true ∧ Q (.bl (!PyData.eqv d e)) H
theorem okD_room {A : Around} {d e : PyData} (h : okD d = true) (hu : A.units + 64 < cLine) : A.units + min d.depth e.depth < cLine := by
  have h1 : d.depth ≤ 50 := of_decide_eq_true (Bool.and_eq_true_iff.mp h).2
  have h2 : min d.depth e.depth ≤ d.depth := Nat.min_le_left _ _
  omega
section
variable {X : Cx}
theorem op_eqD (hu : X.A.units + 64 < cLine) : OpR X (compareOp .Eq) rEqD := by
  intro pins s σ H x y v u Q I rx ry h
  obtain ⟨d, e, rd, re, hd, he, q⟩ := h
  obtain ⟨as, r1⟩ := RD.reads I.hok d x v rd rx
  obtain ⟨bs, r2⟩ := RD.reads I.hok e y u re ry
  exact SeqAt.compareEq_reads r1 r2 (Bool.and_eq_true_iff.mp hd).1 (Bool.and_eq_true_iff.mp he).1 (okD_room hd hu) ⟨.bl _, H, I, rfl, q⟩
end
theorem hu64_of {A : Around} {k : Nat} (hr : Room k A) : A.units + 64 < cLine := by
  have := hr.un
  omega
def rowD (ns : List Int) : PyData := .list (ns.map .int)
theorem rds_ints {H : Hp} : ∀ ns : List Int, RDs H (ns.map .int) (ns.map V.int)
  | [] => by rw [List.map_nil, List.map_nil, RDs]
  | n :: r => by
    rw [List.map_cons, List.map_cons, RDs]
    exact ⟨_, _, rfl, by rw [RD], rds_ints r⟩
theorem rd_row {H : Hp} {a : Addr} {ns : List Int} (h : H a = some (.lst (ns.map V.int))) : RD H (rowD ns) (.ref a) := by
  unfold rowD
  rw [RD]
  exact ⟨a, _, rfl, h, rds_ints ns⟩
theorem canLay_ints : ∀ ns : List Int, PyData.canLayAll0 (ns.map .int) = true
  | [] => rfl
  | n :: r => by
    rw [List.map_cons, PyData.canLayAll0, PyData.canLay0, canLay_ints r]
    rfl
theorem depth_ints : ∀ ns : List Int, PyData.depthAll (ns.map .int) = 0
  | [] => rfl
  | n :: r => by
    rw [List.map_cons, PyData.depthAll, PyData.depth, depth_ints r]
    rfl
theorem okD_row (ns : List Int) : okD (rowD ns) = true := by
  unfold okD rowD
  rw [PyData.canLay0, canLay_ints, PyData.depth, depth_ints]
  rfl
theorem eqvAll_ints : ∀ ns ms : List Int, PyData.eqvAll (ns.map .int) (ms.map .int) = decide (ns = ms)
  | [], [] => by simp [PyData.eqvAll]
  | [], m :: s => by simp [PyData.eqvAll]
  | n :: r, [] => by simp [PyData.eqvAll]
  | n :: r, m :: s => by
    rw [List.map_cons, List.map_cons, PyData.eqvAll, PyData.eqv, eqvAll_ints r s]
    by_cases h : n = m
    · subst h; simp
    · simp [h]
theorem eqv_rows (ns ms : List Int) : PyData.eqv (rowD ns) (rowD ms) = decide (ns = ms) := by
  unfold rowD
  rw [PyData.eqv]
  exact eqvAll_ints ns ms
section
variable {X : Cx} {pins : List (Addr × Obj)} {σ : St} {H : Hp} {s : Shared} {h' : Heap}
theorem HOk.but {P : Program} {w : World} {h : Heap} {wr : List Addr} (x : HOk P w H h) (k : ∀ b o, b ∉ wr → h.get? b = some o → h'.get? b = some o) (n : ∀ b ∈ wr, H b = none) : HOk P w H h' := fun a o e =>
  (x a o e).stay (fun b u hb q => k b u (fun z => by
    rcases hb with hb | hb
    · rw [hb] at z; rw [n a z] at e; cases e
    · rw [n b z] at hb; cases hb) q) (fun _ q => q) fun _ _ q => q
theorem Inv.turnedL {t' : Nat} {wr : List Addr} (I : Inv X pins σ H s) (k : ∀ b o, b ∉ wr → s.heap.get? b = some o → h'.get? b = some o) (f : ∀ b ∈ wr, FpOk X pins H b) : Inv X pins σ H { s with heap := h', toks := t' } := by
  refine I.step (g' := s.gens) (d' := s.drawn) (ch := wr) (fun b hb => ?_) (fun b o _ _ hc e _ => k b o hc e) (fun b o _ _ hc e _ => ⟨o.slots, k b o hc e⟩) (fun _ _ _ _ n => n)
    (fun b o hc e => ⟨o, k b o hc e⟩) (fun _ _ e => e) (fun _ _ _ e => e) (fun b ps e => ⟨#[], by rw [e]; simp⟩) (fun m hm => ?_) (I.hok.but k fun b hb => (f b hb).1) I.bare
  · obtain ⟨f0, f1, f2, f3, f4, f5⟩ := f b hb
    exact ⟨f3, f1, f4, f5⟩
  · obtain ⟨o, es, ep, ho, r⟩ := hm
    exact ⟨o, es, ep, k _ o (fun z => (f _ z).2.1 rfl) ho, r⟩
theorem Inv.turnedT {t' : Nat} {wr : List Addr} {p : Addr} {xs : List V} {its : List Value} (I : Inv X pins σ H s) (k : ∀ b o, b ∉ wr → s.heap.get? b = some o → h'.get? b = some o) (f : ∀ b ∈ wr, FpOk X pins H b) (hp : s.heap.objs.size ≤ p)
    (ht : IsTup h' p its.toArray) (rv : Vals xs its) (hz : xs.length ≤ sizeLine) : Inv X pins σ (upd H p (.tup xs)) { s with heap := h', toks := t' } := by
  have hn : H p = none := I.hok.fresh hp
  have ne : ∀ b o, s.heap.get? b = some o → b ≠ p := fun b o e => addr_ne (Heap.lt_size e) hp
  refine I.step (g' := s.gens) (d' := s.drawn) (ch := wr) (fun b hb => ?_) (fun b o _ _ hc e _ => k b o hc e) (fun b o _ _ hc e _ => ⟨o.slots, k b o hc e⟩) (fun b o _ e n => by rw [upd_ne (ne b o e)]; exact n)
    (fun b o hc e => ⟨o, k b o hc e⟩) (fun b ys e => by rw [upd_ne (ne_of_none e hn)]; exact e) (fun b o u e => by rw [upd_ne (ne_of_none e hn)]; exact e) (fun b ps e => ⟨#[], by rw [upd_ne (ne_of_none e hn), e]; simp⟩) (fun m hm => ?_) (fun b u e => ?_) I.bare
  · obtain ⟨f0, f1, f2, f3, f4, f5⟩ := f b hb
    exact ⟨f3, f1, f4, f5⟩
  · obtain ⟨o, es, ep, ho, r⟩ := hm
    exact ⟨o, es, ep, k _ o (fun z => (f _ z).2.1 rfl) ho, r⟩
  · by_cases hb : b = p
    · subst hb
      rw [upd_same] at e
      cases e
      exact ⟨hz, its, rv, ht⟩
    · rw [upd_ne hb] at e
      refine (I.hok.but k (fun b hb => (f b hb).1) b u e).stay (fun _ _ _ q => q) (fun c q => ?_) fun c ys q => ?_
      · rw [upd_ne (ne_of_none q hn)]; exact q
      · rw [upd_ne (ne_of_none q hn)]; exact q
theorem item_T {P : Program} {w : World} {it : Addr} {fp wr : List Addr} {n i : Nat} {Pt : Nat → Array Value → Prop} {St : Nat → Heap → Prop} {Mid : Nat → Addr → Heap → Prop} {elts : List Expr} {k : Nat} {pos : Pos} {E : Value → Shared → Prop} {Y : List V → Prop}
    (W : WalksT P w X.A it fp wr n Pt St Mid) (hi : i < n) (I : Inv X pins σ H s) (st : St i s.heap) (hf : ∀ b ∈ wr, FpOk X pins H b) (hv : ∀ vals, Pt i vals → ∃ xs, Vals xs vals.toList ∧ xs.length ≤ 100 ∧ Y xs) :
    wpAny (model P w) X.A (pyNext (.ref it)) (fun r s1 => ∃ u, r = some u ∧ wpAny (model P w) X.A (letOwnedTupleGo (.Tuple elts k pos) (.ref it) u) (fun _ s2 =>
      ∃ p xs, u = .ref p ∧ s.heap.objs.size ≤ p ∧ H p = none ∧ Inv X pins σ (upd H p (.tup xs)) s2 ∧ Y xs ∧ St (i + 1) s2.heap) E s1) E s := by
  refine W.item i s _ E hi st fun T vals h1 tk hP hT ht hm hk => ⟨.ref T, rfl, ?_⟩
  obtain ⟨xs, rv, hz, hY⟩ := hv vals hP
  refine W.go elts k pos i T { s with heap := h1, toks := tk } _ E hm fun h2 st2 hk2 => ?_
  have hTw : T ∉ wr := W.apart i T h1 hm
  have ht2 : IsTup h2 T vals.toList.toArray := by
    obtain ⟨o, ho, hc, m, hd⟩ := ht
    exact ⟨o, hk2 T o hTw ho, hc, m, by simpa using hd⟩
  exact ⟨T, xs, rfl, hT, I.hok.fresh hT, I.turnedT (t' := tk) (fun b o hb e => hk2 b o hb (hk b o hb e)) hf hT ht2 rv (Nat.le_trans hz (by decide)), hY, st2⟩
end
structure GoesT (J : It) (n : Nat) (yl : Nat → List V → Prop) (ok : Hp → Prop) : Prop where
  go : ∀ i H, i < n → ok H → J.go i H
  yld : ∀ i H x H', i < n → ok H → J.yld i H x H' → ∃ p ys, x = .ref p ∧ H p = none ∧ H' = upd H p (.tup ys) ∧ yl i ys
  stop : ∀ H, ok H → J.stop n H
theorem for_t {J : It} {n : Nat} {yl : Nat → List V → Prop} {ok : Hp → Prop} {g : TG} {tb : TS} {D : Ends} {σ : St} {H : Hp} (G : GoesT J n yl ok) (Pv : Nat → St → Hp → Prop) (h0 : Pv 0 σ H) (hok : ∀ i σ H, i ≤ n → Pv i σ H → ok H)
    (hs : ∀ i ys p σ H, i < n → yl i ys → Pv i σ H → H p = none → g (.ref p) σ (upd H p (.tup ys)) fun σ2 H2 => tb { D with nx := Pv (i + 1), ct := Pv (i + 1), bk := D.nx } σ2 H2) (hd : ∀ σ H, Pv n σ H → D.nx σ H) : NP.ForW J g tb D σ H := by
  refine ⟨fun i m σ H => m = n - i ∧ i ≤ n ∧ Pv i σ H, ⟨n, by simp, Nat.zero_le _, h0⟩, ?_⟩
  rintro i m σ H ⟨rfl, hi, p⟩
  have q := hok i σ H hi p
  by_cases hlt : i < n
  · refine .inr ⟨G.go i H hlt q, Pv (i + 1), fun σ' H' p' => ⟨n - (i + 1), by omega, rfl, hlt, p'⟩, fun x H' y => ?_⟩
    obtain ⟨a, ys, e1, e2, e3, y'⟩ := G.yld i H x H' hlt q y
    subst e1 e3
    exact hs i ys a σ H hlt y' p e2
  · have e : i = n := by omega
    subst e
    exact .inl ⟨G.stop H q, hd σ H p⟩
theorem gT2 {K : PySem.W.Frag} {i j : Nat} {p : Addr} {x y : V} {σ : St} {H : Hp} {Q : St → Hp → Prop} (h : Q ((σ.set i (some x)).set j (some y)) (upd H p (.tup [x, y]))) : gTup K 2 (gCons (gName i) (gCons (gName j) gNil)) (.ref p) σ (upd H p (.tup [x, y])) Q :=
  ⟨p, _, rfl, SqT.of upd_same, rfl, _, _, rfl, _, _, rfl, rfl, h⟩
def ItE (a : Addr) (xs : List V) : It := ⟨fun i H => H a = some (.lst xs) ∧ i < xs.length, fun i H x H' => ∃ p y, x = .ref p ∧ H p = none ∧ xs[i]? = some y ∧ H' = upd H p (.tup [.int i, y]), fun i H => H a = some (.lst xs) ∧ i = xs.length⟩
theorem goesE (a : Addr) (xs : List V) : GoesT (ItE a xs) xs.length (fun i ys => ∃ y, xs[i]? = some y ∧ ys = [.int i, y]) (fun H => H a = some (.lst xs)) :=
  ⟨fun i H h o => ⟨o, h⟩, fun i H x H' h o y => let ⟨p, z, e1, e2, e3, e4⟩ := y; ⟨p, _, e1, e2, e4, z, e3, rfl⟩, fun H o => ⟨o, rfl⟩⟩
theorem turn_enum {P : Program} {w : World} {K : PySem.W.Frag} {elts : List Expr} {k : Nat} {pos : Pos} (e it a : Addr) (xs : List V) (hei : e ≠ it) : Turn P w K (.Tuple elts k pos) (ItE a xs) [e, it] e (fun i h => (∃ old, IsEnum h e it i old) ∧ h.IsListIter it a i) where
  mem := by simp
  obj := fun i h st b hb => by
    obtain ⟨⟨old, he⟩, o, ho, c, d⟩ := st
    rcases List.mem_cons.mp hb with q | q
    · rw [q]; exact ⟨_, he, fun v z => by cases z⟩
    · rw [List.mem_singleton.mp q]; exact ⟨o, ho, fun v z => by rw [d] at z; cases z⟩
  keep := fun i h h' st k => by
    obtain ⟨⟨old, he⟩, hi⟩ := st
    exact ⟨⟨old, k e (by simp) _ he⟩, hi.at fun o q => k it (by simp) o q⟩
  item := by
    intro X hP hw hK hc i pins s σ H E I hf st hg
    subst hP hw hK
    obtain ⟨hq, hlt⟩ := hg
    obtain ⟨its, rv, hl, hal⟩ := lst_iter I hq
    have f1 := hf e (by simp)
    have f2 := hf it (by simp)
    have hae : a ≠ e := ne_of_none hq f1.1
    have hai : a ≠ it := ne_of_none hq f2.1
    have hlen := rv.length
    have hv : ∀ vals : Array Value, (∃ t x, its.toArray[i]? = some x ∧ vals = #[.int i t, x]) → ∃ ys, Vals ys vals.toList ∧ ys.length ≤ 100 ∧ ∃ y, xs[i]? = some y ∧ ys = [V.int i, y] := by
      rintro vals ⟨t, x, hx, rfl⟩
      obtain ⟨u, hu, ru⟩ := rv.get (x := xs[i]) (i := i) (by simp [hlt])
      have hx : its[i]? = some x := by simpa using hx
      rw [hx] at hu
      cases hu
      exact ⟨[.int i, xs[i]], .cons ⟨t, rfl⟩ (.cons ru .nil), by simp, xs[i], by simp [hlt], rfl⟩
    refine thn (item_T (E := E) (WalksT.enumerate (I.ok.hd hc) e it a hei hae hai its.toArray) (by rw [List.size_toArray]; omega) I ⟨st.1, st.2, hl⟩ hf hv) fun r s1 ⟨u, hr, h3⟩ => ⟨u, hr, thn h3 fun _ s2 ⟨p, ys, hu, hp, hn, I2, ⟨y, hy, e2⟩, st2⟩ => ?_⟩
    subst hu e2
    refine ⟨.ref p, _, I2, rfl, ⟨p, y, rfl, hn, hy, rfl⟩, ⟨st2.1, st2.2.1⟩, fun b hb => ?_⟩
    have hbl : b < s.heap.objs.size := by
      obtain ⟨⟨old, he⟩, o, ho, c, d⟩ := st
      rcases List.mem_cons.mp hb with q | q
      · rw [q]; exact Heap.lt_size he
      · rw [List.mem_singleton.mp q]; exact Heap.lt_size ho
    rw [upd_ne (addr_ne hbl hp)]
    exact (hf b hb).1
  done := by
    intro X hP hw hK hc i pins s σ H E I hf st hg
    subst hP hw hK
    obtain ⟨hq, hlt⟩ := hg
    obtain ⟨its, rv, hl, hal⟩ := lst_iter I hq
    have f1 := hf e (by simp)
    have f2 := hf it (by simp)
    have hlen := rv.length
    have hi : its.toArray.size = i := by rw [List.size_toArray]; omega
    refine (WalksT.enumerate (I.ok.hd hc) e it a hei (ne_of_none hq f1.1) (ne_of_none hq f2.1) its.toArray).done s _ E ?_ fun h' tk hk => ⟨rfl, I.turnedL hk hf⟩
    rw [hi]
    exact ⟨st.1, st.2, hl⟩
  self := fun _ _ _ _ _ st h => by
    obtain ⟨⟨old, he⟩, _⟩ := st
    exact wpAny_pyIter_enum he h
section
variable {X : Cx}
def iEnum (ta : TA) : TI := fun σ H R => ta σ H fun vs H1 => ∃ a xs, vs = [.ref a] ∧ H1 a = some (.lst xs) ∧ R (ItE a xs) H1
theorem pi_enum {elts : List Expr} {k : Nat} {pt p pos : Pos} {e : Expr} {ta : TA} (hg : Gl X "enumerate") (hm : X.mg "enumerate" = none) (ha : PA X [e] ta) (hn : noStar [e] = true := by rfl) : PI X (.Tuple elts k pt) (.Call (.Name "enumerate" p) [e] [] pos) (iEnum ta) := by
  intro pins s σ H R I h
  refine Call_ (ld_blt I hg hm NP.bt_enumerate (PyProof.Rows.callWith_type1 (thn (ha pos pins s σ H _ I h) fun us s1 ⟨vs, H1, I1, r1, q1⟩ => ?_) (starEach_of hn) rfl))
  obtain ⟨a, xs, e, hq, q⟩ := q1
  subst e
  obtain ⟨u, rfl, ru⟩ := vals1 r1
  cases ru
  obtain ⟨its, rv, hl, hal⟩ := lst_iter I1 hq
  refine call_enumerate_list hl fun h' he hi hz hk => wpAny_pyIter_enum he ?_
  have I2 : Inv X pins σ H1 { s1 with heap := h' } := I1.kept (t' := s1.toks) hk
  refine ⟨s1.heap.objs.size + 1, [s1.heap.objs.size + 1, s1.heap.objs.size], _, _, H1, rfl, I2, turn_enum _ _ a xs (Nat.succ_ne_self _), ⟨⟨_, he⟩, hi⟩, fun b hb => ?_, q⟩
  have hb' : s1.heap.objs.size ≤ b := by
    rcases List.mem_cons.mp hb with z | z
    · rw [z]; exact Nat.le_succ _
    · rw [List.mem_singleton.mp z]; exact Nat.le_refl _
  exact I1.fpOk hb' (I1.hok.fresh hb')
end
end L2
set_option Elab.async false
set_option linter.all false
set_option maxRecDepth 100000
namespace L2
open PySem PySem.Spec PyProof.Rows
theorem preSum_take (ns : List Int) : ∀ n, n ≤ ns.length → preSum (fun i => (ns[i]?).getD 0) n = (ns.take n).sum
  | 0, _ => by simp [preSum]
  | n + 1, h => by
    have hn : n < ns.length := h
    rw [preSum, preSum_take ns n (by omega), List.take_add_one, List.sum_append]
    simp only [List.getElem?_eq_getElem hn, Option.getD_some, Option.toList_some, List.sum_cons, List.sum_nil, Int.add_zero]
theorem preSum_all (ns : List Int) : preSum (fun i => (ns[i]?).getD 0) ns.length = ns.sum := by
  rw [preSum_take ns _ (Nat.le_refl _), List.take_length]
theorem vals_int : ∀ {ns : List Int} {us : List Value} {i : Nat} {u : Value}, Vals (ns.map V.int) us → us[i]? = some u → ∃ t, u = .int ((ns[i]?).getD 0) t
  | [], _, i, u, .nil, e => by simp at e
  | n :: r, _, 0, u, .cons h t, e => by
    obtain ⟨t', h⟩ := h
    simp at e
    subst e
    exact ⟨t', by rw [h]; rfl⟩
  | n :: r, _, i + 1, u, .cons h t, e => by
    obtain ⟨t', q⟩ := vals_int (ns := r) (i := i) (u := u) t (by simpa using e)
    exact ⟨t', by rw [q]; simp⟩
section
variable {X : Cx}
def rSum : List V → Hp → VK → Prop := fun xs H Q => ∃ (a : Addr) (ns : List Int), xs = [.ref a] ∧ H a = some (.lst (ns.map V.int)) ∧ Q (.int ns.sum) H
theorem call_sumA (hc : X.calm = true) : CallR X (.builtin "sum") rSum := by
  intro pins s σ H xs us Q I r h
  obtain ⟨a, ns, rfl, ha, q⟩ := h
  obtain ⟨u, rfl, ru⟩ := vals1 r
  cases ru
  obtain ⟨its, rv, hl, hlt⟩ := lst_iter I ha
  have hlen : its.length = ns.length := by have := rv.length; rw [List.length_map] at this; exact this.symm
  refine call_sum_walkG (wpAny_pyIter_list hl ?_)
  refine ⟨s.heap.objs.size, [s.heap.objs.size, a], [s.heap.objs.size], its.toArray.size, _, _, fun i => (ns[i]?).getD 0, rfl, Walks.list (A := X.A.in1) (I.ok.hd hc) _ a (Nat.ne_of_lt hlt) its.toArray,
    ⟨⟨_, Heap.get?_push_size _ rfl, rfl, rfl⟩, hl.push _⟩, fun b hb => ?_, fun i v hP => ?_, fun h' tk t' hk => ?_⟩
  · have e : (s.heap.push { cls := .type "list_iterator", data := .fields #[.ref a, .int 0 0] }).objs.size = s.heap.objs.size + 1 := Heap.size_push ..
    show b < (s.heap.push { cls := .type "list_iterator", data := .fields #[.ref a, .int 0 0] }).objs.size
    rw [e]
    rcases List.mem_cons.mp hb with z | z
    · rw [z]; exact Nat.lt_succ_self _
    · rw [List.mem_singleton.mp z]; exact Nat.lt_succ_of_lt hlt
  · have hP : its[i]? = some v := by simpa using hP
    exact vals_int rv hP
  · rw [List.size_toArray, hlen, preSum_all]
    exact ⟨.int ns.sum, H, I.walked hk, ⟨_, rfl⟩, q⟩
def rInsert : V → List V → Hp → VK → Prop := fun x vs H Q => ∃ l xs i y, x = .ref l ∧ vs = [.int i, y] ∧ H l = some (.lst xs) ∧ 0 ≤ i ∧ i < 2 ^ 60 ∧ xs.length < 1000000 ∧ Q .non (upd H l (.lst (xs.take (min i.toNat xs.length) ++ y :: xs.drop (min i.toNat xs.length))))
def rMax2 : List V → Hp → VK → Prop := fun xs H Q => ∃ i j, xs = [.int i, .int j] ∧ Q (.int (if j > i then j else i)) H
end
end L2
namespace L2
open PySem PySem.Spec PyProof.Rows
theorem sIx_nn {n d : Nat} {k : Int} (h : 0 ≤ k) : HT.sIx n d (some k) = min k.toNat n := by
  unfold HT.sIx
  simp only
  split <;> omega
theorem cutV_nn {xs : List V} {i j : Int} (hi : 0 ≤ i) (hj : 0 ≤ j) : cutV xs (some i) (some j) = (xs.drop i.toNat).take (j.toNat - i.toNat) := by
  unfold cutV
  rw [sIx_nn hi, sIx_nn hj]
  apply List.ext_getElem?
  intro k
  simp only [List.getElem?_take, List.getElem?_drop]
  by_cases h1 : i.toNat ≤ xs.length
  · rw [Nat.min_eq_left h1]
    by_cases h2 : j.toNat ≤ xs.length
    · rw [Nat.min_eq_left h2]
    · have h2 : xs.length ≤ j.toNat := by omega
      rw [Nat.min_eq_right h2]
      by_cases h3 : k < xs.length - i.toNat
      · rw [if_pos h3, if_pos (by omega)]
      · rw [if_neg h3]
        split
        · rw [List.getElem?_eq_none (by omega)]
        · rfl
  · have h1 : xs.length ≤ i.toNat := by omega
    rw [Nat.min_eq_right h1]
    have : xs[xs.length + k]? = none := List.getElem?_eq_none (by omega)
    rw [this, List.getElem?_eq_none (by omega)]
    split <;> split <;> rfl
theorem cutV_to {xs : List V} {j : Int} (hj : 0 ≤ j) : cutV xs none (some j) = xs.take j.toNat := by
  unfold cutV
  rw [sIx_nn hj]
  have e : HT.sIx xs.length 0 none = 0 := rfl
  rw [e, List.drop_zero, Nat.sub_zero]
  apply List.ext_getElem?
  intro k
  simp only [List.getElem?_take]
  by_cases h : k < xs.length
  · by_cases h2 : k < j.toNat
    · rw [if_pos (by omega), if_pos h2]
    · rw [if_neg (by omega), if_neg h2]
  · rw [List.getElem?_eq_none (by omega)]
    split <;> split <;> rfl
def CMulB (i j : Int) : Prop := CMul i j ∨ (i.natAbs < 10 ^ 3000 ∧ j.natAbs < 10 ^ 3000)
theorem bits_of {i : Int} (h : i.natAbs < 10 ^ 3000) : Builtin.Int.intBits i ≤ 2 ^ 20 := by
  unfold Builtin.Int.intBits
  split
  · exact Nat.zero_le _
  · rename_i h0
    have h1 : i.natAbs ≠ 0 := by
      intro e
      exact h0 (by simpa using e)
    have h2 : i.natAbs.log2 < 2 ^ 19 := by
      rw [Nat.log2_lt h1]
      refine Nat.lt_of_lt_of_le h (Nat.le_trans (Nat.pow_le_pow_left (by decide : (10 : Nat) ≤ 2 ^ 4) 3000) ?_)
      rw [← Nat.pow_mul]
      exact Nat.pow_le_pow_right (by decide) (by decide)
    have : (2 : Nat) ^ 20 = 2 ^ 19 + 2 ^ 19 := by decide
    have : (1 : Nat) ≤ 2 ^ 19 := by decide
    omega
theorem CMulB.ok {i j : Int} (h : CMulB i j) : IntMulOk i j := h.elim CMul.ok fun h => .of_bits (bits_of h.1) (bits_of h.2)
section
variable {X : Cx}
theorem op_mulB : OpR X (binaryOp .Mult) (rI CMulB fun i j => .int (i * j)) := opI fun _ _ _ _ _ _ _ hc q => mul_int q hc.ok
end
end L2
set_option Elab.async false
set_option linter.all false
set_option maxRecDepth 100000
namespace L2
open PySem PySem.Spec PyProof.Rows
def ItZ2 (a b : Addr) (xs ys : List V) : It := ⟨fun i H => H a = some (.lst xs) ∧ H b = some (.lst ys) ∧ i < min xs.length ys.length,
  fun i H x H' => ∃ p y z, x = .ref p ∧ H p = none ∧ xs[i]? = some y ∧ ys[i]? = some z ∧ H' = upd H p (.tup [y, z]), fun i H => H a = some (.lst xs) ∧ H b = some (.lst ys) ∧ i = min xs.length ys.length⟩
theorem goesZ2 (a b : Addr) (xs ys : List V) : GoesT (ItZ2 a b xs ys) (min xs.length ys.length) (fun i us => ∃ y z, xs[i]? = some y ∧ ys[i]? = some z ∧ us = [y, z]) (fun H => H a = some (.lst xs) ∧ H b = some (.lst ys)) :=
  ⟨fun i H h o => ⟨o.1, o.2, h⟩, fun i H x H' h o y => let ⟨p, u, v, e1, e2, e3, e4, e5⟩ := y; ⟨p, _, e1, e2, e5, u, v, e3, e4, rfl⟩, fun H o => ⟨o.1, o.2, rfl⟩⟩
theorem turn_zip2 {P : Program} {w : World} {K : PySem.W.Frag} {elts : List Expr} {k : Nat} {pos : Pos} (z TI TO i1 i2 a b : Addr) (xs ys : List V) (nd : [z, TI, TO, i1, i2].Nodup) :
    Turn P w K (.Tuple elts k pos) (ItZ2 a b xs ys) [z, TI, TO, i1, i2] z (fun i h => IsZip h z TI TO .none ∧ IsPair h TI (.ref i1) (.ref i2) ∧ (∃ u v, IsPair h TO u v) ∧ h.IsListIter i1 a i ∧ h.IsListIter i2 b i) := by
  have nd' := nd
  simp only [List.nodup_cons, List.mem_cons, List.not_mem_nil, or_false, not_or] at nd'
  obtain ⟨⟨n1, n2, n3, n4⟩, ⟨n5, n6, n7⟩, ⟨n8, n9⟩, n10, _⟩ := nd'
  have objs : ∀ (i : Nat) (h : Heap), (IsZip h z TI TO .none ∧ IsPair h TI (.ref i1) (.ref i2) ∧ (∃ u v, IsPair h TO u v) ∧ h.IsListIter i1 a i ∧ h.IsListIter i2 b i) → ∀ c ∈ [z, TI, TO, i1, i2], ∃ o, h.get? c = some o ∧ ∀ v, o.data ≠ .cell v := by
    rintro i h ⟨hz, hT, ⟨u, v, hO⟩, ⟨o1, g1, c1, d1⟩, ⟨o2, g2, c2, d2⟩⟩ c hc
    simp only [List.mem_cons, List.not_mem_nil, or_false] at hc
    rcases hc with q | q | q | q | q <;> subst q
    · exact ⟨_, hz, fun _ y => by cases y⟩
    · exact ⟨_, hT, fun _ y => by cases y⟩
    · exact ⟨_, hO, fun _ y => by cases y⟩
    · exact ⟨o1, g1, fun _ y => by rw [d1] at y; cases y⟩
    · exact ⟨o2, g2, fun _ y => by rw [d2] at y; cases y⟩
  have apart : ∀ {X : Cx} {pins : List (Addr × Obj)} {H : Hp}, (∀ c ∈ [z, TI, TO, i1, i2], FpOk X pins H c) → ∀ {us vs : List V}, H a = some (.lst us) → H b = some (.lst vs) → ZipApart z TI TO i1 i2 a b := by
    intro X pins H hf us vs ha hb
    have fr : ∀ c ∈ [z, TI, TO, i1, i2], a ≠ c ∧ b ≠ c := fun c hc => ⟨ne_of_none ha (hf c hc).1, ne_of_none hb (hf c hc).1⟩
    exact ⟨fun e => n1 e.symm, fun e => n2 e.symm, fun e => n3 e.symm, fun e => n4 e.symm, n5, n6, n7, n8, n9, n10, (fr z (by simp)).1, (fr TO (by simp)).1, (fr i1 (by simp)).1, (fr i2 (by simp)).1, (fr z (by simp)).2, (fr TO (by simp)).2, (fr i1 (by simp)).2, (fr i2 (by simp)).2⟩
  refine ⟨by simp, objs, ?_, ?_, ?_, ?_⟩
  · rintro i h h' ⟨hz, hT, ⟨u, v, hO⟩, g1, g2⟩ kp
    exact ⟨kp z (by simp) _ hz, kp TI (by simp) _ hT, ⟨u, v, kp TO (by simp) _ hO⟩, g1.at fun o e => kp i1 (by simp) o e, g2.at fun o e => kp i2 (by simp) o e⟩
  · intro X hP hw hK hc i pins s σ H E I hf st hg
    subst hP hw hK
    obtain ⟨ha, hb, hlt⟩ := hg
    obtain ⟨its, rv, hl, hal⟩ := lst_iter I ha
    obtain ⟨its2, rv2, hl2, hal2⟩ := lst_iter I hb
    have len1 := rv.length
    have len2 := rv2.length
    obtain ⟨s1, s2, s3, s4, s5⟩ := id st
    have hv : ∀ vals : Array Value, (∃ x y, its.toArray[i]? = some x ∧ its2.toArray[i]? = some y ∧ vals = #[x, y]) → ∃ us, Vals us vals.toList ∧ us.length ≤ 100 ∧ ∃ y z, xs[i]? = some y ∧ ys[i]? = some z ∧ us = [y, z] := by
      rintro vals ⟨x, y, hx, hy, rfl⟩
      have l1 : i < xs.length := by omega
      have l2 : i < ys.length := by omega
      obtain ⟨u, hu, ru⟩ := rv.get (x := xs[i]) (i := i) (by simp [l1])
      obtain ⟨u', hu', ru'⟩ := rv2.get (x := ys[i]) (i := i) (by simp [l2])
      have hx : its[i]? = some x := by simpa using hx
      have hy : its2[i]? = some y := by simpa using hy
      rw [hx] at hu
      rw [hy] at hu'
      cases hu
      cases hu'
      exact ⟨[xs[i], ys[i]], .cons ru (.cons ru' .nil), by simp, xs[i], ys[i], by simp [l1], by simp [l2], rfl⟩
    have sub : ∀ c ∈ [z, TO, i1, i2], c ∈ [z, TI, TO, i1, i2] := fun c hc => by simp at hc ⊢; rcases hc with h | h | h | h <;> simp [h]
    refine thn (item_T (E := E) (WalksT.zip2 (I.ok.hd hc) z TI TO i1 i2 a b (apart hf ha hb) its.toArray its2.toArray) (by rw [List.size_toArray, List.size_toArray]; omega) I ⟨s1, s2, s3, s4, s5, hl, hl2⟩ (fun c hc => hf c (sub c hc)) hv) fun r t1 ⟨u, hr, h3⟩ =>
      ⟨u, hr, thn h3 fun _ t2 ⟨p, us, hu, hp, hn, I2, ⟨y, y', hy, hy', e2⟩, st2⟩ => ?_⟩
    subst hu e2
    refine ⟨.ref p, _, I2, rfl, ⟨p, y, y', rfl, hn, hy, hy', rfl⟩, ⟨st2.1, st2.2.1, st2.2.2.1, st2.2.2.2.1, st2.2.2.2.2.1⟩, fun c hc => ?_⟩
    obtain ⟨o, ho, _⟩ := objs i _ st c hc
    rw [upd_ne (addr_ne (Heap.lt_size ho) hp)]
    exact (hf c hc).1
  · intro X hP hw hK hc i pins s σ H E I hf st hg
    subst hP hw hK
    obtain ⟨ha, hb, hlt⟩ := hg
    obtain ⟨its, rv, hl, hal⟩ := lst_iter I ha
    obtain ⟨its2, rv2, hl2, hal2⟩ := lst_iter I hb
    have len1 := rv.length
    have len2 := rv2.length
    obtain ⟨s1, s2, s3, s4, s5⟩ := id st
    have sub : ∀ c ∈ [z, TO, i1, i2], c ∈ [z, TI, TO, i1, i2] := fun c hc => by simp at hc ⊢; rcases hc with h | h | h | h <;> simp [h]
    have hi : min its.toArray.size its2.toArray.size = i := by rw [List.size_toArray, List.size_toArray]; omega
    refine (WalksT.zip2 (I.ok.hd hc) z TI TO i1 i2 a b (apart hf ha hb) its.toArray its2.toArray).done s _ E ?_ fun h' tk hk => ⟨rfl, I.turnedL hk fun c hc => hf c (sub c hc)⟩
    rw [hi]
    exact ⟨s1, s2, s3, s4, s5, hl, hl2⟩
  · intro A i s Q E st h
    exact wpAny_pyIter_zip st.1 h
section
variable {X : Cx}
def iZip2 (ta : TA) : TI := fun σ H R => ta σ H fun vs H1 => ∃ a b xs ys, vs = [.ref a, .ref b] ∧ H1 a = some (.lst xs) ∧ H1 b = some (.lst ys) ∧ R (ItZ2 a b xs ys) H1
theorem pi_zip2 {elts : List Expr} {k : Nat} {pt p pos : Pos} {e e2 : Expr} {ta : TA} (hg : Gl X "zip") (hm : X.mg "zip" = none) (ha : PA X [e, e2] ta) (hn : noStar [e, e2] = true := by rfl) : PI X (.Tuple elts k pt) (.Call (.Name "zip" p) [e, e2] [] pos) (iZip2 ta) := by
  intro pins s σ H R I h
  refine Call_ (ld_blt I hg hm NP.bt_zip (PyProof.Rows.callWith_type1 (thn (ha pos pins s σ H _ I h) fun us s1 ⟨vs, H1, I1, r1, q1⟩ => ?_) (starEach_cons (noStar_cons hn).1) (backTo_any (noStar_cons hn).2)))
  obtain ⟨a, b, xs, ys, e, ha, hb, q⟩ := q1
  subst e
  obtain ⟨u, u', rfl, ru, ru'⟩ := vals2 r1
  cases ru
  cases ru'
  obtain ⟨its, rv, hl, hal⟩ := lst_iter I1 ha
  obtain ⟨its2, rv2, hl2, hal2⟩ := lst_iter I1 hb
  refine call_zip_2 hl hl2 fun h' g1 g2 g3 g4 g5 hz hk => wpAny_pyIter_zip g1 ?_
  have I2 : Inv X pins σ H1 { s1 with heap := h' } := I1.kept (t' := s1.toks) hk
  have nd : [s1.heap.objs.size + 4, s1.heap.objs.size + 2, s1.heap.objs.size + 3, s1.heap.objs.size, s1.heap.objs.size + 1].Nodup := by
    simp only [List.nodup_cons, List.mem_cons, List.not_mem_nil, or_false, not_or, List.nodup_nil, and_true, not_false_eq_true]
    refine ⟨⟨?_, ?_, ?_, ?_⟩, ⟨?_, ?_, ?_⟩, ⟨?_, ?_⟩, ?_⟩ <;> (intro z; have z' : (_ : Nat) = _ := z; omega)
  refine ⟨s1.heap.objs.size + 4, [s1.heap.objs.size + 4, s1.heap.objs.size + 2, s1.heap.objs.size + 3, s1.heap.objs.size, s1.heap.objs.size + 1], _, _, H1, rfl, I2, turn_zip2 _ _ _ _ _ a b xs ys nd, ⟨g1, g2, ⟨_, _, g3⟩, g4, g5⟩, fun c hc => ?_, q⟩
  have hb' : s1.heap.objs.size ≤ c := by
    simp only [List.mem_cons, List.not_mem_nil, or_false] at hc
    rcases hc with q | q | q | q | q <;> rw [q] <;> first | exact Nat.le_add_right _ _ | exact Nat.le_refl _
  exact I1.fpOk hb' (I1.hok.fresh hb')
end
end L2
set_option Elab.async false
set_option linter.all false
set_option maxRecDepth 100000
namespace L2
open PySem PySem.Spec PyProof.Rows
section
variable {prog : Program} {w : World} {A : Around} {E : Value → Shared → Prop} {s : Shared}
end
end L2
set_option Elab.async false
set_option linter.all false
set_option maxRecDepth 100000
namespace L2
open PySem PySem.Spec PyProof.Rows
section
variable {prog : Program} {w : World} {A : Around} {E : Value → Shared → Prop} {s : Shared}
end
def ItZ3 (a b c : Addr) (xs ys zs : List V) : It := ⟨fun i H => (H a = some (.lst xs) ∧ H b = some (.lst ys) ∧ H c = some (.lst zs)) ∧ i < min xs.length (min ys.length zs.length),
  fun i H x H' => ∃ p y z v, x = .ref p ∧ H p = none ∧ xs[i]? = some y ∧ ys[i]? = some z ∧ zs[i]? = some v ∧ H' = upd H p (.tup [y, z, v]), fun i H => (H a = some (.lst xs) ∧ H b = some (.lst ys) ∧ H c = some (.lst zs)) ∧ i = min xs.length (min ys.length zs.length)⟩
section
variable {X : Cx}
def iZip3 (ta : TA) : TI := fun σ H R => ta σ H fun vs H1 => ∃ a b c xs ys zs, vs = [.ref a, .ref b, .ref c] ∧ H1 a = some (.lst xs) ∧ H1 b = some (.lst ys) ∧ H1 c = some (.lst zs) ∧ R (ItZ3 a b c xs ys zs) H1
end
end L2
set_option Elab.async false
set_option linter.all false
set_option maxRecDepth 100000
namespace L2
open PySem PySem.Spec PyProof.Rows
theorem cut1 {t u : TS} {D : Ends} {σ : St} {H : Hp} (M : St → Hp → Prop) (hrest : ∀ σ' H', M σ' H' → u D σ' H') (h : ∀ KK : St → Hp → Prop, (∀ σ' H', M σ' H' → KK σ' H') → t { D with nx := KK } σ H) : tSeq t u D σ H := h (u D) hrest
theorem cut2 {t t2 u : TS} {D : Ends} {σ : St} {H : Hp} (M : St → Hp → Prop) (hrest : ∀ σ' H', M σ' H' → u D σ' H') (h : ∀ KK : St → Hp → Prop, (∀ σ' H', M σ' H' → KK σ' H') → t { D with nx := fun σ H => t2 { D with nx := KK } σ H } σ H) : tSeq t (tSeq t2 u) D σ H := h (u D) hrest
theorem cut3 {t t2 t3 u : TS} {D : Ends} {σ : St} {H : Hp} (M : St → Hp → Prop) (hrest : ∀ σ' H', M σ' H' → u D σ' H')
    (h : ∀ KK : St → Hp → Prop, (∀ σ' H', M σ' H' → KK σ' H') → t { D with nx := fun σ H => t2 { D with nx := fun σ H => t3 { D with nx := KK } σ H } σ H } σ H) : tSeq t (tSeq t2 (tSeq t3 u)) D σ H := h (u D) hrest
theorem ty_lst {H : Hp} {a : Addr} {xs : List V} (h : H a = some (.lst xs)) : tyOf H (.ref a) = some "list" := by unfold tyOf; simp only [h]
end L2
namespace L2
open PySem PySem.Spec PyProof.Rows
end L2
set_option Elab.async false
set_option linter.all false
set_option maxRecDepth 100000
namespace L2
open PySem PySem.Spec PyProof.Rows
section
variable {X : Cx} {pins : List (Addr × Obj)} {σ : St} {H : Hp} {s : Shared}
theorem Inv.freeze {a : Addr} {kvs : List (Key × V)} (I : Inv X pins σ H s) (h : H a = some (.dK kvs)) : ∃ o, s.heap.get? a = some o ∧ Inv X pins σ (upd H a (.frz o (.dK kvs))) s := by
  obtain ⟨hz, hS, vs, r, o, es, ep, ho, rest⟩ := I.hok a _ h
  have ne : ∀ b u, H b = some u → u ≠ .dK kvs → b ≠ a := fun b u e n z => by rw [z, h] at e; exact n (Option.some.inj e).symm
  refine ⟨o, ho, I.un (t' := s.toks) ⟨fun b ob e n _ _ => e, fun b ob e n _ _ => ⟨ob.slots, e⟩, fun b ob e n _ => ?_, fun b ob e _ => ⟨ob, e⟩, fun b xs e => ?_, fun b ob u e => ?_, fun b ps e => ⟨#[], ?_⟩⟩ fun b u e => ?_⟩
  · rw [upd_ne (fun z => by rw [z, h] at n; cases n)]; exact n
  · rw [upd_ne (ne b _ e (fun z => by cases z))]; exact e
  · rw [upd_ne (ne b _ e (fun z => by cases z))]; exact e
  · rw [upd_ne (ne b _ e (fun z => by cases z)), e]; simp
  · by_cases hb : b = a
    · subst hb
      rw [upd_same] at e
      cases e
      exact ⟨ho, hz, hS, vs, r, o, es, ep, ho, rest⟩
    · rw [upd_ne hb] at e
      refine (I.hok b u e).stay (fun _ _ _ q => q) (fun c q => ?_) fun c ys q => ?_
      · rw [upd_ne (ne c _ q (fun z => by cases z))]; exact q
      · rw [upd_ne (ne c _ q (fun z => by cases z))]; exact q
end
def ItD (a : Addr) (o : Obj) (kvs : List (Key × V)) : It := ⟨fun i H => H a = some (.frz o (.dK kvs)) ∧ i < kvs.length, fun i H x H' => H' = H ∧ ∃ k v, kvs[i]? = some (k, v) ∧ x = kV k, fun i H => H a = some (.frz o (.dK kvs)) ∧ kvs.length ≤ i⟩
theorem goesD (a : Addr) (o : Obj) (kvs : List (Key × V)) : Goes (ItD a o kvs) kvs.length (fun i x => ∃ k v, kvs[i]? = some (k, v) ∧ x = kV k) (fun H => H a = some (.frz o (.dK kvs))) :=
  ⟨fun _ _ h o => ⟨o, h⟩, fun _ _ _ _ _ _ y => y, fun _ o => ⟨o, Nat.le_refl _⟩⟩
theorem kv_get {κ : Type} : ∀ {kvs : List (κ × V)} {vs : List (κ × Value)} {i : Nat} {k : κ} {v : V}, KV kvs vs → kvs[i]? = some (k, v) → ∃ u, vs[i]? = some (k, u)
  | _, _, _, _, _, .nil, e => by simp at e
  | _, (k', u') :: _, 0, k, v, .cons r _, e => by
    simp at e
    subst e
    exact ⟨u', by simp; exact r.1.symm⟩
  | _, _ :: _, i + 1, k, v, .cons _ t, e => by
    obtain ⟨u, h⟩ := kv_get (i := i) t (by simpa using e)
    exact ⟨u, by simpa using h⟩
theorem kV_of {P : Program} {w : World} {k : Key} {u : Value} (h : (mixKind P w).is k u = true) : RelV (kV k) u := by
  rcases keyIs_shape h with ⟨i, t, rfl, rfl⟩ | ⟨x, t, rfl, rfl⟩
  · exact ⟨t, rfl⟩
  · exact ⟨t, rfl⟩
theorem turn_dict {P : Program} {w : World} {K : PySem.W.Frag} {tg : Expr} (a it : Addr) (o : Obj) (kvs : List (Key × V)) (es : Array DictEntry) (ep : Nat) (hd : o.data = .dict es ep) :
    Turn P w K tg (ItD a o kvs) [it] it (fun i h => h.IsKeyIter it a i kvs.length ep) where
  mem := by simp
  obj := fun i h st b hb => by
    have e : b = it := by simpa using hb
    subst e
    obtain ⟨o, e, c, d⟩ := st
    exact ⟨o, e, fun v z => by rw [d] at z; cases z⟩
  keep := fun i h h' st k => st.at fun o e => k it (by simp) o e
  item := by
    intro X hP hw hK hc i pins s σ H E I hf st hg
    subst hP hw hK
    obtain ⟨hq, hlt⟩ := hg
    obtain ⟨ho, hz, hS, vs, rel, o', es', ep', ho', c', d', kk, pp, nn⟩ := I.hok a _ hq
    rw [ho] at ho'
    cases ho'
    rw [hd] at d'
    cases d'
    have hm : s.heap.DictAt (mixKind X.prog X.w) a vs ep := ⟨o, es, ho, c', hd, kk, pp, nn⟩
    obtain ⟨f0, f1, f2, f3, f4, f5⟩ := hf it (by simp)
    have hlen : kvs.length = vs.length := rel.length
    obtain ⟨u, hu⟩ := kv_get (k := kvs[i].1) (v := kvs[i].2) (i := i) rel (by simp [hlt])
    have st' : s.heap.IsKeyIter it a i vs.length ep := by rw [← hlen]; exact st
    refine wpAny_pyNext_dict_item st' hm hu fun key h' hk hit sb => ?_
    have I1 : Inv X pins σ H { s with heap := h' } := I.turned (t' := s.toks) (fun b o hb e => (sb.2 b hb).trans e) f0 f1 f3 f4 f5
    obtain ⟨oi, ei, ci, di⟩ := id hit
    refine ⟨key, rfl, go_of (s := { s with heap := h' }) ei ci di (by decide) ⟨kV kvs[i].1, H, I1, kV_of hk, ⟨rfl, kvs[i].1, kvs[i].2, by simp [hlt], rfl⟩, ?_, fun b hb => (hf b hb).1⟩⟩
    rw [hlen]
    exact hit
  done := by
    intro X hP hw hK hc i pins s σ H E I hf st hg
    subst hP hw hK
    obtain ⟨hq, hlt⟩ := hg
    obtain ⟨ho, hz, hS, vs, rel, o', es', ep', ho', c', d', kk, pp, nn⟩ := I.hok a _ hq
    rw [ho] at ho'
    cases ho'
    rw [hd] at d'
    cases d'
    have hm : s.heap.DictAt (mixKind X.prog X.w) a vs ep := ⟨o, es, ho, c', hd, kk, pp, nn⟩
    obtain ⟨f0, f1, f2, f3, f4, f5⟩ := hf it (by simp)
    have hlen : kvs.length = vs.length := rel.length
    have st' : s.heap.IsKeyIter it a i vs.length ep := by rw [← hlen]; exact st
    exact wpAny_pyNext_dict_end (I.ok.hd hc) st' hm (by simp; omega) fun h' eb => ⟨rfl, I.turned (t' := s.toks) (fun b o hb e => eb b o hb e) f0 f1 f3 f4 f5⟩
  self := fun _ _ _ _ _ st h => wpAny_pyIter_keyiter st h
section
variable {X : Cx}
def iDct (te : TE) : TI := fun σ H R => te σ H fun x H1 => ∃ a kvs, x = .ref a ∧ H1 a = some (.dK kvs) ∧ ∀ o, R (ItD a o kvs) (upd H1 a (.frz o (.dK kvs)))
theorem pi_dct {tg l : Expr} {te : TE} (hl : PE X l te) : PI X tg l (iDct te) := by
  intro pins s σ H R I h
  refine thn (hl pins s σ H _ I h) fun v s1 ⟨x, H1, I1, r1, q1⟩ => ?_
  obtain ⟨a, kvs, e, ha, q⟩ := q1
  subst e
  cases r1
  obtain ⟨o, ho, I2⟩ := I1.freeze ha
  obtain ⟨hz, hS, vs, rel, o', es, ep, ho', c', d', kk, pp, nn⟩ := I1.hok a _ ha
  rw [ho] at ho'
  cases ho'
  have hm : s1.heap.DictAt (mixKind X.prog X.w) a vs ep := ⟨o, es, ho, c', d', kk, pp, nn⟩
  have hlen : kvs.length = vs.length := rel.length
  refine wpAny_pyIter_dict hS hm ?_
  refine ⟨s1.heap.objs.size, [s1.heap.objs.size], _, _, _, rfl, I2.kept (t' := s1.toks) fun b o e => Heap.get?_push_of_some _ e, turn_dict a _ o kvs es ep d', ?_, fun b hb => ?_, q o⟩
  · rw [hlen]
    exact ⟨_, Heap.get?_push_size _ rfl, rfl, rfl⟩
  · have e : b = s1.heap.objs.size := by simpa using hb
    subst e
    exact I2.fpOk (Nat.le_refl _) (I2.hok.fresh (Nat.le_refl _))
def tTruL (ta : TE) : TT := fun σ H Q => ta σ H fun x H' => ∃ a xs, x = .ref a ∧ H' a = some (.lst xs) ∧ Q (!xs.isEmpty) H'
def tTruD (ta : TE) : TT := fun σ H Q => ta σ H fun x H' => ∃ a kvs, x = .ref a ∧ H' a = some (.dK kvs) ∧ Q (!kvs.isEmpty) H'
theorem PE.wk {e : Expr} {t : TE} (h : PE X e t) {pins : List (Addr × Obj)} {s : Shared} {σ : St} {H : Hp} {Q : VK} (I : Inv X pins σ H s) (q : t σ H Q) : wpAny (model X.prog X.w) X.A (eval e X.env) (EP X pins σ Q) X.xe s := h pins s σ H Q I q
theorem pt_truD {a : Expr} {ta : TE} (ha : PE X a ta) (he : ∀ whole, isTrue a X.env whole = (do let v ← whole; standAt a.pos; holding [v] (truthy v)) := by intro _; rfl) : PT X a (tTruD ta) := by
  intro pins s σ H Q I h
  refine isTrue_plain (thn (ha pins s σ H _ I h) fun v s1 ⟨x, H1, I1, r1, q1⟩ => ?_) (he _)
  obtain ⟨a, xs, e, hx, q⟩ := q1
  exact tru_ok pins s1 σ H1 x v Q I1 r1 ⟨_, by subst e; exact .inr (.inr ⟨xs, hx, rfl⟩), q⟩
end
mutual
def noLst : PyData → Bool
  | .none | .bool _ | .int _ | .str _ => true
  | .list _ => false
  | .tuple ds => noLsts ds
  | .dict _ => false
def noLsts : List PyData → Bool
  | [] => true
  | d :: ds => noLst d && noLsts ds
end
def KeepU (H H' : Hp) : Prop := ∀ a xs, H a = some (.tup xs) → H' a = some (.tup xs)
theorem KeepU.refl (H : Hp) : KeepU H H := fun _ _ h => h
theorem KeepU.trans {H H1 H2 : Hp} (a : KeepU H H1) (b : KeepU H1 H2) : KeepU H H2 := fun c xs h => b c xs (a c xs h)
theorem Same.ku {H H' : Hp} (s : Same H H') : KeepU H H' := fun a xs h => s a _ h
theorem ku_set {H : Hp} {p : Addr} {o u : HO} (h : H p = some u) (n : ∀ xs, u ≠ .tup xs) : KeepU H (upd H p o) := fun a xs e => by
  rw [upd_ne (fun z => by rw [z, h] at e; exact n xs (Option.some.inj e))]; exact e
mutual
theorem RD.ku {H H' : Hp} (k : KeepU H H') : ∀ (d : PyData) (v : V), noLst d = true → RD H d v → RD H' d v
  | .none, v, _, h => by rw [RD] at h ⊢; exact h
  | .bool b, v, _, h => by rw [RD] at h ⊢; exact h
  | .int i, v, _, h => by rw [RD] at h ⊢; exact h
  | .str x, v, _, h => by rw [RD] at h ⊢; exact h
  | .list ds, v, n, h => by rw [noLst] at n; cases n
  | .tuple ds, v, n, h => by
    rw [noLst] at n
    rw [RD] at h ⊢
    obtain ⟨a, xs, e, ha, r⟩ := h
    exact ⟨a, xs, e, k a xs ha, RDs.ku k ds xs n r⟩
  | .dict _, v, n, h => by rw [noLst] at n; cases n
theorem RDs.ku {H H' : Hp} (k : KeepU H H') : ∀ (ds : List PyData) (xs : List V), noLsts ds = true → RDs H ds xs → RDs H' ds xs
  | [], xs, _, h => by rw [RDs] at h ⊢; exact h
  | d :: ds, xs, n, h => by
    rw [noLsts, Bool.and_eq_true] at n
    rw [RDs] at h ⊢
    obtain ⟨x, r, e, h1, h2⟩ := h
    exact ⟨x, r, e, RD.ku k d x n.1 h1, RDs.ku k ds r n.2 h2⟩
end
mutual
theorem RD.same {H H' : Hp} (k : Same H H') : ∀ (d : PyData) (v : V), RD H d v → RD H' d v
  | .none, v, h => by rw [RD] at h ⊢; exact h
  | .bool b, v, h => by rw [RD] at h ⊢; exact h
  | .int i, v, h => by rw [RD] at h ⊢; exact h
  | .str x, v, h => by rw [RD] at h ⊢; exact h
  | .list ds, v, h => by
    rw [RD] at h ⊢
    obtain ⟨a, xs, e, ha, r⟩ := h
    exact ⟨a, xs, e, k a _ ha, RDs.same k ds xs r⟩
  | .tuple ds, v, h => by
    rw [RD] at h ⊢
    obtain ⟨a, xs, e, ha, r⟩ := h
    exact ⟨a, xs, e, k a _ ha, RDs.same k ds xs r⟩
  | .dict _, v, h => by rw [RD] at h; exact h.elim
theorem RDs.same {H H' : Hp} (k : Same H H') : ∀ (ds : List PyData) (xs : List V), RDs H ds xs → RDs H' ds xs
  | [], xs, h => by rw [RDs] at h ⊢; exact h
  | d :: ds, xs, h => by
    rw [RDs] at h ⊢
    obtain ⟨x, r, e, h1, h2⟩ := h
    exact ⟨x, r, e, RD.same k d x h1, RDs.same k ds r h2⟩
end
theorem RDs.len {H : Hp} : ∀ {ds : List PyData} {xs : List V}, RDs H ds xs → xs.length = ds.length
  | [], xs, h => by rw [RDs] at h; rw [h]; rfl
  | d :: ds, xs, h => by
    rw [RDs] at h
    obtain ⟨x, r, e, _, h2⟩ := h
    rw [e, List.length_cons, List.length_cons, RDs.len h2]
theorem RDs.get {H : Hp} : ∀ {ds : List PyData} {xs : List V} {i : Nat} {d : PyData}, RDs H ds xs → ds[i]? = some d → ∃ x, xs[i]? = some x ∧ RD H d x
  | [], xs, i, d, h, e => by cases e
  | d0 :: ds, xs, i, d, h, e => by
    rw [RDs] at h
    obtain ⟨y, r, ey, h1, h2⟩ := h
    rw [ey]
    cases i with
    | zero => cases e; exact ⟨y, rfl, h1⟩
    | succ i =>
      obtain ⟨x, h3, h4⟩ := RDs.get (ds := ds) (xs := r) (i := i) (d := d) h2 (by simpa using e)
      exact ⟨x, by simpa using h3, h4⟩
theorem RDs.get' {H : Hp} : ∀ {ds : List PyData} {xs : List V} {i : Nat} {x : V}, RDs H ds xs → xs[i]? = some x → ∃ d, ds[i]? = some d ∧ RD H d x
  | [], xs, i, x, h, e => by rw [RDs] at h; rw [h] at e; cases e
  | d :: ds, xs, i, x, h, e => by
    rw [RDs] at h
    obtain ⟨y, r, ey, h1, h2⟩ := h
    rw [ey] at e
    cases i with
    | zero => cases e; exact ⟨d, rfl, h1⟩
    | succ i => exact RDs.get' (ds := ds) (xs := r) (i := i) h2 (by simpa using e)
theorem RDs.app {H : Hp} : ∀ {ds es : List PyData} {xs ys : List V}, RDs H ds xs → RDs H es ys → RDs H (ds ++ es) (xs ++ ys)
  | [], es, xs, ys, h, h' => by rw [RDs] at h; rw [h]; exact h'
  | d :: ds, es, xs, ys, h, h' => by
    rw [RDs] at h
    obtain ⟨x, r, e, h1, h2⟩ := h
    rw [e, List.cons_append, List.cons_append, RDs]
    exact ⟨x, _, rfl, h1, RDs.app h2 h'⟩
theorem RDs.one {H : Hp} {d : PyData} {x : V} (h : RD H d x) : RDs H [d] [x] := by
  rw [RDs]
  refine ⟨x, _, rfl, h, ?_⟩
  rw [RDs]
theorem RDs.nil {H : Hp} : RDs H [] [] := by rw [RDs]
theorem RDs.cons {H : Hp} {d : PyData} {x : V} {ds : List PyData} {xs : List V} (h : RD H d x) (t : RDs H ds xs) : RDs H (d :: ds) (x :: xs) := by
  rw [RDs]
  exact ⟨x, _, rfl, h, t⟩
theorem RD.int_mk {H : Hp} {i : Int} : RD H (.int i) (.int i) := by rw [RD]
theorem RD.tup_mk {H : Hp} {a : Addr} {xs : List V} {ds : List PyData} (h : H a = some (.tup xs)) (r : RDs H ds xs) : RD H (.tuple ds) (.ref a) := by
  rw [RD]
  exact ⟨a, xs, rfl, h, r⟩
theorem RD.tup_of {H : Hp} {v : V} {ds : List PyData} (h : RD H (.tuple ds) v) : ∃ a xs, v = .ref a ∧ H a = some (.tup xs) ∧ RDs H ds xs := by rw [RD] at h; exact h
theorem RD.int_of {H : Hp} {v : V} {x : Int} (h : RD H (.int x) v) : v = .int x := by rw [RD] at h; exact h
theorem RDs.nil_of {H : Hp} {xs : List V} (h : RDs H [] xs) : xs = [] := by rw [RDs] at h; exact h
theorem RDs.cons_of {H : Hp} {d : PyData} {ds : List PyData} {xs : List V} (h : RDs H (d :: ds) xs) : ∃ x r, xs = x :: r ∧ RD H d x ∧ RDs H ds r := by rw [RDs] at h; exact h
end L2
set_option Elab.async false
set_option linter.all false
set_option maxRecDepth 100000
namespace NP
open PySem L2
structure Wr where
  name : Str
  lag : Int
  gives : Int
  floor : Int
  stock : Int
  coming : List (Int × Int)
  parts : List (Str × Int)
def arrD (p : Int × Int) : PyData := .tuple [.int p.1, .int p.2]
def partD (p : Str × Int) : PyData := .tuple [.str p.1, .int p.2]
def Wr.d (w : Wr) : PyData := .tuple [.str w.name, .int w.lag, .int w.gives, .int w.floor, .int w.stock, .tuple (w.coming.map arrD), .tuple (w.parts.map partD)]
abbrev Wt := Str × Int × Int
def wantD (p : Wt) : PyData := .tuple [.str p.1, .int p.2.1, .int p.2.2]
structure Sh where
  wares : List Wr
  wants : List Wt
def Sh.d (S : Sh) : PyData := .tuple [.tuple (S.wares.map Wr.d), .tuple (S.wants.map wantD)]
theorem nl_map {α : Type} (f : α → PyData) (h : ∀ x, noLst (f x) = true) : ∀ xs : List α, noLsts (xs.map f) = true
  | [] => by rw [List.map_nil, noLsts]
  | x :: r => by rw [List.map_cons, noLsts, h x, nl_map f h r]; rfl
theorem rds_map {α : Type} {H : Hp} {f : α → PyData} {xs : List α} {vs : List V} {i : Nat} {v : V} (h : RDs H (xs.map f) vs) (e : vs[i]? = some v) : ∃ x, xs[i]? = some x ∧ RD H (f x) v := by
  obtain ⟨d, hd, r⟩ := RDs.get' h e
  rw [List.getElem?_map] at hd
  cases ex : xs[i]? with
  | none => rw [ex] at hd; cases hd
  | some x => rw [ex] at hd; cases hd; exact ⟨x, rfl, r⟩
theorem rds_map' {α : Type} {H : Hp} {f : α → PyData} {xs : List α} {vs : List V} {i : Nat} {x : α} (h : RDs H (xs.map f) vs) (e : xs[i]? = some x) : ∃ v, vs[i]? = some v ∧ RD H (f x) v := RDs.get h (by rw [List.getElem?_map, e]; rfl)
theorem rds_len {α : Type} {H : Hp} {f : α → PyData} {xs : List α} {vs : List V} (h : RDs H (xs.map f) vs) : vs.length = xs.length := by have := RDs.len h; rw [List.length_map] at this; exact this
abbrev Gr := List (Str × List Str)
def keysG (G : Gr) : List Str := G.map (·.1)
def PDk (H : Hp) (kvs : List (Key × V)) (G : Gr) : Prop := Paired (fun (e : Str × List Str) (kv : Key × V) => kv.1 = .inr e.1 ∧ ∃ l, kv.2 = .ref l ∧ H l = some (.lst (e.2.map V.str))) G kvs
theorem PDk.mono {H H' : Hp} {kvs : List (Key × V)} {G : Gr} (h : PDk H kvs G) (k : ∀ l xs, H l = some (.lst xs) → H' l = some (.lst xs)) : PDk H' kvs G :=
  Paired.mapP h fun e kv ⟨h1, l, h2, h3⟩ => ⟨h1, l, h2, k l _ h3⟩
theorem PDk.keys : ∀ {H : Hp} {kvs : List (Key × V)} {G : Gr}, PDk H kvs G → kvs.map (·.1) = (keysG G).map Sum.inr
  | _, _, _, .nil => rfl
  | _, _, _, .cons r t => by
    unfold keysG
    rw [List.map_cons, List.map_cons, List.map_cons, r.1]
    exact congrArg _ (PDk.keys t)
theorem PDk.get : ∀ {H : Hp} {kvs : List (Key × V)} {G : Gr} {i : Nat} {e : Str × List Str}, PDk H kvs G → G[i]? = some e → ∃ l, kvs[i]? = some (.inr e.1, .ref l) ∧ H l = some (.lst (e.2.map V.str))
  | _, _, _, _, _, .nil, h => by simp at h
  | _, (k, v) :: _, _, 0, e, .cons r _, h => by
    simp at h
    subst h
    obtain ⟨h1, l, h2, h3⟩ := r
    have h1 : k = _ := h1
    have h2 : v = _ := h2
    exact ⟨l, by rw [h1, h2]; rfl, h3⟩
  | _, _ :: _, _, i + 1, e, .cons _ t, h => by
    obtain ⟨l, q⟩ := PDk.get (i := i) (e := e) t (by simpa using h)
    exact ⟨l, by simpa using q.1, q.2⟩
theorem PDk.get' : ∀ {H : Hp} {kvs : List (Key × V)} {G : Gr} {i : Nat} {k : Key} {v : V}, PDk H kvs G → kvs[i]? = some (k, v) → ∃ e l, G[i]? = some e ∧ k = .inr e.1 ∧ v = .ref l ∧ H l = some (.lst (e.2.map V.str))
  | _, _, _, _, _, _, .nil, h => by simp at h
  | _, _, e :: _, 0, k, v, .cons r _, h => by
    simp at h
    subst h
    obtain ⟨h1, l, h2, h3⟩ := r
    exact ⟨e, l, rfl, h1, h2, h3⟩
  | _, _, _ :: _, i + 1, k, v, .cons _ t, h => by
    obtain ⟨e, l, q⟩ := PDk.get' (i := i) t (by simpa using h)
    exact ⟨e, l, by simpa using q.1, q.2⟩
theorem valV_has {κ : Type} [DecidableEq κ] (kvs : List (κ × V)) (k : κ) : (valV kvs k).isSome = decide (k ∈ kvs.map (·.1)) := by
  rw [← valV_any]
  induction kvs with
  | nil => rfl
  | cons p r ih =>
    rw [List.any_cons, ih, List.map_cons]
    by_cases h : p.1 = k
    · subst h; simp
    · have h' : ¬ k = p.1 := fun e => h e.symm
      simp [h, h']
theorem PDk.has {H : Hp} {kvs : List (Key × V)} {G : Gr} (h : PDk H kvs G) (x : Str) : (valV kvs (.inr x)).isSome = decide (x ∈ keysG G) := by
  rw [valV_has, h.keys]
  congr 1
  apply propext
  constructor
  · intro m
    obtain ⟨y, hy, e⟩ := List.mem_map.mp m
    cases e
    exact hy
  · exact fun m => List.mem_map.mpr ⟨x, m, rfl⟩
theorem paired_app {α β : Type} {F : α → β → Prop} : ∀ {a c : List α} {b d : List β}, Paired F a b → Paired F c d → Paired F (a ++ c) (b ++ d)
  | _, _, _, _, .nil, s => s
  | _, _, _, _, .cons r t, s => .cons r (paired_app t s)
theorem PDk.snoc {H : Hp} {kvs : List (Key × V)} {G : Gr} {n : Str} {l : Addr} {ps : List Str} (h : PDk H kvs G) (hn : n ∉ keysG G) (hl : H l = some (.lst (ps.map V.str))) : PDk H (putK kvs (.inr n) (.ref l)) (G ++ [(n, ps)]) := by
  have hv : valV kvs (.inr n) = none := by
    have := h.has n
    rw [decide_eq_false hn] at this
    cases e : valV kvs (.inr n) with
    | none => rfl
    | some v => rw [e] at this; cases this
  rw [putK_new _ hv]
  exact paired_app h (.cons ⟨rfl, l, rfl, hl⟩ .nil)
theorem PDk.len {H : Hp} {kvs : List (Key × V)} {G : Gr} (h : PDk H kvs G) : kvs.length = G.length := (Paired.length h).symm
end NP
set_option Elab.async false
set_option linter.all false
set_option maxRecDepth 100000
namespace L2
open PySem PySem.Spec PyProof.Rows
section
variable {prog : Program} {w : World} {A : Around} {E : Value → Shared → Prop} {s : Shared}
end
section
variable {X : Cx}
def tLrev (te : TE) : TE := fun σ H Q => te σ H fun x H1 => ∃ a xs, x = .ref a ∧ H1 a = some (.lst xs) ∧ ∀ p, H1 p = none → Q (.ref p) (upd H1 p (.lst xs.reverse))
end
end L2
set_option Elab.async false
set_option linter.all false
set_option maxRecDepth 100000
namespace L2
open PySem PySem.Spec PyProof.Rows
theorem gown_tup2 {K : PySem.W.Frag} : GOwn 2 (gTup K 2 (gCons (gName 0) (gCons (gName 1) gNil))) := fun v σ H Q h => by
  obtain ⟨a, xs, e, hq, hl, v1, r1, e1, v2, r2, e2, e3, q⟩ := h
  exact ⟨a, xs, e, hq, hl, v1, r1, e1, v2, r2, e2, e3, ⟨⟨by simp, fun j hj => by rw [List.getElem?_set_ne (by omega), List.getElem?_set_ne (by omega)]⟩, q⟩⟩
theorem gown_tup3 {K : PySem.W.Frag} : GOwn 3 (gTup K 3 (gCons (gName 0) (gCons (gName 1) (gCons (gName 2) gNil)))) := fun v σ H Q h => by
  obtain ⟨a, xs, e, hq, hl, v1, r1, e1, v2, r2, e2, v3, r3, e3, e4, q⟩ := h
  exact ⟨a, xs, e, hq, hl, v1, r1, e1, v2, r2, e2, v3, r3, e3, e4, ⟨⟨by simp, fun j hj => by rw [List.getElem?_set_ne (by omega), List.getElem?_set_ne (by omega), List.getElem?_set_ne (by omega)]⟩, q⟩⟩
theorem gt3 {K : PySem.W.Frag} {i j k : Nat} {p : Addr} {x y z : V} {σ : St} {H : Hp} {Q : St → Hp → Prop} (e : H p = some (.tup [x, y, z])) (h : Q (((σ.set i (some x)).set j (some y)).set k (some z)) H) :
    gTup K 3 (gCons (gName i) (gCons (gName j) (gCons (gName k) gNil))) (.ref p) σ H Q := ⟨p, _, rfl, SqT.of e, rfl, _, _, rfl, _, _, rfl, _, _, rfl, rfl, h⟩
theorem comp_t {J : It} {n : Nat} {yl : Nat → List V → Prop} {ok : Hp → Prop} {own : List Str} {cap : List Nat} {g : TG} {tt : TT} {te : TE} {σ : St} {H : Hp} {Q : VK} (G : GoesT J n yl ok) (hn : n ≤ sizeLine) (Pv : Nat → List V → Hp → Prop) (h0 : Pv 0 [] H) (hok : ∀ i acc H, i ≤ n → Pv i acc H → ok H)
    (hlen : ∀ i acc H, Pv i acc H → acc.length ≤ i)
    (hs : ∀ i ys p acc H, i < n → yl i ys → Pv i acc H → H p = none → g (.ref p) (cpSt own cap σ) (upd H p (.tup ys)) fun σ2 H2 => tt σ2 H2 fun b H3 => if b = true then te σ2 H3 fun y H4 => Pv (i + 1) (acc ++ [y]) H4 else Pv (i + 1) acc H3)
    (hd : ∀ acc H, Pv n acc H → ∀ p, H p = none → Q (.ref p) (upd H p (.lst acc))) : NP.CompW J own cap g tt te σ H Q := by
  refine ⟨fun i m acc H => m = n - i ∧ i ≤ n ∧ Pv i acc H, ⟨n, by simp, Nat.zero_le _, h0⟩, ?_⟩
  rintro i m acc H ⟨rfl, hi, p⟩
  have q := hok i acc H hi p
  have hl := hlen i acc H p
  refine ⟨by omega, ?_⟩
  by_cases hlt : i < n
  · refine .inr ⟨G.go i H hlt q, by omega, Pv (i + 1), fun acc' H' p' => ⟨n - (i + 1), by omega, rfl, hlt, p'⟩, fun x H' y => ?_⟩
    obtain ⟨a, ys, e1, e2, e3, y'⟩ := G.yld i H x H' hlt q y
    subst e1 e3
    exact hs i ys a acc H hlt y' p e2
  · have e : i = n := by omega
    subst e
    exact .inl ⟨G.stop H q, hd acc H p⟩
theorem comp_w {J : It} {n : Nat} {yl : Nat → V → Prop} {ok : Hp → Prop} {own : List Str} {cap : List Nat} {g : TG} {tt : TT} {te : TE} {σ : St} {H : Hp} {Q : VK} (G : Goes J n yl ok) (hn : n ≤ sizeLine) (Pv : Nat → List V → Hp → Prop) (h0 : Pv 0 [] H) (hok : ∀ i acc H, i ≤ n → Pv i acc H → ok H)
    (hlen : ∀ i acc H, Pv i acc H → acc.length ≤ i)
    (hs : ∀ i x acc H, i < n → yl i x → Pv i acc H → g x (cpSt own cap σ) H fun σ2 H2 => tt σ2 H2 fun b H3 => if b = true then te σ2 H3 fun y H4 => Pv (i + 1) (acc ++ [y]) H4 else Pv (i + 1) acc H3)
    (hd : ∀ acc H, Pv n acc H → ∀ p, H p = none → Q (.ref p) (upd H p (.lst acc))) : NP.CompW J own cap g tt te σ H Q := comp_goes G hn Pv h0 hok hlen hs hd
end L2
set_option Elab.async false
set_option linter.all false
set_option maxRecDepth 100000
namespace L2
open PySem PySem.Spec PyProof.Rows
def best (ns : Nat → Int) : Nat → Int
  | 0 => ns 0
  | k + 1 => if ns (k + 1) > best ns k then ns (k + 1) else best ns k
section
variable {prog : Program} {w : World} {A : Around} {R : Result → Shared → Prop} {I : Addr} {fp wr : List Addr} {n : Nat} {P : Nat → Value → Prop} {St : Nat → Heap → Prop}
end
end L2
set_option Elab.async false
set_option linter.all false
set_option maxRecDepth 100000
namespace L2
open PySem PySem.Spec PyProof.Rows
def maxL (ns : List Int) : Int := best (fun i => (ns[i]?).getD 0) (ns.length - 1)
def max0 (ns : List Int) : Int := if ns = [] then 0 else maxL ns
section
variable {X : Cx}
def rMaxL : List V → Hp → VK → Prop := fun vs H Q => ∃ a ns, vs = [.ref a] ∧ H a = some (.lst (ns.map V.int)) ∧ ns ≠ [] ∧ Q (.int (maxL ns)) H
def tMaxd (te : TE) : TE := fun σ H Q => te σ H fun x H1 => ∃ a ns, x = .ref a ∧ H1 a = some (.lst (ns.map V.int)) ∧ Q (.int (max0 ns)) H1
end
end L2
set_option Elab.async false
set_option linter.all false
set_option maxRecDepth 100000
namespace L2
open PySem PySem.Spec PyProof.Rows
section
variable {X : Cx}
def rGetL : V → V → Hp → VK → Prop := fun o i H Q => ∃ p xs k v, o = .ref p ∧ i = .int k ∧ H p = some (.lst xs) ∧ 0 ≤ k ∧ xs[k.toNat]? = some v ∧ Q v H
end
end L2
set_option Elab.async false
set_option linter.all false
set_option maxRecDepth 100000
namespace NP
open PySem L2
def rowOf (n : Nat) (f : Nat → Int) : List Int := (List.range n).map f
theorem rowOf_len (n : Nat) (f : Nat → Int) : (rowOf n f).length = n := by simp [rowOf]
theorem rowOf_get {n : Nat} {f : Nat → Int} {i : Nat} (h : i < n) : (rowOf n f)[i]? = some (f i) := by simp [rowOf, h]
theorem rowOf_getD {n : Nat} {f : Nat → Int} {i : Nat} (h : i < n) : (rowOf n f).getD i 0 = f i := by rw [List.getD_eq_getElem?_getD, rowOf_get h]; rfl
theorem rowOf_eq {n : Nat} {f g : Nat → Int} (h : ∀ i, i < n → f i = g i) : rowOf n f = rowOf n g := by
  apply List.ext_getElem?
  intro i
  by_cases hi : i < n
  · rw [rowOf_get hi, rowOf_get hi, h i hi]
  · rw [List.getElem?_eq_none (by rw [rowOf_len]; omega), List.getElem?_eq_none (by rw [rowOf_len]; omega)]
theorem rowOf_succ (n : Nat) (f : Nat → Int) : rowOf (n + 1) f = rowOf n f ++ [f n] := by
  unfold rowOf
  rw [List.range_succ, List.map_append]
  rfl
theorem rep_zero (k : Nat) : (List.replicate k [V.int 0]).flatten = (rowOf k fun _ => 0).map V.int := by
  induction k with
  | zero => rfl
  | succ k ih =>
    rw [List.replicate_succ', List.flatten_append, ih, rowOf_succ, List.map_append]
    rfl
end NP
set_option Elab.async false
set_option linter.all false
set_option maxRecDepth 100000
namespace L2
open PySem PySem.Spec PyProof.Rows
def ItI (a : Addr) (o : Obj) (kvs : List (Key × V)) : It := ⟨fun i H => H a = some (.frz o (.dK kvs)) ∧ i < kvs.length, fun i H x H' => ∃ p k v, x = .ref p ∧ H p = none ∧ kvs[i]? = some (k, v) ∧ H' = upd H p (.tup [kV k, v]), fun i H => H a = some (.frz o (.dK kvs)) ∧ kvs.length ≤ i⟩
section
variable {X : Cx}
def iItm (te : TE) : TI := fun σ H R => te σ H fun x H1 => ∃ a kvs, x = .ref a ∧ H1 a = some (.dK kvs) ∧ ∀ o, R (ItI a o kvs) (upd H1 a (.frz o (.dK kvs)))
def LikeK (H : Hp) (ka kb : List (Key × V)) : Prop := ∀ p ∈ ka, ∃ y d e, valV kb p.1 = some y ∧ RD H d p.2 ∧ RD H e y ∧ okD d = true ∧ okD e = true ∧ PyData.eqv d e = true
def rEqK : R2 := fun x y H Q => ∃ a b ka kb, x = .ref a ∧ y = .ref b ∧ Rd H a (.dK ka) ∧ Rd H b (.dK kb) ∧ ka.length = kb.length ∧ LikeK H ka kb ∧ Q (.bl true) H
def rNeK : R2 := fun x y H Q => ∃ a b ka kb, x = .ref a ∧ y = .ref b ∧ Rd H a (.dK ka) ∧ Rd H b (.dK kb) ∧ ka.length = kb.length ∧ LikeK H ka kb ∧ Q (.bl false) H
end
end L2
set_option Elab.async false
set_option linter.all false
set_option maxRecDepth 100000
namespace L2
open PySem PySem.Spec PyProof.Rows PySem.W NP
def klt (key : Nat → Int) (a b : Nat) : Prop := key a < key b ∨ (key a = key b ∧ a < b)
section
variable {n : Nat} {key : Nat → Int}
abbrev pat (p : Array Nat) (k : Nat) : Nat := p.getD k 0
theorem pat_rev {p : Array Nat} {i j : Nat} (hj : j ≤ p.size) (k : Nat) : pat (kas_rev p i j) k = if i ≤ k ∧ k < j then pat p (i + j - 1 - k) else pat p k := by
  have e := getElem?_mirror_all (i := i) hj k
  unfold pat kas_rev
  rw [Array.getD_eq_getD_getElem?, e]
  by_cases h1 : i ≤ k ∧ k < j
  · rw [if_pos h1, if_pos h1, Array.getD_eq_getD_getElem?]
  · rw [if_neg h1, if_neg h1, Array.getD_eq_getD_getElem?]
theorem rev_size (p : Array Nat) (i j : Nat) : (kas_rev p i j).size = p.size := mirror_size _ _ _ _
theorem rev_perm (p : Array Nat) (i j : Nat) : (kas_rev p i j).toList.Perm p.toList := Array.perm_iff_toList_perm.mp (mirror_perm _ _ _ _)
structure Srt (n : Nat) (key : Nat → Int) (p : Array Nat) (m : Nat) : Prop where
  sz : p.size = n
  pm : p.toList.Perm (List.range n)
  up : ∀ i j, i < j → j < m → klt key (pat p i) (pat p j)
  fix : ∀ k, m ≤ k → k < n → pat p k = k
  low : ∀ k, k < m → pat p k < m
theorem Srt.lt {p : Array Nat} {m : Nat} (h : Srt n key p m) {k : Nat} (hm : m ≤ n) (hk : k < n) : pat p k < n := by
  by_cases z : k < m
  · have := h.low k z; omega
  · rw [h.fix k (by omega) hk]; exact hk
structure Fal (n : Nat) (key : Nat → Int) (p : Array Nat) (m q : Nat) : Prop where
  sz : p.size = n
  pm : p.toList.Perm (List.range n)
  q1 : q + 1 ≤ m
  m1 : m ≤ n
  dn : ∀ i j, i < j → j < m - (q + 1) → klt key (pat p j) (pat p i)
  fix : ∀ k, m - (q + 1) ≤ k → k < n → pat p k = k
  low : ∀ k, k < m - (q + 1) → pat p k < m - (q + 1)
  cr : ∀ i, i < m - (q + 1) → key (m - 1) < key (pat p i)
  eq : ∀ k, m - (q + 1) ≤ k → k < m → key k = key (m - 1)
structure Dwn (n : Nat) (key : Nat → Int) (p : Array Nat) (m : Nat) : Prop where
  sz : p.size = n
  pm : p.toList.Perm (List.range n)
  dn : ∀ i j, i < j → j < m → klt key (pat p j) (pat p i)
  fix : ∀ k, m ≤ k → k < n → pat p k = k
  low : ∀ k, k < m → pat p k < m
  last : ∀ i, i < m → key (m - 1) ≤ key (pat p i)
theorem Fal.turn {p : Array Nat} {m q : Nat} (h : Fal n key p m q) : Dwn n key (kas_rev p (m - (q + 1)) m) m := by
  have hm := h.m1
  have h1 := h.q1
  have pr := fun k => pat_rev (p := p) (i := m - (q + 1)) (j := m) (by rw [h.sz]; exact hm) k
  refine ⟨by rw [rev_size, h.sz], (rev_perm _ _ _).trans h.pm, fun i j hij hj => ?_, fun k hk hkn => ?_, fun k hk => ?_, fun i hi => ?_⟩
  · have vi1 : m - (q + 1) ≤ i → pat (kas_rev p (m - (q + 1)) m) i = m - (q + 1) + m - 1 - i := fun a => by rw [pr i, if_pos ⟨a, by omega⟩]; exact h.fix _ (by omega) (by omega)
    have vi2 : ¬ m - (q + 1) ≤ i → pat (kas_rev p (m - (q + 1)) m) i = pat p i := fun a => by rw [pr i, if_neg (fun z => a z.1)]
    have vj1 : m - (q + 1) ≤ j → pat (kas_rev p (m - (q + 1)) m) j = m - (q + 1) + m - 1 - j := fun a => by rw [pr j, if_pos ⟨a, hj⟩]; exact h.fix _ (by omega) (by omega)
    have vj2 : ¬ m - (q + 1) ≤ j → pat (kas_rev p (m - (q + 1)) m) j = pat p j := fun a => by rw [pr j, if_neg (fun z => a z.1)]
    by_cases a : m - (q + 1) ≤ i
    · rw [vi1 a, vj1 (by omega)]
      have e1 := h.eq (m - (q + 1) + m - 1 - i) (by omega) (by omega)
      have e2 := h.eq (m - (q + 1) + m - 1 - j) (by omega) (by omega)
      unfold klt
      omega
    · rw [vi2 a]
      by_cases b : m - (q + 1) ≤ j
      · rw [vj1 b]
        have e2 := h.eq (m - (q + 1) + m - 1 - j) (by omega) (by omega)
        have e3 := h.cr i (by omega)
        unfold klt
        omega
      · rw [vj2 b]
        exact h.dn i j hij (by omega)
  · rw [pr k, if_neg (by omega)]
    exact h.fix k (by omega) hkn
  · rw [pr k]
    split
    · rw [h.fix _ (by omega) (by omega)]; omega
    · have := h.low k (by omega); omega
  · rw [pr i]
    split
    · rw [h.fix _ (by omega) (by omega)]
      have := h.eq (m - (q + 1) + m - 1 - i) (by omega) (by omega)
      omega
    · have := h.cr i (by omega); omega
theorem Fal.one {p : Array Nat} {m : Nat} (h : Fal n key p m 0) : Dwn n key p m := by
  have hm := h.m1
  have h1 := h.q1
  have e := h.fix (m - 1) (by omega) (by omega)
  refine ⟨h.sz, h.pm, fun i j hij hj => ?_, fun k hk hkn => h.fix k (by omega) hkn, fun k hk => ?_, fun i hi => ?_⟩
  · by_cases z : j = m - 1
    · rw [z, e]
      have := h.cr i (by omega)
      exact .inl this
    · exact h.dn i j hij (by omega)
  · by_cases z : k = m - 1
    · rw [z, e]; omega
    · have := h.low k (by omega); omega
  · by_cases z : i = m - 1
    · rw [z, e]; exact Int.le_refl _
    · have := h.cr i (by omega); omega
theorem Dwn.next {p : Array Nat} {m : Nat} (h : Dwn n key p m) (h1 : 1 ≤ m) (hm : m < n) (c : key m < key (m - 1)) : Fal n key p (m + 1) 0 :=
  ⟨h.sz, h.pm, by omega, by omega, fun i j hij hj => h.dn i j hij (by omega), fun k hk hkn => h.fix k (by omega) hkn, fun k hk => by have := h.low k (by omega); omega, fun i hi => by
    have := h.last i (by omega)
    show key m < _
    omega, fun k hk hk2 => by
    have : k = m := by omega
    subst this
    rfl⟩
end
def SortK (kz : Str → Int) (xs ys : List Str) : Prop := ys.Perm xs ∧ ys.Pairwise fun a b => kz a ≤ kz b
def StabK (kz : Str → Int) (xs ys : List Str) : Prop := ∃ ps : List Nat, ps.Perm (List.range xs.length) ∧ ys = ps.map (fun i => xs.getD i "") ∧ ps.Pairwise (klt fun i => kz (xs.getD i ""))
end L2
set_option Elab.async false
set_option linter.all false
set_option maxRecDepth 100000
namespace L2
open PySem PySem.Spec PyProof.Rows PySem.W NP
def CodeE (c : Addr) (q : Str) : HO := .ext fun h => h.CodeRec (.ref c) q
theorem codeE_ok {P : Program} {w : World} {H : Hp} {h : Heap} {c : Addr} {q : Str} (x : h.CodeRec (.ref c) q) : ObjOk P w H h c (CodeE c q) := by
  obtain ⟨c', o, vs, t, e, ho, r⟩ := id x
  cases e
  refine ⟨x, ⟨o, ho⟩, fun h1 h2 y k => ?_⟩
  obtain ⟨c2, o2, vs2, t2, e2, g2, r2⟩ := y
  cases e2
  exact ⟨c, o2, vs2, t2, rfl, k _ g2, r2⟩
theorem codeE_of {P : Program} {w : World} {H : Hp} {h : Heap} {c : Addr} {q : Str} (ok : HOk P w H h) (e : H c = some (CodeE c q)) : h.CodeRec (.ref c) q := (ok c _ e).1
def TblAt (H : Hp) (P : Addr) (pos : Pos) (q : Str) : Prop := H P = some (.tbl #[]) ∨ ∃ c, H P = some (.tbl #[rawInt pos.line, rawInt pos.col, .ref c]) ∧ H c = some (CodeE c q)
theorem TblAt.same {H H' : Hp} {P : Addr} {pos : Pos} {q : Str} (t : TblAt H P pos q) (s : Same H H') : TblAt H' P pos q := t.elim (fun e => .inl (s _ _ e)) (fun ⟨c, e, e2⟩ => .inr ⟨c, s _ _ e, s _ _ e2⟩)
def BMain (mg : Str → Option Value) (base : Heap) : Prop := ∃ bm ob, mg "__builtins__" = some (.ref bm) ∧ bm ≠ builtinsNs ∧ bm ≠ mainGlobals ∧ base.get? bm = some ob ∧ ob.cls = .type "module" ∧ ob.dict = some builtinsNs ∧ ob.data = .plain
section
variable {X : Cx} {pins : List (Addr × Obj)} {σ : St} {H : Hp} {s : Shared}
theorem lam_make {P c : Addr} {params : Arguments} {body : Expr} {scope : Scope} {pos : Pos} {clos : List (Str × Addr)} {Q : Value → Shared → Prop}
    (I : Inv X pins σ H s) (hcd : X.env.code = .ref c) (hC : codeHdIn X.K c P = true) (hB : BMain X.mg X.base) (t : TblAt H P pos (X.env.qual ++ "<lambda>")) (hdef : defaultsOf params X.env = ([], [])) (hcl : closureFor scope X.env = pure clos)
    (h : ∀ f c' ctv H' s', Inv X pins σ H' s' → s'.heap.get? f = some (kla_obj "<lambda>" (X.env.qual ++ "<lambda>") params body scope clos ((X.mg "__name__").getD .none) c' ctv) → H' f = none → H' c' = some (CodeE c' (X.env.qual ++ "<lambda>")) → TblAt H' P pos (X.env.qual ++ "<lambda>") → But P H H' → Q (.ref f) s') :
    wpAny (model X.prog X.w) X.A (eval (.Lambda params body scope pos) X.env) Q X.xe s := by
  refine kla_eval hdef ?_
  have hHP : ∃ u, H P = some u := t.elim (fun e => ⟨_, e⟩) (fun ⟨c, e, _⟩ => ⟨_, e⟩)
  obtain ⟨u, hu⟩ := hHP
  have neP : ∀ b o, X.base.get? b = some o → b ≠ P := fun b o e z => by rw [z] at e; rw [(I.bs P o e).2] at hu; cases hu
  have C : CodeHd s.heap c P := codeHd_of_K I.kIn hC
  have hg : s.heap.Ns mainGlobals X.mg := I.ok.mod.glob.keeps I.bk
  have hgP : mainGlobals ≠ P := by obtain ⟨o, es, ep, e, _⟩ := I.ok.mod.glob; exact neP _ _ e
  have hb : s.heap.BuiltinsAt X.mg P := by
    obtain ⟨bm, ob, b1, b2, b3, b4, b5⟩ := hB
    exact ⟨bm, ob, b1, b2, b3, neP _ _ b4, I.bk _ _ b4, b5⟩
  rcases t with e | ⟨c', e, ec⟩
  · have hP : s.heap.get? P = some (tabObj #[]) := I.hok P _ e
    refine kla_makeFunction (ps := #[]) hcl I.ok.glob hg hcd C hP trivial rfl hgP hb fun c' ctv h' tk hx hge hlt hrec htb => ?_
    have hc0 : H c' = none := I.hok.fresh hge
    have cP : c' ≠ P := fun z => by rw [z, hu] at hc0; cases hc0
    have k : ∀ b o, b ≠ P → s.heap.get? b = some o → (h'.push (kla_obj "<lambda>" (X.env.qual ++ "<lambda>") params body scope clos ((X.mg "__name__").getD .none) c' ctv)).get? b = some o := fun b o nb eb => Heap.get?_push_of_some _ (hx b o nb eb)
    have hsz : s.heap.objs.size ≤ h'.objs.size := by omega
    have hf : H h'.objs.size = none := I.hok.fresh hsz
    have cf : h'.objs.size ≠ c' := Nat.ne_of_gt hlt
    have fP : h'.objs.size ≠ P := fun z => by rw [z, hu] at hf; cases hf
    refine h h'.objs.size c' ctv (upd (upd H P (.tbl #[rawInt pos.line, rawInt pos.col, .ref c'])) c' (CodeE c' (X.env.qual ++ "<lambda>"))) _ (I.un (t' := tk) ⟨fun b o eb n _ _ => k b o (fun z => by rw [z, hu] at n; cases n) eb, fun b o eb n _ _ => ⟨o.slots, k b o (fun z => by rw [z, hu] at n; cases n) eb⟩, fun b o eb n _ => ?_, fun b o eb _ => ?_, fun b xs eb => ?_, fun b o u' eb => ?_, fun b ps eb => ?_⟩ fun b v eb => ?_) (Heap.get?_push_size _ rfl) ?_ upd_same ?_ ?_
    · rw [upd_ne (Nat.ne_of_lt (Nat.lt_of_lt_of_le (Heap.lt_size eb) hge)), upd_ne (fun z => by rw [z, hu] at n; cases n)]
      exact n
    · by_cases z : b = P
      · rw [z]
        exact ⟨_, Heap.get?_push_of_some _ htb⟩
      · exact ⟨o, k b o z eb⟩
    · rw [upd_ne (ne_of_none eb hc0), upd_ne (fun z => by rw [z, e] at eb; cases eb)]
      exact eb
    · rw [upd_ne (ne_of_none eb hc0), upd_ne (fun z => by rw [z, e] at eb; cases eb)]
      exact eb
    · by_cases z : b = P
      · subst z
        rw [e] at eb
        cases eb
        exact ⟨#[rawInt pos.line, rawInt pos.col, .ref c'], by rw [upd_ne (Ne.symm cP), upd_same]; simp⟩
      · exact ⟨#[], by rw [upd_ne (ne_of_none eb hc0), upd_ne z, eb]; simp⟩
    · by_cases z : b = c'
      · subst z
        rw [upd_same] at eb
        cases eb
        exact codeE_ok (hrec.push _)
      · rw [upd_ne z] at eb
        by_cases z2 : b = P
        · subst z2
          rw [upd_same] at eb
          cases eb
          exact Heap.get?_push_of_some _ htb
        · rw [upd_ne z2] at eb
          refine (I.hok b v eb).stay (fun b' u' hb' q => k b' u' (fun z3 => ?_) q) (fun b' q => ?_) fun b' xs q => ?_
          · rcases hb' with r | r
            · exact z2 (r.symm.trans z3)
            · rw [z3, e] at r; cases r
          · rw [upd_ne (ne_of_none q hc0), upd_ne (fun z3 => by rw [z3, e] at q; cases q)]; exact q
          · rw [upd_ne (ne_of_none q hc0), upd_ne (fun z3 => by rw [z3, e] at q; cases q)]; exact q
    · rw [upd_ne cf, upd_ne fP]
      exact hf
    · exact .inr ⟨c', by rw [upd_ne (Ne.symm cP), upd_same], upd_same⟩
    · exact fun b o nb eb => by rw [upd_ne (ne_of_none eb hc0), upd_ne nb]; exact eb
  · have hP : s.heap.get? P = some (tabObj #[rawInt pos.line, rawInt pos.col, .ref c']) := I.hok P _ e
    refine kla_makeFunctionHit (cv := .ref c') hcl I.ok.glob hg hcd C hP trivial (by simp [codeAmong, rawInt]) hb fun ctv h' tk hk hsz => ?_
    have k : ∀ b o, s.heap.get? b = some o → (h'.push (kla_obj "<lambda>" (X.env.qual ++ "<lambda>") params body scope clos ((X.mg "__name__").getD .none) c' ctv)).get? b = some o := fun b o eb => Heap.get?_push_of_some _ (hk b o eb)
    exact h h'.objs.size c' ctv H _ (I.kept (t' := tk) k) (Heap.get?_push_size _ rfl) (I.hok.fresh hsz) ec (.inr ⟨c', e, ec⟩) (But.refl _ _)
end
section
variable {prog : Program} {w : World} {A : Around} {s : Shared}
end
section
variable {X : Cx}
def SortAsk (P : Addr) (pos : Pos) (q : Str) (i : Nat) (σ : St) (Q : VK) (x : V) (H1 : Hp) : Prop := ∃ (l : Addr) (xs : List Str) (d : Addr) (kvs : List (Key × V)) (kz : Str → Int), x = .ref l ∧ H1 l = some (.lst (xs.map V.str)) ∧ xs.length < 64 ∧ σ[i]? = some (some (.ref d)) ∧ H1 d = some (.dK kvs) ∧
  (∀ x ∈ xs, valV kvs (.inr x) = some (.int (kz x))) ∧ TblAt H1 P pos q ∧ ∀ r ys H2, H1 r = none → H2 r = some (.lst (ys.map V.str)) → SortK kz xs ys → StabK kz xs ys → TblAt H2 P pos q → But P H1 H2 → Q (.ref r) H2
def tSortK (P : Addr) (pos : Pos) (q : Str) (i : Nat) (te : TE) : TE := fun σ H Q => te σ H (SortAsk P pos q i σ Q)
end
end L2
set_option Elab.async false
set_option linter.all false
set_option maxRecDepth 100000
namespace L2
open PySem PySem.Spec PyProof.Rows PySem.W NP
def Start (H : Hp) (a Pt : Addr) : Prop := ∀ b u, H b = some u → (b = Pt ∧ u = .tbl #[]) ∨ (b = a ∧ ∃ o xs, u = .frz o (.lst xs))
theorem head_run {P : Program} {w : World} {K : Frag} {mg mb : Str → Option Value} {k : Nat} {fa a Pt ct : Addr} {fd : FuncData} {x : Str} {sp : Sp} {s₁ : Shared} {H : Hp}
    (KX : K.In s₁.heap) (hns : s₁.heap.Ns mainGlobals mg) (hb : s₁.heap.Ns builtinsNs mb) (hbb : ∀ x : Str, x ≠ "__name__" → mb x = bootBuiltins x) (hlim : s₁.heap.NoLimit) (hg : s₁.gens = #[]) (hr : Room k callerA)
    (hT : s₁.heap.TableAt ct Pt #[]) (hBM : BMain mg s₁.heap) (hO : Start H a Pt) (hHK : ∀ b u, H b = some u → K.lookup b = none) (ok : HOk P w H s₁.heap)
    (F : ∀ base : Heap, K.In base → base.Ns mainGlobals mg → BMain mg base → FnOk P w K mg base CX0 k fa fd [x] sp) (hbind : ∀ (s : Shared) (u : Value), BindsTo s fd ⟨[u], []⟩ [(x, u)])
    (hsp : sp [.ref a] H (fun v _ => v = .bl true) fun _ _ _ => False) :
    codeAny (model P w) callerA (.call (.ref fa) ⟨[.ref a], []⟩) (fun r s' => r = .ok (.ret (.bool true)) ∧ OldK s₁.heap s'.heap ∧ s'.os = s₁.os ∧ AllBare s'.gens) s₁ := by
  have noD : ∀ {b : Addr} {o : Obj}, s₁.heap.get? b = some o → (∀ vs : Array Value, o.data ≠ .fields vs) → (∀ vs n, o.data ≠ .seq vs n) → H b = none := fun {b o} e n1 n2 => by
    cases q : H b with
    | none => rfl
    | some u =>
      have y := ok b u q
      rcases hO b u q with ⟨_, rfl⟩ | ⟨_, ob, xs, rfl⟩
      · have y : s₁.heap.get? b = some { cls := .none, data := .fields #[] } := y
        rw [e] at y; cases y; exact absurd rfl (n1 _)
      · obtain ⟨_, _, its, m, _, y3⟩ := y
        rw [e] at y3; cases y3; exact absurd rfl (n2 _ _)
  have baseG : ∀ {b : Addr} {o : Obj}, s₁.heap.get? b = some o → H b = none → (hidT s₁.heap H).get? b = some o := fun e n => hidT_get e n
  have nsB : ∀ {b : Addr} {m : Str → Option Value}, s₁.heap.Ns b m → (hidT s₁.heap H).Ns b m := fun {b m} ⟨o, es, ep, e, d, r⟩ => ⟨o, es, ep, baseG e (noD e (fun _ z => by rw [d] at z; cases z) (fun _ _ z => by rw [d] at z; cases z)), d, r⟩
  have kB : K.In (hidT s₁.heap H) := fun b o e => baseG (KX b o e) (by
    cases q : H b with
    | none => rfl
    | some u => rw [hHK b u q] at e; cases e)
  have bB : BMain mg (hidT s₁.heap H) := by
    obtain ⟨bm, ob, b1, b2, b3, b4, b5, b6, b7⟩ := hBM
    exact ⟨bm, ob, b1, b2, b3, baseG b4 (noD b4 (fun _ z => by rw [b7] at z; cases z) (fun _ _ z => by rw [b7] at z; cases z)), b5, b6, b7⟩
  have mB : Mod K mg (hidT s₁.heap H) := ⟨kB, nsB hns, ⟨mb, nsB hb, hbb⟩, let ⟨mc, h1, h2⟩ := hlim; ⟨mc, nsB h1, h2⟩⟩
  have e0 : Env0 P w K mg (hidT s₁.heap H) callerA [] s₁ H := ⟨rfl, mB, fun b o e => of_hidT e, Nat.le_of_eq (hidT_size _ _), trivial, (fun b hb => nomatch (show b ∈ ([] : List Addr) from hb)), ok, .of_eq hg⟩
  refine codeAny_mono ((F _ kB (nsB hns) bB).run callerA [] s₁ H ⟨[.ref a], []⟩ [.ref a] [.ref a] _ _ hr e0 (hbind s₁ (.ref a)) (.cons rfl .nil) hsp) fun r s' h => ?_
  cases r with
  | error e => exact h.elim
  | ok fl =>
    cases fl with
    | next => exact h.elim
    | brk => exact h.elim
    | cont => exact h.elim
    | ret u =>
      obtain ⟨v, H', os, bare, un, ok', r', q⟩ := h
      have q : v = .bl true := q
      subst q
      obtain rfl : u = Value.bool true := r'
      have old : ∀ b o, s₁.heap.get? b = some o → asItWas s₁.heap s'.heap b o := fun b o e => by
        cases y : H b with
        | none => exact .inl (un.keep b o e y (by intro z; cases z) (by simp))
        | some u =>
          have ob := ok b u y
          rcases hO b u y with ⟨rfl, rfl⟩ | ⟨_, oo, xs, rfl⟩
          · obtain ⟨more, e2⟩ := un.tbls b #[] y
            have ob : s₁.heap.get? b = some { cls := .none, data := .fields #[] } := ob
            rw [e] at ob
            cases ob
            have e3 : s'.heap.get? b = some { cls := .none, data := .fields (#[] ++ more) } := ok' b _ e2
            exact .inr (.inl ⟨hT.isCodeTable, rfl, #[], more, rfl, e3⟩)
          · have e2 := un.frzs b oo _ y
            have e3 := (ok' b _ e2).1
            have e4 := ob.1
            rw [e] at e4
            cases e4
            exact .inl e3
      exact ⟨rfl, ⟨old, fun b o e => un.there b o e (by simp)⟩, os, bare⟩
theorem walk_tab {l : OpenLaw} {n k : Nat} {q : Program} {loose : List Str} {XP : (Str → Option Value) → Heap → Prop} {YP : World → Heap → Prop} {d dw : DefRec} {K : Params → Frag} {sp : World → Addr → Sp} {x wk : Str}
    (hn : l.most = some n) (hn2 : n ≤ sizeLine) (hdf : d.params.defaults = []) (hr : Room k callerA) (hY : ∀ (w : World) (h : Heap), YP w h → (K w.params).In h) (hw : (recsOf q).find? (fun e => e.name == wk) = some dw)
    (F : ∀ (w : World) (mg : Str → Option Value) (fa : Addr) (h : Heap), (K w.params).In h → h.Ns mainGlobals mg → mg d.name = some (.ref fa) →
      ∃ (fd : FuncData) (ct Pt : Addr), (∀ (s : Shared) (u : Value), BindsTo s fd ⟨[u], []⟩ [(x, u)]) ∧ tabIn (K w.params) wk = some (ct, Pt) ∧ (K w.params).lookup Pt = none ∧
        ∀ base : Heap, (K w.params).In base → base.Ns mainGlobals mg → BMain mg base → FnOk l.prog w (K w.params) mg base CX0 k fa fd [x] (sp w Pt))
    (hsp : ∀ (w : World) (H : Hp) (a Pt : Addr) (ns : List Int), ns.length ≤ n → H Pt = some (.tbl #[]) → SqL (K w.params) H a (ns.map V.int) → sp w Pt [.ref a] H (fun v _ => v = .bl true) fun _ _ _ => False) :
    WalkO q loose XP YP l.row.toRowW d [] (fun f vs => PySem.call f vs) := by
  refine Att.attach_call hn hdf fun w s₀ s₁ mg mb fa o pm cd doc a vs ns G Y ho hd hcd hmg hobj hints hlen hg => ?_
  have KX := hY w _ Y
  obtain ⟨fd, ct, Pt, hbd, htab, hKP, hF⟩ := F w mg fa _ KX G.T.g hmg
  obtain ⟨hC, hP⟩ := tab_of G.T KX hw htab
  have hT := hC.tab hP
  have aP : a ≠ Pt := fun z => by rw [z, hP] at hobj; cases hobj
  have hBM : BMain mg s₁.heap := by
    obtain ⟨bm, ob, b1, b2, b3, b4, b5, b6⟩ := G.T.bmain
    refine ⟨bm, ob, b1, b2, fun z => ?_, b3, b4, b5, b6⟩
    obtain ⟨og, es, ep, e, dg, _⟩ := G.T.g
    rw [← z, b3] at e
    cases e
    rw [b6] at dg
    cases dg
  have rv := vals_ints hints
  have lenV := hints.length
  have okP : ∀ H : Hp, ObjOk l.prog w H s₁.heap Pt (.tbl #[]) := fun _ => hP
  cases hk : (K w.params).lookup a with
  | some oa =>
    have e := KX a oa hk
    rw [hobj] at e
    cases e
    refine head_run (H := upd (fun _ => none) Pt (.tbl #[])) KX G.T.g G.T.b G.T.builtins G.T.nolimit hg hr hT hBM (fun b u y => ?_) (fun b u y => ?_) (fun b u y => ?_) hF hbd (hsp w _ a Pt ns hlen upd_same (.inr ⟨_, vs.toArray, _, hk, rfl, rfl, rfl, by rw [List.size_toArray, lenV]; exact Nat.le_trans hlen hn2, by simpa using rv⟩))
    · by_cases z : b = Pt
      · subst z; rw [upd_same] at y; cases y; exact .inl ⟨rfl, rfl⟩
      · rw [upd_ne z] at y; cases y
    · by_cases z : b = Pt
      · rw [z]; exact hKP
      · rw [upd_ne z] at y; cases y
    · by_cases z : b = Pt
      · subst z; rw [upd_same] at y; cases y; exact okP _
      · rw [upd_ne z] at y; cases y
  | none =>
    refine head_run (H := upd (upd (fun _ => none) Pt (.tbl #[])) a (.frz { cls := .type "list", data := .seq vs.toArray } (.lst (ns.map V.int)))) KX G.T.g G.T.b G.T.builtins G.T.nolimit hg hr hT hBM (fun b u y => ?_) (fun b u y => ?_) (fun b u y => ?_) hF hbd (hsp w _ a Pt ns hlen (by rw [upd_ne (Ne.symm aP), upd_same]) (.inl (.inr ⟨_, upd_same⟩)))
    · by_cases z2 : b = a
      · subst z2; rw [upd_same] at y; cases y; exact .inr ⟨rfl, _, _, rfl⟩
      · rw [upd_ne z2] at y
        by_cases z : b = Pt
        · subst z; rw [upd_same] at y; cases y; exact .inl ⟨rfl, rfl⟩
        · rw [upd_ne z] at y; cases y
    · by_cases z2 : b = a
      · rw [z2]; exact hk
      · rw [upd_ne z2] at y
        by_cases z : b = Pt
        · rw [z]; exact hKP
        · rw [upd_ne z] at y; cases y
    · by_cases z2 : b = a
      · subst z2; rw [upd_same] at y; cases y
        exact ⟨hobj, by rw [List.length_map]; exact Nat.le_trans hlen hn2, vs, _, rv, hobj⟩
      · rw [upd_ne z2] at y
        by_cases z : b = Pt
        · subst z; rw [upd_same] at y; cases y; exact okP _
        · rw [upd_ne z] at y; cases y
def codeVs (vs : Array Value) (c P : Addr) : Bool := (match vs.getD 18 .none with | .str _ _ => true | _ => false) && (match vs.getD 7 .none with | .int _ _ => true | _ => false) && (match vs.getD 9 .none with | .bool _ => true | _ => false) && (match vs.getD 10 .none with | .int _ _ => true | _ => false) && c != P
theorem codeHd_mk {K : Frag} {c P : Addr} {od : Option Addr} {vs : Array Value} {sl : Array (Option Value)} (tl : K.lookup c = some ⟨.type "code", od, .fields vs, sl⟩) (h11 : vs[11]? = some (.ref P)) (h : codeVs vs c P = true) : codeHdIn K c P = true := by
  unfold codeHdIn
  rw [tl]
  simp only [h11, BEq.rfl, Bool.true_and]
  exact h
theorem tab_mk {K : Frag} {x : Str} {f c P : Addr} {oc : Value} {od odc : Option Addr} {fd : FuncData} {sl slc : Array (Option Value)} {vs : Array Value} (hn : nsIn K mainGlobals x = some (some (.ref f))) (hl : K.lookup f = some ⟨oc, od, .func fd, sl⟩) (hc : fd.code = .ref c) (tl : K.lookup c = some ⟨.type "code", odc, .fields vs, slc⟩) (h11 : vs[11]? = some (.ref P)) : tabIn K x = some (c, P) := by
  unfold tabIn
  simp only [hn, hl, hc, tl, h11]
theorem code_of_tab {K : Frag} {x : Str} {f c P : Addr} {oc : Value} {od : Option Addr} {fd : FuncData} {sl : Array (Option Value)} (h : tabIn K x = some (c, P)) (hn : nsIn K mainGlobals x = some (some (.ref f))) (hl : K.lookup f = some ⟨oc, od, .func fd, sl⟩) : fd.code = .ref c := by
  unfold tabIn at h
  simp only [hn, hl] at h
  split at h
  · rename_i c' hc
    split at h
    · split at h
      · cases h
        exact hc
      · cases h
    · cases h
  · cases h
theorem closure_one {nm lv : Str} {scope : Scope} {env : Env} {cc : Addr} (hs : scope.names = [(nm, .local), (lv, .free)]) (h : env.cells.lookup lv = some cc) : closureFor scope env = pure [(lv, cc)] := by
  unfold closureFor
  rw [hs]
  simp [cellOf, h]
structure CodeAt (K : Frag) (f c P : Addr) : Prop where
  code : ∀ oc od fd sl, K.lookup f = some ⟨oc, od, .func fd, sl⟩ → fd.code = .ref c
  hd : codeHdIn K c P = true
theorem Fun.okC {P : Program} {w : World} {K : Frag} {mg : Str → Option Value} {base : Heap} {x qual : Str} {st : Stmt} {f c Pt : Addr} {fd : FuncData} {N ps : List Str} {k : Nat} {sp : Sp} (F : Fun K x qual st f fd) (C : CodeAt K f c Pt) (S : FnScope N ps (defScope st)) (len : ∀ vs H Q E, sp vs H Q E → vs.length = ps.length)
    (hbody : ∀ (A : Around) (outer : List Env) (s : Shared) (H : Hp) (vs : List V) (Q : VK) (E : XK), Room k (A.deeper (envOfC qual (defScope st) s.heap.objs.size f (.ref c))) → sp vs H Q E →
      ∃ t, PSs (cxOf CX0 P w K mg base N qual (defScope st) f (.ref c) A outer s H E).nox (defBody st) t ∧ t { nx := fun _ H' => Q .non H', rt := Q } (start N vs) H) : FnOk P w K mg base CX0 (k + 1) f fd ps sp := by
  obtain ⟨oc, od, kV, doc, pm, an, cdv, ct, osl, rfl, lk, hcd⟩ := F.ex
  have e : cdv = .ref c := C.code _ _ _ _ lk
  subst e
  refine fn_of lk hcd S len fun A outer s H vs Q E hr hsp => ?_
  obtain ⟨t, h, q⟩ := hbody A outer s H vs Q E hr hsp
  exact ⟨t, h.nox, q⟩
end L2
set_option Elab.async false
set_option linter.all false
set_option maxRecDepth 100000
namespace NP
open PySem L2
def usersOf (S : Sh) (x : Str) : List Wr := S.wares.filter fun w => decide (x ∈ w.parts.map (·.1))
def lvF (S : Sh) : Nat → Str → Int
  | 0, _ => 0
  | k + 1, x => max0 ((usersOf S x).map fun u => 1 + lvF S k u.name)
def lv (S : Sh) (x : Str) : Int := lvF S S.wares.length x
end NP
set_option Elab.async false
set_option linter.all false
set_option maxRecDepth 100000
namespace L2
open PySem PySem.Spec PyProof.Rows
def ItV (a : Addr) (xs : List V) : It := ⟨fun i H => H a = some (.lst xs) ∧ i < xs.length, fun i H x H' => H' = H ∧ xs.reverse[i]? = some x, fun i H => H a = some (.lst xs) ∧ i = xs.length⟩
section
variable {X : Cx}
def iRev (ta : TA) : TI := fun σ H R => ta σ H fun vs H1 => ∃ a xs, vs = [.ref a] ∧ H1 a = some (.lst xs) ∧ R (ItV a xs) H1
end
end L2
set_option Elab.async false
set_option linter.all false
set_option maxRecDepth 100000
namespace NP
open PySem L2
def wareN (S : Sh) (x : Str) : Option Wr := S.wares.find? fun w => decide (w.name = x)
def tmF (S : Sh) : Nat → Str → Int
  | 0, _ => 0
  | k + 1, x => match wareN S x with
    | some w => w.lag + max0 (w.parts.map fun p => tmF S k p.1)
    | none => 0
def tm (S : Sh) (x : Str) : Int := tmF S S.wares.length x
end NP
set_option Elab.async false
set_option linter.all false
set_option maxRecDepth 100000
namespace L2
open PySem PySem.Spec PyProof.Rows PySem.W NP
def StrLe (a b : Str) : Prop := ¬ b.cps.toList < a.cps.toList
def StrSort (xs ys : List Str) : Prop := ys.Perm xs ∧ ys.Pairwise StrLe
section
variable {X : Cx} {pins : List (Addr × Obj)} {σ : St} {H : Hp} {s : Shared} {h' : Heap}
theorem Inv.laidF {a : Addr} {o : HO} {t' : Nat} (I : Inv X pins σ H s) (k : ∀ b u, s.heap.get? b = some u → h'.get? b = some u) (fr : ∀ b u, s.heap.get? b = some u → b ≠ a) (hn : H a = none) (new : ObjOk X.prog X.w (upd H a o) h' a o) :
    Inv X pins σ (upd H a o) { s with heap := h', toks := t' } := by
  refine I.un ⟨fun b u e _ _ _ => k b u e, fun b u e _ _ _ => ⟨u.slots, k b u e⟩, fun b u e n _ => by rw [upd_ne (fr b u e)]; exact n, fun b u e _ => ⟨u, k b u e⟩, fun b xs e => by rw [upd_ne (ne_of_none e hn)]; exact e, fun b u v e => by rw [upd_ne (ne_of_none e hn)]; exact e, fun b ps e => ⟨#[], by rw [upd_ne (ne_of_none e hn), e]; simp⟩⟩ fun b u e => ?_
  by_cases hb : b = a
  · subst hb
    rw [upd_same] at e
    cases e
    exact new
  · rw [upd_ne hb] at e
    exact (I.hok b u e).stay (fun b' u' _ q => k b' u' q) (fun b' q => by rw [upd_ne (ne_of_none q hn)]; exact q) fun b' xs q => by rw [upd_ne (ne_of_none q hn)]; exact q
end
section
variable {X : Cx}
def rSortS : List V → Hp → VK → Prop := fun vs H Q => ∃ a xs, vs = [.ref a] ∧ H a = some (.lst (xs.map V.str)) ∧ xs.length < 64 ∧ ∀ p ys, H p = none → StrSort xs ys → Q (.ref p) (upd H p (.lst (ys.map V.str)))
def rSortD : List V → Hp → VK → Prop := fun vs H Q => ∃ a kvs xs, vs = [.ref a] ∧ H a = some (.dK kvs) ∧ kvs.map (·.1) = xs.map Sum.inr ∧ xs.length < 64 ∧ ∀ p ys, H p = none → StrSort xs ys → Q (.ref p) (upd H p (.lst (ys.map V.str)))
def rDictK : List V → Hp → VK → Prop := fun vs H Q => ∃ a kvs, vs = [.ref a] ∧ Rd H a (.dK kvs) ∧ ∀ p, H p = none → Q (.ref p) (upd H p (.dK kvs))
def rClearD : V → List V → Hp → VK → Prop := fun x vs H Q => ∃ a kvs, x = .ref a ∧ vs = [] ∧ H a = some (.dK kvs) ∧ Q .non (upd H a (.dK []))
end
end L2
set_option Elab.async false
set_option linter.all false
set_option maxRecDepth 100000
set_option maxHeartbeats 4000000
namespace L2
open PySem PyProof.Rows
def rIndexS : V → List V → Hp → VK → Prop := fun x vs H Q => ∃ (l : Addr) (xs : List Str) (y : Str), x = .ref l ∧ vs = [.str y] ∧ H l = some (.lst (xs.map V.str)) ∧ y ∈ xs ∧ Q (.int (xs.idxOf y : Nat)) H
end L2
set_option Elab.async false
set_option linter.all false
set_option maxRecDepth 100000
set_option maxHeartbeats 4000000
set_option exponentiation.threshold 4000
namespace L2
open PySem PySem.Spec PyProof.Rows
def rGetD : V → V → Hp → VK → Prop := fun o i H Q => ∃ (p : Addr) (kvs : List (Key × V)) (k : Str) (v : V), o = .ref p ∧ i = .str k ∧ H p = some (.dK kvs) ∧ valV kvs (.inr k) = some v ∧ Q v H
end L2
namespace NP
open PySem L2
def lotsOf (m g : Int) : Int := if -(-m / g) > 0 then -(-m / g) else 0
def sumI : List Int → Int
  | [] => 0
  | x :: r => x + sumI r
def wantsOf (us : List Wt) (x : Str) : Int := sumI (us.map fun u => if u.1 = x then u.2.2 else 0)
def takeBy (L : Str → Int) (w : Wr) (x : Str) : Int := sumI (w.parts.map fun p => if p.1 = x then L w.name * p.2 else 0)
def takesOf (ws : List Wr) (L : Str → Int) (x : Str) : Int := sumI (ws.map fun w => takeBy L w x)
def needOf (S : Sh) (L : Str → Int) (x : Str) : Int := wantsOf S.wants x + takesOf S.wares L x
def exF (S : Sh) : Nat → Str → Int
  | 0, _ => 0
  | k + 1, x => match wareN S x with
    | some w => lotsOf (needOf S (exF S k) x) w.gives
    | none => 0
def ex (S : Sh) (x : Str) : Int := exF S S.wares.length x
end NP
set_option Elab.async false
set_option linter.all false
set_option maxRecDepth 100000
set_option maxHeartbeats 4000000
set_option exponentiation.threshold 4000
namespace NP
open PySem L2
def above (f g : Int) (xs ys : List Int) : Nat → Int
  | 0 => -f
  | i + 1 => above f g xs ys i + (xs.getD i 0 - ys.getD i 0) + g * lotsOf (-(above f g xs ys i + (xs.getD i 0 - ys.getD i 0))) g
end NP
set_option Elab.async false
set_option linter.all false
set_option maxRecDepth 100000
set_option maxHeartbeats 400000
namespace L2
open PySem PySem.Spec PyProof.Rows PySem.W NP
section
variable {prog : Program} {w : World} {A : Around} {E : Value → Shared → Prop} {s : Shared}
end
def rSortT : List V → Hp → VK → Prop := fun vs H Q => ∃ (a : Addr) (as : List Addr) (kz : Nat → Int), vs = [.ref a] ∧ H a = some (.lst (as.map V.ref)) ∧ as.length < 64 ∧ (∀ i, i < as.length → H (as.getD i 0) = some (.tup [.int (kz i), .int i])) ∧
  ∀ (r : Addr) (ps : List Nat), H r = none → ps.Perm (List.range as.length) → ps.Pairwise (klt kz) → Q (.ref r) (upd H r (.lst (ps.map fun i => V.ref (as.getD i 0))))
end L2
set_option Elab.async false
set_option linter.all false
set_option maxRecDepth 100000
namespace L2
open PySem PySem.Spec PyProof.Rows
def leastN (ns : Nat → Int) : Nat → Int
  | 0 => ns 0
  | k + 1 => if ns (k + 1) < leastN ns k then ns (k + 1) else leastN ns k
section
variable {prog : Program} {w : World} {A : Around} {R : Result → Shared → Prop} {I : Addr} {fp wr : List Addr} {n : Nat} {P : Nat → Value → Prop} {St : Nat → Heap → Prop}
theorem lt_richM {a b : Int} {t u : Tok} {Q : Value → Shared → Prop} {E : Value → Shared → Prop} {s : Shared} (h : Q (.bool (decide (a < b))) s) : wpAny (model prog w) A (richCompare .Lt (.int a t) (.int b u)) Q E s := show wpAny _ _ (compareOp .Lt _ _) _ _ _ from lt_int h
theorem minl_more (kw : List (Str × Value)) (W : Walks prog w A.in1 I fp wr n P St) (ns : Nat → Int) (hv : ∀ i v, P i v → ∃ t, v = .int (ns i) t) (S : Addr) (hSf : S ∉ fp) :
    ∀ (k j : Nat) (s : Shared) (t : Tok) (c : Nat), n - (j + 1) = k → j + 1 ≤ n → St (j + 1) s.heap → s.heap.get? S = some { cls := .type "list", dict := none, data := .seq #[.int (leastN ns j) t, .int (leastN ns j) t] c, slots := #[] } →
    (∀ t' h' tk, (∀ b o, b ∉ wr → b ≠ S → s.heap.get? b = some o → h'.get? b = some o) → R (.ok (.ret (.int (leastN ns (n - 1)) t'))) { s with heap := h', toks := tk }) →
    codeAny (model prog w) A (.builtin "min.loop" ⟨[.ref I, .none, .ref S], kw⟩) R s := by
  have nSw : S ∉ wr := fun h => hSf (W.sub _ h)
  have nm : (toString "min" ++ toString ".loop" : String) = "min.loop" := by decide
  intro k
  induction k with
  | zero =>
    intro j s t c hk hj hst hS hR
    have hin : j + 1 = n := by omega
    refine codeAny_builtin F.entry_min_loop ?_
    rw [Around.under_plainId F.plain_min_loop _]
    refine wpAny_bind (m := seqItems? (.ref S)) (wpAny_seqItems hS rfl (wpAny_bind (m := tryCatch (pyNext (.ref I)) _) (wpAny_tryCatch (W.done s _ _ (hin ▸ hst) fun h' tk hk' => ?_))))
    refine wpAny_bind (m := updateSeq S (fun _ => #[])) (wpAny_updateSeq (hk' S _ nSw hS) rfl (wpAny_bind (wpAny_letGo (wpAny_pure ?_))))
    have e : n - 1 = j := by omega
    rw [e] at hR
    exact hR t _ tk fun b o n1 n2 q => (Heap.get?_update_other _ _ (Ne.symm n2)).trans (hk' b o n1 q)
  | succ k ih =>
    intro j s t c hk hj hst hS hR
    have hlt : j + 1 < n := by omega
    refine codeAny_builtin F.entry_min_loop ?_
    rw [Around.under_plainId F.plain_min_loop _]
    refine wpAny_bind (m := seqItems? (.ref S)) (wpAny_seqItems hS rfl (wpAny_bind (m := tryCatch (pyNext (.ref I)) _) (wpAny_tryCatch (W.item (j + 1) s _ _ hlt hst fun v h' tk hP hst' hk' => ?_))))
    obtain ⟨u, rfl⟩ := hv _ _ hP
    have hS' := hk' S _ nSw hS
    refine wpAny_bind (m := tryCatch (holding _ (richCompare .Lt _ _ >>= _)) _) (wpAny_tryCatch (wpAny_holding (wpAny_bind (lt_richM (wpAny_bind (wpAny_holding (wpAny_truthy_bool (wpAny_bind (wpAny_letGo (wpAny_pure ?_))))))))))
    by_cases hb : ns (j + 1) < leastN ns j
    · rw [decide_eq_true hb]
      simp only [if_true]
      refine wpAny_bind (wpAny_updateSeq hS' rfl (wpAny_bind (wpAny_letGo ?_)))
      rw [nm]
      have eb : leastN ns (j + 1) = ns (j + 1) := if_pos hb
      refine wpAny_pure ⟨plainId_quiet F.plain_min_loop _, ih (j + 1) _ u _ (by omega) hlt (W.frame _ _ _ hst' fun b hbf o e => ?_) (by rw [eb]; exact Heap.get?_update_self _ hS' rfl) fun t' h'' tk' hk2 => ?_⟩
      · exact (Heap.get?_update_other _ _ (fun h : S = b => hSf (by rw [h]; exact hbf))).trans e
      · exact hR t' h'' tk' fun b o n1 n2 e => hk2 b o n1 n2 ((Heap.get?_update_other _ _ (Ne.symm n2)).trans (hk' b o n1 e))
    · rw [decide_eq_false hb]
      simp only [Bool.false_eq_true, if_false]
      refine wpAny_bind (wpAny_letGo ?_)
      rw [nm]
      have eb : leastN ns (j + 1) = leastN ns j := if_neg hb
      refine wpAny_pure ⟨plainId_quiet F.plain_min_loop _, ih (j + 1) _ t c (by omega) hlt hst' (by rw [eb]; exact hS') fun t' h'' tk' hk2 => ?_⟩
      exact hR t' h'' tk' fun b o n1 n2 e => hk2 b o n1 n2 (hk' b o n1 e)
theorem minl_first (kw : List (Str × Value)) (W : Walks prog w A.in1 I fp wr n P St) (ns : Nat → Int) (hv : ∀ i v, P i v → ∃ t, v = .int (ns i) t) (S : Addr) (hSf : S ∉ fp) (hn : 0 < n) {s : Shared} {c : Nat} (hst : St 0 s.heap)
    (hS : s.heap.get? S = some { cls := .type "list", dict := none, data := .seq #[] c, slots := #[] })
    (hR : ∀ t' h' tk, (∀ b o, b ∉ wr → b ≠ S → s.heap.get? b = some o → h'.get? b = some o) → R (.ok (.ret (.int (leastN ns (n - 1)) t'))) { s with heap := h', toks := tk }) :
    codeAny (model prog w) A (.builtin "min.loop" ⟨[.ref I, .none, .ref S], kw⟩) R s := by
  have nSw : S ∉ wr := fun h => hSf (W.sub _ h)
  have nm : (toString "min" ++ toString ".loop" : String) = "min.loop" := by decide
  refine codeAny_builtin F.entry_min_loop ?_
  rw [Around.under_plainId F.plain_min_loop _]
  refine wpAny_bind (m := seqItems? (.ref S)) (wpAny_seqItems hS rfl (wpAny_bind (m := tryCatch (pyNext (.ref I)) _) (wpAny_tryCatch (W.item 0 s _ _ hn hst fun v h' tk hP hst' hk' => ?_))))
  obtain ⟨u, rfl⟩ := hv _ _ hP
  have hS' := hk' S _ nSw hS
  refine wpAny_bind (m := updateSeq S _) (wpAny_updateSeq hS' rfl ?_)
  rw [nm]
  refine wpAny_pure ⟨plainId_quiet F.plain_min_loop _, minl_more kw W ns hv S hSf _ 0 _ u _ rfl hn (W.frame _ _ _ hst' fun b hbf o e => ?_) (Heap.get?_update_self _ hS' rfl) fun t' h'' tk' hk2 => ?_⟩
  · exact (Heap.get?_update_other _ _ (fun h : S = b => hSf (by rw [h]; exact hbf))).trans e
  · exact hR t' h'' tk' fun b o n1 n2 e => hk2 b o n1 n2 ((Heap.get?_update_other _ _ (Ne.symm n2)).trans (hk' b o n1 e))
end
def minL (ns : List Int) : Int := leastN (fun i => (ns[i]?).getD 0) (ns.length - 1)
theorem leastN_mem (f : Nat → Int) : ∀ k, ∃ i, i ≤ k ∧ leastN f k = f i
  | 0 => ⟨0, Nat.le_refl _, rfl⟩
  | k + 1 => by
    rw [leastN]
    split
    · exact ⟨k + 1, Nat.le_refl _, rfl⟩
    · obtain ⟨i, h1, h2⟩ := leastN_mem f k
      exact ⟨i, by omega, h2⟩
theorem least_le (f : Nat → Int) : ∀ k i, i ≤ k → leastN f k ≤ f i
  | 0, i, h => by
    have : i = 0 := by omega
    subst this
    exact Int.le_refl _
  | k + 1, i, h => by
    rw [leastN]
    by_cases hi : i = k + 1
    · subst hi
      split <;> omega
    · have := least_le f k i (by omega)
      split <;> omega
theorem minL_mem {ns : List Int} (h : ns ≠ []) : minL ns ∈ ns := by
  have hl : 0 < ns.length := List.length_pos_iff.mpr h
  obtain ⟨i, h1, h2⟩ := leastN_mem (fun i => (ns[i]?).getD 0) (ns.length - 1)
  unfold minL
  rw [h2]
  have hi : i < ns.length := by omega
  simp only [List.getElem?_eq_getElem hi, Option.getD_some]
  exact List.getElem_mem hi
theorem minL_le {ns : List Int} {x : Int} (h : x ∈ ns) : minL ns ≤ x := by
  obtain ⟨i, hi, e⟩ := List.mem_iff_getElem.mp h
  have := least_le (fun i => (ns[i]?).getD 0) (ns.length - 1) i (by omega)
  simp only [List.getElem?_eq_getElem hi, Option.getD_some, e] at this
  exact this
section
variable {X : Cx}
theorem min_core {pins : List (Addr × Obj)} {σ : St} {H : Hp} {s : Shared} {a : Addr} {ns : List Int} {Q : VK} {E : Value → Shared → Prop} {kw : List (Str × Value)} (hc : X.calm = true) (I : Inv X pins σ H s) (ha : H a = some (.lst (ns.map V.int))) (hn : ns ≠ []) (q : Q (.int (minL ns)) H) :
    codeAny (model X.prog X.w) X.A (.builtin "min.loop" ⟨[.ref s.heap.objs.size, .none, .ref (s.heap.objs.size + 1)], kw⟩) (fun r s' => match r with | .ok (.ret v) => EP X pins σ Q v s' | .ok _ => False | .error e => E e s')
      { s with heap := (s.heap.push { cls := .type "list_iterator", data := .fields #[.ref a, .int 0 0] }).push { cls := .type "list", data := .seq #[] } } := by
  obtain ⟨its, rv, hl, hlt⟩ := lst_iter I ha
  have hlen : its.length = ns.length := by have := rv.length; rw [List.length_map] at this; exact this.symm
  have sz : (s.heap.push { cls := .type "list_iterator", data := .fields #[.ref a, .int 0 0] }).objs.size = s.heap.objs.size + 1 := Heap.size_push ..
  have gI : ((s.heap.push { cls := .type "list_iterator", data := .fields #[.ref a, .int 0 0] }).push { cls := .type "list", data := .seq #[] }).get? s.heap.objs.size = some { cls := .type "list_iterator", data := .fields #[.ref a, .int 0 0] } := Heap.get?_push_of_some _ (Heap.get?_push_size _ rfl)
  have gS : ((s.heap.push { cls := .type "list_iterator", data := .fields #[.ref a, .int 0 0] }).push { cls := .type "list", data := .seq #[] }).get? (s.heap.objs.size + 1) = some { cls := .type "list", data := .seq #[] } := by
    have := Heap.get?_push_size (s.heap.push { cls := .type "list_iterator", data := .fields #[.ref a, .int 0 0] }) (o := { cls := .type "list", data := .seq #[] }) rfl
    rw [sz] at this
    exact this
  have hpos : 0 < its.toArray.size := by rw [List.size_toArray, hlen]; exact List.length_pos_iff.mpr hn
  have nS : (s.heap.objs.size + 1 : Addr) ∉ [s.heap.objs.size, a] := by
    simp only [List.mem_cons, List.not_mem_nil, or_false, not_or]
    exact ⟨Nat.succ_ne_self _, Nat.ne_of_gt (Nat.lt_succ_of_lt hlt)⟩
  refine minl_first kw (Walks.list (prog := X.prog) (w := X.w) (A := X.A.in1) (I.ok.hd hc) s.heap.objs.size a (Nat.ne_of_lt hlt) its.toArray) (fun i => (ns[i]?).getD 0) (fun i v hP => vals_int rv (by simpa using hP)) (s.heap.objs.size + 1) nS hpos ⟨⟨_, gI, rfl, rfl⟩, (hl.push _).push _⟩ gS fun t' h' tk hk => ?_
  rw [List.size_toArray, hlen]
  refine ⟨.int (minL ns), H, I.kept fun b o e => hk b o ?_ ?_ (Heap.get?_push_of_some _ (Heap.get?_push_of_some _ e)), ⟨_, rfl⟩, q⟩
  · simp only [List.mem_cons, List.not_mem_nil, or_false]
    exact Nat.ne_of_lt (Heap.lt_size e)
  · exact Nat.ne_of_lt (Nat.lt_succ_of_lt (Heap.lt_size e))
def rMinL : List V → Hp → VK → Prop := fun vs H Q => ∃ a ns, vs = [.ref a] ∧ H a = some (.lst (ns.map V.int)) ∧ ns ≠ [] ∧ Q (.int (minL ns)) H
theorem call_minl (hc : X.calm = true) : CallR X (.builtin "min") rMinL := by
  intro pins s σ H xs us Q I r h
  obtain ⟨a, ns, rfl, ha, hn, q⟩ := h
  obtain ⟨u, rfl, ru⟩ := vals1 r
  cases ru
  obtain ⟨its, rv, hl, hlt⟩ := lst_iter I ha
  have nm : (toString "min" ++ toString ".loop" : String) = "min.loop" := by decide
  have sz : (s.heap.push { cls := .type "list_iterator", data := .fields #[.ref a, .int 0 0] }).objs.size = s.heap.objs.size + 1 := Heap.size_push ..
  refine call_function_tree F.kind_min F.plain_min F.entry_min (F.args_min1 _) ?_
  refine wpAny_bind (m := Builtin.Builtins.bindParams "min" ["key", "default"] 0 ⟨[], []⟩) (wpAny_of_eq (show Builtin.Builtins.bindParams "min" ["key", "default"] 0 ⟨[], []⟩ = pure [none, none] from rfl) (wpAny_bind (wpAny_pure (wpAny_bind (wpAny_pyIter_list hl (wpAny_bind (wpAny_newObj_type ?_)))))))
  rw [nm]
  refine wpAny_pure ⟨plainId_quiet F.plain_min_loop _, ?_⟩
  have := min_core (E := X.xe) (kw := []) hc I ha hn q
  rw [← sz] at this
  exact this
end
end L2
set_option Elab.async false
set_option linter.all false
set_option maxRecDepth 100000
namespace L2
open PySem PySem.Spec PyProof.Rows PySem.W NP
section
variable {X : Cx}
end
end L2
set_option Elab.async false
set_option linter.all false
set_option maxRecDepth 100000
namespace L2
open PySem PySem.Spec PyProof.Rows
section
variable {X : Cx}
theorem ip_subI : PIp X .Sub (rI0 fun i j => .int (i - j)) := fun pins s σ H x y v u Q I rx ry q => iop_sub pins s σ H x y v u Q I rx ry q
end
end L2
set_option Elab.async false
set_option linter.all false
set_option maxRecDepth 100000
set_option maxHeartbeats 1000000
namespace L2
open PySem PySem.Spec PyProof.Rows PySem.W NP
def Kp (g h : Heap) : Prop := ∀ b o, g.get? b = some o → h.get? b = some o
theorem Kp.trans {g h k : Heap} (a : Kp g h) (b : Kp h k) : Kp g k := fun x o e => b x o (a x o e)
section
variable {prog : Program} {w : World} {A : Around} {E : Value → Shared → Prop} {s : Shared} {I S f : Addr} {fp wr : List Addr} {n : Nat} {P : Nat → Value → Prop} {St : Nat → Heap → Prop} {R : Result → Shared → Prop}
theorem loopName : (toString "min" ++ toString ".loop" : String) = "min.loop" := by decide
theorem minK_loop (W : Walks prog w A.in1 I fp wr n P St) (kf : Nat → Int) (g : Heap) (hS : S ∉ fp) (gS : g.get? S = none) (gw : ∀ b ∈ wr, g.get? b = none)
    (ask : ∀ (i : Nat) (v : Value) (h : Heap) (tk : Nat), i < n → P i v → Kp g h → wpAny (model prog w) A.in1 (call (.ref f) [v]) (fun v' s' => ∃ h' tk' t', s' = { s with heap := h', toks := tk' } ∧ v' = .int (kf i) t' ∧ Kp h h') (fun _ _ => False) { s with heap := h, toks := tk })
    (fin : ∀ (i : Nat) (v : Value) (h : Heap) (tk : Nat), i < n → P i v → (∀ j, j < n → kf i ≤ kf j) → Kp g h → R (.ok (.ret v)) { s with heap := h, toks := tk }) :
    ∀ (r j i : Nat) (h : Heap) (tk : Nat) (v : Value) (t : Tok) (c : Nat), n - (j + 1) = r → j < n → i ≤ j → P i v → (∀ j', j' ≤ j → kf i ≤ kf j') → Kp g h → St (j + 1) h → h.get? S = some (seqObj "list" #[v, .int (kf i) t] c) →
      codeAny (model prog w) A (.builtin "min.loop" ⟨[.ref I, .ref f, .ref S], []⟩) R { s with heap := h, toks := tk } := by
  have nS : S ∉ wr := fun z => hS (W.sub S z)
  intro r
  induction r with
  | zero =>
    intro j i h tk v t c hr hj hij hP hb K st hs
    have e : j + 1 = n := by omega
    rw [e] at st
    (refine codeAny_builtin PySem.F.entry_min_loop ?_); (rw [Around.under_plainId PySem.F.plain_min_loop _])
    refine (show wpAny _ A.in1 (seqItems? (.ref S) >>= _) _ _ _ from wpAny_bind (wpAny_seqItems hs rfl ?_))
    refine (show wpAny _ A.in1 (tryCatch (pyNext (.ref I)) _ >>= _) _ _ _ from wpAny_bind (wpAny_tryCatch (W.done _ _ _ st fun h1 tk1 k1 => ?_)))
    have hs1 := k1 S _ nS hs
    refine (show wpAny _ A.in1 (updateSeq S (fun _ => #[]) >>= _) _ _ _ from wpAny_bind (wpAny_updateSeq hs1 rfl (wpAny_bind (wpAny_letGo (wpAny_pure ?_)))))
    have u1 := Heap.SameBut.update h1 S (Obj.mapSeq fun _ => (#[] : Array Value))
    exact fin i v _ _ (by omega) hP (fun j' hj' => hb j' (by omega)) fun b o eb => (u1.2 b (fun z => by rw [z, gS] at eb; cases eb)).trans (k1 b o (fun z => by rw [gw b z] at eb; cases eb) (K b o eb))
  | succ r ih =>
    intro j i h tk v t c hr hj hij hP hb K st hs
    (refine codeAny_builtin PySem.F.entry_min_loop ?_); (rw [Around.under_plainId PySem.F.plain_min_loop _])
    refine (show wpAny _ A.in1 (seqItems? (.ref S) >>= _) _ _ _ from wpAny_bind (wpAny_seqItems hs rfl ?_))
    refine (show wpAny _ A.in1 (tryCatch (pyNext (.ref I)) _ >>= _) _ _ _ from wpAny_bind (wpAny_tryCatch (W.item (j + 1) _ _ _ (by omega) st fun u h1 tk1 hPu st1 k1 => ?_)))
    have hs1 := k1 S _ nS hs
    have K1 : Kp g h1 := fun b o eb => k1 b o (fun z => by rw [gw b z] at eb; cases eb) (K b o eb)
    refine (show wpAny _ A.in1 (tryCatch (holding [u] (call (.ref f) [u])) _ >>= _) _ _ _ from wpAny_bind (wpAny_tryCatch (wpAny_holding (wpAny_mono (ask (j + 1) u h1 tk1 (by omega) hPu K1) (fun x s2 he => ?_) fun _ _ z => z.elim))))
    obtain ⟨h2, tk2, t2, rfl, rfl, K2⟩ := he
    have hs2 := K2 S _ hs1
    have st2 : St (j + 1 + 1) h2 := W.frame _ _ _ st1 fun b _ o e => K2 b o e
    refine (show wpAny _ A.in1 (tryCatch (holding [u, .int (kf (j + 1)) t2] (richCompare .Lt (.int (kf (j + 1)) t2) (.int (kf i) t) >>= _)) _ >>= _) _ _ _ from wpAny_bind (wpAny_tryCatch (wpAny_holding (wpAny_bind ?_))))
    refine CmpOf.ints_lt (prog := prog) (w := w) (A := A.in1) (P := fun i v => ∃ t, v = .int (kf i) t) kf (fun _ _ y => y) (j + 1) i _ _ _ _ _ ⟨t2, rfl⟩ ⟨t, rfl⟩ (wpAny_bind (wpAny_holding (wpAny_truthy_bool (wpAny_bind (wpAny_letGo (wpAny_pure ?_))))))
    by_cases lt : kf (j + 1) < kf i
    · have u2 := Heap.SameBut.update h2 S (Obj.mapSeq fun _ => #[u, .int (kf (j + 1)) t2])
      obtain ⟨c2, hc2⟩ : ∃ c2, (h2.update S (Obj.mapSeq fun _ => #[u, .int (kf (j + 1)) t2])).get? S = some (seqObj "list" #[u, .int (kf (j + 1)) t2] c2) := ⟨_, get?_update_seq hs2 fun _ => #[u, .int (kf (j + 1)) t2]⟩
      simp only [lt, decide_true, if_true]
      refine wpAny_bind (wpAny_updateSeq hs2 rfl (wpAny_bind (wpAny_letGo ?_)))
      (rw [loopName]); refine wpAny_pure ⟨plainId_quiet PySem.F.plain_min_loop _, ih (j + 1) (j + 1) _ _ u t2 c2 (by omega) (by omega) (Nat.le_refl _) hPu (fun j' hj' => ?_) (fun b o eb => ?_) (W.frame _ _ _ st2 fun b hb o e => ?_) hc2⟩
      · by_cases z : j' = j + 1
        · rw [z]; exact Int.le_refl _
        · have := hb j' (by omega)
          omega
      · exact (u2.2 b (fun z => by rw [z, gS] at eb; cases eb)).trans (K2 b o (K1 b o eb))
      · exact (u2.2 b (fun z => hS (z ▸ hb))).trans e
    · simp only [lt, decide_false, Bool.false_eq_true, if_false]
      refine wpAny_bind (wpAny_letGo ?_)
      (rw [loopName]); refine wpAny_pure ⟨plainId_quiet PySem.F.plain_min_loop _, ih (j + 1) i _ _ v t c (by omega) (by omega) (by omega) hP (fun j' hj' => ?_) (K1.trans K2) st2 hs2⟩
      by_cases z : j' = j + 1
      · rw [z]; omega
      · exact hb j' (by omega)
theorem minK_dict {d : Addr} {kvs : List (Key × Value)} {ep : Nat} {Q : Value → Shared → Prop} (hh : A.handled = none) (hd : (d == sysModules) = false) (hm : s.heap.DictAt (mixKind prog w) d kvs ep) (hne : 0 < kvs.length) (kf : Nat → Int)
    (ask : ∀ (i : Nat) (v : Value) (h : Heap) (tk : Nat), i < kvs.length → (∃ k x, kvs[i]? = some (k, x) ∧ (mixKind prog w).is k v = true) → Kp s.heap h → wpAny (model prog w) A.in1 (call (.ref f) [v]) (fun v' s' => ∃ h' tk' t', s' = { s with heap := h', toks := tk' } ∧ v' = .int (kf i) t' ∧ Kp h h') (fun _ _ => False) { s with heap := h, toks := tk })
    (fin : ∀ (i : Nat) (v : Value) (h : Heap) (tk : Nat), i < kvs.length → (∃ k x, kvs[i]? = some (k, x) ∧ (mixKind prog w).is k v = true) → (∀ j, j < kvs.length → kf i ≤ kf j) → Kp s.heap h → Q v { s with heap := h, toks := tk }) :
    wpAny (model prog w) A (call (.builtin "min") [.ref d] [(Str.ofString "key", .ref f)]) Q E s := by
  refine kmk_tree PySem.F.kind_min PySem.F.plain_min PySem.F.entry_min (kmk_min_key _ _) (show wpAny _ A.in1 (Builtin.Builtins.bindParams "min" ["key", "default"] 0 ⟨[], [(Str.ofString "key", .ref f)]⟩ >>= _) _ _ s from ?_)
  refine wpAny_bind (wpAny_of_eq (show Builtin.Builtins.bindParams "min" ["key", "default"] 0 ⟨[], [(Str.ofString "key", .ref f)]⟩ = pure [some (.ref f), none] from rfl) (wpAny_bind (wpAny_pure (wpAny_bind (wpAny_pyIter_dict hd hm (wpAny_bind (wpAny_newList ?_ (Nat.zero_le _))))))))
  (rw [loopName]); refine wpAny_pure ⟨plainId_quiet PySem.F.plain_min_loop _, ?_⟩
  obtain ⟨od, _, hod, _⟩ := id hm
  have dlt : d < s.heap.objs.size := Heap.lt_size hod
  have W := Walks.dictKeys (prog := prog) (w := w) (knd := mixKind prog w) (A := A.in1) hh s.heap.objs.size d (Nat.ne_of_lt dlt) kvs ep
  have hI : (s.heap.push { cls := .type "dict_keyiterator", data := .fields #[.ref d, .int 0 0, .int kvs.length 0, .int ep 0] }).get? s.heap.objs.size = some { cls := .type "dict_keyiterator", data := .fields #[.ref d, .int 0 0, .int kvs.length 0, .int ep 0] } := Heap.get?_push_size _ rfl
  have hz : (s.heap.push { cls := .type "dict_keyiterator", data := .fields #[.ref d, .int 0 0, .int kvs.length 0, .int ep 0] }).objs.size = s.heap.objs.size + 1 := size_push' ..
  have k0 : Kp s.heap (s.heap.push { cls := .type "dict_keyiterator", data := .fields #[.ref d, .int 0 0, .int kvs.length 0, .int ep 0] }) := fun b o e => Heap.get?_push_of_some _ e
  generalize (s.heap.push { cls := .type "dict_keyiterator", data := .fields #[.ref d, .int 0 0, .int kvs.length 0, .int ep 0] }) = g1 at hI hz k0 ⊢
  have hS : g1.objs.size ∉ [s.heap.objs.size, d] := by
    rw [hz]
    intro z
    rcases List.mem_cons.mp z with z | z
    · exact absurd z (Nat.succ_ne_self _)
    · have e := List.mem_singleton.mp z
      rw [← e] at dlt
      exact absurd dlt (Nat.not_lt.mpr (Nat.le_succ _))
  have gS : s.heap.get? g1.objs.size = none := Heap.get?_none_of_le (by rw [hz]; exact Nat.le_succ _)
  have gw : ∀ b ∈ [s.heap.objs.size], s.heap.get? b = none := fun b hb => by
    rw [List.mem_singleton.mp hb]
    exact Heap.get?_none_of_le (Nat.le_refl _)
  have nS : g1.objs.size ∉ [s.heap.objs.size] := fun z => hS (W.sub _ z)
  have k1 : Kp s.heap (g1.push (seqObj "list" #[] 0)) := fun b o e => Heap.get?_push_of_some _ (k0 b o e)
  have st0 : (g1.push (seqObj "list" #[] 0)).IsKeyIter s.heap.objs.size d 0 kvs.length ep ∧ (g1.push (seqObj "list" #[] 0)).DictAt (mixKind prog w) d kvs ep := ⟨⟨_, Heap.get?_push_of_some _ hI, rfl, rfl⟩, hm.at' fun o e => k1 d o e⟩
  have hs0 : (g1.push (seqObj "list" #[] 0)).get? g1.objs.size = some (seqObj "list" #[] 0) := Heap.get?_push_size _ rfl
  generalize g1.objs.size = S at hS gS nS hs0 ⊢
  generalize g1.push (seqObj "list" #[] 0) = h0 at k1 st0 hs0 ⊢
  (refine codeAny_builtin PySem.F.entry_min_loop ?_); (rw [Around.under_plainId PySem.F.plain_min_loop _])
  refine (show wpAny _ A.in1 (seqItems? (.ref S) >>= _) _ _ _ from wpAny_bind (wpAny_seqItems hs0 rfl ?_))
  refine (show wpAny _ A.in1 (tryCatch (pyNext (.ref s.heap.objs.size)) _ >>= _) _ _ _ from wpAny_bind (wpAny_tryCatch (W.item 0 _ _ _ hne st0 fun u h1 tk1 hPu st1 kk => ?_)))
  have hs1 := kk S _ nS hs0
  have K1 : Kp s.heap h1 := fun b o eb => kk b o (fun z => by rw [gw b z] at eb; cases eb) (k1 b o eb)
  refine (show wpAny _ A.in1 (tryCatch (holding [u] (call (.ref f) [u])) _ >>= _) _ _ _ from wpAny_bind (wpAny_tryCatch (wpAny_holding (wpAny_mono (ask 0 u h1 tk1 hne hPu K1) (fun x s2 he => ?_) fun _ _ z => z.elim))))
  obtain ⟨h2, tk2, t2, rfl, rfl, K2⟩ := he
  have hs2 := K2 S _ hs1
  have st2 := W.frame _ _ _ st1 fun b _ o e => K2 b o e
  have u2 := Heap.SameBut.update h2 S (Obj.mapSeq fun _ => #[u, .int (kf 0) t2])
  obtain ⟨c2, hc2⟩ : ∃ c2, (h2.update S (Obj.mapSeq fun _ => #[u, .int (kf 0) t2])).get? S = some (seqObj "list" #[u, .int (kf 0) t2] c2) := ⟨_, get?_update_seq hs2 fun _ => #[u, .int (kf 0) t2]⟩
  refine (show wpAny _ A.in1 (updateSeq S (fun _ => #[u, .int (kf 0) t2]) >>= _) _ _ _ from wpAny_bind (wpAny_updateSeq hs2 rfl ?_))
  (rw [loopName]); refine wpAny_pure ⟨plainId_quiet PySem.F.plain_min_loop _, minK_loop W kf s.heap hS gS gw ask (fun i v h tk hi hP hb K => fin i v h tk hi hP hb K) _ 0 0 _ _ u t2 c2 rfl hne (Nat.le_refl _) hPu (fun j' hj' => ?_) (fun b o eb => ?_) (W.frame _ _ _ st2 fun b hb o e => ?_) hc2⟩
  · have : j' = 0 := by omega
    rw [this]
    exact Int.le_refl _
  · exact (u2.2 b (fun z => by rw [z, gS] at eb; cases eb)).trans (K2 b o (K1 b o eb))
  · exact (u2.2 b (fun z => hS (z ▸ hb))).trans e
end
section
variable {prog : Program} {w : World} {A : Around} {s : Shared}
theorem lam_keyG {f c' d cc : Addr} {q nm lv : Str} {u : Value} {kk : Key} {params : Arguments} {scope : Scope} {p1 p2 p3 : Pos} {pm ctv : Value} {k : Int} {t : Tok} {vs : List (Key × Value)}
    (hf : s.heap.get? f = some (kla_obj "<lambda>" q params (.Subscript (.Name lv p1) (.Name nm p2) p3) scope [(lv, cc)] pm c' ctv)) (hrec : s.heap.CodeRec (.ref c') q) (hcell : s.heap.IsCell cc (some (.ref d))) (hd : s.heap.DictOf (mixKind prog w) d vs) (hu : (mixKind prog w).is kk u = true) (hv : valueAt vs kk = some (.int k t))
    (hroom : A.depth < recursionLimit) (hlim : s.heap.NoLimit) (hsc : scope.kind = .function ∧ scope.isCoroutine = false ∧ scope.isGenerator = false ∧ scope.names.lookup nm = some .local ∧ scope.names.lookup lv = some .free ∧ ∀ x ∈ scope.names, x.2 ≠ .cell)
    (hbind : bindArgs (kla_fn "<lambda>" q params (.Subscript (.Name lv p1) (.Name nm p2) p3) scope [(lv, cc)] pm (.ref c') ctv) ⟨[u], []⟩ = pure [(nm, u)]) (hn1 : (nm == ("__debug__" : Str)) = false := by decide) (hn2 : (lv == ("__debug__" : Str)) = false := by decide) (hn3 : (lv == ("__classdict__" : Str)) = false := by decide) :
    wpAny (model prog w) A (call (.ref f) [u]) (fun v s' => ∃ h' tk t', s' = { s with heap := h', toks := tk } ∧ v = .int k t' ∧ Kp s.heap h') (fun _ _ => False) s := by
  obtain ⟨k1, k2, k3, k4, k5, k6⟩ := hsc
  refine wpAny_call (kla_callFunE hroom hf rfl k2 k3 rfl hrec ?_)
  rw [hbind]
  refine wpAny_pure (wpAny_newFunctionEnv k6 (fun y hy => ?_) (fun h₁ hns hsb => ?_) k1)
  · rw [List.mem_singleton.mp hy]
    exact k4
  have hk : Kp s.heap h₁ := fun b o e => hsb.extBut b o (Nat.ne_of_lt (Heap.lt_size e)) (Heap.get?_push_of_some _ e)
  refine ⟨hlim.fresh _ hsb, kla_codeExpr ?_⟩
  have hd1 : h₁.DictOf (mixKind prog w) d vs := by
    obtain ⟨o, es, ep, ho, r⟩ := hd
    exact ⟨o, es, ep, hk _ _ ho, r⟩
  have hc1 : h₁.IsCell cc (some (.ref d)) := by
    obtain ⟨o, ho, r⟩ := hcell
    exact ⟨o, hk _ _ ho, r⟩
  refine wpAny_Subscript_Name (T := "dict") F.slot_dict_getitem.lookup (wpAny_Name (wpAny_loadName_free k1 k5 (c := cc) (by simp [newEnv]) hc1 (wpAny_Name (wpAny_loadName_local k1 k4 hns (v := u) (by simp) ⟨hd1.typeIs, ?_⟩) hn1) hn3) hn2)
  exact wpAny_getItem_of (knd := mixKind prog w) (k := kk) hu hd1.mapOf hv ⟨_, _, _, rfl, rfl, hk⟩
end
section
variable {X : Cx}
def MinAsk (P : Addr) (pos : Pos) (q : Str) (i : Nat) (σ : St) (Q : VK) (x : V) (H1 : Hp) : Prop := ∃ (d : Addr) (kvs : List (Key × V)) (ks : List Int) (kz : Int → Int), x = .ref d ∧ H1 d = some (.dK kvs) ∧ kvs.map (·.1) = ks.map Sum.inl ∧ ks ≠ [] ∧ σ[i]? = some (some (.ref d)) ∧
  (∀ k ∈ ks, valV kvs (.inl k) = some (.int (kz k))) ∧ TblAt H1 P pos q ∧ ∀ (k : Int) (H2 : Hp), k ∈ ks → (∀ j ∈ ks, kz k ≤ kz j) → TblAt H2 P pos q → But P H1 H2 → Q (.int k) H2
def tMinK (P : Addr) (pos : Pos) (q : Str) (i : Nat) (te : TE) : TE := fun σ H Q => te σ H (MinAsk P pos q i σ Q)
theorem kv_keys {kvs : List (Key × V)} {dv : List (Key × Value)} (r : KV kvs dv) : dv.map (·.1) = kvs.map (·.1) := by
  induction r with
  | nil => rfl
  | cons r1 _ ih => rw [List.map_cons, List.map_cons, ih, r1.1]
theorem pe_minK {e : Expr} {te : TE} {p1 p2 kp lp q1 q2 q3 : Pos} {params : Arguments} {scope : Scope} {i k : Nat} {nm lv : Str} {P c : Addr} (hcm : X.calm = true) (hg : Gl X "min") (hm : X.mg "min" = none) (he : PE X e te) (hr : Room k X.A)
    (hcd : X.env.code = .ref c) (hC : codeHdIn X.K c P = true) (hB : BMain X.mg X.base) (hdef : defaultsOf params X.env = ([], [])) (hN : X.N[i]? = some lv) (hlv : X.env.scope.names.lookup lv = some .cell) (hcl : ∀ cc, X.env.cells.lookup lv = some cc → closureFor scope X.env = pure [(lv, cc)])
    (hsc : scope.kind = .function ∧ scope.isCoroutine = false ∧ scope.isGenerator = false ∧ scope.names.lookup nm = some .local ∧ scope.names.lookup lv = some .free ∧ ∀ x ∈ scope.names, x.2 ≠ .cell)
    (hbind : ∀ (cc c' : Addr) (pm ctv v : Value), bindArgs (kla_fn "<lambda>" (X.env.qual ++ "<lambda>") params (.Subscript (.Name lv q1) (.Name nm q2) q3) scope [(lv, cc)] pm (.ref c') ctv) ⟨[v], []⟩ = pure [(nm, v)])
    (hn1 : (nm == ("__debug__" : Str)) = false := by decide) (hn2 : (lv == ("__debug__" : Str)) = false := by decide) (hn3 : (lv == ("__classdict__" : Str)) = false := by decide) (hn : noStar [e] = true := by rfl) :
    PE X (.Call (.Name "min" p1) [e] [⟨some "key", .Lambda params (.Subscript (.Name lv q1) (.Name nm q2) q3) scope lp, kp⟩] p2) (tMinK P lp (X.env.qual ++ "<lambda>") i te) := by
  intro pins s σ H Q I h
  refine wpAny_Call_Name_kw (ld_blt I hg hm NP.bt_min ?_ (by decide) (by decide))
  have hx : ∃ cc, X.env.cells.lookup lv = some cc := I.ok.has lv (.inl hlv)
  obtain ⟨cc, hcc⟩ := hx
  refine callWith_kw (thn ((pa_e he pa_nil hn) p2 pins s σ H (fun vs H1 => match vs with | [x] => MinAsk P lp (X.env.qual ++ "<lambda>") i σ Q x H1 | _ => False) I h) fun us s1 ⟨vs, H1, I1, r1, hv⟩ => ?_) ?_ ?_ rfl rfl
  · match vs, hv, r1 with
    | [x], ⟨d, kvs, ks, kz, ex, hd, hks, hne, hσ, hval, tb, q⟩, r1 =>
    subst ex
    obtain ⟨u, rfl, ru⟩ := vals1 r1
    cases ru
    refine kws_cons (lam_make I1 hcd hC hB tb hdef (hcl cc hcc) fun f c' ctv H' s2 I2 hf Hf hc' tb' bt => kws_nil ?_)
    have hPs : ∃ u, H1 P = some (.tbl u) := tb.elim (fun e => ⟨_, e⟩) (fun ⟨c, e, _⟩ => ⟨_, e⟩)
    obtain ⟨pt, hPt⟩ := hPs
    have hd2 : H' d = some (.dK kvs) := bt _ _ (fun z => by rw [z, hPt] at hd; cases hd) hd
    obtain ⟨zd, nd, dv, rel, hdd⟩ := I2.hok d _ hd2
    have hcell : s2.heap.IsCell cc (some (.ref d)) := by
      obtain ⟨m', hn', hl'⟩ := I2.loc
      obtain ⟨u, ru, lk⟩ := hl' i lv (.ref d) hN hσ (.inr (.inl hlv))
      cases ru
      rcases lk with ⟨hk, _⟩ | ⟨_, c2, e2, e3⟩
      · have hk : X.env.scope.names.lookup lv = some .local := hk
        rw [hlv] at hk; cases hk
      · rw [hcc] at e2; cases e2; exact e3
    have hrec : s2.heap.CodeRec (.ref c') (X.env.qual ++ "<lambda>") := codeE_of I2.hok hc'
    have hkk : dv.map (·.1) = ks.map Sum.inl := by rw [kv_keys rel, hks]
    have hlen : dv.length = ks.length := by have := congrArg List.length hkk; rw [List.length_map, List.length_map] at this; exact this
    have key : ∀ (j : Nat) (v : Value), (∃ k x, dv[j]? = some (k, x) ∧ (mixKind X.prog X.w).is k v = true) → ∃ kk t, ks[j]? = some kk ∧ v = .int kk t ∧ (mixKind X.prog X.w).is (.inl kk) v = true := fun j v ⟨k, x, e1, e2⟩ => by
      have e3 := congrArg (fun z => z[j]?) hkk
      simp only [List.getElem?_map, e1, Option.map_some] at e3
      cases e4 : ks[j]? with
      | none => rw [e4] at e3; cases e3
      | some kk =>
        rw [e4] at e3
        have e5 : k = .inl kk := Option.some.inj e3
        subst e5
        rcases keyIs_shape (show keyIs (.inl kk) v = true from e2) with ⟨i2, t, z1, z2⟩ | ⟨_, _, z1, _⟩
        · cases z1
          exact ⟨_, t, rfl, z2, e2⟩
        · cases z1
    obtain ⟨ep, hat⟩ := hdd.dictAt
    have hroom : X.A.depth < recursionLimit := by have := hr.dp; omega
    refine minK_dict (f := f) (I2.ok.hd hcm) nd hat (by rw [hlen]; exact List.length_pos_iff.mpr hne) (fun j => kz (ks.getD j 0)) (fun j v h tk hj hP K => ?_) (fun j v h tk hj hP hb K => ?_)
    · obtain ⟨kk, t, e1, e2, e3⟩ := key j v hP
      have eg : ks.getD j 0 = kk := by rw [List.getD_eq_getElem?_getD, e1]; rfl
      rw [eg]
      obtain ⟨w', hw, rw'⟩ := RelO.some_of (v := .int (kz kk)) (o := valueAt dv (.inl kk)) (by have := rel.val (.inl kk); rw [hval _ (List.mem_of_getElem? e1)] at this; exact this)
      obtain ⟨tk', ew⟩ := rw'
      subst ew
      exact lam_keyG (prog := X.prog) (w := X.w) (A := X.A.in1) (s := { s2 with heap := h, toks := tk }) (nm := nm) (lv := lv) (u := v) (kk := .inl kk) (k := kz kk) (t := tk') (vs := dv) (K f _ hf) (by
        obtain ⟨c2, o, vs, t2, e1, e2, r⟩ := hrec
        cases e1
        exact ⟨c', o, vs, t2, rfl, K _ _ e2, r⟩) (by
        obtain ⟨o, e1, r⟩ := hcell
        exact ⟨o, K _ _ e1, r⟩) (by
        obtain ⟨o, es, ep, e1, r⟩ := hdd
        exact ⟨o, es, ep, K _ _ e1, r⟩) e3 hw hroom (I2.ok.mod.nolimit.keeps fun b o e => K b o (I2.bk b o e)) hsc (hbind cc c' _ ctv _) hn1 hn2 hn3
    · obtain ⟨kk, t, e1, e2, e3⟩ := key j v hP
      subst e2
      have eg : ks.getD j 0 = kk := by rw [List.getD_eq_getElem?_getD, e1]; rfl
      refine ⟨.int kk, H', I2.kept (t' := tk) K, ⟨t, rfl⟩, q kk H' (List.mem_of_getElem? e1) (fun y hy => ?_) tb' bt⟩
      obtain ⟨l, hl⟩ := List.mem_iff_getElem?.mp hy
      have := hb l (by rw [hlen]; exact (List.getElem?_eq_some_iff.mp hl).1)
      rw [eg, List.getD_eq_getElem?_getD, hl] at this
      exact this
  · rw [starEach_of hn]; rfl
  · exact backTo_any hn
end
end L2
set_option Elab.async false
set_option linter.all false
set_option maxRecDepth 100000
set_option maxHeartbeats 1000000
namespace L2
open PySem PySem.Spec PyProof.Rows PySem.W NP
theorem vals_get : ∀ {ys : List V} {us : List Value}, us.length = ys.length → (∀ (j : Nat) (v : Value), us[j]? = some v → ∃ y, ys[j]? = some y ∧ RelV y v) → Vals ys us
  | [], [], _, _ => .nil
  | [], _ :: _, e, _ => by simp at e
  | _ :: _, [], e, _ => by simp at e
  | y :: ys, u :: us, e, h => by
    obtain ⟨y', e1, r⟩ := h 0 u rfl
    have e1 : y = y' := by simpa using e1
    subst e1
    exact .cons r (vals_get (by simpa using e) fun j v hv => h (j + 1) v hv)
section
variable {X : Cx}
def rListD : List V → Hp → VK → Prop := fun xs H Q => ∃ (d : Addr) (kvs : List (Key × V)), xs = [.ref d] ∧ Rd H d (.dK kvs) ∧ kvs.length ≤ 1000 ∧ ∀ l, H l = none → Q (.ref l) (upd H l (.lst (kvs.map fun p => kV p.1)))
theorem call_listD (hc : X.calm = true) : CallR X (.type "list") rListD := by
  intro pins s σ H xs us Q I r h
  obtain ⟨d, kvs, rfl, hd, hl, q⟩ := h
  obtain ⟨u, rfl, ru⟩ := vals1 r
  cases ru
  obtain ⟨zd, nd, dv, rel, hdd⟩ := dk_rd I.hok hd
  obtain ⟨ep, hat⟩ := hdd.dictAt
  have hlen : dv.length = kvs.length := rel.length.symm
  have hkk := kv_keys rel
  refine kdl_call (kdl_dict (knd := mixKind X.prog X.w) (kvs := dv) (ep := ep) nd) (I.ok.hd hc) hat (by rw [hlen]; exact line1000 hl) fun h' tk acc c hk hS hacc => ?_
  have hn : H s.heap.objs.size = none := I.hok.fresh (Nat.le_refl _)
  have hal : acc.toList.length = (kvs.map fun p => kV p.1).length := by rw [Array.length_toList, hacc.1, hlen, List.length_map]
  have vals : Vals (kvs.map fun p => kV p.1) acc.toList := vals_get hal fun j v hv => by
    obtain ⟨k, x, hx, hkv⟩ := hacc.2 j v (by rw [← Array.getElem?_toList]; exact hv)
    have e1 := congrArg (fun z => z[j]?) hkk
    simp only [List.getElem?_map, hx, Option.map_some] at e1
    cases ex : kvs[j]? with
    | none => rw [ex] at e1; cases e1
    | some y =>
      rw [ex] at e1
      have e2 : k = y.1 := Option.some.inj e1
      subst e2
      exact ⟨kV y.1, by rw [List.getElem?_map, ex]; rfl, kV_of hkv⟩
  refine ⟨.ref s.heap.objs.size, _, I.laidF (t' := tk) (o := .lst (kvs.map fun p => kV p.1)) (fun b o eb => hk b o eb) (fun b o eb => Nat.ne_of_lt (Heap.lt_size eb)) hn ⟨?_, acc.toList, c, vals, ?_⟩, rfl, q _ hn⟩
  · rw [List.length_map]
    exact line1000 hl
  · rw [Array.toArray_toList]
    exact hS
theorem Inv.thaw {pins : List (Addr × Obj)} {σ : St} {H : Hp} {s : Shared} {a : Addr} {o : Obj} {kvs : List (Key × V)} (I : Inv X pins σ H s) (h : H a = some (.frz o (.dK kvs))) (h0 : X.H₀ a = none) : Inv X pins σ (upd H a (.dK kvs)) s := by
  have ne : ∀ b, H b = none → b ≠ a := fun b e z => by rw [z, h] at e; cases e
  have ne2 : ∀ b u, X.H₀ b = some u → b ≠ a := fun b u e z => by rw [z, h0] at e; cases e
  refine ⟨I.ok, I.os, I.bare, ⟨I.base.keep, I.base.slot, fun b ob e n hx => ?_, I.base.there, fun b xs e => ?_, fun b ob u e => ?_, fun b ps e => ?_⟩, I.loc, I.cell, ?_, fun x c e => ?_, fun p hp => ?_, fun b u e => ?_, I.len⟩
  · have := I.base.free b ob e n hx
    rw [upd_ne (ne b this)]
    exact this
  · rw [upd_ne (ne2 b _ e)]
    exact I.base.tups b xs e
  · rw [upd_ne (ne2 b _ e)]
    exact I.base.frzs b ob u e
  · rw [upd_ne (ne2 b _ e)]
    exact I.base.tbls b ps e
  · rw [upd_ne (ne _ I.free)]
    exact I.free
  · rw [upd_ne (ne _ (I.freeC x c e))]
    exact I.freeC x c e
  · obtain ⟨p1, p2, p3⟩ := I.pin p hp
    exact ⟨p1, by rw [upd_ne (ne _ p2)]; exact p2, p3⟩
  · by_cases hb : b = a
    · subst hb
      rw [upd_same] at e
      cases e
      exact (I.hok b _ h).2
    · rw [upd_ne hb] at e
      have nq : ∀ c w, H c = some w → w ≠ .frz o (.dK kvs) → c ≠ a := fun c w q n z => by rw [z, h] at q; exact n (Option.some.inj q).symm
      refine (I.hok b u e).stay (fun _ _ _ q => q) (fun c q => ?_) fun c ys q => ?_
      · rw [upd_ne (nq c _ q (fun z => by cases z))]; exact q
      · rw [upd_ne (nq c _ q (fun z => by cases z))]; exact q
def Thaw (H0 H H' : Hp) : Prop := H' = H ∨ ∃ a o kvs, H0 a = none ∧ H a = some (.frz o (.dK kvs)) ∧ H' = upd H a (.dK kvs)
def tThaw (H0 : Hp) (t : TS) : TS := fun D σ H => t { D with nx := fun σ' H' => ∃ H2, Thaw H0 H' H2 ∧ D.nx σ' H2 } σ H
theorem ps_thaw {st : Stmt} {t : TS} {H0 : Hp} (e : X.H₀ = H0) (h : PS X st t) : PS X st (tThaw H0 t) := by
  subst e
  intro pins s σ H D I q
  refine wpAny_mono (h pins s σ H _ I q) (fun f s' hs => ?_) fun _ _ z => z
  cases f with
  | next =>
    obtain ⟨σ', H', I', H2, th, q2⟩ := hs
    rcases th with e | ⟨a, o, kvs, h0, ha, e⟩
    · subst e; exact ⟨σ', _, I', q2⟩
    · subst e; exact ⟨σ', _, I'.thaw ha h0, q2⟩
  | ret u => exact hs
  | brk => exact hs
  | cont => exact hs
end
end L2
set_option Elab.async false
set_option linter.all false
set_option maxRecDepth 100000
namespace L2
open PySem PySem.Spec PyProof.Rows
def rGetK : V → V → Hp → VK → Prop := fun o i H Q => ∃ (p : Addr) (kvs : List (Key × V)) (k : Key) (v : V), o = .ref p ∧ i = kV k ∧ H p = some (.dK kvs) ∧ valV kvs k = some v ∧ Q v H
theorem get_dctK {X : Cx} (hu : X.A.units + 1 < cLine) : PGet X rGetK := by
  intro pins s σ H o i ov iv Q I ro ri h
  obtain ⟨p, kvs, k, v, rfl, rfl, hp, hv, q⟩ := h
  cases ro
  have g : DGet H p (kV k) (valV kvs k) := .inl ⟨kvs, k, .inl hp, rfl, rfl⟩
  rw [hv] at g
  exact d_getItem hu I g ri fun w' s' I' rw' => ⟨v, H, I', rw', q⟩
theorem item_dk {H : Hp} {p : Addr} {kvs : List (Key × V)} {k : Key} {v : V} (h : Rd H p (.dK kvs)) (e : valV kvs k = some v) : Item H (.ref p) (kV k) v := .inr (.inr ⟨p, kvs, k, rfl, rfl, h, e⟩)
end L2
namespace NP
open PySem L2
def nk (j : Nat) : Key := Sum.inl (j : Int)
theorem nk_inj {i j : Nat} (h : nk i = nk j) : i = j := by
  have := Sum.inl.inj h
  omega
def fnI (ks : List Nat) (g : Nat → Int) : List (Key × V) := ks.map fun x => (nk x, V.int (g x))
theorem fnI_keys (ks : List Nat) (g : Nat → Int) : (fnI ks g).map (·.1) = ks.map nk := by unfold fnI; rw [List.map_map]; rfl
theorem fnI_len (ks : List Nat) (g : Nat → Int) : (fnI ks g).length = ks.length := by unfold fnI; rw [List.length_map]
theorem fnI_val {ks : List Nat} {g : Nat → Int} {x : Nat} (h : x ∈ ks) : valV (fnI ks g) (nk x) = some (.int (g x)) := by
  induction ks with
  | nil => cases h
  | cons y r ih =>
    unfold fnI
    rw [List.map_cons]
    by_cases e : y = x
    · rw [valV_pos (by rw [e])]
      rw [e]
    · rw [valV_neg (fun z => e (nk_inj z))]
      exact ih ((List.mem_cons.mp h).resolve_left fun z => e z.symm)
theorem fnI_none {ks : List Nat} {g : Nat → Int} {x : Nat} (h : x ∉ ks) : valV (fnI ks g) (nk x) = none := by
  induction ks with
  | nil => rfl
  | cons y r ih =>
    unfold fnI
    rw [List.map_cons, valV_neg (fun z => h (by rw [← nk_inj z]; exact List.mem_cons_self))]
    exact ih fun m => h (List.mem_cons_of_mem _ m)
theorem fnI_put {ks : List Nat} {g : Nat → Int} {y : Nat} {v : Int} (h : y ∈ ks) : putK (fnI ks g) (nk y) (.int v) = fnI ks fun x => if x = y then v else g x := by
  unfold putK
  rw [if_pos (by rw [valV_any, fnI_val h]; rfl)]
  unfold fnI
  rw [List.map_map]
  apply List.map_congr_left
  intro x _
  show (if nk x = nk y then (nk x, V.int v) else (nk x, V.int (g x))) = (nk x, V.int (if x = y then v else g x))
  by_cases e : x = y
  · rw [if_pos (by rw [e]), if_pos e]
  · rw [if_neg (fun z => e (nk_inj z)), if_neg e]
theorem fnI_congr {ks : List Nat} {g g' : Nat → Int} (h : ∀ x ∈ ks, g x = g' x) : fnI ks g = fnI ks g' := by
  unfold fnI
  exact List.map_congr_left fun x hx => by rw [h x hx]
theorem fnI_new {ks : List Nat} {g : Nat → Int} {y : Nat} {v : Int} (h : y ∉ ks) : putK (fnI ks g) (nk y) (.int v) = fnI (ks ++ [y]) fun x => if x = y then v else g x := by
  rw [putK_new _ (fnI_none h)]
  unfold fnI
  rw [List.map_append]
  congr 1
  · refine List.map_congr_left fun x hx => ?_
    show (nk x, V.int (g x)) = (nk x, V.int (if x = y then v else g x))
    rw [if_neg (fun e : x = y => h (e ▸ hx))]
  · show [(nk y, V.int v)] = [(nk y, V.int (if y = y then v else g y))]
    rw [if_pos rfl]
end NP
set_option Elab.async false
set_option linter.all false
set_option maxRecDepth 100000
set_option maxHeartbeats 4000000
namespace K45
open PySem L2 NP
seal PE PA PT PS PSs PI PO PC PW
local macro_rules | `(tactic| walk_at "rd") => `(tactic| simp only [tSeq, tNext, tRet, tRetN, tAsg, tIfS, tDrop, tAug, gName, gSub, tVar, tC, tCB, tCons, tNil, tCall, tOp, tUn, tTest, tB, tAnd, tOr, tNot, tAndV, tOrV, tNotV, tIf, tTup, tLst, tSl, tPart, tNoPart, tBA, tBA0, tDNewK, tChain, tYes, rI, rI0, rU, rEq, rNe, rIsA, rIsnotA, rItem, lenA, rIAddA, rAddA, rMulA, listA, tupleA, lenQ, lenS, lenD, rSetD, rAddS, iLst, iTpl, iTxt, rCat, rCatTT, rRepT, iRng1, iRng2, iDct, tTruL, tTruD, tLrev, tIf, iEnum, iRev, iZip2, iZip3, rEqD, rNeD, rEqK, rNeK, iItm, tSortK, SortAsk, rSortS, rSortD, rSortT, rDictK, rClearD, rSum, rMaxL, rMinL, tMaxd, rGetL, rGetD, tAugS, rRep, rInsert, rMax2, rCount, rIndexS, rLtT, rAppend, rPopAt, rReverse, rSetA, rSetL, L2.start, cpSt, tComp_eq, tFor_eq, iAny_eq, tMinK, MinAsk, rListD, tThaw, rGetK,  D.ty, isi_NoneType_bool, isi_NoneType_int, isi_NoneType_str, isi_NoneType_list, isi_NoneType_tuple, isi_NoneType_dict, isi_bool_bool, isi_bool_int, isi_bool_str, isi_bool_list, isi_bool_tuple, isi_bool_dict, isi_int_bool, isi_int_int, isi_int_str, isi_int_list, isi_int_tuple, isi_int_dict, isi_str_bool, isi_str_int, isi_str_str, isi_str_list, isi_str_tuple, isi_str_dict, isi_list_bool, isi_list_int, isi_list_str, isi_list_list, isi_list_tuple, isi_list_dict, isi_tuple_bool, isi_tuple_int, isi_tuple_str, isi_tuple_list, isi_tuple_tuple, isi_tuple_dict, isi_dict_bool, isi_dict_int, isi_dict_str, isi_dict_list, isi_dict_tuple, isi_dict_dict, mem_int, mem_bool, mem_str, mem_list, mem_tuple, mem_dict, Nat.reduceAdd, Nat.reduceSub, Nat.zero_add, Nat.sub_self, List.replicate_zero, List.replicate_succ, List.getD_cons_zero, List.getD_cons_succ, ↓reduceIte, List.map_cons, List.map_nil, List.append_nil, List.nil_append, List.cons_append, List.length_cons, List.length_nil, List.set_cons_zero, List.set_cons_succ, List.set_nil, List.getElem?_cons_zero, List.getElem?_cons_succ, Option.some.injEq, exists_eq_left', exists_eq_left, V.int.injEq, V.bl.injEq, V.str.injEq, V.ref.injEq, V.ty.injEq, List.cons.injEq, and_true, true_and, and_assoc, exists_and_left, exists_eq_right, reduceCtorEq, false_and, and_false, exists_false, or_false, false_or])
def top (i : Nat) : Stmt := PySem.Challenge.pw_needplan_k45_plain_model_beside.main.body.getD i (.Pass ⟨0, 0, 0, 0⟩)
abbrev s_cheapest : Stmt := top 7
abbrev s_rises : Stmt := top 8
abbrev s_cheapest_start : Stmt := top 9
abbrev s_orders_by : Stmt := top 10
abbrev s_law_next : Stmt := top 12
abbrev s_law_drawn : Stmt := top 13
abbrev s_law_amount : Stmt := top 14
abbrev s_law_terms : Stmt := top 15
abbrev s_law_wanted : Stmt := top 16
abbrev s_law_serving : Stmt := top 17
abbrev s_law_least : Stmt := top 18
abbrev s_law : Stmt := top 19
structure Txt (mg : Str → Option Value) : Prop where
  n_enumerate : mg "enumerate" = none
  n_list : mg "list" = none
  n_zip : mg "zip" = none
  n_min : mg "min" = none
  n_len : mg "len" = none
  n_sum : mg "sum" = none
  n_range : mg "range" = none
  n_all : mg "all" = none
  g_KEEP : ∃ t, mg "KEEP" = some (.int 2 t)
  g_PRICE : ∃ t, mg "PRICE" = some (.int 1 t)
  g_SETUP : ∃ t, mg "SETUP" = some (.int 0 t)
def lamP : Pos := ⟨34, 25, 34, 50⟩
def lamQ : Str := ("cheapest_start" : Str) ++ ".<locals>." ++ "<lambda>"
def Tb (H : L2.Hp) (Pt : Addr) : Prop := L2.TblAt H Pt lamP lamQ
section
variable {P : Program} {w : World} {K : PySem.W.Frag} {mg : Str → Option Value} {base : Heap} {Pt : Addr}
theorem but_kuS {H H' : Hp} {st : Addr} (s : But st H H') (h : StOk H st) : KeepU H H' := fun a xs e => s a _ (h.neT e) e
theorem ku_lst {H : Hp} {l : Addr} {xs ys : List V} (h : H l = some (.lst xs)) : KeepU H (upd H l (.lst ys)) := ku_set h (fun _ z => by cases z)
def sp_law_next : Sp := fun vs H Q _ => ∃ st m, vs = [.ref st, .int m] ∧ StOk H st ∧ 0 < m ∧ m < 10 ^ 200 ∧ ∀ d H', 0 ≤ d → d < m → StOk H' st → But st H H' → Q (.int d) H'
theorem sc_law_next : FnScope ["_law_state", "_law_many", "_law_digit"] ["_law_state", "_law_many"] (defScope s_law_next) := ⟨rfl, rfl, rfl, by decide +kernel, rfl, by decide +kernel, by decide +kernel⟩
theorem ok_law_next {f : Addr} {fd : FuncData} (F : Fun K "_law_next" "_law_next" s_law_next f fd) (T : Txt mg) : FnOk P w K mg base CX0 1 f fd ["_law_state", "_law_many"] sp_law_next := by
  refine F.ok sc_law_next (fun vs H Q E h => ?_) (fun cdv A outer s H vs Q E hr h => ?_)
  · obtain ⟨st, m, rfl, _⟩ := h
    rfl
  · obtain ⟨st, m, rfl, ⟨ns, hne, hs⟩, h0, hm, k⟩ := h
    have hu := hu_of hr
    refine ⟨_, (pss_cons (ps_if (pt_cmpR op_gt (pe_callBS call_len_q rfl T.n_len bt_len (pa_e (pv 0) pa_nil)) pe_int (nomark _)) (pss_cons (ps_set (i := 2) sc_law_next.nd rfl (Or.inl rfl) (pe_op op_mod (pe_item hu (pv 0) pe_int (fun _ _ => rfl)) (pv 1)))
 (pss_cons (ps_asg (pe_op op_fdivL (pe_item hu (pv 0) pe_int (fun _ _ => rfl)) (pv 1)) (pg_sub (pv 0) pe_int set_list))
 (pss_cons (ps_if (pt_cmpR (op_inA hu) (pe_item hu (pv 0) pe_int (fun _ _ => rfl)) (pe_tup (pa_e pe_int (pa_e (pe_un un_neg pe_int) pa_nil))) rfl) (pss_one (ps_expr (pe_bs PySem.F.plainAttrs_list PySem.F.slot_list_pop PySem.F.type_list_pop mt_popAt (pv 0) (pa_e pe_int pa_nil)))) pss_nil)
 (pss_one (ps_ret (pv 2)))))) pss_nil)
 (pss_cons (ps_asg (pe_op op_mod (pe_op op_add (pe_op op_mulB (pe_item hu (pv 0) pe_int (fun _ _ => rfl)) pe_int) pe_int) (pe_op op_sub (pe_op op_pow pe_int pe_int) pe_int)) (pg_sub (pv 0) pe_int set_list))
 (pss_one (ps_ret (pe_op op_mod (pe_op op_fdivL (pe_item hu (pv 0) pe_int (fun _ _ => rfl)) pe_int) (pv 1)))))), ?_⟩
    walk_at "rd"
    cases ns with
    | nil => exact absurd rfl hne
    | cons n0 rest =>
    have hit : ∀ (H' : Hp) (n : Int) (r : List Int), H' st = some (.lst (V.int n :: r.map V.int)) → Item H' (.ref st) (.int 0) (.int n) := fun H' n r e => item_l (j := 0) e rfl
    have h0i := hit H n0 rest hs
    refine ⟨_, .inl hs, ?_⟩
    refine ite2 (fun hl => ?_) (fun hl => ?_)
    · refine ⟨_, h0i, _, rfl, h0, _, h0i, _, rfl, h0, hm, _, hs, 0, by simp [ixN], ?_⟩
      have e1 : upd H st (.lst ((List.map V.int (n0 :: rest)).set 0 (V.int (n0 / m)))) st = some (.lst (V.int (n0 / m) :: rest.map V.int)) := by rw [upd_same]; rfl
      refine ⟨_, hit _ _ _ e1, by decide, fun p hp => ?_⟩
      have npst : st ≠ p := ne_of_none e1 hp
      refine ⟨_, .inl ⟨p, _, rfl, .inr upd_same, rfl, rfl, rfl⟩, ?_⟩
      have d0 : 0 ≤ n0 % m := Int.emod_nonneg _ (by omega)
      have d1 : n0 % m < m := Int.emod_lt_of_pos _ h0
      have e2 : ∀ o, upd (upd H st (.lst ((List.map V.int (n0 :: rest)).set 0 (V.int (n0 / m))))) p o st = some (.lst (V.int (n0 / m) :: rest.map V.int)) := fun o => by rw [upd_ne npst]; exact e1
      have hrest : rest ≠ [] := fun e => by
        have hl := of_decide_eq_true hl
        rw [e] at hl
        simp at hl
      have bt : But st H (upd (upd H st (.lst ((List.map V.int (n0 :: rest)).set 0 (V.int (n0 / m))))) p (.tup [V.int 0, V.int (-1)])) := but_set.trans (but_upd hp)
      refine ite2 (fun hb => ?_) (fun hb => ?_)
      · refine ⟨by unfold tyOf; simp only [e2], _, e2 _, by decide, by decide, 0, by simp [seqIndex?], _, rfl, ?_⟩
        exact k _ _ d0 d1 ⟨rest, hrest, by rw [upd_same]; rfl⟩ (bt.trans but_set)
      · exact k _ _ d0 d1 ⟨(n0 / m) :: rest, by simp, e2 _⟩ bt
    · have e1 : ∀ z : Int, upd H st (.lst ((List.map V.int (n0 :: rest)).set 0 (V.int z))) st = some (.lst (V.int z :: rest.map V.int)) := fun z => by rw [upd_same]; rfl
      refine ⟨_, h0i, _, rfl, .inl (.inr ⟨by decide, by decide⟩), ⟨by decide, by decide, by decide⟩, by decide, _, hs, 0, by simp [ixN], _, hit _ _ _ (e1 _), _, rfl, by decide, by decide +kernel, h0, ?_⟩
      exact k _ _ (Int.emod_nonneg _ (by omega)) (Int.emod_lt_of_pos _ h0) ⟨_ :: rest, by simp, e1 _⟩ but_set
def sp_law_drawn (K : PySem.W.Frag) : Sp := fun vs H Q _ => ∃ (a : Addr) (ns : List Int), vs = [.ref a] ∧ SqL K H a (ns.map V.int) ∧ ns.length ≤ 63 ∧ ∀ st H', StOk H' st → Same H H' → Q (.ref st) H'
theorem cutV_ints (ns : List Int) (lo hi : Option Int) : ∃ ms : List Int, cutV (ns.map V.int) lo hi = ms.map V.int := by
  unfold cutV
  exact ⟨_, by rw [← List.map_drop, ← List.map_take]⟩
theorem sc_law_drawn : FnScope ["_law_script", "_law_seed", "_law_cell"] ["_law_script"] (defScope s_law_drawn) := ⟨rfl, rfl, rfl, by decide +kernel, rfl, by decide +kernel, by decide +kernel⟩
theorem ok_law_drawn {f : Addr} {fd : FuncData} (F : Fun K "_law_drawn" "_law_drawn" s_law_drawn f fd) (T : Txt mg) : FnOk P w K mg base CX0 1 f fd ["_law_script"] (sp_law_drawn K) := by
  refine F.ok sc_law_drawn (fun vs H Q E h => ?_) (fun cdv A outer s H vs Q E hr h => ?_)
  · obtain ⟨a, ns, rfl, _⟩ := h
    rfl
  · obtain ⟨a, ns, rfl, hS, hlen, k⟩ := h
    have hu := hu_of hr
    refine ⟨_, (pss_cons (ps_set (i := 1) sc_law_drawn.nd rfl (Or.inl rfl) pe_int)
 (pss_cons (ps_for PassesOwn.never rfl (pi_list (pv 0)) (pg_name (i := 2) sc_law_drawn.nd rfl (Or.inl rfl))
 (pss_one (ps_set (i := 1) sc_law_drawn.nd rfl (Or.inl rfl) (pe_op op_mod (pe_op op_add (pe_op op_add (pe_op op_mulB (pv 1) pe_int) (pe_op op_mod (pv 2) (pe_op op_pow pe_int pe_int))) pe_int) (pe_op op_sub (pe_op op_pow pe_int pe_int) pe_int)))))
 (pss_cons (ps_if (PW.pt (pw_and (pt_cmpR op_gt (pe_callBS call_len_seq rfl T.n_len bt_len (pa_e (pv 0) pa_nil)) pe_int (nomark _)) (pw_and1 (pt_cmpR (op_eqA hu) (pe_op op_mod (pe_ix ix_list (pv 0) pe_int (fun _ _ => rfl)) pe_int) pe_int (nomark _))))) (pss_one (ps_ret (pe_op op_cat (pe_op op_cat (pe_lst (pa_e (pe_op op_fdivL (pe_ix ix_list (pv 0) pe_int (fun _ _ => rfl)) pe_int) pa_nil)) (pe_slice sl_list (pv 0) (po_some pe_int) (po_some pe_int))) (pe_lst (pa_e (pv 1) pa_nil))))) pss_nil)
 (pss_one (ps_ret (pe_lst (pa_e (pv 1) pa_nil))))))), ?_⟩
    simp only [tSeq, tNext, tRet, tRetN, tAsg, tIfS, tDrop, tAug, gName, gSub, tVar, tC, tCB, tCons, tNil, tCall, tOp, tUn, tTest, tB, tAnd, tOr, tNot, tAndV, tOrV, tNotV, tIf, tTup, tLst, tSl, tPart, tNoPart, tBA, tBA0, tDNewK, tChain, tYes, rI, rI0, rU, rEq, rNe, rIsA, rIsnotA, rItem, lenA, rIAddA, rAddA, rMulA, listA, tupleA, lenQ, lenS, lenD, rSetD, rAddS, iLst, iTpl, iTxt, rCat, rCatTT, rRepT, iRng1, iRng2, iDct, tTruL, tTruD, tLrev, tIf, iEnum, iRev, iZip2, iZip3, rEqD, rNeD, rEqK, rNeK, iItm, tSortK, SortAsk, rSortS, rSortD, rSortT, rDictK, rClearD, rSum, rMaxL, rMinL, tMaxd, rGetL, rGetD, tAugS, rRep, rInsert, rMax2, rCount, rIndexS, rLtT, rAppend, rPopAt, rReverse, rSetA, rSetL, L2.start, cpSt, tComp_eq, tFor_eq, iAny_eq, tMinK, MinAsk, rListD, tThaw, rGetK,  D.ty, isi_NoneType_bool, isi_NoneType_int, isi_NoneType_str, isi_NoneType_list, isi_NoneType_tuple, isi_NoneType_dict, isi_bool_bool, isi_bool_int, isi_bool_str, isi_bool_list, isi_bool_tuple, isi_bool_dict, isi_int_bool, isi_int_int, isi_int_str, isi_int_list, isi_int_tuple, isi_int_dict, isi_str_bool, isi_str_int, isi_str_str, isi_str_list, isi_str_tuple, isi_str_dict, isi_list_bool, isi_list_int, isi_list_str, isi_list_list, isi_list_tuple, isi_list_dict, isi_tuple_bool, isi_tuple_int, isi_tuple_str, isi_tuple_list, isi_tuple_tuple, isi_tuple_dict, isi_dict_bool, isi_dict_int, isi_dict_str, isi_dict_list, isi_dict_tuple, isi_dict_dict, mem_int, mem_bool, mem_str, mem_list, mem_tuple, mem_dict, Nat.reduceAdd, Nat.reduceSub, Nat.zero_add, Nat.sub_self, List.replicate_zero, List.replicate_succ, List.getD_cons_zero, List.getD_cons_succ, ↓reduceIte, List.map_cons, List.map_nil, List.append_nil, List.nil_append, List.cons_append, List.length_cons, List.length_nil, List.set_cons_zero, List.set_cons_succ, List.set_nil, List.getElem?_cons_zero, List.getElem?_cons_succ, Option.some.injEq, exists_eq_left', exists_eq_left, V.int.injEq, V.bl.injEq, V.str.injEq, V.ref.injEq, V.ty.injEq, List.cons.injEq, and_true, true_and, and_assoc, exists_and_left, exists_eq_right, reduceCtorEq, false_and, and_false, exists_false, or_false, false_or, iList]
    refine ⟨⟨_, hS⟩, for_list (K := K) (a := a) (xs := ns.map V.int) (fun i σ H' => H' = H ∧ ∃ (z : Int) (c : Option V), σ = [some (.ref a), some (.int z), c]) ⟨rfl, _, _, rfl⟩ (fun i σ H' _ p => by rw [p.1]; exact hS) ?_ ?_⟩
    · rintro i y σ H' hy ⟨rfl, z, c, rfl⟩
      obtain ⟨u, rfl⟩ : ∃ u, y = V.int u := by
        rw [List.getElem?_map] at hy
        cases e : ns[i]? with
        | none => rw [e] at hy; cases hy
        | some u => rw [e] at hy; exact ⟨u, (Option.some.inj hy).symm⟩
      walk_at "rd"
      refine ⟨.inl (.inr ⟨by decide, by decide⟩), ⟨by decide, by decide, by decide⟩, by decide, ⟨by decide, by decide, by decide⟩, by decide, _, rfl⟩
    · rintro σ H' ⟨rfl, z, c, rfl⟩
      simp only [tSeq, tNext, tRet, tRetN, tAsg, tIfS, tDrop, tAug, gName, gSub, tVar, tC, tCB, tCons, tNil, tCall, tOp, tUn, tTest, tB, tAnd, tOr, tNot, tAndV, tOrV, tNotV, tIf, tTup, tLst, tSl, tPart, tNoPart, tBA, tBA0, tDNewK, tChain, tYes, rI, rI0, rU, rEq, rNe, rIsA, rIsnotA, rItem, lenA, rIAddA, rAddA, rMulA, listA, tupleA, lenQ, lenS, lenD, rSetD, rAddS, iLst, iTpl, iTxt, rCat, rCatTT, rRepT, iRng1, iRng2, iDct, tTruL, tTruD, tLrev, tIf, iEnum, iRev, iZip2, iZip3, rEqD, rNeD, rEqK, rNeK, iItm, tSortK, SortAsk, rSortS, rSortD, rSortT, rDictK, rClearD, rSum, rMaxL, rMinL, tMaxd, rGetL, rGetD, tAugS, rRep, rInsert, rMax2, rCount, rIndexS, rLtT, rAppend, rPopAt, rReverse, rSetA, rSetL, L2.start, cpSt, tComp_eq, tFor_eq, iAny_eq, tMinK, MinAsk, rListD, tThaw, rGetK,  D.ty, isi_NoneType_bool, isi_NoneType_int, isi_NoneType_str, isi_NoneType_list, isi_NoneType_tuple, isi_NoneType_dict, isi_bool_bool, isi_bool_int, isi_bool_str, isi_bool_list, isi_bool_tuple, isi_bool_dict, isi_int_bool, isi_int_int, isi_int_str, isi_int_list, isi_int_tuple, isi_int_dict, isi_str_bool, isi_str_int, isi_str_str, isi_str_list, isi_str_tuple, isi_str_dict, isi_list_bool, isi_list_int, isi_list_str, isi_list_list, isi_list_tuple, isi_list_dict, isi_tuple_bool, isi_tuple_int, isi_tuple_str, isi_tuple_list, isi_tuple_tuple, isi_tuple_dict, isi_dict_bool, isi_dict_int, isi_dict_str, isi_dict_list, isi_dict_tuple, isi_dict_dict, mem_int, mem_bool, mem_str, mem_list, mem_tuple, mem_dict, Nat.reduceAdd, Nat.reduceSub, Nat.zero_add, Nat.sub_self, List.replicate_zero, List.replicate_succ, List.getD_cons_zero, List.getD_cons_succ, ↓reduceIte, List.map_cons, List.map_nil, List.append_nil, List.nil_append, List.cons_append, List.length_cons, List.length_nil, List.set_cons_zero, List.set_cons_succ, List.set_nil, List.getElem?_cons_zero, List.getElem?_cons_succ, Option.some.injEq, exists_eq_left', exists_eq_left, V.int.injEq, V.bl.injEq, V.str.injEq, V.ref.injEq, V.ty.injEq, List.cons.injEq, and_true, true_and, and_assoc, exists_and_left, exists_eq_right, reduceCtorEq, false_and, and_false, exists_false, or_false, false_or, rIxL, rSlL]
      refine ⟨_, .inl hS, ite2 (fun h0 => ?_) (fun h0 => ?_)⟩
      · have hne : ns ≠ [] := fun e => by
          rw [e] at h0
          simp at h0
        obtain ⟨n0, r, rfl⟩ : ∃ n0 r, ns = n0 :: r := by
          cases ns with
          | nil => exact absurd rfl hne
          | cons a b => exact ⟨a, b, rfl⟩
        refine ⟨_, hS, _, atI_nat (j := 0) rfl, _, rfl, by decide, rfl, ite2 (fun h1 => ?_) (fun h1 => ?_)⟩
        · refine ⟨_, hS, _, atI_nat (j := 0) rfl, _, rfl, by decide, by decide +kernel, by decide, fun p hp => ?_⟩
          obtain ⟨ms, ems⟩ := cutV_ints (n0 :: r) (some 1) (some 63)
          have hml : ms.length ≤ 63 := by
            have h1 := cutV_length (List.map V.int (n0 :: r)) (some 1) (some 63)
            rw [ems, List.length_map, List.length_map] at h1
            omega
          refine ⟨_, (same_upd hp).seq hS, fun p1 hp1 => ?_⟩
          rw [ems]
          have e1 := same_upd (o := .lst (ms.map V.int)) hp1 p _ upd_same
          refine ⟨_, e1, _, upd_same, Nat.le_trans (by rw [List.length_map]; simp; omega : _ ≤ 1000) (line1000 (Nat.le_refl _)), fun p2 hp2 => ⟨by decide, fun p3 hp3 => ?_⟩⟩
          refine ⟨_, same_upd hp3 p2 _ upd_same, _, upd_same, Nat.le_trans (by simp; omega : _ ≤ 1000) (line1000 (Nat.le_refl _)), fun p4 hp4 => ?_⟩
          refine k p4 _ ⟨n0 / 2 :: (ms ++ [z]), by simp, ?_⟩ ((((same_upd hp).trans (same_upd hp1)).trans (same_upd hp2)).trans ((same_upd hp3).trans (same_upd hp4)))
          rw [upd_same]
          simp
        · exact ⟨by decide, fun p hp => k p _ ⟨[z], by simp, upd_same⟩ (same_upd hp)⟩
      · exact ⟨by decide, fun p hp => k p _ ⟨[z], by simp, upd_same⟩ (same_upd hp)⟩
structure Tm where
  s : Option Int
  p : Int
  k : Int
def optD : Option Int → PyData
  | none => .none
  | some n => .int n
def optV : Option Int → V
  | none => .non
  | some n => .int n
def Tm.d (t : Tm) : PyData := .tuple [optD t.s, .int t.p, .int t.k]
theorem nl_opt : ∀ o : Option Int, noLst (optD o) = true
  | none => by simp only [optD, noLst]
  | some _ => by simp only [optD, noLst]
theorem nl_tm (t : Tm) : noLst t.d = true := by unfold Tm.d; simp only [noLst, noLsts, nl_opt, Bool.and_true]
theorem rd_opt {H : Hp} : ∀ o : Option Int, RD H (optD o) (optV o)
  | none => by simp only [optD, optV]; rw [RD]
  | some n => RD.int_mk
theorem rd_opt_of {H : Hp} {v : V} : ∀ {o : Option Int}, RD H (optD o) v → v = optV o
  | none, h => by simp only [optD] at h; rw [RD] at h; exact h
  | some n, h => RD.int_of h
theorem tm_at {H : Hp} {t : Tm} {v : V} (h : RD H t.d v) : ∃ a : Addr, v = .ref a ∧ H a = some (.tup [optV t.s, .int t.p, .int t.k]) := by
  unfold Tm.d at h
  obtain ⟨a, xs, rfl, ha, r⟩ := RD.tup_of h
  obtain ⟨x1, r1, rfl, h1, r⟩ := RDs.cons_of r
  obtain ⟨x2, r2, rfl, h2, r⟩ := RDs.cons_of r
  obtain ⟨x3, r3, rfl, h3, r⟩ := RDs.cons_of r
  have := RDs.nil_of r
  subst this
  rw [rd_opt_of h1, RD.int_of h2, RD.int_of h3] at ha
  exact ⟨a, rfl, ha⟩
theorem tm_mk {H : Hp} {t : Tm} {a : Addr} (h : H a = some (.tup [optV t.s, .int t.p, .int t.k])) : RD H t.d (.ref a) := RD.tup_mk h (RDs.cons (rd_opt _) (RDs.cons RD.int_mk (RDs.one RD.int_mk)))
structure TOk (t : Tm) : Prop where
  p0 : 0 ≤ t.p
  p1 : t.p < 40
  k0 : 0 ≤ t.k
  k1 : t.k < 40
  s0 : ∀ n, t.s = some n → 0 ≤ n ∧ n < 160
theorem optV_non (o : Option Int) : decide (optV o = V.non) = o.isNone := by cases o <;> simp [optV]
def TmsAt (H : Hp) (a : Addr) (ts : List Tm) : Prop := ∃ vs, H a = some (.lst vs) ∧ RDs H (ts.map Tm.d) vs
theorem TmsAt.ku {H H' : Hp} {a b : Addr} {ts : List Tm} {vs : List V} (k : KeepU H H') (r : RDs H (ts.map Tm.d) vs) (e : H' b = some (.lst vs)) : TmsAt H' b ts := ⟨vs, e, RDs.ku k _ _ (nl_map _ nl_tm _) r⟩
theorem TmsAt.same {H H' : Hp} {a : Addr} {ts : List Tm} (h : TmsAt H a ts) (s : Same H H') : TmsAt H' a ts := let ⟨vs, e, r⟩ := h; TmsAt.ku (a := a) s.ku r (s _ _ e)
theorem TmsAt.but {H H' : Hp} {a st : Addr} {ts : List Tm} (h : TmsAt H a ts) (b : But st H H') (s : StOk H st) (n : a ≠ st) : TmsAt H' a ts := let ⟨vs, e, r⟩ := h; TmsAt.ku (a := a) (but_kuS b s) r (b _ _ n e)
theorem TmsAt.len {H : Hp} {a : Addr} {ts : List Tm} {vs : List V} (h : TmsAt H a ts) (e : H a = some (.lst vs)) : vs.length = ts.length := by
  obtain ⟨us, e', r⟩ := h
  rw [e'] at e
  cases e
  exact rds_len r
def sp_law_amount : Sp := fun vs H Q _ => ∃ st, vs = [.ref st] ∧ StOk H st ∧ ∀ n H', 0 ≤ n → n < 10 ^ 41 → StOk H' st → But st H H' → Q (.int n) H'
theorem sc_law_amount : FnScope ["_law_state", "_law_way"] ["_law_state"] (defScope s_law_amount) := ⟨rfl, rfl, rfl, by decide +kernel, rfl, by decide +kernel, by decide +kernel⟩
theorem ok_law_amount {f : Addr} {fd : FuncData} (F : Fun K "_law_amount" "_law_amount" s_law_amount f fd) (T : Txt mg) (h_law_next : Has P w K mg base "_law_next" 1 ["_law_state", "_law_many"] sp_law_next) : FnOk P w K mg base CX0 2 f fd ["_law_state"] sp_law_amount := by
  refine F.ok sc_law_amount (fun vs H Q E h => ?_) (fun cdv A outer s H vs Q E hr h => ?_)
  · obtain ⟨st, rfl, _⟩ := h
    rfl
  · obtain ⟨st, rfl, hs, k⟩ := h
    have hu := hu_of hr
    refine ⟨_, (pss_cons (ps_set (i := 1) sc_law_amount.nd rfl (Or.inl rfl) (pe_callS h_law_next (hr.mono (by decide)) rfl (pa_e (pv 0) (pa_e pe_int pa_nil))))
 (pss_cons (ps_if (pt_cmpR (op_eqA hu) (pv 1) pe_int (nomark _)) (pss_one (ps_ret pe_int)) pss_nil)
 (pss_cons (ps_if (PW.pt (pw_and (pt_cmpR (op_eqA hu) (pv 1) pe_int (nomark _)) (pw_and1 (pt_cmpR (op_eqA hu) (pe_callS h_law_next (hr.mono (by decide)) rfl (pa_e (pv 0) (pa_e pe_int pa_nil))) pe_int (nomark _))))) (pss_one (ps_ret (pe_op op_add (pe_op op_mulB (pe_callS h_law_next (hr.mono (by decide)) rfl (pa_e (pv 0) (pa_e (pe_op op_pow pe_int pe_int) pa_nil))) (pe_op op_pow pe_int pe_int)) (pe_callS h_law_next (hr.mono (by decide)) rfl (pa_e (pv 0) (pa_e (pe_op op_pow pe_int pe_int) pa_nil)))))) pss_nil)
 (pss_one (ps_ret (pe_callS h_law_next (hr.mono (by decide)) rfl (pa_e (pv 0) (pa_e pe_int pa_nil)))))))), ?_⟩
    walk_at "rd"
    refine ⟨st, 5, rfl, hs, by decide, by decide +kernel, fun d H1 d0 d1 s1 b1 => ?_⟩
    walk_at "rd"
    refine ⟨rfl, ite2 (fun _ => k 0 H1 (by decide) (by decide +kernel) s1 b1) (fun _ => ?_)⟩
    have fin : ∀ H2, StOk H2 st → But st H H2 → ∃ st' m, [V.ref st, V.int 12] = [V.ref st', V.int m] ∧ StOk H2 st' ∧ 0 < m ∧ m < 10 ^ 200 ∧ ∀ d H', 0 ≤ d → d < m → StOk H' st' → But st' H2 H' → Q (.int d) H' := fun H2 s2 b2 => ⟨st, 12, rfl, s2, by decide, by decide +kernel, fun e H3 e0 e1 s3 b3 => k e H3 e0 (Int.lt_trans e1 (by decide +kernel)) s3 (b2.trans b3)⟩
    refine ⟨rfl, ite2 (fun _ => ?_) (fun _ => ?_)⟩
    · refine ⟨st, 4, rfl, s1, by decide, by decide +kernel, fun d' H2 _ _ s2 b2 => ?_⟩
      walk_at "rd"
      have b2 := b1.trans b2
      refine ⟨rfl, ite2 (fun _ => ?_) (fun _ => ?_)⟩
      · refine ⟨⟨by decide, by decide, by decide⟩, st, _, rfl, s2, by decide, by decide +kernel, fun e H3 e0 e1 s3 b3 => ?_⟩
        have e1 : e < 10 ^ 9 := e1
        walk_at "rd"
        refine ⟨⟨by decide, by decide, by decide⟩, .inl (.inl ⟨by omega, by omega⟩), ⟨by decide, by decide, by decide⟩, st, _, rfl, s3, by decide, by decide +kernel, fun f H4 f0 f1 s4 b4 => ?_⟩
        have f1 : f < 10 ^ 9 := f1
        walk_at "rd"
        have z : e * 10 ^ Int.toNat 31 = e * 10 ^ 31 := rfl
        rw [z]
        exact k _ H4 (by omega) (by omega) s4 ((b2.trans b3).trans b4)
      · exact fin H2 s2 b2
    · exact fin H1 s1 b1
def sp_law_terms : Sp := fun vs H Q _ => ∃ st n, vs = [.ref st, .int n] ∧ StOk H st ∧ 0 ≤ n ∧ n ≤ 100 ∧ ∀ t ts H', TmsAt H' t ts → ts.length = n.toNat → (∀ x ∈ ts, TOk x) → H t = none → StOk H' st → But st H H' → Q (.ref t) H'
def TmInv (st l : Addr) (n sp : Int) (H : Hp) (i : Nat) (σ : St) (H' : Hp) : Prop := ∃ (ts : List Tm) (a b c : Option V), σ = [some (.ref st), some (.int n), some (.ref l), some (.int sp), a, b, c] ∧ ts.length = i ∧ (∀ x ∈ ts, TOk x) ∧ TmsAt H' l ts ∧ StOk H' st ∧ But st H H'
theorem sc_law_terms : FnScope ["_law_state", "_law_days", "_law_terms_here", "_law_spread", "_law_day", "_law_setup", "_law_keep"] ["_law_state", "_law_days"] (defScope s_law_terms) := ⟨rfl, rfl, rfl, by decide +kernel, rfl, by decide +kernel, by decide +kernel⟩
theorem ok_law_terms {f : Addr} {fd : FuncData} (F : Fun K "_law_terms" "_law_terms" s_law_terms f fd) (T : Txt mg) (h_law_next : Has P w K mg base "_law_next" 1 ["_law_state", "_law_many"] sp_law_next) : FnOk P w K mg base CX0 2 f fd ["_law_state", "_law_days"] sp_law_terms := by
  refine F.ok sc_law_terms (fun vs H Q E h => ?_) (fun cdv A outer s H vs Q E hr h => ?_)
  · obtain ⟨st, n, rfl, _⟩ := h
    rfl
  · obtain ⟨st, n, rfl, hs, n0, n1, k⟩ := h
    have hu := hu_of hr
    refine ⟨_, (pss_cons (ps_set (i := 2) sc_law_terms.nd rfl (Or.inl rfl) (pe_lst pa_nil))
 (pss_cons (ps_set (i := 3) sc_law_terms.nd rfl (Or.inl rfl) (pe_item hu (pe_lst (pa_e pe_int (pa_e pe_int (pa_e pe_int pa_nil)))) (pe_callS h_law_next (hr.mono (by decide)) rfl (pa_e (pv 0) (pa_e pe_int pa_nil))) (fun _ _ => rfl)))
 (pss_cons (ps_for PassesOwn.never rfl (pi_rangeS1 rfl T.n_range (pa_e (pv 1) pa_nil)) (pg_name (i := 4) sc_law_terms.nd rfl (Or.inl rfl))
 (pss_cons (ps_set (i := 5) sc_law_terms.nd rfl (Or.inl rfl) (pe_callS h_law_next (hr.mono (by decide)) rfl (pa_e (pv 0) (pa_e (pe_op op_mulB pe_int (pv 3)) pa_nil))))
 (pss_cons (ps_if (pt_cmpR (op_eqA hu) (pe_callS h_law_next (hr.mono (by decide)) rfl (pa_e (pv 0) (pa_e pe_int pa_nil))) pe_int (nomark _)) (pss_one (ps_set (i := 5) sc_law_terms.nd rfl (Or.inl rfl) pe_non)) pss_nil)
 (pss_cons (ps_set (i := 6) sc_law_terms.nd rfl (Or.inl rfl) (pe_callS h_law_next (hr.mono (by decide)) rfl (pa_e (pv 0) (pa_e (pe_item hu (pe_lst (pa_e pe_int (pa_e (pv 3) pa_nil))) (pe_callS h_law_next (hr.mono (by decide)) rfl (pa_e (pv 0) (pa_e pe_int pa_nil))) (fun _ _ => rfl)) pa_nil))))
 (pss_one (ps_expr (pe_bs PySem.F.plainAttrs_list PySem.F.slot_list_append PySem.F.type_list_append mt_append (pv 2) (pa_e (pe_tup (pa_e (pv 5) (pa_e (pe_callS h_law_next (hr.mono (by decide)) rfl (pa_e (pv 0) (pa_e (pv 3) pa_nil))) (pa_e (pv 6) pa_nil)))) pa_nil))))))))
 (pss_one (ps_ret (pv 2)))))), ?_⟩
    walk_at "rd"
    refine ⟨by decide, fun l hl => ⟨by decide, fun p hp => ?_⟩⟩
    have nl := hs.ne hl
    have s1 := hs.upd (o := .lst []) nl
    have hlH : ∀ o, upd (upd H l (.lst [])) p o l = some (.lst []) := fun o => by rw [upd_ne (ne_of_none upd_same hp)]; exact upd_same
    refine ⟨st, 3, rfl, s1.upd (s1.ne hp), by decide, by decide +kernel, fun d H1 d0 d1 s2 b2 => ?_⟩
    have hp1 := b2 p _ (Ne.symm (s1.ne hp)) upd_same
    have hl1 := b2 l _ (Ne.symm nl) (hlH _)
    have b2 : But st H H1 := ((but_upd hl).new hp).trans b2
    have pick : ∃ sp : Int, 1 ≤ sp ∧ sp ≤ 40 ∧ Item H1 (.ref p) (.int d) (.int sp) := by
      have hd : d = 0 ∨ d = 1 ∨ d = 2 := by omega
      rcases hd with rfl | rfl | rfl
      · exact ⟨3, by decide, by decide, item_l (j := 0) hp1 rfl⟩
      · exact ⟨12, by decide, by decide, item_l (j := 1) hp1 rfl⟩
      · exact ⟨40, by decide, by decide, item_l (j := 2) hp1 rfl⟩
    obtain ⟨sp, p0, p1, hit⟩ := pick
    refine ⟨_, hit, by omega, by omega, ?_⟩
    refine for_w (goesR 0 _) (TmInv st l n sp H) ⟨[], _, _, _, rfl, rfl, (fun _ h => nomatch h), ⟨[], hl1, by rw [List.map_nil, RDs]⟩, s2, b2⟩ (fun _ _ _ _ _ => trivial) (fun i x σ H' hi hx h => ?_) (fun σ H' h => ?_)
    · obtain ⟨ts, a, b, c, rfl, ht1, ht2, ht3, s3, b3⟩ := h
      subst hx
      simp only [gName]
      refine cut2 (fun σ' H'' => ∃ (so : Option Int) (e : Option V), σ' = [some (.ref st), some (.int n), some (.ref l), some (.int sp), some (.int (0 + i)), some (optV so), e] ∧ (∀ m, so = some m → 0 ≤ m ∧ m < 160) ∧ TmsAt H'' l ts ∧ StOk H'' st ∧ But st H H'') ?_ (fun KK hK => ?_)
      · rintro σ' H'' ⟨so, e, rfl, hso, ht, s4, b4⟩
        walk_at "rd"
        refine ⟨by decide, fun q hq => ⟨st, 2, rfl, s4.upd (s4.ne hq), by decide, by decide +kernel, fun d2 H5 d20 d21 s5 b5 => ?_⟩⟩
        have nq := s4.ne hq
        have hq5 := b5 q _ (Ne.symm nq) upd_same
        have ht5 : TmsAt H5 l ts := (ht.same (same_upd hq)).but b5 (s4.upd nq) (Ne.symm nl)
        have b5 : But st H H5 := (b4.new hq).trans b5
        have pick : ∃ u : Int, 1 ≤ u ∧ u ≤ 40 ∧ Item H5 (.ref q) (.int d2) (.int u) := by
          have hd : d2 = 0 ∨ d2 = 1 := by omega
          rcases hd with rfl | rfl
          · exact ⟨4, by decide, by decide, item_l (j := 0) hq5 rfl⟩
          · exact ⟨sp, p0, p1, item_l (j := 1) hq5 rfl⟩
        obtain ⟨u, u0, u1, hit⟩ := pick
        refine ⟨_, hit, st, u, rfl, s5, by omega, by omega, fun kp H6 kp0 kp1 s6 b6 => ?_⟩
        walk_at "rd"
        have ht6 := ht5.but b6 s5 (Ne.symm nl)
        obtain ⟨vs6, hl6, _⟩ := ht6
        refine ⟨ty_lst hl6, st, sp, rfl, s6, by omega, by omega, fun pr H7 pr0 pr1 s7 b7 => ?_⟩
        walk_at "rd"
        have ht7 := (ht5.but b6 s5 (Ne.symm nl)).but b7 s6 (Ne.symm nl)
        have b7 : But st H H7 := (b5.trans b6).trans b7
        refine ⟨by decide, fun r hr7 => ?_⟩
        have ht8 := ht7.same (same_upd (o := .tup [optV so, .int pr, .int kp]) hr7)
        obtain ⟨vs, hv, rv⟩ := ht8
        have hvl := rds_len rv
        have nlr : l ≠ r := by
          obtain ⟨us, hus, _⟩ := ht7
          exact ne_of_none hus hr7
        refine ⟨_, hv, Nat.lt_of_le_of_lt (m := 1000) (by omega) (by decide), ?_⟩
        refine ⟨ts ++ [⟨so, pr, kp⟩], _, _, _, rfl, by simp [ht1], fun x hx => ?_, ?_, (s7.upd (s7.ne hr7)).upd nl, fun b o nb hb => ?_⟩
        · rcases List.mem_append.mp hx with z | z
          · exact ht2 x z
          · rw [List.mem_singleton.mp z]
            exact ⟨pr0, Int.lt_of_lt_of_le pr1 p1, kp0, Int.lt_of_lt_of_le kp1 u1, hso⟩
        · refine ⟨_, upd_same, ?_⟩
          have ku := ku_lst (ys := vs ++ [.ref r]) hv
          rw [List.map_append]
          refine RDs.app (RDs.ku ku _ _ (nl_map _ nl_tm _) rv) (RDs.one (tm_mk ?_))
          rw [upd_ne (Ne.symm nlr)]
          exact upd_same
        · rw [upd_ne (ne_of_none hb hl)]
          exact (b7.new hr7) b o nb hb
      · walk_at "rd"
        refine ⟨.inl (.inl ⟨by decide, by decide⟩), st, _, rfl, s3, by omega, by omega, fun e H4 e0 e1 s4 b4 => ?_⟩
        walk_at "rd"
        have ht4 := ht3.but b4 s3 (Ne.symm nl)
        refine ⟨st, 6, rfl, s4, by decide, by decide +kernel, fun f H5 f0 f1 s5 b5 => ?_⟩
        walk_at "rd"
        have ht5 := ht4.but b5 s4 (Ne.symm nl)
        refine ⟨rfl, ite2 (fun _ => ?_) (fun _ => ?_)⟩
        · exact hK _ _ ⟨none, _, rfl, (fun _ h => by cases h), ht5, s5, (b3.trans b4).trans b5⟩
        · exact hK _ _ ⟨some e, _, rfl, (fun m h => by cases h; exact ⟨e0, by omega⟩), ht5, s5, (b3.trans b4).trans b5⟩
    · obtain ⟨ts, a, b, c, rfl, ht1, ht2, ht3, s3, b3⟩ := h
      walk_at "rd"
      exact k l ts H' ht3 ht1 ht2 hl s3 b3
def tm0 : Tm := ⟨none, 0, 0⟩
theorem get_len {α : Type} {xs : List α} {i : Nat} (h : i < xs.length) : ∃ x, xs[i]? = some x := ⟨_, List.getElem?_eq_getElem h⟩
theorem get_map {α β : Type} {f : α → β} {xs : List α} {i : Nat} {y : β} (h : (xs.map f)[i]? = some y) : ∃ x, xs[i]? = some x ∧ y = f x := by
  rw [List.getElem?_map] at h
  cases e : xs[i]? with
  | none => rw [e] at h; cases h
  | some x => rw [e] at h; cases h; exact ⟨x, rfl, rfl⟩
theorem getD_of {α : Type} {xs : List α} {i : Nat} {x d : α} (h : xs[i]? = some x) : xs.getD i d = x := by rw [List.getD_eq_getElem?_getD, h]; rfl
def eachAt (ts : List Tm) (st : Nat) : Nat → Int
  | 0 => (ts.getD st tm0).p
  | i + 1 => eachAt ts st i + (ts.getD (st + i) tm0).k
def serveAt (ns : List Int) (ts : List Tm) (st i : Nat) : Int := eachAt ts st i * ns.getD (st + i) 0
theorem each_in {ts : List Tm} (ok : ∀ t ∈ ts, TOk t) (st : Nat) : ∀ i : Nat, 0 ≤ eachAt ts st i ∧ eachAt ts st i ≤ 40 * (i + 1) := by
  have one : ∀ j, 0 ≤ (ts.getD j tm0).p ∧ (ts.getD j tm0).p ≤ 40 ∧ 0 ≤ (ts.getD j tm0).k ∧ (ts.getD j tm0).k ≤ 40 := fun j => by
    cases e : ts[j]? with
    | none => rw [List.getD_eq_getElem?_getD, e]; exact ⟨by decide, by decide, by decide, by decide⟩
    | some t =>
      rw [getD_of e]
      have h := ok t (List.mem_of_getElem? e)
      have h1 := h.p0
      have h2 := h.p1
      have h3 := h.k0
      have h4 := h.k1
      exact ⟨h1, by omega, h3, by omega⟩
  intro i
  induction i with
  | zero =>
    have := one st
    show 0 ≤ (ts.getD st tm0).p ∧ (ts.getD st tm0).p ≤ _
    constructor
    · exact this.1
    · have h := this.2.1
      have e : (40 : Int) * (((0 : Nat) : Int) + 1) = 40 := by decide
      rw [e]
      exact h
  | succ i ih =>
    have := one (st + i)
    show 0 ≤ eachAt ts st i + (ts.getD (st + i) tm0).k ∧ eachAt ts st i + (ts.getD (st + i) tm0).k ≤ _
    have e : ((i + 1 : Nat) : Int) = (i : Int) + 1 := by simp
    rw [e]
    omega
theorem each_mul {ts : List Tm} (ok : ∀ t ∈ ts, TOk t) (st i : Nat) (hi : i ≤ 1000) (z : Int) : CMulB (eachAt ts st i) z := by
  have := each_in ok st i
  exact .inl (.inl ⟨by omega, by omega⟩)
theorem cutV_from {xs : List V} {i : Int} (hi : 0 ≤ i) : cutV xs (some i) none = xs.drop i.toNat := by
  unfold cutV
  rw [sIx_nn hi]
  have e : HT.sIx xs.length xs.length none = xs.length := rfl
  rw [e]
  by_cases h : i.toNat ≤ xs.length
  · rw [Nat.min_eq_left h, List.take_of_length_le (by rw [List.length_drop]; exact Nat.le_refl _)]
  · have h : xs.length ≤ i.toNat := by omega
    rw [Nat.min_eq_right h, List.drop_length, List.drop_of_length_le h, List.take_nil]
def mx (x : Int) : Int := if x > 0 then x else 0
def paidAt (ns : List Int) (ts : List Tm) (us : List Int) (st i : Nat) : Int := mx (us.getD (st + i) 0 - serveAt ns ts st i)
def burden (ns : List Int) (ts : List Tm) (us : List Int) (st : Nat) : Int := (rowOf (ts.length - st) (paidAt ns ts us st)).sum
def within (ns : List Int) (ts : List Tm) (us : List Int) (st : Nat) : Bool := match (ts.getD st tm0).s with
  | none => true
  | some s => decide (burden ns ts us st ≤ s)
def v1 (n v : Int) : Bool := decide (v < 0) || (decide (n = 0) && decide (0 < v))
def rightV (ns : List Int) (ts : List Tm) (us : List Int) : Bool := ((List.range ts.length).all fun i => !v1 (ns.getD i 0) (us.getD i 0)) && ((List.range ts.length).all fun st => within ns ts us st)
theorem right_yes {ns us : List Int} {ts : List Tm} (h : ∀ i, i < ts.length → v1 (ns.getD i 0) (us.getD i 0) = false) : rightV ns ts us = ((List.range ts.length).all fun st => within ns ts us st) := by
  unfold rightV
  have : ((List.range ts.length).all fun i => !v1 (ns.getD i 0) (us.getD i 0)) = true := by
    rw [List.all_eq_true]
    intro i hi
    rw [h i (List.mem_range.mp hi)]
    rfl
  rw [this, Bool.true_and]
theorem row_sum_succ (n : Nat) (f : Nat → Int) : (rowOf (n + 1) f).sum = (rowOf n f).sum + f n := by rw [rowOf_succ, List.sum_append]; simp
def able (ts : List Tm) (j : Nat) : Bool := (ts.getD j tm0).s.isSome
def ableL (ts : List Tm) (i : Nat) : List Nat := (List.range i).filter (able ts)
def setupAt (ts : List Tm) (j : Nat) : Int := (ts.getD j tm0).s.getD 0
def wayC (ns : List Int) (ts : List Tm) (cs : List Int) (j e : Nat) : Int := cs.getD j 0 + setupAt ts j + (rowOf (e - j) (serveAt ns ts j)).sum
structure Least (ns : List Int) (ts : List Tm) (n : Nat) (cs : List Int) (S : List (Option Nat)) : Prop where
  lc : cs.length = n + 1
  ls : S.length = n
  c0 : cs.getD 0 0 = 0
  rest : ∀ i, i < n → ns.getD i 0 = 0 → S.getD i none = none ∧ cs.getD (i + 1) 0 = cs.getD i 0
  last : ∀ i, i < n → ns.getD i 0 ≠ 0 → ∃ j, j ≤ i ∧ able ts j = true ∧ S.getD i none = some j ∧ cs.getD (i + 1) 0 = wayC ns ts cs j (i + 1) ∧ ∀ j', j' ≤ i → able ts j' = true → cs.getD (i + 1) 0 ≤ wayC ns ts cs j' (i + 1)
theorem ableL_succ (ts : List Tm) (i : Nat) : ableL ts (i + 1) = if able ts i = true then ableL ts i ++ [i] else ableL ts i := by
  unfold ableL
  rw [List.range_succ, List.filter_append]
  by_cases h : able ts i = true
  · rw [if_pos h, List.filter_cons_of_pos h]; rfl
  · rw [if_neg h, List.filter_cons_of_neg h]; simp
theorem mem_able {ts : List Tm} {i j : Nat} : j ∈ ableL ts i ↔ j < i ∧ able ts j = true := by
  unfold ableL
  rw [List.mem_filter, List.mem_range]
theorem able_len (ts : List Tm) (i : Nat) : (ableL ts i).length ≤ i := by
  unfold ableL
  exact Nat.le_trans (List.length_filter_le _ _) (by rw [List.length_range]; exact Nat.le_refl _)
theorem getD_app {α : Type} {xs ys : List α} {i : Nat} {d : α} (h : i < xs.length) : (xs ++ ys).getD i d = xs.getD i d := by
  rw [List.getD_eq_getElem?_getD, List.getD_eq_getElem?_getD, List.getElem?_append_left h]
theorem getD_last {α : Type} {xs : List α} {y d : α} : (xs ++ [y]).getD xs.length d = y := by
  rw [List.getD_eq_getElem?_getD, List.getElem?_append_right (Nat.le_refl _), Nat.sub_self]
  rfl
theorem wayC_app {ns : List Int} {ts : List Tm} {cs : List Int} {c : Int} {j e : Nat} (h : j < cs.length) : wayC ns ts (cs ++ [c]) j e = wayC ns ts cs j e := by
  unfold wayC
  rw [getD_app h]
theorem wayC_succ {ns : List Int} {ts : List Tm} {cs : List Int} {j i : Nat} (h : j ≤ i) : wayC ns ts cs j (i + 1) = wayC ns ts cs j i + eachAt ts j (i - j) * ns.getD i 0 := by
  unfold wayC
  have e : i + 1 - j = (i - j) + 1 := by omega
  rw [e, row_sum_succ]
  unfold serveAt
  have e2 : j + (i - j) = i := by omega
  rw [e2]
  omega
theorem Least.snoc0 {ns : List Int} {ts : List Tm} {n : Nat} {cs : List Int} {S : List (Option Nat)} (L : Least ns ts n cs S) (h : ns.getD n 0 = 0) : Least ns ts (n + 1) (cs ++ [cs.getD n 0]) (S ++ [none]) where
  lc := by rw [List.length_append, L.lc]; rfl
  ls := by rw [List.length_append, L.ls]; rfl
  c0 := by rw [getD_app (by have := L.lc; omega)]; exact L.c0
  rest := fun i hi hz => by
    have lc := L.lc
    have ls := L.ls
    by_cases e : i = n
    · subst e
      refine ⟨?_, ?_⟩
      · rw [← ls]; exact getD_last
      · rw [getD_app (xs := cs) (i := i) (by omega), ← lc]; exact getD_last
    · obtain ⟨a, b⟩ := L.rest i (by omega) hz
      exact ⟨by rw [getD_app (by omega)]; exact a, by rw [getD_app (by omega), getD_app (by omega)]; exact b⟩
  last := fun i hi hz => by
    have lc := L.lc
    have ls := L.ls
    by_cases e : i = n
    · subst e; exact absurd h hz
    · obtain ⟨j, j1, j2, j3, j4, j5⟩ := L.last i (by omega) hz
      refine ⟨j, j1, j2, by rw [getD_app (by omega)]; exact j3, by rw [getD_app (by omega), wayC_app (by omega)]; exact j4, fun j' h1 h2 => ?_⟩
      rw [getD_app (by omega), wayC_app (by omega)]
      exact j5 j' h1 h2
theorem Least.snoc1 {ns : List Int} {ts : List Tm} {n k : Nat} {cs : List Int} {S : List (Option Nat)} (L : Least ns ts n cs S) (h : ns.getD n 0 ≠ 0) (hk : k ≤ n) (ha : able ts k = true) (hle : ∀ j', j' ≤ n → able ts j' = true → wayC ns ts cs k (n + 1) ≤ wayC ns ts cs j' (n + 1)) : Least ns ts (n + 1) (cs ++ [wayC ns ts cs k (n + 1)]) (S ++ [some k]) where
  lc := by rw [List.length_append, L.lc]; rfl
  ls := by rw [List.length_append, L.ls]; rfl
  c0 := by rw [getD_app (by have := L.lc; omega)]; exact L.c0
  rest := fun i hi hz => by
    have lc := L.lc
    have ls := L.ls
    by_cases e : i = n
    · subst e; exact absurd hz h
    · obtain ⟨a, b⟩ := L.rest i (by omega) hz
      exact ⟨by rw [getD_app (by omega)]; exact a, by rw [getD_app (by omega), getD_app (by omega)]; exact b⟩
  last := fun i hi hz => by
    have lc := L.lc
    have ls := L.ls
    by_cases e : i = n
    · subst e
      refine ⟨k, hk, ha, by rw [← ls]; exact getD_last, ?_, fun j' h1 h2 => ?_⟩
      · rw [← lc, getD_last, lc, wayC_app (by omega)]
      · rw [← lc, getD_last, lc, wayC_app (by omega)]
        exact hle j' h1 h2
    · obtain ⟨j, j1, j2, j3, j4, j5⟩ := L.last i (by omega) hz
      refine ⟨j, j1, j2, by rw [getD_app (by omega)]; exact j3, by rw [getD_app (by omega), wayC_app (by omega)]; exact j4, fun j' h1 h2 => ?_⟩
      rw [getD_app (by omega), wayC_app (by omega)]
      exact j5 j' h1 h2
theorem way_ge {ns : List Int} {ts : List Tm} {n : Nat} {cs : List Int} {S : List (Option Nat)} (L : Least ns ts n cs S) (s0 : ∀ j, 0 ≤ setupAt ts j) {i : Nat} (ha : able ts i = true) : ∀ {j : Nat}, i < j → j ≤ n → cs.getD j 0 ≤ wayC ns ts cs i j
  | 0, h, _ => absurd h (Nat.not_lt_zero _)
  | j + 1, h, hn => by
    by_cases z : ns.getD j 0 = 0
    · have e := (L.rest j (by omega) z).2
      rw [wayC_succ (by omega), z, Int.mul_zero, Int.add_zero, e]
      by_cases y : i = j
      · subst y
        have := s0 i
        unfold wayC
        rw [Nat.sub_self]
        show _ ≤ _ + (0 : Int)
        omega
      · exact way_ge L s0 ha (by omega) (by omega)
    · obtain ⟨q, _, _, _, _, hle⟩ := L.last j (by omega) z
      exact hle i (by omega) ha
def riseAt (cs : List Int) (j : Nat) : Int := cs.getD (j + 1) 0 - cs.getD j 0
def unitAt (ts : List Tm) (i j : Nat) : Int := eachAt ts i (j - i)
theorem unit_succ {ts : List Tm} {i j : Nat} (h : i ≤ j) : unitAt ts i (j + 1) = unitAt ts i j + (ts.getD j tm0).k := by
  unfold unitAt
  have e : j + 1 - i = (j - i) + 1 := by omega
  rw [e]
  show eachAt ts i (j - i) + (ts.getD (i + (j - i)) tm0).k = _
  have e2 : i + (j - i) = j := by omega
  rw [e2]
theorem way_succ {ns : List Int} {ts : List Tm} {cs : List Int} {i j : Nat} (h : i ≤ j) : wayC ns ts cs i (j + 1) = wayC ns ts cs i j + unitAt ts i j * ns.getD j 0 := wayC_succ h
theorem way_self {ns : List Int} {ts : List Tm} {cs : List Int} {i : Nat} : wayC ns ts cs i i = cs.getD i 0 + setupAt ts i := by
  unfold wayC
  rw [Nat.sub_self]
  show _ + (0 : Int) = _
  omega
theorem lt_of_mul {a b d : Int} (hd : 0 < d) (h : a * d ≤ b * d) : a ≤ b := Int.le_of_mul_le_mul_right h hd
section
variable {ns : List Int} {ts : List Tm} {n : Nat} {cs : List Int} {S : List (Option Nat)} (L : Least ns ts n cs S) (s0 : ∀ j, 0 ≤ setupAt ts j) (d0 : ∀ j, 0 ≤ ns.getD j 0) (e0 : ∀ i j, 0 ≤ unitAt ts i j)
include L s0 d0
theorem rise_ge {j q : Nat} (hj : j < n) (hz : ns.getD j 0 ≠ 0) (hq : q ≤ j) (ha : able ts q = true) (hc : cs.getD (j + 1) 0 = wayC ns ts cs q (j + 1)) : unitAt ts q j * ns.getD j 0 ≤ riseAt cs j := by
  unfold riseAt
  rw [hc, way_succ hq]
  by_cases y : q = j
  · subst y
    rw [way_self]
    have := s0 q
    omega
  · have := way_ge L s0 ha (j := j) (by omega) (by omega)
    omega
def Cheap (ns : List Int) (ts : List Tm) (cs : List Int) (i j : Nat) : Prop := ∃ r, r < j ∧ able ts r = true ∧ cs.getD j 0 = wayC ns ts cs r j ∧ unitAt ts r j ≤ unitAt ts i j
theorem cheap_next {i j : Nat} (hij : i ≤ j) (hj : j < n) (h : Cheap ns ts cs i j) : Cheap ns ts cs i (j + 1) := by
  obtain ⟨r, r1, r2, r3, r4⟩ := h
  by_cases z : ns.getD j 0 = 0
  · refine ⟨r, by omega, r2, ?_, ?_⟩
    · rw [(L.rest j hj z).2, way_succ (by omega), z, Int.mul_zero, Int.add_zero]
      exact r3
    · rw [unit_succ (by omega), unit_succ (by omega)]
      omega
  · obtain ⟨q, q1, q2, q3, q4, hle⟩ := L.last j hj z
    refine ⟨q, by omega, q2, q4, ?_⟩
    have hd : 0 < ns.getD j 0 := by have := d0 j; omega
    have h1 := rise_ge L s0 d0 hj z q1 q2 q4
    have h2 := hle r (by omega) r2
    rw [way_succ (by omega), ← r3] at h2
    unfold riseAt at h1
    have h3 : unitAt ts q j * ns.getD j 0 ≤ unitAt ts r j * ns.getD j 0 := by omega
    have h4 := lt_of_mul hd h3
    rw [unit_succ (by omega), unit_succ (by omega)]
    omega
theorem cheap_le {i j : Nat} (hj : j < n) (h : Cheap ns ts cs i j) : riseAt cs j ≤ unitAt ts i j * ns.getD j 0 := by
  obtain ⟨r, r1, r2, r3, r4⟩ := h
  have h1 := way_ge L s0 r2 (j := j + 1) (by omega) (by omega)
  rw [way_succ (by omega), ← r3] at h1
  have h2 : unitAt ts r j * ns.getD j 0 ≤ unitAt ts i j * ns.getD j 0 := Int.mul_le_mul_of_nonneg_right r4 (d0 j)
  unfold riseAt
  omega
theorem cheap_from {i j : Nat} (hij : i ≤ j) (hj : j < n) (h : riseAt cs j < unitAt ts i j * ns.getD j 0) : Cheap ns ts cs i (j + 1) := by
  have z : ns.getD j 0 ≠ 0 := fun z => by
    have := (L.rest j hj z).2
    unfold riseAt at h
    rw [z, Int.mul_zero] at h
    omega
  obtain ⟨q, q1, q2, q3, q4, hle⟩ := L.last j hj z
  have hd : 0 < ns.getD j 0 := by have := d0 j; omega
  have h1 := rise_ge L s0 d0 hj z q1 q2 q4
  have h3 : unitAt ts q j ≤ unitAt ts i j := lt_of_mul hd (by omega)
  refine ⟨q, by omega, q2, q4, ?_⟩
  rw [unit_succ (by omega), unit_succ (by omega)]
  omega
theorem paid_upto {i : Nat} (ha : able ts i = true) : ∀ m : Nat, i + m ≤ n → (rowOf m fun l => mx (riseAt cs (i + l) - unitAt ts i (i + l) * ns.getD (i + l) 0)).sum ≤ setupAt ts i ∧
    (Cheap ns ts cs i (i + m) ∨ (rowOf m fun l => mx (riseAt cs (i + l) - unitAt ts i (i + l) * ns.getD (i + l) 0)).sum = cs.getD (i + m) 0 - wayC ns ts cs i (i + m) + setupAt ts i)
  | 0, _ => by
    have e : (rowOf 0 fun l => mx (riseAt cs (i + l) - unitAt ts i (i + l) * ns.getD (i + l) 0)).sum = 0 := rfl
    rw [e]
    refine ⟨s0 i, .inr ?_⟩
    show (0 : Int) = cs.getD i 0 - wayC ns ts cs i i + _
    rw [way_self]
    omega
  | m + 1, h => by
    obtain ⟨ih1, ih2⟩ := paid_upto ha m (by omega)
    rw [row_sum_succ]
    have em : i + (m + 1) = i + m + 1 := by omega
    rcases ih2 with c | e
    · have h1 := cheap_le L s0 d0 (i := i) (j := i + m) (by omega) c
      have hm : mx (riseAt cs (i + m) - unitAt ts i (i + m) * ns.getD (i + m) 0) = 0 := by unfold mx; rw [if_neg (by omega)]
      rw [hm, Int.add_zero]
      refine ⟨ih1, .inl ?_⟩
      rw [em]
      exact cheap_next L s0 d0 (by omega) (by omega) c
    · by_cases lt : riseAt cs (i + m) < unitAt ts i (i + m) * ns.getD (i + m) 0
      · have hm : mx (riseAt cs (i + m) - unitAt ts i (i + m) * ns.getD (i + m) 0) = 0 := by unfold mx; rw [if_neg (by omega)]
        rw [hm, Int.add_zero]
        refine ⟨ih1, .inl ?_⟩
        rw [em]
        exact cheap_from L s0 d0 (by omega) (by omega) lt
      · have hm : mx (riseAt cs (i + m) - unitAt ts i (i + m) * ns.getD (i + m) 0) = riseAt cs (i + m) - unitAt ts i (i + m) * ns.getD (i + m) 0 := by
          unfold mx
          split <;> omega
        have h2 := way_ge L s0 ha (j := i + m + 1) (by omega) (by omega)
        have h3 := way_succ (ns := ns) (ts := ts) (cs := cs) (i := i) (j := i + m) (by omega)
        rw [hm, e, em]
        unfold riseAt
        refine ⟨by omega, .inr (by omega)⟩
end
theorem rises_right {ns : List Int} {ts : List Tm} {cs : List Int} {S : List (Option Nat)} (L : Least ns ts ts.length cs S) (s0 : ∀ j, 0 ≤ setupAt ts j) (d0 : ∀ j, 0 ≤ ns.getD j 0) (e0 : ∀ i j, 0 ≤ unitAt ts i j) : rightV ns ts (rowOf ts.length (riseAt cs)) = true := by
  have v0 : ∀ j, j < ts.length → v1 (ns.getD j 0) ((rowOf ts.length (riseAt cs)).getD j 0) = false := fun j hj => by
    rw [rowOf_getD hj]
    by_cases z : ns.getD j 0 = 0
    · have e : riseAt cs j = 0 := by unfold riseAt; rw [(L.rest j hj z).2]; omega
      rw [e]
      unfold v1
      simp
    · obtain ⟨q, q1, q2, q3, q4, _⟩ := L.last j hj z
      have h1 := rise_ge L s0 d0 hj z q1 q2 q4
      have h2 : 0 ≤ unitAt ts q j * ns.getD j 0 := Int.mul_nonneg (e0 q j) (d0 j)
      unfold v1
      rw [decide_eq_false (by omega : ¬ riseAt cs j < 0), decide_eq_false z]
      rfl
  rw [right_yes v0, List.all_eq_true]
  intro i hi
  have hi := List.mem_range.mp hi
  unfold within
  cases hs : (ts.getD i tm0).s with
  | none => rfl
  | some sv =>
    have ha : able ts i = true := by unfold able; rw [hs]; rfl
    have hsv : setupAt ts i = sv := by unfold setupAt; rw [hs]; rfl
    have h := (paid_upto L s0 d0 ha (ts.length - i) (by omega)).1
    rw [hsv] at h
    refine decide_eq_true ?_
    unfold burden
    have e : rowOf (ts.length - i) (paidAt ns ts (rowOf ts.length (riseAt cs)) i) = rowOf (ts.length - i) fun l => mx (riseAt cs (i + l) - unitAt ts i (i + l) * ns.getD (i + l) 0) := rowOf_eq fun l hl => by
      unfold paidAt serveAt unitAt
      have e2 : i + l - i = l := by omega
      rw [rowOf_getD (by omega), e2]
    rw [e]
    exact h
theorem rises_sum (cs : List Int) : ∀ n : Nat, (rowOf n (riseAt cs)).sum = cs.getD n 0 - cs.getD 0 0
  | 0 => by show (0 : Int) = _; omega
  | n + 1 => by
    rw [row_sum_succ, rises_sum cs n]
    unfold riseAt
    omega
def serveL (ns : List Int) (ts : List Tm) (R : List Nat) (d : Nat) : List Int := (R.filter fun s => decide (s ≤ d)).map fun s => serveAt ns ts s (d - s)
def dayC (ns : List Int) (ts : List Tm) (R : List Nat) (d : Nat) (c : Option Int) : Option Int := if 0 < ns.getD d 0 then (if serveL ns ts R d = [] then none else c.map (· + minL (serveL ns ts R d))) else c
def totC (ns : List Int) (ts : List Tm) (R : List Nat) : Nat → Option Int
  | 0 => some ((R.map (setupAt ts)).sum)
  | d + 1 => dayC ns ts R d (totC ns ts R d)
theorem sum_le {R : List Nat} {f g : Nat → Int} (h : ∀ s ∈ R, f s ≤ g s) : (R.map f).sum ≤ (R.map g).sum := by
  induction R with
  | nil => exact Int.le_refl _
  | cons a r ih =>
    rw [List.map_cons, List.map_cons, List.sum_cons, List.sum_cons]
    have h1 := h a List.mem_cons_self
    have h2 := ih fun s hs => h s (List.mem_cons_of_mem _ hs)
    omega
theorem sum_le_one {R : List Nat} {f g : Nat → Int} {a : Nat} {x : Int} (ha : a ∈ R) (hx : f a + x ≤ g a) (h : ∀ s ∈ R, f s ≤ g s) : (R.map f).sum + x ≤ (R.map g).sum := by
  induction R with
  | nil => cases ha
  | cons b r ih =>
    rw [List.map_cons, List.map_cons, List.sum_cons, List.sum_cons]
    rcases List.mem_cons.mp ha with z | z
    · subst z
      have h2 := sum_le (R := r) fun s hs => h s (List.mem_cons_of_mem _ hs)
      omega
    · have h1 := h b List.mem_cons_self
      have h2 := ih z fun s hs => h s (List.mem_cons_of_mem _ hs)
      omega
def payTo (ns : List Int) (ts : List Tm) (us : List Int) (m s : Nat) : Int := (rowOf (m - s) (paidAt ns ts us s)).sum
theorem pay_step (ns : List Int) (ts : List Tm) (us : List Int) (m s : Nat) : payTo ns ts us (m + 1) s = payTo ns ts us m s + if s ≤ m then paidAt ns ts us s (m - s) else 0 := by
  unfold payTo
  by_cases h : s ≤ m
  · have e : m + 1 - s = (m - s) + 1 := by omega
    rw [e, row_sum_succ, if_pos h]
  · have e1 : m + 1 - s = 0 := by omega
    have e2 : m - s = 0 := by omega
    rw [e1, e2, if_neg h]
    rfl
theorem paid_nn (ns : List Int) (ts : List Tm) (us : List Int) (s i : Nat) : 0 ≤ paidAt ns ts us s i := by
  unfold paidAt mx
  split <;> omega
theorem tot_ge {ns us : List Int} {ts : List Tm} {R : List Nat} (d0 : ∀ j, 0 ≤ ns.getD j 0) (z0 : ∀ d, d < ts.length → ns.getD d 0 = 0 → us.getD d 0 ≤ 0) : ∀ (m : Nat) (c : Int), m ≤ ts.length → totC ns ts R m = some c →
    (rowOf m fun d => us.getD d 0).sum + (R.map (setupAt ts)).sum ≤ c + (R.map (payTo ns ts us m)).sum
  | 0, c, _, h => by
    cases h
    have : 0 ≤ (R.map (payTo ns ts us 0)).sum := by
      have := sum_le (R := R) (f := fun _ => 0) (g := payTo ns ts us 0) fun s _ => by
        unfold payTo
        rw [Nat.zero_sub]
        exact Int.le_refl _
      have z : ∀ l : List Nat, (l.map fun _ => (0 : Int)).sum = 0 := fun l => by
        induction l with
        | nil => rfl
        | cons a r ih => rw [List.map_cons, List.sum_cons, ih]; rfl
      rw [z] at this
      exact this
    show (0 : Int) + _ ≤ _
    omega
  | m + 1, c, hm, h => by
    rw [row_sum_succ]
    have mono : ∀ s ∈ R, payTo ns ts us m s ≤ payTo ns ts us (m + 1) s := fun s _ => by
      rw [pay_step]
      have := paid_nn ns ts us s (m - s)
      split <;> omega
    have h : dayC ns ts R m (totC ns ts R m) = some c := h
    unfold dayC at h
    by_cases hp : 0 < ns.getD m 0
    · rw [if_pos hp] at h
      by_cases hl : serveL ns ts R m = []
      · rw [if_pos hl] at h; cases h
      · rw [if_neg hl] at h
        cases ht : totC ns ts R m with
        | none => rw [ht] at h; cases h
        | some c0 =>
          rw [ht] at h
          have h : c0 + minL (serveL ns ts R m) = c := Option.some.inj h
          have ih := tot_ge (R := R) d0 z0 m c0 (by omega) ht
          have hmem := minL_mem hl
          unfold serveL at hmem
          obtain ⟨s, hs, es⟩ := List.mem_map.mp hmem
          obtain ⟨hsR, hsm⟩ := List.mem_filter.mp hs
          have hsm := of_decide_eq_true hsm
          have one := sum_le_one (R := R) (f := payTo ns ts us m) (g := payTo ns ts us (m + 1)) (a := s) (x := us.getD m 0 - minL (serveL ns ts R m)) hsR (by
            rw [pay_step, if_pos hsm]
            have es : serveAt ns ts s (m - s) = minL (serveL ns ts R m) := es
            rw [← es]
            unfold paidAt mx
            have e : s + (m - s) = m := by omega
            rw [e]
            split <;> omega) mono
          omega
    · rw [if_neg hp] at h
      have z := z0 m (by omega) (by have := d0 m; omega)
      have ih := tot_ge (R := R) d0 z0 m c (by omega) h
      have := sum_le mono
      omega
theorem choice_ge {ns us : List Int} {ts : List Tm} {R : List Nat} {c : Int} (d0 : ∀ j, 0 ≤ ns.getD j 0) (hr : rightV ns ts us = true) (hR : ∀ s ∈ R, s < ts.length ∧ able ts s = true) (h : totC ns ts R ts.length = some c) : (rowOf ts.length fun d => us.getD d 0).sum ≤ c := by
  unfold rightV at hr
  obtain ⟨h1, h2⟩ := Bool.and_eq_true_iff.mp hr
  have z0 : ∀ d, d < ts.length → ns.getD d 0 = 0 → us.getD d 0 ≤ 0 := fun d hd z => by
    have := List.all_eq_true.mp h1 d (List.mem_range.mpr hd)
    refine Int.not_lt.mp fun hp => ?_
    have q : v1 (ns.getD d 0) (us.getD d 0) = true := by
      unfold v1
      rw [z, decide_eq_true hp]
      simp
    rw [q] at this
    cases this
  have t := tot_ge (R := R) d0 z0 ts.length c (Nat.le_refl _) h
  have s := sum_le (R := R) (f := payTo ns ts us ts.length) (g := setupAt ts) fun s hs => by
    obtain ⟨hs1, hs2⟩ := hR s hs
    have := List.all_eq_true.mp h2 s (List.mem_range.mpr hs1)
    unfold within at this
    unfold able at hs2
    unfold setupAt
    cases e : (ts.getD s tm0).s with
    | none => rw [e] at hs2; cases hs2
    | some sv =>
      simp only [e] at this
      exact of_decide_eq_true this
  omega
theorem sum_more {f : Nat → Bool} {j : Nat} {g : Nat → Int} (hj : f j = false) : ∀ n : Nat, (((List.range n).filter fun s => f s || decide (s = j)).map g).sum = (((List.range n).filter f).map g).sum + if j < n then g j else 0
  | 0 => rfl
  | n + 1 => by
    rw [List.range_succ, List.filter_append, List.filter_append, List.map_append, List.map_append, List.sum_append, List.sum_append, sum_more hj n]
    by_cases z : n = j
    · subst z
      have e1 : [n].filter (fun s => f s || decide (s = n)) = [n] := by simp
      have e2 : [n].filter f = [] := by simp [hj]
      rw [e1, e2, if_neg (Nat.lt_irrefl _), if_pos (Nat.lt_succ_self _)]
      simp
    · have e1 : [n].filter (fun s => f s || decide (s = j)) = [n].filter f := by
        simp [List.filter_cons, z]
      rw [e1]
      by_cases y : j < n
      · rw [if_pos y, if_pos (by omega)]; omega
      · rw [if_neg y, if_neg (by omega)]; omega
theorem serve_more {ns : List Int} {ts : List Tm} {f : Nat → Bool} {j x n : Nat} (hx : x < j) : serveL ns ts ((List.range n).filter fun s => f s || decide (s = j)) x = serveL ns ts ((List.range n).filter f) x := by
  unfold serveL
  rw [List.filter_filter, List.filter_filter]
  congr 1
  refine List.filter_congr fun s _ => ?_
  by_cases z : s = j
  · subst z
    rw [decide_eq_false (by omega : ¬ s ≤ x)]
    rfl
  · rw [decide_eq_false z, Bool.or_false]
theorem tot_more {ns : List Int} {ts : List Tm} {f : Nat → Bool} {j n : Nat} (hj : f j = false) (hn : j < n) : ∀ x : Nat, x ≤ j → totC ns ts ((List.range n).filter fun s => f s || decide (s = j)) x = (totC ns ts ((List.range n).filter f) x).map (· + setupAt ts j)
  | 0, _ => by
    show some _ = some _
    rw [sum_more hj n, if_pos hn]
  | x + 1, hx => by
    show dayC _ _ _ _ _ = (dayC _ _ _ _ _).map _
    rw [tot_more hj hn x (by omega)]
    unfold dayC
    rw [serve_more (by omega)]
    by_cases hp : 0 < ns.getD x 0
    · rw [if_pos hp, if_pos hp]
      by_cases hl : serveL ns ts ((List.range n).filter f) x = []
      · rw [if_pos hl, if_pos hl]; rfl
      · rw [if_neg hl, if_neg hl]
        cases totC ns ts ((List.range n).filter f) x with
        | none => rfl
        | some c =>
          show some (c + setupAt ts j + minL _) = some (c + minL _ + setupAt ts j)
          rw [Int.add_right_comm]
    · rw [if_neg hp, if_neg hp]
theorem tot_on {ns : List Int} {ts : List Tm} {R : List Nat} {j : Nat} {c : Int} (d0 : ∀ j, 0 ≤ ns.getD j 0) (hj : j ∈ R) (h : ∃ c', totC ns ts R j = some c' ∧ c' ≤ c) : ∀ k : Nat, ∃ c', totC ns ts R (j + k) = some c' ∧ c' ≤ c + (rowOf k (serveAt ns ts j)).sum
  | 0 => by
    obtain ⟨c', h1, h2⟩ := h
    exact ⟨c', h1, by show c' ≤ c + 0; omega⟩
  | k + 1 => by
    obtain ⟨c', h1, h2⟩ := tot_on d0 hj h k
    rw [row_sum_succ]
    have e : totC ns ts R (j + (k + 1)) = dayC ns ts R (j + k) (totC ns ts R (j + k)) := rfl
    rw [e, h1]
    unfold dayC
    by_cases hp : 0 < ns.getD (j + k) 0
    · rw [if_pos hp]
      have hm : serveAt ns ts j k ∈ serveL ns ts R (j + k) := by
        unfold serveL
        refine List.mem_map.mpr ⟨j, List.mem_filter.mpr ⟨hj, decide_eq_true (Nat.le_add_right _ _)⟩, ?_⟩
        rw [Nat.add_sub_cancel_left]
      rw [if_neg (fun z => by rw [z] at hm; cases hm)]
      have := minL_le hm
      refine ⟨c' + minL (serveL ns ts R (j + k)), rfl, ?_⟩
      omega
    · rw [if_neg hp]
      have z : ns.getD (j + k) 0 = 0 := by have := d0 (j + k); omega
      have z : serveAt ns ts j k = 0 := by unfold serveAt; rw [z, Int.mul_zero]
      refine ⟨c', rfl, ?_⟩
      omega
theorem choice_le {ns cs : List Int} {ts : List Tm} {S : List (Option Nat)} (L : Least ns ts ts.length cs S) (d0 : ∀ j, 0 ≤ ns.getD j 0) : ∀ d : Nat, d ≤ ts.length → ∃ f : Nat → Bool, (∀ s, f s = true → s < d ∧ able ts s = true) ∧ ∃ c, totC ns ts ((List.range ts.length).filter f) d = some c ∧ c ≤ cs.getD d 0 := by
  intro d
  induction d using Nat.strongRecOn with
  | _ d ih =>
    intro hd
    cases d with
    | zero =>
      refine ⟨fun _ => false, (fun s h => by cases h), 0, ?_, by rw [L.c0]; exact Int.le_refl _⟩
      have : (List.range ts.length).filter (fun _ => false) = [] := List.filter_eq_nil_iff.mpr fun _ _ h => by cases h
      rw [this]
      rfl
    | succ d =>
      by_cases z : ns.getD d 0 = 0
      · obtain ⟨f, h1, c, h2, h3⟩ := ih d (by omega) (by omega)
        refine ⟨f, fun s hs => ⟨by have := (h1 s hs).1; omega, (h1 s hs).2⟩, c, ?_, by rw [(L.rest d (by omega) z).2]; exact h3⟩
        show dayC _ _ _ _ _ = _
        unfold dayC
        rw [z, if_neg (by omega)]
        exact h2
      · obtain ⟨j, j1, j2, _, j4, _⟩ := L.last d (by omega) z
        obtain ⟨f, h1, c, h2, h3⟩ := ih j (by omega) (by omega)
        have hfj : f j = false := by
          cases e : f j with
          | false => rfl
          | true => exact absurd (h1 j e).1 (Nat.lt_irrefl _)
        refine ⟨fun s => f s || decide (s = j), fun s hs => ?_, ?_⟩
        · rcases Bool.or_eq_true_iff.mp hs with y | y
          · exact ⟨by have := (h1 s y).1; omega, (h1 s y).2⟩
          · rw [of_decide_eq_true y]; exact ⟨by omega, j2⟩
        · have hm : j ∈ (List.range ts.length).filter fun s => f s || decide (s = j) := List.mem_filter.mpr ⟨List.mem_range.mpr (by omega), by rw [decide_eq_true rfl, Bool.or_true]⟩
          obtain ⟨c', h4, h5⟩ := tot_on (c := cs.getD j 0 + setupAt ts j) d0 hm ⟨c + setupAt ts j, by rw [tot_more hfj (by omega) j (Nat.le_refl _), h2]; rfl, by omega⟩ (d + 1 - j)
          have e : j + (d + 1 - j) = d + 1 := by omega
          rw [e] at h4
          refine ⟨c', h4, ?_⟩
          rw [j4]
          exact h5
theorem mask_of (f : Nat → Bool) : ∀ n : Nat, ∃ m, m < 2 ^ n ∧ ∀ d, d < n → m.testBit d = f d
  | 0 => ⟨0, by decide, fun d h => absurd h (Nat.not_lt_zero _)⟩
  | n + 1 => by
    obtain ⟨m, h1, h2⟩ := mask_of f n
    by_cases z : f n = true
    · refine ⟨2 ^ n + m, by rw [Nat.pow_succ]; omega, fun d hd => ?_⟩
      by_cases y : d = n
      · subst y
        rw [Nat.testBit_two_pow_add_eq, Nat.testBit_lt_two_pow h1, z]
        rfl
      · rw [Nat.testBit_two_pow_add_gt (by omega), h2 d (by omega)]
    · refine ⟨m, by rw [Nat.pow_succ]; omega, fun d hd => ?_⟩
      by_cases y : d = n
      · subst y
        rw [Nat.testBit_lt_two_pow h1]
        simp at z
        exact z.symm
      · exact h2 d (by omega)
theorem band1 (a : Nat) : Builtin.bitAnd (a : Int) 1 = ((a % 2 : Nat) : Int) := by
  unfold Builtin.bitAnd
  rw [decide_eq_true (Int.natCast_nonneg _), decide_eq_true (by decide : (0 : Int) ≤ 1)]
  show (((a : Int).toNat &&& (1 : Int).toNat : Nat) : Int) = _
  rw [Int.toNat_natCast]
  exact congrArg Nat.cast (Nat.and_one_is_mod a)
theorem bit_at (i d : Nat) : decide (Builtin.bitAnd ((i : Int) / 2 ^ d) 1 = 1) = i.testBit d := by
  have e : (i : Int) / 2 ^ d = ((i / 2 ^ d : Nat) : Int) := by
    rw [Int.natCast_ediv, Int.natCast_pow]
    rfl
  rw [e, band1, Nat.testBit_eq_decide_div_mod_eq]
  congr 1
  refine propext ⟨fun h => by omega, fun h => by omega⟩
end
set_option maxRecDepth 100000
set_option maxHeartbeats 4000000
section
variable {P : Program} {w : World} {K : PySem.W.Frag} {mg : Str → Option Value} {base : Heap} {Pt : Addr}
theorem keep_sum {ts : List Tm} {st : Nat} : ∀ {i : Nat}, st + i ≤ ts.length → (((ts.drop st).take i).map Tm.k).sum = eachAt ts st i - (ts.getD st tm0).p
  | 0, _ => by
    show (0 : Int) = (ts.getD st tm0).p - (ts.getD st tm0).p
    omega
  | i + 1, h => by
    obtain ⟨t, et⟩ := get_len (xs := ts) (i := st + i) (by omega)
    rw [List.take_add_one, List.getElem?_drop, et, List.map_append, List.sum_append, keep_sum (by omega)]
    show _ + (t.k + 0) = eachAt ts st i + (ts.getD (st + i) tm0).k - _
    rw [getD_of et]
    omega
def sp_law_serving : Sp := fun vs H Q _ => ∃ (a b : Addr) (ns : List Int) (ts : List Tm) (st i : Nat), vs = [.ref a, .ref b, .int st, .int ((st : Int) + i)] ∧ H a = some (.lst (ns.map V.int)) ∧ TmsAt H b ts ∧ ns.length = ts.length ∧ ts.length ≤ 1000 ∧ st + i < ts.length ∧ (∀ t ∈ ts, TOk t) ∧
  ∀ H', Same H H' → Q (.int (serveAt ns ts st i)) H'
theorem sc_law_serving : FnScope ["_law_wanted_here", "_law_terms_here", "_law_start", "_law_day"] ["_law_wanted_here", "_law_terms_here", "_law_start", "_law_day"] (defScope s_law_serving) := ⟨rfl, rfl, rfl, by decide +kernel, rfl, by decide +kernel, by decide +kernel⟩
theorem ok_law_serving {f : Addr} {fd : FuncData} (F : Fun K "_law_serving" "_law_serving" s_law_serving f fd) (T : Txt mg) : FnOk P w K mg base CX0 1 f fd ["_law_wanted_here", "_law_terms_here", "_law_start", "_law_day"] sp_law_serving := by
  refine F.ok sc_law_serving (fun vs H Q E h => ?_) (fun cdv A outer s H vs Q E hr h => ?_)
  · obtain ⟨a, b, ns, ts, st, i, rfl, _⟩ := h
    rfl
  · obtain ⟨a, b, ns, ts, st, i, rfl, ha, ⟨vs, hb, rv⟩, l1, l2, hi, ok, k⟩ := h
    have hu := hu_of hr
    refine ⟨_, (pss_one (ps_ret (pe_op op_mulB (pe_item hu (pv 0) (pv 3) (fun _ _ => rfl)) (pe_op op_add (pe_item hu (pe_item hu (pv 1) (pv 2) (fun _ _ => rfl)) pe_int (fun _ _ => rfl)) (pe_callBS (call_sumA rfl) rfl T.n_sum bt_sum (pa_e (pe_comp (own := ["_law_setup", "_law_price", "_law_keep"]) (cap := []) rfl (cp_ok rfl) gown_tup3 (pi_lst (pe_slice sl_lstA (pv 1) (po_some (pv 2)) (po_some (pv 3))))
 (fun _ _ _ _ _ _ => ⟨(pg_tup (n := 3) rfl (pgs_cons (pg_name (i := 0) (of_decide_eq_true rfl) rfl (Or.inl rfl) (.inr rfl)) (pgs_cons (pg_name (i := 1) (of_decide_eq_true rfl) rfl (Or.inl rfl) (.inr rfl)) (pgs_cons (pg_name (i := 2) (of_decide_eq_true rfl) rfl (Or.inl rfl) (.inr rfl)) pgs_nil)))), pts_nil, (pv 2)⟩)) pa_nil)))))), ?_⟩
    walk_at "rd"
    have ei : ((st : Int) + i).toNat = st + i := by omega
    obtain ⟨n, en⟩ := get_len (xs := ns) (i := st + i) (by omega)
    obtain ⟨t, et⟩ := get_len (xs := ts) (i := st) (by omega)
    obtain ⟨tv, ev, rt⟩ := rds_map' rv et
    obtain ⟨ta, rfl, hta⟩ := tm_at rt
    have hvl := rds_len rv
    refine ⟨_, item_i (.inl ha) (by omega) (by rw [ei, List.getElem?_map, en]; rfl), _, item_i (.inl hb) (by omega) (by simpa using ev), _, item_t (j := 1) hta rfl, _, hb, fun p hp => ?_⟩
    have ecut : cutV vs (some (st : Int)) (some ((st : Int) + i)) = (vs.drop st).take i := by
      rw [cutV_nn (by omega) (by omega)]
      congr 1
      · omega
    rw [ecut]
    refine ⟨_, upd_same, ?_⟩
    have u := same_upd (o := .lst ((vs.drop st).take i)) hp
    have hlt : ((vs.drop st).take i).length = i := by rw [List.length_take, List.length_drop]; omega
    refine comp_map (goesL p _) (line1000 (by omega)) (fun H' sm => sm _ _ upd_same) ((((ts.drop st).take i).map Tm.k).map V.int) (by rw [List.length_map, List.length_map, List.length_take, List.length_drop, hlt]; omega) (fun j x H2 hj hx s2 N M hN => ?_) (fun H2 s2 q hq => ?_)
    · rw [hlt] at hj
      rw [List.getElem?_take_of_lt hj, List.getElem?_drop] at hx
      obtain ⟨tj, etj, rtj⟩ := rds_map rv hx
      obtain ⟨tb, rfl, htb⟩ := tm_at rtj
      refine gt3 (s2 _ _ (u _ _ htb)) ?_
      walk_at "rd"
      refine hN _ _ s2 ?_
      rw [List.getElem?_map, List.getElem?_map, List.getElem?_take_of_lt hj, List.getElem?_drop, etj]
      rfl
    · have e1 : t.p + (((ts.drop st).take i).map Tm.k).sum = eachAt ts st i := by
        rw [keep_sum (by omega), getD_of et]
        omega
      refine ⟨q, rfl, _, upd_same, _, rfl, _, rfl, ?_⟩
      rw [e1]
      have hb := each_in ok st i
      refine ⟨.inl (.inr ⟨by omega, by omega⟩), ?_⟩
      have e2 : n * eachAt ts st i = serveAt ns ts st i := by
        unfold serveAt
        rw [getD_of en, Int.mul_comm]
      rw [e2]
      exact k _ (u.trans (s2.trans (same_upd hq)))
end
set_option maxRecDepth 100000
set_option maxHeartbeats 4000000
section
variable {P : Program} {w : World} {K : PySem.W.Frag} {mg : Str → Option Value} {base : Heap} {Pt : Addr}
theorem Tb.same {H H' : Hp} {Pt : Addr} (t : Tb H Pt) (s : Same H H') : Tb H' Pt := TblAt.same t s
theorem Tb.at {H : Hp} {Pt : Addr} (t : Tb H Pt) : ∃ u, H Pt = some (.tbl u) := t.elim (fun e => ⟨_, e⟩) (fun ⟨_, e, _⟩ => ⟨_, e⟩)
theorem tb_ku {H H' : Hp} {Pt : Addr} (t : Tb H Pt) (b : But Pt H H') : KeepU H H' := fun a xs e => b a _ (fun z => by obtain ⟨u, hu⟩ := t.at; rw [z, hu] at e; cases e) e
theorem tb_upd {H : Hp} {Pt p : Addr} {kvs : List (Key × V)} {o : HO} (t : Tb H Pt) (h : H p = some (.dK kvs)) : Tb (upd H p o) Pt := by
  rcases t with e | ⟨c, e, e2⟩
  · exact .inl (by rw [upd_ne (fun z => by rw [z, h] at e; cases e)]; exact e)
  · exact .inr ⟨c, by rw [upd_ne (fun z => by rw [z, h] at e; cases e)]; exact e, by rw [upd_ne (fun z => by rw [z, h] at e2; cases e2)]; exact e2⟩
theorem tb_updL {H : Hp} {Pt p : Addr} {xs : List V} {o : HO} (t : Tb H Pt) (h : H p = some (.lst xs)) : Tb (upd H p o) Pt := by
  rcases t with e | ⟨c, e, e2⟩
  · exact .inl (by rw [upd_ne (fun z => by rw [z, h] at e; cases e)]; exact e)
  · exact .inr ⟨c, by rw [upd_ne (fun z => by rw [z, h] at e; cases e)]; exact e, by rw [upd_ne (fun z => by rw [z, h] at e2; cases e2)]; exact e2⟩
theorem tb_but {H H' : Hp} {Pt st : Addr} (t : Tb H Pt) (b : But st H H') (s : StOk H st) : Tb H' Pt := by
  obtain ⟨ns, _, es⟩ := s
  rcases t with e | ⟨c, e, e2⟩
  · exact .inl (b _ _ (fun z => by rw [z, es] at e; cases e) e)
  · exact .inr ⟨c, b _ _ (fun z => by rw [z, es] at e; cases e) e, b _ _ (fun z => by rw [z, es] at e2; cases e2) e2⟩
theorem tb_ne {H : Hp} {Pt p : Addr} {o : HO} (t : Tb H Pt) (h : H p = some o) (hn : ∀ u, o ≠ .tbl u) : p ≠ Pt := fun z => by
  obtain ⟨u, e⟩ := t.at
  rw [← z, h] at e
  exact hn u (Option.some.inj e)
def sp_rises : Sp := fun vs H Q _ => ∃ (a : Addr) (cs : List Int), vs = [.ref a] ∧ H a = some (.lst (cs.map V.int)) ∧ 1 ≤ cs.length ∧ cs.length ≤ 1000 ∧
  ∀ l H', H l = none → H' l = some (.lst ((rowOf (cs.length - 1) fun i => cs.getD (i + 1) 0 - cs.getD i 0).map V.int)) → Same H H' → Q (.ref l) H'
theorem sc_rises : FnScope ["costs"] ["costs"] (defScope s_rises) := ⟨rfl, rfl, rfl, by decide +kernel, rfl, by decide +kernel, by decide +kernel⟩
theorem ok_rises {f : Addr} {fd : FuncData} (F : Fun K "rises" "rises" s_rises f fd) (T : Txt mg) : FnOk P w K mg base CX0 1 f fd ["costs"] sp_rises := by
  refine F.ok sc_rises (fun vs H Q E h => ?_) (fun cdv A outer s H vs Q E hr h => ?_)
  · obtain ⟨a, cs, rfl, _⟩ := h
    rfl
  · obtain ⟨a, cs, rfl, ha, l1, l2, k⟩ := h
    have hu := hu_of hr
    refine ⟨_, (pss_one (ps_ret (pe_comp (own := ["ahead", "after"]) (cap := []) rfl (cp_ok rfl) gown_tup2 (pi_zip2 rfl T.n_zip (pa_e (pv 0) (pa_e (pe_slice sl_lstA (pv 0) (po_some pe_int) po_none) pa_nil)))
 (fun _ _ _ _ _ _ => ⟨(pg_tup (n := 2) rfl (pgs_cons (pg_name (i := 0) (of_decide_eq_true rfl) rfl (Or.inl rfl) (.inr rfl)) (pgs_cons (pg_name (i := 1) (of_decide_eq_true rfl) rfl (Or.inl rfl) (.inr rfl)) pgs_nil))), pts_nil, (pe_op op_sub (pv 1) (pv 0))⟩)))), ?_⟩
    walk_at "rd"
    refine ⟨_, ha, fun p hp => ?_⟩
    have ecut : cutV (cs.map V.int) (some 1) none = (cs.drop 1).map V.int := by rw [cutV_from (by decide), List.map_drop]; rfl
    rw [ecut]
    have u := same_upd (o := .lst ((cs.drop 1).map V.int)) hp
    refine ⟨_, u _ _ ha, _, upd_same, ?_⟩
    have hmin : min (cs.map V.int).length ((cs.drop 1).map V.int).length = cs.length - 1 := by rw [List.length_map, List.length_map, List.length_drop]; omega
    refine comp_t (goesZ2 a p _ _) (line1000 (by rw [hmin]; omega)) (fun i acc H' => acc = (rowOf i fun i => cs.getD (i + 1) 0 - cs.getD i 0).map V.int ∧ Same (upd H p (.lst ((cs.drop 1).map V.int))) H') ⟨rfl, Same.refl _⟩ (fun i acc H' _ h => ⟨h.2 _ _ (u _ _ ha), h.2 _ _ upd_same⟩) (fun i acc H' h => by rw [h.1, List.length_map, rowOf_len]; exact Nat.le_refl _) (fun i ys q acc H2 hi hy h hq => ?_) (fun acc H2 h q hq => ?_)
    · obtain ⟨rfl, sm2⟩ := h
      obtain ⟨y, z, ey, ez, rfl⟩ := hy
      obtain ⟨v, ev, rfl⟩ := get_map ey
      obtain ⟨x, ex, rfl⟩ := get_map ez
      rw [List.getElem?_drop, Nat.add_comm] at ex
      refine gT2 ?_
      walk_at "rd"
      refine ⟨?_, sm2.trans (same_upd hq)⟩
      rw [rowOf_succ, List.map_append, getD_of ev, getD_of ex]
      rfl
    · obtain ⟨rfl, sm2⟩ := h
      rw [hmin]
      exact k q _ (Same.free (u.trans sm2) hq) upd_same (u.trans (sm2.trans (same_upd hq)))
def sp_cheapest_start (Pt : Addr) : Sp := fun vs H Q _ => ∃ (d : Addr) (ks : List Nat) (f : Nat → Int) (n : Int), vs = [.ref d, .int n] ∧ H d = some (.dK (fnI ks f)) ∧ (n ≠ 0 → ks ≠ []) ∧ Tb H Pt ∧ (n = 0 → Q .non H) ∧
  (n ≠ 0 → ∀ (k : Nat) (H' : Hp), k ∈ ks → (∀ j ∈ ks, f k ≤ f j) → Tb H' Pt → But Pt H H' → Q (.int k) H')
theorem sc_cheapest_start : FnScope ["ways", "amount"] ["ways", "amount"] (defScope s_cheapest_start) := ⟨rfl, rfl, rfl, by decide +kernel, rfl, by decide +kernel, by decide +kernel⟩
theorem ok_cheapest_start {f ct : Addr} {fd : FuncData} (F : Fun K "cheapest_start" "cheapest_start" s_cheapest_start f fd) (T : Txt mg) (C : CodeAt K f ct Pt) (hB : BMain mg base) : FnOk P w K mg base CX0 1 f fd ["ways", "amount"] (sp_cheapest_start Pt) := by
  refine F.okC C sc_cheapest_start (fun vs H Q E h => ?_) (fun A outer s H vs Q E hr h => ?_)
  · obtain ⟨d, ks, f, n, rfl, _⟩ := h
    rfl
  · obtain ⟨d, ks, f, n, rfl, hd, hne, tb, k0, k'⟩ := h
    have hu := hu_of hr
    refine ⟨_, (pss_cons (ps_if (pt_cmpR (op_eqA hu) (pv 1) pe_int (nomark _)) (pss_one (ps_ret pe_non)) pss_nil)
 (pss_cons (ps_if (pt_not (pt_truD (pv 0))) pss_never pss_nil)
 (pss_one (ps_ret (pe_minK (i := 0) (nm := "start") (lv := "ways") rfl rfl T.n_min (pv 0) hr rfl C.hd hB rfl rfl rfl (fun _ h => closure_one rfl h) ⟨rfl, rfl, rfl, rfl, rfl, by decide⟩ (fun _ _ _ _ _ => rfl)))))), ?_⟩
    walk_at "rd"
    refine ⟨rfl, ite2 (fun h => k0 (of_decide_eq_true h)) (fun h => ?_)⟩
    have h : n ≠ 0 := fun z => h (decide_eq_true z)
    have hk := hne h
    refine ⟨_, hd, ?_⟩
    have he : (fnI ks f).isEmpty = false := by
      cases ks with
      | nil => exact absurd rfl hk
      | cons a r => rfl
    rw [he, if_neg (by decide)]
    refine ⟨_, hd, ks.map (fun j : Nat => (j : Int)), ?_, ?_, (fun k => f k.toNat), fun k hk => ?_, tb, fun k H2 hk hle tb2 bt => ?_⟩
    · rw [fnI_keys, List.map_map]
      rfl
    · intro z
      exact hk (List.map_eq_nil_iff.mp z)
    · obtain ⟨j, hj, rfl⟩ := List.mem_map.mp hk
      exact fnI_val hj
    · obtain ⟨j, hj, rfl⟩ := List.mem_map.mp hk
      refine k' h j H2 hj (fun i hi => ?_) tb2 bt
      exact hle (i : Int) (List.mem_map.mpr ⟨i, hi, rfl⟩)
theorem ixN_at {n : Nat} {i : Int} (h : i.toNat < n) (h0 : 0 ≤ i) : ixN n i = some i.toNat := by
  unfold ixN
  rw [if_pos h0, if_pos (by omega)]
def soV : Option Nat → V
  | none => .non
  | some j => .int j
def sp_orders_by : Sp := fun vs H Q _ => ∃ (a s : Addr) (ns : List Int) (S : List (Option Nat)), vs = [.ref a, .ref s] ∧ H a = some (.lst (ns.map V.int)) ∧ H s = some (.lst (S.map soV)) ∧ S.length = ns.length ∧ ns.length ≤ 1000 ∧ (∀ i j : Nat, S[i]? = some (some j) → j ≤ i) ∧
  ∀ (l : Addr) (os : List Int) (H' : Hp), H l = none → H' l = some (.lst (os.map V.int)) → os.length = ns.length → Same H H' → Q (.ref l) H'
def ObW (a s l : Addr) (n : Nat) (H : Hp) (m : Nat) (σ : St) (H' : Hp) : Prop := ∃ (os : List Int) (x : Option V), σ = [some (.ref a), some (.ref s), some (.ref l), some (.int ((m : Int) - 1)), x] ∧ m ≤ n ∧ H' l = some (.lst (os.map V.int)) ∧ os.length = n ∧ Same H H'
theorem sc_orders_by : FnScope ["wanted", "starts", "told", "day", "start"] ["wanted", "starts"] (defScope s_orders_by) := ⟨rfl, rfl, rfl, by decide +kernel, rfl, by decide +kernel, by decide +kernel⟩
theorem ok_orders_by {f : Addr} {fd : FuncData} (F : Fun K "orders_by" "orders_by" s_orders_by f fd) (T : Txt mg) : FnOk P w K mg base CX0 1 f fd ["wanted", "starts"] sp_orders_by := by
  refine F.ok sc_orders_by (fun vs H Q E h => ?_) (fun cdv A outer s H vs Q E hr h => ?_)
  · obtain ⟨a, s, ns, S, rfl, _⟩ := h
    rfl
  · obtain ⟨a, so, ns, S, rfl, ha, hs, l1, l2, hj, k⟩ := h
    have hu := hu_of hr
    refine ⟨_, (pss_cons (ps_set (i := 2) sc_orders_by.nd rfl (Or.inl rfl) (pe_op op_rep (pe_lst (pa_e pe_int pa_nil)) (pe_callBS call_len_q rfl T.n_len bt_len (pa_e (pv 0) pa_nil))))
 (pss_cons (ps_set (i := 3) sc_orders_by.nd rfl (Or.inl rfl) (pe_op op_sub (pe_callBS call_len_q rfl T.n_len bt_len (pa_e (pv 0) pa_nil)) pe_int))
 (pss_cons (ps_while PassesOwn.never (pt_cmpR op_ge (pv 3) pe_int (nomark _)) (pss_cons (ps_set (i := 4) sc_orders_by.nd rfl (Or.inl rfl) (pe_item hu (pv 1) (pv 3) (fun _ _ => rfl)))
 (pss_cons (ps_if (pt_cmpR op_isnotA (pv 4) pe_non (nomark _)) (pss_cons (ps_asg (pe_callBS (call_sumA rfl) rfl T.n_sum bt_sum (pa_e (pe_slice sl_lstA (pv 0) (po_some (pv 4)) (po_some (pe_op op_add (pv 3) pe_int))) pa_nil)) (pg_sub (pv 2) (pv 4) set_list))
 (pss_one (ps_set (i := 3) sc_orders_by.nd rfl (Or.inl rfl) (pv 4)))) pss_nil)
 (pss_one (ps_aug (i := 3) sc_orders_by.nd rfl (Or.inl rfl) pe_int ip_subI)))))
 (pss_one (ps_ret (pv 2)))))), ?_⟩
    walk_at "rd"
    refine ⟨by decide, fun p hp => ?_⟩
    have u := same_upd (o := .lst [.int 0]) hp
    have hz : (((ns.map V.int).length : Int)).toNat = ns.length := by rw [List.length_map]; rfl
    refine ⟨_, .inl (u _ _ ha), _, upd_same, by rw [List.length_map]; omega, by rw [List.length_map]; omega, by rw [hz]; exact line1000 (by simp; omega), fun l hl => ?_⟩
    rw [hz, rep_zero]
    have u2 := u.trans (same_upd (o := .lst ((rowOf ns.length fun _ => 0).map V.int)) hl)
    have hlH : H l = none := Same.free u hl
    have hl2 : upd (upd H p (.lst [.int 0])) l (.lst ((rowOf ns.length fun _ => 0).map V.int)) l = _ := upd_same
    generalize upd (upd H p (.lst [.int 0])) l (.lst ((rowOf ns.length fun _ => 0).map V.int)) = H1 at u2 hl2
    refine ⟨_, .inl (u2 _ _ ha), ?_⟩
    have el : ((ns.map V.int).length : Int) - 1 = (ns.length : Int) - 1 := by rw [List.length_map]
    rw [el]
    refine ⟨ObW a so l ns.length H, ⟨ns.length, _, _, rfl, Nat.le_refl _, hl2, rowOf_len _ _, u2⟩, fun m σ H2 h => ?_⟩
    obtain ⟨os, x, rfl, hm, hl3, lo, sm⟩ := h
    walk_at "rd"
    refine ite2 (fun h1 => ?_) (fun h1 => k l os H2 hlH hl3 lo sm)
    have h1 := of_decide_eq_true h1
    obtain ⟨d, rfl⟩ : ∃ d : Nat, m = d + 1 := ⟨m - 1, by omega⟩
    have ed : ((d + 1 : Nat) : Int) - 1 = (d : Int) := by omega
    rw [ed]
    refine ⟨fun σ' H' => ∃ m', m' < d + 1 ∧ ObW a so l ns.length H m' σ' H', fun _ _ h => h, ?_⟩
    obtain ⟨sd, esd⟩ := get_len (xs := S) (i := d) (by omega)
    refine ⟨_, item_i (.inl (sm _ _ hs)) (by omega) (v := soV sd) (by rw [List.getElem?_map]; have : ((d : Int)).toNat = d := by omega
                                                                      rw [this, esd]; rfl), ?_⟩
    cases sd with
    | none =>
      rw [if_neg (by simp [soV])]
      exact ⟨d, by omega, os, _, rfl, by omega, hl3, lo, sm⟩
    | some j =>
      have hjd := hj d j esd
      rw [if_pos (by simp [soV])]
      obtain ⟨ms, ems⟩ := cutV_ints ns (some (j : Int)) (some ((d : Int) + 1))
      refine ⟨(j : Int), rfl, _, sm _ _ ha, fun q hq => ⟨ms, by rw [upd_same, ems], _, (j : Int), rfl, same_upd hq _ _ hl3, j, ?_, (j : Int), rfl, j, by omega, os.set j ms.sum, _, rfl, by omega, by rw [upd_same, List.map_set], by rw [List.length_set]; exact lo, fun b o eb => ?_⟩⟩
      · have := ixN_at (n := (os.map V.int).length) (i := (j : Int)) (by rw [List.length_map]; omega) (by omega)
        simpa using this
      · rw [upd_ne (ne_of_none eb hlH)]
        exact same_upd hq _ _ (sm b o eb)
def RowOk (xs : List Int) : Prop := ∀ x ∈ xs, 0 ≤ x ∧ x < 10 ^ 41
def AbleAt (ts : List Tm) (j : Nat) (n : Int) : Prop := n = 0 ∨ ∃ i t, i ≤ j ∧ ts[i]? = some t ∧ t.s.isNone = false
def sp_law_wanted : Sp := fun vs H Q _ => ∃ (st t : Addr) (ts : List Tm), vs = [.ref st, .ref t] ∧ StOk H st ∧ TmsAt H t ts ∧ t ≠ st ∧ ts.length ≤ 100 ∧
  ∀ (w : Addr) (ns : List Int) (H' : Hp), H' w = some (.lst (ns.map V.int)) → ns.length = ts.length → RowOk ns → (∀ (j : Nat) (n : Int), ns[j]? = some n → AbleAt ts j n) → H w = none → StOk H' st → But st H H' → Q (.ref w) H'
def WaInv (st t w : Addr) (ts : List Tm) (H : Hp) (i : Nat) (σ : St) (H' : Hp) : Prop := ∃ (ns : List Int) (d : Option V), σ = [some (.ref st), some (.ref t), some (.ref w), d] ∧ H' w = some (.lst (ns.map V.int)) ∧ ns.length = ts.length ∧ RowOk ns ∧ (∀ (j : Nat) (n : Int), j < i → ns[j]? = some n → AbleAt ts j n) ∧ StOk H' st ∧ But st H H'
theorem sc_law_wanted : FnScope ["_law_state", "_law_terms_here", "_law_wanted_here", "_law_day"] ["_law_state", "_law_terms_here"] (defScope s_law_wanted) := ⟨rfl, rfl, rfl, by decide +kernel, rfl, by decide +kernel, by decide +kernel⟩
theorem ok_law_wanted {f : Addr} {fd : FuncData} (F : Fun K "_law_wanted" "_law_wanted" s_law_wanted f fd) (T : Txt mg) (h_law_amount : Has P w K mg base "_law_amount" 2 ["_law_state"] sp_law_amount) : FnOk P w K mg base CX0 3 f fd ["_law_state", "_law_terms_here"] sp_law_wanted := by
  refine F.ok sc_law_wanted (fun vs H Q E h => ?_) (fun cdv A outer s H vs Q E hr h => ?_)
  · obtain ⟨st, t, ts, rfl, _⟩ := h
    rfl
  · obtain ⟨st, t, ts, rfl, hs, ⟨vs, ht, rv⟩, nt, hl, k⟩ := h
    have hu := hu_of hr
    refine ⟨_, (pss_cons (ps_setcomp (own := ["_law_term"]) (cap := [0]) (i := 2) rfl (cp_ok rfl) (gown_name (by decide)) sc_law_wanted.nd rfl rfl (pi_lst (pv 1))
 (fun _ _ _ _ _ _ => ⟨(pg_name (i := 0) (of_decide_eq_true rfl) rfl (Or.inl rfl) (.inr rfl)), pts_nil, (pe_callS h_law_amount (hr.mono (by decide)) rfl (pa_e (pv 1) pa_nil))⟩))
 (pss_cons (ps_for PassesOwn.never rfl (pi_rangeS1 rfl T.n_range (pa_e (pe_callBS call_len_q rfl T.n_len bt_len (pa_e (pv 1) pa_nil)) pa_nil)) (pg_name (i := 3) sc_law_wanted.nd rfl (Or.inl rfl))
 (pss_one (ps_if (pt_val (pe_callBS (call_all rfl) rfl T.n_all bt_all (pa_e (pe_comp (own := ["_law_term"]) (cap := []) rfl (cp_ok rfl) (gown_name (by decide)) (pi_lst (pe_slice sl_lstA (pv 1) po_none (po_some (pe_op op_add (pv 3) pe_int))))
 (fun _ _ _ _ _ _ => ⟨(pg_name (i := 0) (of_decide_eq_true rfl) rfl (Or.inl rfl) (.inr rfl)), pts_nil, (pe_cmpR op_isA (pe_item hu (pv 0) pe_int (fun _ _ => rfl)) pe_non (nomark _))⟩)) pa_nil))) (pss_one (ps_asg pe_int (pg_sub (pv 2) (pv 3) set_list))) pss_nil)))
 (pss_one (ps_ret (pv 2))))), ?_⟩
    walk_at "rd"
    have hvl := rds_len rv
    refine ⟨_, ht, ?_⟩
    refine comp_w (goesL t vs) (line1000 (by omega)) (fun i acc H' => ∃ ns : List Int, acc = ns.map V.int ∧ ns.length = i ∧ RowOk ns ∧ StOk H' st ∧ But st H H') ⟨[], rfl, rfl, (fun _ h => nomatch h), hs, But.refl _ _⟩ (fun i acc H' _ h => ?_) (fun i acc H' h => ?_) (fun i x acc H' hi hx h => ?_) (fun acc H' h p hp => ?_)
    · obtain ⟨ns, _, _, _, _, b⟩ := h
      exact b _ _ nt ht
    · obtain ⟨ns, rfl, e, _⟩ := h
      rw [List.length_map, e]
      exact Nat.le_refl _
    · obtain ⟨ns, rfl, e, ro, s1, b1⟩ := h
      walk_at "rd"
      refine ⟨st, rfl, s1, fun n H2 n0 n1 s2 b2 => ⟨ns ++ [n], by rw [List.map_append]; rfl, by simp [e], fun y hy => ?_, s2, b1.trans b2⟩⟩
      rcases List.mem_append.mp hy with z | z
      · exact ro y z
      · rw [List.mem_singleton.mp z]; exact ⟨n0, n1⟩
    · obtain ⟨ns, rfl, e, ro, s1, b1⟩ := h
      have nsp := s1.ne hp
      have hpH : H p = none := b1.none (Ne.symm nsp) hp
      have keep : ∀ H', But st H H' → H' t = some (.lst vs) ∧ RDs H' (ts.map Tm.d) vs := fun H' b => ⟨b _ _ nt ht, RDs.ku (but_kuS b hs) _ _ (nl_map _ nl_tm _) rv⟩
      have b2 : But st H (upd H' p (.lst (ns.map V.int))) := b1.new hp
      refine ⟨_, .inl (keep _ b2).1, by omega, by omega, ?_⟩
      refine for_w (goesR 0 _) (WaInv st t p ts H) ⟨ns, _, rfl, upd_same, by omega, ro, (fun j n hj => absurd hj (Nat.not_lt_zero _)), s1.upd nsp, b2⟩ (fun _ _ _ _ _ => trivial) (fun i x σ H2 hi hx h => ?_) (fun σ H2 h => ?_)
      · obtain ⟨ms, d, rfl, hm, lm, rm, able, s2, b3⟩ := h
        subst hx
        have hi' : i < ts.length := by have : (vs.length : Int).toNat = ts.length := by omega
                                       omega
        obtain ⟨ht2, rv2⟩ := keep _ b3
        walk_at "rd"
        have ecut : cutV vs none (some (0 + (i : Int) + 1)) = vs.take (i + 1) := by
          rw [cutV_to (by omega)]
          congr 1
          omega
        refine ⟨vs, ht2, fun q hq => ⟨_, upd_same, ?_⟩⟩
        rw [ecut]
        have u := same_upd (o := .lst (vs.take (i + 1))) hq
        refine comp_map (goesL q _) (line1000 (by rw [List.length_take]; omega)) (fun H' sm => sm _ _ upd_same) (((ts.take (i + 1)).map fun t => t.s.isNone).map V.bl) (by rw [List.length_map, List.length_map, List.length_take, List.length_take, hvl]) (fun j x H3 hj hx sm N M hN => ?_) (fun H3 sm r hr3 => ?_)
        · rw [List.length_take] at hj
          have hx : vs[j]? = some x := by rw [List.getElem?_take_of_lt (by omega)] at hx; exact hx
          obtain ⟨tj, etj, rtj⟩ := rds_map rv2 hx
          obtain ⟨ta, rfl, hta⟩ := tm_at rtj
          walk_at "rd"
          refine ⟨_, item_t (j := 0) (sm _ _ (u _ _ hta)) rfl, ?_⟩
          rw [optV_non]
          refine hN _ _ sm ?_
          rw [List.getElem?_map, List.getElem?_map, List.getElem?_take_of_lt (by omega), etj]
          rfl
        · refine ⟨r, rfl, _, upd_same, ?_⟩
          have s3 : Same H2 (upd H3 r (.lst (((ts.take (i + 1)).map fun t => t.s.isNone).map V.bl))) := (u.trans sm).trans (same_upd hr3)
          generalize upd H3 r (.lst (((ts.take (i + 1)).map fun t => t.s.isNone).map V.bl)) = H4 at s3
          have nps : st ≠ p := nsp
          refine ite2 (fun ha => ?_) (fun ha => ?_)
          · refine ⟨_, s3 _ _ hm, i, by simp [ixN]; omega, ms.set i 0, _, rfl, by rw [upd_same, List.map_set], by rw [List.length_set]; exact lm, fun y hy => ?_, fun j n hj e => ?_, (s2.same s3).upd nps, (b3.same s3).upd hpH⟩
            · rcases List.mem_or_eq_of_mem_set hy with z | z
              · exact rm y z
              · rw [z]; exact ⟨by decide, by decide +kernel⟩
            · by_cases z : j = i
              · subst z
                rw [List.getElem?_set_self (by omega)] at e
                exact .inl (Option.some.inj e).symm
              · rw [List.getElem?_set_ne (fun y => z y.symm)] at e
                exact able j n (by omega) e
          · refine ⟨ms, _, rfl, s3 _ _ hm, lm, rm, fun j n hj e => ?_, s2.same s3, b3.same s3⟩
            by_cases z : j = i
            · subst z
              rw [Bool.not_eq_true, List.all_eq_false] at ha
              obtain ⟨b, hb, nb⟩ := ha
              obtain ⟨tt, htt, rfl⟩ := List.mem_map.mp hb
              obtain ⟨l, hl2⟩ := List.mem_iff_getElem?.mp htt
              have hlt : l < j + 1 := by
                have := (List.getElem?_eq_some_iff.mp hl2).1
                rw [List.length_take] at this
                omega
              rw [List.getElem?_take_of_lt hlt] at hl2
              exact .inr ⟨l, tt, by omega, hl2, Bool.eq_false_iff.mpr nb⟩
            · exact able j n (by omega) e
      · obtain ⟨ms, d, rfl, hm, lm, rm, able, s2, b3⟩ := h
        walk_at "rd"
        exact k p ms H2 hm lm rm (fun j n e => able j n (by have h1 := (List.getElem?_eq_some_iff.mp e).1; have : (vs.length : Int).toNat = ts.length := by omega
                                                            omega) e) hpH s2 b3
def sp_cheapest (Pt : Addr) : Sp := fun vs H Q _ => ∃ (a b : Addr) (ns : List Int) (ts : List Tm), vs = [.ref a, .ref b] ∧ H a = some (.lst (ns.map V.int)) ∧ TmsAt H b ts ∧ ns.length = ts.length ∧ ts.length ≤ 900 ∧ (∀ t ∈ ts, TOk t) ∧ (∀ (j : Nat) (n : Int), ns[j]? = some n → AbleAt ts j n) ∧ Tb H Pt ∧
  ∀ (t o v : Addr) (cs : List Int) (S : List (Option Nat)) (os : List Int) (H' : Hp), H' t = some (.tup [.int (cs.getD ts.length 0), .ref o, .ref v]) → Least ns ts ts.length cs S → H' v = some (.lst ((rowOf ts.length fun i => cs.getD (i + 1) 0 - cs.getD i 0).map V.int)) → H' o = some (.lst (os.map V.int)) → os.length = ts.length → H v = none → H o = none → v ≠ o → Tb H' Pt → But Pt H H' → Q (.ref t) H'
def Mid (Pt a b c s w e : Addr) (H : Hp) (i : Nat) (n : Int) (ks : List Nat) (fw fe : Nat → Int) (cs : List Int) (S : List (Option Nat)) (σ : St) (H' : Hp) : Prop := ∃ x8 x9 : Option V, σ = [some (.ref a), some (.ref b), some (.ref c), some (.ref s), some (.ref w), some (.ref e), some (.int i), some (.int n), x8, x9] ∧
  H' c = some (.lst (cs.map V.int)) ∧ H' s = some (.lst (S.map soV)) ∧ H' w = some (.dK (fnI ks fw)) ∧ H' e = some (.dK (fnI ks fe)) ∧ Tb H' Pt ∧ But Pt H H'
def ChInv (Pt a b c s w e : Addr) (ns : List Int) (ts : List Tm) (H : Hp) (i : Nat) (σ : St) (H' : Hp) : Prop := ∃ (cs : List Int) (S : List (Option Nat)) (x6 x7 x8 x9 : Option V), σ = [some (.ref a), some (.ref b), some (.ref c), some (.ref s), some (.ref w), some (.ref e), x6, x7, x8, x9] ∧ Least ns ts i cs S ∧
  H' c = some (.lst (cs.map V.int)) ∧ H' s = some (.lst (S.map soV)) ∧ H' w = some (.dK (fnI (ableL ts i) fun j => wayC ns ts cs j i)) ∧ H' e = some (.dK (fnI (ableL ts i) fun j => eachAt ts j (i - j))) ∧ Tb H' Pt ∧ But Pt H H'
def LpInv (Pt a b c s w e : Addr) (ns : List Int) (ts : List Tm) (H : Hp) (i : Nat) (n : Int) (cs : List Int) (S : List (Option Nat)) (ob : Obj) (m : Nat) (σ : St) (H' : Hp) : Prop := ∃ x8 x9 : Option V, σ = [some (.ref a), some (.ref b), some (.ref c), some (.ref s), some (.ref w), some (.ref e), some (.int i), some (.int n), x8, x9] ∧
  H' e = some (.frz ob (.dK (fnI (ableL ts (i + 1)) fun j => eachAt ts j (i - j)))) ∧ H' w = some (.dK (fnI (ableL ts (i + 1)) fun j => if j ∈ (ableL ts (i + 1)).take m then wayC ns ts cs j (i + 1) else wayC ns ts cs j i)) ∧ H' c = some (.lst (cs.map V.int)) ∧ H' s = some (.lst (S.map soV)) ∧ Tb H' Pt ∧ But Pt H H'
def LqInv (Pt a b c s w e l : Addr) (ns : List Int) (ts : List Tm) (H : Hp) (i : Nat) (n : Int) (cs cs' : List Int) (S : List (Option Nat)) (m : Nat) (σ : St) (H' : Hp) : Prop := ∃ x8 x9 : Option V, σ = [some (.ref a), some (.ref b), some (.ref c), some (.ref s), some (.ref w), some (.ref e), some (.int i), some (.int n), x8, x9] ∧
  H' l = some (.lst ((ableL ts (i + 1)).map fun j : Nat => V.int (j : Int))) ∧ H' w = some (.dK (fnI (ableL ts (i + 1)) fun j => wayC ns ts cs j (i + 1))) ∧ H' e = some (.dK (fnI (ableL ts (i + 1)) fun j => if j ∈ (ableL ts (i + 1)).take m then eachAt ts j (i + 1 - j) else eachAt ts j (i - j))) ∧ H' c = some (.lst (cs'.map V.int)) ∧ H' s = some (.lst (S.map soV)) ∧ Tb H' Pt ∧ But Pt H H'
theorem sc_cheapest : FnScope ["wanted", "terms", "costs", "starts", "ways", "each", "day", "amount", "start", "last"] ["wanted", "terms"] (defScope s_cheapest) := ⟨rfl, rfl, rfl, by decide +kernel, rfl, by decide +kernel, by decide +kernel⟩
theorem ok_cheapest {f : Addr} {fd : FuncData} (F : Fun K "cheapest" "cheapest" s_cheapest f fd) (T : Txt mg) (h_cheapest_start : Has P w K mg base "cheapest_start" 1 ["ways", "amount"] (sp_cheapest_start Pt)) (h_rises : Has P w K mg base "rises" 1 ["costs"] sp_rises) (h_orders_by : Has P w K mg base "orders_by" 1 ["wanted", "starts"] sp_orders_by) : FnOk P w K mg base CX0 2 f fd ["wanted", "terms"] (sp_cheapest Pt) := by
  refine F.ok sc_cheapest (fun vs H Q E h => ?_) (fun cdv A outer s H vs Q E hr h => ?_)
  · obtain ⟨a, b, ns, ts, rfl, _⟩ := h
    rfl
  · obtain ⟨a, b, ns, ts, rfl, ha, ht, l1, l2, ok, abl, tb, k⟩ := h
    have hu := hu_of hr
    refine ⟨_, (pss_cons (ps_set (i := 2) sc_cheapest.nd rfl (Or.inl rfl) (pe_lst (pa_e pe_int pa_nil)))
 (pss_cons (ps_set (i := 3) sc_cheapest.nd rfl (Or.inl rfl) (pe_lst pa_nil))
 (pss_cons (ps_set (i := 4) sc_cheapest.nd rfl (Or.inl rfl) pe_dnewK)
 (pss_cons (ps_set (i := 5) sc_cheapest.nd rfl (Or.inl rfl) pe_dnewK)
 (pss_cons (ps_for PassesOwn.never rfl (pi_enum rfl T.n_enumerate (pa_e (pv 0) pa_nil)) (pg_tup (n := 2) rfl (pgs_cons (pg_name (i := 6) sc_cheapest.nd rfl (Or.inl rfl)) (pgs_cons (pg_name (i := 7) sc_cheapest.nd rfl (Or.inl rfl)) pgs_nil)))
 (pss_cons (ps_if (pt_cmpR op_isnotA (pe_item hu (pe_item hu (pv 1) (pv 6) (fun _ _ => rfl)) (pe_globI rfl T.g_SETUP) (fun _ _ => rfl)) pe_non (nomark _)) (pss_cons (ps_asg (pe_op op_add (pe_item hu (pv 2) (pv 6) (fun _ _ => rfl)) (pe_item hu (pe_item hu (pv 1) (pv 6) (fun _ _ => rfl)) (pe_globI rfl T.g_SETUP) (fun _ _ => rfl))) (pg_sub (pv 4) (pv 6) (set_dict hu)))
 (pss_one (ps_asg (pe_item hu (pe_item hu (pv 1) (pv 6) (fun _ _ => rfl)) (pe_globI rfl T.g_PRICE) (fun _ _ => rfl)) (pg_sub (pv 5) (pv 6) (set_dict hu))))) pss_nil)
 (pss_cons (ps_thaw (H0 := H) rfl (ps_for PassesOwn.never rfl (pi_dct (pv 5)) (pg_name (i := 8) sc_cheapest.nd rfl (Or.inl rfl))
 (pss_one (ps_augS (pv 4) (pv 8) (get_dctK hu) (pe_op op_mulB (pe_item hu (pv 5) (pv 8) (fun _ _ => rfl)) (pv 7)) ip_addI (set_dict hu)))))
 (pss_cons (ps_set (i := 9) sc_cheapest.nd rfl (Or.inl rfl) (pe_callS h_cheapest_start (hr.mono (by decide)) rfl (pa_e (pv 4) (pa_e (pv 7) pa_nil))))
 (pss_cons (ps_expr (pe_bs PySem.F.plainAttrs_list PySem.F.slot_list_append PySem.F.type_list_append mt_append (pv 3) (pa_e (pv 9) pa_nil)))
 (pss_cons (ps_expr (pe_bs PySem.F.plainAttrs_list PySem.F.slot_list_append PySem.F.type_list_append mt_append (pv 2) (pa_e (pe_ifExp (pt_cmpR op_isA (pv 9) pe_non (nomark _)) (pe_item hu (pv 2) (pv 6) (fun _ _ => rfl)) (pe_item hu (pv 4) (pv 9) (fun _ _ => rfl))) pa_nil)))
 (pss_one (ps_for PassesOwn.never rfl (pi_lst (pe_callTS (call_listD rfl) rfl T.n_list bt_list (pa_e (pv 5) pa_nil))) (pg_name (i := 8) sc_cheapest.nd rfl (Or.inl rfl))
 (pss_one (ps_augS (pv 5) (pv 8) (get_dctK hu) (pe_item hu (pe_item hu (pv 1) (pv 6) (fun _ _ => rfl)) (pe_globI rfl T.g_KEEP) (fun _ _ => rfl)) ip_addI (set_dict hu)))))))))))
 (pss_one (ps_ret (pe_tup (pa_e (pe_item hu (pv 2) (pe_un un_neg pe_int) (fun _ _ => rfl)) (pa_e (pe_callS h_orders_by (hr.mono (by decide)) rfl (pa_e (pv 0) (pa_e (pv 3) pa_nil))) (pa_e (pe_callS h_rises (hr.mono (by decide)) rfl (pa_e (pv 2) pa_nil)) pa_nil))))))))))), ?_⟩
    walk_at "rd"
    have na : a ≠ Pt := tb_ne tb ha (fun u z => by cases z)
    have nb : b ≠ Pt := by obtain ⟨vs, hb, _⟩ := ht; exact tb_ne tb hb (fun u z => by cases z)
    have keep : ∀ H', But Pt H H' → H' a = some (.lst (ns.map V.int)) ∧ TmsAt H' b ts := fun H' bt => ⟨bt _ _ na ha, by
      obtain ⟨vs, hb, rv⟩ := ht
      exact TmsAt.ku (a := b) (tb_ku tb bt) rv (bt _ _ nb hb)⟩
    refine ⟨by decide, fun c hc => ⟨by decide, fun s' hs => ?_⟩⟩
    intro w' hw e' he
    have u1 := same_upd (o := .lst [.int 0]) hc
    have u2 := u1.trans (same_upd (o := .lst []) hs)
    have u3 := u2.trans (same_upd (o := .dK []) hw)
    have u4 := u3.trans (same_upd (o := .dK []) he)
    have nsc : c ≠ s' := ne_of_none upd_same hs
    have nwe : w' ≠ e' := ne_of_none upd_same he
    have hsH : H s' = none := Same.free u1 hs
    have hwH : H w' = none := Same.free u2 hw
    have heH : H e' = none := Same.free u3 he
    have c4 := same_upd (o := .dK []) he _ _ (same_upd (o := .dK []) hw _ _ (same_upd (o := .lst []) hs c _ upd_same))
    have s4 := same_upd (o := .dK []) he _ _ (same_upd (o := .dK []) hw s' _ upd_same)
    have w4 := same_upd (o := .dK []) he w' _ upd_same
    have e4 : upd (upd (upd (upd H c (.lst [.int 0])) s' (.lst [])) w' (.dK [])) e' (.dK []) e' = _ := upd_same
    generalize upd (upd (upd (upd H c (.lst [.int 0])) s' (.lst [])) w' (.dK [])) e' (.dK []) = H1 at u4 c4 s4 w4 e4
    have b4 : But Pt H H1 := same_but u4
    refine ⟨_, (keep _ b4).1, ?_⟩
    have L0 : Least ns ts 0 [0] [] := ⟨rfl, rfl, rfl, fun i hi => absurd hi (Nat.not_lt_zero _), fun i hi => absurd hi (Nat.not_lt_zero _)⟩
    refine for_t (goesE a _) (ChInv Pt a b c s' w' e' ns ts H) ⟨[0], [], _, _, _, _, rfl, L0, c4, s4, w4, e4, tb.same u4, b4⟩ (fun i σ H' _ h => ?_) (fun i ys p σ H' hi hy h hp => ?_) (fun σ H' h => ?_)
    · obtain ⟨cs, S, x6, x7, x8, x9, rfl, _, _, _, _, _, _, bt⟩ := h
      exact (keep _ bt).1
    · obtain ⟨cs, S, x6, x7, x8, x9, rfl, L, hc5, hs5, hw5, he5, tb5, b5⟩ := h
      obtain ⟨y, ey, rfl⟩ := hy
      obtain ⟨n, en, rfl⟩ := get_map ey
      have hi : i < ts.length := by rw [← l1]; simpa using hi
      have up := same_upd (o := .tup [.int i, .int n]) hp
      have m0 : ∀ x8 x9, Mid Pt a b c s' w' e' H i n (ableL ts i) (fun j => wayC ns ts cs j i) (fun j => eachAt ts j (i - j)) cs S [some (.ref a), some (.ref b), some (.ref c), some (.ref s'), some (.ref w'), some (.ref e'), some (.int i), some (.int n), x8, x9] (upd H' p (.tup [.int i, .int n])) := fun x8 x9 => ⟨_, _, rfl, up _ _ hc5, up _ _ hs5, up _ _ hw5, up _ _ he5, tb5.same up, b5.same up⟩
      refine gT2 ?_
      have m0 := m0 x8 x9
      generalize upd H' p (.tup [.int i, .int n]) = H5 at m0
      have lc := L.lc
      have ls := L.ls
      refine cut1 (Mid Pt a b c s' w' e' H i n (ableL ts (i + 1)) (fun j => wayC ns ts cs j i) (fun j => eachAt ts j (i - j)) cs S) ?_ (fun KK hK => ?_)
      · rintro σ6 H6 ⟨y8, y9, rfl, hc6, hs6, hw6, he6, tb6, b6⟩
        refine cut1 (Mid Pt a b c s' w' e' H i n (ableL ts (i + 1)) (fun j => wayC ns ts cs j (i + 1)) (fun j => eachAt ts j (i - j)) cs S) ?_ (fun KK hK => ?_)
        · rintro σ7 H7 ⟨y8, y9, rfl, hc7, hs7, hw7, he7, tb7, b7⟩
          refine cut3 (fun σ8 H8 => ∃ cs' S', Least ns ts (i + 1) cs' S' ∧ (∀ j, j ≤ i → wayC ns ts cs' j (i + 1) = wayC ns ts cs j (i + 1)) ∧ Mid Pt a b c s' w' e' H i n (ableL ts (i + 1)) (fun j => wayC ns ts cs j (i + 1)) (fun j => eachAt ts j (i - j)) cs' S' σ8 H8) ?_ (fun KK hK => ?_)
          · rintro σ8 H8 ⟨cs', S', L', hway, z8, z9, rfl, hc8, hs8, hw8, he8, tb8, b8⟩
            walk_at "rd"
            have ndk : (ableL ts (i + 1)).Nodup := List.filter_sublist.nodup List.nodup_range
            have hkl : (ableL ts (i + 1)).length ≤ 1000 := by have := able_len ts (i + 1); omega
            refine ⟨_, .inl he8, by rw [fnI_len]; exact hkl, fun l hl => ⟨_, upd_same, ?_⟩⟩
            have ekeys : (fnI (ableL ts (i + 1)) fun j => eachAt ts j (i - j)).map (fun p => kV p.1) = (ableL ts (i + 1)).map fun j : Nat => V.int (j : Int) := by unfold fnI; rw [List.map_map]; rfl
            rw [ekeys]
            have ul := same_upd (o := .lst ((ableL ts (i + 1)).map fun j : Nat => V.int (j : Int))) hl
            refine for_w (goesL l _) (LqInv Pt a b c s' w' e' l ns ts H i n cs cs' S') ⟨_, _, rfl, upd_same, ul _ _ hw8, ?_, ul _ _ hc8, ul _ _ hs8, tb8.same ul, b8.same ul⟩ (fun m σ H' _ h => ?_) (fun m x σ H9 hm hx h => ?_) (fun σ H9 h => ?_)
            · rw [ul _ _ he8]
              exact congrArg (fun z => some (HO.dK z)) (fnI_congr fun j hj => by rw [if_neg (by simp)])
            · obtain ⟨_, _, _, e, _⟩ := h
              exact e
            · obtain ⟨q8, q9, rfl, hl9, hw9, he9, hc9, hs9, tb9, b9⟩ := h
              obtain ⟨j, ej, rfl⟩ := get_map hx
              walk_at "rd"
              have hjm : j ∈ ableL ts (i + 1) := List.mem_of_getElem? ej
              have hji := (mem_able.mp hjm).1
              have nin : j ∉ (ableL ts (i + 1)).take m := fun z => by
                obtain ⟨q, hq⟩ := List.mem_iff_getElem?.mp z
                rw [List.getElem?_take] at hq
                split at hq
                · rename_i hlt
                  have := (List.getElem?_inj (List.getElem?_eq_some_iff.mp hq).1 ndk).mp (hq.trans ej.symm)
                  omega
                · cases hq
              obtain ⟨vs, hb, rv⟩ := (keep _ b9).2
              obtain ⟨t, et⟩ := get_len hi
              obtain ⟨tv, ev, rt⟩ := rds_map' rv et
              obtain ⟨ta, rfl, hta⟩ := tm_at rt
              have lw : ∀ f : Nat → Int, (fnI (ableL ts (i + 1)) f).length < sizeLine := fun f => Nat.lt_of_le_of_lt (m := 1000) (by rw [fnI_len]; exact hkl) (by decide)
              refine ⟨_, nk j, rfl, he9, _, fnI_val hjm, _, item_i (.inl hb) (by omega) (by simpa using ev), _, item_t (j := 2) hta rfl, _, rfl, _, rfl, _, nk j, rfl, he9, lw _, _, _, rfl, ?_, ?_, ?_, ?_, ?_, ?_, b9.upd heH⟩
              · rw [upd_ne (fun z => by rw [z, he9] at hl9; cases hl9)]; exact hl9
              · rw [upd_ne nwe]; exact hw9
              · rw [upd_same, fnI_put hjm]
                refine congrArg (fun z => some (HO.dK z)) (fnI_congr fun q hq => ?_)
                rw [List.take_add_one, ej]
                by_cases z : q = j
                · subst z
                  rw [if_pos rfl, if_neg nin, if_pos (by simp)]
                  have e1 : i + 1 - q = (i - q) + 1 := by omega
                  rw [e1]
                  show _ = eachAt ts q (i - q) + (ts.getD (q + (i - q)) tm0).k
                  have e2 : q + (i - q) = i := by omega
                  rw [e2, getD_of et]
                · rw [if_neg z]
                  by_cases y : q ∈ (ableL ts (i + 1)).take m
                  · rw [if_pos y, if_pos (List.mem_append_left _ y)]
                  · rw [if_neg y, if_neg (fun x => by
                      rcases List.mem_append.mp x with x | x
                      · exact y x
                      · exact z (List.mem_singleton.mp x))]
              · rw [upd_ne (fun z => by rw [z, he9] at hc9; cases hc9)]; exact hc9
              · rw [upd_ne (fun z => by rw [z, he9] at hs9; cases hs9)]; exact hs9
              · exact tb_upd tb9 he9
            · obtain ⟨q8, q9, rfl, hl9, hw9, he9, hc9, hs9, tb9, b9⟩ := h
              refine ⟨cs', S', _, _, _, _, rfl, L', hc9, hs9, ?_, ?_, tb9, b9⟩
              · rw [hw9]
                exact congrArg (fun z => some (HO.dK z)) (fnI_congr fun q hq => (hway q (by have := (mem_able.mp hq).1; omega)).symm)
              · rw [he9]
                refine congrArg (fun z => some (HO.dK z)) (fnI_congr fun q hq => ?_)
                rw [List.length_map, List.take_of_length_le (Nat.le_refl _), if_pos hq]
          · walk_at "rd"
            have eng : ns.getD i 0 = n := getD_of en
            have ls7 : (S.map soV).length < sizeLine := Nat.lt_of_le_of_lt (m := 1000) (by rw [List.length_map]; omega) (by decide)
            have lc7 : (cs.map V.int).length < sizeLine := Nat.lt_of_le_of_lt (m := 1000) (by rw [List.length_map]; omega) (by decide)
            have cns : c ≠ s' := nsc
            have wns : w' ≠ s' := fun z => by rw [z, hs7] at hw7; cases hw7
            have wnc : w' ≠ c := fun z => by rw [z, hc7] at hw7; cases hw7
            have ens : e' ≠ s' := fun z => by rw [z, hs7] at he7; cases he7
            have enc : e' ≠ c := fun z => by rw [z, hc7] at he7; cases he7
            have fin : ∀ (H8 : Hp) (x : V) (so : Option Nat) (cv : Int) (y9 : Option V), H8 c = some (.lst (cs.map V.int)) → H8 s' = some (.lst (S.map soV)) → H8 w' = some (.dK (fnI (ableL ts (i + 1)) fun j => wayC ns ts cs j (i + 1))) → H8 e' = some (.dK (fnI (ableL ts (i + 1)) fun j => eachAt ts j (i - j))) → Tb H8 Pt → But Pt H H8 →
                Least ns ts (i + 1) (cs ++ [cv]) (S ++ [so]) → KK [some (.ref a), some (.ref b), some (.ref c), some (.ref s'), some (.ref w'), some (.ref e'), some (.int i), some (.int n), y8, y9] (upd (upd H8 s' (.lst (S.map soV ++ [soV so]))) c (.lst (cs.map V.int ++ [.int cv]))) := fun H8 x so cv y9 h1 h2 h3 h4 t8 b8 L' => by
              refine hK _ _ ⟨cs ++ [cv], S ++ [so], L', fun j hj => wayC_app (by omega), _, _, rfl, ?_, ?_, ?_, ?_, ?_, ?_⟩
              · rw [upd_same, List.map_append]; rfl
              · rw [upd_ne (Ne.symm cns), upd_same, List.map_append]; rfl
              · rw [upd_ne wnc, upd_ne wns]; exact h3
              · rw [upd_ne enc, upd_ne ens]; exact h4
              · exact tb_updL (tb_updL t8 h2) (by rw [upd_ne cns]; exact h1)
              · exact (b8.upd hsH).upd hc
            refine ⟨w', ableL ts (i + 1), _, n, rfl, hw7, fun hn => ?_, tb7, fun hn => ?_, fun hn kk H8 hkk hle tb8 bt8 => ?_⟩
            · rcases abl i n en with z | ⟨i', t', h1, h2, h3⟩
              · exact absurd z hn
              · have hm : i' ∈ ableL ts (i + 1) := mem_able.mpr ⟨by omega, by
                  unfold able
                  rw [getD_of h2]
                  cases q : t'.s with
                  | none => rw [q] at h3; cases h3
                  | some _ => rfl⟩
                intro z
                rw [z] at hm
                cases hm
            · have e1 := L.snoc0 (eng.trans hn)
              have hc8 : upd H7 s' (.lst (S.map soV ++ [.non])) c = some (.lst (cs.map V.int)) := by rw [upd_ne cns]; exact hc7
              refine ⟨ty_lst hs7, _, hs7, ls7, ty_lst hc8, ?_⟩
              rw [if_pos (by rfl)]
              refine ⟨_, item_i (.inl hc8) (v := .int (cs.getD i 0)) (by omega) ?_, _, hc8, lc7, fin H7 .non none _ _ hc7 hs7 hw7 he7 tb7 b7 e1⟩
              have e0 : ((i : Int)).toNat = i := by omega
              rw [e0, List.getElem?_map, List.getD_eq_getElem?_getD, List.getElem?_eq_getElem (by omega)]
              rfl
            · have kd : ∀ {q : Addr} {u : HO}, H7 q = some u → (∀ z, u ≠ .tbl z) → H8 q = some u := fun {q u} e z => bt8 _ _ (tb_ne tb7 e z) e
              have hc8 := kd hc7 (fun z y => by cases y)
              have hs8 := kd hs7 (fun z y => by cases y)
              have hw8 := kd hw7 (fun z y => by cases y)
              have he8 := kd he7 (fun z y => by cases y)
              obtain ⟨hk1, hk2⟩ := mem_able.mp hkk
              have e1 := L.snoc1 (k := kk) (by rw [eng]; exact hn) (by omega) hk2 (fun j' h1 h2 => hle j' (mem_able.mpr ⟨by omega, h2⟩))
              have hc9 : upd H8 s' (.lst (S.map soV ++ [.int kk])) c = some (.lst (cs.map V.int)) := by rw [upd_ne cns]; exact hc8
              have hw9 : upd H8 s' (.lst (S.map soV ++ [.int kk])) w' = _ := (upd_ne wns).trans hw8
              refine ⟨ty_lst hs8, _, hs8, ls7, ty_lst hc9, ?_⟩
              rw [if_neg (by simp)]
              exact ⟨_, item_dk (k := nk kk) (.inl hw9) (fnI_val hkk), _, hc9, lc7, fin H8 .non (some kk) _ _ hc8 hs8 hw8 he8 tb8 (b7.trans bt8) e1⟩
        · walk_at "rd"
          refine ⟨_, he6, fun ob => ?_⟩
          have ndk : (ableL ts (i + 1)).Nodup := List.filter_sublist.nodup List.nodup_range
          have hkl : (ableL ts (i + 1)).length ≤ 1000 := by have := able_len ts (i + 1); omega
          refine for_w (goesD e' ob _) (LpInv Pt a b c s' w' e' ns ts H i n cs S ob) ⟨_, _, rfl, upd_same, ?_, ?_, ?_, ?_, ?_⟩ (fun m σ H' _ h => ?_) (fun m x σ H7 hm hx h => ?_) (fun σ H7 h => ?_)
          · rw [upd_ne nwe, hw6]
            exact congrArg (fun z => some (HO.dK z)) (fnI_congr fun j hj => by rw [if_neg (by simp)])
          · rw [upd_ne (fun z => by rw [z, he6] at hc6; cases hc6)]
            exact hc6
          · rw [upd_ne (fun z => by rw [z, he6] at hs6; cases hs6)]
            exact hs6
          · exact tb_upd tb6 he6
          · exact b6.upd heH
          · obtain ⟨_, _, _, e, _⟩ := h
            exact e
          · obtain ⟨x8, x9, rfl, he7, hw7, hc7, hs7, tb7, b7⟩ := h
            obtain ⟨ky, vv, ekv, rfl⟩ := hx
            obtain ⟨j, ej, ekj⟩ := get_map (f := fun j => (nk j, V.int (eachAt ts j (i - j)))) ekv
            cases ekj
            walk_at "rd"
            have hjm : j ∈ ableL ts (i + 1) := List.mem_of_getElem? ej
            have hji := (mem_able.mp hjm).1
            have nin : j ∉ (ableL ts (i + 1)).take m := fun z => by
              obtain ⟨q, hq⟩ := List.mem_iff_getElem?.mp z
              rw [List.getElem?_take] at hq
              split at hq
              · rename_i hlt
                have := (List.getElem?_inj (List.getElem?_eq_some_iff.mp hq).1 ndk).mp (hq.trans ej.symm)
                omega
              · cases hq
            have lw : ∀ f : Nat → Int, (fnI (ableL ts (i + 1)) f).length < sizeLine := fun f => Nat.lt_of_le_of_lt (m := 1000) (by rw [fnI_len]; exact hkl) (by decide)
            refine ⟨_, nk j, rfl, hw7, _, fnI_val hjm, _, item_dk (.inr ⟨ob, he7⟩) (fnI_val hjm), _, rfl, each_mul ok j (i - j) (by omega) n, _, rfl, _, nk j, rfl, hw7, lw _, _, _, rfl, ?_, ?_, ?_, ?_, ?_, ?_⟩
            · rw [upd_ne (Ne.symm nwe)]
              exact he7
            · rw [upd_same, fnI_put hjm]
              refine congrArg (fun z => some (HO.dK z)) (fnI_congr fun q hq => ?_)
              rw [List.take_add_one, ej]
              by_cases z : q = j
              · subst z
                rw [if_pos rfl, if_neg nin, if_pos (by simp), wayC_succ (by omega), getD_of en]
              · rw [if_neg z]
                by_cases y : q ∈ (ableL ts (i + 1)).take m
                · rw [if_pos y, if_pos (List.mem_append_left _ y)]
                · rw [if_neg y, if_neg (fun x => by
                    rcases List.mem_append.mp x with x | x
                    · exact y x
                    · exact z (List.mem_singleton.mp x))]
            · rw [upd_ne (fun z => by rw [z, hw7] at hc7; cases hc7)]
              exact hc7
            · rw [upd_ne (fun z => by rw [z, hw7] at hs7; cases hs7)]
              exact hs7
            · exact tb_upd tb7 hw7
            · exact b7.upd hwH
          · obtain ⟨x8, x9, rfl, he7, hw7, hc7, hs7, tb7, b7⟩ := h
            refine ⟨_, .inr ⟨e', ob, _, heH, he7, rfl⟩, hK _ _ ⟨_, _, rfl, ?_, ?_, ?_, upd_same, ?_, b7.upd heH⟩⟩
            · rw [upd_ne (fun z => by rw [z, he7] at hc7; cases hc7)]
              exact hc7
            · rw [upd_ne (fun z => by rw [z, he7] at hs7; cases hs7)]
              exact hs7
            · rw [upd_ne nwe, hw7]
              refine congrArg (fun z => some (HO.dK z)) (fnI_congr fun q hq => ?_)
              rw [fnI_len, List.take_of_length_le (Nat.le_refl _), if_pos hq]
            · rcases tb7 with z | ⟨q, z1, z2⟩
              · exact .inl (by rw [upd_ne (fun y => by rw [y, he7] at z; cases z)]; exact z)
              · exact .inr ⟨q, by rw [upd_ne (fun y => by rw [y, he7] at z1; cases z1)]; exact z1, by rw [upd_ne (fun y => by rw [y, he7] at z2; cases z2)]; exact z2⟩
      · obtain ⟨y8, y9, eσ, hc6, hs6, hw6, he6, tb6, b6⟩ := m0
        walk_at "rd"
        obtain ⟨vs, hb, rv⟩ := (keep _ b6).2
        obtain ⟨t, et⟩ := get_len hi
        obtain ⟨tv, ev, rt⟩ := rds_map' rv et
        obtain ⟨ta, rfl, hta⟩ := tm_at rt
        have ib : Item H5 (.ref b) (.int (i : Int)) (.ref ta) := item_i (.inl hb) (by omega) (by simpa using ev)
        refine ⟨_, ib, _, item_t (j := 0) hta rfl, ?_⟩
        cases hts : t.s with
        | none =>
          have na : ¬ able ts i = true := by unfold able; rw [getD_of et, hts]; decide
          have eL : ableL ts (i + 1) = ableL ts i := by rw [ableL_succ, if_neg na]
          rw [if_neg (by simp [optV])]
          exact hK _ _ ⟨_, _, rfl, hc6, hs6, by rw [eL]; exact hw6, by rw [eL]; exact he6, tb6, b6⟩
        | some sv =>
          have ya : able ts i = true := by unfold able; rw [getD_of et, hts]; rfl
          have eL : ableL ts (i + 1) = ableL ts i ++ [i] := by rw [ableL_succ, if_pos ya]
          have nin : i ∉ ableL ts i := fun z => Nat.lt_irrefl _ (mem_able.mp z).1
          rw [if_pos (by simp [optV])]
          rw [hts] at hta
          have lw : (fnI (ableL ts i) fun j => wayC ns ts cs j i).length < sizeLine := Nat.lt_of_le_of_lt (m := 1000) (by rw [fnI_len]; have := able_len ts i; omega) (by decide)
          have le : (fnI (ableL ts i) fun j => eachAt ts j (i - j)).length < sizeLine := Nat.lt_of_le_of_lt (m := 1000) (by rw [fnI_len]; have := able_len ts i; omega) (by decide)
          have ic : Item H5 (.ref c) (.int (i : Int)) (.int (cs.getD i 0)) := item_i (.inl hc6) (by omega) (by
            have e0 : ((i : Int)).toNat = i := by omega
            rw [e0, List.getElem?_map, List.getD_eq_getElem?_getD, List.getElem?_eq_getElem (by omega)]
            rfl)
          have bw : ∀ o', But Pt H (upd H5 w' o') := fun o' => b6.upd hwH
          have tw : ∀ o', Tb (upd H5 w' o') Pt := fun o' => tb_upd tb6 hw6
          have kw : ∀ {q : Addr} {u : HO} (o' : HO), q ≠ w' → H5 q = some u → upd H5 w' o' q = some u := fun o' n h => by rw [upd_ne n]; exact h
          have bnw : b ≠ w' := fun z => by rw [z, hw6] at hb; cases hb
          have tnw : ta ≠ w' := fun z => by rw [z, hw6] at hta; cases hta
          refine ⟨_, ic, _, ib, _, item_t (j := 0) hta rfl, _, rfl, sv, rfl, _, nk i, rfl, hw6, lw, _, item_i (.inl (kw _ bnw hb)) (by omega) (by simpa using ev), _, item_t (j := 1) (kw _ tnw hta) rfl, _, nk i, rfl, kw _ (Ne.symm nwe) he6, le, hK _ _ ⟨_, _, rfl, ?_, ?_, ?_, ?_, ?_, ?_⟩⟩
          · rw [upd_ne (fun z => by rw [z, he6] at hc6; cases hc6)]
            exact kw _ (fun z => by rw [z, hw6] at hc6; cases hc6) hc6
          · rw [upd_ne (fun z => by rw [z, he6] at hs6; cases hs6)]
            exact kw _ (fun z => by rw [z, hw6] at hs6; cases hs6) hs6
          · rw [upd_ne nwe, upd_same, fnI_new nin, eL]
            refine congrArg (fun z => some (HO.dK z)) (fnI_congr fun j hj => ?_)
            by_cases z : j = i
            · subst z
              rw [if_pos rfl]
              unfold wayC setupAt
              rw [getD_of et, hts, Nat.sub_self]
              show _ = _ + sv + (0 : Int)
              omega
            · rw [if_neg z]
          · rw [upd_same, fnI_new nin, eL]
            refine congrArg (fun z => some (HO.dK z)) (fnI_congr fun j hj => ?_)
            by_cases z : j = i
            · subst z
              rw [if_pos rfl, Nat.sub_self]
              show _ = (ts.getD j tm0).p
              rw [getD_of et]
            · rw [if_neg z]
          · exact tb_upd (tw _) (kw _ (Ne.symm nwe) he6)
          · exact (bw _).upd heH
    · obtain ⟨cs, S, x6, x7, x8, x9, rfl, L, hc5, hs5, hw5, he5, tb5, b5⟩ := h
      walk_at "rd"
      have hln : (ns.map V.int).length = ts.length := by rw [List.length_map, l1]
      rw [hln] at L
      have lc := L.lc
      have ls := L.ls
      obtain ⟨ha5, ht5⟩ := keep _ b5
      refine ⟨.int (cs.getD ts.length 0), ?_, a, s', ns, S, rfl, ha5, hs5, by omega, by omega, fun q j eq => ?_, fun o os H6 ho h6 lo sm6 => ?_⟩
      · refine .inl ⟨c, _, -1, rfl, rfl, .inl hc5, ?_⟩
        obtain ⟨cs0, cl, rfl⟩ : ∃ cs0 cl, cs = cs0 ++ [cl] := ⟨cs.dropLast, cs.getLast (fun z => by rw [z] at lc; cases lc), (List.dropLast_concat_getLast _).symm⟩
        rw [List.map_append]
        have l0 : cs0.length = ts.length := by rw [List.length_append] at lc; simpa using lc
        rw [← l0, getD_last]
        exact atI_last _ _
      · have hq := (List.getElem?_eq_some_iff.mp eq).1
        by_cases z : ns.getD q 0 = 0
        · have := (L.rest q (by omega) z).1
          rw [List.getD_eq_getElem?_getD, eq] at this
          cases this
        · obtain ⟨j', j1, _, j3, _⟩ := L.last q (by omega) z
          rw [List.getD_eq_getElem?_getD, eq] at j3
          cases j3
          exact j1
      · refine ⟨c, cs, rfl, sm6 _ _ hc5, by omega, by omega, fun v H7 hv h7 sm7 => ⟨by decide, fun t ht7 => ?_⟩⟩
        have ut := same_upd (o := .tup [.int (cs.getD ts.length 0), .ref o, .ref v]) ht7
        have sm := sm6.trans (sm7.trans ut)
        have hcl : cs.length - 1 = ts.length := by omega
        rw [hcl] at h7
        have free : ∀ q, H' q = none → H q = none ∨ q = Pt := fun q e => by
          by_cases z : q = Pt
          · exact .inr z
          · exact .inl (b5.none z e)
        have nP : ∀ q, H' q = none → q ≠ Pt := fun q e z => by
          obtain ⟨u, hu5⟩ := tb5.at
          rw [z, hu5] at e
          cases e
        exact k t o v cs S os _ upd_same L (ut _ _ h7) (ut _ _ (sm7 _ _ h6)) (by omega) (b5.none (nP v (Same.free sm6 hv)) (Same.free sm6 hv)) (b5.none (nP o ho) ho) (fun z => by rw [z, h6] at hv; cases hv) (tb5.same sm) (b5.same sm)
end
set_option maxRecDepth 100000
set_option maxHeartbeats 4000000
section
variable {P : Program} {w : World} {K : PySem.W.Frag} {mg : Str → Option Value} {base : Heap} {Pt : Addr}
def maskR (n m : Nat) : List Nat := (List.range n).filter m.testBit
def natV (R : List Nat) : List V := R.map fun s : Nat => V.int (s : Int)
def Good (ns : List Int) (ts : List Tm) (cn : Int) (m0 : Nat) : Prop := (∀ (R : List Nat) (c : Int), (∀ s ∈ R, s < ts.length ∧ able ts s = true) → totC ns ts R ts.length = some c → cn ≤ c) ∧ m0 < 2 ^ ts.length ∧ (∀ s ∈ maskR ts.length m0, able ts s = true) ∧ ∃ c, totC ns ts (maskR ts.length m0) ts.length = some c ∧ c ≤ cn
def sp_law_least : Sp := fun vs H Q _ => ∃ (w t : Addr) (ns : List Int) (ts : List Tm) (cn : Int) (m0 : Nat), vs = [.ref w, .ref t] ∧ H w = some (.lst (ns.map V.int)) ∧ TmsAt H t ts ∧ ns.length = ts.length ∧ ts.length ≤ 6 ∧ (∀ t ∈ ts, TOk t) ∧ Good ns ts cn m0 ∧ ∀ H', Same H H' → Q (.int cn) H'
def LeInv (w t : Addr) (cn : Int) (m0 : Nat) (H : Hp) (i : Nat) (σ : St) (H' : Hp) : Prop := ∃ (lo : Option Int) (x3 x4 x5 x6 x7 : Option V), σ = [some (.ref w), some (.ref t), some (optV lo), x3, x4, x5, x6, x7] ∧ (∀ c, lo = some c → cn ≤ c) ∧ (m0 < i → ∃ c, lo = some c ∧ c ≤ cn) ∧ Same H H'
def LdInv (w t q : Addr) (lo : Option Int) (i : Nat) (ns : List Int) (ts : List Tm) (R : List Nat) (H : Hp) (d : Nat) (σ : St) (H' : Hp) : Prop := ∃ x6 x7 : Option V, σ = [some (.ref w), some (.ref t), some (optV lo), some (.int (i : Int)), some (.ref q), some (optV (totC ns ts R d)), x6, x7] ∧ H' q = some (.lst (natV R)) ∧ Same H H'
theorem sc_law_least : FnScope ["_law_wanted_here", "_law_terms_here", "_law_least_here", "_law_number", "_law_some", "_law_total", "_law_day", "_law_costs"] ["_law_wanted_here", "_law_terms_here"] (defScope s_law_least) := ⟨rfl, rfl, rfl, by decide +kernel, rfl, by decide +kernel, by decide +kernel⟩
theorem ok_law_least {f : Addr} {fd : FuncData} (F : Fun K "_law_least" "_law_least" s_law_least f fd) (T : Txt mg) (h_law_serving : Has P w K mg base "_law_serving" 1 ["_law_wanted_here", "_law_terms_here", "_law_start", "_law_day"] sp_law_serving) : FnOk P w K mg base CX0 2 f fd ["_law_wanted_here", "_law_terms_here"] sp_law_least := by
  refine F.ok sc_law_least (fun vs H Q E h => ?_) (fun cdv A outer s H vs Q E hr h => ?_)
  · obtain ⟨w, t, ns, ts, cn, m0, rfl, _⟩ := h
    rfl
  · obtain ⟨w, t, ns, ts, cn, m0, rfl, hw, ht, l1, l2, ok, G, k⟩ := h
    have hu := hu_of hr
    have hu4 := hu64_of hr
    refine ⟨_, (pss_cons (ps_set (i := 2) sc_law_least.nd rfl (Or.inl rfl) pe_non)
 (pss_cons (ps_for PassesOwn.never rfl (pi_rangeS1 rfl T.n_range (pa_e (pe_op op_shl pe_int (pe_callBS call_len_q rfl T.n_len bt_len (pa_e (pv 0) pa_nil))) pa_nil)) (pg_name (i := 3) sc_law_least.nd rfl (Or.inr rfl))
 (pss_cons (ps_setcomp (own := ["_law_day"]) (cap := [3]) (i := 4) rfl (cp_ok rfl) (gown_name (by decide)) sc_law_least.nd rfl rfl (pi_rangeS1 rfl T.n_range (pa_e (pe_callBS call_len_q rfl T.n_len bt_len (pa_e (pv 0) pa_nil)) pa_nil))
 (fun _ _ _ _ _ _ => ⟨(pg_name (i := 0) (of_decide_eq_true rfl) rfl (Or.inl rfl) (.inr rfl)), (pts_one (pt_cmpR (op_eqA hu) (pe_op op_and (pe_op op_shr (pv 1) (pv 0)) pe_int) pe_int (nomark _))), (pv 0)⟩))
 (pss_one (ps_if (pt_val (pe_callBS (call_all rfl) rfl T.n_all bt_all (pa_e (pe_comp (own := ["_law_day"]) (cap := [1]) rfl (cp_ok rfl) (gown_name (by decide)) (pi_lst (pv 4))
 (fun _ _ _ _ _ _ => ⟨(pg_name (i := 0) (of_decide_eq_true rfl) rfl (Or.inl rfl) (.inr rfl)), pts_nil, (pe_cmpR op_isnotA (pe_item hu (pe_item hu (pv 1) (pv 0) (fun _ _ => rfl)) pe_int (fun _ _ => rfl)) pe_non (nomark _))⟩)) pa_nil))) (pss_cons (ps_set (i := 5) sc_law_least.nd rfl (Or.inl rfl) (pe_callBS (call_sumA rfl) rfl T.n_sum bt_sum (pa_e (pe_comp (own := ["_law_day"]) (cap := [1]) rfl (cp_ok rfl) (gown_name (by decide)) (pi_lst (pv 4))
 (fun _ _ _ _ _ _ => ⟨(pg_name (i := 0) (of_decide_eq_true rfl) rfl (Or.inl rfl) (.inr rfl)), pts_nil, (pe_item hu (pe_item hu (pv 1) (pv 0) (fun _ _ => rfl)) pe_int (fun _ _ => rfl))⟩)) pa_nil)))
 (pss_cons (ps_for PassesOwn.never rfl (pi_rangeS1 rfl T.n_range (pa_e (pe_callBS call_len_q rfl T.n_len bt_len (pa_e (pv 0) pa_nil)) pa_nil)) (pg_name (i := 6) sc_law_least.nd rfl (Or.inr rfl))
 (pss_cons (ps_setcomp (own := ["_law_start"]) (cap := [0, 1, 6]) (i := 7) rfl (cp_ok rfl) (gown_name (by decide)) sc_law_least.nd rfl rfl (pi_lst (pv 4))
 (fun _ _ _ _ _ _ => ⟨(pg_name (i := 0) (of_decide_eq_true rfl) rfl (Or.inl rfl) (.inr rfl)), (pts_one (pt_cmpR op_le (pv 0) (pv 3) (nomark _))), (pe_callS h_law_serving (hr.mono (by decide)) rfl (pa_e (pv 1) (pa_e (pv 2) (pa_e (pv 0) (pa_e (pv 3) pa_nil)))))⟩))
 (pss_cons (ps_if (PW.pt (pw_and (pt_cmpR op_gt (pe_item hu (pv 0) (pv 6) (fun _ _ => rfl)) pe_int (nomark _)) (pw_and1 (pt_cmpR (op_eqD hu4) (pv 7) (pe_lst pa_nil) (nomark _))))) (pss_one (ps_set (i := 5) sc_law_least.nd rfl (Or.inl rfl) pe_non)) pss_nil)
 (pss_one (ps_if (PW.pt (pw_and (pt_cmpR op_gt (pe_item hu (pv 0) (pv 6) (fun _ _ => rfl)) pe_int (nomark _)) (pw_and1 (pt_cmpR op_isnotA (pv 5) pe_non (nomark _))))) (pss_one (ps_aug (i := 5) sc_law_least.nd rfl (Or.inl rfl) (pe_callBS (call_minl rfl) rfl T.n_min bt_min (pa_e (pv 7) pa_nil)) ip_addI)) pss_nil)))))
 (pss_one (ps_if (PW.pt (pw_and (pt_cmpR op_isnotA (pv 5) pe_non (nomark _)) (pw_and1 (PW.pt (pw_or (pt_cmpR op_isA (pv 2) pe_non (nomark _)) (pw_or1 (pt_cmpR (op_ltA hu) (pv 5) (pv 2) (nomark _)))))))) (pss_one (ps_set (i := 2) sc_law_least.nd rfl (Or.inl rfl) (pv 5))) pss_nil)))) pss_nil))))
 (pss_one (ps_ret (pv 2))))), ?_⟩
    walk_at "rd"
    have elen : ((ns.map V.int).length : Int) = (ts.length : Nat) := by rw [List.length_map, l1]
    have epow : (1 : Int) * 2 ^ (((ts.length : Nat) : Int)).toNat = ((2 ^ ts.length : Nat) : Int) := by
      rw [Int.toNat_natCast, Int.one_mul, Int.natCast_pow]
      rfl
    have hpow : 2 ^ ts.length ≤ 2 ^ 6 := Nat.pow_le_pow_right (by decide) l2
    refine ⟨_, .inl hw, ?_⟩
    rw [elen, epow]
    have hpow2 : ((2 ^ ts.length : Nat) : Int) ≤ 64 := by
      have : 2 ^ ts.length ≤ 64 := hpow
      exact Int.ofNat_le.mpr this
    have hpow3 := Int.natCast_nonneg (2 ^ ts.length)
    generalize hN : 2 ^ ts.length = N at hpow2 hpow3
    have G2 : m0 < N := hN ▸ G.2.1
    refine ⟨⟨by omega, by omega, by decide⟩, by omega, by omega, ?_⟩
    rw [Int.toNat_natCast]
    refine for_w (goesR 0 _) (LeInv w t cn m0 H) ⟨none, _, _, _, _, _, rfl, (fun c h => by cases h), (fun h => absurd h (Nat.not_lt_zero _)), Same.refl _⟩ (fun _ _ _ _ _ => trivial) (fun i x σ H1 hi hx h => ?_) (fun σ H1 h => ?_)
    · obtain ⟨lo, x3, x4, x5, x6, x7, rfl, g1, g2, s1⟩ := h
      subst hx
      have e0 : (0 : Int) + (i : Int) = ((i : Nat) : Int) := by omega
      rw [e0]
      simp only [gName]
      refine cut1 (fun σ' H2 => ∃ q : Addr, σ' = [some (.ref w), some (.ref t), some (optV lo), some (.int (i : Int)), some (.ref q), x5, x6, x7] ∧ H2 q = some (.lst (natV (maskR ts.length i))) ∧ Same H H2) ?_ (fun KK hK => ?_)
      · rintro σ2 H2 ⟨q, rfl, hq, s2⟩
        walk_at "rd"
        generalize hRd : maskR ts.length i = R at hq
        have hR : ∀ s ∈ R, s < ts.length := fun s hs => by
          rw [← hRd] at hs
          exact List.mem_range.mp (List.mem_filter.mp hs).1
        have hRl : R.length ≤ 6 := by
          have := List.length_filter_le i.testBit (List.range ts.length)
          rw [List.length_range] at this
          rw [← hRd]
          exact Nat.le_trans this l2
        have hnl : (natV R).length = R.length := List.length_map _
        have same0 : m0 = i → (∀ s ∈ R, able ts s = true) ∧ ∃ c, totC ns ts R ts.length = some c ∧ c ≤ cn := fun z => by
          subst z
          rw [← hRd]
          exact ⟨G.2.2.1, G.2.2.2⟩
        have pick : ∀ {j : Nat} {x : V}, (natV R)[j]? = some x → ∃ s, R[j]? = some s ∧ x = .int (s : Int) ∧ s < ts.length := fun {j x} h => by
          obtain ⟨s, es, ex⟩ := get_map h
          exact ⟨s, es, ex, hR s (List.mem_of_getElem? es)⟩
        have term : ∀ {H' : Hp} {s : Nat}, Same H H' → s < ts.length → ∃ (ta : Addr) (tm : Tm), ts[s]? = some tm ∧ Item H' (.ref t) (.int (s : Int)) (.ref ta) ∧ Item H' (.ref ta) (.int 0) (optV tm.s) := fun {H' s} sm hs => by
          obtain ⟨vs, hb, rv⟩ := ht.same sm
          obtain ⟨tm, et⟩ := get_len hs
          obtain ⟨tv, ev, rt⟩ := rds_map' rv et
          obtain ⟨ta, rfl, hta⟩ := tm_at rt
          exact ⟨ta, tm, et, item_i (.inl hb) (by omega) (by simpa using ev), item_t (j := 0) hta rfl⟩
        refine ⟨_, hq, ?_⟩
        refine comp_map (goesL q _) (line1000 (by rw [hnl]; omega)) (fun H' sm => sm _ _ hq) ((R.map (able ts)).map V.bl) (by rw [List.length_map, List.length_map, hnl]) (fun j x H' hj hx sm N M hN => ?_) (fun H3 s3 p hp => ?_)
        · obtain ⟨s, es, rfl, hs⟩ := pick hx
          walk_at "rd"
          obtain ⟨ta, tm, et, i1, i2⟩ := term (s2.trans sm) hs
          refine ⟨_, i1, _, i2, ?_⟩
          have e : (!decide (optV tm.s = V.non)) = able ts s := by
            rw [optV_non]
            unfold able
            rw [getD_of et]
            cases tm.s <;> rfl
          refine hN _ _ sm ?_
          rw [e, List.getElem?_map, List.getElem?_map, es]
          rfl
        · have up := same_upd (o := .lst ((R.map (able ts)).map V.bl)) hp
          have s4 := s2.trans (s3.trans up)
          have hq4 := (s3.trans up) _ _ hq
          refine ⟨p, rfl, _, upd_same, ite2 (fun hall => ?_) (fun hall => ?_)⟩
          · have hab : ∀ s ∈ R, able ts s = true := fun s hs => List.all_eq_true.mp hall _ (List.mem_map.mpr ⟨s, hs, rfl⟩)
            generalize upd H3 p (.lst ((R.map (able ts)).map V.bl)) = H4 at s4 hq4
            refine ⟨_, hq4, ?_⟩
            refine comp_map (goesL q _) (line1000 (by rw [hnl]; omega)) (fun H' sm => sm _ _ hq4) ((R.map (setupAt ts)).map V.int) (by rw [List.length_map, List.length_map, hnl]) (fun j x H' hj hx sm N M hN => ?_) (fun H5 s5 p5 hp5 => ?_)
            · obtain ⟨s, es, rfl, hs⟩ := pick hx
              walk_at "rd"
              obtain ⟨ta, tm, et, i1, i2⟩ := term (s4.trans sm) hs
              refine ⟨_, i1, _, i2, ?_⟩
              have e : optV tm.s = .int (setupAt ts s) := by
                have := hab s (List.mem_of_getElem? es)
                unfold able at this
                unfold setupAt
                rw [getD_of et] at this ⊢
                cases q : tm.s with
                | none => rw [q] at this; cases this
                | some _ => rfl
              rw [e]
              refine hN _ _ sm ?_
              rw [List.getElem?_map, List.getElem?_map, es]
              rfl
            · have up5 := same_upd (o := .lst ((R.map (setupAt ts)).map V.int)) hp5
              have s6 := s4.trans (s5.trans up5)
              have hq6 := (s5.trans up5) _ _ hq4
              refine ⟨p5, rfl, _, upd_same, _, .inl (s6 _ _ hw), by omega, by omega, ?_⟩
              rw [elen, Int.toNat_natCast]
              generalize upd H5 p5 (.lst ((R.map (setupAt ts)).map V.int)) = H6 at s6 hq6
              refine for_w (goesR 0 _) (LdInv w t q lo i ns ts R H) ⟨_, _, rfl, hq6, s6⟩ (fun _ _ _ _ _ => trivial) (fun d x σ H7 hd hx h => ?_) (fun σ H7 h => ?_)
              · obtain ⟨y6, y7, rfl, hq7, s7⟩ := h
                subst hx
                have e0 : (0 : Int) + (d : Int) = ((d : Nat) : Int) := by omega
                rw [e0]
                simp only [gName]
                have hdt : d < ts.length := hd
                have wi : ∀ {H' : Hp}, Same H H' → Item H' (.ref w) (.int (d : Int)) (.int (ns.getD d 0)) := fun {H'} sm => item_i (.inl (sm _ _ hw)) (by omega) (by
                  have e2 : ((d : Int)).toNat = d := by omega
                  rw [e2, List.getElem?_map, List.getD_eq_getElem?_getD, List.getElem?_eq_getElem (by omega)]
                  rfl)
                refine cut1 (fun σ' H8 => ∃ (q2 : Addr), σ' = [some (.ref w), some (.ref t), some (optV lo), some (.int (i : Int)), some (.ref q), some (optV (totC ns ts R d)), some (.int (d : Int)), some (.ref q2)] ∧ H8 q2 = some (.lst ((serveL ns ts R d).map V.int)) ∧ H8 q = some (.lst (natV R)) ∧ Same H H8) ?_ (fun KK hK => ?_)
                · rintro σ8 H8 ⟨q2, rfl, hq2, hq8, s8⟩
                  refine cut1 (fun σ' H9 => ∃ (tc : Option Int), σ' = [some (.ref w), some (.ref t), some (optV lo), some (.int (i : Int)), some (.ref q), some (optV tc), some (.int (d : Int)), some (.ref q2)] ∧ tc = (if 0 < ns.getD d 0 then (if serveL ns ts R d = [] then none else totC ns ts R d) else totC ns ts R d) ∧ H9 q2 = some (.lst ((serveL ns ts R d).map V.int)) ∧ H9 q = some (.lst (natV R)) ∧ Same H H9) ?_ (fun KK hK => ?_)
                  · rintro σ9 H9 ⟨tc, rfl, htc, hq29, hq9, s9⟩
                    walk_at "rd"
                    have fin : ∀ (c : Option Int) (x6 x7 : Option V), totC ns ts R (d + 1) = c → LdInv w t q lo i ns ts R H (d + 1) [some (.ref w), some (.ref t), some (optV lo), some (.int (i : Int)), some (.ref q), some (optV c), x6, x7] H9 := fun c x6 x7 e => ⟨x6, x7, by rw [e], hq9, s9⟩
                    have etot : totC ns ts R (d + 1) = dayC ns ts R d (totC ns ts R d) := rfl
                    unfold dayC at etot
                    refine ⟨_, wi s9, _, rfl, ite2 (fun hp => ?_) (fun hp => ?_)⟩
                    · have hp := of_decide_eq_true hp
                      rw [if_pos hp] at htc etot
                      by_cases hl : serveL ns ts R d = []
                      · rw [if_pos hl] at htc etot
                        subst htc
                        rw [if_neg (by decide)]
                        exact fin none _ _ etot
                      · rw [if_neg hl] at htc etot
                        cases hc : totC ns ts R d with
                        | none =>
                          rw [hc] at htc etot
                          subst htc
                          rw [if_neg (by decide)]
                          exact fin none _ _ etot
                        | some c =>
                          rw [hc] at htc etot
                          subst htc
                          rw [if_pos (by simp [optV])]
                          exact ⟨_, hq29, hl, c, rfl, fin (some (c + minL (serveL ns ts R d))) _ _ etot⟩
                    · have hp : ¬ 0 < ns.getD d 0 := fun z => hp (decide_eq_true z)
                      rw [if_neg hp] at htc etot
                      subst htc
                      exact fin _ _ _ etot
                  · walk_at "rd"
                    refine ⟨_, wi s8, _, rfl, ite2 (fun hp => ?_) (fun hp => ?_)⟩
                    · have hp := of_decide_eq_true hp
                      refine ⟨by decide, fun e he => ?_⟩
                      have ue := same_upd (o := .lst []) he
                      refine ⟨_, rd_row (ue _ _ hq2), _, rd_row (ns := []) upd_same, okD_row _, okD_row _, ?_⟩
                      rw [eqv_rows]
                      refine ite2 (fun hl => ?_) (fun hl => ?_)
                      · exact hK _ _ ⟨none, rfl, by rw [if_pos hp, if_pos (of_decide_eq_true hl)], ue _ _ hq2, ue _ _ hq8, s8.trans ue⟩
                      · exact hK _ _ ⟨_, rfl, by rw [if_pos hp, if_neg (fun z => hl (decide_eq_true z))], ue _ _ hq2, ue _ _ hq8, s8.trans ue⟩
                    · exact hK _ _ ⟨_, rfl, by rw [if_neg (fun z => hp (decide_eq_true z))], hq2, hq8, s8⟩
                · walk_at "rd"
                  refine ⟨_, hq7, ?_⟩
                  refine comp_w (goesL q _) (line1000 (by rw [hnl]; omega)) (fun m acc H'' => acc = (serveL ns ts (R.take m) d).map V.int ∧ Same H7 H'') ⟨rfl, Same.refl _⟩ (fun m acc H'' _ h => h.2 _ _ hq7) (fun m acc H'' h => ?_) (fun m x acc H'' hm hx h => ?_) (fun acc H'' h q2 hq2 => ?_)
                  · rw [h.1]
                    have := List.length_filter_le (fun s => decide (s ≤ d)) (R.take m)
                    rw [List.length_take] at this
                    unfold serveL
                    rw [List.length_map, List.length_map]
                    omega
                  · obtain ⟨rfl, sm⟩ := h
                    obtain ⟨s, es, rfl, hs⟩ := pick hx
                    walk_at "rd"
                    have et : serveL ns ts (R.take (m + 1)) d = if s ≤ d then serveL ns ts (R.take m) d ++ [serveAt ns ts s (d - s)] else serveL ns ts (R.take m) d := by
                      unfold serveL
                      rw [List.take_add_one, es, List.filter_append, List.map_append]
                      show _ ++ ([s].filter _).map _ = _
                      by_cases h : s ≤ d
                      · rw [if_pos h]
                        simp [h]
                      · rw [if_neg h]
                        simp [h]
                    have ei : decide ((s : Int) ≤ (d : Int)) = decide (s ≤ d) := by
                      congr 1
                      exact propext Int.ofNat_le
                    rw [ei]
                    refine ite2 (fun h => ?_) (fun h => ?_)
                    · have h := of_decide_eq_true h
                      have ed : (d : Int) = (s : Int) + ((d - s : Nat) : Int) := by omega
                      refine ⟨w, t, ns, ts, s, d - s, by rw [← ed], (s7.trans sm) _ _ hw, ht.same (s7.trans sm), l1, by omega, by omega, ok, fun H9 s9 => ⟨?_, sm.trans s9⟩⟩
                      rw [et, if_pos h, List.map_append]
                      rfl
                    · rw [et, if_neg (fun z => h (decide_eq_true z))]
                      exact ⟨rfl, sm⟩
                  · obtain ⟨rfl, sm⟩ := h
                    rw [hnl, List.take_of_length_le (Nat.le_refl _)]
                    have u2 := same_upd (o := .lst ((serveL ns ts R d).map V.int)) hq2
                    exact hK _ _ ⟨q2, rfl, upd_same, (sm.trans u2) _ _ hq7, (s7.trans sm).trans u2⟩
              · obtain ⟨y6, y7, rfl, hq7, s7⟩ := h
                walk_at "rd"
                cases hc : totC ns ts R ts.length with
                | none =>
                  rw [if_neg (by decide)]
                  refine ⟨lo, _, _, _, _, _, rfl, g1, fun h => ?_, s7⟩
                  by_cases z : m0 = i
                  · obtain ⟨c, e, _⟩ := (same0 z).2
                    rw [hc] at e
                    cases e
                  · exact g2 (by omega)
                | some c =>
                  have gc := G.1 R c (fun s hs => ⟨hR s hs, hab s hs⟩) hc
                  have gi : m0 = i → c ≤ cn := fun z => by
                    obtain ⟨c', e, h⟩ := (same0 z).2
                    rw [hc] at e
                    cases e
                    exact h
                  rw [if_pos (by simp [optV])]
                  cases lo with
                  | none =>
                    rw [if_pos (by decide)]
                    refine ⟨some c, _, _, _, _, _, rfl, (fun c' h => by cases h; exact gc), fun h => ⟨c, rfl, ?_⟩, s7⟩
                    by_cases z : m0 = i
                    · exact gi z
                    · obtain ⟨_, e, _⟩ := g2 (by omega)
                      cases e
                  | some l =>
                    rw [if_neg (by simp [optV])]
                    have gl := g1 l rfl
                    refine ⟨c, rfl, l, rfl, ite2 (fun h => ?_) (fun h => ?_)⟩
                    · have h := of_decide_eq_true h
                      refine ⟨some c, _, _, _, _, _, rfl, (fun c' h => by cases h; exact gc), fun hm => ⟨c, rfl, ?_⟩, s7⟩
                      by_cases z : m0 = i
                      · exact gi z
                      · obtain ⟨_, e, h2⟩ := g2 (by omega)
                        cases e
                        omega
                    · have h : ¬ c < l := fun z => h (decide_eq_true z)
                      refine ⟨some l, _, _, _, _, _, rfl, (fun c' h => by cases h; exact gl), fun hm => ⟨l, rfl, ?_⟩, s7⟩
                      by_cases z : m0 = i
                      · have := gi z
                        omega
                      · obtain ⟨_, e, h2⟩ := g2 (by omega)
                        cases e
                        exact h2
          · refine ⟨lo, _, _, _, _, _, rfl, g1, fun h => ?_, s4⟩
            by_cases z : m0 = i
            · exact absurd (List.all_eq_true.mpr fun b hb => by
                obtain ⟨s, hs, rfl⟩ := List.mem_map.mp hb
                exact (same0 z).1 s hs) hall
            · exact g2 (by omega)
      · walk_at "rd"
        refine ⟨_, .inl (s1 _ _ hw), by omega, by omega, ?_⟩
        rw [elen, Int.toNat_natCast]
        refine comp_w (goesR 0 _) (line1000 (by omega)) (fun m acc H'' => acc = natV (maskR m i) ∧ Same H1 H'') ⟨rfl, Same.refl _⟩ (fun _ _ _ _ _ => trivial) (fun m acc H'' h => ?_) (fun m x acc H'' hm hx h => ?_) (fun acc H'' h q hq => ?_)
        · rw [h.1]
          have := List.length_filter_le i.testBit (List.range m)
          rw [List.length_range] at this
          unfold natV maskR
          rw [List.length_map]
          exact this
        · obtain ⟨rfl, sm⟩ := h
          subst hx
          have e0 : (0 : Int) + (m : Int) = ((m : Nat) : Int) := by omega
          rw [e0]
          walk_at "rd"
          rw [Int.toNat_natCast]
          refine ⟨by omega, rfl, ?_⟩
          have em : maskR (m + 1) i = if i.testBit m = true then maskR m i ++ [m] else maskR m i := by
            unfold maskR
            rw [List.range_succ, List.filter_append]
            by_cases h : i.testBit m = true
            · rw [if_pos h, List.filter_cons_of_pos h]; rfl
            · rw [if_neg h, List.filter_cons_of_neg h]; simp
          rw [bit_at]
          refine ite2 (fun h => ⟨?_, sm⟩) (fun h => ⟨?_, sm⟩)
          · rw [em, if_pos h]
            unfold natV
            rw [List.map_append]
            rfl
          · rw [em, if_neg h]
        · obtain ⟨rfl, sm⟩ := h
          exact hK _ _ ⟨q, rfl, upd_same, (s1.trans sm).trans (same_upd hq)⟩
    · obtain ⟨lo, x3, x4, x5, x6, x7, rfl, g1, g2, s1⟩ := h
      obtain ⟨c, rfl, hc⟩ := g2 G2
      have := g1 c rfl
      have e : c = cn := by omega
      subst e
      walk_at "rd"
      exact k _ s1
theorem tok_getD {ts : List Tm} (ok : ∀ t ∈ ts, TOk t) (j : Nat) : TOk (ts.getD j tm0) := by
  cases e : ts[j]? with
  | none =>
    rw [List.getD_eq_getElem?_getD, e]
    exact ⟨by decide, by decide, by decide, by decide, fun n h => by cases h⟩
  | some t => rw [getD_of e]; exact ok t (List.mem_of_getElem? e)
theorem tok_s {ts : List Tm} (ok : ∀ t ∈ ts, TOk t) (j : Nat) : 0 ≤ setupAt ts j := by
  unfold setupAt
  cases e : (ts.getD j tm0).s with
  | none => exact Int.le_refl _
  | some n => exact ((tok_getD ok j).s0 n e).1
theorem row_d {ns : List Int} (ro : RowOk ns) (j : Nat) : 0 ≤ ns.getD j 0 := by
  cases e : ns[j]? with
  | none => rw [List.getD_eq_getElem?_getD, e]; exact Int.le_refl _
  | some n => rw [getD_of e]; exact (ro n (List.mem_of_getElem? e)).1
theorem tok_u {ts : List Tm} (ok : ∀ t ∈ ts, TOk t) (i j : Nat) : 0 ≤ unitAt ts i j := (each_in ok i (j - i)).1
theorem good_of {ns cs : List Int} {ts : List Tm} {S : List (Option Nat)} (L : Least ns ts ts.length cs S) (ok : ∀ t ∈ ts, TOk t) (ro : RowOk ns) : ∃ m0, Good ns ts (cs.getD ts.length 0) m0 := by
  obtain ⟨f, h1, c, h2, h3⟩ := choice_le L (row_d ro) ts.length (Nat.le_refl _)
  obtain ⟨m0, m1, m2⟩ := mask_of f ts.length
  have e : maskR ts.length m0 = (List.range ts.length).filter f := List.filter_congr fun s hs => m2 s (List.mem_range.mp hs)
  refine ⟨m0, fun R c hR hc => ?_, m1, fun s hs => ?_, c, by rw [e]; exact h2, h3⟩
  · have rr := rises_right L (tok_s ok) (row_d ro) (tok_u ok)
    have g := choice_ge (us := rowOf ts.length (riseAt cs)) (row_d ro) rr hR hc
    have rs := rises_sum cs ts.length
    rw [L.c0, Int.sub_zero] at rs
    rw [← rs]
    have er : rowOf ts.length (fun d => (rowOf ts.length (riseAt cs)).getD d 0) = rowOf ts.length (riseAt cs) := rowOf_eq fun d hd => rowOf_getD hd
    rw [er] at g
    exact g
  · rw [e] at hs
    exact (h1 s (List.mem_filter.mp hs).2).2
def sp_law (K : PySem.W.Frag) (Pt : Addr) : Sp := fun vs H Q _ => ∃ (a : Addr) (ns : List Int), vs = [.ref a] ∧ SqL K H a (ns.map V.int) ∧ ns.length ≤ 63 ∧ Tb H Pt ∧ ∀ H', Q (.bl true) H'
theorem sc_law : FnScope ["_law_script", "_law_state", "_law_terms_here", "_law_wanted_here"] ["_law_script"] (defScope s_law) := ⟨rfl, rfl, rfl, by decide +kernel, rfl, by decide +kernel, by decide +kernel⟩
theorem ok_law {f : Addr} {fd : FuncData} (F : Fun K "law" "law" s_law f fd) (T : Txt mg) (h_law_drawn : Has P w K mg base "_law_drawn" 1 ["_law_script"] (sp_law_drawn K)) (h_law_terms : Has P w K mg base "_law_terms" 2 ["_law_state", "_law_days"] sp_law_terms) (h_law_next : Has P w K mg base "_law_next" 1 ["_law_state", "_law_many"] sp_law_next) (h_law_wanted : Has P w K mg base "_law_wanted" 3 ["_law_state", "_law_terms_here"] sp_law_wanted) (h_cheapest : Has P w K mg base "cheapest" 2 ["wanted", "terms"] (sp_cheapest Pt)) (h_law_least : Has P w K mg base "_law_least" 2 ["_law_wanted_here", "_law_terms_here"] sp_law_least) : FnOk P w K mg base CX0 4 f fd ["_law_script"] (sp_law K Pt) := by
  refine F.ok sc_law (fun vs H Q E h => ?_) (fun cdv A outer s H vs Q E hr h => ?_)
  · obtain ⟨a, ns, rfl, _⟩ := h
    rfl
  · obtain ⟨a, xs, rfl, hS, hlen, tb0, k⟩ := h
    have hu := hu_of hr
    refine ⟨_, (pss_cons (ps_set (i := 1) sc_law.nd rfl (Or.inl rfl) (pe_callS h_law_drawn (hr.mono (by decide)) rfl (pa_e (pv 0) pa_nil)))
 (pss_cons (ps_set (i := 2) sc_law.nd rfl (Or.inl rfl) (pe_callS h_law_terms (hr.mono (by decide)) rfl (pa_e (pv 1) (pa_e (pe_op op_add pe_int (pe_callS h_law_next (hr.mono (by decide)) rfl (pa_e (pv 1) (pa_e pe_int pa_nil)))) pa_nil))))
 (pss_cons (ps_set (i := 3) sc_law.nd rfl (Or.inl rfl) (pe_callS h_law_wanted (hr.mono (by decide)) rfl (pa_e (pv 1) (pa_e (pv 2) pa_nil))))
 (pss_one (ps_ret (pe_cmpR (op_eqA hu) (pe_item hu (pe_callS h_cheapest (hr.mono (by decide)) rfl (pa_e (pv 3) (pa_e (pv 2) pa_nil))) pe_int (fun _ _ => rfl)) (pe_callS h_law_least (hr.mono (by decide)) rfl (pa_e (pv 3) (pa_e (pv 2) pa_nil))) (nomark _))))))), ?_⟩
    walk_at "rd"
    refine ⟨a, xs, rfl, hS, hlen, fun st H1 s1 sm1 => ?_⟩
    have tb1 := tb0.same sm1
    walk_at "rd"
    refine ⟨st, 6, rfl, s1, by decide, by decide +kernel, fun m H2 m0 m1 s2 b2 => ?_⟩
    have tb2 := tb_but tb1 b2 s1
    walk_at "rd"
    refine ⟨st, _, rfl, s2, by omega, by omega, fun t ts H3 ht hl htk htn s3 b3 => ?_⟩
    have tb3 := tb_but tb2 b3 s2
    have nts : t ≠ st := Ne.symm (s2.ne htn)
    walk_at "rd"
    refine ⟨st, t, ts, rfl, s3, ht, nts, by omega, fun w ns H4 hw lw ow ab hwn s4 b4 => ?_⟩
    have tb4 := tb_but tb3 b4 s3
    have ht4 := ht.but b4 s3 nts
    walk_at "rd"
    refine ⟨w, t, ns, ts, rfl, hw, ht4, lw, by omega, htk, ab, tb4, fun tt o v cs S os H5 htt LL hv ho lo hvn hon nvo tb5 b5 => ?_⟩
    have hw5 := b5 _ _ (tb_ne tb4 hw (fun u z => by cases z)) hw
    have ht5 : TmsAt H5 t ts := by
      obtain ⟨vs, e, r⟩ := ht4
      exact TmsAt.ku (a := t) (tb_ku tb4 b5) r (b5 _ _ (tb_ne tb4 e (fun u z => by cases z)) e)
    obtain ⟨g0, G⟩ := good_of LL htk ow
    walk_at "rd"
    refine ⟨_, item_t (j := 0) htt rfl, w, t, ns, ts, _, g0, rfl, hw5, ht5, lw, by omega, htk, G, fun H6 sm6 => ⟨rfl, ?_⟩⟩
    rw [decide_eq_true rfl]
    exact k _
end
theorem all_mk {l : PySem.W.OpenLaw} {w : World} {K : PySem.W.Frag} {h : Heap} {mg : Str → Option Value} {fa : Addr} (X : K.In h) (G : h.Ns mainGlobals mg) (hfa : mg "law" = some (.ref fa))
    {f1 : Addr} {od1 an1 : Option Addr} {sl1 : Array (Option Value)} {oc1 kV1 dc1 pm1 cd1 ct1 : Value} {f2 : Addr} {od2 an2 : Option Addr} {sl2 : Array (Option Value)} {oc2 kV2 dc2 pm2 cd2 ct2 : Value} {f3 : Addr} {od3 an3 : Option Addr} {sl3 : Array (Option Value)} {oc3 kV3 dc3 pm3 cd3 ct3 : Value} {f4 : Addr} {od4 an4 : Option Addr} {sl4 : Array (Option Value)} {oc4 kV4 dc4 pm4 cd4 ct4 : Value} {f5 : Addr} {od5 an5 : Option Addr} {sl5 : Array (Option Value)} {oc5 kV5 dc5 pm5 cd5 ct5 : Value} {f6 : Addr} {od6 an6 : Option Addr} {sl6 : Array (Option Value)} {oc6 kV6 dc6 pm6 cd6 ct6 : Value} {f7 : Addr} {od7 an7 : Option Addr} {sl7 : Array (Option Value)} {oc7 kV7 dc7 pm7 cd7 ct7 : Value} {f8 : Addr} {od8 an8 : Option Addr} {sl8 : Array (Option Value)} {oc8 kV8 dc8 pm8 cd8 ct8 : Value} {f9 : Addr} {od9 an9 : Option Addr} {sl9 : Array (Option Value)} {oc9 kV9 dc9 pm9 cd9 ct9 : Value} {f10 : Addr} {od10 an10 : Option Addr} {sl10 : Array (Option Value)} {oc10 kV10 dc10 pm10 cd10 ct10 : Value} {f11 : Addr} {od11 an11 : Option Addr} {sl11 : Array (Option Value)} {oc11 kV11 dc11 pm11 cd11 ct11 : Value} {f12 : Addr} {od12 an12 : Option Addr} {sl12 : Array (Option Value)} {oc12 kV12 dc12 pm12 cd12 ct12 : Value} {t_KEEP : Tok} {t_PRICE : Tok} {t_SETUP : Tok} {ct Pt : Addr} {odc : Option Addr} {vsc : Array Value} {slc : Array (Option Value)}
    (a1 : PySem.W.nsIn K mainGlobals "_law_drawn" = some (some (.ref f1))) (l1 : K.lookup f1 = some ⟨oc1, od1, .func (PySem.W.fnOf "_law_drawn" "_law_drawn" (defArgs s_law_drawn) (defBody s_law_drawn) (defScope s_law_drawn) .none kV1 dc1 pm1 an1 cd1 ct1), sl1⟩) (c1 : PySem.W.codeIn K cd1 "_law_drawn" = true) (k1 : PySem.W.keepIn K (.ref f1) = true)
    (a2 : PySem.W.nsIn K mainGlobals "_law_next" = some (some (.ref f2))) (l2 : K.lookup f2 = some ⟨oc2, od2, .func (PySem.W.fnOf "_law_next" "_law_next" (defArgs s_law_next) (defBody s_law_next) (defScope s_law_next) .none kV2 dc2 pm2 an2 cd2 ct2), sl2⟩) (c2 : PySem.W.codeIn K cd2 "_law_next" = true) (k2 : PySem.W.keepIn K (.ref f2) = true)
    (a3 : PySem.W.nsIn K mainGlobals "_law_terms" = some (some (.ref f3))) (l3 : K.lookup f3 = some ⟨oc3, od3, .func (PySem.W.fnOf "_law_terms" "_law_terms" (defArgs s_law_terms) (defBody s_law_terms) (defScope s_law_terms) .none kV3 dc3 pm3 an3 cd3 ct3), sl3⟩) (c3 : PySem.W.codeIn K cd3 "_law_terms" = true) (k3 : PySem.W.keepIn K (.ref f3) = true)
    (a4 : PySem.W.nsIn K mainGlobals "_law_amount" = some (some (.ref f4))) (l4 : K.lookup f4 = some ⟨oc4, od4, .func (PySem.W.fnOf "_law_amount" "_law_amount" (defArgs s_law_amount) (defBody s_law_amount) (defScope s_law_amount) .none kV4 dc4 pm4 an4 cd4 ct4), sl4⟩) (c4 : PySem.W.codeIn K cd4 "_law_amount" = true) (k4 : PySem.W.keepIn K (.ref f4) = true)
    (a5 : PySem.W.nsIn K mainGlobals "_law_wanted" = some (some (.ref f5))) (l5 : K.lookup f5 = some ⟨oc5, od5, .func (PySem.W.fnOf "_law_wanted" "_law_wanted" (defArgs s_law_wanted) (defBody s_law_wanted) (defScope s_law_wanted) .none kV5 dc5 pm5 an5 cd5 ct5), sl5⟩) (c5 : PySem.W.codeIn K cd5 "_law_wanted" = true) (k5 : PySem.W.keepIn K (.ref f5) = true)
    (a6 : PySem.W.nsIn K mainGlobals "cheapest_start" = some (some (.ref f6))) (l6 : K.lookup f6 = some ⟨oc6, od6, .func (PySem.W.fnOf "cheapest_start" "cheapest_start" (defArgs s_cheapest_start) (defBody s_cheapest_start) (defScope s_cheapest_start) .none kV6 dc6 pm6 an6 cd6 ct6), sl6⟩) (c6 : PySem.W.codeIn K cd6 "cheapest_start" = true) (k6 : PySem.W.keepIn K (.ref f6) = true)
    (a7 : PySem.W.nsIn K mainGlobals "rises" = some (some (.ref f7))) (l7 : K.lookup f7 = some ⟨oc7, od7, .func (PySem.W.fnOf "rises" "rises" (defArgs s_rises) (defBody s_rises) (defScope s_rises) .none kV7 dc7 pm7 an7 cd7 ct7), sl7⟩) (c7 : PySem.W.codeIn K cd7 "rises" = true) (k7 : PySem.W.keepIn K (.ref f7) = true)
    (a8 : PySem.W.nsIn K mainGlobals "orders_by" = some (some (.ref f8))) (l8 : K.lookup f8 = some ⟨oc8, od8, .func (PySem.W.fnOf "orders_by" "orders_by" (defArgs s_orders_by) (defBody s_orders_by) (defScope s_orders_by) .none kV8 dc8 pm8 an8 cd8 ct8), sl8⟩) (c8 : PySem.W.codeIn K cd8 "orders_by" = true) (k8 : PySem.W.keepIn K (.ref f8) = true)
    (a9 : PySem.W.nsIn K mainGlobals "cheapest" = some (some (.ref f9))) (l9 : K.lookup f9 = some ⟨oc9, od9, .func (PySem.W.fnOf "cheapest" "cheapest" (defArgs s_cheapest) (defBody s_cheapest) (defScope s_cheapest) .none kV9 dc9 pm9 an9 cd9 ct9), sl9⟩) (c9 : PySem.W.codeIn K cd9 "cheapest" = true) (k9 : PySem.W.keepIn K (.ref f9) = true)
    (a10 : PySem.W.nsIn K mainGlobals "_law_serving" = some (some (.ref f10))) (l10 : K.lookup f10 = some ⟨oc10, od10, .func (PySem.W.fnOf "_law_serving" "_law_serving" (defArgs s_law_serving) (defBody s_law_serving) (defScope s_law_serving) .none kV10 dc10 pm10 an10 cd10 ct10), sl10⟩) (c10 : PySem.W.codeIn K cd10 "_law_serving" = true) (k10 : PySem.W.keepIn K (.ref f10) = true)
    (a11 : PySem.W.nsIn K mainGlobals "_law_least" = some (some (.ref f11))) (l11 : K.lookup f11 = some ⟨oc11, od11, .func (PySem.W.fnOf "_law_least" "_law_least" (defArgs s_law_least) (defBody s_law_least) (defScope s_law_least) .none kV11 dc11 pm11 an11 cd11 ct11), sl11⟩) (c11 : PySem.W.codeIn K cd11 "_law_least" = true) (k11 : PySem.W.keepIn K (.ref f11) = true)
    (a12 : PySem.W.nsIn K mainGlobals "law" = some (some (.ref f12))) (l12 : K.lookup f12 = some ⟨oc12, od12, .func (PySem.W.fnOf "law" "law" (defArgs s_law) (defBody s_law) (defScope s_law) .none kV12 dc12 pm12 an12 cd12 ct12), sl12⟩) (c12 : PySem.W.codeIn K cd12 "law" = true) (k12 : PySem.W.keepIn K (.ref f12) = true)
    (z_enumerate : PySem.W.nsIn K mainGlobals "enumerate" = some none)
    (z_list : PySem.W.nsIn K mainGlobals "list" = some none)
    (z_zip : PySem.W.nsIn K mainGlobals "zip" = some none)
    (z_min : PySem.W.nsIn K mainGlobals "min" = some none)
    (z_len : PySem.W.nsIn K mainGlobals "len" = some none)
    (z_sum : PySem.W.nsIn K mainGlobals "sum" = some none)
    (z_range : PySem.W.nsIn K mainGlobals "range" = some none)
    (z_all : PySem.W.nsIn K mainGlobals "all" = some none)
    (g_KEEP : PySem.W.nsIn K mainGlobals "KEEP" = some (some (.int 2 t_KEEP)))
    (g_PRICE : PySem.W.nsIn K mainGlobals "PRICE" = some (some (.int 1 t_PRICE)))
    (g_SETUP : PySem.W.nsIn K mainGlobals "SETUP" = some (some (.int 0 t_SETUP)))
    (tq : cd6 = .ref ct) (tl : K.lookup ct = some ⟨.type "code", odc, .fields vsc, slc⟩) (tv : vsc[11]? = some (.ref Pt)) (tw : codeVs vsc ct Pt = true) (tp : K.lookup Pt = none) :
    ∃ (fd : FuncData) (ct Pt : Addr), (∀ (s : Shared) (v : Value), BindsTo s fd ⟨[v], []⟩ [("_law_script", v)]) ∧ PySem.W.tabIn K "cheapest_start" = some (ct, Pt) ∧ K.lookup Pt = none ∧ ∀ base : Heap, K.In base → base.Ns mainGlobals mg → BMain mg base → FnOk l.prog w K mg base CX0 4 fa fd ["_law_script"] (sp_law K Pt) := by
  have e := hfa.symm.trans (PySem.W.mg_of X G a12)
  cases e
  have T : Txt mg := ⟨PySem.W.mg_none_of X G z_enumerate, PySem.W.mg_none_of X G z_list, PySem.W.mg_none_of X G z_zip, PySem.W.mg_none_of X G z_min, PySem.W.mg_none_of X G z_len, PySem.W.mg_none_of X G z_sum, PySem.W.mg_none_of X G z_range, PySem.W.mg_none_of X G z_all, ⟨_, PySem.W.mg_of X G g_KEEP⟩, ⟨_, PySem.W.mg_of X G g_PRICE⟩, ⟨_, PySem.W.mg_of X G g_SETUP⟩⟩
  have tb := tab_mk a6 l6 tq tl tv
  have tc := codeHd_mk tl tv tw
  have F1 := fun_mk (st := s_law_drawn) l1 c1 k1
  have b1 := F1.binds (ps := ["_law_script"]) fun _ _ _ _ _ _ us hl => match us, hl with | [_], _ => rfl
  have h_law_drawn : ∀ base : Heap, BMain mg base → Has l.prog w K mg base "_law_drawn" 1 ["_law_script"] (sp_law_drawn K) := fun base hB => ⟨_, _, PySem.W.mg_of X G a1, k1, b1, ok_law_drawn F1 T⟩
  have F2 := fun_mk (st := s_law_next) l2 c2 k2
  have b2 := F2.binds (ps := ["_law_state", "_law_many"]) fun _ _ _ _ _ _ us hl => match us, hl with | [_, _], _ => rfl
  have h_law_next : ∀ base : Heap, BMain mg base → Has l.prog w K mg base "_law_next" 1 ["_law_state", "_law_many"] sp_law_next := fun base hB => ⟨_, _, PySem.W.mg_of X G a2, k2, b2, ok_law_next F2 T⟩
  have F3 := fun_mk (st := s_law_terms) l3 c3 k3
  have b3 := F3.binds (ps := ["_law_state", "_law_days"]) fun _ _ _ _ _ _ us hl => match us, hl with | [_, _], _ => rfl
  have h_law_terms : ∀ base : Heap, BMain mg base → Has l.prog w K mg base "_law_terms" 2 ["_law_state", "_law_days"] sp_law_terms := fun base hB => ⟨_, _, PySem.W.mg_of X G a3, k3, b3, ok_law_terms F3 T (h_law_next base hB)⟩
  have F4 := fun_mk (st := s_law_amount) l4 c4 k4
  have b4 := F4.binds (ps := ["_law_state"]) fun _ _ _ _ _ _ us hl => match us, hl with | [_], _ => rfl
  have h_law_amount : ∀ base : Heap, BMain mg base → Has l.prog w K mg base "_law_amount" 2 ["_law_state"] sp_law_amount := fun base hB => ⟨_, _, PySem.W.mg_of X G a4, k4, b4, ok_law_amount F4 T (h_law_next base hB)⟩
  have F5 := fun_mk (st := s_law_wanted) l5 c5 k5
  have b5 := F5.binds (ps := ["_law_state", "_law_terms_here"]) fun _ _ _ _ _ _ us hl => match us, hl with | [_, _], _ => rfl
  have h_law_wanted : ∀ base : Heap, BMain mg base → Has l.prog w K mg base "_law_wanted" 3 ["_law_state", "_law_terms_here"] sp_law_wanted := fun base hB => ⟨_, _, PySem.W.mg_of X G a5, k5, b5, ok_law_wanted F5 T (h_law_amount base hB)⟩
  have F6 := fun_mk (st := s_cheapest_start) l6 c6 k6
  have b6 := F6.binds (ps := ["ways", "amount"]) fun _ _ _ _ _ _ us hl => match us, hl with | [_, _], _ => rfl
  have h_cheapest_start : ∀ base : Heap, BMain mg base → Has l.prog w K mg base "cheapest_start" 1 ["ways", "amount"] (sp_cheapest_start Pt) := fun base hB => ⟨_, _, PySem.W.mg_of X G a6, k6, b6, ok_cheapest_start F6 T ⟨fun _ _ _ _ e => code_of_tab tb a6 e, tc⟩ hB⟩
  have F7 := fun_mk (st := s_rises) l7 c7 k7
  have b7 := F7.binds (ps := ["costs"]) fun _ _ _ _ _ _ us hl => match us, hl with | [_], _ => rfl
  have h_rises : ∀ base : Heap, BMain mg base → Has l.prog w K mg base "rises" 1 ["costs"] sp_rises := fun base hB => ⟨_, _, PySem.W.mg_of X G a7, k7, b7, ok_rises F7 T⟩
  have F8 := fun_mk (st := s_orders_by) l8 c8 k8
  have b8 := F8.binds (ps := ["wanted", "starts"]) fun _ _ _ _ _ _ us hl => match us, hl with | [_, _], _ => rfl
  have h_orders_by : ∀ base : Heap, BMain mg base → Has l.prog w K mg base "orders_by" 1 ["wanted", "starts"] sp_orders_by := fun base hB => ⟨_, _, PySem.W.mg_of X G a8, k8, b8, ok_orders_by F8 T⟩
  have F9 := fun_mk (st := s_cheapest) l9 c9 k9
  have b9 := F9.binds (ps := ["wanted", "terms"]) fun _ _ _ _ _ _ us hl => match us, hl with | [_, _], _ => rfl
  have h_cheapest : ∀ base : Heap, BMain mg base → Has l.prog w K mg base "cheapest" 2 ["wanted", "terms"] (sp_cheapest Pt) := fun base hB => ⟨_, _, PySem.W.mg_of X G a9, k9, b9, ok_cheapest F9 T (h_cheapest_start base hB) (h_rises base hB) (h_orders_by base hB)⟩
  have F10 := fun_mk (st := s_law_serving) l10 c10 k10
  have b10 := F10.binds (ps := ["_law_wanted_here", "_law_terms_here", "_law_start", "_law_day"]) fun _ _ _ _ _ _ us hl => match us, hl with | [_, _, _, _], _ => rfl
  have h_law_serving : ∀ base : Heap, BMain mg base → Has l.prog w K mg base "_law_serving" 1 ["_law_wanted_here", "_law_terms_here", "_law_start", "_law_day"] sp_law_serving := fun base hB => ⟨_, _, PySem.W.mg_of X G a10, k10, b10, ok_law_serving F10 T⟩
  have F11 := fun_mk (st := s_law_least) l11 c11 k11
  have b11 := F11.binds (ps := ["_law_wanted_here", "_law_terms_here"]) fun _ _ _ _ _ _ us hl => match us, hl with | [_, _], _ => rfl
  have h_law_least : ∀ base : Heap, BMain mg base → Has l.prog w K mg base "_law_least" 2 ["_law_wanted_here", "_law_terms_here"] sp_law_least := fun base hB => ⟨_, _, PySem.W.mg_of X G a11, k11, b11, ok_law_least F11 T (h_law_serving base hB)⟩
  have F12 := fun_mk (st := s_law) l12 c12 k12
  exact ⟨PySem.W.fnOf "law" "law" (defArgs s_law) (defBody s_law) (defScope s_law) .none kV12 dc12 pm12 an12 cd12 ct12, ct, Pt, fun s v => .of_eq rfl, tb, tp, fun base _ _ hB => ok_law F12 T (h_law_drawn base hB) (h_law_terms base hB) (h_law_next base hB) (h_law_wanted base hB) (h_cheapest base hB) (h_law_least base hB)⟩
theorem walk {l : PySem.W.OpenLaw} {q : Program} {loose : List Str} {XP : (Str → Option Value) → Heap → Prop} {YP : World → Heap → Prop} {d dw : DefRec} {K : Params → PySem.W.Frag} (hn : l.most = some 63) (hdf : d.params.defaults = [])
    (hY : ∀ (w : World) (h : Heap), YP w h → (K w.params).In h) (hw : (PyProof.Rows.recsOf q).find? (fun e => e.name == ("cheapest_start" : Str)) = some dw)
    (F : ∀ (w : World) (mg : Str → Option Value) (fa : Addr) (h : Heap), (K w.params).In h → h.Ns mainGlobals mg → mg d.name = some (.ref fa) →
      ∃ (fd : FuncData) (ct Pt : Addr), (∀ (s : Shared) (u : Value), BindsTo s fd ⟨[u], []⟩ [("_law_script", u)]) ∧ PySem.W.tabIn (K w.params) "cheapest_start" = some (ct, Pt) ∧ (K w.params).lookup Pt = none ∧ ∀ base : Heap, (K w.params).In base → base.Ns mainGlobals mg → BMain mg base → FnOk l.prog w (K w.params) mg base CX0 4 fa fd ["_law_script"] (sp_law (K w.params) Pt)) :
    PySem.W.WalkO q loose XP YP l.row.toRowW d [] (fun f vs => PySem.call f vs) :=
  L2.walk_tab (n := 63) (k := 4) (x := "_law_script") (wk := "cheapest_start") (sp := fun w Pt => sp_law (K w.params) Pt) hn (by decide) hdf ⟨rfl, by decide, by decide⟩ hY hw F (fun _ _ a Pt ns hl ht hS => ⟨a, ns, rfl, hS, hl, .inl ht, fun _ => rfl⟩)
end K45
open PySem PySem.W PyProof.Rows
set_option maxRecDepth 100000 in
set_option maxHeartbeats 0 in
theorem PySem.Challenge.cw_needplan_k45_plain_model_beside_holds : PySem.Challenge.rw_needplan_k45_plain_model_beside.Holds := by
  w_on; o_law; k_head; (case hw => w_witness2)
  k_fill
  refine K45.walk (l := PySem.Challenge.rw_needplan_k45_plain_model_beside) rfl rfl (fun w h Y => PySem.W.km_in_of Y) rfl ?F
  case F =>
    intro w mg fa h KX G hmg
    refine' K45.all_mk KX G hmg ?a1 ?l1 ?c1 ?k1 ?a2 ?l2 ?c2 ?k2 ?a3 ?l3 ?c3 ?k3 ?a4 ?l4 ?c4 ?k4 ?a5 ?l5 ?c5 ?k5 ?a6 ?l6 ?c6 ?k6 ?a7 ?l7 ?c7 ?k7 ?a8 ?l8 ?c8 ?k8 ?a9 ?l9 ?c9 ?k9 ?a10 ?l10 ?c10 ?k10 ?a11 ?l11 ?c11 ?k11 ?a12 ?l12 ?c12 ?k12 ?z_enumerate ?z_list ?z_zip ?z_min ?z_len ?z_sum ?z_range ?z_all ?g_KEEP ?g_PRICE ?g_SETUP ?tq ?tl ?tv ?tw ?tp
    (case a1 => k_is)
    (case l1 => k_is)
    (case c1 => k_is)
    (case k1 => k_is)
    (case a2 => k_is)
    (case l2 => k_is)
    (case c2 => k_is)
    (case k2 => k_is)
    (case a3 => k_is)
    (case l3 => k_is)
    (case c3 => k_is)
    (case k3 => k_is)
    (case a4 => k_is)
    (case l4 => k_is)
    (case c4 => k_is)
    (case k4 => k_is)
    (case a5 => k_is)
    (case l5 => k_is)
    (case c5 => k_is)
    (case k5 => k_is)
    (case a6 => k_is)
    (case l6 => k_is)
    (case c6 => k_is)
    (case k6 => k_is)
    (case a7 => k_is)
    (case l7 => k_is)
    (case c7 => k_is)
    (case k7 => k_is)
    (case a8 => k_is)
    (case l8 => k_is)
    (case c8 => k_is)
    (case k8 => k_is)
    (case a9 => k_is)
    (case l9 => k_is)
    (case c9 => k_is)
    (case k9 => k_is)
    (case a10 => k_is)
    (case l10 => k_is)
    (case c10 => k_is)
    (case k10 => k_is)
    (case a11 => k_is)
    (case l11 => k_is)
    (case c11 => k_is)
    (case k11 => k_is)
    (case a12 => k_is)
    (case l12 => k_is)
    (case c12 => k_is)
    (case k12 => k_is)
    (case z_enumerate => k_is)
    (case z_list => k_is)
    (case z_zip => k_is)
    (case z_min => k_is)
    (case z_len => k_is)
    (case z_sum => k_is)
    (case z_range => k_is)
    (case z_all => k_is)
    (case g_KEEP => k_is)
    (case g_PRICE => k_is)
    (case g_SETUP => k_is)
    (case tq => rfl)
    (case tl => k_is)
    (case tv => rfl)
    (case tw => rfl)
    (case tp => rfl)
#print axioms PySem.Challenge.cw_needplan_k45_plain_model_beside_holds
