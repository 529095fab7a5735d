import PyProof.Rows.All
import Wide.All
import OpenK.AllK
import Wide.FinOn
import Lean
import PyProof.EqAt
import PyProof.EqKinds
import PyProof.TupleCall
import PySem.Challenge.RW_needplan_k03_ring_walked
set_option Elab.async false
set_option linter.all false
set_option maxRecDepth 100000
namespace L2
open PySem PySem.Spec PyProof.Rows
abbrev Key := Sum Int Str
def keyIs : Key → Value → Bool
  | .inl k, v => Value.isInt k v
  | .inr x, v => Value.isStrOf x v
def keyH (w : World) : Key → Int
  | .inl k => hashInt k
  | .inr x => hashStr w x
theorem keyIs_shape : ∀ {k : Key} {v : Value}, keyIs k v = true → (∃ i t, k = Sum.inl i ∧ v = Value.int i t) ∨ (∃ x t, k = Sum.inr x ∧ v = Value.str x t)
  | .inl i, v, h => by
    obtain ⟨t, e⟩ := Value.isInt_shape (k := i) (v := v) h
    exact .inl ⟨i, t, rfl, e⟩
  | .inr x, v, h => by
    obtain ⟨t, e⟩ := Value.isStrOf_shape (x := x) (v := v) h
    exact .inr ⟨x, t, rfl, e⟩
theorem keyIs_int (i : Int) (t : Tok) : keyIs (.inl i) (.int i t) = true := by simp [keyIs, Value.isInt]
theorem keyIs_str (x : Str) (t : Tok) : keyIs (.inr x) (.str x t) = true := by simp [keyIs, Value.isStrOf]
theorem key_ll (a b : Int) : decide ((Sum.inl a : Key) = Sum.inl b) = (a == b) := by
  by_cases e : a = b
  · subst e; simp
  · have h : ¬ (Sum.inl a : Key) = Sum.inl b := fun q => e (Sum.inl.inj q)
    rw [decide_eq_false h]
    exact (beq_eq_false_iff_ne.mpr e).symm
theorem key_rr (a b : Str) : decide ((Sum.inr a : Key) = Sum.inr b) = decide (a = b) := by
  by_cases e : a = b
  · subst e; simp
  · have h : ¬ (Sum.inr a : Key) = Sum.inr b := fun q => e (Sum.inr.inj q)
    rw [decide_eq_false h, decide_eq_false e]
theorem key_lr (a : Int) (b : Str) : decide ((Sum.inl a : Key) = Sum.inr b) = false := decide_eq_false (fun q => nomatch q)
theorem key_rl (a : Str) (b : Int) : decide ((Sum.inr a : Key) = Sum.inl b) = false := decide_eq_false (fun q => nomatch q)
def mixKind (prog : Program) (w : World) : PySem.KeyKind prog w Key where
  is := keyIs
  hash := keyH w
  inj := fun v a b ha hb => by
    rcases keyIs_shape ha with ⟨i, t, rfl, rfl⟩ | ⟨x, t, rfl, rfl⟩
    · rcases keyIs_shape hb with ⟨j, u, rfl, e⟩ | ⟨y, u, rfl, e⟩
      · injection e with e1 _; rw [e1]
      · exact nomatch e
    · rcases keyIs_shape hb with ⟨j, u, rfl, e⟩ | ⟨y, u, rfl, e⟩
      · exact nomatch e
      · injection e with e1 _; rw [e1]
  byValue := fun k v h => by
    rcases keyIs_shape h with ⟨i, t, rfl, rfl⟩ | ⟨x, t, rfl, rfl⟩ <;> rfl
  pyHash := fun hv h => by
    rcases keyIs_shape hv with ⟨i, t, rfl, rfl⟩ | ⟨x, t, rfl, rfl⟩
    · exact wpAny_pyHash_int h
    · exact wpAny_pyHash_str h
  eqBool := fun hu hv h => by
    rcases keyIs_shape hu with ⟨i, t, rfl, rfl⟩ | ⟨x, t, rfl, rfl⟩
    · rcases keyIs_shape hv with ⟨j, u, rfl, rfl⟩ | ⟨y, u, rfl, rfl⟩
      · rw [key_ll] at h; exact wpAny_eqBool_int h
      · rw [key_lr] at h; exact SeqAt.EqAt.int_str i t y u _ _ _ _ h
    · rcases keyIs_shape hv with ⟨j, u, rfl, rfl⟩ | ⟨y, u, rfl, rfl⟩
      · rw [key_rl] at h; exact SeqAt.EqAt.str_int x t j u _ _ _ _ h
      · rw [key_rr] at h; exact wpAny_eqBool_str h
  «strs» := fun k x t v h => by
    rcases keyIs_shape h with ⟨i, u, rfl, e⟩ | ⟨y, u, rfl, e⟩
    · exact nomatch e
    · injection e with e1 _
      subst e1
      cases v <;> rfl
theorem mixKind_int (prog : Program) (w : World) (i : Int) (t : Tok) : (mixKind prog w).is (.inl i) (.int i t) = true := keyIs_int i t
theorem mixKind_str (prog : Program) (w : World) (x : Str) (t : Tok) : (mixKind prog w).is (.inr x) (.str x t) = true := keyIs_str x t
end L2
namespace L2
open PySem PySem.Spec PyProof.Rows
inductive V where
  | non | bl (b : Bool) | int (i : Int) | str (x : Str) | byt (b : Array UInt8) | flt (b : UInt64) | ref (a : Addr) | ty (n : String)
  deriving DecidableEq
def RelV : V → Value → Prop
  | .non, u => u = Value.none
  | .bl b, u => u = Value.bool b
  | .int i, u => ∃ t, u = Value.int i t
  | .str x, u => ∃ t, u = Value.str x t
  | .byt b, u => ∃ t, u = Value.bytes b t
  | .flt b, u => ∃ t, u = Value.float b t
  | .ref a, u => u = Value.ref a
  | .ty n, u => u = Value.type n
abbrev Vals : List V → List Value → Prop := Paired RelV
theorem Vals.length {xs : List V} {us : List Value} (r : Vals xs us) : xs.length = us.length := Paired.length r
theorem Vals.get : ∀ {xs : List V} {us : List Value} {i : Nat} {x : V}, Vals xs us → xs[i]? = some x → ∃ u, us[i]? = some u ∧ RelV x u
  | _, _, _, _, .nil, e => by simp at e
  | _, _, 0, _, .cons r _, e => by simp at e; subst e; exact ⟨_, rfl, r⟩
  | _, _, i + 1, x, .cons _ t, e => by
    obtain ⟨u, h1, h2⟩ := Vals.get (i := i) (x := x) t (by simpa using e)
    exact ⟨u, by simpa using h1, h2⟩
theorem Vals.set {x : V} {u : Value} (r : RelV x u) : ∀ {xs : List V} {us : List Value} (i : Nat), Vals xs us → Vals (xs.set i x) (us.set i u)
  | _, _, _, .nil => .nil
  | _, _, 0, .cons _ t => .cons r t
  | _, _, i + 1, .cons q t => .cons q (Vals.set r i t)
theorem Vals.append : ∀ {xs ys : List V} {us ws : List Value}, Vals xs us → Vals ys ws → Vals (xs ++ ys) (us ++ ws)
  | _, _, _, _, .nil, s => s
  | _, _, _, _, .cons r t, s => .cons r (Vals.append t s)
theorem Vals.take : ∀ {xs : List V} {us : List Value} (n : Nat), Vals xs us → Vals (xs.take n) (us.take n)
  | _, _, 0, _ => .nil
  | _, _, _ + 1, .nil => .nil
  | _, _, n + 1, .cons r t => .cons r (Vals.take n t)
theorem Vals.drop : ∀ {xs : List V} {us : List Value} (n : Nat), Vals xs us → Vals (xs.drop n) (us.drop n)
  | _, _, 0, r => r
  | _, _, _ + 1, .nil => .nil
  | _, _, n + 1, .cons _ t => Vals.drop n t
def RelO : Option V → Option Value → Prop
  | some v, some u => RelV v u
  | none, none => True
  | _, _ => False
def KV {κ : Type} : List (κ × V) → List (κ × Value) → Prop := Paired fun (p : κ × V) (q : κ × Value) => p.1 = q.1 ∧ RelV p.2 q.2
def kV : Key → V
  | .inl i => .int i
  | .inr x => .str x
inductive HO where
  | lst (xs : List V)
  | tup (xs : List V)
  | dK (kvs : List (Key × V)) | dT (kvs : List (List Key × V))
  | set (S : Int → Bool) (n : Nat)
  | ins (C dx : Addr) (fs : List (Str × V))
  | own (x : Addr)
  | xd (fs : List (Str × V))
  | met (f x : Addr)
  | rng (lo hi : Int)
  | frz (o : Obj) (u : HO)
  | tbl (ps : Array Value)
  | ext (φ : Heap → Prop)
abbrev Hp := Addr → Option HO
def upd (H : Hp) (a : Addr) (o : HO) : Hp := fun b => if b = a then some o else H b
theorem upd_same {H : Hp} {a : Addr} {o : HO} : upd H a o a = some o := by unfold upd; rw [if_pos rfl]
theorem upd_ne {H : Hp} {a b : Addr} {o : HO} (h : b ≠ a) : upd H a o b = H b := by unfold upd; rw [if_neg h]
theorem upd_upd {H : Hp} {a : Addr} {o u : HO} : upd (upd H a o) a u = upd H a u := by
  funext b; unfold upd; split <;> rfl
theorem ne_of {H : Hp} {a b : Addr} {o u : HO} (h : H a = some o) (h' : H b = some u) (d : o ≠ u) : a ≠ b := by
  intro e; subst e; rw [h] at h'; exact d (Option.some.inj h')
theorem ne_of_none {H : Hp} {a b : Addr} {o : HO} (h : H a = some o) (h' : H b = none) : a ≠ b := by
  intro e; subst e; rw [h] at h'; cases h'
section
variable (P : Program) (w : World)
def ObjOk (H : Hp) (h : Heap) (a : Addr) : HO → Prop
  | .lst xs => xs.length ≤ sizeLine ∧ ∃ (its : List Value) (n : Nat), Vals xs its ∧ h.get? a = some { cls := .type "list", data := .seq its.toArray n }
  | .tup xs => xs.length ≤ sizeLine ∧ ∃ its : List Value, Vals xs its ∧ IsTup h a its.toArray
  | .dK kvs => kvs.length ≤ sizeLine ∧ (a == sysModules) = false ∧ ∃ vs, KV kvs vs ∧ h.DictOf (mixKind P w) a vs
  | .dT kvs => kvs.length ≤ sizeLine ∧ (a == sysModules) = false ∧ ∃ xs : List (List Key × Addr × Value),
      Paired (fun (p : List Key × V) (q : List Key × Addr × Value) => p.1 = q.1 ∧ H q.2.1 = some (.tup (p.1.map kV)) ∧ RelV p.2 q.2.2) kvs xs ∧
      ∃ o es ep, h.get? a = some o ∧ o.ExactDict ∧ o.data = .dict es ep ∧ es.toList = xs.map (entryOfKey (tupleKind (mixKind P w))) ∧ (xs.map (·.1)).Nodup
  | .set S n => h.SetOf (intKind P w) a S n
  | .ins C dx fs => H dx = some (.own a) ∧ fs.length ≤ 1000 ∧ dx ≠ a ∧ h.get? a = some (PySem.W.instObj C dx) ∧
      ∃ mA, h.Ns1 dx mA ∧ (∀ f, RelO (fs.lookup f) (mA f)) ∧ PySem.Within mA (fs.map (·.1))
  | .own _ => ∃ o, h.get? a = some o
  | .xd fs => ∃ mA, h.Ns1 a mA ∧ ∀ f, RelO (fs.lookup f) (mA f)
  | .rng lo hi => ∃ t u v, h.get? a = some { cls := .type "range", data := .fields #[.int lo t, .int hi u, .int 1 v] }
  | .frz o u => h.get? a = some o ∧ ObjOk H h a u
  | .tbl ps => h.get? a = some { cls := .none, data := .fields ps }
  | .met f x => h.get? a = some (PySem.W.methodObj (.ref f) (.ref x))
  | .ext φ => φ h ∧ (∃ o, h.get? a = some o) ∧ ∀ h1 h2 : Heap, φ h1 → (∀ o, h1.get? a = some o → h2.get? a = some o) → φ h2
def HOk (H : Hp) (h : Heap) : Prop := ∀ a o, H a = some o → ObjOk P w H h a o
end
section
variable {P : Program} {w : World} {H H' : Hp} {h h' : Heap} {a : Addr} {o : HO}
theorem ObjOk.lt (x : ObjOk P w H h a o) : a < h.objs.size := by
  cases o with
  | lst xs => obtain ⟨_, _, _, _, e⟩ := x; exact Heap.lt_size e
  | tup xs => obtain ⟨_, _, _, p⟩ := x; exact p.lt
  | dK kvs => obtain ⟨_, _, _, _, o, _, _, e, _⟩ := x; exact Heap.lt_size e
  | dT kvs => obtain ⟨_, _, _, _, o, _, _, e, _⟩ := x; exact Heap.lt_size e
  | set S n => obtain ⟨o, _, _, _, e, _⟩ := x; exact Heap.lt_size e
  | ins C dx fs => obtain ⟨_, _, _, e, _⟩ := x; exact Heap.lt_size e
  | own y => obtain ⟨_, e⟩ := x; exact Heap.lt_size e
  | xd fs => obtain ⟨_, ⟨_, _, _, e, _⟩, _⟩ := x; exact Heap.lt_size e
  | rng lo hi => obtain ⟨_, _, _, e⟩ := x; exact Heap.lt_size e
  | frz ob u => obtain ⟨e, _⟩ := x; exact Heap.lt_size e
  | tbl ps => exact Heap.lt_size (show h.get? a = some _ from x)
  | met f y => exact Heap.lt_size (show h.get? a = some _ from x)
  | ext φ => obtain ⟨_, ⟨_, e⟩, _⟩ := x; exact Heap.lt_size e
theorem Paired.mapP {α β : Type} {F G : α → β → Prop} : ∀ {l₁ : List α} {l₂ : List β}, Paired F l₁ l₂ → (∀ a b, F a b → G a b) → Paired G l₁ l₂
  | _, _, .nil, _ => .nil
  | _, _, .cons r t, f => .cons (f _ _ r) (Paired.mapP t f)
theorem ObjOk.stay (x : ObjOk P w H h a o) (k : ∀ b u, (b = a ∨ H b = some (.own a)) → h.get? b = some u → h'.get? b = some u)
    (ho : ∀ b, H b = some (.own a) → H' b = some (.own a)) (ht : ∀ b xs, H b = some (.tup xs) → H' b = some (.tup xs)) : ObjOk P w H' h' a o := by
  induction o with
  | lst xs => obtain ⟨z, its, n, r, e⟩ := x; exact ⟨z, its, n, r, k _ _ (.inl rfl) e⟩
  | tup xs => obtain ⟨z, its, r, ob, e, c⟩ := x; exact ⟨z, its, r, ob, k _ _ (.inl rfl) e, c⟩
  | dK kvs => obtain ⟨z, y, vs, r, ob, es, ep, e, c⟩ := x; exact ⟨z, y, vs, r, ob, es, ep, k _ _ (.inl rfl) e, c⟩
  | dT kvs =>
    obtain ⟨z, y, xs, r, ob, es, ep, e, c⟩ := x
    exact ⟨z, y, xs, Paired.mapP r fun p q z => ⟨z.1, ht _ _ z.2.1, z.2.2⟩, ob, es, ep, k _ _ (.inl rfl) e, c⟩
  | set S n => obtain ⟨ob, es, ep, t, e, c⟩ := x; exact ⟨ob, es, ep, t, k _ _ (.inl rfl) e, c⟩
  | ins C dx fs =>
    obtain ⟨d, z, ne, e, mA, ⟨od, es, ep, e2, c⟩, r⟩ := x
    exact ⟨ho _ d, z, ne, k _ _ (.inl rfl) e, mA, ⟨od, es, ep, k _ _ (.inr d) e2, c⟩, r⟩
  | own y => obtain ⟨ob, e⟩ := x; exact ⟨ob, k _ _ (.inl rfl) e⟩
  | xd fs => obtain ⟨mA, ⟨od, es, ep, e, c⟩, r⟩ := x; exact ⟨mA, ⟨od, es, ep, k _ _ (.inl rfl) e, c⟩, r⟩
  | rng lo hi => obtain ⟨t, u, v, e⟩ := x; exact ⟨t, u, v, k _ _ (.inl rfl) e⟩
  | frz ob u ih => obtain ⟨e, q⟩ := x; exact ⟨k _ _ (.inl rfl) e, ih q⟩
  | tbl ps =>
    have e : h.get? a = some { cls := .none, data := .fields ps } := x
    show h'.get? a = some { cls := .none, data := .fields ps }
    exact k a _ (.inl rfl) e
  | met f y =>
    have e : h.get? a = some (PySem.W.methodObj (.ref f) (.ref y)) := x
    show h'.get? a = some (PySem.W.methodObj (.ref f) (.ref y))
    exact k a _ (.inl rfl) e
  | ext φ => obtain ⟨p, ⟨o, e⟩, st⟩ := x; exact ⟨st _ _ p fun o q => k _ _ (.inl rfl) q, ⟨o, k _ _ (.inl rfl) e⟩, st⟩
theorem HOk.lt (x : HOk P w H h) (e : H a = some o) : a < h.objs.size := (x a o e).lt
theorem HOk.fresh (x : HOk P w H h) (e : h.objs.size ≤ a) : H a = none := by
  cases q : H a with
  | none => rfl
  | some u => exact absurd (Nat.lt_of_lt_of_le (x.lt q) e) (Nat.lt_irrefl _)
theorem HOk.kept (x : HOk P w H h) (k : ∀ b u, h.get? b = some u → h'.get? b = some u) : HOk P w H h' := fun a o e =>
  (x a o e).stay (fun b u _ q => k b u q) (fun _ q => q) fun _ _ q => q
theorem HOk.laid (x : HOk P w H h) (k : ∀ b u, h.get? b = some u → h'.get? b = some u) (hp : h.objs.size ≤ a) (new : ObjOk P w (upd H a o) h' a o) : HOk P w (upd H a o) h' := fun b u e => by
  have hn := x.fresh hp
  by_cases hb : b = a
  · subst hb; rw [upd_same] at e; cases e; exact new
  · rw [upd_ne hb] at e
    exact (x b u e).stay (fun c v _ q => k c v q) (fun c q => by rw [upd_ne (ne_of_none q hn)]; exact q) fun c xs q => by rw [upd_ne (ne_of_none q hn)]; exact q
end
def Rd (H : Hp) (a : Addr) (u : HO) : Prop := H a = some u ∨ ∃ o, H a = some (.frz o u)
theorem Rd.of {H : Hp} {a : Addr} {u : HO} (h : H a = some u) : Rd H a u := .inl h
theorem Rd.ok {P : Program} {w : World} {H : Hp} {h : Heap} {a : Addr} {u : HO} (r : Rd H a u) (x : HOk P w H h) : ObjOk P w H h a u := by
  rcases r with r | ⟨o, r⟩
  · exact x a u r
  · obtain ⟨_, q⟩ := x a _ r
    exact q
def Mut : Option HO → Prop
  | some (.lst _) => True
  | some (.dK _) => True
  | some (.dT _) => True
  | some (.set _ _) => True
  | some (.ins _ _ _) => True
  | some (.ext _) => True
  | _ => False
section
variable {P : Program} {w : World} {H : Hp} {h h' : Heap} {x e : Addr} {o' : HO}
theorem HOk.write (ok : HOk P w H h) (mu : Mut (H x)) (he : e = x ∨ H e = some (.own x)) (k : ∀ b u, b ≠ e → h.get? b = some u → h'.get? b = some u) (heo : ∃ u, h'.get? e = some u)
    (new : ObjOk P w (upd H x o') h' x o') : HOk P w (upd H x o') h' := fun b u q => by
  have nown : ∀ c y, H c = some (.own y) → c ≠ x := fun c y r z => by subst z; rw [r] at mu; exact mu
  have ntup : ∀ c xs, H c = some (.tup xs) → c ≠ x := fun c xs r z => by subst z; rw [r] at mu; exact mu
  by_cases hb : b = x
  · subst hb; rw [upd_same] at q; cases q; exact new
  · rw [upd_ne hb] at q
    by_cases hbe : b = e
    · have q' : H b = some (.own x) := by
        rcases he with z | z
        · exact absurd (hbe.trans z) hb
        · rw [hbe]; exact z
      rw [q] at q'; cases q'
      obtain ⟨v, hv⟩ := heo
      exact ⟨v, by rw [hbe]; exact hv⟩
    · refine (ok b u q).stay (fun c v hc r => k c v ?_ r) (fun c r => by rw [upd_ne (nown c b r)]; exact r) fun c xs r => by rw [upd_ne (ntup c xs r)]; exact r
      rcases hc with rfl | hc
      · exact hbe
      · rintro rfl
        rcases he with z | z
        · exact nown c b hc z
        · rw [hc] at z; cases z; exact hb rfl
end
structure Un (fs ex : List Addr) (H H' : Hp) (h h' : Heap) : Prop where
  keep : ∀ b o, h.get? b = some o → H b = none → b ∉ fs → b ∉ ex → h'.get? b = some o
  slot : ∀ b o, h.get? b = some o → H b = none → b ∈ fs → b ∉ ex → ∃ sl, h'.get? b = some { o with slots := sl }
  free : ∀ b o, h.get? b = some o → H b = none → b ∉ ex → H' b = none
  there : ∀ b o, h.get? b = some o → b ∉ ex → ∃ o', h'.get? b = some o'
  tups : ∀ b xs, H b = some (.tup xs) → H' b = some (.tup xs)
  frzs : ∀ b o u, H b = some (.frz o u) → H' b = some (.frz o u)
  tbls : ∀ b ps, H b = some (.tbl ps) → ∃ more, H' b = some (.tbl (ps ++ more))
section
variable {fs fs' ex ex' : List Addr} {H H1 H2 : Hp} {h h1 h2 h' : Heap} {a x e : Addr} {o : HO}
theorem Un.any (u : Un fs ex H H1 h h1) {b : Addr} {ob : Obj} (q : h.get? b = some ob) (n : H b = none) (hx : b ∉ ex) : ∃ sl, h1.get? b = some { ob with slots := sl } := by
  by_cases hb : b ∈ fs
  · exact u.slot b ob q n hb hx
  · exact ⟨ob.slots, u.keep b ob q n hb hx⟩
theorem Un.trans (a : Un fs ex H H1 h h1) (b : Un fs ex H1 H2 h1 h2) : Un fs ex H H2 h h2 where
  keep := fun c ob q n hc hx => b.keep c ob (a.keep c ob q n hc hx) (a.free c ob q n hx) hc hx
  slot := fun c ob q n hc hx => by
    obtain ⟨sl, e1⟩ := a.slot c ob q n hc hx
    obtain ⟨sl', e2⟩ := b.slot c _ e1 (a.free c ob q n hx) hc hx
    exact ⟨sl', e2⟩
  free := fun c ob q n hx => by
    obtain ⟨o', e1⟩ := a.there c ob q hx
    exact b.free c o' e1 (a.free c ob q n hx) hx
  there := fun c ob q hx => by
    obtain ⟨o', e1⟩ := a.there c ob q hx
    exact b.there c o' e1 hx
  tups := fun c xs q => b.tups c xs (a.tups c xs q)
  frzs := fun c ob xs q => b.frzs c ob xs (a.frzs c ob xs q)
  tbls := fun c ps q => by
    obtain ⟨m1, e1⟩ := a.tbls c ps q
    obtain ⟨m2, e2⟩ := b.tbls c _ e1
    exact ⟨m1 ++ m2, by rw [e2, Array.append_assoc]⟩
theorem Un.kept (k : ∀ b u, h.get? b = some u → h'.get? b = some u) : Un fs ex H H h h' :=
  ⟨fun b ob q _ _ _ => k b ob q, fun b ob q _ _ _ => ⟨ob.slots, k b ob q⟩, fun _ _ _ n _ => n, fun b ob q _ => ⟨ob, k b ob q⟩, fun _ _ q => q, fun _ _ _ q => q, fun _ ps q => ⟨#[], by rw [q]; simp⟩⟩
theorem Un.refl : Un fs ex H H h h := Un.kept fun _ _ q => q
theorem Un.laid (k : ∀ b u, h.get? b = some u → h'.get? b = some u) (hp : h.objs.size ≤ a) (hn : H a = none) : Un fs ex H (upd H a o) h h' where
  keep := fun b u q _ _ _ => k b u q
  slot := fun b u q _ _ _ => ⟨u.slots, k b u q⟩
  free := fun b u q n _ => by rw [upd_ne (Nat.ne_of_lt (Nat.lt_of_lt_of_le (Heap.lt_size q) hp))]; exact n
  there := fun b u q _ => ⟨u, k b u q⟩
  tups := fun b xs q => by rw [upd_ne (ne_of_none q hn)]; exact q
  frzs := fun b u xs q => by rw [upd_ne (ne_of_none q hn)]; exact q
  tbls := fun b ps q => ⟨#[], by rw [upd_ne (ne_of_none q hn), q]; simp⟩
theorem Un.write (mu : Mut (H x)) (he : e = x ∨ H e = some (.own x)) (k : ∀ b u, b ≠ e → h.get? b = some u → h'.get? b = some u) (heo : ∃ u, h'.get? e = some u) : Un fs ex H (upd H x o) h h' := by
  have hx : ∀ b, H b = none → b ≠ x := fun b n z => by subst z; rw [n] at mu; exact mu
  have hb : ∀ b, H b = none → b ≠ e := fun b n z => by
    subst z
    rcases he with r | r
    · exact hx b n r
    · rw [n] at r; cases r
  have hm : ∀ b u, H b = some u → ¬ Mut (some u) → b ≠ x := fun b u q nm z => by subst z; rw [q] at mu; exact nm mu
  refine ⟨fun b u q n _ _ => k b u (hb b n) q, fun b u q n _ _ => ⟨u.slots, k b u (hb b n) q⟩, fun b u q n _ => by rw [upd_ne (hx b n)]; exact n, fun b u q _ => ?_,
    fun b xs q => by rw [upd_ne (hm b _ q fun z => z)]; exact q, fun b u xs q => by rw [upd_ne (hm b _ q fun z => z)]; exact q, fun b ps q => ⟨#[], by rw [upd_ne (hm b _ q fun z => z), q]; simp⟩⟩
  by_cases hbe : b = e
  · subst hbe; exact heo
  · exact ⟨u, k b u hbe q⟩
theorem Un.mono (u : Un fs ex H H1 h h1) (hs : ∀ b ∈ fs, b ∈ fs') (hx : ∀ b ∈ ex, b ∈ ex') : Un fs' ex' H H1 h h1 :=
  ⟨fun b ob q n hb he => u.keep b ob q n (fun z => hb (hs b z)) fun z => he (hx b z), fun _ _ q n _ he => u.any q n fun z => he (hx _ z), fun b ob q n he => u.free b ob q n fun z => he (hx b z), fun b ob q he => u.there b ob q fun z => he (hx b z), u.tups, u.frzs, u.tbls⟩
end
def trk (h : Heap) (H : Hp) : List Addr := (List.range h.objs.size).filter fun a => (H a).isSome
def hidT (h : Heap) (H : Hp) : Heap := PySem.W.hideAll h (trk h H)
theorem hidT_size (h : Heap) (H : Hp) : (hidT h H).objs.size = h.objs.size := PySem.W.hideAll_size _ _
theorem hidT_get {h : Heap} {H : Hp} {b : Addr} {o : Obj} (e : h.get? b = some o) (n : H b = none) : (hidT h H).get? b = some o :=
  PySem.W.hideAll_get _ e fun hm => by
    have q : (H b).isSome = true := (List.mem_filter.mp hm).2
    rw [n] at q; simp at q
theorem of_hidT {h : Heap} {H : Hp} {b : Addr} {o : Obj} (e : (hidT h H).get? b = some o) : h.get? b = some o ∧ H b = none := by
  have e' : h.get? b = some o := PySem.W.of_hideAll (trk h H) e
  refine ⟨e', ?_⟩
  cases q : H b with
  | none => rfl
  | some x =>
    have hm : b ∈ trk h H := List.mem_filter.mpr ⟨List.mem_range.mpr (Heap.lt_size e'), by simp [q]⟩
    have z : (hidT h H).get? b = none := PySem.W.hideAll_none (trk h H) hm
    rw [z] at e; cases e
def allNews (g h : Heap) (L : Addr) : List (Addr × Obj) := (List.range h.objs.size).filterMap fun a => if a = L ∨ (g.get? a).isSome = true then none else (h.get? a).map fun o => (a, o)
theorem mem_allNews {g h : Heap} {L a : Addr} {o : Obj} (h1 : a ≠ L) (h2 : g.get? a = none) (h3 : h.get? a = some o) : (a, o) ∈ allNews g h L :=
  List.mem_filterMap.mpr ⟨a, List.mem_range.mpr (Heap.lt_size h3), by simp [h1, h2, h3]⟩
theorem of_mem_allNews {g h : Heap} {L : Addr} {p : Addr × Obj} (hp : p ∈ allNews g h L) : p.1 ≠ L ∧ g.get? p.1 = none ∧ h.get? p.1 = some p.2 := by
  obtain ⟨b, _, e⟩ := List.mem_filterMap.mp hp
  split at e
  · cases e
  · rename_i hn
    cases q : h.get? b with
    | none => rw [q] at e; simp at e
    | some u =>
      rw [q] at e
      simp only [Option.map_some, Option.some.injEq] at e
      subst e
      refine ⟨fun z => hn (.inl z), ?_, q⟩
      show g.get? b = none
      cases r : g.get? b with
      | none => rfl
      | some v => exact (hn (.inr (by simp [r]))).elim
def rest (g h : Heap) (L d : Addr) : List (Addr × Obj) := (allNews g h L).filter fun p => decide (p.1 ≠ d)
theorem news_all {g h : Heap} {L : Addr} : News g L h (allNews g h L) := fun p hp => let ⟨a, b, c⟩ := of_mem_allNews hp; ⟨c, a, b⟩
end L2
namespace L2
open PySem PySem.Spec PyProof.Rows
structure Mod (K : PySem.W.Frag) (mg : Str → Option Value) (base : Heap) : Prop where
  kin : K.In base
  glob : base.Ns mainGlobals mg
  blt : ∃ mb, base.Ns builtinsNs mb ∧ ∀ x : Str, x ≠ "__name__" → mb x = bootBuiltins x
  nolimit : base.NoLimit
structure Cx where
  prog : Program
  w : World
  K : PySem.W.Frag
  mg : Str → Option Value
  base : Heap
  A : Around
  N : List Str
  s₀ : Shared
  H₀ : Hp
  env : Env
  outer : List Env
  stack : List Env
  ex : List Addr
  fn : Str → Bool
  calm : Bool
  pn : List (Addr × Obj)
  xe : Value → Shared → Prop
def frs (l : List Env) : List Addr := l.filterMap (·.frame)
abbrev Cx.fs (X : Cx) : List Addr := frs X.outer
def Vis (sc : Scope) (x : Str) : Prop := sc.names.lookup x = some .local ∨ sc.names.lookup x = some .cell ∨ sc.names.lookup x = some .free
def Loc (sc : Scope) (x : Str) : Prop := sc.names.lookup x = some .local ∨ sc.names.lookup x = some .cell
def Look (env : Env) (h : Heap) (m : Str → Option Value) (x : Str) (u : Value) : Prop :=
  (env.kindOf x = some .local ∧ m x = some u) ∨ ((env.kindOf x = some .cell ∨ env.kindOf x = some .free) ∧ ∃ c, env.cells.lookup x = some c ∧ h.IsCell c (some u))
structure Cx.Ok (X : Cx) : Prop where
  mod : Mod X.K X.mg X.base
  kind : X.env.scope.kind = .function
  glob : X.env.globals = mainGlobals
  blt : X.env.builtins = builtinsNs
  above : X.s₀.heap.objs.size ≤ X.env.locals
  inj : ∀ x y c, X.env.cells.lookup x = some c → X.env.cells.lookup y = some c → x = y
  has : ∀ x, (X.env.kindOf x = some .cell ∨ X.env.kindOf x = some .free) → ∃ c, X.env.cells.lookup x = some c
  cab : ∀ x c, X.fn x = true → X.env.cells.lookup x = some c → X.s₀.heap.objs.size ≤ c
  hd : X.calm = true → X.A.handled = none
  frames : X.A.frames = some X.stack
  stk : X.stack = X.outer ∨ (X.stack = X.env :: X.outer ∧ X.env.frame = some X.env.locals)
  exf : ∀ b ∈ X.ex, b ≠ X.env.locals ∧ ∀ x c, X.env.cells.lookup x = some c → c ≠ b
  bs : ∀ b o, X.base.get? b = some o → X.s₀.heap.get? b = some o ∧ X.H₀ b = none
  bsz : X.base.objs.size ≤ X.s₀.heap.objs.size
  noex : ∀ b o, X.base.get? b = some o → b ∉ X.ex
  exfs : ∀ b ∈ X.ex, b ∉ X.fs
  funs : X.s₀.heap.FunFrames X.base X.outer
  frf : ∀ b ∈ X.fs, X.H₀ b = none
structure Inv (X : Cx) (pins : List (Addr × Obj)) (σ : List (Option V)) (H : Hp) (s : Shared) : Prop where
  ok : X.Ok
  os : s.os = X.s₀.os
  bare : AllBare s.gens
  base : Un X.fs X.ex X.H₀ H X.s₀.heap s.heap
  loc : ∃ m, s.heap.Ns X.env.locals m ∧ ∀ (i : Nat) (x : Str) (v : V), X.N[i]? = some x → σ[i]? = some (some v) → Vis X.env.scope x → ∃ u, RelV v u ∧ Look X.env s.heap m x u
  cell : ∀ x c, X.env.cells.lookup x = some c → ∃ v, s.heap.IsCell c v
  free : H X.env.locals = none
  freeC : ∀ x c, X.env.cells.lookup x = some c → H c = none
  pin : ∀ p ∈ X.pn ++ pins, s.heap.get? p.1 = some p.2 ∧ H p.1 = none ∧ p.1 ≠ X.env.locals ∧ p.1 ∉ X.fs ∧ ∀ v, p.2.data ≠ .cell v
  hok : HOk X.prog X.w H s.heap
  len : σ.length = X.N.length
section
variable {X : Cx} {pins : List (Addr × Obj)} {σ : List (Option V)} {H H' : Hp} {s : Shared} {h' : Heap}
theorem Cx.Ok.nofr (ok : X.Ok) {b : Addr} {o : Obj} (e : X.base.get? b = some o) : b ∉ X.fs := fun hb => by
  have := (ok.funs.mem hb).1
  rw [e] at this; cases this
theorem Inv.bs (I : Inv X pins σ H s) : ∀ b o, X.base.get? b = some o → s.heap.get? b = some o ∧ H b = none := fun b o e =>
  ⟨I.base.keep b o (I.ok.bs b o e).1 (I.ok.bs b o e).2 (I.ok.nofr e) (I.ok.noex b o e), I.base.free b o (I.ok.bs b o e).1 (I.ok.bs b o e).2 (I.ok.noex b o e)⟩
theorem Inv.bk (I : Inv X pins σ H s) : ∀ b o, X.base.get? b = some o → s.heap.get? b = some o := fun b o e => (I.bs b o e).1
theorem Inv.mod (I : Inv X pins σ H s) : Mod X.K X.mg X.base := I.ok.mod
theorem Inv.kIn (I : Inv X pins σ H s) : X.K.In s.heap := I.ok.mod.kin.keeps I.bk
theorem Inv.nolimit (I : Inv X pins σ H s) : s.heap.NoLimit := I.ok.mod.nolimit.keeps I.bk
theorem Inv.fr (I : Inv X pins σ H s) : ∃ m, Fr X.base X.env.locals s.heap m :=
  let ⟨m, hn, _⟩ := I.loc
  ⟨m, hn, I.bk, Nat.le_trans I.ok.bsz I.ok.above⟩
theorem Inv.lt (I : Inv X pins σ H s) : X.env.locals < s.heap.objs.size := let ⟨_, hn, _⟩ := I.loc; hn.lt
theorem Inv.sz (I : Inv X pins σ H s) : X.s₀.heap.objs.size ≤ s.heap.objs.size := Nat.le_trans I.ok.above (Nat.le_of_lt I.lt)
theorem Inv.nofs (I : Inv X pins σ H s) {a : Addr} (h : s.heap.objs.size ≤ a) : a ∉ X.fs := fun hb => by
  obtain ⟨_, o, ho, _⟩ := I.ok.funs.mem hb
  exact absurd (Nat.lt_of_lt_of_le (Heap.lt_size ho) (Nat.le_trans I.sz h)) (Nat.lt_irrefl _)
theorem Inv.cne (I : Inv X pins σ H s) : ∀ x c, X.env.cells.lookup x = some c → c ≠ X.env.locals := fun x c e z => by
  obtain ⟨v, o, ho, hd⟩ := I.cell x c e
  obtain ⟨m, ⟨o', es, ep, ho', hd', _⟩, _⟩ := I.loc
  rw [z, ho'] at ho; cases ho; rw [hd'] at hd; cases hd
theorem Inv.funs (I : Inv X pins σ H s) : s.heap.FunFrames X.base X.outer := by
  have all : ∀ (l : List Env), (∀ b ∈ frs l, b ∈ X.fs) → X.s₀.heap.FunFrames X.base l → s.heap.FunFrames X.base l := by
    intro l
    induction l with
    | nil => intro _ _; trivial
    | cons env r ih =>
      intro hs hl
      obtain ⟨hk, ⟨L, o, hf, hn, ho, hd⟩, hr⟩ := hl
      have hL : L ∈ X.fs := hs L (by unfold frs; rw [List.filterMap_cons, hf]; exact List.mem_cons_self)
      obtain ⟨sl, e⟩ := I.base.slot L o ho (I.ok.frf L hL) hL fun z => I.ok.exfs L z hL
      exact ⟨hk, ⟨L, _, hf, hn, e, hd⟩, ih (fun b hb => hs b (by unfold frs; rw [List.filterMap_cons, hf]; exact List.mem_cons_of_mem _ hb)) hr⟩
  exact all X.outer (fun _ hb => hb) I.ok.funs
theorem Inv.stack (I : Inv X pins σ H s) : s.heap.FunFrames X.base X.stack := by
  rcases I.ok.stk with e | ⟨e, hf⟩
  · rw [e]; exact I.funs
  · rw [e]
    obtain ⟨m, hn, _⟩ := I.loc
    refine .cons (by rw [I.ok.kind]; decide) hf hn ?_ I.funs
    exact Heap.get?_none_of_le (Nat.le_trans I.ok.bsz I.ok.above)
theorem Inv.stkSub (I : Inv X pins σ H s) : ∀ b ∈ frs X.stack, b ∈ X.env.locals :: X.fs := fun b hb => by
  rcases I.ok.stk with e | ⟨e, hf⟩
  · rw [e] at hb; exact List.mem_cons_of_mem _ hb
  · rw [e] at hb
    unfold frs at hb
    rw [List.filterMap_cons, hf] at hb
    exact hb
theorem Inv.stkFree (I : Inv X pins σ H s) : ∀ b ∈ frs X.stack, H b = none := fun b hb => by
  rcases List.mem_cons.mp (I.stkSub b hb) with e | hb
  · rw [e]; exact I.free
  · obtain ⟨_, o, ho, _⟩ := I.ok.funs.mem hb
    exact I.base.free b o ho (I.ok.frf b hb) fun z => I.ok.exfs b z hb
theorem Inv.step {g' : Array GenState} {t' : Nat} {d' : Drawn} {ch : List Addr} (I : Inv X pins σ H s)
    (hch : ∀ b ∈ ch, (b ∈ X.ex ∨ X.s₀.heap.objs.size ≤ b) ∧ b ≠ X.env.locals ∧ (∀ x c, X.env.cells.lookup x = some c → c ≠ b) ∧ ∀ p ∈ X.pn ++ pins, p.1 ≠ b)
    (keep : ∀ b o, b ≠ X.env.locals → b ∉ X.fs → b ∉ ch → s.heap.get? b = some o → H b = none → h'.get? b = some o)
    (slot : ∀ b o, b ≠ X.env.locals → b ∈ X.fs → b ∉ ch → s.heap.get? b = some o → H b = none → ∃ sl, h'.get? b = some { o with slots := sl }) (free : ∀ b o, b ∉ ch → s.heap.get? b = some o → H b = none → H' b = none)
    (there : ∀ b o, b ∉ ch → s.heap.get? b = some o → ∃ o', h'.get? b = some o')
    (tups : ∀ b xs, H b = some (.tup xs) → H' b = some (.tup xs)) (frzs : ∀ b o u, H b = some (.frz o u) → H' b = some (.frz o u)) (tbls : ∀ b ps, H b = some (.tbl ps) → ∃ more, H' b = some (.tbl (ps ++ more)))
    (ns : ∀ m, s.heap.Ns X.env.locals m → h'.Ns X.env.locals m) (hok : HOk X.prog X.w H' h') (hg : AllBare g') :
    Inv X pins σ H' { s with heap := h', gens := g', drawn := d', toks := t' } := by
  have neL : ∀ b o, X.s₀.heap.get? b = some o → b ≠ X.env.locals := fun b o e => Nat.ne_of_lt (Nat.lt_of_lt_of_le (Heap.lt_size e) I.ok.above)
  have neC : ∀ b o, X.s₀.heap.get? b = some o → b ∉ X.ex → b ∉ ch := fun b o e hx hb => by
    rcases (hch b hb).1 with z | z
    · exact hx z
    · exact absurd (Nat.lt_of_lt_of_le (Heap.lt_size e) z) (Nat.lt_irrefl _)
  have cellK : ∀ x c, X.env.cells.lookup x = some c → ∀ v, s.heap.IsCell c v → h'.IsCell c v := fun x c e v ⟨o, ho, hd⟩ => by
    have nch : c ∉ ch := fun z => (hch c z).2.2.1 x c e rfl
    by_cases hc : c ∈ X.fs
    · obtain ⟨sl, q⟩ := slot c o (I.cne x c e) hc nch ho (I.freeC x c e)
      exact ⟨_, q, hd⟩
    · exact ⟨o, keep c o (I.cne x c e) hc nch ho (I.freeC x c e), hd⟩
  refine ⟨I.ok, I.os, hg, ⟨fun b o e n hb hx => ?_, fun b o e n hb hx => ?_, fun b o e n hx => ?_, fun b o e hx => ?_, fun b xs e => tups b xs (I.base.tups b xs e), fun b o xs e => frzs b o xs (I.base.frzs b o xs e), fun b ps e => ?_⟩, ?_, fun x c e => ?_, ?_, fun x c e => ?_, fun p hp => ?_, hok, I.len⟩
  · exact keep b o (neL b o e) hb (neC b o e hx) (I.base.keep b o e n hb hx) (I.base.free b o e n hx)
  · obtain ⟨sl, e1⟩ := I.base.slot b o e n hb hx
    obtain ⟨sl', e2⟩ := slot b _ (neL b o e) hb (neC b o e hx) e1 (I.base.free b o e n hx)
    exact ⟨sl', e2⟩
  · obtain ⟨o', e1⟩ := I.base.there b o e hx
    exact free b o' (neC b o e hx) e1 (I.base.free b o e n hx)
  · obtain ⟨o', e1⟩ := I.base.there b o e hx
    exact there b o' (neC b o e hx) e1
  · obtain ⟨m1, e1⟩ := I.base.tbls b ps e
    obtain ⟨m2, e2⟩ := tbls b _ e1
    exact ⟨m1 ++ m2, by rw [e2, Array.append_assoc]⟩
  · obtain ⟨m, hn, hl⟩ := I.loc
    refine ⟨m, ns m hn, fun i x v e1 e2 e3 => ?_⟩
    obtain ⟨u, r, l⟩ := hl i x v e1 e2 e3
    refine ⟨u, r, ?_⟩
    rcases l with l | ⟨k, c, e, z⟩
    · exact .inl l
    · exact .inr ⟨k, c, e, cellK x c e _ z⟩
  · obtain ⟨v, z⟩ := I.cell x c e
    exact ⟨v, cellK x c e v z⟩
  · obtain ⟨m, ⟨o, _, _, ho, _⟩, _⟩ := I.loc
    exact free _ o (fun z => (hch _ z).2.1 rfl) ho I.free
  · obtain ⟨v, o, ho, hd⟩ := I.cell x c e
    exact free c o (fun z => (hch c z).2.2.1 x c e rfl) ho (I.freeC x c e)
  · obtain ⟨e, n, ne, nf, d⟩ := I.pin p hp
    have nch : p.1 ∉ ch := fun z => (hch p.1 z).2.2.2 p hp rfl
    exact ⟨keep p.1 p.2 ne nf nch e n, free p.1 p.2 nch e n, ne, nf, d⟩
theorem Inv.un {t' : Nat} (I : Inv X pins σ H s) (u : Un X.fs [] H H' s.heap h') (hok : HOk X.prog X.w H' h') : Inv X pins σ H' { s with heap := h', toks := t' } := by
  obtain ⟨m, ⟨o, es, ep, ho, r⟩, _⟩ := id I.loc
  obtain ⟨sl, hL⟩ := u.any ho I.free (by simp)
  exact I.step (g' := s.gens) (d' := s.drawn) (ch := []) (fun _ z => nomatch z) (fun b o _ hb _ e n => u.keep b o e n hb (by simp)) (fun b o _ hb _ e n => u.slot b o e n hb (by simp)) (fun b o _ e n => u.free b o e n (by simp)) (fun b o _ e => u.there b o e (by simp)) u.tups u.frzs u.tbls (fun m' hm => by
    obtain ⟨o', es', ep', ho', r'⟩ := hm
    rw [ho] at ho'; cases ho'
    exact ⟨_, es', ep', hL, r'⟩) hok I.bare
theorem Inv.call {g' : Array GenState} {t' : Nat} {d' : Drawn} {ch : List Addr} (I : Inv X pins σ H s) (u : Un (frs X.stack) ch H H' s.heap h') (hok : HOk X.prog X.w H' h') (hg : AllBare g')
    (hch : ∀ b ∈ ch, (b ∈ X.ex ∨ X.s₀.heap.objs.size ≤ b) ∧ b ≠ X.env.locals ∧ (∀ x c, X.env.cells.lookup x = some c → c ≠ b) ∧ ∀ p ∈ X.pn ++ pins, p.1 ≠ b) :
    Inv X pins σ H' { s with heap := h', gens := g', drawn := d', toks := t' } := by
  obtain ⟨m, ⟨o, es, ep, ho, r⟩, _⟩ := id I.loc
  obtain ⟨sl, hL⟩ := u.any ho I.free fun z => (hch _ z).2.1 rfl
  exact I.step (ch := ch) hch (fun b o hL hb hc e n => u.keep b o e n (fun z => (List.mem_cons.mp (I.stkSub b z)).elim hL hb) hc) (fun b o _ _ hc e n => u.any e n hc) (fun b o hc e n => u.free b o e n hc) (fun b o hc e => u.there b o e hc) u.tups u.frzs u.tbls (fun m' hm => by
    obtain ⟨o', es', ep', ho', r'⟩ := hm
    rw [ho] at ho'; cases ho'
    exact ⟨_, es', ep', hL, r'⟩) hok hg
theorem Inv.turned {t' : Nat} {it : Addr} (I : Inv X pins σ H s) (k : ∀ b o, b ≠ it → s.heap.get? b = some o → h'.get? b = some o) (hn : H it = none) (hL : it ≠ X.env.locals)
    (h1 : it ∈ X.ex ∨ X.s₀.heap.objs.size ≤ it) (h2 : ∀ x c, X.env.cells.lookup x = some c → c ≠ it) (h3 : ∀ p ∈ X.pn ++ pins, p.1 ≠ it) : Inv X pins σ H { s with heap := h', toks := t' } := by
  have nit : ∀ b u, H b = some u → b ≠ it := fun b u e z => by rw [z, hn] at e; cases e
  refine I.step (g' := s.gens) (d' := s.drawn) (ch := [it]) (fun b hb => ?_) (fun b o _ _ hc e _ => k b o (fun z => hc (by simp [z])) e) (fun b o _ _ hc e _ => ⟨o.slots, k b o (fun z => hc (by simp [z])) e⟩) (fun _ _ _ _ n => n)
    (fun b o hc e => ⟨o, k b o (fun z => hc (by simp [z])) e⟩) (fun _ _ e => e) (fun _ _ _ e => e) (fun b ps e => ⟨#[], by rw [e]; simp⟩) (fun m hm => ?_) (fun b u e => ?_) I.bare
  · have e : b = it := by simpa using hb
    subst e
    exact ⟨h1, hL, h2, h3⟩
  · obtain ⟨o, es, ep, ho, r⟩ := hm
    exact ⟨o, es, ep, k _ o (Ne.symm hL) ho, r⟩
  · refine (I.hok b u e).stay (fun c v hc q => k c v ?_ q) (fun _ q => q) fun _ _ q => q
    rcases hc with z | z
    · rw [z]; exact nit b u e
    · exact nit c _ z
theorem Inv.tok (I : Inv X pins σ H s) (t : Nat) : Inv X pins σ H { s with toks := t } := I.un (h' := s.heap) (t' := t) Un.refl I.hok
theorem Inv.kept {t' : Nat} (I : Inv X pins σ H s) (k : ∀ b u, s.heap.get? b = some u → h'.get? b = some u) : Inv X pins σ H { s with heap := h', toks := t' } := I.un (Un.kept k) (I.hok.kept k)
theorem Inv.laid {a : Addr} {o : HO} {t' : Nat} (I : Inv X pins σ H s) (k : ∀ b u, s.heap.get? b = some u → h'.get? b = some u) (hp : s.heap.objs.size ≤ a) (new : ObjOk X.prog X.w (upd H a o) h' a o) :
    Inv X pins σ (upd H a o) { s with heap := h', toks := t' } := I.un (Un.laid k hp (I.hok.fresh hp)) (I.hok.laid k hp new)
theorem Inv.write {x e : Addr} {o : HO} {t' : Nat} (I : Inv X pins σ H s) (mu : Mut (H x)) (he : e = x ∨ H e = some (.own x)) (k : ∀ b u, b ≠ e → s.heap.get? b = some u → h'.get? b = some u) (heo : ∃ u, h'.get? e = some u)
    (new : ObjOk X.prog X.w (upd H x o) h' x o) : Inv X pins σ (upd H x o) { s with heap := h', toks := t' } := I.un (Un.write mu he k heo) (I.hok.write mu he k heo new)
theorem Inv.weak {σ' : List (Option V)} (I : Inv X pins σ H s) (hl : σ'.length = σ.length) (w : ∀ (i : Nat) v, σ'[i]? = some (some v) → σ[i]? = some (some v)) : Inv X pins σ' H s :=
  ⟨I.ok, I.os, I.bare, I.base, let ⟨m, hn, hl'⟩ := I.loc; ⟨m, hn, fun i x v e1 e2 e3 => hl' i x v e1 (w i v e2) e3⟩, I.cell, I.free, I.freeC, I.pin, I.hok, hl.trans I.len⟩
theorem Inv.pins_of {pins' : List (Addr × Obj)} (I : Inv X pins σ H s) (h : ∀ p ∈ pins', s.heap.get? p.1 = some p.2 ∧ H p.1 = none ∧ p.1 ≠ X.env.locals ∧ p.1 ∉ X.fs ∧ ∀ v, p.2.data ≠ .cell v) : Inv X pins' σ H s :=
  ⟨I.ok, I.os, I.bare, I.base, I.loc, I.cell, I.free, I.freeC, fun p hp => (List.mem_append.mp hp).elim (fun z => I.pin p (List.mem_append_left _ z)) (h p), I.hok, I.len⟩
theorem nodup_ix {N : List Str} (hN : N.Nodup) {i j : Nat} {x : Str} (a : N[i]? = some x) (b : N[j]? = some x) : i = j := by
  obtain ⟨h1, e1⟩ := List.getElem?_eq_some_iff.mp a
  obtain ⟨h2, e2⟩ := List.getElem?_eq_some_iff.mp b
  exact (List.getElem_inj hN).mp (e1.trans e2.symm)
theorem store_ok2 {M : Model} {A : Around} {E : Value → Shared → Prop} {i : Nat} {x : Str} {v : V} {u : Value} {Q : Unit → Shared → Prop} (I : Inv X pins σ H s) (hN : X.N.Nodup) (hi : X.N[i]? = some x) (hx : Loc X.env.scope x) (r : RelV v u)
    (h : ∀ s', Inv X pins (σ.set i (some v)) H s' → (∃ a, Heap.SameBut a s.heap s'.heap ∧ (a = X.env.locals ∨ X.env.cells.lookup x = some a)) → Q () s') (hf : X.fn x = true ∨ X.env.scope.names.lookup x = some .local := by first | exact .inl rfl | exact .inr rfl | assumption) : wpAny M A (storeName X.env x u) Q E s := by
  obtain ⟨m, hn, hl⟩ := id I.loc
  have hcls : (X.env.scope.kind == .class || (X.env.scope.kind == .module && X.env.locals != X.env.globals)) = false := by rw [I.ok.kind]; rfl
  have hiσ : i < σ.length := by rw [I.len]; exact (List.getElem?_eq_some_iff.mp hi).1
  have cne := I.cne
  have tracked : ∀ {a : Addr} {h' : Heap}, (∃ o, s.heap.get? a = some o ∧ H a = none) → Heap.SameBut a s.heap h' → HOk X.prog X.w H h' := fun {a h'} ha hs b ob e => by
    obtain ⟨_, _, hfree⟩ := ha
    refine (I.hok b ob e).stay (fun c w' hc q => (hs.2 c ?_).trans q) (fun _ q => q) fun _ _ q => q
    rintro rfl
    rcases hc with rfl | hc
    · rw [hfree] at e; cases e
    · rw [hfree] at hc; cases hc
  rcases hx with hk | hk
  · refine wpAny_storeName_local hk hn (fun h' hn' hs => ?_) hcls
    obtain ⟨oL, _, _, hoL, _⟩ := id hn
    refine h _ ⟨I.ok, I.os, I.bare, ⟨fun b o e n hb hx => ?_, fun b o e n hb hx => ?_, I.base.free, fun b o e hx => ?_, I.base.tups, I.base.frzs, I.base.tbls⟩, ⟨_, hn', fun j y v' e1 e2 e3 => ?_⟩, fun y c e => ?_, I.free, I.freeC, fun p hp => ?_, tracked ⟨oL, hoL, I.free⟩ hs, by simpa using I.len⟩ ⟨_, hs, .inl rfl⟩
    · exact (hs.2 b (Nat.ne_of_lt (Nat.lt_of_lt_of_le (Heap.lt_size e) I.ok.above))).trans (I.base.keep b o e n hb hx)
    · obtain ⟨sl, e1⟩ := I.base.slot b o e n hb hx
      exact ⟨sl, (hs.2 b (Nat.ne_of_lt (Nat.lt_of_lt_of_le (Heap.lt_size e) I.ok.above))).trans e1⟩
    · obtain ⟨o', e1⟩ := I.base.there b o e hx
      exact ⟨o', (hs.2 b (Nat.ne_of_lt (Nat.lt_of_lt_of_le (Heap.lt_size e) I.ok.above))).trans e1⟩
    · by_cases hj : j = i
      · subst hj
        rw [hi] at e1; cases e1
        rw [List.getElem?_set_self hiσ] at e2
        cases e2
        exact ⟨u, r, .inl ⟨hk, by simp⟩⟩
      · rw [List.getElem?_set_ne (Ne.symm hj)] at e2
        obtain ⟨u', r', q⟩ := hl j y v' e1 e2 e3
        refine ⟨u', r', ?_⟩
        rcases q with ⟨k, e⟩ | ⟨k, c, e, z⟩
        · refine .inl ⟨k, ?_⟩
          have : y ≠ x := fun e => hj (nodup_ix hN e1 (e ▸ hi))
          simp [this, e]
        · exact .inr ⟨k, c, e, z.sameBut hs (cne y c e)⟩
    · obtain ⟨w', z⟩ := I.cell y c e
      exact ⟨w', z.sameBut hs (cne y c e)⟩
    · obtain ⟨e, n, ne, nf, d⟩ := I.pin p hp
      exact ⟨(hs.2 p.1 ne).trans e, n, ne, nf, d⟩
  · have hfn : X.fn x = true := by
      rcases hf with z | z
      · exact z
      · rw [z] at hk; cases hk
    obtain ⟨c, hc⟩ := I.ok.has x (.inl hk)
    obtain ⟨w', z⟩ := I.cell x c hc
    refine wpAny_storeName_cell I.ok.kind hk hc z (fun h' hc' hs => ?_)
    obtain ⟨oc, hoc, hocd⟩ := id z
    refine h { s with heap := h' } ⟨I.ok, I.os, I.bare, ⟨fun b o e n hb hx => ?_, fun b o e n hb hx => ?_, I.base.free, fun b o e hx => ?_, I.base.tups, I.base.frzs, I.base.tbls⟩, ⟨m, hn.sameBut hs (Ne.symm (cne x c hc)), fun j y v' e1 e2 e3 => ?_⟩, fun y c' e => ?_, I.free, I.freeC, fun p hp => ?_, tracked ⟨oc, hoc, I.freeC x c hc⟩ hs, by simpa using I.len⟩ ⟨c, hs, .inr hc⟩
    · exact (hs.2 b (Nat.ne_of_lt (Nat.lt_of_lt_of_le (Heap.lt_size e) (I.ok.cab x c hfn hc)))).trans (I.base.keep b o e n hb hx)
    · obtain ⟨sl, e1⟩ := I.base.slot b o e n hb hx
      exact ⟨sl, (hs.2 b (Nat.ne_of_lt (Nat.lt_of_lt_of_le (Heap.lt_size e) (I.ok.cab x c hfn hc)))).trans e1⟩
    · obtain ⟨o', e1⟩ := I.base.there b o e hx
      exact ⟨o', (hs.2 b (Nat.ne_of_lt (Nat.lt_of_lt_of_le (Heap.lt_size e) (I.ok.cab x c hfn hc)))).trans e1⟩
    · by_cases hj : j = i
      · subst hj
        rw [hi] at e1; cases e1
        rw [List.getElem?_set_self hiσ] at e2
        cases e2
        exact ⟨u, r, .inr ⟨.inl hk, c, hc, hc'⟩⟩
      · rw [List.getElem?_set_ne (Ne.symm hj)] at e2
        obtain ⟨u', r', q⟩ := hl j y v' e1 e2 e3
        refine ⟨u', r', ?_⟩
        rcases q with q | ⟨k, c', e, z'⟩
        · exact .inl q
        · refine .inr ⟨k, c', e, z'.sameBut hs ?_⟩
          rintro rfl
          exact hj (nodup_ix hN e1 (I.ok.inj _ _ _ e hc ▸ hi))
    · by_cases hcc : c' = c
      · subst hcc; exact ⟨_, hc'⟩
      · obtain ⟨w2, z2⟩ := I.cell y c' e
        exact ⟨w2, z2.sameBut hs hcc⟩
    · obtain ⟨e, n, ne, nf, d⟩ := I.pin p hp
      refine ⟨(hs.2 p.1 ?_).trans e, n, ne, nf, d⟩
      intro q
      rw [q, hoc] at e
      have q' : oc = p.2 := Option.some.inj e
      exact d w' (by rw [← q']; exact hocd)
theorem store_ok {M : Model} {A : Around} {E : Value → Shared → Prop} {i : Nat} {x : Str} {v : V} {u : Value} {Q : Unit → Shared → Prop} (I : Inv X pins σ H s) (hN : X.N.Nodup) (hi : X.N[i]? = some x) (hx : Loc X.env.scope x) (r : RelV v u)
    (h : ∀ s', Inv X pins (σ.set i (some v)) H s' → Q () s') (hf : X.fn x = true ∨ X.env.scope.names.lookup x = some .local := by first | exact .inl rfl | exact .inr rfl | assumption) : wpAny M A (storeName X.env x u) Q E s :=
  store_ok2 I hN hi hx r (fun s' I' _ => h s' I') hf
theorem Inv.call' {s' : Shared} {ch : List Addr} (I : Inv X pins σ H s) (ho : s'.os = s.os) (u : Un (frs X.stack) ch H H' s.heap s'.heap) (hok : HOk X.prog X.w H' s'.heap) (hg : AllBare s'.gens)
    (hch : ∀ b ∈ ch, (b ∈ X.ex ∨ X.s₀.heap.objs.size ≤ b) ∧ b ≠ X.env.locals ∧ (∀ x c, X.env.cells.lookup x = some c → c ≠ b) ∧ ∀ p ∈ X.pn ++ pins, p.1 ≠ b) : Inv X pins σ H' s' := by
  obtain ⟨h', g', d', t', o'⟩ := s'
  have e : o' = s.os := ho
  subst e
  exact I.call (g' := g') (t' := t') (d' := d') u hok hg hch
end
abbrev XK := Value → Option Addr → Hp → Prop
abbrev St := List (Option V)
abbrev VK := V → Hp → Prop
abbrev TE := St → Hp → VK → Prop
abbrev TT := St → Hp → (Bool → Hp → Prop) → Prop
abbrev TA := St → Hp → (List V → Hp → Prop) → Prop
structure Ends where
  nx : St → Hp → Prop
  rt : VK
  bk : St → Hp → Prop := fun _ _ => False
  ct : St → Hp → Prop := fun _ _ => False
abbrev TS := Ends → St → Hp → Prop
def EP (X : Cx) (pins : List (Addr × Obj)) (σ : St) (Q : VK) (u : Value) (s' : Shared) : Prop := ∃ v H', Inv X pins σ H' s' ∧ RelV v u ∧ Q v H'
def TP (X : Cx) (pins : List (Addr × Obj)) (σ : St) (Q : Bool → Hp → Prop) (b : Bool) (s' : Shared) : Prop := ∃ H', Inv X pins σ H' s' ∧ Q b H'
def AP (X : Cx) (pins : List (Addr × Obj)) (σ : St) (Q : List V → Hp → Prop) (us : List Value) (s' : Shared) : Prop := ∃ vs H', Inv X pins σ H' s' ∧ Vals vs us ∧ Q vs H'
def SP (X : Cx) (pins : List (Addr × Obj)) (D : Ends) (f : Flow) (s' : Shared) : Prop :=
  match f with
  | .next => ∃ σ' H', Inv X pins σ' H' s' ∧ D.nx σ' H'
  | .brk => ∃ σ' H', Inv X pins σ' H' s' ∧ D.bk σ' H'
  | .cont => ∃ σ' H', Inv X pins σ' H' s' ∧ D.ct σ' H'
  | .ret u => ∃ v σ' H', Inv X pins σ' H' s' ∧ RelV v u ∧ D.rt v H'
def PE (X : Cx) (e : Expr) (t : TE) : Prop :=
  ∀ (pins : List (Addr × Obj)) (s : Shared) (σ : St) (H : Hp) (Q : VK), Inv X pins σ H s → t σ H Q → wpAny (model X.prog X.w) X.A (eval e X.env) (EP X pins σ Q) X.xe s
def PT (X : Cx) (e : Expr) (t : TT) : Prop :=
  ∀ (pins : List (Addr × Obj)) (s : Shared) (σ : St) (H : Hp) (Q : Bool → Hp → Prop), Inv X pins σ H s → t σ H Q → wpAny (model X.prog X.w) X.A (isTrue e X.env (eval e X.env)) (TP X pins σ Q) X.xe s
def PW (X : Cx) (e : Expr) (t : TT) : Prop :=
  ∀ (whole : Sem Value) (pins : List (Addr × Obj)) (s : Shared) (σ : St) (H : Hp) (Q : Bool → Hp → Prop), Inv X pins σ H s → t σ H Q → wpAny (model X.prog X.w) X.A (isTrue e X.env whole) (TP X pins σ Q) X.xe s
theorem PW.pt {X : Cx} {e : Expr} {t : TT} (h : PW X e t) : PT X e t := h _
def PA (X : Cx) (es : List Expr) (t : TA) : Prop :=
  ∀ (pos : Pos) (pins : List (Addr × Obj)) (s : Shared) (σ : St) (H : Hp) (Q : List V → Hp → Prop), Inv X pins σ H s → t σ H Q → wpAny (model X.prog X.w) X.A (spliced (backTo pos (starEach es X.env))) (AP X pins σ Q) X.xe s
def PS (X : Cx) (st : Stmt) (t : TS) : Prop :=
  ∀ (pins : List (Addr × Obj)) (s : Shared) (σ : St) (H : Hp) (D : Ends), Inv X pins σ H s → t D σ H → wpAny (model X.prog X.w) X.A (exec st X.env) (SP X pins D) X.xe s
def PSs (X : Cx) (st : List Stmt) (t : TS) : Prop :=
  ∀ (pins : List (Addr × Obj)) (s : Shared) (σ : St) (H : Hp) (D : Ends), Inv X pins σ H s → t D σ H → wpAny (model X.prog X.w) X.A (execs st X.env) (SP X pins D) X.xe s
theorem thn {α : Type} {t : Sem α} {Q Q' : α → Shared → Prop} {M : Model} {A : Around} {E : Value → Shared → Prop} {s : Shared} (h : wpAny M A t Q E s) (hQ : ∀ a s, Q a s → Q' a s) : wpAny M A t Q' E s := wpAny_mono h hQ fun _ _ x => x
end L2
namespace L2
open PySem PySem.Spec PyProof.Rows
section
variable {X : Cx}
def tVar (i : Nat) : TE := fun σ H Q => ∃ v, σ[i]? = some (some v) ∧ Q v H
def tC (v : V) : TE := fun _ H Q => Q v H
theorem pe_var {i : Nat} {x : Str} {pos : Pos} (hN : X.N[i]? = some x) (hv : Vis X.env.scope x) (hd : (x == ("__debug__" : Str)) = false := by decide) (hcd : (x == ("__classdict__" : Str)) = false := by decide) : PE X (.Name x pos) (tVar i) := by
  intro pins s σ H Q I h
  obtain ⟨v, e, h⟩ := h
  obtain ⟨m, hn, hl⟩ := I.loc
  obtain ⟨u, r, l⟩ := hl i x v hN e hv
  have fin : EP X pins σ Q u s := ⟨v, H, I, r, h⟩
  rcases l with ⟨hk, hm⟩ | ⟨hk, c, hc, hcell⟩
  · exact wpAny_Name (wpAny_loadName_local I.ok.kind hk hn hm fin) hd
  · rcases hk with hk | hk
    · exact wpAny_Name (wpAny_loadName_cell I.ok.kind hk hc hcell fin) hd
    · exact wpAny_Name (wpAny_loadName_free I.ok.kind hk hc hcell fin hcd) hd
theorem pe_int {i j pos} : PE X (.Constant (.int i) j pos) (tC (.int i)) := fun _ _ _ H _ I h => wpAny_Constant_int ⟨.int i, H, I.tok _, ⟨_, rfl⟩, h⟩
theorem pe_bl {b j pos} : PE X (.Constant (.bool b) j pos) (tC (.bl b)) := fun _ _ _ H _ I h => Constant_bool ⟨.bl b, H, I, rfl, h⟩
theorem pe_non {j pos} : PE X (.Constant .none j pos) (tC .non) := fun _ _ _ H _ I h => Constant_none ⟨.non, H, I, rfl, h⟩
theorem pe_str {x j pos} : PE X (.Constant (.str x) j pos) (tC (.str x)) := fun _ _ _ H _ I h => Calls.Constant_str ⟨.str x, H, I.tok _, ⟨_, rfl⟩, h⟩
def Gl (X : Cx) (x : Str) : Prop := X.env.kindOf x = some .globalImplicit
theorem ld_glob {E : Value → Shared → Prop} {pins : List (Addr × Obj)} {s : Shared} {σ : St} {H : Hp} {x : Str} {u : Value} {pos : Pos} {Q : Value → Shared → Prop} (I : Inv X pins σ H s) (hg : Gl X x) (hm : X.mg x = some u) (h : Q u s)
    (hd : (x == ("__debug__" : Str)) = false := by decide) : wpAny (model X.prog X.w) X.A (eval (.Name x pos) X.env) Q E s :=
  Calls.Name_function_global I.ok.kind hg (Calls.loadGlobal_global (by rw [I.ok.glob]; exact I.mod.glob.keeps I.bk) hm h) hd
theorem ld_blt {E : Value → Shared → Prop} {pins : List (Addr × Obj)} {s : Shared} {σ : St} {H : Hp} {x : Str} {u : Value} {pos : Pos} {Q : Value → Shared → Prop} (I : Inv X pins σ H s) (hg : Gl X x) (hm : X.mg x = none) (hv : bootBuiltins x = some u) (h : Q u s)
    (hn : x ≠ "__name__" := by decide) (hd : (x == ("__debug__" : Str)) = false := by decide) : wpAny (model X.prog X.w) X.A (eval (.Name x pos) X.env) Q E s := by
  obtain ⟨mb, h1, h2⟩ := I.mod.blt
  exact Calls.Name_function_global I.ok.kind hg (Calls.loadGlobal_builtin (by rw [I.ok.glob]; exact I.mod.glob.keeps I.bk) hm (by rw [I.ok.blt]; exact h1.keeps I.bk) ((h2 x hn).trans hv) h) hd
theorem pe_glob {x : Str} {v : V} {u : Value} {pos : Pos} (hg : Gl X x) (hm : X.mg x = some u) (r : RelV v u) (hd : (x == ("__debug__" : Str)) = false := by decide) : PE X (.Name x pos) (tC v) :=
  fun _ _ _ H _ I h => ld_glob I hg hm ⟨v, H, I, r, h⟩ hd
theorem pe_bltn {x : Str} {v : V} {u : Value} {pos : Pos} (hg : Gl X x) (hm : X.mg x = none) (hv : bootBuiltins x = some u) (r : RelV v u) (hn : x ≠ "__name__" := by decide) (hd : (x == ("__debug__" : Str)) = false := by decide) : PE X (.Name x pos) (tC v) :=
  fun _ _ _ H _ I h => ld_blt I hg hm hv ⟨v, H, I, r, h⟩ hn hd
variable {a b : Expr} {ta tb : TE} {pos : Pos}
def PC (X : Cx) (op : CmpOp) (a b : Expr) (t : TE) : Prop :=
  ∀ (pins : List (Addr × Obj)) (s : Shared) (σ : St) (H : Hp) (Q : VK), Inv X pins σ H s → t σ H Q →
    wpAny (model X.prog X.w) X.A (eval a X.env) (fun v s₁ => wpAny (model X.prog X.w) X.A (eval b X.env) (fun u s₂ => wpAny (model X.prog X.w) X.A (compareOp op v u) (EP X pins σ Q) X.xe s₂) X.xe s₁) X.xe s
def tB (t : TE) : TT := fun σ H Q => t σ H fun x H1 => ∃ c, x = .bl c ∧ Q c H1
theorem pt_val {e : Expr} {t : TE} (h : PE X e t) (he : ∀ whole, isTrue e X.env whole = (do let v ← whole; standAt e.pos; holding [v] (truthy v)) := by intro _; rfl) : PT X e (tB t) := by
  intro pins s σ H Q I hw
  refine isTrue_plain (thn (h pins s σ H _ I hw) fun v s1 ⟨x, H1, I1, r1, q1⟩ => ?_) (he _)
  obtain ⟨d, rfl, q⟩ := q1
  cases r1
  exact wpAny_truthy_bool ⟨H1, I1, q⟩
variable {tA tB' : TT} {rest : List Expr}
def tAnd (t u : TT) : TT := fun σ H Q => t σ H fun c H1 => if c = true then u σ H1 Q else Q false H1
def tOr (t u : TT) : TT := fun σ H Q => t σ H fun c H1 => if c = true then Q true H1 else u σ H1 Q
def tNot (t : TT) : TT := fun σ H Q => t σ H fun c H1 => Q (!c) H1
theorem pw_and1 (ha : PT X a tA) : PW X (.BoolOp .And [a] pos) tA := by
  intro wh pins s σ H Q I h
  refine isTrue_and (thn (ha pins s σ H Q I h) fun c s1 e => ?_)
  cases c with
  | true => exact isTrue_and_nil e
  | false => exact e
theorem pw_or1 (ha : PT X a tA) : PW X (.BoolOp .Or [a] pos) tA := by
  intro wh pins s σ H Q I h
  refine isTrue_or (thn (ha pins s σ H Q I h) fun c s1 e => ?_)
  cases c with
  | false => exact isTrue_or_nil e
  | true => exact e
theorem pw_and (ha : PT X a tA) (hb : PW X (.BoolOp .And (b :: rest) pos) tB') : PW X (.BoolOp .And (a :: b :: rest) pos) (tAnd tA tB') := by
  intro wh pins s σ H Q I h
  refine isTrue_and (thn (ha pins s σ H _ I h) fun c s1 ⟨H1, I1, q1⟩ => ?_)
  cases c with
  | true => exact hb wh pins s1 σ H1 Q I1 q1
  | false => exact ⟨H1, I1, q1⟩
theorem pw_or (ha : PT X a tA) (hb : PW X (.BoolOp .Or (b :: rest) pos) tB') : PW X (.BoolOp .Or (a :: b :: rest) pos) (tOr tA tB') := by
  intro wh pins s σ H Q I h
  refine isTrue_or (thn (ha pins s σ H _ I h) fun c s1 ⟨H1, I1, q1⟩ => ?_)
  cases c with
  | true => exact ⟨H1, I1, q1⟩
  | false => exact hb wh pins s1 σ H1 Q I1 q1
theorem pt_not (ha : PT X a tA) : PT X (.UnaryOp .Not a pos) (tNot tA) := by
  intro pins s σ H Q I h
  exact isTrue_not (ha pins s σ H (fun c H1 => Q (!c) H1) I h)
def tAndV (ta tb : TE) : TE := fun σ H Q => ta σ H fun x H1 => ∃ c, x = .bl c ∧ if c = true then tb σ H1 Q else Q (.bl false) H1
def tOrV (ta tb : TE) : TE := fun σ H Q => ta σ H fun x H1 => ∃ c, x = .bl c ∧ if c = true then Q (.bl true) H1 else tb σ H1 Q
def tNotV (ta : TE) : TE := fun σ H Q => ta σ H fun x H1 => ∃ c, x = .bl c ∧ Q (.bl (!c)) H1
def tIf (t : TT) (ta tb : TE) : TE := fun σ H Q => t σ H fun c H1 => if c = true then ta σ H1 Q else tb σ H1 Q
end
end L2
namespace L2
open PySem PySem.Spec PyProof.Rows
def SqL (K : PySem.W.Frag) (H : Hp) (a : Addr) (xs : List V) : Prop :=
  Rd H a (.lst xs) ∨
    ∃ (o : Obj) (its : Array Value) (n : Nat), K.lookup a = some o ∧ o.cls = .type "list" ∧ o.dict = none ∧ o.data = .seq its n ∧ its.size ≤ sizeLine ∧ Vals xs its.toList
def SqT (K : PySem.W.Frag) (H : Hp) (a : Addr) (xs : List V) : Prop :=
  Rd H a (.tup xs) ∨
    ∃ (o : Obj) (its : Array Value) (n : Nat), K.lookup a = some o ∧ o.cls = .type "tuple" ∧ o.data = .seq its n ∧ its.size ≤ sizeLine ∧ Vals xs its.toList
def absV : Value → Option V
  | .none => some .non
  | .bool b => some (.bl b)
  | .int i _ => some (.int i)
  | .str x _ => some (.str x)
  | .bytes b _ => some (.byt b)
  | .float b _ => some (.flt b)
  | .ref a => some (.ref a)
  | .type n => some (.ty n)
  | _ => none
theorem RelV.abs {x : V} {u : Value} (r : RelV x u) : absV u = some x := by
  cases x with
  | non => cases r; rfl
  | bl _ => cases r; rfl
  | int _ => obtain ⟨t, rfl⟩ := r; rfl
  | str _ => obtain ⟨t, rfl⟩ := r; rfl
  | byt _ => obtain ⟨t, rfl⟩ := r; rfl
  | flt _ => obtain ⟨t, rfl⟩ := r; rfl
  | ref _ => cases r; rfl
  | ty _ => cases r; rfl
theorem RelV.inj {x y : V} {u : Value} (r : RelV x u) (q : RelV y u) : x = y := Option.some.inj (r.abs.symm.trans q.abs)
theorem Vals.inj : ∀ {xs ys : List V} {us : List Value}, Vals xs us → Vals ys us → xs = ys
  | _, _, _, .nil, .nil => rfl
  | _, _, _, .cons r t, .cons r' t' => by rw [r.inj r', Vals.inj t t']
section
variable {X : Cx} {pins : List (Addr × Obj)} {σ : St} {H : Hp} {s : Shared} {a : Addr} {xs ys : List V}
theorem SqL.of {K : PySem.W.Frag} (h : H a = some (.lst xs)) : SqL K H a xs := .inl (.inl h)
theorem SqT.of {K : PySem.W.Frag} (h : H a = some (.tup xs)) : SqT K H a xs := .inl (.inl h)
theorem Inv.list (I : Inv X pins σ H s) (h : SqL X.K H a xs) : ∃ its : List Value, Vals xs its ∧ PlainL s.heap a its.toArray ∧ xs.length ≤ sizeLine := by
  rcases h with h | ⟨o, its, n, hk, hc, hd, hs, hz, r⟩
  · obtain ⟨z, its, n, r, e⟩ := h.ok I.hok
    exact ⟨its, r, ⟨_, n, e, rfl, rfl, rfl⟩, z⟩
  · refine ⟨its.toList, r, ⟨o, n, I.kIn a o hk, hc, hd, by simpa using hs⟩, ?_⟩
    have e := r.length
    simp only [Array.length_toList] at e
    omega
theorem Inv.tuple (I : Inv X pins σ H s) (h : SqT X.K H a xs) : ∃ its : List Value, Vals xs its ∧ IsTup s.heap a its.toArray ∧ xs.length ≤ sizeLine := by
  rcases h with h | ⟨o, its, n, hk, hc, hs, hz, r⟩
  · obtain ⟨z, its, r, p⟩ := h.ok I.hok
    exact ⟨its, r, p, z⟩
  · refine ⟨its.toList, r, ⟨o, I.kIn a o hk, hc, n, by simpa using hs⟩, ?_⟩
    have e := r.length
    simp only [Array.length_toList] at e
    omega
theorem Inv.list_inj (I : Inv X pins σ H s) (h : SqL X.K H a xs) (h' : SqL X.K H a ys) : xs = ys := by
  obtain ⟨its, r, ⟨o, n, e, _, _, d⟩, _⟩ := I.list h
  obtain ⟨its', r', ⟨o', n', e', _, _, d'⟩, _⟩ := I.list h'
  rw [e] at e'; cases e'
  rw [d] at d'
  injection d' with d1 _
  have : its = its' := by simpa using congrArg Array.toList d1
  subst this
  exact r.inj r'
theorem Inv.tuple_inj (I : Inv X pins σ H s) (h : SqT X.K H a xs) (h' : SqT X.K H a ys) : xs = ys := by
  obtain ⟨its, r, ⟨o, e, _, n, d⟩, _⟩ := I.tuple h
  obtain ⟨its', r', ⟨o', e', _, n', d'⟩, _⟩ := I.tuple h'
  rw [e] at e'; cases e'
  rw [d] at d'
  injection d' with d1 _
  have : its = its' := by simpa using congrArg Array.toList d1
  subst this
  exact r.inj r'
end
abbrev Cx.wish (X : Cx) (E : Value → Shared → Prop) : Cx := { X with xe := E }
abbrev Cx.nox (X : Cx) : Cx := X.wish fun _ _ => False
theorem Cx.Ok.wish {X : Cx} (ok : X.Ok) (E : Value → Shared → Prop) : (X.wish E).Ok :=
  ⟨ok.mod, ok.kind, ok.glob, ok.blt, ok.above, ok.inj, ok.has, ok.cab, ok.hd, ok.frames, ok.stk, ok.exf, ok.bs, ok.bsz, ok.noex, ok.exfs, ok.funs, ok.frf⟩
theorem Cx.Ok.unwish {X : Cx} {E : Value → Shared → Prop} (ok : (X.wish E).Ok) : X.Ok :=
  ⟨ok.mod, ok.kind, ok.glob, ok.blt, ok.above, ok.inj, ok.has, ok.cab, ok.hd, ok.frames, ok.stk, ok.exf, ok.bs, ok.bsz, ok.noex, ok.exfs, ok.funs, ok.frf⟩
section
variable {X : Cx} {pins : List (Addr × Obj)} {σ : St} {H : Hp} {s : Shared} {E : Value → Shared → Prop}
theorem Inv.wish (I : Inv X pins σ H s) (E : Value → Shared → Prop) : Inv (X.wish E) pins σ H s := ⟨I.ok.wish E, I.os, I.bare, I.base, I.loc, I.cell, I.free, I.freeC, I.pin, I.hok, I.len⟩
theorem Inv.unwish (I : Inv (X.wish E) pins σ H s) : Inv X pins σ H s := ⟨I.ok.unwish, I.os, I.bare, I.base, I.loc, I.cell, I.free, I.freeC, I.pin, I.hok, I.len⟩
theorem SP.unwish {D : Ends} {f : Flow} {s' : Shared} (h : SP (X.wish E) pins D f s') : SP X pins D f s' := by
  cases f with
  | next => obtain ⟨σ', H', I, q⟩ := h; exact ⟨σ', H', I.unwish, q⟩
  | brk => obtain ⟨σ', H', I, q⟩ := h; exact ⟨σ', H', I.unwish, q⟩
  | cont => obtain ⟨σ', H', I, q⟩ := h; exact ⟨σ', H', I.unwish, q⟩
  | ret u => obtain ⟨v, σ', H', I, r, q⟩ := h; exact ⟨v, σ', H', I.unwish, r, q⟩
theorem PE.nox {e : Expr} {t : TE} (h : PE X.nox e t) : PE X e t := fun pins s σ H Q I hw =>
  wpAny_mono (h pins s σ H Q (I.wish _) hw) (fun _ _ ⟨v, H', I', r, q⟩ => ⟨v, H', I'.unwish, r, q⟩) fun _ _ z => False.elim z
theorem PT.nox {e : Expr} {t : TT} (h : PT X.nox e t) : PT X e t := fun pins s σ H Q I hw =>
  wpAny_mono (h pins s σ H Q (I.wish _) hw) (fun _ _ ⟨H', I', q⟩ => ⟨H', I'.unwish, q⟩) fun _ _ z => False.elim z
theorem PSs.nox {st : List Stmt} {t : TS} (h : PSs X.nox st t) : PSs X st t := fun pins s σ H D I hw =>
  wpAny_mono (h pins s σ H D (I.wish _) hw) (fun _ _ q => q.unwish) fun _ _ z => False.elim z
end
section
variable {X : Cx} {st : Stmt} {rest : List Stmt} {t u : TS} {e : Expr} {te : TE} {pos : Pos}
def tNext : TS := fun D σ H => D.nx σ H
def tSeq (t u : TS) : TS := fun D σ H => t { D with nx := u D } σ H
theorem pss_nil : PSs X [] tNext := fun _ _ σ H _ I h => wpAny_execs_nil ⟨σ, H, I, h⟩
theorem pss_cons (h1 : PS X st t) (h2 : PSs X rest u) : PSs X (st :: rest) (tSeq t u) := by
  intro pins s σ H D I h
  refine wpAny_execs_cons (thn (h1 pins s σ H { D with nx := u D } I h) fun f s1 q => ?_)
  cases f with
  | next =>
    obtain ⟨σ', H', I', q⟩ := q
    exact h2 pins s1 σ' H' D I' q
  | ret v => exact q
  | brk => exact q
  | cont => exact q
theorem pss_one (h1 : PS X st t) : PSs X [st] t := by
  intro pins s σ H D I h
  refine wpAny_execs_cons (thn (h1 pins s σ H D I h) fun f s1 q => ?_)
  cases f with
  | next => exact wpAny_execs_nil q
  | ret v => exact q
  | brk => exact q
  | cont => exact q
theorem Inv.quiet {pins : List (Addr × Obj)} {σ : St} {H : Hp} {s : Shared} (I : Inv X pins σ H s) : interactive X.env = false := by simp [interactive, I.ok.kind]
def tDrop (te : TE) : TS := fun D σ H => te σ H fun _ H1 => D.nx σ H1
theorem ps_expr (he : PE X e te) (hs : swapsWith e none pos.line X.env = pure false := by rfl) : PS X (.Expr e pos) (tDrop te) := by
  intro pins s σ H D I h
  exact wpAny_Expr_any (thn (he pins s σ H _ I h) fun v s1 ⟨x, H1, I1, r1, q1⟩ => ⟨σ, H1, I1, q1⟩) I.quiet hs
def tRet (te : TE) : TS := fun D σ H => te σ H D.rt
theorem ps_ret (he : PE X e te) : PS X (.Return (some e) pos) (tRet te) := by
  intro pins s σ H D I h
  exact wpAny_Return_some (thn (he pins s σ H _ I h) fun v s1 ⟨x, H1, I1, r1, q1⟩ => ⟨x, σ, H1, I1, r1, q1⟩)
def tRetN : TS := fun D _ H => D.rt .non H
def tIfS (c : TT) (t u : TS) : TS := fun D σ H => c σ H fun b H1 => if b = true then t D σ H1 else u D σ H1
theorem ps_if {c : Expr} {a b : List Stmt} {tc : TT} (hc : PT X c tc) (ha : PSs X a t) (hb : PSs X b u) : PS X (.If c a b pos) (tIfS tc t u) := by
  intro pins s σ H D I h
  refine wpAny_If (thn (hc pins s σ H _ I h) fun d s1 ⟨H1, I1, q1⟩ => ?_)
  cases d with
  | true => exact ha pins s1 σ H1 D I1 q1
  | false => exact hb pins s1 σ H1 D I1 q1
def tNever : TS := fun _ _ _ => False
theorem ps_never : PS X st tNever := fun _ _ _ _ _ _ h => h.elim
end
abbrev TG := V → St → Hp → (St → Hp → Prop) → Prop
abbrev TGs := List V → St → Hp → (St → Hp → Prop) → Prop
def PG (X : Cx) (target : Expr) (t : TG) : Prop :=
  ∀ (pins : List (Addr × Obj)) (s : Shared) (σ : St) (H : Hp) (v : V) (u : Value) (Q : St → Hp → Prop), Inv X pins σ H s → RelV v u → t v σ H Q →
    wpAny (model X.prog X.w) X.A (assign target X.env u) (fun _ s' => ∃ σ' H', Inv X pins σ' H' s' ∧ Q σ' H') X.xe s
def PGs (X : Cx) (ts : List Expr) (t : TGs) : Prop :=
  ∀ (pins : List (Addr × Obj)) (s : Shared) (σ : St) (H : Hp) (vs : List V) (us : List Value) (Q : St → Hp → Prop), Inv X pins σ H s → Vals vs us → t vs σ H Q →
    wpAny (model X.prog X.w) X.A (assignInOrder ((assignEach ts X.env).map (·.2)) us) (fun _ s' => ∃ σ' H', Inv X pins σ' H' s' ∧ Q σ' H') X.xe s
abbrev TSet := V → V → V → Hp → (Hp → Prop) → Prop
def PSet (X : Cx) (t : TSet) : Prop :=
  ∀ (pins : List (Addr × Obj)) (s : Shared) (σ : St) (H : Hp) (o i v : V) (ov iv u : Value) (Q : Hp → Prop), Inv X pins σ H s → RelV o ov → RelV i iv → RelV v u → t o i v H Q →
    wpAny (model X.prog X.w) X.A (setItem ov iv u) (fun _ s' => ∃ H', Inv X pins σ H' s' ∧ Q H') X.xe s
abbrev TIp := V → V → Hp → VK → Prop
def PIp (X : Cx) (op : Operator) (t : TIp) : Prop :=
  ∀ (pins : List (Addr × Obj)) (s : Shared) (σ : St) (H : Hp) (x y : V) (v u : Value) (Q : VK), Inv X pins σ H s → RelV x v → RelV y u → t x y H Q →
    wpAny (model X.prog X.w) X.A (inplaceOp op v u) (EP X pins σ Q) X.xe s
section
variable {X : Cx} {pos : Pos}
def gName (i : Nat) : TG := fun v σ H Q => Q (σ.set i (some v)) H
theorem pg_name {i : Nat} {x : Str} (hN : X.N.Nodup) (hi : X.N[i]? = some x) (hx : Loc X.env.scope x) (hf : X.fn x = true ∨ X.env.scope.names.lookup x = some .local := by first | exact .inl rfl | exact .inr rfl | assumption) : PG X (.Name x pos) (gName i) := by
  intro pins s σ H v u Q I r h
  exact wpAny_assign_Name (store_ok I hN hi hx r (fun s' I' => ⟨_, H, I', h⟩) hf)
def gNil : TGs := fun vs σ H Q => vs = [] ∧ Q σ H
def gCons (t : TG) (u : TGs) : TGs := fun vs σ H Q => ∃ v r, vs = v :: r ∧ t v σ H fun σ' H' => u r σ' H' Q
theorem pgs_nil : PGs X [] gNil := by
  intro pins s σ H vs us Q I r h
  obtain ⟨e, h⟩ := h
  subst e
  cases r
  exact assignInOrder_nil ⟨σ, H, I, h⟩
theorem pgs_cons {e : Expr} {es : List Expr} {t : TG} {u : TGs} (h1 : PG X e t) (h2 : PGs X es u)
    (hs : (assignEach (e :: es) X.env).map (·.2) = assign e X.env :: (assignEach es X.env).map (·.2) := by rfl) : PGs X (e :: es) (gCons t u) := by
  intro pins s σ H vs us Q I r h
  obtain ⟨v, vr, e1, h⟩ := h
  subst e1
  cases r with
  | cons r rr =>
    rw [hs]
    refine assignInOrder_cons (thn (h1 pins s σ H _ _ _ I r h) fun _ s1 ⟨σ1, H1, I1, q1⟩ => ?_)
    exact h2 pins s1 σ1 H1 _ _ Q I1 rr q1
def gTup (K : PySem.W.Frag) (n : Nat) (t : TGs) : TG := fun v σ H Q => ∃ a xs, v = .ref a ∧ SqT K H a xs ∧ xs.length = n ∧ t xs σ H Q
theorem pg_tup {es : List Expr} {k : Nat} {t : TGs} {n : Nat} (hc : X.calm = true) (h : PGs X es t)
    (hn : (assignEach es X.env).length = n := by rfl) (hst : (assignEach es X.env).findIdx? (·.1) = none := by rfl) : PG X (.Tuple es k pos) (gTup X.K n t) := by
  intro pins s σ H v u Q I r hw
  obtain ⟨a, xs, e1, hq, hl, hw⟩ := hw
  subst e1
  cases r
  obtain ⟨its, rv, ht, hz⟩ := I.tuple hq
  refine assign_Tuple_tuple (I.ok.hd hc) ht (by simp [hn, ← hl, rv.length]) hst fun h' hx => ?_
  have I1 : Inv X pins σ H { s with heap := h' } := I.kept (t' := s.toks) fun b o e => hx b o (Nat.ne_of_lt (Heap.lt_size e)) e
  exact h pins _ σ H xs _ Q I1 (by simpa using rv) hw
def gSub (to ti : TE) (t : TSet) : TG := fun v σ H Q => to σ H fun o H1 => ti σ H1 fun i H2 => t o i v H2 fun H3 => Q σ H3
theorem pg_sub {o i : Expr} {to ti : TE} {t : TSet} (ho : PE X o to) (hi : PE X i ti) (hs : PSet X t)
    (ha : ∀ v, assign (.Subscript o i pos) X.env v = (do
      let ov ← holding [v] (eval o X.env)
      let iv ← holding [v, ov] (eval i X.env)
      standAt pos
      holding [v, ov, iv] (setItem ov iv v)
      release [v, ov, iv] []) := by intro _; rfl) : PG X (.Subscript o i pos) (gSub to ti t) := by
  intro pins s σ H v u Q I r h
  rw [ha]
  refine wpAny_bind (wpAny_holding (thn (ho pins s σ H _ I h) fun ov s1 ⟨x, H1, I1, r1, q1⟩ => ?_))
  refine wpAny_bind (wpAny_holding (thn (hi pins s1 σ H1 _ I1 q1) fun iv s2 ⟨y, H2, I2, r2, q2⟩ => ?_))
  refine wpAny_bind (wpAny_standAt (wpAny_bind (wpAny_holding (thn (hs pins s2 σ H2 x y v ov iv u _ I2 r1 r2 r q2) fun _ s3 ⟨H3, I3, q3⟩ => ?_))))
  exact wpAny_release ⟨σ, H3, I3, q3⟩
def tAsg (te : TE) (g : TG) : TS := fun D σ H => te σ H fun x H1 => g x σ H1 D.nx
theorem ps_asg {tg e : Expr} {te : TE} {g : TG} (he : PE X e te) (hg : PG X tg g) (hs : swapsWithSole [tg] e pos.line X.env = pure false := by rfl) (hw : swappedStores [tg] e X.env = pure none := by rfl)
    (h1 : (assignEach [tg] X.env).map (·.2) = [assign tg X.env] := by rfl) : PS X (.Assign [tg] e pos) (tAsg te g) := by
  intro pins s σ H D I h
  refine wpAny_Assign_stores (thn (he pins s σ H _ I h) fun v s1 ⟨x, H1, I1, r1, q1⟩ => ?_) hs hw
  rw [h1]
  exact thn (hg pins s1 σ H1 x v _ I1 r1 q1) fun _ s2 q => q
theorem ps_set {i : Nat} {x : Str} {e : Expr} {te : TE} {pos' : Pos} (hN : X.N.Nodup) (hi : X.N[i]? = some x) (hx : Loc X.env.scope x) (he : PE X e te) (hs : swapsWith e (some (.Name x pos')) pos.line X.env = pure false := by rfl) (hf : X.fn x = true ∨ X.env.scope.names.lookup x = some .local := by first | exact .inl rfl | exact .inr rfl | assumption) :
    PS X (.Assign [.Name x pos'] e pos) (tAsg te (gName i)) := by
  intro pins s σ H D I h
  refine wpAny_Assign_Name (thn (he pins s σ H _ I h) fun v s1 ⟨y, H1, I1, r1, q1⟩ => ?_) hs
  exact store_ok I1 hN hi hx r1 (fun s2 I2 => ⟨_, H1, I2, q1⟩) hf
def tAug (i : Nat) (te : TE) (ti : TIp) : TS := fun D σ H => ∃ x, σ[i]? = some (some x) ∧ te σ H fun y H1 => ti x y H1 fun z H2 => D.nx (σ.set i (some z)) H2
theorem ps_aug {i : Nat} {x : Str} {e : Expr} {te : TE} {op : Operator} {ti : TIp} {pos' : Pos} (hN : X.N.Nodup) (hi : X.N[i]? = some x) (hx : Loc X.env.scope x) (he : PE X e te) (ho : PIp X op ti) (hf : X.fn x = true ∨ X.env.scope.names.lookup x = some .local := by first | exact .inl rfl | exact .inr rfl | assumption) :
    PS X (.AugAssign (.Name x pos') op e pos) (tAug i te ti) := by
  intro pins s σ H D I h
  obtain ⟨v, e1, h⟩ := h
  obtain ⟨m, hn, hl⟩ := I.loc
  have vis : Vis X.env.scope x := by rcases hx with k | k; exact .inl k; exact .inr (.inl k)
  obtain ⟨u, r, l⟩ := hl i x v hi e1 vis
  refine wpAny_AugAssign_Name ?_
  have go : wpAny (model X.prog X.w) X.A (eval e X.env) (fun w s₂ => wpAny (model X.prog X.w) X.A (inplaceOp op u w) (fun r s₃ => wpAny (model X.prog X.w) X.A (storeName X.env x r) (fun _ => SP X pins D .next) X.xe s₃) X.xe s₂) X.xe s := by
    refine thn (he pins s σ H _ I h) fun w s1 ⟨y, H1, I1, r1, q1⟩ => ?_
    refine thn (ho pins s1 σ H1 v y u w _ I1 r r1 q1) fun z s2 ⟨zv, H2, I2, r2, q2⟩ => ?_
    exact store_ok I2 hN hi hx r2 (fun s3 I3 => ⟨_, H2, I3, q2⟩) hf
  rcases l with ⟨hk, hm⟩ | ⟨hk, c, hc, hcell⟩
  · exact wpAny_loadName_local I.ok.kind hk hn hm go
  · rcases hk with hk | hk
    · exact wpAny_loadName_cell I.ok.kind hk hc hcell go
    · rcases hx with k | k
      · have : X.env.scope.names.lookup x = some .free := hk
        rw [k] at this; cases this
      · have : X.env.scope.names.lookup x = some .free := hk
        rw [k] at this; cases this
def tAugS (to ti te : TE) (tget : V → V → Hp → VK → Prop) (tip : TIp) (tset : TSet) : TS := fun D σ H => to σ H fun o H1 => ti σ H1 fun i H2 => tget o i H2 fun x H3 => te σ H3 fun y H4 => tip x y H4 fun z H5 => tset o i z H5 fun H6 => D.nx σ H6
def PGet (X : Cx) (t : V → V → Hp → VK → Prop) : Prop :=
  ∀ (pins : List (Addr × Obj)) (s : Shared) (σ : St) (H : Hp) (o i : V) (ov iv : Value) (Q : VK), Inv X pins σ H s → RelV o ov → RelV i iv → t o i H Q →
    wpAny (model X.prog X.w) X.A (getItem ov iv) (EP X pins σ Q) X.xe s
theorem ps_augS {o i e : Expr} {to ti te : TE} {tget : V → V → Hp → VK → Prop} {tip : TIp} {tset : TSet} {op : Operator} {tpos : Pos} (ho : PE X o to) (hi : PE X i ti) (hg : PGet X tget) (he : PE X e te) (hp : PIp X op tip) (hs : PSet X tset)
    (ha : ∀ ov iv new, augStore i ov iv new = (do holding [new, ov, iv] (setItem ov iv new); release [new, ov, iv] []; pure .next) := by intros; rfl) : PS X (.AugAssign (.Subscript o i tpos) op e pos) (tAugS to ti te tget tip tset) := by
  intro pins s σ H D I h
  refine wpAny_AugAssign_SubscriptAny (thn (ho pins s σ H _ I h) fun ov s1 ⟨x1, H1, I1, r1, q1⟩ => ?_) ha
  refine thn (hi pins s1 σ H1 _ I1 q1) fun iv s2 ⟨x2, H2, I2, r2, q2⟩ => ?_
  refine thn (hg pins s2 σ H2 x1 x2 ov iv _ I2 r1 r2 q2) fun old s3 ⟨x3, H3, I3, r3, q3⟩ => ?_
  refine thn (he pins s3 σ H3 _ I3 q3) fun v s4 ⟨x4, H4, I4, r4, q4⟩ => ?_
  refine thn (hp pins s4 σ H4 x3 x4 old v _ I4 r3 r4 q4) fun new s5 ⟨x5, H5, I5, r5, q5⟩ => ?_
  exact thn (hs pins s5 σ H5 x1 x2 x5 ov iv new _ I5 r1 r2 r5 q5) fun _ s6 ⟨H6, I6, q6⟩ => ⟨σ, H6, I6, q6⟩
end
section
variable {X : Cx} {pos : Pos}
def tWhile (c : TT) (tb : TS) : TS := fun D σ H => ∃ W : Nat → St → Hp → Prop, (∃ m, W m σ H) ∧ ∀ m σ H, W m σ H →
  c σ H fun b H1 => if b = true then ∃ N : St → Hp → Prop, (∀ σ' H', N σ' H' → ∃ m', m' < m ∧ W m' σ' H') ∧ tb { D with nx := N, ct := N, bk := D.nx } σ H1 else D.nx σ H1
theorem ps_while {c : Expr} {body : List Stmt} {tc : TT} {tb : TS} (hp : PassesOwn (model X.prog X.w) X.A X.env X.xe) (hc : PT X c tc) (hb : PSs X body tb) : PS X (.While c body [] pos) (tWhile tc tb) := by
  intro pins s σ H D I h
  obtain ⟨W, ⟨m0, w0⟩, turn⟩ := h
  refine wpAny_While (codeAny_whileLoop (fun n s' => ∃ σ' H', Inv X pins σ' H' s' ∧ W n σ' H') ?_ m0 ⟨σ, H, I, w0⟩)
  rintro n s1 ⟨σ1, H1, I1, w1⟩
  refine wpAny_passesOwn hp (thn (hc pins s1 σ1 H1 _ I1 (turn n σ1 H1 w1)) fun b s2 ⟨H2, I2, q2⟩ => ?_)
  cases b with
  | true =>
    obtain ⟨N, hN, q2⟩ := q2
    rw [if_pos rfl]
    refine wpAny_passesOwn hp (thn (hb pins s2 σ1 H2 _ I2 q2) fun f s3 q3 => ?_)
    cases f with
    | next =>
      obtain ⟨σ3, H3, I3, n3⟩ := q3
      obtain ⟨m', hm, w3⟩ := hN σ3 H3 n3
      exact ⟨m', hm, σ3, H3, I3, w3⟩
    | cont =>
      obtain ⟨σ3, H3, I3, n3⟩ := q3
      obtain ⟨m', hm, w3⟩ := hN σ3 H3 n3
      exact ⟨m', hm, σ3, H3, I3, w3⟩
    | brk => exact q3
    | ret v => exact q3
  | false =>
    rw [if_neg Bool.false_ne_true]
    exact wpAny_execs_nil ⟨σ1, H2, I2, q2⟩
end
structure It where
  go : Nat → Hp → Prop
  yld : Nat → Hp → V → Hp → Prop
  stop : Nat → Hp → Prop
def FpOk (X : Cx) (pins : List (Addr × Obj)) (H : Hp) (b : Addr) : Prop :=
  H b = none ∧ b ≠ X.env.locals ∧ b ∉ X.fs ∧ (b ∈ X.ex ∨ X.s₀.heap.objs.size ≤ b) ∧ (∀ x c, X.env.cells.lookup x = some c → c ≠ b) ∧ ∀ p ∈ X.pn ++ pins, p.1 ≠ b
theorem Inv.fpOk {X : Cx} {pins : List (Addr × Obj)} {σ : St} {H H' : Hp} {s : Shared} {b : Addr} (I : Inv X pins σ H s) (hb : s.heap.objs.size ≤ b) (hn : H' b = none) : FpOk X pins H' b := by
  refine ⟨hn, Nat.ne_of_gt (Nat.lt_of_lt_of_le I.lt hb), I.nofs hb, .inr (Nat.le_trans I.sz hb), fun x c e z => ?_, fun p hp z => ?_⟩
  · obtain ⟨v, q⟩ := I.cell x c e
    exact absurd (Nat.lt_of_lt_of_le q.lt (by rw [z]; exact hb)) (Nat.lt_irrefl _)
  · exact absurd (Nat.lt_of_lt_of_le (Heap.lt_size (I.pin p hp).1) (by rw [z]; exact hb)) (Nat.lt_irrefl _)
structure Turn (P : Program) (w : World) (K : PySem.W.Frag) (tg : Expr) (J : It) (fp : List Addr) (it : Addr) (tn : Nat → Heap → Prop) : Prop where
  mem : it ∈ fp
  obj : ∀ i h, tn i h → ∀ b ∈ fp, ∃ o, h.get? b = some o ∧ ∀ v, o.data ≠ .cell v
  keep : ∀ i h h', tn i h → (∀ b ∈ fp, ∀ o, h.get? b = some o → h'.get? b = some o) → tn i h'
  item : ∀ (X : Cx), X.prog = P → X.w = w → X.K = K → X.calm = true → ∀ (i : Nat) (pins : List (Addr × Obj)) (s : Shared) (σ : St) (H : Hp) (E : Value → Shared → Prop), Inv X pins σ H s → (∀ b ∈ fp, FpOk X pins H b) → tn i s.heap → J.go i H →
    wpAny (model P w) X.A (pyNext (.ref it)) (fun r s1 => ∃ u, r = some u ∧
      wpAny (model P w) X.A (letOwnedTupleGo tg (.ref it) u) (fun _ s2 => ∃ x H', Inv X pins σ H' s2 ∧ RelV x u ∧ J.yld i H x H' ∧ tn (i + 1) s2.heap ∧ ∀ b ∈ fp, H' b = none) E s1) E s
  done : ∀ (X : Cx), X.prog = P → X.w = w → X.K = K → X.calm = true → ∀ (i : Nat) (pins : List (Addr × Obj)) (s : Shared) (σ : St) (H : Hp) (E : Value → Shared → Prop), Inv X pins σ H s → (∀ b ∈ fp, FpOk X pins H b) → tn i s.heap → J.stop i H →
    wpAny (model P w) X.A (pyNext (.ref it)) (fun r s1 => r = none ∧ Inv X pins σ H s1) E s
  self : ∀ (A : Around) (i : Nat) (s : Shared) (Q : Value → Shared → Prop) (E : Value → Shared → Prop), tn i s.heap → Q (.ref it) s → wpAny (model P w) A (pyIter (.ref it)) Q E s
abbrev TI := St → Hp → (It → Hp → Prop) → Prop
def PIE (X : Cx) (pins : List (Addr × Obj)) (σ : St) (tg : Expr) (R : It → Hp → Prop) (itv : Value) (s2 : Shared) : Prop :=
  ∃ (it : Addr) (fp : List Addr) (tn : Nat → Heap → Prop) (J : It) (H' : Hp), itv = .ref it ∧ Inv X pins σ H' s2 ∧ Turn X.prog X.w X.K tg J fp it tn ∧ tn 0 s2.heap ∧ (∀ b ∈ fp, FpOk X pins H' b) ∧ R J H'
def PI (X : Cx) (tg iter : Expr) (wi : TI) : Prop :=
  ∀ (pins : List (Addr × Obj)) (s : Shared) (σ : St) (H : Hp) (R : It → Hp → Prop), Inv X pins σ H s → wi σ H R →
    wpAny (model X.prog X.w) X.A (eval iter X.env) (fun v s1 => wpAny (model X.prog X.w) X.A (pyIter v) (PIE X pins σ tg R) X.xe s1) X.xe s
theorem go_of {M : Model} {A : Around} {E : Value → Shared → Prop} {s : Shared} {tg : Expr} {it : Addr} {u : Value} {o : Obj} {n : String} {vs : Array Value} {Q : Unit → Shared → Prop} (ho : s.heap.get? it = some o) (hc : o.cls = .type n) (hd : o.data = .fields vs)
    (hn : ["enumerate", "zip", "dict_itemiterator", "dict_reverseitemiterator", "odict_iterator", "itertools.zip_longest", "itertools.pairwise"].contains n = false) (hQ : Q () s) : wpAny M A (letOwnedTupleGo tg (.ref it) u) Q E s := by
  unfold letOwnedTupleGo
  cases tg <;> first
    | exact wpAny_pure hQ
    | (cases u <;> first
        | exact wpAny_pure hQ
        | (refine wpAny_bind (wpAny_load ho ?_)
           rw [hc, hd]
           show wpAny M A (if (["enumerate", "zip", "dict_itemiterator", "dict_reverseitemiterator", "odict_iterator", "itertools.zip_longest", "itertools.pairwise"].contains n && vs[0]? == some (rawInt _)) = true then _ else _) Q E s
           rw [if_neg (by intro h; rw [hn, Bool.false_and] at h; cases h)]
           exact wpAny_pure hQ))
def Itl (K : PySem.W.Frag) (a : Addr) : It :=
  ⟨fun i H => ∃ xs x, SqL K H a xs ∧ xs[i]? = some x, fun i H x H' => H' = H ∧ ∀ xs, SqL K H a xs → xs[i]? = some x, fun i H => ∃ xs, SqL K H a xs ∧ xs.length ≤ i⟩
def Itt (K : PySem.W.Frag) (a : Addr) : It :=
  ⟨fun i H => ∃ xs x, SqT K H a xs ∧ xs[i]? = some x, fun i H x H' => H' = H ∧ ∀ xs, SqT K H a xs → xs[i]? = some x, fun i H => ∃ xs, SqT K H a xs ∧ xs.length ≤ i⟩
def Itr (lo : Int) (n : Nat) : It := ⟨fun i _ => i < n, fun i H x H' => H' = H ∧ x = .int (lo + i), fun i _ => n ≤ i⟩
theorem turn_list {P : Program} {w : World} {K : PySem.W.Frag} {tg : Expr} (a it : Addr) : Turn P w K tg (Itl K a) [it] it (fun i h => h.IsListIter it a i) where
  mem := by simp
  obj := fun i h st b hb => by
    have e : b = it := by simpa using hb
    subst e
    obtain ⟨o, e, c, d⟩ := st
    exact ⟨o, e, fun v z => by rw [d] at z; cases z⟩
  keep := fun i h h' st k => st.at fun o e => k it (by simp) o e
  item := by
    intro X hP hw hK hc i pins s σ H E I hf st hg
    subst hP hw hK
    obtain ⟨xs, x, hq, hx⟩ := hg
    obtain ⟨its, rv, p, hz⟩ := I.list hq
    obtain ⟨u, hu, ru⟩ := rv.get hx
    obtain ⟨f0, f1, f2, f3, f4, f5⟩ := hf it (by simp)
    refine wpAny_pyNext_list_item st p.isList (x := u) (by simpa using hu) fun h' st' sb => ?_
    have I1 : Inv X pins σ H { s with heap := h' } := I.turned (t' := s.toks) (fun b o hb e => (sb.2 b hb).trans e) f0 f1 f3 f4 f5
    obtain ⟨o, e, c, d⟩ := id st'
    exact ⟨u, rfl, go_of (s := { s with heap := h' }) e c d (by decide) ⟨x, H, I1, ru, ⟨rfl, fun ys hy => by rw [I.list_inj hy hq]; exact hx⟩, st', fun b hb => (hf b hb).1⟩⟩
  done := by
    intro X hP hw hK hc i pins s σ H E I hf st hg
    subst hP hw hK
    obtain ⟨xs, hq, hx⟩ := hg
    obtain ⟨its, rv, p, hz⟩ := I.list hq
    obtain ⟨f0, f1, f2, f3, f4, f5⟩ := hf it (by simp)
    have hl := rv.length
    exact wpAny_pyNext_list_end (I.ok.hd hc) st p.isList (by simp; omega) fun h' eb => ⟨rfl, I.turned (t' := s.toks) (fun b o hb e => eb b o hb e) f0 f1 f3 f4 f5⟩
  self := fun _ _ _ _ _ st h => wpAny_pyIter_listiter st h
theorem turn_tuple {P : Program} {w : World} {K : PySem.W.Frag} {tg : Expr} (a it : Addr) : Turn P w K tg (Itt K a) [it] it (fun i h => h.IsTupleIter it a i) where
  mem := by simp
  obj := fun i h st b hb => by
    have e : b = it := by simpa using hb
    subst e
    obtain ⟨o, e, c, d⟩ := st
    exact ⟨o, e, fun v z => by rw [d] at z; cases z⟩
  keep := fun i h h' st k => st.at fun o e => k it (by simp) o e
  item := by
    intro X hP hw hK hc i pins s σ H E I hf st hg
    subst hP hw hK
    obtain ⟨xs, x, hq, hx⟩ := hg
    obtain ⟨its, rv, p, hz⟩ := I.tuple hq
    obtain ⟨u, hu, ru⟩ := rv.get hx
    obtain ⟨f0, f1, f2, f3, f4, f5⟩ := hf it (by simp)
    refine wpAny_pyNext_tuple_item st (show s.heap.IsTuple a its.toArray from p) (x := u) (by simpa using hu) fun h' st' sb => ?_
    have I1 : Inv X pins σ H { s with heap := h' } := I.turned (t' := s.toks) (fun b o hb e => (sb.2 b hb).trans e) f0 f1 f3 f4 f5
    obtain ⟨o, e, c, d⟩ := id st'
    exact ⟨u, rfl, go_of (s := { s with heap := h' }) e c d (by decide) ⟨x, H, I1, ru, ⟨rfl, fun ys hy => by rw [I.tuple_inj hy hq]; exact hx⟩, st', fun b hb => (hf b hb).1⟩⟩
  done := by
    intro X hP hw hK hc i pins s σ H E I hf st hg
    subst hP hw hK
    obtain ⟨xs, hq, hx⟩ := hg
    obtain ⟨its, rv, p, hz⟩ := I.tuple hq
    obtain ⟨f0, f1, f2, f3, f4, f5⟩ := hf it (by simp)
    have hl := rv.length
    exact wpAny_pyNext_tuple_end (I.ok.hd hc) st (show s.heap.IsTuple a its.toArray from p) (by simp; omega) fun h' eb => ⟨rfl, I.turned (t' := s.toks) (fun b o hb e => eb b o hb e) f0 f1 f3 f4 f5⟩
  self := fun _ _ _ _ _ st h => wpAny_pyIter_tupleiter st h
theorem turn_range {P : Program} {w : World} {K : PySem.W.Frag} {tg : Expr} (it : Addr) (lo : Int) (n : Nat) : Turn P w K tg (Itr lo n) [it] it (fun i h => IsRangeIter h it (lo + (i : Nat) * 1) ((n : Int) - (i : Nat)) 1) where
  mem := by simp
  obj := fun i h st b hb => by
    have e : b = it := by simpa using hb
    subst e
    exact ⟨_, st, fun v z => by
      have z' : Data.fields _ = Data.cell v := z
      cases z'⟩
  keep := fun i h h' st k => k it (by simp) _ st
  item := by
    intro X hP hw hK hc i pins s σ H E I hf st hg
    subst hP hw hK
    obtain ⟨f0, f1, f2, f3, f4, f5⟩ := hf it (by simp)
    have W := Walks.range (prog := X.prog) (w := X.w) (I.ok.hd hc) it lo 1 n
    refine W.item i s _ _ hg st fun v h' tk hv st' kk => ?_
    obtain ⟨t, rfl⟩ := hv
    have I1 : Inv X pins σ H { s with heap := h', toks := tk } := I.turned (fun b o hb e => kk b o (by simpa using hb) e) f0 f1 f3 f4 f5
    refine ⟨_, rfl, go_of (s := { s with heap := h', toks := tk }) (n := "range_iterator") st' rfl rfl (by decide) ⟨.int (lo + i), H, I1, ⟨t, ?_⟩, ⟨rfl, rfl⟩, st', fun b hb => (hf b hb).1⟩⟩
    rw [Int.mul_one]
  done := by
    intro X hP hw hK hc i pins s σ H E I hf st hg
    subst hP hw hK
    obtain ⟨f0, f1, f2, f3, f4, f5⟩ := hf it (by simp)
    exact wpAny_pyNext_range_end (I.ok.hd hc) st (by have : n ≤ i := hg; omega) fun h' eb => ⟨rfl, I.turned (t' := s.toks) (fun b o hb e => eb b o hb e) f0 f1 f3 f4 f5⟩
  self := fun _ _ _ _ _ st h => wpAny_pyIter_rangeiter st h
end L2
namespace L2
open PySem PySem.Spec PyProof.Rows
section
variable {X : Cx} {tg : Expr}
def iList (K : PySem.W.Frag) (tl : TE) : TI := fun σ H R => tl σ H fun x H1 => ∃ a, x = .ref a ∧ (∃ xs, SqL K H1 a xs) ∧ R (Itl K a) H1
theorem pi_list {l : Expr} {tl : TE} (hl : PE X l tl) : PI X tg l (iList X.K tl) := by
  intro pins s σ H R I h
  refine thn (hl pins s σ H _ I h) fun v s1 ⟨x, H1, I1, r1, q1⟩ => ?_
  obtain ⟨a, e, ⟨xs, hq⟩, q⟩ := q1
  subst e
  cases r1
  obtain ⟨its, rv, p, hz⟩ := I1.list hq
  refine wpAny_pyIter_list p.isList ?_
  refine ⟨s1.heap.objs.size, [s1.heap.objs.size], _, _, H1, rfl, I1.kept (t' := s1.toks) fun b o e => Heap.get?_push_of_some _ e, turn_list a _, ⟨_, Heap.get?_push_size _ rfl, rfl, rfl⟩, fun b hb => ?_, q⟩
  have e : b = s1.heap.objs.size := by simpa using hb
  subst e
  exact I1.fpOk (Nat.le_refl _) (I1.hok.fresh (Nat.le_refl _))
theorem range_it {pins : List (Addr × Obj)} {σ : St} {H : Hp} {s : Shared} {R : It → Hp → Prop} {E : Value → Shared → Prop} {lo hi : Int} {t u v : Tok} {tk : Nat} (I : Inv X pins σ H s) (h1 : -(2 ^ 62) ≤ lo) (h2 : lo < 2 ^ 62) (h3 : -(2 ^ 62) ≤ hi) (h4 : hi < 2 ^ 62)
    (q : R (Itr lo (hi - lo).toNat) H) : wpAny (model X.prog X.w) X.A (pyIter (.ref s.heap.objs.size)) (PIE X pins σ tg R) E { s with heap := s.heap.push { cls := .type "range", data := .fields #[.int lo t, .int hi u, .int 1 v] }, toks := tk } := by
  refine wpAny_pyIter_range (IsRange.new ..) (small_one h1 h2 h3 h4) ?_
  have I1 : Inv X pins σ H { s with heap := s.heap.push { cls := .type "range", data := .fields #[.int lo t, .int hi u, .int 1 v] }, toks := tk } := I.kept fun b o e => Heap.get?_push_of_some _ e
  refine ⟨(s.heap.push { cls := .type "range", data := .fields #[.int lo t, .int hi u, .int 1 v] }).objs.size, [(s.heap.push { cls := .type "range", data := .fields #[.int lo t, .int hi u, .int 1 v] }).objs.size], _, _, H, rfl,
    I1.kept (t' := tk) fun b o e => Heap.get?_push_of_some _ e, turn_range _ lo (hi - lo).toNat, ?_, fun b hb => ?_, q⟩
  · have e1 : lo + ((0 : Nat) : Int) * 1 = lo := by simp
    have e2 : (((hi - lo).toNat : Nat) : Int) - ((0 : Nat) : Int) = Builtin.Range.rangeSize lo hi 1 := by rw [rangeSize_one]; split <;> omega
    show IsRangeIter _ _ (lo + ((0 : Nat) : Int) * 1) ((((hi - lo).toNat : Nat) : Int) - ((0 : Nat) : Int)) 1
    rw [e1, e2]
    exact Heap.get?_push_size _ rfl
  · have e : b = (s.heap.push { cls := .type "range", data := .fields #[.int lo t, .int hi u, .int 1 v] }).objs.size := by simpa using hb
    subst e
    exact I1.fpOk (Nat.le_refl _) (I1.hok.fresh (Nat.le_refl _))
def iRng1 (ta : TA) : TI := fun σ H R => ta σ H fun vs H1 => ∃ j : Int, vs = [.int j] ∧ -(2 ^ 62) ≤ j ∧ j < 2 ^ 62 ∧ R (Itr 0 j.toNat) H1
def iRng2 (ta : TA) : TI := fun σ H R => ta σ H fun vs H1 => ∃ i j : Int, vs = [.int i, .int j] ∧ (-(2 ^ 62) ≤ i ∧ i < 2 ^ 62 ∧ -(2 ^ 62) ≤ j ∧ j < 2 ^ 62) ∧ R (Itr i (j - i).toNat) H1
theorem pi_range1 {a : Expr} {ta : TA} {p pos : Pos} (hg : Gl X "range") (hm : X.mg "range" = none) (ha : PA X [a] ta) (hs : starEach [a] X.env = [(false, eval a X.env)] := by rfl) : PI X tg (.Call (.Name "range" p) [a] [] pos) (iRng1 ta) := by
  intro pins s σ H R I h
  refine Call_ (ld_blt I hg hm boot_range (PyProof.Rows.callWith_type1 (thn (ha pos pins s σ H _ I h) fun us s1 ⟨vs, H1, I1, r1, q1⟩ => ?_) hs rfl))
  obtain ⟨j, e, q1, q2, q⟩ := q1
  subst e
  cases r1 with
  | cons r rr =>
    cases rr
    obtain ⟨t, rfl⟩ := r
    exact call_range_1 (range_it I1 (by omega) (by omega) q1 q2 (by simpa using q))
def tFor (wi : TI) (g : TG) (tb : TS) : TS := fun D σ H => wi σ H fun J H1 => ∃ W : Nat → Nat → St → Hp → Prop, (∃ m, W 0 m σ H1) ∧ ∀ i m σ H, W i m σ H →
  (J.stop i H ∧ D.nx σ H) ∨ (J.go i H ∧ ∃ N : St → Hp → Prop, (∀ σ' H', N σ' H' → ∃ m', m' < m ∧ W (i + 1) m' σ' H') ∧ ∀ x H', J.yld i H x H' → g x σ H' fun σ2 H2 => tb { D with nx := N, ct := N, bk := D.nx } σ2 H2)
def pinsAt (fp : List Addr) (h : Heap) : List (Addr × Obj) := fp.filterMap fun b => (h.get? b).map fun o => (b, o)
theorem mem_pinsAt {fp : List Addr} {h : Heap} {b : Addr} {o : Obj} (hb : b ∈ fp) (e : h.get? b = some o) : (b, o) ∈ pinsAt fp h := List.mem_filterMap.mpr ⟨b, hb, by rw [e]; rfl⟩
theorem of_pinsAt {fp : List Addr} {h : Heap} {p : Addr × Obj} (hp : p ∈ pinsAt fp h) : p.1 ∈ fp ∧ h.get? p.1 = some p.2 := by
  obtain ⟨b, hb, e⟩ := List.mem_filterMap.mp hp
  cases q : h.get? b with
  | none => rw [q] at e; cases e
  | some o =>
    rw [q] at e
    have e' : (b, o) = p := Option.some.inj e
    subst e'
    exact ⟨hb, q⟩
theorem Inv.pinned {pins : List (Addr × Obj)} {σ : St} {H : Hp} {s : Shared} {fp : List Addr} (I : Inv X pins σ H s) (hf : ∀ b ∈ fp, FpOk X pins H b) (ho : ∀ b ∈ fp, ∃ o, s.heap.get? b = some o ∧ ∀ v, o.data ≠ .cell v) : Inv X (pins ++ pinsAt fp s.heap) σ H s :=
  I.pins_of fun p hp => (List.mem_append.mp hp).elim (fun z => I.pin p (List.mem_append_right _ z)) fun z => by
    obtain ⟨hb, e⟩ := of_pinsAt z
    obtain ⟨f0, f1, f2, _⟩ := hf p.1 hb
    obtain ⟨o, e', d⟩ := ho p.1 hb
    rw [e] at e'; cases e'
    exact ⟨e, f0, f1, f2, d⟩
theorem Inv.unpinned {pins pl : List (Addr × Obj)} {σ : St} {H : Hp} {s : Shared} (I : Inv X (pins ++ pl) σ H s) : Inv X pins σ H s := I.pins_of fun p hp => I.pin p (List.mem_append_right _ (List.mem_append_left _ hp))
theorem ps_for {iter : Expr} {body : List Stmt} {wi : TI} {g : TG} {tb : TS} {pos : Pos} (hp : PassesOwn (model X.prog X.w) X.A X.env X.xe) (hc : X.calm = true) (hi : PI X tg iter wi) (hg : PG X tg g) (hb : PSs X body tb)
    (hs : ∀ x, foldedSetIterable iter X.env x = pure x := by intro _; rfl) : PS X (.For tg iter body [] pos) (tFor wi g tb) := by
  intro pins s σ H D I h
  refine wpAny_For (thn (hi pins s σ H _ I h) fun v s1 h1 => thn h1 fun itv s2 h2 => ?_) hs
  obtain ⟨it, fp, tn, J, H2, e, I2, T, st2, f2, W, ⟨m0, w0⟩, turn⟩ := h2
  subst e
  have stat : ∀ {H' : Hp}, (∀ b ∈ fp, H' b = none) → ∀ b ∈ fp, FpOk X pins H' b := fun hn b hb => ⟨hn b hb, (f2 b hb).2⟩
  refine codeAny_forLoop_any (fun n s' => ∃ i σ' H', Inv X pins σ' H' s' ∧ tn i s'.heap ∧ (∀ b ∈ fp, H' b = none) ∧ W i n σ' H') ?_ m0 ⟨0, σ, H2, I2, st2, fun b hb => (f2 b hb).1, w0⟩
  rintro n s3 ⟨i, σ3, H3, I3, st3, fr3, w3⟩
  rcases turn i n σ3 H3 w3 with ⟨stop, qn⟩ | ⟨go, N, hN, step⟩
  · refine wpAny_passesOwn hp (thn (T.done X rfl rfl rfl hc i pins s3 σ3 H3 X.xe I3 (stat fr3) st3 stop) fun r s4 ⟨hr, I4⟩ => ?_)
    subst hr
    exact wpAny_execs_nil ⟨σ3, H3, I4, qn⟩
  · refine wpAny_passesOwn hp (thn (T.item X rfl rfl rfl hc i pins s3 σ3 H3 X.xe I3 (stat fr3) st3 go) fun r s4 ⟨u, hr, h4⟩ => ?_)
    subst hr
    refine wpAny_passesOwn hp (thn h4 fun _ s5 ⟨x, H5, I5, r5, y5, st5, fr5⟩ => ?_)
    have I5' := I5.pinned (stat fr5) (T.obj _ _ st5)
    refine wpAny_passesOwn hp (thn (hg _ s5 σ3 H5 x u _ I5' r5 (step x H5 y5)) fun _ s6 ⟨σ6, H6, I6, q6⟩ => ?_)
    refine wpAny_passesOwn hp (thn (hb _ s6 σ6 H6 _ I6 q6) fun f s7 q7 => ?_)
    have again : ∀ {σ7 : St} {H7 : Hp}, Inv X (pins ++ pinsAt fp s5.heap) σ7 H7 s7 → N σ7 H7 → ∃ m, m < n ∧ ∃ i σ' H', Inv X pins σ' H' s7 ∧ tn i s7.heap ∧ (∀ b ∈ fp, H' b = none) ∧ W i m σ' H' := fun {σ7 H7} I7 n7 => by
      obtain ⟨m', hm, w7⟩ := hN σ7 H7 n7
      refine ⟨m', hm, i + 1, σ7, H7, I7.unpinned, T.keep _ _ _ st5 fun b hb o e => (I7.pin (b, o) (List.mem_append_right _ (List.mem_append_right _ (mem_pinsAt hb e)))).1, fun b hb => ?_, w7⟩
      obtain ⟨o, e, d⟩ := T.obj _ _ st5 b hb
      exact (I7.pin (b, o) (List.mem_append_right _ (List.mem_append_right _ (mem_pinsAt hb e)))).2.1
    cases f with
    | next => obtain ⟨σ7, H7, I7, n7⟩ := q7; exact again I7 n7
    | cont => obtain ⟨σ7, H7, I7, n7⟩ := q7; exact again I7 n7
    | brk => obtain ⟨σ7, H7, I7, q7⟩ := q7; exact ⟨σ7, H7, I7.unpinned, q7⟩
    | ret v => obtain ⟨x7, σ7, H7, I7, r7, q7⟩ := q7; exact ⟨x7, σ7, H7, I7.unpinned, r7, q7⟩
end
theorem for_list {K : PySem.W.Frag} {a : Addr} {xs : List V} {g : TG} {tb : TS} {D : Ends} {σ : St} {H : Hp} (Pv : Nat → St → Hp → Prop) (h0 : Pv 0 σ H) (hl : ∀ i σ H, i ≤ xs.length → Pv i σ H → SqL K H a xs)
    (hs : ∀ i x σ H, xs[i]? = some x → Pv i σ H → g x σ H fun σ2 H2 => tb { D with nx := Pv (i + 1), ct := Pv (i + 1), bk := D.nx } σ2 H2) (hd : ∀ σ H, Pv xs.length σ H → D.nx σ H) :
    ∃ W : Nat → Nat → St → Hp → Prop, (∃ m, W 0 m σ H) ∧ ∀ i m σ H, W i m σ H →
      ((Itl K a).stop i H ∧ D.nx σ H) ∨ ((Itl K a).go i H ∧ ∃ N : St → Hp → Prop, (∀ σ' H', N σ' H' → ∃ m', m' < m ∧ W (i + 1) m' σ' H') ∧ ∀ x H', (Itl K a).yld i H x H' → g x σ H' fun σ2 H2 => tb { D with nx := N, ct := N, bk := D.nx } σ2 H2) := by
  refine ⟨fun i m σ H => m = xs.length - i ∧ i ≤ xs.length ∧ Pv i σ H, ⟨xs.length, by simp, Nat.zero_le _, h0⟩, ?_⟩
  rintro i m σ H ⟨rfl, hi, p⟩
  have q := hl i σ H hi p
  by_cases hlt : i < xs.length
  · refine .inr ⟨⟨xs, xs[i], q, by simp [hlt]⟩, Pv (i + 1), fun σ' H' p' => ⟨xs.length - (i + 1), by omega, rfl, hlt, p'⟩, fun x H' y => ?_⟩
    obtain ⟨e, y⟩ := y
    subst e
    exact hs i x σ _ (y xs q) p
  · have e : i = xs.length := by omega
    subst e
    exact .inl ⟨⟨xs, q, Nat.le_refl _⟩, hd σ H p⟩
end L2
namespace L2
open PySem PySem.Spec PyProof.Rows
abbrev R2 := V → V → Hp → VK → Prop
def OpR (X : Cx) (f : Value → Value → Sem Value) (r : R2) : Prop :=
  ∀ (pins : List (Addr × Obj)) (s : Shared) (σ : St) (H : Hp) (x y : V) (v u : Value) (Q : VK), Inv X pins σ H s → RelV x v → RelV y u → r x y H Q →
    wpAny (model X.prog X.w) X.A (f v u) (EP X pins σ Q) X.xe s
def UnR (X : Cx) (f : Value → Sem Value) (r : V → Hp → VK → Prop) : Prop :=
  ∀ (pins : List (Addr × Obj)) (s : Shared) (σ : St) (H : Hp) (x : V) (v : Value) (Q : VK), Inv X pins σ H s → RelV x v → r x H Q →
    wpAny (model X.prog X.w) X.A (f v) (EP X pins σ Q) X.xe s
def CallR (X : Cx) (f : Value) (r : List V → Hp → VK → Prop) : Prop :=
  ∀ (pins : List (Addr × Obj)) (s : Shared) (σ : St) (H : Hp) (xs : List V) (us : List Value) (Q : VK), Inv X pins σ H s → Vals xs us → r xs H Q →
    wpAny (model X.prog X.w) X.A (call f us) (EP X pins σ Q) X.xe s
def TruR (X : Cx) (r : V → Hp → (Bool → Hp → Prop) → Prop) : Prop :=
  ∀ (pins : List (Addr × Obj)) (s : Shared) (σ : St) (H : Hp) (x : V) (v : Value) (Q : Bool → Hp → Prop), Inv X pins σ H s → RelV x v → r x H Q →
    wpAny (model X.prog X.w) X.A (truthy v) (TP X pins σ Q) X.xe s
def tOp (r : R2) (ta tb : TE) : TE := fun σ H Q => ta σ H fun x H1 => tb σ H1 fun y H2 => r x y H2 Q
def tUn (r : V → Hp → VK → Prop) (ta : TE) : TE := fun σ H Q => ta σ H fun x H1 => r x H1 Q
def rI (C : Int → Int → Prop) (g : Int → Int → V) : R2 := fun x y H Q => ∃ i j, x = .int i ∧ y = .int j ∧ C i j ∧ Q (g i j) H
def rI0 (g : Int → Int → V) : R2 := fun x y H Q => ∃ i j, x = .int i ∧ y = .int j ∧ Q (g i j) H
def rU (g : Int → V) : V → Hp → VK → Prop := fun x H Q => ∃ i, x = .int i ∧ Q (g i) H
section
variable {X : Cx} {a b c : Expr} {ta tb tc : TE} {pos : Pos}
theorem binT (ha : PE X a ta) (hb : PE X b tb) {pins : List (Addr × Obj)} {s : Shared} {σ : St} {H : Hp} {R : V → V → Hp → Prop} (I : Inv X pins σ H s)
    (h : ta σ H fun x H1 => tb σ H1 fun y H2 => R x y H2) {Q : Value → Shared → Prop} {f : Value → Value → Sem Value}
    (hf : ∀ v u s2 x y H2, Inv X pins σ H2 s2 → RelV x v → RelV y u → R x y H2 → wpAny (model X.prog X.w) X.A (f v u) Q X.xe s2) :
    wpAny (model X.prog X.w) X.A (eval a X.env) (fun v s₁ => wpAny (model X.prog X.w) X.A (eval b X.env) (fun u s₂ => wpAny (model X.prog X.w) X.A (f v u) Q X.xe s₂) X.xe s₁) X.xe s := by
  refine thn (ha pins s σ H _ I h) fun v s1 ⟨x, H1, I1, r1, q1⟩ => ?_
  refine thn (hb pins s1 σ H1 _ I1 q1) fun u s2 ⟨y, H2, I2, r2, q2⟩ => ?_
  exact hf v u s2 x y H2 I2 r1 r2 q2
theorem pe_op {op : Operator} {r : R2} (ho : OpR X (binaryOp op) r) (ha : PE X a ta) (hb : PE X b tb) : PE X (.BinOp a op b pos) (tOp r ta tb) := by
  intro pins s σ H Q I h
  exact wpAny_BinOp (binT ha hb I h fun v u s2 x y H2 I2 rx ry q => ho pins s2 σ H2 x y v u Q I2 rx ry q)
theorem pe_un {op : UnaryOp} {r : V → Hp → VK → Prop} (ho : UnR X (unaryOp op) r) (ha : PE X a ta) : PE X (.UnaryOp op a pos) (tUn r ta) := by
  intro pins s σ H Q I h
  exact UnaryOp_ (thn (ha pins s σ H _ I h) fun v s1 ⟨x, H1, I1, r1, q1⟩ => ho pins s1 σ H1 x v Q I1 r1 q1)
theorem opI {f : Value → Value → Sem Value} {C : Int → Int → Prop} {g : Int → Int → Int}
    (rule : ∀ (i j : Int) (t u : Tok) (s : Shared) (Q : Value → Shared → Prop) (E : Value → Shared → Prop), C i j → Q (.int (g i j) s.toks) { s with toks := s.toks + 1 } → wpAny (model X.prog X.w) X.A (f (.int i t) (.int j u)) Q E s) :
    OpR X f (rI C fun i j => .int (g i j)) := by
  intro pins s σ H x y v u Q I rx ry h
  obtain ⟨i, j, rfl, rfl, hc, q⟩ := h
  obtain ⟨t, rfl⟩ := rx
  obtain ⟨t', rfl⟩ := ry
  exact rule i j t t' s _ _ hc ⟨.int (g i j), H, I.tok _, ⟨_, rfl⟩, q⟩
theorem opI0 {f : Value → Value → Sem Value} {g : Int → Int → Int}
    (rule : ∀ (i j : Int) (t u : Tok) (s : Shared) (Q : Value → Shared → Prop) (E : Value → Shared → Prop), Q (.int (g i j) s.toks) { s with toks := s.toks + 1 } → wpAny (model X.prog X.w) X.A (f (.int i t) (.int j u)) Q E s) :
    OpR X f (rI0 fun i j => .int (g i j)) := by
  intro pins s σ H x y v u Q I rx ry h
  obtain ⟨i, j, rfl, rfl, q⟩ := h
  obtain ⟨t, rfl⟩ := rx
  obtain ⟨t', rfl⟩ := ry
  exact rule i j t t' s _ _ ⟨.int (g i j), H, I.tok _, ⟨_, rfl⟩, q⟩
theorem opB0 {f : Value → Value → Sem Value} {g : Int → Int → Bool}
    (rule : ∀ (i j : Int) (t u : Tok) (s : Shared) (Q : Value → Shared → Prop) (E : Value → Shared → Prop), Q (.bool (g i j)) s → wpAny (model X.prog X.w) X.A (f (.int i t) (.int j u)) Q E s) :
    OpR X f (rI0 fun i j => .bl (g i j)) := by
  intro pins s σ H x y v u Q I rx ry h
  obtain ⟨i, j, rfl, rfl, q⟩ := h
  obtain ⟨t, rfl⟩ := rx
  obtain ⟨t', rfl⟩ := ry
  exact rule i j t t' s _ _ ⟨.bl (g i j), H, I, rfl, q⟩
def CPow (i j : Int) : Prop := 0 ≤ j ∧ j ≤ 1000000 ∧ i.natAbs < 2 ^ 64
def CMul (i j : Int) : Prop := (-(2 ^ 64) < i ∧ i < 2 ^ 64) ∨ (-(2 ^ 64) < j ∧ j < 2 ^ 64)
theorem CMul.ok {i j : Int} (h : CMul i j) : IntMulOk i j := by
  rcases h with ⟨h1, h2⟩ | ⟨h1, h2⟩
  · exact .of_left (intBits_le_64 h1 h2)
  · exact .of_right (intBits_le_64 h1 h2)
theorem op_add : OpR X (binaryOp .Add) (rI0 fun i j => .int (i + j)) := opI0 fun _ _ _ _ _ _ _ q => add_int q
theorem op_sub : OpR X (binaryOp .Sub) (rI0 fun i j => .int (i - j)) := opI0 fun _ _ _ _ _ _ _ q => sub_int q
theorem op_mul : OpR X (binaryOp .Mult) (rI CMul fun i j => .int (i * j)) := opI fun _ _ _ _ _ _ _ hc q => mul_int q hc.ok
theorem op_mod : OpR X (binaryOp .Mod) (rI (fun _ j => 0 < j) fun i j => .int (i % j)) := opI fun i j _ _ _ _ _ hc q => by
  have h1 : (0 : Int) < j := hc
  exact mod_int' (by omega) (by rw [Int.fmod_eq_emod_of_nonneg i (by omega)]; exact q)
theorem op_pow : OpR X (binaryOp .Pow) (rI CPow fun i j => .int (i ^ j.toNat)) := opI fun _ _ _ _ _ _ _ hc q => pow_int_small hc.1 hc.2.1 hc.2.2 q
theorem iop_add : OpR X (inplaceOp .Add) (rI0 fun i j => .int (i + j)) := opI0 fun _ _ _ _ _ _ _ q => iadd_int q
theorem unI {f : Value → Sem Value} {g : Int → Int}
    (rule : ∀ (i : Int) (t : Tok) (s : Shared) (Q : Value → Shared → Prop) (E : Value → Shared → Prop), Q (.int (g i) s.toks) { s with toks := s.toks + 1 } → wpAny (model X.prog X.w) X.A (f (.int i t)) Q E s) :
    UnR X f (rU fun i => .int (g i)) := by
  intro pins s σ H x v Q I rx h
  obtain ⟨i, rfl, q⟩ := h
  obtain ⟨t, rfl⟩ := rx
  exact rule i t s _ _ ⟨.int (g i), H, I.tok _, ⟨_, rfl⟩, q⟩
theorem un_neg : UnR X (unaryOp .USub) (rU fun i => .int (-i)) := unI fun _ _ _ _ _ q => neg_int q
end
def scal : V → V → Bool
  | .non, .non => true | .non, .int _ => true | .int _, .non => true | .non, .bl _ => true | .bl _, .non => true | .non, .str _ => true | .str _, .non => true
  | .int _, .int _ => true | .bl _, .bl _ => true | .str _, .str _ => true | .byt _, .byt _ => true
  | .int _, .str _ => true | .str _, .int _ => true | .bl _, .str _ => true | .str _, .bl _ => true
  | _, _ => false
def rEq : R2 := fun x y H Q => scal x y = true ∧ Q (.bl (decide (x = y))) H
def rNe : R2 := fun x y H Q => scal x y = true ∧ Q (.bl (!decide (x = y))) H
theorem dec_int {i j : Int} : decide (V.int i = V.int j) = (i == j) := by
  rw [Bool.eq_iff_iff]
  simp
theorem dec_bl {i j : Bool} : decide (V.bl i = V.bl j) = (i == j) := by
  rw [Bool.eq_iff_iff]
  simp
theorem dec_str {i j : Str} : decide (V.str i = V.str j) = (i == j) := by
  rw [Bool.eq_iff_iff]
  simp
theorem dec_byt {i j : Array UInt8} : decide (V.byt i = V.byt j) = (i.toList == j.toList) := by
  rw [Bool.eq_iff_iff]
  cases i
  cases j
  simp
section
variable {X : Cx} {a b c : Expr} {ta tb tc : TE} {pos : Pos}
theorem fin_bl {pins : List (Addr × Obj)} {σ : St} {H : Hp} {s : Shared} {Q : VK} {k k' : Bool} (I : Inv X pins σ H s) (q : Q (.bl k) H) (e : k = k') : EP X pins σ Q (.bool k') s := by
  subst e
  exact ⟨.bl k, H, I, rfl, q⟩
theorem op_eq : OpR X (compareOp .Eq) rEq := by
  intro pins s σ H x y v u Q I rx ry h
  obtain ⟨hs, q⟩ := h
  cases x with
  | non =>
    cases rx
    cases y with
    | non => cases ry; exact PySem.EqNone.eq_none_none (fin_bl I q (by simp))
    | bl j => cases ry; exact PySem.EqNone.eq_none_bool (fin_bl I q (by simp))
    | int j => obtain ⟨t', rfl⟩ := ry; exact PySem.EqNone.eq_none_int (fin_bl I q (by simp))
    | str j => obtain ⟨t', rfl⟩ := ry; exact PySem.EqNone.eq_none_str (fin_bl I q (by simp))
    | _ => exact absurd (show false = true from hs) Bool.false_ne_true
  | bl i =>
    cases rx
    cases y with
    | non => cases ry; exact PySem.EqNone.eq_bool_none (fin_bl I q (by simp))
    | bl j => cases ry; exact eq_bool (fin_bl I q dec_bl)
    | str j => obtain ⟨t', rfl⟩ := ry; exact PySem.EqMixed.eq_bool_str (fin_bl I q (by simp))
    | _ => exact absurd (show false = true from hs) Bool.false_ne_true
  | int i =>
    obtain ⟨t, rfl⟩ := rx
    cases y with
    | non => cases ry; exact PySem.EqNone.eq_int_none (fin_bl I q (by simp))
    | int j => obtain ⟨t', rfl⟩ := ry; exact eq_int (fin_bl I q dec_int)
    | str j => obtain ⟨t', rfl⟩ := ry; exact PySem.EqMixed.eq_int_str (fin_bl I q (by simp))
    | _ => exact absurd (show false = true from hs) Bool.false_ne_true
  | str i =>
    obtain ⟨t, rfl⟩ := rx
    cases y with
    | non => cases ry; exact PySem.EqNone.eq_str_none (fin_bl I q (by simp))
    | bl j => cases ry; exact PySem.EqMixed.eq_str_bool (fin_bl I q (by simp))
    | int j => obtain ⟨t', rfl⟩ := ry; exact PySem.EqMixed.eq_str_int (fin_bl I q (by simp))
    | str j => obtain ⟨t', rfl⟩ := ry; exact eq_str (fin_bl I q dec_str)
    | _ => exact absurd (show false = true from hs) Bool.false_ne_true
  | byt i =>
    obtain ⟨t, rfl⟩ := rx
    cases y with
    | byt j => obtain ⟨t', rfl⟩ := ry; exact PySem.W.eq_bytes (fin_bl I q dec_byt)
    | _ => exact absurd (show false = true from hs) Bool.false_ne_true
  | _ => cases y <;> exact absurd (show false = true from hs) Bool.false_ne_true
theorem op_ne : OpR X (compareOp .NotEq) rNe := by
  intro pins s σ H x y v u Q I rx ry h
  obtain ⟨hs, q⟩ := h
  cases x with
  | non =>
    cases rx
    cases y with
    | non => cases ry; exact PySem.EqNone.ne_none_none (fin_bl I q (by simp))
    | bl j => cases ry; exact PySem.EqNone.ne_none_bool (fin_bl I q (by simp))
    | int j => obtain ⟨t', rfl⟩ := ry; exact PySem.EqNone.ne_none_int (fin_bl I q (by simp))
    | str j => obtain ⟨t', rfl⟩ := ry; exact PySem.EqNone.ne_none_str (fin_bl I q (by simp))
    | _ => exact absurd (show false = true from hs) Bool.false_ne_true
  | bl i =>
    cases rx
    cases y with
    | non => cases ry; exact PySem.EqNone.ne_bool_none (fin_bl I q (by simp))
    | bl j => cases ry; exact ne_bool (fin_bl I q (congrArg not dec_bl))
    | str j => obtain ⟨t', rfl⟩ := ry; exact PySem.EqMixed.ne_bool_str (fin_bl I q (by simp))
    | _ => exact absurd (show false = true from hs) Bool.false_ne_true
  | int i =>
    obtain ⟨t, rfl⟩ := rx
    cases y with
    | non => cases ry; exact PySem.EqNone.ne_int_none (fin_bl I q (by simp))
    | int j => obtain ⟨t', rfl⟩ := ry; exact ne_int (fin_bl I q (congrArg not dec_int))
    | str j => obtain ⟨t', rfl⟩ := ry; exact PySem.EqMixed.ne_int_str (fin_bl I q (by simp))
    | _ => exact absurd (show false = true from hs) Bool.false_ne_true
  | str i =>
    obtain ⟨t, rfl⟩ := rx
    cases y with
    | non => cases ry; exact PySem.EqNone.ne_str_none (fin_bl I q (by simp))
    | bl j => cases ry; exact PySem.EqMixed.ne_str_bool (fin_bl I q (by simp))
    | int j => obtain ⟨t', rfl⟩ := ry; exact PySem.EqMixed.ne_str_int (fin_bl I q (by simp))
    | str j => obtain ⟨t', rfl⟩ := ry; exact ne_str (fin_bl I q (congrArg not dec_str))
    | _ => exact absurd (show false = true from hs) Bool.false_ne_true
  | byt i =>
    obtain ⟨t, rfl⟩ := rx
    cases y with
    | byt j => obtain ⟨t', rfl⟩ := ry; exact PySem.W.ne_bytes (fin_bl I q (congrArg not dec_byt))
    | _ => exact absurd (show false = true from hs) Bool.false_ne_true
  | _ => cases y <;> exact absurd (show false = true from hs) Bool.false_ne_true
theorem op_lt : OpR X (compareOp .Lt) (rI0 fun i j => .bl (decide (i < j))) := opB0 fun _ _ _ _ _ _ _ q => lt_int q
theorem op_gt : OpR X (compareOp .Gt) (rI0 fun i j => .bl (decide (j < i))) := opB0 fun _ _ _ _ _ _ _ q => gt_int q
theorem op_in_str : OpR X (compareOp .In) (fun x y H Q => ∃ i j, x = .str i ∧ y = .str j ∧ Q (.bl (!(Builtin.Str.occurrences j i 0 j.length 1).isEmpty)) H) := by
  intro pins s σ H x y v u Q I rx ry h
  obtain ⟨i, j, rfl, rfl, q⟩ := h
  obtain ⟨t, rfl⟩ := rx
  obtain ⟨t', rfl⟩ := ry
  exact in_str (fin_bl I q rfl)
theorem op_isN : OpR X (compareOp .Is) (fun x y H Q => y = .non ∧ Q (.bl (decide (x = .non))) H) := by
  intro pins s σ H x y v u Q I rx ry h
  obtain ⟨rfl, q⟩ := h
  cases ry
  refine is_none_gen (fin_bl I q ?_)
  cases x <;> first
    | (cases rx; rfl)
    | (obtain ⟨t, rfl⟩ := rx; rfl)
theorem op_notN : OpR X (compareOp .IsNot) (fun x y H Q => y = .non ∧ Q (.bl (!decide (x = .non))) H) := by
  intro pins s σ H x y v u Q I rx ry h
  obtain ⟨rfl, q⟩ := h
  cases ry
  refine isnot_none_gen (fin_bl I q ?_)
  cases x <;> first
    | (cases rx; rfl)
    | (obtain ⟨t, rfl⟩ := rx; rfl)
theorem OpR.or {f : Value → Value → Sem Value} {r r' : R2} (h : OpR X f r) (h' : OpR X f r') : OpR X f (fun x y H Q => r x y H Q ∨ r' x y H Q) := by
  intro pins s σ H x y v u Q I rx ry q
  rcases q with q | q
  · exact h pins s σ H x y v u Q I rx ry q
  · exact h' pins s σ H x y v u Q I rx ry q
theorem nomark (b : Expr) {op : CmpOp} (h : op ≠ .In := by decide) (h2 : op ≠ .NotIn := by decide) : behindInMarks op b = false := by
  have e1 : (op == CmpOp.In) = false := by cases op <;> first | rfl | exact absurd rfl h
  have e2 : (op == CmpOp.NotIn) = false := by cases op <;> first | rfl | exact absurd rfl h2
  cases b <;> simp [behindInMarks, e1, e2]
theorem pe_cmpR {op : CmpOp} {r : R2} (ho : OpR X (compareOp op) r) (ha : PE X a ta) (hb : PE X b tb) (hm : behindInMarks op b = false) : PE X (.Compare a [op] [b] pos) (tOp r ta tb) := by
  intro pins s σ H Q I h
  exact wpAny_Compare1 (binT ha hb I h fun v u s2 x y H2 I2 rx ry q => ho pins s2 σ H2 x y v u Q I2 rx ry q) hm
def tTest (t : TE) : TT := fun σ H Q => t σ H fun x H' => ∃ k, x = .bl k ∧ Q k H'
theorem pt_cmpR {op : CmpOp} {r : R2} (ho : OpR X (compareOp op) r) (ha : PE X a ta) (hb : PE X b tb) (hm : behindInMarks op b = false) : PT X (.Compare a [op] [b] pos) (tTest (tOp r ta tb)) := by
  intro pins s σ H Q I h
  refine wpAny_isTrue_Compare1 (thn (ha pins s σ H _ I h) fun v s1 ⟨x, H1, I1, r1, q1⟩ => thn (hb pins s1 σ H1 _ I1 q1) fun u s2 ⟨y, H2, I2, r2, q2⟩ =>
    thn (ho pins s2 σ H2 x y v u _ I2 r1 r2 q2) fun c s3 ⟨z, H3, I3, r3, k, e, q3⟩ => ?_) hm
  subst e
  cases r3
  exact wpAny_truthy_bool ⟨H3, I3, q3⟩
def tChain (r r' : R2) (ta tb tc : TE) : TE := fun σ H Q => ta σ H fun x H1 => tb σ H1 fun y H2 => r x y H2 fun z H3 => ∃ k, z = .bl k ∧
  (if k = true then tc σ H3 fun w' H4 => r' y w' H4 Q else Q (.bl false) H3)
def TruV (K : PySem.W.Frag) (x : V) (H : Hp) (k : Bool) : Prop :=
  match x with
  | .non => k = false
  | .bl b => k = b
  | .int i => k = (i != 0)
  | .str y => y.length ≤ sizeLine ∧ k = ((y.length : Int) != 0)
  | .byt y => y.size ≤ sizeLine ∧ k = ((y.size : Int) != 0)
  | .ref p => (∃ xs, SqL K H p xs ∧ k = !xs.isEmpty) ∨ (∃ xs, SqT K H p xs ∧ k = !xs.isEmpty) ∨ ∃ kvs, H p = some (.dK kvs) ∧ k = !kvs.isEmpty
  | _ => False
theorem isEmpty_kv {κ : Type} {kvs : List (κ × V)} {vs : List (κ × Value)} (r : KV kvs vs) : (!vs.isEmpty) = !kvs.isEmpty := by
  cases r <;> rfl
theorem isEmpty_of {xs : List V} {its : List Value} (r : Vals xs its) : (!its.toArray.isEmpty) = !xs.isEmpty := by
  cases r <;> simp
theorem line63 : (sizeLine : Nat) < 2 ^ 63 := by rw [sizeLine_eq]; decide
theorem tru_ok : TruR X (fun x H Q => ∃ k, TruV X.K x H k ∧ Q k H) := by
  intro pins s σ H x v Q I rx h
  obtain ⟨k, e, q⟩ := h
  have hl := line63
  have hs : sizeLine = 16777216 := sizeLine_eq
  cases x with
  | non =>
    cases rx
    have e' : k = false := e
    subst e'
    exact truthy_none ⟨H, I, q⟩
  | bl b =>
    cases rx
    have e' : k = b := e
    subst e'
    exact wpAny_truthy_bool ⟨H, I, q⟩
  | int i =>
    obtain ⟨t, rfl⟩ := rx
    have e' : k = (i != 0) := e
    subst e'
    exact PySem.P.truthy_int ⟨H, I, q⟩
  | str y =>
    obtain ⟨t, rfl⟩ := rx
    obtain ⟨hy, e'⟩ : y.length ≤ sizeLine ∧ k = ((y.length : Int) != 0) := e
    subst e'
    exact PySem.P.truthy_str (by omega) ⟨H, I.tok _, q⟩
  | byt y =>
    obtain ⟨t, rfl⟩ := rx
    obtain ⟨hy, e'⟩ : y.size ≤ sizeLine ∧ k = ((y.size : Int) != 0) := e
    subst e'
    exact PySem.W.truthy_bytes (by omega) ⟨H, I.tok _, q⟩
  | ref p =>
    cases rx
    have e' : (∃ xs, SqL X.K H p xs ∧ k = !xs.isEmpty) ∨ (∃ xs, SqT X.K H p xs ∧ k = !xs.isEmpty) ∨ ∃ kvs, H p = some (.dK kvs) ∧ k = !kvs.isEmpty := e
    rcases e' with ⟨xs, hx, e'⟩ | ⟨xs, hx, e'⟩ | ⟨kvs, hx, e'⟩
    · subst e'
      obtain ⟨its, r, pl, hz⟩ := I.list hx
      have hlen := r.length
      exact wpAny_truthy_list pl.isList (by simp only [List.size_toArray]; omega) ⟨H, I.tok _, by rw [isEmpty_of r]; exact q⟩
    · subst e'
      obtain ⟨its, r, pl, hz⟩ := I.tuple hx
      have hlen := r.length
      exact truthy_tuple pl (by simp only [List.size_toArray]; omega) ⟨H, I.tok _, by rw [isEmpty_of r]; exact q⟩
    · subst e'
      obtain ⟨hz, hS, vs, r, m⟩ : kvs.length ≤ sizeLine ∧ (p == sysModules) = false ∧ ∃ vs, KV kvs vs ∧ s.heap.DictOf (mixKind X.prog X.w) p vs := I.hok p _ hx
      have hlen : kvs.length = vs.length := Paired.length r
      exact wpAny_truthy_dict hS m (by omega) ⟨H, I.tok _, by rw [isEmpty_kv r]; exact q⟩
  | _ => exact (show False from e).elim
theorem op_add_str : OpR X (binaryOp .Add) (fun x y H Q => ∃ i j, x = .str i ∧ y = .str j ∧ i.length + j.length ≤ sizeLine ∧ Q (.str (i ++ j)) H) := by
  intro pins s σ H x y v u Q I rx ry h
  obtain ⟨i, j, rfl, rfl, hz, q⟩ := h
  obtain ⟨t, rfl⟩ := rx
  obtain ⟨t', rfl⟩ := ry
  exact add_str (fun t' tk => ⟨.str (i ++ j), H, I.tok _, ⟨_, rfl⟩, q⟩) hz
theorem iop_add_str : OpR X (inplaceOp .Add) (fun x y H Q => ∃ i j, x = .str i ∧ y = .str j ∧ i.length + j.length ≤ sizeLine ∧ Q (.str (i ++ j)) H) := by
  intro pins s σ H x y v u Q I rx ry h
  obtain ⟨i, j, rfl, rfl, hz, q⟩ := h
  obtain ⟨t, rfl⟩ := rx
  obtain ⟨t', rfl⟩ := ry
  exact iadd_str (fun t' tk => ⟨.str (i ++ j), H, I.tok _, ⟨_, rfl⟩, q⟩) hz
theorem vals1 {x : V} {us : List Value} (r : Vals [x] us) : ∃ u, us = [u] ∧ RelV x u := by
  cases r with
  | cons r1 r2 => cases r2; exact ⟨_, rfl, r1⟩
theorem vals2 {x y : V} {us : List Value} (r : Vals [x, y] us) : ∃ u w', us = [u, w'] ∧ RelV x u ∧ RelV y w' := by
  cases r with
  | cons r1 r2 =>
    cases r2 with
    | cons r3 r4 => cases r4; exact ⟨_, _, rfl, r1, r3⟩
theorem call_max2 (hc : X.calm = true) : CallR X (.builtin "max") (fun xs H Q => ∃ i j, xs = [.int i, .int j] ∧ Q (.int (if j > i then j else i)) H) := by
  intro pins s σ H xs us Q I r h
  obtain ⟨i, j, rfl, q⟩ := h
  obtain ⟨u, w', rfl, ⟨t, rfl⟩, ⟨t', rfl⟩⟩ := vals2 r
  refine max_two_ints (I.ok.hd hc) fun h' tk k => ⟨_, H, I.kept k, ?_, q⟩
  by_cases hj : j > i
  · rw [if_pos hj, if_pos hj]; exact ⟨_, rfl⟩
  · rw [if_neg hj, if_neg hj]; exact ⟨_, rfl⟩
theorem call_int1 : CallR X (.type "int") (fun xs H Q => (∃ i, xs = [.int i] ∧ Q (.int i) H) ∨ ∃ k, xs = [.bl k] ∧ Q (.int (if k then 1 else 0)) H) := by
  intro pins s σ H xs us Q I r h
  rcases h with ⟨i, rfl, q⟩ | ⟨k, rfl, q⟩
  · obtain ⟨u, rfl, t, rfl⟩ := vals1 r
    exact call_int_int ⟨.int i, H, I, ⟨_, rfl⟩, q⟩
  · obtain ⟨u, rfl, r1⟩ := vals1 r
    cases r1
    exact call_int_bool ⟨.int (if k then 1 else 0), H, I.tok _, ⟨_, rfl⟩, q⟩
end
end L2
namespace L2
open PySem PySem.Spec PyProof.Rows
structure ObjM (h : Heap) (x dx C : Addr) (mA : Str → Option Value) : Prop where
  obj : h.get? x = some (PySem.W.instObj C dx)
  ns : h.Ns1 dx mA
  ne : dx ≠ x
theorem lookIn_ns {h : Heap} {dx : Addr} {mA : Str → Option Value} (n : h.Ns1 dx mA) : ∃ od, h.get? dx = some od ∧ ∀ name, PySem.W.lookIn name od = some (mA name) := by
  obtain ⟨o, es, ep, ho, hd, hk, _, hm⟩ := n
  refine ⟨o, ho, fun name => ?_⟩
  have e := hm name
  unfold nsFind findBy at e
  rw [← Array.find?_toList] at e
  unfold PySem.W.lookIn
  rw [hd]
  dsimp only
  split
  · rename_i y q
    rw [q] at e
    exact congrArg some e
  · rename_i q
    rw [q] at e
    have a : es.toList.any (·.refKey) = false := by
      rw [List.any_eq_false]
      intro y hy
      obtain ⟨z, t, hkey⟩ := hk y (Array.mem_toList_iff.mp hy)
      simp [DictEntry.refKey, hkey]
    have a' : ¬ es.toList.any (·.refKey) = true := by rw [a]; exact Bool.false_ne_true
    rw [if_neg a']
    exact congrArg some e
theorem ObjM.look {h : Heap} {x dx C : Addr} {mA : Str → Option Value} (I : ObjM h x dx C mA) : ∃ od, PySem.W.InstAt h x (PySem.W.instObj C dx) C (some od) ∧ ∀ name, PySem.W.lookIn name od = some (mA name) :=
  let ⟨od, ho, hl⟩ := lookIn_ns I.ns
  ⟨od, ⟨I.obj, rfl, rfl, ho⟩, hl⟩
section
variable {prog : Program} {w : World} {A : Around} {E : Value → Shared → Prop} {s : Shared} {K : PySem.W.Frag} {x dx C f : Addr} {mA : Str → Option Value} {name : Str} {v : Value}
end
theorem RelO.some_of {v : V} {o : Option Value} (r : RelO (some v) o) : ∃ u, o = some u ∧ RelV v u := by
  cases o with
  | none => exact (show False from r).elim
  | some u => exact ⟨u, rfl, r⟩
section
variable {P : Program} {w : World} {H H' : Hp} {h h' : Heap} {a C dx : Addr} {fs fs' : List (Str × V)}
theorem ins_get (hok : HOk P w H h) (e : H a = some (.ins C dx fs)) : ∃ mA, ObjM h a dx C mA ∧ (∀ f, RelO (fs.lookup f) (mA f)) ∧ PySem.Within mA (fs.map (·.1)) ∧ fs.length ≤ 1000 ∧ H dx = some (.own a) := by
  obtain ⟨d, z, ne, ob, mA, n, r, q⟩ := (show ObjOk P w H h a (.ins C dx fs) from hok a _ e)
  exact ⟨mA, ⟨ob, n, ne⟩, r, q, z, d⟩
end
structure Cls (K : PySem.W.Frag) (C : Addr) : Prop where
  pg : PySem.W.plainGet K C Str.empty = true
  hd : PySem.W.hasDictIn K C = true
  po : PySem.W.plainOver K C = true
  sa : PySem.W.findIn K (.ref C) "__setattr__" = some (some (.builtin "object.__setattr__"))
theorem Cls.get {K : PySem.W.Frag} {C : Addr} (c : Cls K C) (f : Str) : PySem.W.plainGet K C f = true := c.pg
section
variable {X : Cx} {pins : List (Addr × Obj)} {σ : St} {H : Hp} {s : Shared} {a C dx : Addr} {fs : List (Str × V)} {f : Str} {v : V} {A : Around} {E : Value → Shared → Prop}
theorem Inv.made (I : Inv X pins σ H s) : Inv X pins σ (upd (upd H s.heap.objs.size (.own (s.heap.objs.size + 1))) (s.heap.objs.size + 1) (.ins C s.heap.objs.size []))
    { s with heap := (s.heap.push PySem.W.emptyDict).push (PySem.W.instObj C s.heap.objs.size) } := by
  have e1 : (s.heap.push PySem.W.emptyDict).get? s.heap.objs.size = some PySem.W.emptyDict := Heap.get?_push_size s.heap rfl
  have e2 : ((s.heap.push PySem.W.emptyDict).push (PySem.W.instObj C s.heap.objs.size)).get? (s.heap.objs.size + 1) = some (PySem.W.instObj C s.heap.objs.size) := by
    have := Heap.get?_push_size (s.heap.push PySem.W.emptyDict) (o := PySem.W.instObj C s.heap.objs.size) rfl
    rwa [Heap.size_push] at this
  have e3 : (s.heap.push PySem.W.emptyDict).Ns s.heap.objs.size (fun _ => none) := ⟨PySem.W.emptyDict, #[], _, e1, rfl, (fun e he => absurd he (by simp)), fun _ => rfl⟩
  have I1 := I.laid (a := s.heap.objs.size) (o := .own (s.heap.objs.size + 1)) (h' := s.heap.push PySem.W.emptyDict) (t' := s.toks) (fun b u q => Heap.get?_push_of_some _ q) (Nat.le_refl _) ⟨_, e1⟩
  refine I1.laid (a := s.heap.objs.size + 1) (o := .ins C s.heap.objs.size []) (t' := s.toks) (fun b u q => Heap.get?_push_of_some _ q) (Nat.le_of_eq (Heap.size_push _ _)) ?_
  have ne : s.heap.objs.size ≠ s.heap.objs.size + 1 := Nat.ne_of_lt (Nat.lt_succ_self _)
  refine ⟨by rw [upd_ne ne, upd_same], Nat.zero_le _, ne, e2, fun _ => none, (Heap.Ns1.of_empty e3).at fun o q => Heap.get?_push_of_some _ q, fun _ => True.intro, fun y hy => absurd rfl hy⟩
end
section
variable {X : Cx} {o e value : Expr} {f : Str} {pos pos' tpos : Pos} {ta tv : TE}
end
section
variable {X : Cx} {pins : List (Addr × Obj)} {σ : St} {H : Hp} {s : Shared} {A : Around} {E : Value → Shared → Prop} {Q : Value → Shared → Prop} {c : Value} {b : Bool}
inductive TyOf (K : PySem.W.Frag) (H : Hp) : V → Value → Prop where
  | non : TyOf K H .non (.type "NoneType")
  | bl (x : Bool) : TyOf K H (.bl x) (.type "bool")
  | int (i : Int) : TyOf K H (.int i) (.type "int")
  | str (x : Str) : TyOf K H (.str x) (.type "str")
  | flt (x : UInt64) : TyOf K H (.flt x) (.type "float")
  | lst {a : Addr} {xs : List V} (e : H a = some (.lst xs)) : TyOf K H (.ref a) (.type "list")
  | frz {a : Addr} {o : Obj} {xs : List V} (e : H a = some (.frz o (.lst xs))) : TyOf K H (.ref a) (.type "list")
  | tup {a : Addr} {xs : List V} (e : H a = some (.tup xs)) : TyOf K H (.ref a) (.type "tuple")
  | dK {a : Addr} {kvs : List (Key × V)} (e : H a = some (.dK kvs)) : TyOf K H (.ref a) (.type "dict")
  | dT {a : Addr} {kvs : List (List Key × V)} (e : H a = some (.dT kvs)) : TyOf K H (.ref a) (.type "dict")
  | ins {a C dx : Addr} {fs : List (Str × V)} (e : H a = some (.ins C dx fs)) (cl : Cls K C) (ha : PySem.W.findIn K (.ref C) "__class__" = some (some (.builtin "object.__class__")))
      (hn : PySem.W.specialIn K (.builtin "object.__class__") "__get__" = some (some (.builtin "getset_descriptor.__get__"))) (htk : PySem.W.takesIn K (.builtin "object.__class__") = some true)
      (hm : PySem.W.mroIn K C (.type "object") = some true) : TyOf K H (.ref a) (.ref C)
theorem isinst_ok {x : V} {u t : Value} (I : Inv X pins σ H s) (rx : RelV x u) (ty : TyOf X.K H x t) (e : PySem.W.kitOne X.K t c = some b) (h : ∀ tk, Q (.bool b) { s with toks := tk }) :
    wpAny (model X.prog X.w) A (call (.builtin "isinstance") [u, c]) Q E s := by
  cases ty with
  | non => cases (show u = Value.none from rx); exact PySem.W.kia_one PySem.W.kitx_none I.kIn True.intro e (fun z => nomatch z) h
  | bl y => cases (show u = Value.bool y from rx); exact PySem.W.kia_one PySem.W.kitx_bool I.kIn True.intro e (fun z => nomatch z) h
  | int i => obtain ⟨t, q⟩ := (show ∃ t, u = Value.int i t from rx); cases q; exact PySem.W.kia_one PySem.W.kitx_int I.kIn True.intro e (fun z => nomatch z) h
  | str y => obtain ⟨t, q⟩ := (show ∃ t, u = Value.str y t from rx); cases q; exact PySem.W.kia_one PySem.W.kitx_str I.kIn True.intro e (fun z => nomatch z) h
  | flt y => obtain ⟨t, q⟩ := (show ∃ t, u = Value.float y t from rx); cases q; exact PySem.W.kia_one PySem.W.kitx_float I.kIn True.intro e (fun z => nomatch z) h
  | @lst a xs ea =>
    cases (show u = Value.ref a from rx)
    obtain ⟨_, _, n, _, h1⟩ := (show ObjOk X.prog X.w H s.heap a (.lst xs) from I.hok a _ ea)
    exact PySem.W.kia_one PySem.W.kitx_list I.kIn ⟨_, h1, rfl⟩ e (fun z => nomatch z) h
  | @frz a ob xs ea =>
    cases (show u = Value.ref a from rx)
    obtain ⟨_, _, _, n, _, h1⟩ := (show ObjOk X.prog X.w H s.heap a (.frz ob (.lst xs)) from I.hok a _ ea)
    exact PySem.W.kia_one PySem.W.kitx_list I.kIn ⟨_, h1, rfl⟩ e (fun z => nomatch z) h
  | @tup a xs ea =>
    cases (show u = Value.ref a from rx)
    obtain ⟨_, _, _, p⟩ := (show ObjOk X.prog X.w H s.heap a (.tup xs) from I.hok a _ ea)
    obtain ⟨o, h1, h2, _⟩ := p
    exact PySem.W.kia_one PySem.W.kitx_tuple I.kIn ⟨o, h1, h2⟩ e (fun z => nomatch z) h
  | @dK a kvs ea =>
    cases (show u = Value.ref a from rx)
    obtain ⟨_, _, vs, _, p⟩ := (show ObjOk X.prog X.w H s.heap a (.dK kvs) from I.hok a _ ea)
    obtain ⟨o, es, ep, h1, h2, _⟩ := p
    exact PySem.W.kia_one PySem.W.kitx_dict I.kIn ⟨o, h1, h2.1⟩ e (fun z => nomatch z) h
  | @dT a kvs ea =>
    cases (show u = Value.ref a from rx)
    obtain ⟨_, _, xs, _, o, es, ep, h1, h2, _⟩ := (show ObjOk X.prog X.w H s.heap a (.dT kvs) from I.hok a _ ea)
    exact PySem.W.kia_one PySem.W.kitx_dict I.kIn ⟨o, h1, h2.1⟩ e (fun z => nomatch z) h
  | @ins a C dx fs ea cl ha hn htk hm =>
    cases (show u = Value.ref a from rx)
    obtain ⟨mA, O, _⟩ := ins_get I.hok ea
    obtain ⟨od, J, _⟩ := O.look
    exact PySem.W.kia_one (PySem.W.kitx_own (cl.get _) cl.hd ha hn htk hm) I.kIn J e (fun z => nomatch z) h
end
end L2
namespace L2
open PySem PySem.Spec PyProof.Rows
structure Room (k : Nat) (A : Around) : Prop where
  hd : A.handled = none
  dp : A.depth + 3 * k + 5 < recursionLimit
  un : A.units + 16 * k + 200 < cLine
theorem Room.mono {j k : Nat} {A : Around} (r : Room k A) (h : j ≤ k) : Room j A := ⟨r.hd, by have := r.dp; omega, by have := r.un; omega⟩
theorem Room.deeper {k : Nat} {A : Around} (r : Room (k + 1) A) (env : Env) : Room k (A.deeper env) :=
  ⟨r.hd, by have := r.dp; show A.depth + 1 + 3 * k + 5 < _; omega, by have := r.un; show A.units + 3 + 16 * k + 200 < _; omega⟩
theorem Room.in1 {k : Nat} {A : Around} (r : Room (k + 1) A) : Room k A.in1 :=
  ⟨r.hd, by have := r.dp; show A.depth + 3 * k + 5 < _; omega, by have := r.un; show A.units + 1 + 16 * k + 200 < _; omega⟩
theorem Room.depth {k : Nat} {A : Around} (r : Room k A) : A.depth < recursionLimit := by have := r.dp; omega
theorem Room.units {k : Nat} {A : Around} (r : Room k A) : A.units + 64 < cLine := by have := r.un; omega
def tNil : TA := fun _ H Q => Q [] H
def tCons (ta : TE) (tr : TA) : TA := fun σ H Q => ta σ H fun x H1 => tr σ H1 fun xs H2 => Q (x :: xs) H2
section
variable {X : Cx} {e : Expr} {es : List Expr} {te : TE} {t : TA} {pos : Pos}
theorem pa_nil : PA X [] tNil := fun _ _ _ _ H Q I h => Calls.spliced_nil ⟨[], H, I, .nil, h⟩
theorem pa_cons (ha : PE X e te) (hr : PA X es t) (hs : starEach (e :: es) X.env = (false, eval e X.env) :: starEach es X.env := by rfl) : PA X (e :: es) (tCons te t) := by
  intro pos pins s σ H Q I h
  rw [hs]
  show wpAny _ _ (spliced ((false, eval e X.env) :: backTo pos (starEach es X.env))) _ _ s
  refine Calls.spliced_cons (thn (ha pins s σ H _ I h) fun u s1 ⟨x, H1, I1, r1, q1⟩ => ?_)
  exact thn (hr pos pins s1 σ H1 _ I1 q1) fun us s2 ⟨xs, H2, I2, r2, q2⟩ => ⟨x :: xs, H2, I2, .cons r1 r2, q2⟩
def tTup (t : TA) : TE := fun σ H Q => t σ H fun xs H1 => xs.length ≤ sizeLine ∧ ∀ p, H1 p = none → Q (.ref p) (upd H1 p (.tup xs))
def tLst (t : TA) : TE := fun σ H Q => t σ H fun xs H1 => xs.length ≤ sizeLine ∧ ∀ p, H1 p = none → Q (.ref p) (upd H1 p (.lst xs))
theorem pe_tup {x1} (h : PA X es t) : PE X (.Tuple es x1 pos) (tTup t) := by
  intro pins s σ H Q I hq
  refine wpAny_Tuple_spliced (thn (h pos pins s σ H _ I hq) fun us s1 ⟨xs, H1, I1, r, z, q⟩ => ⟨by rw [← r.length]; exact z, ?_⟩)
  have hf : H1 s1.heap.objs.size = none := I1.hok.fresh (Nat.le_refl _)
  refine ⟨.ref s1.heap.objs.size, upd H1 s1.heap.objs.size (.tup xs), I1.laid (t' := s1.toks) (fun b u e => Heap.get?_push_of_some _ e) (Nat.le_refl _) ?_, rfl, q _ hf⟩
  exact ⟨z, us, r, ⟨_, Heap.get?_push_size _ rfl, rfl, _, rfl⟩⟩
theorem pe_lst (h : PA X es t) : PE X (.List es pos) (tLst t) := by
  intro pins s σ H Q I hq
  refine wpAny_List_spliced (thn (h pos pins s σ H _ I hq) fun us s1 ⟨xs, H1, I1, r, z, q⟩ => ⟨by rw [← r.length]; exact z, ?_⟩)
  have hf : H1 s1.heap.objs.size = none := I1.hok.fresh (Nat.le_refl _)
  refine ⟨.ref s1.heap.objs.size, upd H1 s1.heap.objs.size (.lst xs), I1.laid (t' := s1.toks) (fun b u e => Heap.get?_push_of_some _ e) (Nat.le_refl _) ?_, rfl, q _ hf⟩
  exact ⟨z, us, 0, r, Heap.get?_push_size _ rfl⟩
end
abbrev Sp := List V → Hp → VK → XK → Prop
abbrev CXT := List Env → Hp → Shared → XK → Value → Shared → Prop
structure Env0 (P : Program) (w : World) (K : PySem.W.Frag) (mg : Str → Option Value) (base : Heap) (A : Around) (outer : List Env) (s : Shared) (H : Hp) : Prop where
  frames : A.frames = some outer
  mod : Mod K mg base
  bs : ∀ b o, base.get? b = some o → s.heap.get? b = some o ∧ H b = none
  bsz : base.objs.size ≤ s.heap.objs.size
  funs : s.heap.FunFrames base outer
  frf : ∀ b ∈ frs outer, H b = none
  hok : HOk P w H s.heap
  bare : AllBare s.gens
def CE (outer : List Env) (P : Program) (w : World) (H : Hp) (s : Shared) (Q : VK) (u : Value) (s' : Shared) : Prop :=
  ∃ v H', s'.os = s.os ∧ AllBare s'.gens ∧ Un (frs outer) [] H H' s.heap s'.heap ∧ HOk P w H' s'.heap ∧ RelV v u ∧ Q v H'
def CR (CX : CXT) (outer : List Env) (P : Program) (w : World) (H : Hp) (s : Shared) (Q : VK) (E : XK) (r : Result) (s' : Shared) : Prop :=
  match r with
  | .ok (.ret u) => CE outer P w H s Q u s'
  | .ok _ => False
  | .error e => CX outer H s E e s'
structure FnOk (P : Program) (w : World) (K : PySem.W.Frag) (mg : Str → Option Value) (base : Heap) (CX : CXT) (k : Nat) (f : Addr) (fd : FuncData) (ps : List Str) (sp : Sp) : Prop where
  len : ∀ vs H Q E, sp vs H Q E → vs.length = ps.length
  run : ∀ (A : Around) (outer : List Env) (s : Shared) (H : Hp) (args : Args) (us : List Value) (vs : List V) (Q : VK) (E : XK), Room k A → Env0 P w K mg base A outer s H → BindsTo s fd args (ps.zip us) → Vals vs us → sp vs H Q E →
    codeAny (model P w) A (.call (.ref f) args) (CR CX outer P w H s Q E) s
theorem FnOk.mono {P : Program} {w : World} {K : PySem.W.Frag} {mg : Str → Option Value} {base : Heap} {CX : CXT} {j k : Nat} {f : Addr} {fd : FuncData} {ps : List Str} {sp : Sp} (F : FnOk P w K mg base CX j f fd ps sp) (h : j ≤ k) :
    FnOk P w K mg base CX k f fd ps sp := ⟨F.len, fun A outer s H args us vs Q E hr => F.run A outer s H args us vs Q E (hr.mono h)⟩
theorem FnOk.imp {P : Program} {w : World} {K : PySem.W.Frag} {mg : Str → Option Value} {base : Heap} {CX : CXT} {k : Nat} {f : Addr} {fd : FuncData} {ps : List Str} {sp sp' : Sp} (F : FnOk P w K mg base CX k f fd ps sp)
    (h : ∀ vs H Q E, sp' vs H Q E → sp vs H Q E) : FnOk P w K mg base CX k f fd ps sp' :=
  ⟨fun vs H Q E q => F.len vs H Q E (h _ _ _ _ q), fun A outer s H args us vs Q E hr he hb hv hs => F.run A outer s H args us vs Q E hr he hb hv (h _ _ _ _ hs)⟩
theorem Env0.in1 {P : Program} {w : World} {K : PySem.W.Frag} {mg : Str → Option Value} {base : Heap} {A : Around} {outer : List Env} {s : Shared} {H : Hp} (e : Env0 P w K mg base A outer s H) :
    Env0 P w K mg base A.in1 outer s H := ⟨e.frames, e.mod, e.bs, e.bsz, e.funs, e.frf, e.hok, e.bare⟩
section
variable {X : Cx} {pins : List (Addr × Obj)} {σ : St} {H : Hp} {s s' : Shared}
theorem Inv.env0 (I : Inv X pins σ H s) : Env0 X.prog X.w X.K X.mg X.base X.A X.stack s H :=
  ⟨I.ok.frames, I.ok.mod, I.bs, Nat.le_trans I.ok.bsz I.sz, I.stack, I.stkFree, I.hok, I.bare⟩
theorem Inv.after {Q : VK} {u : Value} (I : Inv X pins σ H s) (h : CE X.stack X.prog X.w H s Q u s') : EP X pins σ Q u s' := by
  obtain ⟨v, H', os, bare, un, hok, r, q⟩ := h
  obtain ⟨hh, g, d, t, os'⟩ := s'
  obtain rfl : os' = s.os := os
  exact ⟨v, H', I.call (h' := hh) (g' := g) (d' := d) (t' := t) (ch := []) un hok bare (fun b z => absurd z (by simp)), r, q⟩
end
def tCall (sp : Sp) (dvs : List V) (E : XK) (t : TA) : TE := fun σ H Q => t σ H fun vs H1 => sp (vs ++ dvs) H1 Q E
def Binds (K : PySem.W.Frag) (fd : FuncData) (ps : List Str) (ds : List Value) : Prop :=
  ∀ (s : Shared) (us : List Value), K.In s.heap → (us ++ ds).length = ps.length → BindsTo s fd ⟨us, []⟩ (ps.zip (us ++ ds))
theorem Binds.all {K : PySem.W.Frag} {fd : FuncData} {ps : List Str} (h : ∀ us : List Value, us.length = ps.length → bindArgs fd ⟨us, []⟩ = pure (ps.zip us)) : Binds K fd ps [] := fun s us _ hl => by
  rw [List.append_nil] at hl ⊢
  exact .of_eq (h us hl)
def Passes (CX : CXT) (X : Cx) (E : XK) : Prop := ∀ (pins : List (Addr × Obj)) (σ : St) (H : Hp) (s : Shared) (e : Value) (s' : Shared), Inv X pins σ H s → CX X.stack H s E e s' → X.xe e s'
section
variable {X : Cx} {CX : CXT} {k : Nat} {f C : Addr} {fd : FuncData} {ps : List Str} {sp : Sp} {dvs : List V} {ds : List Value} {E : XK} {x m : Str} {p pos apos : Pos} {e o : Expr} {es : List Expr} {ta : TE} {t : TA}
theorem run_fn {pins : List (Addr × Obj)} {σ : St} {H : Hp} {s : Shared} {Q : VK} {us : List Value} {vs : List V} (F : FnOk X.prog X.w X.K X.mg X.base CX k f fd ps sp) (hr : Room k X.A) (hb : Binds X.K fd ps ds) (hd : Vals dvs ds) (hx : Passes CX X E)
    (I : Inv X pins σ H s) (r : Vals vs us) (h : sp (vs ++ dvs) H Q E) : wpAny (model X.prog X.w) X.A (call (.ref f) us) (EP X pins σ Q) X.xe s := by
  have r2 : Vals (vs ++ dvs) (us ++ ds) := r.append hd
  have hl : (us ++ ds).length = ps.length := by rw [← r2.length]; exact F.len _ _ _ _ h
  refine wpAny_call (codeAny_mono (F.run X.A X.stack s H ⟨us, []⟩ (us ++ ds) (vs ++ dvs) Q E hr I.env0 (hb s us I.kIn hl) r2 h) fun r s' hq => ?_)
  cases r with
  | error e => exact hx pins σ H s e s' I hq
  | ok fl =>
    cases fl with
    | ret u => exact I.after hq
    | next => exact False.elim hq
    | brk => exact False.elim hq
    | cont => exact False.elim hq
theorem pe_call (F : FnOk X.prog X.w X.K X.mg X.base CX k f fd ps sp) (hr : Room k X.A) (hg : Gl X x) (hm : X.mg x = some (.ref f)) (hk : PySem.W.keepIn X.K (.ref f) = true) (hb : Binds X.K fd ps ds) (hd : Vals dvs ds) (hx : Passes CX X E)
    (ha : PA X (e :: es) t) (hdb : (x == ("__debug__" : Str)) = false := by decide) (he : starEach (e :: es) X.env = (false, eval e X.env) :: starEach es X.env := by rfl) (hpl : (backTo pos (starEach es X.env)).any (·.1) = false := by rfl) :
    PE X (.Call (.Name x p) (e :: es) [] pos) (tCall sp dvs E t) := by
  intro pins s σ H Q I h
  refine wpAny_Call_Name_kw (ld_glob I hg hm ?_ hdb)
  refine PySem.W.callWith_K (h₀ := X.base) I.ok.mod.kin hk (thn (ha pos pins s σ H _ I h) fun us s1 ⟨vs, H1, I1, r, q⟩ => ⟨I1.kIn, ?_⟩) he hpl
  exact run_fn F hr hb hd hx I1 r q
end
section
variable {X : Cx} {CX : CXT} {k : Nat} {f C : Addr} {fd : FuncData} {ps ks : List Str} {sp : Sp} {E : XK} {x m : Str} {p pos apos kpos : Pos} {e o : Expr} {es : List Expr} {kws : List Keyword} {te ta : TE} {t tk : TA} {nm : Option Str}
variable {g : List Value → List Value → List Value} {gV : List V → List V → List V}
end
structure FnScope (N P : List Str) (sc : Scope) : Prop where
  kind : sc.kind = .function
  co : sc.isCoroutine = false
  gen : sc.isGenerator = false
  nd : N.Nodup
  pre : N.take P.length = P
  par : ∀ x ∈ P, sc.names.lookup x = some .local ∨ sc.names.lookup x = some .cell
  nofree : ∀ y ∈ sc.names, y.2 ≠ .free
theorem bindL_out {kindOf : Str → Option NameKind} {x : Str} : ∀ {binds : List (Str × Value)} {m : Str → Option Value}, (∀ v, (x, v) ∉ binds) → bindL kindOf binds m x = m x
  | [], _, _ => rfl
  | (n, v) :: r, m, h => by
    unfold bindL
    rw [bindL_out fun w hw => h w (List.mem_cons_of_mem _ hw)]
    split
    · have : x ≠ n := by rintro rfl; exact h v List.mem_cons_self
      simp [this]
    · rfl
theorem bindC_out {kindOf : Str → Option NameKind} {x : Str} : ∀ {binds : List (Str × Value)} {m : Str → Option Value}, (∀ v, (x, v) ∉ binds) → bindC kindOf binds m x = m x
  | [], _, _ => rfl
  | (n, v) :: r, m, h => by
    unfold bindC
    rw [bindC_out fun w hw => h w (List.mem_cons_of_mem _ hw)]
    split
    · rfl
    · have : x ≠ n := by rintro rfl; exact h v List.mem_cons_self
      simp [this]
theorem bindL_get {kindOf : Str → Option NameKind} {x : Str} {v : Value} : ∀ {P : List Str} {vs : List Value} {i : Nat} {m : Str → Option Value}, P.Nodup → P[i]? = some x → vs[i]? = some v → kindOf x = some .local →
    bindL kindOf (P.zip vs) m x = some v
  | [], _, _, _, _, h, _, _ => by simp at h
  | _ :: _, [], _, _, _, _, h, _ => by simp at h
  | p :: P, w :: vs, 0, m, nd, h1, h2, hk => by
    simp at h1 h2; subst h1; subst h2
    show bindL kindOf ((p, w) :: P.zip vs) m p = _
    unfold bindL
    rw [bindL_out fun v hv => (List.nodup_cons.mp nd).1 (List.of_mem_zip hv).1, if_pos hk]
    simp
  | p :: P, w :: vs, i + 1, m, nd, h1, h2, hk => by
    show bindL kindOf ((p, w) :: P.zip vs) m x = _
    unfold bindL
    exact bindL_get (i := i) (List.nodup_cons.mp nd).2 (by simpa using h1) (by simpa using h2) hk
theorem bindC_get {kindOf : Str → Option NameKind} {x : Str} {v : Value} : ∀ {P : List Str} {vs : List Value} {i : Nat} {m : Str → Option Value}, P.Nodup → P[i]? = some x → vs[i]? = some v → kindOf x ≠ some .local →
    bindC kindOf (P.zip vs) m x = some v
  | [], _, _, _, _, h, _, _ => by simp at h
  | _ :: _, [], _, _, _, _, h, _ => by simp at h
  | p :: P, w :: vs, 0, m, nd, h1, h2, hk => by
    simp at h1 h2; subst h1; subst h2
    show bindC kindOf ((p, w) :: P.zip vs) m p = _
    unfold bindC
    rw [bindC_out fun v hv => (List.nodup_cons.mp nd).1 (List.of_mem_zip hv).1, if_neg hk]
    simp
  | p :: P, w :: vs, i + 1, m, nd, h1, h2, hk => by
    show bindC kindOf ((p, w) :: P.zip vs) m x = _
    unfold bindC
    exact bindC_get (i := i) (List.nodup_cons.mp nd).2 (by simpa using h1) (by simpa using h2) hk
def start (N : List Str) (vs : List V) : St := vs.map some ++ List.replicate (N.length - vs.length) none
def cxOf (CX : CXT) (P : Program) (w : World) (K : PySem.W.Frag) (mg : Str → Option Value) (base : Heap) (N : List Str) (qual : Str) (scope : Scope) (f : Addr) (cd : Value) (A : Around) (outer : List Env) (s : Shared) (H : Hp) (E : XK) : Cx where
  prog := P
  w := w
  K := K
  mg := mg
  base := base
  A := A.deeper (envOfC qual scope s.heap.objs.size f cd)
  N := N
  s₀ := s
  H₀ := H
  env := envOfC qual scope s.heap.objs.size f cd
  outer := outer
  stack := envOfC qual scope s.heap.objs.size f cd :: outer
  ex := []
  calm := true
  fn := fun _ => true
  pn := []
  xe := fun e s' => wpAny (model P w) (A.deeper (envOfC qual scope s.heap.objs.size f cd)) (leaving (envOfC qual scope s.heap.objs.size f cd) e) (fun _ s'' => CX outer H s E e s'') (fun e' s'' => CX outer H s E e' s'') s'
theorem cell_has {sc : Scope} {n : Nat} {x : Str} (h : sc.names.lookup x = some .cell) : ∃ c, (cellsFrom n sc.names []).lookup x = some c := by
  have q := PySem.W.cellsFrom_some sc.names n [] (.inl h)
  exact Option.isSome_iff_exists.mp q
theorem inv_start {CX : CXT} {P : Program} {w : World} {K : PySem.W.Frag} {mg : Str → Option Value} {base : Heap} {N ps : List Str} {qual : Str} {scope : Scope} {f : Addr} {cd : Value} {A : Around} {outer : List Env} {s s1 : Shared} {H : Hp} {E : XK} {us : List Value} {vs : List V}
    (S : FnScope N ps scope) (hd : A.handled = none) (e0 : Env0 P w K mg base A outer s H) (hl : vs.length = ps.length) (r : Vals vs us)
    (x : InCallC s s.heap.objs.size (bindL (envOfC qual scope s.heap.objs.size f cd).kindOf (ps.zip us) fun _ => none) (cellsFrom (s.heap.objs.size + 1) scope.names []) (bindC (envOfC qual scope s.heap.objs.size f cd).kindOf (ps.zip us) fun _ => none) s1) :
    Inv (cxOf CX P w K mg base N qual scope f cd A outer s H E) [] (start N vs) H s1 := by
  have hpl : ps.length ≤ N.length := by have := congrArg List.length S.pre; rw [List.length_take] at this; omega
  obtain ⟨h1, tk, rfl, hk⟩ := x.done
  have noA : ∀ b : Addr, b ∉ (cxOf CX P w K mg base N qual scope f cd A outer s H E).ex := fun b z => absurd (show b ∈ ([] : List Addr) from z) (by simp)
  refine ⟨⟨e0.mod, S.kind, rfl, rfl, Nat.le_refl _, fun y z c h1 h2 => ?_, fun y hy => ?_, fun y c _ h => ?_, fun _ => hd, Around.frames_deeper e0.frames, .inr ⟨rfl, rfl⟩, fun b z => absurd z (noA b), e0.bs, e0.bsz, fun b _ _ => noA b, fun b z => absurd z (noA b), e0.funs, e0.frf⟩,
    rfl, e0.bare, Un.kept hk, ⟨_, x.toInCall.ns, fun i y v h1 h2 h3 => ?_⟩, fun y c h => ⟨_, x.cell y c h⟩, e0.hok.fresh (Nat.le_refl _), fun y c h => ?_, fun p hp => absurd (show p ∈ ([] : List (Addr × Obj)) from hp) (by simp), e0.hok.kept hk, ?_⟩
  · exact name_of_addr x.apart (PySem.mem_of_lookup h1) (PySem.mem_of_lookup h2)
  · have hy : scope.names.lookup y = some .cell ∨ scope.names.lookup y = some .free := hy
    rcases hy with hy | hy
    · exact cell_has hy
    · exact absurd rfl (S.nofree _ (PySem.mem_of_lookup hy))
  · exact Nat.le_of_lt (x.above y c (PySem.mem_of_lookup h))
  · have hi : i < vs.length := by
      unfold start at h2
      by_cases hi : i < vs.length
      · exact hi
      · rw [List.getElem?_append_right (by simpa using hi)] at h2
        rw [List.getElem?_replicate] at h2
        split at h2 <;> cases h2
    have ha : vs[i]? = some v := by
      unfold start at h2
      rw [List.getElem?_append_left (by simpa using hi), List.getElem?_map] at h2
      cases e : vs[i]? with
      | none => rw [e] at h2; cases h2
      | some a => rw [e] at h2; cases h2; rfl
    obtain ⟨u, hu, rv⟩ := r.get ha
    have hp : ps[i]? = some y := by
      rw [← S.pre, List.getElem?_take_of_lt (by omega)]; exact h1
    have ndP : ps.Nodup := by rw [← S.pre]; exact S.nd.sublist (List.take_sublist _ _)
    refine ⟨u, rv, ?_⟩
    rcases S.par y (List.mem_of_getElem? hp) with k | k
    · exact .inl ⟨k, bindL_get ndP hp hu k⟩
    · obtain ⟨c, e⟩ := cell_has (n := s.heap.objs.size + 1) k
      refine .inr ⟨.inl k, c, e, ?_⟩
      have q := x.cell y c e
      rw [bindC_get ndP hp hu (by show scope.names.lookup y ≠ _; rw [k]; decide)] at q
      exact q
  · exact e0.hok.fresh (Nat.le_of_lt (x.above y c (PySem.mem_of_lookup h)))
  · unfold start
    show _ = N.length
    rw [List.length_append, List.length_map, List.length_replicate]
    omega
theorem fn_of {CX : CXT} {P : Program} {w : World} {K : PySem.W.Frag} {mg : Str → Option Value} {base : Heap} {k : Nat} {f : Addr} {name qual : Str} {params : Arguments} {body : List Stmt} {scope : Scope} {dV kV doc pm cdv ct oc : Value} {an od : Option Addr}
    {osl : Array (Option Value)} {N ps : List Str} {sp : Sp} (lk : K.lookup f = some ⟨oc, od, .func (PySem.W.fnOf name qual params body scope dV kV doc pm an cdv ct), osl⟩) (hcd : PySem.W.codeIn K cdv qual = true) (S : FnScope N ps scope)
    (len : ∀ vs H Q E, sp vs H Q E → vs.length = ps.length)
    (hbody : ∀ (A : Around) (outer : List Env) (s : Shared) (H : Hp) (vs : List V) (Q : VK) (E : XK), Room k (A.deeper (envOfC qual scope s.heap.objs.size f cdv)) → sp vs H Q E →
      ∃ t, PSs (cxOf CX P w K mg base N qual scope f cdv A outer s H E) body t ∧ t { nx := fun _ H' => Q .non H', rt := Q } (start N vs) H) :
    FnOk P w K mg base CX (k + 1) f (PySem.W.fnOf name qual params body scope dV kV doc pm an cdv ct) ps sp := by
  refine ⟨len, fun A outer s H args us vs Q E hr e0 hb r hsp => ?_⟩
  have hl := len _ _ _ _ hsp
  have KX : K.In s.heap := e0.mod.kin.keeps fun b o e => (e0.bs b o e).1
  have lim : s.heap.NoLimit := e0.mod.nolimit.keeps fun b o e => (e0.bs b o e).1
  have hkind : ∀ y ∈ ps.zip us, scope.names.lookup y.1 = some .local ∨ (scope.names.lookup y.1 = some .cell ∧ ((cellsFrom (s.heap.objs.size + 1) scope.names []).lookup y.1).isSome = true) := fun ⟨n, v⟩ hy => by
    rcases S.par n (List.of_mem_zip hy).1 with q | q
    · exact .inl q
    · exact .inr ⟨q, PySem.W.cellsFrom_some _ _ _ (.inl q)⟩
  refine codeAny_call_function hr.depth (KX _ _ lk) rfl S.co S.gen rfl (PySem.W.codeRec_of KX hcd) (hb _ _ _ _ ?_)
  refine wpAny_newFunctionEnv_cells S.kind hkind fun env he s1 x => ?_
  subst he
  refine ⟨lim.keeps x.toInCall.keep, codeAny_func ?_⟩
  obtain ⟨t, ht, hq⟩ := hbody A outer s H vs Q E (hr.deeper _) hsp
  have I : Inv (cxOf CX P w K mg base N qual scope f cdv A outer s H E) [] (start N vs) H s1 := inv_start S hr.hd e0 hl r x
  refine wpAny_mono (ht [] s1 (start N vs) H _ I hq) (fun fl s' hs => ?_) fun e s' hs => hs
  have fin : ∀ {σ' : St} {H' : Hp} {v : V} {u : Value}, Inv (cxOf CX P w K mg base N qual scope f cdv A outer s H E) [] σ' H' s' → RelV v u → Q v H' → CE outer P w H s Q u s' :=
    fun {σ' H' v u} J rv q => ⟨v, H', J.os, J.bare, J.base, J.hok, rv, q⟩
  cases fl with
  | ret u =>
    obtain ⟨v, σ', H', J, rv, q⟩ := hs
    exact fin J rv q
  | next =>
    obtain ⟨σ', H', J, q⟩ := hs
    exact fin (v := V.non) (u := Value.none) J rfl q
  | brk =>
    obtain ⟨_, _, _, q⟩ := hs
    exact False.elim q
  | cont =>
    obtain ⟨_, _, _, q⟩ := hs
    exact False.elim q
end L2
namespace L2
open PySem PySem.Spec PyProof.Rows
section
variable {X : Cx} {x : Str} {p pos : Pos} {e : Expr} {es : List Expr} {t : TA} {id T : String} {r : List V → Hp → VK → Prop}
def tCB (r : List V → Hp → VK → Prop) (t : TA) : TE := fun σ H Q => t σ H fun vs H1 => r vs H1 Q
theorem pe_callB (hc : CallR X (.builtin id) r) (hg : Gl X x) (hm : X.mg x = none) (hv : bootBuiltins x = some (.builtin id)) (ha : PA X (e :: es) t) (hn : x ≠ "__name__" := by decide) (hdb : (x == ("__debug__" : Str)) = false := by decide)
    (he : starEach (e :: es) X.env = (false, eval e X.env) :: starEach es X.env := by rfl) (hpl : (backTo pos (starEach es X.env)).any (·.1) = false := by rfl) : PE X (.Call (.Name x p) (e :: es) [] pos) (tCB r t) := by
  intro pins s σ H Q I h
  refine wpAny_Call_Name_kw (ld_blt I hg hm hv ?_ hn hdb)
  exact PyProof.Rows.callWith_builtin1 (thn (ha pos pins s σ H _ I h) fun us s1 ⟨vs, H1, I1, r1, q1⟩ => hc pins s1 σ H1 vs us Q I1 r1 q1) he hpl
theorem pe_callTy (hc : CallR X (.type T) r) (hg : Gl X x) (hm : X.mg x = none) (hv : bootBuiltins x = some (.type T)) (ha : PA X (e :: es) t) (hn : x ≠ "__name__" := by decide) (hdb : (x == ("__debug__" : Str)) = false := by decide)
    (he : starEach (e :: es) X.env = (false, eval e X.env) :: starEach es X.env := by rfl) (hpl : (backTo pos (starEach es X.env)).any (·.1) = false := by rfl) : PE X (.Call (.Name x p) (e :: es) [] pos) (tCB r t) := by
  intro pins s σ H Q I h
  refine wpAny_Call_Name_kw (ld_blt I hg hm hv ?_ hn hdb)
  exact PyProof.Rows.callWith_type1 (thn (ha pos pins s σ H _ I h) fun us s1 ⟨vs, H1, I1, r1, q1⟩ => hc pins s1 σ H1 vs us Q I1 r1 q1) he hpl
end
end L2
namespace HT
open PySem PyProof.Rows
def lexLt : List Int → List Int → Bool
  | [], [] => false
  | [], _ :: _ => true
  | _ :: _, [] => false
  | x :: xs, y :: ys => if x = y then lexLt xs ys else decide (x < y)
section
open PySem.SeqAt
open PySem.AutoSeq1 (wpAny_loadPart')
open PySem.MeetsSeq PySem.MeetsSeq2 PySem.MeetsSeq3
end
section
variable {prog : Program} {w : World} {A : Around} {E : Value → Shared → Prop} {s : Shared}
theorem cat_tup {t b : Addr} {vs ws : List Value} {Q : Value → Shared → Prop} (ht : IsTup s.heap t vs.toArray) (hb : IsTup s.heap b ws.toArray) (hv : vs ≠ [])
    (h1 : ws = [] → Q (.ref t) s) (h2 : ws ≠ [] → Q (.ref s.heap.objs.size) { s with heap := s.heap.push { cls := .type "tuple", data := .seq (vs ++ ws).toArray } })
    (hsz : vs.length + ws.length ≤ sizeLine) : wpAny (model prog w) A (binaryOp .Add (.ref t) (.ref b)) Q E s := by
  obtain ⟨⟨cls, dd, data, sl⟩, ho, hc, n, hd⟩ := id ht
  obtain ⟨⟨cls2, dd2, data2, sl2⟩, ho2, hc2, n2, hd2⟩ := id hb
  simp only at hc hd hc2 hd2
  subst hc hd hc2 hd2
  have e : vs.toArray ++ ws.toArray = (vs ++ ws).toArray := by simp
  by_cases hw : ws = []
  · exact concat_meets ⟨_, ho, rfl⟩ ⟨_, ho2, rfl⟩ noFill_tuple_add seq_tuple_add PySem.F.slot_tuple_add PySem.F.entry_tuple_add (PySem.F.args_tuple_add_2 _ _)
      (tuple_addW1 t b vs.toArray ws.toArray n n2 dd dd2 sl sl2 (by simpa using hv) (by simp [hw])) ⟨ho, ho2, h1 hw⟩
  · refine concat_meets ⟨_, ho, rfl⟩ ⟨_, ho2, rfl⟩ noFill_tuple_add seq_tuple_add PySem.F.slot_tuple_add PySem.F.entry_tuple_add (PySem.F.args_tuple_add_2 _ _)
      (tuple_addW2 t b vs.toArray ws.toArray n n2 dd dd2 sl sl2 (by simpa using hv) (by simpa using hw) (by rw [List.size_toArray, List.size_toArray]; exact hsz)) ⟨ho, ho2, ?_⟩
    rw [e]
    exact h2 hw
def sIx (n d : Nat) : Option Int → Nat
  | none => d
  | some v => if v < 0 then (v + (n : Int)).toNat else min v.toNat n
theorem sIx_le (n d : Nat) (hd : d ≤ n) (o : Option Int) : sIx n d o ≤ n := by
  cases o with
  | none => exact hd
  | some v =>
    show (if v < 0 then (v + (n : Int)).toNat else min v.toNat n) ≤ n
    by_cases hv : v < 0
    · rw [if_pos hv]; omega
    · rw [if_neg hv]; exact Nat.min_le_right _ _
theorem clip_eq (v : Int) (n d : Nat) : (if v < 0 then max (v + (n : Int)) 0 else min v (n : Int)) = ((sIx n d (some v) : Nat) : Int) := by
  show (if v < 0 then max (v + (n : Int)) 0 else min v (n : Int)) = (((if v < 0 then (v + (n : Int)).toNat else min v.toNat n) : Nat) : Int)
  by_cases hv : v < 0
  · simp only [if_pos hv]; omega
  · simp only [if_neg hv]; omega
theorem adjust_gen (lo hi : Option Int) (n : Nat) : Builtin.Slice.sliceAdjust lo hi 1 (n : Int) = (((sIx n 0 lo : Nat) : Int), ((sIx n n hi : Nat) : Int)) := by
  have h1 : ¬ ((1 : Int) < 0) := by omega
  unfold Builtin.Slice.sliceAdjust
  simp only [h1, if_false]
  refine Prod.ext ?_ ?_
  · cases lo with
    | none => rfl
    | some v => exact clip_eq v n 0
  · cases hi with
    | none => rfl
    | some v => exact clip_eq v n n
theorem places_gen (i j : Nat) : Builtin.Slice.slicePlaces (i : Int) (j : Int) 1 = j - i := by
  unfold Builtin.Slice.slicePlaces
  have h1 : (1 : Int) > 0 := by omega
  simp only [h1, if_true, Int.ediv_one]
  split <;> omega
theorem slicePart_ {v : Value} {o : Option Int} {Q : Option Int → Shared → Prop} (p : IsPart v o) (h : Q o s) : wpAny (model prog w) A (Builtin.Slice.slicePartIndex v) Q E s := by
  cases p with
  | none => exact slicePart_none h
  | int i t => exact slicePart_int h
theorem sliceApplied_gen {sl : Addr} {vl vu : Value} {lo hi : Option Int} {n : Nat} {Q : Int × Int × Nat → Shared → Prop} (hs : s.heap.IsSliceOf sl vl vu .none) (pl : IsPart vl lo) (pu : IsPart vu hi)
    (h : Q (((sIx n 0 lo : Nat) : Int), 1, sIx n n hi - sIx n 0 lo) s) : wpAny (model prog w) A (Builtin.Slice.sliceApplied (.ref sl) (pure (n : Int))) Q E s := by
  obtain ⟨os, hos, hcs, hds⟩ := id hs
  unfold Builtin.Slice.sliceApplied Builtin.Slice.sliceFields
  refine wpAny_bind (wpAny_bind (wpAny_field hos hds (x := vl) rfl (wpAny_bind (wpAny_field hos hds (x := vu) rfl (wpAny_bind (wpAny_field hos hds (x := .none) rfl (wpAny_pure ?_)))))))
  refine wpAny_bind (slicePart_none ?_)
  show wpAny _ _ (if ((1 : Int) == 0) = true then _ else _) _ _ s
  rw [if_neg (by decide)]
  refine wpAny_bind (slicePart_ pl (wpAny_bind (slicePart_ pu (wpAny_bind (wpAny_pure ?_)))))
  show wpAny _ _ (match Builtin.Slice.sliceAdjust lo hi 1 (n : Int) with | (lo, hi) => pure (lo, (1 : Int), Builtin.Slice.slicePlaces lo hi 1)) _ _ s
  rw [adjust_gen lo hi n]
  show wpAny _ _ (pure (((sIx n 0 lo : Nat) : Int), (1 : Int), Builtin.Slice.slicePlaces ((sIx n 0 lo : Nat) : Int) ((sIx n n hi : Nat) : Int) 1)) _ _ s
  rw [places_gen]
  exact wpAny_pure h
theorem pick_gen (xs : Array Value) (i k : Nat) : ((List.range k).filterMap fun (m : Nat) => xs[((i : Int) + (m : Int) * 1).toNat]?).toArray = ((xs.toList.drop i).take k).toArray := by
  have e : (fun (m : Nat) => xs[((i : Int) + (m : Int) * 1).toNat]?) = fun m => xs[i + m]? := by
    funext m
    have : ((i : Int) + (m : Int) * 1).toNat = i + m := by omega
    rw [this]
  rw [e]
  have := pick_run xs i k
  rw [List.filterMap_map] at this
  have e2 : ((fun x => xs[x]?) ∘ fun x => i + x) = fun m => xs[i + m]? := rfl
  rw [e2] at this
  rw [this]
theorem getItem_tuple_cut {t sl : Addr} {items : Array Value} {vl vu : Value} {lo hi : Option Int} {Q : Value → Shared → Prop} (ht : IsTup s.heap t items) (hs : s.heap.IsSliceOf sl vl vu .none) (pl : IsPart vl lo) (pu : IsPart vu hi)
    (hw : ¬ (sIx items.size 0 lo = 0 ∧ sIx items.size items.size hi = items.size))
    (h : Q (.ref s.heap.objs.size) { s with heap := s.heap.push { cls := .type "tuple", data := .seq ((items.toList.drop (sIx items.size 0 lo)).take (sIx items.size items.size hi - sIx items.size 0 lo)).toArray } })
    (hsz : items.size ≤ sizeLine) : wpAny (model prog w) A (getItem (.ref t) (.ref sl)) Q E s := by
  have htake : sizeOk (.seq ((items.toList.drop (sIx items.size 0 lo)).take (sIx items.size items.size hi - sIx items.size 0 lo)).toArray) := by
    show ((items.toList.drop (sIx items.size 0 lo)).take (sIx items.size items.size hi - sIx items.size 0 lo)).toArray.size ≤ sizeLine
    rw [List.size_toArray, List.length_take, List.length_drop, Array.length_toList]
    omega
  have hj : sIx items.size items.size hi ≤ items.size := sIx_le _ _ (Nat.le_refl _) hi
  obtain ⟨os, hos, hcs, hds⟩ := id hs
  have hTs : s.TypeIs (.ref sl) "slice" := ⟨os, hos, hcs⟩
  unfold getItem
  try with_reducible refine wpAny_holding ?_
  first | refine wpAny_bind (wpAny_pure ?_) | skip
  refine wpAny_bind (wpAny_sequenceKey ht.typeIs (by decide) ?_)
  refine wpAny_bind (wpAny_callSpecial?_slot (name := Str.ofString "__getitem__") ht.typeIs PyProof.Rows.slot_tuple_getitem
    (wpAny_call_entry PyProof.Rows.slot_tuple_getitem ht.typeIs entry_tuple_getitem ?_ (args_tuple_getitem _ _)))
  show wpAny _ _ (Builtin.Tuple.tupleItemsOf (.ref t) >>= _) _ _ s
  refine wpAny_bind (tupleItemsOf_ ht ?_)
  refine wpAny_bind (wpAny_typeOf hTs ?_)
  rw [if_pos (by decide)]
  refine wpAny_bind (sliceApplied_gen hs pl pu ?_)
  have hno : ¬ ((((sIx items.size 0 lo : Nat) : Int) == 0 && (1 : Int) == 1 && (sIx items.size items.size hi - sIx items.size 0 lo) == items.size) = true) := by
    intro q
    rw [Bool.and_eq_true, Bool.and_eq_true] at q
    have q1 : ((sIx items.size 0 lo : Nat) : Int) = 0 := eq_of_beq q.1.1
    have q2 : sIx items.size items.size hi - sIx items.size 0 lo = items.size := eq_of_beq q.2
    exact hw ⟨by omega, by omega⟩
  show wpAny _ _ (if (((sIx items.size 0 lo : Nat) : Int) == 0 && (1 : Int) == 1 && (sIx items.size items.size hi - sIx items.size 0 lo) == items.size) = true then _ else _) _ _ s
  rw [if_neg hno, pick_gen]
  first
    | exact wpAny_bind (m := Builtin.Tuple.tupleExact _) (wpAny_newObj_type (wpAny_pure ⟨_, rfl, wpAny_pure h⟩) htake)
    | exact wpAny_bind (m := Builtin.Tuple.tupleExact _) (wpAny_newObj_type (wpAny_bind (wpAny_pure (wpAny_pure ⟨_, rfl, wpAny_pure h⟩))) htake)
    | exact wpAny_bind (wpAny_bind (m := Builtin.Tuple.tupleExact _) (wpAny_newObj_type (wpAny_pure (wpAny_pure ⟨_, rfl, wpAny_pure h⟩)) htake))
    | exact wpAny_bind (wpAny_bind (m := Builtin.Tuple.tupleExact _) (wpAny_newObj_type (wpAny_pure ⟨_, rfl, wpAny_pure h⟩) htake))
end
end HT
namespace L2
open PySem PySem.Spec PyProof.Rows
abbrev TO := St → Hp → (Option Int → Hp → Prop) → Prop
def PO (X : Cx) (e : Option Expr) (t : TO) : Prop :=
  ∀ (pins : List (Addr × Obj)) (s : Shared) (σ : St) (H : Hp) (Q : Option Int → Hp → Prop), Inv X pins σ H s → t σ H Q →
    wpAny (model X.prog X.w) X.A (evalPart e X.env) (fun u s' => ∃ o H', Inv X pins σ H' s' ∧ IsPart u o ∧ Q o H') X.xe s
def tNoPart : TO := fun _ H Q => Q none H
def tPart (t : TE) : TO := fun σ H Q => t σ H fun x H1 => ∃ i, x = .int i ∧ Q (some i) H1
section
variable {X : Cx} {e : Expr} {te : TE} {lo hi : Option Expr} {tl th : TO} {pos p2 : Pos}
theorem po_none : PO X none tNoPart := by
  intro pins s σ H Q I h
  rw [evalPart_none]
  exact wpAny_pure ⟨none, H, I, .none, h⟩
theorem po_some (h : PE X e te) : PO X (some e) (tPart te) := by
  intro pins s σ H Q I hw
  rw [evalPart_some]
  refine thn (h pins s σ H _ I hw) fun u s1 ⟨x, H1, I1, r1, q1⟩ => ?_
  obtain ⟨i, rfl, q⟩ := q1
  obtain ⟨t, rfl⟩ := r1
  exact ⟨some i, H1, I1, .int i t, q⟩
def SlR (X : Cx) (r : V → Option Int → Option Int → Hp → VK → Prop) : Prop :=
  ∀ (pins : List (Addr × Obj)) (s : Shared) (σ : St) (H : Hp) (x : V) (v vl vu : Value) (lo hi : Option Int) (sl : Addr) (Q : VK), Inv X pins σ H s → RelV x v → s.heap.IsSliceOf sl vl vu .none → IsPart vl lo → IsPart vu hi → r x lo hi H Q →
    ∃ T id, typeLookup (.type T) "__getitem__" = pure (some (.builtin id)) ∧ s.TypeIs v T ∧ wpAny (model X.prog X.w) X.A (getItem v (.ref sl)) (EP X pins σ Q) X.xe s
theorem SlR.or {r r' : V → Option Int → Option Int → Hp → VK → Prop} (h : SlR X r) (h' : SlR X r') : SlR X (fun x lo hi H Q => r x lo hi H Q ∨ r' x lo hi H Q) := by
  intro pins s σ H x v vl vu lo hi sl Q I rx hs pl pu q
  rcases q with q | q
  · exact h pins s σ H x v vl vu lo hi sl Q I rx hs pl pu q
  · exact h' pins s σ H x v vl vu lo hi sl Q I rx hs pl pu q
def tSl (r : V → Option Int → Option Int → Hp → VK → Prop) (te : TE) (tl th : TO) : TE := fun σ H Q => te σ H fun x H1 => tl σ H1 fun l H2 => th σ H2 fun u H3 => r x l u H3 Q
theorem pe_slice {r : V → Option Int → Option Int → Hp → VK → Prop} (hr : SlR X r) (he : PE X e te) (hl : PO X lo tl) (hu : PO X hi th) : PE X (.Subscript e (.Slice lo hi none p2) pos) (tSl r te tl th) := by
  intro pins s σ H Q I h
  refine Subscript_ (thn (he pins s σ H _ I h) fun v s1 ⟨x, H1, I1, r1, q1⟩ => ?_)
  refine wpAny_Slice (thn (hl pins s1 σ H1 _ I1 q1) fun vl s2 ⟨l, H2, I2, pl, q2⟩ => thn (hu pins s2 σ H2 _ I2 q2) fun vu s3 ⟨u, H3, I3, pu, q3⟩ => ?_)
  rw [evalPart_none]
  refine wpAny_pure ?_
  have I4 : Inv X pins σ H3 { s3 with heap := s3.heap.push { cls := .type "slice", data := .fields #[vl, vu, .none] } } := I3.kept (t' := s3.toks) fun b ob q => Heap.get?_push_of_some _ q
  obtain ⟨T, id, hT, ht, hg⟩ := hr pins { s3 with heap := s3.heap.push { cls := .type "slice", data := .fields #[vl, vu, .none] } } σ H3 x v vl vu l u s3.heap.objs.size Q I4 r1 (Heap.IsSliceOf.new ..) pl pu q3
  show wpAny (model X.prog X.w) X.A (subscriptTail e (.Slice lo hi none p2) v (.ref s3.heap.objs.size)) (EP X pins σ Q) X.xe { s3 with heap := s3.heap.push { cls := .type "slice", data := .fields #[vl, vu, .none] } }
  exact tail_any (ops := [.ref s3.heap.objs.size, v]) ht hT hg (by with_unfolding_all rfl)
def cutV (xs : List V) (lo hi : Option Int) : List V := (xs.drop (HT.sIx xs.length 0 lo)).take (HT.sIx xs.length xs.length hi - HT.sIx xs.length 0 lo)
theorem cutV_length (xs : List V) (lo hi : Option Int) : (cutV xs lo hi).length ≤ xs.length := by
  unfold cutV
  rw [List.length_take, List.length_drop]
  omega
def rSlT (K : PySem.W.Frag) : V → Option Int → Option Int → Hp → VK → Prop := fun x lo hi H Q => ∃ a xs, x = .ref a ∧ SqT K H a xs ∧
  ¬ (HT.sIx xs.length 0 lo = 0 ∧ HT.sIx xs.length xs.length hi = xs.length) ∧ ∀ p, H p = none → Q (.ref p) (upd H p (.tup (cutV xs lo hi)))
theorem sl_tup : SlR X (rSlT X.K) := by
  intro pins s σ H x v vl vu lo hi sl Q I rx hs pl pu h
  obtain ⟨a, xs, rfl, hx, hw, q⟩ := h
  cases rx
  obtain ⟨its, r, ht, hz⟩ := I.tuple hx
  have hlen : its.toArray.size = xs.length := by rw [List.size_toArray]; exact r.length.symm
  refine ⟨"tuple", _, PyProof.Rows.slot_tuple_getitem.lookup, ht.typeIs, ?_⟩
  refine HT.getItem_tuple_cut ht hs pl pu (by rw [hlen]; exact hw) ?_ (by rw [hlen]; exact hz)
  rw [hlen]
  refine ⟨.ref s.heap.objs.size, _, I.laid (t' := s.toks) (o := .tup (cutV xs lo hi)) (fun b ob q => Heap.get?_push_of_some _ q) (Nat.le_refl _) ?_, rfl, q _ (I.hok.fresh (Nat.le_refl _))⟩
  exact ⟨Nat.le_trans (cutV_length xs lo hi) hz, _, (r.drop (HT.sIx xs.length 0 lo)).take (HT.sIx xs.length xs.length hi - HT.sIx xs.length 0 lo), IsTup.new _ _⟩
def rLtT (K : PySem.W.Frag) : R2 := fun x y H Q => ∃ a b ns ms, x = .ref a ∧ y = .ref b ∧ SqT K H a (ns.map V.int) ∧ SqT K H b (ms.map V.int) ∧ Q (.bl (HT.lexLt ns ms)) H
def rCatT (K : PySem.W.Frag) : R2 := fun x y H Q => ∃ a b xs ys, x = .ref a ∧ y = .ref b ∧ SqT K H a xs ∧ SqT K H b ys ∧ xs ≠ [] ∧ xs.length + ys.length ≤ sizeLine ∧
  (ys = [] → Q (.ref a) H) ∧ (ys ≠ [] → ∀ p, H p = none → Q (.ref p) (upd H p (.tup (xs ++ ys))))
theorem Vals.nil_iff {xs : List V} {us : List Value} (r : Vals xs us) : us = [] ↔ xs = [] := by
  cases r with
  | nil => simp
  | cons _ _ => simp
theorem op_catT : OpR X (binaryOp .Add) (rCatT X.K) := by
  intro pins s σ H x y v u Q I rx ry h
  obtain ⟨a, b, xs, ys, rfl, rfl, ha, hb, hx, hz, q1, q2⟩ := h
  cases rx
  cases ry
  obtain ⟨its, r1, p1, _⟩ := I.tuple ha
  obtain ⟨its2, r2, p2, _⟩ := I.tuple hb
  refine HT.cat_tup p1 p2 (fun z => hx (r1.nil_iff.mp z)) (fun z => ⟨.ref a, H, I, rfl, q1 (r2.nil_iff.mp z)⟩) (fun z => ?_) (by rw [← r1.length, ← r2.length]; exact hz)
  refine ⟨.ref s.heap.objs.size, _, I.laid (t' := s.toks) (o := .tup (xs ++ ys)) (fun b ob q => Heap.get?_push_of_some _ q) (Nat.le_refl _) ?_, rfl, q2 (fun w => z (r2.nil_iff.mpr w)) _ (I.hok.fresh (Nat.le_refl _))⟩
  exact ⟨by rw [List.length_append]; exact hz, _, r1.append r2, IsTup.new _ _⟩
end
end L2
namespace L2
open PySem PySem.Spec PyProof.Rows
def ixN (n : Nat) (i : Int) : Option Nat := if 0 ≤ i then (if i < n then some i.toNat else none) else if -(n : Int) ≤ i then some (i + n).toNat else none
def atI {α : Type} (xs : List α) (i : Int) : Option α := (ixN xs.length i).bind fun j => xs[j]?
theorem ixN_seq {n : Nat} {i : Int} {j : Nat} (h : ixN n i = some j) : seqIndex? i n = some j ∧ j < n ∧ -(n : Int) ≤ i ∧ i < n := by
  unfold ixN at h
  by_cases h0 : 0 ≤ i
  · rw [if_pos h0] at h
    by_cases h1 : i < n
    · rw [if_pos h1] at h
      have e : i.toNat = j := Option.some.inj h
      exact ⟨by rw [seqIndex_of h0 h1, e], by omega, by omega, h1⟩
    · rw [if_neg h1] at h; cases h
  · rw [if_neg h0] at h
    by_cases h1 : -(n : Int) ≤ i
    · rw [if_pos h1] at h
      have e : (i + n).toNat = j := Option.some.inj h
      exact ⟨by rw [seqIndex_neg (by omega) h1, e], by omega, h1, by omega⟩
    · rw [if_neg h1] at h; cases h
theorem atI_get {α : Type} {xs : List α} {i : Int} {v : α} (h : atI xs i = some v) : ∃ j, seqIndex? i xs.length = some j ∧ xs[j]? = some v ∧ j < xs.length ∧ -(xs.length : Int) ≤ i ∧ i < xs.length := by
  unfold atI at h
  cases e : ixN xs.length i with
  | none => rw [e] at h; cases h
  | some j =>
    rw [e] at h
    obtain ⟨h1, h2, h3, h4⟩ := ixN_seq e
    exact ⟨j, h1, h, h2, h3, h4⟩
theorem atI_nat {α : Type} {xs : List α} {j : Nat} {v : α} (h : xs[j]? = some v) : atI xs (j : Int) = some v := by
  have hj : j < xs.length := (List.getElem?_eq_some_iff.mp h).1
  have e : ixN xs.length (j : Int) = some j := by
    unfold ixN
    rw [if_pos (by omega), if_pos (by omega)]; simp
  unfold atI; rw [e]; exact h
def PlainIx (b : Expr) : Prop := ∀ o i, subscripted b false o i = operate [o, i] (getItem o i)
def IxR (X : Cx) (r : R2) : Prop :=
  ∀ (value slice : Expr) (pins : List (Addr × Obj)) (s : Shared) (σ : St) (H : Hp) (x y : V) (v u : Value) (Q : VK), Inv X pins σ H s → RelV x v → RelV y u → r x y H Q →
    subscripted slice false v u = operate [v, u] (getItem v u) → wpAny (model X.prog X.w) X.A (subscriptTail value slice v u) (EP X pins σ Q) X.xe s
def MtR (X : Cx) (id : String) (r : V → List V → Hp → VK → Prop) : Prop :=
  ∀ (pins : List (Addr × Obj)) (s : Shared) (σ : St) (H : Hp) (x : V) (xs : List V) (v : Value) (us : List Value) (Q : VK), Inv X pins σ H s → RelV x v → Vals xs us → r x xs H Q →
    wpAny (model X.prog X.w) X.A (call (.builtin id) (v :: us)) (EP X pins σ Q) X.xe s
section
variable {X : Cx} {a b : Expr} {ta tb : TE} {pos : Pos}
theorem IxR.or {r r' : R2} (h : IxR X r) (h' : IxR X r') : IxR X (fun x y H Q => r x y H Q ∨ r' x y H Q) := by
  intro value slice pins s σ H x y v u Q I rx ry q hs
  rcases q with q | q
  · exact h value slice pins s σ H x y v u Q I rx ry q hs
  · exact h' value slice pins s σ H x y v u Q I rx ry q hs
theorem MtR.or {id : String} {r r' : V → List V → Hp → VK → Prop} (h : MtR X id r) (h' : MtR X id r') : MtR X id (fun x xs H Q => r x xs H Q ∨ r' x xs H Q) := by
  intro pins s σ H x xs v us Q I rx rs q
  rcases q with q | q
  · exact h pins s σ H x xs v us Q I rx rs q
  · exact h' pins s σ H x xs v us Q I rx rs q
theorem pe_ix {r : R2} (hr : IxR X r) (ha : PE X a ta) (hb : PE X b tb) (hs : PlainIx b) : PE X (.Subscript a b pos) (tOp r ta tb) := by
  intro pins s σ H Q I h
  exact Subscript_ (binT ha hb I h fun v u s2 x y H2 I2 rx ry q => hr a b pins s2 σ H2 x y v u Q I2 rx ry q (hs _ _))
def rIxL (K : PySem.W.Frag) : R2 := fun x y H Q => ∃ p xs i v, x = .ref p ∧ y = .int i ∧ SqL K H p xs ∧ atI xs i = some v ∧ Q v H
def rIxT (K : PySem.W.Frag) : R2 := fun x y H Q => ∃ p xs i v, x = .ref p ∧ y = .int i ∧ SqT K H p xs ∧ atI xs i = some v ∧ Q v H
def rIxS : R2 := fun x y H Q => ∃ z i c, x = .str z ∧ y = .int i ∧ z.length ≤ sizeLine ∧ atI z.cps.toList i = some c ∧ Q (.str ⟨#[c]⟩) H
theorem ix_list : IxR X (rIxL X.K) := by
  intro value slice pins s σ H x y v u Q I rx ry h hs
  obtain ⟨p, xs, i, z, rfl, rfl, hq, he, q⟩ := h
  cases rx
  obtain ⟨t, rfl⟩ := ry
  obtain ⟨its, r, pl, hz⟩ := I.list hq
  obtain ⟨j, h1, h2, h3, h4, h5⟩ := atI_get he
  obtain ⟨w, ew, rw'⟩ := r.get h2
  have hl := r.length
  have hn := line63
  have fin : EP X pins σ Q w s := ⟨z, H, I, rw', q⟩
  by_cases h0 : 0 ≤ i
  · have hj : i.toNat = j := by
      rw [seqIndex_of h0 h5] at h1
      exact Option.some.inj h1
    exact item_listR pl.isList h0 (by omega) (by rw [hj]; simpa using ew) fin hs
  · have hj : (i + (its.toArray.size : Int)).toNat = j := by
      rw [seqIndex_neg (by omega) h4] at h1
      rw [List.size_toArray, ← hl]
      exact Option.some.inj h1
    exact subscriptTail_builtinR (x := w) pl.isList.typeIs slot_list_getitem.lookup
      (wpAny_getItem_list_neg (Q := fun r s' => r = w ∧ EP X pins σ Q r s') pl.isList (by omega) (by rw [List.size_toArray] <;> omega) (by omega) (by rw [hj]; simpa using ew) ⟨rfl, fin⟩) hs
theorem ix_tup : IxR X (rIxT X.K) := by
  intro value slice pins s σ H x y v u Q I rx ry h hs
  obtain ⟨p, xs, i, z, rfl, rfl, hq, he, q⟩ := h
  cases rx
  obtain ⟨t, rfl⟩ := ry
  obtain ⟨its, r, pl, hz⟩ := I.tuple hq
  obtain ⟨j, h1, h2, h3, h4, h5⟩ := atI_get he
  obtain ⟨w, ew, rw'⟩ := r.get h2
  have hl := r.length
  have hn := line63
  have fin : EP X pins σ Q w s := ⟨z, H, I, rw', q⟩
  exact subscriptTail_builtinR (x := w) pl.typeIs slot_tuple_getitem.lookup
    (getItem_tuple (j := j) (Q := fun r s' => r = w ∧ EP X pins σ Q r s') pl (by omega) (by omega) (by rw [List.size_toArray, ← hl]; exact h1) (by simpa using ew) ⟨rfl, fin⟩) hs
theorem ix_str : IxR X rIxS := by
  intro value slice pins s σ H x y v u Q I rx ry h hs
  obtain ⟨z, i, c, rfl, rfl, hz, he, q⟩ := h
  obtain ⟨t, rfl⟩ := rx
  obtain ⟨t', rfl⟩ := ry
  obtain ⟨j, h1, h2, h3, h4, h5⟩ := atI_get he
  have hl : z.cps.toList.length = z.length := by simp [Str.length]
  rw [hl] at h1 h4 h5
  have hn := line63
  exact tail_any (typeIs_str s z t) slot_str_getitem.lookup (getItem_str (c := c) (by
    have e1 : decide (i < -(2 ^ 63 : Int)) = false := decide_eq_false (by omega)
    have e2 : decide (i ≥ 2 ^ 63) = false := decide_eq_false (by omega)
    rw [e1, e2, Bool.or_false]) (by rw [h1]; simpa using h2) ⟨.str ⟨#[c]⟩, H, I.tok _, ⟨_, rfl⟩, q⟩) hs
theorem mapSeq_set (its : List Value) (n j : Nat) (u : Value) : Obj.mapSeq (·.setIfInBounds j u) { cls := .type "list", data := .seq its.toArray n } = { cls := .type "list", data := .seq (its.set j u).toArray n } := by
  simp [Obj.mapSeq]
theorem Inv.lst {pins : List (Addr × Obj)} {σ : St} {H : Hp} {s : Shared} {p : Addr} {xs : List V} (I : Inv X pins σ H s) (h : H p = some (.lst xs)) :
    ∃ (its : List Value) (n : Nat), Vals xs its ∧ s.heap.get? p = some { cls := .type "list", data := .seq its.toArray n } ∧ xs.length ≤ sizeLine := by
  obtain ⟨z, its, n, r, e⟩ := I.hok p _ h
  exact ⟨its, n, r, e, z⟩
theorem Inv.lstUpd {pins : List (Addr × Obj)} {σ : St} {H : Hp} {s : Shared} {p : Addr} {xs ys : List V} {its its' : List Value} {n n' : Nat} {f : Obj → Obj} (I : Inv X pins σ H s) (h : H p = some (.lst xs))
    (ho : s.heap.get? p = some { cls := .type "list", data := .seq its.toArray n }) (hf : f { cls := .type "list", data := .seq its.toArray n } = { cls := .type "list", data := .seq its'.toArray n' }) (r : Vals ys its') (hz : ys.length ≤ sizeLine) (t : Nat) :
    Inv X pins σ (upd H p (.lst ys)) { s with heap := s.heap.update p f, toks := t } := by
  have e : (s.heap.update p f).get? p = some { cls := .type "list", data := .seq its'.toArray n' } := by
    rw [Heap.get?_update_self f ho (by rw [hf] <;> rfl), hf]
  refine I.write (x := p) (e := p) (by rw [h]; trivial) (.inl rfl) (fun b u hb q => (Heap.get?_update_other _ _ (Ne.symm hb)).trans q) ⟨_, e⟩ ?_
  exact ⟨hz, its', n', r, e⟩
def rSetL : V → V → V → Hp → (Hp → Prop) → Prop := fun o i v H Q => ∃ p xs k j, o = .ref p ∧ i = .int k ∧ H p = some (.lst xs) ∧ ixN xs.length k = some j ∧ Q (upd H p (.lst (xs.set j v)))
theorem set_list : PSet X rSetL := by
  intro pins s σ H o i v ov iv u Q I ro ri rv h
  obtain ⟨p, xs, k, j, rfl, rfl, hp, hj, q⟩ := h
  cases ro
  obtain ⟨t, rfl⟩ := ri
  obtain ⟨its, n, r, ho, hz⟩ := I.lst hp
  obtain ⟨h1, h2, h3, h4⟩ := ixN_seq hj
  have hl := r.length
  have hn := line63
  have I' : Inv X pins σ (upd H p (.lst (xs.set j v))) { s with heap := s.heap.update p (Obj.mapSeq (·.setIfInBounds j u)) } :=
    I.lstUpd hp ho (mapSeq_set its n j u) (r.set rv j) (by rw [List.length_set]; exact hz) s.toks
  by_cases h0 : 0 ≤ k
  · have hk : k.toNat = j := by
      rw [seqIndex_of h0 h4] at h1
      exact Option.some.inj h1
    exact PySem.W.ki_setAt ho h0 (by omega) (by rw [List.size_toArray, ← hl]; exact h4) (by rw [hk]; exact ⟨_, I', q⟩)
  · have hk : (k + (its.toArray.size : Int)).toNat = j := by
      rw [seqIndex_neg (by omega) h3] at h1
      rw [List.size_toArray, ← hl]
      exact Option.some.inj h1
    exact PySem.W.ki_setBack ho (by omega) (by rw [List.size_toArray, ← hl]; exact h3) (by omega) (by rw [hk]; exact ⟨_, I', q⟩)
theorem slice_bounds (lo hi : Option Int) (n : Nat) : (sliceBounds lo hi none n).1 = ((HT.sIx n 0 lo : Nat) : Int) ∧ (sliceBounds lo hi none n).2.1 = ((HT.sIx n n hi : Nat) : Int) ∧ (sliceBounds lo hi none n).2.2 = 1 := by
  refine ⟨?_, ?_, rfl⟩
  · cases lo with
    | none => simp [sliceBounds, HT.sIx]
    | some i =>
      simp only [sliceBounds, HT.sIx, Option.getD_none, show (1 : Int) > 0 by decide, if_true]
      by_cases h : i < 0
      · simp only [h, if_true] <;> omega
      · simp only [h, if_false] <;> omega
  · cases hi with
    | none => simp [sliceBounds, HT.sIx]
    | some i =>
      simp only [sliceBounds, HT.sIx, Option.getD_none, show (1 : Int) > 0 by decide, if_true]
      by_cases h : i < 0
      · simp only [h, if_true] <;> omega
      · simp only [h, if_false] <;> omega
theorem slicePick_cut (its : List Value) (lo hi : Option Int) : slicePick its.toArray lo hi none = ((its.drop (HT.sIx its.length 0 lo)).take (HT.sIx its.length its.length hi - HT.sIx its.length 0 lo)).toArray := by
  obtain ⟨h1, h2, h3⟩ := slice_bounds lo hi its.toArray.size
  unfold slicePick
  rw [h1, h2, h3]
  simp only [sliceRange_one, pick_run, List.size_toArray] <;> rfl
def rSlL (K : PySem.W.Frag) : V → Option Int → Option Int → Hp → VK → Prop := fun x lo hi H Q => ∃ a xs, x = .ref a ∧ SqL K H a xs ∧ ∀ p, H p = none → Q (.ref p) (upd H p (.lst (cutV xs lo hi)))
theorem sl_list : SlR X (rSlL X.K) := by
  intro pins s σ H x v vl vu lo hi sl Q I rx hs pl pu h
  obtain ⟨a, xs, rfl, hx, q⟩ := h
  cases rx
  obtain ⟨its, r, ht, hz⟩ := I.list hx
  have hlen := r.length
  refine ⟨"list", _, slot_list_getitem.lookup, ht.isList.typeIs, ?_⟩
  refine wpAny_getItem_list_slice ht.isList hs pl pu .none (by simp) ?_ (by rw [List.size_toArray] <;> omega)
  rw [slicePick_cut, ← hlen]
  refine ⟨.ref s.heap.objs.size, _, I.laid (t' := s.toks) (o := .lst (cutV xs lo hi)) (fun b ob q => Heap.get?_push_of_some _ q) (Nat.le_refl _) ?_, rfl, q _ (I.hok.fresh (Nat.le_refl _))⟩
  exact ⟨Nat.le_trans (cutV_length xs lo hi) hz, _, 0, (r.drop (HT.sIx xs.length 0 lo)).take (HT.sIx xs.length xs.length hi - HT.sIx xs.length 0 lo), Heap.get?_push_size _ rfl⟩
def flatV : V → Bool
  | .non => true
  | .bl _ => true
  | .int _ => true
  | .str _ => true
  | _ => false
def eqV : V → V → Bool
  | .non, .non => true
  | .bl a, .bl b => a == b
  | .bl a, .int b => (if a then 1 else 0) == b
  | .int a, .bl b => a == (if b then 1 else 0)
  | .int a, .int b => a == b
  | .str a, .str b => a == b
  | _, _ => false
theorem eqAt_V {A : Around} {s : Shared} {y x : V} {u v : Value} (ry : RelV y u) (rx : RelV x v) (fy : flatV y = true) (fx : flatV x = true) : SeqAt.EqAt A s u v (eqV y x) := by
  cases y with
  | non =>
    cases ry
    cases x with
    | non => cases rx; exact SeqAt.EqAt.same _
    | bl b => cases rx; exact SeqAt.EqAt.none_bool b
    | int b => obtain ⟨t, rfl⟩ := rx; exact SeqAt.EqAt.none_int b t
    | str b => obtain ⟨t, rfl⟩ := rx; exact SeqAt.EqAt.none_str b t
    | _ => exact absurd (show false = true from fx) Bool.false_ne_true
  | bl a =>
    cases ry
    cases x with
    | non => cases rx; exact SeqAt.EqAt.bool_none a
    | bl b => cases rx; exact SeqAt.EqAt.bool_bool a b
    | int b => obtain ⟨t, rfl⟩ := rx; exact SeqAt.EqAt.bool_int a b t
    | str b => obtain ⟨t, rfl⟩ := rx; exact SeqAt.EqAt.bool_str a b t
    | _ => exact absurd (show false = true from fx) Bool.false_ne_true
  | int a =>
    obtain ⟨t', rfl⟩ := ry
    cases x with
    | non => cases rx; exact SeqAt.EqAt.int_none a t'
    | bl b => cases rx; exact SeqAt.EqAt.int_bool a t' b
    | int b => obtain ⟨t, rfl⟩ := rx; exact SeqAt.EqAt.int_int a t' b t
    | str b => obtain ⟨t, rfl⟩ := rx; exact SeqAt.EqAt.int_str a t' b t
    | _ => exact absurd (show false = true from fx) Bool.false_ne_true
  | str a =>
    obtain ⟨t', rfl⟩ := ry
    cases x with
    | non => cases rx; exact SeqAt.EqAt.str_none a t'
    | bl b => cases rx; exact SeqAt.EqAt.str_bool a t' b
    | int b => obtain ⟨t, rfl⟩ := rx; exact SeqAt.EqAt.str_int a t' b t
    | str b => obtain ⟨t, rfl⟩ := rx; exact SeqAt.EqAt.str_str a t' b t
    | _ => exact absurd (show false = true from fx) Bool.false_ne_true
  | _ => exact absurd (show false = true from fy) Bool.false_ne_true
def eqU (x : V) (u : Value) : Bool := match u with
  | .none => eqV .non x
  | .bool b => eqV (.bl b) x
  | .int i _ => eqV (.int i) x
  | .str z _ => eqV (.str z) x
  | _ => false
theorem eqU_of {x y : V} {u : Value} (r : RelV y u) (f : flatV y = true) : eqU x u = eqV y x := by
  cases y with
  | non => cases r; rfl
  | bl b => cases r; rfl
  | int i => obtain ⟨t, rfl⟩ := r; rfl
  | str z => obtain ⟨t, rfl⟩ := r; rfl
  | _ => exact absurd (show false = true from f) Bool.false_ne_true
theorem any_eqU {x : V} : ∀ {xs : List V} {us : List Value}, Vals xs us → xs.all flatV = true → us.any (eqU x) = xs.any fun y => eqV y x
  | _, _, .nil, _ => rfl
  | y :: xs, u :: us, .cons r t, f => by
    rw [List.all_cons, Bool.and_eq_true] at f
    rw [List.any_cons, List.any_cons, eqU_of r f.1, any_eqU t f.2]
theorem mem_eqAt {A : Around} {s : Shared} {x : V} {v : Value} (rx : RelV x v) (fx : flatV x = true) : ∀ {xs : List V} {us : List Value}, Vals xs us → xs.all flatV = true → ∀ u ∈ us, SeqAt.EqAt A s u v (eqU x u)
  | _, _, .nil, _ => fun u hu => by cases hu
  | y :: xs, u :: us, .cons r t, f => fun u' hu => by
    rw [List.all_cons, Bool.and_eq_true] at f
    rcases List.mem_cons.mp hu with rfl | hu
    · rw [eqU_of r f.1]; exact eqAt_V r rx f.1 fx
    · exact mem_eqAt rx fx t f.2 u' hu
def inV (x : V) (xs : List V) : Bool := xs.any fun y => eqV y x
def rIn (K : PySem.W.Frag) (neg : Bool) : R2 := fun x y H Q => ∃ p xs, y = .ref p ∧ (SqL K H p xs ∨ SqT K H p xs) ∧ flatV x = true ∧ xs.all flatV = true ∧ Q (.bl (if neg then !inV x xs else inV x xs)) H
theorem op_in_seq : OpR X (compareOp .In) (rIn X.K false) := by
  intro pins s σ H x y v u Q I rx ry h
  obtain ⟨p, xs, rfl, hq, fx, fs, q⟩ := h
  cases ry
  rcases hq with hq | hq
  · obtain ⟨its, r, pl, hz⟩ := I.list hq
    refine SeqAt.in_listAt (eqU x) pl.isList (fun w hw => mem_eqAt rx fx r fs w (by simpa using hw)) ⟨.bl _, H, I, rfl, ?_⟩
    rw [show its.toArray.any (eqU x) = its.any (eqU x) by simp, any_eqU r fs]
    exact q
  · obtain ⟨its, r, pl, hz⟩ := I.tuple hq
    refine SeqAt.in_tupleAt (eqU x) pl (fun w hw => mem_eqAt rx fx r fs w (by simpa using hw)) ⟨.bl _, H, I, rfl, ?_⟩
    rw [show its.toArray.any (eqU x) = its.any (eqU x) by simp, any_eqU r fs]
    exact q
theorem op_notIn_seq : OpR X (compareOp .NotIn) (rIn X.K true) := by
  intro pins s σ H x y v u Q I rx ry h
  obtain ⟨p, xs, rfl, hq, fx, fs, q⟩ := h
  cases ry
  rcases hq with hq | hq
  · obtain ⟨its, r, pl, hz⟩ := I.list hq
    refine SeqAt.notIn_listAt (eqU x) pl.isList (fun w hw => mem_eqAt rx fx r fs w (by simpa using hw)) ⟨.bl _, H, I, rfl, ?_⟩
    rw [show its.toArray.any (eqU x) = its.any (eqU x) by simp, any_eqU r fs]
    exact q
  · obtain ⟨its, r, pl, hz⟩ := I.tuple hq
    refine SeqAt.notIn_tupleAt (eqU x) pl (fun w hw => mem_eqAt rx fx r fs w (by simpa using hw)) ⟨.bl _, H, I, rfl, ?_⟩
    rw [show its.toArray.any (eqU x) = its.any (eqU x) by simp, any_eqU r fs]
    exact q
theorem op_notIn_str : OpR X (compareOp .NotIn) (fun x y H Q => ∃ i j, x = .str i ∧ y = .str j ∧ Q (.bl (!(!(Builtin.Str.occurrences j i 0 j.length 1).isEmpty))) H) := by
  intro pins s σ H x y v u Q I rx ry h
  obtain ⟨i, j, rfl, rfl, q⟩ := h
  obtain ⟨t, rfl⟩ := rx
  obtain ⟨t', rfl⟩ := ry
  exact notIn_str ⟨.bl _, H, I, rfl, q⟩
theorem call_len_seq : CallR X (.builtin "len") (fun xs H Q => ∃ p ys, xs = [.ref p] ∧ (SqL X.K H p ys ∨ SqT X.K H p ys) ∧ Q (.int ys.length) H) := by
  intro pins s σ H xs us Q I r h
  obtain ⟨p, ys, rfl, hq, q⟩ := h
  obtain ⟨u, rfl, rx⟩ := vals1 r
  cases rx
  have hn := line63
  rcases hq with hq | hq
  · obtain ⟨its, r', pl, hz⟩ := I.list hq
    have hlen := r'.length
    exact Calls.call_len_list pl.isList (by simp only [List.size_toArray] <;> omega) ⟨.int ys.length, H, I.tok _, ⟨s.toks + 1, by rw [List.size_toArray, hlen]⟩, q⟩
  · obtain ⟨its, r', pl, hz⟩ := I.tuple hq
    have hlen := r'.length
    exact len_tuple pl (by simp only [List.size_toArray] <;> omega) ⟨.int ys.length, H, I.tok _, ⟨s.toks + 1, by rw [List.size_toArray, hlen]⟩, q⟩
theorem call_len_str : CallR X (.builtin "len") (fun xs H Q => ∃ z, xs = [.str z] ∧ z.length ≤ sizeLine ∧ Q (.int z.length) H) := by
  intro pins s σ H xs us Q I r h
  obtain ⟨z, rfl, hz, q⟩ := h
  obtain ⟨u, rfl, t, rfl⟩ := vals1 r
  have hn := line63
  exact len_str (by omega) ⟨.int z.length, H, I.tok _, ⟨_, rfl⟩, q⟩
theorem CallR.or {f : Value} {r r' : List V → Hp → VK → Prop} (h : CallR X f r) (h' : CallR X f r') : CallR X f (fun xs H Q => r xs H Q ∨ r' xs H Q) := by
  intro pins s σ H xs us Q I rs q
  rcases q with q | q
  · exact h pins s σ H xs us Q I rs q
  · exact h' pins s σ H xs us Q I rs q
theorem call_tuple_of : CallR X (.type "tuple") (fun xs H Q => ∃ p ys, xs = [.ref p] ∧ ((SqL X.K H p ys ∧ ∀ l, H l = none → Q (.ref l) (upd H l (.tup ys))) ∨ (SqT X.K H p ys ∧ Q (.ref p) H))) := by
  intro pins s σ H xs us Q I r h
  obtain ⟨p, ys, rfl, h⟩ := h
  obtain ⟨u, rfl, rx⟩ := vals1 r
  cases rx
  rcases h with ⟨hq, q⟩ | ⟨hq, q⟩
  · obtain ⟨its, r', pl, hz⟩ := I.list hq
    have hlen := r'.length
    refine call_tuple_list pl.isList (fun h' kp => ?_) (by simp only [List.size_toArray] <;> omega)
    have I1 : Inv X pins σ H { s with heap := h' } := I.kept (t' := s.toks) kp
    have I2 : Inv X pins σ (upd H h'.objs.size (.tup ys)) { s with heap := h'.push { cls := .type "tuple", data := .seq its.toArray } } :=
      I1.laid (t' := s.toks) (fun b o e => Heap.get?_push_of_some _ e) (Nat.le_refl _) (show ObjOk X.prog X.w _ _ _ (.tup ys) from ⟨hz, its, r', IsTup.new _ _⟩)
    exact ⟨.ref h'.objs.size, _, I2, rfl, q _ (I1.hok.fresh (Nat.le_refl _))⟩
  · obtain ⟨its, r', pl, hz⟩ := I.tuple hq
    exact call_tuple_same pl ⟨.ref p, H, I, rfl, q⟩
def tyV (K : PySem.W.Frag) (T : String) (x : V) (H : Hp) : Prop := match x with
  | .str _ => T = "str"
  | .int _ => T = "int"
  | .ref p => (T = "list" ∧ ∃ xs, SqL K H p xs) ∨ (T = "tuple" ∧ ∃ o, K.lookup p = some o ∧ o.cls = .type "tuple" ∧ o.dict = none) ∨
      (T = "dict" ∧ ((∃ kvs, H p = some (.dK kvs)) ∨ ∃ kvs, H p = some (.dT kvs))) ∨ (T = "set" ∧ ∃ S n, H p = some (.set S n))
  | _ => False
theorem tyV_is {pins : List (Addr × Obj)} {σ : St} {H : Hp} {s : Shared} {T : String} {x : V} {v : Value} (I : Inv X pins σ H s) (r : RelV x v) (ty : tyV X.K T x H) :
    s.TypeIs v T ∧ ∀ a, v = .ref a → ∃ ob, s.heap.get? a = some ob ∧ ob.dict = none := by
  cases x with
  | str z =>
    obtain ⟨t, rfl⟩ := r
    cases (show T = "str" from ty)
    exact ⟨typeIs_str s z t, fun _ e => nomatch e⟩
  | int i =>
    obtain ⟨t, rfl⟩ := r
    cases (show T = "int" from ty)
    exact ⟨typeIs_int s i t, fun _ e => nomatch e⟩
  | ref p =>
    cases r
    rcases ty with ⟨rfl, xs, hq⟩ | ⟨rfl, o, hk, hc, hd⟩ | ⟨rfl, hk⟩ | ⟨rfl, S, n, hk⟩
    · obtain ⟨its, _, pl, _⟩ := I.list hq
      refine ⟨pl.isList.typeIs, fun a e => ?_⟩
      cases e
      obtain ⟨o, n, e, c, hd, _⟩ := pl
      exact ⟨o, e, hd⟩
    · refine ⟨⟨o, I.kIn p o hk, hc⟩, fun a e => ?_⟩
      cases e
      exact ⟨o, I.kIn _ o hk, hd⟩
    · have z : ∃ o, s.heap.get? p = some o ∧ o.ExactDict := by
        rcases hk with ⟨kvs, hk⟩ | ⟨kvs, hk⟩
        · obtain ⟨_, _, _, _, o, _, _, e, ex, _⟩ := I.hok p _ hk
          exact ⟨o, e, ex⟩
        · obtain ⟨_, _, _, _, o, _, _, e, ex, _⟩ := I.hok p _ hk
          exact ⟨o, e, ex⟩
      obtain ⟨o, e, ex⟩ := z
      refine ⟨⟨o, e, ex.1⟩, fun a e2 => ?_⟩
      cases e2
      exact ⟨o, e, ex.2.1⟩
    · obtain ⟨o, _, _, _, e, ex, _⟩ := I.hok p _ hk
      refine ⟨⟨o, e, ex.1⟩, fun a e2 => ?_⟩
      cases e2
      exact ⟨o, e, ex.2.1⟩
  | _ => exact False.elim ty
variable {o e : Expr} {es : List Expr} {to : TE} {t : TA} {name : Str} {apos cpos : Pos} {T id : String} {r : V → List V → Hp → VK → Prop}
end
end L2
namespace L2
open PySem PySem.Spec PyProof.Rows
def MtM (X : Cx) (id : String) (r : V → List V → Hp → VK → Prop) : Prop :=
  ∀ (pins : List (Addr × Obj)) (s : Shared) (σ : St) (H : Hp) (x : V) (xs : List V) (v : Value) (us : List Value) (Q : VK), Inv X pins σ H s → RelV x v → Vals xs us → r x xs H Q →
    wpAny (model X.prog X.w) X.A (call (.builtin id) (v :: us)) (EP X pins σ Q) X.xe s
theorem Vals.one : ∀ {x : V} {us : List Value}, Vals [x] us → ∃ u, us = [u] ∧ RelV x u
  | _, _, .cons r .nil => ⟨_, rfl, r⟩
theorem Vals.two : ∀ {x y : V} {us : List Value}, Vals [x, y] us → ∃ u v, us = [u, v] ∧ RelV x u ∧ RelV y v
  | _, _, _, .cons r (.cons q .nil) => ⟨_, _, rfl, r, q⟩
theorem Vals.zero : ∀ {us : List Value}, Vals [] us → us = []
  | _, .nil => rfl
theorem Vals.eraseIdx : ∀ {xs : List V} {us : List Value} (i : Nat), Vals xs us → Vals (xs.eraseIdx i) (us.eraseIdx i)
  | _, _, _, .nil => .nil
  | _, _, 0, .cons _ t => t
  | _, _, i + 1, .cons r t => .cons r (Vals.eraseIdx i t)
theorem Vals.reverse {xs : List V} {us : List Value} (h : Vals xs us) : Vals xs.reverse us.reverse := by
  induction h with
  | nil => exact .nil
  | cons r t ih => rw [List.reverse_cons, List.reverse_cons]; exact Vals.append ih (.cons r .nil)
theorem len_erase {α : Type} : ∀ (l : List α) (i : Nat), (l.eraseIdx i).length ≤ l.length
  | [], _ => Nat.le_refl _
  | _ :: _, 0 => Nat.le_succ _
  | _ :: r, i + 1 => Nat.succ_le_succ (len_erase r i)
section
variable {X : Cx} {pins : List (Addr × Obj)} {σ : St} {H : Hp} {s : Shared} {l b : Addr} {xs ys zs : List V}
theorem Inv.lset {its its' : List Value} {n : Nat} {f : Array Value → Array Value} {t' : Nat} (I : Inv X pins σ H s) (hH : H l = some (.lst xs))
    (e : s.heap.get? l = some { cls := .type "list", data := .seq its.toArray n }) (hf : f its.toArray = its'.toArray) (hv : Vals ys its') (hz : ys.length ≤ sizeLine) :
    Inv X pins σ (upd H l (.lst ys)) { s with heap := s.heap.update l (Obj.mapSeq f), toks := t' } := by
  have q := PySem.IsL.update e f
  rw [hf] at q
  refine I.write (x := l) (e := l) (by rw [hH]; exact trivial) (.inl rfl) (fun b' u hb hu => (Heap.get?_update_other s.heap (Obj.mapSeq f) (Ne.symm hb)).trans hu) ⟨_, q⟩ ?_
  exact ⟨hz, its', _, hv, q⟩
theorem Inv.lnew {its : List Value} {t' : Nat} (I : Inv X pins σ H s) (hv : Vals ys its) (hz : ys.length ≤ sizeLine) :
    Inv X pins σ (upd H s.heap.objs.size (.lst ys)) { s with heap := s.heap.push { cls := .type "list", data := .seq its.toArray }, toks := t' } :=
  I.laid (fun _ _ q => Heap.get?_push_of_some _ q) (Nat.le_refl _) ⟨hz, its, 0, hv, Heap.get?_push_size _ rfl⟩
theorem Inv.fresh (I : Inv X pins σ H s) : H s.heap.objs.size = none := I.hok.fresh (Nat.le_refl _)
theorem Inv.lstM (I : Inv X pins σ H s) (hH : H l = some (.lst xs)) : xs.length ≤ sizeLine ∧ ∃ (its : List Value) (n : Nat), Vals xs its ∧ xs.length = its.length ∧ s.heap.get? l = some { cls := .type "list", data := .seq its.toArray n } := by
  obtain ⟨z, its, n, r, e⟩ := I.hok l _ hH
  exact ⟨z, its, n, r, r.length, e⟩
end
section
variable {X : Cx}
def rAppend : V → List V → Hp → VK → Prop := fun x vs H Q => ∃ l xs y, x = .ref l ∧ vs = [y] ∧ H l = some (.lst xs) ∧ xs.length < sizeLine ∧ Q .non (upd H l (.lst (xs ++ [y])))
theorem mt_append : MtM X "list.append" rAppend := by
  intro pins s σ H x vs v us Q I rx rv h
  obtain ⟨l, xs, y, rfl, rfl, hH, hz, q⟩ := h
  cases rx
  obtain ⟨u, rfl, ru⟩ := rv.one
  obtain ⟨z, its, n, r, hl, e⟩ := I.lstM hH
  refine call_meets F.slot_list_append ⟨_, e, rfl⟩ F.entry_list_append (F.args_list_append_2 _ _) (PySem.list_append l its.toArray n u (by rw [List.size_toArray]; omega)) ⟨e, ?_⟩
  refine ⟨.non, _, I.lset (its' := its ++ [u]) hH e (by simp) (r.append (.cons ru .nil)) ?_, rfl, q⟩
  rw [List.length_append, List.length_singleton]
  omega
def rPopAt : V → List V → Hp → VK → Prop := fun x vs H Q => ∃ l xs i k y, x = .ref l ∧ vs = [.int i] ∧ H l = some (.lst xs) ∧ -(2 ^ 63) ≤ i ∧ i < 2 ^ 63 ∧ seqIndex? i xs.length = some k ∧ xs[k]? = some y ∧ Q y (upd H l (.lst (xs.eraseIdx k)))
theorem mt_popAt : MtM X "list.pop" rPopAt := by
  intro pins s σ H x vs v us Q I rx rv h
  obtain ⟨l, xs, i, k, y, rfl, rfl, hH, h1, h2, hk, hy, q⟩ := h
  cases rx
  obtain ⟨u, rfl, ru⟩ := rv.one
  obtain ⟨t, rfl⟩ := ru
  obtain ⟨z, its, n, r, hl, e⟩ := I.lstM hH
  obtain ⟨w, hw, rw'⟩ := r.get hy
  refine call_meets F.slot_list_pop ⟨_, e, rfl⟩ F.entry_list_pop (F.args_list_pop_2 _ _)
    (MeetsSeq.list_pop_at l its.toArray n i t k w (fitsIndex_both h1 h2) (by rw [List.size_toArray, ← hl]; exact hk) (by rw [← Array.getElem?_toList]; exact hw) (by rw [List.size_toArray]; omega)) ⟨e, ?_⟩
  refine ⟨y, _, I.lset (its' := its.eraseIdx k) hH e ?_ (r.eraseIdx k) ?_, rw', q⟩
  · show its.toArray.eraseIdxIfInBounds k = (its.eraseIdx k).toArray
    rw [List.eraseIdxIfInBounds_toArray]
  · have := len_erase xs k
    omega
def rReverse : V → List V → Hp → VK → Prop := fun x vs H Q => ∃ l xs, x = .ref l ∧ vs = [] ∧ H l = some (.lst xs) ∧ Q .non (upd H l (.lst xs.reverse))
def rCat : R2 := fun x y H Q => ∃ l b xs zs, x = .ref l ∧ y = .ref b ∧ H l = some (.lst xs) ∧ H b = some (.lst zs) ∧ xs.length + zs.length ≤ sizeLine ∧ ∀ p, H p = none → Q (.ref p) (upd H p (.lst (xs ++ zs)))
theorem op_cat : OpR X (binaryOp .Add) rCat := by
  intro pins s σ H x y v u Q I rx ry h
  obtain ⟨l, b, xs, zs, rfl, rfl, hH, hB, hz, q⟩ := h
  cases rx
  cases ry
  obtain ⟨z, its, n, r, hl, e⟩ := I.lstM hH
  obtain ⟨z2, its2, n2, r2, hl2, e2⟩ := I.lstM hB
  refine PySem.P.add_list e e2 ?_ (by rw [List.size_toArray, List.size_toArray]; omega)
  have ea : its.toArray ++ its2.toArray = (its ++ its2).toArray := by simp
  rw [ea]
  exact ⟨.ref _, _, I.lnew (t' := s.toks) (r.append r2) (by rw [List.length_append]; omega), rfl, q _ I.fresh⟩
def rRep : R2 := fun x y H Q => ∃ l k xs, x = .ref l ∧ y = .int k ∧ H l = some (.lst xs) ∧ -(2 ^ 63) ≤ k ∧ k < 2 ^ 63 ∧ xs.length * k.toNat ≤ sizeLine ∧
  ∀ p, H p = none → Q (.ref p) (upd H p (.lst (List.replicate k.toNat xs).flatten))
end
section
variable {prog : Program} {w : World} {A : Around} {E : Value → Shared → Prop} {s : Shared}
end
section
variable {X : Cx}
end
end L2
namespace L2
open PySem PySem.Spec PyProof.Rows
section
variable {κ : Type} [DecidableEq κ]
def valV (kvs : List (κ × V)) (k : κ) : Option V := (kvs.find? fun kv => decide (kv.1 = k)).map (·.2)
def putK (kvs : List (κ × V)) (k : κ) (v : V) : List (κ × V) :=
  if (kvs.any fun kv => decide (kv.1 = k)) = true then kvs.map (fun kv => if kv.1 = k then (kv.1, v) else kv) else kvs ++ [(k, v)]
def dropK (kvs : List (κ × V)) (k : κ) : List (κ × V) := kvs.filter fun kv => decide (kv.1 ≠ k)
theorem valV_pos {p : κ × V} {r : List (κ × V)} {k : κ} (e : p.1 = k) : valV (p :: r) k = some p.2 := by simp [valV, List.find?_cons, e]
theorem valV_neg {p : κ × V} {r : List (κ × V)} {k : κ} (e : ¬ p.1 = k) : valV (p :: r) k = valV r k := by simp [valV, List.find?_cons, e]
theorem valV_any (k : κ) : ∀ kvs : List (κ × V), (kvs.any fun kv => decide (kv.1 = k)) = (valV kvs k).isSome
  | [] => rfl
  | p :: r => by
    rw [List.any_cons]
    by_cases e : p.1 = k
    · simp only [valV_pos e, decide_eq_true e, Bool.true_or, Option.isSome_some]
    · rw [valV_neg e, decide_eq_false e, Bool.false_or]; exact valV_any k r
theorem length_putK (kvs : List (κ × V)) (k : κ) (v : V) : (putK kvs k v).length ≤ kvs.length + 1 := by
  unfold putK
  split
  · rw [List.length_map]; omega
  · rw [List.length_append, List.length_cons, List.length_nil]; omega
theorem putK_new {kvs : List (κ × V)} {k : κ} (v : V) (h : valV kvs k = none) : putK kvs k v = kvs ++ [(k, v)] := by
  unfold putK
  rw [valV_any, h]
  exact if_neg (by decide)
theorem RelO.isSome_eq {o : Option V} {u : Option Value} (r : RelO o u) : o.isSome = u.isSome := by
  cases o with
  | none => cases u with
    | none => rfl
    | some _ => exact (show False from r).elim
  | some _ => cases u with
    | none => exact (show False from r).elim
    | some _ => rfl
theorem RelO.getD {o : Option V} {u : Option Value} {d : V} {d' : Value} (r : RelO o u) (rd : RelV d d') : RelV (o.getD d) (u.getD d') := by
  cases o with
  | none => cases u with
    | none => exact rd
    | some _ => exact (show False from r).elim
  | some _ => cases u with
    | none => exact (show False from r).elim
    | some _ => exact r
theorem KV.val {kvs : List (κ × V)} {vs : List (κ × Value)} (r : KV kvs vs) (k : κ) : RelO (valV kvs k) (valueAt vs k) := by
  unfold KV at r
  induction r with
  | nil => exact True.intro
  | @cons p q ps qs h t ih =>
    obtain ⟨h1, h2⟩ := h
    by_cases e : p.1 = k
    · have e' : q.1 = k := h1.symm.trans e
      have b : valueAt (q :: qs) k = some q.2 := by simp [valueAt, List.find?_cons, e']
      rw [valV_pos e, b]; exact h2
    · have e' : ¬ q.1 = k := fun z => e (h1.trans z)
      have b : valueAt (q :: qs) k = valueAt qs k := by simp [valueAt, List.find?_cons, e']
      rw [valV_neg e, b]; exact ih
theorem KV.any {kvs : List (κ × V)} {vs : List (κ × Value)} (r : KV kvs vs) (k : κ) : (kvs.any fun kv => decide (kv.1 = k)) = vs.any fun kv => decide (kv.1 = k) := by
  unfold KV at r
  induction r with
  | nil => rfl
  | cons h t ih => rw [List.any_cons, List.any_cons, ih, h.1]
theorem KV.repl {kvs : List (κ × V)} {vs : List (κ × Value)} (r : KV kvs vs) (k : κ) {y : V} {u : Value} (ry : RelV y u) :
    KV (kvs.map fun kv => if kv.1 = k then (kv.1, y) else kv) (vs.map fun kv => if kv.1 = k then (kv.1, u) else kv) := by
  unfold KV at r ⊢
  induction r with
  | nil => exact .nil
  | @cons p q ps qs h t ih =>
    rw [List.map_cons, List.map_cons]
    refine .cons ?_ ih
    obtain ⟨h1, h2⟩ := h
    by_cases e : p.1 = k
    · rw [if_pos e, if_pos (h1.symm.trans e)]; exact ⟨h1, ry⟩
    · rw [if_neg e, if_neg (fun z => e (h1.trans z))]; exact ⟨h1, h2⟩
theorem KV.put {kvs : List (κ × V)} {vs : List (κ × Value)} (r : KV kvs vs) (k : κ) {y : V} {u : Value} (ry : RelV y u) : KV (putK kvs k y) (stored vs k u) := by
  unfold putK stored
  rw [r.any k]
  by_cases e : (vs.any fun kv => decide (kv.1 = k)) = true
  · rw [if_pos e, if_pos e]; exact r.repl k ry
  · rw [if_neg e, if_neg e]; exact Paired.snoc r ⟨rfl, ry⟩
theorem KV.drop {kvs : List (κ × V)} {vs : List (κ × Value)} (r : KV kvs vs) (k : κ) : KV (dropK kvs k) (without vs k) := by
  unfold KV at r ⊢
  unfold dropK without
  induction r with
  | nil => exact .nil
  | @cons p q ps qs h t ih =>
    obtain ⟨h1, h2⟩ := h
    rw [List.filter_cons, List.filter_cons]
    by_cases e : p.1 = k
    · have a : ¬ decide (p.1 ≠ k) = true := by simp [e]
      have b : ¬ decide (q.1 ≠ k) = true := by simp [h1.symm.trans e]
      rw [if_neg a, if_neg b]; exact ih
    · have e' : ¬ q.1 = k := fun z => e (h1.trans z)
      have a : decide (p.1 ≠ k) = true := by simp [e]
      have b : decide (q.1 ≠ k) = true := by simp [e']
      rw [if_pos a, if_pos b]; exact .cons ⟨h1, h2⟩ ih
theorem KV.keys {kvs : List (κ × V)} {vs : List (κ × Value)} (r : KV kvs vs) : kvs.map (·.1) = vs.map (·.1) := by
  unfold KV at r
  induction r with
  | nil => rfl
  | cons h t ih => rw [List.map_cons, List.map_cons, ih, h.1]
theorem KV.length {kvs : List (κ × V)} {vs : List (κ × Value)} (r : KV kvs vs) : kvs.length = vs.length := Paired.length r
end
theorem kV_is {P : Program} {w : World} {k : Key} {u : Value} (r : RelV (kV k) u) : (mixKind P w).is k u = true := by
  cases k with
  | inl i => obtain ⟨t, e⟩ := (show ∃ t, u = Value.int i t from r); subst e; exact mixKind_int P w i t
  | inr x => obtain ⟨t, e⟩ := (show ∃ t, u = Value.str x t from r); subst e; exact mixKind_str P w x t
theorem items_are {P : Program} {w : World} : ∀ {ks : List Key} {us : List Value}, Vals (ks.map kV) us → ItemsAre (mixKind P w) ks us
  | [], _, r => by rw [List.map_nil] at r; cases r; exact .nil
  | k :: ks, _, r => by
    rw [List.map_cons] at r
    cases r with
    | cons h t => exact .cons (kV_is h) (items_are t)
abbrev KT (H : Hp) : List (List Key × V) → List (List Key × Addr × Value) → Prop := Paired fun p q => p.1 = q.1 ∧ H q.2.1 = some (.tup (p.1.map kV)) ∧ RelV p.2 q.2.2
theorem KT.val {H : Hp} {kvs : List (List Key × V)} {xs : List (List Key × Addr × Value)} (r : KT H kvs xs) (k : List Key) : RelO (valV kvs k) ((atKey xs k).map (·.2)) := by
  induction r with
  | nil => exact True.intro
  | @cons p q ps qs h t ih =>
    obtain ⟨h1, _, h2⟩ := h
    by_cases e : p.1 = k
    · have e' : q.1 = k := h1.symm.trans e
      have b : atKey (q :: qs) k = some q.2 := by simp [atKey, List.find?_cons, e']
      rw [valV_pos e, b]; exact h2
    · have e' : ¬ q.1 = k := fun z => e (h1.trans z)
      have b : atKey (q :: qs) k = atKey qs k := by simp [atKey, List.find?_cons, e']
      rw [valV_neg e, b]; exact ih
theorem KT.repl {H : Hp} {kvs : List (List Key × V)} {xs : List (List Key × Addr × Value)} (r : KT H kvs xs) (k : List Key) {y : V} {u : Value} (ry : RelV y u) :
    KT H (kvs.map fun kv => if kv.1 = k then (kv.1, y) else kv) (xs.map (putAt k u)) := by
  induction r with
  | nil => exact .nil
  | @cons p q ps qs h t ih =>
    rw [List.map_cons, List.map_cons]
    refine .cons ?_ ih
    obtain ⟨h1, h2, h3⟩ := h
    unfold putAt
    by_cases e : p.1 = k
    · rw [if_pos e, if_pos (h1.symm.trans e)]; exact ⟨h1, h2, ry⟩
    · rw [if_neg e, if_neg (fun z => e (h1.trans z))]; exact ⟨h1, h2, h3⟩
theorem KT.put {H : Hp} {kvs : List (List Key × V)} {xs : List (List Key × Addr × Value)} (r : KT H kvs xs) (k : List Key) {b : Addr} {y : V} {u : Value} (hb : H b = some (.tup (k.map kV))) (ry : RelV y u) :
    KT H (putK kvs k y) (storedH xs k b u) := by
  have e : (kvs.any fun kv => decide (kv.1 = k)) = (atKey xs k).isSome := by
    rw [valV_any, (r.val k).isSome_eq, Option.isSome_map]
  unfold putK storedH
  rw [e]
  by_cases q : (atKey xs k).isSome = true
  · rw [if_pos q, if_pos q]; exact r.repl k ry
  · rw [if_neg q, if_neg q]; exact Paired.snoc r ⟨rfl, hb, ry⟩
theorem KT.keeps {H H' : Hp} {kvs : List (List Key × V)} {xs : List (List Key × Addr × Value)} (r : KT H kvs xs) (ht : ∀ b ys, H b = some (.tup ys) → H' b = some (.tup ys)) : KT H' kvs xs :=
  Paired.mapP r fun _ _ z => ⟨z.1, ht _ _ z.2.1, z.2.2⟩
section
variable {P : Program} {w : World} {H : Hp} {h : Heap} {a : Addr}
theorem rd_of {u : HO} (ok : HOk P w H h) (e : Rd H a u) : ObjOk P w H h a u := e.ok ok
theorem dk_rd {kvs : List (Key × V)} (ok : HOk P w H h) (e : Rd H a (.dK kvs)) : kvs.length ≤ sizeLine ∧ (a == sysModules) = false ∧ ∃ vs, KV kvs vs ∧ h.DictOf (mixKind P w) a vs :=
  show ObjOk P w H h a (.dK kvs) from rd_of ok e
theorem dk_of {kvs : List (Key × V)} (ok : HOk P w H h) (e : H a = some (.dK kvs)) : kvs.length ≤ sizeLine ∧ (a == sysModules) = false ∧ ∃ vs, KV kvs vs ∧ h.DictOf (mixKind P w) a vs := dk_rd ok (.inl e)
theorem key_of {ks : List Key} (ok : HOk P w H h) (e : H a = some (.tup (ks.map kV))) : (tupleKind (mixKind P w)).is h ks a := by
  obtain ⟨_, its, r, o, h1, h2, n, h3⟩ := (show ObjOk P w H h a (.tup (ks.map kV)) from ok a _ e)
  exact ⟨o, its.toArray, n, h1, h2, h3, by simpa using items_are r⟩
theorem dt_rd {kvs : List (List Key × V)} (ok : HOk P w H h) (e : Rd H a (.dT kvs)) : kvs.length ≤ sizeLine ∧ (a == sysModules) = false ∧
    ∃ xs, KT H kvs xs ∧ h.DictOfH (tupleKind (mixKind P w)) a xs := by
  obtain ⟨z, y, xs, r, o, es, ep, h1, h2, h3, h4, h5⟩ := (show ObjOk P w H h a (.dT kvs) from rd_of ok e)
  refine ⟨z, y, xs, r, o, es, ep, h1, h2, h3, h4, fun x hx => ?_, h5⟩
  have all : ∀ {l : List (List Key × V)} {m : List (List Key × Addr × Value)}, KT H l m → ∀ x ∈ m, (tupleKind (mixKind P w)).is h x.1 x.2.1 := by
    intro l m q
    induction q with
    | nil => intro x hx; exact nomatch hx
    | @cons p q ps qs hq t ih =>
      intro x hx
      rcases List.mem_cons.mp hx with e | hx
      · subst e
        exact key_of ok (by rw [← hq.1]; exact hq.2.1)
      · exact ih x hx
  exact all r x hx
theorem dt_of {kvs : List (List Key × V)} (ok : HOk P w H h) (e : H a = some (.dT kvs)) : kvs.length ≤ sizeLine ∧ (a == sysModules) = false ∧
    ∃ xs, KT H kvs xs ∧ h.DictOfH (tupleKind (mixKind P w)) a xs := dt_rd ok (.inl e)
end
def DGet (H : Hp) (a : Addr) (y : V) (r : Option V) : Prop :=
  (∃ kvs k, Rd H a (.dK kvs) ∧ y = kV k ∧ r = valV kvs k) ∨ ∃ kvs k b, Rd H a (.dT kvs) ∧ y = .ref b ∧ H b = some (.tup (k.map kV)) ∧ r = valV kvs k
def DPut (H : Hp) (a : Addr) (y v : V) (H' : Hp) : Prop :=
  (∃ kvs k, H a = some (.dK kvs) ∧ y = kV k ∧ kvs.length < sizeLine ∧ H' = upd H a (.dK (putK kvs k v))) ∨
  ∃ kvs k b, H a = some (.dT kvs) ∧ y = .ref b ∧ H b = some (.tup (k.map kV)) ∧ kvs.length < sizeLine ∧ H' = upd H a (.dT (putK kvs k v))
theorem DGet.k {H : Hp} {a : Addr} {kvs : List (Key × V)} {k : Key} (e : H a = some (.dK kvs)) : DGet H a (kV k) (valV kvs k) := .inl ⟨kvs, k, .inl e, rfl, rfl⟩
theorem DGet.t {H : Hp} {a b : Addr} {kvs : List (List Key × V)} {k : List Key} (e : H a = some (.dT kvs)) (eb : H b = some (.tup (k.map kV))) : DGet H a (.ref b) (valV kvs k) := .inr ⟨kvs, k, b, .inl e, rfl, eb, rfl⟩
theorem DPut.k {H : Hp} {a : Addr} {kvs : List (Key × V)} {k : Key} {v : V} (e : H a = some (.dK kvs)) (hl : kvs.length < sizeLine) : DPut H a (kV k) v (upd H a (.dK (putK kvs k v))) := .inl ⟨kvs, k, e, rfl, hl, rfl⟩
theorem DPut.t {H : Hp} {a b : Addr} {kvs : List (List Key × V)} {k : List Key} {v : V} (e : H a = some (.dT kvs)) (eb : H b = some (.tup (k.map kV))) (hl : kvs.length < sizeLine) :
    DPut H a (.ref b) v (upd H a (.dT (putK kvs k v))) := .inr ⟨kvs, k, b, e, rfl, eb, hl, rfl⟩
section
variable {X : Cx} {pins : List (Addr × Obj)} {σ : St} {H : Hp} {s : Shared} {a : Addr} {y v : V} {u r : Value} {o : Option V} {A : Around} {E : Value → Shared → Prop}
theorem Inv.big (I : Inv X pins σ H s) : sysModules < s.heap.objs.size := by
  have h : mainGlobals < s.heap.objs.size := (I.mod.glob.keeps I.bk).lt
  exact Nat.lt_trans (by decide) h
theorem d_getItem {Q : Value → Shared → Prop} (hu : A.units + 1 < cLine) (I : Inv X pins σ H s) (g : DGet H a y (some v)) (ry : RelV y u) (h : ∀ w' s', Inv X pins σ H s' → RelV v w' → Q w' s') :
    wpAny (model X.prog X.w) A (getItem (.ref a) u) Q E s := by
  rcases g with ⟨kvs, k, e, ey, l⟩ | ⟨kvs, k, b, e, ey, eb, l⟩
  · subst ey
    obtain ⟨z, hd, vs, rel, dd⟩ := dk_rd I.hok e
    obtain ⟨w', hw, rw'⟩ := RelO.some_of (v := v) (o := valueAt vs k) (by rw [l]; exact rel.val k)
    exact wpAny_getItem_of (kV_is ry) dd.mapOf hw (h w' _ (I.tok _) rw')
  · subst ey
    cases (show u = Value.ref b from ry)
    obtain ⟨z, hd, xs, rel, dd⟩ := dt_rd I.hok e
    obtain ⟨w', hw, rw'⟩ := RelO.some_of (v := v) (o := (atKey xs k).map (·.2)) (by rw [l]; exact rel.val k)
    obtain ⟨p, hp, hp2⟩ := Option.map_eq_some_iff.mp hw
    refine wpAny_getItem_heap (tupleKind_room_in1 hu) (key_of I.hok eb) dd hp ?_
    rw [hp2]
    exact h w' _ (I.tok _) rw'
theorem d_in {Q : Value → Shared → Prop} (hu : A.units + 1 < cLine) (I : Inv X pins σ H s) (g : DGet H a y o) (ry : RelV y u) (h : ∀ s', Inv X pins σ H s' → Q (.bool o.isSome) s') :
    wpAny (model X.prog X.w) A (compareOp .In u (.ref a)) Q E s := by
  rcases g with ⟨kvs, k, e, ey, l⟩ | ⟨kvs, k, b, e, ey, eb, l⟩
  · subst ey
    obtain ⟨z, hd, vs, rel, dd⟩ := dk_rd I.hok e
    refine wpAny_in_of (kV_is ry) hd dd.mapOf ?_
    rw [← (rel.val k).isSome_eq, ← l]
    exact h _ (I.tok _)
  · subst ey
    cases (show u = Value.ref b from ry)
    obtain ⟨z, hd, xs, rel, dd⟩ := dt_rd I.hok e
    refine wpAny_in_heap (tupleKind_room_in1 hu) (key_of I.hok eb) hd dd ?_
    have q := (rel.val k).isSome_eq
    rw [Option.isSome_map] at q
    rw [← q, ← l]
    exact h _ (I.tok _)
theorem d_notIn {Q : Value → Shared → Prop} (hu : A.units + 1 < cLine) (I : Inv X pins σ H s) (g : DGet H a y o) (ry : RelV y u) (h : ∀ s', Inv X pins σ H s' → Q (.bool (!o.isSome)) s') :
    wpAny (model X.prog X.w) A (compareOp .NotIn u (.ref a)) Q E s := by
  rcases g with ⟨kvs, k, e, ey, l⟩ | ⟨kvs, k, b, e, ey, eb, l⟩
  · subst ey
    obtain ⟨z, hd, vs, rel, dd⟩ := dk_rd I.hok e
    refine wpAny_notIn_of (kV_is ry) hd dd.mapOf ?_
    rw [← (rel.val k).isSome_eq, ← l]
    exact h _ (I.tok _)
  · subst ey
    cases (show u = Value.ref b from ry)
    obtain ⟨z, hd, xs, rel, dd⟩ := dt_rd I.hok e
    refine wpAny_notIn_heap (tupleKind_room_in1 hu) (key_of I.hok eb) hd dd ?_
    have q := (rel.val k).isSome_eq
    rw [Option.isSome_map] at q
    rw [← q, ← l]
    exact h _ (I.tok _)
theorem d_write {h' : Heap} {t' : Nat} {ob : HO} (I : Inv X pins σ H s) (mu : Mut (H a)) (hs : Heap.SameBut a s.heap h') (he : ∃ q, h'.get? a = some q) (new : ObjOk X.prog X.w (upd H a ob) h' a ob) :
    Inv X pins σ (upd H a ob) { s with heap := h', toks := t' } :=
  I.write (x := a) (e := a) mu (.inl rfl) (fun b q hb z => (hs.2 b hb).trans z) he new
theorem dk_new {P : Program} {w : World} {H' : Hp} {h' : Heap} {kvs : List (Key × V)} {vs : List (Key × Value)} (z : kvs.length ≤ sizeLine) (hd : (a == sysModules) = false) (rel : KV kvs vs) (dd : h'.DictOf (mixKind P w) a vs) :
    ObjOk P w H' h' a (.dK kvs) := ⟨z, hd, vs, rel, dd⟩
theorem d_setItem {H' : Hp} {Q : Unit → Shared → Prop} (hu : A.units + 1 < cLine) (I : Inv X pins σ H s) (g : DPut H a y v H') (ry : RelV y u) (rv : RelV v r) (h : ∀ s', Inv X pins σ H' s' → Q () s') :
    wpAny (model X.prog X.w) A (setItem (.ref a) u r) Q E s := by
  rcases g with ⟨kvs, k, e, ey, l, eH⟩ | ⟨kvs, k, b, e, ey, eb, l, eH⟩
  · subst ey eH
    obtain ⟨z, hd, vs, rel, dd⟩ := dk_of I.hok e
    have hz : vs.length ≤ sizeLine := by rw [← rel.length]; exact z
    have hl : (putK kvs k v).length ≤ sizeLine := by have := length_putK kvs k v; omega
    refine wpAny_setItem_pairs (hsz := hz) (kV_is ry) dd fun h' dd' hs => h _ ?_
    have he : ∃ q, h'.get? a = some q := let ⟨q, _, _, hq, _⟩ := dd'; ⟨q, hq⟩
    exact d_write I (by rw [e]; exact True.intro) hs he (dk_new hl hd (rel.put k rv) dd')
  · subst ey eH
    cases (show u = Value.ref b from ry)
    obtain ⟨z, hd, xs, rel, dd⟩ := dt_of I.hok e
    have hz : xs.length ≤ sizeLine := by rw [← Paired.length rel]; exact z
    have hl : (putK kvs k v).length ≤ sizeLine := by have := length_putK kvs k v; omega
    refine wpAny_setItem_heap (hsz := hz) (tupleKind_room_in1 hu) (key_of I.hok eb) dd fun h' dd' hs => h _ ?_
    obtain ⟨q, es, ep, hq, h2, h3, h4, _, h5⟩ := dd'
    refine d_write I (by rw [e]; exact True.intro) hs ⟨q, hq⟩ ⟨hl, hd, _, (rel.put k eb rv).keeps fun c ys ec => ?_, q, es, ep, hq, h2, h3, h4, h5⟩
    rw [upd_ne (ne_of ec e (fun z => nomatch z))]
    exact ec
end
section
variable {X : Cx} {pins : List (Addr × Obj)} {σ : St} {H : Hp} {s : Shared} {a : Addr} {kvs : List (Key × V)} {k : Key} {u : Value} {A : Around} {E : Value → Shared → Prop}
theorem d_len {Q : Value → Shared → Prop} (I : Inv X pins σ H s) (e : Rd H a (.dK kvs)) (h : ∀ t s', Inv X pins σ H s' → Q (.int kvs.length t) s') : wpAny (model X.prog X.w) A (call (.builtin "len") [.ref a]) Q E s := by
  obtain ⟨z, hd, vs, rel, dd⟩ := dk_rd I.hok e
  refine call_len_dict hd dd (by rw [← rel.length]; rw [sizeLine_eq] at z; omega) ?_
  rw [← rel.length]
  exact h _ _ (I.tok _)
end
theorem dict_typeIs {X : Cx} {pins : List (Addr × Obj)} {σ : St} {H : Hp} {s : Shared} {a : Addr} {y : V} {o : Option V} (I : Inv X pins σ H s) (g : DGet H a y o) : s.TypeIs (.ref a) "dict" := by
  rcases g with ⟨kvs, k, e, _, _⟩ | ⟨kvs, k, b, e, _, _, _⟩
  · obtain ⟨_, _, vs, _, dd⟩ := dk_rd I.hok e
    exact dd.typeIs
  · obtain ⟨_, _, xs, _, dd⟩ := dt_rd I.hok e
    exact dd.typeIs
section
variable {X : Cx} {o i e value : Expr} {pos pos' tpos : Pos} {td ty tv : TE}
end
theorem dk_empty {P : Program} {w : World} {H : Hp} (h : Heap) (hb : sysModules < h.objs.size) : ObjOk P w H (h.push { cls := .type "dict", data := .dict #[] }) h.objs.size (.dK []) :=
  ⟨Nat.zero_le _, beq_eq_false_iff_ne.mpr (Ne.symm (Nat.ne_of_lt hb)), [], .nil, Heap.DictOf.new h⟩
def tDNewK : TE := fun _ H Q => ∀ p, H p = none → Q (.ref p) (upd H p (.dK []))
section
variable {X : Cx} {pos : Pos}
theorem pe_dnewK : PE X (.Dict [] [] pos) tDNewK := fun pins s σ H Q I h =>
  wpAny_Dict_empty ⟨.ref s.heap.objs.size, _, I.laid (a := s.heap.objs.size) (o := .dK []) (t' := s.toks) (fun _ _ q => Heap.get?_push_of_some _ q) (Nat.le_refl _) (dk_empty s.heap I.big), rfl, h _ (I.hok.fresh (Nat.le_refl _))⟩
end
section
variable {X : Cx} {pins : List (Addr × Obj)} {σ : St} {H : Hp} {s : Shared} {a : Addr} {y d : V} {u r : Value} {o : Option V} {A : Around} {E : Value → Shared → Prop}
end
section
variable {X : Cx} {o e f : Expr} {apos cpos : Pos} {td ty tx : TE}
end
section
variable {X : Cx} {pins : List (Addr × Obj)} {σ : St} {H : Hp} {s : Shared} {a : Addr} {kvs : List (Key × V)} {A : Around} {E : Value → Shared → Prop}
end
section
variable {X : Cx} {pins : List (Addr × Obj)} {σ : St} {H : Hp} {s : Shared} {a : Addr} {y : V} {u : Value} {A : Around} {E : Value → Shared → Prop}
end
end L2
namespace Att
open PySem PySem.W PySem.Calls PyProof.Rows
theorem ints_of_wellAll {P : Params} {h : Heap} : ∀ (ns : List Int) (vs : List Value), WellAll P h vs (ns.map WData.int) → IntsAre vs ns := by
  intro ns
  induction ns with
  | nil =>
    intro vs w
    rw [List.map_nil] at w
    cases w
    exact .nil
  | cons n ns ih =>
    intro vs w
    rw [List.map_cons] at w
    cases w with
    | cons a b =>
      cases a
      exact .cons _ _ (ih _ b)
theorem script_of {l : OpenLaw} {n : Nat} (hn : l.most = some n) {P : Params} {h : Heap} {args : List WData} {vals : List Value}
    (hpre : l.row.toRowW.claim.pre args = true) (hwl : WellAll P h vals args) :
    ∃ a vs ns, vals = [Value.ref a] ∧ args = [WData.list (ns.map WData.int)] ∧ h.get? a = some { cls := .type "list", data := .seq vs.toArray } ∧ IntsAre vs ns ∧ ns.length ≤ n := by
  have hsh : WShape.hasAll [] args [.list .int] = true := (pre_splitW hpre).1
  have hc : l.pre.holds [] { args := args } = true := (pre_splitW hpre).2
  obtain ⟨d, r, rfl, h1, h2⟩ := hasAllW_cons hsh
  obtain rfl := hasAllW_nil h2
  obtain ⟨xs, rfl, h3⟩ := hasW_list h1
  obtain ⟨ns, rfl⟩ := items_int h3
  have hlen : ns.length ≤ n := by
    unfold OpenLaw.pre at hc
    have h4 : (WTm.not (.lt (.lit (.int (n : Int))) (.len (.arg 0)))).holds [] { args := [.list (ns.map .int)] } = true := by
      have h4 := (holds_andW hc).1
      rw [hn] at h4
      exact h4
    have h5 := condW_of h4 (w_not (w_lt w_lit (w_len_list (w_arg rfl))))
    rw [List.length_map] at h5
    refine Nat.le_of_not_lt fun q => ?_
    have q' : (n : Int) < ((ns.length : Nat) : Int) := by omega
    first
      | (rw [decide_eq_true q'] at h5; exact absurd h5 (by decide))
      | (simp at h5; omega)
  cases hwl with
  | cons w1 w2 =>
    cases w2
    cases w1 with
    | list ho hall => exact ⟨_, _, ns, rfl, rfl, ho, ints_of_wellAll ns _ hall, hlen⟩
theorem post_true (l : OpenLaw) (args : List WData) : l.row.toRowW.claim.post args (.bool true) args = true :=
  postW_of (r := l.row.toRowW) (X := (true == true))
    (show WShape.has [] (.bool true) .bool = true by first | rfl | decide | simp [WShape.has, WShape.arms, WShape.armsAll])
    (show (WTm.eq .res (.lit (.bool true))).value [] { args := args, res := some (.bool true), after := args } = some (.bool (true == true)) from w_eq_bool (w_res rfl) w_lit) rfl
theorem attach_call {l : OpenLaw} {n : Nat} {q : Program} {loose : List Str} {XP : (Str → Option Value) → Heap → Prop} {YP : World → Heap → Prop} {d : DefRec}
    (hn : l.most = some n) (hdf : d.params.defaults = [])
    (call : ∀ (w : World) (s₀ s₁ : Shared) (mg mb : Str → Option Value) (fa : Addr) (o : Obj) (pm cd doc : Value) (a : Addr) (vs : List Value) (ns : List Int),
      Ground q loose [] XP w s₀ mg mb s₁.heap → YP w s₁.heap →
      s₁.heap.get? fa = some o → o.data = .func (docDef d.name d.params d.body d.scope pm cd doc) → s₁.heap.CodeRec cd d.name → mg d.name = some (.ref fa) →
      s₁.heap.get? a = some { cls := .type "list", data := .seq vs.toArray } → IntsAre vs ns → ns.length ≤ n → s₁.gens = #[] →
      codeAny (model l.prog w) callerA (.call (.ref fa) ⟨[.ref a], []⟩) (fun r s' => r = .ok (.ret (.bool true)) ∧ OldK s₁.heap s'.heap ∧ s'.os = s₁.os ∧ AllBare s'.gens) s₁) :
    WalkO q loose XP YP l.row.toRowW d [] (fun f vs => PySem.call f vs) := by
  intro w s₀ s₁ mg mb G Y fa o pm cd doc dV kV ho hd hcd hD hmg hg args vals as hpre hlay hrd hwl hlo
  obtain rfl : dV = .none := Dflts.none hD hdf
  obtain rfl : kV = .none := Dflts.noKw hD
  obtain ⟨a, vs, ns, rfl, rfl, hobj, hints, hlen⟩ := script_of hn hpre hwl
  refine enter_call (codeAny_mono (call w s₀ s₁ mg mb fa o pm cd doc a vs ns G Y ho (fd_plain hd) hcd hmg hobj hints hlen hg) fun r s' hq => ?_)
  obtain ⟨rfl, h2, h3, h4⟩ := hq
  exact ⟨.inl ⟨.bool true, .bool true, [], rfl, fun _ => rfl, .bool true, post_true l _, fun _ => ⟨List.Pairwise.nil, fun _ hm => (nomatch hm)⟩⟩, h2, h3, h4⟩
section
variable {prog : Program} {w : World} {A : Around} {E : Value → Shared → Prop} {s : Shared} {K : Frag}
end
end Att
namespace L2
open PySem PySem.Spec PyProof.Rows
theorem vals_ints : ∀ {vs : List Value} {ns : List Int}, IntsAre vs ns → Vals (ns.map V.int) vs
  | _, _, .nil => .nil
  | _, _, .cons n t h => .cons ⟨t, rfl⟩ (vals_ints h)
end L2
namespace L2
open PySem PySem.Spec PyProof.Rows
end L2
namespace L2
open PySem PySem.Spec PyProof.Rows
def defArgs (s : Stmt) : Arguments := match s with
  | .FunctionDef _ a _ _ _ _ _ _ _ _ => a
  | _ => { posonlyargs := [], args := [], vararg := none, kwonlyargs := [], kw_defaults := [], kwarg := none, defaults := [] }
def defBody (s : Stmt) : List Stmt := match s with
  | .FunctionDef _ _ b _ _ _ _ _ _ _ => b
  | _ => []
def defScope (s : Stmt) : Scope := match s with
  | .FunctionDef _ _ _ _ _ _ sc _ _ _ => sc
  | _ => { kind := .function, names := [], isGenerator := false, isCoroutine := false }
abbrev CX0 : CXT := fun _ _ _ _ _ _ => False
abbrev E0 : XK := fun _ _ _ => False
theorem pass0 {X : Cx} : Passes CX0 X E0 := fun _ _ _ _ _ _ _ h => h.elim
structure Fun (K : PySem.W.Frag) (x qual : Str) (st : Stmt) (f : Addr) (fd : FuncData) : Prop where
  ex : ∃ (oc : Value) (od : Option Addr) (kV doc pm : Value) (an : Option Addr) (cdv ct : Value) (osl : Array (Option Value)),
    fd = PySem.W.fnOf x qual (defArgs st) (defBody st) (defScope st) .none kV doc pm an cdv ct ∧ K.lookup f = some ⟨oc, od, .func fd, osl⟩ ∧ PySem.W.codeIn K cdv qual = true
  kp : PySem.W.keepIn K (.ref f) = true
section
variable {P : Program} {w : World} {K : PySem.W.Frag} {mg : Str → Option Value} {base : Heap}
theorem Fun.ok {x qual : Str} {st : Stmt} {f : Addr} {fd : FuncData} {N ps : List Str} {k : Nat} {sp : Sp} (F : Fun K x qual st f fd) (S : FnScope N ps (defScope st)) (len : ∀ vs H Q E, sp vs H Q E → vs.length = ps.length)
    (hbody : ∀ (cdv : Value) (A : Around) (outer : List Env) (s : Shared) (H : Hp) (vs : List V) (Q : VK) (E : XK), Room k (A.deeper (envOfC qual (defScope st) s.heap.objs.size f cdv)) → sp vs H Q E →
      ∃ t, PSs (cxOf CX0 P w K mg base N qual (defScope st) f cdv A outer s H E).nox (defBody st) t ∧ t { nx := fun _ H' => Q .non H', rt := Q } (start N vs) H) : FnOk P w K mg base CX0 (k + 1) f fd ps sp := by
  obtain ⟨oc, od, kV, doc, pm, an, cdv, ct, osl, rfl, lk, hcd⟩ := F.ex
  refine fn_of lk hcd S len fun A outer s H vs Q E hr hsp => ?_
  obtain ⟨t, h, q⟩ := hbody cdv A outer s H vs Q E hr hsp
  exact ⟨t, h.nox, q⟩
theorem Fun.binds {x qual : Str} {st : Stmt} {f : Addr} {fd : FuncData} {ps : List Str} (F : Fun K x qual st f fd)
    (h : ∀ (kV doc pm : Value) (an : Option Addr) (cdv ct : Value) (us : List Value), us.length = ps.length → bindArgs (PySem.W.fnOf x qual (defArgs st) (defBody st) (defScope st) .none kV doc pm an cdv ct) ⟨us, []⟩ = pure (ps.zip us)) : Binds K fd ps [] := by
  obtain ⟨oc, od, kV, doc, pm, an, cdv, ct, osl, rfl, lk, hcd⟩ := F.ex
  exact .all (h kV doc pm an cdv ct)
theorem fun_mk {x qual : Str} {st : Stmt} {f : Addr} {oc : Value} {od an : Option Addr} {osl : Array (Option Value)} {kV doc pm cdv ct : Value} (l : K.lookup f = some ⟨oc, od, .func (PySem.W.fnOf x qual (defArgs st) (defBody st) (defScope st) .none kV doc pm an cdv ct), osl⟩)
    (c : PySem.W.codeIn K cdv qual = true) (k : PySem.W.keepIn K (.ref f) = true) : Fun K x qual st f (PySem.W.fnOf x qual (defArgs st) (defBody st) (defScope st) .none kV doc pm an cdv ct) := ⟨⟨oc, od, kV, doc, pm, an, cdv, ct, osl, rfl, l, c⟩, k⟩
end
theorem hu_of {A : Around} {k : Nat} (hr : Room k A) : A.units + 1 < cLine := Nat.lt_of_le_of_lt (Nat.add_le_add_left (by decide : 1 ≤ 64) _) hr.units
section
variable {X : Cx}
theorem pv (i : Nat) {x : Str} {pos : Pos} (hN : X.N[i]? = some x := by rfl) (hv : Vis X.env.scope x := by first | exact Or.inl rfl | exact Or.inr (Or.inl rfl) | exact Or.inr (Or.inr rfl)) (hd : (x == ("__debug__" : Str)) = false := by decide)
    (hcd : (x == ("__classdict__" : Str)) = false := by decide) : PE X (.Name x pos) (tVar i) := pe_var hN hv hd hcd
theorem call_lenD : CallR X (.builtin "len") (fun xs H Q => ∃ a kvs, xs = [V.ref a] ∧ H a = some (.dK kvs) ∧ Q (.int kvs.length) H) := by
  intro pins s σ H xs us Q I r h
  obtain ⟨a, kvs, rfl, ha, q⟩ := h
  obtain ⟨u, rfl, ru⟩ := vals1 r
  cases ru
  exact d_len I (.inl ha) fun t s' I' => ⟨.int kvs.length, H, I', ⟨t, rfl⟩, q⟩
end
theorem iteF {A B : Prop} (h : B) : if false = true then A else B := by
  rw [if_neg Bool.false_ne_true]
  exact h
theorem ite2 {c A B : Prop} [Decidable c] (h1 : c → A) (h2 : ¬ c → B) : if c then A else B := by
  by_cases h : c
  · rw [if_pos h]
    exact h1 h
  · rw [if_neg h]
    exact h2 h
theorem iteNS {c A B : Prop} [Decidable c] (hc : c) (h : B) : if (!decide c) = true then A else B := by
  rw [decide_eq_true hc]
  exact iteF h
def Same (H H' : Hp) : Prop := ∀ b o, H b = some o → H' b = some o
theorem Same.refl (H : Hp) : Same H H := fun _ _ h => h
theorem Same.trans {H H1 H2 : Hp} (a : Same H H1) (b : Same H1 H2) : Same H H2 := fun c o h => b c o (a c o h)
theorem Same.free {H H' : Hp} (e : Same H H') {l : Addr} (h : H' l = Option.none) : H l = Option.none := by
  cases q : H l with
  | none => rfl
  | some o =>
    rw [e l o q] at h
    cases h
theorem Same.seq {K : PySem.W.Frag} {H H' : Hp} {a : Addr} {xs : List V} (e : Same H H') (h : SqL K H a xs) : SqL K H' a xs := by
  rcases h with (h | ⟨o, h⟩) | h
  · exact .inl (.inl (e _ _ h))
  · exact .inl (.inr ⟨o, e _ _ h⟩)
  · exact .inr h
section
variable {κ : Type} [DecidableEq κ]
end
end L2
set_option Elab.async false
set_option linter.all false
set_option maxRecDepth 100000
namespace L2
open PySem PySem.Spec PyProof.Rows
theorem closureFor_go {env : Env} : ∀ (names : List (Str × NameKind)) (acc : List (Str × Addr)), (∀ y ∈ names, y.2 = .free → ∃ c, env.cells.lookup y.1 = some c) → (∀ x c, acc.lookup x = some c → env.cells.lookup x = some c) →
    ∃ cl, (forIn names acc (fun x r => if (x.2 == NameKind.free) = true then do let c ← cellOf env x.1; pure (ForInStep.yield ((x.1, c) :: r)) else pure (ForInStep.yield r)) : Sem _) = pure cl ∧
      (∀ x c, cl.lookup x = some c → env.cells.lookup x = some c) ∧ (∀ x, ((x, NameKind.free) ∈ names ∨ ∃ c, acc.lookup x = some c) → ∃ c, cl.lookup x = some c) := by
  intro names
  induction names with
  | nil => intro acc h ha; exact ⟨acc, rfl, ha, fun x hx => by simpa using hx⟩
  | cons y r ih =>
    intro acc h ha
    obtain ⟨n, k⟩ := y
    have hr : ∀ y ∈ r, y.2 = .free → ∃ c, env.cells.lookup y.1 = some c := fun y hy => h y (List.mem_cons_of_mem _ hy)
    rw [List.forIn_cons]
    by_cases hk : k = .free
    · subst hk
      obtain ⟨c, hc⟩ := h (n, .free) List.mem_cons_self rfl
      have e : cellOf env n = pure c := by unfold cellOf; rw [hc]
      obtain ⟨cl, e1, a, b⟩ := ih ((n, c) :: acc) hr (fun x c' hx => by
        rw [List.lookup_cons] at hx
        cases hxn : x == n with
        | true =>
          rw [hxn] at hx
          cases hx
          rw [eq_of_beq hxn]
          exact hc
        | false =>
          rw [hxn] at hx
          exact ha x c' hx)
      refine ⟨cl, ?_, a, fun x hx => b x ?_⟩
      · rw [← e1]
        show (if (NameKind.free == NameKind.free) = true then (cellOf env n >>= _) else _) >>= _ = _
        rw [if_pos (show (NameKind.free == NameKind.free) = true from rfl), e]
        rfl
      · rcases hx with hx | ⟨c', hx⟩
        · rcases List.mem_cons.mp hx with e2 | hx
          · have e3 : x = n := congrArg Prod.fst e2
            exact .inr ⟨c, by rw [List.lookup_cons, e3]; simp⟩
          · exact .inl hx
        · refine .inr ?_
          rw [List.lookup_cons]
          cases x == n with
          | true => exact ⟨c, rfl⟩
          | false => exact ⟨c', hx⟩
    · obtain ⟨cl, e1, a, b⟩ := ih acc hr ha
      refine ⟨cl, ?_, a, fun x hx => b x ?_⟩
      · rw [← e1]
        have hb : (k == NameKind.free) = false := by simpa using hk
        show (if (k == NameKind.free) = true then _ else _) >>= _ = _
        rw [if_neg (by rw [hb]; simp)]
        rfl
      · rcases hx with hx | hx
        · rcases List.mem_cons.mp hx with e2 | hx
          · exact absurd (congrArg Prod.snd e2).symm hk
          · exact .inl hx
        · exact .inr hx
theorem closureFor_some {scope : Scope} {env : Env} (h : ∀ y ∈ scope.names, y.2 = .free → ∃ c, env.cells.lookup y.1 = some c) :
    ∃ cl, closureFor scope env = pure cl ∧ (∀ x c, cl.lookup x = some c → env.cells.lookup x = some c) ∧ (∀ x, (x, NameKind.free) ∈ scope.names → ∃ c, cl.lookup x = some c) := by
  obtain ⟨cl, e, a, b⟩ := closureFor_go scope.names [] h (by intro x c e; cases e)
  refine ⟨cl, ?_, a, fun x hx => b x (.inl hx)⟩
  unfold closureFor
  exact congrArg (fun m => m >>= fun x => pure x) e
def cpN (N own : List Str) (cap : List Nat) : List Str := own ++ cap.map fun j => N.getD j ""
def cpSt (own : List Str) (cap : List Nat) (σ : St) : St := own.map (fun _ => none) ++ cap.map fun j => σ.getD j none
structure CpScope (N : List Str) (osc sc : Scope) (own : List Str) (cap : List Nat) : Prop where
  kind : sc.kind = .function
  names : ∀ x ∈ sc.names, x.2 = .local → sc.names.lookup x.1 = some .local
  nocell : ∀ y ∈ sc.names, y.2 ≠ .cell
  free : ∀ y ∈ sc.names, y.2 = .free → osc.names.lookup y.1 = some .cell ∨ osc.names.lookup y.1 = some .free
  cap : ∀ j ∈ cap, j < N.length ∧ sc.names.lookup (N.getD j "") = some .free
def cxComp (X : Cx) (sc : Scope) (own : List Str) (cap : List Nat) (cl : List (Str × Addr)) (C : Addr) (s : Shared) (H : Hp) (fp : List Addr) (pins : List (Addr × Obj)) : Cx :=
  { X with N := cpN X.N own cap, s₀ := s, H₀ := H, env := compEnvC sc cl C X.env, outer := X.stack, ex := fp, fn := fun _ => false, pn := X.pn ++ pins, xe := fun _ _ => False }
def PTs (X : Cx) (ifs : List Expr) (tt : TT) : Prop :=
  ∀ (pins : List (Addr × Obj)) (s : Shared) (σ : St) (H : Hp) (Q : Bool → Hp → Prop), Inv X pins σ H s → tt σ H Q →
    wpAny (model X.prog X.w) X.A (forIn ifs true fun c r => if r = true then do let ok ← isTrue c X.env (eval c X.env); pure (ForInStep.yield ok) else pure (ForInStep.yield r)) (TP X pins σ Q) X.xe s
def tYes : TT := fun _ H Q => Q true H
theorem pts_nil {X : Cx} : PTs X [] tYes := fun _ _ _ H _ I h => wpAny_tests_nil ⟨H, I, h⟩
theorem pts_one {X : Cx} {c : Expr} {tt : TT} (h : PT X c tt) : PTs X [c] tt := fun pins s σ H Q I hq => wpAny_tests_one (h pins s σ H Q I hq)
def GOwn (n : Nat) (g : TG) : Prop := ∀ v σ H Q, g v σ H Q → g v σ H fun σ' H' => (σ'.length = σ.length ∧ ∀ j, n ≤ j → σ'[j]? = σ[j]?) ∧ Q σ' H'
theorem gown_name {n i : Nat} (h : i < n) : GOwn n (gName i) := fun v σ H Q q => ⟨⟨by simp, fun j hj => by rw [List.getElem?_set_ne (by omega)]⟩, q⟩
def tComp (own : List Str) (cap : List Nat) (wi : TI) (g : TG) (tt : TT) (te : TE) : TE := fun σ H Q => wi σ H fun J H1 => ∃ W : Nat → Nat → List V → Hp → Prop, (∃ m, W 0 m [] H1) ∧ ∀ i m acc H, W i m acc H → acc.length ≤ sizeLine ∧
  ((J.stop i H ∧ ∀ p, H p = none → Q (.ref p) (upd H p (.lst acc))) ∨
   (J.go i H ∧ acc.length < sizeLine ∧ ∃ N : List V → Hp → Prop, (∀ acc' H', N acc' H' → ∃ m', m' < m ∧ W (i + 1) m' acc' H') ∧ ∀ x H', J.yld i H x H' → g x (cpSt own cap σ) H' fun σ2 H2 => tt σ2 H2 fun b H3 => if b = true then te σ2 H3 fun y H4 => N (acc ++ [y]) H4 else N acc H3))
section
variable {prog : Program} {w : World} {A : Around} {R : Result → Shared → Prop} {s : Shared}
theorem codeAny_compLoop_go {elt target iter : Expr} {ifs : List Expr} {scope : Scope} {pos : Pos} {it acc : Value} {env : Env} (I : Nat → Shared → Prop)
    (turn : ∀ n s, I n s → wpAny (model prog w) A (pyNext it) (fun r s₁ => match r with
      | none => R (.ok .next) s₁
      | some v => wpAny (model prog w) A (letOwnedTupleGo target it v) (fun _ s₁' => wpAny (model prog w) A (assign target env v) (fun _ s₂ =>
          wpAny (model prog w) A (forIn ifs true fun c r => if r = true then do let ok ← isTrue c env (eval c env); pure (ForInStep.yield ok) else pure (ForInStep.yield r)) (fun ok s₃ =>
            if ok = true then wpAny (model prog w) A (eval elt env) (fun x s₄ =>
              wpAny (model prog w) A (call (.builtin "list.append") [acc, x]) (fun _ s₅ => ∃ m, m < n ∧ I m s₅) (fun _ _ => False) s₄) (fun _ _ => False) s₃
            else ∃ m, m < n ∧ I m s₃) (fun _ _ => False) s₂) (fun _ _ => False) s₁') (fun _ _ => False) s₁) (fun _ _ => False) s)
    (n : Nat) (h : I n s) :
    codeAny (model prog w) A (.compLoop (.ListComp elt [⟨target, iter, ifs, 0⟩] scope pos) 0 it acc env) R s := by
  refine codeAny_loop rfl I (fun n s hI => ?_) n h
  show wpAny _ A ((compTurn (.ListComp elt [⟨target, iter, ifs, 0⟩] scope pos) 0 it acc env).onRaise (fun x => do noteFrame x env; theTreesLotGoes x)) _ _ s
  refine wpAny_noted ?_
  rw [compTurn_list]
  refine wpAny_bind (wpAny_standAt (wpAny_bind (wpAny_mono (turn n s hI) (fun r s₁ h₁ => ?_) fun _ _ h' => h'.elim)))
  cases r with
  | none => exact wpAny_pure h₁
  | some v =>
    refine wpAny_bind (wpAny_mono h₁ (fun _ s₁' h₁' => ?_) fun _ _ h' => h'.elim)
    refine wpAny_bind (wpAny_mono h₁' (fun _ s₂ h₂ => wpAny_bind (wpAny_mono h₂ (fun ok s₃ h₃ => ?_) fun _ _ h' => h'.elim)) fun _ _ h' => h'.elim)
    cases ok with
    | false => exact wpAny_pure ⟨rfl, h₃⟩
    | true =>
      exact wpAny_bind (wpAny_bind (wpAny_mono h₃ (fun x s₄ h₄ => wpAny_bind (wpAny_mono h₄ (fun _ s₅ h₅ => wpAny_pure (wpAny_pure ⟨rfl, h₅⟩)) fun _ _ h' => h'.elim)) fun _ _ h' => h'.elim))
end
section
variable {X : Cx}
theorem cpSt_some {own : List Str} {cap : List Nat} {σ : St} {i : Nat} {v : V} (h : (cpSt own cap σ)[i]? = some (some v)) : own.length ≤ i ∧ ∃ j, cap[i - own.length]? = some j ∧ σ[j]? = some (some v) := by
  unfold cpSt at h
  by_cases hi : i < own.length
  · rw [List.getElem?_append_left (by simpa using hi), List.getElem?_map] at h
    cases e : own[i]? with
    | none => rw [e] at h; cases h
    | some a => rw [e] at h; cases h
  · have hi' : own.length ≤ i := by omega
    rw [List.getElem?_append_right (by simpa using hi'), List.length_map, List.getElem?_map] at h
    refine ⟨hi', ?_⟩
    cases e : cap[i - own.length]? with
    | none => rw [e] at h; cases h
    | some j =>
      rw [e] at h
      have h2 : σ.getD j none = some v := Option.some.inj h
      refine ⟨j, rfl, ?_⟩
      rw [List.getD_eq_getElem?_getD] at h2
      cases e2 : σ[j]? with
      | none => rw [e2] at h2; cases h2
      | some o => rw [e2] at h2; simp at h2; rw [h2]
theorem lookup_relabel {env : Env} {x : Str} {k : NameKind} : ∀ {names : List (Str × NameKind)}, names.lookup x = some k →
    (names.map fun (n, k) => if (k == NameKind.free && env.scope.kind == .function && env.kindOf n == some .cell) then (n, NameKind.cell) else (n, k)).lookup x = some (if (k == NameKind.free && env.scope.kind == .function && env.kindOf x == some .cell) = true then .cell else k)
  | [], h => by simp at h
  | (n, k') :: r, h => by
    have ih := @lookup_relabel env x k r
    show List.lookup x ((if (k' == NameKind.free && env.scope.kind == .function && env.kindOf n == some .cell) = true then (n, NameKind.cell) else (n, k')) :: _) = _
    cases hx : x == n with
    | true =>
      simp only [List.lookup_cons, hx] at h
      cases h
      have e := eq_of_beq hx
      subst e
      by_cases hc : (k == NameKind.free && env.scope.kind == .function && env.kindOf x == some .cell) = true
      · rw [if_pos hc, if_pos hc]; simp [List.lookup_cons]
      · rw [if_neg hc, if_neg hc]; simp [List.lookup_cons]
    | false =>
      simp only [List.lookup_cons, hx] at h
      by_cases hc : (k' == NameKind.free && env.scope.kind == .function && env.kindOf n == some .cell) = true
      · rw [if_pos hc]; simp only [List.lookup_cons, hx]; exact ih h
      · rw [if_neg hc]; simp only [List.lookup_cons, hx]; exact ih h
theorem lookup_relabel_free {env : Env} {x : Str} : ∀ {names : List (Str × NameKind)}, (∀ y ∈ names, y.2 ≠ .cell) →
    ((names.map fun (n, k) => if (k == NameKind.free && env.scope.kind == .function && env.kindOf n == some .cell) then (n, NameKind.cell) else (n, k)).lookup x = some .cell ∨
     (names.map fun (n, k) => if (k == NameKind.free && env.scope.kind == .function && env.kindOf n == some .cell) then (n, NameKind.cell) else (n, k)).lookup x = some .free) → (x, NameKind.free) ∈ names
  | [], _, h => by simp at h
  | (n, k') :: r, hn, h => by
    have ih := @lookup_relabel_free env x r fun y hy => hn y (List.mem_cons_of_mem _ hy)
    have hk' : k' ≠ .cell := hn (n, k') List.mem_cons_self
    have h : List.lookup x ((if (k' == NameKind.free && env.scope.kind == .function && env.kindOf n == some .cell) = true then (n, NameKind.cell) else (n, k')) :: _) = some .cell ∨
      List.lookup x ((if (k' == NameKind.free && env.scope.kind == .function && env.kindOf n == some .cell) = true then (n, NameKind.cell) else (n, k')) :: _) = some .free := h
    cases hx : x == n with
    | true =>
      have e := eq_of_beq hx
      subst e
      by_cases hc : (k' == NameKind.free && env.scope.kind == .function && env.kindOf x == some .cell) = true
      · have : k' = .free := by
          rw [Bool.and_eq_true, Bool.and_eq_true] at hc
          exact eq_of_beq hc.1.1
        rw [this]
        exact List.mem_cons_self
      · rw [if_neg hc] at h
        simp [List.lookup_cons] at h
        rcases h with h | h
        · exact absurd h hk'
        · rw [h]; exact List.mem_cons_self
    | false =>
      by_cases hc : (k' == NameKind.free && env.scope.kind == .function && env.kindOf n == some .cell) = true
      · rw [if_pos hc] at h; simp only [List.lookup_cons, hx] at h; exact List.mem_cons_of_mem _ (ih h)
      · rw [if_neg hc] at h; simp only [List.lookup_cons, hx] at h; exact List.mem_cons_of_mem _ (ih h)
end
end L2
set_option Elab.async false
set_option linter.all false
set_option maxRecDepth 100000
namespace L2
open PySem PySem.Spec PyProof.Rows
theorem addr_ne {a b : Addr} {n : Nat} (h1 : a < n) (h2 : n ≤ b) : a ≠ b := Nat.ne_of_lt (Nat.lt_of_lt_of_le h1 h2)
section
variable {X : Cx} {pins : List (Addr × Obj)} {σ : St} {H : Hp} {s : Shared} {sc : Scope} {own : List Str} {cap : List Nat} {cl : List (Str × Addr)} {C : Addr} {fp : List Addr}
theorem cx_ok (S : CpScope X.N X.env.scope sc own cap) (cl1 : ∀ x c, cl.lookup x = some c → X.env.cells.lookup x = some c) (cl2 : ∀ x, (x, NameKind.free) ∈ sc.names → ∃ c, cl.lookup x = some c)
    (I : Inv X pins σ H s) (f : ∀ b ∈ fp, FpOk X pins H b) (live : ∀ b ∈ fp, b < s.heap.objs.size) (hC : s.heap.objs.size ≤ C) : (cxComp X sc own cap cl C s H fp pins).Ok where
  mod := I.ok.mod
  kind := S.kind
  glob := I.ok.glob
  blt := I.ok.blt
  above := hC
  inj := fun x y c h1 h2 => I.ok.inj x y c (cl1 x c h1) (cl1 y c h2)
  has := fun x hx => cl2 x (lookup_relabel_free S.nocell hx)
  cab := fun x c h => by cases h
  hd := I.ok.hd
  frames := I.ok.frames
  stk := .inl rfl
  exf := fun b hb => ⟨fun z => addr_ne (live b hb) hC z, fun x c e => (f b hb).2.2.2.2.1 x c (cl1 x c e)⟩
  bs := I.bs
  bsz := Nat.le_trans I.ok.bsz I.sz
  noex := fun b o e hb => by
    rcases (f b hb).2.2.2.1 with z | z
    · exact I.ok.noex b o e z
    · exact addr_ne (Nat.lt_of_lt_of_le (Heap.lt_size e) I.ok.bsz) z rfl
  exfs := fun b hb z => by
    rcases List.mem_cons.mp (I.stkSub b z) with q | q
    · exact (f b hb).2.1 q
    · exact (f b hb).2.2.1 q
  funs := I.stack
  frf := I.stkFree
theorem cx_inv (S : CpScope X.N X.env.scope sc own cap) (cl1 : ∀ x c, cl.lookup x = some c → X.env.cells.lookup x = some c) (cl2 : ∀ x, (x, NameKind.free) ∈ sc.names → ∃ c, cl.lookup x = some c)
    (I : Inv X pins σ H s) (ok : (cxComp X sc own cap cl C s H fp pins).Ok) (hC : s.heap.objs.size ≤ C) {h₁ : Heap} {tk : Nat} {m : Str → Option Value} (hns : h₁.Ns C m) (old : ∀ b o, s.heap.get? b = some o → h₁.get? b = some o) :
    Inv (cxComp X sc own cap cl C s H fp pins) [] (cpSt own cap σ) H { s with heap := h₁, toks := tk } := by
  have cellK : ∀ x c v, X.env.cells.lookup x = some c → s.heap.IsCell c v → h₁.IsCell c v := fun x c v _ z => by
    obtain ⟨o, ho, hd⟩ := z
    exact ⟨o, old c o ho, hd⟩
  refine ⟨ok, rfl, I.bare, Un.kept old, ⟨m, hns, fun i x v e1 e2 e3 => ?_⟩, fun x c e => ?_, I.hok.fresh hC, fun x c e => I.freeC x c (cl1 x c e), fun p hp => ?_, I.hok.kept old, ?_⟩
  · have e1 : (cpN X.N own cap)[i]? = some x := e1
    obtain ⟨hi, j, hj, hσ⟩ := cpSt_some e2
    unfold cpN at e1
    rw [List.getElem?_append_right hi, List.getElem?_map, hj] at e1
    have e1 : X.N.getD j "" = x := Option.some.inj e1
    obtain ⟨hjl, hfr⟩ := S.cap j (List.mem_of_getElem? hj)
    have hx : X.N[j]? = some x := by rw [← e1, List.getD_eq_getElem?_getD]; simp [hjl]
    rw [e1] at hfr
    have hfree := S.free (x, .free) (PySem.mem_of_lookup hfr) rfl
    obtain ⟨m0, _, hl⟩ := I.loc
    obtain ⟨u, r, l⟩ := hl j x v hx hσ (.inr hfree)
    refine ⟨u, r, ?_⟩
    rcases l with ⟨k, _⟩ | ⟨k, c, hc, z⟩
    · have k : X.env.scope.names.lookup x = some .local := k
      rcases hfree with q | q <;> (rw [q] at k; cases k)
    · obtain ⟨c', hc'⟩ := cl2 x (PySem.mem_of_lookup hfr)
      have e4 := cl1 x c' hc'
      rw [hc] at e4
      cases e4
      refine .inr ⟨?_, c, hc', cellK x c _ hc z⟩
      have q := lookup_relabel (env := X.env) hfr
      show (relabel sc X.env).names.lookup x = some .cell ∨ (relabel sc X.env).names.lookup x = some .free
      have q' : (relabel sc X.env).names.lookup x = some (if (NameKind.free == NameKind.free && X.env.scope.kind == .function && X.env.kindOf x == some .cell) = true then .cell else .free) := q
      rw [q']
      split
      · exact .inl rfl
      · exact .inr rfl
  · obtain ⟨v, z⟩ := I.cell x c (cl1 x c e)
    exact ⟨v, cellK x c v (cl1 x c e) z⟩
  · have hp : p ∈ (X.pn ++ pins) ++ [] := hp
    rw [List.append_nil] at hp
    obtain ⟨e, n, ne, nf, d⟩ := I.pin p hp
    refine ⟨old _ _ e, n, fun z => ?_, fun z => ?_, d⟩
    · exact addr_ne (Heap.lt_size e) hC z
    · rcases List.mem_cons.mp (I.stkSub p.1 z) with q | q
      · exact ne q
      · exact nf q
  · show (cpSt own cap σ).length = (cpN X.N own cap).length
    unfold cpSt cpN
    simp
theorem cx_back (I : Inv X pins σ H s) (f : ∀ b ∈ fp, FpOk X pins H b) (hC : s.heap.objs.size ≤ C) {D : Addr} (hD : s.heap.objs.size ≤ D) (hDC : D ≠ C) {σ' : St} {pl : List (Addr × Obj)} {H' : Hp} {s' : Shared} {acc : List V} {its : List Value} {nn : Nat}
    (J : Inv (cxComp X sc own cap cl C s H fp pins) pl σ' H' s') (hDn : H' D = none) (hDo : s'.heap.get? D = some { cls := .type "list", data := .seq its.toArray nn }) (hv : Vals acc its) (hz : acc.length ≤ sizeLine) :
    Inv X pins σ (upd H' D (.lst acc)) s' ∧ (∃ m, s'.heap.Ns C m) ∧ FpOk X pins (upd H' D (.lst acc)) C := by
  have u : Un (frs X.stack) fp H H' s.heap s'.heap := J.base
  have lt : ∀ b o, s.heap.get? b = some o → b ≠ D := fun b o e z => addr_ne (Heap.lt_size e) hD z
  have trk : ∀ b o, H b = some o → b ≠ D := fun b o e z => addr_ne (I.hok.lt e) hD z
  have CH : H' C = none := J.free
  refine ⟨I.call' (ch := fp) J.os ⟨u.keep, u.slot, fun b o e n hx => by rw [upd_ne (lt b o e)]; exact u.free b o e n hx, u.there, fun b xs e => by rw [upd_ne (trk b _ e)]; exact u.tups b xs e, fun b o xs e => by rw [upd_ne (trk b _ e)]; exact u.frzs b o xs e, fun b ps e => by rw [upd_ne (trk b _ e)]; exact u.tbls b ps e⟩ (fun b o e => ?_) J.bare fun b hb => ?_, ?_, ?_⟩
  · by_cases hb : b = D
    · subst hb
      rw [upd_same] at e
      cases e
      exact ⟨hz, its, nn, hv, hDo⟩
    · rw [upd_ne hb] at e
      refine (J.hok b o e).stay (fun c v _ q => q) (fun c q => ?_) fun c xs q => ?_
      · rw [upd_ne (ne_of_none q hDn)]; exact q
      · rw [upd_ne (ne_of_none q hDn)]; exact q
  · obtain ⟨f0, f1, f2, f3, f4, f5⟩ := f b hb
    exact ⟨f3, f1, f4, f5⟩
  · obtain ⟨m, hn, _⟩ := J.loc
    exact ⟨m, hn⟩
  · refine I.fpOk hC ?_
    rw [upd_ne (Ne.symm hDC)]
    exact CH
theorem comp_block {elt tg iter : Expr} {ifs : List Expr} {pos : Pos} {g : TG} {tt : TT} {te : TE} {E : Value → Shared → Prop}
    {it : Addr} {tn : Nat → Heap → Prop} {J : It} {Q : VK} {RR : Value → Addr → Result → Shared → Prop}
    (hc : X.calm = true) (S : CpScope X.N X.env.scope sc own cap) (hown : GOwn own.length g)
    (cl1 : ∀ x c, cl.lookup x = some c → X.env.cells.lookup x = some c) (cl2 : ∀ x, (x, NameKind.free) ∈ sc.names → ∃ c, cl.lookup x = some c)
    (hb : ∀ cl C s H fp pins, PG (cxComp X sc own cap cl C s H fp pins) tg g ∧ PTs (cxComp X sc own cap cl C s H fp pins) ifs tt ∧ PE (cxComp X sc own cap cl C s H fp pins) elt te)
    (I : Inv X pins σ H s) (T : Turn X.prog X.w X.K tg J fp it tn) (st : tn 0 s.heap) (f : ∀ b ∈ fp, FpOk X pins H b)
    (W : Nat → Nat → List V → Hp → Prop) (w0 : ∃ m, W 0 m [] H)
    (turn : ∀ i m acc H, W i m acc H → acc.length ≤ sizeLine ∧ ((J.stop i H ∧ ∀ p, H p = none → Q (.ref p) (upd H p (.lst acc))) ∨ (J.go i H ∧ acc.length < sizeLine ∧ ∃ N : List V → Hp → Prop, (∀ acc' H', N acc' H' → ∃ m', m' < m ∧ W (i + 1) m' acc' H') ∧ ∀ x H', J.yld i H x H' → g x (cpSt own cap σ) H' fun σ2 H2 => tt σ2 H2 fun b H3 => if b = true then te σ2 H3 fun y H4 => N (acc ++ [y]) H4 else N acc H3)))
    (hRR : ∀ D C H' s', Inv X pins σ H' s' → (∃ m, s'.heap.Ns C m) → FpOk X pins H' C → Q (.ref D) H' → RR (.ref D) C (.ok .next) s') :
    wpAny (model X.prog X.w) X.A (newList []) (fun acc s₃ => wpAny (model X.prog X.w) X.A (newFunctionEnv sc X.env.globals cl [] X.env.qual none .none (some X.env)) (fun cenv s₄ =>
      codeAny (model X.prog X.w) X.A (.compStart (.ListComp elt [⟨tg, iter, ifs, 0⟩] sc pos) 0 (.ref it) acc { cenv with scope := relabel sc X.env }) (RR acc cenv.locals) s₄) E s₃) E s := by
  refine wpAny_newObj_type (wpAny_newFunctionEnv S.nocell (by intro y hy; simp at hy) (fun h₁ hns₁ hsb₁ => ?_) S.kind)
  dsimp only at hns₁ hsb₁ ⊢
  generalize hH2 : s.heap.push { cls := .type "list", dict := none, data := .seq ([] : List Value).toArray } = H2 at hns₁ hsb₁ ⊢
  have hCs : H2.objs.size = s.heap.objs.size + 1 := by rw [← hH2, Heap.size_push]
  have hDC : s.heap.objs.size ≠ H2.objs.size := by omega
  have hCle : s.heap.objs.size ≤ H2.objs.size := by omega
  have old : ∀ b o, s.heap.get? b = some o → h₁.get? b = some o := fun b o e => by
    exact hsb₁.extBut b o (addr_ne (Heap.lt_size e) hCle) (Heap.get?_push_of_some _ (hH2 ▸ Heap.get?_push_of_some _ e))
  have hacc : h₁.get? s.heap.objs.size = some { cls := .type "list", data := .seq ([] : List Value).toArray 0 } := hsb₁.extBut _ _ hDC (Heap.get?_push_of_some _ (hH2 ▸ Heap.get?_push_size _ rfl))
  have live : ∀ b ∈ fp, b < s.heap.objs.size := fun b hb => by
    obtain ⟨o, e, _⟩ := T.obj _ _ st b hb
    exact Heap.lt_size e
  have ok := cx_ok (C := H2.objs.size) S cl1 cl2 I f live hCle
  have hDst : s.heap.objs.size ∉ frs X.stack := fun z => by
    rcases List.mem_cons.mp (I.stkSub _ z) with q | q
    · exact addr_ne I.lt (Nat.le_refl _) q.symm
    · exact I.nofs (Nat.le_refl _) q
  have fpX : ∀ (H' : Hp) (pl : List (Addr × Obj)), (∀ b ∈ fp, H' b = none) → (∀ p ∈ pl, ∀ b ∈ fp, p.1 ≠ b) → ∀ b ∈ fp, FpOk (cxComp X sc own cap cl H2.objs.size s H fp pins) pl H' b := fun H' pl hn hp b hb => by
    obtain ⟨f0, f1, f2, f3, f4, f5⟩ := f b hb
    refine ⟨hn b hb, fun z => ?_, fun z => ?_, .inl hb, fun x c e => f4 x c (cl1 x c e), fun p hpp => ?_⟩
    · exact addr_ne (live b hb) hCle z
    · rcases List.mem_cons.mp (I.stkSub b z) with q | q
      · exact f1 q
      · exact f2 q
    · rcases List.mem_append.mp hpp with q | q
      · exact f5 p q
      · exact hp p q b hb
  have loop : ∀ s₃ : Shared, s₃ = { s with heap := h₁, toks := s.toks + ([] : List (Str × Value)).length } →
      codeAny (model X.prog X.w) X.A (.compLoop (.ListComp elt [⟨tg, iter, ifs, 0⟩] sc pos) 0 (.ref it) (.ref s.heap.objs.size) (compEnvC sc cl H2.objs.size X.env))
        (RR (.ref s.heap.objs.size) H2.objs.size) s₃ := by
    rintro s₃ rfl
    obtain ⟨m0, w0⟩ := w0
    obtain ⟨hg, ht, he⟩ := hb cl H2.objs.size s H fp pins
    have I0 : Inv (cxComp X sc own cap cl H2.objs.size s H fp pins) [] (cpSt own cap σ) H { s with heap := h₁, toks := s.toks + ([] : List (Str × Value)).length } := cx_inv S cl1 cl2 I ok hCle hns₁ old
    refine codeAny_compLoop_go (fun n s' => ∃ i acc its nn H', Inv (cxComp X sc own cap cl H2.objs.size s H fp pins) [] (cpSt own cap σ) H' s' ∧ tn i s'.heap ∧ (∀ b ∈ fp, H' b = none) ∧
      s'.heap.get? s.heap.objs.size = some { cls := .type "list", data := .seq its.toArray nn } ∧ Vals acc its ∧ H' s.heap.objs.size = none ∧ W i n acc H') ?_ m0
      ⟨0, [], [], 0, H, I0, T.keep _ _ _ st (fun b _ o e => old b o e), fun b hb => (f b hb).1, hacc, .nil, I.hok.fresh (Nat.le_refl _), w0⟩
    rintro n s3 ⟨i, acc, its, nn, H3, I3, st3, fr3, hD3, rv3, hDn, w3⟩
    obtain ⟨hz, hcase⟩ := turn i n acc H3 w3
    have hpl : ∀ p ∈ [((s.heap.objs.size : Addr), ({ cls := .type "list", data := .seq its.toArray nn } : Obj))], ∀ b ∈ fp, p.1 ≠ b := fun p hp b hb z => by
      have e : p = _ := List.mem_singleton.mp hp
      rw [e] at z
      exact addr_ne (live b hb) (Nat.le_refl _) z.symm
    have I3' : Inv (cxComp X sc own cap cl H2.objs.size s H fp pins) [((s.heap.objs.size : Addr), ({ cls := .type "list", data := .seq its.toArray nn } : Obj))] (cpSt own cap σ) H3 s3 := I3.pins_of fun p hp => by
      have e : p = _ := List.mem_singleton.mp hp
      subst e
      exact ⟨hD3, hDn, hDC, hDst, fun v z => by cases z⟩
    rcases hcase with ⟨stop, fin⟩ | ⟨go, hlt, N, hN, step⟩
    · refine thn (T.done (cxComp X sc own cap cl H2.objs.size s H fp pins) rfl rfl rfl hc i _ s3 _ H3 _ I3' (fpX H3 _ fr3 hpl) st3 stop) fun r s4 ⟨hr, I4⟩ => ?_
      subst hr
      have hD4 := (I4.pin (_, _) (List.mem_append_right _ (List.mem_singleton.mpr rfl))).1
      obtain ⟨J1, J2, J3⟩ := cx_back I f hCle (Nat.le_refl _) hDC I4 hDn hD4 rv3 hz
      exact hRR _ _ _ _ J1 J2 J3 (fin _ hDn)
    · refine thn (T.item (cxComp X sc own cap cl H2.objs.size s H fp pins) rfl rfl rfl hc i _ s3 _ H3 _ I3' (fpX H3 _ fr3 hpl) st3 go) fun r s4 ⟨u, hr, h4⟩ => ?_
      subst hr
      refine thn h4 fun _ s5 ⟨x, H5, I5, r5, y5, st5, fr5⟩ => ?_
      have I5' := I5.pinned (fpX H5 _ fr5 hpl) (T.obj _ _ st5)
      refine thn (hg _ s5 _ H5 x u _ I5' r5 (hown _ _ _ _ (step x H5 y5))) fun _ s6 ⟨σ6, H6, I6, ⟨hx1, hx2⟩, q6⟩ => ?_
      refine thn (ht _ s6 σ6 H6 _ I6 q6) fun b s7 ⟨H7, I7, q7⟩ => ?_
      have wk : ∀ {H7 : Hp} {s7 : Shared} {pl : List (Addr × Obj)}, Inv (cxComp X sc own cap cl H2.objs.size s H fp pins) pl σ6 H7 s7 → Inv (cxComp X sc own cap cl H2.objs.size s H fp pins) pl (cpSt own cap σ) H7 s7 := fun I => I.weak hx1.symm fun j v e => by
        rw [hx2 j (cpSt_some e).1]
        exact e
      have stay : ∀ {H7 : Hp} {s7 : Shared} {σ7 : St}, Inv (cxComp X sc own cap cl H2.objs.size s H fp pins) ([((s.heap.objs.size : Addr), ({ cls := .type "list", data := .seq its.toArray nn } : Obj))] ++ pinsAt fp s5.heap) σ7 H7 s7 →
          tn (i + 1) s7.heap ∧ (∀ b ∈ fp, H7 b = none) ∧ s7.heap.get? s.heap.objs.size = some { cls := .type "list", data := .seq its.toArray nn } ∧ H7 s.heap.objs.size = none := fun {H7 s7 σ7} I7 => by
        refine ⟨T.keep _ _ _ st5 fun b hb o e => (I7.pin (b, o) (List.mem_append_right _ (List.mem_append_right _ (mem_pinsAt hb e)))).1, fun b hb => ?_, ?_, ?_⟩
        · obtain ⟨o, e, d⟩ := T.obj _ _ st5 b hb
          exact (I7.pin (b, o) (List.mem_append_right _ (List.mem_append_right _ (mem_pinsAt hb e)))).2.1
        · exact (I7.pin (_, _) (List.mem_append_right _ (List.mem_append_left _ (List.mem_singleton.mpr rfl)))).1
        · exact (I7.pin (_, _) (List.mem_append_right _ (List.mem_append_left _ (List.mem_singleton.mpr rfl)))).2.1
      cases b with
      | false =>
        rw [if_neg Bool.false_ne_true] at q7 ⊢
        obtain ⟨m', hm, w7⟩ := hN _ _ q7
        obtain ⟨a1, a2, a3, a4⟩ := stay I7
        exact ⟨m', hm, i + 1, acc, its, nn, H7, (wk I7).pins_of (fun p hp => absurd hp (by simp)), a1, a2, a3, rv3, a4, w7⟩
      | true =>
        rw [if_pos rfl] at q7 ⊢
        refine thn (he _ s7 σ6 H7 _ I7 q7) fun y s8 ⟨v, H8, I8, r8, n8⟩ => ?_
        obtain ⟨m', hm, w8⟩ := hN _ _ n8
        obtain ⟨a1, a2, a3, a4⟩ := stay I8
        have hlen := rv3.length
        refine call_meets F.slot_list_append ⟨_, a3, rfl⟩ F.entry_list_append (F.args_list_append_2 _ _) (PySem.list_append s.heap.objs.size its.toArray nn y (by rw [List.size_toArray]; omega)) ⟨a3, ?_⟩
        obtain ⟨n', q⟩ : ∃ n', (s8.heap.update s.heap.objs.size (Obj.mapSeq (·.push y))).get? s.heap.objs.size = some { cls := .type "list", data := .seq (its ++ [y]).toArray n' } := by
          have q := PySem.IsL.update a3 (·.push y)
          have e : (its.toArray.push y) = (its ++ [y]).toArray := by simp
          rw [← e]
          exact ⟨_, q⟩
        have I9 := (wk I8).pins_of (pins' := pinsAt fp s5.heap) fun p hp => (wk I8).pin p (List.mem_append_right _ (List.mem_append_right _ hp))
        have kk : ∀ b o, b ≠ s.heap.objs.size → s8.heap.get? b = some o → (s8.heap.update s.heap.objs.size (Obj.mapSeq (·.push y))).get? b = some o := fun b o hb e => (Heap.get?_update_other s8.heap (Obj.mapSeq (·.push y)) (Ne.symm hb)).trans e
        refine ⟨m', hm, i + 1, acc ++ [v], its ++ [y], n', H8, (I9.pins_of (pins' := []) fun p hp => absurd hp (by simp)).turned (it := s.heap.objs.size) kk a4 hDC (.inr (Nat.le_refl _)) (fun x c e z => ?_) (fun p hp z => ?_), T.keep _ _ _ a1 fun b hb o e => kk b o (fun z => ?_) e, a2, q, rv3.append (.cons r8 .nil), a4, w8⟩
        · have e := cl1 x c e
          obtain ⟨w', o, ho, _⟩ := I.cell x c e
          exact addr_ne (Heap.lt_size ho) (Nat.le_refl _) z
        · have hp : p ∈ (X.pn ++ pins) ++ [] := hp
          rw [List.append_nil] at hp
          exact addr_ne (Heap.lt_size (I.pin p hp).1) (Nat.le_refl _) z
        · exact addr_ne (live b hb) (Nat.le_refl _) z
  exact codeAny_compStart_list (loop _ rfl) (T.self _ 0 _ _ _ (T.keep _ _ _ st fun b _ o e => old b o e) (loop _ rfl))
theorem pe_comp {elt tg iter : Expr} {ifs : List Expr} {pos : Pos} {wi : TI} {g : TG} {tt : TT} {te : TE} (hc : X.calm = true) (S : CpScope X.N X.env.scope sc own cap) (hown : GOwn own.length g) (hi : PI X tg iter wi)
    (hb : ∀ cl C s H fp pins, PG (cxComp X sc own cap cl C s H fp pins) tg g ∧ PTs (cxComp X sc own cap cl C s H fp pins) ifs tt ∧ PE (cxComp X sc own cap cl C s H fp pins) elt te)
    (hs : ∀ x, foldedSetIterable iter X.env x = pure x := by intro _; rfl) : PE X (.ListComp elt [⟨tg, iter, ifs, 0⟩] sc pos) (tComp own cap wi g tt te) := by
  intro pins s σ H Q I h
  obtain ⟨cl, hcl, cl1, cl2⟩ := closureFor_some (env := X.env) (scope := sc) fun y hy hf => I.ok.has y.1 (S.free y hy hf)
  rw [eval_ListComp]
  refine wpAny_comprehension_free (use := none) rfl hs hcl S.kind S.names (thn (hi pins s σ H _ I h) fun xv s1 h1 => thn h1 fun itv s2 h2 => ?_)
  obtain ⟨it, fp, tn, J, H2, e, I2, T, st2, f2, W, w0, turn⟩ := h2
  subst e
  refine comp_block (RR := fun acc C => compPost (model X.prog X.w) X.A X.xe none (EP X pins σ Q) acc C) hc S hown cl1 cl2 hb I2 T st2 f2 W w0 turn ?_
  intro D C H' s' J1 ⟨m, J2⟩ ⟨c0, c1, c2, c3, c4, c5⟩ q
  exact ⟨m, J2, fun h' sb => ⟨.ref D, H', J1.turned (t' := s'.toks) (fun b o hb e => (sb.2 b hb).trans e) c0 c1 c3 c4 c5, rfl, q⟩⟩
theorem ps_setcomp {elt tg iter : Expr} {ifs : List Expr} {pos pos' spos : Pos} {wi : TI} {g : TG} {tt : TT} {te : TE} {i : Nat} {x : Str} (hc : X.calm = true) (S : CpScope X.N X.env.scope sc own cap) (hown : GOwn own.length g) (hN : X.N.Nodup) (hx : X.N[i]? = some x) (hl : X.env.scope.names.lookup x = some .local) (hi : PI X tg iter wi)
    (hb : ∀ cl C s H fp pins, PG (cxComp X sc own cap cl C s H fp pins) tg g ∧ PTs (cxComp X sc own cap cl C s H fp pins) ifs tt ∧ PE (cxComp X sc own cap cl C s H fp pins) elt te)
    (hsw : swapsWith (.ListComp elt [⟨tg, iter, ifs, 0⟩] sc pos) (some (.Name x pos')) spos.line X.env = pure true := by rfl)
    (hs : ∀ x, foldedSetIterable iter X.env x = pure x := by intro _; rfl) : PS X (.Assign [.Name x pos'] (.ListComp elt [⟨tg, iter, ifs, 0⟩] sc pos) spos) (tAsg (tComp own cap wi g tt te) (gName i)) := by
  intro pins s σ H D I h
  obtain ⟨cl, hcl, cl1, cl2⟩ := closureFor_some (env := X.env) (scope := sc) fun y hy hf => I.ok.has y.1 (S.free y hy hf)
  rw [exec_Assign_Name_used _ _ _ _ hsw]
  refine wpAny_bind (wpAny_standAt (wpAny_bind ?_))
  show wpAny _ _ (do let _ ← comprehension (.ListComp elt [⟨tg, iter, ifs, 0⟩] sc pos) sc X.env _ (newList []) false (eval iter X.env) (some (assign (.Name x pos') X.env))) _ _ s
  refine wpAny_bind (wpAny_mono (wpAny_comprehension_free (use := some (assign (.Name x pos') X.env)) (Q := fun _ s' => SP X pins D .next s') rfl hs hcl S.kind S.names (thn (hi pins s σ H _ I h) fun xv s1 h1 => thn h1 fun itv s2 h2 => ?_)) (fun _ s' hq => wpAny_pure (wpAny_pure hq)) fun _ _ e => e)
  obtain ⟨it, fp, tn, J, H2, e, I2, T, st2, f2, W, w0, turn⟩ := h2
  subst e
  refine comp_block (Q := fun x H1 => gName i x σ H1 D.nx) (RR := fun acc C => compPost (model X.prog X.w) X.A X.xe (some (assign (.Name x pos') X.env)) (fun _ s' => SP X pins D .next s') acc C) hc S hown cl1 cl2 hb I2 T st2 f2 W w0 turn ?_
  intro L C H' s' J1 ⟨m, J2⟩ ⟨c0, c1, c2, c3, c4, c5⟩ q
  show wpAny _ _ (assign (.Name x pos') X.env (.ref L)) _ _ s'
  refine wpAny_assign_Name (store_ok2 (v := .ref L) J1 hN hx (.inl hl) rfl (fun s'' J3 ⟨a, sb, ha⟩ => ?_) (.inr hl))
  have hCa : C ≠ a := by
    rcases ha with z | z
    · rw [z]; exact c1
    · exact Ne.symm (c4 _ _ z)
  refine ⟨m, J2.sameBut sb hCa, fun h' sb' => ⟨_, H', J3.turned (t' := s''.toks) (fun b o hb e => (sb'.2 b hb).trans e) c0 c1 c3 c4 c5, q⟩⟩
end
end L2
set_option Elab.async false
set_option linter.all false
set_option maxRecDepth 100000
namespace L2
open PySem PySem.Spec PyProof.Rows
def tyOf (H : Hp) : V → Option String
  | .non => some "NoneType"
  | .bl _ => some "bool"
  | .int _ => some "int"
  | .str _ => some "str"
  | .ref a => match H a with
    | some (.lst _) => some "list"
    | some (.tup _) => some "tuple"
    | some (.dK _) => some "dict"
    | _ => none
  | _ => none
def isiB (t T : String) : Bool := t == T || (t == "bool" && T == "int")
theorem kit_tab (K : PySem.W.Frag) {t T : String} (ht : t ∈ ["NoneType", "bool", "int", "str", "list", "tuple", "dict"]) (hT : T ∈ ["bool", "int", "str", "list", "tuple", "dict"]) : PySem.W.kitOne K (.type t) (.type T) = some (isiB t T) := by
  simp only [List.mem_cons, List.not_mem_nil, or_false] at ht hT
  rcases ht with rfl | rfl | rfl | rfl | rfl | rfl | rfl <;> rcases hT with rfl | rfl | rfl | rfl | rfl | rfl <;> first | rfl | decide +kernel
section
variable {X : Cx}
theorem call_isinst : CallR X (.builtin "isinstance") (fun xs H Q => ∃ x T t, xs = [x, .ty T] ∧ tyOf H x = some t ∧ T ∈ ["bool", "int", "str", "list", "tuple", "dict"] ∧ Q (.bl (isiB t T)) H) := by
  intro pins s σ H xs us Q I r h
  obtain ⟨x, T, t, rfl, ht, hT, q⟩ := h
  obtain ⟨u, w', rfl, ru, rw'⟩ := vals2 r
  have rw' : w' = Value.type T := rw'
  subst rw'
  have key : ∀ {t' : String}, TyOf X.K H x (.type t') → t' = t → t ∈ ["NoneType", "bool", "int", "str", "list", "tuple", "dict"] → wpAny (model X.prog X.w) X.A (call (.builtin "isinstance") [u, .type T]) (EP X pins σ Q) X.xe s := fun {t'} ty e hm => by
    subst e
    exact isinst_ok I ru ty (kit_tab X.K hm hT) fun tk => ⟨.bl (isiB t' T), H, I.tok tk, rfl, q⟩
  cases x with
  | non => cases ht; exact key .non rfl (by decide)
  | bl b => cases ht; exact key (.bl b) rfl (by decide)
  | int i => cases ht; exact key (.int i) rfl (by decide)
  | str z => cases ht; exact key (.str z) rfl (by decide)
  | ref a =>
    unfold tyOf at ht
    simp only at ht
    cases e : H a with
    | none => rw [e] at ht; cases ht
    | some o =>
      rw [e] at ht
      cases o with
      | lst xs => cases ht; exact key (.lst e) rfl (by decide)
      | tup xs => cases ht; exact key (.tup e) rfl (by decide)
      | dK kvs => cases ht; exact key (.dK e) rfl (by decide)
      | _ => cases ht
  | _ => cases ht
theorem Inv.walked {pins : List (Addr × Obj)} {σ : St} {H : Hp} {s : Shared} {o : Obj} {h' : Heap} {tk : Nat} (I : Inv X pins σ H s) (k : ∀ b ob, b ∉ [s.heap.objs.size] → (s.heap.push o).get? b = some ob → h'.get? b = some ob) : Inv X pins σ H { s with heap := h', toks := tk } :=
  I.kept fun b u e => k b u (by
    intro z
    exact addr_ne (Heap.lt_size e) (Nat.le_refl _) (List.mem_singleton.mp z)) (Heap.get?_push_of_some _ e)
theorem vals_bl : ∀ {bs : List Bool} {us : List Value}, Vals (bs.map V.bl) us → us = bs.map Value.bool
  | [], _, .nil => rfl
  | b :: r, _, .cons h t => by
    have h : _ = Value.bool b := h
    rw [h, vals_bl t]
    rfl
theorem range_any' (bs : List Bool) : ((List.range bs.length).any fun i => (bs[i]?).getD true) = bs.any id := by
  induction bs with
  | nil => rfl
  | cons b r ih =>
    rw [List.length_cons, List.range_succ_eq_map, List.any_cons, List.any_cons, List.any_map]
    show ((b :: r)[0]?.getD true || _) = _
    congr 1
theorem lst_iter {pins : List (Addr × Obj)} {σ : St} {H : Hp} {s : Shared} {a : Addr} {xs : List V} (I : Inv X pins σ H s) (h : H a = some (.lst xs)) : ∃ its : List Value, Vals xs its ∧ s.heap.IsList a its.toArray ∧ a < s.heap.objs.size := by
  obtain ⟨hz, its, n, r, e⟩ := I.hok a _ h
  exact ⟨its, r, ⟨_, e, rfl, n, rfl⟩, Heap.lt_size e⟩
theorem call_any (hc : X.calm = true) : CallR X (.builtin "any") (fun xs H Q => ∃ (a : Addr) (bs : List Bool), xs = [.ref a] ∧ H a = some (.lst (bs.map V.bl)) ∧ Q (.bl (bs.any id)) H) := by
  intro pins s σ H xs us Q I r h
  obtain ⟨a, bs, rfl, ha, q⟩ := h
  obtain ⟨u, rfl, ru⟩ := vals1 r
  cases ru
  obtain ⟨its, rv, hl, hlt⟩ := lst_iter I ha
  have e := vals_bl rv
  subst e
  refine call_any_walk (wpAny_pyIter_list hl ?_)
  refine ⟨s.heap.objs.size, [s.heap.objs.size, a], [s.heap.objs.size], (bs.map Value.bool).toArray.size, _, _, fun i => (bs[i]?).getD true, rfl, Walks.list (A := X.A.in1) (I.ok.hd hc) _ a (Nat.ne_of_lt hlt) (bs.map Value.bool).toArray,
    ⟨⟨_, Heap.get?_push_size _ rfl, rfl, rfl⟩, hl.push _⟩, fun i v s' Q' E' hP hQ => ?_, fun h' tk hk => ?_⟩
  · have hP : (bs.map Value.bool)[i]? = some v := by simpa using hP
    rw [List.getElem?_map] at hP
    cases e : bs[i]? with
    | none => rw [e] at hP; cases hP
    | some b =>
      rw [e] at hP
      cases hP
      simp only [e, Option.getD_some] at hQ
      exact wpAny_truthy_bool hQ
  · have e : ((List.range (bs.map Value.bool).toArray.size).any fun i => (bs[i]?).getD true) = bs.any id := by
      rw [List.size_toArray, List.length_map]; exact range_any' bs
    rw [e]
    exact ⟨.bl (bs.any id), H, I.walked hk, rfl, q⟩
theorem op_isB : OpR X (compareOp .Is) (fun x y H Q => ∃ i j, x = .bl i ∧ y = .bl j ∧ Q (.bl (i == j)) H) := by
  intro pins s σ H x y v u Q I rx ry h
  obtain ⟨i, j, rfl, rfl, q⟩ := h
  cases rx
  cases ry
  exact is_bool ⟨.bl (i == j), H, I, rfl, q⟩
theorem op_isnotB : OpR X (compareOp .IsNot) (fun x y H Q => ∃ i j, x = .bl i ∧ y = .bl j ∧ Q (.bl (i != j)) H) := by
  intro pins s σ H x y v u Q I rx ry h
  obtain ⟨i, j, rfl, rfl, q⟩ := h
  cases rx
  cases ry
  exact isnot_bool ⟨.bl (i != j), H, I, rfl, q⟩
def rCount : V → List V → Hp → VK → Prop := fun x vs H Q => ∃ l xs y, x = .ref l ∧ vs = [y] ∧ H l = some (.lst xs) ∧ flatV y = true ∧ xs.all flatV = true ∧ Q (.int (xs.countP fun z => eqV z y)) H
def Its (x : Str) : It := ⟨fun i _ => i < x.cps.size, fun i H v H' => H' = H ∧ ∃ c, x.cps[i]? = some c ∧ v = .str ⟨#[c]⟩, fun i _ => x.cps.size ≤ i⟩
theorem turn_str {P : Program} {w : World} {K : PySem.W.Frag} {tg : Expr} (it : Addr) (x : Str) (t : Tok) (ty : String) (hty : ty = "str_ascii_iterator" ∨ ty = "str_iterator") : Turn P w K tg (Its x) [it] it (fun i h => h.IsStrIter it ty x t i) where
  mem := by simp
  obj := fun i h st b hb => by
    have e : b = it := by simpa using hb
    subst e
    obtain ⟨o, e, c, d⟩ := st
    exact ⟨o, e, fun v z => by rw [d] at z; cases z⟩
  keep := fun i h h' st k => let ⟨o, ho, r⟩ := st; ⟨o, k it (by simp) o ho, r⟩
  item := by
    intro X hP hw hK hc i pins s σ H E I hf st hg
    subst hP hw hK
    obtain ⟨f0, f1, f2, f3, f4, f5⟩ := hf it (by simp)
    have hg : i < x.cps.size := hg
    have fin : ∀ h', h'.IsStrIter it ty x t (i + 1) → Heap.SameBut it s.heap h' → ∃ u, some (Value.str ⟨#[x.cps[i]]⟩ s.toks) = some u ∧ wpAny (model X.prog X.w) X.A (letOwnedTupleGo tg (.ref it) u) (fun _ s2 => ∃ x' H', Inv X pins σ H' s2 ∧ RelV x' u ∧ (Its x).yld i H x' H' ∧ s2.heap.IsStrIter it ty x t (i + 1) ∧ ∀ b ∈ [it], H' b = none) E { s with heap := h', toks := s.toks + 1 } := fun h' st' sb => by
      have I1 : Inv X pins σ H { s with heap := h', toks := s.toks + 1 } := I.turned (t' := s.toks + 1) (fun b o hb e => (sb.2 b hb).trans e) f0 f1 f3 f4 f5
      obtain ⟨o, e, c, d⟩ := id st'
      refine ⟨_, rfl, go_of (s := { s with heap := h', toks := s.toks + 1 }) e c d (by rcases hty with rfl | rfl <;> decide) ⟨.str ⟨#[x.cps[i]]⟩, H, I1, ⟨_, rfl⟩, ⟨rfl, _, by simp [hg], rfl⟩, st', fun b hb => (hf b hb).1⟩⟩
    rcases hty with rfl | rfl
    · exact wpAny_pyNext_ascii_item st (c := x.cps[i]) (by simp [hg]) fin
    · exact wpAny_pyNext_wide_item st (c := x.cps[i]) (by simp [hg]) fin
  done := by
    intro X hP hw hK hc i pins s σ H E I hf st hg
    subst hP hw hK
    obtain ⟨f0, f1, f2, f3, f4, f5⟩ := hf it (by simp)
    have hg : x.cps.size ≤ i := hg
    rcases hty with rfl | rfl
    · exact wpAny_pyNext_ascii_end (I.ok.hd hc) st (by simp; omega) fun h' eb => ⟨rfl, I.turned (t' := s.toks) (fun b o hb e => eb b o hb e) f0 f1 f3 f4 f5⟩
    · exact wpAny_pyNext_wide_end (I.ok.hd hc) st (by simp; omega) fun h' eb => ⟨rfl, I.turned (t' := s.toks) (fun b o hb e => eb b o hb e) f0 f1 f3 f4 f5⟩
  self := fun _ _ _ _ _ st h => by
    rcases hty with rfl | rfl
    · exact wpAny_pyIter_striter_ascii st h
    · exact wpAny_pyIter_striter_wide st h
theorem turn_seqL {P : Program} {w : World} {K : PySem.W.Frag} {tg : Expr} (a it : Addr) (xs : List V) : Turn P w K tg ⟨fun i H => H a = some (.lst xs) ∧ i < xs.length, fun i H x H' => H' = H ∧ xs[i]? = some x, fun i H => H a = some (.lst xs) ∧ xs.length ≤ i⟩ [it] it (fun i h => h.IsListIter it a i) where
  mem := (turn_list (P := P) (w := w) (K := K) (tg := tg) a it).mem
  obj := (turn_list (P := P) (w := w) (K := K) (tg := tg) a it).obj
  keep := (turn_list (P := P) (w := w) (K := K) (tg := tg) a it).keep
  item := by
    intro X hP hw hK hc i pins s σ H E I hf st hg
    obtain ⟨h1, h2⟩ := hg
    refine thn ((turn_list (P := P) (w := w) (K := K) (tg := tg) a it).item X hP hw hK hc i pins s σ H E I hf st ⟨xs, xs[i], SqL.of h1, by simp [h2]⟩) fun r s1 ⟨u, hr, h3⟩ => ⟨u, hr, thn h3 fun _ s2 ⟨x, H', I2, rx, ⟨y1, y2⟩, st2, f2⟩ => ⟨x, H', I2, rx, ⟨y1, y2 xs (SqL.of h1)⟩, st2, f2⟩⟩
  done := by
    intro X hP hw hK hc i pins s σ H E I hf st hg
    obtain ⟨h1, h2⟩ := hg
    exact (turn_list (P := P) (w := w) (K := K) (tg := tg) a it).done X hP hw hK hc i pins s σ H E I hf st ⟨xs, SqL.of h1, h2⟩
  self := (turn_list (P := P) (w := w) (K := K) (tg := tg) a it).self
theorem turn_seqT {P : Program} {w : World} {K : PySem.W.Frag} {tg : Expr} (a it : Addr) (xs : List V) : Turn P w K tg ⟨fun i H => H a = some (.tup xs) ∧ i < xs.length, fun i H x H' => H' = H ∧ xs[i]? = some x, fun i H => H a = some (.tup xs) ∧ xs.length ≤ i⟩ [it] it (fun i h => h.IsTupleIter it a i) where
  mem := (turn_tuple (P := P) (w := w) (K := K) (tg := tg) a it).mem
  obj := (turn_tuple (P := P) (w := w) (K := K) (tg := tg) a it).obj
  keep := (turn_tuple (P := P) (w := w) (K := K) (tg := tg) a it).keep
  item := by
    intro X hP hw hK hc i pins s σ H E I hf st hg
    obtain ⟨h1, h2⟩ := hg
    refine thn ((turn_tuple (P := P) (w := w) (K := K) (tg := tg) a it).item X hP hw hK hc i pins s σ H E I hf st ⟨xs, xs[i], SqT.of h1, by simp [h2]⟩) fun r s1 ⟨u, hr, h3⟩ => ⟨u, hr, thn h3 fun _ s2 ⟨x, H', I2, rx, ⟨y1, y2⟩, st2, f2⟩ => ⟨x, H', I2, rx, ⟨y1, y2 xs (SqT.of h1)⟩, st2, f2⟩⟩
  done := by
    intro X hP hw hK hc i pins s σ H E I hf st hg
    obtain ⟨h1, h2⟩ := hg
    exact (turn_tuple (P := P) (w := w) (K := K) (tg := tg) a it).done X hP hw hK hc i pins s σ H E I hf st ⟨xs, SqT.of h1, h2⟩
  self := (turn_tuple (P := P) (w := w) (K := K) (tg := tg) a it).self
def ItL (a : Addr) (xs : List V) : It := ⟨fun i H => H a = some (.lst xs) ∧ i < xs.length, fun i H x H' => H' = H ∧ xs[i]? = some x, fun i H => H a = some (.lst xs) ∧ xs.length ≤ i⟩
def ItT (a : Addr) (xs : List V) : It := ⟨fun i H => H a = some (.tup xs) ∧ i < xs.length, fun i H x H' => H' = H ∧ xs[i]? = some x, fun i H => H a = some (.tup xs) ∧ xs.length ≤ i⟩
def iAny (te : TE) : TI := fun σ H R => te σ H fun x H1 => (∃ a xs, x = .ref a ∧ H1 a = some (.lst xs) ∧ R (ItL a xs) H1) ∨ (∃ a xs, x = .ref a ∧ H1 a = some (.tup xs) ∧ R (ItT a xs) H1) ∨ (∃ z, x = .str z ∧ R (Its z) H1)
theorem pi_any {tg l : Expr} {te : TE} (hl : PE X l te) : PI X tg l (iAny te) := by
  intro pins s σ H R I h
  refine thn (hl pins s σ H _ I h) fun v s1 ⟨x, H1, I1, r1, q1⟩ => ?_
  have fp : ∀ b ∈ [s1.heap.objs.size], FpOk X pins H1 b := fun b hb => by
    have e : b = s1.heap.objs.size := by simpa using hb
    subst e
    exact I1.fpOk (Nat.le_refl _) (I1.hok.fresh (Nat.le_refl _))
  rcases q1 with ⟨a, xs, e, ha, q⟩ | ⟨a, xs, e, ha, q⟩ | ⟨z, e, q⟩
  · subst e
    cases r1
    obtain ⟨its, rv, hli, hlt⟩ := lst_iter I1 ha
    refine wpAny_pyIter_list hli ?_
    exact ⟨s1.heap.objs.size, [s1.heap.objs.size], _, _, H1, rfl, I1.kept (t' := s1.toks) fun b o e => Heap.get?_push_of_some _ e, turn_seqL a _ xs, ⟨_, Heap.get?_push_size _ rfl, rfl, rfl⟩, fp, q⟩
  · subst e
    cases r1
    obtain ⟨hz, its, rv, p⟩ := I1.hok a _ ha
    refine wpAny_pyIter_tuple (show s1.heap.IsTuple a its.toArray from p) ?_
    exact ⟨s1.heap.objs.size, [s1.heap.objs.size], _, _, H1, rfl, I1.kept (t' := s1.toks) fun b o e => Heap.get?_push_of_some _ e, turn_seqT a _ xs, ⟨_, Heap.get?_push_size _ rfl, rfl, rfl⟩, fp, q⟩
  · subst e
    obtain ⟨t, rfl⟩ := r1
    cases hasc : z.cps.all (· < 128)
    · refine wpAny_pyIter_wide hasc ?_
      exact ⟨s1.heap.objs.size, [s1.heap.objs.size], _, _, H1, rfl, I1.kept (t' := s1.toks) fun b o e => Heap.get?_push_of_some _ e, turn_str _ z t _ (.inr rfl), ⟨_, Heap.get?_push_size _ rfl, rfl, rfl⟩, fp, q⟩
    · refine wpAny_pyIter_ascii hasc ?_
      exact ⟨s1.heap.objs.size, [s1.heap.objs.size], _, _, H1, rfl, I1.kept (t' := s1.toks) fun b o e => Heap.get?_push_of_some _ e, turn_str _ z t _ (.inl rfl), ⟨_, Heap.get?_push_size _ rfl, rfl, rfl⟩, fp, q⟩
end
structure Goes (J : It) (n : Nat) (yl : Nat → V → Prop) (ok : Hp → Prop) : Prop where
  go : ∀ i H, i < n → ok H → J.go i H
  yld : ∀ i H x H', i < n → ok H → J.yld i H x H' → H' = H ∧ yl i x
  stop : ∀ H, ok H → J.stop n H
theorem goesL (a : Addr) (xs : List V) : Goes (ItL a xs) xs.length (fun i x => xs[i]? = some x) (fun H => H a = some (.lst xs)) := ⟨fun _ _ h o => ⟨o, h⟩, fun _ _ _ _ _ _ y => y, fun _ o => ⟨o, Nat.le_refl _⟩⟩
theorem goesT (a : Addr) (xs : List V) : Goes (ItT a xs) xs.length (fun i x => xs[i]? = some x) (fun H => H a = some (.tup xs)) := ⟨fun _ _ h o => ⟨o, h⟩, fun _ _ _ _ _ _ y => y, fun _ o => ⟨o, Nat.le_refl _⟩⟩
theorem goesR (lo : Int) (n : Nat) : Goes (Itr lo n) n (fun i x => x = .int (lo + i)) (fun _ => True) := ⟨fun _ _ h _ => h, fun _ _ _ _ _ _ y => y, fun _ _ => Nat.le_refl _⟩
theorem for_goes {J : It} {n : Nat} {yl : Nat → V → Prop} {ok : Hp → Prop} {g : TG} {tb : TS} {D : Ends} {σ : St} {H : Hp} (G : Goes J n yl ok) (Pv : Nat → St → Hp → Prop) (h0 : Pv 0 σ H) (hok : ∀ i σ H, i ≤ n → Pv i σ H → ok H)
    (hs : ∀ i x σ H, i < n → yl i x → Pv i σ H → g x σ H fun σ2 H2 => tb { D with nx := Pv (i + 1), ct := Pv (i + 1), bk := D.nx } σ2 H2) (hd : ∀ σ H, Pv n σ H → D.nx σ H) :
    ∃ W : Nat → Nat → St → Hp → Prop, (∃ m, W 0 m σ H) ∧ ∀ i m σ H, W i m σ H →
      (J.stop i H ∧ D.nx σ H) ∨ (J.go i H ∧ ∃ N : St → Hp → Prop, (∀ σ' H', N σ' H' → ∃ m', m' < m ∧ W (i + 1) m' σ' H') ∧ ∀ x H', J.yld i H x H' → g x σ H' fun σ2 H2 => tb { D with nx := N, ct := N, bk := D.nx } σ2 H2) := by
  refine ⟨fun i m σ H => m = n - i ∧ i ≤ n ∧ Pv i σ H, ⟨n, by simp, Nat.zero_le _, h0⟩, ?_⟩
  rintro i m σ H ⟨rfl, hi, p⟩
  have q := hok i σ H hi p
  by_cases hlt : i < n
  · refine .inr ⟨G.go i H hlt q, Pv (i + 1), fun σ' H' p' => ⟨n - (i + 1), by omega, rfl, hlt, p'⟩, fun x H' y => ?_⟩
    obtain ⟨e, y'⟩ := G.yld i H x H' hlt q y
    subst e
    exact hs i x σ _ hlt y' p
  · have e : i = n := by omega
    subst e
    exact .inl ⟨G.stop H q, hd σ H p⟩
theorem comp_goes {J : It} {n : Nat} {yl : Nat → V → Prop} {ok : Hp → Prop} {g : TG} {tt : TT} {te : TE} {σ0 : St} {H : Hp} {Q : VK} (G : Goes J n yl ok) (hn : n ≤ sizeLine) (Pv : Nat → List V → Hp → Prop) (h0 : Pv 0 [] H) (hok : ∀ i acc H, i ≤ n → Pv i acc H → ok H)
    (hlen : ∀ i acc H, Pv i acc H → acc.length ≤ i)
    (hs : ∀ i x acc H, i < n → yl i x → Pv i acc H → g x σ0 H fun σ2 H2 => tt σ2 H2 fun b H3 => if b = true then te σ2 H3 fun y H4 => Pv (i + 1) (acc ++ [y]) H4 else Pv (i + 1) acc H3)
    (hd : ∀ acc H, Pv n acc H → ∀ p, H p = none → Q (.ref p) (upd H p (.lst acc))) :
    ∃ W : Nat → Nat → List V → Hp → Prop, (∃ m, W 0 m [] H) ∧ ∀ i m acc H, W i m acc H → acc.length ≤ sizeLine ∧
      ((J.stop i H ∧ ∀ p, H p = none → Q (.ref p) (upd H p (.lst acc))) ∨
       (J.go i H ∧ acc.length < sizeLine ∧ ∃ N : List V → Hp → Prop, (∀ acc' H', N acc' H' → ∃ m', m' < m ∧ W (i + 1) m' acc' H') ∧ ∀ x H', J.yld i H x H' → g x σ0 H' fun σ2 H2 => tt σ2 H2 fun b H3 => if b = true then te σ2 H3 fun y H4 => N (acc ++ [y]) H4 else N acc H3)) := by
  refine ⟨fun i m acc H => m = n - i ∧ i ≤ n ∧ Pv i acc H, ⟨n, by simp, Nat.zero_le _, h0⟩, ?_⟩
  rintro i m acc H ⟨rfl, hi, p⟩
  have q := hok i acc H hi p
  have hl := hlen i acc H p
  refine ⟨by omega, ?_⟩
  by_cases hlt : i < n
  · refine .inr ⟨G.go i H hlt q, by omega, Pv (i + 1), fun acc' H' p' => ⟨n - (i + 1), by omega, rfl, hlt, p'⟩, fun x H' y => ?_⟩
    obtain ⟨e, y'⟩ := G.yld i H x H' hlt q y
    subst e
    exact hs i x acc _ hlt y' p
  · have e : i = n := by omega
    subst e
    exact .inl ⟨G.stop H q, hd acc H p⟩
end L2
set_option Elab.async false
set_option linter.all false
set_option maxRecDepth 100000
namespace L2
open PySem PySem.Spec PyProof.Rows
section
variable {X : Cx} {a b c e o : Expr} {ta tb tc te to : TE} {pos p apos cpos : Pos} {es : List Expr} {t : TA}
theorem op_fdivL : OpR X (binaryOp .FloorDiv) (rI (fun _ j => 0 < j ∧ j < 10 ^ 200) fun i j => .int (i / j)) := opI fun i j _ _ _ _ _ hc q => by
  have h : j.natAbs.log2 < 9000 := by
    have h1 : j.natAbs ≠ 0 := by omega
    rw [Nat.log2_lt h1]
    have h2 : j.natAbs < 10 ^ 200 := by have := hc.2; omega
    exact Nat.lt_of_lt_of_le h2 (by decide +kernel)
  refine floordiv_int (by omega) ?_ (.inl (PyProof.noPylong_of_log2 h))
  rw [Int.fdiv_eq_ediv_of_nonneg i (by omega)]
  exact q
def rCatE : R2 := fun x y H Q => ∃ a b ys, x = .ref a ∧ y = .ref b ∧ H a = some (.tup []) ∧ H b = some (.tup ys) ∧ Q (.ref b) H
theorem op_catE : OpR X (binaryOp .Add) rCatE := by
  intro pins s σ H x y v u Q I rx ry h
  obtain ⟨a, b, ys, rfl, rfl, ha, hb, q⟩ := h
  cases rx
  cases ry
  obtain ⟨its, r1, p1, _⟩ := I.tuple (SqT.of ha)
  obtain ⟨its2, r2, p2, _⟩ := I.tuple (SqT.of hb)
  cases r1
  obtain ⟨⟨cls, dd, data, sl⟩, ho, hc, n, hd⟩ := id p1
  obtain ⟨⟨cls2, dd2, data2, sl2⟩, ho2, hc2, n2, hd2⟩ := id p2
  simp only at hc hd hc2 hd2
  subst hc hd hc2 hd2
  exact concat_meets ⟨_, ho, rfl⟩ ⟨_, ho2, rfl⟩ noFill_tuple_add seq_tuple_add PySem.F.slot_tuple_add PySem.F.entry_tuple_add (PySem.F.args_tuple_add_2 _ _)
      (tuple_addW0 a b _ _ n n2 dd dd2 sl sl2 (by simp)) ⟨ho, ho2, .ref b, H, I, rfl, q⟩
def rCatTT : R2 := fun x y H Q => ∃ a b xs ys, x = .ref a ∧ y = .ref b ∧ H a = some (.tup xs) ∧ H b = some (.tup ys) ∧ xs.length + ys.length ≤ sizeLine ∧
  ∀ p H', H' p = some (.tup (xs ++ ys)) → Same H H' → (∀ q, q ≠ p → H' q = H q) → Q (.ref p) H'
theorem op_catTT : OpR X (binaryOp .Add) rCatTT := by
  intro pins s σ H x y v u Q I rx ry h
  obtain ⟨a, b, xs, ys, rfl, rfl, ha, hb, hz, q⟩ := h
  by_cases hx : xs = []
  · subst hx
    exact op_catE pins s σ H _ _ v u Q I rx ry ⟨a, b, ys, rfl, rfl, ha, hb, q b H (by simpa using hb) (Same.refl H) fun _ _ => rfl⟩
  · refine op_catT pins s σ H _ _ v u Q I rx ry ⟨a, b, xs, ys, rfl, rfl, SqT.of ha, SqT.of hb, hx, hz, fun e => ?_, fun _ p hp => ?_⟩
    · subst e
      exact q a H (by simpa using ha) (Same.refl H) fun _ _ => rfl
    · exact q p _ upd_same (fun c o hc => by rw [upd_ne (ne_of_none hc hp)]; exact hc) fun _ hq => upd_ne hq
def rAddA : R2 := fun x y H Q => (∃ i j, x = .int i ∧ y = .int j ∧ Q (.int (i + j)) H) ∨ (∃ i j, x = .str i ∧ y = .str j ∧ i.length + j.length ≤ sizeLine ∧ Q (.str (i ++ j)) H) ∨ rCat x y H Q ∨ rCatTT x y H Q
def rIAddA : R2 := fun x y H Q => (∃ i j, x = .int i ∧ y = .int j ∧ Q (.int (i + j)) H) ∨ (∃ i j, x = .str i ∧ y = .str j ∧ i.length + j.length ≤ sizeLine ∧ Q (.str (i ++ j)) H)
def Item (H : Hp) (x y v : V) : Prop :=
  (∃ p xs i, x = .ref p ∧ y = .int i ∧ (H p = some (.lst xs) ∨ H p = some (.tup xs)) ∧ atI xs i = some v) ∨
  (∃ z i c, x = .str z ∧ y = .int i ∧ z.length ≤ sizeLine ∧ atI z.cps.toList i = some c ∧ v = .str ⟨#[c]⟩) ∨
  (∃ p kvs k, x = .ref p ∧ y = kV k ∧ Rd H p (.dK kvs) ∧ valV kvs k = some v)
def rItem : R2 := fun x y H Q => ∃ v, Item H x y v ∧ Q v H
theorem ix_dict (hu : X.A.units + 1 < cLine) : IxR X (fun x y H Q => ∃ a v, x = .ref a ∧ DGet H a y (some v) ∧ Q v H) := by
  intro value slice pins s σ H x y v u Q I rx ry h hs
  obtain ⟨a, z, rfl, g, q⟩ := h
  cases rx
  exact tail_any (dict_typeIs I g) PySem.F.slot_dict_getitem.lookup (d_getItem hu I g ry fun w' s3 I3 rw' => ⟨z, H, I3, rw', q⟩) hs
theorem ix_item (hu : X.A.units + 1 < cLine) : IxR X rItem := by
  intro value slice pins s σ H x y v u Q I rx ry h hs
  obtain ⟨z, h, q⟩ := h
  rcases h with ⟨p, xs, i, rfl, rfl, h | h, he⟩ | ⟨z', i, c, rfl, rfl, hz, he, rfl⟩ | ⟨p, kvs, k, rfl, rfl, h, he⟩
  · exact ix_list value slice pins s σ H _ _ v u Q I rx ry ⟨p, xs, i, z, rfl, rfl, SqL.of h, he, q⟩ hs
  · exact ix_tup value slice pins s σ H _ _ v u Q I rx ry ⟨p, xs, i, z, rfl, rfl, SqT.of h, he, q⟩ hs
  · exact ix_str value slice pins s σ H _ _ v u Q I rx ry ⟨z', i, c, rfl, rfl, hz, he, q⟩ hs
  · refine ix_dict hu value slice pins s σ H _ _ v u Q I rx ry ⟨p, z, rfl, ?_, q⟩ hs
    have g : DGet H p (kV k) (valV kvs k) := .inl ⟨kvs, k, h, rfl, rfl⟩
    rw [he] at g
    exact g
theorem pe_item (hu : X.A.units + 1 < cLine) (ha : PE X a ta) (hb : PE X b tb) (hs : PlainIx b) : PE X (.Subscript a b pos) (tOp rItem ta tb) := pe_ix (ix_item hu) ha hb hs
theorem item_t {H : Hp} {p : Addr} {xs : List V} {j : Nat} {v : V} (h : H p = some (.tup xs)) (e : xs[j]? = some v) : Item H (.ref p) (.int j) v := .inl ⟨p, xs, j, rfl, rfl, .inr h, atI_nat e⟩
theorem item_l {H : Hp} {p : Addr} {xs : List V} {j : Nat} {v : V} (h : H p = some (.lst xs)) (e : xs[j]? = some v) : Item H (.ref p) (.int j) v := .inl ⟨p, xs, j, rfl, rfl, .inl h, atI_nat e⟩
theorem item_i {H : Hp} {p : Addr} {xs : List V} {i : Int} {v : V} (h : H p = some (.lst xs) ∨ H p = some (.tup xs)) (h0 : 0 ≤ i) (e : xs[i.toNat]? = some v) : Item H (.ref p) (.int i) v := by
  refine .inl ⟨p, xs, i, rfl, rfl, h, ?_⟩
  have q := atI_nat e
  rw [Int.toNat_of_nonneg h0] at q
  exact q
theorem item_s {H : Hp} {z : Str} {i : Int} {c : Nat} (hz : z.length ≤ sizeLine) (h0 : 0 ≤ i) (e : z.cps.toList[i.toNat]? = some c) : Item H (.str z) (.int i) (.str ⟨#[c]⟩) := by
  refine .inr (.inl ⟨z, i, c, rfl, rfl, hz, ?_, rfl⟩)
  have q := atI_nat e
  rw [Int.toNat_of_nonneg h0] at q
  exact q
theorem item_d {H : Hp} {p : Addr} {kvs : List (Key × V)} {k : Str} {v : V} (h : Rd H p (.dK kvs)) (e : valV kvs (Sum.inr k) = some v) : Item H (.ref p) (.str k) v := .inr (.inr ⟨p, kvs, Sum.inr k, rfl, rfl, h, e⟩)
def lenA : List V → Hp → VK → Prop := fun xs H Q => (∃ p ys, xs = [.ref p] ∧ (H p = some (.lst ys) ∨ H p = some (.tup ys)) ∧ Q (.int ys.length) H) ∨ (∃ z, xs = [.str z] ∧ z.length ≤ sizeLine ∧ Q (.int z.length) H) ∨ (∃ p kvs, xs = [.ref p] ∧ H p = some (.dK kvs) ∧ Q (.int kvs.length) H)
theorem call_lenA : CallR X (.builtin "len") lenA := by
  intro pins s σ H xs us Q I r h
  rcases h with ⟨p, ys, rfl, h, q⟩ | ⟨z, rfl, hz, q⟩ | ⟨p, kvs, rfl, h, q⟩
  · exact call_len_seq pins s σ H _ us Q I r ⟨p, ys, rfl, h.imp SqL.of SqT.of, q⟩
  · exact call_len_str pins s σ H _ us Q I r ⟨z, rfl, hz, q⟩
  · exact call_lenD pins s σ H _ us Q I r ⟨p, kvs, rfl, h, q⟩
def InA (H : Hp) (x y : V) (b : Bool) : Prop :=
  (∃ p xs, y = .ref p ∧ (H p = some (.lst xs) ∨ H p = some (.tup xs)) ∧ flatV x = true ∧ xs.all flatV = true ∧ b = inV x xs) ∨
  (∃ i j, x = .str i ∧ y = .str j ∧ b = !(Builtin.Str.occurrences j i 0 j.length 1).isEmpty) ∨
  (∃ p kvs k, y = .ref p ∧ x = kV k ∧ Rd H p (.dK kvs) ∧ b = (valV kvs k).isSome)
theorem op_inA (hu : X.A.units + 1 < cLine) : OpR X (compareOp .In) (fun x y H Q => ∃ b, InA H x y b ∧ Q (.bl b) H) := by
  intro pins s σ H x y v u Q I rx ry h
  obtain ⟨b, h, q⟩ := h
  rcases h with ⟨p, xs, rfl, hp, fx, fxs, rfl⟩ | ⟨i, j, rfl, rfl, rfl⟩ | ⟨p, kvs, k, rfl, rfl, hp, rfl⟩
  · exact op_in_seq pins s σ H _ _ v u Q I rx ry ⟨p, xs, rfl, hp.imp SqL.of SqT.of, fx, fxs, q⟩
  · exact op_in_str pins s σ H _ _ v u Q I rx ry ⟨i, j, rfl, rfl, q⟩
  · cases ry
    exact d_in hu I (.inl ⟨kvs, k, hp, rfl, rfl⟩) rx fun s' I' => ⟨.bl _, H, I', rfl, q⟩
theorem op_notInA (hu : X.A.units + 1 < cLine) : OpR X (compareOp .NotIn) (fun x y H Q => ∃ b, InA H x y b ∧ Q (.bl (!b)) H) := by
  intro pins s σ H x y v u Q I rx ry h
  obtain ⟨b, h, q⟩ := h
  rcases h with ⟨p, xs, rfl, hp, fx, fxs, rfl⟩ | ⟨i, j, rfl, rfl, rfl⟩ | ⟨p, kvs, k, rfl, rfl, hp, rfl⟩
  · exact op_notIn_seq pins s σ H _ _ v u Q I rx ry ⟨p, xs, rfl, hp.imp SqL.of SqT.of, fx, fxs, q⟩
  · exact op_notIn_str pins s σ H _ _ v u Q I rx ry ⟨i, j, rfl, rfl, q⟩
  · cases ry
    exact d_notIn hu I (.inl ⟨kvs, k, hp, rfl, rfl⟩) rx fun s' I' => ⟨.bl _, H, I', rfl, q⟩
def rSetA : V → V → V → Hp → (Hp → Prop) → Prop := fun o i v H Q => rSetL o i v H Q ∨ (∃ p kvs k, o = .ref p ∧ i = kV k ∧ H p = some (.dK kvs) ∧ kvs.length < sizeLine ∧ Q (upd H p (.dK (putK kvs k v))))
theorem set_any (hu : X.A.units + 1 < cLine) : PSet X rSetA := by
  intro pins s σ H o i v ov iv u Q I ro ri rv h
  rcases h with h | ⟨p, kvs, k, rfl, rfl, hp, hl, q⟩
  · exact set_list pins s σ H o i v ov iv u Q I ro ri rv h
  · cases ro
    exact d_setItem hu I (DPut.k hp hl) ri rv fun s' I' => ⟨_, I', q⟩
theorem tyV_of {K : PySem.W.Frag} {H : Hp} {x : V} {T : String} (h : tyOf H x = some T) (hT : T = "list" ∨ T = "dict" ∨ T = "str") : tyV K T x H := by
  cases x with
  | str z => cases h; rfl
  | ref a =>
    unfold tyOf at h
    simp only at h
    cases e : H a with
    | none => rw [e] at h; cases h
    | some o =>
      rw [e] at h
      cases o with
      | lst xs => cases h; exact .inl ⟨rfl, xs, SqL.of e⟩
      | tup xs => cases h; exact absurd hT (by decide)
      | dK kvs => cases h; exact .inr (.inr (.inl ⟨rfl, .inl ⟨kvs, e⟩⟩))
      | _ => cases h
  | int i => cases h; exact absurd hT (by decide)
  | bl i => cases h; exact absurd hT (by decide)
  | non => cases h; exact absurd hT (by decide)
  | _ => cases h
def tBA0 (T : String) (r : V → List V → Hp → VK → Prop) (to : TE) : TE := fun σ H Q => to σ H fun x H1 => tyOf H1 x = some T ∧ r x [] H1 Q
def tBA (T : String) (r : V → List V → Hp → VK → Prop) (to : TE) (t : TA) : TE := fun σ H Q => to σ H fun x H1 => tyOf H1 x = some T ∧ t σ H1 fun xs H2 => r x xs H2 Q
theorem PE.weak {e : Expr} {t t' : TE} (h : PE X e t) (w : ∀ σ H Q, t' σ H Q → t σ H Q) : PE X e t' := fun pins s σ H Q I q => h pins s σ H Q I (w σ H Q q)
variable {name : Str} {T id : String} {r : V → List V → Hp → VK → Prop}
theorem pe_ba (pa : PlainAttrs T) (slot : Slot T name id) (hty : typeOf (.builtin id) = pure (.type "method_descriptor")) (hm : MtR X id r) (ho : PE X o to) (ha : PA X (e :: es) t) (hT : T = "list" ∨ T = "dict" ∨ T = "str" := by decide)
    (hbase : attributeBase o name X.env (eval o X.env) = eval o X.env := by rfl)
    (hfew : ((backTo cpos (starEach (e :: es) X.env)).all (fun x => !x.1) && (backToKw cpos (keywordEach [] X.env)).all (fun x => x.1.isSome)
      && decide ((e :: es).length + ([] : List Keyword).length + (if ([] : List Keyword).isEmpty then 0 else 1) < 30)) = true := by rfl)
    (hline : (apos.endLine == cpos.line) = true := by rfl) (hs : starEach (e :: es) X.env = (false, eval e X.env) :: starEach es X.env := by rfl) (hplain : (backTo cpos (starEach es X.env)).any (·.1) = false := by rfl) :
    PE X (.Call (.Attribute o name apos) (e :: es) [] cpos) (tBA T r to t) := by
  intro pins s σ H Q I h
  refine wpAny_Call_method_late hbase hfew hline rfl (thn (ho pins s σ H _ I h) fun v s1 ⟨x, H1, I1, r1, ty, q1⟩ => ?_)
  obtain ⟨h1, h2⟩ := tyV_is I1 r1 (tyV_of ty hT)
  refine ⟨T, id, pa, slot, hty, h1, h2, ?_⟩
  have hA := ha cpos pins s1 σ H1 _ I1 q1
  rw [hs] at hA ⊢
  refine Calls.callWith_builtin (by show (false || (backTo cpos (starEach es X.env)).any (·.1)) = false; rw [hplain] <;> rfl) (Calls.evalArgs_plain ?_)
  exact thn hA fun us s2 ⟨vs, H2, I2, r2, q2⟩ => hm pins s2 σ H2 x vs v us Q I2 r1 r2 q2
end
def Has (P : Program) (w : World) (K : PySem.W.Frag) (mg : Str → Option Value) (base : Heap) (x : Str) (k : Nat) (ps : List Str) (sp : Sp) : Prop :=
  ∃ f fd, mg x = some (.ref f) ∧ PySem.W.keepIn K (.ref f) = true ∧ Binds K fd ps [] ∧ FnOk P w K mg base CX0 k f fd ps sp
theorem pe_callH {X : Cx} {x : Str} {k : Nat} {ps : List Str} {sp : Sp} {e : Expr} {es : List Expr} {t : TA} {p pos : Pos} (h : Has X.prog X.w X.K X.mg X.base x k ps sp) (hr : Room k X.A) (hg : Gl X x) (ha : PA X (e :: es) t)
    (hdb : (x == ("__debug__" : Str)) = false := by decide) (he : starEach (e :: es) X.env = (false, eval e X.env) :: starEach es X.env := by rfl) (hpl : (backTo pos (starEach es X.env)).any (·.1) = false := by rfl) :
    PE X (.Call (.Name x p) (e :: es) [] pos) (tCall sp [] E0 t) := by
  obtain ⟨f, fd, hm, hk, hb, F⟩ := h
  exact pe_call F hr hg hm hk hb .nil pass0 ha hdb he hpl
end L2
set_option Elab.async false
set_option linter.all false
set_option maxRecDepth 100000
namespace HT
open PySem PyProof.Rows
section
variable {prog : Program} {w : World} {A : Around} {E : Value → Shared → Prop} {s : Shared}
theorem getItem_tuple_whole {t sl : Addr} {items : Array Value} {vl vu : Value} {lo hi : Option Int} {Q : Value → Shared → Prop} (ht : IsTup s.heap t items) (hs : s.heap.IsSliceOf sl vl vu .none) (pl : IsPart vl lo) (pu : IsPart vu hi)
    (hw : sIx items.size 0 lo = 0 ∧ sIx items.size items.size hi = items.size) (h : Q (.ref t) s) : wpAny (model prog w) A (getItem (.ref t) (.ref sl)) Q E s := by
  obtain ⟨os, hos, hcs, hds⟩ := id hs
  have hTs : s.TypeIs (.ref sl) "slice" := ⟨os, hos, hcs⟩
  unfold getItem
  try with_reducible refine wpAny_holding ?_
  first | refine wpAny_bind (wpAny_pure ?_) | skip
  refine wpAny_bind (wpAny_sequenceKey ht.typeIs (by decide) ?_)
  refine wpAny_bind (wpAny_callSpecial?_slot (name := Str.ofString "__getitem__") ht.typeIs PyProof.Rows.slot_tuple_getitem
    (wpAny_call_entry PyProof.Rows.slot_tuple_getitem ht.typeIs entry_tuple_getitem ?_ (args_tuple_getitem _ _)))
  show wpAny _ _ (Builtin.Tuple.tupleItemsOf (.ref t) >>= _) _ _ s
  refine wpAny_bind (tupleItemsOf_ ht ?_)
  refine wpAny_bind (wpAny_typeOf hTs ?_)
  rw [if_pos (by decide)]
  refine wpAny_bind (sliceApplied_gen hs pl pu ?_)
  have hyes : ((((sIx items.size 0 lo : Nat) : Int) == 0 && (1 : Int) == 1 && (sIx items.size items.size hi - sIx items.size 0 lo) == items.size) = true) := by
    rw [hw.1, hw.2]
    simp
  show wpAny _ _ (if (((sIx items.size 0 lo : Nat) : Int) == 0 && (1 : Int) == 1 && (sIx items.size items.size hi - sIx items.size 0 lo) == items.size) = true then _ else _) _ _ s
  rw [if_pos hyes]
  refine wpAny_bind (m := Builtin.Tuple.tupleIsExact _) ?_
  unfold Builtin.Tuple.tupleIsExact
  refine wpAny_bind (wpAny_typeOf ht.typeIs (wpAny_pure ?_))
  rw [if_pos (by decide)]
  refine wpAny_bind (wpAny_rule ?_)
  first
    | exact wpAny_pure ⟨_, rfl, wpAny_pure h⟩
    | exact wpAny_bind (wpAny_pure (wpAny_pure ⟨_, rfl, wpAny_pure h⟩))
end
end HT
namespace L2
open PySem PySem.Spec PyProof.Rows
section
variable {X : Cx} {a b c e o : Expr} {ta tb tc te to : TE} {pos p apos cpos : Pos} {es : List Expr} {t : TA}
theorem sl_tupW : SlR X (fun x lo hi H Q => ∃ a xs, x = .ref a ∧ H a = some (.tup xs) ∧ (HT.sIx xs.length 0 lo = 0 ∧ HT.sIx xs.length xs.length hi = xs.length) ∧ Q (.ref a) H) := by
  intro pins s σ H x v vl vu lo hi sl Q I rx hs pl pu h
  obtain ⟨a, xs, rfl, hx, hw, q⟩ := h
  cases rx
  obtain ⟨its, r, ht, hz⟩ := I.tuple (SqT.of hx)
  have hlen : its.toArray.size = xs.length := by rw [List.size_toArray]; exact r.length.symm
  refine ⟨"tuple", _, PyProof.Rows.slot_tuple_getitem.lookup, ht.typeIs, ?_⟩
  exact HT.getItem_tuple_whole ht hs pl pu (by rw [hlen]; exact hw) ⟨.ref a, H, I, rfl, q⟩
theorem cutV_whole {xs : List V} {lo hi : Option Int} (h : HT.sIx xs.length 0 lo = 0 ∧ HT.sIx xs.length xs.length hi = xs.length) : cutV xs lo hi = xs := by
  unfold cutV
  rw [h.1, h.2]
  simp
theorem sl_tupA : SlR X (fun x lo hi H Q => ∃ a xs, x = .ref a ∧ H a = some (.tup xs) ∧ ∀ p H', H' p = some (.tup (cutV xs lo hi)) → Same H H' → (∀ q, q ≠ p → H' q = H q) → Q (.ref p) H') := by
  intro pins s σ H x v vl vu lo hi sl Q I rx hs pl pu h
  obtain ⟨a, xs, rfl, hx, q⟩ := h
  by_cases hw : HT.sIx xs.length 0 lo = 0 ∧ HT.sIx xs.length xs.length hi = xs.length
  · exact sl_tupW pins s σ H _ v vl vu lo hi sl Q I rx hs pl pu ⟨a, xs, rfl, hx, hw, q a H (by rw [cutV_whole hw]; exact hx) (Same.refl H) fun _ _ => rfl⟩
  · exact sl_tup pins s σ H _ v vl vu lo hi sl Q I rx hs pl pu ⟨a, xs, rfl, SqT.of hx, hw, fun p hp => q p _ upd_same (fun c o hc => by rw [upd_ne (ne_of_none hc hp)]; exact hc) fun _ hq => upd_ne hq⟩
theorem sl_lstA : SlR X (fun x lo hi H Q => ∃ a xs, x = .ref a ∧ H a = some (.lst xs) ∧ ∀ p, H p = none → Q (.ref p) (upd H p (.lst (cutV xs lo hi)))) := by
  intro pins s σ H x v vl vu lo hi sl Q I rx hs pl pu h
  obtain ⟨a, xs, rfl, hx, q⟩ := h
  exact sl_list pins s σ H _ v vl vu lo hi sl Q I rx hs pl pu ⟨a, xs, rfl, SqL.of hx, q⟩
theorem pe_globI {x : Str} {i : Int} {pos : Pos} (hg : Gl X x) (hm : ∃ t, X.mg x = some (.int i t)) (hd : (x == ("__debug__" : Str)) = false := by decide) : PE X (.Name x pos) (tC (.int i)) := by
  obtain ⟨t, hm⟩ := hm
  exact pe_glob hg hm ⟨t, rfl⟩ hd
theorem op_eqA (hu : X.A.units + 1 < cLine) : OpR X (compareOp .Eq) rEq := op_eq
theorem op_neA (hu : X.A.units + 1 < cLine) : OpR X (compareOp .NotEq) rNe := op_ne
theorem op_ltA (hu : X.A.units + 1 < cLine) : OpR X (compareOp .Lt) (rI0 fun i j => .bl (decide (i < j))) := op_lt
def rIsA : R2 := fun x y H Q => (∃ i j, x = .bl i ∧ y = .bl j ∧ Q (.bl (i == j)) H) ∨ (y = .non ∧ Q (.bl (decide (x = .non))) H)
theorem op_isA : OpR X (compareOp .Is) rIsA := op_isB.or op_isN
def rIsnotA : R2 := fun x y H Q => (∃ i j, x = .bl i ∧ y = .bl j ∧ Q (.bl (i != j)) H) ∨ (y = .non ∧ Q (.bl (!decide (x = .non))) H)
theorem op_isnotA : OpR X (compareOp .IsNot) rIsnotA := op_isnotB.or op_notN
def tupleA : List V → Hp → VK → Prop := fun xs H Q => ∃ p ys, xs = [.ref p] ∧ ((H p = some (.lst ys) ∧ ∀ l, H l = none → Q (.ref l) (upd H l (.tup ys))) ∨ (H p = some (.tup ys) ∧ Q (.ref p) H))
theorem call_tupleA : CallR X (.type "tuple") tupleA := by
  intro pins s σ H xs us Q I r h
  obtain ⟨p, ys, rfl, h⟩ := h
  exact call_tuple_of pins s σ H _ us Q I r ⟨p, ys, rfl, h.imp (fun h => ⟨SqL.of h.1, h.2⟩) fun h => ⟨SqT.of h.1, h.2⟩⟩
def listA : List V → Hp → VK → Prop := fun xs H Q => ∃ p ys, xs = [.ref p] ∧ (H p = some (.lst ys) ∨ H p = some (.tup ys)) ∧ ∀ l, H l = none → Q (.ref l) (upd H l (.lst ys))
def cpB (N : List Str) (osc sc : Scope) (own : List Str) (cap : List Nat) : Bool :=
  decide (sc.kind = .function) && sc.names.all (fun x => x.2 != .local || decide (sc.names.lookup x.1 = some .local)) && sc.names.all (fun y => y.2 != .cell) &&
  sc.names.all (fun y => y.2 != .free || decide (osc.names.lookup y.1 = some .cell) || decide (osc.names.lookup y.1 = some .free)) && cap.all fun j => decide (j < N.length) && decide (sc.names.lookup (N.getD j "") = some .free)
theorem cp_ok {N : List Str} {osc sc : Scope} {own : List Str} {cap : List Nat} (h : cpB N osc sc own cap = true) : CpScope N osc sc own cap := by
  unfold cpB at h
  rw [Bool.and_eq_true, Bool.and_eq_true, Bool.and_eq_true, Bool.and_eq_true] at h
  obtain ⟨⟨⟨⟨h1, h2⟩, h3⟩, h4⟩, h5⟩ := h
  refine ⟨of_decide_eq_true h1, fun x hx hl => ?_, fun y hy hc => ?_, fun y hy hf => ?_, fun j hj => ?_⟩
  · have q := List.all_eq_true.mp h2 x hx
    rw [hl] at q
    exact of_decide_eq_true (by simpa using q)
  · have q := List.all_eq_true.mp h3 y hy
    rw [hc] at q
    exact absurd q (by decide)
  · have q := List.all_eq_true.mp h4 y hy
    rw [hf] at q
    rw [Bool.or_eq_true, Bool.or_eq_true] at q
    rcases q with (q | q) | q
    · exact absurd q (by decide)
    · exact .inl (of_decide_eq_true q)
    · exact .inr (of_decide_eq_true q)
  · have q := List.all_eq_true.mp h5 j hj
    rw [Bool.and_eq_true] at q
    exact ⟨of_decide_eq_true q.1, of_decide_eq_true q.2⟩
end
end L2
set_option Elab.async false
set_option linter.all false
set_option maxRecDepth 100000
namespace L2
open PySem PySem.Spec PyProof.Rows
section
variable {X : Cx}
def rRepT : R2 := fun x y H Q => ∃ l k xs, x = .ref l ∧ y = .int k ∧ H l = some (.tup xs) ∧ xs ≠ [] ∧ 2 ≤ k ∧ k ≤ 1000 ∧ xs.length * k.toNat ≤ 10000 ∧
  ∀ p, H p = none → Q (.ref p) (upd H p (.tup (List.replicate k.toNat xs).flatten))
def rMulA : R2 := fun x y H Q => (∃ i j, x = .int i ∧ y = .int j ∧ CMul i j ∧ Q (.int (i * j)) H) ∨ rRepT x y H Q
theorem CallR.weak {f : Value} {r r' : List V → Hp → VK → Prop} (h : CallR X f r) (w : ∀ xs H Q, r' xs H Q → r xs H Q) : CallR X f r' := fun pins s σ H xs us Q I rv q => h pins s σ H xs us Q I rv (w _ _ _ q)
theorem PI.weak {tg it : Expr} {w1 w2 : TI} (h : PI X tg it w1) (w : ∀ σ H R, w2 σ H R → w1 σ H R) : PI X tg it w2 := fun pins s σ H R I q => h pins s σ H R I (w _ _ _ q)
def lenQ : List V → Hp → VK → Prop := fun xs H Q => ∃ p ys, xs = [.ref p] ∧ (H p = some (.lst ys) ∨ H p = some (.tup ys)) ∧ Q (.int ys.length) H
theorem call_len_q : CallR X (.builtin "len") lenQ := call_lenA.weak fun _ _ _ h => .inl h
def lenS : List V → Hp → VK → Prop := fun xs H Q => ∃ z, xs = [.str z] ∧ z.length ≤ sizeLine ∧ Q (.int z.length) H
def lenD : List V → Hp → VK → Prop := fun xs H Q => ∃ p kvs, xs = [.ref p] ∧ H p = some (.dK kvs) ∧ Q (.int kvs.length) H
theorem call_len_d : CallR X (.builtin "len") lenD := call_lenA.weak fun _ _ _ h => .inr (.inr h)
def rSetD : V → V → V → Hp → (Hp → Prop) → Prop := fun o i v H Q => ∃ p kvs k, o = .ref p ∧ i = kV k ∧ H p = some (.dK kvs) ∧ kvs.length < sizeLine ∧ Q (upd H p (.dK (putK kvs k v)))
theorem set_dict (hu : X.A.units + 1 < cLine) : PSet X rSetD := fun pins s σ H o i v ov iv u Q I ro ri rv h => set_any hu pins s σ H o i v ov iv u Q I ro ri rv (.inr h)
theorem ip_addI : PIp X .Add (rI0 fun i j => .int (i + j)) := fun pins s σ H x y v u Q I rx ry q => iop_add pins s σ H x y v u Q I rx ry q
def rAddS : R2 := fun x y H Q => ∃ i j, x = .str i ∧ y = .str j ∧ i.length + j.length ≤ sizeLine ∧ Q (.str (i ++ j)) H
theorem ip_addS : PIp X .Add rAddS := fun pins s σ H x y v u Q I rx ry q => iop_add_str pins s σ H x y v u Q I rx ry q
def iLst (te : TE) : TI := fun σ H R => te σ H fun x H1 => ∃ a xs, x = .ref a ∧ H1 a = some (.lst xs) ∧ R (ItL a xs) H1
def iTpl (te : TE) : TI := fun σ H R => te σ H fun x H1 => ∃ a xs, x = .ref a ∧ H1 a = some (.tup xs) ∧ R (ItT a xs) H1
def iTxt (te : TE) : TI := fun σ H R => te σ H fun x H1 => ∃ z, x = .str z ∧ R (Its z) H1
theorem pi_lst {tg l : Expr} {te : TE} (hl : PE X l te) : PI X tg l (iLst te) := by
  intro pins s σ H R I h
  refine thn (hl pins s σ H _ I h) fun v s1 ⟨x, H1, I1, r1, q1⟩ => ?_
  obtain ⟨a, xs, e, ha, q⟩ := q1
  subst e
  cases r1
  obtain ⟨its, rv, hli, hlt⟩ := lst_iter I1 ha
  refine wpAny_pyIter_list hli ?_
  refine ⟨s1.heap.objs.size, [s1.heap.objs.size], _, _, H1, rfl, I1.kept (t' := s1.toks) fun b o e => Heap.get?_push_of_some _ e, turn_seqL a _ xs, ⟨_, Heap.get?_push_size _ rfl, rfl, rfl⟩, fun b hb => ?_, q⟩
  have e : b = s1.heap.objs.size := by simpa using hb
  subst e
  exact I1.fpOk (Nat.le_refl _) (I1.hok.fresh (Nat.le_refl _))
theorem pi_tpl {tg l : Expr} {te : TE} (hl : PE X l te) : PI X tg l (iTpl te) := by
  intro pins s σ H R I h
  refine thn (hl pins s σ H _ I h) fun v s1 ⟨x, H1, I1, r1, q1⟩ => ?_
  obtain ⟨a, xs, e, ha, q⟩ := q1
  subst e
  cases r1
  obtain ⟨hz, its, rv, p⟩ := I1.hok a _ ha
  refine wpAny_pyIter_tuple (show s1.heap.IsTuple a its.toArray from p) ?_
  refine ⟨s1.heap.objs.size, [s1.heap.objs.size], _, _, H1, rfl, I1.kept (t' := s1.toks) fun b o e => Heap.get?_push_of_some _ e, turn_seqT a _ xs, ⟨_, Heap.get?_push_size _ rfl, rfl, rfl⟩, fun b hb => ?_, q⟩
  have e : b = s1.heap.objs.size := by simpa using hb
  subst e
  exact I1.fpOk (Nat.le_refl _) (I1.hok.fresh (Nat.le_refl _))
end
end L2
set_option Elab.async false
set_option linter.all false
set_option maxRecDepth 100000
namespace NP
open PySem L2
theorem bt_isinstance : bootBuiltins "isinstance" = some (.builtin "isinstance") := by decide +kernel
theorem bt_any : bootBuiltins "any" = some (.builtin "any") := by decide +kernel
theorem bt_max : bootBuiltins "max" = some (.builtin "max") := by decide +kernel
theorem bt_len : bootBuiltins "len" = some (.builtin "len") := by decide +kernel
theorem bt_sorted : bootBuiltins "sorted" = some (.builtin "sorted") := by decide +kernel
theorem bt_int : bootBuiltins "int" = some (.type "int") := by decide +kernel
theorem bt_tuple : bootBuiltins "tuple" = some (.type "tuple") := by decide +kernel
theorem bt_list : bootBuiltins "list" = some (.type "list") := by decide +kernel
theorem bt_reversed : bootBuiltins "reversed" = some (.type "reversed") := by decide +kernel
def But (st : Addr) (H H' : Hp) : Prop := ∀ b o, b ≠ st → H b = some o → H' b = some o
theorem But.refl (st : Addr) (H : Hp) : But st H H := fun _ _ _ h => h
theorem But.trans {st : Addr} {H H1 H2 : Hp} (a : But st H H1) (b : But st H1 H2) : But st H H2 := fun c o n h => b c o n (a c o n h)
theorem same_but {st : Addr} {H H' : Hp} (s : Same H H') : But st H H' := fun b o _ h => s b o h
theorem same_upd {H : Hp} {p : Addr} {o : HO} (hp : H p = none) : Same H (upd H p o) := fun b u h => by rw [upd_ne (ne_of_none h hp)]; exact h
theorem but_upd {st : Addr} {H : Hp} {p : Addr} {o : HO} (hp : H p = none) : But st H (upd H p o) := same_but (same_upd hp)
theorem but_set {st : Addr} {H : Hp} {o : HO} : But st H (upd H st o) := fun b u n h => by rw [upd_ne n]; exact h
def StOk (H : Hp) (st : Addr) : Prop := ∃ ns : List Int, ns ≠ [] ∧ H st = some (.lst (ns.map V.int))
theorem StOk.same {H H' : Hp} {st : Addr} (h : StOk H st) (s : Same H H') : StOk H' st := let ⟨ns, n, e⟩ := h; ⟨ns, n, s _ _ e⟩
inductive D where
  | non | bl (b : Bool) | int (i : Int) | str (x : Str) | tup (ds : List D) | lst | dct
mutual
def Rep (H : Hp) : D → V → Prop
  | .non, v => v = .non
  | .bl b, v => v = .bl b
  | .int i, v => v = .int i
  | .str x, v => v = .str x ∧ x.length ≤ 1000
  | .tup ds, v => ∃ a xs, v = .ref a ∧ H a = some (.tup xs) ∧ ds.length ≤ 1000 ∧ Reps H ds xs
  | .lst, v => ∃ a xs, v = .ref a ∧ H a = some (.lst xs)
  | .dct, v => ∃ a kvs, v = .ref a ∧ H a = some (.dK kvs)
def Reps (H : Hp) : List D → List V → Prop
  | [], xs => xs = []
  | d :: ds, xs => ∃ x r, xs = x :: r ∧ Rep H d x ∧ Reps H ds r
end
def KeepT (H H' : Hp) : Prop := (∀ a xs, H a = some (.tup xs) → H' a = some (.tup xs)) ∧ (∀ a xs, H a = some (.lst xs) → ∃ ys, H' a = some (.lst ys)) ∧ ∀ a kvs, H a = some (.dK kvs) → ∃ kvs', H' a = some (.dK kvs')
theorem same_keepT {H H' : Hp} (s : Same H H') : KeepT H H' := ⟨fun _ _ h => s _ _ h, fun _ xs h => ⟨xs, s _ _ h⟩, fun _ kvs h => ⟨kvs, s _ _ h⟩⟩
mutual
theorem Rep.keep {H H' : Hp} (k : KeepT H H') : ∀ (d : D) (v : V), Rep H d v → Rep H' d v
  | .non, v, h => by rw [Rep] at h ⊢; exact h
  | .bl b, v, h => by rw [Rep] at h ⊢; exact h
  | .int i, v, h => by rw [Rep] at h ⊢; exact h
  | .str x, v, h => by rw [Rep] at h ⊢; exact h
  | .tup ds, v, h => by
    rw [Rep] at h ⊢
    obtain ⟨a, xs, e, h, z, r⟩ := h
    exact ⟨a, xs, e, k.1 a xs h, z, Reps.keep k ds xs r⟩
  | .lst, v, h => by
    rw [Rep] at h ⊢
    obtain ⟨a, xs, e, h⟩ := h
    obtain ⟨ys, h'⟩ := k.2.1 a xs h
    exact ⟨a, ys, e, h'⟩
  | .dct, v, h => by
    rw [Rep] at h ⊢
    obtain ⟨a, kvs, e, h⟩ := h
    obtain ⟨ys, h'⟩ := k.2.2 a kvs h
    exact ⟨a, ys, e, h'⟩
theorem Reps.keep {H H' : Hp} (k : KeepT H H') : ∀ (ds : List D) (xs : List V), Reps H ds xs → Reps H' ds xs
  | [], xs, h => by rw [Reps] at h ⊢; exact h
  | d :: ds, xs, h => by
    rw [Reps] at h ⊢
    obtain ⟨x, r, e, h1, h2⟩ := h
    exact ⟨x, r, e, Rep.keep k d x h1, Reps.keep k ds r h2⟩
end
theorem Rep.same {H H' : Hp} {d : D} {v : V} (h : Rep H d v) (s : Same H H') : Rep H' d v := Rep.keep (same_keepT s) d v h
theorem Reps.same {H H' : Hp} {ds : List D} {vs : List V} (h : Reps H ds vs) (s : Same H H') : Reps H' ds vs := Reps.keep (same_keepT s) ds vs h
theorem Reps.length {H : Hp} : ∀ {ds : List D} {xs : List V}, Reps H ds xs → xs.length = ds.length
  | [], xs, h => by rw [Reps] at h; rw [h]; rfl
  | d :: ds, xs, h => by
    rw [Reps] at h
    obtain ⟨x, r, e, _, h2⟩ := h
    rw [e, List.length_cons, List.length_cons, Reps.length h2]
theorem Reps.get {H : Hp} : ∀ {ds : List D} {xs : List V} {i : Nat} {x : V}, Reps H ds xs → xs[i]? = some x → ∃ d, ds[i]? = some d ∧ Rep H d x
  | [], xs, i, x, h, e => by rw [Reps] at h; rw [h] at e; cases e
  | d :: ds, xs, i, x, h, e => by
    rw [Reps] at h
    obtain ⟨y, r, ey, h1, h2⟩ := h
    rw [ey] at e
    cases i with
    | zero => cases e; exact ⟨d, rfl, h1⟩
    | succ i => exact Reps.get (ds := ds) (xs := r) (i := i) h2 (by simpa using e)
theorem Reps.get' {H : Hp} : ∀ {ds : List D} {xs : List V} {i : Nat} {d : D}, Reps H ds xs → ds[i]? = some d → ∃ x, xs[i]? = some x ∧ Rep H d x
  | [], xs, i, d, h, e => by cases e
  | d0 :: ds, xs, i, d, h, e => by
    rw [Reps] at h
    obtain ⟨y, r, ey, h1, h2⟩ := h
    rw [ey]
    cases i with
    | zero => cases e; exact ⟨y, rfl, h1⟩
    | succ i =>
      obtain ⟨x, h3, h4⟩ := Reps.get' (ds := ds) (xs := r) (i := i) (d := d) h2 (by simpa using e)
      exact ⟨x, by simpa using h3, h4⟩
def D.ty : D → String
  | .non => "NoneType"
  | .bl _ => "bool"
  | .int _ => "int"
  | .str _ => "str"
  | .tup _ => "tuple"
  | .lst => "list"
  | .dct => "dict"
theorem Rep.ty {H : Hp} {d : D} {v : V} (h : Rep H d v) : tyOf H v = some d.ty := by
  cases d <;> rw [Rep] at h
  · rw [h]; rfl
  · rw [h]; rfl
  · rw [h]; rfl
  · rw [h.1]; rfl
  · obtain ⟨a, xs, e, h, _⟩ := h; rw [e]; unfold tyOf; simp only [h]; rfl
  · obtain ⟨a, xs, e, h⟩ := h; rw [e]; unfold tyOf; simp only [h]; rfl
  · obtain ⟨a, xs, e, h⟩ := h; rw [e]; unfold tyOf; simp only [h]; rfl
def CompW (J : It) (own : List Str) (cap : List Nat) (g : TG) (tt : TT) (te : TE) (σ : St) (H1 : Hp) (Q : VK) : Prop := ∃ W : Nat → Nat → List V → Hp → Prop, (∃ m, W 0 m [] H1) ∧ ∀ i m acc H, W i m acc H → acc.length ≤ sizeLine ∧
  ((J.stop i H ∧ ∀ p, H p = none → Q (.ref p) (upd H p (.lst acc))) ∨
   (J.go i H ∧ acc.length < sizeLine ∧ ∃ N : List V → Hp → Prop, (∀ acc' H', N acc' H' → ∃ m', m' < m ∧ W (i + 1) m' acc' H') ∧ ∀ x H', J.yld i H x H' → g x (cpSt own cap σ) H' fun σ2 H2 => tt σ2 H2 fun b H3 => if b = true then te σ2 H3 fun y H4 => N (acc ++ [y]) H4 else N acc H3))
theorem tComp_eq (own : List Str) (cap : List Nat) (wi : TI) (g : TG) (tt : TT) (te : TE) (σ : St) (H : Hp) (Q : VK) : tComp own cap wi g tt te σ H Q = wi σ H fun J H1 => CompW J own cap g tt te σ H1 Q := rfl
def ForW (J : It) (g : TG) (tb : TS) (D : Ends) (σ : St) (H1 : Hp) : Prop := ∃ W : Nat → Nat → St → Hp → Prop, (∃ m, W 0 m σ H1) ∧ ∀ i m σ H, W i m σ H →
  (J.stop i H ∧ D.nx σ H) ∨ (J.go i H ∧ ∃ N : St → Hp → Prop, (∀ σ' H', N σ' H' → ∃ m', m' < m ∧ W (i + 1) m' σ' H') ∧ ∀ x H', J.yld i H x H' → g x σ H' fun σ2 H2 => tb { D with nx := N, ct := N, bk := D.nx } σ2 H2)
theorem tFor_eq (wi : TI) (g : TG) (tb : TS) (D : Ends) (σ : St) (H : Hp) : tFor wi g tb D σ H = wi σ H fun J H1 => ForW J g tb D σ H1 := rfl
theorem iAny_eq (te : TE) (σ : St) (H : Hp) (R : It → Hp → Prop) : iAny te σ H R = te σ H fun x H1 => (∃ a xs, x = .ref a ∧ H1 a = some (.lst xs) ∧ R (ItL a xs) H1) ∨ (∃ a xs, x = .ref a ∧ H1 a = some (.tup xs) ∧ R (ItT a xs) H1) ∨ (∃ z, x = .str z ∧ R (Its z) H1) := rfl
theorem mem_int : ("int" ∈ ["bool", "int", "str", "list", "tuple", "dict"]) = True := eq_true (by decide)
theorem mem_bool : ("bool" ∈ ["bool", "int", "str", "list", "tuple", "dict"]) = True := eq_true (by decide)
theorem mem_str : ("str" ∈ ["bool", "int", "str", "list", "tuple", "dict"]) = True := eq_true (by decide)
theorem mem_list : ("list" ∈ ["bool", "int", "str", "list", "tuple", "dict"]) = True := eq_true (by decide)
theorem mem_tuple : ("tuple" ∈ ["bool", "int", "str", "list", "tuple", "dict"]) = True := eq_true (by decide)
theorem mem_dict : ("dict" ∈ ["bool", "int", "str", "list", "tuple", "dict"]) = True := eq_true (by decide)
theorem isi_NoneType_bool : isiB "NoneType" "bool" = false := by decide
theorem isi_NoneType_int : isiB "NoneType" "int" = false := by decide
theorem isi_NoneType_str : isiB "NoneType" "str" = false := by decide
theorem isi_NoneType_list : isiB "NoneType" "list" = false := by decide
theorem isi_NoneType_tuple : isiB "NoneType" "tuple" = false := by decide
theorem isi_NoneType_dict : isiB "NoneType" "dict" = false := by decide
theorem isi_bool_bool : isiB "bool" "bool" = true := by decide
theorem isi_bool_int : isiB "bool" "int" = true := by decide
theorem isi_bool_str : isiB "bool" "str" = false := by decide
theorem isi_bool_list : isiB "bool" "list" = false := by decide
theorem isi_bool_tuple : isiB "bool" "tuple" = false := by decide
theorem isi_bool_dict : isiB "bool" "dict" = false := by decide
theorem isi_int_bool : isiB "int" "bool" = false := by decide
theorem isi_int_int : isiB "int" "int" = true := by decide
theorem isi_int_str : isiB "int" "str" = false := by decide
theorem isi_int_list : isiB "int" "list" = false := by decide
theorem isi_int_tuple : isiB "int" "tuple" = false := by decide
theorem isi_int_dict : isiB "int" "dict" = false := by decide
theorem isi_str_bool : isiB "str" "bool" = false := by decide
theorem isi_str_int : isiB "str" "int" = false := by decide
theorem isi_str_str : isiB "str" "str" = true := by decide
theorem isi_str_list : isiB "str" "list" = false := by decide
theorem isi_str_tuple : isiB "str" "tuple" = false := by decide
theorem isi_str_dict : isiB "str" "dict" = false := by decide
theorem isi_list_bool : isiB "list" "bool" = false := by decide
theorem isi_list_int : isiB "list" "int" = false := by decide
theorem isi_list_str : isiB "list" "str" = false := by decide
theorem isi_list_list : isiB "list" "list" = true := by decide
theorem isi_list_tuple : isiB "list" "tuple" = false := by decide
theorem isi_list_dict : isiB "list" "dict" = false := by decide
theorem isi_tuple_bool : isiB "tuple" "bool" = false := by decide
theorem isi_tuple_int : isiB "tuple" "int" = false := by decide
theorem isi_tuple_str : isiB "tuple" "str" = false := by decide
theorem isi_tuple_list : isiB "tuple" "list" = false := by decide
theorem isi_tuple_tuple : isiB "tuple" "tuple" = true := by decide
theorem isi_tuple_dict : isiB "tuple" "dict" = false := by decide
theorem isi_dict_bool : isiB "dict" "bool" = false := by decide
theorem isi_dict_int : isiB "dict" "int" = false := by decide
theorem isi_dict_str : isiB "dict" "str" = false := by decide
theorem isi_dict_list : isiB "dict" "list" = false := by decide
theorem isi_dict_tuple : isiB "dict" "tuple" = false := by decide
theorem isi_dict_dict : isiB "dict" "dict" = true := by decide
theorem comp_map {J : It} {n : Nat} {yl : Nat → V → Prop} {ok : Hp → Prop} {own : List Str} {cap : List Nat} {g : TG} {tt : TT} {te : TE} {σ : St} {H : Hp} {Q : VK} (G : Goes J n yl ok) (hn : n ≤ sizeLine) (hok : ∀ H', Same H H' → ok H') (ys : List V) (hl : ys.length = n)
    (hs : ∀ i x H', i < n → yl i x → Same H H' → ∀ (N : V → Hp → Prop) (M : Hp → Prop), (∀ y H4, Same H H4 → ys[i]? = some y → N y H4) → g x (cpSt own cap σ) H' fun σ2 H2 => tt σ2 H2 fun b H3 => if b = true then te σ2 H3 N else M H3)
    (hd : ∀ H', Same H H' → ∀ p, H' p = none → Q (.ref p) (upd H' p (.lst ys))) : CompW J own cap g tt te σ H Q := by
  refine comp_goes G hn (fun i acc H' => Same H H' ∧ acc = ys.take i) ⟨Same.refl H, by simp⟩ (fun i acc H' _ h => hok H' h.1) (fun i acc H' h => by rw [h.2, List.length_take]; omega) (fun i x acc H' hi hx h => ?_) (fun acc H' h p hp => ?_)
  · obtain ⟨s', rfl⟩ := h
    refine hs i x H' hi hx s' _ _ fun y H4 s4 hy => ⟨s4, ?_⟩
    rw [List.take_add_one, hy]
    rfl
  · obtain ⟨s', e⟩ := h
    rw [e, List.take_of_length_le (by omega)]
    exact hd H' s' p hp
theorem for_w {J : It} {n : Nat} {yl : Nat → V → Prop} {ok : Hp → Prop} {g : TG} {tb : TS} {D : Ends} {σ : St} {H : Hp} (G : Goes J n yl ok) (Pv : Nat → St → Hp → Prop) (h0 : Pv 0 σ H) (hok : ∀ i σ H, i ≤ n → Pv i σ H → ok H)
    (hs : ∀ i x σ H, i < n → yl i x → Pv i σ H → g x σ H fun σ2 H2 => tb { D with nx := Pv (i + 1), ct := Pv (i + 1), bk := D.nx } σ2 H2) (hd : ∀ σ H, Pv n σ H → D.nx σ H) : ForW J g tb D σ H := for_goes G Pv h0 hok hs hd
theorem StOk.upd {H : Hp} {st l : Addr} {o : HO} (h : StOk H st) (n : st ≠ l) : StOk (upd H l o) st := let ⟨ns, hn, e⟩ := h; ⟨ns, hn, by rw [upd_ne n]; exact e⟩
theorem StOk.ne {H : Hp} {st l : Addr} (h : StOk H st) (n : H l = none) : st ≠ l := let ⟨_, _, e⟩ := h; ne_of_none e n
theorem StOk.neT {H : Hp} {st l : Addr} {xs : List V} (h : StOk H st) (n : H l = some (.tup xs)) : l ≠ st := by
  obtain ⟨_, _, e⟩ := h
  exact ne_of n e (fun z => by cases z)
theorem But.upd {H H1 : Hp} {st l : Addr} {o : HO} (h : But st H H1) (hl : H l = none) : But st H (L2.upd H1 l o) := fun b u n e => by rw [upd_ne (ne_of_none e hl)]; exact h b u n e
theorem But.new {H H1 : Hp} {st l : Addr} {o : HO} (h : But st H H1) (hl : H1 l = none) : But st H (L2.upd H1 l o) := h.trans (but_upd hl)
theorem But.same {H H1 H2 : Hp} {st : Addr} (h : But st H H1) (s : Same H1 H2) : But st H H2 := h.trans (same_but s)
theorem But.none {H H1 : Hp} {st l : Addr} (h : But st H H1) (n : l ≠ st) (hl : H1 l = none) : H l = none := by
  cases e : H l with
  | none => rfl
  | some o => rw [h l o n e] at hl; cases hl
theorem line1000 {n : Nat} (h : n ≤ 1000) : n ≤ sizeLine := Nat.le_trans h (by decide)
end NP
set_option Elab.async false
set_option linter.all false
set_option maxRecDepth 100000
namespace L2
open PySem PySem.Spec PyProof.Rows
def noStar : List Expr → Bool
  | [] => true
  | .Starred .. :: _ => false
  | _ :: r => noStar r
theorem starEach_of {env : Env} : ∀ {es : List Expr}, noStar es = true → starEach es env = es.map fun e => (false, eval e env)
  | [], _ => rfl
  | e :: r, h => by
    cases e <;> first
      | (exact absurd h Bool.false_ne_true)
      | (rw [List.map_cons, ← starEach_of (env := env) (es := r) h]; rfl)
theorem starEach_cons {env : Env} {e : Expr} {es : List Expr} (h : noStar [e] = true) : starEach (e :: es) env = (false, eval e env) :: starEach es env := by
  cases e <;> first
    | (exact absurd h Bool.false_ne_true)
    | rfl
theorem noStar_cons {e : Expr} {es : List Expr} (h : noStar (e :: es) = true) : noStar [e] = true ∧ noStar es = true := by
  cases e <;> first
    | (exact absurd h Bool.false_ne_true)
    | exact ⟨rfl, h⟩
theorem backTo_any {env : Env} {pos : Pos} {es : List Expr} (h : noStar es = true) : (backTo pos (starEach es env)).any (·.1) = false := by
  rw [starEach_of h]
  unfold backTo
  rw [List.map_map, List.any_map]
  induction es with
  | nil => rfl
  | cons e r ih =>
    rw [List.any_cons]
    exact ih (noStar_cons h).2
theorem backTo_all {env : Env} {pos : Pos} {es : List Expr} (h : noStar es = true) : (backTo pos (starEach es env)).all (fun x => !x.1) = true := by
  rw [starEach_of h]
  unfold backTo
  rw [List.map_map, List.all_map]
  induction es with
  | nil => rfl
  | cons e r ih =>
    rw [List.all_cons]
    exact ih (noStar_cons h).2
section
variable {X : Cx} {x : Str} {p pos apos cpos : Pos} {e o tg : Expr} {es : List Expr} {te to : TE} {t : TA} {id T : String} {r : List V → Hp → VK → Prop} {rm : V → List V → Hp → VK → Prop} {k : Nat} {ps : List Str} {sp : Sp} {name : Str}
theorem pa_e (ha : PE X e te) (hr : PA X es t) (hn : noStar [e] = true := by rfl) : PA X (e :: es) (tCons te t) := pa_cons ha hr (starEach_cons hn)
theorem pe_callS (h : Has X.prog X.w X.K X.mg X.base x k ps sp) (hr : Room k X.A) (hg : Gl X x) (ha : PA X (e :: es) t) (hn : noStar (e :: es) = true := by rfl) (hdb : (x == ("__debug__" : Str)) = false := by decide) :
    PE X (.Call (.Name x p) (e :: es) [] pos) (tCall sp [] E0 t) := pe_callH h hr hg ha hdb (starEach_cons (noStar_cons hn).1) (backTo_any (noStar_cons hn).2)
theorem pe_callBS (hc : CallR X (.builtin id) r) (hg : Gl X x) (hm : X.mg x = none) (hv : bootBuiltins x = some (.builtin id)) (ha : PA X (e :: es) t) (hn : noStar (e :: es) = true := by rfl) (hnm : x ≠ "__name__" := by decide) (hdb : (x == ("__debug__" : Str)) = false := by decide) :
    PE X (.Call (.Name x p) (e :: es) [] pos) (tCB r t) := pe_callB hc hg hm hv ha hnm hdb (starEach_cons (noStar_cons hn).1) (backTo_any (noStar_cons hn).2)
theorem pe_callTS (hc : CallR X (.type T) r) (hg : Gl X x) (hm : X.mg x = none) (hv : bootBuiltins x = some (.type T)) (ha : PA X (e :: es) t) (hn : noStar (e :: es) = true := by rfl) (hnm : x ≠ "__name__" := by decide) (hdb : (x == ("__debug__" : Str)) = false := by decide) :
    PE X (.Call (.Name x p) (e :: es) [] pos) (tCB r t) := pe_callTy hc hg hm hv ha hnm hdb (starEach_cons (noStar_cons hn).1) (backTo_any (noStar_cons hn).2)
theorem pe_bs (pa : PlainAttrs T) (slot : Slot T name id) (hty : typeOf (.builtin id) = pure (.type "method_descriptor")) (hm : MtR X id rm) (ho : PE X o to) (ha : PA X (e :: es) t) (hT : T = "list" ∨ T = "dict" ∨ T = "str" := by decide)
    (hbase : attributeBase o name X.env (eval o X.env) = eval o X.env := by rfl) (hn : noStar (e :: es) = true := by rfl) (hlen : (e :: es).length < 20 := by decide) (hline : (apos.endLine == cpos.line) = true := by rfl) :
    PE X (.Call (.Attribute o name apos) (e :: es) [] cpos) (tBA T rm to t) := by
  refine pe_ba pa slot hty hm ho ha hT hbase ?_ hline (starEach_cons (noStar_cons hn).1) (backTo_any (noStar_cons hn).2)
  rw [backTo_all hn, Bool.true_and]
  have e1 : (backToKw cpos (keywordEach [] X.env)).all (fun x => x.1.isSome) = true := rfl
  rw [e1, Bool.true_and]
  refine decide_eq_true ?_
  show (e :: es).length + 0 + 0 < 30
  omega
theorem pi_rangeS1 {ta : TA} (hg : Gl X "range") (hm : X.mg "range" = none) (ha : PA X [e] ta) (hn : noStar [e] = true := by rfl) : PI X tg (.Call (.Name "range" p) [e] [] pos) (iRng1 ta) := pi_range1 hg hm ha (starEach_of hn)
end
end L2
set_option Elab.async false
set_option linter.all false
set_option maxRecDepth 100000
namespace L2
open PySem PySem.Spec PyProof.Rows
mutual
def RD (H : Hp) : PyData → V → Prop
  | .none, v => v = .non
  | .bool b, v => v = .bl b
  | .int i, v => v = .int i
  | .str x, v => v = .str x
  | .list ds, v => ∃ a xs, v = .ref a ∧ H a = some (.lst xs) ∧ RDs H ds xs
  | .tuple ds, v => ∃ a xs, v = .ref a ∧ H a = some (.tup xs) ∧ RDs H ds xs
  | .dict _, _ => False
def RDs (H : Hp) : List PyData → List V → Prop
  | [], xs => xs = []
  | d :: ds, xs => ∃ x r, xs = x :: r ∧ RD H d x ∧ RDs H ds r
end
mutual
theorem RD.reads {P : Program} {w : World} {H : Hp} {h : Heap} (ok : HOk P w H h) : ∀ (d : PyData) (v : V) (u : Value), RD H d v → RelV v u → ∃ as, Reads h u d as
  | .none, v, u, r, e => by
    rw [RD] at r; subst r; cases e; exact ⟨_, .none⟩
  | .bool b, v, u, r, e => by
    rw [RD] at r; subst r; cases e; exact ⟨_, .bool b⟩
  | .int i, v, u, r, e => by
    rw [RD] at r; subst r; obtain ⟨t, rfl⟩ := e; exact ⟨_, .int i t⟩
  | .str x, v, u, r, e => by
    rw [RD] at r; subst r; obtain ⟨t, rfl⟩ := e; exact ⟨_, .str x t⟩
  | .list ds, v, u, r, e => by
    rw [RD] at r
    obtain ⟨a, xs, rfl, ha, r⟩ := r
    cases e
    obtain ⟨hz, its, n, rv, eo⟩ := ok a _ ha
    obtain ⟨as, q⟩ := RDs.reads ok ds xs its r rv
    exact ⟨_, .list (vs := its.toArray) eo rfl rfl q⟩
  | .tuple ds, v, u, r, e => by
    rw [RD] at r
    obtain ⟨a, xs, rfl, ha, r⟩ := r
    cases e
    obtain ⟨hz, its, rv, o, ho, hc, n, hd⟩ := ok a _ ha
    obtain ⟨as, q⟩ := RDs.reads ok ds xs its r rv
    exact ⟨_, .tuple (vs := its.toArray) ho hc hd q⟩
  | .dict _, v, u, r, e => by
    rw [RD] at r; exact r.elim
theorem RDs.reads {P : Program} {w : World} {H : Hp} {h : Heap} (ok : HOk P w H h) : ∀ (ds : List PyData) (xs : List V) (us : List Value), RDs H ds xs → Vals xs us → ∃ as, ReadsAll h us ds as
  | [], xs, us, r, e => by
    rw [RDs] at r; subst r; cases e; exact ⟨_, .nil⟩
  | d :: ds, xs, us, r, e => by
    rw [RDs] at r
    obtain ⟨x, r', rfl, h1, h2⟩ := r
    cases e with
    | cons r1 r2 =>
      obtain ⟨as, q1⟩ := RD.reads ok d x _ h1 r1
      obtain ⟨bs, q2⟩ := RDs.reads ok ds r' _ h2 r2
      exact ⟨_, .cons q1 q2⟩
end
def okD (d : PyData) : Bool := d.canLay0 && decide (d.depth ≤ 50)
def rEqD : R2 := fun x y H Q => ∃ d e, RD H d x ∧ RD H e y ∧ okD d = true ∧ okD e = true ∧ Q (.bl (PyData.eqv d e)) H
def rNeD : R2 := fun x y H Q => ∃ d e, RD H d x ∧ RD H e y ∧ okD d = true ∧ okD e = true ∧ Q (.bl (!PyData.eqv d e)) H
theorem okD_room {A : Around} {d e : PyData} (h : okD d = true) (hu : A.units + 64 < cLine) : A.units + min d.depth e.depth < cLine := by
  have h1 : d.depth ≤ 50 := of_decide_eq_true (Bool.and_eq_true_iff.mp h).2
  have h2 : min d.depth e.depth ≤ d.depth := Nat.min_le_left _ _
  omega
section
variable {X : Cx}
theorem op_eqD (hu : X.A.units + 64 < cLine) : OpR X (compareOp .Eq) rEqD := by
  intro pins s σ H x y v u Q I rx ry h
  obtain ⟨d, e, rd, re, hd, he, q⟩ := h
  obtain ⟨as, r1⟩ := RD.reads I.hok d x v rd rx
  obtain ⟨bs, r2⟩ := RD.reads I.hok e y u re ry
  exact SeqAt.compareEq_reads r1 r2 (Bool.and_eq_true_iff.mp hd).1 (Bool.and_eq_true_iff.mp he).1 (okD_room hd hu) ⟨.bl _, H, I, rfl, q⟩
theorem op_neD (hu : X.A.units + 64 < cLine) : OpR X (compareOp .NotEq) rNeD := by
  intro pins s σ H x y v u Q I rx ry h
  obtain ⟨d, e, rd, re, hd, he, q⟩ := h
  obtain ⟨as, r1⟩ := RD.reads I.hok d x v rd rx
  obtain ⟨bs, r2⟩ := RD.reads I.hok e y u re ry
  exact SeqAt.compareNe_reads r1 r2 (Bool.and_eq_true_iff.mp hd).1 (Bool.and_eq_true_iff.mp he).1 (okD_room hd hu) ⟨.bl _, H, I, rfl, q⟩
end
theorem hu64_of {A : Around} {k : Nat} (hr : Room k A) : A.units + 64 < cLine := by
  have := hr.un
  omega
section
variable {X : Cx} {pins : List (Addr × Obj)} {σ : St} {H : Hp} {s : Shared} {h' : Heap}
end
def ItE (a : Addr) (xs : List V) : It := ⟨fun i H => H a = some (.lst xs) ∧ i < xs.length, fun i H x H' => ∃ p y, x = .ref p ∧ H p = none ∧ xs[i]? = some y ∧ H' = upd H p (.tup [.int i, y]), fun i H => H a = some (.lst xs) ∧ i = xs.length⟩
section
variable {X : Cx}
def iEnum (ta : TA) : TI := fun σ H R => ta σ H fun vs H1 => ∃ a xs, vs = [.ref a] ∧ H1 a = some (.lst xs) ∧ R (ItE a xs) H1
end
end L2
set_option Elab.async false
set_option linter.all false
set_option maxRecDepth 100000
namespace L2
open PySem PySem.Spec PyProof.Rows
theorem vals_int : ∀ {ns : List Int} {us : List Value} {i : Nat} {u : Value}, Vals (ns.map V.int) us → us[i]? = some u → ∃ t, u = .int ((ns[i]?).getD 0) t
  | [], _, i, u, .nil, e => by simp at e
  | n :: r, _, 0, u, .cons h t, e => by
    obtain ⟨t', h⟩ := h
    simp at e
    subst e
    exact ⟨t', by rw [h]; rfl⟩
  | n :: r, _, i + 1, u, .cons h t, e => by
    obtain ⟨t', q⟩ := vals_int (ns := r) (i := i) (u := u) t (by simpa using e)
    exact ⟨t', by rw [q]; simp⟩
section
variable {X : Cx}
def rSum : List V → Hp → VK → Prop := fun xs H Q => ∃ (a : Addr) (ns : List Int), xs = [.ref a] ∧ H a = some (.lst (ns.map V.int)) ∧ Q (.int ns.sum) H
def rInsert : V → List V → Hp → VK → Prop := fun x vs H Q => ∃ l xs i y, x = .ref l ∧ vs = [.int i, y] ∧ H l = some (.lst xs) ∧ 0 ≤ i ∧ i < 2 ^ 60 ∧ xs.length < 1000000 ∧ Q .non (upd H l (.lst (xs.take (min i.toNat xs.length) ++ y :: xs.drop (min i.toNat xs.length))))
theorem mt_insert : MtM X "list.insert" rInsert := by
  intro pins s σ H x vs v us Q I rx rv h
  obtain ⟨l, xs, i, y, rfl, rfl, hH, h1, h2, hz, q⟩ := h
  cases rx
  obtain ⟨u, u2, rfl, ru, ru2⟩ := rv.two
  obtain ⟨t, rfl⟩ := ru
  obtain ⟨z, its, n, r, hl, e⟩ := I.lstM hH
  have hline : (1000000 : Nat) + 1 ≤ sizeLine := by rw [sizeLine_eq]; decide
  refine call_meets F.slot_list_insert ⟨_, e, rfl⟩ F.entry_list_insert (F.args_list_insert_3 _ _ _) (AutoListH.list_insert_list_int_val_1 l its.toArray n i t u2 ?_ (by rw [List.size_toArray]; omega)) ⟨e, ?_⟩
  · rw [fitsIndex_both (by omega) (by omega)]
    decide
  · refine ⟨.non, _, I.lset (its' := its.take (min i.toNat xs.length) ++ u2 :: its.drop (min i.toNat xs.length)) hH e ?_ ((r.take _).append (.cons ru2 (r.drop _))) ?_, rfl, q⟩
    · have hi : ¬ i < 0 := by omega
      simp only [hi, if_false, List.size_toArray, ← hl]
      apply Array.toList_inj.mp
      simp [hl]
      rw [List.take_of_length_le (by rw [List.length_drop]; exact Nat.le_refl _)]
    · simp
      omega
def rMax2 : List V → Hp → VK → Prop := fun xs H Q => ∃ i j, xs = [.int i, .int j] ∧ Q (.int (if j > i then j else i)) H
theorem call_maxA (hc : X.calm = true) : CallR X (.builtin "max") rMax2 := call_max2 hc
end
end L2
namespace L2
open PySem PySem.Spec PyProof.Rows
theorem sIx_nn {n d : Nat} {k : Int} (h : 0 ≤ k) : HT.sIx n d (some k) = min k.toNat n := by
  unfold HT.sIx
  simp only
  split <;> omega
theorem cutV_to {xs : List V} {j : Int} (hj : 0 ≤ j) : cutV xs none (some j) = xs.take j.toNat := by
  unfold cutV
  rw [sIx_nn hj]
  have e : HT.sIx xs.length 0 none = 0 := rfl
  rw [e, List.drop_zero, Nat.sub_zero]
  apply List.ext_getElem?
  intro k
  simp only [List.getElem?_take]
  by_cases h : k < xs.length
  · by_cases h2 : k < j.toNat
    · rw [if_pos (by omega), if_pos h2]
    · rw [if_neg (by omega), if_neg h2]
  · rw [List.getElem?_eq_none (by omega)]
    split <;> split <;> rfl
def CMulB (i j : Int) : Prop := CMul i j ∨ (i.natAbs < 10 ^ 3000 ∧ j.natAbs < 10 ^ 3000)
theorem bits_of {i : Int} (h : i.natAbs < 10 ^ 3000) : Builtin.Int.intBits i ≤ 2 ^ 20 := by
  unfold Builtin.Int.intBits
  split
  · exact Nat.zero_le _
  · rename_i h0
    have h1 : i.natAbs ≠ 0 := by
      intro e
      exact h0 (by simpa using e)
    have h2 : i.natAbs.log2 < 2 ^ 19 := by
      rw [Nat.log2_lt h1]
      refine Nat.lt_of_lt_of_le h (Nat.le_trans (Nat.pow_le_pow_left (by decide : (10 : Nat) ≤ 2 ^ 4) 3000) ?_)
      rw [← Nat.pow_mul]
      exact Nat.pow_le_pow_right (by decide) (by decide)
    have : (2 : Nat) ^ 20 = 2 ^ 19 + 2 ^ 19 := by decide
    have : (1 : Nat) ≤ 2 ^ 19 := by decide
    omega
theorem CMulB.ok {i j : Int} (h : CMulB i j) : IntMulOk i j := h.elim CMul.ok fun h => .of_bits (bits_of h.1) (bits_of h.2)
section
variable {X : Cx}
theorem op_mulB : OpR X (binaryOp .Mult) (rI CMulB fun i j => .int (i * j)) := opI fun _ _ _ _ _ _ _ hc q => mul_int q hc.ok
end
end L2
set_option Elab.async false
set_option linter.all false
set_option maxRecDepth 100000
namespace L2
open PySem PySem.Spec PyProof.Rows
def ItZ2 (a b : Addr) (xs ys : List V) : It := ⟨fun i H => H a = some (.lst xs) ∧ H b = some (.lst ys) ∧ i < min xs.length ys.length,
  fun i H x H' => ∃ p y z, x = .ref p ∧ H p = none ∧ xs[i]? = some y ∧ ys[i]? = some z ∧ H' = upd H p (.tup [y, z]), fun i H => H a = some (.lst xs) ∧ H b = some (.lst ys) ∧ i = min xs.length ys.length⟩
section
variable {X : Cx}
def iZip2 (ta : TA) : TI := fun σ H R => ta σ H fun vs H1 => ∃ a b xs ys, vs = [.ref a, .ref b] ∧ H1 a = some (.lst xs) ∧ H1 b = some (.lst ys) ∧ R (ItZ2 a b xs ys) H1
end
end L2
set_option Elab.async false
set_option linter.all false
set_option maxRecDepth 100000
namespace L2
open PySem PySem.Spec PyProof.Rows
section
variable {prog : Program} {w : World} {A : Around} {E : Value → Shared → Prop} {s : Shared}
end
end L2
set_option Elab.async false
set_option linter.all false
set_option maxRecDepth 100000
namespace L2
open PySem PySem.Spec PyProof.Rows
section
variable {prog : Program} {w : World} {A : Around} {E : Value → Shared → Prop} {s : Shared}
end
def ItZ3 (a b c : Addr) (xs ys zs : List V) : It := ⟨fun i H => (H a = some (.lst xs) ∧ H b = some (.lst ys) ∧ H c = some (.lst zs)) ∧ i < min xs.length (min ys.length zs.length),
  fun i H x H' => ∃ p y z v, x = .ref p ∧ H p = none ∧ xs[i]? = some y ∧ ys[i]? = some z ∧ zs[i]? = some v ∧ H' = upd H p (.tup [y, z, v]), fun i H => (H a = some (.lst xs) ∧ H b = some (.lst ys) ∧ H c = some (.lst zs)) ∧ i = min xs.length (min ys.length zs.length)⟩
section
variable {X : Cx}
def iZip3 (ta : TA) : TI := fun σ H R => ta σ H fun vs H1 => ∃ a b c xs ys zs, vs = [.ref a, .ref b, .ref c] ∧ H1 a = some (.lst xs) ∧ H1 b = some (.lst ys) ∧ H1 c = some (.lst zs) ∧ R (ItZ3 a b c xs ys zs) H1
end
end L2
set_option Elab.async false
set_option linter.all false
set_option maxRecDepth 100000
namespace L2
open PySem PySem.Spec PyProof.Rows
theorem cut1 {t u : TS} {D : Ends} {σ : St} {H : Hp} (M : St → Hp → Prop) (hrest : ∀ σ' H', M σ' H' → u D σ' H') (h : ∀ KK : St → Hp → Prop, (∀ σ' H', M σ' H' → KK σ' H') → t { D with nx := KK } σ H) : tSeq t u D σ H := h (u D) hrest
theorem cut2 {t t2 u : TS} {D : Ends} {σ : St} {H : Hp} (M : St → Hp → Prop) (hrest : ∀ σ' H', M σ' H' → u D σ' H') (h : ∀ KK : St → Hp → Prop, (∀ σ' H', M σ' H' → KK σ' H') → t { D with nx := fun σ H => t2 { D with nx := KK } σ H } σ H) : tSeq t (tSeq t2 u) D σ H := h (u D) hrest
theorem ty_lst {H : Hp} {a : Addr} {xs : List V} (h : H a = some (.lst xs)) : tyOf H (.ref a) = some "list" := by unfold tyOf; simp only [h]
end L2
namespace L2
open PySem PySem.Spec PyProof.Rows
theorem gt2 {K : PySem.W.Frag} {i j : Nat} {p : Addr} {x y : V} {σ : St} {H : Hp} {Q : St → Hp → Prop} (e : H p = some (.tup [x, y])) (h : Q ((σ.set i (some x)).set j (some y)) H) : gTup K 2 (gCons (gName i) (gCons (gName j) gNil)) (.ref p) σ H Q :=
  ⟨p, _, rfl, SqT.of e, rfl, _, _, rfl, _, _, rfl, rfl, h⟩
end L2
set_option Elab.async false
set_option linter.all false
set_option maxRecDepth 100000
namespace L2
open PySem PySem.Spec PyProof.Rows
section
variable {X : Cx} {pins : List (Addr × Obj)} {σ : St} {H : Hp} {s : Shared}
theorem Inv.freeze {a : Addr} {kvs : List (Key × V)} (I : Inv X pins σ H s) (h : H a = some (.dK kvs)) : ∃ o, s.heap.get? a = some o ∧ Inv X pins σ (upd H a (.frz o (.dK kvs))) s := by
  obtain ⟨hz, hS, vs, r, o, es, ep, ho, rest⟩ := I.hok a _ h
  have ne : ∀ b u, H b = some u → u ≠ .dK kvs → b ≠ a := fun b u e n z => by rw [z, h] at e; exact n (Option.some.inj e).symm
  refine ⟨o, ho, I.un (t' := s.toks) ⟨fun b ob e n _ _ => e, fun b ob e n _ _ => ⟨ob.slots, e⟩, fun b ob e n _ => ?_, fun b ob e _ => ⟨ob, e⟩, fun b xs e => ?_, fun b ob u e => ?_, fun b ps e => ⟨#[], ?_⟩⟩ fun b u e => ?_⟩
  · rw [upd_ne (fun z => by rw [z, h] at n; cases n)]; exact n
  · rw [upd_ne (ne b _ e (fun z => by cases z))]; exact e
  · rw [upd_ne (ne b _ e (fun z => by cases z))]; exact e
  · rw [upd_ne (ne b _ e (fun z => by cases z)), e]; simp
  · by_cases hb : b = a
    · subst hb
      rw [upd_same] at e
      cases e
      exact ⟨ho, hz, hS, vs, r, o, es, ep, ho, rest⟩
    · rw [upd_ne hb] at e
      refine (I.hok b u e).stay (fun _ _ _ q => q) (fun c q => ?_) fun c ys q => ?_
      · rw [upd_ne (ne c _ q (fun z => by cases z))]; exact q
      · rw [upd_ne (ne c _ q (fun z => by cases z))]; exact q
end
def ItD (a : Addr) (o : Obj) (kvs : List (Key × V)) : It := ⟨fun i H => H a = some (.frz o (.dK kvs)) ∧ i < kvs.length, fun i H x H' => H' = H ∧ ∃ k v, kvs[i]? = some (k, v) ∧ x = kV k, fun i H => H a = some (.frz o (.dK kvs)) ∧ kvs.length ≤ i⟩
theorem goesD (a : Addr) (o : Obj) (kvs : List (Key × V)) : Goes (ItD a o kvs) kvs.length (fun i x => ∃ k v, kvs[i]? = some (k, v) ∧ x = kV k) (fun H => H a = some (.frz o (.dK kvs))) :=
  ⟨fun _ _ h o => ⟨o, h⟩, fun _ _ _ _ _ _ y => y, fun _ o => ⟨o, Nat.le_refl _⟩⟩
theorem kv_get {κ : Type} : ∀ {kvs : List (κ × V)} {vs : List (κ × Value)} {i : Nat} {k : κ} {v : V}, KV kvs vs → kvs[i]? = some (k, v) → ∃ u, vs[i]? = some (k, u)
  | _, _, _, _, _, .nil, e => by simp at e
  | _, (k', u') :: _, 0, k, v, .cons r _, e => by
    simp at e
    subst e
    exact ⟨u', by simp; exact r.1.symm⟩
  | _, _ :: _, i + 1, k, v, .cons _ t, e => by
    obtain ⟨u, h⟩ := kv_get (i := i) t (by simpa using e)
    exact ⟨u, by simpa using h⟩
theorem kV_of {P : Program} {w : World} {k : Key} {u : Value} (h : (mixKind P w).is k u = true) : RelV (kV k) u := by
  rcases keyIs_shape h with ⟨i, t, rfl, rfl⟩ | ⟨x, t, rfl, rfl⟩
  · exact ⟨t, rfl⟩
  · exact ⟨t, rfl⟩
theorem turn_dict {P : Program} {w : World} {K : PySem.W.Frag} {tg : Expr} (a it : Addr) (o : Obj) (kvs : List (Key × V)) (es : Array DictEntry) (ep : Nat) (hd : o.data = .dict es ep) :
    Turn P w K tg (ItD a o kvs) [it] it (fun i h => h.IsKeyIter it a i kvs.length ep) where
  mem := by simp
  obj := fun i h st b hb => by
    have e : b = it := by simpa using hb
    subst e
    obtain ⟨o, e, c, d⟩ := st
    exact ⟨o, e, fun v z => by rw [d] at z; cases z⟩
  keep := fun i h h' st k => st.at fun o e => k it (by simp) o e
  item := by
    intro X hP hw hK hc i pins s σ H E I hf st hg
    subst hP hw hK
    obtain ⟨hq, hlt⟩ := hg
    obtain ⟨ho, hz, hS, vs, rel, o', es', ep', ho', c', d', kk, pp, nn⟩ := I.hok a _ hq
    rw [ho] at ho'
    cases ho'
    rw [hd] at d'
    cases d'
    have hm : s.heap.DictAt (mixKind X.prog X.w) a vs ep := ⟨o, es, ho, c', hd, kk, pp, nn⟩
    obtain ⟨f0, f1, f2, f3, f4, f5⟩ := hf it (by simp)
    have hlen : kvs.length = vs.length := rel.length
    obtain ⟨u, hu⟩ := kv_get (k := kvs[i].1) (v := kvs[i].2) (i := i) rel (by simp [hlt])
    have st' : s.heap.IsKeyIter it a i vs.length ep := by rw [← hlen]; exact st
    refine wpAny_pyNext_dict_item st' hm hu fun key h' hk hit sb => ?_
    have I1 : Inv X pins σ H { s with heap := h' } := I.turned (t' := s.toks) (fun b o hb e => (sb.2 b hb).trans e) f0 f1 f3 f4 f5
    obtain ⟨oi, ei, ci, di⟩ := id hit
    refine ⟨key, rfl, go_of (s := { s with heap := h' }) ei ci di (by decide) ⟨kV kvs[i].1, H, I1, kV_of hk, ⟨rfl, kvs[i].1, kvs[i].2, by simp [hlt], rfl⟩, ?_, fun b hb => (hf b hb).1⟩⟩
    rw [hlen]
    exact hit
  done := by
    intro X hP hw hK hc i pins s σ H E I hf st hg
    subst hP hw hK
    obtain ⟨hq, hlt⟩ := hg
    obtain ⟨ho, hz, hS, vs, rel, o', es', ep', ho', c', d', kk, pp, nn⟩ := I.hok a _ hq
    rw [ho] at ho'
    cases ho'
    rw [hd] at d'
    cases d'
    have hm : s.heap.DictAt (mixKind X.prog X.w) a vs ep := ⟨o, es, ho, c', hd, kk, pp, nn⟩
    obtain ⟨f0, f1, f2, f3, f4, f5⟩ := hf it (by simp)
    have hlen : kvs.length = vs.length := rel.length
    have st' : s.heap.IsKeyIter it a i vs.length ep := by rw [← hlen]; exact st
    exact wpAny_pyNext_dict_end (I.ok.hd hc) st' hm (by simp; omega) fun h' eb => ⟨rfl, I.turned (t' := s.toks) (fun b o hb e => eb b o hb e) f0 f1 f3 f4 f5⟩
  self := fun _ _ _ _ _ st h => wpAny_pyIter_keyiter st h
section
variable {X : Cx}
def iDct (te : TE) : TI := fun σ H R => te σ H fun x H1 => ∃ a kvs, x = .ref a ∧ H1 a = some (.dK kvs) ∧ ∀ o, R (ItD a o kvs) (upd H1 a (.frz o (.dK kvs)))
theorem pi_dct {tg l : Expr} {te : TE} (hl : PE X l te) : PI X tg l (iDct te) := by
  intro pins s σ H R I h
  refine thn (hl pins s σ H _ I h) fun v s1 ⟨x, H1, I1, r1, q1⟩ => ?_
  obtain ⟨a, kvs, e, ha, q⟩ := q1
  subst e
  cases r1
  obtain ⟨o, ho, I2⟩ := I1.freeze ha
  obtain ⟨hz, hS, vs, rel, o', es, ep, ho', c', d', kk, pp, nn⟩ := I1.hok a _ ha
  rw [ho] at ho'
  cases ho'
  have hm : s1.heap.DictAt (mixKind X.prog X.w) a vs ep := ⟨o, es, ho, c', d', kk, pp, nn⟩
  have hlen : kvs.length = vs.length := rel.length
  refine wpAny_pyIter_dict hS hm ?_
  refine ⟨s1.heap.objs.size, [s1.heap.objs.size], _, _, _, rfl, I2.kept (t' := s1.toks) fun b o e => Heap.get?_push_of_some _ e, turn_dict a _ o kvs es ep d', ?_, fun b hb => ?_, q o⟩
  · rw [hlen]
    exact ⟨_, Heap.get?_push_size _ rfl, rfl, rfl⟩
  · have e : b = s1.heap.objs.size := by simpa using hb
    subst e
    exact I2.fpOk (Nat.le_refl _) (I2.hok.fresh (Nat.le_refl _))
def tTruL (ta : TE) : TT := fun σ H Q => ta σ H fun x H' => ∃ a xs, x = .ref a ∧ H' a = some (.lst xs) ∧ Q (!xs.isEmpty) H'
def tTruD (ta : TE) : TT := fun σ H Q => ta σ H fun x H' => ∃ a kvs, x = .ref a ∧ H' a = some (.dK kvs) ∧ Q (!kvs.isEmpty) H'
theorem PE.wk {e : Expr} {t : TE} (h : PE X e t) {pins : List (Addr × Obj)} {s : Shared} {σ : St} {H : Hp} {Q : VK} (I : Inv X pins σ H s) (q : t σ H Q) : wpAny (model X.prog X.w) X.A (eval e X.env) (EP X pins σ Q) X.xe s := h pins s σ H Q I q
theorem pt_truL {a : Expr} {ta : TE} (ha : PE X a ta) (he : ∀ whole, isTrue a X.env whole = (do let v ← whole; standAt a.pos; holding [v] (truthy v)) := by intro _; rfl) : PT X a (tTruL ta) := by
  intro pins s σ H Q I h
  refine isTrue_plain (thn (ha pins s σ H _ I h) fun v s1 ⟨x, H1, I1, r1, q1⟩ => ?_) (he _)
  obtain ⟨a, xs, e, hx, q⟩ := q1
  exact tru_ok pins s1 σ H1 x v Q I1 r1 ⟨_, by subst e; exact .inl ⟨xs, SqL.of hx, rfl⟩, q⟩
theorem pt_truD {a : Expr} {ta : TE} (ha : PE X a ta) (he : ∀ whole, isTrue a X.env whole = (do let v ← whole; standAt a.pos; holding [v] (truthy v)) := by intro _; rfl) : PT X a (tTruD ta) := by
  intro pins s σ H Q I h
  refine isTrue_plain (thn (ha pins s σ H _ I h) fun v s1 ⟨x, H1, I1, r1, q1⟩ => ?_) (he _)
  obtain ⟨a, xs, e, hx, q⟩ := q1
  exact tru_ok pins s1 σ H1 x v Q I1 r1 ⟨_, by subst e; exact .inr (.inr ⟨xs, hx, rfl⟩), q⟩
end
mutual
def noLst : PyData → Bool
  | .none | .bool _ | .int _ | .str _ => true
  | .list _ => false
  | .tuple ds => noLsts ds
  | .dict _ => false
def noLsts : List PyData → Bool
  | [] => true
  | d :: ds => noLst d && noLsts ds
end
def KeepU (H H' : Hp) : Prop := ∀ a xs, H a = some (.tup xs) → H' a = some (.tup xs)
theorem KeepU.refl (H : Hp) : KeepU H H := fun _ _ h => h
theorem KeepU.trans {H H1 H2 : Hp} (a : KeepU H H1) (b : KeepU H1 H2) : KeepU H H2 := fun c xs h => b c xs (a c xs h)
theorem Same.ku {H H' : Hp} (s : Same H H') : KeepU H H' := fun a xs h => s a _ h
theorem ku_new {H : Hp} {p : Addr} {o : HO} (h : H p = none) : KeepU H (upd H p o) := fun a xs e => by rw [upd_ne (ne_of_none e h)]; exact e
theorem ku_set {H : Hp} {p : Addr} {o u : HO} (h : H p = some u) (n : ∀ xs, u ≠ .tup xs) : KeepU H (upd H p o) := fun a xs e => by
  rw [upd_ne (fun z => by rw [z, h] at e; exact n xs (Option.some.inj e))]; exact e
mutual
theorem RD.ku {H H' : Hp} (k : KeepU H H') : ∀ (d : PyData) (v : V), noLst d = true → RD H d v → RD H' d v
  | .none, v, _, h => by rw [RD] at h ⊢; exact h
  | .bool b, v, _, h => by rw [RD] at h ⊢; exact h
  | .int i, v, _, h => by rw [RD] at h ⊢; exact h
  | .str x, v, _, h => by rw [RD] at h ⊢; exact h
  | .list ds, v, n, h => by rw [noLst] at n; cases n
  | .tuple ds, v, n, h => by
    rw [noLst] at n
    rw [RD] at h ⊢
    obtain ⟨a, xs, e, ha, r⟩ := h
    exact ⟨a, xs, e, k a xs ha, RDs.ku k ds xs n r⟩
  | .dict _, v, n, h => by rw [noLst] at n; cases n
theorem RDs.ku {H H' : Hp} (k : KeepU H H') : ∀ (ds : List PyData) (xs : List V), noLsts ds = true → RDs H ds xs → RDs H' ds xs
  | [], xs, _, h => by rw [RDs] at h ⊢; exact h
  | d :: ds, xs, n, h => by
    rw [noLsts, Bool.and_eq_true] at n
    rw [RDs] at h ⊢
    obtain ⟨x, r, e, h1, h2⟩ := h
    exact ⟨x, r, e, RD.ku k d x n.1 h1, RDs.ku k ds r n.2 h2⟩
end
mutual
theorem RD.same {H H' : Hp} (k : Same H H') : ∀ (d : PyData) (v : V), RD H d v → RD H' d v
  | .none, v, h => by rw [RD] at h ⊢; exact h
  | .bool b, v, h => by rw [RD] at h ⊢; exact h
  | .int i, v, h => by rw [RD] at h ⊢; exact h
  | .str x, v, h => by rw [RD] at h ⊢; exact h
  | .list ds, v, h => by
    rw [RD] at h ⊢
    obtain ⟨a, xs, e, ha, r⟩ := h
    exact ⟨a, xs, e, k a _ ha, RDs.same k ds xs r⟩
  | .tuple ds, v, h => by
    rw [RD] at h ⊢
    obtain ⟨a, xs, e, ha, r⟩ := h
    exact ⟨a, xs, e, k a _ ha, RDs.same k ds xs r⟩
  | .dict _, v, h => by rw [RD] at h; exact h.elim
theorem RDs.same {H H' : Hp} (k : Same H H') : ∀ (ds : List PyData) (xs : List V), RDs H ds xs → RDs H' ds xs
  | [], xs, h => by rw [RDs] at h ⊢; exact h
  | d :: ds, xs, h => by
    rw [RDs] at h ⊢
    obtain ⟨x, r, e, h1, h2⟩ := h
    exact ⟨x, r, e, RD.same k d x h1, RDs.same k ds r h2⟩
end
theorem RDs.len {H : Hp} : ∀ {ds : List PyData} {xs : List V}, RDs H ds xs → xs.length = ds.length
  | [], xs, h => by rw [RDs] at h; rw [h]; rfl
  | d :: ds, xs, h => by
    rw [RDs] at h
    obtain ⟨x, r, e, _, h2⟩ := h
    rw [e, List.length_cons, List.length_cons, RDs.len h2]
theorem RDs.get {H : Hp} : ∀ {ds : List PyData} {xs : List V} {i : Nat} {d : PyData}, RDs H ds xs → ds[i]? = some d → ∃ x, xs[i]? = some x ∧ RD H d x
  | [], xs, i, d, h, e => by cases e
  | d0 :: ds, xs, i, d, h, e => by
    rw [RDs] at h
    obtain ⟨y, r, ey, h1, h2⟩ := h
    rw [ey]
    cases i with
    | zero => cases e; exact ⟨y, rfl, h1⟩
    | succ i =>
      obtain ⟨x, h3, h4⟩ := RDs.get (ds := ds) (xs := r) (i := i) (d := d) h2 (by simpa using e)
      exact ⟨x, by simpa using h3, h4⟩
theorem RDs.get' {H : Hp} : ∀ {ds : List PyData} {xs : List V} {i : Nat} {x : V}, RDs H ds xs → xs[i]? = some x → ∃ d, ds[i]? = some d ∧ RD H d x
  | [], xs, i, x, h, e => by rw [RDs] at h; rw [h] at e; cases e
  | d :: ds, xs, i, x, h, e => by
    rw [RDs] at h
    obtain ⟨y, r, ey, h1, h2⟩ := h
    rw [ey] at e
    cases i with
    | zero => cases e; exact ⟨d, rfl, h1⟩
    | succ i => exact RDs.get' (ds := ds) (xs := r) (i := i) h2 (by simpa using e)
theorem RDs.app {H : Hp} : ∀ {ds es : List PyData} {xs ys : List V}, RDs H ds xs → RDs H es ys → RDs H (ds ++ es) (xs ++ ys)
  | [], es, xs, ys, h, h' => by rw [RDs] at h; rw [h]; exact h'
  | d :: ds, es, xs, ys, h, h' => by
    rw [RDs] at h
    obtain ⟨x, r, e, h1, h2⟩ := h
    rw [e, List.cons_append, List.cons_append, RDs]
    exact ⟨x, _, rfl, h1, RDs.app h2 h'⟩
theorem RDs.one {H : Hp} {d : PyData} {x : V} (h : RD H d x) : RDs H [d] [x] := by
  rw [RDs]
  refine ⟨x, _, rfl, h, ?_⟩
  rw [RDs]
theorem RDs.nil {H : Hp} : RDs H [] [] := by rw [RDs]
theorem RDs.cons {H : Hp} {d : PyData} {x : V} {ds : List PyData} {xs : List V} (h : RD H d x) (t : RDs H ds xs) : RDs H (d :: ds) (x :: xs) := by
  rw [RDs]
  exact ⟨x, _, rfl, h, t⟩
theorem RD.str_mk {H : Hp} {x : Str} : RD H (.str x) (.str x) := by rw [RD]
theorem RD.int_mk {H : Hp} {i : Int} : RD H (.int i) (.int i) := by rw [RD]
theorem RD.tup_mk {H : Hp} {a : Addr} {xs : List V} {ds : List PyData} (h : H a = some (.tup xs)) (r : RDs H ds xs) : RD H (.tuple ds) (.ref a) := by
  rw [RD]
  exact ⟨a, xs, rfl, h, r⟩
theorem RD.tup_of {H : Hp} {v : V} {ds : List PyData} (h : RD H (.tuple ds) v) : ∃ a xs, v = .ref a ∧ H a = some (.tup xs) ∧ RDs H ds xs := by rw [RD] at h; exact h
theorem RD.str_of {H : Hp} {v : V} {x : Str} (h : RD H (.str x) v) : v = .str x := by rw [RD] at h; exact h
theorem RD.int_of {H : Hp} {v : V} {x : Int} (h : RD H (.int x) v) : v = .int x := by rw [RD] at h; exact h
theorem RDs.nil_of {H : Hp} {xs : List V} (h : RDs H [] xs) : xs = [] := by rw [RDs] at h; exact h
theorem RDs.cons_of {H : Hp} {d : PyData} {ds : List PyData} {xs : List V} (h : RDs H (d :: ds) xs) : ∃ x r, xs = x :: r ∧ RD H d x ∧ RDs H ds r := by rw [RDs] at h; exact h
end L2
set_option Elab.async false
set_option linter.all false
set_option maxRecDepth 100000
namespace NP
open PySem L2
structure Wr where
  name : Str
  lag : Int
  gives : Int
  floor : Int
  stock : Int
  coming : List (Int × Int)
  parts : List (Str × Int)
def arrD (p : Int × Int) : PyData := .tuple [.int p.1, .int p.2]
def partD (p : Str × Int) : PyData := .tuple [.str p.1, .int p.2]
def Wr.d (w : Wr) : PyData := .tuple [.str w.name, .int w.lag, .int w.gives, .int w.floor, .int w.stock, .tuple (w.coming.map arrD), .tuple (w.parts.map partD)]
abbrev Wt := Str × Int × Int
def wantD (p : Wt) : PyData := .tuple [.str p.1, .int p.2.1, .int p.2.2]
structure Sh where
  wares : List Wr
  wants : List Wt
def Sh.d (S : Sh) : PyData := .tuple [.tuple (S.wares.map Wr.d), .tuple (S.wants.map wantD)]
theorem nl_map {α : Type} (f : α → PyData) (h : ∀ x, noLst (f x) = true) : ∀ xs : List α, noLsts (xs.map f) = true
  | [] => by rw [List.map_nil, noLsts]
  | x :: r => by rw [List.map_cons, noLsts, h x, nl_map f h r]; rfl
theorem nl_arr (p : Int × Int) : noLst (arrD p) = true := by unfold arrD; simp only [noLst, noLsts, Bool.and_true]
theorem nl_part (p : Str × Int) : noLst (partD p) = true := by unfold partD; simp only [noLst, noLsts, Bool.and_true]
theorem nl_want (p : Wt) : noLst (wantD p) = true := by unfold wantD; simp only [noLst, noLsts, Bool.and_true]
theorem nl_ware (w : Wr) : noLst w.d = true := by
  unfold Wr.d
  simp only [noLst, noLsts, nl_map arrD nl_arr, nl_map partD nl_part, Bool.and_true]
theorem nl_shop (S : Sh) : noLst S.d = true := by
  unfold Sh.d
  simp only [noLst, noLsts, nl_map Wr.d nl_ware, nl_map wantD nl_want, Bool.and_true]
theorem ware_at {H : Hp} {w : Wr} {v : V} (h : RD H w.d v) : ∃ (a : Addr) (c p : V), v = .ref a ∧ H a = some (.tup [.str w.name, .int w.lag, .int w.gives, .int w.floor, .int w.stock, c, p]) ∧ RD H (.tuple (w.coming.map arrD)) c ∧ RD H (.tuple (w.parts.map partD)) p := by
  unfold Wr.d at h
  obtain ⟨a, xs, rfl, ha, r⟩ := RD.tup_of h
  obtain ⟨x1, r1, rfl, h1, r⟩ := RDs.cons_of r
  obtain ⟨x2, r2, rfl, h2, r⟩ := RDs.cons_of r
  obtain ⟨x3, r3, rfl, h3, r⟩ := RDs.cons_of r
  obtain ⟨x4, r4, rfl, h4, r⟩ := RDs.cons_of r
  obtain ⟨x5, r5, rfl, h5, r⟩ := RDs.cons_of r
  obtain ⟨x6, r6, rfl, h6, r⟩ := RDs.cons_of r
  obtain ⟨x7, r7, rfl, h7, r⟩ := RDs.cons_of r
  have := RDs.nil_of r
  subst this
  rw [RD.str_of h1, RD.int_of h2, RD.int_of h3, RD.int_of h4, RD.int_of h5] at ha
  exact ⟨a, x6, x7, rfl, ha, h6, h7⟩
theorem shop_at {H : Hp} {S : Sh} {v : V} (h : RD H S.d v) : ∃ (a b c : Addr) (ws us : List V), v = .ref a ∧ H a = some (.tup [.ref b, .ref c]) ∧ H b = some (.tup ws) ∧ H c = some (.tup us) ∧ RDs H (S.wares.map Wr.d) ws ∧ RDs H (S.wants.map wantD) us := by
  unfold Sh.d at h
  obtain ⟨a, xs, rfl, ha, r⟩ := RD.tup_of h
  obtain ⟨x1, r1, rfl, h1, r⟩ := RDs.cons_of r
  obtain ⟨x2, r2, rfl, h2, r⟩ := RDs.cons_of r
  have := RDs.nil_of r
  subst this
  obtain ⟨b, ws, rfl, hb, rb⟩ := RD.tup_of h1
  obtain ⟨c, us, rfl, hc, rc⟩ := RD.tup_of h2
  exact ⟨a, b, c, ws, us, rfl, ha, hb, hc, rb, rc⟩
theorem want_at {H : Hp} {p : Wt} {v : V} (h : RD H (wantD p) v) : ∃ a : Addr, v = .ref a ∧ H a = some (.tup [.str p.1, .int p.2.1, .int p.2.2]) := by
  unfold wantD at h
  obtain ⟨a, xs, rfl, ha, r⟩ := RD.tup_of h
  obtain ⟨x1, r1, rfl, h1, r⟩ := RDs.cons_of r
  obtain ⟨x2, r2, rfl, h2, r⟩ := RDs.cons_of r
  obtain ⟨x3, r3, rfl, h3, r⟩ := RDs.cons_of r
  have := RDs.nil_of r
  subst this
  rw [RD.str_of h1, RD.int_of h2, RD.int_of h3] at ha
  exact ⟨a, rfl, ha⟩
theorem part_at {H : Hp} {p : Str × Int} {v : V} (h : RD H (partD p) v) : ∃ a : Addr, v = .ref a ∧ H a = some (.tup [.str p.1, .int p.2]) := by
  unfold partD at h
  obtain ⟨a, xs, rfl, ha, r⟩ := RD.tup_of h
  obtain ⟨x1, r1, rfl, h1, r⟩ := RDs.cons_of r
  obtain ⟨x2, r2, rfl, h2, r⟩ := RDs.cons_of r
  have := RDs.nil_of r
  subst this
  rw [RD.str_of h1, RD.int_of h2] at ha
  exact ⟨a, rfl, ha⟩
theorem rds_map {α : Type} {H : Hp} {f : α → PyData} {xs : List α} {vs : List V} {i : Nat} {v : V} (h : RDs H (xs.map f) vs) (e : vs[i]? = some v) : ∃ x, xs[i]? = some x ∧ RD H (f x) v := by
  obtain ⟨d, hd, r⟩ := RDs.get' h e
  rw [List.getElem?_map] at hd
  cases ex : xs[i]? with
  | none => rw [ex] at hd; cases hd
  | some x => rw [ex] at hd; cases hd; exact ⟨x, rfl, r⟩
theorem rds_len {α : Type} {H : Hp} {f : α → PyData} {xs : List α} {vs : List V} (h : RDs H (xs.map f) vs) : vs.length = xs.length := by have := RDs.len h; rw [List.length_map] at this; exact this
abbrev Gr := List (Str × List Str)
def keysG (G : Gr) : List Str := G.map (·.1)
def goOn (ks : List Str) (ps : List Str) : List Str := ps.filter fun x => decide (x ∈ ks)
def cutOne (ks : List Str) (e : Str × List Str) : Option (Str × List Str) := if goOn ks e.2 = [] then none else some (e.1, goOn ks e.2)
def cutE (G : Gr) : Gr := G.filterMap (cutOne (keysG G))
def cutN : Nat → Gr → Gr
  | 0, G => G
  | n + 1, G => cutE (cutN n G)
def grOf (S : Sh) : Gr := S.wares.map fun w => (w.name, w.parts.map (·.1))
theorem keys_filter {ks : List Str} : ∀ {G : Gr}, (keysG (G.filterMap (cutOne ks))).Sublist (keysG G)
  | [] => .slnil
  | e :: r => by
    unfold keysG
    rw [List.filterMap_cons]
    cases h : cutOne ks e with
    | none => exact .cons _ (keys_filter (G := r))
    | some q =>
      have e1 : q.1 = e.1 := by
        unfold cutOne at h
        split at h
        · cases h
        · cases h; rfl
      show (q.1 :: keysG (r.filterMap (cutOne ks))).Sublist (e.1 :: keysG r)
      rw [e1]
      exact .cons₂ _ (keys_filter (G := r))
theorem cutE_nodup {G : Gr} (h : (keysG G).Nodup) : (keysG (cutE G)).Nodup := keys_filter.nodup h
theorem cutN_nodup {G : Gr} (h : (keysG G).Nodup) : ∀ n, (keysG (cutN n G)).Nodup
  | 0 => h
  | n + 1 => cutE_nodup (cutN_nodup h n)
theorem cutE_len (G : Gr) : (cutE G).length ≤ G.length := List.length_filterMap_le _ _
theorem cutN_len (G : Gr) : ∀ n, (cutN n G).length ≤ G.length
  | 0 => Nat.le_refl _
  | n + 1 => Nat.le_trans (cutE_len _) (cutN_len G n)
theorem cutE_parts {G : Gr} {e : Str × List Str} (h : e ∈ cutE G) : ∃ ps, (e.1, ps) ∈ G ∧ (∀ x ∈ e.2, x ∈ ps ∧ x ∈ keysG G) ∧ e.2 ≠ [] ∧ e.2.length ≤ ps.length := by
  unfold cutE at h
  obtain ⟨q, hq, hc⟩ := List.mem_filterMap.mp h
  unfold cutOne at hc
  split at hc
  · cases hc
  · rename_i hn
    cases hc
    refine ⟨q.2, hq, fun x hx => ?_, hn, List.length_filter_le _ _⟩
    have := List.mem_filter.mp hx
    exact ⟨this.1, of_decide_eq_true this.2⟩
theorem cutN_parts {G : Gr} : ∀ (n : Nat) {e : Str × List Str}, e ∈ cutN n G → ∃ ps, (e.1, ps) ∈ G ∧ (∀ x ∈ e.2, x ∈ ps) ∧ e.2.length ≤ ps.length
  | 0, e, h => ⟨e.2, h, fun x hx => hx, Nat.le_refl _⟩
  | n + 1, e, h => by
    obtain ⟨ps, h1, h2, _, h3⟩ := cutE_parts h
    obtain ⟨qs, q1, q2, q3⟩ := cutN_parts n h1
    exact ⟨qs, q1, fun x hx => q2 x (h2 x hx).1, by have h3' : e.2.length ≤ ps.length := h3; have q3' : ps.length ≤ qs.length := q3; omega⟩
def PDk (H : Hp) (kvs : List (Key × V)) (G : Gr) : Prop := Paired (fun (e : Str × List Str) (kv : Key × V) => kv.1 = .inr e.1 ∧ ∃ l, kv.2 = .ref l ∧ H l = some (.lst (e.2.map V.str))) G kvs
theorem PDk.mono {H H' : Hp} {kvs : List (Key × V)} {G : Gr} (h : PDk H kvs G) (k : ∀ l xs, H l = some (.lst xs) → H' l = some (.lst xs)) : PDk H' kvs G :=
  Paired.mapP h fun e kv ⟨h1, l, h2, h3⟩ => ⟨h1, l, h2, k l _ h3⟩
theorem PDk.keys : ∀ {H : Hp} {kvs : List (Key × V)} {G : Gr}, PDk H kvs G → kvs.map (·.1) = (keysG G).map Sum.inr
  | _, _, _, .nil => rfl
  | _, _, _, .cons r t => by
    unfold keysG
    rw [List.map_cons, List.map_cons, List.map_cons, r.1]
    exact congrArg _ (PDk.keys t)
theorem PDk.get : ∀ {H : Hp} {kvs : List (Key × V)} {G : Gr} {i : Nat} {e : Str × List Str}, PDk H kvs G → G[i]? = some e → ∃ l, kvs[i]? = some (.inr e.1, .ref l) ∧ H l = some (.lst (e.2.map V.str))
  | _, _, _, _, _, .nil, h => by simp at h
  | _, (k, v) :: _, _, 0, e, .cons r _, h => by
    simp at h
    subst h
    obtain ⟨h1, l, h2, h3⟩ := r
    have h1 : k = _ := h1
    have h2 : v = _ := h2
    exact ⟨l, by rw [h1, h2]; rfl, h3⟩
  | _, _ :: _, _, i + 1, e, .cons _ t, h => by
    obtain ⟨l, q⟩ := PDk.get (i := i) (e := e) t (by simpa using h)
    exact ⟨l, by simpa using q.1, q.2⟩
theorem PDk.get' : ∀ {H : Hp} {kvs : List (Key × V)} {G : Gr} {i : Nat} {k : Key} {v : V}, PDk H kvs G → kvs[i]? = some (k, v) → ∃ e l, G[i]? = some e ∧ k = .inr e.1 ∧ v = .ref l ∧ H l = some (.lst (e.2.map V.str))
  | _, _, _, _, _, _, .nil, h => by simp at h
  | _, _, e :: _, 0, k, v, .cons r _, h => by
    simp at h
    subst h
    obtain ⟨h1, l, h2, h3⟩ := r
    exact ⟨e, l, rfl, h1, h2, h3⟩
  | _, _, _ :: _, i + 1, k, v, .cons _ t, h => by
    obtain ⟨e, l, q⟩ := PDk.get' (i := i) t (by simpa using h)
    exact ⟨e, l, by simpa using q.1, q.2⟩
theorem valV_nodup {κ : Type} [DecidableEq κ] : ∀ {kvs : List (κ × V)} {i : Nat} {k : κ} {v : V}, (kvs.map (·.1)).Nodup → kvs[i]? = some (k, v) → valV kvs k = some v
  | [], _, _, _, _, h => by simp at h
  | p :: r, 0, k, v, hn, h => by
    simp at h
    subst h
    exact valV_pos rfl
  | p :: r, i + 1, k, v, hn, h => by
    have h' : r[i]? = some (k, v) := by simpa using h
    have hn' : (p.1 :: r.map (·.1)).Nodup := hn
    obtain ⟨h1, h2⟩ := List.nodup_cons.mp hn'
    have hm : k ∈ r.map (·.1) := List.mem_map.mpr ⟨(k, v), List.mem_of_getElem? h', rfl⟩
    rw [valV_neg (fun e => h1 (e ▸ hm))]
    exact valV_nodup h2 h'
theorem valV_has {κ : Type} [DecidableEq κ] (kvs : List (κ × V)) (k : κ) : (valV kvs k).isSome = decide (k ∈ kvs.map (·.1)) := by
  rw [← valV_any]
  induction kvs with
  | nil => rfl
  | cons p r ih =>
    rw [List.any_cons, ih, List.map_cons]
    by_cases h : p.1 = k
    · subst h; simp
    · have h' : ¬ k = p.1 := fun e => h e.symm
      simp [h, h']
theorem inr_nodup {xs : List Str} (h : xs.Nodup) : (xs.map (Sum.inr : Str → Key)).Nodup := by
  induction xs with
  | nil => exact List.nodup_nil
  | cons x r ih =>
    obtain ⟨h1, h2⟩ := List.nodup_cons.mp h
    rw [List.map_cons]
    refine List.nodup_cons.mpr ⟨fun m => ?_, ih h2⟩
    obtain ⟨y, hy, e⟩ := List.mem_map.mp m
    cases e
    exact h1 hy
theorem PDk.has {H : Hp} {kvs : List (Key × V)} {G : Gr} (h : PDk H kvs G) (x : Str) : (valV kvs (.inr x)).isSome = decide (x ∈ keysG G) := by
  rw [valV_has, h.keys]
  congr 1
  apply propext
  constructor
  · intro m
    obtain ⟨y, hy, e⟩ := List.mem_map.mp m
    cases e
    exact hy
  · exact fun m => List.mem_map.mpr ⟨x, m, rfl⟩
theorem paired_app {α β : Type} {F : α → β → Prop} : ∀ {a c : List α} {b d : List β}, Paired F a b → Paired F c d → Paired F (a ++ c) (b ++ d)
  | _, _, _, _, .nil, s => s
  | _, _, _, _, .cons r t, s => .cons r (paired_app t s)
theorem PDk.snoc {H : Hp} {kvs : List (Key × V)} {G : Gr} {n : Str} {l : Addr} {ps : List Str} (h : PDk H kvs G) (hn : n ∉ keysG G) (hl : H l = some (.lst (ps.map V.str))) : PDk H (putK kvs (.inr n) (.ref l)) (G ++ [(n, ps)]) := by
  have hv : valV kvs (.inr n) = none := by
    have := h.has n
    rw [decide_eq_false hn] at this
    cases e : valV kvs (.inr n) with
    | none => rfl
    | some v => rw [e] at this; cases this
  rw [putK_new _ hv]
  exact paired_app h (.cons ⟨rfl, l, rfl, hl⟩ .nil)
theorem PDk.len {H : Hp} {kvs : List (Key × V)} {G : Gr} (h : PDk H kvs G) : kvs.length = G.length := (Paired.length h).symm
end NP
set_option Elab.async false
set_option linter.all false
set_option maxRecDepth 100000
namespace L2
open PySem PySem.Spec PyProof.Rows
section
variable {prog : Program} {w : World} {A : Around} {E : Value → Shared → Prop} {s : Shared}
end
section
variable {X : Cx}
def tLrev (te : TE) : TE := fun σ H Q => te σ H fun x H1 => ∃ a xs, x = .ref a ∧ H1 a = some (.lst xs) ∧ ∀ p, H1 p = none → Q (.ref p) (upd H1 p (.lst xs.reverse))
end
end L2
set_option Elab.async false
set_option linter.all false
set_option maxRecDepth 100000
namespace L2
open PySem PySem.Spec PyProof.Rows
theorem comp_w {J : It} {n : Nat} {yl : Nat → V → Prop} {ok : Hp → Prop} {own : List Str} {cap : List Nat} {g : TG} {tt : TT} {te : TE} {σ : St} {H : Hp} {Q : VK} (G : Goes J n yl ok) (hn : n ≤ sizeLine) (Pv : Nat → List V → Hp → Prop) (h0 : Pv 0 [] H) (hok : ∀ i acc H, i ≤ n → Pv i acc H → ok H)
    (hlen : ∀ i acc H, Pv i acc H → acc.length ≤ i)
    (hs : ∀ i x acc H, i < n → yl i x → Pv i acc H → g x (cpSt own cap σ) H fun σ2 H2 => tt σ2 H2 fun b H3 => if b = true then te σ2 H3 fun y H4 => Pv (i + 1) (acc ++ [y]) H4 else Pv (i + 1) acc H3)
    (hd : ∀ acc H, Pv n acc H → ∀ p, H p = none → Q (.ref p) (upd H p (.lst acc))) : NP.CompW J own cap g tt te σ H Q := comp_goes G hn Pv h0 hok hlen hs hd
end L2
set_option Elab.async false
set_option linter.all false
set_option maxRecDepth 100000
namespace L2
open PySem PySem.Spec PyProof.Rows
def best (ns : Nat → Int) : Nat → Int
  | 0 => ns 0
  | k + 1 => if ns (k + 1) > best ns k then ns (k + 1) else best ns k
section
variable {prog : Program} {w : World} {A : Around} {R : Result → Shared → Prop} {I : Addr} {fp wr : List Addr} {n : Nat} {P : Nat → Value → Prop} {St : Nat → Heap → Prop}
theorem gt_rich {a b : Int} {t u : Tok} {Q : Value → Shared → Prop} {E : Value → Shared → Prop} {s : Shared} (h : Q (.bool (decide (b < a))) s) : wpAny (model prog w) A (richCompare .Gt (.int a t) (.int b u)) Q E s := show wpAny _ _ (compareOp .Gt _ _) _ _ _ from gt_int h
theorem maxl_more (kw : List (Str × Value)) (W : Walks prog w A.in1 I fp wr n P St) (ns : Nat → Int) (hv : ∀ i v, P i v → ∃ t, v = .int (ns i) t) (S : Addr) (hSf : S ∉ fp) :
    ∀ (k j : Nat) (s : Shared) (t : Tok) (c : Nat), n - (j + 1) = k → j + 1 ≤ n → St (j + 1) s.heap → s.heap.get? S = some { cls := .type "list", dict := none, data := .seq #[.int (best ns j) t, .int (best ns j) t] c, slots := #[] } →
    (∀ t' h' tk, (∀ b o, b ∉ wr → b ≠ S → s.heap.get? b = some o → h'.get? b = some o) → R (.ok (.ret (.int (best ns (n - 1)) t'))) { s with heap := h', toks := tk }) →
    codeAny (model prog w) A (.builtin "max.loop" ⟨[.ref I, .none, .ref S], kw⟩) R s := by
  have nSw : S ∉ wr := fun h => hSf (W.sub _ h)
  have nm : (toString "max" ++ toString ".loop" : String) = "max.loop" := by decide
  intro k
  induction k with
  | zero =>
    intro j s t c hk hj hst hS hR
    have hin : j + 1 = n := by omega
    refine codeAny_builtin F.entry_max_loop ?_
    rw [Around.under_plainId F.plain_max_loop _]
    refine wpAny_bind (m := seqItems? (.ref S)) (wpAny_seqItems hS rfl (wpAny_bind (m := tryCatch (pyNext (.ref I)) _) (wpAny_tryCatch (W.done s _ _ (hin ▸ hst) fun h' tk hk' => ?_))))
    refine wpAny_bind (m := updateSeq S (fun _ => #[])) (wpAny_updateSeq (hk' S _ nSw hS) rfl (wpAny_bind (wpAny_letGo (wpAny_pure ?_))))
    have e : n - 1 = j := by omega
    rw [e] at hR
    exact hR t _ tk fun b o n1 n2 q => (Heap.get?_update_other _ _ (Ne.symm n2)).trans (hk' b o n1 q)
  | succ k ih =>
    intro j s t c hk hj hst hS hR
    have hlt : j + 1 < n := by omega
    refine codeAny_builtin F.entry_max_loop ?_
    rw [Around.under_plainId F.plain_max_loop _]
    refine wpAny_bind (m := seqItems? (.ref S)) (wpAny_seqItems hS rfl (wpAny_bind (m := tryCatch (pyNext (.ref I)) _) (wpAny_tryCatch (W.item (j + 1) s _ _ hlt hst fun v h' tk hP hst' hk' => ?_))))
    obtain ⟨u, rfl⟩ := hv _ _ hP
    have hS' := hk' S _ nSw hS
    refine wpAny_bind (m := tryCatch (holding _ (richCompare .Gt _ _ >>= _)) _) (wpAny_tryCatch (wpAny_holding (wpAny_bind (gt_rich (wpAny_bind (wpAny_holding (wpAny_truthy_bool (wpAny_bind (wpAny_letGo (wpAny_pure ?_))))))))))
    by_cases hb : best ns j < ns (j + 1)
    · rw [decide_eq_true hb]
      simp only [if_true]
      refine wpAny_bind (wpAny_updateSeq hS' rfl (wpAny_bind (wpAny_letGo ?_)))
      rw [nm]
      have eb : best ns (j + 1) = ns (j + 1) := if_pos hb
      refine wpAny_pure ⟨plainId_quiet F.plain_max_loop _, ih (j + 1) _ u _ (by omega) hlt (W.frame _ _ _ hst' fun b hbf o e => ?_) (by rw [eb]; exact Heap.get?_update_self _ hS' rfl) fun t' h'' tk' hk2 => ?_⟩
      · exact (Heap.get?_update_other _ _ (fun h : S = b => hSf (by rw [h]; exact hbf))).trans e
      · exact hR t' h'' tk' fun b o n1 n2 e => hk2 b o n1 n2 ((Heap.get?_update_other _ _ (Ne.symm n2)).trans (hk' b o n1 e))
    · rw [decide_eq_false hb]
      simp only [Bool.false_eq_true, if_false]
      refine wpAny_bind (wpAny_letGo ?_)
      rw [nm]
      have eb : best ns (j + 1) = best ns j := if_neg hb
      refine wpAny_pure ⟨plainId_quiet F.plain_max_loop _, ih (j + 1) _ t c (by omega) hlt hst' (by rw [eb]; exact hS') fun t' h'' tk' hk2 => ?_⟩
      exact hR t' h'' tk' fun b o n1 n2 e => hk2 b o n1 n2 (hk' b o n1 e)
theorem maxl_first (kw : List (Str × Value)) (W : Walks prog w A.in1 I fp wr n P St) (ns : Nat → Int) (hv : ∀ i v, P i v → ∃ t, v = .int (ns i) t) (S : Addr) (hSf : S ∉ fp) (hn : 0 < n) {s : Shared} {c : Nat} (hst : St 0 s.heap)
    (hS : s.heap.get? S = some { cls := .type "list", dict := none, data := .seq #[] c, slots := #[] })
    (hR : ∀ t' h' tk, (∀ b o, b ∉ wr → b ≠ S → s.heap.get? b = some o → h'.get? b = some o) → R (.ok (.ret (.int (best ns (n - 1)) t'))) { s with heap := h', toks := tk }) :
    codeAny (model prog w) A (.builtin "max.loop" ⟨[.ref I, .none, .ref S], kw⟩) R s := by
  have nSw : S ∉ wr := fun h => hSf (W.sub _ h)
  have nm : (toString "max" ++ toString ".loop" : String) = "max.loop" := by decide
  refine codeAny_builtin F.entry_max_loop ?_
  rw [Around.under_plainId F.plain_max_loop _]
  refine wpAny_bind (m := seqItems? (.ref S)) (wpAny_seqItems hS rfl (wpAny_bind (m := tryCatch (pyNext (.ref I)) _) (wpAny_tryCatch (W.item 0 s _ _ hn hst fun v h' tk hP hst' hk' => ?_))))
  obtain ⟨u, rfl⟩ := hv _ _ hP
  have hS' := hk' S _ nSw hS
  refine wpAny_bind (m := updateSeq S _) (wpAny_updateSeq hS' rfl ?_)
  rw [nm]
  refine wpAny_pure ⟨plainId_quiet F.plain_max_loop _, maxl_more kw W ns hv S hSf _ 0 _ u _ rfl hn (W.frame _ _ _ hst' fun b hbf o e => ?_) (Heap.get?_update_self _ hS' rfl) fun t' h'' tk' hk2 => ?_⟩
  · exact (Heap.get?_update_other _ _ (fun h : S = b => hSf (by rw [h]; exact hbf))).trans e
  · exact hR t' h'' tk' fun b o n1 n2 e => hk2 b o n1 n2 ((Heap.get?_update_other _ _ (Ne.symm n2)).trans (hk' b o n1 e))
theorem maxl_none {d : Value} (W : Walks prog w A.in1 I fp wr 0 P St) (S : Addr) (hSf : S ∉ fp) {s : Shared} {c : Nat} (hst : St 0 s.heap)
    (hS : s.heap.get? S = some { cls := .type "list", dict := none, data := .seq #[] c, slots := #[] })
    (hR : ∀ h' tk, (∀ b o, b ∉ wr → b ≠ S → s.heap.get? b = some o → h'.get? b = some o) → R (.ok (.ret d)) { s with heap := h', toks := tk }) :
    codeAny (model prog w) A (.builtin "max.loop" ⟨[.ref I, .none, .ref S], [("default", d)]⟩) R s := by
  refine codeAny_builtin F.entry_max_loop ?_
  rw [Around.under_plainId F.plain_max_loop _]
  refine wpAny_bind (m := seqItems? (.ref S)) (wpAny_seqItems hS rfl (wpAny_bind (m := tryCatch (pyNext (.ref I)) _) (wpAny_tryCatch (W.done s _ _ hst fun h' tk hk' => ?_))))
  exact wpAny_bind (wpAny_rule (wpAny_pure (hR h' tk fun b o n1 _ e => hk' b o n1 e)))
end
end L2
set_option Elab.async false
set_option linter.all false
set_option maxRecDepth 100000
namespace L2
open PySem PySem.Spec PyProof.Rows
def maxL (ns : List Int) : Int := best (fun i => (ns[i]?).getD 0) (ns.length - 1)
def max0 (ns : List Int) : Int := if ns = [] then 0 else maxL ns
theorem best_mem (f : Nat → Int) : ∀ k, ∃ i, i ≤ k ∧ best f k = f i
  | 0 => ⟨0, Nat.le_refl _, rfl⟩
  | k + 1 => by
    rw [best]
    split
    · exact ⟨k + 1, Nat.le_refl _, rfl⟩
    · obtain ⟨i, h1, h2⟩ := best_mem f k
      exact ⟨i, by omega, h2⟩
theorem best_ge (f : Nat → Int) : ∀ k i, i ≤ k → f i ≤ best f k
  | 0, i, h => by
    have : i = 0 := by omega
    subst this
    exact Int.le_refl _
  | k + 1, i, h => by
    rw [best]
    by_cases hi : i = k + 1
    · subst hi
      split <;> omega
    · have := best_ge f k i (by omega)
      split <;> omega
theorem maxL_mem {ns : List Int} (h : ns ≠ []) : maxL ns ∈ ns := by
  have hl : 0 < ns.length := List.length_pos_iff.mpr h
  obtain ⟨i, h1, h2⟩ := best_mem (fun i => (ns[i]?).getD 0) (ns.length - 1)
  unfold maxL
  rw [h2]
  have hi : i < ns.length := by omega
  simp only [List.getElem?_eq_getElem hi, Option.getD_some]
  exact List.getElem_mem hi
theorem maxL_ge {ns : List Int} {x : Int} (h : x ∈ ns) : x ≤ maxL ns := by
  obtain ⟨i, hi, e⟩ := List.mem_iff_getElem.mp h
  have := best_ge (fun i => (ns[i]?).getD 0) (ns.length - 1) i (by omega)
  simp only [List.getElem?_eq_getElem hi, Option.getD_some, e] at this
  exact this
theorem args_maxd (a d : Value) : argsOk "max" ⟨[a], [(Str.ofString "default", d)]⟩ := by unfold argsOk; kernel_rfl
section
variable {X : Cx}
theorem max_core {pins : List (Addr × Obj)} {σ : St} {H : Hp} {s : Shared} {a : Addr} {ns : List Int} {Q : VK} {E : Value → Shared → Prop} {kw : List (Str × Value)} (hc : X.calm = true) (I : Inv X pins σ H s) (ha : H a = some (.lst (ns.map V.int))) (hn : ns ≠ []) (q : Q (.int (maxL ns)) H) :
    codeAny (model X.prog X.w) X.A (.builtin "max.loop" ⟨[.ref s.heap.objs.size, .none, .ref (s.heap.objs.size + 1)], kw⟩) (fun r s' => match r with | .ok (.ret v) => EP X pins σ Q v s' | .ok _ => False | .error e => E e s')
      { s with heap := (s.heap.push { cls := .type "list_iterator", data := .fields #[.ref a, .int 0 0] }).push { cls := .type "list", data := .seq #[] } } := by
  obtain ⟨its, rv, hl, hlt⟩ := lst_iter I ha
  have hlen : its.length = ns.length := by have := rv.length; rw [List.length_map] at this; exact this.symm
  have sz : (s.heap.push { cls := .type "list_iterator", data := .fields #[.ref a, .int 0 0] }).objs.size = s.heap.objs.size + 1 := Heap.size_push ..
  have gI : ((s.heap.push { cls := .type "list_iterator", data := .fields #[.ref a, .int 0 0] }).push { cls := .type "list", data := .seq #[] }).get? s.heap.objs.size = some { cls := .type "list_iterator", data := .fields #[.ref a, .int 0 0] } := Heap.get?_push_of_some _ (Heap.get?_push_size _ rfl)
  have gS : ((s.heap.push { cls := .type "list_iterator", data := .fields #[.ref a, .int 0 0] }).push { cls := .type "list", data := .seq #[] }).get? (s.heap.objs.size + 1) = some { cls := .type "list", data := .seq #[] } := by
    have := Heap.get?_push_size (s.heap.push { cls := .type "list_iterator", data := .fields #[.ref a, .int 0 0] }) (o := { cls := .type "list", data := .seq #[] }) rfl
    rw [sz] at this
    exact this
  have hpos : 0 < its.toArray.size := by rw [List.size_toArray, hlen]; exact List.length_pos_iff.mpr hn
  have nS : (s.heap.objs.size + 1 : Addr) ∉ [s.heap.objs.size, a] := by
    simp only [List.mem_cons, List.not_mem_nil, or_false, not_or]
    exact ⟨Nat.succ_ne_self _, Nat.ne_of_gt (Nat.lt_succ_of_lt hlt)⟩
  refine maxl_first kw (Walks.list (prog := X.prog) (w := X.w) (A := X.A.in1) (I.ok.hd hc) s.heap.objs.size a (Nat.ne_of_lt hlt) its.toArray) (fun i => (ns[i]?).getD 0) (fun i v hP => vals_int rv (by simpa using hP)) (s.heap.objs.size + 1) nS hpos ⟨⟨_, gI, rfl, rfl⟩, (hl.push _).push _⟩ gS fun t' h' tk hk => ?_
  rw [List.size_toArray, hlen]
  refine ⟨.int (maxL ns), H, I.kept fun b o e => hk b o ?_ ?_ (Heap.get?_push_of_some _ (Heap.get?_push_of_some _ e)), ⟨_, rfl⟩, q⟩
  · simp only [List.mem_cons, List.not_mem_nil, or_false]
    exact Nat.ne_of_lt (Heap.lt_size e)
  · exact Nat.ne_of_lt (Nat.lt_succ_of_lt (Heap.lt_size e))
def rMaxL : List V → Hp → VK → Prop := fun vs H Q => ∃ a ns, vs = [.ref a] ∧ H a = some (.lst (ns.map V.int)) ∧ ns ≠ [] ∧ Q (.int (maxL ns)) H
def tMaxd (te : TE) : TE := fun σ H Q => te σ H fun x H1 => ∃ a ns, x = .ref a ∧ H1 a = some (.lst (ns.map V.int)) ∧ Q (.int (max0 ns)) H1
theorem pe_maxd {e : Expr} {te : TE} {p1 p2 p3 kp : Pos} {j} (hc : X.calm = true) (hg : Gl X "max") (hm : X.mg "max" = none) (he : PE X e te) (hn : noStar [e] = true := by rfl) :
    PE X (.Call (.Name "max" p1) [e] [⟨some "default", .Constant (.int 0) j p3, kp⟩] p2) (tMaxd te) := by
  intro pins s σ H Q I h
  refine wpAny_Call_Name_kw (ld_blt I hg hm NP.bt_max ?_ (by decide) (by decide))
  refine callWith_kw (thn ((pa_e he pa_nil hn) p2 pins s σ H (fun vs H1 => match vs with | [x] => ∃ a ns, x = .ref a ∧ H1 a = some (.lst (ns.map V.int)) ∧ Q (.int (max0 ns)) H1 | _ => False) I h) fun us s1 ⟨vs, H1, I1, r1, hv⟩ => kws_cons (wpAny_Constant_int (kws_nil ?_))) ?_ ?_ rfl rfl
  · match vs, hv, r1 with
    | [x], ⟨a, ns, ea, ha, q⟩, r1 =>
    subst ea
    obtain ⟨u, rfl, ru⟩ := vals1 r1
    cases ru
    have I2 := I1.tok (s1.toks + 1)
    obtain ⟨its, rv, hl, hlt⟩ := lst_iter I2 ha
    have nm : (toString "max" ++ toString ".loop" : String) = "max.loop" := by decide
    have sz : (s1.heap.push { cls := .type "list_iterator", data := .fields #[.ref a, .int 0 0] }).objs.size = s1.heap.objs.size + 1 := Heap.size_push ..
    refine kmk_tree F.kind_max F.plain_max F.entry_max (args_maxd _ _) ?_
    refine wpAny_bind (m := Builtin.Builtins.bindParams "max" ["key", "default"] 0 ⟨[], [(Str.ofString "default", .int 0 s1.toks)]⟩) (wpAny_of_eq (show Builtin.Builtins.bindParams "max" ["key", "default"] 0 ⟨[], [(Str.ofString "default", .int 0 s1.toks)]⟩ = pure [none, some (.int 0 s1.toks)] from rfl) (wpAny_bind (wpAny_pure (wpAny_bind (wpAny_pyIter_list hl (wpAny_bind (wpAny_newObj_type ?_)))))))
    rw [nm]
    refine wpAny_pure ⟨plainId_quiet F.plain_max_loop _, ?_⟩
    by_cases hz : ns = []
    · subst hz
      have gI : ((s1.heap.push { cls := .type "list_iterator", data := .fields #[.ref a, .int 0 0] }).push { cls := .type "list", data := .seq #[] }).get? s1.heap.objs.size = some { cls := .type "list_iterator", data := .fields #[.ref a, .int 0 0] } := Heap.get?_push_of_some _ (Heap.get?_push_size _ rfl)
      have gS : ((s1.heap.push { cls := .type "list_iterator", data := .fields #[.ref a, .int 0 0] }).push { cls := .type "list", data := .seq #[] }).get? (s1.heap.push { cls := .type "list_iterator", data := .fields #[.ref a, .int 0 0] }).objs.size = some { cls := .type "list", data := .seq #[] } := Heap.get?_push_size _ rfl
      have e0 : its = [] := by cases rv; rfl
      subst e0
      have nS : (s1.heap.push { cls := .type "list_iterator", data := .fields #[.ref a, .int 0 0] }).objs.size ∉ [s1.heap.objs.size, a] := by
        rw [sz]
        simp only [List.mem_cons, List.not_mem_nil, or_false, not_or]
        exact ⟨Nat.succ_ne_self _, Nat.ne_of_gt (Nat.lt_succ_of_lt hlt)⟩
      refine maxl_none (Walks.list (prog := X.prog) (w := X.w) (A := X.A.in1) (I.ok.hd hc) s1.heap.objs.size a (Nat.ne_of_lt hlt) ([] : List Value).toArray) _ nS ⟨⟨_, gI, rfl, rfl⟩, (hl.push _).push _⟩ gS fun h' tk hk => ?_
      refine ⟨.int 0, H1, I1.kept fun b o e => hk b o ?_ ?_ (Heap.get?_push_of_some _ (Heap.get?_push_of_some _ e)), ⟨_, rfl⟩, q⟩
      · simp only [List.mem_cons, List.not_mem_nil, or_false]
        exact Nat.ne_of_lt (Heap.lt_size e)
      · rw [sz]
        exact Nat.ne_of_lt (Nat.lt_succ_of_lt (Heap.lt_size e))
    · have q' : Q (.int (maxL ns)) H1 := by unfold max0 at q; rw [if_neg hz] at q; exact q
      have := max_core (E := X.xe) (kw := [("default", .int 0 s1.toks)]) hc I2 ha hz q'
      rw [← sz] at this
      exact this
  · rw [starEach_of hn]; rfl
  · exact backTo_any hn
end
end L2
set_option Elab.async false
set_option linter.all false
set_option maxRecDepth 100000
namespace L2
open PySem PySem.Spec PyProof.Rows
section
variable {X : Cx}
def rGetL : V → V → Hp → VK → Prop := fun o i H Q => ∃ p xs k v, o = .ref p ∧ i = .int k ∧ H p = some (.lst xs) ∧ 0 ≤ k ∧ xs[k.toNat]? = some v ∧ Q v H
end
end L2
set_option Elab.async false
set_option linter.all false
set_option maxRecDepth 100000
namespace NP
open PySem L2
theorem max0_nn {ns : List Int} (h : ∀ x ∈ ns, 0 ≤ x) : 0 ≤ max0 ns := by
  unfold max0
  split
  · exact Int.le_refl _
  · rename_i hn
    exact h _ (maxL_mem hn)
theorem max0_ge {ns : List Int} {x : Int} (h : x ∈ ns) : x ≤ max0 ns := by
  unfold max0
  rw [if_neg (List.ne_nil_of_mem h)]
  exact maxL_ge h
end NP
set_option Elab.async false
set_option linter.all false
set_option maxRecDepth 100000
namespace L2
open PySem PySem.Spec PyProof.Rows
def ItI (a : Addr) (o : Obj) (kvs : List (Key × V)) : It := ⟨fun i H => H a = some (.frz o (.dK kvs)) ∧ i < kvs.length, fun i H x H' => ∃ p k v, x = .ref p ∧ H p = none ∧ kvs[i]? = some (k, v) ∧ H' = upd H p (.tup [kV k, v]), fun i H => H a = some (.frz o (.dK kvs)) ∧ kvs.length ≤ i⟩
section
variable {X : Cx}
def iItm (te : TE) : TI := fun σ H R => te σ H fun x H1 => ∃ a kvs, x = .ref a ∧ H1 a = some (.dK kvs) ∧ ∀ o, R (ItI a o kvs) (upd H1 a (.frz o (.dK kvs)))
def LikeK (H : Hp) (ka kb : List (Key × V)) : Prop := ∀ p ∈ ka, ∃ y d e, valV kb p.1 = some y ∧ RD H d p.2 ∧ RD H e y ∧ okD d = true ∧ okD e = true ∧ PyData.eqv d e = true
def rEqK : R2 := fun x y H Q => ∃ a b ka kb, x = .ref a ∧ y = .ref b ∧ Rd H a (.dK ka) ∧ Rd H b (.dK kb) ∧ ka.length = kb.length ∧ LikeK H ka kb ∧ Q (.bl true) H
def rNeK : R2 := fun x y H Q => ∃ a b ka kb, x = .ref a ∧ y = .ref b ∧ Rd H a (.dK ka) ∧ Rd H b (.dK kb) ∧ ka.length = kb.length ∧ LikeK H ka kb ∧ Q (.bl false) H
end
end L2
set_option Elab.async false
set_option linter.all false
set_option maxRecDepth 100000
namespace L2
open PySem PySem.Spec PyProof.Rows PySem.W NP
def KasOk (n : Nat) (key : Nat → Int) {α : Type} : KasT α → (α → Prop) → Prop
  | .ret a, Q => Q a
  | .ask i j k, Q => i < n ∧ j < n ∧ KasOk n key (k (decide (key i < key j))) Q
theorem kasOk_bind {n : Nat} {key : Nat → Int} {α β : Type} {f : α → KasT β} {Q : β → Prop} : ∀ {t : KasT α}, KasOk n key t (fun a => KasOk n key (f a) Q) → KasOk n key (t.bind f) Q
  | .ret _, h => h
  | .ask _ _ _, ⟨h1, h2, h3⟩ => ⟨h1, h2, kasOk_bind h3⟩
theorem kasOk_mono {n : Nat} {key : Nat → Int} {α : Type} {Q Q' : α → Prop} (hq : ∀ a, Q a → Q' a) : ∀ {t : KasT α}, KasOk n key t Q → KasOk n key t Q'
  | .ret _, h => hq _ h
  | .ask _ _ _, ⟨h1, h2, h3⟩ => ⟨h1, h2, kasOk_mono hq h3⟩
def klt (key : Nat → Int) (a b : Nat) : Prop := key a < key b ∨ (key a = key b ∧ a < b)
theorem klt_trans {key : Nat → Int} {a b c : Nat} (h1 : klt key a b) (h2 : klt key b c) : klt key a c := by unfold klt at *; omega
theorem klt_le {key : Nat → Int} {a b : Nat} (h : klt key a b) : key a ≤ key b := by unfold klt at h; omega
section
variable {n : Nat} {key : Nat → Int}
abbrev pat (p : Array Nat) (k : Nat) : Nat := p.getD k 0
theorem pat_rev {p : Array Nat} {i j : Nat} (hj : j ≤ p.size) (k : Nat) : pat (kas_rev p i j) k = if i ≤ k ∧ k < j then pat p (i + j - 1 - k) else pat p k := by
  have e := getElem?_mirror_all (i := i) hj k
  unfold pat kas_rev
  rw [Array.getD_eq_getD_getElem?, e]
  by_cases h1 : i ≤ k ∧ k < j
  · rw [if_pos h1, if_pos h1, Array.getD_eq_getD_getElem?]
  · rw [if_neg h1, if_neg h1, Array.getD_eq_getD_getElem?]
theorem pat_bub {p : Array Nat} {src d : Nat} (hs : src < p.size) (hd : d ≤ src) (k : Nat) : pat (bubble p src d) k = if k = src - d then pat p src else if src - d < k ∧ k ≤ src then pat p (k - 1) else pat p k := by
  have e := getElem?_bubble hs d hd k
  unfold pat
  rw [Array.getD_eq_getD_getElem?, e]
  by_cases h1 : k = src - d
  · rw [if_pos h1, if_pos h1, Array.getD_eq_getD_getElem?]
  · rw [if_neg h1, if_neg h1]
    by_cases h2 : src - d < k ∧ k ≤ src
    · rw [if_pos h2, if_pos h2, Array.getD_eq_getD_getElem?]
    · rw [if_neg h2, if_neg h2, Array.getD_eq_getD_getElem?]
theorem rev_size (p : Array Nat) (i j : Nat) : (kas_rev p i j).size = p.size := mirror_size _ _ _ _
theorem rev_perm (p : Array Nat) (i j : Nat) : (kas_rev p i j).toList.Perm p.toList := Array.perm_iff_toList_perm.mp (mirror_perm _ _ _ _)
structure Srt (n : Nat) (key : Nat → Int) (p : Array Nat) (m : Nat) : Prop where
  sz : p.size = n
  pm : p.toList.Perm (List.range n)
  up : ∀ i j, i < j → j < m → klt key (pat p i) (pat p j)
  fix : ∀ k, m ≤ k → k < n → pat p k = k
  low : ∀ k, k < m → pat p k < m
theorem Srt.lt {p : Array Nat} {m : Nat} (h : Srt n key p m) {k : Nat} (hm : m ≤ n) (hk : k < n) : pat p k < n := by
  by_cases z : k < m
  · have := h.low k z; omega
  · rw [h.fix k (by omega) hk]; exact hk
theorem asc_ok : ∀ (f : Nat) {p : Array Nat} {m : Nat}, Srt n key p m → 1 ≤ m → m + f = n → KasOk n key (kas_asc p f m) fun m' => m ≤ m' ∧ m' ≤ n ∧ Srt n key p m' ∧ (m' < n → key (pat p m') < key (pat p (m' - 1)))
  | 0, p, m, h, h1, h2 => ⟨Nat.le_refl _, by omega, h, fun z => by omega⟩
  | f + 1, p, m, h, h1, h2 => by
    refine ⟨h.lt (by omega) (by omega), h.lt (by omega) (by omega), ?_⟩
    show KasOk n key (if decide (key (pat p m) < key (pat p (m - 1))) = true then _ else _) _
    by_cases c : key (pat p m) < key (pat p (m - 1))
    · rw [decide_eq_true c, if_pos rfl]
      exact ⟨Nat.le_refl _, by omega, h, fun _ => c⟩
    · rw [decide_eq_false c, if_neg (by decide)]
      have e := h.fix m (Nat.le_refl _) (by omega)
      have h' : Srt n key p (m + 1) := ⟨h.sz, h.pm, fun i j hij hj => by
          by_cases z : j < m
          · exact h.up i j hij z
          · have ej : j = m := by omega
            subst ej
            have l1 : klt key (pat p (j - 1)) (pat p j) := by
              have := h.low (j - 1) (by omega)
              unfold klt
              rw [e] at c ⊢
              omega
            by_cases y : i = j - 1
            · rw [y]; exact l1
            · exact klt_trans (h.up i (j - 1) (by omega) (by omega)) l1, fun k hk hkn => h.fix k (by omega) hkn, fun k hk => by
          by_cases z : k < m
          · have := h.low k z; omega
          · have ek : k = m := by omega
            rw [ek, e]; omega⟩
      exact kasOk_mono (fun a ⟨a1, a2, a3, a4⟩ => ⟨by omega, a2, a3, a4⟩) (asc_ok f h' (by omega) (by omega))
structure Fal (n : Nat) (key : Nat → Int) (p : Array Nat) (m q : Nat) : Prop where
  sz : p.size = n
  pm : p.toList.Perm (List.range n)
  q1 : q + 1 ≤ m
  m1 : m ≤ n
  dn : ∀ i j, i < j → j < m - (q + 1) → klt key (pat p j) (pat p i)
  fix : ∀ k, m - (q + 1) ≤ k → k < n → pat p k = k
  low : ∀ k, k < m - (q + 1) → pat p k < m - (q + 1)
  cr : ∀ i, i < m - (q + 1) → key (m - 1) < key (pat p i)
  eq : ∀ k, m - (q + 1) ≤ k → k < m → key k = key (m - 1)
structure Dwn (n : Nat) (key : Nat → Int) (p : Array Nat) (m : Nat) : Prop where
  sz : p.size = n
  pm : p.toList.Perm (List.range n)
  dn : ∀ i j, i < j → j < m → klt key (pat p j) (pat p i)
  fix : ∀ k, m ≤ k → k < n → pat p k = k
  low : ∀ k, k < m → pat p k < m
  last : ∀ i, i < m → key (m - 1) ≤ key (pat p i)
theorem Fal.turn {p : Array Nat} {m q : Nat} (h : Fal n key p m q) : Dwn n key (kas_rev p (m - (q + 1)) m) m := by
  have hm := h.m1
  have h1 := h.q1
  have pr := fun k => pat_rev (p := p) (i := m - (q + 1)) (j := m) (by rw [h.sz]; exact hm) k
  refine ⟨by rw [rev_size, h.sz], (rev_perm _ _ _).trans h.pm, fun i j hij hj => ?_, fun k hk hkn => ?_, fun k hk => ?_, fun i hi => ?_⟩
  · have vi1 : m - (q + 1) ≤ i → pat (kas_rev p (m - (q + 1)) m) i = m - (q + 1) + m - 1 - i := fun a => by rw [pr i, if_pos ⟨a, by omega⟩]; exact h.fix _ (by omega) (by omega)
    have vi2 : ¬ m - (q + 1) ≤ i → pat (kas_rev p (m - (q + 1)) m) i = pat p i := fun a => by rw [pr i, if_neg (fun z => a z.1)]
    have vj1 : m - (q + 1) ≤ j → pat (kas_rev p (m - (q + 1)) m) j = m - (q + 1) + m - 1 - j := fun a => by rw [pr j, if_pos ⟨a, hj⟩]; exact h.fix _ (by omega) (by omega)
    have vj2 : ¬ m - (q + 1) ≤ j → pat (kas_rev p (m - (q + 1)) m) j = pat p j := fun a => by rw [pr j, if_neg (fun z => a z.1)]
    by_cases a : m - (q + 1) ≤ i
    · rw [vi1 a, vj1 (by omega)]
      have e1 := h.eq (m - (q + 1) + m - 1 - i) (by omega) (by omega)
      have e2 := h.eq (m - (q + 1) + m - 1 - j) (by omega) (by omega)
      unfold klt
      omega
    · rw [vi2 a]
      by_cases b : m - (q + 1) ≤ j
      · rw [vj1 b]
        have e2 := h.eq (m - (q + 1) + m - 1 - j) (by omega) (by omega)
        have e3 := h.cr i (by omega)
        unfold klt
        omega
      · rw [vj2 b]
        exact h.dn i j hij (by omega)
  · rw [pr k, if_neg (by omega)]
    exact h.fix k (by omega) hkn
  · rw [pr k]
    split
    · rw [h.fix _ (by omega) (by omega)]; omega
    · have := h.low k (by omega); omega
  · rw [pr i]
    split
    · rw [h.fix _ (by omega) (by omega)]
      have := h.eq (m - (q + 1) + m - 1 - i) (by omega) (by omega)
      omega
    · have := h.cr i (by omega); omega
theorem Fal.one {p : Array Nat} {m : Nat} (h : Fal n key p m 0) : Dwn n key p m := by
  have hm := h.m1
  have h1 := h.q1
  have e := h.fix (m - 1) (by omega) (by omega)
  refine ⟨h.sz, h.pm, fun i j hij hj => ?_, fun k hk hkn => h.fix k (by omega) hkn, fun k hk => ?_, fun i hi => ?_⟩
  · by_cases z : j = m - 1
    · rw [z, e]
      have := h.cr i (by omega)
      exact .inl this
    · exact h.dn i j hij (by omega)
  · by_cases z : k = m - 1
    · rw [z, e]; omega
    · have := h.low k (by omega); omega
  · by_cases z : i = m - 1
    · rw [z, e]; exact Int.le_refl _
    · have := h.cr i (by omega); omega
theorem Dwn.next {p : Array Nat} {m : Nat} (h : Dwn n key p m) (h1 : 1 ≤ m) (hm : m < n) (c : key m < key (m - 1)) : Fal n key p (m + 1) 0 :=
  ⟨h.sz, h.pm, by omega, by omega, fun i j hij hj => h.dn i j hij (by omega), fun k hk hkn => h.fix k (by omega) hkn, fun k hk => by have := h.low k (by omega); omega, fun i hi => by
    have := h.last i (by omega)
    show key m < _
    omega, fun k hk hk2 => by
    have : k = m := by omega
    subst this
    rfl⟩
theorem desc_ok : ∀ (f : Nat) {p : Array Nat} {m q : Nat}, Fal n key p m q → m + f = n → KasOk n key (kas_desc f p m q) fun r => Fal n key r.1 r.2.1 r.2.2
  | 0, p, m, q, h, _ => h
  | f + 1, p, m, q, h, hf => by
    have h1 := h.q1
    have e1 := h.fix m (by omega) (by omega)
    have e2 := h.fix (m - 1) (by omega) (by omega)
    refine ⟨by show pat p m < n; omega, by show pat p (m - 1) < n; omega, ?_⟩
    show KasOk n key (if decide (key (pat p m) < key (pat p (m - 1))) = true then _ else _) _
    rw [e1, e2]
    by_cases c : key m < key (m - 1)
    · rw [decide_eq_true c, if_pos rfl]
      by_cases hq : q > 0
      · rw [if_pos hq]
        exact desc_ok f (h.turn.next (by omega) (by omega) c) (by omega)
      · rw [if_neg hq]
        have q0 : q = 0 := by omega
        subst q0
        exact desc_ok f (h.one.next (by omega) (by omega) c) (by omega)
    · rw [decide_eq_false c, if_neg (by decide)]
      refine ⟨by show pat p (m - 1) < n; omega, by show pat p m < n; omega, ?_⟩
      show KasOk n key (if decide (key (pat p (m - 1)) < key (pat p m)) = true then _ else _) _
      rw [e1, e2]
      by_cases d : key (m - 1) < key m
      · rw [decide_eq_true d, if_pos rfl]
        exact h
      · rw [decide_eq_false d, if_neg (by decide)]
        have ek : key m = key (m - 1) := by omega
        refine desc_ok f ⟨h.sz, h.pm, by omega, by omega, fun i j hij hj => h.dn i j hij (by omega), fun k hk hkn => h.fix k (by omega) hkn, fun k hk => by have := h.low k (by omega); omega, fun i hi => by have := h.cr i (by omega); show key m < _; omega, fun k hk hk2 => ?_⟩ (by omega)
        show key k = key m
        by_cases z : k = m
        · rw [z]
        · rw [ek]; exact h.eq k (by omega) (by omega)
theorem tail_ok {p : Array Nat} {m : Nat} (h : Dwn n key p m) (h1 : 1 ≤ m) (hm : m ≤ n) : KasOk n key (kas_tail3 m n p) fun r => 1 ≤ r.1 ∧ r.1 ≤ n ∧ Srt n key r.2 r.1 := by
  have pr := fun k => pat_rev (p := p) (i := 0) (j := m) (by rw [h.sz]; exact hm) k
  have hs : Srt n key (kas_rev p 0 m) m := by
    refine ⟨by rw [rev_size, h.sz], (rev_perm _ _ _).trans h.pm, fun i j hij hj => ?_, fun k hk hkn => ?_, fun k hk => ?_⟩
    · rw [pr i, pr j, if_pos ⟨by omega, by omega⟩, if_pos ⟨by omega, by omega⟩]
      exact h.dn _ _ (by omega) (by omega)
    · rw [pr k, if_neg (by omega)]
      exact h.fix k hk hkn
    · rw [pr k, if_pos ⟨by omega, hk⟩]
      exact h.low _ (by omega)
  exact kasOk_bind (kasOk_mono (fun a ⟨a1, a2, a3, _⟩ => ⟨by show 1 ≤ a; omega, a2, a3⟩) (asc_ok (n - m) hs h1 (by omega)))
theorem part_ok {p : Array Nat} {m : Nat} (h : Fal n key p (m + 1) 0) : KasOk n key (kas_descPart m n p) fun r => 1 ≤ r.1 ∧ r.1 ≤ n ∧ Srt n key r.2 r.1 := by
  have := h.m1
  refine kasOk_bind (kasOk_mono (fun r hr => ?_) (desc_ok (n - (m + 1)) h (by omega)))
  have r1 := hr.q1
  have r2 := hr.m1
  by_cases z : r.2.2 > 0
  · rw [if_pos z]
    exact tail_ok hr.turn (by omega) r2
  · rw [if_neg z]
    have q0 : r.2.2 = 0 := by omega
    rw [q0] at hr
    exact tail_ok hr.one (by omega) r2
theorem range_pat {k : Nat} (h : k < n) : pat (List.toArray (List.range n)) k = k := by
  unfold pat
  rw [Array.getD_eq_getD_getElem?]
  simp [h]
theorem count_ok (h2 : 2 ≤ n) : KasOk n key (kas_count n (List.toArray (List.range n))) fun r => 1 ≤ r.1 ∧ r.1 ≤ n ∧ Srt n key r.2 r.1 := by
  have s0 : Srt n key (List.toArray (List.range n)) 1 := ⟨by simp, by simp, fun i j hij hj => by omega, fun k _ hk => range_pat hk, fun k hk => by rw [range_pat (by omega)]; exact hk⟩
  refine kasOk_bind (kasOk_mono (fun m hm => ?_) (asc_ok (n - 1) s0 (Nat.le_refl _) (by omega)))
  obtain ⟨a1, a2, a3, a4⟩ := hm
  by_cases z : m = n
  · rw [if_pos (by rw [z]; simp)]
    exact ⟨a1, a2, a3⟩
  · rw [if_neg (by simpa using z)]
    have c := a4 (by omega)
    rw [range_pat (by omega), range_pat (by omega)] at c
    by_cases y : m > 1
    · rw [if_pos y]
      have g0 : pat (List.toArray (List.range n)) 0 = 0 := range_pat (by omega)
      have g1 : pat (List.toArray (List.range n)) (m - 1) = m - 1 := range_pat (by omega)
      refine ⟨by show pat (List.toArray (List.range n)) 0 < n; omega, by show pat (List.toArray (List.range n)) (m - 1) < n; omega, ?_⟩
      show KasOk n key (if decide (key (pat (List.toArray (List.range n)) 0) < key (pat (List.toArray (List.range n)) (m - 1))) = true then _ else _) _
      rw [g0, g1]
      by_cases d : key 0 < key (m - 1)
      · rw [decide_eq_true d, if_pos rfl]
        exact ⟨a1, a2, a3⟩
      · rw [decide_eq_false d, if_neg (by decide)]
        have up : ∀ i, i < m → key 0 ≤ key i ∧ key i ≤ key (m - 1) := fun i hi => by
          constructor
          · by_cases w : i = 0
            · rw [w]; exact Int.le_refl _
            · have := klt_le (a3.up 0 i (by omega) hi)
              rw [range_pat (by omega), range_pat (by omega)] at this
              exact this
          · by_cases w : i = m - 1
            · rw [w]; exact Int.le_refl _
            · have := klt_le (a3.up i (m - 1) (by omega) (by omega))
              rw [range_pat (by omega), range_pat (by omega)] at this
              exact this
        have al : ∀ i, i < m → key i = key (m - 1) := fun i hi => by have := up i hi; omega
        have pr := fun k => pat_rev (p := List.toArray (List.range n)) (i := 0) (j := m) (by simp; omega) k
        have dw : Dwn n key (kas_rev (List.toArray (List.range n)) 0 m) m := by
          refine ⟨by rw [rev_size]; simp, (rev_perm _ _ _).trans (by simp), fun i j hij hj => ?_, fun k hk hkn => ?_, fun k hk => ?_, fun i hi => ?_⟩
          · rw [pr i, pr j, if_pos ⟨by omega, by omega⟩, if_pos ⟨by omega, by omega⟩, range_pat (by omega), range_pat (by omega)]
            have e1 := al (0 + m - 1 - i) (by omega)
            have e2 := al (0 + m - 1 - j) (by omega)
            unfold klt
            omega
          · rw [pr k, if_neg (by omega), range_pat hkn]
          · rw [pr k, if_pos ⟨by omega, hk⟩, range_pat (by omega)]; omega
          · rw [pr i, if_pos ⟨by omega, hi⟩, range_pat (by omega)]
            have := al (0 + m - 1 - i) (by omega)
            omega
        exact part_ok (dw.next (by omega) (by omega) c)
    · rw [if_neg y]
      have m1 : m = 1 := by omega
      subst m1
      have dw : Dwn n key (List.toArray (List.range n)) 1 := ⟨by simp, by simp, fun i j hij hj => by omega, fun k _ hk => range_pat hk, fun k hk => by rw [range_pat (by omega)]; exact hk, fun i hi => by
        rw [range_pat (by omega)]
        have : i = 0 := by omega
        rw [this]
        exact Int.le_refl _⟩
      exact part_ok (dw.next (by omega) (by omega) c)
theorem place_ok {p : Array Nat} {k : Nat} (h : Srt n key p k) (hk : k < n) : ∀ (f l r : Nat), l ≤ r → r ≤ k → r - l ≤ f → (∀ i, i < l → key (pat p i) ≤ key k) → (∀ i, r ≤ i → i < k → key k < key (pat p i)) → KasOk n key (kas_place p k f l r) fun l' => l' ≤ k ∧ (∀ i, i < l' → key (pat p i) ≤ key k) ∧ ∀ i, l' ≤ i → i < k → key k < key (pat p i)
  | 0, l, r, h1, h2, h3, h4, h5 => ⟨by omega, h4, fun i hi => h5 i (by omega)⟩
  | f + 1, l, r, h1, h2, h3, h4, h5 => by
    show KasOk n key (if l ≥ r then _ else _) _
    by_cases z : l ≥ r
    · rw [if_pos z]
      exact ⟨by omega, h4, fun i hi => h5 i (by omega)⟩
    · rw [if_neg z]
      have e := h.fix k (Nat.le_refl _) hk
      refine ⟨by show pat p k < n; omega, by have := h.low ((l + r) / 2) (by omega); show pat p ((l + r) / 2) < n; omega, ?_⟩
      show KasOk n key (if decide (key (pat p k) < key (pat p ((l + r) / 2))) = true then _ else _) _
      rw [e]
      have mono : ∀ i j, i ≤ j → j < k → key (pat p i) ≤ key (pat p j) := fun i j hij hj => by
        by_cases y : i = j
        · rw [y]; exact Int.le_refl _
        · exact klt_le (h.up i j (by omega) hj)
      by_cases c : key k < key (pat p ((l + r) / 2))
      · rw [decide_eq_true c, if_pos rfl]
        exact place_ok h hk f l ((l + r) / 2) (by omega) (by omega) (by omega) h4 fun i hi hik => by have := mono _ i hi hik; omega
      · rw [decide_eq_false c, if_neg (by decide)]
        exact place_ok h hk f ((l + r) / 2 + 1) r (by omega) h2 (by omega) (fun i hi => by have := mono i ((l + r) / 2) (by omega) (by omega); omega) h5
theorem bin_ok : ∀ (f : Nat) {p : Array Nat} {k : Nat}, Srt n key p k → k + f = n → KasOk n key (kas_bin f p k) fun p' => Srt n key p' n
  | 0, p, k, h, hf => by
    have : k = n := by omega
    subst this
    exact h
  | f + 1, p, k, h, hf => by
    refine kasOk_bind (kasOk_mono (fun l hl => ?_) (place_ok h (by omega) k 0 k (Nat.zero_le _) (Nat.le_refl _) (by omega) (fun i hi => by omega) (fun i hi hik => by omega)))
    obtain ⟨l1, l2, l3⟩ := hl
    have hs := h.sz
    have pb := fun i => pat_bub (p := p) (src := k) (d := k - l) (by omega) (by omega) i
    have ed : k - (k - l) = l := by omega
    rw [ed] at pb
    have ek := h.fix k (Nat.le_refl _) (by omega)
    refine bin_ok f ⟨by rw [bubble_size, hs], (Array.perm_iff_toList_perm.mp (bubble_perm _ _ _)).trans h.pm, fun i j hij hj => ?_, fun i hi hin => ?_, fun i hi => ?_⟩ (by omega)
    · rw [pb i, pb j]
      by_cases a : i = l
      · rw [if_pos a, if_neg (by omega), if_pos ⟨by omega, by omega⟩, ek]
        have := l3 (j - 1) (by omega) (by omega)
        exact .inl this
      · rw [if_neg a]
        by_cases b : j = l
        · rw [if_pos b, if_neg (by omega), ek]
          have h1 := l2 i (by omega)
          have h2 := h.low i (by omega)
          unfold klt
          omega
        · rw [if_neg b]
          by_cases c : l < i
          · rw [if_pos ⟨c, by omega⟩, if_pos ⟨by omega, by omega⟩]
            exact h.up (i - 1) (j - 1) (by omega) (by omega)
          · rw [if_neg (fun z => c z.1)]
            by_cases d : l < j
            · rw [if_pos ⟨d, by omega⟩]
              exact h.up i (j - 1) (by omega) (by omega)
            · rw [if_neg (fun z => d z.1)]
              exact h.up i j hij (by omega)
    · rw [pb i, if_neg (by omega), if_neg (by omega)]
      exact h.fix i (by omega) hin
    · rw [pb i]
      split
      · rw [ek]; omega
      · split
        · have := h.low (i - 1) (by omega); omega
        · have := h.low i (by omega); omega
theorem sort_ok (h2 : 2 ≤ n) : KasOk n key (kas_sort n) fun p => Srt n key p n := by
  refine kasOk_bind (kasOk_mono (fun r hr => ?_) (count_ok h2))
  obtain ⟨r1, r2, r3⟩ := hr
  by_cases z : r.1 < n
  · rw [if_pos z]
    have e : max r.1 1 = r.1 := by omega
    rw [e]
    exact bin_ok _ r3 (by omega)
  · rw [if_neg z]
    have e : r.1 = n := by omega
    rw [e] at r3
    exact r3
end
theorem kasWp_of {n : Nat} {key : Nat → Int} {α : Type} {cmp : Nat → Nat → (Bool → Shared → Prop) → Shared → Prop} {Qp : α → Prop} {Q : α → Shared → Prop} {s : Shared} (hc : ∀ i j (C : Bool → Shared → Prop), i < n → j < n → C (decide (key i < key j)) s → cmp i j C s) (hq : ∀ a, Qp a → Q a s) : ∀ {t : KasT α}, KasOk n key t Qp → t.kasWp cmp Q s
  | .ret _, h => hq _ h
  | .ask i j k, ⟨h1, h2, h3⟩ => hc i j _ h1 h2 (kasWp_of hc hq h3)
def SortK (kz : Str → Int) (xs ys : List Str) : Prop := ys.Perm xs ∧ ys.Pairwise fun a b => kz a ≤ kz b
def StabK (kz : Str → Int) (xs ys : List Str) : Prop := ∃ ps : List Nat, ps.Perm (List.range xs.length) ∧ ys = ps.map (fun i => xs.getD i "") ∧ ps.Pairwise (klt fun i => kz (xs.getD i ""))
theorem range_getD (xs : List Str) : (List.range xs.length).map (fun i => xs.getD i "") = xs := by
  apply List.ext_getElem?
  intro i
  by_cases hi : i < xs.length
  · rw [List.getElem?_map, List.getElem?_range hi, List.getElem?_eq_getElem hi]
    simp [List.getD_eq_getElem?_getD, hi]
  · rw [List.getElem?_eq_none (by simp; omega), List.getElem?_eq_none (by omega)]
theorem stab_sort {kz : Str → Int} {xs ys : List Str} (h : StabK kz xs ys) : SortK kz xs ys := by
  obtain ⟨ps, h1, rfl, h2⟩ := h
  refine ⟨?_, ?_⟩
  · have := h1.map (fun i => xs.getD i "")
    rw [range_getD] at this
    exact this
  · rw [List.pairwise_map]
    exact h2.imp fun {a b} hab => klt_le hab
theorem stab_small {kz : Str → Int} {xs ys : List Str} (h : ys.Perm xs) (hl : xs.length < 2) : StabK kz xs ys := by
  refine ⟨List.range xs.length, List.Perm.refl _, ?_, ?_⟩
  · rw [range_getD]
    match xs, hl with
    | [], _ => exact List.perm_nil.mp h
    | [x], _ => exact List.perm_singleton.mp h
  · rw [List.pairwise_iff_getElem]
    intro i j hi hj hij
    rw [List.length_range] at hi hj
    omega
theorem srt_pw {n : Nat} {key : Nat → Int} {p : Array Nat} (h : Srt n key p n) : p.toList.Pairwise (klt key) := by
  rw [List.pairwise_iff_getElem]
  intro i j hi hj hij
  rw [Array.length_toList, h.sz] at hi hj
  have := h.up i j hij hj
  unfold pat at this
  rw [Array.getD_eq_getD_getElem?, Array.getD_eq_getD_getElem?, Array.getElem?_eq_getElem (by rw [h.sz]; exact hi), Array.getElem?_eq_getElem (by rw [h.sz]; exact hj)] at this
  simpa using this
end L2
set_option Elab.async false
set_option linter.all false
set_option maxRecDepth 100000
namespace L2
open PySem PySem.Spec PyProof.Rows PySem.W NP
theorem obj_has {P : Program} {w : World} {H : Hp} {h : Heap} {a : Addr} {o : HO} (x : ObjOk P w H h a o) : ∃ ob, h.get? a = some ob := by
  cases o with
  | lst xs => obtain ⟨_, _, _, _, e⟩ := x; exact ⟨_, e⟩
  | tup xs => obtain ⟨_, _, _, o, e, _⟩ := x; exact ⟨_, e⟩
  | dK kvs => obtain ⟨_, _, _, _, o, _, _, e, _⟩ := x; exact ⟨_, e⟩
  | dT kvs => obtain ⟨_, _, _, _, o, _, _, e, _⟩ := x; exact ⟨_, e⟩
  | set S n => obtain ⟨o, _, _, _, e, _⟩ := x; exact ⟨_, e⟩
  | ins C dx fs => obtain ⟨_, _, _, e, _⟩ := x; exact ⟨_, e⟩
  | own y => exact x
  | xd fs => obtain ⟨_, ⟨_, _, _, e, _⟩, _⟩ := x; exact ⟨_, e⟩
  | rng lo hi => obtain ⟨_, _, _, e⟩ := x; exact ⟨_, e⟩
  | frz o u => obtain ⟨e, _⟩ := x; exact ⟨_, e⟩
  | tbl ps => exact ⟨_, x⟩
  | met f y => exact ⟨_, x⟩
  | ext φ => obtain ⟨_, e, _⟩ := x; exact e
def CodeE (c : Addr) (q : Str) : HO := .ext fun h => h.CodeRec (.ref c) q
theorem codeE_ok {P : Program} {w : World} {H : Hp} {h : Heap} {c : Addr} {q : Str} (x : h.CodeRec (.ref c) q) : ObjOk P w H h c (CodeE c q) := by
  obtain ⟨c', o, vs, t, e, ho, r⟩ := id x
  cases e
  refine ⟨x, ⟨o, ho⟩, fun h1 h2 y k => ?_⟩
  obtain ⟨c2, o2, vs2, t2, e2, g2, r2⟩ := y
  cases e2
  exact ⟨c, o2, vs2, t2, rfl, k _ g2, r2⟩
theorem codeE_of {P : Program} {w : World} {H : Hp} {h : Heap} {c : Addr} {q : Str} (ok : HOk P w H h) (e : H c = some (CodeE c q)) : h.CodeRec (.ref c) q := (ok c _ e).1
def TblAt (H : Hp) (P : Addr) (pos : Pos) (q : Str) : Prop := H P = some (.tbl #[]) ∨ ∃ c, H P = some (.tbl #[rawInt pos.line, rawInt pos.col, .ref c]) ∧ H c = some (CodeE c q)
theorem TblAt.same {H H' : Hp} {P : Addr} {pos : Pos} {q : Str} (t : TblAt H P pos q) (s : Same H H') : TblAt H' P pos q := t.elim (fun e => .inl (s _ _ e)) (fun ⟨c, e, e2⟩ => .inr ⟨c, s _ _ e, s _ _ e2⟩)
def BMain (mg : Str → Option Value) (base : Heap) : Prop := ∃ bm ob, mg "__builtins__" = some (.ref bm) ∧ bm ≠ builtinsNs ∧ bm ≠ mainGlobals ∧ base.get? bm = some ob ∧ ob.cls = .type "module" ∧ ob.dict = some builtinsNs ∧ ob.data = .plain
section
variable {X : Cx} {pins : List (Addr × Obj)} {σ : St} {H : Hp} {s : Shared}
theorem lam_make {P c : Addr} {params : Arguments} {body : Expr} {scope : Scope} {pos : Pos} {clos : List (Str × Addr)} {Q : Value → Shared → Prop}
    (I : Inv X pins σ H s) (hcd : X.env.code = .ref c) (hC : codeHdIn X.K c P = true) (hB : BMain X.mg X.base) (t : TblAt H P pos (X.env.qual ++ "<lambda>")) (hdef : defaultsOf params X.env = ([], [])) (hcl : closureFor scope X.env = pure clos)
    (h : ∀ f c' ctv H' s', Inv X pins σ H' s' → s'.heap.get? f = some (kla_obj "<lambda>" (X.env.qual ++ "<lambda>") params body scope clos ((X.mg "__name__").getD .none) c' ctv) → H' f = none → H' c' = some (CodeE c' (X.env.qual ++ "<lambda>")) → TblAt H' P pos (X.env.qual ++ "<lambda>") → But P H H' → Q (.ref f) s') :
    wpAny (model X.prog X.w) X.A (eval (.Lambda params body scope pos) X.env) Q X.xe s := by
  refine kla_eval hdef ?_
  have hHP : ∃ u, H P = some u := t.elim (fun e => ⟨_, e⟩) (fun ⟨c, e, _⟩ => ⟨_, e⟩)
  obtain ⟨u, hu⟩ := hHP
  have neP : ∀ b o, X.base.get? b = some o → b ≠ P := fun b o e z => by rw [z] at e; rw [(I.bs P o e).2] at hu; cases hu
  have C : CodeHd s.heap c P := codeHd_of_K I.kIn hC
  have hg : s.heap.Ns mainGlobals X.mg := I.ok.mod.glob.keeps I.bk
  have hgP : mainGlobals ≠ P := by obtain ⟨o, es, ep, e, _⟩ := I.ok.mod.glob; exact neP _ _ e
  have hb : s.heap.BuiltinsAt X.mg P := by
    obtain ⟨bm, ob, b1, b2, b3, b4, b5⟩ := hB
    exact ⟨bm, ob, b1, b2, b3, neP _ _ b4, I.bk _ _ b4, b5⟩
  rcases t with e | ⟨c', e, ec⟩
  · have hP : s.heap.get? P = some (tabObj #[]) := I.hok P _ e
    refine kla_makeFunction (ps := #[]) hcl I.ok.glob hg hcd C hP trivial rfl hgP hb fun c' ctv h' tk hx hge hlt hrec htb => ?_
    have hc0 : H c' = none := I.hok.fresh hge
    have cP : c' ≠ P := fun z => by rw [z, hu] at hc0; cases hc0
    have k : ∀ b o, b ≠ P → s.heap.get? b = some o → (h'.push (kla_obj "<lambda>" (X.env.qual ++ "<lambda>") params body scope clos ((X.mg "__name__").getD .none) c' ctv)).get? b = some o := fun b o nb eb => Heap.get?_push_of_some _ (hx b o nb eb)
    have hsz : s.heap.objs.size ≤ h'.objs.size := by omega
    have hf : H h'.objs.size = none := I.hok.fresh hsz
    have cf : h'.objs.size ≠ c' := Nat.ne_of_gt hlt
    have fP : h'.objs.size ≠ P := fun z => by rw [z, hu] at hf; cases hf
    refine h h'.objs.size c' ctv (upd (upd H P (.tbl #[rawInt pos.line, rawInt pos.col, .ref c'])) c' (CodeE c' (X.env.qual ++ "<lambda>"))) _ (I.un (t' := tk) ⟨fun b o eb n _ _ => k b o (fun z => by rw [z, hu] at n; cases n) eb, fun b o eb n _ _ => ⟨o.slots, k b o (fun z => by rw [z, hu] at n; cases n) eb⟩, fun b o eb n _ => ?_, fun b o eb _ => ?_, fun b xs eb => ?_, fun b o u' eb => ?_, fun b ps eb => ?_⟩ fun b v eb => ?_) (Heap.get?_push_size _ rfl) ?_ upd_same ?_ ?_
    · rw [upd_ne (Nat.ne_of_lt (Nat.lt_of_lt_of_le (Heap.lt_size eb) hge)), upd_ne (fun z => by rw [z, hu] at n; cases n)]
      exact n
    · by_cases z : b = P
      · rw [z]
        exact ⟨_, Heap.get?_push_of_some _ htb⟩
      · exact ⟨o, k b o z eb⟩
    · rw [upd_ne (ne_of_none eb hc0), upd_ne (fun z => by rw [z, e] at eb; cases eb)]
      exact eb
    · rw [upd_ne (ne_of_none eb hc0), upd_ne (fun z => by rw [z, e] at eb; cases eb)]
      exact eb
    · by_cases z : b = P
      · subst z
        rw [e] at eb
        cases eb
        exact ⟨#[rawInt pos.line, rawInt pos.col, .ref c'], by rw [upd_ne (Ne.symm cP), upd_same]; simp⟩
      · exact ⟨#[], by rw [upd_ne (ne_of_none eb hc0), upd_ne z, eb]; simp⟩
    · by_cases z : b = c'
      · subst z
        rw [upd_same] at eb
        cases eb
        exact codeE_ok (hrec.push _)
      · rw [upd_ne z] at eb
        by_cases z2 : b = P
        · subst z2
          rw [upd_same] at eb
          cases eb
          exact Heap.get?_push_of_some _ htb
        · rw [upd_ne z2] at eb
          refine (I.hok b v eb).stay (fun b' u' hb' q => k b' u' (fun z3 => ?_) q) (fun b' q => ?_) fun b' xs q => ?_
          · rcases hb' with r | r
            · exact z2 (r.symm.trans z3)
            · rw [z3, e] at r; cases r
          · rw [upd_ne (ne_of_none q hc0), upd_ne (fun z3 => by rw [z3, e] at q; cases q)]; exact q
          · rw [upd_ne (ne_of_none q hc0), upd_ne (fun z3 => by rw [z3, e] at q; cases q)]; exact q
    · rw [upd_ne cf, upd_ne fP]
      exact hf
    · exact .inr ⟨c', by rw [upd_ne (Ne.symm cP), upd_same], upd_same⟩
    · exact fun b o nb eb => by rw [upd_ne (ne_of_none eb hc0), upd_ne nb]; exact eb
  · have hP : s.heap.get? P = some (tabObj #[rawInt pos.line, rawInt pos.col, .ref c']) := I.hok P _ e
    refine kla_makeFunctionHit (cv := .ref c') hcl I.ok.glob hg hcd C hP trivial (by simp [codeAmong, rawInt]) hb fun ctv h' tk hk hsz => ?_
    have k : ∀ b o, s.heap.get? b = some o → (h'.push (kla_obj "<lambda>" (X.env.qual ++ "<lambda>") params body scope clos ((X.mg "__name__").getD .none) c' ctv)).get? b = some o := fun b o eb => Heap.get?_push_of_some _ (hk b o eb)
    exact h h'.objs.size c' ctv H _ (I.kept (t' := tk) k) (Heap.get?_push_size _ rfl) (I.hok.fresh hsz) ec (.inr ⟨c', e, ec⟩) (But.refl _ _)
end
section
variable {prog : Program} {w : World} {A : Around} {s : Shared}
theorem lam_key {f c' d cc : Addr} {q nm lv x : Str} {params : Arguments} {scope : Scope} {p1 p2 p3 : Pos} {pm ctv : Value} {k : Int} {t t0 : Tok} {vs : List (Key × Value)}
    (hf : s.heap.get? f = some (kla_obj "<lambda>" q params (.Subscript (.Name lv p1) (.Name nm p2) p3) scope [(lv, cc)] pm c' ctv)) (hrec : s.heap.CodeRec (.ref c') q) (hcell : s.heap.IsCell cc (some (.ref d))) (hd : s.heap.DictOf (mixKind prog w) d vs) (hv : valueAt vs (.inr x) = some (.int k t))
    (hroom : A.depth < recursionLimit) (hlim : s.heap.NoLimit) (hsc : scope.kind = .function ∧ scope.isCoroutine = false ∧ scope.isGenerator = false ∧ scope.names.lookup nm = some .local ∧ scope.names.lookup lv = some .free ∧ ∀ x ∈ scope.names, x.2 ≠ .cell)
    (hbind : bindArgs (kla_fn "<lambda>" q params (.Subscript (.Name lv p1) (.Name nm p2) p3) scope [(lv, cc)] pm (.ref c') ctv) ⟨[.str x t0], []⟩ = pure [(nm, .str x t0)]) (hn1 : (nm == ("__debug__" : Str)) = false := by decide) (hn2 : (lv == ("__debug__" : Str)) = false := by decide) (hn3 : (lv == ("__classdict__" : Str)) = false := by decide) :
    wpAny (model prog w) A (call (.ref f) [.str x t0]) (fun v s' => ∃ h' tk t', s' = { s with heap := h', toks := tk } ∧ v = .int k t' ∧ ∀ b o, s.heap.get? b = some o → h'.get? b = some o) (fun _ _ => False) s := by
  obtain ⟨k1, k2, k3, k4, k5, k6⟩ := hsc
  refine wpAny_call (kla_callFunE hroom hf rfl k2 k3 rfl hrec ?_)
  rw [hbind]
  refine wpAny_pure (wpAny_newFunctionEnv k6 (fun y hy => ?_) (fun h₁ hns hsb => ?_) k1)
  · rw [List.mem_singleton.mp hy]
    exact k4
  have hk : ∀ b o, s.heap.get? b = some o → h₁.get? b = some o := fun b o e => hsb.extBut b o (Nat.ne_of_lt (Heap.lt_size e)) (Heap.get?_push_of_some _ e)
  refine ⟨hlim.fresh _ hsb, kla_codeExpr ?_⟩
  have hd1 : h₁.DictOf (mixKind prog w) d vs := by
    obtain ⟨o, es, ep, ho, r⟩ := hd
    exact ⟨o, es, ep, hk _ _ ho, r⟩
  have hc1 : h₁.IsCell cc (some (.ref d)) := by
    obtain ⟨o, ho, r⟩ := hcell
    exact ⟨o, hk _ _ ho, r⟩
  refine wpAny_Subscript_Name (T := "dict") F.slot_dict_getitem.lookup (wpAny_Name (wpAny_loadName_free k1 k5 (c := cc) (by simp [newEnv]) hc1 (wpAny_Name (wpAny_loadName_local k1 k4 hns (v := .str x t0) (by simp) ⟨hd1.typeIs, ?_⟩) hn1) hn3) hn2)
  refine wpAny_getItem_of (knd := mixKind prog w) (k := .inr x) ?_ hd1.mapOf hv ?_
  · exact kV_is (k := .inr x) ⟨t0, rfl⟩
  · exact ⟨_, _, _, rfl, rfl, hk⟩
end
def strV : Value → Str
  | .str x _ => x
  | _ => ""
theorem vals_str {xs : List Str} {us : List Value} (r : Vals (xs.map V.str) us) : us.map strV = xs ∧ ∀ u ∈ us, ∃ t, u = .str (strV u) t := by
  induction xs generalizing us with
  | nil => cases r; exact ⟨rfl, fun _ h => nomatch h⟩
  | cons x xs ih =>
    cases r with
    | cons r1 r2 =>
      obtain ⟨t, rfl⟩ := r1
      obtain ⟨e, h⟩ := ih r2
      refine ⟨by rw [List.map_cons, e]; rfl, fun u hu => ?_⟩
      rcases List.mem_cons.mp hu with z | z
      · rw [z]; exact ⟨t, rfl⟩
      · exact h u z
theorem vals_of_str : ∀ {us : List Value}, (∀ u ∈ us, ∃ t, u = .str (strV u) t) → Vals ((us.map strV).map V.str) us
  | [], _ => .nil
  | u :: us, h => by
    obtain ⟨t, e⟩ := h u List.mem_cons_self
    exact .cons ⟨t, e⟩ (vals_of_str fun v hv => h v (List.mem_cons_of_mem _ hv))
theorem ints_at : ∀ {vs : List Value} {ns : List Int} {i : Nat} {n : Int}, IntsAre vs ns → ns[i]? = some n → ∃ t, vs[i]? = some (.int n t)
  | _, _, i, n, .nil, e => by simp at e
  | _, _, 0, n, .cons k t _, e => by
    have : k = n := by simpa using e
    subst this
    exact ⟨t, rfl⟩
  | _, _, i + 1, n, .cons _ _ r, e => by
    obtain ⟨t, h⟩ := ints_at (i := i) r (by simpa using e)
    exact ⟨t, by simpa using h⟩
theorem zip_key {kz : Str → Int} : ∀ {us : List Value} {p : Int × Value}, p ∈ ((us.map strV).map kz).zip us → p.2 ∈ us ∧ p.1 = kz (strV p.2)
  | [], p, h => by simp at h
  | u :: us, p, h => by
    rw [List.map_cons, List.map_cons, List.zip_cons_cons] at h
    rcases List.mem_cons.mp h with z | z
    · rw [z]; exact ⟨List.mem_cons_self, rfl⟩
    · obtain ⟨h1, h2⟩ := zip_key z
      exact ⟨List.mem_cons_of_mem _ h1, h2⟩
theorem sortK_out {kz : Str → Int} {us out : List Value} (h : KskOut false ((us.map strV).map kz) us out) : (∀ u ∈ out, u ∈ us) ∧ SortK kz (us.map strV) (out.map strV) := by
  obtain ⟨ps, hp, rfl, hs⟩ := h
  have hz : ∀ p ∈ ps, p.2 ∈ us ∧ p.1 = kz (strV p.2) := fun p hm => zip_key (hp.mem_iff.mp hm)
  refine ⟨fun u hu => ?_, ?_, ?_⟩
  · obtain ⟨p, hm, rfl⟩ := List.mem_map.mp hu
    exact (hz p hm).1
  · have e : (((us.map strV).map kz).zip us).map (fun p => strV p.2) = us.map strV := by
      have : (((us.map strV).map kz).zip us).map Prod.snd = us := List.map_snd_zip (by simp)
      have h2 := congrArg (List.map strV) this
      rw [List.map_map] at h2
      exact h2
    rw [List.map_map, ← e]
    exact hp.map _
  · rw [List.map_map, List.pairwise_map]
    refine hs.imp_of_mem fun {a b} ha hb hab => ?_
    have hab : a.1 ≤ b.1 := hab
    rw [(hz a ha).2, (hz b hb).2] at hab
    exact hab
section
variable {X : Cx}
def SortAsk (P : Addr) (pos : Pos) (q : Str) (i : Nat) (σ : St) (Q : VK) (x : V) (H1 : Hp) : Prop := ∃ (l : Addr) (xs : List Str) (d : Addr) (kvs : List (Key × V)) (kz : Str → Int), x = .ref l ∧ H1 l = some (.lst (xs.map V.str)) ∧ xs.length < 64 ∧ σ[i]? = some (some (.ref d)) ∧ H1 d = some (.dK kvs) ∧
  (∀ x ∈ xs, valV kvs (.inr x) = some (.int (kz x))) ∧ TblAt H1 P pos q ∧ ∀ r ys H2, H1 r = none → H2 r = some (.lst (ys.map V.str)) → SortK kz xs ys → StabK kz xs ys → TblAt H2 P pos q → But P H1 H2 → Q (.ref r) H2
def tSortK (P : Addr) (pos : Pos) (q : Str) (i : Nat) (te : TE) : TE := fun σ H Q => te σ H (SortAsk P pos q i σ Q)
theorem pe_sortK {e : Expr} {te : TE} {p1 p2 kp lp q1 q2 q3 : Pos} {params : Arguments} {scope : Scope} {i k : Nat} {nm lv : Str} {P c : Addr} (hg : Gl X "sorted") (hm : X.mg "sorted" = none) (he : PE X e te) (hr : Room k X.A)
    (hcd : X.env.code = .ref c) (hC : codeHdIn X.K c P = true) (hB : BMain X.mg X.base) (hdef : defaultsOf params X.env = ([], [])) (hN : X.N[i]? = some lv) (hlv : X.env.scope.names.lookup lv = some .cell) (hcl : ∀ cc, X.env.cells.lookup lv = some cc → closureFor scope X.env = pure [(lv, cc)])
    (hsc : scope.kind = .function ∧ scope.isCoroutine = false ∧ scope.isGenerator = false ∧ scope.names.lookup nm = some .local ∧ scope.names.lookup lv = some .free ∧ ∀ x ∈ scope.names, x.2 ≠ .cell)
    (hbind : ∀ (cc c' : Addr) (pm ctv v : Value), bindArgs (kla_fn "<lambda>" (X.env.qual ++ "<lambda>") params (.Subscript (.Name lv q1) (.Name nm q2) q3) scope [(lv, cc)] pm (.ref c') ctv) ⟨[v], []⟩ = pure [(nm, v)])
    (hn1 : (nm == ("__debug__" : Str)) = false := by decide) (hn2 : (lv == ("__debug__" : Str)) = false := by decide) (hn3 : (lv == ("__classdict__" : Str)) = false := by decide) (hn : noStar [e] = true := by rfl) :
    PE X (.Call (.Name "sorted" p1) [e] [⟨some "key", .Lambda params (.Subscript (.Name lv q1) (.Name nm q2) q3) scope lp, kp⟩] p2) (tSortK P lp (X.env.qual ++ "<lambda>") i te) := by
  intro pins s σ H Q I h
  refine wpAny_Call_Name_kw (ld_blt I hg hm NP.bt_sorted ?_ (by decide) (by decide))
  have hx : ∃ cc, X.env.cells.lookup lv = some cc := I.ok.has lv (.inl hlv)
  obtain ⟨cc, hcc⟩ := hx
  refine callWith_kw (thn ((pa_e he pa_nil hn) p2 pins s σ H (fun vs H1 => match vs with | [x] => SortAsk P lp (X.env.qual ++ "<lambda>") i σ Q x H1 | _ => False) I h) fun us s1 ⟨vs, H1, I1, r1, hv⟩ => ?_) ?_ ?_ rfl rfl
  · match vs, hv, r1 with
    | [x], ⟨l, xs, d, kvs, kz, ex, hl, h64, hσ, hd, hval, tb, q⟩, r1 =>
    subst ex
    obtain ⟨u, rfl, ru⟩ := vals1 r1
    cases ru
    refine kws_cons (lam_make I1 hcd hC hB tb hdef (hcl cc hcc) fun f c' ctv H' s2 I2 hf Hf hc' tb' bt => kws_nil ?_)
    have hPs : ∃ u, H1 P = some (.tbl u) := tb.elim (fun e => ⟨_, e⟩) (fun ⟨c, e, _⟩ => ⟨_, e⟩)
    obtain ⟨pt, hPt⟩ := hPs
    have hl2 : H' l = some (.lst (xs.map V.str)) := bt _ _ (fun z => by rw [z, hPt] at hl; cases hl) hl
    have hd2 : H' d = some (.dK kvs) := bt _ _ (fun z => by rw [z, hPt] at hd; cases hd) hd
    obtain ⟨its, rv, hil, hlt⟩ := lst_iter I2 hl2
    obtain ⟨eit, hit⟩ := vals_str rv
    obtain ⟨m, F⟩ := I2.fr
    obtain ⟨zd, nd, dv, rel, hdd⟩ := I2.hok d _ hd2
    have hcell : s2.heap.IsCell cc (some (.ref d)) := by
      obtain ⟨m', hn', hl'⟩ := I2.loc
      obtain ⟨u, ru, lk⟩ := hl' i lv (.ref d) hN hσ (.inr (.inl hlv))
      cases ru
      rcases lk with ⟨hk, _⟩ | ⟨_, c2, e2, e3⟩
      · have hk : X.env.scope.names.lookup lv = some .local := hk
        rw [hlv] at hk; cases hk
      · rw [hcc] at e2; cases e2; exact e3
    have hrec : s2.heap.CodeRec (.ref c') (X.env.qual ++ "<lambda>") := codeE_of I2.hok hc'
    have nL : ∀ b o, s2.heap.get? b = some o → (∀ es ep, o.data ≠ .dict es ep) → b ≠ X.env.locals := fun b o e n z => by
      obtain ⟨oL, es, ep, e2, d2, _⟩ := F.ns
      rw [← z, e] at e2; cases e2; exact n _ _ d2
    have keepA : ∀ (h : Heap) (own : List (Addr × Obj)), Fr X.base X.env.locals h m → News X.base X.env.locals h (allNews X.base s2.heap X.env.locals ++ own) → ∀ b o, b ≠ X.env.locals → s2.heap.get? b = some o → h.get? b = some o := fun h own F' N' b o nb e => by
      cases z : X.base.get? b with
      | some u =>
        have := I2.bk b u z
        rw [e] at this; cases this
        exact F'.keep b _ z
      | none => exact (N' (b, o) (List.mem_append_left _ (mem_allNews nb z e))).1
    have hil2 : its.length = xs.length := by have := rv.length; rw [List.length_map] at this; exact this.symm
    have step : ∀ (v : Value), v ∈ its → ∀ (h : Heap) (tk : Nat) (own : List (Addr × Obj)), Fr X.base X.env.locals h m → News X.base X.env.locals h (allNews X.base s2.heap X.env.locals ++ own) →
        wpAny (model X.prog X.w) X.A.in1.in1 (call (.ref f) [v]) (fun v' s' => ∃ h' tk' t', s' = { s2 with heap := h', toks := tk' } ∧ v' = .int (kz (strV v)) t' ∧ ∀ b o, h.get? b = some o → h'.get? b = some o) (fun _ _ => False) { s2 with heap := h, toks := tk } := by
      intro v hvm h tk own F' N'
      obtain ⟨t, ev⟩ := hit v hvm
      have hmem : strV v ∈ xs := by rw [← eit]; exact List.mem_map.mpr ⟨v, hvm, rfl⟩
      have kp := keepA h own F' N'
      obtain ⟨w', hw, rw'⟩ := RelO.some_of (v := .int (kz (strV v))) (o := valueAt dv (.inr (strV v))) (by have := rel.val (.inr (strV v)); rw [hval _ hmem] at this; exact this)
      obtain ⟨tk', ew⟩ := rw'
      subst ew
      have dL : d ≠ X.env.locals := fun z => by rw [z, I2.free] at hd2; cases hd2
      have cL : cc ≠ X.env.locals := I2.cne lv cc hcc
      have fL : f ≠ X.env.locals := nL f _ hf (fun es ep z => by cases z)
      have c'L : c' ≠ X.env.locals := fun z => by rw [z, I2.free] at hc'; cases hc'
      have hroom : X.A.depth < recursionLimit := by have := hr.dp; omega
      have hk1 := lam_key (prog := X.prog) (w := X.w) (A := X.A.in1.in1) (s := { s2 with heap := h, toks := tk }) (nm := nm) (lv := lv) (x := strV v) (k := kz (strV v)) (t := tk') (t0 := t) (vs := dv) (kp f _ fL hf) (by
        obtain ⟨c2, o, vs, t2, e1, e2, r⟩ := hrec
        cases e1
        exact ⟨c', o, vs, t2, rfl, kp _ _ c'L e2, r⟩) (by
        obtain ⟨o, e1, r⟩ := hcell
        exact ⟨o, kp _ _ cL e1, r⟩) (by
        obtain ⟨o, es, ep, e1, r⟩ := hdd
        exact ⟨o, es, ep, kp _ _ dL e1, r⟩) hw hroom (I2.ok.mod.nolimit.keeps F'.keep) hsc (hbind cc c' _ ctv _) hn1 hn2 hn3
      rw [← ev] at hk1
      exact hk1
    have fin : ∀ (D : Addr) (h' : Heap) (tk : Nat) (out : Array Value) (c : Nat), Fr X.base X.env.locals h' m → News X.base X.env.locals h' ((D, seqObj "list" out c) :: allNews X.base s2.heap X.env.locals) → (∀ q ∈ allNews X.base s2.heap X.env.locals, q.1 < D) → (∀ u ∈ out.toList, u ∈ its) → StabK kz xs (out.toList.map strV) → EP X pins σ Q (.ref D) { s2 with heap := h', toks := tk } := by
      intro D h' tk out c F' N' hlt2 hsub hstab
      have hsort := stab_sort hstab
      have hD := N' (D, seqObj "list" out c) List.mem_cons_self
      have N2 : News X.base X.env.locals h' (allNews X.base s2.heap X.env.locals ++ []) := fun p hp => N' p (List.mem_cons_of_mem _ (by rw [List.append_nil] at hp; exact hp))
      have kp := keepA h' [] F' N2
      have tL : ∀ b u, H' b = some u → b ≠ X.env.locals := fun b u e z => by rw [z, I2.free] at e; cases e
      have neD : ∀ b o, s2.heap.get? b = some o → b ≠ D := fun b o e z => by
        by_cases hb : b = X.env.locals
        · exact hD.2.1 (z.symm.trans hb)
        · cases y : X.base.get? b with
          | some u => rw [z] at y; rw [hD.2.2] at y; cases y
          | none => exact absurd (hlt2 (b, o) (mem_allNews hb y e)) (by rw [z]; exact Nat.lt_irrefl _)
      have HD : H' D = none := by
        cases y : H' D with
        | none => rfl
        | some u =>
          obtain ⟨o, e⟩ := (show ∃ o, s2.heap.get? D = some o from obj_has (I2.hok D u y))
          exact absurd rfl (neD D o e)
      have vs2 : Vals ((out.toList.map strV).map V.str) out.toList := vals_of_str fun u hu => hit u (hsub u hu)
      have hlen : (out.toList.map strV).length = xs.length := hsort.1.length_eq
      have I3 : Inv X pins σ (upd H' D (.lst ((out.toList.map strV).map V.str))) { s2 with heap := h', gens := s2.gens, drawn := s2.drawn, toks := tk } := by
        refine I2.step (g' := s2.gens) (d' := s2.drawn) (ch := []) (fun _ z => nomatch z) (fun b o nb _ _ e _ => kp b o nb e) (fun b o nb _ _ e _ => ⟨o.slots, kp b o nb e⟩) (fun b o _ e n => by rw [upd_ne (neD b o e)]; exact n) (fun b o _ e => ?_)
          (fun b ys e => by rw [upd_ne (ne_of_none e HD)]; exact e) (fun b o u e => by rw [upd_ne (ne_of_none e HD)]; exact e) (fun b ps e => ⟨#[], by rw [upd_ne (ne_of_none e HD), e]; simp⟩) (fun m' hm' => ?_) (fun b u e => ?_) I2.bare
        · by_cases hb : b = X.env.locals
          · obtain ⟨oL, _, _, e2, _⟩ := F'.ns
            exact ⟨oL, by rw [hb]; exact e2⟩
          · exact ⟨o, kp b o hb e⟩
        · have em : m' = m := funext fun x => hm'.agree F.ns x
          rw [em]
          exact F'.ns
        · by_cases hb : b = D
          · subst hb
            rw [upd_same] at e
            cases e
            refine ⟨by rw [List.length_map, hlen]; exact line1000 (by omega), out.toList, c, vs2, ?_⟩
            rw [Array.toArray_toList]
            exact hD.1
          · rw [upd_ne hb] at e
            refine (I2.hok b u e).stay (fun b' u' hb' q' => kp b' u' ?_ q') (fun b' q' => by rw [upd_ne (ne_of_none q' HD)]; exact q') fun b' ys q' => by rw [upd_ne (ne_of_none q' HD)]; exact q'
            rcases hb' with r | r
            · rw [r]; exact tL b u e
            · exact tL b' _ r
      have H1D : H1 D = none := by
        cases y : H1 D with
        | none => rfl
        | some u =>
          have hDP : D ≠ P := fun z => by
            have : H' P = none := by rw [← z]; exact HD
            rcases tb' with e | ⟨_, e, _⟩ <;> · rw [this] at e; cases e
          rw [bt _ _ hDP y] at HD; cases HD
      exact ⟨.ref D, _, I3, rfl, q D _ _ H1D upd_same hsort hstab (tb'.same (same_upd HD)) (bt.new HD)⟩
    by_cases h2 : 2 ≤ its.length
    · refine kat_sortedK (f := .ref f) (b := false) F news_all hil h2 (by omega) (ksk_s1 _ _) (fun x => ksk_l1 _ _) (fun x => ksk_t1 _ _) fun D kS e1 h' F' N' hDk hlt2 => ?_
      have keys : ∀ (rest ks don : List Value) (e : Nat) (h : Heap) (tk : Nat), its = don ++ rest → IntsAre ks ((don.map strV).map kz) → Fr X.base X.env.locals h m → News X.base X.env.locals h ((kS, seqObj "list" (List.toArray ks) e) :: (D, seqObj "list" #[] e1) :: allNews X.base s2.heap X.env.locals) →
          KatKeys X.prog X.w X.A.in1.in1 X.base X.env.locals m kS (.ref f) (fun ks e s' => wpAny (model X.prog X.w) X.A.in1.in1 (keyKind' (List.toArray ks)) (fun κ s'' => (kas_sort its.length).kasWp (kas_ask X.prog X.w X.A.in1.in1 κ (katRev false ks)) (fun p s3 => KatFin X.base X.env.locals m kS D ks e e1 (katRev false (p.toList.map fun i => (katRev false its).getD i Value.none)) (fun s4 => EP X pins σ Q (.ref D) s4) s3) s'') (fun _ _ => False) s') rest ks e { s2 with heap := h, toks := tk } := by
        intro rest
        induction rest with
        | nil =>
          intro ks don e h tk eq hi Fh Nh
          rw [List.append_nil] at eq
          subst eq
          have hkl : ks.length = its.length := by have := hi.length; rw [List.length_map, List.length_map] at this; exact this
          show wpAny (model X.prog X.w) X.A.in1.in1 (keyKind' (List.toArray ks)) _ _ _
          rw [ksk_kind (keys := List.toArray ks) (kz := (its.map strV).map kz) (by simpa using hi) (by simp; omega)]
          refine wpAny_pure ?_
          have kat : ∀ i, i < its.length → ∃ t, ks.getD i Value.none = .int (kz (strV (its.getD i Value.none))) t := fun i hi2 => by
            have h1 : ((its.map strV).map kz)[i]? = some (kz (strV (its.getD i Value.none))) := by
              rw [List.getElem?_map, List.getElem?_map, List.getElem?_eq_getElem hi2, List.getD_eq_getElem?_getD, List.getElem?_eq_getElem hi2]; rfl
            obtain ⟨t, ht⟩ := ints_at hi h1
            exact ⟨t, by rw [List.getD_eq_getElem?_getD, ht]; rfl⟩
          refine kasWp_of (n := its.length) (key := fun i => kz (strV (its.getD i Value.none))) (Qp := fun p => Srt its.length (fun i => kz (strV (its.getD i Value.none))) p its.length) (fun i j C hi2 hj2 hC => ?_) (fun p hp => ?_) (sort_ok h2)
          · obtain ⟨t1, e1'⟩ := kat i hi2
            obtain ⟨t2, e2'⟩ := kat j hj2
            show wpAny _ _ (keyLt' oneType' (ks.getD i Value.none) (ks.getD j Value.none)) C _ _
            rw [e1', e2']
            exact kat_lt_int hC
          · have nkD : kS ≠ D := Nat.ne_of_gt hDk
            have nall : ∀ q ∈ allNews X.base s2.heap X.env.locals, q.1 ≠ kS ∧ q.1 ≠ D := fun q hq => by have := hlt2 q hq; exact ⟨Nat.ne_of_lt (Nat.lt_trans this hDk), Nat.ne_of_lt this⟩
            refine KatFin.intro Fh Nh (.head fun q hq => ?_) fun h3 c3 F3 N3 => KasFin.intro F3 N3 (.tail nkD (.head fun q hq => (nall q hq).2)) fun h4 c4 F4 N4 => ?_
            · rcases List.mem_cons.mp hq with z | z
              · rw [z]; exact Ne.symm nkD
              · exact (nall q z).1
            · refine fin D h4 tk (List.toArray (p.toList.map fun i => its.getD i Value.none)) c4 F4 (fun q hq => N4 q (List.mem_cons_of_mem _ hq)) hlt2 (fun u hu => ?_) ?_
              · have hu : u ∈ p.toList.map fun i => its.getD i Value.none := by simpa using hu
                obtain ⟨i, hi2, rfl⟩ := List.mem_map.mp hu
                have hi3 : i < its.length := List.mem_range.mp (hp.pm.mem_iff.mp hi2)
                rw [List.getD_eq_getElem?_getD, List.getElem?_eq_getElem hi3]
                exact List.getElem_mem hi3
              · have exs : ∀ i, xs.getD i "" = strV (its.getD i Value.none) := fun i => by
                  rw [← eit, List.getD_eq_getElem?_getD, List.getD_eq_getElem?_getD, List.getElem?_map]
                  cases its[i]? <;> rfl
                refine ⟨p.toList, by rw [← hil2]; exact hp.pm, ?_, ?_⟩
                · rw [List.map_map]
                  exact List.map_congr_left fun i _ => (exs i).symm
                · have : (fun i => kz (xs.getD i "")) = fun i => kz (strV (its.getD i Value.none)) := funext fun i => by rw [exs]
                  rw [this]
                  exact srt_pw hp
        | cons v r ih =>
          intro ks don e h tk eq hi Fh Nh
          have hvm : v ∈ its := by rw [eq]; simp
          have Nh2 : News X.base X.env.locals h (allNews X.base s2.heap X.env.locals ++ [(kS, seqObj "list" (List.toArray ks) e), (D, seqObj "list" #[] e1)]) := fun q hq => by
            rcases List.mem_append.mp hq with z | z
            · exact Nh q (List.mem_cons_of_mem _ (List.mem_cons_of_mem _ z))
            · rcases List.mem_cons.mp z with y | y
              · rw [y]; exact Nh _ List.mem_cons_self
              · rw [List.mem_singleton.mp y]; exact Nh _ (List.mem_cons_of_mem _ List.mem_cons_self)
          refine KatKeys.cons (wpAny_mono (step v hvm h tk _ Fh Nh2) (fun v' s' hh => ?_) (fun _ _ z => z))
          obtain ⟨h3, tk3, t3, e1', e2', k3⟩ := hh
          subst e1' e2'
          have nkD : kS ≠ D := Nat.ne_of_gt hDk
          refine KatBack.intro (F := Fh.kept k3) (N := Nh.grown k3) (U := .head fun q hq => ?_) fun h4 c4 F4 N4 => ?_
          · rcases List.mem_cons.mp hq with z | z
            · rw [z]; exact Ne.symm nkD
            · have := hlt2 q z; exact Nat.ne_of_lt (Nat.lt_trans this hDk)
          · exact ih (ks ++ [.int (kz (strV v)) t3]) (don ++ [v]) c4 h4 tk3 (by rw [eq]; simp) (by rw [List.map_append, List.map_append]; exact ksk_snoc hi) F4 N4
      exact keys its [] [] 0 h' s2.toks rfl .nil F' N'
    · refine ksk_sorted (kz := (its.map strV).map kz) (f := .ref f) (b := false) F news_all hil (by simp) (by omega) (ksk_s1 _ _) (fun x => ksk_l1 _ _) (fun x => ksk_t1 _ _) (fun j v kk hv hk h tk own F' N' => ?_) (fun D h' tk out c F' N' hlt2 hout => ?_)
      · have ek : kk = kz (strV v) := by
          rw [List.getElem?_map, List.getElem?_map, hv] at hk
          exact (Option.some.inj hk).symm
        subst ek
        refine wpAny_mono (step v (List.mem_of_getElem? hv) h tk own F' N') (fun v' s' hh => ?_) (fun _ _ z => z)
        obtain ⟨h3, tk3, t3, e1, e2, k3⟩ := hh
        subst e1 e2
        exact ⟨h3, tk3, t3, rfl, rfl, F'.kept k3, N'.grown k3⟩
      · obtain ⟨hsub, hsort⟩ := sortK_out hout
        rw [eit] at hsort
        exact fin D h' tk out c F' N' hlt2 hsub (stab_small hsort.1 (by omega))
  · rw [starEach_of hn]; rfl
  · exact backTo_any hn
end
end L2
set_option Elab.async false
set_option linter.all false
set_option maxRecDepth 100000
namespace L2
open PySem PySem.Spec PyProof.Rows PySem.W NP
def Start (H : Hp) (a Pt : Addr) : Prop := ∀ b u, H b = some u → (b = Pt ∧ u = .tbl #[]) ∨ (b = a ∧ ∃ o xs, u = .frz o (.lst xs))
theorem head_run {P : Program} {w : World} {K : Frag} {mg mb : Str → Option Value} {k : Nat} {fa a Pt ct : Addr} {fd : FuncData} {x : Str} {sp : Sp} {s₁ : Shared} {H : Hp}
    (KX : K.In s₁.heap) (hns : s₁.heap.Ns mainGlobals mg) (hb : s₁.heap.Ns builtinsNs mb) (hbb : ∀ x : Str, x ≠ "__name__" → mb x = bootBuiltins x) (hlim : s₁.heap.NoLimit) (hg : s₁.gens = #[]) (hr : Room k callerA)
    (hT : s₁.heap.TableAt ct Pt #[]) (hBM : BMain mg s₁.heap) (hO : Start H a Pt) (hHK : ∀ b u, H b = some u → K.lookup b = none) (ok : HOk P w H s₁.heap)
    (F : ∀ base : Heap, K.In base → base.Ns mainGlobals mg → BMain mg base → FnOk P w K mg base CX0 k fa fd [x] sp) (hbind : ∀ (s : Shared) (u : Value), BindsTo s fd ⟨[u], []⟩ [(x, u)])
    (hsp : sp [.ref a] H (fun v _ => v = .bl true) fun _ _ _ => False) :
    codeAny (model P w) callerA (.call (.ref fa) ⟨[.ref a], []⟩) (fun r s' => r = .ok (.ret (.bool true)) ∧ OldK s₁.heap s'.heap ∧ s'.os = s₁.os ∧ AllBare s'.gens) s₁ := by
  have noD : ∀ {b : Addr} {o : Obj}, s₁.heap.get? b = some o → (∀ vs : Array Value, o.data ≠ .fields vs) → (∀ vs n, o.data ≠ .seq vs n) → H b = none := fun {b o} e n1 n2 => by
    cases q : H b with
    | none => rfl
    | some u =>
      have y := ok b u q
      rcases hO b u q with ⟨_, rfl⟩ | ⟨_, ob, xs, rfl⟩
      · have y : s₁.heap.get? b = some { cls := .none, data := .fields #[] } := y
        rw [e] at y; cases y; exact absurd rfl (n1 _)
      · obtain ⟨_, _, its, m, _, y3⟩ := y
        rw [e] at y3; cases y3; exact absurd rfl (n2 _ _)
  have baseG : ∀ {b : Addr} {o : Obj}, s₁.heap.get? b = some o → H b = none → (hidT s₁.heap H).get? b = some o := fun e n => hidT_get e n
  have nsB : ∀ {b : Addr} {m : Str → Option Value}, s₁.heap.Ns b m → (hidT s₁.heap H).Ns b m := fun {b m} ⟨o, es, ep, e, d, r⟩ => ⟨o, es, ep, baseG e (noD e (fun _ z => by rw [d] at z; cases z) (fun _ _ z => by rw [d] at z; cases z)), d, r⟩
  have kB : K.In (hidT s₁.heap H) := fun b o e => baseG (KX b o e) (by
    cases q : H b with
    | none => rfl
    | some u => rw [hHK b u q] at e; cases e)
  have bB : BMain mg (hidT s₁.heap H) := by
    obtain ⟨bm, ob, b1, b2, b3, b4, b5, b6, b7⟩ := hBM
    exact ⟨bm, ob, b1, b2, b3, baseG b4 (noD b4 (fun _ z => by rw [b7] at z; cases z) (fun _ _ z => by rw [b7] at z; cases z)), b5, b6, b7⟩
  have mB : Mod K mg (hidT s₁.heap H) := ⟨kB, nsB hns, ⟨mb, nsB hb, hbb⟩, let ⟨mc, h1, h2⟩ := hlim; ⟨mc, nsB h1, h2⟩⟩
  have e0 : Env0 P w K mg (hidT s₁.heap H) callerA [] s₁ H := ⟨rfl, mB, fun b o e => of_hidT e, Nat.le_of_eq (hidT_size _ _), trivial, (fun b hb => nomatch (show b ∈ ([] : List Addr) from hb)), ok, .of_eq hg⟩
  refine codeAny_mono ((F _ kB (nsB hns) bB).run callerA [] s₁ H ⟨[.ref a], []⟩ [.ref a] [.ref a] _ _ hr e0 (hbind s₁ (.ref a)) (.cons rfl .nil) hsp) fun r s' h => ?_
  cases r with
  | error e => exact h.elim
  | ok fl =>
    cases fl with
    | next => exact h.elim
    | brk => exact h.elim
    | cont => exact h.elim
    | ret u =>
      obtain ⟨v, H', os, bare, un, ok', r', q⟩ := h
      have q : v = .bl true := q
      subst q
      obtain rfl : u = Value.bool true := r'
      have old : ∀ b o, s₁.heap.get? b = some o → asItWas s₁.heap s'.heap b o := fun b o e => by
        cases y : H b with
        | none => exact .inl (un.keep b o e y (by intro z; cases z) (by simp))
        | some u =>
          have ob := ok b u y
          rcases hO b u y with ⟨rfl, rfl⟩ | ⟨_, oo, xs, rfl⟩
          · obtain ⟨more, e2⟩ := un.tbls b #[] y
            have ob : s₁.heap.get? b = some { cls := .none, data := .fields #[] } := ob
            rw [e] at ob
            cases ob
            have e3 : s'.heap.get? b = some { cls := .none, data := .fields (#[] ++ more) } := ok' b _ e2
            exact .inr (.inl ⟨hT.isCodeTable, rfl, #[], more, rfl, e3⟩)
          · have e2 := un.frzs b oo _ y
            have e3 := (ok' b _ e2).1
            have e4 := ob.1
            rw [e] at e4
            cases e4
            exact .inl e3
      exact ⟨rfl, ⟨old, fun b o e => un.there b o e (by simp)⟩, os, bare⟩
theorem walk_tab {l : OpenLaw} {n k : Nat} {q : Program} {loose : List Str} {XP : (Str → Option Value) → Heap → Prop} {YP : World → Heap → Prop} {d dw : DefRec} {K : Params → Frag} {sp : World → Addr → Sp} {x wk : Str}
    (hn : l.most = some n) (hn2 : n ≤ sizeLine) (hdf : d.params.defaults = []) (hr : Room k callerA) (hY : ∀ (w : World) (h : Heap), YP w h → (K w.params).In h) (hw : (recsOf q).find? (fun e => e.name == wk) = some dw)
    (F : ∀ (w : World) (mg : Str → Option Value) (fa : Addr) (h : Heap), (K w.params).In h → h.Ns mainGlobals mg → mg d.name = some (.ref fa) →
      ∃ (fd : FuncData) (ct Pt : Addr), (∀ (s : Shared) (u : Value), BindsTo s fd ⟨[u], []⟩ [(x, u)]) ∧ tabIn (K w.params) wk = some (ct, Pt) ∧ (K w.params).lookup Pt = none ∧
        ∀ base : Heap, (K w.params).In base → base.Ns mainGlobals mg → BMain mg base → FnOk l.prog w (K w.params) mg base CX0 k fa fd [x] (sp w Pt))
    (hsp : ∀ (w : World) (H : Hp) (a Pt : Addr) (ns : List Int), ns.length ≤ n → H Pt = some (.tbl #[]) → SqL (K w.params) H a (ns.map V.int) → sp w Pt [.ref a] H (fun v _ => v = .bl true) fun _ _ _ => False) :
    WalkO q loose XP YP l.row.toRowW d [] (fun f vs => PySem.call f vs) := by
  refine Att.attach_call hn hdf fun w s₀ s₁ mg mb fa o pm cd doc a vs ns G Y ho hd hcd hmg hobj hints hlen hg => ?_
  have KX := hY w _ Y
  obtain ⟨fd, ct, Pt, hbd, htab, hKP, hF⟩ := F w mg fa _ KX G.T.g hmg
  obtain ⟨hC, hP⟩ := tab_of G.T KX hw htab
  have hT := hC.tab hP
  have aP : a ≠ Pt := fun z => by rw [z, hP] at hobj; cases hobj
  have hBM : BMain mg s₁.heap := by
    obtain ⟨bm, ob, b1, b2, b3, b4, b5, b6⟩ := G.T.bmain
    refine ⟨bm, ob, b1, b2, fun z => ?_, b3, b4, b5, b6⟩
    obtain ⟨og, es, ep, e, dg, _⟩ := G.T.g
    rw [← z, b3] at e
    cases e
    rw [b6] at dg
    cases dg
  have rv := vals_ints hints
  have lenV := hints.length
  have okP : ∀ H : Hp, ObjOk l.prog w H s₁.heap Pt (.tbl #[]) := fun _ => hP
  cases hk : (K w.params).lookup a with
  | some oa =>
    have e := KX a oa hk
    rw [hobj] at e
    cases e
    refine head_run (H := upd (fun _ => none) Pt (.tbl #[])) KX G.T.g G.T.b G.T.builtins G.T.nolimit hg hr hT hBM (fun b u y => ?_) (fun b u y => ?_) (fun b u y => ?_) hF hbd (hsp w _ a Pt ns hlen upd_same (.inr ⟨_, vs.toArray, _, hk, rfl, rfl, rfl, by rw [List.size_toArray, lenV]; exact Nat.le_trans hlen hn2, by simpa using rv⟩))
    · by_cases z : b = Pt
      · subst z; rw [upd_same] at y; cases y; exact .inl ⟨rfl, rfl⟩
      · rw [upd_ne z] at y; cases y
    · by_cases z : b = Pt
      · rw [z]; exact hKP
      · rw [upd_ne z] at y; cases y
    · by_cases z : b = Pt
      · subst z; rw [upd_same] at y; cases y; exact okP _
      · rw [upd_ne z] at y; cases y
  | none =>
    refine head_run (H := upd (upd (fun _ => none) Pt (.tbl #[])) a (.frz { cls := .type "list", data := .seq vs.toArray } (.lst (ns.map V.int)))) KX G.T.g G.T.b G.T.builtins G.T.nolimit hg hr hT hBM (fun b u y => ?_) (fun b u y => ?_) (fun b u y => ?_) hF hbd (hsp w _ a Pt ns hlen (by rw [upd_ne (Ne.symm aP), upd_same]) (.inl (.inr ⟨_, upd_same⟩)))
    · by_cases z2 : b = a
      · subst z2; rw [upd_same] at y; cases y; exact .inr ⟨rfl, _, _, rfl⟩
      · rw [upd_ne z2] at y
        by_cases z : b = Pt
        · subst z; rw [upd_same] at y; cases y; exact .inl ⟨rfl, rfl⟩
        · rw [upd_ne z] at y; cases y
    · by_cases z2 : b = a
      · rw [z2]; exact hk
      · rw [upd_ne z2] at y
        by_cases z : b = Pt
        · rw [z]; exact hKP
        · rw [upd_ne z] at y; cases y
    · by_cases z2 : b = a
      · subst z2; rw [upd_same] at y; cases y
        exact ⟨hobj, by rw [List.length_map]; exact Nat.le_trans hlen hn2, vs, _, rv, hobj⟩
      · rw [upd_ne z2] at y
        by_cases z : b = Pt
        · subst z; rw [upd_same] at y; cases y; exact okP _
        · rw [upd_ne z] at y; cases y
def codeVs (vs : Array Value) (c P : Addr) : Bool := (match vs.getD 18 .none with | .str _ _ => true | _ => false) && (match vs.getD 7 .none with | .int _ _ => true | _ => false) && (match vs.getD 9 .none with | .bool _ => true | _ => false) && (match vs.getD 10 .none with | .int _ _ => true | _ => false) && c != P
theorem codeHd_mk {K : Frag} {c P : Addr} {od : Option Addr} {vs : Array Value} {sl : Array (Option Value)} (tl : K.lookup c = some ⟨.type "code", od, .fields vs, sl⟩) (h11 : vs[11]? = some (.ref P)) (h : codeVs vs c P = true) : codeHdIn K c P = true := by
  unfold codeHdIn
  rw [tl]
  simp only [h11, BEq.rfl, Bool.true_and]
  exact h
theorem tab_mk {K : Frag} {x : Str} {f c P : Addr} {oc : Value} {od odc : Option Addr} {fd : FuncData} {sl slc : Array (Option Value)} {vs : Array Value} (hn : nsIn K mainGlobals x = some (some (.ref f))) (hl : K.lookup f = some ⟨oc, od, .func fd, sl⟩) (hc : fd.code = .ref c) (tl : K.lookup c = some ⟨.type "code", odc, .fields vs, slc⟩) (h11 : vs[11]? = some (.ref P)) : tabIn K x = some (c, P) := by
  unfold tabIn
  simp only [hn, hl, hc, tl, h11]
theorem code_of_tab {K : Frag} {x : Str} {f c P : Addr} {oc : Value} {od : Option Addr} {fd : FuncData} {sl : Array (Option Value)} (h : tabIn K x = some (c, P)) (hn : nsIn K mainGlobals x = some (some (.ref f))) (hl : K.lookup f = some ⟨oc, od, .func fd, sl⟩) : fd.code = .ref c := by
  unfold tabIn at h
  simp only [hn, hl] at h
  split at h
  · rename_i c' hc
    split at h
    · split at h
      · cases h
        exact hc
      · cases h
    · cases h
  · cases h
theorem closure_one {nm lv : Str} {scope : Scope} {env : Env} {cc : Addr} (hs : scope.names = [(nm, .local), (lv, .free)]) (h : env.cells.lookup lv = some cc) : closureFor scope env = pure [(lv, cc)] := by
  unfold closureFor
  rw [hs]
  simp [cellOf, h]
structure CodeAt (K : Frag) (f c P : Addr) : Prop where
  code : ∀ oc od fd sl, K.lookup f = some ⟨oc, od, .func fd, sl⟩ → fd.code = .ref c
  hd : codeHdIn K c P = true
end L2
set_option Elab.async false
set_option linter.all false
set_option maxRecDepth 100000
namespace NP
open PySem L2
def usersOf (S : Sh) (x : Str) : List Wr := S.wares.filter fun w => decide (x ∈ w.parts.map (·.1))
def lvF (S : Sh) : Nat → Str → Int
  | 0, _ => 0
  | k + 1, x => max0 ((usersOf S x).map fun u => 1 + lvF S k u.name)
def lv (S : Sh) (x : Str) : Int := lvF S S.wares.length x
structure Lev (S : Sh) : Prop where
  nd : (S.wares.map (·.name)).Nodup
  own : ∀ w ∈ S.wares, ∀ p ∈ w.parts, p.1 ∈ S.wares.map (·.name)
  low : ∃ r : Str → Nat, (∀ w ∈ S.wares, r w.name < S.wares.length) ∧ ∀ w ∈ S.wares, ∀ p ∈ w.parts, r p.1 < r w.name
theorem mem_users {S : Sh} {x : Str} {w : Wr} : w ∈ usersOf S x ↔ w ∈ S.wares ∧ x ∈ w.parts.map (·.1) := by
  unfold usersOf
  rw [List.mem_filter]
  exact ⟨fun ⟨a, b⟩ => ⟨a, of_decide_eq_true b⟩, fun ⟨a, b⟩ => ⟨a, decide_eq_true b⟩⟩
theorem lvF_nn (S : Sh) : ∀ k x, 0 ≤ lvF S k x
  | 0, _ => Int.le_refl _
  | k + 1, x => max0_nn fun y hy => by
    obtain ⟨u, _, rfl⟩ := List.mem_map.mp hy
    have := lvF_nn S k u.name
    show 0 ≤ 1 + lvF S k u.name
    omega
theorem lvF_stop {S : Sh} {r : Str → Nat} (hr : ∀ w ∈ S.wares, r w.name < S.wares.length) (hp : ∀ w ∈ S.wares, ∀ p ∈ w.parts, r p.1 < r w.name) : ∀ k w, w ∈ S.wares → S.wares.length - r w.name ≤ k → lvF S (k + 1) w.name = lvF S k w.name
  | 0, w, hw, h => by have := hr w hw; omega
  | k + 1, w, hw, h => by
    show max0 ((usersOf S w.name).map fun u => 1 + lvF S (k + 1) u.name) = max0 ((usersOf S w.name).map fun u => 1 + lvF S k u.name)
    congr 1
    apply List.map_congr_left
    intro u hu
    obtain ⟨h1, h2⟩ := mem_users.mp hu
    obtain ⟨p, hp1, hp2⟩ := List.mem_map.mp h2
    have h3 := hp u h1 p hp1
    rw [hp2] at h3
    have := hr u h1
    rw [lvF_stop hr hp k u h1 (by omega)]
theorem lv_eq {S : Sh} (L : Lev S) {w : Wr} (hw : w ∈ S.wares) : lv S w.name = max0 ((usersOf S w.name).map fun u => 1 + lv S u.name) := by
  obtain ⟨r, h1, h2⟩ := L.low
  have := lvF_stop h1 h2 S.wares.length w hw (by omega)
  exact this.symm
theorem lv_nn (S : Sh) (x : Str) : 0 ≤ lv S x := lvF_nn S _ x
theorem lv_part {S : Sh} (L : Lev S) {w : Wr} (hw : w ∈ S.wares) {p : Str × Int} (hp : p ∈ w.parts) : lv S w.name + 1 ≤ lv S p.1 := by
  obtain ⟨v, hv, e⟩ := List.mem_map.mp (L.own w hw p hp)
  rw [← e, lv_eq L hv]
  have : 1 + lv S w.name ≤ max0 ((usersOf S v.name).map fun u => 1 + lv S u.name) := max0_ge (List.mem_map.mpr ⟨w, mem_users.mpr ⟨hw, List.mem_map.mpr ⟨p, hp, e.symm⟩⟩, rfl⟩)
  omega
theorem lv_reach {S : Sh} {k : Nat} {g : Str → Int} (h0 : ∀ x, 0 ≤ g x) (h : ∀ w ∈ S.wares, ∀ p ∈ w.parts, 1 + lvF S k w.name ≤ g p.1) (x : Str) : lvF S (k + 1) x ≤ g x := by
  show max0 ((usersOf S x).map fun u => 1 + lvF S k u.name) ≤ g x
  unfold max0
  split
  · exact h0 x
  · rename_i hn
    obtain ⟨u, hu, e⟩ := List.mem_map.mp (maxL_mem hn)
    rw [← e]
    obtain ⟨h1, h2⟩ := mem_users.mp hu
    obtain ⟨p, hp1, hp2⟩ := List.mem_map.mp h2
    rw [← hp2]
    exact h u h1 p hp1
def fnD (names : List Str) (g : Str → Int) : List (Key × V) := names.map fun x => (Sum.inr x, V.int (g x))
theorem fnD_len (names : List Str) (g : Str → Int) : (fnD names g).length = names.length := by unfold fnD; rw [List.length_map]
theorem fnD_val {names : List Str} {g : Str → Int} {x : Str} (h : x ∈ names) : valV (fnD names g) (.inr x) = some (.int (g x)) := by
  induction names with
  | nil => cases h
  | cons y r ih =>
    unfold fnD
    rw [List.map_cons]
    by_cases e : y = x
    · rw [valV_pos (by rw [e])]
      rw [e]
    · rw [valV_neg (fun z => e (Sum.inr.inj z))]
      exact ih ((List.mem_cons.mp h).resolve_left fun z => e z.symm)
theorem fnD_none {names : List Str} {g : Str → Int} {x : Str} (h : x ∉ names) : valV (fnD names g) (.inr x) = none := by
  induction names with
  | nil => rfl
  | cons y r ih =>
    unfold fnD
    rw [List.map_cons, valV_neg (fun z => h (by rw [← Sum.inr.inj z]; exact List.mem_cons_self))]
    exact ih fun m => h (List.mem_cons_of_mem _ m)
theorem fnD_put {names : List Str} {g : Str → Int} {y : Str} {v : Int} (h : y ∈ names) : putK (fnD names g) (.inr y) (.int v) = fnD names fun x => if x = y then v else g x := by
  unfold putK
  rw [if_pos (by rw [valV_any, fnD_val h]; rfl)]
  unfold fnD
  rw [List.map_map]
  apply List.map_congr_left
  intro x _
  show (if Sum.inr x = (Sum.inr y : Key) then (Sum.inr x, V.int v) else (Sum.inr x, V.int (g x))) = (Sum.inr x, V.int (if x = y then v else g x))
  by_cases e : x = y
  · rw [if_pos (by rw [e]), if_pos e]
  · rw [if_neg (fun z => e (Sum.inr.inj z)), if_neg e]
theorem fnD_congr {names : List Str} {g g' : Str → Int} (h : ∀ x ∈ names, g x = g' x) : fnD names g = fnD names g' := by
  unfold fnD
  exact List.map_congr_left fun x hx => by rw [h x hx]
theorem fnD_new {names : List Str} {g : Str → Int} {y : Str} {v : Int} (h : y ∉ names) : putK (fnD names g) (.inr y) (.int v) = fnD (names ++ [y]) fun x => if x = y then v else g x := by
  rw [putK_new _ (fnD_none h)]
  unfold fnD
  rw [List.map_append]
  congr 1
  · refine List.map_congr_left fun x hx => ?_
    show (Sum.inr x, V.int (g x)) = (Sum.inr x, V.int (if x = y then v else g x))
    rw [if_neg (fun e : x = y => h (e ▸ hx))]
  · show [(Sum.inr y, V.int v)] = [(Sum.inr y, V.int (if y = y then v else g y))]
    rw [if_pos rfl]
theorem take_nin' {xs : List Str} (nd : xs.Nodup) {i : Nat} {x : Str} (h : xs[i]? = some x) : x ∉ xs.take i := by
  intro m
  obtain ⟨j, hj⟩ := List.mem_iff_getElem?.mp m
  rw [List.getElem?_take] at hj
  split at hj
  · rename_i hlt
    have hj2 : j < xs.length := (List.getElem?_eq_some_iff.mp hj).1
    have := (List.getElem?_inj hj2 nd).mp (hj.trans h.symm)
    omega
  · cases hj
end NP
set_option Elab.async false
set_option linter.all false
set_option maxRecDepth 100000
namespace L2
open PySem PySem.Spec PyProof.Rows
def ItV (a : Addr) (xs : List V) : It := ⟨fun i H => H a = some (.lst xs) ∧ i < xs.length, fun i H x H' => H' = H ∧ xs.reverse[i]? = some x, fun i H => H a = some (.lst xs) ∧ i = xs.length⟩
theorem goesV (a : Addr) (xs : List V) : Goes (ItV a xs) xs.length (fun i x => xs.reverse[i]? = some x) (fun H => H a = some (.lst xs)) :=
  ⟨fun _ _ h o => ⟨o, h⟩, fun _ _ _ _ _ _ y => y, fun _ o => ⟨o, rfl⟩⟩
theorem turn_rev {P : Program} {w : World} {K : PySem.W.Frag} {tg : Expr} (a it : Addr) (xs : List V) : Turn P w K tg (ItV a xs) [it] it (fun i h => i ≤ xs.length ∧ h.IsRevIter it a ((xs.length : Int) - 1 - (i : Int))) where
  mem := by simp
  obj := fun i h st b hb => by
    have e : b = it := by simpa using hb
    subst e
    obtain ⟨_, o, e, c, d⟩ := st
    exact ⟨o, e, fun v z => by rw [d] at z; cases z⟩
  keep := fun i h h' st k => ⟨st.1, st.2.at fun o e => k it (by simp) o e⟩
  item := by
    intro X hP hw hK hc i pins s σ H E I hf st hg
    subst hP hw hK
    obtain ⟨hq, hlt⟩ := hg
    obtain ⟨its, rv, hl, hal⟩ := lst_iter I hq
    obtain ⟨f0, f1, f2, f3, f4, f5⟩ := hf it (by simp)
    have hai : a ≠ it := ne_of_none hq f0
    have hlen := rv.length
    have hsz : its.toArray.size = xs.length := by rw [List.size_toArray]; exact hlen.symm
    have st2 : s.heap.IsRevIter it a ((its.toArray.size : Int) - 1 - (i : Int)) := by rw [hsz]; exact st.2
    refine (Walks.listRev (prog := X.prog) (w := X.w) (A := X.A) (I.ok.hd hc) it a hai its.toArray).item i s _ E (by omega) ⟨by omega, st2, hl⟩ fun v h' tk hx st3 hk => ?_
    have I1 : Inv X pins σ H { s with heap := h', toks := tk } := I.turned (t' := tk) (fun b o hb e => hk b o (by simpa using hb) e) f0 f1 f3 f4 f5
    obtain ⟨_, ⟨oi, ei, ci, di⟩, _⟩ := id st3
    have hlt2 : its.length - 1 - i < its.length := by omega
    have hx : its[its.length - 1 - i]? = some v := by rw [hsz, hlen] at hx; simpa using hx
    obtain ⟨u, hu, ru⟩ := rv.get (x := xs[xs.length - 1 - i]) (i := xs.length - 1 - i) (by simp [show xs.length - 1 - i < xs.length by omega])
    have eu : u = v := by rw [hlen, hx] at hu; exact (Option.some.inj hu).symm
    subst eu
    refine ⟨u, rfl, go_of (s := { s with heap := h', toks := tk }) ei ci di (by decide) ⟨xs[xs.length - 1 - i], H, I1, ru, ⟨rfl, ?_⟩, ?_, fun b hb => (hf b hb).1⟩⟩
    · rw [List.getElem?_reverse hlt]
      simp [show xs.length - 1 - i < xs.length by omega]
    · have := st3.2.1
      rw [hsz] at this
      exact ⟨hlt, this⟩
  done := by
    intro X hP hw hK hc i pins s σ H E I hf st hg
    subst hP hw hK
    obtain ⟨hq, hlt⟩ := hg
    obtain ⟨its, rv, hl, hal⟩ := lst_iter I hq
    obtain ⟨f0, f1, f2, f3, f4, f5⟩ := hf it (by simp)
    have hai : a ≠ it := ne_of_none hq f0
    have hlen := rv.length
    have hsz : its.toArray.size = xs.length := by rw [List.size_toArray]; exact hlen.symm
    subst hlt
    have st2 : s.heap.IsRevIter it a ((its.toArray.size : Int) - 1 - ((its.toArray.size : Nat) : Int)) := by rw [hsz]; exact st.2
    exact (Walks.listRev (prog := X.prog) (w := X.w) (A := X.A) (I.ok.hd hc) it a hai its.toArray).done s _ E ⟨Nat.le_refl _, st2, hl⟩ fun h' tk hk => ⟨rfl, I.turned (t' := tk) (fun b o hb e => hk b o (by simpa using hb) e) f0 f1 f3 f4 f5⟩
  self := fun _ _ _ _ _ st h => wpAny_pyIter_revIter st.2 h
section
variable {X : Cx}
def iRev (ta : TA) : TI := fun σ H R => ta σ H fun vs H1 => ∃ a xs, vs = [.ref a] ∧ H1 a = some (.lst xs) ∧ R (ItV a xs) H1
theorem pi_rev {tg : Expr} {p pos : Pos} {e : Expr} {ta : TA} (hg : Gl X "reversed") (hm : X.mg "reversed" = none) (ha : PA X [e] ta) (hn : noStar [e] = true := by rfl) : PI X tg (.Call (.Name "reversed" p) [e] [] pos) (iRev ta) := by
  intro pins s σ H R I h
  refine Call_ (ld_blt I hg hm NP.bt_reversed (PyProof.Rows.callWith_type1 (thn (ha pos pins s σ H _ I h) fun us s1 ⟨vs, H1, I1, r1, q1⟩ => ?_) (starEach_of hn) rfl))
  obtain ⟨a, xs, e, hq, q⟩ := q1
  subst e
  obtain ⟨u, rfl, ru⟩ := vals1 r1
  cases ru
  obtain ⟨its, rv, hl, hal⟩ := lst_iter I1 hq
  have hlen := rv.length
  refine call_reversed_list hl ?_
  have hrv : (s1.heap.push (revObj a ((its.toArray.size : Int) - 1))).IsRevIter s1.heap.objs.size a ((xs.length : Int) - 1 - ((0 : Nat) : Int)) := by
    refine ⟨_, Heap.get?_push_size _ rfl, rfl, ?_⟩
    rw [List.size_toArray, ← hlen]
    simp [revObj]
  have I2 : Inv X pins σ H1 { s1 with heap := s1.heap.push (revObj a ((its.toArray.size : Int) - 1)) } := I1.kept (t' := s1.toks) fun b o e => Heap.get?_push_of_some _ e
  refine wpAny_pyIter_revIter (s := { s1 with heap := s1.heap.push (revObj a ((its.toArray.size : Int) - 1)) }) hrv ⟨_, [_], _, _, H1, rfl, I2, turn_rev a _ xs, ⟨Nat.zero_le _, hrv⟩, fun b hb => ?_, q⟩
  have e := List.mem_singleton.mp hb
  subst e
  exact I1.fpOk (Nat.le_refl _) (I1.hok.fresh (Nat.le_refl _))
end
end L2
set_option Elab.async false
set_option linter.all false
set_option maxRecDepth 100000
namespace NP
open PySem L2
def wareN (S : Sh) (x : Str) : Option Wr := S.wares.find? fun w => decide (w.name = x)
theorem wareN_eq {S : Sh} (nd : (S.wares.map (·.name)).Nodup) {w : Wr} (hw : w ∈ S.wares) : wareN S w.name = some w := by
  unfold wareN
  cases e : S.wares.find? (fun v => decide (v.name = w.name)) with
  | none =>
    have := List.find?_eq_none.mp e w hw
    simp at this
  | some v =>
    have h1 : v.name = w.name := of_decide_eq_true (by simpa using List.find?_some e)
    have h2 := List.mem_of_find?_eq_some e
    obtain ⟨i, hi, ei⟩ := List.mem_iff_getElem.mp hw
    obtain ⟨j, hj, ej⟩ := List.mem_iff_getElem.mp h2
    have : (S.wares.map (·.name))[i]? = (S.wares.map (·.name))[j]? := by
      rw [List.getElem?_map, List.getElem?_map, List.getElem?_eq_getElem hi, List.getElem?_eq_getElem hj, ei, ej]
      show some w.name = some v.name
      rw [h1]
    have e2 := (List.getElem?_inj (by rw [List.length_map]; exact hi) nd).mp this
    subst e2
    rw [← ei, ← ej]
def tmF (S : Sh) : Nat → Str → Int
  | 0, _ => 0
  | k + 1, x => match wareN S x with
    | some w => w.lag + max0 (w.parts.map fun p => tmF S k p.1)
    | none => 0
def tm (S : Sh) (x : Str) : Int := tmF S S.wares.length x
theorem tmF_succ {S : Sh} (L : Lev S) (k : Nat) {w : Wr} (hw : w ∈ S.wares) : tmF S (k + 1) w.name = w.lag + max0 (w.parts.map fun p => tmF S k p.1) := by
  rw [tmF, wareN_eq L.nd hw]
theorem tmF_stop {S : Sh} (L : Lev S) {r : Str → Nat} (hp : ∀ w ∈ S.wares, ∀ p ∈ w.parts, r p.1 < r w.name) : ∀ k w, w ∈ S.wares → r w.name < k → tmF S (k + 1) w.name = tmF S k w.name
  | 0, w, _, h => by omega
  | k + 1, w, hw, h => by
    rw [tmF_succ L _ hw, tmF_succ L _ hw]
    congr 2
    apply List.map_congr_left
    intro p hpm
    obtain ⟨v, hv, e⟩ := List.mem_map.mp (L.own w hw p hpm)
    have h3 := hp w hw p hpm
    rw [← e] at h3 ⊢
    exact tmF_stop L hp k v hv (by omega)
theorem tm_eq {S : Sh} (L : Lev S) {w : Wr} (hw : w ∈ S.wares) : tm S w.name = w.lag + max0 (w.parts.map fun p => tm S p.1) := by
  obtain ⟨r, h1, h2⟩ := L.low
  have h3 := tmF_stop L h2 S.wares.length w hw (h1 w hw)
  rw [tmF_succ L _ hw] at h3
  exact h3.symm
theorem parts_ahead {S : Sh} (L : Lev S) {ys : List Str} (so : SortK (lv S) (S.wares.map (·.name)) ys) {j : Nat} {w : Wr} (hw : w ∈ S.wares) (hj : ys.reverse[j]? = some w.name) {p : Str × Int} (hp : p ∈ w.parts) : p.1 ∈ ys.reverse.take j := by
  have hlv := lv_part L hw hp
  have hm : p.1 ∈ ys.reverse := by rw [List.mem_reverse]; exact so.1.mem_iff.mpr (L.own w hw p hp)
  have pw : ys.reverse.Pairwise fun a b => lv S b ≤ lv S a := by rw [List.pairwise_reverse]; exact so.2
  obtain ⟨i, hi⟩ := List.mem_iff_getElem?.mp hm
  obtain ⟨hil, ei⟩ := List.getElem?_eq_some_iff.mp hi
  obtain ⟨hjl, ej⟩ := List.getElem?_eq_some_iff.mp hj
  have hlt : i < j := by
    rcases Nat.lt_trichotomy i j with z | z | z
    · exact z
    · subst z
      rw [ei] at ej
      rw [ej] at hlv
      omega
    · have := List.pairwise_iff_getElem.mp pw j i hjl hil z
      rw [ei, ej] at this
      omega
  exact List.mem_of_getElem? (i := i) (by rw [List.getElem?_take, if_pos hlt]; exact hi)
end NP
set_option Elab.async false
set_option linter.all false
set_option maxRecDepth 100000
namespace L2
open PySem PySem.Spec PyProof.Rows PySem.W NP
def StrLe (a b : Str) : Prop := ¬ b.cps.toList < a.cps.toList
def StrSort (xs ys : List Str) : Prop := ys.Perm xs ∧ ys.Pairwise StrLe
section
variable {X : Cx} {pins : List (Addr × Obj)} {σ : St} {H : Hp} {s : Shared} {h' : Heap}
theorem Inv.laidF {a : Addr} {o : HO} {t' : Nat} (I : Inv X pins σ H s) (k : ∀ b u, s.heap.get? b = some u → h'.get? b = some u) (fr : ∀ b u, s.heap.get? b = some u → b ≠ a) (hn : H a = none) (new : ObjOk X.prog X.w (upd H a o) h' a o) :
    Inv X pins σ (upd H a o) { s with heap := h', toks := t' } := by
  refine I.un ⟨fun b u e _ _ _ => k b u e, fun b u e _ _ _ => ⟨u.slots, k b u e⟩, fun b u e n _ => by rw [upd_ne (fr b u e)]; exact n, fun b u e _ => ⟨u, k b u e⟩, fun b xs e => by rw [upd_ne (ne_of_none e hn)]; exact e, fun b u v e => by rw [upd_ne (ne_of_none e hn)]; exact e, fun b ps e => ⟨#[], by rw [upd_ne (ne_of_none e hn), e]; simp⟩⟩ fun b u e => ?_
  by_cases hb : b = a
  · subst hb
    rw [upd_same] at e
    cases e
    exact new
  · rw [upd_ne hb] at e
    exact (I.hok b u e).stay (fun b' u' _ q => k b' u' q) (fun b' q => by rw [upd_ne (ne_of_none q hn)]; exact q) fun b' xs q => by rw [upd_ne (ne_of_none q hn)]; exact q
end
section
variable {X : Cx}
def rSortS : List V → Hp → VK → Prop := fun vs H Q => ∃ a xs, vs = [.ref a] ∧ H a = some (.lst (xs.map V.str)) ∧ xs.length < 64 ∧ ∀ p ys, H p = none → StrSort xs ys → Q (.ref p) (upd H p (.lst (ys.map V.str)))
def rSortD : List V → Hp → VK → Prop := fun vs H Q => ∃ a kvs xs, vs = [.ref a] ∧ H a = some (.dK kvs) ∧ kvs.map (·.1) = xs.map Sum.inr ∧ xs.length < 64 ∧ ∀ p ys, H p = none → StrSort xs ys → Q (.ref p) (upd H p (.lst (ys.map V.str)))
def rDictK : List V → Hp → VK → Prop := fun vs H Q => ∃ a kvs, vs = [.ref a] ∧ Rd H a (.dK kvs) ∧ ∀ p, H p = none → Q (.ref p) (upd H p (.dK kvs))
def rClearD : V → List V → Hp → VK → Prop := fun x vs H Q => ∃ a kvs, x = .ref a ∧ vs = [] ∧ H a = some (.dK kvs) ∧ Q .non (upd H a (.dK []))
end
end L2
set_option Elab.async false
set_option linter.all false
set_option maxRecDepth 100000
set_option maxHeartbeats 4000000
namespace L2
open PySem PyProof.Rows
def rIndexS : V → List V → Hp → VK → Prop := fun x vs H Q => ∃ (l : Addr) (xs : List Str) (y : Str), x = .ref l ∧ vs = [.str y] ∧ H l = some (.lst (xs.map V.str)) ∧ y ∈ xs ∧ Q (.int (xs.idxOf y : Nat)) H
theorem vals_strE : ∀ {xs : List Str} {us : List Value}, Vals (xs.map V.str) us → ∀ j (hj : j < us.length) (y : Str), eqU (.str y) us[j] = (xs.getD j "" == y)
  | [], _, .nil, j, hj, y => absurd hj (Nat.not_lt_zero _)
  | x :: xs, u :: us, .cons r t, 0, hj, y => by
    obtain ⟨t', rfl⟩ := r
    rfl
  | x :: xs, u :: us, .cons r t, j + 1, hj, y => vals_strE t j (Nat.lt_of_succ_lt_succ hj) y
theorem all_flatS : ∀ xs : List Str, (xs.map V.str).all flatV = true
  | [] => rfl
  | x :: xs => by rw [List.map_cons, List.all_cons, all_flatS xs]; rfl
theorem idxOf_at {xs : List Str} {y : Str} (h : y ∈ xs) : xs.getD (xs.idxOf y) "" = y := by
  have hl : xs.idxOf y < xs.length := List.idxOf_lt_length_iff.mpr h
  rw [List.getD_eq_getElem?_getD, List.getElem?_eq_getElem hl, Option.getD_some]
  exact List.getElem_idxOf hl
theorem idxOf_before {y : Str} : ∀ {xs : List Str} {m : Nat}, m < xs.idxOf y → m < xs.length → (xs.getD m "" == y) = false
  | [], m, h, hm => absurd hm (Nat.not_lt_zero _)
  | x :: xs, 0, h, _ => by
    rw [List.idxOf_cons] at h
    cases e : x == y with
    | false => exact e
    | true => rw [e] at h; exact absurd h (Nat.lt_irrefl _)
  | x :: xs, m + 1, h, hm => by
    rw [List.idxOf_cons] at h
    cases e : x == y with
    | false => rw [e] at h; exact idxOf_before (xs := xs) (m := m) (Nat.lt_of_succ_lt_succ h) (Nat.lt_of_succ_lt_succ hm)
    | true => rw [e] at h; exact absurd h (Nat.not_lt_zero _)
theorem mt_index {X : Cx} : MtM X "list.index" rIndexS := by
  intro pins s σ H x vs v us Q I rx rv h
  obtain ⟨l, xs, y, rfl, rfl, hH, hy, q⟩ := h
  cases rx
  obtain ⟨u, rfl, ru⟩ := rv.one
  obtain ⟨z, its, n, r, hl, e⟩ := I.lstM hH
  rw [List.length_map] at hl z
  have hj : xs.idxOf y < xs.length := List.idxOf_lt_length_iff.mpr hy
  have hs : its.toArray.size = xs.length := by rw [List.size_toArray, hl]
  rw [sizeLine_eq] at z
  refine call_meets F.slot_list_index ⟨_, e, rfl⟩ F.entry_list_index (F.args_list_index_2 _ _) (SeqAt.list_indexAt l its.toArray n none #[] u (eqU (.str y)) (xs.idxOf y) (by omega) (by omega) ?_ (fun m hm hlt => ?_)) ⟨e, fun w hw => mem_eqAt ru rfl r (all_flatS xs) w (by simpa using hw), ?_⟩
  · rw [List.getElem_toArray, vals_strE r, idxOf_at hy]
    exact beq_self_eq_true y
  · rw [List.getElem_toArray, vals_strE r]
    exact idxOf_before hlt (by omega)
  · exact ⟨.int _, H, I.tok _, ⟨_, rfl⟩, q⟩
theorem inV_strs (x : Str) : ∀ xs : List Str, inV (.str x) (xs.map V.str) = decide (x ∈ xs)
  | [] => rfl
  | y :: xs => by
    show (y == x || inV (.str x) (xs.map V.str)) = decide (x ∈ y :: xs)
    rw [inV_strs x xs]
    by_cases e : y = x
    · rw [e]; simp
    · have e2 : (y == x) = false := by simpa using e
      rw [e2, Bool.false_or]
      exact decide_eq_decide.mpr ⟨fun m => List.mem_cons_of_mem _ m, fun m => (List.mem_cons.mp m).resolve_left fun z => e z.symm⟩
end L2
set_option Elab.async false
set_option linter.all false
set_option maxRecDepth 100000
set_option maxHeartbeats 4000000
set_option exponentiation.threshold 4000
namespace L2
open PySem PySem.Spec PyProof.Rows
def rGetD : V → V → Hp → VK → Prop := fun o i H Q => ∃ (p : Addr) (kvs : List (Key × V)) (k : Str) (v : V), o = .ref p ∧ i = .str k ∧ H p = some (.dK kvs) ∧ valV kvs (.inr k) = some v ∧ Q v H
theorem get_dct {X : Cx} (hu : X.A.units + 1 < cLine) : PGet X rGetD := by
  intro pins s σ H o i ov iv Q I ro ri h
  obtain ⟨p, kvs, k, v, rfl, rfl, hp, hv, q⟩ := h
  cases ro
  have g : DGet H p (kV (.inr k)) (valV kvs (.inr k)) := .inl ⟨kvs, .inr k, .inl hp, rfl, rfl⟩
  rw [hv] at g
  exact d_getItem hu I g ri fun w' s' I' rw' => ⟨v, H, I', rw', q⟩
end L2
namespace NP
open PySem L2
def lotsOf (m g : Int) : Int := if -(-m / g) > 0 then -(-m / g) else 0
theorem lotsOf_nn (m g : Int) : 0 ≤ lotsOf m g := by unfold lotsOf; split <;> omega
theorem lotsOf_least {m g : Int} (h : 0 < g) (hl : 0 < lotsOf m g) : g * lotsOf m g < m + g := by
  have h1 := Int.mul_ediv_add_emod (-m) g
  have h2 := Int.emod_lt_of_pos (-m) h
  have h3 : g * (-(-m / g)) = -(g * (-m / g)) := Int.mul_neg ..
  unfold lotsOf at hl ⊢
  split
  · rw [h3]; omega
  · rename_i q
    rw [if_neg q] at hl
    omega
theorem lotsOf_le {m g : Int} (h : 0 < g) (hm : 0 ≤ m) : lotsOf m g ≤ m := by
  by_cases hz : 0 < lotsOf m g
  · have h1 := lotsOf_least h hz
    have h2 : lotsOf m g * 1 ≤ lotsOf m g * g := Int.mul_le_mul_of_nonneg_left (by omega) (by omega)
    have h3 : g * lotsOf m g = lotsOf m g * g := Int.mul_comm ..
    have h4 : (g - 1) * 1 ≤ (g - 1) * lotsOf m g := Int.mul_le_mul_of_nonneg_left (by omega) (by omega)
    have h5 : (g - 1) * lotsOf m g = g * lotsOf m g - lotsOf m g := by rw [Int.sub_mul, Int.one_mul]
    omega
  · omega
def sumI : List Int → Int
  | [] => 0
  | x :: r => x + sumI r
theorem sumI_app : ∀ (a b : List Int), sumI (a ++ b) = sumI a + sumI b
  | [], b => by rw [List.nil_append]; exact (Int.zero_add _).symm
  | x :: a, b => by rw [List.cons_append, sumI, sumI, sumI_app a b]; omega
theorem sumI_perm {a b : List Int} (h : a.Perm b) : sumI a = sumI b := by
  induction h with
  | nil => rfl
  | cons x _ ih => rw [sumI, sumI, ih]
  | swap x y l => rw [sumI, sumI, sumI, sumI]; omega
  | trans _ _ i1 i2 => exact i1.trans i2
theorem sumI_zero {α : Type} {l : List α} {f : α → Int} (h : ∀ x ∈ l, f x = 0) : sumI (l.map f) = 0 := by
  induction l with
  | nil => rfl
  | cons x r ih => rw [List.map_cons, sumI, h x List.mem_cons_self, ih fun y hy => h y (List.mem_cons_of_mem _ hy)]; rfl
theorem sumI_nn {α : Type} {l : List α} {f : α → Int} (h : ∀ x ∈ l, 0 ≤ f x) : 0 ≤ sumI (l.map f) := by
  induction l with
  | nil => exact Int.le_refl _
  | cons x r ih =>
    rw [List.map_cons, sumI]
    have h1 := h x List.mem_cons_self
    have h2 := ih fun y hy => h y (List.mem_cons_of_mem _ hy)
    omega
theorem sumI_le {α : Type} {l : List α} {f : α → Int} {c : Int} {n : Nat} (hc : 0 ≤ c) (hl : l.length ≤ n) (h : ∀ x ∈ l, f x ≤ c) : sumI (l.map f) ≤ n * c := by
  induction l generalizing n with
  | nil => exact Int.mul_nonneg (Int.natCast_nonneg n) hc
  | cons x r ih =>
    cases n with
    | zero => cases hl
    | succ n =>
      rw [List.map_cons, sumI]
      have h1 := h x List.mem_cons_self
      have h2 := ih (n := n) (Nat.le_of_succ_le_succ hl) fun y hy => h y (List.mem_cons_of_mem _ hy)
      have e : ((n + 1 : Nat) : Int) * c = n * c + c := by rw [Int.natCast_add, Int.add_mul]; simp
      omega
theorem sumI_take {α : Type} {l : List α} {f : α → Int} {i : Nat} {a : α} (h : l[i]? = some a) : sumI ((l.take (i + 1)).map f) = sumI ((l.take i).map f) + f a := by
  rw [List.take_add_one, h, List.map_append, sumI_app]
  show _ + (f a + 0) = _
  rw [Int.add_zero]
def wantsOf (us : List Wt) (x : Str) : Int := sumI (us.map fun u => if u.1 = x then u.2.2 else 0)
def takeBy (L : Str → Int) (w : Wr) (x : Str) : Int := sumI (w.parts.map fun p => if p.1 = x then L w.name * p.2 else 0)
def takesOf (ws : List Wr) (L : Str → Int) (x : Str) : Int := sumI (ws.map fun w => takeBy L w x)
def needOf (S : Sh) (L : Str → Int) (x : Str) : Int := wantsOf S.wants x + takesOf S.wares L x
def exF (S : Sh) : Nat → Str → Int
  | 0, _ => 0
  | k + 1, x => match wareN S x with
    | some w => lotsOf (needOf S (exF S k) x) w.gives
    | none => 0
def ex (S : Sh) (x : Str) : Int := exF S S.wares.length x
theorem exF_succ {S : Sh} (L : Lev S) (k : Nat) {w : Wr} (hw : w ∈ S.wares) : exF S (k + 1) w.name = lotsOf (needOf S (exF S k) w.name) w.gives := by rw [exF, wareN_eq L.nd hw]
theorem exF_stop {S : Sh} (L : Lev S) {r : Str → Nat} (hr : ∀ w ∈ S.wares, r w.name < S.wares.length) (hp : ∀ w ∈ S.wares, ∀ p ∈ w.parts, r p.1 < r w.name) : ∀ k w, w ∈ S.wares → S.wares.length - r w.name ≤ k → exF S (k + 1) w.name = exF S k w.name
  | 0, w, hw, h => by have := hr w hw; omega
  | k + 1, w, hw, h => by
    rw [exF_succ L _ hw, exF_succ L _ hw]
    congr 1
    unfold needOf
    congr 1
    unfold takesOf
    congr 1
    apply List.map_congr_left
    intro u hu
    unfold takeBy
    congr 1
    apply List.map_congr_left
    intro p hpm
    by_cases e : p.1 = w.name
    · rw [if_pos e, if_pos e]
      have h3 := hp u hu p hpm
      rw [e] at h3
      have := hr u hu
      rw [exF_stop L hr hp k u hu (by omega)]
    · rw [if_neg e, if_neg e]
theorem ex_eq {S : Sh} (L : Lev S) {w : Wr} (hw : w ∈ S.wares) : ex S w.name = lotsOf (needOf S (ex S) w.name) w.gives := by
  obtain ⟨r, h1, h2⟩ := L.low
  have h3 := exF_stop L h1 h2 S.wares.length w hw (by omega)
  rw [exF_succ L _ hw] at h3
  exact h3.symm
def tkN (S : Sh) (L : Str → Int) (y x : Str) : Int := match wareN S y with
  | some w => takeBy L w x
  | none => 0
def sumN (S : Sh) (L : Str → Int) (l : List Str) (x : Str) : Int := sumI (l.map fun y => tkN S L y x)
theorem tkN_eq {S : Sh} (nd : (S.wares.map (·.name)).Nodup) {w : Wr} (hw : w ∈ S.wares) (L : Str → Int) (x : Str) : tkN S L w.name x = takeBy L w x := by unfold tkN; rw [wareN_eq nd hw]
theorem takesOf_names {S : Sh} (nd : (S.wares.map (·.name)).Nodup) (L : Str → Int) (x : Str) : takesOf S.wares L x = sumN S L (S.wares.map (·.name)) x := by
  unfold takesOf sumN
  rw [List.map_map]
  congr 1
  exact List.map_congr_left fun w hw => (tkN_eq nd hw L x).symm
theorem takers_ahead {S : Sh} (L : Lev S) {ys : List Str} (so : SortK (lv S) (S.wares.map (·.name)) ys) {i : Nat} {w : Wr} (hw : w ∈ S.wares) (hi : ys[i]? = some w.name) (f : Str → Int) : sumN S f (ys.take i) w.name = takesOf S.wares f w.name := by
  rw [takesOf_names L.nd]
  have e : sumN S f (S.wares.map (·.name)) w.name = sumN S f ys w.name := sumI_perm ((so.1.map _).symm)
  have e2 : sumN S f ys w.name = sumN S f (ys.take i) w.name + sumN S f (ys.drop i) w.name := by
    unfold sumN
    rw [← sumI_app, ← List.map_append, List.take_append_drop]
  have e3 : sumN S f (ys.drop i) w.name = 0 := sumI_zero fun y hy => by
    have hm : y ∈ S.wares.map (·.name) := so.1.mem_iff.mp (List.mem_of_mem_drop hy)
    obtain ⟨u, hu, rfl⟩ := List.mem_map.mp hm
    rw [tkN_eq L.nd hu]
    refine sumI_zero fun p hp => ?_
    by_cases z : p.1 = w.name
    · have h1 := lv_part L hu hp
      rw [z] at h1
      obtain ⟨j, hj⟩ := List.mem_iff_getElem?.mp hy
      rw [List.getElem?_drop] at hj
      obtain ⟨hil, ei⟩ := List.getElem?_eq_some_iff.mp hi
      obtain ⟨hjl, ej⟩ := List.getElem?_eq_some_iff.mp hj
      have h2 : lv S w.name ≤ lv S u.name := by
        rcases Nat.eq_zero_or_pos j with z0 | z0
        · subst z0
          have e : ys[i]? = some u.name := hj
          rw [hi] at e
          rw [Option.some.inj e]
          exact Int.le_refl _
        · have := List.pairwise_iff_getElem.mp so.2 i (i + j) hil hjl (by omega)
          rw [ei, ej] at this
          exact this
      omega
    · exact if_neg z
  omega
structure ExOk (S : Sh) : Prop where
  gv : ∀ w ∈ S.wares, 1 ≤ w.gives ∧ w.gives ≤ 10 ^ 41
  pt : ∀ w ∈ S.wares, w.parts.length ≤ 6 ∧ ∀ p ∈ w.parts, 1 ≤ p.2 ∧ p.2 ≤ 10 ^ 41
  few : S.wares.length ≤ 12
  wt : S.wants.length ≤ 20 ∧ ∀ u ∈ S.wants, u.1 ∈ S.wares.map (·.name) ∧ 0 ≤ u.2.2 ∧ u.2.2 < 10 ^ 41
theorem takeBy_nn {S : Sh} (E : ExOk S) {L : Str → Int} (hL : ∀ x, 0 ≤ L x) {w : Wr} (hw : w ∈ S.wares) (x : Str) : 0 ≤ takeBy L w x := sumI_nn fun p hp => by
  split
  · exact Int.mul_nonneg (hL _) (by have := ((E.pt w hw).2 p hp).1; omega)
  · exact Int.le_refl _
theorem needOf_nn {S : Sh} (E : ExOk S) {L : Str → Int} (hL : ∀ x, 0 ≤ L x) (x : Str) : 0 ≤ needOf S L x := by
  have h1 : 0 ≤ wantsOf S.wants x := sumI_nn fun u hu => by
    split
    · exact (E.wt.2 u hu).2.1
    · exact Int.le_refl _
  have h2 : 0 ≤ takesOf S.wares L x := sumI_nn fun w hw => takeBy_nn E hL hw x
  unfold needOf
  omega
theorem exF_nn (S : Sh) (k : Nat) (x : Str) : 0 ≤ exF S k x := by
  cases k with
  | zero => exact Int.le_refl _
  | succ k =>
    rw [exF]
    split
    · exact lotsOf_nn _ _
    · exact Int.le_refl _
theorem wareN_mem {S : Sh} {x : Str} {w : Wr} (h : wareN S x = some w) : w ∈ S.wares ∧ w.name = x := ⟨List.mem_of_find?_eq_some h, of_decide_eq_true (by simpa using List.find?_some h)⟩
theorem needOf_le {S : Sh} (E : ExOk S) {L : Str → Int} {B : Int} (hB : 0 ≤ B) (h : ∀ x, 0 ≤ L x ∧ L x ≤ B) (x : Str) : needOf S L x ≤ 20 * 10 ^ 41 + 12 * (6 * (B * 10 ^ 41)) := by
  have hB2 : 0 ≤ B * 10 ^ 41 := Int.mul_nonneg hB (by decide +kernel)
  have h1 : wantsOf S.wants x ≤ (20 : Nat) * (10 : Int) ^ 41 := sumI_le (by decide +kernel) E.wt.1 fun u hu => by
    split
    · exact Int.le_of_lt (E.wt.2 u hu).2.2
    · decide +kernel
  have h2 : takesOf S.wares L x ≤ (12 : Nat) * (6 * (B * 10 ^ 41)) := sumI_le (by omega) E.few fun w hw => by
    have : takeBy L w x ≤ (6 : Nat) * (B * 10 ^ 41) := sumI_le hB2 (E.pt w hw).1 fun p hp => by
      split
      · have h3 := (E.pt w hw).2 p hp
        exact Int.mul_le_mul (h w.name).2 h3.2 (by omega) hB
      · exact hB2
    exact this
  unfold needOf
  exact Int.add_le_add h1 h2
theorem exF_le {S : Sh} (E : ExOk S) : ∀ (k : Nat) (x : Str), exF S k x ≤ 10 ^ (45 * k)
  | 0, x => by show (0 : Int) ≤ 10 ^ 0; decide
  | k + 1, x => by
    have hB : (0 : Int) ≤ 10 ^ (45 * k) := Int.pow_nonneg (by decide)
    have h1 : (1 : Int) ≤ 10 ^ (45 * k) := Int.pow_pos (by decide)
    have e : (10 : Int) ^ (45 * (k + 1)) = 10 ^ (45 * k) * 10 ^ 45 := by rw [← Int.pow_add]; rfl
    rw [exF]
    split
    · rename_i w hw
      have hw2 := (wareN_mem hw).1
      have h2 := lotsOf_le (m := needOf S (exF S k) x) (g := w.gives) (by have := (E.gv w hw2).1; omega) (needOf_nn E (exF_nn S k) x)
      have h3 := needOf_le E hB (fun y => ⟨exF_nn S k y, exF_le E k y⟩) x
      rw [e]
      generalize (10 : Int) ^ (45 * k) = B at hB h1 h3 ⊢
      have : (20 : Int) * 10 ^ 41 + 12 * (6 * (B * 10 ^ 41)) ≤ B * 10 ^ 45 := by omega
      omega
    · rw [e]
      exact Int.mul_nonneg hB (by decide +kernel)
theorem ex_nn (S : Sh) (x : Str) : 0 ≤ ex S x := exF_nn S _ x
theorem ex_lt {S : Sh} (E : ExOk S) (x : Str) : ex S x < 10 ^ 600 := by
  have h1 := exF_le E S.wares.length x
  have h2 : (10 : Int) ^ (45 * S.wares.length) ≤ 10 ^ (45 * 12) := by
    have : (10 : Nat) ^ (45 * S.wares.length) ≤ 10 ^ (45 * 12) := Nat.pow_le_pow_right (by decide) (Nat.mul_le_mul_left _ E.few)
    exact_mod_cast this
  exact Int.lt_of_le_of_lt (Int.le_trans h1 h2) (by decide +kernel)
end NP
set_option Elab.async false
set_option linter.all false
set_option maxRecDepth 100000
set_option maxHeartbeats 4000000
set_option exponentiation.threshold 4000
namespace NP
open PySem L2
def above (f g : Int) (xs ys : List Int) : Nat → Int
  | 0 => -f
  | i + 1 => above f g xs ys i + (xs.getD i 0 - ys.getD i 0) + g * lotsOf (-(above f g xs ys i + (xs.getD i 0 - ys.getD i 0))) g
end NP
set_option Elab.async false
set_option linter.all false
set_option maxRecDepth 100000
set_option maxHeartbeats 400000
namespace L2
open PySem PySem.Spec PyProof.Rows PySem.W NP
section
variable {prog : Program} {w : World} {A : Around} {E : Value → Shared → Prop} {s : Shared}
end
def rSortT : List V → Hp → VK → Prop := fun vs H Q => ∃ (a : Addr) (as : List Addr) (kz : Nat → Int), vs = [.ref a] ∧ H a = some (.lst (as.map V.ref)) ∧ as.length < 64 ∧ (∀ i, i < as.length → H (as.getD i 0) = some (.tup [.int (kz i), .int i])) ∧
  ∀ (r : Addr) (ps : List Nat), H r = none → ps.Perm (List.range as.length) → ps.Pairwise (klt kz) → Q (.ref r) (upd H r (.lst (ps.map fun i => V.ref (as.getD i 0))))
end L2
set_option Elab.async false
set_option linter.all false
set_option maxRecDepth 100000
namespace L2
open PySem PySem.Spec PyProof.Rows
def leastN (ns : Nat → Int) : Nat → Int
  | 0 => ns 0
  | k + 1 => if ns (k + 1) < leastN ns k then ns (k + 1) else leastN ns k
section
variable {prog : Program} {w : World} {A : Around} {R : Result → Shared → Prop} {I : Addr} {fp wr : List Addr} {n : Nat} {P : Nat → Value → Prop} {St : Nat → Heap → Prop}
end
def minL (ns : List Int) : Int := leastN (fun i => (ns[i]?).getD 0) (ns.length - 1)
section
variable {X : Cx}
def rMinL : List V → Hp → VK → Prop := fun vs H Q => ∃ a ns, vs = [.ref a] ∧ H a = some (.lst (ns.map V.int)) ∧ ns ≠ [] ∧ Q (.int (minL ns)) H
end
end L2
set_option Elab.async false
set_option linter.all false
set_option maxRecDepth 100000
namespace L2
open PySem PySem.Spec PyProof.Rows PySem.W NP
section
variable {X : Cx}
end
end L2
set_option Elab.async false
set_option linter.all false
set_option maxRecDepth 100000
namespace L2
open PySem PySem.Spec PyProof.Rows
section
variable {X : Cx}
end
end L2
set_option Elab.async false
set_option linter.all false
set_option maxRecDepth 100000
set_option maxHeartbeats 4000000
namespace L2
open PySem PySem.Spec PyProof.Rows PySem.W
theorem ObjOk.ex {P : Program} {w : World} {H : Hp} {h : Heap} {a : Addr} {o : HO} (x : ObjOk P w H h a o) : ∃ ob, h.get? a = some ob := by
  cases o with
  | lst xs => obtain ⟨_, _, _, _, e⟩ := x; exact ⟨_, e⟩
  | tup xs => obtain ⟨_, _, _, ob, e, _⟩ := x; exact ⟨ob, e⟩
  | dK kvs => obtain ⟨_, _, _, _, o, _, _, e, _⟩ := x; exact ⟨o, e⟩
  | dT kvs => obtain ⟨_, _, _, _, o, _, _, e, _⟩ := x; exact ⟨o, e⟩
  | set S n => obtain ⟨ob, _, _, _, e, _⟩ := x; exact ⟨ob, e⟩
  | ins C dx fs => obtain ⟨_, _, _, e, _⟩ := x; exact ⟨_, e⟩
  | own y => exact x
  | xd fs => obtain ⟨_, ⟨od, _, _, e, _⟩, _⟩ := x; exact ⟨od, e⟩
  | rng lo hi => obtain ⟨_, _, _, e⟩ := x; exact ⟨_, e⟩
  | frz ob u => exact ⟨_, x.1⟩
  | tbl ps => exact ⟨_, x⟩
  | met f y => exact ⟨_, x⟩
  | ext φ => exact x.2.1
structure Fl (P : Program) (w : World) (fs : List Addr) (H : Hp) (h : Heap) (a : Addr) (H' : Hp) (B h' : Heap) : Prop where
  un : Un fs [] H H' h h'
  hok : HOk P w H' h'
  new : h.get? a = none
  free : H' a = none
  k1 : ∀ b o, h.get? b = some o → H b = none → b ∉ fs → B.get? b = some o
  k2 : ∀ b o u, H' b = some u → h'.get? b = some o → B.get? b = some o
  k3 : ∀ b o, h.get? b = some o → b ∉ fs → ∃ o', B.get? b = some o'
  fr : ∀ b ∈ fs, ∃ o, h.get? b = some o ∧ H b = none ∧ ∀ vs, o.data ≠ .fields vs
section
variable {P : Program} {w : World} {fs : List Addr} {H H' H0 : Hp} {h h0 h1 h2 B : Heap} {a L : Addr}
theorem Fl.slots (F : Fl P w fs H h a H' B h1) (up : h1.UpToSlots h2) {b : Addr} {o : Obj} (e : h.get? b = some o) (hb : b ∈ fs) : ∃ sl, h2.get? b = some { o with slots := sl } := by
  obtain ⟨o', e', n, hd⟩ := F.fr b hb
  rw [e] at e'
  cases e'
  obtain ⟨sl, q⟩ := F.un.slot b o e n hb (by simp)
  obtain ⟨sl2, q2⟩ := up b _ q hd
  exact ⟨sl2, q2⟩
theorem Fl.on (F : Fl P w fs H h a H' B h1) (st : B.StaysIn h2) (up : h1.UpToSlots h2) : Fl P w fs H h a H' B h2 where
  un := {
    keep := fun b o e n hb _ => st b o (F.k1 b o e n hb)
    slot := fun b o e n hb _ => F.slots up e hb
    free := F.un.free
    there := fun b o e _ => by
      by_cases hb : b ∈ fs
      · obtain ⟨sl, q⟩ := F.slots up e hb
        exact ⟨_, q⟩
      · obtain ⟨o', q⟩ := F.k3 b o e hb
        exact ⟨o', st b o' q⟩
    tups := F.un.tups
    frzs := F.un.frzs
    tbls := F.un.tbls }
  hok := fun b u e => (F.hok b u e).stay (fun c o hc q => st c o (by
    rcases hc with rfl | hc
    · exact F.k2 _ o u e q
    · exact F.k2 c o _ hc q)) (fun _ q => q) fun _ _ q => q
  new := F.new
  free := F.free
  k1 := F.k1
  k2 := fun b o u e q => by
    obtain ⟨o1, q1⟩ := (F.hok b u e).ex
    have z := F.k2 b o1 u e q1
    have z2 := st _ _ z
    rw [q] at z2
    cases z2
    exact z
  k3 := F.k3
  fr := F.fr
theorem Fl.out (F : Fl P w (L :: fs) H h a H' B h1) (U : Un fs [] H0 H h0 h) (hL : h0.objs.size ≤ L) (fr : ∀ b ∈ fs, ∃ o, h0.get? b = some o ∧ H0 b = none ∧ ∀ vs, o.data ≠ .fields vs) : Fl P w fs H0 h0 a H' B h1 := by
  have nL : ∀ b o, h0.get? b = some o → b ∉ fs → b ∉ L :: fs := fun b o e hb z => by
    rcases List.mem_cons.mp z with z | z
    · rw [z] at e
      exact absurd (Nat.lt_of_lt_of_le (Heap.lt_size e) hL) (Nat.lt_irrefl _)
    · exact hb z
  have nx : ∀ b : Addr, b ∉ ([] : List Addr) := fun b z => by cases z
  refine ⟨⟨fun b o e n hb hx => ?_, fun b o e n hb hx => ?_, fun b o e n hx => ?_, fun b o e hx => ?_, fun b xs e => F.un.tups b xs (U.tups b xs e), fun b o u e => F.un.frzs b o u (U.frzs b o u e), fun b ps e => ?_⟩, F.hok, ?_, F.free, fun b o e n hb => ?_, F.k2, fun b o e hb => ?_, fr⟩
  · exact F.un.keep b o (U.keep b o e n hb hx) (U.free b o e n hx) (nL b o e hb) hx
  · obtain ⟨sl, q⟩ := U.slot b o e n hb hx
    obtain ⟨sl2, q2⟩ := F.un.slot b _ q (U.free b o e n hx) (List.mem_cons_of_mem _ hb) hx
    exact ⟨sl2, q2⟩
  · obtain ⟨o', q⟩ := U.there b o e hx
    exact F.un.free b o' q (U.free b o e n hx) hx
  · obtain ⟨o', q⟩ := U.there b o e hx
    exact F.un.there b o' q hx
  · obtain ⟨m1, e1⟩ := U.tbls b ps e
    obtain ⟨m2, e2⟩ := F.un.tbls b _ e1
    exact ⟨m1 ++ m2, by rw [e2, Array.append_assoc]⟩
  · cases e : h0.get? a with
    | none => rfl
    | some o =>
      obtain ⟨o', q⟩ := U.there a o e (nx a)
      rw [F.new] at q
      cases q
  · exact F.k1 b o (U.keep b o e n hb (nx b)) (U.free b o e n (nx b)) (nL b o e hb)
  · obtain ⟨o', q⟩ := U.there b o e (nx b)
    exact F.k3 b o' q (nL b o e hb)
end
abbrev CXE (P : Program) (w : World) : CXT := fun outer H s E e s' => ∃ (a : Addr) (cls : Value) (H' : Hp) (B : Heap) (t : Addr), e = .ref a ∧ s'.os = s.os ∧ AllBare s'.gens ∧ Fl P w (frs outer) H s.heap a H' B s'.heap ∧ Heap.FlyingW B outer a cls (.ref t) s'.heap ∧ E cls none H'
abbrev XG := Value → St → Hp → Prop
def PassAt (X : Cx) (G : XG) : Prop := ∀ (pins : List (Addr × Obj)) (σ : St) (H : Hp) (s : Shared) (e : Value) (s' : Shared), Inv X pins σ H s → CXE X.prog X.w X.stack H s (fun cls _ H' => G cls σ H') e s' → X.xe e s'
def MadeAt (X : Cx) (G : XG) : Prop := ∀ (pins : List (Addr × Obj)) (σ : St) (H : Hp) (s : Shared) (h' : Heap) (e : Addr) (cls : Value) (vs : List Value), Inv X pins σ H s → Heap.MadeExcOf s.heap h' e cls vs → G cls σ H → X.xe (.ref e) { s with heap := h' }
section
variable {P : Program} {w : World} {K : PySem.W.Frag} {mg : Str → Option Value} {base : Heap} {N : List Str} {qual : Str} {scope : Scope} {f : Addr} {cd : Value} {A : Around} {outer : List Env} {s : Shared} {H : Hp} {E : XK}
theorem Inv.frfl {X : Cx} {pins : List (Addr × Obj)} {σ : St} {H : Hp} {s : Shared} (I : Inv X pins σ H s) : ∀ b ∈ frs X.stack, ∃ o, s.heap.get? b = some o ∧ H b = none ∧ ∀ vs, o.data ≠ .fields vs := fun b hb => by
  obtain ⟨_, o, ho, hd⟩ := I.stack.mem hb
  exact ⟨o, ho, I.stkFree b hb, hd⟩
theorem cx_fr {X : Cx} {pins : List (Addr × Obj)} {σ : St} {H : Hp} {s : Shared} (I : Inv X pins σ H s) : ∀ b ∈ frs X.outer, ∃ o, X.s₀.heap.get? b = some o ∧ X.H₀ b = none ∧ ∀ vs, o.data ≠ .fields vs := fun b hb => by
  obtain ⟨_, o, ho, hd⟩ := I.ok.funs.mem hb
  exact ⟨o, ho, I.ok.frf b hb, hd⟩
theorem passE : PassAt (cxOf (CXE P w) P w K mg base N qual scope f cd A outer s H E) fun cls _ H' => E cls none H' := by
  intro pins σ H1 s1 e s' I ⟨a, cls, H2, B, t, he, os, bare, F, fl, hE⟩
  subst he
  refine wpAny_leaves_onW (outer := outer) I.ok.frames rfl fl fun h' fl' up => ?_
  have F1 : Fl P w (s.heap.objs.size :: frs outer) H1 s1.heap a H2 B h' := F.on fl'.1 up
  exact ⟨a, cls, H2, B, t, rfl, os.trans I.os, bare, F1.out I.base (Nat.le_refl _) (cx_fr I), fl', hE⟩
theorem Inv.flNew {X : Cx} {pins : List (Addr × Obj)} {σ : St} {H : Hp} {s : Shared} {h' : Heap} {e : Addr} {cls : Value} {vs : List Value} (I : Inv X pins σ H s) (hx : Heap.MadeExcOf s.heap h' e cls vs) : Fl X.prog X.w (frs X.stack) H s.heap e H (hideAll s.heap (frs X.stack)) h' where
  un := Un.kept hx.keeps
  hok := I.hok.kept hx.keeps
  new := hx.new
  free := by
    cases q : H e with
    | none => rfl
    | some u =>
      obtain ⟨ob, z⟩ := (I.hok e u q).ex
      rw [hx.new] at z
      cases z
  k1 := fun b o q _ hb => hideAll_get _ q hb
  k2 := fun b o u q z => by
    obtain ⟨o1, z1⟩ := (I.hok b u q).ex
    have z2 := hx.keeps b o1 z1
    rw [z] at z2
    cases z2
    exact hideAll_get _ z1 fun m => by rw [I.stkFree b m] at q; cases q
  k3 := fun b o q hb => ⟨o, hideAll_get _ q hb⟩
  fr := I.frfl
theorem madeE : MadeAt (cxOf (CXE P w) P w K mg base N qual scope f cd A outer s H E) fun cls _ H' => E cls none H' := by
  intro pins σ H1 s1 h' e cls vs I hx hE
  have F := I.flNew hx
  refine wpAny_leaves_madeW (outer := outer) (h := s1.heap) (base := hideAll s1.heap (frs (envOfC qual scope s.heap.objs.size f cd :: outer))) I.ok.frames rfl (fun b o q => of_hideAll _ q) (funFrames_hide I.stack fun env he b hb => List.mem_filterMap.mpr ⟨env, he, hb⟩) hx fun h2 t fl _ _ up => ?_
  have F1 : Fl P w (s.heap.objs.size :: frs outer) H1 s1.heap e H1 _ h2 := F.on fl.1 up
  exact ⟨e, cls, H1, _, t, rfl, I.os, I.bare, F1.out I.base (Nat.le_refl _) (cx_fr I), fl, hE⟩
end
theorem Fun.okX {P : Program} {w : World} {K : PySem.W.Frag} {mg : Str → Option Value} {base : Heap} {x qual : Str} {st : Stmt} {f : Addr} {fd : FuncData} {N ps : List Str} {k : Nat} {sp : Sp} (F : Fun K x qual st f fd) (S : FnScope N ps (defScope st)) (len : ∀ vs H Q E, sp vs H Q E → vs.length = ps.length)
    (hbody : ∀ (cdv : Value) (A : Around) (outer : List Env) (s : Shared) (H : Hp) (vs : List V) (Q : VK) (E : XK), Room k (A.deeper (envOfC qual (defScope st) s.heap.objs.size f cdv)) → sp vs H Q E →
      ∃ t, PSs (cxOf (CXE P w) P w K mg base N qual (defScope st) f cdv A outer s H E) (defBody st) t ∧ t { nx := fun _ H' => Q .non H', rt := Q } (start N vs) H) : FnOk P w K mg base (CXE P w) (k + 1) f fd ps sp := by
  obtain ⟨oc, od, kV, doc, pm, an, cdv, ct, osl, rfl, lk, hcd⟩ := F.ex
  exact fn_of lk hcd S len fun A outer s H vs Q E hr hsp => hbody cdv A outer s H vs Q E hr hsp
def HasX (P : Program) (w : World) (K : PySem.W.Frag) (mg : Str → Option Value) (base : Heap) (x : Str) (k : Nat) (ps : List Str) (sp : Sp) : Prop :=
  ∃ f fd, mg x = some (.ref f) ∧ PySem.W.keepIn K (.ref f) = true ∧ Binds K fd ps [] ∧ FnOk P w K mg base (CXE P w) k f fd ps sp
def tCallX (sp : Sp) (G : XG) (t : TA) : TE := fun σ H Q => t σ H fun vs H1 => sp vs H1 Q fun cls _ H' => G cls σ H'
theorem run_fnX {X : Cx} {k : Nat} {f : Addr} {fd : FuncData} {ps : List Str} {sp : Sp} {G : XG} {pins : List (Addr × Obj)} {σ : St} {H : Hp} {s : Shared} {Q : VK} {us : List Value} {vs : List V} (F : FnOk X.prog X.w X.K X.mg X.base (CXE X.prog X.w) k f fd ps sp) (hr : Room k X.A) (hb : Binds X.K fd ps []) (hp : PassAt X G)
    (I : Inv X pins σ H s) (r : Vals vs us) (h : sp vs H Q fun cls _ H' => G cls σ H') : wpAny (model X.prog X.w) X.A (call (.ref f) us) (EP X pins σ Q) X.xe s := by
  have hl : us.length = ps.length := by rw [← r.length]; exact F.len _ _ _ _ h
  have hb' := hb s us I.kIn (by rw [List.append_nil]; exact hl)
  rw [List.append_nil] at hb'
  refine wpAny_call (codeAny_mono (F.run X.A X.stack s H ⟨us, []⟩ us vs Q _ hr I.env0 hb' r h) fun r s' hq => ?_)
  cases r with
  | error e => exact hp pins σ H s e s' I hq
  | ok fl =>
    cases fl with
    | ret u => exact I.after hq
    | next => exact False.elim hq
    | brk => exact False.elim hq
    | cont => exact False.elim hq
theorem pe_callX {X : Cx} {x : Str} {k : Nat} {ps : List Str} {sp : Sp} {G : XG} {e : Expr} {es : List Expr} {t : TA} {p pos : Pos} (h : HasX X.prog X.w X.K X.mg X.base x k ps sp) (hp : PassAt X G) (hr : Room k X.A) (hg : Gl X x) (ha : PA X (e :: es) t) (hn : noStar (e :: es) = true := by rfl) (hdb : (x == ("__debug__" : Str)) = false := by decide) :
    PE X (.Call (.Name x p) (e :: es) [] pos) (tCallX sp G t) := by
  obtain ⟨f, fd, hm, hk, hb, F⟩ := h
  intro pins s σ H Q I ht
  refine wpAny_Call_Name_kw (ld_glob I hg hm ?_ hdb)
  refine PySem.W.callWith_K (h₀ := X.base) I.ok.mod.kin hk (thn (ha pos pins s σ H _ I ht) fun us s1 ⟨vs, H1, I1, r, q⟩ => ⟨I1.kIn, ?_⟩) (starEach_cons (noStar_cons hn).1) (backTo_any (noStar_cons hn).2)
  exact run_fnX F hr hb hp I1 r q
abbrev Cx.tried (X : Cx) (pn : List (Addr × Obj)) (W : Value → Shared → Prop) : Cx := { X with pn := pn, xe := W }
abbrev Cx.caught (X : Cx) (a : Addr) : Cx := { X with A := X.A.mark (some (.ref a)), calm := false, xe := fun _ _ => False }
def excO (a : Addr) (cls : Value) : HO := .ext fun h => ∃ o, h.get? a = some o ∧ o.cls = cls
section
variable {X : Cx} {pins : List (Addr × Obj)} {σ : St} {H H' : Hp} {s s' : Shared} {W : Value → Shared → Prop} {a : Addr} {cls : Value} {B : Heap}
theorem Inv.tried (I : Inv X pins σ H s) (W : Value → Shared → Prop) : Inv (X.tried (X.pn ++ pins) W) [] σ H s :=
  ⟨⟨I.ok.mod, I.ok.kind, I.ok.glob, I.ok.blt, I.ok.above, I.ok.inj, I.ok.has, I.ok.cab, I.ok.hd, I.ok.frames, I.ok.stk, I.ok.exf, I.ok.bs, I.ok.bsz, I.ok.noex, I.ok.exfs, I.ok.funs, I.ok.frf⟩, I.os, I.bare, I.base, I.loc, I.cell, I.free, I.freeC, fun p hp => I.pin p (by rw [List.append_nil] at hp; exact hp), I.hok, I.len⟩
theorem Inv.untried {ps : List (Addr × Obj)} (I : Inv (X.tried (X.pn ++ pins) W) ps σ H s) : Inv X pins σ H s :=
  ⟨⟨I.ok.mod, I.ok.kind, I.ok.glob, I.ok.blt, I.ok.above, I.ok.inj, I.ok.has, I.ok.cab, I.ok.hd, I.ok.frames, I.ok.stk, I.ok.exf, I.ok.bs, I.ok.bsz, I.ok.noex, I.ok.exfs, I.ok.funs, I.ok.frf⟩, I.os, I.bare, I.base, I.loc, I.cell, I.free, I.freeC, fun p hp => I.pin p (List.mem_append_left _ hp), I.hok, I.len⟩
theorem Inv.caught (I : Inv X pins σ H s) (a : Addr) : Inv (X.caught a) pins σ H s :=
  ⟨⟨I.ok.mod, I.ok.kind, I.ok.glob, I.ok.blt, I.ok.above, I.ok.inj, I.ok.has, I.ok.cab, (fun z => by cases z), I.ok.frames, I.ok.stk, I.ok.exf, I.ok.bs, I.ok.bsz, I.ok.noex, I.ok.exfs, I.ok.funs, I.ok.frf⟩, I.os, I.bare, I.base, I.loc, I.cell, I.free, I.freeC, I.pin, I.hok, I.len⟩
theorem Inv.uncaught (I : Inv (X.caught a) pins σ H s) (ok : X.Ok) : Inv X pins σ H s := ⟨ok, I.os, I.bare, I.base, I.loc, I.cell, I.free, I.freeC, I.pin, I.hok, I.len⟩
theorem Inv.lands (I : Inv X pins σ H s) (os : s'.os = s.os) (bare : AllBare s'.gens) (F : Fl X.prog X.w (frs X.stack) H s.heap a H' B s'.heap) (hc : ∃ o, s'.heap.get? a = some o ∧ o.cls = cls) : Inv X pins σ (upd H' a (excO a cls)) s' := by
  have na : ∀ b u, H' b = some u → b ≠ a := fun b u e z => by rw [z, F.free] at e; cases e
  refine I.call' (ch := []) os ⟨F.un.keep, F.un.slot, fun b o e n hx => ?_, F.un.there, fun b xs e => ?_, fun b o u e => ?_, fun b ps e => ?_⟩ (fun b u e => ?_) bare (fun b z => by cases z)
  · rw [upd_ne (fun z => by rw [z, F.new] at e; cases e)]
    exact F.un.free b o e n hx
  · have q := F.un.tups b xs e
    rw [upd_ne (na b _ q)]
    exact q
  · have q := F.un.frzs b o u e
    rw [upd_ne (na b _ q)]
    exact q
  · obtain ⟨more, q⟩ := F.un.tbls b ps e
    exact ⟨more, by rw [upd_ne (na b _ q)]; exact q⟩
  · by_cases hb : b = a
    · subst hb
      rw [upd_same] at e
      cases e
      obtain ⟨o, ho, hcl⟩ := hc
      exact ⟨⟨o, ho, hcl⟩, ⟨o, ho⟩, fun h1 h2 ⟨o, e, c⟩ k => ⟨o, k o e, c⟩⟩
    · rw [upd_ne hb] at e
      exact (F.hok b u e).stay (fun c o _ q => q) (fun c q => by rw [upd_ne (na c _ q)]; exact q) fun c xs q => by rw [upd_ne (na c _ q)]; exact q
theorem name_goes {M : Model} {A : Around} {E : Value → Shared → Prop} {i : Nat} {n : Str} {pos : Pos} {Q : Unit → Shared → Prop} (I : Inv X pins σ H s) (nd : X.N.Nodup) (hi : X.N[i]? = some n) (hl : X.env.scope.names.lookup n = some .local) (h : ∀ s', Inv X pins (σ.set i none) H s' → Q () s') :
    wpAny M A (do bindName X.env n .none; unbindBehindTheSuite X.env n pos) Q E s := by
  obtain ⟨m, hn, hlk⟩ := I.loc
  refine wpAny_nameGoes_keeps (m := m) hl hn (by rw [I.ok.kind]; rfl) fun h' v hn' hs => h _ ?_
  have neL : ∀ b o, X.s₀.heap.get? b = some o → b ≠ X.env.locals := fun b o e => Nat.ne_of_lt (Nat.lt_of_lt_of_le (Heap.lt_size e) I.ok.above)
  refine ⟨I.ok, I.os, I.bare, ⟨fun b o e n hb hx => (hs.2 b (neL b o e)).trans (I.base.keep b o e n hb hx), fun b o e n hb hx => ?_, I.base.free, fun b o e hx => ?_, I.base.tups, I.base.frzs, I.base.tbls⟩, ⟨_, hn', fun j y v' e1 e2 e3 => ?_⟩, fun y c e => ?_, I.free, I.freeC, fun p hp => ?_, fun b u e => ?_, by rw [List.length_set]; exact I.len⟩
  · obtain ⟨sl, q⟩ := I.base.slot b o e n hb hx
    exact ⟨sl, (hs.2 b (neL b o e)).trans q⟩
  · obtain ⟨o', q⟩ := I.base.there b o e hx
    exact ⟨o', (hs.2 b (neL b o e)).trans q⟩
  · by_cases hj : j = i
    · subst hj
      rw [List.getElem?_set] at e2
      split at e2 <;> rename_i z
      · split at e2 <;> cases e2
      · exact absurd rfl z
    · rw [List.getElem?_set_ne (Ne.symm hj)] at e2
      obtain ⟨u', r', q⟩ := hlk j y v' e1 e2 e3
      refine ⟨u', r', ?_⟩
      rcases q with ⟨k, e⟩ | ⟨k, c, e, z⟩
      · refine .inl ⟨k, ?_⟩
        have : y ≠ n := fun e => hj (nodup_ix nd e1 (e ▸ hi))
        simp [this, e]
      · exact .inr ⟨k, c, e, z.sameBut hs (I.cne y c e)⟩
  · obtain ⟨w', z⟩ := I.cell y c e
    exact ⟨w', z.sameBut hs (I.cne y c e)⟩
  · obtain ⟨e, n, ne, nf, d⟩ := I.pin p hp
    exact ⟨(hs.2 p.1 ne).trans e, n, ne, nf, d⟩
  · refine (I.hok b u e).stay (fun c o hc q => ?_) (fun _ q => q) fun _ _ q => q
    have nc : c ≠ X.env.locals := fun z => by
      rcases hc with rfl | hc
      · rw [z, I.free] at e; cases e
      · rw [z, I.free] at hc; cases hc
    exact (hs.2 c nc).trans q
end
def Ends.lose (D : Ends) (i : Nat) : Ends := { nx := fun σ H => D.nx (σ.set i none) H, rt := D.rt, bk := fun σ H => D.bk (σ.set i none) H, ct := fun σ H => D.ct (σ.set i none) H }
def tTry (i : Nat) (fits : Value → Prop) (tb : XG → TS) (ts : TS) : TS := fun D σ H => tb (fun cls σ' H' => fits cls ∧ ∀ a, H' a = none → ts (D.lose i) (σ'.set i (some (.ref a))) (upd H' a (excO a cls))) D σ H
theorem ps_try {X : Cx} {body suite : List Stmt} {b₀ : Stmt} {c n : Str} {cp hp pos : Pos} {i : Nat} {C0 : Addr} {tb : XG → TS} {ts : TS} {fits : Value → Prop} (nd : X.N.Nodup) (hi : X.N[i]? = some n) (hl : X.env.scope.names.lookup n = some .local) (hst : X.stack = X.env :: X.outer) (hfr : X.env.frame = some X.env.locals)
    (hg : Gl X c) (hm : X.mg c = some (.ref C0)) (hf : ∀ cls, fits cls → exmOne X.K cls (.ref C0) = some true)
    (hb : ∀ (pn : List (Addr × Obj)) (W : Value → Shared → Prop) (G : XG), PassAt (X.tried pn W) G → PSs (X.tried pn W) body (tb G)) (hs : ∀ a, PSs (X.caught a) (b₀ :: suite) ts) (hd : (c == ("__debug__" : Str)) = false := by decide) :
    PS X (.Try body [.ExceptHandler (some (.Name c cp)) (some n) (b₀ :: suite) hp] [] [] pos) (tTry i fits tb ts) := by
  intro pins s σ H D I h
  refine wpAny_Try_except ?_
  refine wpAny_mono (hb (X.pn ++ pins) (fun e s' => ∃ a cls σ1 H1 s1 H' B t, e = .ref a ∧ Inv X pins σ1 H1 s1 ∧ s'.os = s1.os ∧ AllBare s'.gens ∧ Fl X.prog X.w (frs X.stack) H1 s1.heap a H' B s'.heap ∧ Heap.FlyingW B X.stack a cls (.ref t) s'.heap ∧
    fits cls ∧ ∀ a, H' a = none → ts (D.lose i) (σ1.set i (some (.ref a))) (upd H' a (excO a cls))) _ (fun ps σ1 H1 s1 e s' I1 ⟨a, cls, H', B, t, he, os, bare, F, fl, q⟩ => ⟨a, cls, σ1, H1, s1, H', B, t, he, I1.untried, os, bare, F, fl, q⟩) [] s σ H D (I.tried _) h) (fun f s1 q => ?_) (fun e s' q => ?_)
  · cases f with
    | next => obtain ⟨σ', H', I', q⟩ := q; exact wpAny_pure ⟨σ', H', I'.untried, q⟩
    | brk => obtain ⟨σ', H', I', q⟩ := q; exact ⟨σ', H', I'.untried, q⟩
    | cont => obtain ⟨σ', H', I', q⟩ := q; exact ⟨σ', H', I'.untried, q⟩
    | ret u => obtain ⟨v, σ', H', I', r, q⟩ := q; exact ⟨v, σ', H', I'.untried, r, q⟩
  · obtain ⟨a, cls, σ1, H1, s1, H', B, t, rfl, I1, os, bare, F, fl, hf1, hq⟩ := q
    have fl' := fl
    rw [hst] at fl'
    refine wpAny_looks_onW (outer := X.outer) (by rw [I.ok.frames, hst]) hfr fl' fun h4 held up4 => ?_
    refine wpAny_landsW held fun h5 fl5 up5 => ?_
    have F5 := (F.on held.1 up4).on fl5.1 up5
    have I5 : Inv X pins σ1 H' { s' with heap := h5 } := I1.call' (ch := []) os F5.un F5.hok bare (fun b z => by cases z)
    refine wpAny_handleBy_cons (codeAny_handlers_test ?_) (by intro z; cases z)
    refine ld_glob (X := X.caught a) (I5.caught a) hg hm ?_ hd
    obtain ⟨oe, hoe, hoc⟩ := fl5.there
    have LT : Looks (model X.prog X.w) h5 (typeOf (.ref a)) cls := hoc ▸ (Looks.ld hoe).andThen .now
    refine (exm_one I5.kIn LT (hf cls hf1)).here ?_
    refine codeAny_handlers_suite_as ?_
    refine lands_againW fl5 fun h6 fl6 up6 => ?_
    have F6 := F5.on fl6.1 up6
    have I6 : Inv X pins σ1 (upd H' a (excO a cls)) { s' with heap := h6 } := I1.lands os bare F6 fl6.there
    refine store_ok (X := X.caught a) (I6.caught a) nd hi (.inl hl) (v := .ref a) rfl (fun s7 I7 => ?_) (.inr hl)
    refine wpAny_mono (hs a pins s7 _ _ (D.lose i) I7 (hq a F.free)) (fun f s8 q8 => ?_) (fun e s8 z => z.elim)
    cases f with
    | next => obtain ⟨σ', H2, I', q⟩ := q8; exact name_goes (I'.uncaught I.ok) nd hi hl fun s9 I9 => ⟨_, H2, I9, q⟩
    | brk => obtain ⟨σ', H2, I', q⟩ := q8; exact name_goes (I'.uncaught I.ok) nd hi hl fun s9 I9 => ⟨_, H2, I9, q⟩
    | cont => obtain ⟨σ', H2, I', q⟩ := q8; exact name_goes (I'.uncaught I.ok) nd hi hl fun s9 I9 => ⟨_, H2, I9, q⟩
    | ret u => obtain ⟨v, σ', H2, I', r, q⟩ := q8; exact name_goes (I'.uncaught I.ok) nd hi hl fun s9 I9 => ⟨v, _, H2, I9, r, q⟩
end L2
set_option Elab.async false
set_option linter.all false
set_option maxRecDepth 100000
set_option maxHeartbeats 4000000
namespace L2
open PySem PySem.Spec PyProof.Rows PySem.W
def valueMro : List Value := [.type "ValueError", .type "Exception", .type "BaseException", .type "object"]
def excV (K : Frag) (C : Addr) : Bool := excIn K C valueMro "ValueError.__new__"
theorem exc_parts {K : Frag} {h : Heap} {C : Addr} (Y : K.In h) (z : excV K C = true) :
    ∃ bm N nm q bs hdct sn sub ab col dd k0 k1 k2 k3 k5 mN, h.get? C = some (excClassObj nm q C N bs bm hdct sn sub ab col dd k0 k1 k2 k3 k5 "ValueError.__new__") ∧ h.Ns N mN ∧ mN "__init__" = none ∧ OwnTail h valueMro bm := by
  unfold excV excIn at z
  split at z
  · rename_i d1 c1 l1 lk
    split at z
    · rename_i C2 b2 a0 a1 a2 a3 nn a5 em es
      obtain ⟨z, z6⟩ := Bool.and_eq_true_iff.mp z
      obtain ⟨z, z5⟩ := Bool.and_eq_true_iff.mp z
      obtain ⟨z, z4⟩ := Bool.and_eq_true_iff.mp z
      obtain ⟨z, z3⟩ := Bool.and_eq_true_iff.mp z
      obtain ⟨z1, z2⟩ := Bool.and_eq_true_iff.mp z
      have e1 := beq_iff_eq.mp z1
      have e2 := beq_iff_eq.mp z2
      have e6 := beq_iff_eq.mp z6
      subst e1 e2
      cases c1 with
      | mk nm1 bs1 mro1 ns1 qn1 hd1 sn1 sub1 ab1 col1 del1 =>
      have e3 : del1 = false := by simpa using z3
      have em : mro1 = _ := em
      subst e3 em
      have el : l1 = #[a0, a1, a2, a3, some (.builtin "ValueError.__new__"), a5] := by
        cases l1 with
        | mk l => exact congrArg Array.mk es
      subst el
      exact ⟨b2, ns1, nm1, qn1, bs1, hd1, sn1, sub1, ab1, col1, d1, a0, a1, a2, a3, a5, _, Y _ _ lk, .of_isNs (isNs_of_in Y z5), nsMap_none_of_in Y z5 e6, tail_of_in Y z4⟩
    · cases z
  · cases z
def tRaise (C : Addr) (G : XG) (te : TA) : TS := fun D σ H => te σ H fun vs H1 => vs.length ≤ sizeLine ∧ G (.ref C) σ H1
theorem ps_raise {X : Cx} {x : Str} {C : Addr} {G : XG} {e : Expr} {ta : TA} {np cpos pos : Pos} (hm : MadeAt X G) (hc : X.calm = true) (hg : Gl X x) (hmg : X.mg x = some (.ref C)) (q : excV X.K C = true) (ha : PA X [e] ta) (hn : noStar [e] = true := by rfl) (hd : (x == ("__debug__" : Str)) = false := by decide) :
    PS X (.Raise (some (.Call (.Name x np) [e] [] cpos)) none pos) (tRaise C G ta) := by
  intro pins s σ H D I h
  obtain ⟨bm, N, nm, qn, bs, hdct, sn, sub, ab, col, dd, k0, k1, k2, k3, k5, mN, hC, hN, hni, T⟩ := exc_parts I.ok.mod.kin q
  refine wpAny_Raise_call_subT (C := C) (nm := nm) (q := qn) (N := N) (bs := bs) (bm := bm) (hdct := hdct) (sn := sn) (sub := sub) (ab := ab) (col := col) (dd := dd) (k0 := k0) (k1 := k1) (k2 := k2) (k3 := k3) (k5 := k5) F.excBase_ValueError (mN := mN) (T.hasType F.excBase_ValueError.hasBase) (I.ok.hd hc) (by rw [starEach_cons hn]; exact backTo_any rfl) hni ?_
  refine ld_glob I hg hmg ⟨rfl, ?_⟩ hd
  rw [starEach_cons hn]
  have h1 := ha cpos pins s σ H _ I h
  rw [starEach_cons hn] at h1
  exact Calls.evalArgs_plain (wpAny_mono h1 (fun us s2 ⟨vs, H1, I1, r, hv, hG⟩ => ⟨rfl, by rw [← r.length]; exact hv, I1.bk _ _ hC, hN.keeps I1.bk, T.keeps I1.bk, fun h' e' hx => hm pins σ H1 s2 h' e' (.ref C) us I1 hx hG⟩) fun _ _ y => y)
abbrev TF := Nat → St → Hp → (Hp → Prop) → Prop
def PF (X : Cx) (es : List Expr) (t : TF) : Prop := ∀ (pins : List (Addr × Obj)) (s : Shared) (σ : St) (H : Hp) (acc : Str) (Q : VK) (n : Nat), acc.length ≤ n → Inv X pins σ H s → t n σ H (fun H' => ∀ z : Str, Q (.str z) H') → wpAny (model X.prog X.w) X.A (joinParts acc (evalEach es X.env)) (EP X pins σ Q) X.xe s
def tFnil : TF := fun n _ H K => n ≤ 1000000 ∧ K H
def tFcon (k : Nat) (t : TF) : TF := fun n σ H K => n + k ≤ 1000000 ∧ t (n + k) σ H K
def tFstr (te : TE) (t : TF) : TF := fun n σ H K => te σ H fun v H1 => ∃ y, v = .str y ∧ n + y.length ≤ 1000000 ∧ t (n + y.length) σ H1 K
def tFrep (te : TE) (t : TF) : TF := fun n σ H K => te σ H fun v H1 => ∃ y, v = .str y ∧ (∀ c ∈ y.cps.toList, c < 0x110000) ∧ n + (10 * y.length + 2) ≤ 1000000 ∧ t (n + (10 * y.length + 2)) σ H1 K
section
variable {X : Cx} {e : Expr} {es : List Expr} {te : TE} {t : TF} {x : Str} {j : Nat} {p q : Pos}
theorem million {n : Nat} (h : n ≤ 1000000) : n ≤ sizeLine := Nat.le_trans h (by decide)
theorem pf_nil : PF X [] tFnil := fun pins s σ H acc Q n ha I h => joinParts_nil ⟨.str acc, H, I.tok _, ⟨_, rfl⟩, h.2 acc⟩ (million (Nat.le_trans ha h.1))
theorem pf_con (ht : PF X es t) : PF X (.Constant (.str x) j p :: es) (tFcon x.length t) := fun pins s σ H acc Q n ha I h => by
  refine joinParts_cons (Calls.Constant_str ?_)
  have hl : (acc ++ x).length ≤ n + x.length := by rw [strLen_append]; omega
  exact ⟨million (Nat.le_trans hl h.1), ht pins _ σ H (acc ++ x) Q _ hl (I.tok _) h.2⟩
theorem pf_str (he : PE X e te) (ht : PF X es t) : PF X (.FormattedValue e (-1) none p :: es) (tFstr te t) := fun pins s σ H acc Q n ha I h => by
  refine joinParts_cons (FormattedValue_plain (thn (he pins s σ H _ I h) fun u s1 ⟨v, H1, I1, r, y, hv, hy, hq⟩ => ?_))
  subst hv
  obtain ⟨tk, rfl⟩ := r
  have hl : (acc ++ y).length ≤ n + y.length := by rw [strLen_append]; omega
  exact formatField_str (fun t' tk' => ⟨million (Nat.le_trans hl hy), ht pins _ σ H1 (acc ++ y) Q _ hl (I1.tok _) hq⟩) (million (by omega))
def tFst (t : TF) : TE := fun σ H Q => t 0 σ H fun H' => ∀ z : Str, Q (.str z) H'
theorem pe_fst {e2 : Expr} (h : PF X (e :: e2 :: es) t) : PE X (.JoinedStr (e :: e2 :: es) p) (tFst t) := fun pins s σ H Q I hq => JoinedStr_many (h pins s σ H Str.empty Q 0 (Nat.le_refl _) I hq)
end
end L2
set_option Elab.async false
set_option linter.all false
set_option maxRecDepth 100000
set_option maxHeartbeats 1000000
namespace L2
open PySem PySem.Spec PySem.Calls PyProof.Rows PySem.W Builtin Builtin.ObjectAttr Builtin.Getset_descriptor
structure ExcOf (K : Frag) (D : Addr) : Prop where
  ga : findIn K (.ref D) "__getattribute__" = some (some (.builtin "BaseException.__getattribute__"))
  gt : findIn K (.ref D) "__getattr__" = some none
  cl : findIn K (.ref D) "__class__" = some (some (.builtin "object.__class__"))
  gs : specialIn K (.builtin "object.__class__") "__get__" = some (some (.builtin "getset_descriptor.__get__"))
  tk : takesIn K (.builtin "object.__class__") = some true
  ob : mroIn K D (.type "object") = some true
  be : mroIn K D (.type "BaseException") = some true
  is : (clsIn K D).isSome = true
def ExcAt (x D : Addr) (h : Heap) : Prop := ∃ o, h.get? x = some o ∧ o.cls = .ref D
theorem excAt_ty {M : Model} {h : Heap} {x D : Addr} (p : ExcAt x D h) : Looks M h (typeOf (.ref x)) (.ref D) := by
  obtain ⟨o, h1, h2⟩ := p
  exact h2 ▸ (Looks.ld h1).andThen .now
section
variable {prog : Program} {w : World} {A : Around} {E : Value → Shared → Prop} {s : Shared} {K : Frag} {x D : Addr}
theorem exc_get {R : Result → Shared → Prop} {tp : Value} (Y : K.In s.heap) (p : ExcAt x D s.heap) (k : ExcOf K D) (h : R (.ok (.ret (.ref D))) s) : codeAny (model prog w) A (.call (.builtin "getset_descriptor.__get__") ⟨[.builtin "object.__class__", .ref x, tp], []⟩) R s := by
  obtain ⟨h0, g, dr, t, os⟩ := s
  have T0 := excAt_ty (M := model prog w) p
  have T1 := looks_mroIn (M := model prog w) Y k.ob
  refine codeAny_call_builtin KF.slot_gs.plain KF.entry_gs
    (KF.slot_gs.check _ _ _ _ _ _ _ _ KF.type_class (KF.args_gs _ _ _) ?_)
  unfold Builtin.«getset_descriptor.__get__» descrGet; rw [dga_obj]
  refine wpAny_bind (wpAny_pure ?_); unfold descrGetter descrCheckInstance descrNameAndClass isInstance
  simp only [KF.owner_class]; repeat lk
  refine And.intro (Code.quiet_builtin _ (by decide +kernel)) (codeAny_builtin KF.entry_class ?_)
  unfold Builtin.«object.__class__» shownTypeOf; repeat lk
  exact h
theorem exc_entry {tk : Tok} {Q : Fin → Shared → Prop} (Y : K.In s.heap) (p : ExcAt x D s.heap) (k : ExcOf K D) (h : Q (.done (.ret (.ref D))) s) : wpAny (model prog w) A (Builtin.«object.__getattribute__» ⟨[.ref x, .str "__class__" tk], []⟩) Q E s := by
  obtain ⟨h0, g, dr, t, os⟩ := s
  have T0 := excAt_ty (M := model prog w) p
  have T1 := looks_findIn (M := model prog w) Y k.cl
  have T2 := looks_specialIn (M := model prog w) Y k.gs
  have T3 := looks_takesIn (M := model prog w) Y k.tk
  have TF : Looks (model prog w) h0 (find (.ref x) (.ref D) "__class__") (.bind (.builtin "getset_descriptor.__get__") (.builtin "object.__class__")) :=
    T1.andThen (Looks.andThen (show Looks (model prog w) h0 (getOf (some (.builtin "object.__class__"))) (some (.builtin "getset_descriptor.__get__")) from T2) ((show Looks (model prog w) h0 (dataDescriptor? (some (.builtin "object.__class__")) (some (.builtin "getset_descriptor.__get__"))) (some (.builtin "getset_descriptor.__get__", .builtin "object.__class__")) from T3.andThen .now).andThen (Looks.tag .now)))
  refine wpAny_bind (wpAny_pure ?_)
  refine wpAny_bind (wpAny_pure (wpAny_bind (T0.at (wpAny_bind (TF.at ?_)))))
  show wpAny _ _ (holding [Value.builtin "object.__class__"] (call (.builtin "getset_descriptor.__get__") [.builtin "object.__class__", .ref x, .ref D]) >>= ret) _ _ _
  exact wpAny_bind (wpAny_holding (wpAny_call (exc_get (s := ⟨h0, g, dr, t, os⟩) Y p k (wpAny_pure h))))
theorem exc_check {nameV : Value} {Q : Unit → Shared → Prop} (Y : K.In s.heap) (p : ExcAt x D s.heap) (k : ExcOf K D) (h : Q () s) : wpAny (model prog w) A (checkBuiltinCall "BaseException.__getattribute__" ⟨[.ref x, nameV], []⟩) Q E s := by
  obtain ⟨h0, g, dr, t, os⟩ := s
  have T0 := excAt_ty (M := model prog w) p
  have T1 := looks_mroIn (M := model prog w) Y k.be
  have TI : Looks (model prog w) h0 (isInstance (.ref x) (.type "BaseException")) true := T0.andThen T1
  have b1 : builtinKind "BaseException.__getattribute__" = some .slot := by decide +kernel
  have b2 : splitId "BaseException.__getattribute__" = some ("BaseException", "__getattribute__") := by decide +kernel
  have ar := F.args_bexc_ga (.ref x) nameV
  simp only [checkBuiltinCall, b1, b2]
  refine wpAny_bind (TI.at ?_)
  rw [if_neg (by decide)]
  exact wpAny_of_eq ar h
theorem exc_class {Q : Option Value → Shared → Prop} (Y : K.In s.heap) (p : ExcAt x D s.heap) (k : ExcOf K D) (h : Q (some (.ref D)) { s with toks := s.toks + 1 }) : wpAny (model prog w) A (getAttr? (.ref x) "__class__") Q E s := by
  obtain ⟨h0, g, dr, t, os⟩ := s
  have T0 := excAt_ty (M := model prog w) p
  have T1 := looks_findIn (M := model prog w) Y k.ga
  have T2 := looks_findIn (M := model prog w) Y k.gt
  unfold getAttr? getAttrBy? getAttrBy; refine wpAny_bind (wpAny_mkText (wpAny_bind (wpAny_attempt (wpAny_holding (wpAny_bind (T0.at (wpAny_bind (T1.at ?_))))))))
  show wpAny _ _ (getAttrByItsOwn _ _ _ _ _ _) _ _ _
  unfold getAttrByItsOwn
  refine wpAny_bind (show wpAny _ _ (typeLookup (.ref D) "__getattr__") _ _ _ from T2.at ?_)
  refine wpAny_bind (wpAny_attempt (wpAny_holding ?_))
  show wpAny _ _ (boundAndCalled (.builtin "BaseException.__getattribute__") (.ref x) (.str "__class__" t)) _ _ _
  unfold boundAndCalled
  rw [F.attr_ValueError.ga.bind (.ref x)]
  refine wpAny_bind (wpAny_pure (wpAny_call (codeAny_call_builtin F.attr_ValueError.ga.plain F.entry_bexc_ga (exc_check Y p k (exc_entry Y p k ?_)))))
  exact wpAny_pure (wpAny_pure h)
theorem excAt_kit (k : ExcOf K D) : KitX K (.ref x) (.ref D) (ExcAt x D) where
  ty := fun _ _ _ p => excAt_ty p
  it := fun M h Y _ => by
    obtain ⟨cd, hc⟩ := Option.isSome_iff_exists.mp k.is
    unfold clsIn at hc
    split at hc
    · rename_i ho
      exact fun A' Q' E' s' kk q => wpAny_bind (wpAny_loadPart (kk _ _ (Y _ _ ho)) (wpAny_pure q))
    · cases hc
  ne := fun h tp dd its n sl Y htp => by
    obtain ⟨cd, hc⟩ := Option.isSome_iff_exists.mp k.is
    refine Bool.eq_false_iff.mpr fun q => ?_
    obtain rfl : D = tp := Value.ref.inj (beq_iff_eq.mp q)
    unfold clsIn at hc
    split at hc
    · rename_i ho
      have z := (Y _ _ ho).symm.trans htp
      cases z
    · cases hc
  ca := fun Y p h => exc_class Y p k h
end
def rIsE (K : Frag) : List V → Hp → VK → Prop := fun xs H Q => ∃ (a D : Addr) (c : V) (b : Bool), xs = [.ref a, c] ∧ H a = some (excO a (.ref D)) ∧ ExcOf K D ∧
  ((∃ C : Addr, c = .ref C ∧ kitOne K (.ref D) (.ref C) = some b) ∨ (∃ T : String, c = .ty T ∧ kitOne K (.ref D) (.type T) = some b) ∨ ∃ (tp : Addr) (Cs : List Addr), c = .ref tp ∧ H tp = some (.tup (Cs.map V.ref)) ∧ kitAny K (.ref D) (Cs.map Value.ref) = some b) ∧ Q (.bl b) H
theorem vals_refs : ∀ {Cs : List Addr} {us : List Value}, Vals (Cs.map V.ref) us → us = Cs.map Value.ref
  | [], _, .nil => rfl
  | C :: Cs, _, .cons r t => by
    have e : _ = Value.ref C := r
    rw [e, vals_refs t]
    rfl
theorem call_isE {X : Cx} : CallR X (.builtin "isinstance") (rIsE X.K) := by
  intro pins s σ H xs us Q I r h
  obtain ⟨a, D, c, b, rfl, ha, k, hc, q⟩ := h
  obtain ⟨u, v, rfl, ru, rv⟩ := vals2 r
  have ru : u = Value.ref a := ru
  subst ru
  have p : ExcAt a D s.heap := (I.hok a _ ha).1
  have ne : (Value.ref a) ≠ .builtin "__main__.__loader__#opaque" := fun z => by cases z
  rcases hc with ⟨C, rfl, e⟩ | ⟨T, rfl, e⟩ | ⟨tp, Cs, rfl, ht, e⟩
  · have rv : v = Value.ref C := rv
    subst rv
    exact kia_one (excAt_kit k) I.kIn p e ne fun tk => ⟨.bl b, H, I.tok tk, rfl, q⟩
  · have rv : v = Value.type T := rv
    subst rv
    exact kia_one (excAt_kit k) I.kIn p e ne fun tk => ⟨.bl b, H, I.tok tk, rfl, q⟩
  · have rv : v = Value.ref tp := rv
    subst rv
    obtain ⟨its, rt, pt, _⟩ := I.tuple (SqT.of ht)
    have ei := vals_refs rt
    subst ei
    obtain ⟨⟨c2, dd, data, sl⟩, ho, hcl, n, hd⟩ := id (show s.heap.IsTuple tp (Cs.map Value.ref).toArray from pt)
    simp only at hcl hd
    subst hcl hd
    exact kia_tup (excAt_kit k) I.kIn p ho e ne fun tk => ⟨.bl b, H, I.tok tk, rfl, q⟩
end L2
set_option Elab.async false
set_option linter.all false
set_option maxRecDepth 100000
namespace L2
open PySem PySem.Spec PyProof.Rows PySem.W
section
variable {X : Cx}
theorem call_isEK {K0 : Frag} (h : X.K = K0) : CallR X (.builtin "isinstance") (rIsE K0) := by
  subst h
  exact call_isE
theorem bt_ValueError : bootBuiltins "ValueError" = some (.type "ValueError") := by decide +kernel
def rStrI : List V → Hp → VK → Prop := fun xs H Q => ∃ i : Int, xs = [.int i] ∧ i.natAbs < 10 ^ 500 ∧ Q (.str (Str.ofString (toString i))) H
def rIntT : List V → Hp → VK → Prop := fun xs H Q => ∃ (x : Str) (n : Int), xs = [.str x] ∧ PySem.intText? x = some n ∧ x.length ≤ 640 ∧ Q (.int n) H
def rRepS : R2 := fun x y H Q => ∃ (z : Str) (n : Int), x = .str z ∧ y = .int n ∧ z.length ≤ 1000 ∧ 0 ≤ n ∧ n ≤ 1000 ∧ ∀ z' : Str, z'.length ≤ z.length * n.toNat + z.length → Q (.str z') H
end
end L2
set_option Elab.async false
set_option linter.all false
set_option maxRecDepth 100000
set_option maxHeartbeats 1000000
namespace L2
open PySem PySem.Spec PyProof.Rows PySem.W NP
def Kp (g h : Heap) : Prop := ∀ b o, g.get? b = some o → h.get? b = some o
theorem Kp.trans {g h k : Heap} (a : Kp g h) (b : Kp h k) : Kp g k := fun x o e => b x o (a x o e)
section
variable {prog : Program} {w : World} {A : Around} {E : Value → Shared → Prop} {s : Shared} {I S f : Addr} {fp wr : List Addr} {n : Nat} {P : Nat → Value → Prop} {St : Nat → Heap → Prop} {R : Result → Shared → Prop}
end
section
variable {prog : Program} {w : World} {A : Around} {s : Shared}
end
section
variable {X : Cx}
theorem kv_keys {kvs : List (Key × V)} {dv : List (Key × Value)} (r : KV kvs dv) : dv.map (·.1) = kvs.map (·.1) := by
  induction r with
  | nil => rfl
  | cons r1 _ ih => rw [List.map_cons, List.map_cons, ih, r1.1]
end
end L2
set_option Elab.async false
set_option linter.all false
set_option maxRecDepth 100000
set_option maxHeartbeats 1000000
namespace L2
open PySem PySem.Spec PyProof.Rows PySem.W NP
theorem vals_get : ∀ {ys : List V} {us : List Value}, us.length = ys.length → (∀ (j : Nat) (v : Value), us[j]? = some v → ∃ y, ys[j]? = some y ∧ RelV y v) → Vals ys us
  | [], [], _, _ => .nil
  | [], _ :: _, e, _ => by simp at e
  | _ :: _, [], e, _ => by simp at e
  | y :: ys, u :: us, e, h => by
    obtain ⟨y', e1, r⟩ := h 0 u rfl
    have e1 : y = y' := by simpa using e1
    subst e1
    exact .cons r (vals_get (by simpa using e) fun j v hv => h (j + 1) v hv)
section
variable {X : Cx}
def rListD : List V → Hp → VK → Prop := fun xs H Q => ∃ (d : Addr) (kvs : List (Key × V)), xs = [.ref d] ∧ Rd H d (.dK kvs) ∧ kvs.length ≤ 1000 ∧ ∀ l, H l = none → Q (.ref l) (upd H l (.lst (kvs.map fun p => kV p.1)))
theorem call_listD (hc : X.calm = true) : CallR X (.type "list") rListD := by
  intro pins s σ H xs us Q I r h
  obtain ⟨d, kvs, rfl, hd, hl, q⟩ := h
  obtain ⟨u, rfl, ru⟩ := vals1 r
  cases ru
  obtain ⟨zd, nd, dv, rel, hdd⟩ := dk_rd I.hok hd
  obtain ⟨ep, hat⟩ := hdd.dictAt
  have hlen : dv.length = kvs.length := rel.length.symm
  have hkk := kv_keys rel
  refine kdl_call (kdl_dict (knd := mixKind X.prog X.w) (kvs := dv) (ep := ep) nd) (I.ok.hd hc) hat (by rw [hlen]; exact line1000 hl) fun h' tk acc c hk hS hacc => ?_
  have hn : H s.heap.objs.size = none := I.hok.fresh (Nat.le_refl _)
  have hal : acc.toList.length = (kvs.map fun p => kV p.1).length := by rw [Array.length_toList, hacc.1, hlen, List.length_map]
  have vals : Vals (kvs.map fun p => kV p.1) acc.toList := vals_get hal fun j v hv => by
    obtain ⟨k, x, hx, hkv⟩ := hacc.2 j v (by rw [← Array.getElem?_toList]; exact hv)
    have e1 := congrArg (fun z => z[j]?) hkk
    simp only [List.getElem?_map, hx, Option.map_some] at e1
    cases ex : kvs[j]? with
    | none => rw [ex] at e1; cases e1
    | some y =>
      rw [ex] at e1
      have e2 : k = y.1 := Option.some.inj e1
      subst e2
      exact ⟨kV y.1, by rw [List.getElem?_map, ex]; rfl, kV_of hkv⟩
  refine ⟨.ref s.heap.objs.size, _, I.laidF (t' := tk) (o := .lst (kvs.map fun p => kV p.1)) (fun b o eb => hk b o eb) (fun b o eb => Nat.ne_of_lt (Heap.lt_size eb)) hn ⟨?_, acc.toList, c, vals, ?_⟩, rfl, q _ hn⟩
  · rw [List.length_map]
    exact line1000 hl
  · rw [Array.toArray_toList]
    exact hS
end
end L2
set_option Elab.async false
set_option linter.all false
set_option maxRecDepth 100000
namespace L2
open PySem PySem.Spec PyProof.Rows
end L2
namespace NP
open PySem L2
end NP
set_option Elab.async false
set_option linter.all false
set_option maxRecDepth 100000
namespace L2
open PySem PySem.Spec PyProof.Rows PySem.W
theorem Fun.okCX {P : Program} {w : World} {K : Frag} {mg : Str → Option Value} {base : Heap} {x qual : Str} {st : Stmt} {f c Pt : Addr} {fd : FuncData} {N ps : List Str} {k : Nat} {sp : Sp} (F : Fun K x qual st f fd) (C : CodeAt K f c Pt) (S : FnScope N ps (defScope st)) (len : ∀ vs H Q E, sp vs H Q E → vs.length = ps.length)
    (hbody : ∀ (A : Around) (outer : List Env) (s : Shared) (H : Hp) (vs : List V) (Q : VK) (E : XK), Room k (A.deeper (envOfC qual (defScope st) s.heap.objs.size f (.ref c))) → sp vs H Q E →
      ∃ t, PSs (cxOf (CXE P w) P w K mg base N qual (defScope st) f (.ref c) A outer s H E) (defBody st) t ∧ t { nx := fun _ H' => Q .non H', rt := Q } (start N vs) H) : FnOk P w K mg base (CXE P w) (k + 1) f fd ps sp := by
  obtain ⟨oc, od, kV, doc, pm, an, cdv, ct, osl, rfl, lk, hcd⟩ := F.ex
  have e : cdv = .ref c := C.code _ _ _ _ lk
  subst e
  exact fn_of lk hcd S len fun A outer s H vs Q E hr hsp => hbody A outer s H vs Q E hr hsp
end L2
set_option Elab.async false
set_option linter.all false
set_option maxRecDepth 100000
namespace L2
open PySem PySem.Spec PyProof.Rows PySem.W
def FnAt (P : Program) (w : World) (K : Frag) (mg : Str → Option Value) (base : Heap) (k : Nat) (f : Addr) (sp : Sp) : Prop := ∃ fd ps, PySem.W.keepIn K (.ref f) = true ∧ Binds K fd ps [] ∧ FnOk P w K mg base (CXE P w) k f fd ps sp
def tCallV (A : Addr → Sp → Prop) (i : Nat) (G : XG) (t : TA) : TE := fun σ H Q => ∃ f sp, σ[i]? = some (some (.ref f)) ∧ A f sp ∧ t σ H fun vs H1 => sp vs H1 Q fun cls _ H' => G cls σ H'
theorem pe_callV {X : Cx} {P : Program} {w : World} {K : Frag} {mg : Str → Option Value} {base : Heap} {x : Str} {i k : Nat} {G : XG} {e : Expr} {es : List Expr} {t : TA} {p pos : Pos} (e1 : X.prog = P) (e2 : X.w = w) (e3 : X.K = K) (e4 : X.mg = mg) (e5 : X.base = base) (hv : PE X (.Name x p) (tVar i)) (hp : PassAt X G) (hr : Room k X.A) (ha : PA X (e :: es) t) (hn : noStar (e :: es) = true := by rfl) :
    PE X (.Call (.Name x p) (e :: es) [] pos) (tCallV (FnAt P w K mg base k) i G t) := by
  subst e1 e2 e3 e4 e5
  intro pins s σ H Q I h
  obtain ⟨f, sp, hσ, ⟨fd, ps, hk, hb, F⟩, ht⟩ := h
  refine wpAny_Call_Name_kw (thn (hv pins s σ H (fun v H1 => v = .ref f ∧ t σ H1 fun vs H2 => sp vs H2 Q fun cls _ H' => G cls σ H') I ⟨_, hσ, rfl, ht⟩) fun u s1 ⟨v, H1, I1, r, ev, q⟩ => ?_)
  subst ev
  have r : u = Value.ref f := r
  subst r
  refine PySem.W.callWith_K (h₀ := X.base) I1.ok.mod.kin hk (thn (ha pos pins s1 σ H1 _ I1 q) fun us s2 ⟨vs, H2, I2, r, q⟩ => ⟨I2.kIn, ?_⟩) (starEach_cons (noStar_cons hn).1) (backTo_any (noStar_cons hn).2)
  exact run_fnX F hr hb hp I2 r q
theorem FnOk.wider {P : Program} {w : World} {K : Frag} {mg : Str → Option Value} {base : Heap} {CX : CXT} {k k' : Nat} {f : Addr} {fd : FuncData} {ps : List Str} {sp sp' : Sp} (F : FnOk P w K mg base CX k f fd ps sp) (hk : k ≤ k') (h : ∀ vs H Q E, sp' vs H Q E → sp vs H Q E) : FnOk P w K mg base CX k' f fd ps sp' where
  len := fun vs H Q E z => F.len vs H Q E (h vs H Q E z)
  run := fun A outer s H as us vs Q E hr he hb r z => F.run A outer s H as us vs Q E (hr.mono hk) he hb r (h vs H Q E z)
end L2
set_option Elab.async false
set_option linter.all false
set_option maxRecDepth 100000
namespace NP
open PySem L2
theorem keys_cutE (G : Gr) : keysG (cutE G) = (G.filter fun e => decide (goOn (keysG G) e.2 ≠ [])).map (·.1) := by
  unfold cutE
  generalize keysG G = ks
  induction G with
  | nil => rfl
  | cons e r ih =>
    rw [List.filterMap_cons, List.filter_cons]
    unfold cutOne
    by_cases h : goOn ks e.2 = []
    · rw [if_pos h, if_neg (by simp [h])]
      exact ih
    · rw [if_neg h, if_pos (decide_eq_true h)]
      show e.1 :: keysG (r.filterMap (cutOne ks)) = _
      rw [ih]
      rfl
theorem entry_one {x : Str} {ps qs : List Str} : ∀ {G : Gr}, (G.map (·.1)).Nodup → (x, ps) ∈ G → (x, qs) ∈ G → ps = qs
  | [], _, h, _ => nomatch h
  | e :: r, nd, h1, h2 => by
    rw [List.map_cons, List.nodup_cons] at nd
    rcases List.mem_cons.mp h1 with a | a
    · rcases List.mem_cons.mp h2 with b | b
      · rw [← a] at b
        exact (Prod.mk.inj b).2.symm
      · exact absurd (List.mem_map.mpr ⟨_, b, by rw [← a]⟩) nd.1
    · rcases List.mem_cons.mp h2 with b | b
      · exact absurd (List.mem_map.mpr ⟨_, a, by rw [← b]⟩) nd.1
      · exact entry_one nd.2 a b
theorem cutN_keep {G : Gr} (nd : (keysG G).Nodup) : ∀ (n : Nat) {x y : Str} {ps qs : List Str}, (x, ps) ∈ G → (x, qs) ∈ cutN n G → y ∈ ps → (∀ i, i < n → y ∈ keysG (cutN i G)) → y ∈ qs
  | 0, x, y, ps, qs, h1, h2, h3, _ => by
    rw [← entry_one nd h1 h2]
    exact h3
  | n + 1, x, y, ps, qs, h1, h2, h3, hy => by
    have h2 : (x, qs) ∈ cutE (cutN n G) := h2
    unfold cutE at h2
    obtain ⟨e, he, hc⟩ := List.mem_filterMap.mp h2
    unfold cutOne at hc
    split at hc
    · cases hc
    · cases hc
      have := cutN_keep nd n (x := e.1) (qs := e.2) h1 he h3 fun i hi => hy i (by omega)
      exact List.mem_filter.mpr ⟨this, decide_eq_true (hy n (by omega))⟩
theorem keys_sub {G : Gr} : ∀ n, (keysG (cutN (n + 1) G)).Sublist (keysG (cutN n G)) := fun n => keys_filter
theorem keys_le {G : Gr} {x : Str} : ∀ (n : Nat), x ∈ keysG (cutN n G) → ∀ i, i ≤ n → x ∈ keysG (cutN i G)
  | 0, h, i, hi => by have : i = 0 := by omega
                      rw [this]; exact h
  | n + 1, h, i, hi => by
    by_cases e : i = n + 1
    · rw [e]; exact h
    · exact keys_le n ((keys_sub n).subset h) i (by omega)
theorem keys_next {G : Gr} (nd : (keysG G).Nodup) {x y : Str} {ps : List Str} (h : (x, ps) ∈ G) (hy : y ∈ ps) : ∀ n, x ∈ keysG (cutN n G) → y ∈ keysG (cutN n G) → x ∈ keysG (cutN (n + 1) G) := fun n hx hyn => by
  obtain ⟨e, he, ee⟩ := List.mem_map.mp hx
  have he' : (x, e.2) ∈ cutN n G := by rw [← ee]; exact he
  have h1 := cutN_keep nd n h he' hy fun i hi => keys_le n hyn i (by omega)
  show x ∈ keysG (cutE (cutN n G))
  rw [keys_cutE]
  refine List.mem_map.mpr ⟨(x, e.2), List.mem_filter.mpr ⟨he', decide_eq_true fun z => ?_⟩, rfl⟩
  have : y ∈ goOn (keysG (cutN n G)) e.2 := List.mem_filter.mpr ⟨h1, decide_eq_true hyn⟩
  have z : goOn (keysG (cutN n G)) e.2 = [] := z
  rw [z] at this
  cases this
theorem keys_part {G : Gr} (nd : (keysG G).Nodup) {x y : Str} {ps : List Str} (h : (x, ps) ∈ G) (hy : y ∈ ps) : ∀ n, y ∈ keysG (cutN n G) → x ∈ keysG (cutN (n + 1) G)
  | 0, hyn => keys_next nd h hy 0 (List.mem_map.mpr ⟨_, h, rfl⟩) hyn
  | n + 1, hyn => keys_next nd h hy (n + 1) (keys_part nd h hy n ((keys_sub n).subset hyn)) hyn
def lastIn (G : Gr) (x : Str) : Nat → Nat
  | 0 => 0
  | n + 1 => if x ∈ keysG (cutN (n + 1) G) then n + 1 else lastIn G x n
theorem lastIn_le (G : Gr) (x : Str) : ∀ n, lastIn G x n ≤ n
  | 0 => Nat.le_refl _
  | n + 1 => by
    unfold lastIn
    split
    · exact Nat.le_refl _
    · exact Nat.le_succ_of_le (lastIn_le G x n)
theorem lastIn_mem {G : Gr} {x : Str} (h : x ∈ keysG G) : ∀ n, x ∈ keysG (cutN (lastIn G x n) G)
  | 0 => h
  | n + 1 => by
    unfold lastIn
    split
    · assumption
    · exact lastIn_mem h n
theorem lastIn_ge {G : Gr} {x : Str} : ∀ n i, i ≤ n → x ∈ keysG (cutN i G) → i ≤ lastIn G x n
  | 0, i, hi, _ => hi
  | n + 1, i, hi, h => by
    unfold lastIn
    split
    · exact hi
    · rename_i hn
      by_cases e : i = n + 1
      · rw [e] at h; exact absurd h hn
      · exact lastIn_ge n i (by omega) h
theorem cut_low {G : Gr} (nd : (keysG G).Nodup) {n : Nat} (h0 : cutN n G = []) (own : ∀ e ∈ G, ∀ y ∈ e.2, y ∈ keysG G) : ∃ r : Str → Nat, (∀ e ∈ G, r e.1 < n) ∧ ∀ e ∈ G, ∀ y ∈ e.2, r y < r e.1 := by
  have no : ∀ x, x ∉ keysG (cutN n G) := fun x hx => by rw [h0] at hx; cases hx
  have lt : ∀ x, x ∈ keysG G → lastIn G x n < n := fun x hx => by
    have h1 := lastIn_le G x n
    have h2 := lastIn_mem hx n
    by_cases e : lastIn G x n = n
    · rw [e] at h2; exact absurd h2 (no x)
    · omega
  refine ⟨fun x => lastIn G x n, fun e he => lt _ (List.mem_map.mpr ⟨e, he, rfl⟩), fun e he y hy => ?_⟩
  have h1 := lt y (own e he y hy)
  have h2 := keys_part nd (x := e.1) (ps := e.2) he hy _ (lastIn_mem (own e he y hy) n)
  have h3 := lastIn_ge n _ (by omega) h2
  show lastIn G y n < lastIn G e.1 n
  omega
theorem cut_still {G : Gr} (h : keysG (cutE G) = keysG G) : cutE (cutE G) = cutE G := by
  have e : ∀ q ∈ cutE G, cutOne (keysG G) q = some q := fun q hq => by
    obtain ⟨ps, _, h2, h3, _⟩ := cutE_parts hq
    have z : goOn (keysG G) q.2 = q.2 := List.filter_eq_self.mpr fun x hx => decide_eq_true (h2 x hx).2
    unfold cutOne
    rw [z, if_neg h3]
  show (cutE G).filterMap (cutOne (keysG (cutE G))) = cutE G
  rw [h]
  generalize hX : cutE G = X at e
  show X.filterMap (cutOne (keysG G)) = X
  clear hX
  induction X with
  | nil => rfl
  | cons q r ih =>
    rw [List.filterMap_cons, e q List.mem_cons_self]
    exact congrArg _ (ih fun z hz => e z (List.mem_cons_of_mem _ hz))
theorem cut_fix {G : Gr} : ∀ n, G.length ≤ n → (∃ i, i < n ∧ keysG (cutN (i + 1) G) = keysG (cutN i G)) ∨ cutN n G = [] := fun n hn => by
  have key : ∀ k, (∃ i, i < k ∧ keysG (cutN (i + 1) G) = keysG (cutN i G)) ∨ (cutN k G).length + k ≤ G.length := fun k => by
    induction k with
    | zero => exact .inr (Nat.le_refl _)
    | succ k ih =>
      rcases ih with ⟨i, hi, e⟩ | h
      · exact .inl ⟨i, by omega, e⟩
      · by_cases e : (cutN (k + 1) G).length = (cutN k G).length
        · refine .inl ⟨k, Nat.lt_succ_self _, ?_⟩
          refine (keys_sub k).eq_of_length ?_
          unfold keysG
          rw [List.length_map, List.length_map, e]
        · have h1 : (cutN (k + 1) G).length ≤ (cutN k G).length := cutE_len _
          exact .inr (by omega)
  rcases key n with h | h
  · exact .inl h
  · exact .inr (List.eq_nil_of_length_eq_zero (by omega))
theorem cut_stays {G : Gr} {i : Nat} (h : keysG (cutN (i + 1) G) = keysG (cutN i G)) : ∀ j, i + 1 ≤ j → cutN j G = cutN (i + 1) G
  | 0, hj => by omega
  | j + 1, hj => by
    by_cases e : j = i
    · rw [e]
    · have h1 := cut_stays h j (by omega)
      show cutE (cutN j G) = _
      rw [h1]
      show cutE (cutE (cutN i G)) = cutE (cutN i G)
      exact cut_still h
theorem cut_closed {G : Gr} {n : Nat} (hn : G.length ≤ n) {e : Str × List Str} (he : e ∈ cutN n G) : e.2 ≠ [] ∧ ∀ y ∈ e.2, y ∈ keysG (cutN n G) := by
  rcases cut_fix n hn with ⟨i, hi, h⟩ | h
  · have hs := cut_stays h n (by omega)
    rw [hs] at he ⊢
    obtain ⟨ps, _, h2, h3, _⟩ := cutE_parts (show e ∈ cutE (cutN i G) from he)
    exact ⟨h3, fun y hy => by rw [h]; exact (h2 y hy).2⟩
  · rw [h] at he
    cases he
theorem keys_turn {G : Gr} (nd : (keysG G).Nodup) (n : Nat) : keysG (cutN (n + 1) G) = (keysG (cutN n G)).filter fun x => (G.any fun e => decide (e.1 = x) && e.2.any fun y => decide (y ∈ keysG (cutN n G))) := by
  show keysG (cutE (cutN n G)) = _
  rw [keys_cutE]
  show _ = ((cutN n G).map (·.1)).filter _
  rw [List.filter_map]
  congr 1
  refine List.filter_congr fun e he => ?_
  obtain ⟨ps, h1, h2, _⟩ := cutN_parts n he
  rw [Bool.eq_iff_iff, decide_eq_true_iff]
  show goOn (keysG (cutN n G)) e.2 ≠ [] ↔ (G.any fun q => decide (q.1 = e.1) && q.2.any fun y => decide (y ∈ keysG (cutN n G))) = true
  constructor
  · intro h
    obtain ⟨y, hy⟩ := List.exists_mem_of_ne_nil _ h
    obtain ⟨y1, y2⟩ := List.mem_filter.mp hy
    refine List.any_eq_true.mpr ⟨(e.1, ps), h1, ?_⟩
    rw [decide_eq_true rfl, Bool.true_and]
    exact List.any_eq_true.mpr ⟨y, h2 y y1, y2⟩
  · intro h z
    obtain ⟨q, hq, hh⟩ := List.any_eq_true.mp h
    rw [Bool.and_eq_true] at hh
    obtain ⟨y, hy, hy2⟩ := List.any_eq_true.mp hh.2
    have e1 : q.1 = e.1 := of_decide_eq_true hh.1
    have hyn : y ∈ keysG (cutN n G) := of_decide_eq_true hy2
    have h3 := cutN_keep nd n (x := e.1) (ps := q.2) (qs := e.2) (by rw [← e1]; exact hq) he hy fun i hi => keys_le n hyn i (by omega)
    have : y ∈ goOn (keysG (cutN n G)) e.2 := List.mem_filter.mpr ⟨h3, hy2⟩
    rw [z] at this
    cases this
end NP
set_option Elab.async false
set_option linter.all false
set_option maxRecDepth 100000
set_option maxHeartbeats 4000000
namespace L2
open PySem PySem.Spec PyProof.Rows
def rJoin : V → List V → Hp → VK → Prop := fun x vs H Q => ∃ (sep : Str) (l : Addr) (xs : List Str) (B : Nat), x = .str sep ∧ vs = [.ref l] ∧ H l = some (.lst (xs.map V.str)) ∧ (∀ y ∈ xs, y.length ≤ B) ∧ xs.length * B + xs.length * sep.length ≤ 16777216 ∧ Q (.str (Str.join sep xs)) H
theorem join_len {sep : Str} {B : Nat} {xs : List Str} (h : ∀ y ∈ xs, y.length ≤ B) : (Str.join sep xs).length ≤ xs.length * B + xs.length * sep.length := by
  rw [← StrLaws.glued_eq_join, size_glued]
  have h1 := StrLaws.sumLen_le xs h
  have h2 : (xs.length - 1) * sep.length ≤ xs.length * sep.length := Nat.mul_le_mul_right _ (Nat.sub_le _ _)
  omega
theorem vals_pairs : ∀ {xs : List Str} {us : List Value}, Vals (xs.map V.str) us → ∃ l : List (Str × Tok), strValues l = us ∧ l.map (·.1) = xs
  | [], _, .nil => ⟨[], rfl, rfl⟩
  | x :: xs, u :: us, .cons r t => by
    obtain ⟨l, h1, h2⟩ := vals_pairs t
    obtain ⟨tk, rfl⟩ := r
    exact ⟨(x, tk) :: l, by rw [← h1]; rfl, by rw [← h2]; rfl⟩
theorem mt_join {X : Cx} : MtM X "str.join" rJoin := by
  intro pins s σ H x vs v us Q I rx hv h
  obtain ⟨sep, l, xs, B, rfl, rfl, hH, hB, hz, q⟩ := h
  obtain ⟨tk, rfl⟩ := rx
  obtain ⟨u, rfl, ru⟩ := hv.one
  cases ru
  obtain ⟨z, its, n, r, hlx, e⟩ := I.lstM hH
  obtain ⟨ps, rfl, hps⟩ := vals_pairs r
  refine call_meets F.slot_str_join (typeIs_str s sep tk) F.entry_str_join (F.args_str_join_2 _ _) (meets_str_join_list sep tk l ps (by rw [hps]; exact StrLaws.joinFits hB hz)) ⟨⟨_, e, rfl, n, rfl⟩, ?_⟩
  have fin : ∀ t, (EP X pins σ Q) (.str (Str.join sep xs) t) s := fun t => ⟨.str (Str.join sep xs), H, I, ⟨t, rfl⟩, q⟩
  have fin2 : ∀ t t', (EP X pins σ Q) (.str (Str.join sep xs) t) { s with toks := t' } := fun t t' => ⟨.str (Str.join sep xs), H, I.tok _, ⟨t, rfl⟩, q⟩
  have hjl : (Builtin.Str.glued sep xs).length ≤ sizeLine := by
    rw [StrLaws.glued_eq_join, sizeLine_eq]
    exact Nat.le_trans (join_len hB) hz
  subst hps
  match ps with
  | [] => exact ⟨hjl, fin2 _ _⟩
  | [p] => exact fin p.2
  | p :: p2 :: r2 =>
    have e2 := StrLaws.glued_eq_join sep ((p :: p2 :: r2).map (·.1))
    have f3 := fin2 s.toks (s.toks + 1)
    rw [← e2] at f3
    exact ⟨hjl, f3⟩
section
variable {prog : Program} {w : World} {A : Around} {I : Addr} {fp wr : List Addr} {G : Array GenState → Array GenState → Prop} {St : Nat → Shared → Prop}
theorem SetOf.stays {h h' : Heap} {a : Addr} {M : Str → Bool} {n : Nat} (q : h.SetOf (strKind prog w) a M n) (k : ∀ o, h.get? a = some o → h'.get? a = some o) : h'.SetOf (strKind prog w) a M n :=
  let ⟨o, es, ep, t, ho, r⟩ := q; ⟨o, es, ep, t, k o ho, r⟩
def metS (xs : List Str) (i : Nat) (k : Str) : Bool := decide (k ∈ xs.take i)
theorem metS_next {xs : List Str} {i : Nat} {x : Str} (h : xs[i]? = some x) (k : Str) : (metS xs i k || decide (k = x)) = metS xs (i + 1) k := by
  unfold metS
  rw [List.take_add_one, h]
  simp
theorem metS_new {xs : List Str} (nd : xs.Nodup) {i : Nat} {x : Str} (h : xs[i]? = some x) : metS xs i x = false := decide_eq_false (NP.take_nin' nd h)
theorem set_walk {R : Result → Shared → Prop} {xs : List Str} (W : WalksS prog w A.in1 I fp wr G xs.length (fun i v => ∃ x t, xs[i]? = some x ∧ v = .str x t) St) (nd : xs.Nodup) {S : Addr} (off : S ∉ fp) (few : xs.length + 1 < scanBound) : ∀ (k i : Nat) (s : Shared), i + k = xs.length → St i s →
    s.heap.SetOf (strKind prog w) S (metS xs i) i → (∀ s', Moved (S :: wr) G s s' → s'.heap.SetOf (strKind prog w) S (metS xs xs.length) xs.length → R (.ok (.ret .none)) s') → codeAny (model prog w) A (.builtin "set.update.loop" ⟨[.ref S, .ref I], []⟩) R s
  | k, i, s, hk, st, hS, hR => by
    have offw : S ∉ wr := fun z => off (W.sub _ z)
    have more : ∀ b ∈ wr, b ∈ S :: wr := fun b z => List.mem_cons_of_mem _ z
    apply codeAny_builtin PyProof.Rows.F.entry_set_update_loop; rw [Around.under_plainId PyProof.Rows.F.plain_set_update_loop]
    show wpAny _ A.in1 (pyNext (.ref I) >>= _) _ _ s; apply wpAny_bind
    match k with
    | 0 =>
      have e : i = xs.length := hk
      subst e
      refine W.done s _ _ st fun s1 mv => ?_
      show wpAny _ A.in1 (ret Value.none) _ _ s1; apply wpAny_pure
      exact hR s1 (mv.mono more) (SetOf.stays hS fun o q => mv.heap S o offw q)
    | k + 1 =>
      refine W.item i s _ _ (by omega) st fun v s1 ⟨x, t, hx, ev⟩ st1 mv => ?_
      subst ev
      have hS1 := SetOf.stays (h' := s1.heap) hS fun o q => mv.heap S o offw q
      show wpAny _ A.in1 (holding [Value.str x t] (setAdd S (.str x t)) >>= _) _ _ s1
      apply wpAny_bind; apply wpAny_holding; unfold setAdd; apply wpAny_holding; apply wpAny_bind
      refine (strKind prog w).pyHash (k := x) (strKind_is _ _ _ _) (wpAny_setAddHashed_of (knd := strKind prog w) (s := { s1 with toks := s1.toks + 1 }) (strKind_is _ _ _ _) rfl hS1 (by omega) fun h2 sb hS2 => ?_)
      rw [metS_new nd hx, if_neg (by decide)] at hS2
      have hS3 : h2.SetOf (strKind prog w) S (metS xs (i + 1)) (i + 1) := SetOf_congr hS2 (metS_next hx) rfl
      apply wpAny_pure
      refine ⟨plainId_quiet PyProof.Rows.F.plain_set_update_loop _, set_walk W nd off few k (i + 1) _ (by omega) (W.frame _ s1 _ _ st1 (Nat.le_succ _) fun b hb o q => ?_) hS3 fun s2 mv2 hS4 => ?_⟩
      · exact (sb.2 b fun z => off (z ▸ hb)).trans q
      · exact hR s2 (Moved.trans W.gtrans ((mv.mono more).then_heap (Nat.le_succ _) fun b o hb q => (sb.2 b fun z => hb (z ▸ List.mem_cons_self)).trans q) mv2) hS4
end
section
variable {prog : Program} {w : World} {A : Around} {s : Shared} {E : Value → Shared → Prop}
def setO (led : Bool) : Obj := { cls := .type "set", dict := none, data := .set #[] 0 (.fresh 0 0 led) }
def SetMade (prog : Program) (w : World) (s : Shared) (xs : List Str) (s2 : Shared) : Prop := ∃ h' tk, s2 = { s with heap := h', toks := tk } ∧ h'.SetOf (strKind prog w) s.heap.objs.size (metS xs xs.length) xs.length ∧ ∀ b o, s.heap.get? b = some o → h'.get? b = some o
theorem WalksS.wider {I : Addr} {fp wr : List Addr} {G : Array GenState → Array GenState → Prop} {n : Nat} {P P' : Nat → Value → Prop} {St : Nat → Shared → Prop} (W : WalksS prog w A I fp wr G n P St) (k : ∀ i v, P i v → P' i v) : WalksS prog w A I fp wr G n P' St :=
  ⟨W.sub, W.grefl, W.gtrans, W.frame, fun i s Q E hi hs h => W.item i s Q E hi hs fun v s' hp => h v s' (k i v hp), W.done, W.self⟩
theorem set_init {l : Addr} {its : List Value} {xs : List Str} (hh : A.handled = none) (hl : s.heap.IsList l its.toArray) (hv : Vals (xs.map V.str) its) (nd : xs.Nodup) (few : xs.length + 1 < scanBound) (led : Bool) {R : Result → Shared → Prop}
    (hR : ∀ s2, SetMade prog w s xs s2 → R (.ok (.ret .none)) s2) :
    wpAny (model prog w) A.in1 (Builtin.«set.__init__» ⟨[.ref s.heap.objs.size, .ref l], []⟩)
      (fun fin s' => match fin with | .done f => R (.ok f) s' | .again c' => c'.quiet = true ∧ codeAny (model prog w) A c' R s') (fun e s' => R (.error e) s') { s with heap := s.heap.push (setO led) } := by
  have hS : (s.heap.push (setO led)).get? s.heap.objs.size = some (setO led) := Heap.get?_push_size _ rfl
  have hll : l < s.heap.objs.size := by obtain ⟨o, e, _⟩ := hl; exact Heap.lt_size e
  have hlen : its.length = xs.length := by rw [← hv.length, List.length_map]
  have l1 : (s.heap.push (setO led)).IsList l its.toArray := hl.push _
  have c1 := PySem.F.sub_list_set
  have c2 := PySem.F.sub_list_frozenset
  have c3 : (Value.type "list" == Value.type "dict") = false := by decide
  obtain ⟨ol, q1, q2, nl, q3⟩ := id l1
  obtain ⟨a1, a2, a3, a4⟩ := ol
  simp only at q2 q3
  subst q2 q3
  have keep : ∀ b o, s.heap.get? b = some o → (s.heap.push (setO led)).get? b = some o := fun b o e => Heap.get?_push_of_some _ e
  have sz : (s.heap.push (setO led)).objs.size = s.heap.objs.size + 1 := Heap.size_push ..
  unfold Builtin.«set.__init__» noKeywords
  unfold Builtin.Frozenset.updateFrom
  generalize e0 : pyIter = PI
  wp_walk
  subst e0
  refine wpAny_pyIter_list l1 (wpAny_bind (wpAny_runValue ?_))
  have W := (Walks.list (prog := prog) (w := w) (A := A.in1.in1) (by simp [hh]) (s.heap.push (setO led)).objs.size l (by rw [sz]; exact Nat.ne_of_lt (Nat.lt_succ_of_lt hll)) its.toArray).toS
  have hsz : its.toArray.size = xs.length := by rw [List.size_toArray, hlen]
  rw [hsz] at W
  have W := WalksS.wider W (P' := fun i v => ∃ x t, xs[i]? = some x ∧ v = .str x t) fun i v hp => by
    have hp : its[i]? = some v := by simpa using hp
    obtain ⟨z1, z2⟩ := vals_str hv
    obtain ⟨t, e⟩ := z2 v (List.mem_of_getElem? hp)
    exact ⟨strV v, t, by rw [← z1, List.getElem?_map, hp]; rfl, e⟩
  refine set_walk W nd (by rw [sz]; simp only [List.mem_cons, List.not_mem_nil, or_false, not_or]; exact ⟨Nat.ne_of_lt (Nat.lt_succ_self _), Nat.ne_of_gt hll⟩) few xs.length 0 _ (by omega) ⟨⟨_, Heap.get?_push_size _ rfl, rfl, rfl⟩, l1.push _⟩ ?_ fun s2 mv hS2 => ?_
  · exact SetOf_congr ((setObjOf_fresh (knd := strKind prog w) led).setOf (Heap.get?_push_of_some _ hS) (by unfold scanBound; omega)) (fun k => by simp [metS]) rfl
  · obtain ⟨h', g', d', tk', os'⟩ := s2
    have z1 : g' = s.gens := mv.gens
    have z2 : d' = s.drawn := mv.drawn
    have z3 : os' = s.os := mv.os
    subst z1 z2 z3
    show wpAny _ _ _ _ _ _; apply wpAny_pure
    show wpAny _ _ (ret Value.none) _ _ _; apply wpAny_pure
    refine hR _ ⟨h', tk', rfl, hS2, fun b o e => mv.heap b o ?_ (Heap.get?_push_of_some _ (keep b o e))⟩
    have lb := Heap.lt_size e
    rw [sz]
    simp only [List.mem_cons, List.not_mem_nil, or_false, not_or]
    exact ⟨Nat.ne_of_lt lb, Nat.ne_of_lt (Nat.lt_succ_of_lt lb)⟩
theorem set_texts {l : Addr} {its : List Value} {xs : List Str} {Q : Value → Shared → Prop} (hh : A.handled = none) (hl : s.heap.IsList l its.toArray) (hv : Vals (xs.map V.str) its) (nd : xs.Nodup) (few : xs.length + 1 < scanBound)
    (h : ∀ s2, SetMade prog w s xs s2 → Q (.ref s.heap.objs.size) s2) : wpAny (model prog w) A (call (.type "set") [.ref l]) Q E s := by
  have C := PySem.F.called_set
  obtain ⟨c, tl, f1⟩ := C.mro
  have f2 := C.made
  have f3 := C.sub
  apply wpAny_call; apply codeAny_of_tree
  show wpAny _ _ (callAny (.type "set") _) _ _ _; apply wpAny_pure
  refine ⟨Code.quiet_builtin _ (by decide +kernel), codeAny_builtin PySem.F.entry_type_call ?_⟩
  rw [Around.under_plain (weight_type_call_type "set" [Value.ref l] []) (by rfl)]
  have f4 := C.notType
  have f5 := C.canCreate
  have f6 := PySem.F.typeCall_set_1 (.ref l)
  repeat any_goals first | assumption | wp_step
  refine codeAny_mono (code_set_new_1 (.ref l) (E := E) (Q₁ := fun obj t => ∃ led, obj = .ref s.heap.objs.size ∧ t = { s with heap := s.heap.push (setO led) }) fun led => ⟨led, rfl, rfl⟩) fun r t hr => ?_
  match r, hr with
  | .error e, hr => exact hr
  | .ok (.ret obj), ⟨led, e1, e2⟩ =>
    subst e1 e2
    have ty : Shared.TypeIs { s with heap := s.heap.push (setO led) } (.ref s.heap.objs.size) "set" := ⟨_, Heap.get?_push_size _ rfl, rfl⟩
    have f7 := C.init.lookup
    have f8 := C.init.bind (.ref s.heap.objs.size)
    repeat any_goals first | assumption | wp_step
    refine codeAny_mono (codeAny_call_builtin (R := wants (fun r t => r = .none ∧ SetMade prog w s xs t) E) C.init.plain PySem.F.entry_set_init (check_set_init_1 ty (set_init (by simp [hh]) hl hv nd few led fun s2 q => ⟨rfl, q⟩))) fun r2 t2 hr2 => ?_
    match r2, hr2 with
    | .error e, hr2 => exact hr2
    | .ok (.ret v), ⟨e3, q⟩ =>
      subst e3
      repeat any_goals first | assumption | wp_step
      exact h _ q
end
section
variable {X : Cx}
theorem bt_set : bootBuiltins "set" = some (.type "set") := by decide +kernel
def tLset (te : TE) : TE := fun σ H Q => te σ H fun x H1 => ∃ (a : Addr) (xs : List Str), x = .ref a ∧ H1 a = some (.lst (xs.map V.str)) ∧ xs.Nodup ∧ xs.length ≤ 1000 ∧ Q (.int xs.length) H1
theorem pe_lset {e : Expr} {te : TE} {p1 p2 p3 p4 : Pos} (hc : X.calm = true) (hg : Gl X "len") (hm : X.mg "len" = none) (hg2 : Gl X "set") (hm2 : X.mg "set" = none) (he : PE X e te) (hn : noStar [e] = true := by rfl) :
    PE X (.Call (.Name "len" p1) [.Call (.Name "set" p2) [e] [] p3] [] p4) (tLset te) := by
  intro pins s σ H Q I h
  refine wpAny_Call_Name_kw (ld_blt I hg hm NP.bt_len ?_ (by decide) (by decide))
  refine callWith_builtin1 (Calls.spliced_cons ?_) rfl rfl
  refine wpAny_Call_Name_kw (ld_blt I hg2 hm2 bt_set ?_ (by decide) (by decide))
  refine PyProof.Rows.callWith_type1 (thn ((pa_e he pa_nil hn) p3 pins s σ H (fun vs H1 => match vs with | [x] => ∃ (a : Addr) (xs : List Str), x = .ref a ∧ H1 a = some (.lst (xs.map V.str)) ∧ xs.Nodup ∧ xs.length ≤ 1000 ∧ Q (.int xs.length) H1 | _ => False) I h) fun us s1 ⟨vs, H1, I1, r1, hv⟩ => ?_) (starEach_of hn) rfl
  match vs, hv, r1 with
  | [x], ⟨a, xs, ea, ha, nd, few, q⟩, r1 =>
    subst ea
    obtain ⟨u, rfl, ru⟩ := vals1 r1
    cases ru
    obtain ⟨its, rv, hl, hlt⟩ := lst_iter I1 ha
    refine set_texts (I1.ok.hd hc) hl rv nd (by unfold scanBound; omega) fun s2 ⟨h', tk, e2, hS, kk⟩ => Calls.spliced_nil ?_
    subst e2
    obtain ⟨o, es, ep, t, ho, hex, hd, _, _, hb, hf, hz⟩ := hS
    have I2 := I1.kept (t' := tk) kk
    refine call_len_set (s := { s1 with heap := h', toks := tk }) ho hex hd hf (by omega) ?_
    rw [hz]
    exact ⟨.int xs.length, H1, I2.tok _, ⟨_, rfl⟩, q⟩
end
end L2
set_option Elab.async false
set_option linter.all false
set_option maxRecDepth 100000
set_option maxHeartbeats 4000000
namespace K03
open PySem L2 NP PySem.W
seal PE PA PT PS PSs PI PO PC PW
local macro_rules | `(tactic| walk_at "rd") => `(tactic| simp only [tSeq, tNext, tRet, tRetN, tAsg, tIfS, tDrop, tAug, gName, gSub, tVar, tC, tCB, tCons, tNil, tCall, tOp, tUn, tTest, tB, tAnd, tOr, tNot, tAndV, tOrV, tNotV, tIf, tTup, tLst, tSl, tPart, tNoPart, tBA, tBA0, tDNewK, tChain, tYes, rI, rI0, rU, rEq, rNe, rIsA, rIsnotA, rItem, lenA, rIAddA, rAddA, rMulA, listA, tupleA, lenQ, lenS, lenD, rSetD, rAddS, iLst, iTpl, iTxt, rCat, rCatTT, rRepT, iRng1, iRng2, iDct, tTruL, tTruD, tLrev, tIf, iEnum, iRev, iZip2, iZip3, rEqD, rNeD, rEqK, rNeK, iItm, tSortK, SortAsk, rSortS, rSortD, rSortT, rDictK, rClearD, rSum, rMaxL, rMinL, tMaxd, rGetL, rGetD, tAugS, rRep, rInsert, rMax2, rCount, rIndexS, rLtT, rAppend, rPopAt, rReverse, rSetA, rSetL, L2.start, cpSt, tComp_eq, tFor_eq, iAny_eq, tTry, tRaise, tCallX, tFst, tFnil, tFcon, tFstr, tFrep, rIsE, rStrI, rIntT, rRepS, Ends.lose, tLset, tCallV,  D.ty, isi_NoneType_bool, isi_NoneType_int, isi_NoneType_str, isi_NoneType_list, isi_NoneType_tuple, isi_NoneType_dict, isi_bool_bool, isi_bool_int, isi_bool_str, isi_bool_list, isi_bool_tuple, isi_bool_dict, isi_int_bool, isi_int_int, isi_int_str, isi_int_list, isi_int_tuple, isi_int_dict, isi_str_bool, isi_str_int, isi_str_str, isi_str_list, isi_str_tuple, isi_str_dict, isi_list_bool, isi_list_int, isi_list_str, isi_list_list, isi_list_tuple, isi_list_dict, isi_tuple_bool, isi_tuple_int, isi_tuple_str, isi_tuple_list, isi_tuple_tuple, isi_tuple_dict, isi_dict_bool, isi_dict_int, isi_dict_str, isi_dict_list, isi_dict_tuple, isi_dict_dict, mem_int, mem_bool, mem_str, mem_list, mem_tuple, mem_dict, Nat.reduceAdd, Nat.reduceSub, Nat.zero_add, Nat.sub_self, List.replicate_zero, List.replicate_succ, List.getD_cons_zero, List.getD_cons_succ, ↓reduceIte, List.map_cons, List.map_nil, List.append_nil, List.nil_append, List.cons_append, List.length_cons, List.length_nil, List.set_cons_zero, List.set_cons_succ, List.set_nil, List.getElem?_cons_zero, List.getElem?_cons_succ, Option.some.injEq, exists_eq_left', exists_eq_left, V.int.injEq, V.bl.injEq, V.str.injEq, V.ref.injEq, V.ty.injEq, List.cons.injEq, and_true, true_and, and_assoc, exists_and_left, exists_eq_right, reduceCtorEq, false_and, and_false, exists_false, or_false, false_or])
def top (i : Nat) : Stmt := PySem.Challenge.pw_needplan_k03_ring_walked.main.body.getD i (.Pass ⟨0, 0, 0, 0⟩)
abbrev s_names_of : Stmt := top 16
abbrev s_part_names : Stmt := top 17
abbrev s_ware_of : Stmt := top 18
abbrev s_without_ends : Stmt := top 20
abbrev s_endless_parts : Stmt := top 21
abbrev s_ring : Stmt := top 22
abbrev s_check_rings : Stmt := top 23
abbrev s_levels : Stmt := top 24
abbrev s_worked : Stmt := top 25
abbrev s_times : Stmt := top 26
abbrev s_lots_for : Stmt := top 28
abbrev s_explode : Stmt := top 30
abbrev s_law_next : Stmt := top 32
abbrev s_law_drawn : Stmt := top 33
abbrev s_law_amount : Stmt := top 34
abbrev s_law_names : Stmt := top 35
abbrev s_law_coming : Stmt := top 36
abbrev s_law_ware : Stmt := top 37
abbrev s_law_wants : Stmt := top 38
abbrev s_law_parts : Stmt := top 39
abbrev s_law_knotted : Stmt := top 40
abbrev s_law_is_ring : Stmt := top 41
abbrev s_law_has_none : Stmt := top 42
abbrev s_law_refusal : Stmt := top 43
abbrev s_law : Stmt := top 44
structure Txt (mg : Str → Option Value) : Prop where
  n_range : mg "range" = none
  n_len : mg "len" = none
  n_list : mg "list" = none
  n_max : mg "max" = none
  n_sorted : mg "sorted" = none
  n_reversed : mg "reversed" = none
  n_int : mg "int" = none
  n_tuple : mg "tuple" = none
  n_set : mg "set" = none
  n_isinstance : mg "isinstance" = none
  n_any : mg "any" = none
  n_ValueError : mg "ValueError" = none
  g_GIVES : ∃ t, mg "GIVES" = some (.int 2 t)
  g_LAG : ∃ t, mg "LAG" = some (.int 1 t)
  g_NAME : ∃ t, mg "NAME" = some (.int 0 t)
  g_PARTS : ∃ t, mg "PARTS" = some (.int 6 t)
  g_WANT_AMOUNT : ∃ t, mg "WANT_AMOUNT" = some (.int 2 t)
  g_WANT_NAME : ∃ t, mg "WANT_NAME" = some (.int 0 t)
structure Cl where
  NeedError : Addr
  NoText : Addr
  NoShop : Addr
  Ring : Addr
  NoName : Addr
  NoDay : Addr
  NoBuy : Addr
  NoPlan : Addr
structure Exc (K : PySem.W.Frag) (mg : Str → Option Value) (c : Cl) : Prop where
  m_NeedError : mg "NeedError" = some (.ref c.NeedError)
  m_NoText : mg "NoText" = some (.ref c.NoText)
  m_NoShop : mg "NoShop" = some (.ref c.NoShop)
  m_Ring : mg "Ring" = some (.ref c.Ring)
  m_NoName : mg "NoName" = some (.ref c.NoName)
  m_NoDay : mg "NoDay" = some (.ref c.NoDay)
  m_NoBuy : mg "NoBuy" = some (.ref c.NoBuy)
  m_NoPlan : mg "NoPlan" = some (.ref c.NoPlan)
  e_Ring : excV K c.Ring = true
  o_Ring : ExcOf K c.Ring
  x_Ring_NeedError : exmOne K (.ref c.Ring) (.ref c.NeedError) = some true
  k_Ring_NeedError : kitOne K (.ref c.Ring) (.ref c.NeedError) = some true
  k_Ring_NoText : kitOne K (.ref c.Ring) (.ref c.NoText) = some false
  k_Ring_NoShop : kitOne K (.ref c.Ring) (.ref c.NoShop) = some false
  k_Ring_Ring : kitOne K (.ref c.Ring) (.ref c.Ring) = some true
  k_Ring_NoName : kitOne K (.ref c.Ring) (.ref c.NoName) = some false
  k_Ring_NoDay : kitOne K (.ref c.Ring) (.ref c.NoDay) = some false
  k_Ring_NoBuy : kitOne K (.ref c.Ring) (.ref c.NoBuy) = some false
  k_Ring_NoPlan : kitOne K (.ref c.Ring) (.ref c.NoPlan) = some false
  k_Ring_ValueError : kitOne K (.ref c.Ring) (.type "ValueError") = some true
def lamP : Pos := ⟨76, 38, 76, 65⟩
def lamQ : Str := ("worked" : Str) ++ ".<locals>." ++ "<lambda>"
def Tb (H : L2.Hp) (Pt : Addr) : Prop := L2.TblAt H Pt lamP lamQ
section
variable {P : Program} {w : World} {K : PySem.W.Frag} {mg : Str → Option Value} {base : Heap}
def WrOk (w : Wr) : Prop := w.parts.length ≤ 1000 ∧ w.coming.length ≤ 1000
structure ShOk (S : Sh) : Prop where
  names : (S.wares.map (·.name)).Nodup
  len : S.wares.length ≤ 1000
  wares : ∀ w ∈ S.wares, WrOk w
def sp_part_names : Sp := fun vs H Q _ => ∃ (v : V) (w : Wr), vs = [v] ∧ RD H w.d v ∧ WrOk w ∧ ∀ p H', H p = none → H' p = some (.lst ((w.parts.map (·.1)).map V.str)) → Same H H' → Q (.ref p) H'
theorem sc_part_names : FnScope ["ware"] ["ware"] (defScope s_part_names) := ⟨rfl, rfl, rfl, by decide +kernel, rfl, by decide +kernel, by decide +kernel⟩
theorem ok_part_names {f : Addr} {fd : FuncData} (F : Fun K "part_names" "part_names" s_part_names f fd) (T : Txt mg) {c : Cl} (C : Exc K mg c) : FnOk P w K mg base CX0 1 f fd ["ware"] sp_part_names := by
  refine F.ok sc_part_names (fun vs H Q E h => ?_) (fun cdv A outer s H vs Q E hr h => ?_)
  · obtain ⟨v, w, rfl, _⟩ := h
    rfl
  · obtain ⟨v, w, rfl, rw', ok, k⟩ := h
    have hu := hu_of hr
    refine ⟨_, (pss_one (ps_ret (pe_comp (own := ["part"]) (cap := []) rfl (cp_ok rfl) (gown_name (by decide)) (pi_tpl (pe_item hu (pv 0) (pe_globI rfl T.g_PARTS) (fun _ _ => rfl)))
 (fun _ _ _ _ _ _ => ⟨(pg_name (i := 0) (of_decide_eq_true rfl) rfl (Or.inl rfl) (.inr rfl)), pts_nil, (pe_item hu (pv 0) pe_int (fun _ _ => rfl))⟩)))), ?_⟩
    obtain ⟨a, c, p, rfl, ha, rc, rp⟩ := ware_at rw'
    obtain ⟨b, ps, rfl, hb, rps⟩ := RD.tup_of rp
    have hl := rds_len rps
    walk_at "rd"
    refine ⟨_, item_t (j := 6) ha rfl, b, rfl, _, hb, ?_⟩
    refine comp_map (goesT b _) (line1000 (by rw [hl]; exact ok.1)) (fun H' s' => s' _ _ hb) ((w.parts.map (·.1)).map V.str) (by rw [List.length_map, List.length_map, hl]) (fun i x H' hi hx s' N M hN => ?_) (fun H' s' p hp => ?_)
    · obtain ⟨y, hy, ry⟩ := rds_map rps hx
      obtain ⟨e, rfl, he⟩ := part_at ry
      walk_at "rd"
      exact ⟨_, item_t (j := 0) (s' _ _ he) rfl, hN _ _ s' (by rw [List.getElem?_map, List.getElem?_map, hy]; rfl)⟩
    · exact k p _ (Same.free s' hp) upd_same (s'.trans (same_upd hp))
def sp_without_ends : Sp := fun vs H Q _ => ∃ (a : Addr) (kvs : List (Key × V)) (G : Gr), vs = [.ref a] ∧ H a = some (.dK kvs) ∧ PDk H kvs G ∧ (keysG G).Nodup ∧ G.length ≤ 1000 ∧ (∀ e ∈ G, e.2.length ≤ 1000) ∧
  ∀ p kvs' H', H p = none → H' p = some (.dK kvs') → PDk H' kvs' (cutE G) → But a H H' → Q (.ref p) H'
def EndsInv (a p : Addr) (o : Obj) (kvs : List (Key × V)) (G : Gr) (H : Hp) (i : Nat) (σ : St) (H' : Hp) : Prop := ∃ (n g : Option V) (kvs' : List (Key × V)), σ = [some (.ref a), some (.ref p), n, g] ∧ H' a = some (.frz o (.dK kvs)) ∧ H' p = some (.dK kvs') ∧ PDk H' kvs' ((G.take i).filterMap (cutOne (keysG G))) ∧ But a H H'
def GoInv (a p : Addr) (o : Obj) (kvs kvs' : List (Key × V)) (G G' : Gr) (ps : List Str) (H : Hp) (i : Nat) (acc : List V) (H' : Hp) : Prop := acc = (goOn (keysG G) (ps.take i)).map V.str ∧ H' a = some (.frz o (.dK kvs)) ∧ H' p = some (.dK kvs') ∧ PDk H' kvs' G' ∧ But a H H' ∧ PDk H' kvs G
theorem goOn_succ {ks ps : List Str} {i : Nat} {x : Str} (h : ps[i]? = some x) : goOn ks (ps.take (i + 1)) = goOn ks (ps.take i) ++ if decide (x ∈ ks) = true then [x] else [] := by
  unfold goOn
  rw [List.take_add_one, h, List.filter_append]
  by_cases hx : x ∈ ks
  · simp [hx]
  · simp [hx]
theorem sc_without_ends : FnScope ["parts", "left", "name", "going_on"] ["parts"] (defScope s_without_ends) := ⟨rfl, rfl, rfl, by decide +kernel, rfl, by decide +kernel, by decide +kernel⟩
theorem ok_without_ends {f : Addr} {fd : FuncData} (F : Fun K "without_ends" "without_ends" s_without_ends f fd) (T : Txt mg) {c : Cl} (C : Exc K mg c) : FnOk P w K mg base CX0 1 f fd ["parts"] sp_without_ends := by
  refine F.ok sc_without_ends (fun vs H Q E h => ?_) (fun cdv A outer s H vs Q E hr h => ?_)
  · obtain ⟨a, kvs, G, rfl, _⟩ := h
    rfl
  · obtain ⟨a, kvs, G, rfl, ha, pd, nd, hG, hps, k⟩ := h
    have hu := hu_of hr
    have hkl := pd.len
    have ndk : (kvs.map (·.1)).Nodup := by rw [pd.keys]; exact inr_nodup nd
    refine ⟨_, (pss_cons (ps_set (i := 1) sc_without_ends.nd rfl (Or.inl rfl) pe_dnewK)
 (pss_cons (ps_for PassesOwn.never rfl (pi_dct (pv 0)) (pg_name (i := 2) sc_without_ends.nd rfl (Or.inl rfl))
 (pss_cons (ps_setcomp (own := ["part"]) (cap := [0]) (i := 3) rfl (cp_ok rfl) (gown_name (by decide)) sc_without_ends.nd rfl rfl (pi_lst (pe_item hu (pv 0) (pv 2) (fun _ _ => rfl)))
 (fun _ _ _ _ _ _ => ⟨(pg_name (i := 0) (of_decide_eq_true rfl) rfl (Or.inl rfl) (.inr rfl)), (pts_one (pt_cmpR (op_inA hu) (pv 0) (pv 1) rfl)), (pv 0)⟩))
 (pss_one (ps_if (pt_truL (pv 3)) (pss_one (ps_asg (pv 3) (pg_sub (pv 1) (pv 2) (set_dict hu)))) pss_nil))))
 (pss_one (ps_ret (pv 1))))), ?_⟩
    walk_at "rd"
    refine fun p hp => ⟨_, by rw [upd_ne (ne_of_none ha hp)]; exact ha, fun o => ?_⟩
    have nap : a ≠ p := ne_of_none ha hp
    have b0 : But a H (upd (upd H p (.dK [])) a (.frz o (.dK kvs))) := (but_upd hp).trans but_set
    have pl : ∀ {H' : Hp}, But a H H' → PDk H' kvs G := fun {H'} bt => pd.mono fun l xs h => bt l _ (fun z => by rw [z, ha] at h; cases h) h
    refine for_w (goesD a o kvs) (EndsInv a p o kvs G H) ⟨_, _, [], rfl, upd_same, by rw [upd_ne (Ne.symm nap), upd_same], .nil, b0⟩ (fun i σ H' _ h => let ⟨_, _, _, _, h, _⟩ := h; h) (fun i x σ H' hi hx h => ?_) (fun σ H' h => ?_)
    · obtain ⟨n, g, kvs', rfl, h1, h2, h3, bt⟩ := h
      obtain ⟨key, val, hk, rfl⟩ := hx
      obtain ⟨e, l, he, rfl, rfl, hl⟩ := PDk.get' (pl bt) hk
      have hv := valV_nodup ndk hk
      have hmem := List.mem_of_getElem? he
      refine cut1 (fun σ' H'' => ∃ q : Addr, σ' = [some (.ref a), some (.ref p), some (.str e.1), some (.ref q)] ∧ H'' q = some (.lst ((goOn (keysG G) e.2).map V.str)) ∧ H'' a = some (.frz o (.dK kvs)) ∧ H'' p = some (.dK kvs') ∧ PDk H'' kvs' ((G.take i).filterMap (cutOne (keysG G))) ∧ But a H H'') ?_ (fun KK hK => ?_)
      · rintro σ' H'' ⟨q, rfl, hq, g1, g2, g3, gb⟩
        walk_at "rd"
        refine ⟨_, hq, ?_⟩
        have et : (G.take (i + 1)).filterMap (cutOne (keysG G)) = (G.take i).filterMap (cutOne (keysG G)) ++ (cutOne (keysG G) e).toList := by
          rw [List.take_add_one, he, List.filterMap_append]
          cases hc : cutOne (keysG G) e <;> simp [hc]
        refine ite2 (fun hz => ?_) (fun hz => ?_)
        · have hne : goOn (keysG G) e.2 ≠ [] := fun z => by rw [z] at hz; exact absurd hz (by decide)
          have hc : cutOne (keysG G) e = some (e.1, goOn (keysG G) e.2) := by unfold cutOne; rw [if_neg hne]
          have nin : e.1 ∉ keysG ((G.take i).filterMap (cutOne (keysG G))) := fun m => by
            have m' : e.1 ∈ keysG (G.take i) := (keys_filter (ks := keysG G) (G := G.take i)).subset m
            have nd' : (keysG (G.take i) ++ keysG (G.drop i)).Nodup := by
              have : keysG (G.take i) ++ keysG (G.drop i) = keysG G := by unfold keysG; rw [← List.map_append, List.take_append_drop]
              rw [this]; exact nd
            have hlt : i < G.length := (List.getElem?_eq_some_iff.mp he).1
            have md : e.1 ∈ keysG (G.drop i) := by
              unfold keysG
              rw [List.drop_eq_getElem_cons hlt]
              have : G[i] = e := (List.getElem?_eq_some_iff.mp he).2
              rw [this, List.map_cons]
              exact List.mem_cons_self
            exact (List.nodup_append.mp nd').2.2 _ m' _ md rfl
          have hlen' : kvs'.length < sizeLine := by
            have := g3.len
            have h5 : ((G.take i).filterMap (cutOne (keysG G))).length ≤ (G.take i).length := List.length_filterMap_le _ _
            rw [List.length_take] at h5
            exact Nat.lt_of_le_of_lt (m := 1000) (by omega) (by decide)
          refine ⟨kvs', .inr e.1, rfl, g2, hlen', ?_⟩
          have ku : ∀ l xs, H'' l = some (.lst xs) → upd H'' p (.dK (putK kvs' (.inr e.1) (.ref q))) l = some (.lst xs) := fun l xs h => by rw [upd_ne (fun z => by rw [z, g2] at h; cases h)]; exact h
          refine ⟨_, _, _, rfl, by rw [upd_ne nap]; exact g1, upd_same, ?_, ?_⟩
          · rw [et, hc]
            exact (g3.mono ku).snoc nin (ku _ _ hq)
          · exact fun b o' nb hb => by rw [upd_ne (ne_of_none hb hp)]; exact gb b o' nb hb
        · have hne : goOn (keysG G) e.2 = [] := by
            cases hx : goOn (keysG G) e.2 with
            | nil => rfl
            | cons y r => rw [hx] at hz; exact absurd rfl hz
          have hc : cutOne (keysG G) e = none := by unfold cutOne; rw [if_pos hne]
          exact ⟨_, _, _, rfl, g1, g2, by rw [et, hc]; simpa using g3, gb⟩
      · walk_at "rd"
        refine ⟨_, item_d (.inr ⟨o, h1⟩) hv, l, rfl, _, hl, ?_⟩
        refine comp_w (goesL l _) (line1000 (by rw [List.length_map]; exact hps e hmem)) (GoInv a p o kvs kvs' G ((G.take i).filterMap (cutOne (keysG G))) e.2 H) ⟨rfl, h1, h2, h3, bt, pl bt⟩ (fun j acc H2 _ h => ?_) (fun j acc H2 h => ?_) (fun j x acc H2 hj hx h => ?_) (fun acc H2 h q hq => ?_)
        · obtain ⟨_, _, _, _, hb, hpd⟩ := h
          obtain ⟨l2, hl2, hl3⟩ := PDk.get hpd he
          rw [hk] at hl2
          cases hl2
          exact hl3
        · rw [h.1, List.length_map]
          refine Nat.le_trans (List.length_filter_le _ _) ?_
          rw [List.length_take]
          exact Nat.min_le_left _ _
        · obtain ⟨rfl, w1, w2, w3, w4, w5⟩ := h
          rw [List.getElem?_map] at hx
          cases ex : e.2[j]? with
          | none => rw [ex] at hx; cases hx
          | some y =>
          rw [ex] at hx
          cases hx
          walk_at "rd"
          refine ⟨_, .inr (.inr ⟨a, kvs, .inr y, rfl, rfl, .inr ⟨o, w1⟩, rfl⟩), ?_⟩
          rw [w5.has y]
          refine ite2 (fun hy => ?_) (fun hy => ?_)
          · exact ⟨by rw [goOn_succ ex, if_pos hy, List.map_append]; rfl, w1, w2, w3, w4, w5⟩
          · exact ⟨by rw [goOn_succ ex, if_neg hy, List.append_nil], w1, w2, w3, w4, w5⟩
        · obtain ⟨rfl, w1, w2, w3, w4, w5⟩ := h
          rw [List.length_map, List.take_length]
          have nq : ∀ {b : Addr} {o' : HO} (o'' : HO), H2 b = some o' → upd H2 q o'' b = some o' := fun {b o'} o'' hb => by rw [upd_ne (ne_of_none hb hq)]; exact hb
          exact hK _ _ ⟨q, rfl, upd_same, nq _ w1, nq _ w2, w3.mono fun l xs h => nq _ h, w4.trans (but_upd hq)⟩
    · obtain ⟨n, g, kvs', rfl, h1, h2, h3, bt⟩ := h
      walk_at "rd"
      rw [hkl, List.take_length] at h3
      exact k p kvs' H' hp h2 h3 bt
def sp_endless_parts : Sp := fun vs H Q _ => ∃ (v : V) (S : Sh), vs = [v] ∧ RD H S.d v ∧ ShOk S ∧ ∀ p kvs' H', H p = none → H' p = some (.dK kvs') → PDk H' kvs' (cutN S.wares.length (grOf S)) → Same H H' → Q (.ref p) H'
def AllInv (v : V) (p : Addr) (S : Sh) (H : Hp) (i : Nat) (σ : St) (H' : Hp) : Prop := ∃ (n g : Option V) (kvs' : List (Key × V)), σ = [some v, some (.ref p), n, g] ∧ H' p = some (.dK kvs') ∧ PDk H' kvs' ((grOf S).take i) ∧ Same H H'
def CutInv (v : V) (S : Sh) (H : Hp) (i : Nat) (σ : St) (H' : Hp) : Prop := ∃ (q : Addr) (n g : Option V) (kvs' : List (Key × V)), σ = [some v, some (.ref q), n, g] ∧ H q = none ∧ H' q = some (.dK kvs') ∧ PDk H' kvs' (cutN i (grOf S)) ∧ Same H H'
theorem keys_gr (S : Sh) : keysG (grOf S) = S.wares.map (·.name) := by unfold keysG grOf; rw [List.map_map]; rfl
theorem gr_len (S : Sh) : (grOf S).length = S.wares.length := by unfold grOf; rw [List.length_map]
theorem gr_parts {S : Sh} (ok : ShOk S) : ∀ e ∈ grOf S, e.2.length ≤ 1000 := fun e he => by
  obtain ⟨w, hw, rfl⟩ := List.mem_map.mp he
  show (w.parts.map (·.1)).length ≤ 1000
  rw [List.length_map]
  exact (ok.wares w hw).1
theorem sc_endless_parts : FnScope ["shop", "parts", "ware", "turn"] ["shop"] (defScope s_endless_parts) := ⟨rfl, rfl, rfl, by decide +kernel, rfl, by decide +kernel, by decide +kernel⟩
theorem ok_endless_parts {f : Addr} {fd : FuncData} (F : Fun K "endless_parts" "endless_parts" s_endless_parts f fd) (T : Txt mg) {c : Cl} (C : Exc K mg c) (h_part_names : Has P w K mg base "part_names" 1 ["ware"] sp_part_names) (h_without_ends : Has P w K mg base "without_ends" 1 ["parts"] sp_without_ends) : FnOk P w K mg base CX0 2 f fd ["shop"] sp_endless_parts := by
  refine F.ok sc_endless_parts (fun vs H Q E h => ?_) (fun cdv A outer s H vs Q E hr h => ?_)
  · obtain ⟨v, S, rfl, _⟩ := h
    rfl
  · obtain ⟨v, S, rfl, rs, ok, k⟩ := h
    have hu := hu_of hr
    have nd : (keysG (grOf S)).Nodup := by rw [keys_gr]; exact ok.names
    refine ⟨_, (pss_cons (ps_set (i := 1) sc_endless_parts.nd rfl (Or.inl rfl) pe_dnewK)
 (pss_cons (ps_for PassesOwn.never rfl (pi_tpl (pe_item hu (pv 0) pe_int (fun _ _ => rfl))) (pg_name (i := 2) sc_endless_parts.nd rfl (Or.inl rfl))
 (pss_one (ps_asg (pe_callS h_part_names (hr.mono (by decide)) rfl (pa_e (pv 2) pa_nil)) (pg_sub (pv 1) (pe_item hu (pv 2) (pe_globI rfl T.g_NAME) (fun _ _ => rfl)) (set_dict hu)))))
 (pss_cons (ps_for PassesOwn.never rfl (pi_rangeS1 rfl T.n_range (pa_e (pe_callBS call_len_q rfl T.n_len bt_len (pa_e (pe_item hu (pv 0) pe_int (fun _ _ => rfl)) pa_nil)) pa_nil)) (pg_name (i := 3) sc_endless_parts.nd rfl (Or.inl rfl))
 (pss_one (ps_set (i := 1) sc_endless_parts.nd rfl (Or.inl rfl) (pe_callS h_without_ends (hr.mono (by decide)) rfl (pa_e (pv 1) pa_nil)))))
 (pss_one (ps_ret (pv 1)))))), ?_⟩
    obtain ⟨a, b, c, ws, us, rfl, ha, hb, hc, rws, rus⟩ := shop_at rs
    have hl := rds_len rws
    refine cut2 (fun σ' H' => ∃ (p : Addr) (n g : Option V) (kvs' : List (Key × V)), σ' = [some (.ref a), some (.ref p), n, g] ∧ H p = none ∧ H' p = some (.dK kvs') ∧ PDk H' kvs' (grOf S) ∧ Same H H') ?_ (fun KK hK => ?_)
    · rintro σ' H1 ⟨p, n, g, kvs', rfl, hp, hp1, pd, sm⟩
      walk_at "rd"
      refine ⟨_, item_t (j := 0) (sm _ _ ha) rfl, b, rfl, _, .inr (sm _ _ hb), by omega, by have := ok.len; omega, ?_⟩
      have en : ((ws.length : Nat) : Int).toNat = S.wares.length := by omega
      rw [en]
      refine for_w (goesR 0 _) (CutInv (.ref a) S H) ⟨p, _, _, _, rfl, hp, hp1, pd, sm⟩ (fun _ _ _ _ _ => trivial) (fun i x σ H2 hi hx h => ?_) (fun σ H2 h => ?_)
      · obtain ⟨q, n, g, kvs', rfl, hq, hq1, pd, sm⟩ := h
        walk_at "rd"
        refine ⟨q, kvs', _, rfl, hq1, pd, cutN_nodup nd i, by have := cutN_len (grOf S) i; rw [gr_len] at this; have := ok.len; omega, fun e he => ?_, fun p2 kvs2 H3 hp2 hp3 pd3 bt => ?_⟩
        · obtain ⟨ps, h1, _, h3⟩ := cutN_parts i he
          have := gr_parts ok _ h1
          have : ps.length ≤ 1000 := this
          omega
        · exact ⟨p2, _, _, kvs2, rfl, Same.free sm hp2, hp3, pd3, fun b' o hb' => bt b' o (ne_of_none hb' hq) (sm b' o hb')⟩
      · obtain ⟨q, n, g, kvs', rfl, hq, hq1, pd, sm⟩ := h
        walk_at "rd"
        exact k q kvs' H2 hq hq1 pd sm
    · walk_at "rd"
      refine fun p hp => ?_
      refine ⟨_, item_t (j := 0) (by rw [upd_ne (ne_of_none ha hp)]; exact ha) rfl, b, rfl, _, by rw [upd_ne (ne_of_none hb hp)]; exact hb, ?_⟩
      refine for_w (goesT b _) (AllInv (.ref a) p S H) ⟨_, _, [], rfl, upd_same, .nil, same_upd hp⟩ (fun i σ H' _ h => let ⟨_, _, _, _, _, _, s⟩ := h; s _ _ hb) (fun i x σ H' hi hx h => ?_) (fun σ H' h => ?_)
      · obtain ⟨n, g, kvs', rfl, h1, h2, sm⟩ := h
        obtain ⟨w, hw, rw'⟩ := rds_map rws hx
        have hg : (grOf S)[i]? = some (w.name, w.parts.map (·.1)) := by unfold grOf; rw [List.getElem?_map, hw]; rfl
        walk_at "rd"
        refine ⟨x, w, rfl, RD.same sm _ _ rw', ok.wares w (List.mem_of_getElem? hw), fun q H2 hq hq2 sm2 => ?_⟩
        obtain ⟨e, c1, c2, rfl, he, _⟩ := ware_at rw'
        have sm02 := sm.trans sm2
        have nin : w.name ∉ keysG ((grOf S).take i) := fun m => by
          have nd' : (keysG ((grOf S).take i) ++ keysG ((grOf S).drop i)).Nodup := by
            have : keysG ((grOf S).take i) ++ keysG ((grOf S).drop i) = keysG (grOf S) := by unfold keysG; rw [← List.map_append, List.take_append_drop]
            rw [this]; exact nd
          have hlt : i < (grOf S).length := (List.getElem?_eq_some_iff.mp hg).1
          have md : w.name ∈ keysG ((grOf S).drop i) := by
            unfold keysG
            rw [List.drop_eq_getElem_cons hlt]
            have : (grOf S)[i] = (w.name, w.parts.map (·.1)) := (List.getElem?_eq_some_iff.mp hg).2
            rw [this, List.map_cons]
            exact List.mem_cons_self
          exact (List.nodup_append.mp nd').2.2 _ m _ md rfl
        have hp2 := sm2 p _ h1
        refine ⟨_, item_t (j := 0) (sm02 _ _ he) rfl, kvs', .inr w.name, rfl, hp2, ?_, ?_⟩
        · have := h2.len
          rw [List.length_take, gr_len] at this
          have := ok.len
          exact Nat.lt_of_le_of_lt (m := 1000) (by omega) (by decide)
        · have ku : ∀ l xs, H2 l = some (.lst xs) → upd H2 p (.dK (putK kvs' (.inr w.name) (.ref q))) l = some (.lst xs) := fun l xs h => by rw [upd_ne (fun z => by rw [z, hp2] at h; cases h)]; exact h
          refine ⟨_, _, _, rfl, upd_same, ?_, fun b' o hb' => by rw [upd_ne (ne_of_none hb' hp)]; exact sm02 b' o hb'⟩
          rw [List.take_add_one, hg]
          exact ((h2.mono fun l xs h => sm2 l _ h).mono ku).snoc nin (ku _ _ hq2)
      · obtain ⟨n, g, kvs', rfl, h1, h2, sm⟩ := h
        rw [hl, ← gr_len, List.take_length] at h2
        exact hK _ _ ⟨p, _, _, kvs', rfl, hp, h1, h2, sm⟩
def NoRing (S : Sh) : Prop := cutN S.wares.length (grOf S) = []
def PartIn (G : Gr) (x y : Str) : Prop := ∃ ps, (x, ps) ∈ G ∧ y ∈ ps
def RingIn (G : Gr) (xs : List Str) : Prop := xs ≠ [] ∧ xs.Nodup ∧ ∀ (i : Nat) (x : Str), xs[i]? = some x → ∃ y, xs[if i = 0 then xs.length - 1 else i - 1]? = some y ∧ PartIn G y x
theorem part_cut {G : Gr} {n : Nat} {x y : Str} (h : PartIn (cutN n G) x y) : PartIn G x y := by
  obtain ⟨ps, h1, h2⟩ := h
  obtain ⟨qs, q1, q2, _⟩ := cutN_parts n h1
  exact ⟨qs, q1, q2 y h2⟩
def Chain (G : Gr) (xs : List Str) : Prop := ∀ (i : Nat) (x y : Str), xs[i]? = some x → xs[i + 1]? = some y → PartIn G x y
theorem chain_ring {G : Gr} {way : List Str} {name : Str} (nd : way.Nodup) (c : Chain G (way ++ [name])) (hm : name ∈ way) : RingIn G (way.drop (way.idxOf name)) := by
  have hlt : way.idxOf name < way.length := List.idxOf_lt_length_iff.mpr hm
  have hat : way[way.idxOf name]? = some name := by rw [List.getElem?_eq_getElem hlt, List.getElem_idxOf]
  have hl : (way.drop (way.idxOf name)).length = way.length - way.idxOf name := List.length_drop
  refine ⟨fun z => ?_, (List.drop_sublist _ _).nodup nd, fun i x hx => ?_⟩
  · rw [z] at hl
    have hl : 0 = way.length - way.idxOf name := hl
    omega
  · rw [List.getElem?_drop] at hx
    have hi := (List.getElem?_eq_some_iff.mp hx).1
    by_cases e : i = 0
    · subst e
      rw [if_pos rfl, List.getElem?_drop, hl]
      have hx : way[way.idxOf name]? = some x := hx
      rw [hat] at hx
      have hx : name = x := Option.some.inj hx
      subst hx
      have ei : way.idxOf name + (way.length - way.idxOf name - 1) = way.length - 1 := by omega
      rw [ei]
      have hl1 : way.length - 1 < way.length := by omega
      refine ⟨_, List.getElem?_eq_getElem hl1, c (way.length - 1) _ _ ?_ ?_⟩
      · rw [List.getElem?_append_left hl1]
        exact List.getElem?_eq_getElem hl1
      · rw [show way.length - 1 + 1 = way.length by omega, List.getElem?_append_right (Nat.le_refl _), Nat.sub_self]
        rfl
    · rw [if_neg e, List.getElem?_drop]
      have hj : way.idxOf name + (i - 1) < way.length := by omega
      refine ⟨_, List.getElem?_eq_getElem hj, c (way.idxOf name + (i - 1)) _ _ ?_ ?_⟩
      · rw [List.getElem?_append_left hj]
        exact List.getElem?_eq_getElem hj
      · rw [show way.idxOf name + (i - 1) + 1 = way.idxOf name + i by omega, List.getElem?_append_left hi]
        exact hx
theorem chain_snoc {G : Gr} {way : List Str} {name nx : Str} (c : Chain G (way ++ [name])) (h : PartIn G name nx) : Chain G (way ++ [name] ++ [nx]) := fun i x y hx hy => by
  by_cases e : i + 1 < (way ++ [name]).length
  · rw [List.getElem?_append_left (by omega)] at hx
    rw [List.getElem?_append_left e] at hy
    exact c i x y hx hy
  · have hi := (List.getElem?_eq_some_iff.mp hy).1
    rw [List.length_append] at hi e
    simp only [List.length_singleton] at hi e
    rw [List.length_append] at hi
    simp only [List.length_singleton] at hi
    have ei : i = way.length := by omega
    subst ei
    rw [List.append_assoc, List.getElem?_append_right (Nat.le_refl _), Nat.sub_self] at hx
    rw [List.append_assoc, List.getElem?_append_right (by omega), show way.length + 1 - way.length = 1 by omega] at hy
    have hx : some name = some x := hx
    have hy : some nx = some y := hy
    rw [← Option.some.inj hx, ← Option.some.inj hy]
    exact h
theorem sub_len : ∀ {way ks : List Str}, way.Nodup → (∀ x ∈ way, x ∈ ks) → way.length ≤ ks.length
  | [], _, _, _ => Nat.zero_le _
  | x :: r, ks, nd, h => by
    rw [List.nodup_cons] at nd
    have hx := h x List.mem_cons_self
    have h1 := sub_len (way := r) (ks := ks.erase x) nd.2 fun y hy => (List.mem_erase_of_ne (fun z => nd.1 (by rw [← z]; exact hy))).mpr (h y (List.mem_cons_of_mem _ hy))
    rw [List.length_erase_of_mem hx] at h1
    have h2 := List.length_pos_of_mem hx
    rw [List.length_cons]
    omega
theorem cutV_fr {xs : List V} {i : Int} (hi : 0 ≤ i) : cutV xs (some i) none = xs.drop i.toNat := by
  unfold cutV
  rw [sIx_nn hi]
  have e : HT.sIx xs.length xs.length none = xs.length := rfl
  rw [e]
  by_cases h : i.toNat ≤ xs.length
  · rw [Nat.min_eq_left h, List.take_of_length_le (by rw [List.length_drop]; exact Nat.le_refl _)]
  · have h : xs.length ≤ i.toNat := by omega
    rw [Nat.min_eq_right h, List.drop_length, List.drop_of_length_le h, List.take_nil]
def sp_ring : Sp := fun vs H Q _ => ∃ (v : V) (S : Sh), vs = [v] ∧ RD H S.d v ∧ ShOk S ∧ (NoRing S → ∀ H', Same H H' → Q .non H') ∧ ∀ p H' (xs : List Str), ¬ NoRing S → H p = none → H' p = some (.lst (xs.map V.str)) → xs.length ≤ 1000 → RingIn (grOf S) xs → Same H H' → Q (.ref p) H'
def WayInv (v : V) (a w : Addr) (kvs : List (Key × V)) (G : Gr) (H : Hp) (m : Nat) (σ : St) (H' : Hp) : Prop := ∃ (way : List Str) (name : Str), σ = [some v, some (.ref a), some (.ref w), some (.str name)] ∧ H' a = some (.dK kvs) ∧ H' w = some (.lst (way.map V.str)) ∧ way.Nodup ∧ (∀ x ∈ way, x ∈ keysG G) ∧ name ∈ keysG G ∧ Chain G (way ++ [name]) ∧ m + way.length = G.length ∧ Same H H'
theorem sc_ring : FnScope ["shop", "parts", "way", "name"] ["shop"] (defScope s_ring) := ⟨rfl, rfl, rfl, by decide +kernel, rfl, by decide +kernel, by decide +kernel⟩
theorem ok_ring {f : Addr} {fd : FuncData} (F : Fun K "ring" "ring" s_ring f fd) (T : Txt mg) {c : Cl} (C : Exc K mg c) (h_endless_parts : Has P w K mg base "endless_parts" 2 ["shop"] sp_endless_parts) : FnOk P w K mg base CX0 3 f fd ["shop"] sp_ring := by
  refine F.ok sc_ring (fun vs H Q E h => ?_) (fun cdv A outer s H vs Q E hr h => ?_)
  · obtain ⟨v, S, rfl, _⟩ := h
    rfl
  · obtain ⟨v, S, rfl, rs, ok, k, kr⟩ := h
    have hu := hu_of hr
    refine ⟨_, (pss_cons (ps_set (i := 1) sc_ring.nd rfl (Or.inl rfl) (pe_callS h_endless_parts (hr.mono (by decide)) rfl (pa_e (pv 0) pa_nil)))
 (pss_cons (ps_if (pt_not (pt_truD (pv 1))) (pss_one (ps_ret pe_non)) pss_nil)
 (pss_cons (ps_set (i := 2) sc_ring.nd rfl (Or.inl rfl) (pe_lst pa_nil))
 (pss_cons (ps_set (i := 3) sc_ring.nd rfl (Or.inl rfl) (pe_item hu (pe_callTS (call_listD rfl) rfl T.n_list bt_list (pa_e (pv 1) pa_nil)) pe_int (fun _ _ => rfl)))
 (pss_cons (ps_while PassesOwn.never (pt_cmpR (op_notInA hu) (pv 3) (pv 2) rfl) (pss_cons (ps_expr (pe_bs PySem.F.plainAttrs_list PySem.F.slot_list_append PySem.F.type_list_append mt_append (pv 2) (pa_e (pv 3) pa_nil)))
 (pss_one (ps_set (i := 3) sc_ring.nd rfl (Or.inl rfl) (pe_item hu (pe_item hu (pv 1) (pv 3) (fun _ _ => rfl)) pe_int (fun _ _ => rfl))))))
 (pss_one (ps_ret (pe_slice sl_lstA (pv 2) (po_some (pe_bs PySem.F.plainAttrs_list PySem.F.slot_list_index PySem.F.type_list_index mt_index (pv 2) (pa_e (pv 3) pa_nil))) po_none)))))))), ?_⟩
    walk_at "rd"
    refine ⟨v, S, rfl, rs, ok, fun p kvs H1 hp hp1 pd sm => ⟨p, rfl, kvs, hp1, ?_⟩⟩
    have nd : (keysG (grOf S)).Nodup := by rw [keys_gr]; exact ok.names
    have ndc := cutN_nodup nd S.wares.length
    have hG : (cutN S.wares.length (grOf S)).length ≤ 1000 := by have := cutN_len (grOf S) S.wares.length; rw [gr_len] at this; have := ok.len; omega
    have hkl := pd.len
    refine ite2 (fun h => ?_) (fun h => ?_)
    · have : kvs = [] := by simpa using h
      rw [this] at pd
      refine k ?_ H1 sm
      unfold NoRing
      exact List.eq_nil_of_length_eq_zero (by rw [this] at hkl; exact hkl.symm)
    · have hne : kvs ≠ [] := by simpa using h
      have hnr : ¬ NoRing S := fun z => by
        unfold NoRing at z
        rw [z] at hkl
        exact hne (List.eq_nil_of_length_eq_zero hkl)
      have closed : ∀ e ∈ cutN S.wares.length (grOf S), e.2 ≠ [] ∧ ∀ y ∈ e.2, y ∈ keysG (cutN S.wares.length (grOf S)) := fun e he => cut_closed (by rw [gr_len]; exact Nat.le_refl _) he
      have ring_of : ∀ xs, RingIn (cutN S.wares.length (grOf S)) xs → RingIn (grOf S) xs := fun xs ⟨h1, h2, h3⟩ => ⟨h1, h2, fun i x hx => let ⟨y, e, z⟩ := h3 i x hx; ⟨y, e, part_cut z⟩⟩
      generalize cutN S.wares.length (grOf S) = G at pd ndc hG hkl closed ring_of
      refine ⟨by decide, fun w hw => ?_⟩
      have u := same_upd (o := .lst []) hw
      refine ⟨p, kvs, rfl, .inl (u _ _ hp1), by omega, fun l hl => ?_⟩
      have u2 := same_upd (o := .lst (kvs.map fun q => kV q.1)) hl
      obtain ⟨e0, he0⟩ : ∃ e, G[0]? = some e := ⟨_, List.getElem?_eq_getElem (by have := List.length_pos_iff.mpr hne; omega)⟩
      obtain ⟨l0, hk0, hl0⟩ := pd.get he0
      refine ⟨.str e0.1, item_l (j := 0) upd_same (by rw [List.getElem?_map, hk0]; rfl), ?_⟩
      refine ⟨WayInv v p w kvs G H1, ⟨G.length, [], e0.1, rfl, u2 _ _ (u _ _ hp1), u2 _ _ upd_same, List.nodup_nil, (fun x hx => nomatch hx), List.mem_map.mpr ⟨e0, List.mem_of_getElem? he0, rfl⟩, (fun i x y hx hy => ?_), rfl, u.trans u2⟩, ?_⟩
      · have := (List.getElem?_eq_some_iff.mp hy).1
        simp at this
      rintro m σ H2 ⟨way, name, rfl, ha2, hw2, ndw, sub, hnm, ch, hm, s2⟩
      walk_at "rd"
      refine ⟨_, .inl ⟨w, _, rfl, .inl hw2, rfl, all_flatS way, rfl⟩, ?_⟩
      rw [inV_strs]
      have hkl2 : (keysG G).length = G.length := by unfold keysG; rw [List.length_map]
      by_cases hin : name ∈ way
      · rw [decide_eq_true hin, if_neg (by decide)]
        refine ⟨ty_lst hw2, way, hw2, hin, _, hw2, fun r hr2 => ?_⟩
        rw [cutV_fr (Int.natCast_nonneg _), Int.toNat_natCast, ← List.map_drop]
        refine kr r _ (way.drop (way.idxOf name)) hnr (Same.free (sm.trans s2) hr2) upd_same ?_ (ring_of _ (chain_ring ndw ch hin)) ((sm.trans s2).trans (same_upd hr2))
        have := sub_len ndw sub
        rw [List.length_drop]
        omega
      · rw [decide_eq_false hin, if_pos (by decide)]
        obtain ⟨e, hem, een⟩ := List.mem_map.mp hnm
        obtain ⟨i, hi⟩ := List.getElem?_of_mem hem
        obtain ⟨l2, hk2, hl2⟩ := pd.get hi
        have hv2 : valV kvs (.inr name) = some (.ref l2) := by
          rw [← een]
          exact valV_nodup (by rw [pd.keys]; exact inr_nodup ndc) hk2
        obtain ⟨hne2, hall⟩ := closed e hem
        obtain ⟨nx, hnx⟩ : ∃ nx, e.2[0]? = some nx := ⟨_, List.getElem?_eq_getElem (List.length_pos_iff.mpr hne2)⟩
        have hnxm := List.mem_of_getElem? hnx
        have nd2 : (way ++ [name]).Nodup := List.nodup_append.mpr ⟨ndw, by simp, fun a ha b hb z => by rw [z, List.mem_singleton.mp hb] at ha; exact hin ha⟩
        have sub2 : ∀ x ∈ way ++ [name], x ∈ keysG G := fun x hx => by
          rcases List.mem_append.mp hx with z | z
          · exact sub x z
          · rw [List.mem_singleton.mp z]; exact hnm
        have hl3 := sub_len nd2 sub2
        rw [List.length_append, List.length_singleton, hkl2] at hl3
        have pw : ∀ {q : Addr} {o : HO}, H2 q = some o → (∀ xs, o ≠ .lst (xs : List V)) → upd H2 w (.lst (way.map V.str ++ [.str name])) q = some o := fun {q o} h1 h2 => by rw [upd_ne (fun z => by rw [z, hw2] at h1; exact h2 _ (Option.some.inj h1).symm)]; exact h1
        have lw : l2 ≠ w := ne_of_none hl2 hw
        refine ⟨_, fun σ' H' h => h, ty_lst hw2, _, hw2, by rw [List.length_map]; exact Nat.lt_of_le_of_lt (m := 1000) (by omega) (by decide), .ref l2, item_d (.inl (pw ha2 (fun _ z => by cases z))) hv2, .str nx, item_l (j := 0) (xs := e.2.map V.str) (by rw [upd_ne lw]; exact s2 _ _ hl2) (by rw [List.getElem?_map, hnx]; rfl), m - 1, by omega, way ++ [name], nx, rfl, pw ha2 (fun _ z => by cases z), by rw [upd_same, List.map_append]; rfl, nd2, sub2, hall nx hnxm, chain_snoc ch ⟨e.2, by rw [← een]; exact hem, hnxm⟩, by rw [List.length_append, List.length_singleton]; omega, fun b o hb => by rw [upd_ne (ne_of_none hb hw)]; exact s2 b o hb⟩
end
set_option maxRecDepth 100000
set_option maxHeartbeats 4000000
section
variable {P : Program} {w : World} {K : PySem.W.Frag} {mg : Str → Option Value} {base : Heap} {Pt : Addr}
def sp_check_rings (c : Cl) : Sp := fun vs H Q E => ∃ (v : V) (S : Sh), vs = [v] ∧ RD H S.d v ∧ ShOk S ∧ (∀ w ∈ S.wares, w.name.length ≤ 800) ∧ (∀ w ∈ S.wares, ∀ p ∈ w.parts, p.1 ∈ S.wares.map (·.name)) ∧ (NoRing S → ∀ H', Same H H' → Q .non H') ∧ (¬ NoRing S → ∀ H', Same H H' → E (.ref c.Ring) none H')
theorem sc_check_rings : FnScope ["shop", "found", "names"] ["shop"] (defScope s_check_rings) := ⟨rfl, rfl, rfl, by decide +kernel, rfl, by decide +kernel, by decide +kernel⟩
theorem ok_check_rings {f : Addr} {fd : FuncData} (F : Fun K "check_rings" "check_rings" s_check_rings f fd) (T : Txt mg) {c : Cl} (C : Exc K mg c) (h_ring : Has P w K mg base "ring" 3 ["shop"] sp_ring) : FnOk P w K mg base (CXE P w) 4 f fd ["shop"] (sp_check_rings c) := by
  refine F.okX sc_check_rings (fun vs H Q E h => ?_) (fun cdv A outer s H vs Q E hr h => ?_)
  · obtain ⟨v, S, rfl, _⟩ := h
    rfl
  · obtain ⟨v, S, rfl, rs, ok, hn, own, k, ke⟩ := h
    have hu := hu_of hr
    refine ⟨_, (pss_cons (ps_set (i := 1) sc_check_rings.nd rfl (Or.inl rfl) (pe_callS h_ring (hr.mono (by decide)) rfl (pa_e (pv 0) pa_nil)))
 (pss_one (ps_if (pt_cmpR op_isnotA (pv 1) pe_non (nomark _)) (pss_cons (ps_set (i := 2) sc_check_rings.nd rfl (Or.inl rfl) (pe_bs PySem.F.plainAttrs_str PySem.F.slot_str_join PySem.F.type_str_join mt_join pe_str (pa_e (pv 1) pa_nil)))
 (pss_one (ps_raise madeE rfl rfl C.m_Ring C.e_Ring (pa_e (pe_fst (pf_con (pf_str (pv 2) pf_nil))) pa_nil)))) pss_nil))), ?_⟩
    walk_at "rd"
    refine ⟨v, S, rfl, rs, ok, fun no H1 s1 => ?_, fun p H1 xs no hp hp1 hx rg s1 => ?_⟩
    · walk_at "rd"
      exact iteNS trivial (k no H1 s1)
    · walk_at "rd"
      have mem : ∀ y ∈ xs, y ∈ S.wares.map (·.name) := fun y hy => by
        obtain ⟨i, hi⟩ := List.getElem?_of_mem hy
        obtain ⟨z, _, ps, h1, h2⟩ := rg.2.2 i y hi
        obtain ⟨u, hu1, hu2⟩ := List.mem_map.mp h1
        cases hu2
        obtain ⟨pp, hp1, hp2⟩ := List.mem_map.mp h2
        rw [← hp2]
        exact own u hu1 pp hp1
      have hB : ∀ y ∈ xs, y.length ≤ 800 := fun y hy => by
        obtain ⟨u, hu1, hu2⟩ := List.mem_map.mp (mem y hy)
        rw [← hu2]
        exact hn u hu1
      have l1 : (Str.ofString " ").length = 1 := by decide +kernel
      have l17 : (Str.ofString "a ring of parts: ").length = 17 := by decide +kernel
      have hj := join_len (sep := Str.ofString " ") hB
      have hm : xs.length * 800 ≤ 1000 * 800 := Nat.mul_le_mul_right _ hx
      have hs : xs.length * (Str.ofString " ").length ≤ 1000 := by rw [l1, Nat.mul_one]; exact hx
      rw [decide_eq_false (fun z => z), if_pos (by decide)]
      refine ⟨rfl, _, p, xs, 800, rfl, rfl, hp1, hB, by omega, by omega, _, rfl, by omega, by omega, fun _ => ⟨by decide, ke no H1 s1⟩⟩
structure LevOk (S : Sh) : Prop extends Lev S where
  ok : ShOk S
  few : S.wares.length < 64
def namesS (S : Sh) : List Str := S.wares.map (·.name)
theorem namesS_len (S : Sh) : (namesS S).length = S.wares.length := by unfold namesS; rw [List.length_map]
def sp_names_of : Sp := fun vs H Q _ => ∃ (v : V) (S : Sh), vs = [v] ∧ RD H S.d v ∧ S.wares.length ≤ 1000 ∧ ∀ p H', H p = none → H' p = some (.lst ((namesS S).map V.str)) → Same H H' → Q (.ref p) H'
theorem sc_names_of : FnScope ["shop"] ["shop"] (defScope s_names_of) := ⟨rfl, rfl, rfl, by decide +kernel, rfl, by decide +kernel, by decide +kernel⟩
theorem ok_names_of {f : Addr} {fd : FuncData} (F : Fun K "names_of" "names_of" s_names_of f fd) (T : Txt mg) {c : Cl} (C : Exc K mg c) : FnOk P w K mg base CX0 1 f fd ["shop"] sp_names_of := by
  refine F.ok sc_names_of (fun vs H Q E h => ?_) (fun cdv A outer s H vs Q E hr h => ?_)
  · obtain ⟨v, S, rfl, _⟩ := h
    rfl
  · obtain ⟨v, S, rfl, rs, hlen, k⟩ := h
    have hu := hu_of hr
    refine ⟨_, (pss_one (ps_ret (pe_comp (own := ["ware"]) (cap := []) rfl (cp_ok rfl) (gown_name (by decide)) (pi_tpl (pe_item hu (pv 0) pe_int (fun _ _ => rfl)))
 (fun _ _ _ _ _ _ => ⟨(pg_name (i := 0) (of_decide_eq_true rfl) rfl (Or.inl rfl) (.inr rfl)), pts_nil, (pe_item hu (pv 0) (pe_globI rfl T.g_NAME) (fun _ _ => rfl))⟩)))), ?_⟩
    obtain ⟨a, b, c, ws, us, rfl, ha, hb, hc, rws, rus⟩ := shop_at rs
    have hl := rds_len rws
    walk_at "rd"
    refine ⟨_, item_t (j := 0) ha rfl, b, rfl, _, hb, ?_⟩
    refine comp_map (goesT b _) (line1000 (by omega)) (fun H' s' => s' _ _ hb) ((namesS S).map V.str) (by rw [List.length_map, namesS_len, hl]) (fun i x H' hi hx s' N M hN => ?_) (fun H' s' p hp => ?_)
    · obtain ⟨y, hy, ry⟩ := rds_map rws hx
      obtain ⟨e, c1, c2, rfl, he, _⟩ := ware_at ry
      walk_at "rd"
      refine ⟨_, item_t (j := 0) (s' _ _ he) rfl, hN _ _ s' ?_⟩
      unfold namesS
      rw [List.getElem?_map, List.getElem?_map, hy]
      rfl
    · exact k p _ (Same.free s' hp) upd_same (s'.trans (same_upd hp))
structure KnOk (S : Sh) : Prop where
  ok : ShOk S
  few : S.wares.length < 64
  nl : ∀ w ∈ S.wares, w.name.length ≤ 800
  own : ∀ w ∈ S.wares, ∀ p ∈ w.parts, p.1 ∈ S.wares.map (·.name)
theorem KnOk.lev {S : Sh} (h : KnOk S) (no : NoRing S) : LevOk S := by
  have nd : (keysG (grOf S)).Nodup := by rw [keys_gr]; exact h.ok.names
  obtain ⟨r, h1, h2⟩ := cut_low nd no fun e he y hy => by
    obtain ⟨u, hu1, hu2⟩ := List.mem_map.mp he
    cases hu2
    obtain ⟨pp, hp1, hp2⟩ := List.mem_map.mp hy
    rw [← hp2, keys_gr]
    exact h.own u hu1 pp hp1
  exact { nd := h.ok.names, own := h.own, low := ⟨r, fun w hw => h1 _ (List.mem_map.mpr ⟨w, hw, rfl⟩), fun w hw p hp => h2 _ (List.mem_map.mpr ⟨w, hw, rfl⟩) _ (List.mem_map.mpr ⟨p, hp, rfl⟩)⟩, ok := h.ok, few := h.few }
def sp_levels (c : Cl) : Sp := fun vs H Q E => ∃ (v : V) (S : Sh), vs = [v] ∧ RD H S.d v ∧ KnOk S ∧ (NoRing S → ∀ p H', H p = none → H' p = some (.dK (fnD (namesS S) (lv S))) → Same H H' → Q (.ref p) H') ∧ (¬ NoRing S → ∀ H', Same H H' → E (.ref c.Ring) none H')
def ZeroInv (v : V) (p : Addr) (S : Sh) (H : Hp) (i : Nat) (σ : St) (H' : Hp) : Prop := ∃ o1 o2 o3 o4 : Option V, σ = [some v, some (.ref p), o1, o2, o3, o4] ∧ H' p = some (.dK (fnD ((namesS S).take i) fun _ => 0)) ∧ Same H H'
def LvMid (S : Sh) (k i j : Nat) (g : Str → Int) : Prop := (∀ x, 0 ≤ g x ∧ lvF S k x ≤ g x ∧ (x ∈ namesS S → g x ≤ lv S x)) ∧ (∀ w ∈ S.wares.take i, ∀ p ∈ w.parts, 1 + lvF S k w.name ≤ g p.1) ∧ ∀ w, S.wares[i]? = some w → ∀ p ∈ w.parts.take j, 1 + lvF S k w.name ≤ g p.1
def TurnInv (v : V) (p : Addr) (S : Sh) (H : Hp) (k : Nat) (σ : St) (H' : Hp) : Prop := ∃ (o1 o2 o3 o4 : Option V) (g : Str → Int), σ = [some v, some (.ref p), o1, o2, o3, o4] ∧ H' p = some (.dK (fnD (namesS S) g)) ∧ (∀ x, 0 ≤ g x ∧ lvF S k x ≤ g x ∧ (x ∈ namesS S → g x ≤ lv S x)) ∧ Same H H'
def SeenInv (v : V) (p : Addr) (S : Sh) (k : Nat) (H : Hp) (i : Nat) (σ : St) (H' : Hp) : Prop := ∃ (o1 o2 o3 o4 : Option V) (g : Str → Int), σ = [some v, some (.ref p), o1, o2, o3, o4] ∧ H' p = some (.dK (fnD (namesS S) g)) ∧ LvMid S k i 0 g ∧ Same H H'
def PartsInv (v : V) (p : Addr) (t : V) (S : Sh) (k i : Nat) (H : Hp) (j : Nat) (σ : St) (H' : Hp) : Prop := ∃ (o1 o2 o4 : Option V) (g : Str → Int), σ = [some v, some (.ref p), o1, o2, some t, o4] ∧ H' p = some (.dK (fnD (namesS S) g)) ∧ LvMid S k i j g ∧ Same H H'
theorem sc_levels : FnScope ["shop", "told", "name", "turn", "ware", "part"] ["shop"] (defScope s_levels) := ⟨rfl, rfl, rfl, by decide +kernel, rfl, by decide +kernel, by decide +kernel⟩
theorem ok_levels {f : Addr} {fd : FuncData} (F : Fun K "levels" "levels" s_levels f fd) (T : Txt mg) {c : Cl} (C : Exc K mg c) (h_check_rings : HasX P w K mg base "check_rings" 4 ["shop"] (sp_check_rings c)) (h_names_of : Has P w K mg base "names_of" 1 ["shop"] sp_names_of) (h_part_names : Has P w K mg base "part_names" 1 ["ware"] sp_part_names) : FnOk P w K mg base (CXE P w) 5 f fd ["shop"] (sp_levels c) := by
  refine F.okX sc_levels (fun vs H Q E h => ?_) (fun cdv A outer s H vs Q E hr h => ?_)
  · obtain ⟨v, S, rfl, _⟩ := h
    rfl
  · obtain ⟨v, S, rfl, rs, kn, k, ke⟩ := h
    have hu := hu_of hr
    refine ⟨_, (pss_cons (ps_expr (pe_callX h_check_rings passE (hr.mono (by decide)) rfl (pa_e (pv 0) pa_nil)))
 (pss_cons (ps_set (i := 1) sc_levels.nd rfl (Or.inl rfl) pe_dnewK)
 (pss_cons (ps_for PassesOwn.leaving rfl (pi_lst (pe_callS h_names_of (hr.mono (by decide)) rfl (pa_e (pv 0) pa_nil))) (pg_name (i := 2) sc_levels.nd rfl (Or.inl rfl))
 (pss_one (ps_asg pe_int (pg_sub (pv 1) (pv 2) (set_dict hu)))))
 (pss_cons (ps_for PassesOwn.leaving rfl (pi_rangeS1 rfl T.n_range (pa_e (pe_callBS call_len_q rfl T.n_len bt_len (pa_e (pe_item hu (pv 0) pe_int (fun _ _ => rfl)) pa_nil)) pa_nil)) (pg_name (i := 3) sc_levels.nd rfl (Or.inl rfl))
 (pss_one (ps_for PassesOwn.leaving rfl (pi_tpl (pe_item hu (pv 0) pe_int (fun _ _ => rfl))) (pg_name (i := 4) sc_levels.nd rfl (Or.inl rfl))
 (pss_one (ps_for PassesOwn.leaving rfl (pi_lst (pe_callS h_part_names (hr.mono (by decide)) rfl (pa_e (pv 4) pa_nil))) (pg_name (i := 5) sc_levels.nd rfl (Or.inl rfl))
 (pss_one (ps_asg (pe_callBS (call_maxA rfl) rfl T.n_max bt_max (pa_e (pe_item hu (pv 1) (pv 5) (fun _ _ => rfl)) (pa_e (pe_op op_add (pe_item hu (pv 1) (pe_item hu (pv 4) (pe_globI rfl T.g_NAME) (fun _ _ => rfl)) (fun _ _ => rfl)) pe_int) pa_nil))) (pg_sub (pv 1) (pv 5) (set_dict hu)))))))))
 (pss_one (ps_ret (pv 1))))))), ?_⟩
    have hfew := kn.few
    walk_at "rd"
    refine ⟨v, S, rfl, rs, kn.ok, kn.nl, kn.own, fun no H1 sm1 => ?_, ke⟩
    have L := kn.lev no
    have k := k no
    obtain ⟨a, b, c, ws, us, rfl, ha, hb, hc, rws, rus⟩ := shop_at rs
    have hl := rds_len rws
    intro p hp
    have u1 := sm1.trans (same_upd (o := .dK []) hp)
    have fp : H p = none := Same.free sm1 hp
    have hnl := namesS_len S
    refine ⟨.ref a, S, rfl, RD.same u1 _ _ rs, by omega, fun q H2 hq hq2 sm2 => ⟨q, rfl, _, hq2, ?_⟩⟩
    have hp2 := sm2 p _ upd_same
    have s2 := u1.trans sm2
    have qp : q ≠ p := fun z => by rw [z, upd_same] at hq; cases hq
    refine for_w (goesL q _) (fun i σ H' => ZeroInv (.ref a) p S H i σ H' ∧ H' q = some (.lst ((namesS S).map V.str))) ⟨⟨_, _, _, _, rfl, hp2, s2⟩, hq2⟩ (fun i σ H' _ h => h.2) (fun i x σ H3 hi hx h => ?_) (fun σ H3 h => ?_)
    · obtain ⟨⟨o1, o2, o3, o4, rfl, hp3, s3⟩, hq3⟩ := h
      rw [List.length_map] at hi
      rw [List.getElem?_map] at hx
      cases en : (namesS S)[i]? with
      | none => rw [en] at hx; cases hx
      | some nm =>
      rw [en] at hx
      have hx : V.str nm = x := Option.some.inj hx
      subst hx
      walk_at "rd"
      refine ⟨_, .inr nm, rfl, hp3, ?_, ⟨_, _, _, _, rfl, ?_, fun b' o' hb' => by rw [upd_ne (ne_of_none hb' fp)]; exact s3 b' o' hb'⟩, by rw [upd_ne qp]; exact hq3⟩
      · rw [fnD_len, List.length_take]
        exact Nat.lt_of_le_of_lt (m := 1000) (by omega) (by decide)
      · have nin : nm ∉ (namesS S).take i := take_nin' L.nd en
        rw [upd_same, fnD_new nin, List.take_add_one, en]
        exact congrArg (fun z => some (HO.dK z)) (fnD_congr fun x _ => by split <;> rfl)
    · obtain ⟨⟨o1, o2, o3, o4, rfl, hp3, s3⟩, _⟩ := h
      rw [List.length_map, List.take_length] at hp3
      walk_at "rd"
      refine ⟨_, item_t (j := 0) (s3 _ _ ha) rfl, b, rfl, _, .inr (s3 _ _ hb), by omega, by omega, ?_⟩
      have en : ((ws.length : Nat) : Int).toNat = S.wares.length := by omega
      rw [en]
      refine for_w (goesR 0 _) (TurnInv (.ref a) p S H) ⟨_, _, _, _, fun _ => 0, rfl, hp3, fun x => ⟨Int.le_refl _, Int.le_refl _, fun _ => lv_nn S x⟩, s3⟩ (fun _ _ _ _ _ => trivial) (fun k' x σ H4 hi hx h => ?_) (fun σ H4 h => ?_)
      · obtain ⟨o1, o2, o3, o4, g, rfl, hp4, hg, s4⟩ := h
        walk_at "rd"
        refine ⟨_, item_t (j := 0) (s4 _ _ ha) rfl, b, rfl, _, s4 _ _ hb, ?_⟩
        refine for_w (goesT b _) (SeenInv (.ref a) p S k' H) ⟨_, _, _, _, g, rfl, hp4, ⟨hg, (fun w hw => by cases hw), fun w _ p hp => by cases hp⟩, s4⟩ (fun i σ H' _ h => let ⟨_, _, _, _, _, _, _, _, s⟩ := h; s _ _ hb) (fun i y σ H5 hi2 hy h => ?_) (fun σ H5 h => ?_)
        · obtain ⟨o1, o2, o3, o4, g, rfl, hp5, hg, s5⟩ := h
          obtain ⟨t, ht, rt⟩ := rds_map rws hy
          have htm := List.mem_of_getElem? ht
          obtain ⟨te, d1, d2, rfl, hte, _⟩ := ware_at rt
          walk_at "rd"
          refine ⟨.ref te, t, rfl, RD.same s5 _ _ rt, L.ok.wares t htm, fun q2 H6 hq6 hq7 sm6 => ⟨q2, rfl, _, hq7, ?_⟩⟩
          have hp6 := sm6 p _ hp5
          have s6 := s5.trans sm6
          have q2p : q2 ≠ p := fun z => by rw [z, hp5] at hq6; cases hq6
          refine for_w (goesL q2 _) (fun j σ H' => PartsInv (.ref a) p (.ref te) S k' i H j σ H' ∧ H' q2 = some (.lst ((t.parts.map (·.1)).map V.str))) ⟨⟨_, _, _, g, rfl, hp6, hg, s6⟩, hq7⟩ (fun j σ H' _ h => h.2) (fun j z σ H7 hj hz h => ?_) (fun σ H7 h => ?_)
          · obtain ⟨⟨o1, o2, o4, g, rfl, hp7, hg, s7⟩, hq8⟩ := h
            rw [List.length_map, List.length_map] at hj
            obtain ⟨pp, hpp⟩ : ∃ pp, t.parts[j]? = some pp := ⟨_, List.getElem?_eq_getElem hj⟩
            rw [List.getElem?_map, List.getElem?_map, hpp] at hz
            have hz : V.str pp.1 = z := Option.some.inj hz
            subst hz
            have hpm := List.mem_of_getElem? hpp
            have hown : pp.1 ∈ namesS S := L.own t htm pp hpm
            have htn : t.name ∈ namesS S := List.mem_map.mpr ⟨t, htm, rfl⟩
            walk_at "rd"
            have hg1 := (hg.1 pp.1)
            have hgt := (hg.1 t.name)
            have hup : g t.name + 1 ≤ lv S pp.1 := by have h1 := hgt.2.2 htn; have h2 := lv_part L.toLev htm hpm; omega
            refine ⟨.int (g pp.1), item_d (.inl hp7) (fnD_val hown), _, item_t (j := 0) (s7 _ _ hte) rfl, .int (g t.name), item_d (.inl hp7) (fnD_val htn), _, rfl, _, rfl, _, .inr pp.1, rfl, hp7, by rw [fnD_len, hnl]; exact Nat.lt_of_le_of_lt (m := 1000) (by omega) (by decide), ?_, by rw [upd_ne q2p]; exact hq8⟩
            rw [fnD_put hown]
            refine ⟨_, _, _, fun x => if x = pp.1 then (if g t.name + 1 > g pp.1 then g t.name + 1 else g pp.1) else g x, rfl, upd_same, ?_, fun b' o' hb' => by rw [upd_ne (ne_of_none hb' fp)]; exact s7 b' o' hb'⟩
            have gr : ∀ x, g x ≤ (if x = pp.1 then (if g t.name + 1 > g pp.1 then g t.name + 1 else g pp.1) else g x) := fun x => by
              split
              · rename_i e; rw [e]; split <;> omega
              · exact Int.le_refl _
            refine ⟨fun x => ⟨Int.le_trans (hg.1 x).1 (gr x), Int.le_trans (hg.1 x).2.1 (gr x), fun hx => ?_⟩, fun w hw p hp => Int.le_trans (hg.2.1 w hw p hp) (gr p.1), fun w hw p hp => ?_⟩
            · show (if x = pp.1 then (if g t.name + 1 > g pp.1 then g t.name + 1 else g pp.1) else g x) ≤ lv S x
              split
              · rename_i e; rw [e]; have := hg1.2.2 hown; split <;> omega
              · exact (hg.1 x).2.2 hx
            · rw [ht] at hw
              have e : t = w := Option.some.inj hw
              subst e
              rw [List.take_add_one, hpp] at hp
              rcases List.mem_append.mp hp with m | m
              · exact Int.le_trans (hg.2.2 t ht p m) (gr p.1)
              · have e : p = pp := by simpa using m
                subst e
                show 1 + lvF S k' t.name ≤ (if p.1 = p.1 then (if g t.name + 1 > g p.1 then g t.name + 1 else g p.1) else g p.1)
                rw [if_pos rfl]
                have := hgt.2.1
                split <;> omega
          · obtain ⟨⟨o1, o2, o4, g, rfl, hp7, hg, s7⟩, _⟩ := h
            rw [List.length_map, List.length_map] at hg
            refine ⟨_, _, _, _, g, rfl, hp7, ⟨hg.1, fun w hw p hp => ?_, fun w _ p hp => by cases hp⟩, s7⟩
            rw [List.take_add_one, ht] at hw
            rcases List.mem_append.mp hw with m | m
            · exact hg.2.1 w m p hp
            · have e : w = t := by simpa using m
              subst e
              exact hg.2.2 w ht p (by rw [List.take_length]; exact hp)
        · obtain ⟨o1, o2, o3, o4, g, rfl, hp5, hg, s5⟩ := h
          rw [hl] at hg
          exact ⟨_, _, _, _, g, rfl, hp5, fun x => ⟨(hg.1 x).1, lv_reach (fun x => (hg.1 x).1) (fun w hw p hp => hg.2.1 w (by rw [List.take_length]; exact hw) p hp) x, (hg.1 x).2.2⟩, s5⟩
      · obtain ⟨o1, o2, o3, o4, g, rfl, hp4, hg, s4⟩ := h
        walk_at "rd"
        refine k p H4 fp ?_ s4
        rw [hp4]
        exact congrArg (fun z => some (HO.dK z)) (fnD_congr fun x hx => Int.le_antisymm ((hg x).2.2 hx) (hg x).2.1)
def sp_worked (c : Cl) (Pt : Addr) : Sp := fun vs H Q E => ∃ (v : V) (S : Sh), vs = [v] ∧ RD H S.d v ∧ KnOk S ∧ Tb H Pt ∧ (NoRing S → ∀ p ys H', H p = none → H' p = some (.lst (ys.map V.str)) → SortK (lv S) (namesS S) ys → StabK (lv S) (namesS S) ys → Tb H' Pt → But Pt H H' → Q (.ref p) H') ∧ (¬ NoRing S → ∀ H', Same H H' → E (.ref c.Ring) none H')
theorem sc_worked : FnScope ["shop", "level_of"] ["shop"] (defScope s_worked) := ⟨rfl, rfl, rfl, by decide +kernel, rfl, by decide +kernel, by decide +kernel⟩
theorem ok_worked {f ct : Addr} {fd : FuncData} (F : Fun K "worked" "worked" s_worked f fd) (T : Txt mg) {c : Cl} (C : Exc K mg c) (h_levels : HasX P w K mg base "levels" 5 ["shop"] (sp_levels c)) (h_names_of : Has P w K mg base "names_of" 1 ["shop"] sp_names_of) (Cd : CodeAt K f ct Pt) (hB : BMain mg base) : FnOk P w K mg base (CXE P w) 6 f fd ["shop"] (sp_worked c Pt) := by
  refine F.okCX Cd sc_worked (fun vs H Q E h => ?_) (fun A outer s H vs Q E hr h => ?_)
  · obtain ⟨v, S, rfl, _⟩ := h
    rfl
  · obtain ⟨v, S, rfl, rs, kn, tb, k, ke⟩ := h
    have hu := hu_of hr
    refine ⟨_, (pss_cons (ps_set (i := 1) sc_worked.nd rfl (Or.inr rfl) (pe_callX h_levels passE (hr.mono (by decide)) rfl (pa_e (pv 0) pa_nil)))
 (pss_one (ps_ret (pe_sortK (i := 1) (nm := "name") (lv := "level_of") rfl T.n_sorted (pe_callS h_names_of (hr.mono (by decide)) rfl (pa_e (pv 0) pa_nil)) hr rfl Cd.hd hB rfl rfl rfl (fun _ h => closure_one rfl h) ⟨rfl, rfl, rfl, rfl, rfl, by decide⟩ (fun _ _ _ _ _ => rfl))))), ?_⟩
    have hfew := kn.few
    walk_at "rd"
    refine ⟨v, S, rfl, rs, kn, fun no p H1 hp hp1 sm1 => ?_, ke⟩
    have k := k no
    refine ⟨v, S, rfl, RD.same sm1 _ _ rs, by omega, fun q H2 hq hq2 sm2 => ?_⟩
    have s2 := sm1.trans sm2
    unfold SortAsk
    refine ⟨q, namesS S, p, fnD (namesS S) (lv S), lv S, rfl, hq2, by rw [namesS_len]; exact hfew, rfl, sm2 _ _ hp1, fun x hx => fnD_val hx, TblAt.same tb s2, fun r ys H3 hr3 hr4 so sb tb3 bt => ?_⟩
    exact k r ys H3 (Same.free s2 hr3) hr4 so sb tb3 (fun b o nb hb => bt b o nb (s2 b o hb))
theorem Tb.same {H H' : Hp} {Pt : Addr} (t : Tb H Pt) (s : Same H H') : Tb H' Pt := TblAt.same t s
theorem Tb.at {H : Hp} {Pt : Addr} (t : Tb H Pt) : ∃ u, H Pt = some (.tbl u) := t.elim (fun e => ⟨_, e⟩) (fun ⟨_, e, _⟩ => ⟨_, e⟩)
theorem tb_ku {H H' : Hp} {Pt : Addr} (t : Tb H Pt) (b : But Pt H H') : KeepU H H' := fun a xs e => b a _ (fun z => by obtain ⟨u, hu⟩ := t.at; rw [z, hu] at e; cases e) e
theorem tb_but {H H' : Hp} {Pt st : Addr} (t : Tb H Pt) (b : But st H H') (s : StOk H st) : Tb H' Pt := by
  obtain ⟨ns, _, es⟩ := s
  rcases t with e | ⟨c, e, e2⟩
  · exact .inl (b _ _ (fun z => by rw [z, es] at e; cases e) e)
  · exact .inr ⟨c, b _ _ (fun z => by rw [z, es] at e; cases e) e, b _ _ (fun z => by rw [z, es] at e2; cases e2) e2⟩
theorem tb_ne {H : Hp} {Pt p : Addr} {o : HO} (t : Tb H Pt) (h : H p = some o) (hn : ∀ u, o ≠ .tbl u) : p ≠ Pt := fun z => by
  obtain ⟨u, e⟩ := t.at
  rw [← z, h] at e
  exact hn u (Option.some.inj e)
end
set_option maxRecDepth 100000
set_option maxHeartbeats 4000000
section
variable {P : Program} {w : World} {K : PySem.W.Frag} {mg : Str → Option Value} {base : Heap} {Pt : Addr}
def sp_ware_of : Sp := fun vs H Q _ => ∃ (v : V) (S : Sh) (n : Str), vs = [v, .str n] ∧ RD H S.d v ∧ ShOk S ∧ n ∈ S.wares.map (·.name) ∧ ∀ x w, w ∈ S.wares → w.name = n → RD H w.d x → Q x H
def WareInv (b : V) (n : Str) (ws : List Wr) (H : Hp) (i : Nat) (σ : St) (H' : Hp) : Prop := ∃ c : Option V, σ = [some b, some (.str n), c] ∧ H' = H ∧ ∀ w ∈ ws.take i, w.name ≠ n
theorem sc_ware_of : FnScope ["shop", "name", "ware"] ["shop", "name"] (defScope s_ware_of) := ⟨rfl, rfl, rfl, by decide +kernel, rfl, by decide +kernel, by decide +kernel⟩
theorem ok_ware_of {f : Addr} {fd : FuncData} (F : Fun K "ware_of" "ware_of" s_ware_of f fd) (T : Txt mg) {c : Cl} (C : Exc K mg c) : FnOk P w K mg base CX0 1 f fd ["shop", "name"] sp_ware_of := by
  refine F.ok sc_ware_of (fun vs H Q E h => ?_) (fun cdv A outer s H vs Q E hr h => ?_)
  · obtain ⟨v, S, n, rfl, _⟩ := h
    rfl
  · obtain ⟨v, S, n, rfl, rs, ok, hn, k⟩ := h
    have hu := hu_of hr
    refine ⟨_, (pss_cons (ps_for PassesOwn.never rfl (pi_tpl (pe_item hu (pv 0) pe_int (fun _ _ => rfl))) (pg_name (i := 2) sc_ware_of.nd rfl (Or.inl rfl))
 (pss_one (ps_if (pt_cmpR (op_eqA hu) (pe_item hu (pv 2) (pe_globI rfl T.g_NAME) (fun _ _ => rfl)) (pv 1) (nomark _)) (pss_one (ps_ret (pv 2))) pss_nil)))
 (pss_one ps_never)), ?_⟩
    obtain ⟨a, b, c, ws, us, rfl, ha, hb, hc, rws, rus⟩ := shop_at rs
    have hl := rds_len rws
    walk_at "rd"
    refine ⟨_, item_t (j := 0) ha rfl, b, rfl, _, hb, ?_⟩
    refine for_w (goesT b _) (WareInv (.ref a) n S.wares H) ⟨_, rfl, rfl, by simp⟩ (fun i σ H' _ h => by obtain ⟨_, _, rfl, _⟩ := h; exact hb) (fun i x σ H' hi hx h => ?_) (fun σ H' h => ?_)
    · obtain ⟨c, rfl, rfl, hno⟩ := h
      obtain ⟨w, hw, rw'⟩ := rds_map rws hx
      obtain ⟨e, c1, c2, rfl, he, _⟩ := ware_at rw'
      walk_at "rd"
      refine ⟨_, item_t (j := 0) he rfl, rfl, ite2 (fun h => ?_) (fun h => ?_)⟩
      · exact k _ w (List.mem_of_getElem? hw) (by have := of_decide_eq_true h; cases this; rfl) rw'
      · refine ⟨_, rfl, rfl, fun w' hw' => ?_⟩
        rw [List.take_add_one, hw] at hw'
        rcases List.mem_append.mp hw' with z | z
        · exact hno w' z
        · have e : w' = w := by simpa using z
          subst e
          intro e
          exact h (decide_eq_true (by rw [e]))
    · obtain ⟨c, rfl, rfl, hno⟩ := h
      rw [hl, List.take_length] at hno
      obtain ⟨w, hw, e⟩ := List.mem_map.mp hn
      exact absurd e (hno w hw)
def sp_times (c : Cl) (Pt : Addr) : Sp := fun vs H Q E => ∃ (v : V) (S : Sh), vs = [v] ∧ RD H S.d v ∧ KnOk S ∧ Tb H Pt ∧ (NoRing S → ∀ p ys H', H p = none → H' p = some (.dK (fnD ys (tm S))) → ys.Perm (namesS S) → Tb H' Pt → But Pt H H' → Q (.ref p) H') ∧ (¬ NoRing S → ∀ H', Same H H' → E (.ref c.Ring) none H')
def TimeInv (v : V) (p : Addr) (S : Sh) (ys : List Str) (Pt : Addr) (H : Hp) (j : Nat) (σ : St) (H' : Hp) : Prop := ∃ o1 o2 : Option V, σ = [some v, some (.ref p), o1, o2] ∧ H' p = some (.dK (fnD (ys.reverse.take j) (tm S))) ∧ Tb H' Pt ∧ But Pt H H'
theorem sc_times : FnScope ["shop", "told", "name", "ware"] ["shop"] (defScope s_times) := ⟨rfl, rfl, rfl, by decide +kernel, rfl, by decide +kernel, by decide +kernel⟩
theorem ok_times {f : Addr} {fd : FuncData} (F : Fun K "times" "times" s_times f fd) (T : Txt mg) {c : Cl} (C : Exc K mg c) (h_worked : HasX P w K mg base "worked" 6 ["shop"] (sp_worked c Pt)) (h_ware_of : Has P w K mg base "ware_of" 1 ["shop", "name"] sp_ware_of) (h_part_names : Has P w K mg base "part_names" 1 ["ware"] sp_part_names) : FnOk P w K mg base (CXE P w) 7 f fd ["shop"] (sp_times c Pt) := by
  refine F.okX sc_times (fun vs H Q E h => ?_) (fun cdv A outer s H vs Q E hr h => ?_)
  · obtain ⟨v, S, rfl, _⟩ := h
    rfl
  · obtain ⟨v, S, rfl, rs, kn, tb, k, ke⟩ := h
    have hu := hu_of hr
    refine ⟨_, (pss_cons (ps_set (i := 1) sc_times.nd rfl (Or.inr rfl) pe_dnewK)
 (pss_cons (ps_for PassesOwn.leaving rfl (pi_rev rfl T.n_reversed (pa_e (pe_callX h_worked passE (hr.mono (by decide)) rfl (pa_e (pv 0) pa_nil)) pa_nil)) (pg_name (i := 2) sc_times.nd rfl (Or.inl rfl))
 (pss_cons (ps_set (i := 3) sc_times.nd rfl (Or.inl rfl) (pe_callS h_ware_of (hr.mono (by decide)) rfl (pa_e (pv 0) (pa_e (pv 2) pa_nil))))
 (pss_one (ps_asg (pe_op op_add (pe_item hu (pv 3) (pe_globI rfl T.g_LAG) (fun _ _ => rfl)) (pe_maxd rfl rfl T.n_max (pe_comp (own := ["part"]) (cap := [1]) rfl (cp_ok rfl) (gown_name (by decide)) (pi_lst (pe_callS h_part_names (hr.mono (by decide)) rfl (pa_e (pv 3) pa_nil)))
 (fun _ _ _ _ _ _ => ⟨(pg_name (i := 0) (of_decide_eq_true rfl) rfl (Or.inl rfl) (.inr rfl)), pts_nil, (pe_item hu (pv 1) (pv 0) (fun _ _ => rfl))⟩)))) (pg_sub (pv 1) (pv 2) (set_dict hu))))))
 (pss_one (ps_ret (pv 1))))), ?_⟩
    have hfew := kn.few
    walk_at "rd"
    intro p hp
    have u0 := same_upd (o := .dK []) hp
    refine ⟨v, S, rfl, RD.same u0 _ _ rs, kn, tb.same u0, fun no q ys H1 hq hq1 so _ tb1 bt => ⟨q, rfl, _, hq1, ?_⟩, fun no H1 s1 => ke no H1 (u0.trans s1)⟩
    have L := kn.lev no
    have k := k no
    have pPt : p ≠ Pt := fun z => by obtain ⟨u, e⟩ := tb.at; rw [← z, hp] at e; cases e
    have hp1 : H1 p = some (.dK []) := bt _ _ pPt upd_same
    have bt0 : But Pt H H1 := fun b o nb e => bt b o nb (u0 b o e)
    have so' : SortK (lv S) (S.wares.map (·.name)) ys := so
    have hyl : ys.length = S.wares.length := by rw [so.1.length_eq, namesS_len]
    have ndy : ys.reverse.Nodup := ((List.reverse_perm ys).trans so.1).nodup_iff.mpr L.nd
    have qp : q ≠ p := fun z => by rw [z, upd_same] at hq; cases hq
    refine for_w (goesV q _) (fun j σ H' => TimeInv v p S ys Pt H j σ H' ∧ H' q = some (.lst (ys.map V.str))) ⟨⟨_, _, rfl, hp1, tb1, bt0⟩, hq1⟩ (fun j σ H' _ h => h.2) (fun j x σ H2 hj hx h => ?_) (fun σ H2 h => ?_)
    · obtain ⟨⟨o1, o2, rfl, hp2, tb2, bt2⟩, hq2⟩ := h
      rw [List.length_map] at hj
      rw [← List.map_reverse, List.getElem?_map] at hx
      cases en : ys.reverse[j]? with
      | none => rw [en] at hx; cases hx
      | some nm =>
      rw [en] at hx
      have hx : V.str nm = x := Option.some.inj hx
      subst hx
      have hnm : nm ∈ S.wares.map (·.name) := so.1.mem_iff.mp (List.mem_reverse.mp (List.mem_of_getElem? en))
      have rs2 := RD.ku (tb_ku tb bt2) _ _ (nl_shop S) rs
      walk_at "rd"
      refine ⟨v, S, nm, rfl, rs2, L.ok, hnm, fun t wt hwt ewt rt => ?_⟩
      subst ewt
      obtain ⟨te, d1, d2, rfl, hte, _⟩ := ware_at rt
      refine ⟨_, item_t (j := 1) hte rfl, .ref te, wt, rfl, rt, L.ok.wares wt hwt, fun r H3 hr3 hr4 sm3 => ⟨r, rfl, _, hr4, ?_⟩⟩
      have hp3 := sm3 _ _ hp2
      have hpl := (L.ok.wares wt hwt).1
      have ap : ∀ pp ∈ wt.parts, pp.1 ∈ ys.reverse.take j := fun pp hpp => parts_ahead L.toLev so' hwt en hpp
      refine comp_map (goesL r _) (line1000 (by rw [List.length_map, List.length_map]; exact hpl)) (fun H' s' => s' _ _ hr4) ((wt.parts.map fun pp => tm S pp.1).map V.int) (by rw [List.length_map, List.length_map, List.length_map, List.length_map]) (fun i y H' hi hy s' N M hN => ?_) (fun H4 s4 z hz => ?_)
      · rw [List.getElem?_map, List.getElem?_map] at hy
        cases ep : wt.parts[i]? with
        | none => rw [ep] at hy; cases hy
        | some pp =>
        rw [ep] at hy
        have hy : V.str pp.1 = y := Option.some.inj hy
        subst hy
        walk_at "rd"
        exact ⟨_, item_d (.inl (s' _ _ hp3)) (fnD_val (ap pp (List.mem_of_getElem? ep))), hN _ _ s' (by rw [List.getElem?_map, List.getElem?_map, ep]; rfl)⟩
      · have s5 := (sm3.trans s4).trans (same_upd (o := .lst ((wt.parts.map fun pp => tm S pp.1).map V.int)) hz)
        have hp5 := s5 _ _ hp2
        have hq5 := s5 _ _ hq2
        have tb5 := tb2.same s5
        refine ⟨z, rfl, _, upd_same, ?_⟩
        generalize upd H4 z (.lst ((wt.parts.map fun pp => tm S pp.1).map V.int)) = H5 at s5 hp5 hq5 tb5
        refine ⟨_, rfl, _, .inr wt.name, rfl, hp5, ?_, ⟨_, _, rfl, ?_, ?_, fun b o nb e => ?_⟩, by rw [upd_ne qp]; exact hq5⟩
        · rw [fnD_len, List.length_take, List.length_reverse]
          exact Nat.lt_of_le_of_lt (m := 1000) (by omega) (by decide)
        · rw [upd_same, ← tm_eq L.toLev hwt, fnD_new (take_nin' ndy en), List.take_add_one, en]
          exact congrArg (fun z => some (HO.dK z)) (fnD_congr fun x _ => by split <;> rename_i e <;> first | rw [e] | rfl)
        · rcases tb5 with e | ⟨c, e, e2⟩
          · exact .inl (by rw [upd_ne (Ne.symm pPt)]; exact e)
          · exact .inr ⟨c, by rw [upd_ne (Ne.symm pPt)]; exact e, by rw [upd_ne (fun z => by rw [z, hp5] at e2; cases e2)]; exact e2⟩
        · rw [upd_ne (ne_of_none e hp)]
          exact s5 _ _ (bt2 _ _ nb e)
    · obtain ⟨⟨o1, o2, rfl, hp2, tb2, bt2⟩, hq2⟩ := h
      rw [List.length_map, ← List.length_reverse, List.take_length] at hp2
      walk_at "rd"
      exact k p ys.reverse H2 hp hp2 ((List.reverse_perm ys).trans so.1) tb2 bt2
def sp_lots_for : Sp := fun vs H Q _ => ∃ m g, vs = [.int m, .int g] ∧ 0 < g ∧ g < 10 ^ 200 ∧ Q (.int (lotsOf m g)) H
theorem sc_lots_for : FnScope ["amount", "gives"] ["amount", "gives"] (defScope s_lots_for) := ⟨rfl, rfl, rfl, by decide +kernel, rfl, by decide +kernel, by decide +kernel⟩
theorem ok_lots_for {f : Addr} {fd : FuncData} (F : Fun K "lots_for" "lots_for" s_lots_for f fd) (T : Txt mg) {c : Cl} (C : Exc K mg c) : FnOk P w K mg base CX0 1 f fd ["amount", "gives"] sp_lots_for := by
  refine F.ok sc_lots_for (fun vs H Q E h => ?_) (fun cdv A outer s H vs Q E hr h => ?_)
  · obtain ⟨m, g, rfl, _⟩ := h
    rfl
  · obtain ⟨m, g, rfl, h0, h1, k⟩ := h
    have hu := hu_of hr
    refine ⟨_, (pss_one (ps_ret (pe_callBS (call_maxA rfl) rfl T.n_max bt_max (pa_e pe_int (pa_e (pe_un un_neg (pe_op op_fdivL (pe_un un_neg (pv 0)) (pv 1))) pa_nil))))), ?_⟩
    walk_at "rd"
    exact ⟨h0, h1, k⟩
def sp_explode (c : Cl) (Pt : Addr) : Sp := fun vs H Q E => ∃ (v : V) (S : Sh), vs = [v] ∧ RD H S.d v ∧ KnOk S ∧ ExOk S ∧ Tb H Pt ∧ (NoRing S → ∀ p ys H', H p = none → H' p = some (.dK (fnD ys (ex S))) → ys.Perm (namesS S) → Tb H' Pt → But Pt H H' → Q (.ref p) H') ∧ (¬ NoRing S → ∀ H', Same H H' → E (.ref c.Ring) none H')
theorem abs_lt3000 {i : Int} (h0 : 0 ≤ i) (h1 : i < 10 ^ 3000) : i.natAbs < 10 ^ 3000 := by
  have e : ((10 : Nat) ^ 3000 : Nat) = ((10 : Int) ^ 3000).toNat := by decide +kernel
  have h2 : ((i.natAbs : Nat) : Int) < 10 ^ 3000 := by rw [Int.natAbs_of_nonneg h0]; exact h1
  have h3 : (i.natAbs : Int).toNat < ((10 : Int) ^ 3000).toNat := (Int.toNat_lt_toNat (by decide +kernel)).mpr h2
  rw [← e] at h3
  exact h3
def NilInv (v : V) (q p : Addr) (ys : List Str) (H : Hp) (i : Nat) (σ : St) (H' : Hp) : Prop := ∃ o3 o4 o5 o6 o7 o8 : Option V, σ = [some v, some (.ref q), some (.ref p), o3, o4, o5, o6, o7, o8] ∧ H' p = some (.dK (fnD (ys.take i) fun _ => 0)) ∧ Same H H'
def WantInv (v : V) (q p : Addr) (ys : List Str) (us : List Wt) (H : Hp) (i : Nat) (σ : St) (H' : Hp) : Prop := ∃ o3 o4 o5 o6 o7 o8 : Option V, σ = [some v, some (.ref q), some (.ref p), o3, o4, o5, o6, o7, o8] ∧ H' p = some (.dK (fnD ys fun x => wantsOf (us.take i) x)) ∧ Same H H'
def ToldInv (v : V) (q p d : Addr) (S : Sh) (ys : List Str) (H : Hp) (i : Nat) (σ : St) (H' : Hp) : Prop := ∃ o3 o4 o6 o7 o8 : Option V, σ = [some v, some (.ref q), some (.ref p), o3, o4, some (.ref d), o6, o7, o8] ∧ H' p = some (.dK (fnD ys fun x => wantsOf S.wants x + sumN S (ex S) (ys.take i) x)) ∧ H' d = some (.dK (fnD (ys.take i) (ex S))) ∧ Same H H'
def TakeInv (v : V) (q p d : Addr) (nm : Str) (t : V) (w : Wr) (S : Sh) (ys : List Str) (i : Nat) (H : Hp) (j : Nat) (σ : St) (H' : Hp) : Prop := ∃ o4 o7 o8 : Option V, σ = [some v, some (.ref q), some (.ref p), some (.str nm), o4, some (.ref d), some t, o7, o8] ∧
  H' p = some (.dK (fnD ys fun x => wantsOf S.wants x + sumN S (ex S) (ys.take i) x + sumI ((w.parts.take j).map fun p => if p.1 = x then ex S w.name * p.2 else 0))) ∧ H' d = some (.dK (fnD (ys.take (i + 1)) (ex S))) ∧ Same H H'
theorem sc_explode : FnScope ["shop", "names", "needed", "name", "want", "told", "ware", "part", "amount"] ["shop"] (defScope s_explode) := ⟨rfl, rfl, rfl, by decide +kernel, rfl, by decide +kernel, by decide +kernel⟩
theorem ok_explode {f : Addr} {fd : FuncData} (F : Fun K "explode" "explode" s_explode f fd) (T : Txt mg) {c : Cl} (C : Exc K mg c) (h_worked : HasX P w K mg base "worked" 6 ["shop"] (sp_worked c Pt)) (h_ware_of : Has P w K mg base "ware_of" 1 ["shop", "name"] sp_ware_of) (h_lots_for : Has P w K mg base "lots_for" 1 ["amount", "gives"] sp_lots_for) : FnOk P w K mg base (CXE P w) 7 f fd ["shop"] (sp_explode c Pt) := by
  refine F.okX sc_explode (fun vs H Q E h => ?_) (fun cdv A outer s H vs Q E hr h => ?_)
  · obtain ⟨v, S, rfl, _⟩ := h
    rfl
  · obtain ⟨v, S, rfl, rs, kn, E6, tb, k, ke⟩ := h
    have hu := hu_of hr
    refine ⟨_, (pss_cons (ps_set (i := 1) sc_explode.nd rfl (Or.inl rfl) (pe_callX h_worked passE (hr.mono (by decide)) rfl (pa_e (pv 0) pa_nil)))
 (pss_cons (ps_set (i := 2) sc_explode.nd rfl (Or.inl rfl) pe_dnewK)
 (pss_cons (ps_for PassesOwn.leaving rfl (pi_lst (pv 1)) (pg_name (i := 3) sc_explode.nd rfl (Or.inl rfl))
 (pss_one (ps_asg pe_int (pg_sub (pv 2) (pv 3) (set_dict hu)))))
 (pss_cons (ps_for PassesOwn.leaving rfl (pi_tpl (pe_item hu (pv 0) pe_int (fun _ _ => rfl))) (pg_name (i := 4) sc_explode.nd rfl (Or.inl rfl))
 (pss_one (ps_augS (pv 2) (pe_item hu (pv 4) (pe_globI rfl T.g_WANT_NAME) (fun _ _ => rfl)) (get_dct hu) (pe_item hu (pv 4) (pe_globI rfl T.g_WANT_AMOUNT) (fun _ _ => rfl)) ip_addI (set_dict hu))))
 (pss_cons (ps_set (i := 5) sc_explode.nd rfl (Or.inl rfl) pe_dnewK)
 (pss_cons (ps_for PassesOwn.leaving rfl (pi_lst (pv 1)) (pg_name (i := 3) sc_explode.nd rfl (Or.inl rfl))
 (pss_cons (ps_set (i := 6) sc_explode.nd rfl (Or.inl rfl) (pe_callS h_ware_of (hr.mono (by decide)) rfl (pa_e (pv 0) (pa_e (pv 3) pa_nil))))
 (pss_cons (ps_asg (pe_callS h_lots_for (hr.mono (by decide)) rfl (pa_e (pe_item hu (pv 2) (pv 3) (fun _ _ => rfl)) (pa_e (pe_item hu (pv 6) (pe_globI rfl T.g_GIVES) (fun _ _ => rfl)) pa_nil))) (pg_sub (pv 5) (pv 3) (set_dict hu)))
 (pss_one (ps_for PassesOwn.leaving rfl (pi_tpl (pe_item hu (pv 6) (pe_globI rfl T.g_PARTS) (fun _ _ => rfl))) (pg_tup (n := 2) rfl (pgs_cons (pg_name (i := 7) sc_explode.nd rfl (Or.inl rfl)) (pgs_cons (pg_name (i := 8) sc_explode.nd rfl (Or.inl rfl)) pgs_nil)))
 (pss_one (ps_augS (pv 2) (pv 7) (get_dct hu) (pe_op op_mulB (pe_item hu (pv 5) (pv 3) (fun _ _ => rfl)) (pv 8)) ip_addI (set_dict hu))))))))
 (pss_one (ps_ret (pv 5))))))))), ?_⟩
    have hfew := kn.few
    walk_at "rd"
    refine ⟨v, S, rfl, rs, kn, tb, fun no q ys H1 hq hq1 so _ tb1 bt1 => ?_, ke⟩
    have L := kn.lev no
    have k := k no
    intro p hp
    have u2 := same_upd (o := .dK []) hp
    have qp : q ≠ p := ne_of_none hq1 hp
    have hyl : ys.length = S.wares.length := by rw [so.1.length_eq, namesS_len]
    have ndy : ys.Nodup := so.1.nodup_iff.mpr L.nd
    have so' : SortK (lv S) (S.wares.map (·.name)) ys := so
    have rs1 := RD.ku (tb_ku tb bt1) _ _ (nl_shop S) rs
    obtain ⟨sa, sb, sc, ws, us, rfl, ha, hb, hc, rws, rus⟩ := shop_at rs1
    have hlu := rds_len rus
    have room : ∀ (n : Nat), n ≤ 64 → n < sizeLine := fun n h => Nat.lt_of_le_of_lt (m := 64) h (by decide)
    refine ⟨q, rfl, _, u2 _ _ hq1, ?_⟩
    refine for_w (goesL q _) (NilInv (.ref sa) q p ys H1) ⟨_, _, _, _, _, _, rfl, upd_same, u2⟩ (fun i σ H' _ h => let ⟨_, _, _, _, _, _, _, _, s⟩ := h; s _ _ hq1) (fun i x σ H3 hi hx h => ?_) (fun σ H3 h => ?_)
    · obtain ⟨o3, o4, o5, o6, o7, o8, rfl, hp3, s3⟩ := h
      rw [List.getElem?_map] at hx
      cases en : ys[i]? with
      | none => rw [en] at hx; cases hx
      | some nm =>
      rw [en] at hx
      have hx : V.str nm = x := Option.some.inj hx
      subst hx
      walk_at "rd"
      refine ⟨_, .inr nm, rfl, hp3, room _ (by rw [fnD_len, List.length_take]; omega), _, _, _, _, _, _, rfl, ?_, fun b' o' hb' => by rw [upd_ne (ne_of_none hb' hp)]; exact s3 b' o' hb'⟩
      rw [upd_same, fnD_new (take_nin' ndy en), List.take_add_one, en]
      exact congrArg (fun z => some (HO.dK z)) (fnD_congr fun x _ => by split <;> rfl)
    · obtain ⟨o3, o4, o5, o6, o7, o8, rfl, hp3, s3⟩ := h
      rw [List.length_map, List.take_length] at hp3
      walk_at "rd"
      refine ⟨_, item_t (j := 1) (s3 _ _ ha) rfl, sc, rfl, us, s3 _ _ hc, ?_⟩
      refine for_w (goesT sc _) (WantInv (.ref sa) q p ys S.wants H1) ⟨_, _, _, _, _, _, rfl, hp3, s3⟩ (fun i σ H' _ h => let ⟨_, _, _, _, _, _, _, _, s⟩ := h; s _ _ hc) (fun i x σ H4 hi hx h => ?_) (fun σ H4 h => ?_)
      · obtain ⟨o3, o4, o5, o6, o7, o8, rfl, hp4, s4⟩ := h
        obtain ⟨u, hu2, ru⟩ := rds_map rus hx
        obtain ⟨ue, rfl, hue⟩ := want_at ru
        have hum := List.mem_of_getElem? hu2
        have hun : u.1 ∈ ys := so.1.mem_iff.mpr (E6.wt.2 u hum).1
        walk_at "rd"
        have hue4 := s4 _ _ hue
        refine ⟨_, item_t (j := 0) hue4 rfl, _, u.1, rfl, hp4, _, fnD_val hun, _, item_t (j := 2) hue4 rfl, _, rfl, _, rfl, _, .inr u.1, rfl, hp4, room _ (by rw [fnD_len]; omega), _, _, _, _, _, _, rfl, ?_, fun b' o' hb' => by rw [upd_ne (ne_of_none hb' hp)]; exact s4 b' o' hb'⟩
        rw [upd_same, fnD_put hun]
        refine congrArg (fun z => some (HO.dK z)) (fnD_congr fun x _ => ?_)
        unfold wantsOf
        rw [sumI_take hu2]
        by_cases e : x = u.1
        · rw [if_pos e, if_pos e.symm, e]
        · rw [if_neg e, if_neg (Ne.symm e), Int.add_zero]
      · obtain ⟨o3, o4, o5, o6, o7, o8, rfl, hp4, s4⟩ := h
        rw [hlu, List.take_length] at hp4
        walk_at "rd"
        intro d hd
        have u5 := same_upd (o := .dK []) hd
        have pd : p ≠ d := ne_of_none hp4 hd
        have hd1 : H1 d = none := Same.free s4 hd
        refine ⟨_, u5 _ _ (s4 _ _ hq1), ?_⟩
        refine for_w (goesL q _) (ToldInv (.ref sa) q p d S ys H1) ⟨_, _, _, _, _, rfl, ?_, upd_same, s4.trans u5⟩ (fun i σ H' _ h => let ⟨_, _, _, _, _, _, _, _, s⟩ := h; s _ _ hq1) (fun i x σ H6 hi hx h => ?_) (fun σ H6 h => ?_)
        · rw [u5 _ _ hp4]
          exact congrArg (fun z => some (HO.dK z)) (fnD_congr fun x _ => (Int.add_zero _).symm)
        · obtain ⟨o3, o4, o6, o7, o8, rfl, hp6, hd6, s6⟩ := h
          rw [List.getElem?_map] at hx
          cases en : ys[i]? with
          | none => rw [en] at hx; cases hx
          | some nm =>
          rw [en] at hx
          have hx : V.str nm = x := Option.some.inj hx
          subst hx
          have hny := List.mem_of_getElem? en
          have hnm : nm ∈ S.wares.map (·.name) := so.1.mem_iff.mp hny
          walk_at "rd"
          refine ⟨.ref sa, S, nm, rfl, RD.same s6 _ _ rs1, L.ok, hnm, fun t wt hwt ewt rt => ?_⟩
          subst ewt
          obtain ⟨te, d1, d2, rfl, hte, rc, rp⟩ := ware_at rt
          obtain ⟨pb, pv, rfl, hpb, rpv⟩ := RD.tup_of rp
          have hlp := rds_len rpv
          have hg := E6.gv wt hwt
          have ee : lotsOf (wantsOf S.wants wt.name + sumN S (ex S) (ys.take i) wt.name) wt.gives = ex S wt.name := by
            rw [takers_ahead L.toLev so' hwt en, ex_eq L.toLev hwt]
            rfl
          refine ⟨_, item_d (.inl hp6) (fnD_val hny), _, item_t (j := 2) hte rfl, _, _, rfl, by omega, Int.lt_of_le_of_lt hg.2 (by decide +kernel), ?_⟩
          rw [ee]
          refine ⟨_, .inr wt.name, rfl, hd6, room _ (by rw [fnD_len, List.length_take]; omega), ?_⟩
          have nd6 : ∀ b xs, H6 b = some (.tup xs) → b ≠ d := fun b xs e => ne_of e hd6 (fun z => by cases z)
          have hte7 : upd H6 d (.dK (putK (fnD (ys.take i) (ex S)) (.inr wt.name) (.int (ex S wt.name)))) te = _ := (upd_ne (nd6 _ _ hte)).trans hte
          have hpb7 : upd H6 d (.dK (putK (fnD (ys.take i) (ex S)) (.inr wt.name) (.int (ex S wt.name)))) pb = _ := (upd_ne (nd6 _ _ hpb)).trans hpb
          have hp7 : upd H6 d (.dK (putK (fnD (ys.take i) (ex S)) (.inr wt.name) (.int (ex S wt.name)))) p = _ := (upd_ne pd).trans hp6
          have hd7 : upd H6 d (.dK (putK (fnD (ys.take i) (ex S)) (.inr wt.name) (.int (ex S wt.name)))) d = some (.dK (fnD (ys.take (i + 1)) (ex S))) := by
            rw [upd_same, fnD_new (take_nin' ndy en), List.take_add_one, en]
            exact congrArg (fun z => some (HO.dK z)) (fnD_congr fun x _ => by split <;> rename_i e <;> first | rw [e] | rfl)
          have s7 : Same H1 (upd H6 d (.dK (putK (fnD (ys.take i) (ex S)) (.inr wt.name) (.int (ex S wt.name))))) := fun b' o' hb' => by rw [upd_ne (ne_of_none hb' hd1)]; exact s6 b' o' hb'
          have rpv7 : RDs (upd H6 d (.dK (putK (fnD (ys.take i) (ex S)) (.inr wt.name) (.int (ex S wt.name))))) (wt.parts.map partD) pv := RDs.ku (ku_set hd6 (fun _ z => by cases z)) _ _ (nl_map partD nl_part _) rpv
          generalize upd H6 d (.dK (putK (fnD (ys.take i) (ex S)) (.inr wt.name) (.int (ex S wt.name)))) = H7 at hte7 hpb7 hp7 hd7 s7 rpv7
          refine ⟨_, item_t (j := 6) hte7 rfl, pb, rfl, pv, hpb7, ?_⟩
          refine for_w (goesT pb _) (fun j σ H' => TakeInv (.ref sa) q p d wt.name (.ref te) wt S ys i H1 j σ H' ∧ KeepU H7 H') ⟨⟨_, _, _, rfl, ?_, hd7, s7⟩, KeepU.refl _⟩ (fun j σ H' _ h => h.2 _ _ hpb7) (fun j y σ H8 hj hy h => ?_) (fun σ H8 h => ?_)
          · rw [hp7]
            exact congrArg (fun z => some (HO.dK z)) (fnD_congr fun x _ => (Int.add_zero _).symm)
          · obtain ⟨⟨o4, o7, o8, rfl, hp8, hd8, s8⟩, k8⟩ := h
            obtain ⟨pp, hpp, rpp⟩ := rds_map rpv7 hy
            have hppm := List.mem_of_getElem? hpp
            obtain ⟨pe, rfl, hpe⟩ := part_at rpp
            have hpy : pp.1 ∈ ys := so.1.mem_iff.mpr (L.own wt hwt pp hppm)
            have hny8 : wt.name ∈ ys.take (i + 1) := by rw [List.take_add_one, en]; exact List.mem_append_right _ (List.mem_singleton.mpr rfl)
            refine gt2 (k8 _ _ hpe) ?_
            walk_at "rd"
            have am := (E6.pt wt hwt).2 pp hppm
            have n0 := ex_nn S wt.name
            have n1 := ex_lt E6 wt.name
            refine ⟨_, hp8, _, fnD_val hpy, _, item_d (.inl hd8) (fnD_val hny8), _, rfl, .inr ⟨abs_lt3000 n0 (Int.lt_trans n1 (by decide +kernel)), abs_lt3000 (by omega) (Int.lt_of_le_of_lt am.2 (by decide +kernel))⟩, _, rfl, _, .inr pp.1, rfl, hp8, room _ (by rw [fnD_len]; omega), ⟨_, _, _, rfl, ?_, by rw [upd_ne (Ne.symm pd)]; exact hd8, fun b' o' hb' => by rw [upd_ne (ne_of_none hb' hp)]; exact s8 b' o' hb'⟩, k8.trans (ku_set hp8 (fun _ z => by cases z))⟩
            rw [upd_same, fnD_put hpy]
            refine congrArg (fun z => some (HO.dK z)) (fnD_congr fun x _ => ?_)
            rw [sumI_take hpp]
            by_cases e : x = pp.1
            · rw [if_pos e, if_pos e.symm, e, Int.add_assoc]
            · rw [if_neg e, if_neg (Ne.symm e), Int.add_zero]
          · obtain ⟨⟨o4, o7, o8, rfl, hp8, hd8, s8⟩, k8⟩ := h
            rw [hlp, List.take_length] at hp8
            refine ⟨_, _, _, _, _, rfl, ?_, hd8, s8⟩
            rw [hp8]
            refine congrArg (fun z => some (HO.dK z)) (fnD_congr fun x _ => ?_)
            unfold sumN
            rw [sumI_take en, tkN_eq L.nd hwt, Int.add_assoc]
            rfl
        · obtain ⟨o3, o4, o6, o7, o8, rfl, hp6, hd6, s6⟩ := h
          rw [List.length_map, List.take_length] at hd6
          walk_at "rd"
          have dP : d ≠ Pt := fun z => by obtain ⟨e, he⟩ := tb1.at; rw [← z, hd1] at he; cases he
          have pP : p ≠ Pt := fun z => by obtain ⟨e, he⟩ := tb1.at; rw [← z, hp] at he; cases he
          have hdH : H d = none := by
            cases e : H d with
            | none => rfl
            | some o => rw [bt1 d o dP e] at hd1; cases hd1
          exact k d ys H6 hdH hd6 so.1 (tb1.same s6) (fun b o nb e => s6 _ _ (bt1 b o nb e))
end
set_option maxRecDepth 100000
set_option maxHeartbeats 4000000
section
variable {P : Program} {w : World} {K : PySem.W.Frag} {mg : Str → Option Value} {base : Heap} {Pt : Addr}
def letters : List Nat := ("abcdefghijklmnopqrstuvwxyz" : Str).cps.toList
def isNameS (x : Str) : Bool := decide (1 ≤ x.length) && decide (x.length ≤ 8) && x.cps.toList.all fun c => decide (c ∈ letters)
theorem but_kuS {H H' : Hp} {st : Addr} (s : But st H H') (h : StOk H st) : KeepU H H' := fun a xs e => s a _ (h.neT e) e
theorem ku_lst {H : Hp} {l : Addr} {xs ys : List V} (h : H l = some (.lst xs)) : KeepU H (upd H l (.lst ys)) := ku_set h (fun _ z => by cases z)
structure WOk (w : Wr) : Prop where
  lag : 0 ≤ w.lag ∧ w.lag ≤ 30
  gives : 1 ≤ w.gives
  gmax : w.gives ≤ 10 ^ 41
  floor : 0 ≤ w.floor
  stock : 0 ≤ w.stock
  clen : w.coming.length ≤ 12
  com : ∀ p ∈ w.coming, (0 ≤ p.1 ∧ p.1 ≤ 400) ∧ 0 ≤ p.2
  amt : ∀ p ∈ w.parts, 1 ≤ p.2 ∧ p.2 ≤ 10 ^ 41
def sp_law_next : Sp := fun vs H Q _ => ∃ st m, vs = [.ref st, .int m] ∧ StOk H st ∧ 0 < m ∧ m < 10 ^ 200 ∧ ∀ d H', 0 ≤ d → d < m → StOk H' st → But st H H' → Q (.int d) H'
theorem sc_law_next : FnScope ["_law_state", "_law_many", "_law_digit"] ["_law_state", "_law_many"] (defScope s_law_next) := ⟨rfl, rfl, rfl, by decide +kernel, rfl, by decide +kernel, by decide +kernel⟩
theorem ok_law_next {f : Addr} {fd : FuncData} (F : Fun K "_law_next" "_law_next" s_law_next f fd) (T : Txt mg) {c : Cl} (C : Exc K mg c) : FnOk P w K mg base CX0 1 f fd ["_law_state", "_law_many"] sp_law_next := by
  refine F.ok sc_law_next (fun vs H Q E h => ?_) (fun cdv A outer s H vs Q E hr h => ?_)
  · obtain ⟨st, m, rfl, _⟩ := h
    rfl
  · obtain ⟨st, m, rfl, ⟨ns, hne, hs⟩, h0, hm, k⟩ := h
    have hu := hu_of hr
    refine ⟨_, (pss_cons (ps_if (pt_cmpR op_gt (pe_callBS call_len_q rfl T.n_len bt_len (pa_e (pv 0) pa_nil)) pe_int (nomark _)) (pss_cons (ps_set (i := 2) sc_law_next.nd rfl (Or.inl rfl) (pe_op op_mod (pe_item hu (pv 0) pe_int (fun _ _ => rfl)) (pv 1)))
 (pss_cons (ps_asg (pe_op op_fdivL (pe_item hu (pv 0) pe_int (fun _ _ => rfl)) (pv 1)) (pg_sub (pv 0) pe_int set_list))
 (pss_cons (ps_if (pt_cmpR (op_inA hu) (pe_item hu (pv 0) pe_int (fun _ _ => rfl)) (pe_tup (pa_e pe_int (pa_e (pe_un un_neg pe_int) pa_nil))) rfl) (pss_one (ps_expr (pe_bs PySem.F.plainAttrs_list PySem.F.slot_list_pop PySem.F.type_list_pop mt_popAt (pv 0) (pa_e pe_int pa_nil)))) pss_nil)
 (pss_one (ps_ret (pv 2)))))) pss_nil)
 (pss_cons (ps_asg (pe_op op_mod (pe_op op_add (pe_op op_mul (pe_item hu (pv 0) pe_int (fun _ _ => rfl)) pe_int) pe_int) (pe_op op_sub (pe_op op_pow pe_int pe_int) pe_int)) (pg_sub (pv 0) pe_int set_list))
 (pss_one (ps_ret (pe_op op_mod (pe_op op_fdivL (pe_item hu (pv 0) pe_int (fun _ _ => rfl)) pe_int) (pv 1)))))), ?_⟩
    walk_at "rd"
    cases ns with
    | nil => exact absurd rfl hne
    | cons n0 rest =>
    have hit : ∀ (H' : Hp) (n : Int) (r : List Int), H' st = some (.lst (V.int n :: r.map V.int)) → Item H' (.ref st) (.int 0) (.int n) := fun H' n r e => item_l (j := 0) e rfl
    have h0i := hit H n0 rest hs
    refine ⟨_, .inl hs, ?_⟩
    refine ite2 (fun hl => ?_) (fun hl => ?_)
    · refine ⟨_, h0i, _, rfl, h0, _, h0i, _, rfl, h0, hm, _, hs, 0, by simp [ixN], ?_⟩
      have e1 : upd H st (.lst ((List.map V.int (n0 :: rest)).set 0 (V.int (n0 / m)))) st = some (.lst (V.int (n0 / m) :: rest.map V.int)) := by rw [upd_same]; rfl
      refine ⟨_, hit _ _ _ e1, by decide, fun p hp => ?_⟩
      have npst : st ≠ p := ne_of_none e1 hp
      refine ⟨_, .inl ⟨p, _, rfl, .inr upd_same, rfl, rfl, rfl⟩, ?_⟩
      have d0 : 0 ≤ n0 % m := Int.emod_nonneg _ (by omega)
      have d1 : n0 % m < m := Int.emod_lt_of_pos _ h0
      have e2 : ∀ o, upd (upd H st (.lst ((List.map V.int (n0 :: rest)).set 0 (V.int (n0 / m))))) p o st = some (.lst (V.int (n0 / m) :: rest.map V.int)) := fun o => by rw [upd_ne npst]; exact e1
      have hrest : rest ≠ [] := fun e => by
        have hl := of_decide_eq_true hl
        rw [e] at hl
        simp at hl
      have bt : But st H (upd (upd H st (.lst ((List.map V.int (n0 :: rest)).set 0 (V.int (n0 / m))))) p (.tup [V.int 0, V.int (-1)])) := but_set.trans (but_upd hp)
      refine ite2 (fun hb => ?_) (fun hb => ?_)
      · refine ⟨by unfold tyOf; simp only [e2], _, e2 _, by decide, by decide, 0, by simp [seqIndex?], _, rfl, ?_⟩
        exact k _ _ d0 d1 ⟨rest, hrest, by rw [upd_same]; rfl⟩ (bt.trans but_set)
      · exact k _ _ d0 d1 ⟨(n0 / m) :: rest, by simp, e2 _⟩ bt
    · have e1 : ∀ z : Int, upd H st (.lst ((List.map V.int (n0 :: rest)).set 0 (V.int z))) st = some (.lst (V.int z :: rest.map V.int)) := fun z => by rw [upd_same]; rfl
      refine ⟨_, h0i, _, rfl, .inr ⟨by decide, by decide⟩, ⟨by decide, by decide, by decide⟩, by decide, _, hs, 0, by simp [ixN], _, hit _ _ _ (e1 _), _, rfl, by decide, by decide +kernel, h0, ?_⟩
      exact k _ _ (Int.emod_nonneg _ (by omega)) (Int.emod_lt_of_pos _ h0) ⟨_ :: rest, by simp, e1 _⟩ but_set
def sp_law_drawn (K : PySem.W.Frag) : Sp := fun vs H Q _ => ∃ (a : Addr) (ns : List Int), vs = [.ref a] ∧ SqL K H a (ns.map V.int) ∧ ns.length ≤ 63 ∧ ∀ st H', StOk H' st → Same H H' → Q (.ref st) H'
def sp_law_amount : Sp := fun vs H Q _ => ∃ st, vs = [.ref st] ∧ StOk H st ∧ ∀ n H', 0 ≤ n → n < 10 ^ 41 → StOk H' st → But st H H' → Q (.int n) H'
theorem sc_law_amount : FnScope ["_law_state", "_law_number", "_law_k"] ["_law_state"] (defScope s_law_amount) := ⟨rfl, rfl, rfl, by decide +kernel, rfl, by decide +kernel, by decide +kernel⟩
theorem ok_law_amount {f : Addr} {fd : FuncData} (F : Fun K "_law_amount" "_law_amount" s_law_amount f fd) (T : Txt mg) {c : Cl} (C : Exc K mg c) (h_law_next : Has P w K mg base "_law_next" 1 ["_law_state", "_law_many"] sp_law_next) : FnOk P w K mg base CX0 2 f fd ["_law_state"] sp_law_amount := by
  refine F.ok sc_law_amount (fun vs H Q E h => ?_) (fun cdv A outer s H vs Q E hr h => ?_)
  · obtain ⟨st, rfl, _⟩ := h
    rfl
  · obtain ⟨st, rfl, hs, k⟩ := h
    have hu := hu_of hr
    refine ⟨_, (pss_cons (ps_set (i := 1) sc_law_amount.nd rfl (Or.inl rfl) (pe_callS h_law_next (hr.mono (by decide)) rfl (pa_e (pv 0) (pa_e pe_int pa_nil))))
 (pss_cons (ps_if (pt_cmpR (op_eqA hu) (pe_callS h_law_next (hr.mono (by decide)) rfl (pa_e (pv 0) (pa_e pe_int pa_nil))) pe_int (nomark _)) (pss_one (ps_for PassesOwn.never rfl (pi_rangeS1 rfl T.n_range (pa_e pe_int pa_nil)) (pg_name (i := 2) sc_law_amount.nd rfl (Or.inl rfl))
 (pss_one (ps_set (i := 1) sc_law_amount.nd rfl (Or.inl rfl) (pe_op op_add (pe_op op_mul (pv 1) (pe_op op_pow pe_int pe_int)) (pe_callS h_law_next (hr.mono (by decide)) rfl (pa_e (pv 0) (pa_e (pe_op op_pow pe_int pe_int) pa_nil)))))))) pss_nil)
 (pss_one (ps_ret (pv 1))))), ?_⟩
    walk_at "rd"
    refine ⟨st, 10, rfl, hs, by decide, by decide +kernel, fun d H1 d0 d1 s1 b1 => ?_⟩
    walk_at "rd"
    refine ⟨st, 5, rfl, s1, by decide, by decide +kernel, fun d' H2 _ _ s2 b2 => ?_⟩
    walk_at "rd"
    have b2 := b1.trans b2
    refine ⟨rfl, ite2 (fun _ => ?_) (fun _ => k d H2 d0 (Int.lt_trans d1 (by decide +kernel)) s2 b2)⟩
    refine ⟨by decide, by decide, ?_⟩
    refine for_w (goesR 0 _) (fun i σ H' => ∃ (n : Int) (j : Option V), σ = [some (.ref st), some (.int n), j] ∧ 0 ≤ n ∧ n < 10 ^ (1 + 10 * i) ∧ StOk H' st ∧ But st H H') ⟨d, _, rfl, d0, d1, s2, b2⟩ (fun _ _ _ _ _ => trivial) (fun i x σ H' hi hx p => ?_) (fun σ H' p => ?_)
    · obtain ⟨n, j, rfl, n0, n1, s3, b3⟩ := p
      walk_at "rd"
      refine ⟨⟨by decide, by decide, by decide⟩, .inr ⟨by decide, by decide⟩, ⟨by decide, by decide, by decide⟩, ?_⟩
      refine ⟨st, _, rfl, s3, by decide, by decide +kernel, fun e H4 e0 e1 s4 b4 => ?_⟩
      walk_at "rd"
      have z : (0 : Int) ≤ n * 10 ^ Int.toNat 10 := Int.mul_nonneg n0 (by decide)
      have e1 : e < 10 ^ 10 := e1
      refine ⟨by omega, ?_, s4, b3.trans b4⟩
      have e2 : (10 : Int) ^ (1 + 10 * (i + 1)) = 10 ^ (1 + 10 * i) * 10 ^ 10 := by rw [← Int.pow_add]; rfl
      have e3 : (n + 1) * 10 ^ 10 ≤ 10 ^ (1 + 10 * i) * 10 ^ 10 := Int.mul_le_mul_of_nonneg_right n1 (by decide)
      have e4 : n * 10 ^ Int.toNat 10 = n * 10 ^ 10 := rfl
      rw [e2, e4]
      rw [Int.add_mul, Int.one_mul] at e3
      omega
    · obtain ⟨n, j, rfl, n0, n1, s3, b3⟩ := p
      walk_at "rd"
      exact k n H' n0 n1 s3 b3
theorem app_cps (x y : Str) : (x ++ y).cps = x.cps ++ y.cps := rfl
theorem app_len (x y : Str) : (x ++ y).length = x.length + y.length := by
  show (x.cps ++ y.cps).size = _
  rw [Array.size_append]
  rfl
def lets (x : Str) : Prop := ∀ c ∈ x.cps.toList, c ∈ letters
theorem lets_app {x : Str} {c : Nat} (h : lets x) (hc : c ∈ letters) : lets (x ++ ⟨#[c]⟩) := fun d hd => by
  rw [app_cps, Array.toList_append, List.mem_append] at hd
  rcases hd with hd | hd
  · exact h d hd
  · have e : d = c := by simpa using hd
    rw [e]
    exact hc
theorem lets_nil : lets "" := fun c hc => by
  have e : ("" : Str).cps.toList = [] := by decide +kernel
  rw [e] at hc
  cases hc
def nameAt (i : Nat) (x : Str) : Prop := isNameS x = true ∧ x.cps.toList.getLast? = some (97 + i)
def sp_law_names : Sp := fun vs H Q _ => ∃ st m, vs = [.ref st, .int m] ∧ StOk H st ∧ 0 ≤ m ∧ m ≤ 12 ∧
  ∀ (a : Addr) (xs : List Str) (H' : Hp), xs.length = m.toNat → (∀ (i : Nat) (x : Str), xs[i]? = some x → nameAt i x) → H' a = some (.lst (xs.map V.str)) → H a = none → StOk H' st → But st H H' → Q (.ref a) H'
theorem lt26 {d : Int} (h0 : 0 ≤ d) (h1 : d < 26) : ∃ c, ("abcdefghijklmnopqrstuvwxyz" : Str).cps.toList[d.toNat]? = some c ∧ c ∈ letters := by
  have hl : ("abcdefghijklmnopqrstuvwxyz" : Str).cps.toList.length = 26 := by decide +kernel
  have h : d.toNat < ("abcdefghijklmnopqrstuvwxyz" : Str).cps.toList.length := by rw [hl]; omega
  exact ⟨_, List.getElem?_eq_getElem h, List.getElem_mem h⟩
theorem lt12 : ∀ k : Nat, k < 12 → ("abcdefghijkl" : Str).cps.toList[k]? = some (97 + k) ∧ 97 + k ∈ letters := by decide +kernel
theorem sc_law_names : FnScope ["_law_state", "_law_many", "_law_names_here", "_law_long", "_law_k", "_law_name", "_law_j"] ["_law_state", "_law_many"] (defScope s_law_names) := ⟨rfl, rfl, rfl, by decide +kernel, rfl, by decide +kernel, by decide +kernel⟩
theorem ok_law_names {f : Addr} {fd : FuncData} (F : Fun K "_law_names" "_law_names" s_law_names f fd) (T : Txt mg) {c : Cl} (C : Exc K mg c) (h_law_next : Has P w K mg base "_law_next" 1 ["_law_state", "_law_many"] sp_law_next) : FnOk P w K mg base CX0 2 f fd ["_law_state", "_law_many"] sp_law_names := by
  refine F.ok sc_law_names (fun vs H Q E h => ?_) (fun cdv A outer s H vs Q E hr h => ?_)
  · obtain ⟨st, m, rfl, _⟩ := h
    rfl
  · obtain ⟨st, m, rfl, hs, m0, m1, k⟩ := h
    have hu := hu_of hr
    refine ⟨_, (pss_cons (ps_set (i := 2) sc_law_names.nd rfl (Or.inl rfl) (pe_lst pa_nil))
 (pss_cons (ps_set (i := 3) sc_law_names.nd rfl (Or.inl rfl) (pe_op op_add pe_int (pe_callS h_law_next (hr.mono (by decide)) rfl (pa_e (pv 0) (pa_e pe_int pa_nil)))))
 (pss_cons (ps_for PassesOwn.never rfl (pi_rangeS1 rfl T.n_range (pa_e (pv 1) pa_nil)) (pg_name (i := 4) sc_law_names.nd rfl (Or.inl rfl))
 (pss_cons (ps_set (i := 5) sc_law_names.nd rfl (Or.inl rfl) pe_str)
 (pss_cons (ps_for PassesOwn.never rfl (pi_rangeS1 rfl T.n_range (pa_e (pv 3) pa_nil)) (pg_name (i := 6) sc_law_names.nd rfl (Or.inl rfl))
 (pss_one (ps_aug (i := 5) sc_law_names.nd rfl (Or.inl rfl) (pe_item hu pe_str (pe_callS h_law_next (hr.mono (by decide)) rfl (pa_e (pv 0) (pa_e (pe_item hu (pe_lst (pa_e pe_int (pa_e pe_int pa_nil))) (pe_op op_mod (pv 6) pe_int) (fun _ _ => rfl)) pa_nil))) (fun _ _ => rfl)) ip_addS)))
 (pss_one (ps_expr (pe_bs PySem.F.plainAttrs_list PySem.F.slot_list_append PySem.F.type_list_append mt_append (pv 2) (pa_e (pe_op op_add_str (pv 5) (pe_item hu pe_str (pv 4) (fun _ _ => rfl))) pa_nil)))))))
 (pss_one (ps_ret (pv 2)))))), ?_⟩
    walk_at "rd"
    refine ⟨by decide, fun l hl => ⟨st, 7, rfl, hs.upd (hs.ne hl), by decide, by decide +kernel, fun d H1 d0 d1 s1 b1 => ?_⟩⟩
    have hl1 : H1 l = some (.lst []) := b1 l _ (Ne.symm (hs.ne hl)) upd_same
    have b1 : But st H H1 := (but_upd hl).trans b1
    have nst := hs.ne hl
    walk_at "rd"
    refine ⟨by omega, by omega, ?_⟩
    refine for_w (goesR 0 _) (fun i σ H' => ∃ (xs : List Str) (a b c : Option V), σ = [some (.ref st), some (.int m), some (.ref l), some (.int (1 + d)), a, b, c] ∧ xs.length = i ∧ (∀ (i : Nat) (x : Str), xs[i]? = some x → nameAt i x) ∧ H' l = some (.lst (xs.map V.str)) ∧ StOk H' st ∧ But st H H')
      ⟨[], _, _, _, rfl, rfl, fun i x e => by simp at e, hl1, s1, b1⟩ (fun _ _ _ _ _ => trivial) (fun i x σ H' hi hx p => ?_) (fun σ H' p => ?_)
    · obtain ⟨xs, a, b, c, rfl, hx1, hx2, hx3, s3, b3⟩ := p
      have hx : x = V.int (i : Int) := by rw [hx]; simp
      subst hx
      walk_at "rd"
      refine ⟨by omega, by omega, ?_⟩
      refine for_w (goesR 0 _) (fun j σ H' => ∃ (z : Str) (c : Option V), σ = [some (.ref st), some (.int m), some (.ref l), some (.int (1 + d)), some (.int (i : Int)), some (.str z), c] ∧ z.length = j ∧ lets z ∧ H' l = some (.lst (xs.map V.str)) ∧ StOk H' st ∧ But st H H')
        ⟨"", _, rfl, rfl, lets_nil, hx3, s3, b3⟩ (fun _ _ _ _ _ => trivial) (fun j y σ H4 hj hy p => ?_) (fun σ H4 p => ?_)
      · obtain ⟨z, c, rfl, hz1, hz2, hz3, s4, b4⟩ := p
        have hy : y = V.int (j : Int) := by rw [hy]; simp
        subst hy
        walk_at "rd"
        refine ⟨by decide, fun q hq => ⟨by decide, ?_⟩⟩
        have hjm : ((j : Int) % 2).toNat < 2 := by omega
        have hit : ∃ u : Int, ([V.int 26, V.int 2] : List V)[((j : Int) % 2).toNat]? = some (V.int u) ∧ 0 < u ∧ u ≤ 26 := by
          match ((j : Int) % 2).toNat, hjm with
          | 0, _ => exact ⟨26, rfl, by decide, by decide⟩
          | 1, _ => exact ⟨2, rfl, by decide, by decide⟩
        obtain ⟨u, eu, u0, u1⟩ := hit
        have nstq := s4.ne hq
        refine ⟨_, item_i (.inl upd_same) (by omega) eu, st, u, rfl, s4.upd nstq, u0, by omega, fun e H5 e0 e1 s5 b5 => ?_⟩
        walk_at "rd"
        obtain ⟨cc, ec, hcc⟩ := lt26 e0 (by omega)
        refine ⟨_, item_s (by decide +kernel) e0 ec, _, rfl, ?_⟩
        have hlen : (z ++ (⟨#[cc]⟩ : Str)).length = j + 1 := by rw [app_len, hz1]; rfl
        have hl5 : H5 l = some (.lst (xs.map V.str)) := b5 l _ (Ne.symm nst) (by rw [upd_ne (ne_of_none hz3 hq)]; exact hz3)
        refine ⟨by show z.length + 1 ≤ sizeLine; rw [hz1]; exact line1000 (by omega), ?_⟩
        exact ⟨hlen, lets_app hz2 hcc, hl5, s5, b4.trans ((but_upd hq).trans b5)⟩
      · obtain ⟨z, c, rfl, hz1, hz2, hz3, s4, b4⟩ := p
        walk_at "rd"
        obtain ⟨e1, e2⟩ := lt12 i (by omega)
        refine ⟨by unfold tyOf; simp only [hz3], _, item_s (by decide +kernel) (by omega) (by simpa using e1), _, rfl, ?_⟩
        refine ⟨by show z.length + 1 ≤ sizeLine; rw [hz1]; exact line1000 (by omega), _, hz3, by rw [List.length_map]; exact Nat.lt_of_lt_of_le (by omega) (line1000 (Nat.le_refl 1000)), ?_⟩
        refine ⟨xs ++ [z ++ ⟨#[97 + i]⟩], by simp [hx1], fun j y hy => ?_, by rw [upd_same]; simp, s4.upd nst, b4.upd hl⟩
        by_cases hj : j < xs.length
        · rw [List.getElem?_append_left hj] at hy
          exact hx2 j y hy
        · rw [List.getElem?_append_right (by omega)] at hy
          have hj0 : j - xs.length = 0 := by
            cases e : j - xs.length with
            | zero => rfl
            | succ n => rw [e] at hy; simp at hy
          rw [hj0] at hy
          have hy : z ++ ⟨#[97 + i]⟩ = y := by simpa using hy
          have hji : j = i := by omega
          subst hy
          refine ⟨?_, ?_⟩
          · have hl : (z ++ (⟨#[97 + i]⟩ : Str)).length = z.length + 1 := app_len _ _
            unfold isNameS
            rw [hl, decide_eq_true (by omega), decide_eq_true (by omega), Bool.true_and, Bool.true_and]
            refine List.all_eq_true.mpr fun c hc => decide_eq_true (lets_app hz2 e2 c hc)
          · rw [app_cps, Array.toList_append, hji]
            simp
    · obtain ⟨xs, a, b, c, rfl, hx1, hx2, hx3, s3, b3⟩ := p
      walk_at "rd"
      exact k l xs H' hx1 hx2 hx3 hl s3 b3
theorem item_two {H : Hp} {q : Addr} {a b : Int} {c : Bool} (h : H q = some (.lst [.int a, .int b])) : Item H (.ref q) (.int (if c = true then 1 else 0)) (.int (if c = true then b else a)) := by
  cases c with
  | true => exact item_l (j := 1) h rfl
  | false => exact item_l (j := 0) h rfl
def sp_law_coming : Sp := fun vs H Q _ => ∃ st m, vs = [.ref st, .int m] ∧ StOk H st ∧ 0 < m ∧ m ≤ 13 ∧
  ∀ (v : V) (cs : List (Int × Int)) (H' : Hp), RD H' (.tuple (cs.map arrD)) v → (cs.length : Int) < m → (∀ p ∈ cs, (0 ≤ p.1 ∧ p.1 ≤ 400) ∧ 0 ≤ p.2) → StOk H' st → But st H H' → Q v H'
def I_coming (st l : Addr) (m : Int) (H : Hp) (i : Nat) (σ : St) (H' : Hp) : Prop := ∃ (cs : List (Int × Int)) (vs : List V) (a b : Option V), σ = [some (.ref st), some (.int m), some (.ref l), a, b] ∧ cs.length = i ∧ (∀ p ∈ cs, (0 ≤ p.1 ∧ p.1 ≤ 400) ∧ 0 ≤ p.2) ∧ H' l = some (.lst vs) ∧ RDs H' (cs.map arrD) vs ∧ StOk H' st ∧ But st H H'
theorem sc_law_coming : FnScope ["_law_state", "_law_many", "_law_coming_here", "_law_k", "_law_day"] ["_law_state", "_law_many"] (defScope s_law_coming) := ⟨rfl, rfl, rfl, by decide +kernel, rfl, by decide +kernel, by decide +kernel⟩
theorem ok_law_coming {f : Addr} {fd : FuncData} (F : Fun K "_law_coming" "_law_coming" s_law_coming f fd) (T : Txt mg) {c : Cl} (C : Exc K mg c) (h_law_next : Has P w K mg base "_law_next" 1 ["_law_state", "_law_many"] sp_law_next) (h_law_amount : Has P w K mg base "_law_amount" 2 ["_law_state"] sp_law_amount) : FnOk P w K mg base CX0 3 f fd ["_law_state", "_law_many"] sp_law_coming := by
  refine F.ok sc_law_coming (fun vs H Q E h => ?_) (fun cdv A outer s H vs Q E hr h => ?_)
  · obtain ⟨st, m, rfl, _⟩ := h
    rfl
  · obtain ⟨st, m, rfl, hs, m0, m1, k⟩ := h
    have hu := hu_of hr
    refine ⟨_, (pss_cons (ps_set (i := 2) sc_law_coming.nd rfl (Or.inl rfl) (pe_lst pa_nil))
 (pss_cons (ps_for PassesOwn.never rfl (pi_rangeS1 rfl T.n_range (pa_e (pe_callS h_law_next (hr.mono (by decide)) rfl (pa_e (pv 0) (pa_e (pv 1) pa_nil))) pa_nil)) (pg_name (i := 3) sc_law_coming.nd rfl (Or.inl rfl))
 (pss_cons (ps_set (i := 4) sc_law_coming.nd rfl (Or.inl rfl) (pe_item hu (pe_lst (pa_e (pe_callS h_law_next (hr.mono (by decide)) rfl (pa_e (pv 0) (pa_e pe_int pa_nil))) (pa_e (pe_callS h_law_next (hr.mono (by decide)) rfl (pa_e (pv 0) (pa_e pe_int pa_nil))) pa_nil))) (pe_callTS call_int1 rfl T.n_int bt_int (pa_e (pe_cmpR (op_eqA hu) (pe_callS h_law_next (hr.mono (by decide)) rfl (pa_e (pv 0) (pa_e pe_int pa_nil))) pe_int (nomark _)) pa_nil)) (fun _ _ => rfl)))
 (pss_one (ps_expr (pe_bs PySem.F.plainAttrs_list PySem.F.slot_list_append PySem.F.type_list_append mt_append (pv 2) (pa_e (pe_tup (pa_e (pv 4) (pa_e (pe_callS h_law_amount (hr.mono (by decide)) rfl (pa_e (pv 0) pa_nil)) pa_nil))) pa_nil))))))
 (pss_one (ps_ret (pe_callTS call_tupleA rfl T.n_tuple bt_tuple (pa_e (pv 2) pa_nil)))))), ?_⟩
    walk_at "rd"
    refine ⟨by decide, fun l hl => ⟨st, m, rfl, hs.upd (hs.ne hl), m0, Int.lt_of_le_of_lt m1 (by decide +kernel), fun d H1 d0 d1 s1 b1 => ?_⟩⟩
    have nst := hs.ne hl
    have hl1 : H1 l = some (.lst []) := b1 l _ (Ne.symm nst) upd_same
    have b1 : But st H H1 := (but_upd hl).trans b1
    walk_at "rd"
    refine ⟨by omega, by omega, ?_⟩
    refine for_w (goesR 0 _) (I_coming st l m H)
      ⟨[], [], _, _, rfl, rfl, fun p hp => absurd hp (by simp), hl1, RDs.nil, s1, b1⟩ (fun _ _ _ _ _ => trivial) (fun i x σ H' hi hx p => ?_) (fun σ H' p => ?_)
    · obtain ⟨cs, vs, a, b, rfl, hc1, hc2, hl3, r3, s3, b3⟩ := p
      walk_at "rd"
      refine ⟨st, 9, rfl, s3, by decide, by decide +kernel, fun x1 H4 p0 p1 s4 b4 => ?_⟩
      walk_at "rd"
      refine ⟨st, 401, rfl, s4, by decide, by decide +kernel, fun x2 H5 q0 q1 s5 b5 => ?_⟩
      walk_at "rd"
      refine ⟨by decide, fun q hq => ⟨st, 6, rfl, s5.upd (s5.ne hq), by decide, by decide +kernel, fun x3 H6 t0 t1 s6 b6 => ?_⟩⟩
      have hq6 := b6 q _ (Ne.symm (s5.ne hq)) upd_same
      walk_at "rd"
      refine ⟨rfl, _, item_two hq6, ?_⟩
      have b46 : But st H' H6 := b4.trans (b5.trans ((but_upd hq).trans b6))
      have hl6 := b46 l _ (Ne.symm nst) hl3
      refine ⟨by unfold tyOf; simp only [hl6], st, rfl, s6, fun n H7 n0 _ s7 b7 => ?_⟩
      have b47 := b46.trans b7
      have hl7 := b47 l _ (Ne.symm nst) hl3
      walk_at "rd"
      refine ⟨by decide, fun t ht => ⟨_, by rw [upd_ne (ne_of_none hl7 ht)]; exact hl7, ?_⟩⟩
      have hlen := rds_len r3
      refine ⟨Nat.lt_of_lt_of_le (show vs.length < 1000 by omega) (line1000 (Nat.le_refl _)), ?_⟩
      have kk : KeepU H' (upd (upd H7 t (.tup [V.int (if decide (x3 = 0) = true then x2 else x1), V.int n])) l (.lst (vs ++ [V.ref t]))) :=
        ((but_kuS b47 s3).trans (ku_new ht)).trans (ku_lst (by rw [upd_ne (ne_of_none hl7 ht)]; exact hl7))
      refine ⟨cs ++ [(if decide (x3 = 0) = true then x2 else x1, n)], _, _, _, rfl, by simp [hc1], fun p hp => ?_, upd_same, ?_, (s7.upd (s7.ne ht)).upd nst, ((b3.trans b47).new ht).upd hl⟩
      · rcases List.mem_append.mp hp with z | z
        · exact hc2 p z
        · rw [List.mem_singleton.mp z]
          refine ⟨?_, n0⟩
          show 0 ≤ (if decide (x3 = 0) = true then x2 else x1) ∧ (if decide (x3 = 0) = true then x2 else x1) ≤ 400
          split <;> omega
      · rw [List.map_append]
        refine RDs.app (RDs.ku kk _ _ (nl_map arrD nl_arr _) r3) (RDs.one (RD.tup_mk (xs := [V.int _, V.int n]) ?_ (RDs.cons RD.int_mk (RDs.one RD.int_mk))))
        rw [upd_ne (Ne.symm (ne_of_none hl7 ht)), upd_same]
    · obtain ⟨cs, vs, a, b, rfl, hc1, hc2, hl3, r3, s3, b3⟩ := p
      walk_at "rd"
      refine ⟨vs, .inl ⟨hl3, fun q hq => ?_⟩⟩
      have hlen := rds_len r3
      refine k _ cs _ ?_ (by omega) hc2 (s3.upd (s3.ne hq)) (b3.new hq)
      exact RD.tup_mk upd_same (RDs.same (same_upd hq) _ _ r3)
def I_ware (st l : Addr) (ps : List Str) (top : Int) (nm : V) (pl : V) (a b c d : V) (H : Hp) (i : Nat) (σ : St) (H' : Hp) : Prop :=
  ∃ (qs : List (Str × Int)) (vs : List V) (z : Option V), σ = [some (.ref st), some nm, some pl, some (.int top), some a, some b, some c, some d, some (.ref l), z] ∧ (qs.map (·.1)).Sublist (ps.take i) ∧ (∀ p ∈ qs, 1 ≤ p.2 ∧ p.2 ≤ 10 ^ 41) ∧ ((qs.length : Int) ≤ top ∨ qs = []) ∧ H' l = some (.lst vs) ∧ RDs H' (qs.map partD) vs ∧ StOk H' st ∧ But st H H'
def sp_law_ware : Sp := fun vs H Q _ => ∃ (st : Addr) (x : Str) (l : Addr) (ps : List Str) (top : Int), vs = [.ref st, .str x, .ref l, .int top] ∧ StOk H st ∧ (H l = some (.lst (ps.map V.str)) ∨ H l = some (.tup (ps.map V.str))) ∧ l ≠ st ∧ x.length ≤ 1000 ∧ (∀ p ∈ ps, p.length ≤ 1000) ∧ ps.length ≤ 1000 ∧
  ∀ (v : V) (w : Wr) (H' : Hp), RD H' w.d v → WOk w → w.name = x → (w.parts.map (·.1)).Sublist ps → ((w.parts.length : Int) ≤ top ∨ w.parts = []) → w.coming.length ≤ 3 → StOk H' st → But st H H' → Q v H'
theorem sc_law_ware : FnScope ["_law_state", "_law_name", "_law_parts_here", "_law_top", "_law_lag", "_law_gives", "_law_floor", "_law_stock", "_law_some", "_law_part"] ["_law_state", "_law_name", "_law_parts_here", "_law_top"] (defScope s_law_ware) := ⟨rfl, rfl, rfl, by decide +kernel, rfl, by decide +kernel, by decide +kernel⟩
theorem ok_law_ware {f : Addr} {fd : FuncData} (F : Fun K "_law_ware" "_law_ware" s_law_ware f fd) (T : Txt mg) {c : Cl} (C : Exc K mg c) (h_law_next : Has P w K mg base "_law_next" 1 ["_law_state", "_law_many"] sp_law_next) (h_law_amount : Has P w K mg base "_law_amount" 2 ["_law_state"] sp_law_amount) (h_law_coming : Has P w K mg base "_law_coming" 3 ["_law_state", "_law_many"] sp_law_coming) : FnOk P w K mg base CX0 4 f fd ["_law_state", "_law_name", "_law_parts_here", "_law_top"] sp_law_ware := by
  refine F.ok sc_law_ware (fun vs H Q E h => ?_) (fun cdv A outer s H vs Q E hr h => ?_)
  · obtain ⟨st, x, l, ps, top, rfl, _⟩ := h
    rfl
  · obtain ⟨st, x, pl, ps, top, rfl, hs, hp, npl, hx, hps, hpl, k⟩ := h
    have hu := hu_of hr
    refine ⟨_, (pss_cons (ps_set (i := 4) sc_law_ware.nd rfl (Or.inl rfl) (pe_item hu (pe_lst (pa_e (pe_callS h_law_next (hr.mono (by decide)) rfl (pa_e (pv 0) (pa_e pe_int pa_nil))) (pa_e (pe_callS h_law_next (hr.mono (by decide)) rfl (pa_e (pv 0) (pa_e pe_int pa_nil))) pa_nil))) (pe_callTS call_int1 rfl T.n_int bt_int (pa_e (pe_cmpR (op_eqA hu) (pe_callS h_law_next (hr.mono (by decide)) rfl (pa_e (pv 0) (pa_e pe_int pa_nil))) pe_int (nomark _)) pa_nil)) (fun _ _ => rfl)))
 (pss_cons (ps_set (i := 5) sc_law_ware.nd rfl (Or.inl rfl) (pe_op op_add pe_int (pe_item hu (pe_lst (pa_e (pe_callS h_law_next (hr.mono (by decide)) rfl (pa_e (pv 0) (pa_e pe_int pa_nil))) (pa_e (pe_callS h_law_amount (hr.mono (by decide)) rfl (pa_e (pv 0) pa_nil)) pa_nil))) (pe_callTS call_int1 rfl T.n_int bt_int (pa_e (pe_cmpR (op_eqA hu) (pe_callS h_law_next (hr.mono (by decide)) rfl (pa_e (pv 0) (pa_e pe_int pa_nil))) pe_int (nomark _)) pa_nil)) (fun _ _ => rfl))))
 (pss_cons (ps_set (i := 6) sc_law_ware.nd rfl (Or.inl rfl) (pe_item hu (pe_lst (pa_e pe_int (pa_e (pe_callS h_law_amount (hr.mono (by decide)) rfl (pa_e (pv 0) pa_nil)) pa_nil))) (pe_callTS call_int1 rfl T.n_int bt_int (pa_e (pe_cmpR (op_eqA hu) (pe_callS h_law_next (hr.mono (by decide)) rfl (pa_e (pv 0) (pa_e pe_int pa_nil))) pe_int (nomark _)) pa_nil)) (fun _ _ => rfl)))
 (pss_cons (ps_set (i := 7) sc_law_ware.nd rfl (Or.inl rfl) (pe_callS h_law_amount (hr.mono (by decide)) rfl (pa_e (pv 0) pa_nil)))
 (pss_cons (ps_set (i := 8) sc_law_ware.nd rfl (Or.inl rfl) (pe_lst pa_nil))
 (pss_cons (ps_for PassesOwn.never rfl (pi_any (pv 2)) (pg_name (i := 9) sc_law_ware.nd rfl (Or.inl rfl))
 (pss_one (ps_if (PW.pt (pw_and (pt_cmpR (op_ltA hu) (pe_callBS call_len_q rfl T.n_len bt_len (pa_e (pv 8) pa_nil)) (pv 3) (nomark _)) (pw_and1 (pt_cmpR (op_eqA hu) (pe_callS h_law_next (hr.mono (by decide)) rfl (pa_e (pv 0) (pa_e pe_int pa_nil))) pe_int (nomark _))))) (pss_one (ps_expr (pe_bs PySem.F.plainAttrs_list PySem.F.slot_list_append PySem.F.type_list_append mt_append (pv 8) (pa_e (pe_tup (pa_e (pv 9) (pa_e (pe_op op_add pe_int (pe_callS h_law_amount (hr.mono (by decide)) rfl (pa_e (pv 0) pa_nil))) pa_nil))) pa_nil)))) pss_nil)))
 (pss_one (ps_ret (pe_tup (pa_e (pv 1) (pa_e (pv 4) (pa_e (pv 5) (pa_e (pv 6) (pa_e (pv 7) (pa_e (pe_callS h_law_coming (hr.mono (by decide)) rfl (pa_e (pv 0) (pa_e pe_int pa_nil))) (pa_e (pe_callTS call_tupleA rfl T.n_tuple bt_tuple (pa_e (pv 8) pa_nil)) pa_nil)))))))))))))))), ?_⟩
    walk_at "rd"
    refine ⟨st, 4, rfl, hs, by decide, by decide +kernel, fun x1 H1 p0 p1 s1 b1 => ?_⟩
    walk_at "rd"
    refine ⟨st, 31, rfl, s1, by decide, by decide +kernel, fun x2 H2 q0 q1 s2 b2 => ?_⟩
    walk_at "rd"
    refine ⟨by decide, fun q hq => ⟨st, 6, rfl, s2.upd (s2.ne hq), by decide, by decide +kernel, fun x3 H3 t0 t1 s3 b3 => ?_⟩⟩
    have hq3 := b3 q _ (Ne.symm (s2.ne hq)) upd_same
    have b03 : But st H H3 := b1.trans (b2.trans ((but_upd hq).trans b3))
    walk_at "rd"
    refine ⟨rfl, _, item_two hq3, ?_⟩
    have hlag : 0 ≤ (if decide (x3 = 0) = true then x2 else x1) ∧ (if decide (x3 = 0) = true then x2 else x1) ≤ 30 := by split <;> omega
    generalize (if decide (x3 = 0) = true then x2 else x1) = lag at hlag ⊢
    refine ⟨st, 5, rfl, s3, by decide, by decide +kernel, fun y1 H4 y10 y11 s4 b4 => ?_⟩
    walk_at "rd"
    refine ⟨st, rfl, s4, fun y2 H5 y20 y21 s5 b5 => ?_⟩
    walk_at "rd"
    refine ⟨by decide, fun q' hq' => ⟨st, 6, rfl, s5.upd (s5.ne hq'), by decide, by decide +kernel, fun y3 H6 _ _ s6 b6 => ?_⟩⟩
    have hq6 := b6 q' _ (Ne.symm (s5.ne hq')) upd_same
    have b06 : But st H H6 := b03.trans (b4.trans (b5.trans ((but_upd hq').trans b6)))
    walk_at "rd"
    refine ⟨rfl, _, item_two hq6, _, rfl, ?_⟩
    have hgiv : 1 ≤ 1 + (if decide (y3 = 0) = true then y2 else y1) := by split <;> omega
    have hgmx : 1 + (if decide (y3 = 0) = true then y2 else y1) ≤ 10 ^ 41 := by
      split
      · omega
      · exact Int.le_trans (show 1 + y1 ≤ 5 by omega) (by decide +kernel)
    generalize 1 + (if decide (y3 = 0) = true then y2 else y1) = gives at hgiv hgmx ⊢
    refine ⟨st, rfl, s6, fun z2 H7 z20 _ s7 b7 => ?_⟩
    walk_at "rd"
    refine ⟨by decide, fun q7 hq7 => ⟨st, 3, rfl, s7.upd (s7.ne hq7), by decide, by decide +kernel, fun z3 H8 _ _ s8 b8 => ?_⟩⟩
    have hq8 := b8 q7 _ (Ne.symm (s7.ne hq7)) upd_same
    have b08 : But st H H8 := b06.trans (b7.trans ((but_upd hq7).trans b8))
    walk_at "rd"
    refine ⟨rfl, _, item_two hq8, ?_⟩
    have hflo : 0 ≤ (if decide (z3 = 0) = true then z2 else 0) := by split <;> omega
    generalize (if decide (z3 = 0) = true then z2 else 0) = floor at hflo ⊢
    refine ⟨st, rfl, s8, fun stock H9 hsto _ s9 b9 => ?_⟩
    have b09 := b08.trans b9
    walk_at "rd"
    refine ⟨by decide, fun l hl => ?_⟩
    have nst := s9.ne hl
    have hl0 : H l = none := b09.none (Ne.symm nst) hl
    have start : I_ware st l ps top (.str x) (.ref pl) (.int lag) (.int gives) (.int floor) (.int stock) H 0 [some (V.ref st), some (V.str x), some (V.ref pl), some (V.int top), some (V.int lag), some (V.int gives), some (V.int floor), some (V.int stock), some (V.ref l), none] (upd H9 l (HO.lst [])) :=
      ⟨[], [], _, rfl, by simp, fun p hp => absurd hp (by simp), .inr rfl, upd_same, RDs.nil, s9.upd nst, b09.new hl⟩
    have npll : pl ≠ l := by
      rcases hp with hp | hp
      · exact ne_of_none hp hl0
      · exact ne_of_none hp hl0
    rcases hp with hp | hp
    refine .inl ⟨_, by rw [upd_ne npll]; exact b09 pl _ npl hp, for_w (goesL pl _) (I_ware st l ps top (.str x) (.ref pl) (.int lag) (.int gives) (.int floor) (.int stock) H) start ?o1 ?t1 ?d1⟩
    rotate_left 3
    refine .inr ⟨_, by rw [upd_ne npll]; exact b09 pl _ npl hp, for_w (goesT pl _) (I_ware st l ps top (.str x) (.ref pl) (.int lag) (.int gives) (.int floor) (.int stock) H) start ?o2 ?t2 ?d2⟩
    case o1 | o2 =>
      intro i σ H' _ p
      obtain ⟨_, _, _, _, _, _, _, _, _, _, b⟩ := p
      exact b pl _ npl hp
    case t1 | t2 =>
      intro i y σ H' hi hy p
      obtain ⟨qs, vs, z, rfl, hq1, hq2, hq3, hl3, r3, s3', b3'⟩ := p
      rw [List.getElem?_map] at hy
      cases ep : ps[i]? with
      | none => rw [ep] at hy; cases hy
      | some pn =>
      rw [ep] at hy
      have hy : V.str pn = y := Option.some.inj hy
      subst hy
      have hlen := rds_len r3
      have hqlen : qs.length ≤ 1000 := by
        have h1 := hq1.length_le
        rw [List.length_map, List.length_take] at h1
        omega
      have go : ∀ (c : Option V) (H4 : Hp), StOk H4 st → But st H' H4 → I_ware st l ps top (.str x) (.ref pl) (.int lag) (.int gives) (.int floor) (.int stock) H (i + 1) [some (V.ref st), some (V.str x), some (V.ref pl), some (V.int top), some (V.int lag), some (V.int gives), some (V.int floor), some (V.int stock), some (V.ref l), c] H4 := fun c H4 s4 b4 =>
        ⟨qs, vs, c, rfl, hq1.trans (by rw [List.take_add_one]; exact List.sublist_append_left _ _), hq2, hq3, b4 l _ (Ne.symm nst) hl3, RDs.ku (but_kuS b4 s3') _ _ (nl_map partD nl_part _) r3, s4, b3'.trans b4⟩
      walk_at "rd"
      refine ⟨vs, .inl hl3, ite2 (fun hb => ?_) (fun hb => go _ _ s3' (But.refl _ _))⟩
      refine ⟨st, 3, rfl, s3', by decide, by decide +kernel, fun u H4 _ _ s4 b4 => ?_⟩
      walk_at "rd"
      refine ⟨rfl, ite2 (fun hc => ?_) (fun hc => go _ _ s4 b4)⟩
      have hl4 := b4 l _ (Ne.symm nst) hl3
      refine ⟨by unfold tyOf; simp only [hl4], st, rfl, s4, fun n H5 n0 n1 s5 b5 => ?_⟩
      have b45 := b4.trans b5
      have hl5 := b45 l _ (Ne.symm nst) hl3
      walk_at "rd"
      refine ⟨by decide, fun t ht => ⟨_, by rw [upd_ne (ne_of_none hl5 ht)]; exact hl5, ?_⟩⟩
      refine ⟨Nat.lt_of_lt_of_le (show vs.length < 1001 by omega) (by decide), ?_⟩
      have kk : KeepU H' (upd (upd H5 t (.tup [V.str pn, V.int (1 + n)])) l (.lst (vs ++ [V.ref t]))) :=
        ((but_kuS b45 s3').trans (ku_new ht)).trans (ku_lst (by rw [upd_ne (ne_of_none hl5 ht)]; exact hl5))
      refine ⟨qs ++ [(pn, 1 + n)], _, _, rfl, ?_, fun p hp => ?_, .inl ?_, upd_same, ?_, (s5.upd (s5.ne ht)).upd nst, ((b3'.trans b45).new ht).upd hl0⟩
      · rw [List.map_append, List.take_add_one, ep]
        exact hq1.append (List.Sublist.refl _)
      · rcases List.mem_append.mp hp with z | z
        · exact hq2 p z
        · rw [List.mem_singleton.mp z]
          show 1 ≤ 1 + n ∧ 1 + n ≤ 10 ^ 41
          omega
      · have hb := of_decide_eq_true hb
        rw [List.length_append, List.length_singleton]
        push_cast
        omega
      · rw [List.map_append]
        refine RDs.app (RDs.ku kk _ _ (nl_map partD nl_part _) r3) (RDs.one (RD.tup_mk (xs := [V.str pn, V.int _]) ?_ (RDs.cons RD.str_mk (RDs.one RD.int_mk))))
        rw [upd_ne (Ne.symm (ne_of_none hl5 ht)), upd_same]
    case d1 | d2 =>
      intro σ H' p
      obtain ⟨qs, vs, z, rfl, hq1, hq2, hq3, hl3, r3, s3', b3'⟩ := p
      walk_at "rd"
      refine ⟨st, 4, rfl, s3', by decide, by decide, fun cv cs H4 rc hcl hcs s4 b4 => ?_⟩
      have hl4 := b4 l _ (Ne.symm nst) hl3
      have r4 := RDs.ku (but_kuS b4 s3') _ _ (nl_map partD nl_part _) r3
      have hlen := rds_len r4
      have hqlen : qs.length ≤ 1000 := by
        have h1 := hq1.length_le
        rw [List.length_map, List.length_take] at h1
        omega
      walk_at "rd"
      refine ⟨vs, .inl ⟨hl4, fun t ht => ⟨by decide, fun u hu' => ?_⟩⟩⟩
      refine k _ ⟨x, lag, gives, floor, stock, cs, qs⟩ _ ?_ ⟨hlag, hgiv, hgmx, hflo, hsto, by show cs.length ≤ 12; omega, hcs, hq2⟩ rfl (by rw [List.length_map, List.take_length] at hq1; exact hq1) hq3 (by show cs.length ≤ 3; omega) ((s4.upd (s4.ne ht)).upd ((s4.upd (s4.ne ht)).ne hu')) (((b3'.trans b4).new ht).new hu')
      have ss : Same H4 (upd (upd H4 t (.tup vs)) u (.tup [V.str x, V.int lag, V.int gives, V.int floor, V.int stock, cv, V.ref t])) := (same_upd ht).trans (same_upd hu')
      unfold Wr.d
      exact RD.tup_mk upd_same (RDs.cons RD.str_mk (RDs.cons RD.int_mk (RDs.cons RD.int_mk (RDs.cons RD.int_mk (RDs.cons RD.int_mk (RDs.cons (RD.same ss _ _ rc) (RDs.one (RD.tup_mk ((same_upd hu') _ _ upd_same) (RDs.same ss _ _ r4)))))))))
theorem cutV_ints (ns : List Int) (lo hi : Option Int) : ∃ ms : List Int, cutV (ns.map V.int) lo hi = ms.map V.int := by
  unfold cutV
  exact ⟨_, by rw [← List.map_drop, ← List.map_take]⟩
theorem sc_law_drawn : FnScope ["_law_script", "_law_seed", "_law_cell"] ["_law_script"] (defScope s_law_drawn) := ⟨rfl, rfl, rfl, by decide +kernel, rfl, by decide +kernel, by decide +kernel⟩
theorem ok_law_drawn {f : Addr} {fd : FuncData} (F : Fun K "_law_drawn" "_law_drawn" s_law_drawn f fd) (T : Txt mg) : FnOk P w K mg base CX0 1 f fd ["_law_script"] (sp_law_drawn K) := by
  refine F.ok sc_law_drawn (fun vs H Q E h => ?_) (fun cdv A outer s H vs Q E hr h => ?_)
  · obtain ⟨a, ns, rfl, _⟩ := h
    rfl
  · obtain ⟨a, ns, rfl, hS, hlen, k⟩ := h
    have hu := hu_of hr
    refine ⟨_, (pss_cons (ps_set (i := 1) sc_law_drawn.nd rfl (Or.inl rfl) pe_int)
 (pss_cons (ps_for PassesOwn.never rfl (pi_list (pv 0)) (pg_name (i := 2) sc_law_drawn.nd rfl (Or.inl rfl))
 (pss_one (ps_set (i := 1) sc_law_drawn.nd rfl (Or.inl rfl) (pe_op op_mod (pe_op op_add (pe_op op_add (pe_op op_mul (pv 1) pe_int) (pe_op op_mod (pv 2) (pe_op op_pow pe_int pe_int))) pe_int) (pe_op op_sub (pe_op op_pow pe_int pe_int) pe_int)))))
 (pss_cons (ps_if (PW.pt (pw_and (pt_cmpR op_gt (pe_callBS call_len_seq rfl T.n_len bt_len (pa_e (pv 0) pa_nil)) pe_int (nomark _)) (pw_and1 (pt_cmpR (op_eqA hu) (pe_op op_mod (pe_ix ix_list (pv 0) pe_int (fun _ _ => rfl)) pe_int) pe_int (nomark _))))) (pss_one (ps_ret (pe_op op_cat (pe_op op_cat (pe_lst (pa_e (pe_op op_fdivL (pe_ix ix_list (pv 0) pe_int (fun _ _ => rfl)) pe_int) pa_nil)) (pe_slice sl_list (pv 0) (po_some pe_int) (po_some pe_int))) (pe_lst (pa_e (pv 1) pa_nil))))) pss_nil)
 (pss_one (ps_ret (pe_lst (pa_e (pv 1) pa_nil))))))), ?_⟩
    simp only [tSeq, tNext, tRet, tRetN, tAsg, tIfS, tDrop, tAug, gName, gSub, tVar, tC, tCB, tCons, tNil, tCall, tOp, tUn, tTest, tB, tAnd, tOr, tNot, tAndV, tOrV, tNotV, tIf, tTup, tLst, tSl, tPart, tNoPart, tBA, tBA0, tDNewK, tChain, tYes, rI, rI0, rU, rEq, rNe, rIsA, rIsnotA, rItem, lenA, rIAddA, rAddA, rMulA, listA, tupleA, lenQ, lenS, lenD, rSetD, rAddS, iLst, iTpl, iTxt, rCat, rCatTT, rRepT, iRng1, iRng2, iDct, tTruL, tTruD, tLrev, tIf, iEnum, iRev, iZip2, iZip3, rEqD, rNeD, rEqK, rNeK, iItm, tSortK, SortAsk, rSortS, rSortD, rSortT, rDictK, rClearD, rSum, rMaxL, rMinL, tMaxd, rGetL, rGetD, tAugS, rRep, rInsert, rMax2, rCount, rIndexS, rLtT, rAppend, rPopAt, rReverse, rSetA, rSetL, L2.start, cpSt, tComp_eq, tFor_eq, iAny_eq, tTry, tRaise, tCallX, tFst, tFnil, tFcon, tFstr, tFrep, rIsE, rStrI, rIntT, rRepS, Ends.lose, tLset, tCallV,  D.ty, isi_NoneType_bool, isi_NoneType_int, isi_NoneType_str, isi_NoneType_list, isi_NoneType_tuple, isi_NoneType_dict, isi_bool_bool, isi_bool_int, isi_bool_str, isi_bool_list, isi_bool_tuple, isi_bool_dict, isi_int_bool, isi_int_int, isi_int_str, isi_int_list, isi_int_tuple, isi_int_dict, isi_str_bool, isi_str_int, isi_str_str, isi_str_list, isi_str_tuple, isi_str_dict, isi_list_bool, isi_list_int, isi_list_str, isi_list_list, isi_list_tuple, isi_list_dict, isi_tuple_bool, isi_tuple_int, isi_tuple_str, isi_tuple_list, isi_tuple_tuple, isi_tuple_dict, isi_dict_bool, isi_dict_int, isi_dict_str, isi_dict_list, isi_dict_tuple, isi_dict_dict, mem_int, mem_bool, mem_str, mem_list, mem_tuple, mem_dict, Nat.reduceAdd, Nat.reduceSub, Nat.zero_add, Nat.sub_self, List.replicate_zero, List.replicate_succ, List.getD_cons_zero, List.getD_cons_succ, ↓reduceIte, List.map_cons, List.map_nil, List.append_nil, List.nil_append, List.cons_append, List.length_cons, List.length_nil, List.set_cons_zero, List.set_cons_succ, List.set_nil, List.getElem?_cons_zero, List.getElem?_cons_succ, Option.some.injEq, exists_eq_left', exists_eq_left, V.int.injEq, V.bl.injEq, V.str.injEq, V.ref.injEq, V.ty.injEq, List.cons.injEq, and_true, true_and, and_assoc, exists_and_left, exists_eq_right, reduceCtorEq, false_and, and_false, exists_false, or_false, false_or, iList]
    refine ⟨⟨_, hS⟩, for_list (K := K) (a := a) (xs := ns.map V.int) (fun i σ H' => H' = H ∧ ∃ (z : Int) (c : Option V), σ = [some (.ref a), some (.int z), c]) ⟨rfl, _, _, rfl⟩ (fun i σ H' _ p => by rw [p.1]; exact hS) ?_ ?_⟩
    · rintro i y σ H' hy ⟨rfl, z, c, rfl⟩
      obtain ⟨u, rfl⟩ : ∃ u, y = V.int u := by
        rw [List.getElem?_map] at hy
        cases e : ns[i]? with
        | none => rw [e] at hy; cases hy
        | some u => rw [e] at hy; exact ⟨u, (Option.some.inj hy).symm⟩
      walk_at "rd"
      refine ⟨.inr ⟨by decide, by decide⟩, ⟨by decide, by decide, by decide⟩, by decide, ⟨by decide, by decide, by decide⟩, by decide, _, rfl⟩
    · rintro σ H' ⟨rfl, z, c, rfl⟩
      simp only [tSeq, tNext, tRet, tRetN, tAsg, tIfS, tDrop, tAug, gName, gSub, tVar, tC, tCB, tCons, tNil, tCall, tOp, tUn, tTest, tB, tAnd, tOr, tNot, tAndV, tOrV, tNotV, tIf, tTup, tLst, tSl, tPart, tNoPart, tBA, tBA0, tDNewK, tChain, tYes, rI, rI0, rU, rEq, rNe, rIsA, rIsnotA, rItem, lenA, rIAddA, rAddA, rMulA, listA, tupleA, lenQ, lenS, lenD, rSetD, rAddS, iLst, iTpl, iTxt, rCat, rCatTT, rRepT, iRng1, iRng2, iDct, tTruL, tTruD, tLrev, tIf, iEnum, iRev, iZip2, iZip3, rEqD, rNeD, rEqK, rNeK, iItm, tSortK, SortAsk, rSortS, rSortD, rSortT, rDictK, rClearD, rSum, rMaxL, rMinL, tMaxd, rGetL, rGetD, tAugS, rRep, rInsert, rMax2, rCount, rIndexS, rLtT, rAppend, rPopAt, rReverse, rSetA, rSetL, L2.start, cpSt, tComp_eq, tFor_eq, iAny_eq, tTry, tRaise, tCallX, tFst, tFnil, tFcon, tFstr, tFrep, rIsE, rStrI, rIntT, rRepS, Ends.lose, tLset, tCallV,  D.ty, isi_NoneType_bool, isi_NoneType_int, isi_NoneType_str, isi_NoneType_list, isi_NoneType_tuple, isi_NoneType_dict, isi_bool_bool, isi_bool_int, isi_bool_str, isi_bool_list, isi_bool_tuple, isi_bool_dict, isi_int_bool, isi_int_int, isi_int_str, isi_int_list, isi_int_tuple, isi_int_dict, isi_str_bool, isi_str_int, isi_str_str, isi_str_list, isi_str_tuple, isi_str_dict, isi_list_bool, isi_list_int, isi_list_str, isi_list_list, isi_list_tuple, isi_list_dict, isi_tuple_bool, isi_tuple_int, isi_tuple_str, isi_tuple_list, isi_tuple_tuple, isi_tuple_dict, isi_dict_bool, isi_dict_int, isi_dict_str, isi_dict_list, isi_dict_tuple, isi_dict_dict, mem_int, mem_bool, mem_str, mem_list, mem_tuple, mem_dict, Nat.reduceAdd, Nat.reduceSub, Nat.zero_add, Nat.sub_self, List.replicate_zero, List.replicate_succ, List.getD_cons_zero, List.getD_cons_succ, ↓reduceIte, List.map_cons, List.map_nil, List.append_nil, List.nil_append, List.cons_append, List.length_cons, List.length_nil, List.set_cons_zero, List.set_cons_succ, List.set_nil, List.getElem?_cons_zero, List.getElem?_cons_succ, Option.some.injEq, exists_eq_left', exists_eq_left, V.int.injEq, V.bl.injEq, V.str.injEq, V.ref.injEq, V.ty.injEq, List.cons.injEq, and_true, true_and, and_assoc, exists_and_left, exists_eq_right, reduceCtorEq, false_and, and_false, exists_false, or_false, false_or, rIxL, rSlL]
      refine ⟨_, .inl hS, ite2 (fun h0 => ?_) (fun h0 => ?_)⟩
      · have hne : ns ≠ [] := fun e => by
          rw [e] at h0
          simp at h0
        obtain ⟨n0, r, rfl⟩ : ∃ n0 r, ns = n0 :: r := by
          cases ns with
          | nil => exact absurd rfl hne
          | cons a b => exact ⟨a, b, rfl⟩
        refine ⟨_, hS, _, atI_nat (j := 0) rfl, _, rfl, by decide, rfl, ite2 (fun h1 => ?_) (fun h1 => ?_)⟩
        · refine ⟨_, hS, _, atI_nat (j := 0) rfl, _, rfl, by decide, by decide +kernel, by decide, fun p hp => ?_⟩
          obtain ⟨ms, ems⟩ := cutV_ints (n0 :: r) (some 1) (some 63)
          have hml : ms.length ≤ 63 := by
            have h1 := cutV_length (List.map V.int (n0 :: r)) (some 1) (some 63)
            rw [ems, List.length_map, List.length_map] at h1
            omega
          refine ⟨_, (same_upd hp).seq hS, fun p1 hp1 => ?_⟩
          rw [ems]
          have e1 := same_upd (o := .lst (ms.map V.int)) hp1 p _ upd_same
          refine ⟨_, e1, _, upd_same, Nat.le_trans (by rw [List.length_map]; simp; omega : _ ≤ 1000) (line1000 (Nat.le_refl _)), fun p2 hp2 => ⟨by decide, fun p3 hp3 => ?_⟩⟩
          refine ⟨_, same_upd hp3 p2 _ upd_same, _, upd_same, Nat.le_trans (by simp; omega : _ ≤ 1000) (line1000 (Nat.le_refl _)), fun p4 hp4 => ?_⟩
          refine k p4 _ ⟨n0 / 2 :: (ms ++ [z]), by simp, ?_⟩ ((((same_upd hp).trans (same_upd hp1)).trans (same_upd hp2)).trans ((same_upd hp3).trans (same_upd hp4)))
          rw [upd_same]
          simp
        · exact ⟨by decide, fun p hp => k p _ ⟨[z], by simp, upd_same⟩ (same_upd hp)⟩
      · exact ⟨by decide, fun p hp => k p _ ⟨[z], by simp, upd_same⟩ (same_upd hp)⟩
end
set_option maxRecDepth 100000
set_option maxHeartbeats 4000000
section
variable {P : Program} {w : World} {K : PySem.W.Frag} {mg : Str → Option Value} {base : Heap} {Pt : Addr}
def WantsIn (names : List Str) (us : List Wt) : Prop := ∀ u ∈ us, u.1 ∈ names ∧ (0 ≤ u.2.1 ∧ u.2.1 ≤ 400) ∧ 0 ≤ u.2.2 ∧ u.2.2 < 10 ^ 41
def sp_law_wants : Sp := fun vs H Q _ => ∃ (st l : Addr) (m : Int) (names : List Str), vs = [.ref st, .ref l, .int m] ∧ StOk H st ∧ H l = some (.lst (names.map V.str)) ∧ names ≠ [] ∧ names.length ≤ 12 ∧ 0 < m ∧ m ≤ 21 ∧ l ≠ st ∧
  ∀ (v : V) (us : List Wt) (H' : Hp), RD H' (.tuple (us.map wantD)) v → (us.length : Int) < m → WantsIn names us → StOk H' st → But st H H' → Q v H'
def I_wants (st l wl : Addr) (m : Int) (names : List Str) (H : Hp) (i : Nat) (σ : St) (H' : Hp) : Prop := ∃ (us : List Wt) (vs : List V) (a b : Option V), σ = [some (.ref st), some (.ref l), some (.int m), some (.ref wl), a, b] ∧ us.length = i ∧ WantsIn names us ∧ H' wl = some (.lst vs) ∧ RDs H' (us.map wantD) vs ∧ StOk H' st ∧ But st H H'
theorem sc_law_wants : FnScope ["_law_state", "_law_names_here", "_law_many", "_law_wants_here", "_law_k", "_law_day"] ["_law_state", "_law_names_here", "_law_many"] (defScope s_law_wants) := ⟨rfl, rfl, rfl, by decide +kernel, rfl, by decide +kernel, by decide +kernel⟩
theorem ok_law_wants {f : Addr} {fd : FuncData} (F : Fun K "_law_wants" "_law_wants" s_law_wants f fd) (T : Txt mg) {c : Cl} (C : Exc K mg c) (h_law_next : Has P w K mg base "_law_next" 1 ["_law_state", "_law_many"] sp_law_next) (h_law_amount : Has P w K mg base "_law_amount" 2 ["_law_state"] sp_law_amount) : FnOk P w K mg base CX0 3 f fd ["_law_state", "_law_names_here", "_law_many"] sp_law_wants := by
  refine F.ok sc_law_wants (fun vs H Q E h => ?_) (fun cdv A outer s H vs Q E hr h => ?_)
  · obtain ⟨st, l, m, names, rfl, _⟩ := h
    rfl
  · obtain ⟨st, l, m, names, rfl, hs, hl, hne, hnl, m0, m1, nl, k⟩ := h
    have hu := hu_of hr
    refine ⟨_, (pss_cons (ps_set (i := 3) sc_law_wants.nd rfl (Or.inl rfl) (pe_lst pa_nil))
 (pss_cons (ps_for PassesOwn.never rfl (pi_rangeS1 rfl T.n_range (pa_e (pe_callS h_law_next (hr.mono (by decide)) rfl (pa_e (pv 0) (pa_e (pv 2) pa_nil))) pa_nil)) (pg_name (i := 4) sc_law_wants.nd rfl (Or.inl rfl))
 (pss_cons (ps_set (i := 5) sc_law_wants.nd rfl (Or.inl rfl) (pe_item hu (pe_lst (pa_e (pe_callS h_law_next (hr.mono (by decide)) rfl (pa_e (pv 0) (pa_e pe_int pa_nil))) (pa_e (pe_callS h_law_next (hr.mono (by decide)) rfl (pa_e (pv 0) (pa_e pe_int pa_nil))) pa_nil))) (pe_callTS call_int1 rfl T.n_int bt_int (pa_e (pe_cmpR (op_eqA hu) (pe_callS h_law_next (hr.mono (by decide)) rfl (pa_e (pv 0) (pa_e pe_int pa_nil))) pe_int (nomark _)) pa_nil)) (fun _ _ => rfl)))
 (pss_one (ps_expr (pe_bs PySem.F.plainAttrs_list PySem.F.slot_list_append PySem.F.type_list_append mt_append (pv 3) (pa_e (pe_tup (pa_e (pe_item hu (pv 1) (pe_callS h_law_next (hr.mono (by decide)) rfl (pa_e (pv 0) (pa_e (pe_callBS call_len_q rfl T.n_len bt_len (pa_e (pv 1) pa_nil)) pa_nil))) (fun _ _ => rfl)) (pa_e (pv 5) (pa_e (pe_callS h_law_amount (hr.mono (by decide)) rfl (pa_e (pv 0) pa_nil)) pa_nil)))) pa_nil))))))
 (pss_one (ps_ret (pe_callTS call_tupleA rfl T.n_tuple bt_tuple (pa_e (pv 3) pa_nil)))))), ?_⟩
    walk_at "rd"
    refine ⟨by decide, fun wl hwl => ⟨st, m, rfl, hs.upd (hs.ne hwl), m0, Int.lt_of_le_of_lt m1 (by decide +kernel), fun d H1 d0 d1 s1 b1 => ?_⟩⟩
    have nst := hs.ne hwl
    have hw1 : H1 wl = some (.lst []) := b1 wl _ (Ne.symm nst) upd_same
    have b1 : But st H H1 := (but_upd hwl).trans b1
    have lw : l ≠ wl := ne_of_none hl hwl
    walk_at "rd"
    refine ⟨by omega, by omega, ?_⟩
    refine for_w (goesR 0 _) (I_wants st l wl m names H)
      ⟨[], [], _, _, rfl, rfl, (fun p hp => absurd hp (by simp)), hw1, RDs.nil, s1, b1⟩ (fun _ _ _ _ _ => trivial) (fun i x σ H' hi hx p => ?_) (fun σ H' p => ?_)
    · obtain ⟨us, vs, a, b, rfl, hc1, hc2, hl3, r3, s3, b3⟩ := p
      walk_at "rd"
      refine ⟨st, 9, rfl, s3, by decide, by decide +kernel, fun x1 H4 p0 p1 s4 b4 => ?_⟩
      walk_at "rd"
      refine ⟨st, 401, rfl, s4, by decide, by decide +kernel, fun x2 H5 q0 q1 s5 b5 => ?_⟩
      walk_at "rd"
      refine ⟨by decide, fun q hq => ⟨st, 6, rfl, s5.upd (s5.ne hq), by decide, by decide +kernel, fun x3 H6 t0 t1 s6 b6 => ?_⟩⟩
      have hq6 := b6 q _ (Ne.symm (s5.ne hq)) upd_same
      walk_at "rd"
      refine ⟨rfl, _, item_two hq6, ?_⟩
      have b46 : But st H' H6 := b4.trans (b5.trans ((but_upd hq).trans b6))
      have hl6 := b46 wl _ (Ne.symm nst) hl3
      have hn6 := (b3.trans b46) l _ nl hl
      refine ⟨by unfold tyOf; simp only [hl6], _, .inl hn6, st, _, rfl, s6, ?_, ?_, fun e H7 e0 e1 s7 b7 => ?_⟩
      · rw [List.length_map]
        have : 0 < names.length := List.length_pos_iff.mpr hne
        omega
      · rw [List.length_map]
        exact Int.lt_of_le_of_lt (b := 12) (by omega) (by decide +kernel)
      rw [List.length_map] at e1
      have hn7 := b7 l _ nl hn6
      obtain ⟨nm, hnm⟩ : ∃ nm, names[e.toNat]? = some nm := ⟨_, List.getElem?_eq_getElem (by omega)⟩
      refine ⟨.str nm, item_i (.inl hn7) e0 (by rw [List.getElem?_map, hnm]; rfl), st, rfl, s7, fun n H8 n0 n1 s8 b8 => ⟨by decide, fun t ht => ?_⟩⟩
      have b48 := b46.trans (b7.trans b8)
      have hl8 := b48 wl _ (Ne.symm nst) hl3
      have hlen := rds_len r3
      refine ⟨_, by rw [upd_ne (ne_of_none hl8 ht)]; exact hl8, Nat.lt_of_lt_of_le (show vs.length < 1000 by omega) (line1000 (Nat.le_refl _)), ?_⟩
      have kk : KeepU H' (upd (upd H8 t (.tup [V.str nm, V.int (if decide (x3 = 0) = true then x2 else x1), V.int n])) wl (.lst (vs ++ [V.ref t]))) :=
        ((but_kuS b48 s3).trans (ku_new ht)).trans (ku_lst (by rw [upd_ne (ne_of_none hl8 ht)]; exact hl8))
      refine ⟨us ++ [(nm, if decide (x3 = 0) = true then x2 else x1, n)], _, _, _, rfl, by simp [hc1], fun p hp => ?_, upd_same, ?_, (s8.upd (s8.ne ht)).upd nst, ((b3.trans b48).new ht).upd hwl⟩
      · rcases List.mem_append.mp hp with z | z
        · exact hc2 p z
        · rw [List.mem_singleton.mp z]
          refine ⟨List.mem_of_getElem? hnm, ?_, n0, n1⟩
          show 0 ≤ (if decide (x3 = 0) = true then x2 else x1) ∧ (if decide (x3 = 0) = true then x2 else x1) ≤ 400
          split <;> omega
      · rw [List.map_append]
        refine RDs.app (RDs.ku kk _ _ (nl_map wantD nl_want _) r3) (RDs.one (RD.tup_mk (xs := [V.str nm, V.int _, V.int n]) ?_ (RDs.cons RD.str_mk (RDs.cons RD.int_mk (RDs.one RD.int_mk)))))
        rw [upd_ne (Ne.symm (ne_of_none hl8 ht)), upd_same]
    · obtain ⟨us, vs, a, b, rfl, hc1, hc2, hl3, r3, s3, b3⟩ := p
      walk_at "rd"
      refine ⟨vs, .inl ⟨hl3, fun q hq => ?_⟩⟩
      exact k _ us _ (RD.tup_mk upd_same (RDs.same (same_upd hq) _ _ r3)) (by omega) hc2 (s3.upd (s3.ne hq)) (b3.new hq)
theorem names_nd {xs : List Str} (h : ∀ (i : Nat) (x : Str), xs[i]? = some x → nameAt i x) : xs.Nodup := by
  refine List.pairwise_iff_getElem.mpr fun i j hi hj hij e => ?_
  have h1 := (h i _ (List.getElem?_eq_getElem hi)).2
  have h2 := (h j _ (List.getElem?_eq_getElem hj)).2
  rw [e, h2] at h1
  have := Option.some.inj h1
  omega
theorem rds_pairs {H : Hp} : ∀ {ps : List (Wr × V)}, (∀ q ∈ ps, RD H q.1.d q.2) → RDs H ((ps.map (·.1)).map Wr.d) (ps.map (·.2))
  | [], _ => RDs.nil
  | q :: r, h => RDs.cons (h q List.mem_cons_self) (rds_pairs fun z hz => h z (List.mem_cons_of_mem _ hz))
theorem pairs_of {H : Hp} : ∀ {ws : List Wr} {vs : List V}, RDs H (ws.map Wr.d) vs → ∃ ps : List (Wr × V), ps.map (·.1) = ws ∧ ps.map (·.2) = vs ∧ ∀ q ∈ ps, RD H q.1.d q.2
  | [], vs, h => ⟨[], rfl, (RDs.nil_of h).symm, fun _ h => nomatch h⟩
  | w :: ws, vs, h => by
    obtain ⟨x, r, rfl, h1, h2⟩ := RDs.cons_of h
    obtain ⟨ps, e1, e2, h3⟩ := pairs_of h2
    refine ⟨(w, x) :: ps, by rw [List.map_cons, e1], by rw [List.map_cons, e2], fun q hq => ?_⟩
    rcases List.mem_cons.mp hq with z | z
    · rw [z]; exact h1
    · exact h3 q z
theorem name_len {x : Str} (h : isNameS x = true) : x.length ≤ 8 := by
  unfold isNameS at h
  rw [Bool.and_eq_true, Bool.and_eq_true] at h
  exact of_decide_eq_true h.1.2
theorem erase_map {α β : Type} (f : α → β) (xs : List α) (i : Nat) : (xs.map f).eraseIdx i = (xs.eraseIdx i).map f := by
  rw [List.eraseIdx_eq_take_drop_succ, List.eraseIdx_eq_take_drop_succ, List.map_append, List.map_take, List.map_drop]
theorem mix_perm {α : Type} {xs : List α} {i m : Nat} {x : α} (h : xs[i]? = some x) : ((xs.eraseIdx i).take m ++ x :: (xs.eraseIdx i).drop m).Perm xs := by
  refine List.perm_middle.trans ?_
  rw [List.take_append_drop, List.eraseIdx_eq_take_drop_succ]
  obtain ⟨hi, e⟩ := List.getElem?_eq_some_iff.mp h
  have e2 : xs = xs.take i ++ x :: xs.drop (i + 1) := by rw [← e, ← List.drop_eq_getElem_cons hi, List.take_append_drop]
  conv => rhs; rw [e2]
  exact List.perm_middle.symm
theorem rds_take {H : Hp} : ∀ {ds : List PyData} {xs : List V} (n : Nat), RDs H ds xs → RDs H (ds.take n) (xs.take n)
  | _, _, 0, _ => by rw [List.take_zero, List.take_zero]; exact RDs.nil
  | [], xs, n + 1, h => by rw [RDs.nil_of h]; exact RDs.nil
  | d :: ds, xs, n + 1, h => by
    obtain ⟨x, r, rfl, h1, h2⟩ := RDs.cons_of h
    rw [List.take_succ_cons, List.take_succ_cons]
    exact RDs.cons h1 (rds_take n h2)
theorem rds_set {H : Hp} {d : PyData} {v : V} (hv : RD H d v) : ∀ {ds : List PyData} {xs : List V} (n : Nat), RDs H ds xs → RDs H (ds.set n d) (xs.set n v)
  | [], xs, n, h => by rw [RDs.nil_of h]; exact RDs.nil
  | e :: ds, xs, 0, h => by
    obtain ⟨x, r, rfl, h1, h2⟩ := RDs.cons_of h
    exact RDs.cons hv h2
  | e :: ds, xs, n + 1, h => by
    obtain ⟨x, r, rfl, h1, h2⟩ := RDs.cons_of h
    exact RDs.cons h1 (rds_set hv n h2)
structure Knot (S : Sh) : Prop where
  kn : KnOk S
  ex : ExOk S
  txt : ∀ w ∈ S.wares, isNameS w.name = true
  len : 1 ≤ S.wares.length ∧ S.wares.length ≤ 6
def Kth3 (xs : List Str) (j : Nat) (w : Wr) : Prop := xs[j]? = some w.name ∧ WOk w ∧ (∀ p ∈ w.parts, p.1 ∈ xs) ∧ w.parts.length ≤ 6
theorem knot_mk {xs : List Str} {ws ws' : List Wr} {us : List Wt} (hx : ∀ (i : Nat) (x : Str), xs[i]? = some x → nameAt i x) (hl : 1 ≤ xs.length ∧ xs.length ≤ 6) (hw : ws.length = xs.length) (hk : ∀ j w, ws[j]? = some w → Kth3 xs j w) (hp : ws'.Perm ws) (hu : us.length ≤ 20 ∧ WantsIn xs us) : Knot ⟨ws', us⟩ := by
  have nd := names_nd hx
  have en : ws.map (·.name) = xs := by
    apply List.ext_getElem?
    intro i
    rw [List.getElem?_map]
    by_cases hi : i < ws.length
    · rw [List.getElem?_eq_getElem hi]
      exact (hk i _ (List.getElem?_eq_getElem hi)).1.symm
    · rw [List.getElem?_eq_none (by omega), List.getElem?_eq_none (by omega)]
      rfl
  have hat : ∀ w ∈ ws', ∃ j, j < xs.length ∧ Kth3 xs j w := fun w hm => by
    obtain ⟨j, hj⟩ := List.mem_iff_getElem?.mp (hp.mem_iff.mp hm)
    have := (List.getElem?_eq_some_iff.mp hj).1
    exact ⟨j, by omega, hk j w hj⟩
  have pn : (ws'.map (·.name)).Perm xs := by rw [← en]; exact hp.map _
  have hlen : ws'.length = xs.length := by rw [hp.length_eq, hw]
  have txt : ∀ w ∈ ws', isNameS w.name = true := fun w hm => by obtain ⟨j, _, k⟩ := hat w hm; exact (hx j _ k.1).1
  refine ⟨⟨⟨pn.nodup_iff.mpr nd, by show ws'.length ≤ 1000; omega, fun w hm => ?_⟩, by show ws'.length < 64; omega, fun w hm => by have := name_len (txt w hm); omega, fun w hm p hpm => ?_⟩, ⟨fun w hm => ?_, fun w hm => ?_, by show ws'.length ≤ 12; omega, hu.1, fun u hum => ?_⟩, txt, by show 1 ≤ ws'.length ∧ ws'.length ≤ 6; omega⟩
  · obtain ⟨j, _, k⟩ := hat w hm
    exact ⟨by have := k.2.2.2; omega, by have := k.2.1.clen; omega⟩
  · obtain ⟨j, _, k⟩ := hat w hm
    exact pn.mem_iff.mpr (k.2.2.1 p hpm)
  · obtain ⟨j, _, k⟩ := hat w hm; exact ⟨k.2.1.gives, k.2.1.gmax⟩
  · obtain ⟨j, _, k⟩ := hat w hm; exact ⟨k.2.2.2, k.2.1.amt⟩
  · obtain ⟨h1, _, h2⟩ := hu.2 u hum
    exact ⟨pn.mem_iff.mpr h1, h2⟩
def KnInv (st l p : Addr) (way : V) (xs : List Str) (H : Hp) (i : Nat) (σ : St) (H' : Hp) : Prop := ∃ (ws : List Wr) (vs : List V) (o1 o2 o3 o4 : Option V), σ = [some (.ref st), some (.ref l), some way, some (.ref p), o1, o2, o3, o4] ∧ ws.length = i ∧ (∀ j w, ws[j]? = some w → Kth3 xs j w) ∧ H' p = some (.lst vs) ∧ RDs H' (ws.map Wr.d) vs ∧ H' l = some (.lst (xs.map V.str)) ∧ StOk H' st ∧ But st H H'
def KxInv (st l p : Addr) (way : V) (xs : List Str) (ws : List Wr) (H : Hp) (i : Nat) (σ : St) (H' : Hp) : Prop := ∃ (ps : List (Wr × V)) (o1 o2 o3 o4 : Option V), σ = [some (.ref st), some (.ref l), some way, some (.ref p), o1, o2, o3, o4] ∧ (ps.map (·.1)).Perm ws ∧ H' p = some (.lst (ps.map (·.2))) ∧ (∀ q ∈ ps, RD H' q.1.d q.2) ∧ H' l = some (.lst (xs.map V.str)) ∧ StOk H' st ∧ But st H H'
def KnSt (st l p : Addr) (xs : List Str) (H : Hp) : Prop := (1 ≤ xs.length ∧ xs.length ≤ 6) ∧ (∀ (i : Nat) (x : Str), xs[i]? = some x → nameAt i x) ∧ l ≠ st ∧ p ≠ st ∧ l ≠ p ∧ H p = none
def KnMid (st : Addr) (H : Hp) (σ : St) (H' : Hp) : Prop := ∃ (l p : Addr) (d : Int) (xs : List Str), KnSt st l p xs H ∧ KnInv st l p (.int d) xs H xs.length σ H'
theorem cut4 {t t2 t3 t4 u : TS} {D : Ends} {σ : St} {H : Hp} (M : St → Hp → Prop) (hrest : ∀ σ' H', M σ' H' → u D σ' H')
    (h : ∀ KK : St → Hp → Prop, (∀ σ' H', M σ' H' → KK σ' H') → t { D with nx := fun σ H => t2 { D with nx := fun σ H => t3 { D with nx := fun σ H => t4 { D with nx := KK } σ H } σ H } σ H } σ H) : tSeq t (tSeq t2 (tSeq t3 (tSeq t4 u))) D σ H := h (u D) hrest
def sp_law_knotted : Sp := fun vs H Q _ => ∃ (st : Addr), vs = [.ref st] ∧ StOk H st ∧ ∀ (v : V) (S : Sh) (H' : Hp), RD H' S.d v → Knot S → StOk H' st → But st H H' → Q v H'
end
set_option maxRecDepth 100000
set_option maxHeartbeats 4000000
section
variable {P : Program} {w : World} {K : PySem.W.Frag} {mg : Str → Option Value} {base : Heap} {Pt : Addr}
theorem sc_law_knotted : FnScope ["_law_state", "_law_names_here", "_law_way", "_law_wares", "_law_k", "_law_some", "_law_spot", "_law_part"] ["_law_state"] (defScope s_law_knotted) := ⟨rfl, rfl, rfl, by decide +kernel, rfl, by decide +kernel, by decide +kernel⟩
theorem ok_law_knotted {f : Addr} {fd : FuncData} (F : Fun K "_law_knotted" "_law_knotted" s_law_knotted f fd) (T : Txt mg) {c : Cl} (C : Exc K mg c) (h_law_names : Has P w K mg base "_law_names" 2 ["_law_state", "_law_many"] sp_law_names) (h_law_next : Has P w K mg base "_law_next" 1 ["_law_state", "_law_many"] sp_law_next) (h_law_ware : Has P w K mg base "_law_ware" 4 ["_law_state", "_law_name", "_law_parts_here", "_law_top"] sp_law_ware) (h_law_wants : Has P w K mg base "_law_wants" 3 ["_law_state", "_law_names_here", "_law_many"] sp_law_wants) : FnOk P w K mg base CX0 5 f fd ["_law_state"] sp_law_knotted := by
  refine F.ok sc_law_knotted (fun vs H Q E h => ?_) (fun cdv A outer s H vs Q E hr h => ?_)
  · obtain ⟨st, rfl, _⟩ := h
    rfl
  · obtain ⟨st, rfl, hs, k⟩ := h
    have hu := hu_of hr
    refine ⟨_, (pss_cons (ps_set (i := 1) sc_law_knotted.nd rfl (Or.inl rfl) (pe_callS h_law_names (hr.mono (by decide)) rfl (pa_e (pv 0) (pa_e (pe_op op_add pe_int (pe_callS h_law_next (hr.mono (by decide)) rfl (pa_e (pv 0) (pa_e pe_int pa_nil)))) pa_nil))))
 (pss_cons (ps_set (i := 2) sc_law_knotted.nd rfl (Or.inl rfl) (pe_callS h_law_next (hr.mono (by decide)) rfl (pa_e (pv 0) (pa_e pe_int pa_nil))))
 (pss_cons (ps_set (i := 3) sc_law_knotted.nd rfl (Or.inl rfl) (pe_lst pa_nil))
 (pss_cons (ps_for PassesOwn.never rfl (pi_rangeS1 rfl T.n_range (pa_e (pe_callBS call_len_q rfl T.n_len bt_len (pa_e (pv 1) pa_nil)) pa_nil)) (pg_name (i := 4) sc_law_knotted.nd rfl (Or.inl rfl))
 (pss_cons (ps_set (i := 5) sc_law_knotted.nd rfl (Or.inl rfl) (pe_item hu (pe_lst (pa_e (pv 1) (pa_e (pe_slice sl_lstA (pv 1) (po_some (pe_op op_add (pv 4) pe_int)) po_none) (pa_e (pe_slice sl_lstA (pv 1) (po_some (pe_op op_add (pv 4) pe_int)) po_none) pa_nil)))) (pv 2) (fun _ _ => rfl)))
 (pss_one (ps_expr (pe_bs PySem.F.plainAttrs_list PySem.F.slot_list_append PySem.F.type_list_append mt_append (pv 3) (pa_e (pe_callS h_law_ware (hr.mono (by decide)) rfl (pa_e (pv 0) (pa_e (pe_item hu (pv 1) (pv 4) (fun _ _ => rfl)) (pa_e (pv 5) (pa_e pe_int pa_nil))))) pa_nil))))))
 (pss_cons (ps_if (pt_cmpR (op_eqA hu) (pv 2) pe_int (nomark _)) (pss_cons (ps_set (i := 6) sc_law_knotted.nd rfl (Or.inl rfl) (pe_callS h_law_next (hr.mono (by decide)) rfl (pa_e (pv 0) (pa_e (pe_callBS call_len_q rfl T.n_len bt_len (pa_e (pv 1) pa_nil)) pa_nil))))
 (pss_cons (ps_set (i := 7) sc_law_knotted.nd rfl (Or.inl rfl) (pe_item hu (pv 1) (pe_callS h_law_next (hr.mono (by decide)) rfl (pa_e (pv 0) (pa_e (pe_callBS call_len_q rfl T.n_len bt_len (pa_e (pv 1) pa_nil)) pa_nil))) (fun _ _ => rfl)))
 (pss_one (ps_if (pt_cmpR (op_notInA hu) (pv 7) (pe_comp (own := ["_law_one"]) (cap := []) rfl (cp_ok rfl) (gown_name (by decide)) (pi_tpl (pe_item hu (pe_item hu (pv 3) (pv 6) (fun _ _ => rfl)) pe_int (fun _ _ => rfl)))
 (fun _ _ _ _ _ _ => ⟨(pg_name (i := 0) (of_decide_eq_true rfl) rfl (Or.inl rfl) (.inr rfl)), pts_nil, (pe_item hu (pv 0) pe_int (fun _ _ => rfl))⟩)) rfl) (pss_one (ps_asg (pe_op op_catTT (pe_slice sl_tupA (pe_item hu (pv 3) (pv 6) (fun _ _ => rfl)) po_none (po_some pe_int)) (pe_tup (pa_e (pe_op op_catTT (pe_slice sl_tupA (pe_item hu (pe_item hu (pv 3) (pv 6) (fun _ _ => rfl)) pe_int (fun _ _ => rfl)) po_none (po_some pe_int)) (pe_tup (pa_e (pe_tup (pa_e (pv 7) (pa_e pe_int pa_nil))) pa_nil))) pa_nil))) (pg_sub (pv 3) (pv 6) set_list))) pss_nil)))) pss_nil)
 (pss_cons (ps_for PassesOwn.never rfl (pi_rangeS1 rfl T.n_range (pa_e (pe_callBS call_len_q rfl T.n_len bt_len (pa_e (pv 3) pa_nil)) pa_nil)) (pg_name (i := 4) sc_law_knotted.nd rfl (Or.inl rfl))
 (pss_one (ps_expr (pe_bs PySem.F.plainAttrs_list PySem.F.slot_list_insert PySem.F.type_list_insert mt_insert (pv 3) (pa_e (pe_callS h_law_next (hr.mono (by decide)) rfl (pa_e (pv 0) (pa_e (pe_op op_add (pv 4) pe_int) pa_nil))) (pa_e (pe_bs PySem.F.plainAttrs_list PySem.F.slot_list_pop PySem.F.type_list_pop mt_popAt (pv 3) (pa_e (pv 4) pa_nil)) pa_nil))))))
 (pss_one (ps_ret (pe_tup (pa_e (pe_callTS call_tupleA rfl T.n_tuple bt_tuple (pa_e (pv 3) pa_nil)) (pa_e (pe_callS h_law_wants (hr.mono (by decide)) rfl (pa_e (pv 0) (pa_e (pv 1) (pa_e pe_int pa_nil)))) pa_nil))))))))))), ?_⟩
    refine cut4 (KnMid st H) (fun σ' H' hM => cut1 (KnMid st H) (fun σ2 H2 hM2 => ?_) (fun KK hK => ?_)) (fun KK hK => ?_)
    · obtain ⟨l, p, d, xs, ⟨hx6, hxn, lst', nst, lp, fp⟩, ws, vs, o1, o2, o3, o4, rfl, hwl, hk, hp3, r3, hl3, s3, b3⟩ := hM2
      obtain ⟨ps, e1, e2, h3⟩ := pairs_of r3
      walk_at "rd"
      have hpl : ps.length = ws.length := by rw [← e1, List.length_map]
      refine ⟨vs, .inl hp3, ?_⟩
      have hvl : vs.length = xs.length := by rw [← e2, List.length_map, hpl, hwl]
      have en : ((xs.length : Nat) : Int).toNat = xs.length := by omega
      rw [hvl]
      refine ⟨by omega, by omega, ?_⟩
      rw [en]
      refine for_w (goesR 0 _) (KxInv st l p (.int d) xs ws H) ⟨ps, _, _, _, _, rfl, by rw [e1], by rw [e2]; exact hp3, h3, hl3, s3, b3⟩ (fun _ _ _ _ _ => trivial) (fun i x σ H4 hi hx h => ?_) (fun σ H4 h => ?_)
      · obtain ⟨ps, o1, o2, o3, o4, rfl, pm, hp4, h4, hl4, s4, b4⟩ := h
        subst hx
        have hpl : ps.length = xs.length := by have := pm.length_eq; rw [List.length_map] at this; omega
        obtain ⟨q, hq⟩ : ∃ q, ps[i]? = some q := ⟨_, List.getElem?_eq_getElem (by omega)⟩
        walk_at "rd"
        refine ⟨ty_lst hp4, st, 0 + (i : Int) + 1, rfl, s4, by omega, Int.lt_of_le_of_lt (b := 13) (by omega) (by decide +kernel), fun e H5 e0 e1 s5 b5 => ?_⟩
        have hp5 := b5 p _ nst hp4
        refine ⟨ty_lst hp5, _, hp5, by omega, by omega, i, ?_, q.2, by rw [List.getElem?_map, hq]; rfl, _, e, rfl, upd_same, e0, Int.lt_of_le_of_lt (b := 13) (by omega) (by decide), ?_, ?_⟩
        · rw [List.length_map]
          unfold seqIndex?
          have hz : ¬ (0 + (i : Int)) < 0 := by omega
          simp only [if_neg hz]
          rw [if_pos (by simp; omega)]
          congr 1
          omega
        · rw [erase_map, List.length_map]
          exact Nat.lt_of_le_of_lt (m := 12) (Nat.le_trans (List.length_eraseIdx_le ..) (by omega)) (by decide)
        · rw [erase_map, List.length_map, ← List.map_take, ← List.map_drop, upd_upd]
          refine ⟨(ps.eraseIdx i).take (min e.toNat (ps.eraseIdx i).length) ++ q :: (ps.eraseIdx i).drop (min e.toNat (ps.eraseIdx i).length), _, _, _, _, rfl, ((mix_perm hq).map _).trans pm, ?_, fun z hz => ?_, ?_, s5.upd (Ne.symm nst), (b4.trans b5).upd fp⟩
          · rw [upd_same, List.map_append, List.map_cons]
          · exact RD.ku ((but_kuS b5 s4).trans (ku_lst hp5)) _ _ (nl_ware z.1) (h4 z ((mix_perm hq).mem_iff.mp hz))
          · rw [upd_ne lp]
            exact b5 l _ lst' hl4
      · obtain ⟨ps, o1, o2, o3, o4, rfl, pm, hp4, h4, hl4, s4, b4⟩ := h
        walk_at "rd"
        refine ⟨_, .inl ⟨hp4, fun tw htw => ?_⟩⟩
        have u4 := same_upd (o := .tup (ps.map (·.2))) htw
        refine ⟨st, l, 4, xs, rfl, s4.same u4, u4 _ _ hl4, (fun z => by rw [z] at hx6; simp at hx6), by omega, by decide, by decide, lst', fun wv us H5 rw5 hus hin s5 b5 => ⟨by decide, fun t ht => ?_⟩⟩
        have b45 : But st H4 H5 := (same_but u4).trans b5
        have twst : tw ≠ st := Ne.symm (s4.ne htw)
        have htw5 := b5 tw _ twst upd_same
        have kk := (but_kuS b45 s4).trans (ku_new (o := .tup [V.ref tw, wv]) ht)
        refine k (.ref t) ⟨ps.map (·.1), us⟩ _ ?_ (knot_mk hxn hx6 (by rw [hwl]) hk pm ⟨by omega, hin⟩) (s5.upd (s5.ne ht)) ((b4.trans b45).new ht)
        unfold Sh.d
        exact RD.tup_mk upd_same (RDs.cons (RD.tup_mk ((same_upd ht) _ _ htw5) (RDs.ku kk _ _ (nl_map Wr.d nl_ware _) (rds_pairs h4))) (RDs.one (RD.same (same_upd ht) _ _ rw5)))
    · obtain ⟨l, p, d, xs, hst, hI⟩ := id hM
      obtain ⟨hx6, hxn, lst', nst, lp, fp⟩ := id hst
      obtain ⟨ws, vs, o1, o2, o3, o4, rfl, hwl, hk, hp3, r3, hl3, s3, b3⟩ := hI
      walk_at "rd"
      refine ⟨rfl, ?_⟩
      refine ite2 (fun _ => ?_) (fun _ => hK _ _ ⟨l, p, d, xs, hst, ws, vs, _, _, _, _, rfl, hwl, hk, hp3, r3, hl3, s3, b3⟩)
      have hxl : (xs.map V.str).length = xs.length := List.length_map ..
      refine ⟨_, .inl hl3, st, xs.length, by rw [hxl], s3, by omega, Int.lt_of_le_of_lt (b := 6) (by omega) (by decide +kernel), fun sp H4 p0 p1 s4 b4 => ?_⟩
      have hl4 := b4 l _ lst' hl3
      refine ⟨_, .inl hl4, st, xs.length, by rw [hxl], s4, by omega, Int.lt_of_le_of_lt (b := 6) (by omega) (by decide +kernel), fun e H5 e0 e1 s5 b5 => ?_⟩
      have b35 := b4.trans b5
      have hl5 := b35 l _ lst' hl3
      have hp5 := b35 p _ nst hp3
      have r5 := RDs.ku (but_kuS b35 s3) _ _ (nl_map Wr.d nl_ware _) r3
      have hvl := rds_len r5
      obtain ⟨nm, hnm⟩ : ∃ nm, xs[e.toNat]? = some nm := ⟨_, List.getElem?_eq_getElem (by omega)⟩
      obtain ⟨x, hx⟩ : ∃ x, vs[sp.toNat]? = some x := ⟨_, List.getElem?_eq_getElem (by omega)⟩
      obtain ⟨t, ht, rt⟩ := rds_map r5 hx
      obtain ⟨te, c5, c6, rfl, hte, rc, rp⟩ := ware_at rt
      obtain ⟨pb, pv, rfl, hpb, rpv⟩ := RD.tup_of rp
      have hlp := rds_len rpv
      have hkt := hk _ _ ht
      have hsp : Item H5 (.ref p) (.int sp) (.ref te) := item_i (.inl hp5) p0 hx
      refine ⟨_, item_i (.inl hl5) e0 (by rw [List.getElem?_map, hnm]; rfl), _, hsp, _, item_t (j := 6) hte rfl, pb, rfl, pv, hpb, ?_⟩
      refine comp_map (goesT pb _) (line1000 (by have := hkt.2.2.2; omega)) (fun H' s' => s' _ _ hpb) ((t.parts.map (·.1)).map V.str) (by rw [List.length_map, List.length_map, hlp]) (fun i x H' hi hx s' N M hN => ?_) (fun H6 s6 q hq => ?_)
      · obtain ⟨pp, hpp, rpp⟩ := rds_map rpv hx
        obtain ⟨pe, rfl, hpe⟩ := part_at rpp
        walk_at "rd"
        exact ⟨_, item_t (j := 0) (s' _ _ hpe) rfl, hN _ _ s' (by rw [List.getElem?_map, List.getElem?_map, hpp]; rfl)⟩
      · have u6 := s6.trans (same_upd (o := .lst ((t.parts.map (·.1)).map V.str)) hq)
        refine ⟨_, .inl ⟨q, _, rfl, .inl upd_same, rfl, all_flatS _, rfl⟩, ?_⟩
        have s7 := s5.same u6
        generalize upd H6 q (.lst ((t.parts.map (·.1)).map V.str)) = H7 at u6 s7 ⊢
        have b37 : But st _ H7 := b35.trans (same_but u6)
        refine ite2 (fun _ => ?_) (fun _ => hK _ _ ⟨l, p, d, xs, hst, ws, vs, _, _, _, _, rfl, hwl, hk, b37 _ _ nst hp3, RDs.ku (but_kuS b37 s3) _ _ (nl_map Wr.d nl_ware _) r3, b37 l _ lst' hl3, s7, b3.trans b37⟩)
        have hp7 := u6 _ _ hp5
        have hte7 := u6 _ _ hte
        have hpb7 := u6 _ _ hpb
        have hsp7 : ∀ {Hx : Hp}, Same H7 Hx → Item Hx (.ref p) (.int sp) (.ref te) := fun s => item_i (.inl (s _ _ hp7)) p0 hx
        refine ⟨_, hsp7 (Same.refl _), te, rfl, _, hte7, fun a1 H8 ha1 s8 _ => ⟨_, hsp7 s8, _, item_t (j := 6) (s8 _ _ hte7) rfl, pb, rfl, _, s8 _ _ hpb7, fun a2 H9 ha2 s9 _ => ⟨by decide, fun a3 ha3 => ⟨by decide, fun a4 ha4 => ?_⟩⟩⟩⟩
        rw [cutV_to (by decide)] at ha1 ha2
        have v1 := same_upd (o := .tup [V.str nm, V.int 1]) ha3
        have v2 := same_upd (o := .tup [V.ref a3]) ha4
        have x2 := v2 _ _ (v1 _ _ ha2)
        have x3 := v2 _ _ (upd_same (H := H9) (a := a3) (o := .tup [V.str nm, V.int 1]))
        have x4 := upd_same (H := upd H9 a3 (.tup [V.str nm, V.int 1])) (a := a4) (o := .tup [V.ref a3])
        have s10 := (s8.trans s9).trans (v1.trans v2)
        have x1 := (v1.trans v2) _ _ (s9 _ _ ha1)
        generalize upd (upd H9 a3 (.tup [V.str nm, V.int 1])) a4 (.tup [V.ref a3]) = H10 at x1 x2 x3 x4 s10 ⊢
        refine ⟨_, x2, _, x4, Nat.le_trans (m := 1000) (by rw [List.length_take, List.length_singleton]; omega) (line1000 (Nat.le_refl _)), fun a5 H11 x5 s11 _ => ⟨by decide, fun a6 ha6 => ?_⟩⟩
        have v3 := same_upd (o := .tup [V.ref a5]) ha6
        have x6 := upd_same (H := H11) (a := a6) (o := .tup [V.ref a5])
        have s12 := (u6.trans s10).trans (s11.trans v3)
        have y1 := v3 _ _ (s11 _ _ x1)
        have y3 := v3 _ _ (s11 _ _ x3)
        have y5 := v3 _ _ x5
        generalize upd H11 a6 (.tup [V.ref a5]) = H12 at x6 s12 y1 y3 y5 ⊢
        refine ⟨_, y1, _, x6, Nat.le_trans (m := 1000) (by rw [List.length_take, List.length_singleton]; simp) (line1000 (Nat.le_refl _)), fun a7 H13 x7 s13 _ => ?_⟩
        have s14 := s12.trans s13
        have hp13 := s14 _ _ hp5
        refine ⟨vs, sp, rfl, hp13, sp.toNat, by unfold ixN; rw [if_pos p0, if_pos (by omega)], ?_⟩
        have b313 : But st _ H13 := b35.trans (same_but s14)
        have st13 := s5.same s14
        have kk : KeepU H13 (upd H13 p (.lst (vs.set sp.toNat (.ref a7)))) := ku_lst hp13
        have rt' : RD (upd H13 p (.lst (vs.set sp.toNat (.ref a7)))) (Wr.d { t with parts := t.parts.take 5 ++ [(nm, 1)] }) (.ref a7) := by
          unfold Wr.d
          refine RD.tup_mk (xs := [V.str t.name, .int t.lag, .int t.gives, .int t.floor, .int t.stock, c5, .ref a5]) (kk _ _ x7) (RDs.cons RD.str_mk (RDs.cons RD.int_mk (RDs.cons RD.int_mk (RDs.cons RD.int_mk (RDs.cons RD.int_mk (RDs.cons (RD.ku kk _ _ ?_ (RD.same s14 _ _ rc)) (RDs.one ?_)))))))
          · simp only [noLst]; exact nl_map arrD nl_arr _
          · refine RD.tup_mk (kk _ _ (s13 _ _ y5)) ?_
            rw [List.map_append, List.map_take]
            refine RDs.app (rds_take 5 (RDs.ku kk _ _ (nl_map partD nl_part _) (RDs.same s14 _ _ rpv))) (RDs.one (RD.tup_mk (xs := [V.str nm, .int 1]) (kk _ _ (s13 _ _ y3)) (RDs.cons RD.str_mk (RDs.one RD.int_mk))))
        refine hK _ _ ⟨l, p, d, xs, hst, ws.set sp.toNat { t with parts := t.parts.take 5 ++ [(nm, 1)] }, _, _, _, _, _, rfl, by rw [List.length_set]; exact hwl, fun j w' hw' => ?_, upd_same, ?_, ?_, st13.upd (Ne.symm nst), (b3.trans b313).upd fp⟩
        · by_cases ej : j = sp.toNat
          · subst ej
            rw [List.getElem?_set_self (by omega)] at hw'
            have ew := Option.some.inj hw'
            subst ew
            obtain ⟨k1, k2, k3, k4⟩ := hkt
            refine ⟨k1, ⟨k2.lag, k2.gives, k2.gmax, k2.floor, k2.stock, k2.clen, k2.com, fun q hq => ?_⟩, fun q hq => ?_, ?_⟩
            · rcases List.mem_append.mp hq with z | z
              · exact k2.amt q (List.mem_of_mem_take z)
              · rw [List.mem_singleton.mp z]
                exact ⟨Int.le_refl 1, show (1 : Int) ≤ 10 ^ 41 by decide +kernel⟩
            · rcases List.mem_append.mp hq with z | z
              · exact k3 q (List.mem_of_mem_take z)
              · rw [List.mem_singleton.mp z]
                exact List.mem_of_getElem? hnm
            · show (t.parts.take 5 ++ [(nm, 1)]).length ≤ 6
              rw [List.length_append, List.length_take, List.length_singleton]
              omega
          · rw [List.getElem?_set_ne (Ne.symm ej)] at hw'
            exact hk j w' hw'
        · rw [List.map_set]
          exact rds_set rt' _ (RDs.ku ((but_kuS b313 s3).trans kk) _ _ (nl_map Wr.d nl_ware _) r3)
        · rw [upd_ne lp]
          exact b313 l _ lst' hl3
    · walk_at "rd"
      refine ⟨st, 6, rfl, hs, by decide, by decide +kernel, fun d H1 d0 d1 s1 b1 => ⟨d, rfl, ?_⟩⟩
      refine ⟨st, 1 + d, rfl, s1, by omega, by omega, fun l xs H2 hxl hxn hl fl s2 b2 => ?_⟩
      have lst' : l ≠ st := fun z => by
        obtain ⟨ns1, _, e1⟩ := s1
        rw [z, e1] at fl
        cases fl
      walk_at "rd"
      refine ⟨st, 3, rfl, s2, by decide, by decide +kernel, fun way H3 w0 w1 s3 b3 => ⟨Nat.zero_le _, fun p hp => ?_⟩⟩
      have hl3 := b3 l _ lst' hl
      have lp : l ≠ p := ne_of_none hl3 hp
      have b03 := (b1.trans b2).trans b3
      have nst : p ≠ st := Ne.symm (s3.ne hp)
      have fp : H p = none := b03.none nst hp
      refine ⟨_, .inl (by rw [upd_ne lp]; exact hl3), ?_⟩
      rw [List.length_map]
      refine ⟨by omega, by omega, ?_⟩
      have en : ((xs.length : Nat) : Int).toNat = xs.length := by omega
      rw [en]
      have hx6 : 1 ≤ xs.length ∧ xs.length ≤ 6 := by omega
      refine for_w (goesR 0 _) (KnInv st l p (.int way) xs H) ⟨[], [], _, _, _, _, rfl, rfl, (fun j w e => by simp at e), upd_same, RDs.nil, by rw [upd_ne lp]; exact hl3, s3.upd (Ne.symm nst), b03.new hp⟩ (fun _ _ _ _ _ => trivial) (fun i x σ H4 hi hx h => ?_) (fun σ H4 h => ?_)
      · obtain ⟨ws, vs, o1, o2, o3, o4, rfl, hwl, hk, hp4, r4, hl4, s4, b4⟩ := h
        subst hx
        obtain ⟨nm, hnm⟩ : ∃ nm, xs[i]? = some nm := ⟨_, List.getElem?_eq_getElem hi⟩
        have ix : (0 + (i : Int)).toNat = i := by omega
        have i1 : (0 + (i : Int) + 1).toNat = i + 1 := by omega
        walk_at "rd"
        refine ⟨_, hl4, fun z1 hz1 => ⟨xs.map V.str, by rw [upd_ne (ne_of_none hl4 hz1)]; exact hl4, fun z2 hz2 => ⟨by decide, fun z3 hz3 => ?_⟩⟩⟩
        rw [cutV_fr (by omega), i1, ← List.map_drop] at hz2 hz3 ⊢
        have u1 := same_upd (o := .lst ((xs.drop (i + 1)).map V.str)) hz1
        have u2 := same_upd (o := .lst ((xs.drop (i + 1)).map V.str)) hz2
        have u3 := same_upd (o := .lst [.ref l, .ref z1, .ref z2]) hz3
        have u := u1.trans (u2.trans u3)
        have hz1' := u3 _ _ (u2 _ _ (upd_same (H := H4) (a := z1) (o := .lst ((xs.drop (i + 1)).map V.str))))
        have hz2' := u3 _ _ (upd_same (H := upd H4 z1 (.lst ((xs.drop (i + 1)).map V.str))) (a := z2) (o := .lst ((xs.drop (i + 1)).map V.str)))
        have hz3' := upd_same (H := upd (upd H4 z1 (.lst ((xs.drop (i + 1)).map V.str))) z2 (.lst ((xs.drop (i + 1)).map V.str))) (a := z3) (o := .lst [.ref l, .ref z1, .ref z2])
        have n1 : z1 ≠ st := Ne.symm (s4.ne hz1)
        have n2 : z2 ≠ st := Ne.symm ((s4.same u1).ne hz2)
        generalize upd (upd (upd H4 z1 (.lst ((xs.drop (i + 1)).map V.str))) z2 (.lst ((xs.drop (i + 1)).map V.str))) z3 (.lst [.ref l, .ref z1, .ref z2]) = H5 at hz1' hz2' hz3' u ⊢
        obtain ⟨z, ps, hit, hz5, zst, sub⟩ : ∃ (z : Addr) (ps : List Str), Item H5 (.ref z3) (.int way) (.ref z) ∧ H5 z = some (.lst (ps.map V.str)) ∧ z ≠ st ∧ ps.Sublist xs := by
          have : way = 0 ∨ way = 1 ∨ way = 2 := by omega
          rcases this with rfl | rfl | rfl
          · exact ⟨l, xs, item_l (j := 0) hz3' rfl, u _ _ hl4, lst', List.Sublist.refl _⟩
          · exact ⟨z1, _, item_l (j := 1) hz3' rfl, hz1', n1, List.drop_sublist _ _⟩
          · exact ⟨z2, _, item_l (j := 2) hz3' rfl, hz2', n2, List.drop_sublist _ _⟩
        have hl5 := u _ _ hl4
        have hxm := hxn i nm hnm
        refine ⟨.ref z, hit, ty_lst (u _ _ hp4), .str nm, item_i (.inl hl5) (by omega) (by rw [ix, List.getElem?_map, hnm]; rfl), ?_⟩
        refine ⟨st, nm, z, ps, 6, rfl, s4.same u, .inl hz5, zst, by have := name_len hxm.1; omega, fun q hq => ?_, by have := sub.length_le; omega, fun v w H6 rv wo en2 sub2 fewp fewc s6 b6 => ?_⟩
        · obtain ⟨j, hj⟩ := List.mem_iff_getElem?.mp (sub.subset hq)
          have := name_len (hxn j q hj).1
          omega
        have b46 : But st H4 H6 := (same_but u).trans b6
        have hp6 := b46 p _ nst hp4
        have hlen := rds_len r4
        refine ⟨vs, hp6, Nat.lt_of_lt_of_le (show vs.length < 1000 by omega) (line1000 (Nat.le_refl _)), ws ++ [w], _, _, _, _, _, rfl, by simp [hwl], fun j w' hw' => ?_, upd_same, ?_, ?_, s6.upd (Ne.symm nst), ?_⟩
        · by_cases hj : j < ws.length
          · rw [List.getElem?_append_left hj] at hw'
            exact hk j w' hw'
          · rw [List.getElem?_append_right (by omega)] at hw'
            have ej : j = i := by
              cases e : j - ws.length with
              | zero => omega
              | succ n => rw [e] at hw'; simp at hw'
            subst ej
            have ew : w = w' := by simpa [hwl] using hw'
            subst ew
            refine ⟨by rw [en2]; exact hnm, wo, fun q hq => sub.subset (sub2.subset (List.mem_map.mpr ⟨q, hq, rfl⟩)), ?_⟩
            rcases fewp with z1 | z1
            · omega
            · rw [z1]; exact Nat.zero_le _
        · rw [List.map_append]
          have kk : KeepU H6 (upd H6 p (.lst (vs ++ [v]))) := ku_lst hp6
          exact RDs.app (RDs.ku ((but_kuS b46 s4).trans kk) _ _ (nl_map Wr.d nl_ware _) r4) (RDs.one (RD.ku kk _ _ (nl_ware w) rv))
        · rw [upd_ne lp]
          exact b46 l _ lst' hl4
        · exact (b4.trans b46).upd fp
      · exact hK _ _ ⟨l, p, way, xs, ⟨hx6, hxn, lst', nst, lp, fp⟩, h⟩
end
set_option maxRecDepth 100000
set_option maxHeartbeats 4000000
section
variable {P : Program} {w : World} {K : PySem.W.Frag} {mg : Str → Option Value} {base : Heap} {Pt : Addr}
def sp_law_parts : Sp := fun vs H Q _ => ∃ (v : V) (S : Sh), vs = [v] ∧ RD H S.d v ∧ ShOk S ∧ ∀ p kvs' H', H p = none → H' p = some (.dK kvs') → PDk H' kvs' (grOf S) → Same H H' → Q (.ref p) H'
def LpInv (v : V) (p : Addr) (S : Sh) (H : Hp) (i : Nat) (σ : St) (H' : Hp) : Prop := ∃ (g : Option V) (kvs' : List (Key × V)), σ = [some v, some (.ref p), g] ∧ H' p = some (.dK kvs') ∧ PDk H' kvs' ((grOf S).take i) ∧ Same H H'
theorem sc_law_parts : FnScope ["_law_shop", "_law_found", "_law_ware_here"] ["_law_shop"] (defScope s_law_parts) := ⟨rfl, rfl, rfl, by decide +kernel, rfl, by decide +kernel, by decide +kernel⟩
theorem ok_law_parts {f : Addr} {fd : FuncData} (F : Fun K "_law_parts" "_law_parts" s_law_parts f fd) (T : Txt mg) {c : Cl} (C : Exc K mg c) : FnOk P w K mg base CX0 1 f fd ["_law_shop"] sp_law_parts := by
  refine F.ok sc_law_parts (fun vs H Q E h => ?_) (fun cdv A outer s H vs Q E hr h => ?_)
  · obtain ⟨v, S, rfl, _⟩ := h
    rfl
  · obtain ⟨v, S, rfl, rs, ok, k⟩ := h
    have hu := hu_of hr
    have nd : (keysG (grOf S)).Nodup := by rw [keys_gr]; exact ok.names
    refine ⟨_, (pss_cons (ps_set (i := 1) sc_law_parts.nd rfl (Or.inl rfl) pe_dnewK)
 (pss_cons (ps_for PassesOwn.never rfl (pi_tpl (pe_item hu (pv 0) pe_int (fun _ _ => rfl))) (pg_name (i := 2) sc_law_parts.nd rfl (Or.inl rfl))
 (pss_one (ps_asg (pe_comp (own := ["_law_part"]) (cap := []) rfl (cp_ok rfl) (gown_name (by decide)) (pi_tpl (pe_item hu (pv 2) pe_int (fun _ _ => rfl)))
 (fun _ _ _ _ _ _ => ⟨(pg_name (i := 0) (of_decide_eq_true rfl) rfl (Or.inl rfl) (.inr rfl)), pts_nil, (pe_item hu (pv 0) pe_int (fun _ _ => rfl))⟩)) (pg_sub (pv 1) (pe_item hu (pv 2) pe_int (fun _ _ => rfl)) (set_dict hu)))))
 (pss_one (ps_ret (pv 1))))), ?_⟩
    obtain ⟨a, b, c, ws, us, rfl, ha, hb, hc, rws, rus⟩ := shop_at rs
    have hl := rds_len rws
    walk_at "rd"
    refine fun p hp => ?_
    refine ⟨_, item_t (j := 0) (by rw [upd_ne (ne_of_none ha hp)]; exact ha) rfl, b, rfl, _, by rw [upd_ne (ne_of_none hb hp)]; exact hb, ?_⟩
    refine for_w (goesT b _) (LpInv (.ref a) p S H) ⟨_, [], rfl, upd_same, .nil, same_upd hp⟩ (fun i σ H' _ h => let ⟨_, _, _, _, _, s⟩ := h; s _ _ hb) (fun i x σ H' hi hx h => ?_) (fun σ H' h => ?_)
    · obtain ⟨g, kvs', rfl, h1, h2, sm⟩ := h
      obtain ⟨w, hw, rw'⟩ := rds_map rws hx
      have hg : (grOf S)[i]? = some (w.name, w.parts.map (·.1)) := by unfold grOf; rw [List.getElem?_map, hw]; rfl
      obtain ⟨e, c1, c2, rfl, he, rc, rp⟩ := ware_at rw'
      obtain ⟨pb, pv, rfl, hpb, rpv⟩ := RD.tup_of rp
      have hlp := rds_len rpv
      have hwo := ok.wares w (List.mem_of_getElem? hw)
      walk_at "rd"
      refine ⟨_, item_t (j := 6) (sm _ _ he) rfl, pb, rfl, pv, sm _ _ hpb, ?_⟩
      refine comp_map (goesT pb _) (line1000 (by have := hwo.1; omega)) (fun H' s' => s' _ _ (sm _ _ hpb)) ((w.parts.map (·.1)).map V.str) (by rw [List.length_map, List.length_map, hlp]) (fun i x H' hi hx s' N M hN => ?_) (fun H2 s2 q hq => ?_)
      · obtain ⟨pp, hpp, rpp⟩ := rds_map rpv hx
        obtain ⟨pe, rfl, hpe⟩ := part_at rpp
        walk_at "rd"
        exact ⟨_, item_t (j := 0) (s' _ _ (sm _ _ hpe)) rfl, hN _ _ s' (by rw [List.getElem?_map, List.getElem?_map, hpp]; rfl)⟩
      · have u2 := s2.trans (same_upd (o := .lst ((w.parts.map (·.1)).map V.str)) hq)
        have hq2 := upd_same (H := H2) (a := q) (o := .lst ((w.parts.map (·.1)).map V.str))
        generalize upd H2 q (.lst ((w.parts.map (·.1)).map V.str)) = H3 at u2 hq2 ⊢
        have sm02 := sm.trans u2
        have nin : w.name ∉ keysG ((grOf S).take i) := fun m => by
          have nd' : (keysG ((grOf S).take i) ++ keysG ((grOf S).drop i)).Nodup := by
            have : keysG ((grOf S).take i) ++ keysG ((grOf S).drop i) = keysG (grOf S) := by unfold keysG; rw [← List.map_append, List.take_append_drop]
            rw [this]; exact nd
          have hlt : i < (grOf S).length := (List.getElem?_eq_some_iff.mp hg).1
          have md : w.name ∈ keysG ((grOf S).drop i) := by
            unfold keysG
            rw [List.drop_eq_getElem_cons hlt]
            have : (grOf S)[i] = (w.name, w.parts.map (·.1)) := (List.getElem?_eq_some_iff.mp hg).2
            rw [this, List.map_cons]
            exact List.mem_cons_self
          exact (List.nodup_append.mp nd').2.2 _ m _ md rfl
        have hp2 := u2 p _ h1
        refine ⟨_, item_t (j := 0) (sm02 _ _ he) rfl, kvs', .inr w.name, rfl, hp2, ?_, ?_⟩
        · have := h2.len
          rw [List.length_take, gr_len] at this
          have := ok.len
          exact Nat.lt_of_le_of_lt (m := 1000) (by omega) (by decide)
        · have ku : ∀ l xs, H3 l = some (.lst xs) → upd H3 p (.dK (putK kvs' (.inr w.name) (.ref q))) l = some (.lst xs) := fun l xs h => by rw [upd_ne (fun z => by rw [z, hp2] at h; cases h)]; exact h
          refine ⟨_, _, rfl, upd_same, ?_, fun b' o hb' => by rw [upd_ne (ne_of_none hb' hp)]; exact sm02 b' o hb'⟩
          rw [List.take_add_one, hg]
          exact ((h2.mono fun l xs h => u2 l _ h).mono ku).snoc nin (ku _ _ hq2)
    · obtain ⟨g, kvs', rfl, h1, h2, sm⟩ := h
      rw [hl, ← gr_len, List.take_length] at h2
      walk_at "rd"
      exact k p kvs' H' hp h1 h2 sm
def RgInv (a d : Addr) (H : Hp) (i : Nat) (σ : St) (H' : Hp) : Prop := ∃ o : Option V, σ = [some (.ref a), some (.ref d), o] ∧ H' = H
def sp_law_is_ring : Sp := fun vs H Q _ => ∃ (a d : Addr) (xs : List Str) (kvs : List (Key × V)) (G : Gr), vs = [.ref a, .ref d] ∧ H a = some (.lst (xs.map V.str)) ∧ H d = some (.dK kvs) ∧ PDk H kvs G ∧ (keysG G).Nodup ∧ xs.length ≤ 1000 ∧ RingIn G xs ∧ Q (.bl true) H
theorem sc_law_is_ring : FnScope ["_law_found", "_law_parts_here", "_law_k"] ["_law_found", "_law_parts_here"] (defScope s_law_is_ring) := ⟨rfl, rfl, rfl, by decide +kernel, rfl, by decide +kernel, by decide +kernel⟩
theorem ok_law_is_ring {f : Addr} {fd : FuncData} (F : Fun K "_law_is_ring" "_law_is_ring" s_law_is_ring f fd) (T : Txt mg) {c : Cl} (C : Exc K mg c) : FnOk P w K mg base CX0 1 f fd ["_law_found", "_law_parts_here"] sp_law_is_ring := by
  refine F.ok sc_law_is_ring (fun vs H Q E h => ?_) (fun cdv A outer s H vs Q E hr h => ?_)
  · obtain ⟨a, d, xs, kvs, G, rfl, _⟩ := h
    rfl
  · obtain ⟨a, d, xs, kvs, G, rfl, ha, hd, pd, nd, hx, rg, k⟩ := h
    have hu := hu_of hr
    refine ⟨_, (pss_cons (ps_if (PW.pt (pw_or (pt_not (pt_val (pe_callBS call_isinst rfl T.n_isinstance bt_isinstance (pa_e (pv 0) (pa_e (pe_bltn (v := .ty "list") rfl T.n_list bt_list rfl) pa_nil))))) (pw_or (pt_cmpR (op_eqA hu) (pe_callBS call_len_q rfl T.n_len bt_len (pa_e (pv 0) pa_nil)) pe_int (nomark _)) (pw_or1 (pt_cmpR (op_neA hu) (pe_lset rfl rfl T.n_len rfl T.n_set (pv 0)) (pe_callBS call_len_q rfl T.n_len bt_len (pa_e (pv 0) pa_nil)) (nomark _)))))) (pss_one (ps_ret pe_bl)) pss_nil)
 (pss_cons (ps_for PassesOwn.never rfl (pi_rangeS1 rfl T.n_range (pa_e (pe_callBS call_len_q rfl T.n_len bt_len (pa_e (pv 0) pa_nil)) pa_nil)) (pg_name (i := 2) sc_law_is_ring.nd rfl (Or.inl rfl))
 (pss_one (ps_if (PW.pt (pw_or (pt_cmpR (op_notInA hu) (pe_item hu (pv 0) (pe_op op_sub (pv 2) pe_int) (fun _ _ => rfl)) (pv 1) rfl) (pw_or1 (pt_cmpR (op_notInA hu) (pe_item hu (pv 0) (pv 2) (fun _ _ => rfl)) (pe_item hu (pv 1) (pe_item hu (pv 0) (pe_op op_sub (pv 2) pe_int) (fun _ _ => rfl)) (fun _ _ => rfl)) rfl)))) (pss_one (ps_ret pe_bl)) pss_nil)))
 (pss_one (ps_ret pe_bl)))), ?_⟩
    walk_at "rd"
    have hne : xs ≠ [] := rg.1
    have hpos := List.length_pos_iff.mpr hne
    have e1 : (xs.map V.str).length = xs.length := List.length_map ..
    refine ⟨_, ty_lst ha, ?_⟩
    rw [if_neg (by decide)]
    refine ⟨_, .inl ha, rfl, ?_⟩
    rw [if_neg (by rw [e1]; simp; omega)]
    refine ⟨xs, ha, rg.2.1, hx, _, .inl ha, rfl, ?_⟩
    rw [e1, decide_eq_true rfl, if_neg (by decide)]
    refine ⟨_, .inl ha, ?_⟩
    rw [e1]
    refine ⟨by omega, by omega, ?_⟩
    have en : ((xs.length : Nat) : Int).toNat = xs.length := by omega
    rw [en]
    have ndk : (kvs.map (·.1)).Nodup := by rw [pd.keys]; exact inr_nodup nd
    refine for_w (goesR 0 _) (RgInv a d H) ⟨_, rfl, rfl⟩ (fun _ _ _ _ _ => trivial) (fun i x σ H4 hi hx2 h => ?_) (fun σ H4 h => ?_)
    · obtain ⟨o, rfl, rfl⟩ := h
      subst hx2
      obtain ⟨x, hxi⟩ : ∃ x, xs[i]? = some x := ⟨_, List.getElem?_eq_getElem hi⟩
      obtain ⟨y, hy, ps, hm, hxp⟩ := rg.2.2 i x hxi
      have hprev : Item H4 (.ref a) (.int (0 + (i : Int) - 1)) (.str y) := by
        refine .inl ⟨a, _, _, rfl, rfl, .inl ha, ?_⟩
        unfold atI ixN
        rw [e1]
        by_cases z : i = 0
        · subst z
          rw [if_pos rfl] at hy
          rw [if_neg (by decide), if_pos (by omega)]
          show (xs.map V.str)[((0 : Int) + ((0 : Nat) : Int) - 1 + xs.length).toNat]? = _
          rw [show ((0 : Int) + ((0 : Nat) : Int) - 1 + xs.length).toNat = xs.length - 1 by omega, List.getElem?_map, hy]
          rfl
        · rw [if_neg z] at hy
          rw [if_pos (by omega), if_pos (by omega)]
          show (xs.map V.str)[(0 + (i : Int) - 1).toNat]? = _
          rw [show (0 + (i : Int) - 1).toNat = i - 1 by omega, List.getElem?_map, hy]
          rfl
      have hcur : Item H4 (.ref a) (.int (0 + (i : Int))) (.str x) := item_i (.inl ha) (by omega) (by rw [show (0 + (i : Int)).toNat = i by omega, List.getElem?_map, hxi]; rfl)
      have hyk : y ∈ keysG G := List.mem_map.mpr ⟨_, hm, rfl⟩
      obtain ⟨j, hj⟩ := List.getElem?_of_mem hm
      obtain ⟨l2, hk2, hl2⟩ := pd.get hj
      have hv2 : valV kvs (.inr y) = some (.ref l2) := valV_nodup ndk hk2
      walk_at "rd"
      refine ⟨_, hprev, true, .inr (.inr ⟨d, kvs, .inr y, rfl, rfl, .inl hd, by rw [pd.has, decide_eq_true hyk]⟩), ?_⟩
      rw [if_neg (by decide)]
      refine ⟨_, hcur, _, hprev, _, item_d (.inl hd) hv2, true, .inl ⟨l2, _, rfl, .inl hl2, rfl, all_flatS _, by rw [inV_strs, decide_eq_true hxp]⟩, ?_⟩
      rw [if_neg (by decide)]
      exact ⟨_, rfl, rfl⟩
    · obtain ⟨o, rfl, rfl⟩ := h
      walk_at "rd"
      exact k
theorem any_entry {G : Gr} {e : Str × List Str} (nd : (keysG G).Nodup) (he : e ∈ G) (p : Str → Bool) : (G.any fun q => decide (q.1 = e.1) && q.2.any p) = e.2.any p := by
  rw [Bool.eq_iff_iff, List.any_eq_true]
  constructor
  · rintro ⟨q, hq, h⟩
    rw [Bool.and_eq_true, decide_eq_true_iff] at h
    have he' : (q.1, e.2) ∈ G := by rw [h.1]; exact he
    rw [← entry_one nd (show (q.1, q.2) ∈ G from hq) he']
    exact h.2
  · intro h
    exact ⟨e, he, by rw [h, decide_eq_true rfl]; rfl⟩
def HnInv (d : Addr) (G : Gr) (H : Hp) (i : Nat) (σ : St) (H' : Hp) : Prop := ∃ (q : Addr) (o : Option V), σ = [some (.ref d), some (.ref q), o] ∧ H' q = some (.lst ((keysG (cutN i G)).map V.str)) ∧ Same H H'
def HnAcc (q : Addr) (ks : List Str) (f : Str → Bool) (H : Hp) (j : Nat) (acc : List V) (H' : Hp) : Prop := acc = ((ks.take j).filter f).map V.str ∧ H' q = some (.lst (ks.map V.str)) ∧ Same H H'
def sp_law_has_none : Sp := fun vs H Q _ => ∃ (d : Addr) (kvs : List (Key × V)) (G : Gr), vs = [.ref d] ∧ H d = some (.dK kvs) ∧ PDk H kvs G ∧ (keysG G).Nodup ∧ G.length ≤ 1000 ∧ (∀ e ∈ G, e.2.length ≤ 1000) ∧ cutN G.length G = [] ∧ ∀ H', Same H H' → Q (.bl true) H'
theorem sc_law_has_none : FnScope ["_law_parts_here", "_law_left", "_law_turn"] ["_law_parts_here"] (defScope s_law_has_none) := ⟨rfl, rfl, rfl, by decide +kernel, rfl, by decide +kernel, by decide +kernel⟩
theorem ok_law_has_none {f : Addr} {fd : FuncData} (F : Fun K "_law_has_none" "_law_has_none" s_law_has_none f fd) (T : Txt mg) {c : Cl} (C : Exc K mg c) : FnOk P w K mg base CX0 1 f fd ["_law_parts_here"] sp_law_has_none := by
  refine F.ok sc_law_has_none (fun vs H Q E h => ?_) (fun cdv A outer s H vs Q E hr h => ?_)
  · obtain ⟨d, kvs, G, rfl, _⟩ := h
    rfl
  · obtain ⟨d, kvs, G, rfl, hd, pd, nd, hl, hps, h0, k⟩ := h
    have hu := hu_of hr
    have hu4 := hu64_of hr
    refine ⟨_, (pss_cons (ps_set (i := 1) sc_law_has_none.nd rfl (Or.inr rfl) (pe_callTS (call_listD rfl) rfl T.n_list bt_list (pa_e (pv 0) pa_nil)))
 (pss_cons (ps_for PassesOwn.never rfl (pi_rangeS1 rfl T.n_range (pa_e (pe_callBS call_len_d rfl T.n_len bt_len (pa_e (pv 0) pa_nil)) pa_nil)) (pg_name (i := 2) sc_law_has_none.nd rfl (Or.inl rfl))
 (pss_one (ps_set (i := 1) sc_law_has_none.nd rfl (Or.inr rfl) (pe_comp (own := ["_law_name"]) (cap := [0, 1]) rfl (cp_ok rfl) (gown_name (by decide)) (pi_lst (pv 1))
 (fun _ _ _ _ _ _ => ⟨(pg_name (i := 0) (of_decide_eq_true rfl) rfl (Or.inl rfl) (.inr rfl)), (pts_one (pt_val (pe_callBS (call_any rfl) rfl T.n_any bt_any (pa_e (pe_comp (own := ["_law_part"]) (cap := [2]) rfl (cp_ok rfl) (gown_name (by decide)) (pi_lst (pe_item hu (pv 1) (pv 0) (fun _ _ => rfl)))
 (fun _ _ _ _ _ _ => ⟨(pg_name (i := 0) (of_decide_eq_true rfl) rfl (Or.inl rfl) (.inr rfl)), pts_nil, (pe_cmpR (op_inA hu) (pv 0) (pv 1) rfl)⟩)) pa_nil)))), (pv 0)⟩)))))
 (pss_one (ps_ret (pe_cmpR (op_eqD hu4) (pv 1) (pe_lst pa_nil) (nomark _)))))), ?_⟩
    walk_at "rd"
    have hkl := pd.len
    have ndk : (kvs.map (·.1)).Nodup := by rw [pd.keys]; exact inr_nodup nd
    have ek : kvs.map (fun q => kV q.1) = (keysG G).map V.str := by
      have := congrArg (List.map kV) pd.keys
      rw [List.map_map, List.map_map] at this
      exact this
    refine ⟨d, kvs, rfl, .inl hd, by omega, fun p hp => ?_⟩
    rw [ek]
    have u := same_upd (o := .lst ((keysG G).map V.str)) hp
    refine ⟨kvs, u _ _ hd, by omega, by omega, ?_⟩
    have en : ((kvs.length : Nat) : Int).toNat = G.length := by omega
    rw [en]
    refine for_w (goesR 0 _) (HnInv d G H) ⟨p, _, rfl, upd_same, u⟩ (fun _ _ _ _ _ => trivial) (fun i x σ H4 hi hx2 h => ?_) (fun σ H4 h => ?_)
    · obtain ⟨q, o, rfl, hq, s4⟩ := h
      walk_at "rd"
      have hkn : (keysG (cutN i G)).length ≤ 1000 := by have := cutN_len G i; unfold keysG; rw [List.length_map]; omega
      have sub : ∀ x ∈ keysG (cutN i G), x ∈ keysG G := fun x hx => keys_le i hx 0 (Nat.zero_le _)
      have ht := keys_turn nd i
      generalize keysG (cutN i G) = ks at hq hkn sub ht
      refine ⟨_, hq, ?_⟩
      refine comp_w (goesL q _) (line1000 (by rw [List.length_map]; exact hkn)) (HnAcc q ks (fun x => G.any fun e => decide (e.1 = x) && e.2.any fun y => decide (y ∈ ks)) H) ⟨rfl, hq, s4⟩ (fun j acc H' _ h => h.2.1) (fun j acc H' h => ?_) (fun j x acc H5 hj hx h => ?_) (fun acc H5 h r hr5 => ?_)
      · rw [h.1, List.length_map]
        refine Nat.le_trans (List.length_filter_le _ _) ?_
        rw [List.length_take]
        omega
      · obtain ⟨hacc, hq5, s5⟩ := h
        rw [List.length_map] at hj
        obtain ⟨nm, hnm⟩ : ∃ nm, ks[j]? = some nm := ⟨_, List.getElem?_eq_getElem hj⟩
        rw [List.getElem?_map, hnm] at hx
        have hx : V.str nm = x := Option.some.inj hx
        subst hx
        obtain ⟨e, hem, een⟩ := List.mem_map.mp (sub nm (List.mem_of_getElem? hnm))
        obtain ⟨i2, hi2⟩ := List.getElem?_of_mem hem
        obtain ⟨l2, hk2, hl2⟩ := pd.get hi2
        have hv2 : valV kvs (.inr nm) = some (.ref l2) := by rw [← een]; exact valV_nodup ndk hk2
        walk_at "rd"
        have hl5 := s5 _ _ hl2
        refine ⟨_, item_d (.inl (s5 _ _ hd)) hv2, l2, rfl, _, hl5, ?_⟩
        refine comp_map (goesL l2 _) (line1000 (by rw [List.length_map]; exact hps e hem)) (fun H' s' => s' _ _ hl5) ((e.2.map fun y => decide (y ∈ ks)).map V.bl) (by rw [List.length_map, List.length_map, List.length_map]) (fun m y H' hm hy s' N M hN => ?_) (fun H6 s6 t ht6 => ?_)
        · rw [List.getElem?_map] at hy
          cases ey : e.2[m]? with
          | none => rw [ey] at hy; cases hy
          | some z =>
            rw [ey] at hy
            have hy : V.str z = y := Option.some.inj hy
            subst hy
            walk_at "rd"
            refine ⟨_, .inl ⟨q, _, rfl, .inl (s' _ _ hq5), rfl, all_flatS _, rfl⟩, hN _ _ s' ?_⟩
            rw [List.getElem?_map, List.getElem?_map, ey, inV_strs]
            rfl
        · refine ⟨t, rfl, _, upd_same, ?_⟩
          have s7 := s6.trans (same_upd (o := .lst ((e.2.map fun y => decide (y ∈ ks)).map V.bl)) ht6)
          have ea : ((e.2.map fun y => decide (y ∈ ks)).any id) = (G.any fun q => decide (q.1 = nm) && q.2.any fun y => decide (y ∈ ks)) := by
            rw [← een, any_entry nd hem, List.any_map]
            rfl
          have et : ∀ b : Bool, (G.any fun q => decide (q.1 = nm) && q.2.any fun y => decide (y ∈ ks)) = b → (ks.take (j + 1)).filter (fun x => G.any fun e => decide (e.1 = x) && e.2.any fun y => decide (y ∈ ks)) = (ks.take j).filter (fun x => G.any fun e => decide (e.1 = x) && e.2.any fun y => decide (y ∈ ks)) ++ if b = true then [nm] else [] := fun b hb => by
            rw [List.take_add_one, hnm, List.filter_append]
            congr 1
            rw [Option.toList, List.filter_cons, hb]
            rfl
          rw [ea]
          cases hb : (G.any fun q => decide (q.1 = nm) && q.2.any fun y => decide (y ∈ ks)) with
          | true =>
            rw [if_pos rfl]
            refine ⟨?_, s7 _ _ hq5, s5.trans s7⟩
            rw [et true hb, hacc, if_pos rfl, List.map_append]
            rfl
          | false =>
            rw [if_neg (by decide)]
            refine ⟨?_, s7 _ _ hq5, s5.trans s7⟩
            rw [et false hb, hacc, if_neg (by decide), List.append_nil]
      · obtain ⟨hacc, hq5, s5⟩ := h
        refine ⟨r, _, rfl, ?_, s5.trans (same_upd hr5)⟩
        rw [upd_same, hacc, List.length_map, List.take_length, ht]
    · obtain ⟨q, o, rfl, hq, s4⟩ := h
      rw [h0] at hq
      walk_at "rd"
      refine ⟨Nat.zero_le _, fun r hr4 => ⟨.list [], ?_, .list [], ?_, rfl, rfl, k _ (s4.trans (same_upd hr4))⟩⟩
      · rw [RD]
        exact ⟨q, [], rfl, same_upd hr4 _ _ hq, RDs.nil⟩
      · rw [RD]
        exact ⟨r, [], rfl, upd_same, RDs.nil⟩
end
set_option maxRecDepth 100000
set_option maxHeartbeats 4000000
section
variable {P : Program} {w : World} {K : PySem.W.Frag} {mg : Str → Option Value} {base : Heap} {Pt : Addr}
def Deed (c : Cl) (P : Program) (w : World) (K : PySem.W.Frag) (mg : Str → Option Value) (base : Heap) (Pt f : Addr) : Prop := ∃ sp, FnAt P w K mg base 7 f sp ∧ ∀ (H : Hp) (v : V) (S : Sh) (Q : VK) (E : XK), RD H S.d v → Knot S → Tb H Pt → (NoRing S → ∀ u H', Tb H' Pt → But Pt H H' → Q u H') → (¬ NoRing S → ∀ H', Same H H' → E (.ref c.Ring) none H') → sp [v] H Q E
def sp_law_refusal (c : Cl) (P : Program) (w : World) (K : PySem.W.Frag) (mg : Str → Option Value) (base : Heap) (Pt : Addr) : Sp := fun vs H Q _ => ∃ (v : V) (f : Addr) (S : Sh), vs = [v, .ref f] ∧ RD H S.d v ∧ Knot S ∧ Tb H Pt ∧ Deed c P w K mg base Pt f ∧
  (NoRing S → ∀ p H', H' p = some (.lst []) → Tb H' Pt → But Pt H H' → Q (.ref p) H') ∧ (¬ NoRing S → ∀ p H', H' p = some (.lst [.bl true, .bl true, .bl false]) → Tb H' Pt → But Pt H H' → Q (.ref p) H')
theorem sc_law_refusal : FnScope ["_law_shop", "_law_deed", "_law_found", "e", "_law_others"] ["_law_shop", "_law_deed"] (defScope s_law_refusal) := ⟨rfl, rfl, rfl, by decide +kernel, rfl, by decide +kernel, by decide +kernel⟩
theorem ok_law_refusal {f : Addr} {fd : FuncData} (F : Fun K "_law_refusal" "_law_refusal" s_law_refusal f fd) (T : Txt mg) {c : Cl} (C : Exc K mg c) : FnOk P w K mg base CX0 8 f fd ["_law_shop", "_law_deed"] (sp_law_refusal c P w K mg base Pt) := by
  refine F.ok sc_law_refusal (fun vs H Q E h => ?_) (fun cdv A outer s H vs Q E hr h => ?_)
  · obtain ⟨v, f, S, rfl, _⟩ := h
    rfl
  · obtain ⟨v, fa, S, rfl, rs, kn, tb, ⟨sp, fn, hsp⟩, k, ke⟩ := h
    have hu := hu_of hr
    refine ⟨_, (pss_cons (ps_set (i := 2) sc_law_refusal.nd rfl (Or.inl rfl) (pe_lst pa_nil))
 (pss_cons (ps_try (i := 3) (fits := fun cls => exmOne K cls (.ref c.NeedError) = some true) sc_law_refusal.nd rfl rfl rfl rfl rfl C.m_NeedError (fun _ h => h) (fun _ _ _ hp => (pss_one (ps_expr (pe_callV (k := 7) rfl rfl rfl rfl rfl (pv 1) hp (hr.mono (by decide)) (pa_e (pv 0) pa_nil))))) (fun _ => (pss_cons (ps_set (i := 4) sc_law_refusal.nd rfl (Or.inl rfl) (pe_callBS (call_isEK (K0 := K) rfl) rfl T.n_isinstance bt_isinstance (pa_e (pv 3) (pa_e (pe_tup (pa_e (pe_glob (v := .ref c.NoBuy) rfl C.m_NoBuy rfl) (pa_e (pe_glob (v := .ref c.NoDay) rfl C.m_NoDay rfl) (pa_e (pe_glob (v := .ref c.NoName) rfl C.m_NoName rfl) (pa_e (pe_glob (v := .ref c.NoPlan) rfl C.m_NoPlan rfl) (pa_e (pe_glob (v := .ref c.NoShop) rfl C.m_NoShop rfl) (pa_e (pe_glob (v := .ref c.NoText) rfl C.m_NoText rfl) pa_nil))))))) pa_nil))))
 (pss_one (ps_set (i := 2) sc_law_refusal.nd rfl (Or.inl rfl) (pe_lst (pa_e (pe_callBS (call_isEK (K0 := K) rfl) rfl T.n_isinstance bt_isinstance (pa_e (pv 3) (pa_e (pe_glob (v := .ref c.Ring) rfl C.m_Ring rfl) pa_nil))) (pa_e (pe_callBS (call_isEK (K0 := K) rfl) rfl T.n_isinstance bt_isinstance (pa_e (pv 3) (pa_e (pe_bltn (v := .ty "ValueError") rfl T.n_ValueError bt_ValueError rfl) pa_nil))) (pa_e (pv 4) pa_nil)))))))))
 (pss_one (ps_ret (pv 2))))), ?_⟩
    walk_at "rd"
    refine ⟨by decide, fun p hp => ⟨sp, fn, ?_⟩⟩
    have u := same_upd (o := .lst []) hp
    have ppt : p ≠ Pt := fun z => by obtain ⟨t, e⟩ := tb.at; rw [← z, hp] at e; cases e
    refine hsp _ v S _ _ (RD.same u _ _ rs) kn (tb.same u) (fun no x H1 tb1 b1 => k no p H1 (b1 _ _ ppt upd_same) tb1 (fun b o nb e => b1 b o nb (u b o e))) (fun no H1 s1 => ⟨C.x_Ring_NeedError, fun e he => ⟨by decide, fun q hq => ?_⟩⟩)
    have u2 := same_upd (o := excO e (.ref c.Ring)) he
    have u3 := same_upd (o := .tup [V.ref c.NoBuy, V.ref c.NoDay, V.ref c.NoName, V.ref c.NoPlan, V.ref c.NoShop, V.ref c.NoText]) hq
    refine ⟨c.Ring, u3 _ _ upd_same, C.o_Ring, false, .inr ⟨[c.NoBuy, c.NoDay, c.NoName, c.NoPlan, c.NoShop, c.NoText], upd_same, ?_⟩, c.Ring, u3 _ _ upd_same, C.o_Ring, true, .inl C.k_Ring_Ring, c.Ring, u3 _ _ upd_same, C.o_Ring, true, C.k_Ring_ValueError, by decide, fun t ht => ?_⟩
    · simp only [List.map_cons, List.map_nil, kitAny, C.k_Ring_NoBuy, C.k_Ring_NoDay, C.k_Ring_NoName, C.k_Ring_NoPlan, C.k_Ring_NoShop, C.k_Ring_NoText]
    · have s4 := (u.trans s1).trans ((u2.trans u3).trans (same_upd (o := .lst [V.bl true, V.bl true, V.bl false]) ht))
      exact ke no t _ upd_same (tb.same s4) (same_but s4)
end
set_option maxRecDepth 100000
set_option maxHeartbeats 4000000
section
variable {P : Program} {w : World} {K : PySem.W.Frag} {mg : Str → Option Value} {base : Heap} {Pt : Addr}
theorem cut5 {t t2 t3 t4 t5 u : TS} {D : Ends} {σ : St} {H : Hp} (M : St → Hp → Prop) (hrest : ∀ σ' H', M σ' H' → u D σ' H')
    (h : ∀ KK : St → Hp → Prop, (∀ σ' H', M σ' H' → KK σ' H') → tSeq t (tSeq t2 (tSeq t3 (tSeq t4 t5))) { D with nx := KK } σ H) : tSeq t (tSeq t2 (tSeq t3 (tSeq t4 (tSeq t5 u)))) D σ H := h (u D) hrest
def ttf : PyData := .list [.bool true, .bool true, .bool false]
theorem rd_ttf {H : Hp} {a : Addr} (h : H a = some (.lst [V.bl true, V.bl true, V.bl false])) : RD H ttf (.ref a) := by
  unfold ttf
  rw [RD]
  refine ⟨a, _, rfl, h, RDs.cons ?_ (RDs.cons ?_ (RDs.one ?_))⟩ <;> rw [RD]
theorem okD_ttf : okD ttf = true := by decide +kernel
theorem eqv_ttf : PyData.eqv ttf ttf = true := by decide +kernel
theorem rd_nil {H : Hp} {a : Addr} (h : H a = some (.lst [])) : RD H (.list []) (.ref a) := by
  rw [RD]
  exact ⟨a, [], rfl, h, RDs.nil⟩
def Due (S : Sh) (H : Hp) (a : Addr) : Prop := (NoRing S ∧ H a = some (.lst [])) ∨ (¬ NoRing S ∧ H a = some (.lst [.bl true, .bl true, .bl false]))
def LwInv (a st : Addr) (Pt : Addr) (i : Nat) (σ : St) (H' : Hp) : Prop := ∃ o2 o3 o4 o5 o6 o7 : Option V, σ = [some (.ref a), some (.ref st), o2, o3, o4, o5, o6, o7] ∧ StOk H' st ∧ Tb H' Pt
def DdInv (a st du : Addr) (x2 v x4 x5 : V) (H : Hp) (Pt : Addr) (i : Nat) (σ : St) (H' : Hp) : Prop := ∃ o7 : Option V, σ = [some (.ref a), some (.ref st), some x2, some v, some x4, some x5, some (.ref du), o7] ∧ Tb H' Pt ∧ But Pt H H'
def LwMid (a st : Addr) (Pt : Addr) (σ : St) (H' : Hp) : Prop := ∃ (x2 v x4 x5 : V) (du : Addr) (o7 : Option V) (S : Sh), σ = [some (.ref a), some (.ref st), some x2, some v, some x4, some x5, some (.ref du), o7] ∧ RD H' S.d v ∧ Knot S ∧ Due S H' du ∧ StOk H' st ∧ Tb H' Pt
def sp_law (K : PySem.W.Frag) (Pt : Addr) : Sp := fun vs H Q _ => ∃ (a : Addr) (ns : List Int), vs = [.ref a] ∧ SqL K H a (ns.map V.int) ∧ ns.length ≤ 63 ∧ Tb H Pt ∧ ∀ H', Q (.bl true) H'
theorem sc_law : FnScope ["_law_script", "_law_state", "_law_k", "_law_shop", "_law_parts_here", "_law_found", "_law_due", "_law_deed"] ["_law_script"] (defScope s_law) := ⟨rfl, rfl, rfl, by decide +kernel, rfl, by decide +kernel, by decide +kernel⟩
theorem ok_law {f : Addr} {fd : FuncData} (F : Fun K "law" "law" s_law f fd) (T : Txt mg) {c : Cl} (C : Exc K mg c) (h_law_drawn : Has P w K mg base "_law_drawn" 1 ["_law_script"] (sp_law_drawn K)) (h_law_knotted : Has P w K mg base "_law_knotted" 5 ["_law_state"] sp_law_knotted) (h_law_parts : Has P w K mg base "_law_parts" 1 ["_law_shop"] sp_law_parts) (h_ring : Has P w K mg base "ring" 3 ["shop"] sp_ring) (h_law_has_none : Has P w K mg base "_law_has_none" 1 ["_law_parts_here"] sp_law_has_none) (h_law_is_ring : Has P w K mg base "_law_is_ring" 1 ["_law_found", "_law_parts_here"] sp_law_is_ring) (h_explode : HasX P w K mg base "explode" 7 ["shop"] (sp_explode c Pt)) (h_times : HasX P w K mg base "times" 7 ["shop"] (sp_times c Pt)) (h_worked : HasX P w K mg base "worked" 6 ["shop"] (sp_worked c Pt)) (h_levels : HasX P w K mg base "levels" 5 ["shop"] (sp_levels c)) (h_check_rings : HasX P w K mg base "check_rings" 4 ["shop"] (sp_check_rings c)) (h_law_refusal : Has P w K mg base "_law_refusal" 8 ["_law_shop", "_law_deed"] (sp_law_refusal c P w K mg base Pt)) : FnOk P w K mg base CX0 9 f fd ["_law_script"] (sp_law K Pt) := by
  refine F.ok sc_law (fun vs H Q E h => ?_) (fun cdv A outer s H vs Q E hr h => ?_)
  · obtain ⟨a, ns, rfl, _⟩ := h
    rfl
  · obtain ⟨a, ns, rfl, hS, hlen, tb, k⟩ := h
    have hu := hu_of hr
    have hu4 := hu64_of hr
    obtain ⟨f_explode, fd1, m_explode, k1, b1, o1⟩ := h_explode
    obtain ⟨f_times, fd2, m_times, k2, b2, o2⟩ := h_times
    obtain ⟨f_worked, fd3, m_worked, k3, b3, o3⟩ := h_worked
    obtain ⟨f_levels, fd4, m_levels, k4, b4, o4⟩ := h_levels
    obtain ⟨f_check_rings, fd5, m_check_rings, k5, b5, o5⟩ := h_check_rings
    have d5 : Deed c P w K mg base Pt f_check_rings := ⟨_, ⟨fd5, _, k5, b5, o5.wider (by decide) fun _ _ _ _ z => z⟩, fun H v S Q E rs kn tb k ke => ⟨v, S, rfl, rs, kn.kn.ok, kn.kn.nl, kn.kn.own, fun no H' s => k no _ H' (tb.same s) (same_but s), ke⟩⟩
    have d4 : Deed c P w K mg base Pt f_levels := ⟨_, ⟨fd4, _, k4, b4, o4.wider (by decide) fun _ _ _ _ z => z⟩, fun H v S Q E rs kn tb k ke => ⟨v, S, rfl, rs, kn.kn, fun no p H' _ _ s => k no _ H' (tb.same s) (same_but s), ke⟩⟩
    have d3 : Deed c P w K mg base Pt f_worked := ⟨_, ⟨fd3, _, k3, b3, o3.wider (by decide) fun _ _ _ _ z => z⟩, fun H v S Q E rs kn tb k ke => ⟨v, S, rfl, rs, kn.kn, tb, fun no p ys H' _ _ _ _ t' b => k no _ H' t' b, ke⟩⟩
    have d2 : Deed c P w K mg base Pt f_times := ⟨_, ⟨fd2, _, k2, b2, o2.wider (by decide) fun _ _ _ _ z => z⟩, fun H v S Q E rs kn tb k ke => ⟨v, S, rfl, rs, kn.kn, tb, fun no p ys H' _ _ _ t' b => k no _ H' t' b, ke⟩⟩
    have d1 : Deed c P w K mg base Pt f_explode := ⟨_, ⟨fd1, _, k1, b1, o1.wider (by decide) fun _ _ _ _ z => z⟩, fun H v S Q E rs kn tb k ke => ⟨v, S, rfl, rs, kn.kn, kn.ex, tb, fun no p ys H' _ _ _ t' b => k no _ H' t' b, ke⟩⟩
    refine ⟨_, (pss_cons (ps_set (i := 1) sc_law.nd rfl (Or.inl rfl) (pe_callS h_law_drawn (hr.mono (by decide)) rfl (pa_e (pv 0) pa_nil)))
 (pss_cons (ps_for PassesOwn.never rfl (pi_rangeS1 rfl T.n_range (pa_e pe_int pa_nil)) (pg_name (i := 2) sc_law.nd rfl (Or.inl rfl))
 (pss_cons (ps_set (i := 3) sc_law.nd rfl (Or.inl rfl) (pe_callS h_law_knotted (hr.mono (by decide)) rfl (pa_e (pv 1) pa_nil)))
 (pss_cons (ps_set (i := 4) sc_law.nd rfl (Or.inl rfl) (pe_callS h_law_parts (hr.mono (by decide)) rfl (pa_e (pv 3) pa_nil)))
 (pss_cons (ps_set (i := 5) sc_law.nd rfl (Or.inl rfl) (pe_callS h_ring (hr.mono (by decide)) rfl (pa_e (pv 3) pa_nil)))
 (pss_cons (ps_set (i := 6) sc_law.nd rfl (Or.inl rfl) (pe_lst pa_nil))
 (pss_cons (ps_if (pt_cmpR op_isA (pv 5) pe_non (nomark _)) (pss_one (ps_if (pt_not (pt_val (pe_callS h_law_has_none (hr.mono (by decide)) rfl (pa_e (pv 4) pa_nil)))) (pss_one (ps_ret pe_bl)) pss_nil)) (pss_cons (ps_set (i := 6) sc_law.nd rfl (Or.inl rfl) (pe_lst (pa_e pe_bl (pa_e pe_bl (pa_e pe_bl pa_nil)))))
 (pss_cons (ps_if (pt_not (pt_val (pe_callS h_law_is_ring (hr.mono (by decide)) rfl (pa_e (pv 5) (pa_e (pv 4) pa_nil))))) (pss_one (ps_ret pe_bl)) pss_nil)
 (pss_cons (ps_expr (pe_bs PySem.F.plainAttrs_list PySem.F.slot_list_append PySem.F.type_list_append mt_append (pv 5) (pa_e pe_str pa_nil)))
 (pss_one (ps_if (pt_not (pt_val (pe_callS h_law_is_ring (hr.mono (by decide)) rfl (pa_e (pe_callS h_ring (hr.mono (by decide)) rfl (pa_e (pv 3) pa_nil)) (pa_e (pv 4) pa_nil))))) (pss_one (ps_ret pe_bl)) pss_nil))))))
 (pss_one (ps_for PassesOwn.never rfl (pi_tpl (pe_tup (pa_e (pe_glob (v := .ref f_check_rings) rfl m_check_rings rfl) (pa_e (pe_glob (v := .ref f_levels) rfl m_levels rfl) (pa_e (pe_glob (v := .ref f_worked) rfl m_worked rfl) (pa_e (pe_glob (v := .ref f_times) rfl m_times rfl) (pa_e (pe_glob (v := .ref f_explode) rfl m_explode rfl) pa_nil))))))) (pg_name (i := 7) sc_law.nd rfl (Or.inl rfl))
 (pss_one (ps_if (pt_cmpR (op_neD hu4) (pe_callS h_law_refusal (hr.mono (by decide)) rfl (pa_e (pv 3) (pa_e (pv 7) pa_nil))) (pv 6) (nomark _)) (pss_one (ps_ret pe_bl)) pss_nil))))))))))
 (pss_one (ps_ret pe_bl)))), ?_⟩
    walk_at "rd"
    refine ⟨a, ns, rfl, hS, hlen, fun st H1 s1 sm1 => ?_⟩
    have tb1 := tb.same sm1
    refine ⟨by decide, by decide, ?_⟩
    refine for_w (goesR 0 _) (LwInv a st Pt) ⟨_, _, _, _, _, _, rfl, s1, tb1⟩ (fun _ _ _ _ _ => trivial) (fun i x σ H2 hi hx h => ?_) (fun σ H2 h => ?_)
    · obtain ⟨o2, o3, o4, o5, o6, o7, rfl, s2, tb2⟩ := h
      refine cut5 (LwMid a st Pt) (fun σ' H' hM => ?_) (fun KK hK => ?_)
      · obtain ⟨x2, v, x4, x5, du, o7, S, rfl, rs, kn, due, s3, tb3⟩ := hM
        walk_at "rd"
        have uu := fun (q : Addr) (hq : H' q = none) => same_upd (o := .tup [V.ref f_check_rings, V.ref f_levels, V.ref f_worked, V.ref f_times, V.ref f_explode]) hq
        refine ⟨by decide, fun t ht => ⟨_, upd_same, ?_⟩⟩
        have u := uu t ht
        have ht4 := upd_same (H := H') (a := t) (o := .tup [V.ref f_check_rings, V.ref f_levels, V.ref f_worked, V.ref f_times, V.ref f_explode])
        have rs4 := RD.same u _ _ rs
        have s4 := s3.same u
        have tb4 := tb3.same u
        have due4 : Due S (upd H' t (.tup [V.ref f_check_rings, V.ref f_levels, V.ref f_worked, V.ref f_times, V.ref f_explode])) du := due.imp (fun z => ⟨z.1, u _ _ z.2⟩) (fun z => ⟨z.1, u _ _ z.2⟩)
        generalize upd H' t (.tup [V.ref f_check_rings, V.ref f_levels, V.ref f_worked, V.ref f_times, V.ref f_explode]) = H4 at ht4 rs4 s4 tb4 due4 ⊢
        have tPt : t ≠ Pt := tb_ne tb4 ht4 (fun _ z => by cases z)
        have stPt : st ≠ Pt := by obtain ⟨ns, _, e⟩ := s4; exact tb_ne tb4 e (fun _ z => by cases z)
        refine for_w (goesT t _) (DdInv a st du x2 v x4 x5 H4 Pt) ⟨_, rfl, tb4, But.refl _ _⟩ (fun i σ H' _ h => let ⟨_, _, _, b⟩ := h; b _ _ tPt ht4) (fun i x σ H5 hi hx h => ?_) (fun σ H5 h => ?_)
        · obtain ⟨o7, rfl, tb5, b5'⟩ := h
          obtain ⟨fa, rfl, dd⟩ : ∃ fa, x = .ref fa ∧ Deed c P w K mg base Pt fa := by
            match i, hi, hx with
            | 0, _, hx => exact ⟨f_check_rings, (Option.some.inj hx).symm, d5⟩
            | 1, _, hx => exact ⟨f_levels, (Option.some.inj hx).symm, d4⟩
            | 2, _, hx => exact ⟨f_worked, (Option.some.inj hx).symm, d3⟩
            | 3, _, hx => exact ⟨f_times, (Option.some.inj hx).symm, d2⟩
            | 4, _, hx => exact ⟨f_explode, (Option.some.inj hx).symm, d1⟩
            | n + 5, hi, _ => exact absurd hi (by simp)
          walk_at "rd"
          have rs5 := RD.ku (tb_ku tb4 b5') _ _ (nl_shop S) rs4
          refine ⟨v, fa, S, rfl, rs5, kn, tb5, dd, fun no p H6 hp6 tb6 b6 => ?_, fun no p H6 hp6 tb6 b6 => ?_⟩
          · have hd : H4 du = some (.lst []) := by
              rcases due4 with z | z
              · exact z.2
              · exact absurd no z.1
            have dPt : du ≠ Pt := tb_ne tb4 hd (fun _ z => by cases z)
            refine ⟨_, rd_nil hp6, _, rd_nil (b6 _ _ dPt (b5' _ _ dPt hd)), rfl, rfl, ?_⟩
            rw [if_neg (by decide)]
            exact ⟨_, rfl, tb6, fun b o nb e => b6 b o nb (b5' b o nb e)⟩
          · have hd : H4 du = some (.lst [.bl true, .bl true, .bl false]) := by
              rcases due4 with z | z
              · exact absurd z.1 no
              · exact z.2
            have dPt : du ≠ Pt := tb_ne tb4 hd (fun _ z => by cases z)
            refine ⟨_, rd_ttf hp6, _, rd_ttf (b6 _ _ dPt (b5' _ _ dPt hd)), okD_ttf, okD_ttf, ?_⟩
            rw [eqv_ttf, if_neg (by decide)]
            exact ⟨_, rfl, tb6, fun b o nb e => b6 b o nb (b5' b o nb e)⟩
        · obtain ⟨o7, rfl, tb5, b5'⟩ := h
          refine ⟨_, _, _, _, _, _, rfl, ?_, tb5⟩
          obtain ⟨ns, q, e⟩ := s4
          exact ⟨ns, q, b5' _ _ stPt e⟩
      · walk_at "rd"
        refine ⟨st, rfl, s2, fun v S H3 rs kn s3 b3 => ?_⟩
        have tb3 := tb_but tb2 b3 s2
        refine ⟨v, S, rfl, rs, kn.kn.ok, fun pd kvs H4 hpd hpd4 pdk s4 => ?_⟩
        have nd : (keysG (grOf S)).Nodup := by rw [keys_gr]; exact kn.kn.ok.names
        have st4 := s3.same s4
        have tb4 := tb3.same s4
        have rs4 := RD.same s4 _ _ rs
        refine ⟨v, S, rfl, rs4, kn.kn.ok, fun no H5 s5 => ⟨by decide, fun du hdu => ?_⟩, fun fo H5 xs no hfo hfo5 hxl rg s5 => ⟨by decide, fun du hdu => ?_⟩⟩
        · walk_at "rd"
          have u := s5.trans (same_upd (o := .lst []) hdu)
          rw [if_pos (by decide)]
          refine ⟨pd, kvs, grOf S, rfl, u _ _ hpd4, pdk.mono fun l xs h => u _ _ h, nd, by rw [gr_len]; exact kn.kn.ok.len, gr_parts kn.kn.ok, by rw [gr_len]; exact no, fun H6 s6 => ⟨true, rfl, ?_⟩⟩
          rw [if_neg (by decide)]
          have s46 := u.trans s6
          exact hK _ _ ⟨_, v, _, _, du, _, S, rfl, RD.same s46 _ _ rs4, kn, .inl ⟨no, s6 _ _ upd_same⟩, st4.same s46, tb4.same s46⟩
        · walk_at "rd"
          have u := s5.trans (same_upd (o := .lst []) hdu)
          rw [if_neg (by decide)]
          refine ⟨by decide, fun dv hdv => ?_⟩
          have v1 := same_upd (o := .lst [V.bl true, V.bl true, V.bl false]) hdv
          have u2 := u.trans v1
          have hfo6 := v1 _ _ (same_upd (o := .lst []) hdu _ _ hfo5)
          have hdv6 := upd_same (H := upd H5 du (.lst [])) (a := dv) (o := .lst [V.bl true, V.bl true, V.bl false])
          have dvf : dv ≠ fo := fun z => by rw [z, same_upd (o := .lst []) hdu _ _ hfo5] at hdv; cases hdv
          generalize upd (upd H5 du (.lst [])) dv (.lst [V.bl true, V.bl true, V.bl false]) = H6 at u2 hfo6 hdv6 ⊢
          refine ⟨fo, pd, xs, kvs, grOf S, rfl, hfo6, u2 _ _ hpd4, pdk.mono fun l xs h => u2 _ _ h, nd, hxl, rg, true, rfl, ?_⟩
          rw [if_neg (by decide)]
          refine ⟨ty_lst hfo6, _, hfo6, by rw [List.length_map]; exact Nat.lt_of_le_of_lt (m := 1000) hxl (by decide), ?_⟩
          have u3 : Same H4 (upd H6 fo (.lst (xs.map V.str ++ [V.str (Str.ofString "")]))) := fun b o hb => by rw [upd_ne (ne_of_none hb hfo)]; exact u2 b o hb
          have hdv7 : upd H6 fo (.lst (xs.map V.str ++ [V.str (Str.ofString "")])) dv = some (.lst [V.bl true, V.bl true, V.bl false]) := by rw [upd_ne dvf]; exact hdv6
          generalize upd H6 fo (.lst (xs.map V.str ++ [V.str (Str.ofString "")])) = H7 at u3 hdv7 ⊢
          refine ⟨v, S, rfl, RD.same u3 _ _ rs4, kn.kn.ok, fun z => absurd z no, fun fo2 H8 ys _ hf2 hf28 hyl rg2 s8 => ?_⟩
          have u4 := u3.trans s8
          refine ⟨fo2, pd, ys, kvs, grOf S, rfl, hf28, u4 _ _ hpd4, pdk.mono fun l xs h => u4 _ _ h, nd, hyl, rg2, true, rfl, ?_⟩
          rw [if_neg (by decide)]
          exact hK _ _ ⟨_, v, _, _, dv, _, S, rfl, RD.same u4 _ _ rs4, kn, .inr ⟨no, s8 _ _ hdv7⟩, st4.same u4, tb4.same u4⟩
    · obtain ⟨o2, o3, o4, o5, o6, o7, rfl, s2, tb2⟩ := h
      walk_at "rd"
      exact k _
end
theorem all_mk {l : PySem.W.OpenLaw} {w : World} {K : PySem.W.Frag} {h : Heap} {mg : Str → Option Value} {fa : Addr} (X : K.In h) (G : h.Ns mainGlobals mg) (hfa : mg "law" = some (.ref fa))
    {f1 : Addr} {od1 an1 : Option Addr} {sl1 : Array (Option Value)} {oc1 kV1 dc1 pm1 cd1 ct1 : Value} {f2 : Addr} {od2 an2 : Option Addr} {sl2 : Array (Option Value)} {oc2 kV2 dc2 pm2 cd2 ct2 : Value} {f3 : Addr} {od3 an3 : Option Addr} {sl3 : Array (Option Value)} {oc3 kV3 dc3 pm3 cd3 ct3 : Value} {f4 : Addr} {od4 an4 : Option Addr} {sl4 : Array (Option Value)} {oc4 kV4 dc4 pm4 cd4 ct4 : Value} {f5 : Addr} {od5 an5 : Option Addr} {sl5 : Array (Option Value)} {oc5 kV5 dc5 pm5 cd5 ct5 : Value} {f6 : Addr} {od6 an6 : Option Addr} {sl6 : Array (Option Value)} {oc6 kV6 dc6 pm6 cd6 ct6 : Value} {f7 : Addr} {od7 an7 : Option Addr} {sl7 : Array (Option Value)} {oc7 kV7 dc7 pm7 cd7 ct7 : Value} {f8 : Addr} {od8 an8 : Option Addr} {sl8 : Array (Option Value)} {oc8 kV8 dc8 pm8 cd8 ct8 : Value} {f9 : Addr} {od9 an9 : Option Addr} {sl9 : Array (Option Value)} {oc9 kV9 dc9 pm9 cd9 ct9 : Value} {f10 : Addr} {od10 an10 : Option Addr} {sl10 : Array (Option Value)} {oc10 kV10 dc10 pm10 cd10 ct10 : Value} {f11 : Addr} {od11 an11 : Option Addr} {sl11 : Array (Option Value)} {oc11 kV11 dc11 pm11 cd11 ct11 : Value} {f12 : Addr} {od12 an12 : Option Addr} {sl12 : Array (Option Value)} {oc12 kV12 dc12 pm12 cd12 ct12 : Value} {f13 : Addr} {od13 an13 : Option Addr} {sl13 : Array (Option Value)} {oc13 kV13 dc13 pm13 cd13 ct13 : Value} {f14 : Addr} {od14 an14 : Option Addr} {sl14 : Array (Option Value)} {oc14 kV14 dc14 pm14 cd14 ct14 : Value} {f15 : Addr} {od15 an15 : Option Addr} {sl15 : Array (Option Value)} {oc15 kV15 dc15 pm15 cd15 ct15 : Value} {f16 : Addr} {od16 an16 : Option Addr} {sl16 : Array (Option Value)} {oc16 kV16 dc16 pm16 cd16 ct16 : Value} {f17 : Addr} {od17 an17 : Option Addr} {sl17 : Array (Option Value)} {oc17 kV17 dc17 pm17 cd17 ct17 : Value} {f18 : Addr} {od18 an18 : Option Addr} {sl18 : Array (Option Value)} {oc18 kV18 dc18 pm18 cd18 ct18 : Value} {f19 : Addr} {od19 an19 : Option Addr} {sl19 : Array (Option Value)} {oc19 kV19 dc19 pm19 cd19 ct19 : Value} {f20 : Addr} {od20 an20 : Option Addr} {sl20 : Array (Option Value)} {oc20 kV20 dc20 pm20 cd20 ct20 : Value} {f21 : Addr} {od21 an21 : Option Addr} {sl21 : Array (Option Value)} {oc21 kV21 dc21 pm21 cd21 ct21 : Value} {f22 : Addr} {od22 an22 : Option Addr} {sl22 : Array (Option Value)} {oc22 kV22 dc22 pm22 cd22 ct22 : Value} {f23 : Addr} {od23 an23 : Option Addr} {sl23 : Array (Option Value)} {oc23 kV23 dc23 pm23 cd23 ct23 : Value} {f24 : Addr} {od24 an24 : Option Addr} {sl24 : Array (Option Value)} {oc24 kV24 dc24 pm24 cd24 ct24 : Value} {f25 : Addr} {od25 an25 : Option Addr} {sl25 : Array (Option Value)} {oc25 kV25 dc25 pm25 cd25 ct25 : Value} {t_GIVES : Tok} {t_LAG : Tok} {t_NAME : Tok} {t_PARTS : Tok} {t_WANT_AMOUNT : Tok} {t_WANT_NAME : Tok} {C_NeedError : Addr} {C_NoText : Addr} {C_NoShop : Addr} {C_Ring : Addr} {C_NoName : Addr} {C_NoDay : Addr} {C_NoBuy : Addr} {C_NoPlan : Addr} {ct Pt : Addr} {odc : Option Addr} {vsc : Array Value} {slc : Array (Option Value)}
    (a1 : PySem.W.nsIn K mainGlobals "_law_drawn" = some (some (.ref f1))) (l1 : K.lookup f1 = some ⟨oc1, od1, .func (PySem.W.fnOf "_law_drawn" "_law_drawn" (defArgs s_law_drawn) (defBody s_law_drawn) (defScope s_law_drawn) .none kV1 dc1 pm1 an1 cd1 ct1), sl1⟩) (c1 : PySem.W.codeIn K cd1 "_law_drawn" = true) (k1 : PySem.W.keepIn K (.ref f1) = true)
    (a2 : PySem.W.nsIn K mainGlobals "_law_next" = some (some (.ref f2))) (l2 : K.lookup f2 = some ⟨oc2, od2, .func (PySem.W.fnOf "_law_next" "_law_next" (defArgs s_law_next) (defBody s_law_next) (defScope s_law_next) .none kV2 dc2 pm2 an2 cd2 ct2), sl2⟩) (c2 : PySem.W.codeIn K cd2 "_law_next" = true) (k2 : PySem.W.keepIn K (.ref f2) = true)
    (a3 : PySem.W.nsIn K mainGlobals "_law_names" = some (some (.ref f3))) (l3 : K.lookup f3 = some ⟨oc3, od3, .func (PySem.W.fnOf "_law_names" "_law_names" (defArgs s_law_names) (defBody s_law_names) (defScope s_law_names) .none kV3 dc3 pm3 an3 cd3 ct3), sl3⟩) (c3 : PySem.W.codeIn K cd3 "_law_names" = true) (k3 : PySem.W.keepIn K (.ref f3) = true)
    (a4 : PySem.W.nsIn K mainGlobals "_law_amount" = some (some (.ref f4))) (l4 : K.lookup f4 = some ⟨oc4, od4, .func (PySem.W.fnOf "_law_amount" "_law_amount" (defArgs s_law_amount) (defBody s_law_amount) (defScope s_law_amount) .none kV4 dc4 pm4 an4 cd4 ct4), sl4⟩) (c4 : PySem.W.codeIn K cd4 "_law_amount" = true) (k4 : PySem.W.keepIn K (.ref f4) = true)
    (a5 : PySem.W.nsIn K mainGlobals "_law_coming" = some (some (.ref f5))) (l5 : K.lookup f5 = some ⟨oc5, od5, .func (PySem.W.fnOf "_law_coming" "_law_coming" (defArgs s_law_coming) (defBody s_law_coming) (defScope s_law_coming) .none kV5 dc5 pm5 an5 cd5 ct5), sl5⟩) (c5 : PySem.W.codeIn K cd5 "_law_coming" = true) (k5 : PySem.W.keepIn K (.ref f5) = true)
    (a6 : PySem.W.nsIn K mainGlobals "_law_ware" = some (some (.ref f6))) (l6 : K.lookup f6 = some ⟨oc6, od6, .func (PySem.W.fnOf "_law_ware" "_law_ware" (defArgs s_law_ware) (defBody s_law_ware) (defScope s_law_ware) .none kV6 dc6 pm6 an6 cd6 ct6), sl6⟩) (c6 : PySem.W.codeIn K cd6 "_law_ware" = true) (k6 : PySem.W.keepIn K (.ref f6) = true)
    (a7 : PySem.W.nsIn K mainGlobals "_law_wants" = some (some (.ref f7))) (l7 : K.lookup f7 = some ⟨oc7, od7, .func (PySem.W.fnOf "_law_wants" "_law_wants" (defArgs s_law_wants) (defBody s_law_wants) (defScope s_law_wants) .none kV7 dc7 pm7 an7 cd7 ct7), sl7⟩) (c7 : PySem.W.codeIn K cd7 "_law_wants" = true) (k7 : PySem.W.keepIn K (.ref f7) = true)
    (a8 : PySem.W.nsIn K mainGlobals "_law_knotted" = some (some (.ref f8))) (l8 : K.lookup f8 = some ⟨oc8, od8, .func (PySem.W.fnOf "_law_knotted" "_law_knotted" (defArgs s_law_knotted) (defBody s_law_knotted) (defScope s_law_knotted) .none kV8 dc8 pm8 an8 cd8 ct8), sl8⟩) (c8 : PySem.W.codeIn K cd8 "_law_knotted" = true) (k8 : PySem.W.keepIn K (.ref f8) = true)
    (a9 : PySem.W.nsIn K mainGlobals "_law_parts" = some (some (.ref f9))) (l9 : K.lookup f9 = some ⟨oc9, od9, .func (PySem.W.fnOf "_law_parts" "_law_parts" (defArgs s_law_parts) (defBody s_law_parts) (defScope s_law_parts) .none kV9 dc9 pm9 an9 cd9 ct9), sl9⟩) (c9 : PySem.W.codeIn K cd9 "_law_parts" = true) (k9 : PySem.W.keepIn K (.ref f9) = true)
    (a10 : PySem.W.nsIn K mainGlobals "part_names" = some (some (.ref f10))) (l10 : K.lookup f10 = some ⟨oc10, od10, .func (PySem.W.fnOf "part_names" "part_names" (defArgs s_part_names) (defBody s_part_names) (defScope s_part_names) .none kV10 dc10 pm10 an10 cd10 ct10), sl10⟩) (c10 : PySem.W.codeIn K cd10 "part_names" = true) (k10 : PySem.W.keepIn K (.ref f10) = true)
    (a11 : PySem.W.nsIn K mainGlobals "without_ends" = some (some (.ref f11))) (l11 : K.lookup f11 = some ⟨oc11, od11, .func (PySem.W.fnOf "without_ends" "without_ends" (defArgs s_without_ends) (defBody s_without_ends) (defScope s_without_ends) .none kV11 dc11 pm11 an11 cd11 ct11), sl11⟩) (c11 : PySem.W.codeIn K cd11 "without_ends" = true) (k11 : PySem.W.keepIn K (.ref f11) = true)
    (a12 : PySem.W.nsIn K mainGlobals "endless_parts" = some (some (.ref f12))) (l12 : K.lookup f12 = some ⟨oc12, od12, .func (PySem.W.fnOf "endless_parts" "endless_parts" (defArgs s_endless_parts) (defBody s_endless_parts) (defScope s_endless_parts) .none kV12 dc12 pm12 an12 cd12 ct12), sl12⟩) (c12 : PySem.W.codeIn K cd12 "endless_parts" = true) (k12 : PySem.W.keepIn K (.ref f12) = true)
    (a13 : PySem.W.nsIn K mainGlobals "ring" = some (some (.ref f13))) (l13 : K.lookup f13 = some ⟨oc13, od13, .func (PySem.W.fnOf "ring" "ring" (defArgs s_ring) (defBody s_ring) (defScope s_ring) .none kV13 dc13 pm13 an13 cd13 ct13), sl13⟩) (c13 : PySem.W.codeIn K cd13 "ring" = true) (k13 : PySem.W.keepIn K (.ref f13) = true)
    (a14 : PySem.W.nsIn K mainGlobals "_law_has_none" = some (some (.ref f14))) (l14 : K.lookup f14 = some ⟨oc14, od14, .func (PySem.W.fnOf "_law_has_none" "_law_has_none" (defArgs s_law_has_none) (defBody s_law_has_none) (defScope s_law_has_none) .none kV14 dc14 pm14 an14 cd14 ct14), sl14⟩) (c14 : PySem.W.codeIn K cd14 "_law_has_none" = true) (k14 : PySem.W.keepIn K (.ref f14) = true)
    (a15 : PySem.W.nsIn K mainGlobals "_law_is_ring" = some (some (.ref f15))) (l15 : K.lookup f15 = some ⟨oc15, od15, .func (PySem.W.fnOf "_law_is_ring" "_law_is_ring" (defArgs s_law_is_ring) (defBody s_law_is_ring) (defScope s_law_is_ring) .none kV15 dc15 pm15 an15 cd15 ct15), sl15⟩) (c15 : PySem.W.codeIn K cd15 "_law_is_ring" = true) (k15 : PySem.W.keepIn K (.ref f15) = true)
    (a16 : PySem.W.nsIn K mainGlobals "check_rings" = some (some (.ref f16))) (l16 : K.lookup f16 = some ⟨oc16, od16, .func (PySem.W.fnOf "check_rings" "check_rings" (defArgs s_check_rings) (defBody s_check_rings) (defScope s_check_rings) .none kV16 dc16 pm16 an16 cd16 ct16), sl16⟩) (c16 : PySem.W.codeIn K cd16 "check_rings" = true) (k16 : PySem.W.keepIn K (.ref f16) = true)
    (a17 : PySem.W.nsIn K mainGlobals "names_of" = some (some (.ref f17))) (l17 : K.lookup f17 = some ⟨oc17, od17, .func (PySem.W.fnOf "names_of" "names_of" (defArgs s_names_of) (defBody s_names_of) (defScope s_names_of) .none kV17 dc17 pm17 an17 cd17 ct17), sl17⟩) (c17 : PySem.W.codeIn K cd17 "names_of" = true) (k17 : PySem.W.keepIn K (.ref f17) = true)
    (a18 : PySem.W.nsIn K mainGlobals "levels" = some (some (.ref f18))) (l18 : K.lookup f18 = some ⟨oc18, od18, .func (PySem.W.fnOf "levels" "levels" (defArgs s_levels) (defBody s_levels) (defScope s_levels) .none kV18 dc18 pm18 an18 cd18 ct18), sl18⟩) (c18 : PySem.W.codeIn K cd18 "levels" = true) (k18 : PySem.W.keepIn K (.ref f18) = true)
    (a19 : PySem.W.nsIn K mainGlobals "worked" = some (some (.ref f19))) (l19 : K.lookup f19 = some ⟨oc19, od19, .func (PySem.W.fnOf "worked" "worked" (defArgs s_worked) (defBody s_worked) (defScope s_worked) .none kV19 dc19 pm19 an19 cd19 ct19), sl19⟩) (c19 : PySem.W.codeIn K cd19 "worked" = true) (k19 : PySem.W.keepIn K (.ref f19) = true)
    (a20 : PySem.W.nsIn K mainGlobals "ware_of" = some (some (.ref f20))) (l20 : K.lookup f20 = some ⟨oc20, od20, .func (PySem.W.fnOf "ware_of" "ware_of" (defArgs s_ware_of) (defBody s_ware_of) (defScope s_ware_of) .none kV20 dc20 pm20 an20 cd20 ct20), sl20⟩) (c20 : PySem.W.codeIn K cd20 "ware_of" = true) (k20 : PySem.W.keepIn K (.ref f20) = true)
    (a21 : PySem.W.nsIn K mainGlobals "lots_for" = some (some (.ref f21))) (l21 : K.lookup f21 = some ⟨oc21, od21, .func (PySem.W.fnOf "lots_for" "lots_for" (defArgs s_lots_for) (defBody s_lots_for) (defScope s_lots_for) .none kV21 dc21 pm21 an21 cd21 ct21), sl21⟩) (c21 : PySem.W.codeIn K cd21 "lots_for" = true) (k21 : PySem.W.keepIn K (.ref f21) = true)
    (a22 : PySem.W.nsIn K mainGlobals "explode" = some (some (.ref f22))) (l22 : K.lookup f22 = some ⟨oc22, od22, .func (PySem.W.fnOf "explode" "explode" (defArgs s_explode) (defBody s_explode) (defScope s_explode) .none kV22 dc22 pm22 an22 cd22 ct22), sl22⟩) (c22 : PySem.W.codeIn K cd22 "explode" = true) (k22 : PySem.W.keepIn K (.ref f22) = true)
    (a23 : PySem.W.nsIn K mainGlobals "times" = some (some (.ref f23))) (l23 : K.lookup f23 = some ⟨oc23, od23, .func (PySem.W.fnOf "times" "times" (defArgs s_times) (defBody s_times) (defScope s_times) .none kV23 dc23 pm23 an23 cd23 ct23), sl23⟩) (c23 : PySem.W.codeIn K cd23 "times" = true) (k23 : PySem.W.keepIn K (.ref f23) = true)
    (a24 : PySem.W.nsIn K mainGlobals "_law_refusal" = some (some (.ref f24))) (l24 : K.lookup f24 = some ⟨oc24, od24, .func (PySem.W.fnOf "_law_refusal" "_law_refusal" (defArgs s_law_refusal) (defBody s_law_refusal) (defScope s_law_refusal) .none kV24 dc24 pm24 an24 cd24 ct24), sl24⟩) (c24 : PySem.W.codeIn K cd24 "_law_refusal" = true) (k24 : PySem.W.keepIn K (.ref f24) = true)
    (a25 : PySem.W.nsIn K mainGlobals "law" = some (some (.ref f25))) (l25 : K.lookup f25 = some ⟨oc25, od25, .func (PySem.W.fnOf "law" "law" (defArgs s_law) (defBody s_law) (defScope s_law) .none kV25 dc25 pm25 an25 cd25 ct25), sl25⟩) (c25 : PySem.W.codeIn K cd25 "law" = true) (k25 : PySem.W.keepIn K (.ref f25) = true)
    (z_range : PySem.W.nsIn K mainGlobals "range" = some none)
    (z_len : PySem.W.nsIn K mainGlobals "len" = some none)
    (z_list : PySem.W.nsIn K mainGlobals "list" = some none)
    (z_max : PySem.W.nsIn K mainGlobals "max" = some none)
    (z_sorted : PySem.W.nsIn K mainGlobals "sorted" = some none)
    (z_reversed : PySem.W.nsIn K mainGlobals "reversed" = some none)
    (z_int : PySem.W.nsIn K mainGlobals "int" = some none)
    (z_tuple : PySem.W.nsIn K mainGlobals "tuple" = some none)
    (z_set : PySem.W.nsIn K mainGlobals "set" = some none)
    (z_isinstance : PySem.W.nsIn K mainGlobals "isinstance" = some none)
    (z_any : PySem.W.nsIn K mainGlobals "any" = some none)
    (z_ValueError : PySem.W.nsIn K mainGlobals "ValueError" = some none)
    (g_GIVES : PySem.W.nsIn K mainGlobals "GIVES" = some (some (.int 2 t_GIVES)))
    (g_LAG : PySem.W.nsIn K mainGlobals "LAG" = some (some (.int 1 t_LAG)))
    (g_NAME : PySem.W.nsIn K mainGlobals "NAME" = some (some (.int 0 t_NAME)))
    (g_PARTS : PySem.W.nsIn K mainGlobals "PARTS" = some (some (.int 6 t_PARTS)))
    (g_WANT_AMOUNT : PySem.W.nsIn K mainGlobals "WANT_AMOUNT" = some (some (.int 2 t_WANT_AMOUNT)))
    (g_WANT_NAME : PySem.W.nsIn K mainGlobals "WANT_NAME" = some (some (.int 0 t_WANT_NAME)))
    (q_NeedError : PySem.W.nsIn K mainGlobals "NeedError" = some (some (.ref C_NeedError)))
    (q_NoText : PySem.W.nsIn K mainGlobals "NoText" = some (some (.ref C_NoText)))
    (q_NoShop : PySem.W.nsIn K mainGlobals "NoShop" = some (some (.ref C_NoShop)))
    (q_Ring : PySem.W.nsIn K mainGlobals "Ring" = some (some (.ref C_Ring)))
    (q_NoName : PySem.W.nsIn K mainGlobals "NoName" = some (some (.ref C_NoName)))
    (q_NoDay : PySem.W.nsIn K mainGlobals "NoDay" = some (some (.ref C_NoDay)))
    (q_NoBuy : PySem.W.nsIn K mainGlobals "NoBuy" = some (some (.ref C_NoBuy)))
    (q_NoPlan : PySem.W.nsIn K mainGlobals "NoPlan" = some (some (.ref C_NoPlan)))
    (e_Ring : excV K C_Ring = true)
    (o_Ring : ExcOf K C_Ring)
    (x_Ring_NeedError : exmOne K (.ref C_Ring) (.ref C_NeedError) = some true)
    (k_Ring_NeedError : kitOne K (.ref C_Ring) (.ref C_NeedError) = some true)
    (k_Ring_NoText : kitOne K (.ref C_Ring) (.ref C_NoText) = some false)
    (k_Ring_NoShop : kitOne K (.ref C_Ring) (.ref C_NoShop) = some false)
    (k_Ring_Ring : kitOne K (.ref C_Ring) (.ref C_Ring) = some true)
    (k_Ring_NoName : kitOne K (.ref C_Ring) (.ref C_NoName) = some false)
    (k_Ring_NoDay : kitOne K (.ref C_Ring) (.ref C_NoDay) = some false)
    (k_Ring_NoBuy : kitOne K (.ref C_Ring) (.ref C_NoBuy) = some false)
    (k_Ring_NoPlan : kitOne K (.ref C_Ring) (.ref C_NoPlan) = some false)
    (k_Ring_ValueError : kitOne K (.ref C_Ring) (.type "ValueError") = some true)
    (tq : cd19 = .ref ct) (tl : K.lookup ct = some ⟨.type "code", odc, .fields vsc, slc⟩) (tv : vsc[11]? = some (.ref Pt)) (tw : codeVs vsc ct Pt = true) (tp : K.lookup Pt = none) :
    ∃ (fd : FuncData) (ct Pt : Addr), (∀ (s : Shared) (v : Value), BindsTo s fd ⟨[v], []⟩ [("_law_script", v)]) ∧ PySem.W.tabIn K "worked" = some (ct, Pt) ∧ K.lookup Pt = none ∧ ∀ base : Heap, K.In base → base.Ns mainGlobals mg → BMain mg base → FnOk l.prog w K mg base CX0 9 fa fd ["_law_script"] (sp_law K Pt) := by
  have e := hfa.symm.trans (PySem.W.mg_of X G a25)
  cases e
  have T : Txt mg := ⟨PySem.W.mg_none_of X G z_range, PySem.W.mg_none_of X G z_len, PySem.W.mg_none_of X G z_list, PySem.W.mg_none_of X G z_max, PySem.W.mg_none_of X G z_sorted, PySem.W.mg_none_of X G z_reversed, PySem.W.mg_none_of X G z_int, PySem.W.mg_none_of X G z_tuple, PySem.W.mg_none_of X G z_set, PySem.W.mg_none_of X G z_isinstance, PySem.W.mg_none_of X G z_any, PySem.W.mg_none_of X G z_ValueError, ⟨_, PySem.W.mg_of X G g_GIVES⟩, ⟨_, PySem.W.mg_of X G g_LAG⟩, ⟨_, PySem.W.mg_of X G g_NAME⟩, ⟨_, PySem.W.mg_of X G g_PARTS⟩, ⟨_, PySem.W.mg_of X G g_WANT_AMOUNT⟩, ⟨_, PySem.W.mg_of X G g_WANT_NAME⟩⟩
  have tb := tab_mk a19 l19 tq tl tv
  have tc := codeHd_mk tl tv tw
  have C : Exc K mg ⟨C_NeedError, C_NoText, C_NoShop, C_Ring, C_NoName, C_NoDay, C_NoBuy, C_NoPlan⟩ := ⟨PySem.W.mg_of X G q_NeedError, PySem.W.mg_of X G q_NoText, PySem.W.mg_of X G q_NoShop, PySem.W.mg_of X G q_Ring, PySem.W.mg_of X G q_NoName, PySem.W.mg_of X G q_NoDay, PySem.W.mg_of X G q_NoBuy, PySem.W.mg_of X G q_NoPlan, e_Ring, o_Ring, x_Ring_NeedError, k_Ring_NeedError, k_Ring_NoText, k_Ring_NoShop, k_Ring_Ring, k_Ring_NoName, k_Ring_NoDay, k_Ring_NoBuy, k_Ring_NoPlan, k_Ring_ValueError⟩
  have F1 := fun_mk (st := s_law_drawn) l1 c1 k1
  have b1 := F1.binds (ps := ["_law_script"]) fun _ _ _ _ _ _ us hl => match us, hl with | [_], _ => rfl
  have h_law_drawn : ∀ base : Heap, BMain mg base → Has l.prog w K mg base "_law_drawn" 1 ["_law_script"] (sp_law_drawn K) := fun base hB => ⟨_, _, PySem.W.mg_of X G a1, k1, b1, ok_law_drawn F1 T⟩
  have F2 := fun_mk (st := s_law_next) l2 c2 k2
  have b2 := F2.binds (ps := ["_law_state", "_law_many"]) fun _ _ _ _ _ _ us hl => match us, hl with | [_, _], _ => rfl
  have h_law_next : ∀ base : Heap, BMain mg base → Has l.prog w K mg base "_law_next" 1 ["_law_state", "_law_many"] sp_law_next := fun base hB => ⟨_, _, PySem.W.mg_of X G a2, k2, b2, ok_law_next F2 T C⟩
  have F3 := fun_mk (st := s_law_names) l3 c3 k3
  have b3 := F3.binds (ps := ["_law_state", "_law_many"]) fun _ _ _ _ _ _ us hl => match us, hl with | [_, _], _ => rfl
  have h_law_names : ∀ base : Heap, BMain mg base → Has l.prog w K mg base "_law_names" 2 ["_law_state", "_law_many"] sp_law_names := fun base hB => ⟨_, _, PySem.W.mg_of X G a3, k3, b3, ok_law_names F3 T C (h_law_next base hB)⟩
  have F4 := fun_mk (st := s_law_amount) l4 c4 k4
  have b4 := F4.binds (ps := ["_law_state"]) fun _ _ _ _ _ _ us hl => match us, hl with | [_], _ => rfl
  have h_law_amount : ∀ base : Heap, BMain mg base → Has l.prog w K mg base "_law_amount" 2 ["_law_state"] sp_law_amount := fun base hB => ⟨_, _, PySem.W.mg_of X G a4, k4, b4, ok_law_amount F4 T C (h_law_next base hB)⟩
  have F5 := fun_mk (st := s_law_coming) l5 c5 k5
  have b5 := F5.binds (ps := ["_law_state", "_law_many"]) fun _ _ _ _ _ _ us hl => match us, hl with | [_, _], _ => rfl
  have h_law_coming : ∀ base : Heap, BMain mg base → Has l.prog w K mg base "_law_coming" 3 ["_law_state", "_law_many"] sp_law_coming := fun base hB => ⟨_, _, PySem.W.mg_of X G a5, k5, b5, ok_law_coming F5 T C (h_law_next base hB) (h_law_amount base hB)⟩
  have F6 := fun_mk (st := s_law_ware) l6 c6 k6
  have b6 := F6.binds (ps := ["_law_state", "_law_name", "_law_parts_here", "_law_top"]) fun _ _ _ _ _ _ us hl => match us, hl with | [_, _, _, _], _ => rfl
  have h_law_ware : ∀ base : Heap, BMain mg base → Has l.prog w K mg base "_law_ware" 4 ["_law_state", "_law_name", "_law_parts_here", "_law_top"] sp_law_ware := fun base hB => ⟨_, _, PySem.W.mg_of X G a6, k6, b6, ok_law_ware F6 T C (h_law_next base hB) (h_law_amount base hB) (h_law_coming base hB)⟩
  have F7 := fun_mk (st := s_law_wants) l7 c7 k7
  have b7 := F7.binds (ps := ["_law_state", "_law_names_here", "_law_many"]) fun _ _ _ _ _ _ us hl => match us, hl with | [_, _, _], _ => rfl
  have h_law_wants : ∀ base : Heap, BMain mg base → Has l.prog w K mg base "_law_wants" 3 ["_law_state", "_law_names_here", "_law_many"] sp_law_wants := fun base hB => ⟨_, _, PySem.W.mg_of X G a7, k7, b7, ok_law_wants F7 T C (h_law_next base hB) (h_law_amount base hB)⟩
  have F8 := fun_mk (st := s_law_knotted) l8 c8 k8
  have b8 := F8.binds (ps := ["_law_state"]) fun _ _ _ _ _ _ us hl => match us, hl with | [_], _ => rfl
  have h_law_knotted : ∀ base : Heap, BMain mg base → Has l.prog w K mg base "_law_knotted" 5 ["_law_state"] sp_law_knotted := fun base hB => ⟨_, _, PySem.W.mg_of X G a8, k8, b8, ok_law_knotted F8 T C (h_law_names base hB) (h_law_next base hB) (h_law_ware base hB) (h_law_wants base hB)⟩
  have F9 := fun_mk (st := s_law_parts) l9 c9 k9
  have b9 := F9.binds (ps := ["_law_shop"]) fun _ _ _ _ _ _ us hl => match us, hl with | [_], _ => rfl
  have h_law_parts : ∀ base : Heap, BMain mg base → Has l.prog w K mg base "_law_parts" 1 ["_law_shop"] sp_law_parts := fun base hB => ⟨_, _, PySem.W.mg_of X G a9, k9, b9, ok_law_parts F9 T C⟩
  have F10 := fun_mk (st := s_part_names) l10 c10 k10
  have b10 := F10.binds (ps := ["ware"]) fun _ _ _ _ _ _ us hl => match us, hl with | [_], _ => rfl
  have h_part_names : ∀ base : Heap, BMain mg base → Has l.prog w K mg base "part_names" 1 ["ware"] sp_part_names := fun base hB => ⟨_, _, PySem.W.mg_of X G a10, k10, b10, ok_part_names F10 T C⟩
  have F11 := fun_mk (st := s_without_ends) l11 c11 k11
  have b11 := F11.binds (ps := ["parts"]) fun _ _ _ _ _ _ us hl => match us, hl with | [_], _ => rfl
  have h_without_ends : ∀ base : Heap, BMain mg base → Has l.prog w K mg base "without_ends" 1 ["parts"] sp_without_ends := fun base hB => ⟨_, _, PySem.W.mg_of X G a11, k11, b11, ok_without_ends F11 T C⟩
  have F12 := fun_mk (st := s_endless_parts) l12 c12 k12
  have b12 := F12.binds (ps := ["shop"]) fun _ _ _ _ _ _ us hl => match us, hl with | [_], _ => rfl
  have h_endless_parts : ∀ base : Heap, BMain mg base → Has l.prog w K mg base "endless_parts" 2 ["shop"] sp_endless_parts := fun base hB => ⟨_, _, PySem.W.mg_of X G a12, k12, b12, ok_endless_parts F12 T C (h_part_names base hB) (h_without_ends base hB)⟩
  have F13 := fun_mk (st := s_ring) l13 c13 k13
  have b13 := F13.binds (ps := ["shop"]) fun _ _ _ _ _ _ us hl => match us, hl with | [_], _ => rfl
  have h_ring : ∀ base : Heap, BMain mg base → Has l.prog w K mg base "ring" 3 ["shop"] sp_ring := fun base hB => ⟨_, _, PySem.W.mg_of X G a13, k13, b13, ok_ring F13 T C (h_endless_parts base hB)⟩
  have F14 := fun_mk (st := s_law_has_none) l14 c14 k14
  have b14 := F14.binds (ps := ["_law_parts_here"]) fun _ _ _ _ _ _ us hl => match us, hl with | [_], _ => rfl
  have h_law_has_none : ∀ base : Heap, BMain mg base → Has l.prog w K mg base "_law_has_none" 1 ["_law_parts_here"] sp_law_has_none := fun base hB => ⟨_, _, PySem.W.mg_of X G a14, k14, b14, ok_law_has_none F14 T C⟩
  have F15 := fun_mk (st := s_law_is_ring) l15 c15 k15
  have b15 := F15.binds (ps := ["_law_found", "_law_parts_here"]) fun _ _ _ _ _ _ us hl => match us, hl with | [_, _], _ => rfl
  have h_law_is_ring : ∀ base : Heap, BMain mg base → Has l.prog w K mg base "_law_is_ring" 1 ["_law_found", "_law_parts_here"] sp_law_is_ring := fun base hB => ⟨_, _, PySem.W.mg_of X G a15, k15, b15, ok_law_is_ring F15 T C⟩
  have F16 := fun_mk (st := s_check_rings) l16 c16 k16
  have b16 := F16.binds (ps := ["shop"]) fun _ _ _ _ _ _ us hl => match us, hl with | [_], _ => rfl
  have h_check_rings : ∀ base : Heap, BMain mg base → HasX l.prog w K mg base "check_rings" 4 ["shop"] (sp_check_rings ⟨C_NeedError, C_NoText, C_NoShop, C_Ring, C_NoName, C_NoDay, C_NoBuy, C_NoPlan⟩) := fun base hB => ⟨_, _, PySem.W.mg_of X G a16, k16, b16, ok_check_rings F16 T C (h_ring base hB)⟩
  have F17 := fun_mk (st := s_names_of) l17 c17 k17
  have b17 := F17.binds (ps := ["shop"]) fun _ _ _ _ _ _ us hl => match us, hl with | [_], _ => rfl
  have h_names_of : ∀ base : Heap, BMain mg base → Has l.prog w K mg base "names_of" 1 ["shop"] sp_names_of := fun base hB => ⟨_, _, PySem.W.mg_of X G a17, k17, b17, ok_names_of F17 T C⟩
  have F18 := fun_mk (st := s_levels) l18 c18 k18
  have b18 := F18.binds (ps := ["shop"]) fun _ _ _ _ _ _ us hl => match us, hl with | [_], _ => rfl
  have h_levels : ∀ base : Heap, BMain mg base → HasX l.prog w K mg base "levels" 5 ["shop"] (sp_levels ⟨C_NeedError, C_NoText, C_NoShop, C_Ring, C_NoName, C_NoDay, C_NoBuy, C_NoPlan⟩) := fun base hB => ⟨_, _, PySem.W.mg_of X G a18, k18, b18, ok_levels F18 T C (h_check_rings base hB) (h_names_of base hB) (h_part_names base hB)⟩
  have F19 := fun_mk (st := s_worked) l19 c19 k19
  have b19 := F19.binds (ps := ["shop"]) fun _ _ _ _ _ _ us hl => match us, hl with | [_], _ => rfl
  have h_worked : ∀ base : Heap, BMain mg base → HasX l.prog w K mg base "worked" 6 ["shop"] (sp_worked ⟨C_NeedError, C_NoText, C_NoShop, C_Ring, C_NoName, C_NoDay, C_NoBuy, C_NoPlan⟩ Pt) := fun base hB => ⟨_, _, PySem.W.mg_of X G a19, k19, b19, ok_worked F19 T C (h_levels base hB) (h_names_of base hB) ⟨fun _ _ _ _ e => code_of_tab tb a19 e, tc⟩ hB⟩
  have F20 := fun_mk (st := s_ware_of) l20 c20 k20
  have b20 := F20.binds (ps := ["shop", "name"]) fun _ _ _ _ _ _ us hl => match us, hl with | [_, _], _ => rfl
  have h_ware_of : ∀ base : Heap, BMain mg base → Has l.prog w K mg base "ware_of" 1 ["shop", "name"] sp_ware_of := fun base hB => ⟨_, _, PySem.W.mg_of X G a20, k20, b20, ok_ware_of F20 T C⟩
  have F21 := fun_mk (st := s_lots_for) l21 c21 k21
  have b21 := F21.binds (ps := ["amount", "gives"]) fun _ _ _ _ _ _ us hl => match us, hl with | [_, _], _ => rfl
  have h_lots_for : ∀ base : Heap, BMain mg base → Has l.prog w K mg base "lots_for" 1 ["amount", "gives"] sp_lots_for := fun base hB => ⟨_, _, PySem.W.mg_of X G a21, k21, b21, ok_lots_for F21 T C⟩
  have F22 := fun_mk (st := s_explode) l22 c22 k22
  have b22 := F22.binds (ps := ["shop"]) fun _ _ _ _ _ _ us hl => match us, hl with | [_], _ => rfl
  have h_explode : ∀ base : Heap, BMain mg base → HasX l.prog w K mg base "explode" 7 ["shop"] (sp_explode ⟨C_NeedError, C_NoText, C_NoShop, C_Ring, C_NoName, C_NoDay, C_NoBuy, C_NoPlan⟩ Pt) := fun base hB => ⟨_, _, PySem.W.mg_of X G a22, k22, b22, ok_explode F22 T C (h_worked base hB) (h_ware_of base hB) (h_lots_for base hB)⟩
  have F23 := fun_mk (st := s_times) l23 c23 k23
  have b23 := F23.binds (ps := ["shop"]) fun _ _ _ _ _ _ us hl => match us, hl with | [_], _ => rfl
  have h_times : ∀ base : Heap, BMain mg base → HasX l.prog w K mg base "times" 7 ["shop"] (sp_times ⟨C_NeedError, C_NoText, C_NoShop, C_Ring, C_NoName, C_NoDay, C_NoBuy, C_NoPlan⟩ Pt) := fun base hB => ⟨_, _, PySem.W.mg_of X G a23, k23, b23, ok_times F23 T C (h_worked base hB) (h_ware_of base hB) (h_part_names base hB)⟩
  have F24 := fun_mk (st := s_law_refusal) l24 c24 k24
  have b24 := F24.binds (ps := ["_law_shop", "_law_deed"]) fun _ _ _ _ _ _ us hl => match us, hl with | [_, _], _ => rfl
  have h_law_refusal : ∀ base : Heap, BMain mg base → Has l.prog w K mg base "_law_refusal" 8 ["_law_shop", "_law_deed"] (sp_law_refusal ⟨C_NeedError, C_NoText, C_NoShop, C_Ring, C_NoName, C_NoDay, C_NoBuy, C_NoPlan⟩ l.prog w K mg base Pt) := fun base hB => ⟨_, _, PySem.W.mg_of X G a24, k24, b24, ok_law_refusal F24 T C⟩
  have F25 := fun_mk (st := s_law) l25 c25 k25
  exact ⟨PySem.W.fnOf "law" "law" (defArgs s_law) (defBody s_law) (defScope s_law) .none kV25 dc25 pm25 an25 cd25 ct25, ct, Pt, fun s v => .of_eq rfl, tb, tp, fun base _ _ hB => ok_law F25 T C (h_law_drawn base hB) (h_law_knotted base hB) (h_law_parts base hB) (h_ring base hB) (h_law_has_none base hB) (h_law_is_ring base hB) (h_explode base hB) (h_times base hB) (h_worked base hB) (h_levels base hB) (h_check_rings base hB) (h_law_refusal base hB)⟩
theorem walk {l : PySem.W.OpenLaw} {q : Program} {loose : List Str} {XP : (Str → Option Value) → Heap → Prop} {YP : World → Heap → Prop} {d dw : DefRec} {K : Params → PySem.W.Frag} (hn : l.most = some 63) (hdf : d.params.defaults = [])
    (hY : ∀ (w : World) (h : Heap), YP w h → (K w.params).In h) (hw : (PyProof.Rows.recsOf q).find? (fun e => e.name == ("worked" : Str)) = some dw)
    (F : ∀ (w : World) (mg : Str → Option Value) (fa : Addr) (h : Heap), (K w.params).In h → h.Ns mainGlobals mg → mg d.name = some (.ref fa) →
      ∃ (fd : FuncData) (ct Pt : Addr), (∀ (s : Shared) (u : Value), BindsTo s fd ⟨[u], []⟩ [("_law_script", u)]) ∧ PySem.W.tabIn (K w.params) "worked" = some (ct, Pt) ∧ (K w.params).lookup Pt = none ∧ ∀ base : Heap, (K w.params).In base → base.Ns mainGlobals mg → BMain mg base → FnOk l.prog w (K w.params) mg base CX0 9 fa fd ["_law_script"] (sp_law (K w.params) Pt)) :
    PySem.W.WalkO q loose XP YP l.row.toRowW d [] (fun f vs => PySem.call f vs) :=
  L2.walk_tab (n := 63) (k := 9) (x := "_law_script") (wk := "worked") (sp := fun w Pt => sp_law (K w.params) Pt) hn (by decide) hdf ⟨rfl, by decide, by decide⟩ hY hw F (fun _ _ a Pt ns hl ht hS => ⟨a, ns, rfl, hS, hl, .inl ht, fun _ => rfl⟩)
end K03
theorem PySem.W.Fast.tw11362953389429787163 : True := trivial
theorem PySem.W.Fast.tw9474578147327546892 : True := trivial
theorem PySem.W.Fast.tw16248003034983577585 : True := trivial
theorem PySem.W.Fast.tw12030067960035728567 : True := trivial
theorem PySem.W.Fast.tw6671525914388336299 : True := trivial
theorem PySem.W.Fast.tw8237996518962818615 : True := trivial
theorem PySem.W.Fast.tw9386945427999422087 : True := trivial
theorem PySem.W.Fast.tw2682037126492483617 : True := trivial
theorem PySem.W.Fast.tw13072052553277745344 : True := trivial
theorem PySem.W.Fast.tw17980420118420996674 : True := trivial
theorem PySem.W.Fast.tw9392002612402084710 : True := trivial
theorem PySem.W.Fast.tw16205446169802094066 : True := trivial
theorem PySem.W.Fast.tw762503779661610976 : True := trivial
theorem PySem.W.Fast.tw15647642090927013538 : True := trivial
theorem PySem.W.Fast.tw11997469553739232978 : True := trivial
theorem PySem.W.Fast.tw8862403529851262176 : True := trivial
theorem PySem.W.Fast.tw8388662874547761560 : True := trivial
theorem PySem.W.Fast.tw472965947113005837 : True := trivial
theorem PySem.W.Fast.tw14669176790081706162 : True := trivial
theorem PySem.W.Fast.tw8393046253889771943 : True := trivial
theorem PySem.W.Fast.tw3343115435176113080 : True := trivial
open PySem PySem.W PyProof.Rows
set_option maxRecDepth 100000 in
set_option maxHeartbeats 0 in
theorem PySem.Challenge.cw_needplan_k03_ring_walked_holds : PySem.Challenge.rw_needplan_k03_ring_walked.Holds := by
  w_on; o_law; k_head; (case hw => w_witness2)
  k_fill
  refine K03.walk (l := PySem.Challenge.rw_needplan_k03_ring_walked) rfl rfl (fun w h Y => PySem.W.km_in_of Y) rfl ?F
  case F =>
    intro w mg fa h KX G hmg
    refine' K03.all_mk KX G hmg ?a1 ?l1 ?c1 ?k1 ?a2 ?l2 ?c2 ?k2 ?a3 ?l3 ?c3 ?k3 ?a4 ?l4 ?c4 ?k4 ?a5 ?l5 ?c5 ?k5 ?a6 ?l6 ?c6 ?k6 ?a7 ?l7 ?c7 ?k7 ?a8 ?l8 ?c8 ?k8 ?a9 ?l9 ?c9 ?k9 ?a10 ?l10 ?c10 ?k10 ?a11 ?l11 ?c11 ?k11 ?a12 ?l12 ?c12 ?k12 ?a13 ?l13 ?c13 ?k13 ?a14 ?l14 ?c14 ?k14 ?a15 ?l15 ?c15 ?k15 ?a16 ?l16 ?c16 ?k16 ?a17 ?l17 ?c17 ?k17 ?a18 ?l18 ?c18 ?k18 ?a19 ?l19 ?c19 ?k19 ?a20 ?l20 ?c20 ?k20 ?a21 ?l21 ?c21 ?k21 ?a22 ?l22 ?c22 ?k22 ?a23 ?l23 ?c23 ?k23 ?a24 ?l24 ?c24 ?k24 ?a25 ?l25 ?c25 ?k25 ?z_range ?z_len ?z_list ?z_max ?z_sorted ?z_reversed ?z_int ?z_tuple ?z_set ?z_isinstance ?z_any ?z_ValueError ?g_GIVES ?g_LAG ?g_NAME ?g_PARTS ?g_WANT_AMOUNT ?g_WANT_NAME ?q_NeedError ?q_NoText ?q_NoShop ?q_Ring ?q_NoName ?q_NoDay ?q_NoBuy ?q_NoPlan ?e_Ring ?o_Ring ?x_Ring_NeedError ?k_Ring_NeedError ?k_Ring_NoText ?k_Ring_NoShop ?k_Ring_Ring ?k_Ring_NoName ?k_Ring_NoDay ?k_Ring_NoBuy ?k_Ring_NoPlan ?k_Ring_ValueError ?tq ?tl ?tv ?tw ?tp
    (case a1 => k_is)
    (case l1 => k_is)
    (case c1 => k_is)
    (case k1 => k_is)
    (case a2 => k_is)
    (case l2 => k_is)
    (case c2 => k_is)
    (case k2 => k_is)
    (case a3 => k_is)
    (case l3 => k_is)
    (case c3 => k_is)
    (case k3 => k_is)
    (case a4 => k_is)
    (case l4 => k_is)
    (case c4 => k_is)
    (case k4 => k_is)
    (case a5 => k_is)
    (case l5 => k_is)
    (case c5 => k_is)
    (case k5 => k_is)
    (case a6 => k_is)
    (case l6 => k_is)
    (case c6 => k_is)
    (case k6 => k_is)
    (case a7 => k_is)
    (case l7 => k_is)
    (case c7 => k_is)
    (case k7 => k_is)
    (case a8 => k_is)
    (case l8 => k_is)
    (case c8 => k_is)
    (case k8 => k_is)
    (case a9 => k_is)
    (case l9 => k_is)
    (case c9 => k_is)
    (case k9 => k_is)
    (case a10 => k_is)
    (case l10 => k_is)
    (case c10 => k_is)
    (case k10 => k_is)
    (case a11 => k_is)
    (case l11 => k_is)
    (case c11 => k_is)
    (case k11 => k_is)
    (case a12 => k_is)
    (case l12 => k_is)
    (case c12 => k_is)
    (case k12 => k_is)
    (case a13 => k_is)
    (case l13 => k_is)
    (case c13 => k_is)
    (case k13 => k_is)
    (case a14 => k_is)
    (case l14 => k_is)
    (case c14 => k_is)
    (case k14 => k_is)
    (case a15 => k_is)
    (case l15 => k_is)
    (case c15 => k_is)
    (case k15 => k_is)
    (case a16 => k_is)
    (case l16 => k_is)
    (case c16 => k_is)
    (case k16 => k_is)
    (case a17 => k_is)
    (case l17 => k_is)
    (case c17 => k_is)
    (case k17 => k_is)
    (case a18 => k_is)
    (case l18 => k_is)
    (case c18 => k_is)
    (case k18 => k_is)
    (case a19 => k_is)
    (case l19 => k_is)
    (case c19 => k_is)
    (case k19 => k_is)
    (case a20 => k_is)
    (case l20 => k_is)
    (case c20 => k_is)
    (case k20 => k_is)
    (case a21 => k_is)
    (case l21 => k_is)
    (case c21 => k_is)
    (case k21 => k_is)
    (case a22 => k_is)
    (case l22 => k_is)
    (case c22 => k_is)
    (case k22 => k_is)
    (case a23 => k_is)
    (case l23 => k_is)
    (case c23 => k_is)
    (case k23 => k_is)
    (case a24 => k_is)
    (case l24 => k_is)
    (case c24 => k_is)
    (case k24 => k_is)
    (case a25 => k_is)
    (case l25 => k_is)
    (case c25 => k_is)
    (case k25 => k_is)
    (case z_range => k_is)
    (case z_len => k_is)
    (case z_list => k_is)
    (case z_max => k_is)
    (case z_sorted => k_is)
    (case z_reversed => k_is)
    (case z_int => k_is)
    (case z_tuple => k_is)
    (case z_set => k_is)
    (case z_isinstance => k_is)
    (case z_any => k_is)
    (case z_ValueError => k_is)
    (case g_GIVES => k_is)
    (case g_LAG => k_is)
    (case g_NAME => k_is)
    (case g_PARTS => k_is)
    (case g_WANT_AMOUNT => k_is)
    (case g_WANT_NAME => k_is)
    (case q_NeedError => k_is)
    (case q_NoText => k_is)
    (case q_NoShop => k_is)
    (case q_Ring => k_is)
    (case q_NoName => k_is)
    (case q_NoDay => k_is)
    (case q_NoBuy => k_is)
    (case q_NoPlan => k_is)
    (case e_Ring => kernel_rfl)
    (case o_Ring => exact ⟨by kernel_rfl, by kernel_rfl, by kernel_rfl, by kernel_rfl, by kernel_rfl, by kernel_rfl, by kernel_rfl, by kernel_rfl⟩)
    (case x_Ring_NeedError => kernel_rfl)
    (case k_Ring_NeedError => kernel_rfl)
    (case k_Ring_NoText => kernel_rfl)
    (case k_Ring_NoShop => kernel_rfl)
    (case k_Ring_Ring => kernel_rfl)
    (case k_Ring_NoName => kernel_rfl)
    (case k_Ring_NoDay => kernel_rfl)
    (case k_Ring_NoBuy => kernel_rfl)
    (case k_Ring_NoPlan => kernel_rfl)
    (case k_Ring_ValueError => kernel_rfl)
    (case tq => rfl)
    (case tl => k_is)
    (case tv => rfl)
    (case tw => rfl)
    (case tp => rfl)
#print axioms PySem.Challenge.cw_needplan_k03_ring_walked_holds
