import PyProof.Rows.All
import Wide.All
import OpenK.AllK
import Wide.FinOn
import Lean
import PyProof.EqAt
import PyProof.EqKinds
import PyProof.TupleCall
import PySem.Challenge.RW_needplan_k54_shown_and_read
set_option Elab.async false
set_option linter.all false
set_option maxRecDepth 100000
namespace L2
open PySem PySem.Spec PyProof.Rows
abbrev Key := Sum Int Str
def keyIs : Key → Value → Bool
  | .inl k, v => Value.isInt k v
  | .inr x, v => Value.isStrOf x v
def keyH (w : World) : Key → Int
  | .inl k => hashInt k
  | .inr x => hashStr w x
theorem keyIs_shape : ∀ {k : Key} {v : Value}, keyIs k v = true → (∃ i t, k = Sum.inl i ∧ v = Value.int i t) ∨ (∃ x t, k = Sum.inr x ∧ v = Value.str x t)
  | .inl i, v, h => by
    obtain ⟨t, e⟩ := Value.isInt_shape (k := i) (v := v) h
    exact .inl ⟨i, t, rfl, e⟩
  | .inr x, v, h => by
    obtain ⟨t, e⟩ := Value.isStrOf_shape (x := x) (v := v) h
    exact .inr ⟨x, t, rfl, e⟩
theorem keyIs_int (i : Int) (t : Tok) : keyIs (.inl i) (.int i t) = true := by simp [keyIs, Value.isInt]
theorem keyIs_str (x : Str) (t : Tok) : keyIs (.inr x) (.str x t) = true := by simp [keyIs, Value.isStrOf]
theorem key_ll (a b : Int) : decide ((Sum.inl a : Key) = Sum.inl b) = (a == b) := by
  by_cases e : a = b
  · subst e; simp
  · have h : ¬ (Sum.inl a : Key) = Sum.inl b := fun q => e (Sum.inl.inj q)
    rw [decide_eq_false h]
    exact (beq_eq_false_iff_ne.mpr e).symm
theorem key_rr (a b : Str) : decide ((Sum.inr a : Key) = Sum.inr b) = decide (a = b) := by
  by_cases e : a = b
  · subst e; simp
  · have h : ¬ (Sum.inr a : Key) = Sum.inr b := fun q => e (Sum.inr.inj q)
    rw [decide_eq_false h, decide_eq_false e]
theorem key_lr (a : Int) (b : Str) : decide ((Sum.inl a : Key) = Sum.inr b) = false := decide_eq_false (fun q => nomatch q)
theorem key_rl (a : Str) (b : Int) : decide ((Sum.inr a : Key) = Sum.inl b) = false := decide_eq_false (fun q => nomatch q)
def mixKind (prog : Program) (w : World) : PySem.KeyKind prog w Key where
  is := keyIs
  hash := keyH w
  inj := fun v a b ha hb => by
    rcases keyIs_shape ha with ⟨i, t, rfl, rfl⟩ | ⟨x, t, rfl, rfl⟩
    · rcases keyIs_shape hb with ⟨j, u, rfl, e⟩ | ⟨y, u, rfl, e⟩
      · injection e with e1 _; rw [e1]
      · exact nomatch e
    · rcases keyIs_shape hb with ⟨j, u, rfl, e⟩ | ⟨y, u, rfl, e⟩
      · exact nomatch e
      · injection e with e1 _; rw [e1]
  byValue := fun k v h => by
    rcases keyIs_shape h with ⟨i, t, rfl, rfl⟩ | ⟨x, t, rfl, rfl⟩ <;> rfl
  pyHash := fun hv h => by
    rcases keyIs_shape hv with ⟨i, t, rfl, rfl⟩ | ⟨x, t, rfl, rfl⟩
    · exact wpAny_pyHash_int h
    · exact wpAny_pyHash_str h
  eqBool := fun hu hv h => by
    rcases keyIs_shape hu with ⟨i, t, rfl, rfl⟩ | ⟨x, t, rfl, rfl⟩
    · rcases keyIs_shape hv with ⟨j, u, rfl, rfl⟩ | ⟨y, u, rfl, rfl⟩
      · rw [key_ll] at h; exact wpAny_eqBool_int h
      · rw [key_lr] at h; exact SeqAt.EqAt.int_str i t y u _ _ _ _ h
    · rcases keyIs_shape hv with ⟨j, u, rfl, rfl⟩ | ⟨y, u, rfl, rfl⟩
      · rw [key_rl] at h; exact SeqAt.EqAt.str_int x t j u _ _ _ _ h
      · rw [key_rr] at h; exact wpAny_eqBool_str h
  «strs» := fun k x t v h => by
    rcases keyIs_shape h with ⟨i, u, rfl, e⟩ | ⟨y, u, rfl, e⟩
    · exact nomatch e
    · injection e with e1 _
      subst e1
      cases v <;> rfl
theorem mixKind_int (prog : Program) (w : World) (i : Int) (t : Tok) : (mixKind prog w).is (.inl i) (.int i t) = true := keyIs_int i t
theorem mixKind_str (prog : Program) (w : World) (x : Str) (t : Tok) : (mixKind prog w).is (.inr x) (.str x t) = true := keyIs_str x t
end L2
namespace L2
open PySem PySem.Spec PyProof.Rows
inductive V where
  | non | bl (b : Bool) | int (i : Int) | str (x : Str) | byt (b : Array UInt8) | flt (b : UInt64) | ref (a : Addr) | ty (n : String)
  deriving DecidableEq
def RelV : V → Value → Prop
  | .non, u => u = Value.none
  | .bl b, u => u = Value.bool b
  | .int i, u => ∃ t, u = Value.int i t
  | .str x, u => ∃ t, u = Value.str x t
  | .byt b, u => ∃ t, u = Value.bytes b t
  | .flt b, u => ∃ t, u = Value.float b t
  | .ref a, u => u = Value.ref a
  | .ty n, u => u = Value.type n
abbrev Vals : List V → List Value → Prop := Paired RelV
theorem Vals.length {xs : List V} {us : List Value} (r : Vals xs us) : xs.length = us.length := Paired.length r
theorem Vals.get : ∀ {xs : List V} {us : List Value} {i : Nat} {x : V}, Vals xs us → xs[i]? = some x → ∃ u, us[i]? = some u ∧ RelV x u
  | _, _, _, _, .nil, e => by simp at e
  | _, _, 0, _, .cons r _, e => by simp at e; subst e; exact ⟨_, rfl, r⟩
  | _, _, i + 1, x, .cons _ t, e => by
    obtain ⟨u, h1, h2⟩ := Vals.get (i := i) (x := x) t (by simpa using e)
    exact ⟨u, by simpa using h1, h2⟩
theorem Vals.set {x : V} {u : Value} (r : RelV x u) : ∀ {xs : List V} {us : List Value} (i : Nat), Vals xs us → Vals (xs.set i x) (us.set i u)
  | _, _, _, .nil => .nil
  | _, _, 0, .cons _ t => .cons r t
  | _, _, i + 1, .cons q t => .cons q (Vals.set r i t)
theorem Vals.append : ∀ {xs ys : List V} {us ws : List Value}, Vals xs us → Vals ys ws → Vals (xs ++ ys) (us ++ ws)
  | _, _, _, _, .nil, s => s
  | _, _, _, _, .cons r t, s => .cons r (Vals.append t s)
theorem Vals.take : ∀ {xs : List V} {us : List Value} (n : Nat), Vals xs us → Vals (xs.take n) (us.take n)
  | _, _, 0, _ => .nil
  | _, _, _ + 1, .nil => .nil
  | _, _, n + 1, .cons r t => .cons r (Vals.take n t)
theorem Vals.drop : ∀ {xs : List V} {us : List Value} (n : Nat), Vals xs us → Vals (xs.drop n) (us.drop n)
  | _, _, 0, r => r
  | _, _, _ + 1, .nil => .nil
  | _, _, n + 1, .cons _ t => Vals.drop n t
def RelO : Option V → Option Value → Prop
  | some v, some u => RelV v u
  | none, none => True
  | _, _ => False
def KV {κ : Type} : List (κ × V) → List (κ × Value) → Prop := Paired fun (p : κ × V) (q : κ × Value) => p.1 = q.1 ∧ RelV p.2 q.2
def kV : Key → V
  | .inl i => .int i
  | .inr x => .str x
inductive HO where
  | lst (xs : List V)
  | tup (xs : List V)
  | dK (kvs : List (Key × V)) | dT (kvs : List (List Key × V))
  | set (S : Int → Bool) (n : Nat)
  | ins (C dx : Addr) (fs : List (Str × V))
  | own (x : Addr)
  | xd (fs : List (Str × V))
  | met (f x : Addr)
  | rng (lo hi : Int)
  | frz (o : Obj) (u : HO)
  | tbl (ps : Array Value)
  | ext (φ : Heap → Prop)
abbrev Hp := Addr → Option HO
def upd (H : Hp) (a : Addr) (o : HO) : Hp := fun b => if b = a then some o else H b
theorem upd_same {H : Hp} {a : Addr} {o : HO} : upd H a o a = some o := by unfold upd; rw [if_pos rfl]
theorem upd_ne {H : Hp} {a b : Addr} {o : HO} (h : b ≠ a) : upd H a o b = H b := by unfold upd; rw [if_neg h]
theorem ne_of {H : Hp} {a b : Addr} {o u : HO} (h : H a = some o) (h' : H b = some u) (d : o ≠ u) : a ≠ b := by
  intro e; subst e; rw [h] at h'; exact d (Option.some.inj h')
theorem ne_of_none {H : Hp} {a b : Addr} {o : HO} (h : H a = some o) (h' : H b = none) : a ≠ b := by
  intro e; subst e; rw [h] at h'; cases h'
section
variable (P : Program) (w : World)
def ObjOk (H : Hp) (h : Heap) (a : Addr) : HO → Prop
  | .lst xs => xs.length ≤ sizeLine ∧ ∃ (its : List Value) (n : Nat), Vals xs its ∧ h.get? a = some { cls := .type "list", data := .seq its.toArray n }
  | .tup xs => xs.length ≤ sizeLine ∧ ∃ its : List Value, Vals xs its ∧ IsTup h a its.toArray
  | .dK kvs => kvs.length ≤ sizeLine ∧ (a == sysModules) = false ∧ ∃ vs, KV kvs vs ∧ h.DictOf (mixKind P w) a vs
  | .dT kvs => kvs.length ≤ sizeLine ∧ (a == sysModules) = false ∧ ∃ xs : List (List Key × Addr × Value),
      Paired (fun (p : List Key × V) (q : List Key × Addr × Value) => p.1 = q.1 ∧ H q.2.1 = some (.tup (p.1.map kV)) ∧ RelV p.2 q.2.2) kvs xs ∧
      ∃ o es ep, h.get? a = some o ∧ o.ExactDict ∧ o.data = .dict es ep ∧ es.toList = xs.map (entryOfKey (tupleKind (mixKind P w))) ∧ (xs.map (·.1)).Nodup
  | .set S n => h.SetOf (intKind P w) a S n
  | .ins C dx fs => H dx = some (.own a) ∧ fs.length ≤ 1000 ∧ dx ≠ a ∧ h.get? a = some (PySem.W.instObj C dx) ∧
      ∃ mA, h.Ns1 dx mA ∧ (∀ f, RelO (fs.lookup f) (mA f)) ∧ PySem.Within mA (fs.map (·.1))
  | .own _ => ∃ o, h.get? a = some o
  | .xd fs => ∃ mA, h.Ns1 a mA ∧ ∀ f, RelO (fs.lookup f) (mA f)
  | .rng lo hi => ∃ t u v, h.get? a = some { cls := .type "range", data := .fields #[.int lo t, .int hi u, .int 1 v] }
  | .frz o u => h.get? a = some o ∧ ObjOk H h a u
  | .tbl ps => h.get? a = some { cls := .none, data := .fields ps }
  | .met f x => h.get? a = some (PySem.W.methodObj (.ref f) (.ref x))
  | .ext φ => φ h ∧ (∃ o, h.get? a = some o) ∧ ∀ h1 h2 : Heap, φ h1 → (∀ o, h1.get? a = some o → h2.get? a = some o) → φ h2
def HOk (H : Hp) (h : Heap) : Prop := ∀ a o, H a = some o → ObjOk P w H h a o
end
section
variable {P : Program} {w : World} {H H' : Hp} {h h' : Heap} {a : Addr} {o : HO}
theorem ObjOk.lt (x : ObjOk P w H h a o) : a < h.objs.size := by
  cases o with
  | lst xs => obtain ⟨_, _, _, _, e⟩ := x; exact Heap.lt_size e
  | tup xs => obtain ⟨_, _, _, p⟩ := x; exact p.lt
  | dK kvs => obtain ⟨_, _, _, _, o, _, _, e, _⟩ := x; exact Heap.lt_size e
  | dT kvs => obtain ⟨_, _, _, _, o, _, _, e, _⟩ := x; exact Heap.lt_size e
  | set S n => obtain ⟨o, _, _, _, e, _⟩ := x; exact Heap.lt_size e
  | ins C dx fs => obtain ⟨_, _, _, e, _⟩ := x; exact Heap.lt_size e
  | own y => obtain ⟨_, e⟩ := x; exact Heap.lt_size e
  | xd fs => obtain ⟨_, ⟨_, _, _, e, _⟩, _⟩ := x; exact Heap.lt_size e
  | rng lo hi => obtain ⟨_, _, _, e⟩ := x; exact Heap.lt_size e
  | frz ob u => obtain ⟨e, _⟩ := x; exact Heap.lt_size e
  | tbl ps => exact Heap.lt_size (show h.get? a = some _ from x)
  | met f y => exact Heap.lt_size (show h.get? a = some _ from x)
  | ext φ => obtain ⟨_, ⟨_, e⟩, _⟩ := x; exact Heap.lt_size e
theorem Paired.mapP {α β : Type} {F G : α → β → Prop} : ∀ {l₁ : List α} {l₂ : List β}, Paired F l₁ l₂ → (∀ a b, F a b → G a b) → Paired G l₁ l₂
  | _, _, .nil, _ => .nil
  | _, _, .cons r t, f => .cons (f _ _ r) (Paired.mapP t f)
theorem ObjOk.stay (x : ObjOk P w H h a o) (k : ∀ b u, (b = a ∨ H b = some (.own a)) → h.get? b = some u → h'.get? b = some u)
    (ho : ∀ b, H b = some (.own a) → H' b = some (.own a)) (ht : ∀ b xs, H b = some (.tup xs) → H' b = some (.tup xs)) : ObjOk P w H' h' a o := by
  induction o with
  | lst xs => obtain ⟨z, its, n, r, e⟩ := x; exact ⟨z, its, n, r, k _ _ (.inl rfl) e⟩
  | tup xs => obtain ⟨z, its, r, ob, e, c⟩ := x; exact ⟨z, its, r, ob, k _ _ (.inl rfl) e, c⟩
  | dK kvs => obtain ⟨z, y, vs, r, ob, es, ep, e, c⟩ := x; exact ⟨z, y, vs, r, ob, es, ep, k _ _ (.inl rfl) e, c⟩
  | dT kvs =>
    obtain ⟨z, y, xs, r, ob, es, ep, e, c⟩ := x
    exact ⟨z, y, xs, Paired.mapP r fun p q z => ⟨z.1, ht _ _ z.2.1, z.2.2⟩, ob, es, ep, k _ _ (.inl rfl) e, c⟩
  | set S n => obtain ⟨ob, es, ep, t, e, c⟩ := x; exact ⟨ob, es, ep, t, k _ _ (.inl rfl) e, c⟩
  | ins C dx fs =>
    obtain ⟨d, z, ne, e, mA, ⟨od, es, ep, e2, c⟩, r⟩ := x
    exact ⟨ho _ d, z, ne, k _ _ (.inl rfl) e, mA, ⟨od, es, ep, k _ _ (.inr d) e2, c⟩, r⟩
  | own y => obtain ⟨ob, e⟩ := x; exact ⟨ob, k _ _ (.inl rfl) e⟩
  | xd fs => obtain ⟨mA, ⟨od, es, ep, e, c⟩, r⟩ := x; exact ⟨mA, ⟨od, es, ep, k _ _ (.inl rfl) e, c⟩, r⟩
  | rng lo hi => obtain ⟨t, u, v, e⟩ := x; exact ⟨t, u, v, k _ _ (.inl rfl) e⟩
  | frz ob u ih => obtain ⟨e, q⟩ := x; exact ⟨k _ _ (.inl rfl) e, ih q⟩
  | tbl ps =>
    have e : h.get? a = some { cls := .none, data := .fields ps } := x
    show h'.get? a = some { cls := .none, data := .fields ps }
    exact k a _ (.inl rfl) e
  | met f y =>
    have e : h.get? a = some (PySem.W.methodObj (.ref f) (.ref y)) := x
    show h'.get? a = some (PySem.W.methodObj (.ref f) (.ref y))
    exact k a _ (.inl rfl) e
  | ext φ => obtain ⟨p, ⟨o, e⟩, st⟩ := x; exact ⟨st _ _ p fun o q => k _ _ (.inl rfl) q, ⟨o, k _ _ (.inl rfl) e⟩, st⟩
theorem HOk.lt (x : HOk P w H h) (e : H a = some o) : a < h.objs.size := (x a o e).lt
theorem HOk.fresh (x : HOk P w H h) (e : h.objs.size ≤ a) : H a = none := by
  cases q : H a with
  | none => rfl
  | some u => exact absurd (Nat.lt_of_lt_of_le (x.lt q) e) (Nat.lt_irrefl _)
theorem HOk.kept (x : HOk P w H h) (k : ∀ b u, h.get? b = some u → h'.get? b = some u) : HOk P w H h' := fun a o e =>
  (x a o e).stay (fun b u _ q => k b u q) (fun _ q => q) fun _ _ q => q
theorem HOk.laid (x : HOk P w H h) (k : ∀ b u, h.get? b = some u → h'.get? b = some u) (hp : h.objs.size ≤ a) (new : ObjOk P w (upd H a o) h' a o) : HOk P w (upd H a o) h' := fun b u e => by
  have hn := x.fresh hp
  by_cases hb : b = a
  · subst hb; rw [upd_same] at e; cases e; exact new
  · rw [upd_ne hb] at e
    exact (x b u e).stay (fun c v _ q => k c v q) (fun c q => by rw [upd_ne (ne_of_none q hn)]; exact q) fun c xs q => by rw [upd_ne (ne_of_none q hn)]; exact q
end
def Rd (H : Hp) (a : Addr) (u : HO) : Prop := H a = some u ∨ ∃ o, H a = some (.frz o u)
theorem Rd.of {H : Hp} {a : Addr} {u : HO} (h : H a = some u) : Rd H a u := .inl h
theorem Rd.ok {P : Program} {w : World} {H : Hp} {h : Heap} {a : Addr} {u : HO} (r : Rd H a u) (x : HOk P w H h) : ObjOk P w H h a u := by
  rcases r with r | ⟨o, r⟩
  · exact x a u r
  · obtain ⟨_, q⟩ := x a _ r
    exact q
def Mut : Option HO → Prop
  | some (.lst _) => True
  | some (.dK _) => True
  | some (.dT _) => True
  | some (.set _ _) => True
  | some (.ins _ _ _) => True
  | some (.ext _) => True
  | _ => False
section
variable {P : Program} {w : World} {H : Hp} {h h' : Heap} {x e : Addr} {o' : HO}
theorem HOk.write (ok : HOk P w H h) (mu : Mut (H x)) (he : e = x ∨ H e = some (.own x)) (k : ∀ b u, b ≠ e → h.get? b = some u → h'.get? b = some u) (heo : ∃ u, h'.get? e = some u)
    (new : ObjOk P w (upd H x o') h' x o') : HOk P w (upd H x o') h' := fun b u q => by
  have nown : ∀ c y, H c = some (.own y) → c ≠ x := fun c y r z => by subst z; rw [r] at mu; exact mu
  have ntup : ∀ c xs, H c = some (.tup xs) → c ≠ x := fun c xs r z => by subst z; rw [r] at mu; exact mu
  by_cases hb : b = x
  · subst hb; rw [upd_same] at q; cases q; exact new
  · rw [upd_ne hb] at q
    by_cases hbe : b = e
    · have q' : H b = some (.own x) := by
        rcases he with z | z
        · exact absurd (hbe.trans z) hb
        · rw [hbe]; exact z
      rw [q] at q'; cases q'
      obtain ⟨v, hv⟩ := heo
      exact ⟨v, by rw [hbe]; exact hv⟩
    · refine (ok b u q).stay (fun c v hc r => k c v ?_ r) (fun c r => by rw [upd_ne (nown c b r)]; exact r) fun c xs r => by rw [upd_ne (ntup c xs r)]; exact r
      rcases hc with rfl | hc
      · exact hbe
      · rintro rfl
        rcases he with z | z
        · exact nown c b hc z
        · rw [hc] at z; cases z; exact hb rfl
end
structure Un (fs ex : List Addr) (H H' : Hp) (h h' : Heap) : Prop where
  keep : ∀ b o, h.get? b = some o → H b = none → b ∉ fs → b ∉ ex → h'.get? b = some o
  slot : ∀ b o, h.get? b = some o → H b = none → b ∈ fs → b ∉ ex → ∃ sl, h'.get? b = some { o with slots := sl }
  free : ∀ b o, h.get? b = some o → H b = none → b ∉ ex → H' b = none
  there : ∀ b o, h.get? b = some o → b ∉ ex → ∃ o', h'.get? b = some o'
  tups : ∀ b xs, H b = some (.tup xs) → H' b = some (.tup xs)
  frzs : ∀ b o u, H b = some (.frz o u) → H' b = some (.frz o u)
  tbls : ∀ b ps, H b = some (.tbl ps) → ∃ more, H' b = some (.tbl (ps ++ more))
section
variable {fs fs' ex ex' : List Addr} {H H1 H2 : Hp} {h h1 h2 h' : Heap} {a x e : Addr} {o : HO}
theorem Un.any (u : Un fs ex H H1 h h1) {b : Addr} {ob : Obj} (q : h.get? b = some ob) (n : H b = none) (hx : b ∉ ex) : ∃ sl, h1.get? b = some { ob with slots := sl } := by
  by_cases hb : b ∈ fs
  · exact u.slot b ob q n hb hx
  · exact ⟨ob.slots, u.keep b ob q n hb hx⟩
theorem Un.trans (a : Un fs ex H H1 h h1) (b : Un fs ex H1 H2 h1 h2) : Un fs ex H H2 h h2 where
  keep := fun c ob q n hc hx => b.keep c ob (a.keep c ob q n hc hx) (a.free c ob q n hx) hc hx
  slot := fun c ob q n hc hx => by
    obtain ⟨sl, e1⟩ := a.slot c ob q n hc hx
    obtain ⟨sl', e2⟩ := b.slot c _ e1 (a.free c ob q n hx) hc hx
    exact ⟨sl', e2⟩
  free := fun c ob q n hx => by
    obtain ⟨o', e1⟩ := a.there c ob q hx
    exact b.free c o' e1 (a.free c ob q n hx) hx
  there := fun c ob q hx => by
    obtain ⟨o', e1⟩ := a.there c ob q hx
    exact b.there c o' e1 hx
  tups := fun c xs q => b.tups c xs (a.tups c xs q)
  frzs := fun c ob xs q => b.frzs c ob xs (a.frzs c ob xs q)
  tbls := fun c ps q => by
    obtain ⟨m1, e1⟩ := a.tbls c ps q
    obtain ⟨m2, e2⟩ := b.tbls c _ e1
    exact ⟨m1 ++ m2, by rw [e2, Array.append_assoc]⟩
theorem Un.kept (k : ∀ b u, h.get? b = some u → h'.get? b = some u) : Un fs ex H H h h' :=
  ⟨fun b ob q _ _ _ => k b ob q, fun b ob q _ _ _ => ⟨ob.slots, k b ob q⟩, fun _ _ _ n _ => n, fun b ob q _ => ⟨ob, k b ob q⟩, fun _ _ q => q, fun _ _ _ q => q, fun _ ps q => ⟨#[], by rw [q]; simp⟩⟩
theorem Un.refl : Un fs ex H H h h := Un.kept fun _ _ q => q
theorem Un.laid (k : ∀ b u, h.get? b = some u → h'.get? b = some u) (hp : h.objs.size ≤ a) (hn : H a = none) : Un fs ex H (upd H a o) h h' where
  keep := fun b u q _ _ _ => k b u q
  slot := fun b u q _ _ _ => ⟨u.slots, k b u q⟩
  free := fun b u q n _ => by rw [upd_ne (Nat.ne_of_lt (Nat.lt_of_lt_of_le (Heap.lt_size q) hp))]; exact n
  there := fun b u q _ => ⟨u, k b u q⟩
  tups := fun b xs q => by rw [upd_ne (ne_of_none q hn)]; exact q
  frzs := fun b u xs q => by rw [upd_ne (ne_of_none q hn)]; exact q
  tbls := fun b ps q => ⟨#[], by rw [upd_ne (ne_of_none q hn), q]; simp⟩
theorem Un.write (mu : Mut (H x)) (he : e = x ∨ H e = some (.own x)) (k : ∀ b u, b ≠ e → h.get? b = some u → h'.get? b = some u) (heo : ∃ u, h'.get? e = some u) : Un fs ex H (upd H x o) h h' := by
  have hx : ∀ b, H b = none → b ≠ x := fun b n z => by subst z; rw [n] at mu; exact mu
  have hb : ∀ b, H b = none → b ≠ e := fun b n z => by
    subst z
    rcases he with r | r
    · exact hx b n r
    · rw [n] at r; cases r
  have hm : ∀ b u, H b = some u → ¬ Mut (some u) → b ≠ x := fun b u q nm z => by subst z; rw [q] at mu; exact nm mu
  refine ⟨fun b u q n _ _ => k b u (hb b n) q, fun b u q n _ _ => ⟨u.slots, k b u (hb b n) q⟩, fun b u q n _ => by rw [upd_ne (hx b n)]; exact n, fun b u q _ => ?_,
    fun b xs q => by rw [upd_ne (hm b _ q fun z => z)]; exact q, fun b u xs q => by rw [upd_ne (hm b _ q fun z => z)]; exact q, fun b ps q => ⟨#[], by rw [upd_ne (hm b _ q fun z => z), q]; simp⟩⟩
  by_cases hbe : b = e
  · subst hbe; exact heo
  · exact ⟨u, k b u hbe q⟩
theorem Un.mono (u : Un fs ex H H1 h h1) (hs : ∀ b ∈ fs, b ∈ fs') (hx : ∀ b ∈ ex, b ∈ ex') : Un fs' ex' H H1 h h1 :=
  ⟨fun b ob q n hb he => u.keep b ob q n (fun z => hb (hs b z)) fun z => he (hx b z), fun _ _ q n _ he => u.any q n fun z => he (hx _ z), fun b ob q n he => u.free b ob q n fun z => he (hx b z), fun b ob q he => u.there b ob q fun z => he (hx b z), u.tups, u.frzs, u.tbls⟩
end
def trk (h : Heap) (H : Hp) : List Addr := (List.range h.objs.size).filter fun a => (H a).isSome
def hidT (h : Heap) (H : Hp) : Heap := PySem.W.hideAll h (trk h H)
theorem hidT_size (h : Heap) (H : Hp) : (hidT h H).objs.size = h.objs.size := PySem.W.hideAll_size _ _
theorem hidT_get {h : Heap} {H : Hp} {b : Addr} {o : Obj} (e : h.get? b = some o) (n : H b = none) : (hidT h H).get? b = some o :=
  PySem.W.hideAll_get _ e fun hm => by
    have q : (H b).isSome = true := (List.mem_filter.mp hm).2
    rw [n] at q; simp at q
theorem of_hidT {h : Heap} {H : Hp} {b : Addr} {o : Obj} (e : (hidT h H).get? b = some o) : h.get? b = some o ∧ H b = none := by
  have e' : h.get? b = some o := PySem.W.of_hideAll (trk h H) e
  refine ⟨e', ?_⟩
  cases q : H b with
  | none => rfl
  | some x =>
    have hm : b ∈ trk h H := List.mem_filter.mpr ⟨List.mem_range.mpr (Heap.lt_size e'), by simp [q]⟩
    have z : (hidT h H).get? b = none := PySem.W.hideAll_none (trk h H) hm
    rw [z] at e; cases e
def allNews (g h : Heap) (L : Addr) : List (Addr × Obj) := (List.range h.objs.size).filterMap fun a => if a = L ∨ (g.get? a).isSome = true then none else (h.get? a).map fun o => (a, o)
def rest (g h : Heap) (L d : Addr) : List (Addr × Obj) := (allNews g h L).filter fun p => decide (p.1 ≠ d)
end L2
namespace L2
open PySem PySem.Spec PyProof.Rows
structure Mod (K : PySem.W.Frag) (mg : Str → Option Value) (base : Heap) : Prop where
  kin : K.In base
  glob : base.Ns mainGlobals mg
  blt : ∃ mb, base.Ns builtinsNs mb ∧ ∀ x : Str, x ≠ "__name__" → mb x = bootBuiltins x
  nolimit : base.NoLimit
structure Cx where
  prog : Program
  w : World
  K : PySem.W.Frag
  mg : Str → Option Value
  base : Heap
  A : Around
  N : List Str
  s₀ : Shared
  H₀ : Hp
  env : Env
  outer : List Env
  stack : List Env
  ex : List Addr
  fn : Str → Bool
  calm : Bool
  pn : List (Addr × Obj)
  xe : Value → Shared → Prop
def frs (l : List Env) : List Addr := l.filterMap (·.frame)
abbrev Cx.fs (X : Cx) : List Addr := frs X.outer
def Vis (sc : Scope) (x : Str) : Prop := sc.names.lookup x = some .local ∨ sc.names.lookup x = some .cell ∨ sc.names.lookup x = some .free
def Loc (sc : Scope) (x : Str) : Prop := sc.names.lookup x = some .local ∨ sc.names.lookup x = some .cell
def Look (env : Env) (h : Heap) (m : Str → Option Value) (x : Str) (u : Value) : Prop :=
  (env.kindOf x = some .local ∧ m x = some u) ∨ ((env.kindOf x = some .cell ∨ env.kindOf x = some .free) ∧ ∃ c, env.cells.lookup x = some c ∧ h.IsCell c (some u))
structure Cx.Ok (X : Cx) : Prop where
  mod : Mod X.K X.mg X.base
  kind : X.env.scope.kind = .function
  glob : X.env.globals = mainGlobals
  blt : X.env.builtins = builtinsNs
  above : X.s₀.heap.objs.size ≤ X.env.locals
  inj : ∀ x y c, X.env.cells.lookup x = some c → X.env.cells.lookup y = some c → x = y
  has : ∀ x, (X.env.kindOf x = some .cell ∨ X.env.kindOf x = some .free) → ∃ c, X.env.cells.lookup x = some c
  cab : ∀ x c, X.fn x = true → X.env.cells.lookup x = some c → X.s₀.heap.objs.size ≤ c
  hd : X.calm = true → X.A.handled = none
  frames : X.A.frames = some X.stack
  stk : X.stack = X.outer ∨ (X.stack = X.env :: X.outer ∧ X.env.frame = some X.env.locals)
  exf : ∀ b ∈ X.ex, b ≠ X.env.locals ∧ ∀ x c, X.env.cells.lookup x = some c → c ≠ b
  bs : ∀ b o, X.base.get? b = some o → X.s₀.heap.get? b = some o ∧ X.H₀ b = none
  bsz : X.base.objs.size ≤ X.s₀.heap.objs.size
  noex : ∀ b o, X.base.get? b = some o → b ∉ X.ex
  exfs : ∀ b ∈ X.ex, b ∉ X.fs
  funs : X.s₀.heap.FunFrames X.base X.outer
  frf : ∀ b ∈ X.fs, X.H₀ b = none
structure Inv (X : Cx) (pins : List (Addr × Obj)) (σ : List (Option V)) (H : Hp) (s : Shared) : Prop where
  ok : X.Ok
  os : s.os = X.s₀.os
  bare : AllBare s.gens
  base : Un X.fs X.ex X.H₀ H X.s₀.heap s.heap
  loc : ∃ m, s.heap.Ns X.env.locals m ∧ ∀ (i : Nat) (x : Str) (v : V), X.N[i]? = some x → σ[i]? = some (some v) → Vis X.env.scope x → ∃ u, RelV v u ∧ Look X.env s.heap m x u
  cell : ∀ x c, X.env.cells.lookup x = some c → ∃ v, s.heap.IsCell c v
  free : H X.env.locals = none
  freeC : ∀ x c, X.env.cells.lookup x = some c → H c = none
  pin : ∀ p ∈ X.pn ++ pins, s.heap.get? p.1 = some p.2 ∧ H p.1 = none ∧ p.1 ≠ X.env.locals ∧ p.1 ∉ X.fs ∧ ∀ v, p.2.data ≠ .cell v
  hok : HOk X.prog X.w H s.heap
  len : σ.length = X.N.length
section
variable {X : Cx} {pins : List (Addr × Obj)} {σ : List (Option V)} {H H' : Hp} {s : Shared} {h' : Heap}
theorem Cx.Ok.nofr (ok : X.Ok) {b : Addr} {o : Obj} (e : X.base.get? b = some o) : b ∉ X.fs := fun hb => by
  have := (ok.funs.mem hb).1
  rw [e] at this; cases this
theorem Inv.bs (I : Inv X pins σ H s) : ∀ b o, X.base.get? b = some o → s.heap.get? b = some o ∧ H b = none := fun b o e =>
  ⟨I.base.keep b o (I.ok.bs b o e).1 (I.ok.bs b o e).2 (I.ok.nofr e) (I.ok.noex b o e), I.base.free b o (I.ok.bs b o e).1 (I.ok.bs b o e).2 (I.ok.noex b o e)⟩
theorem Inv.bk (I : Inv X pins σ H s) : ∀ b o, X.base.get? b = some o → s.heap.get? b = some o := fun b o e => (I.bs b o e).1
theorem Inv.mod (I : Inv X pins σ H s) : Mod X.K X.mg X.base := I.ok.mod
theorem Inv.kIn (I : Inv X pins σ H s) : X.K.In s.heap := I.ok.mod.kin.keeps I.bk
theorem Inv.nolimit (I : Inv X pins σ H s) : s.heap.NoLimit := I.ok.mod.nolimit.keeps I.bk
theorem Inv.fr (I : Inv X pins σ H s) : ∃ m, Fr X.base X.env.locals s.heap m :=
  let ⟨m, hn, _⟩ := I.loc
  ⟨m, hn, I.bk, Nat.le_trans I.ok.bsz I.ok.above⟩
theorem Inv.lt (I : Inv X pins σ H s) : X.env.locals < s.heap.objs.size := let ⟨_, hn, _⟩ := I.loc; hn.lt
theorem Inv.sz (I : Inv X pins σ H s) : X.s₀.heap.objs.size ≤ s.heap.objs.size := Nat.le_trans I.ok.above (Nat.le_of_lt I.lt)
theorem Inv.nofs (I : Inv X pins σ H s) {a : Addr} (h : s.heap.objs.size ≤ a) : a ∉ X.fs := fun hb => by
  obtain ⟨_, o, ho, _⟩ := I.ok.funs.mem hb
  exact absurd (Nat.lt_of_lt_of_le (Heap.lt_size ho) (Nat.le_trans I.sz h)) (Nat.lt_irrefl _)
theorem Inv.cne (I : Inv X pins σ H s) : ∀ x c, X.env.cells.lookup x = some c → c ≠ X.env.locals := fun x c e z => by
  obtain ⟨v, o, ho, hd⟩ := I.cell x c e
  obtain ⟨m, ⟨o', es, ep, ho', hd', _⟩, _⟩ := I.loc
  rw [z, ho'] at ho; cases ho; rw [hd'] at hd; cases hd
theorem Inv.funs (I : Inv X pins σ H s) : s.heap.FunFrames X.base X.outer := by
  have all : ∀ (l : List Env), (∀ b ∈ frs l, b ∈ X.fs) → X.s₀.heap.FunFrames X.base l → s.heap.FunFrames X.base l := by
    intro l
    induction l with
    | nil => intro _ _; trivial
    | cons env r ih =>
      intro hs hl
      obtain ⟨hk, ⟨L, o, hf, hn, ho, hd⟩, hr⟩ := hl
      have hL : L ∈ X.fs := hs L (by unfold frs; rw [List.filterMap_cons, hf]; exact List.mem_cons_self)
      obtain ⟨sl, e⟩ := I.base.slot L o ho (I.ok.frf L hL) hL fun z => I.ok.exfs L z hL
      exact ⟨hk, ⟨L, _, hf, hn, e, hd⟩, ih (fun b hb => hs b (by unfold frs; rw [List.filterMap_cons, hf]; exact List.mem_cons_of_mem _ hb)) hr⟩
  exact all X.outer (fun _ hb => hb) I.ok.funs
theorem Inv.stack (I : Inv X pins σ H s) : s.heap.FunFrames X.base X.stack := by
  rcases I.ok.stk with e | ⟨e, hf⟩
  · rw [e]; exact I.funs
  · rw [e]
    obtain ⟨m, hn, _⟩ := I.loc
    refine .cons (by rw [I.ok.kind]; decide) hf hn ?_ I.funs
    exact Heap.get?_none_of_le (Nat.le_trans I.ok.bsz I.ok.above)
theorem Inv.stkSub (I : Inv X pins σ H s) : ∀ b ∈ frs X.stack, b ∈ X.env.locals :: X.fs := fun b hb => by
  rcases I.ok.stk with e | ⟨e, hf⟩
  · rw [e] at hb; exact List.mem_cons_of_mem _ hb
  · rw [e] at hb
    unfold frs at hb
    rw [List.filterMap_cons, hf] at hb
    exact hb
theorem Inv.stkFree (I : Inv X pins σ H s) : ∀ b ∈ frs X.stack, H b = none := fun b hb => by
  rcases List.mem_cons.mp (I.stkSub b hb) with e | hb
  · rw [e]; exact I.free
  · obtain ⟨_, o, ho, _⟩ := I.ok.funs.mem hb
    exact I.base.free b o ho (I.ok.frf b hb) fun z => I.ok.exfs b z hb
theorem Inv.step {g' : Array GenState} {t' : Nat} {d' : Drawn} {ch : List Addr} (I : Inv X pins σ H s)
    (hch : ∀ b ∈ ch, (b ∈ X.ex ∨ X.s₀.heap.objs.size ≤ b) ∧ b ≠ X.env.locals ∧ (∀ x c, X.env.cells.lookup x = some c → c ≠ b) ∧ ∀ p ∈ X.pn ++ pins, p.1 ≠ b)
    (keep : ∀ b o, b ≠ X.env.locals → b ∉ X.fs → b ∉ ch → s.heap.get? b = some o → H b = none → h'.get? b = some o)
    (slot : ∀ b o, b ≠ X.env.locals → b ∈ X.fs → b ∉ ch → s.heap.get? b = some o → H b = none → ∃ sl, h'.get? b = some { o with slots := sl }) (free : ∀ b o, b ∉ ch → s.heap.get? b = some o → H b = none → H' b = none)
    (there : ∀ b o, b ∉ ch → s.heap.get? b = some o → ∃ o', h'.get? b = some o')
    (tups : ∀ b xs, H b = some (.tup xs) → H' b = some (.tup xs)) (frzs : ∀ b o u, H b = some (.frz o u) → H' b = some (.frz o u)) (tbls : ∀ b ps, H b = some (.tbl ps) → ∃ more, H' b = some (.tbl (ps ++ more)))
    (ns : ∀ m, s.heap.Ns X.env.locals m → h'.Ns X.env.locals m) (hok : HOk X.prog X.w H' h') (hg : AllBare g') :
    Inv X pins σ H' { s with heap := h', gens := g', drawn := d', toks := t' } := by
  have neL : ∀ b o, X.s₀.heap.get? b = some o → b ≠ X.env.locals := fun b o e => Nat.ne_of_lt (Nat.lt_of_lt_of_le (Heap.lt_size e) I.ok.above)
  have neC : ∀ b o, X.s₀.heap.get? b = some o → b ∉ X.ex → b ∉ ch := fun b o e hx hb => by
    rcases (hch b hb).1 with z | z
    · exact hx z
    · exact absurd (Nat.lt_of_lt_of_le (Heap.lt_size e) z) (Nat.lt_irrefl _)
  have cellK : ∀ x c, X.env.cells.lookup x = some c → ∀ v, s.heap.IsCell c v → h'.IsCell c v := fun x c e v ⟨o, ho, hd⟩ => by
    have nch : c ∉ ch := fun z => (hch c z).2.2.1 x c e rfl
    by_cases hc : c ∈ X.fs
    · obtain ⟨sl, q⟩ := slot c o (I.cne x c e) hc nch ho (I.freeC x c e)
      exact ⟨_, q, hd⟩
    · exact ⟨o, keep c o (I.cne x c e) hc nch ho (I.freeC x c e), hd⟩
  refine ⟨I.ok, I.os, hg, ⟨fun b o e n hb hx => ?_, fun b o e n hb hx => ?_, fun b o e n hx => ?_, fun b o e hx => ?_, fun b xs e => tups b xs (I.base.tups b xs e), fun b o xs e => frzs b o xs (I.base.frzs b o xs e), fun b ps e => ?_⟩, ?_, fun x c e => ?_, ?_, fun x c e => ?_, fun p hp => ?_, hok, I.len⟩
  · exact keep b o (neL b o e) hb (neC b o e hx) (I.base.keep b o e n hb hx) (I.base.free b o e n hx)
  · obtain ⟨sl, e1⟩ := I.base.slot b o e n hb hx
    obtain ⟨sl', e2⟩ := slot b _ (neL b o e) hb (neC b o e hx) e1 (I.base.free b o e n hx)
    exact ⟨sl', e2⟩
  · obtain ⟨o', e1⟩ := I.base.there b o e hx
    exact free b o' (neC b o e hx) e1 (I.base.free b o e n hx)
  · obtain ⟨o', e1⟩ := I.base.there b o e hx
    exact there b o' (neC b o e hx) e1
  · obtain ⟨m1, e1⟩ := I.base.tbls b ps e
    obtain ⟨m2, e2⟩ := tbls b _ e1
    exact ⟨m1 ++ m2, by rw [e2, Array.append_assoc]⟩
  · obtain ⟨m, hn, hl⟩ := I.loc
    refine ⟨m, ns m hn, fun i x v e1 e2 e3 => ?_⟩
    obtain ⟨u, r, l⟩ := hl i x v e1 e2 e3
    refine ⟨u, r, ?_⟩
    rcases l with l | ⟨k, c, e, z⟩
    · exact .inl l
    · exact .inr ⟨k, c, e, cellK x c e _ z⟩
  · obtain ⟨v, z⟩ := I.cell x c e
    exact ⟨v, cellK x c e v z⟩
  · obtain ⟨m, ⟨o, _, _, ho, _⟩, _⟩ := I.loc
    exact free _ o (fun z => (hch _ z).2.1 rfl) ho I.free
  · obtain ⟨v, o, ho, hd⟩ := I.cell x c e
    exact free c o (fun z => (hch c z).2.2.1 x c e rfl) ho (I.freeC x c e)
  · obtain ⟨e, n, ne, nf, d⟩ := I.pin p hp
    have nch : p.1 ∉ ch := fun z => (hch p.1 z).2.2.2 p hp rfl
    exact ⟨keep p.1 p.2 ne nf nch e n, free p.1 p.2 nch e n, ne, nf, d⟩
theorem Inv.un {t' : Nat} (I : Inv X pins σ H s) (u : Un X.fs [] H H' s.heap h') (hok : HOk X.prog X.w H' h') : Inv X pins σ H' { s with heap := h', toks := t' } := by
  obtain ⟨m, ⟨o, es, ep, ho, r⟩, _⟩ := id I.loc
  obtain ⟨sl, hL⟩ := u.any ho I.free (by simp)
  exact I.step (g' := s.gens) (d' := s.drawn) (ch := []) (fun _ z => nomatch z) (fun b o _ hb _ e n => u.keep b o e n hb (by simp)) (fun b o _ hb _ e n => u.slot b o e n hb (by simp)) (fun b o _ e n => u.free b o e n (by simp)) (fun b o _ e => u.there b o e (by simp)) u.tups u.frzs u.tbls (fun m' hm => by
    obtain ⟨o', es', ep', ho', r'⟩ := hm
    rw [ho] at ho'; cases ho'
    exact ⟨_, es', ep', hL, r'⟩) hok I.bare
theorem Inv.call {g' : Array GenState} {t' : Nat} {d' : Drawn} {ch : List Addr} (I : Inv X pins σ H s) (u : Un (frs X.stack) ch H H' s.heap h') (hok : HOk X.prog X.w H' h') (hg : AllBare g')
    (hch : ∀ b ∈ ch, (b ∈ X.ex ∨ X.s₀.heap.objs.size ≤ b) ∧ b ≠ X.env.locals ∧ (∀ x c, X.env.cells.lookup x = some c → c ≠ b) ∧ ∀ p ∈ X.pn ++ pins, p.1 ≠ b) :
    Inv X pins σ H' { s with heap := h', gens := g', drawn := d', toks := t' } := by
  obtain ⟨m, ⟨o, es, ep, ho, r⟩, _⟩ := id I.loc
  obtain ⟨sl, hL⟩ := u.any ho I.free fun z => (hch _ z).2.1 rfl
  exact I.step (ch := ch) hch (fun b o hL hb hc e n => u.keep b o e n (fun z => (List.mem_cons.mp (I.stkSub b z)).elim hL hb) hc) (fun b o _ _ hc e n => u.any e n hc) (fun b o hc e n => u.free b o e n hc) (fun b o hc e => u.there b o e hc) u.tups u.frzs u.tbls (fun m' hm => by
    obtain ⟨o', es', ep', ho', r'⟩ := hm
    rw [ho] at ho'; cases ho'
    exact ⟨_, es', ep', hL, r'⟩) hok hg
theorem Inv.turned {t' : Nat} {it : Addr} (I : Inv X pins σ H s) (k : ∀ b o, b ≠ it → s.heap.get? b = some o → h'.get? b = some o) (hn : H it = none) (hL : it ≠ X.env.locals)
    (h1 : it ∈ X.ex ∨ X.s₀.heap.objs.size ≤ it) (h2 : ∀ x c, X.env.cells.lookup x = some c → c ≠ it) (h3 : ∀ p ∈ X.pn ++ pins, p.1 ≠ it) : Inv X pins σ H { s with heap := h', toks := t' } := by
  have nit : ∀ b u, H b = some u → b ≠ it := fun b u e z => by rw [z, hn] at e; cases e
  refine I.step (g' := s.gens) (d' := s.drawn) (ch := [it]) (fun b hb => ?_) (fun b o _ _ hc e _ => k b o (fun z => hc (by simp [z])) e) (fun b o _ _ hc e _ => ⟨o.slots, k b o (fun z => hc (by simp [z])) e⟩) (fun _ _ _ _ n => n)
    (fun b o hc e => ⟨o, k b o (fun z => hc (by simp [z])) e⟩) (fun _ _ e => e) (fun _ _ _ e => e) (fun b ps e => ⟨#[], by rw [e]; simp⟩) (fun m hm => ?_) (fun b u e => ?_) I.bare
  · have e : b = it := by simpa using hb
    subst e
    exact ⟨h1, hL, h2, h3⟩
  · obtain ⟨o, es, ep, ho, r⟩ := hm
    exact ⟨o, es, ep, k _ o (Ne.symm hL) ho, r⟩
  · refine (I.hok b u e).stay (fun c v hc q => k c v ?_ q) (fun _ q => q) fun _ _ q => q
    rcases hc with z | z
    · rw [z]; exact nit b u e
    · exact nit c _ z
theorem Inv.tok (I : Inv X pins σ H s) (t : Nat) : Inv X pins σ H { s with toks := t } := I.un (h' := s.heap) (t' := t) Un.refl I.hok
theorem Inv.kept {t' : Nat} (I : Inv X pins σ H s) (k : ∀ b u, s.heap.get? b = some u → h'.get? b = some u) : Inv X pins σ H { s with heap := h', toks := t' } := I.un (Un.kept k) (I.hok.kept k)
theorem Inv.laid {a : Addr} {o : HO} {t' : Nat} (I : Inv X pins σ H s) (k : ∀ b u, s.heap.get? b = some u → h'.get? b = some u) (hp : s.heap.objs.size ≤ a) (new : ObjOk X.prog X.w (upd H a o) h' a o) :
    Inv X pins σ (upd H a o) { s with heap := h', toks := t' } := I.un (Un.laid k hp (I.hok.fresh hp)) (I.hok.laid k hp new)
theorem Inv.write {x e : Addr} {o : HO} {t' : Nat} (I : Inv X pins σ H s) (mu : Mut (H x)) (he : e = x ∨ H e = some (.own x)) (k : ∀ b u, b ≠ e → s.heap.get? b = some u → h'.get? b = some u) (heo : ∃ u, h'.get? e = some u)
    (new : ObjOk X.prog X.w (upd H x o) h' x o) : Inv X pins σ (upd H x o) { s with heap := h', toks := t' } := I.un (Un.write mu he k heo) (I.hok.write mu he k heo new)
theorem Inv.weak {σ' : List (Option V)} (I : Inv X pins σ H s) (hl : σ'.length = σ.length) (w : ∀ (i : Nat) v, σ'[i]? = some (some v) → σ[i]? = some (some v)) : Inv X pins σ' H s :=
  ⟨I.ok, I.os, I.bare, I.base, let ⟨m, hn, hl'⟩ := I.loc; ⟨m, hn, fun i x v e1 e2 e3 => hl' i x v e1 (w i v e2) e3⟩, I.cell, I.free, I.freeC, I.pin, I.hok, hl.trans I.len⟩
theorem Inv.pins_of {pins' : List (Addr × Obj)} (I : Inv X pins σ H s) (h : ∀ p ∈ pins', s.heap.get? p.1 = some p.2 ∧ H p.1 = none ∧ p.1 ≠ X.env.locals ∧ p.1 ∉ X.fs ∧ ∀ v, p.2.data ≠ .cell v) : Inv X pins' σ H s :=
  ⟨I.ok, I.os, I.bare, I.base, I.loc, I.cell, I.free, I.freeC, fun p hp => (List.mem_append.mp hp).elim (fun z => I.pin p (List.mem_append_left _ z)) (h p), I.hok, I.len⟩
theorem nodup_ix {N : List Str} (hN : N.Nodup) {i j : Nat} {x : Str} (a : N[i]? = some x) (b : N[j]? = some x) : i = j := by
  obtain ⟨h1, e1⟩ := List.getElem?_eq_some_iff.mp a
  obtain ⟨h2, e2⟩ := List.getElem?_eq_some_iff.mp b
  exact (List.getElem_inj hN).mp (e1.trans e2.symm)
theorem store_ok2 {M : Model} {A : Around} {E : Value → Shared → Prop} {i : Nat} {x : Str} {v : V} {u : Value} {Q : Unit → Shared → Prop} (I : Inv X pins σ H s) (hN : X.N.Nodup) (hi : X.N[i]? = some x) (hx : Loc X.env.scope x) (r : RelV v u)
    (h : ∀ s', Inv X pins (σ.set i (some v)) H s' → (∃ a, Heap.SameBut a s.heap s'.heap ∧ (a = X.env.locals ∨ X.env.cells.lookup x = some a)) → Q () s') (hf : X.fn x = true ∨ X.env.scope.names.lookup x = some .local := by first | exact .inl rfl | exact .inr rfl | assumption) : wpAny M A (storeName X.env x u) Q E s := by
  obtain ⟨m, hn, hl⟩ := id I.loc
  have hcls : (X.env.scope.kind == .class || (X.env.scope.kind == .module && X.env.locals != X.env.globals)) = false := by rw [I.ok.kind]; rfl
  have hiσ : i < σ.length := by rw [I.len]; exact (List.getElem?_eq_some_iff.mp hi).1
  have cne := I.cne
  have tracked : ∀ {a : Addr} {h' : Heap}, (∃ o, s.heap.get? a = some o ∧ H a = none) → Heap.SameBut a s.heap h' → HOk X.prog X.w H h' := fun {a h'} ha hs b ob e => by
    obtain ⟨_, _, hfree⟩ := ha
    refine (I.hok b ob e).stay (fun c w' hc q => (hs.2 c ?_).trans q) (fun _ q => q) fun _ _ q => q
    rintro rfl
    rcases hc with rfl | hc
    · rw [hfree] at e; cases e
    · rw [hfree] at hc; cases hc
  rcases hx with hk | hk
  · refine wpAny_storeName_local hk hn (fun h' hn' hs => ?_) hcls
    obtain ⟨oL, _, _, hoL, _⟩ := id hn
    refine h _ ⟨I.ok, I.os, I.bare, ⟨fun b o e n hb hx => ?_, fun b o e n hb hx => ?_, I.base.free, fun b o e hx => ?_, I.base.tups, I.base.frzs, I.base.tbls⟩, ⟨_, hn', fun j y v' e1 e2 e3 => ?_⟩, fun y c e => ?_, I.free, I.freeC, fun p hp => ?_, tracked ⟨oL, hoL, I.free⟩ hs, by simpa using I.len⟩ ⟨_, hs, .inl rfl⟩
    · exact (hs.2 b (Nat.ne_of_lt (Nat.lt_of_lt_of_le (Heap.lt_size e) I.ok.above))).trans (I.base.keep b o e n hb hx)
    · obtain ⟨sl, e1⟩ := I.base.slot b o e n hb hx
      exact ⟨sl, (hs.2 b (Nat.ne_of_lt (Nat.lt_of_lt_of_le (Heap.lt_size e) I.ok.above))).trans e1⟩
    · obtain ⟨o', e1⟩ := I.base.there b o e hx
      exact ⟨o', (hs.2 b (Nat.ne_of_lt (Nat.lt_of_lt_of_le (Heap.lt_size e) I.ok.above))).trans e1⟩
    · by_cases hj : j = i
      · subst hj
        rw [hi] at e1; cases e1
        rw [List.getElem?_set_self hiσ] at e2
        cases e2
        exact ⟨u, r, .inl ⟨hk, by simp⟩⟩
      · rw [List.getElem?_set_ne (Ne.symm hj)] at e2
        obtain ⟨u', r', q⟩ := hl j y v' e1 e2 e3
        refine ⟨u', r', ?_⟩
        rcases q with ⟨k, e⟩ | ⟨k, c, e, z⟩
        · refine .inl ⟨k, ?_⟩
          have : y ≠ x := fun e => hj (nodup_ix hN e1 (e ▸ hi))
          simp [this, e]
        · exact .inr ⟨k, c, e, z.sameBut hs (cne y c e)⟩
    · obtain ⟨w', z⟩ := I.cell y c e
      exact ⟨w', z.sameBut hs (cne y c e)⟩
    · obtain ⟨e, n, ne, nf, d⟩ := I.pin p hp
      exact ⟨(hs.2 p.1 ne).trans e, n, ne, nf, d⟩
  · have hfn : X.fn x = true := by
      rcases hf with z | z
      · exact z
      · rw [z] at hk; cases hk
    obtain ⟨c, hc⟩ := I.ok.has x (.inl hk)
    obtain ⟨w', z⟩ := I.cell x c hc
    refine wpAny_storeName_cell I.ok.kind hk hc z (fun h' hc' hs => ?_)
    obtain ⟨oc, hoc, hocd⟩ := id z
    refine h { s with heap := h' } ⟨I.ok, I.os, I.bare, ⟨fun b o e n hb hx => ?_, fun b o e n hb hx => ?_, I.base.free, fun b o e hx => ?_, I.base.tups, I.base.frzs, I.base.tbls⟩, ⟨m, hn.sameBut hs (Ne.symm (cne x c hc)), fun j y v' e1 e2 e3 => ?_⟩, fun y c' e => ?_, I.free, I.freeC, fun p hp => ?_, tracked ⟨oc, hoc, I.freeC x c hc⟩ hs, by simpa using I.len⟩ ⟨c, hs, .inr hc⟩
    · exact (hs.2 b (Nat.ne_of_lt (Nat.lt_of_lt_of_le (Heap.lt_size e) (I.ok.cab x c hfn hc)))).trans (I.base.keep b o e n hb hx)
    · obtain ⟨sl, e1⟩ := I.base.slot b o e n hb hx
      exact ⟨sl, (hs.2 b (Nat.ne_of_lt (Nat.lt_of_lt_of_le (Heap.lt_size e) (I.ok.cab x c hfn hc)))).trans e1⟩
    · obtain ⟨o', e1⟩ := I.base.there b o e hx
      exact ⟨o', (hs.2 b (Nat.ne_of_lt (Nat.lt_of_lt_of_le (Heap.lt_size e) (I.ok.cab x c hfn hc)))).trans e1⟩
    · by_cases hj : j = i
      · subst hj
        rw [hi] at e1; cases e1
        rw [List.getElem?_set_self hiσ] at e2
        cases e2
        exact ⟨u, r, .inr ⟨.inl hk, c, hc, hc'⟩⟩
      · rw [List.getElem?_set_ne (Ne.symm hj)] at e2
        obtain ⟨u', r', q⟩ := hl j y v' e1 e2 e3
        refine ⟨u', r', ?_⟩
        rcases q with q | ⟨k, c', e, z'⟩
        · exact .inl q
        · refine .inr ⟨k, c', e, z'.sameBut hs ?_⟩
          rintro rfl
          exact hj (nodup_ix hN e1 (I.ok.inj _ _ _ e hc ▸ hi))
    · by_cases hcc : c' = c
      · subst hcc; exact ⟨_, hc'⟩
      · obtain ⟨w2, z2⟩ := I.cell y c' e
        exact ⟨w2, z2.sameBut hs hcc⟩
    · obtain ⟨e, n, ne, nf, d⟩ := I.pin p hp
      refine ⟨(hs.2 p.1 ?_).trans e, n, ne, nf, d⟩
      intro q
      rw [q, hoc] at e
      have q' : oc = p.2 := Option.some.inj e
      exact d w' (by rw [← q']; exact hocd)
theorem store_ok {M : Model} {A : Around} {E : Value → Shared → Prop} {i : Nat} {x : Str} {v : V} {u : Value} {Q : Unit → Shared → Prop} (I : Inv X pins σ H s) (hN : X.N.Nodup) (hi : X.N[i]? = some x) (hx : Loc X.env.scope x) (r : RelV v u)
    (h : ∀ s', Inv X pins (σ.set i (some v)) H s' → Q () s') (hf : X.fn x = true ∨ X.env.scope.names.lookup x = some .local := by first | exact .inl rfl | exact .inr rfl | assumption) : wpAny M A (storeName X.env x u) Q E s :=
  store_ok2 I hN hi hx r (fun s' I' _ => h s' I') hf
theorem Inv.call' {s' : Shared} {ch : List Addr} (I : Inv X pins σ H s) (ho : s'.os = s.os) (u : Un (frs X.stack) ch H H' s.heap s'.heap) (hok : HOk X.prog X.w H' s'.heap) (hg : AllBare s'.gens)
    (hch : ∀ b ∈ ch, (b ∈ X.ex ∨ X.s₀.heap.objs.size ≤ b) ∧ b ≠ X.env.locals ∧ (∀ x c, X.env.cells.lookup x = some c → c ≠ b) ∧ ∀ p ∈ X.pn ++ pins, p.1 ≠ b) : Inv X pins σ H' s' := by
  obtain ⟨h', g', d', t', o'⟩ := s'
  have e : o' = s.os := ho
  subst e
  exact I.call (g' := g') (t' := t') (d' := d') u hok hg hch
end
abbrev XK := Value → Option Addr → Hp → Prop
abbrev St := List (Option V)
abbrev VK := V → Hp → Prop
abbrev TE := St → Hp → VK → Prop
abbrev TT := St → Hp → (Bool → Hp → Prop) → Prop
abbrev TA := St → Hp → (List V → Hp → Prop) → Prop
structure Ends where
  nx : St → Hp → Prop
  rt : VK
  bk : St → Hp → Prop := fun _ _ => False
  ct : St → Hp → Prop := fun _ _ => False
abbrev TS := Ends → St → Hp → Prop
def EP (X : Cx) (pins : List (Addr × Obj)) (σ : St) (Q : VK) (u : Value) (s' : Shared) : Prop := ∃ v H', Inv X pins σ H' s' ∧ RelV v u ∧ Q v H'
def TP (X : Cx) (pins : List (Addr × Obj)) (σ : St) (Q : Bool → Hp → Prop) (b : Bool) (s' : Shared) : Prop := ∃ H', Inv X pins σ H' s' ∧ Q b H'
def AP (X : Cx) (pins : List (Addr × Obj)) (σ : St) (Q : List V → Hp → Prop) (us : List Value) (s' : Shared) : Prop := ∃ vs H', Inv X pins σ H' s' ∧ Vals vs us ∧ Q vs H'
def SP (X : Cx) (pins : List (Addr × Obj)) (D : Ends) (f : Flow) (s' : Shared) : Prop :=
  match f with
  | .next => ∃ σ' H', Inv X pins σ' H' s' ∧ D.nx σ' H'
  | .brk => ∃ σ' H', Inv X pins σ' H' s' ∧ D.bk σ' H'
  | .cont => ∃ σ' H', Inv X pins σ' H' s' ∧ D.ct σ' H'
  | .ret u => ∃ v σ' H', Inv X pins σ' H' s' ∧ RelV v u ∧ D.rt v H'
def PE (X : Cx) (e : Expr) (t : TE) : Prop :=
  ∀ (pins : List (Addr × Obj)) (s : Shared) (σ : St) (H : Hp) (Q : VK), Inv X pins σ H s → t σ H Q → wpAny (model X.prog X.w) X.A (eval e X.env) (EP X pins σ Q) X.xe s
def PT (X : Cx) (e : Expr) (t : TT) : Prop :=
  ∀ (pins : List (Addr × Obj)) (s : Shared) (σ : St) (H : Hp) (Q : Bool → Hp → Prop), Inv X pins σ H s → t σ H Q → wpAny (model X.prog X.w) X.A (isTrue e X.env (eval e X.env)) (TP X pins σ Q) X.xe s
def PW (X : Cx) (e : Expr) (t : TT) : Prop :=
  ∀ (whole : Sem Value) (pins : List (Addr × Obj)) (s : Shared) (σ : St) (H : Hp) (Q : Bool → Hp → Prop), Inv X pins σ H s → t σ H Q → wpAny (model X.prog X.w) X.A (isTrue e X.env whole) (TP X pins σ Q) X.xe s
theorem PW.pt {X : Cx} {e : Expr} {t : TT} (h : PW X e t) : PT X e t := h _
def PA (X : Cx) (es : List Expr) (t : TA) : Prop :=
  ∀ (pos : Pos) (pins : List (Addr × Obj)) (s : Shared) (σ : St) (H : Hp) (Q : List V → Hp → Prop), Inv X pins σ H s → t σ H Q → wpAny (model X.prog X.w) X.A (spliced (backTo pos (starEach es X.env))) (AP X pins σ Q) X.xe s
def PS (X : Cx) (st : Stmt) (t : TS) : Prop :=
  ∀ (pins : List (Addr × Obj)) (s : Shared) (σ : St) (H : Hp) (D : Ends), Inv X pins σ H s → t D σ H → wpAny (model X.prog X.w) X.A (exec st X.env) (SP X pins D) X.xe s
def PSs (X : Cx) (st : List Stmt) (t : TS) : Prop :=
  ∀ (pins : List (Addr × Obj)) (s : Shared) (σ : St) (H : Hp) (D : Ends), Inv X pins σ H s → t D σ H → wpAny (model X.prog X.w) X.A (execs st X.env) (SP X pins D) X.xe s
theorem thn {α : Type} {t : Sem α} {Q Q' : α → Shared → Prop} {M : Model} {A : Around} {E : Value → Shared → Prop} {s : Shared} (h : wpAny M A t Q E s) (hQ : ∀ a s, Q a s → Q' a s) : wpAny M A t Q' E s := wpAny_mono h hQ fun _ _ x => x
end L2
namespace L2
open PySem PySem.Spec PyProof.Rows
section
variable {X : Cx}
def tVar (i : Nat) : TE := fun σ H Q => ∃ v, σ[i]? = some (some v) ∧ Q v H
def tC (v : V) : TE := fun _ H Q => Q v H
theorem pe_var {i : Nat} {x : Str} {pos : Pos} (hN : X.N[i]? = some x) (hv : Vis X.env.scope x) (hd : (x == ("__debug__" : Str)) = false := by decide) (hcd : (x == ("__classdict__" : Str)) = false := by decide) : PE X (.Name x pos) (tVar i) := by
  intro pins s σ H Q I h
  obtain ⟨v, e, h⟩ := h
  obtain ⟨m, hn, hl⟩ := I.loc
  obtain ⟨u, r, l⟩ := hl i x v hN e hv
  have fin : EP X pins σ Q u s := ⟨v, H, I, r, h⟩
  rcases l with ⟨hk, hm⟩ | ⟨hk, c, hc, hcell⟩
  · exact wpAny_Name (wpAny_loadName_local I.ok.kind hk hn hm fin) hd
  · rcases hk with hk | hk
    · exact wpAny_Name (wpAny_loadName_cell I.ok.kind hk hc hcell fin) hd
    · exact wpAny_Name (wpAny_loadName_free I.ok.kind hk hc hcell fin hcd) hd
theorem pe_int {i j pos} : PE X (.Constant (.int i) j pos) (tC (.int i)) := fun _ _ _ H _ I h => wpAny_Constant_int ⟨.int i, H, I.tok _, ⟨_, rfl⟩, h⟩
theorem pe_bl {b j pos} : PE X (.Constant (.bool b) j pos) (tC (.bl b)) := fun _ _ _ H _ I h => Constant_bool ⟨.bl b, H, I, rfl, h⟩
theorem pe_non {j pos} : PE X (.Constant .none j pos) (tC .non) := fun _ _ _ H _ I h => Constant_none ⟨.non, H, I, rfl, h⟩
theorem pe_str {x j pos} : PE X (.Constant (.str x) j pos) (tC (.str x)) := fun _ _ _ H _ I h => Calls.Constant_str ⟨.str x, H, I.tok _, ⟨_, rfl⟩, h⟩
def Gl (X : Cx) (x : Str) : Prop := X.env.kindOf x = some .globalImplicit
theorem ld_glob {E : Value → Shared → Prop} {pins : List (Addr × Obj)} {s : Shared} {σ : St} {H : Hp} {x : Str} {u : Value} {pos : Pos} {Q : Value → Shared → Prop} (I : Inv X pins σ H s) (hg : Gl X x) (hm : X.mg x = some u) (h : Q u s)
    (hd : (x == ("__debug__" : Str)) = false := by decide) : wpAny (model X.prog X.w) X.A (eval (.Name x pos) X.env) Q E s :=
  Calls.Name_function_global I.ok.kind hg (Calls.loadGlobal_global (by rw [I.ok.glob]; exact I.mod.glob.keeps I.bk) hm h) hd
theorem ld_blt {E : Value → Shared → Prop} {pins : List (Addr × Obj)} {s : Shared} {σ : St} {H : Hp} {x : Str} {u : Value} {pos : Pos} {Q : Value → Shared → Prop} (I : Inv X pins σ H s) (hg : Gl X x) (hm : X.mg x = none) (hv : bootBuiltins x = some u) (h : Q u s)
    (hn : x ≠ "__name__" := by decide) (hd : (x == ("__debug__" : Str)) = false := by decide) : wpAny (model X.prog X.w) X.A (eval (.Name x pos) X.env) Q E s := by
  obtain ⟨mb, h1, h2⟩ := I.mod.blt
  exact Calls.Name_function_global I.ok.kind hg (Calls.loadGlobal_builtin (by rw [I.ok.glob]; exact I.mod.glob.keeps I.bk) hm (by rw [I.ok.blt]; exact h1.keeps I.bk) ((h2 x hn).trans hv) h) hd
theorem pe_glob {x : Str} {v : V} {u : Value} {pos : Pos} (hg : Gl X x) (hm : X.mg x = some u) (r : RelV v u) (hd : (x == ("__debug__" : Str)) = false := by decide) : PE X (.Name x pos) (tC v) :=
  fun _ _ _ H _ I h => ld_glob I hg hm ⟨v, H, I, r, h⟩ hd
theorem pe_bltn {x : Str} {v : V} {u : Value} {pos : Pos} (hg : Gl X x) (hm : X.mg x = none) (hv : bootBuiltins x = some u) (r : RelV v u) (hn : x ≠ "__name__" := by decide) (hd : (x == ("__debug__" : Str)) = false := by decide) : PE X (.Name x pos) (tC v) :=
  fun _ _ _ H _ I h => ld_blt I hg hm hv ⟨v, H, I, r, h⟩ hn hd
variable {a b : Expr} {ta tb : TE} {pos : Pos}
def PC (X : Cx) (op : CmpOp) (a b : Expr) (t : TE) : Prop :=
  ∀ (pins : List (Addr × Obj)) (s : Shared) (σ : St) (H : Hp) (Q : VK), Inv X pins σ H s → t σ H Q →
    wpAny (model X.prog X.w) X.A (eval a X.env) (fun v s₁ => wpAny (model X.prog X.w) X.A (eval b X.env) (fun u s₂ => wpAny (model X.prog X.w) X.A (compareOp op v u) (EP X pins σ Q) X.xe s₂) X.xe s₁) X.xe s
def tB (t : TE) : TT := fun σ H Q => t σ H fun x H1 => ∃ c, x = .bl c ∧ Q c H1
theorem pt_val {e : Expr} {t : TE} (h : PE X e t) (he : ∀ whole, isTrue e X.env whole = (do let v ← whole; standAt e.pos; holding [v] (truthy v)) := by intro _; rfl) : PT X e (tB t) := by
  intro pins s σ H Q I hw
  refine isTrue_plain (thn (h pins s σ H _ I hw) fun v s1 ⟨x, H1, I1, r1, q1⟩ => ?_) (he _)
  obtain ⟨d, rfl, q⟩ := q1
  cases r1
  exact wpAny_truthy_bool ⟨H1, I1, q⟩
variable {tA tB' : TT} {rest : List Expr}
def tAnd (t u : TT) : TT := fun σ H Q => t σ H fun c H1 => if c = true then u σ H1 Q else Q false H1
def tOr (t u : TT) : TT := fun σ H Q => t σ H fun c H1 => if c = true then Q true H1 else u σ H1 Q
def tNot (t : TT) : TT := fun σ H Q => t σ H fun c H1 => Q (!c) H1
theorem pw_and1 (ha : PT X a tA) : PW X (.BoolOp .And [a] pos) tA := by
  intro wh pins s σ H Q I h
  refine isTrue_and (thn (ha pins s σ H Q I h) fun c s1 e => ?_)
  cases c with
  | true => exact isTrue_and_nil e
  | false => exact e
theorem pw_or1 (ha : PT X a tA) : PW X (.BoolOp .Or [a] pos) tA := by
  intro wh pins s σ H Q I h
  refine isTrue_or (thn (ha pins s σ H Q I h) fun c s1 e => ?_)
  cases c with
  | false => exact isTrue_or_nil e
  | true => exact e
theorem pw_and (ha : PT X a tA) (hb : PW X (.BoolOp .And (b :: rest) pos) tB') : PW X (.BoolOp .And (a :: b :: rest) pos) (tAnd tA tB') := by
  intro wh pins s σ H Q I h
  refine isTrue_and (thn (ha pins s σ H _ I h) fun c s1 ⟨H1, I1, q1⟩ => ?_)
  cases c with
  | true => exact hb wh pins s1 σ H1 Q I1 q1
  | false => exact ⟨H1, I1, q1⟩
theorem pw_or (ha : PT X a tA) (hb : PW X (.BoolOp .Or (b :: rest) pos) tB') : PW X (.BoolOp .Or (a :: b :: rest) pos) (tOr tA tB') := by
  intro wh pins s σ H Q I h
  refine isTrue_or (thn (ha pins s σ H _ I h) fun c s1 ⟨H1, I1, q1⟩ => ?_)
  cases c with
  | true => exact ⟨H1, I1, q1⟩
  | false => exact hb wh pins s1 σ H1 Q I1 q1
theorem pt_not (ha : PT X a tA) : PT X (.UnaryOp .Not a pos) (tNot tA) := by
  intro pins s σ H Q I h
  exact isTrue_not (ha pins s σ H (fun c H1 => Q (!c) H1) I h)
def tAndV (ta tb : TE) : TE := fun σ H Q => ta σ H fun x H1 => ∃ c, x = .bl c ∧ if c = true then tb σ H1 Q else Q (.bl false) H1
def tOrV (ta tb : TE) : TE := fun σ H Q => ta σ H fun x H1 => ∃ c, x = .bl c ∧ if c = true then Q (.bl true) H1 else tb σ H1 Q
def tNotV (ta : TE) : TE := fun σ H Q => ta σ H fun x H1 => ∃ c, x = .bl c ∧ Q (.bl (!c)) H1
theorem pe_one {op} {t : TE} (h : PE X a t) : PE X (.BoolOp op [a] pos) t := fun pins s σ H Q I hw => BoolOp_one (h pins s σ H Q I hw)
theorem pe_and (ha : PE X a ta) (hb : PE X (.BoolOp .And (b :: rest) pos) tb) : PE X (.BoolOp .And (a :: b :: rest) pos) (tAndV ta tb) := by
  intro pins s σ H Q I h
  refine BoolOp_and (thn (ha pins s σ H _ I h) fun v s1 ⟨x, H1, I1, r1, q1⟩ => ?_)
  obtain ⟨c, rfl, q1⟩ := q1
  cases r1
  refine wpAny_truthy_bool ?_
  cases c with
  | true => exact hb pins s1 σ H1 Q I1 q1
  | false => exact ⟨.bl false, H1, I1, rfl, q1⟩
theorem pe_or (ha : PE X a ta) (hb : PE X (.BoolOp .Or (b :: rest) pos) tb) : PE X (.BoolOp .Or (a :: b :: rest) pos) (tOrV ta tb) := by
  intro pins s σ H Q I h
  refine BoolOp_or (thn (ha pins s σ H _ I h) fun v s1 ⟨x, H1, I1, r1, q1⟩ => ?_)
  obtain ⟨c, rfl, q1⟩ := q1
  cases r1
  refine wpAny_truthy_bool ?_
  cases c with
  | false => exact hb pins s1 σ H1 Q I1 q1
  | true => exact ⟨.bl true, H1, I1, rfl, q1⟩
theorem pe_not (ha : PE X a ta) : PE X (.UnaryOp .Not a pos) (tNotV ta) := by
  intro pins s σ H Q I h
  refine UnaryOp_ (thn (ha pins s σ H _ I h) fun v s1 ⟨x, H1, I1, r1, q1⟩ => ?_)
  obtain ⟨c, rfl, q1⟩ := q1
  cases r1
  exact not_of (wpAny_truthy_bool ⟨.bl (!c), H1, I1, rfl, q1⟩)
def tIf (t : TT) (ta tb : TE) : TE := fun σ H Q => t σ H fun c H1 => if c = true then ta σ H1 Q else tb σ H1 Q
theorem pe_ifExp {c : Expr} (hc : PT X c tA) (ha : PE X a ta) (hb : PE X b tb) : PE X (.IfExp c a b pos) (tIf tA ta tb) := by
  intro pins s σ H Q I h
  refine wpAny_IfExp (thn (hc pins s σ H _ I h) fun d s1 ⟨H1, I1, q1⟩ => ?_)
  cases d with
  | true => exact ha pins s1 σ H1 Q I1 q1
  | false => exact hb pins s1 σ H1 Q I1 q1
end
end L2
namespace L2
open PySem PySem.Spec PyProof.Rows
def SqL (K : PySem.W.Frag) (H : Hp) (a : Addr) (xs : List V) : Prop :=
  Rd H a (.lst xs) ∨
    ∃ (o : Obj) (its : Array Value) (n : Nat), K.lookup a = some o ∧ o.cls = .type "list" ∧ o.dict = none ∧ o.data = .seq its n ∧ its.size ≤ sizeLine ∧ Vals xs its.toList
def SqT (K : PySem.W.Frag) (H : Hp) (a : Addr) (xs : List V) : Prop :=
  Rd H a (.tup xs) ∨
    ∃ (o : Obj) (its : Array Value) (n : Nat), K.lookup a = some o ∧ o.cls = .type "tuple" ∧ o.data = .seq its n ∧ its.size ≤ sizeLine ∧ Vals xs its.toList
def absV : Value → Option V
  | .none => some .non
  | .bool b => some (.bl b)
  | .int i _ => some (.int i)
  | .str x _ => some (.str x)
  | .bytes b _ => some (.byt b)
  | .float b _ => some (.flt b)
  | .ref a => some (.ref a)
  | .type n => some (.ty n)
  | _ => none
theorem RelV.abs {x : V} {u : Value} (r : RelV x u) : absV u = some x := by
  cases x with
  | non => cases r; rfl
  | bl _ => cases r; rfl
  | int _ => obtain ⟨t, rfl⟩ := r; rfl
  | str _ => obtain ⟨t, rfl⟩ := r; rfl
  | byt _ => obtain ⟨t, rfl⟩ := r; rfl
  | flt _ => obtain ⟨t, rfl⟩ := r; rfl
  | ref _ => cases r; rfl
  | ty _ => cases r; rfl
theorem RelV.inj {x y : V} {u : Value} (r : RelV x u) (q : RelV y u) : x = y := Option.some.inj (r.abs.symm.trans q.abs)
theorem Vals.inj : ∀ {xs ys : List V} {us : List Value}, Vals xs us → Vals ys us → xs = ys
  | _, _, _, .nil, .nil => rfl
  | _, _, _, .cons r t, .cons r' t' => by rw [r.inj r', Vals.inj t t']
section
variable {X : Cx} {pins : List (Addr × Obj)} {σ : St} {H : Hp} {s : Shared} {a : Addr} {xs ys : List V}
theorem SqL.of {K : PySem.W.Frag} (h : H a = some (.lst xs)) : SqL K H a xs := .inl (.inl h)
theorem SqT.of {K : PySem.W.Frag} (h : H a = some (.tup xs)) : SqT K H a xs := .inl (.inl h)
theorem Inv.list (I : Inv X pins σ H s) (h : SqL X.K H a xs) : ∃ its : List Value, Vals xs its ∧ PlainL s.heap a its.toArray ∧ xs.length ≤ sizeLine := by
  rcases h with h | ⟨o, its, n, hk, hc, hd, hs, hz, r⟩
  · obtain ⟨z, its, n, r, e⟩ := h.ok I.hok
    exact ⟨its, r, ⟨_, n, e, rfl, rfl, rfl⟩, z⟩
  · refine ⟨its.toList, r, ⟨o, n, I.kIn a o hk, hc, hd, by simpa using hs⟩, ?_⟩
    have e := r.length
    simp only [Array.length_toList] at e
    omega
theorem Inv.tuple (I : Inv X pins σ H s) (h : SqT X.K H a xs) : ∃ its : List Value, Vals xs its ∧ IsTup s.heap a its.toArray ∧ xs.length ≤ sizeLine := by
  rcases h with h | ⟨o, its, n, hk, hc, hs, hz, r⟩
  · obtain ⟨z, its, r, p⟩ := h.ok I.hok
    exact ⟨its, r, p, z⟩
  · refine ⟨its.toList, r, ⟨o, I.kIn a o hk, hc, n, by simpa using hs⟩, ?_⟩
    have e := r.length
    simp only [Array.length_toList] at e
    omega
theorem Inv.list_inj (I : Inv X pins σ H s) (h : SqL X.K H a xs) (h' : SqL X.K H a ys) : xs = ys := by
  obtain ⟨its, r, ⟨o, n, e, _, _, d⟩, _⟩ := I.list h
  obtain ⟨its', r', ⟨o', n', e', _, _, d'⟩, _⟩ := I.list h'
  rw [e] at e'; cases e'
  rw [d] at d'
  injection d' with d1 _
  have : its = its' := by simpa using congrArg Array.toList d1
  subst this
  exact r.inj r'
theorem Inv.tuple_inj (I : Inv X pins σ H s) (h : SqT X.K H a xs) (h' : SqT X.K H a ys) : xs = ys := by
  obtain ⟨its, r, ⟨o, e, _, n, d⟩, _⟩ := I.tuple h
  obtain ⟨its', r', ⟨o', e', _, n', d'⟩, _⟩ := I.tuple h'
  rw [e] at e'; cases e'
  rw [d] at d'
  injection d' with d1 _
  have : its = its' := by simpa using congrArg Array.toList d1
  subst this
  exact r.inj r'
end
abbrev Cx.wish (X : Cx) (E : Value → Shared → Prop) : Cx := { X with xe := E }
abbrev Cx.nox (X : Cx) : Cx := X.wish fun _ _ => False
theorem Cx.Ok.wish {X : Cx} (ok : X.Ok) (E : Value → Shared → Prop) : (X.wish E).Ok :=
  ⟨ok.mod, ok.kind, ok.glob, ok.blt, ok.above, ok.inj, ok.has, ok.cab, ok.hd, ok.frames, ok.stk, ok.exf, ok.bs, ok.bsz, ok.noex, ok.exfs, ok.funs, ok.frf⟩
theorem Cx.Ok.unwish {X : Cx} {E : Value → Shared → Prop} (ok : (X.wish E).Ok) : X.Ok :=
  ⟨ok.mod, ok.kind, ok.glob, ok.blt, ok.above, ok.inj, ok.has, ok.cab, ok.hd, ok.frames, ok.stk, ok.exf, ok.bs, ok.bsz, ok.noex, ok.exfs, ok.funs, ok.frf⟩
section
variable {X : Cx} {pins : List (Addr × Obj)} {σ : St} {H : Hp} {s : Shared} {E : Value → Shared → Prop}
theorem Inv.wish (I : Inv X pins σ H s) (E : Value → Shared → Prop) : Inv (X.wish E) pins σ H s := ⟨I.ok.wish E, I.os, I.bare, I.base, I.loc, I.cell, I.free, I.freeC, I.pin, I.hok, I.len⟩
theorem Inv.unwish (I : Inv (X.wish E) pins σ H s) : Inv X pins σ H s := ⟨I.ok.unwish, I.os, I.bare, I.base, I.loc, I.cell, I.free, I.freeC, I.pin, I.hok, I.len⟩
theorem SP.unwish {D : Ends} {f : Flow} {s' : Shared} (h : SP (X.wish E) pins D f s') : SP X pins D f s' := by
  cases f with
  | next => obtain ⟨σ', H', I, q⟩ := h; exact ⟨σ', H', I.unwish, q⟩
  | brk => obtain ⟨σ', H', I, q⟩ := h; exact ⟨σ', H', I.unwish, q⟩
  | cont => obtain ⟨σ', H', I, q⟩ := h; exact ⟨σ', H', I.unwish, q⟩
  | ret u => obtain ⟨v, σ', H', I, r, q⟩ := h; exact ⟨v, σ', H', I.unwish, r, q⟩
theorem PE.nox {e : Expr} {t : TE} (h : PE X.nox e t) : PE X e t := fun pins s σ H Q I hw =>
  wpAny_mono (h pins s σ H Q (I.wish _) hw) (fun _ _ ⟨v, H', I', r, q⟩ => ⟨v, H', I'.unwish, r, q⟩) fun _ _ z => False.elim z
theorem PT.nox {e : Expr} {t : TT} (h : PT X.nox e t) : PT X e t := fun pins s σ H Q I hw =>
  wpAny_mono (h pins s σ H Q (I.wish _) hw) (fun _ _ ⟨H', I', q⟩ => ⟨H', I'.unwish, q⟩) fun _ _ z => False.elim z
theorem PSs.nox {st : List Stmt} {t : TS} (h : PSs X.nox st t) : PSs X st t := fun pins s σ H D I hw =>
  wpAny_mono (h pins s σ H D (I.wish _) hw) (fun _ _ q => q.unwish) fun _ _ z => False.elim z
end
section
variable {X : Cx} {st : Stmt} {rest : List Stmt} {t u : TS} {e : Expr} {te : TE} {pos : Pos}
def tNext : TS := fun D σ H => D.nx σ H
def tSeq (t u : TS) : TS := fun D σ H => t { D with nx := u D } σ H
theorem pss_nil : PSs X [] tNext := fun _ _ σ H _ I h => wpAny_execs_nil ⟨σ, H, I, h⟩
theorem pss_cons (h1 : PS X st t) (h2 : PSs X rest u) : PSs X (st :: rest) (tSeq t u) := by
  intro pins s σ H D I h
  refine wpAny_execs_cons (thn (h1 pins s σ H { D with nx := u D } I h) fun f s1 q => ?_)
  cases f with
  | next =>
    obtain ⟨σ', H', I', q⟩ := q
    exact h2 pins s1 σ' H' D I' q
  | ret v => exact q
  | brk => exact q
  | cont => exact q
theorem pss_one (h1 : PS X st t) : PSs X [st] t := by
  intro pins s σ H D I h
  refine wpAny_execs_cons (thn (h1 pins s σ H D I h) fun f s1 q => ?_)
  cases f with
  | next => exact wpAny_execs_nil q
  | ret v => exact q
  | brk => exact q
  | cont => exact q
theorem Inv.quiet {pins : List (Addr × Obj)} {σ : St} {H : Hp} {s : Shared} (I : Inv X pins σ H s) : interactive X.env = false := by simp [interactive, I.ok.kind]
def tDrop (te : TE) : TS := fun D σ H => te σ H fun _ H1 => D.nx σ H1
theorem ps_expr (he : PE X e te) (hs : swapsWith e none pos.line X.env = pure false := by rfl) : PS X (.Expr e pos) (tDrop te) := by
  intro pins s σ H D I h
  exact wpAny_Expr_any (thn (he pins s σ H _ I h) fun v s1 ⟨x, H1, I1, r1, q1⟩ => ⟨σ, H1, I1, q1⟩) I.quiet hs
def tRet (te : TE) : TS := fun D σ H => te σ H D.rt
theorem ps_ret (he : PE X e te) : PS X (.Return (some e) pos) (tRet te) := by
  intro pins s σ H D I h
  exact wpAny_Return_some (thn (he pins s σ H _ I h) fun v s1 ⟨x, H1, I1, r1, q1⟩ => ⟨x, σ, H1, I1, r1, q1⟩)
def tRetN : TS := fun D _ H => D.rt .non H
def tIfS (c : TT) (t u : TS) : TS := fun D σ H => c σ H fun b H1 => if b = true then t D σ H1 else u D σ H1
theorem ps_if {c : Expr} {a b : List Stmt} {tc : TT} (hc : PT X c tc) (ha : PSs X a t) (hb : PSs X b u) : PS X (.If c a b pos) (tIfS tc t u) := by
  intro pins s σ H D I h
  refine wpAny_If (thn (hc pins s σ H _ I h) fun d s1 ⟨H1, I1, q1⟩ => ?_)
  cases d with
  | true => exact ha pins s1 σ H1 D I1 q1
  | false => exact hb pins s1 σ H1 D I1 q1
def tNever : TS := fun _ _ _ => False
theorem pss_never {sts : List Stmt} : PSs X sts tNever := fun _ _ _ _ _ _ h => h.elim
end
abbrev TG := V → St → Hp → (St → Hp → Prop) → Prop
abbrev TGs := List V → St → Hp → (St → Hp → Prop) → Prop
def PG (X : Cx) (target : Expr) (t : TG) : Prop :=
  ∀ (pins : List (Addr × Obj)) (s : Shared) (σ : St) (H : Hp) (v : V) (u : Value) (Q : St → Hp → Prop), Inv X pins σ H s → RelV v u → t v σ H Q →
    wpAny (model X.prog X.w) X.A (assign target X.env u) (fun _ s' => ∃ σ' H', Inv X pins σ' H' s' ∧ Q σ' H') X.xe s
def PGs (X : Cx) (ts : List Expr) (t : TGs) : Prop :=
  ∀ (pins : List (Addr × Obj)) (s : Shared) (σ : St) (H : Hp) (vs : List V) (us : List Value) (Q : St → Hp → Prop), Inv X pins σ H s → Vals vs us → t vs σ H Q →
    wpAny (model X.prog X.w) X.A (assignInOrder ((assignEach ts X.env).map (·.2)) us) (fun _ s' => ∃ σ' H', Inv X pins σ' H' s' ∧ Q σ' H') X.xe s
abbrev TSet := V → V → V → Hp → (Hp → Prop) → Prop
def PSet (X : Cx) (t : TSet) : Prop :=
  ∀ (pins : List (Addr × Obj)) (s : Shared) (σ : St) (H : Hp) (o i v : V) (ov iv u : Value) (Q : Hp → Prop), Inv X pins σ H s → RelV o ov → RelV i iv → RelV v u → t o i v H Q →
    wpAny (model X.prog X.w) X.A (setItem ov iv u) (fun _ s' => ∃ H', Inv X pins σ H' s' ∧ Q H') X.xe s
abbrev TIp := V → V → Hp → VK → Prop
section
variable {X : Cx} {pos : Pos}
def gName (i : Nat) : TG := fun v σ H Q => Q (σ.set i (some v)) H
theorem pg_name {i : Nat} {x : Str} (hN : X.N.Nodup) (hi : X.N[i]? = some x) (hx : Loc X.env.scope x) (hf : X.fn x = true ∨ X.env.scope.names.lookup x = some .local := by first | exact .inl rfl | exact .inr rfl | assumption) : PG X (.Name x pos) (gName i) := by
  intro pins s σ H v u Q I r h
  exact wpAny_assign_Name (store_ok I hN hi hx r (fun s' I' => ⟨_, H, I', h⟩) hf)
def gNil : TGs := fun vs σ H Q => vs = [] ∧ Q σ H
def gCons (t : TG) (u : TGs) : TGs := fun vs σ H Q => ∃ v r, vs = v :: r ∧ t v σ H fun σ' H' => u r σ' H' Q
theorem pgs_nil : PGs X [] gNil := by
  intro pins s σ H vs us Q I r h
  obtain ⟨e, h⟩ := h
  subst e
  cases r
  exact assignInOrder_nil ⟨σ, H, I, h⟩
theorem pgs_cons {e : Expr} {es : List Expr} {t : TG} {u : TGs} (h1 : PG X e t) (h2 : PGs X es u)
    (hs : (assignEach (e :: es) X.env).map (·.2) = assign e X.env :: (assignEach es X.env).map (·.2) := by rfl) : PGs X (e :: es) (gCons t u) := by
  intro pins s σ H vs us Q I r h
  obtain ⟨v, vr, e1, h⟩ := h
  subst e1
  cases r with
  | cons r rr =>
    rw [hs]
    refine assignInOrder_cons (thn (h1 pins s σ H _ _ _ I r h) fun _ s1 ⟨σ1, H1, I1, q1⟩ => ?_)
    exact h2 pins s1 σ1 H1 _ _ Q I1 rr q1
def gTup (K : PySem.W.Frag) (n : Nat) (t : TGs) : TG := fun v σ H Q => ∃ a xs, v = .ref a ∧ SqT K H a xs ∧ xs.length = n ∧ t xs σ H Q
theorem pg_tup {es : List Expr} {k : Nat} {t : TGs} {n : Nat} (hc : X.calm = true) (h : PGs X es t)
    (hn : (assignEach es X.env).length = n := by rfl) (hst : (assignEach es X.env).findIdx? (·.1) = none := by rfl) : PG X (.Tuple es k pos) (gTup X.K n t) := by
  intro pins s σ H v u Q I r hw
  obtain ⟨a, xs, e1, hq, hl, hw⟩ := hw
  subst e1
  cases r
  obtain ⟨its, rv, ht, hz⟩ := I.tuple hq
  refine assign_Tuple_tuple (I.ok.hd hc) ht (by simp [hn, ← hl, rv.length]) hst fun h' hx => ?_
  have I1 : Inv X pins σ H { s with heap := h' } := I.kept (t' := s.toks) fun b o e => hx b o (Nat.ne_of_lt (Heap.lt_size e)) e
  exact h pins _ σ H xs _ Q I1 (by simpa using rv) hw
def gSub (to ti : TE) (t : TSet) : TG := fun v σ H Q => to σ H fun o H1 => ti σ H1 fun i H2 => t o i v H2 fun H3 => Q σ H3
theorem pg_sub {o i : Expr} {to ti : TE} {t : TSet} (ho : PE X o to) (hi : PE X i ti) (hs : PSet X t)
    (ha : ∀ v, assign (.Subscript o i pos) X.env v = (do
      let ov ← holding [v] (eval o X.env)
      let iv ← holding [v, ov] (eval i X.env)
      standAt pos
      holding [v, ov, iv] (setItem ov iv v)
      release [v, ov, iv] []) := by intro _; rfl) : PG X (.Subscript o i pos) (gSub to ti t) := by
  intro pins s σ H v u Q I r h
  rw [ha]
  refine wpAny_bind (wpAny_holding (thn (ho pins s σ H _ I h) fun ov s1 ⟨x, H1, I1, r1, q1⟩ => ?_))
  refine wpAny_bind (wpAny_holding (thn (hi pins s1 σ H1 _ I1 q1) fun iv s2 ⟨y, H2, I2, r2, q2⟩ => ?_))
  refine wpAny_bind (wpAny_standAt (wpAny_bind (wpAny_holding (thn (hs pins s2 σ H2 x y v ov iv u _ I2 r1 r2 r q2) fun _ s3 ⟨H3, I3, q3⟩ => ?_))))
  exact wpAny_release ⟨σ, H3, I3, q3⟩
def tAsg (te : TE) (g : TG) : TS := fun D σ H => te σ H fun x H1 => g x σ H1 D.nx
theorem ps_asg {tg e : Expr} {te : TE} {g : TG} (he : PE X e te) (hg : PG X tg g) (hs : swapsWithSole [tg] e pos.line X.env = pure false := by rfl) (hw : swappedStores [tg] e X.env = pure none := by rfl)
    (h1 : (assignEach [tg] X.env).map (·.2) = [assign tg X.env] := by rfl) : PS X (.Assign [tg] e pos) (tAsg te g) := by
  intro pins s σ H D I h
  refine wpAny_Assign_stores (thn (he pins s σ H _ I h) fun v s1 ⟨x, H1, I1, r1, q1⟩ => ?_) hs hw
  rw [h1]
  exact thn (hg pins s1 σ H1 x v _ I1 r1 q1) fun _ s2 q => q
theorem ps_set {i : Nat} {x : Str} {e : Expr} {te : TE} {pos' : Pos} (hN : X.N.Nodup) (hi : X.N[i]? = some x) (hx : Loc X.env.scope x) (he : PE X e te) (hs : swapsWith e (some (.Name x pos')) pos.line X.env = pure false := by rfl) (hf : X.fn x = true ∨ X.env.scope.names.lookup x = some .local := by first | exact .inl rfl | exact .inr rfl | assumption) :
    PS X (.Assign [.Name x pos'] e pos) (tAsg te (gName i)) := by
  intro pins s σ H D I h
  refine wpAny_Assign_Name (thn (he pins s σ H _ I h) fun v s1 ⟨y, H1, I1, r1, q1⟩ => ?_) hs
  exact store_ok I1 hN hi hx r1 (fun s2 I2 => ⟨_, H1, I2, q1⟩) hf
def tAug (i : Nat) (te : TE) (ti : TIp) : TS := fun D σ H => ∃ x, σ[i]? = some (some x) ∧ te σ H fun y H1 => ti x y H1 fun z H2 => D.nx (σ.set i (some z)) H2
def tAugS (to ti te : TE) (tget : V → V → Hp → VK → Prop) (tip : TIp) (tset : TSet) : TS := fun D σ H => to σ H fun o H1 => ti σ H1 fun i H2 => tget o i H2 fun x H3 => te σ H3 fun y H4 => tip x y H4 fun z H5 => tset o i z H5 fun H6 => D.nx σ H6
end
section
variable {X : Cx} {pos : Pos}
end
structure It where
  go : Nat → Hp → Prop
  yld : Nat → Hp → V → Hp → Prop
  stop : Nat → Hp → Prop
def FpOk (X : Cx) (pins : List (Addr × Obj)) (H : Hp) (b : Addr) : Prop :=
  H b = none ∧ b ≠ X.env.locals ∧ b ∉ X.fs ∧ (b ∈ X.ex ∨ X.s₀.heap.objs.size ≤ b) ∧ (∀ x c, X.env.cells.lookup x = some c → c ≠ b) ∧ ∀ p ∈ X.pn ++ pins, p.1 ≠ b
theorem Inv.fpOk {X : Cx} {pins : List (Addr × Obj)} {σ : St} {H H' : Hp} {s : Shared} {b : Addr} (I : Inv X pins σ H s) (hb : s.heap.objs.size ≤ b) (hn : H' b = none) : FpOk X pins H' b := by
  refine ⟨hn, Nat.ne_of_gt (Nat.lt_of_lt_of_le I.lt hb), I.nofs hb, .inr (Nat.le_trans I.sz hb), fun x c e z => ?_, fun p hp z => ?_⟩
  · obtain ⟨v, q⟩ := I.cell x c e
    exact absurd (Nat.lt_of_lt_of_le q.lt (by rw [z]; exact hb)) (Nat.lt_irrefl _)
  · exact absurd (Nat.lt_of_lt_of_le (Heap.lt_size (I.pin p hp).1) (by rw [z]; exact hb)) (Nat.lt_irrefl _)
structure Turn (P : Program) (w : World) (K : PySem.W.Frag) (tg : Expr) (J : It) (fp : List Addr) (it : Addr) (tn : Nat → Heap → Prop) : Prop where
  mem : it ∈ fp
  obj : ∀ i h, tn i h → ∀ b ∈ fp, ∃ o, h.get? b = some o ∧ ∀ v, o.data ≠ .cell v
  keep : ∀ i h h', tn i h → (∀ b ∈ fp, ∀ o, h.get? b = some o → h'.get? b = some o) → tn i h'
  item : ∀ (X : Cx), X.prog = P → X.w = w → X.K = K → X.calm = true → ∀ (i : Nat) (pins : List (Addr × Obj)) (s : Shared) (σ : St) (H : Hp) (E : Value → Shared → Prop), Inv X pins σ H s → (∀ b ∈ fp, FpOk X pins H b) → tn i s.heap → J.go i H →
    wpAny (model P w) X.A (pyNext (.ref it)) (fun r s1 => ∃ u, r = some u ∧
      wpAny (model P w) X.A (letOwnedTupleGo tg (.ref it) u) (fun _ s2 => ∃ x H', Inv X pins σ H' s2 ∧ RelV x u ∧ J.yld i H x H' ∧ tn (i + 1) s2.heap ∧ ∀ b ∈ fp, H' b = none) E s1) E s
  done : ∀ (X : Cx), X.prog = P → X.w = w → X.K = K → X.calm = true → ∀ (i : Nat) (pins : List (Addr × Obj)) (s : Shared) (σ : St) (H : Hp) (E : Value → Shared → Prop), Inv X pins σ H s → (∀ b ∈ fp, FpOk X pins H b) → tn i s.heap → J.stop i H →
    wpAny (model P w) X.A (pyNext (.ref it)) (fun r s1 => r = none ∧ Inv X pins σ H s1) E s
  self : ∀ (A : Around) (i : Nat) (s : Shared) (Q : Value → Shared → Prop) (E : Value → Shared → Prop), tn i s.heap → Q (.ref it) s → wpAny (model P w) A (pyIter (.ref it)) Q E s
abbrev TI := St → Hp → (It → Hp → Prop) → Prop
def PIE (X : Cx) (pins : List (Addr × Obj)) (σ : St) (tg : Expr) (R : It → Hp → Prop) (itv : Value) (s2 : Shared) : Prop :=
  ∃ (it : Addr) (fp : List Addr) (tn : Nat → Heap → Prop) (J : It) (H' : Hp), itv = .ref it ∧ Inv X pins σ H' s2 ∧ Turn X.prog X.w X.K tg J fp it tn ∧ tn 0 s2.heap ∧ (∀ b ∈ fp, FpOk X pins H' b) ∧ R J H'
def PI (X : Cx) (tg iter : Expr) (wi : TI) : Prop :=
  ∀ (pins : List (Addr × Obj)) (s : Shared) (σ : St) (H : Hp) (R : It → Hp → Prop), Inv X pins σ H s → wi σ H R →
    wpAny (model X.prog X.w) X.A (eval iter X.env) (fun v s1 => wpAny (model X.prog X.w) X.A (pyIter v) (PIE X pins σ tg R) X.xe s1) X.xe s
theorem go_of {M : Model} {A : Around} {E : Value → Shared → Prop} {s : Shared} {tg : Expr} {it : Addr} {u : Value} {o : Obj} {n : String} {vs : Array Value} {Q : Unit → Shared → Prop} (ho : s.heap.get? it = some o) (hc : o.cls = .type n) (hd : o.data = .fields vs)
    (hn : ["enumerate", "zip", "dict_itemiterator", "dict_reverseitemiterator", "odict_iterator", "itertools.zip_longest", "itertools.pairwise"].contains n = false) (hQ : Q () s) : wpAny M A (letOwnedTupleGo tg (.ref it) u) Q E s := by
  unfold letOwnedTupleGo
  cases tg <;> first
    | exact wpAny_pure hQ
    | (cases u <;> first
        | exact wpAny_pure hQ
        | (refine wpAny_bind (wpAny_load ho ?_)
           rw [hc, hd]
           show wpAny M A (if (["enumerate", "zip", "dict_itemiterator", "dict_reverseitemiterator", "odict_iterator", "itertools.zip_longest", "itertools.pairwise"].contains n && vs[0]? == some (rawInt _)) = true then _ else _) Q E s
           rw [if_neg (by intro h; rw [hn, Bool.false_and] at h; cases h)]
           exact wpAny_pure hQ))
def Itl (K : PySem.W.Frag) (a : Addr) : It :=
  ⟨fun i H => ∃ xs x, SqL K H a xs ∧ xs[i]? = some x, fun i H x H' => H' = H ∧ ∀ xs, SqL K H a xs → xs[i]? = some x, fun i H => ∃ xs, SqL K H a xs ∧ xs.length ≤ i⟩
def Itt (K : PySem.W.Frag) (a : Addr) : It :=
  ⟨fun i H => ∃ xs x, SqT K H a xs ∧ xs[i]? = some x, fun i H x H' => H' = H ∧ ∀ xs, SqT K H a xs → xs[i]? = some x, fun i H => ∃ xs, SqT K H a xs ∧ xs.length ≤ i⟩
def Itr (lo : Int) (n : Nat) : It := ⟨fun i _ => i < n, fun i H x H' => H' = H ∧ x = .int (lo + i), fun i _ => n ≤ i⟩
theorem turn_list {P : Program} {w : World} {K : PySem.W.Frag} {tg : Expr} (a it : Addr) : Turn P w K tg (Itl K a) [it] it (fun i h => h.IsListIter it a i) where
  mem := by simp
  obj := fun i h st b hb => by
    have e : b = it := by simpa using hb
    subst e
    obtain ⟨o, e, c, d⟩ := st
    exact ⟨o, e, fun v z => by rw [d] at z; cases z⟩
  keep := fun i h h' st k => st.at fun o e => k it (by simp) o e
  item := by
    intro X hP hw hK hc i pins s σ H E I hf st hg
    subst hP hw hK
    obtain ⟨xs, x, hq, hx⟩ := hg
    obtain ⟨its, rv, p, hz⟩ := I.list hq
    obtain ⟨u, hu, ru⟩ := rv.get hx
    obtain ⟨f0, f1, f2, f3, f4, f5⟩ := hf it (by simp)
    refine wpAny_pyNext_list_item st p.isList (x := u) (by simpa using hu) fun h' st' sb => ?_
    have I1 : Inv X pins σ H { s with heap := h' } := I.turned (t' := s.toks) (fun b o hb e => (sb.2 b hb).trans e) f0 f1 f3 f4 f5
    obtain ⟨o, e, c, d⟩ := id st'
    exact ⟨u, rfl, go_of (s := { s with heap := h' }) e c d (by decide) ⟨x, H, I1, ru, ⟨rfl, fun ys hy => by rw [I.list_inj hy hq]; exact hx⟩, st', fun b hb => (hf b hb).1⟩⟩
  done := by
    intro X hP hw hK hc i pins s σ H E I hf st hg
    subst hP hw hK
    obtain ⟨xs, hq, hx⟩ := hg
    obtain ⟨its, rv, p, hz⟩ := I.list hq
    obtain ⟨f0, f1, f2, f3, f4, f5⟩ := hf it (by simp)
    have hl := rv.length
    exact wpAny_pyNext_list_end (I.ok.hd hc) st p.isList (by simp; omega) fun h' eb => ⟨rfl, I.turned (t' := s.toks) (fun b o hb e => eb b o hb e) f0 f1 f3 f4 f5⟩
  self := fun _ _ _ _ _ st h => wpAny_pyIter_listiter st h
theorem turn_tuple {P : Program} {w : World} {K : PySem.W.Frag} {tg : Expr} (a it : Addr) : Turn P w K tg (Itt K a) [it] it (fun i h => h.IsTupleIter it a i) where
  mem := by simp
  obj := fun i h st b hb => by
    have e : b = it := by simpa using hb
    subst e
    obtain ⟨o, e, c, d⟩ := st
    exact ⟨o, e, fun v z => by rw [d] at z; cases z⟩
  keep := fun i h h' st k => st.at fun o e => k it (by simp) o e
  item := by
    intro X hP hw hK hc i pins s σ H E I hf st hg
    subst hP hw hK
    obtain ⟨xs, x, hq, hx⟩ := hg
    obtain ⟨its, rv, p, hz⟩ := I.tuple hq
    obtain ⟨u, hu, ru⟩ := rv.get hx
    obtain ⟨f0, f1, f2, f3, f4, f5⟩ := hf it (by simp)
    refine wpAny_pyNext_tuple_item st (show s.heap.IsTuple a its.toArray from p) (x := u) (by simpa using hu) fun h' st' sb => ?_
    have I1 : Inv X pins σ H { s with heap := h' } := I.turned (t' := s.toks) (fun b o hb e => (sb.2 b hb).trans e) f0 f1 f3 f4 f5
    obtain ⟨o, e, c, d⟩ := id st'
    exact ⟨u, rfl, go_of (s := { s with heap := h' }) e c d (by decide) ⟨x, H, I1, ru, ⟨rfl, fun ys hy => by rw [I.tuple_inj hy hq]; exact hx⟩, st', fun b hb => (hf b hb).1⟩⟩
  done := by
    intro X hP hw hK hc i pins s σ H E I hf st hg
    subst hP hw hK
    obtain ⟨xs, hq, hx⟩ := hg
    obtain ⟨its, rv, p, hz⟩ := I.tuple hq
    obtain ⟨f0, f1, f2, f3, f4, f5⟩ := hf it (by simp)
    have hl := rv.length
    exact wpAny_pyNext_tuple_end (I.ok.hd hc) st (show s.heap.IsTuple a its.toArray from p) (by simp; omega) fun h' eb => ⟨rfl, I.turned (t' := s.toks) (fun b o hb e => eb b o hb e) f0 f1 f3 f4 f5⟩
  self := fun _ _ _ _ _ st h => wpAny_pyIter_tupleiter st h
theorem turn_range {P : Program} {w : World} {K : PySem.W.Frag} {tg : Expr} (it : Addr) (lo : Int) (n : Nat) : Turn P w K tg (Itr lo n) [it] it (fun i h => IsRangeIter h it (lo + (i : Nat) * 1) ((n : Int) - (i : Nat)) 1) where
  mem := by simp
  obj := fun i h st b hb => by
    have e : b = it := by simpa using hb
    subst e
    exact ⟨_, st, fun v z => by
      have z' : Data.fields _ = Data.cell v := z
      cases z'⟩
  keep := fun i h h' st k => k it (by simp) _ st
  item := by
    intro X hP hw hK hc i pins s σ H E I hf st hg
    subst hP hw hK
    obtain ⟨f0, f1, f2, f3, f4, f5⟩ := hf it (by simp)
    have W := Walks.range (prog := X.prog) (w := X.w) (I.ok.hd hc) it lo 1 n
    refine W.item i s _ _ hg st fun v h' tk hv st' kk => ?_
    obtain ⟨t, rfl⟩ := hv
    have I1 : Inv X pins σ H { s with heap := h', toks := tk } := I.turned (fun b o hb e => kk b o (by simpa using hb) e) f0 f1 f3 f4 f5
    refine ⟨_, rfl, go_of (s := { s with heap := h', toks := tk }) (n := "range_iterator") st' rfl rfl (by decide) ⟨.int (lo + i), H, I1, ⟨t, ?_⟩, ⟨rfl, rfl⟩, st', fun b hb => (hf b hb).1⟩⟩
    rw [Int.mul_one]
  done := by
    intro X hP hw hK hc i pins s σ H E I hf st hg
    subst hP hw hK
    obtain ⟨f0, f1, f2, f3, f4, f5⟩ := hf it (by simp)
    exact wpAny_pyNext_range_end (I.ok.hd hc) st (by have : n ≤ i := hg; omega) fun h' eb => ⟨rfl, I.turned (t' := s.toks) (fun b o hb e => eb b o hb e) f0 f1 f3 f4 f5⟩
  self := fun _ _ _ _ _ st h => wpAny_pyIter_rangeiter st h
end L2
namespace L2
open PySem PySem.Spec PyProof.Rows
section
variable {X : Cx} {tg : Expr}
def iList (K : PySem.W.Frag) (tl : TE) : TI := fun σ H R => tl σ H fun x H1 => ∃ a, x = .ref a ∧ (∃ xs, SqL K H1 a xs) ∧ R (Itl K a) H1
theorem pi_list {l : Expr} {tl : TE} (hl : PE X l tl) : PI X tg l (iList X.K tl) := by
  intro pins s σ H R I h
  refine thn (hl pins s σ H _ I h) fun v s1 ⟨x, H1, I1, r1, q1⟩ => ?_
  obtain ⟨a, e, ⟨xs, hq⟩, q⟩ := q1
  subst e
  cases r1
  obtain ⟨its, rv, p, hz⟩ := I1.list hq
  refine wpAny_pyIter_list p.isList ?_
  refine ⟨s1.heap.objs.size, [s1.heap.objs.size], _, _, H1, rfl, I1.kept (t' := s1.toks) fun b o e => Heap.get?_push_of_some _ e, turn_list a _, ⟨_, Heap.get?_push_size _ rfl, rfl, rfl⟩, fun b hb => ?_, q⟩
  have e : b = s1.heap.objs.size := by simpa using hb
  subst e
  exact I1.fpOk (Nat.le_refl _) (I1.hok.fresh (Nat.le_refl _))
theorem range_it {pins : List (Addr × Obj)} {σ : St} {H : Hp} {s : Shared} {R : It → Hp → Prop} {E : Value → Shared → Prop} {lo hi : Int} {t u v : Tok} {tk : Nat} (I : Inv X pins σ H s) (h1 : -(2 ^ 62) ≤ lo) (h2 : lo < 2 ^ 62) (h3 : -(2 ^ 62) ≤ hi) (h4 : hi < 2 ^ 62)
    (q : R (Itr lo (hi - lo).toNat) H) : wpAny (model X.prog X.w) X.A (pyIter (.ref s.heap.objs.size)) (PIE X pins σ tg R) E { s with heap := s.heap.push { cls := .type "range", data := .fields #[.int lo t, .int hi u, .int 1 v] }, toks := tk } := by
  refine wpAny_pyIter_range (IsRange.new ..) (small_one h1 h2 h3 h4) ?_
  have I1 : Inv X pins σ H { s with heap := s.heap.push { cls := .type "range", data := .fields #[.int lo t, .int hi u, .int 1 v] }, toks := tk } := I.kept fun b o e => Heap.get?_push_of_some _ e
  refine ⟨(s.heap.push { cls := .type "range", data := .fields #[.int lo t, .int hi u, .int 1 v] }).objs.size, [(s.heap.push { cls := .type "range", data := .fields #[.int lo t, .int hi u, .int 1 v] }).objs.size], _, _, H, rfl,
    I1.kept (t' := tk) fun b o e => Heap.get?_push_of_some _ e, turn_range _ lo (hi - lo).toNat, ?_, fun b hb => ?_, q⟩
  · have e1 : lo + ((0 : Nat) : Int) * 1 = lo := by simp
    have e2 : (((hi - lo).toNat : Nat) : Int) - ((0 : Nat) : Int) = Builtin.Range.rangeSize lo hi 1 := by rw [rangeSize_one]; split <;> omega
    show IsRangeIter _ _ (lo + ((0 : Nat) : Int) * 1) ((((hi - lo).toNat : Nat) : Int) - ((0 : Nat) : Int)) 1
    rw [e1, e2]
    exact Heap.get?_push_size _ rfl
  · have e : b = (s.heap.push { cls := .type "range", data := .fields #[.int lo t, .int hi u, .int 1 v] }).objs.size := by simpa using hb
    subst e
    exact I1.fpOk (Nat.le_refl _) (I1.hok.fresh (Nat.le_refl _))
def iRng1 (ta : TA) : TI := fun σ H R => ta σ H fun vs H1 => ∃ j : Int, vs = [.int j] ∧ -(2 ^ 62) ≤ j ∧ j < 2 ^ 62 ∧ R (Itr 0 j.toNat) H1
def iRng2 (ta : TA) : TI := fun σ H R => ta σ H fun vs H1 => ∃ i j : Int, vs = [.int i, .int j] ∧ (-(2 ^ 62) ≤ i ∧ i < 2 ^ 62 ∧ -(2 ^ 62) ≤ j ∧ j < 2 ^ 62) ∧ R (Itr i (j - i).toNat) H1
theorem pi_range1 {a : Expr} {ta : TA} {p pos : Pos} (hg : Gl X "range") (hm : X.mg "range" = none) (ha : PA X [a] ta) (hs : starEach [a] X.env = [(false, eval a X.env)] := by rfl) : PI X tg (.Call (.Name "range" p) [a] [] pos) (iRng1 ta) := by
  intro pins s σ H R I h
  refine Call_ (ld_blt I hg hm boot_range (PyProof.Rows.callWith_type1 (thn (ha pos pins s σ H _ I h) fun us s1 ⟨vs, H1, I1, r1, q1⟩ => ?_) hs rfl))
  obtain ⟨j, e, q1, q2, q⟩ := q1
  subst e
  cases r1 with
  | cons r rr =>
    cases rr
    obtain ⟨t, rfl⟩ := r
    exact call_range_1 (range_it I1 (by omega) (by omega) q1 q2 (by simpa using q))
def tFor (wi : TI) (g : TG) (tb : TS) : TS := fun D σ H => wi σ H fun J H1 => ∃ W : Nat → Nat → St → Hp → Prop, (∃ m, W 0 m σ H1) ∧ ∀ i m σ H, W i m σ H →
  (J.stop i H ∧ D.nx σ H) ∨ (J.go i H ∧ ∃ N : St → Hp → Prop, (∀ σ' H', N σ' H' → ∃ m', m' < m ∧ W (i + 1) m' σ' H') ∧ ∀ x H', J.yld i H x H' → g x σ H' fun σ2 H2 => tb { D with nx := N, ct := N, bk := D.nx } σ2 H2)
def pinsAt (fp : List Addr) (h : Heap) : List (Addr × Obj) := fp.filterMap fun b => (h.get? b).map fun o => (b, o)
theorem mem_pinsAt {fp : List Addr} {h : Heap} {b : Addr} {o : Obj} (hb : b ∈ fp) (e : h.get? b = some o) : (b, o) ∈ pinsAt fp h := List.mem_filterMap.mpr ⟨b, hb, by rw [e]; rfl⟩
theorem of_pinsAt {fp : List Addr} {h : Heap} {p : Addr × Obj} (hp : p ∈ pinsAt fp h) : p.1 ∈ fp ∧ h.get? p.1 = some p.2 := by
  obtain ⟨b, hb, e⟩ := List.mem_filterMap.mp hp
  cases q : h.get? b with
  | none => rw [q] at e; cases e
  | some o =>
    rw [q] at e
    have e' : (b, o) = p := Option.some.inj e
    subst e'
    exact ⟨hb, q⟩
theorem Inv.pinned {pins : List (Addr × Obj)} {σ : St} {H : Hp} {s : Shared} {fp : List Addr} (I : Inv X pins σ H s) (hf : ∀ b ∈ fp, FpOk X pins H b) (ho : ∀ b ∈ fp, ∃ o, s.heap.get? b = some o ∧ ∀ v, o.data ≠ .cell v) : Inv X (pins ++ pinsAt fp s.heap) σ H s :=
  I.pins_of fun p hp => (List.mem_append.mp hp).elim (fun z => I.pin p (List.mem_append_right _ z)) fun z => by
    obtain ⟨hb, e⟩ := of_pinsAt z
    obtain ⟨f0, f1, f2, _⟩ := hf p.1 hb
    obtain ⟨o, e', d⟩ := ho p.1 hb
    rw [e] at e'; cases e'
    exact ⟨e, f0, f1, f2, d⟩
theorem Inv.unpinned {pins pl : List (Addr × Obj)} {σ : St} {H : Hp} {s : Shared} (I : Inv X (pins ++ pl) σ H s) : Inv X pins σ H s := I.pins_of fun p hp => I.pin p (List.mem_append_right _ (List.mem_append_left _ hp))
theorem ps_for {iter : Expr} {body : List Stmt} {wi : TI} {g : TG} {tb : TS} {pos : Pos} (hp : PassesOwn (model X.prog X.w) X.A X.env X.xe) (hc : X.calm = true) (hi : PI X tg iter wi) (hg : PG X tg g) (hb : PSs X body tb)
    (hs : ∀ x, foldedSetIterable iter X.env x = pure x := by intro _; rfl) : PS X (.For tg iter body [] pos) (tFor wi g tb) := by
  intro pins s σ H D I h
  refine wpAny_For (thn (hi pins s σ H _ I h) fun v s1 h1 => thn h1 fun itv s2 h2 => ?_) hs
  obtain ⟨it, fp, tn, J, H2, e, I2, T, st2, f2, W, ⟨m0, w0⟩, turn⟩ := h2
  subst e
  have stat : ∀ {H' : Hp}, (∀ b ∈ fp, H' b = none) → ∀ b ∈ fp, FpOk X pins H' b := fun hn b hb => ⟨hn b hb, (f2 b hb).2⟩
  refine codeAny_forLoop_any (fun n s' => ∃ i σ' H', Inv X pins σ' H' s' ∧ tn i s'.heap ∧ (∀ b ∈ fp, H' b = none) ∧ W i n σ' H') ?_ m0 ⟨0, σ, H2, I2, st2, fun b hb => (f2 b hb).1, w0⟩
  rintro n s3 ⟨i, σ3, H3, I3, st3, fr3, w3⟩
  rcases turn i n σ3 H3 w3 with ⟨stop, qn⟩ | ⟨go, N, hN, step⟩
  · refine wpAny_passesOwn hp (thn (T.done X rfl rfl rfl hc i pins s3 σ3 H3 X.xe I3 (stat fr3) st3 stop) fun r s4 ⟨hr, I4⟩ => ?_)
    subst hr
    exact wpAny_execs_nil ⟨σ3, H3, I4, qn⟩
  · refine wpAny_passesOwn hp (thn (T.item X rfl rfl rfl hc i pins s3 σ3 H3 X.xe I3 (stat fr3) st3 go) fun r s4 ⟨u, hr, h4⟩ => ?_)
    subst hr
    refine wpAny_passesOwn hp (thn h4 fun _ s5 ⟨x, H5, I5, r5, y5, st5, fr5⟩ => ?_)
    have I5' := I5.pinned (stat fr5) (T.obj _ _ st5)
    refine wpAny_passesOwn hp (thn (hg _ s5 σ3 H5 x u _ I5' r5 (step x H5 y5)) fun _ s6 ⟨σ6, H6, I6, q6⟩ => ?_)
    refine wpAny_passesOwn hp (thn (hb _ s6 σ6 H6 _ I6 q6) fun f s7 q7 => ?_)
    have again : ∀ {σ7 : St} {H7 : Hp}, Inv X (pins ++ pinsAt fp s5.heap) σ7 H7 s7 → N σ7 H7 → ∃ m, m < n ∧ ∃ i σ' H', Inv X pins σ' H' s7 ∧ tn i s7.heap ∧ (∀ b ∈ fp, H' b = none) ∧ W i m σ' H' := fun {σ7 H7} I7 n7 => by
      obtain ⟨m', hm, w7⟩ := hN σ7 H7 n7
      refine ⟨m', hm, i + 1, σ7, H7, I7.unpinned, T.keep _ _ _ st5 fun b hb o e => (I7.pin (b, o) (List.mem_append_right _ (List.mem_append_right _ (mem_pinsAt hb e)))).1, fun b hb => ?_, w7⟩
      obtain ⟨o, e, d⟩ := T.obj _ _ st5 b hb
      exact (I7.pin (b, o) (List.mem_append_right _ (List.mem_append_right _ (mem_pinsAt hb e)))).2.1
    cases f with
    | next => obtain ⟨σ7, H7, I7, n7⟩ := q7; exact again I7 n7
    | cont => obtain ⟨σ7, H7, I7, n7⟩ := q7; exact again I7 n7
    | brk => obtain ⟨σ7, H7, I7, q7⟩ := q7; exact ⟨σ7, H7, I7.unpinned, q7⟩
    | ret v => obtain ⟨x7, σ7, H7, I7, r7, q7⟩ := q7; exact ⟨x7, σ7, H7, I7.unpinned, r7, q7⟩
end
theorem for_list {K : PySem.W.Frag} {a : Addr} {xs : List V} {g : TG} {tb : TS} {D : Ends} {σ : St} {H : Hp} (Pv : Nat → St → Hp → Prop) (h0 : Pv 0 σ H) (hl : ∀ i σ H, i ≤ xs.length → Pv i σ H → SqL K H a xs)
    (hs : ∀ i x σ H, xs[i]? = some x → Pv i σ H → g x σ H fun σ2 H2 => tb { D with nx := Pv (i + 1), ct := Pv (i + 1), bk := D.nx } σ2 H2) (hd : ∀ σ H, Pv xs.length σ H → D.nx σ H) :
    ∃ W : Nat → Nat → St → Hp → Prop, (∃ m, W 0 m σ H) ∧ ∀ i m σ H, W i m σ H →
      ((Itl K a).stop i H ∧ D.nx σ H) ∨ ((Itl K a).go i H ∧ ∃ N : St → Hp → Prop, (∀ σ' H', N σ' H' → ∃ m', m' < m ∧ W (i + 1) m' σ' H') ∧ ∀ x H', (Itl K a).yld i H x H' → g x σ H' fun σ2 H2 => tb { D with nx := N, ct := N, bk := D.nx } σ2 H2) := by
  refine ⟨fun i m σ H => m = xs.length - i ∧ i ≤ xs.length ∧ Pv i σ H, ⟨xs.length, by simp, Nat.zero_le _, h0⟩, ?_⟩
  rintro i m σ H ⟨rfl, hi, p⟩
  have q := hl i σ H hi p
  by_cases hlt : i < xs.length
  · refine .inr ⟨⟨xs, xs[i], q, by simp [hlt]⟩, Pv (i + 1), fun σ' H' p' => ⟨xs.length - (i + 1), by omega, rfl, hlt, p'⟩, fun x H' y => ?_⟩
    obtain ⟨e, y⟩ := y
    subst e
    exact hs i x σ _ (y xs q) p
  · have e : i = xs.length := by omega
    subst e
    exact .inl ⟨⟨xs, q, Nat.le_refl _⟩, hd σ H p⟩
end L2
namespace L2
open PySem PySem.Spec PyProof.Rows
abbrev R2 := V → V → Hp → VK → Prop
def OpR (X : Cx) (f : Value → Value → Sem Value) (r : R2) : Prop :=
  ∀ (pins : List (Addr × Obj)) (s : Shared) (σ : St) (H : Hp) (x y : V) (v u : Value) (Q : VK), Inv X pins σ H s → RelV x v → RelV y u → r x y H Q →
    wpAny (model X.prog X.w) X.A (f v u) (EP X pins σ Q) X.xe s
def UnR (X : Cx) (f : Value → Sem Value) (r : V → Hp → VK → Prop) : Prop :=
  ∀ (pins : List (Addr × Obj)) (s : Shared) (σ : St) (H : Hp) (x : V) (v : Value) (Q : VK), Inv X pins σ H s → RelV x v → r x H Q →
    wpAny (model X.prog X.w) X.A (f v) (EP X pins σ Q) X.xe s
def CallR (X : Cx) (f : Value) (r : List V → Hp → VK → Prop) : Prop :=
  ∀ (pins : List (Addr × Obj)) (s : Shared) (σ : St) (H : Hp) (xs : List V) (us : List Value) (Q : VK), Inv X pins σ H s → Vals xs us → r xs H Q →
    wpAny (model X.prog X.w) X.A (call f us) (EP X pins σ Q) X.xe s
def tOp (r : R2) (ta tb : TE) : TE := fun σ H Q => ta σ H fun x H1 => tb σ H1 fun y H2 => r x y H2 Q
def tUn (r : V → Hp → VK → Prop) (ta : TE) : TE := fun σ H Q => ta σ H fun x H1 => r x H1 Q
def rI (C : Int → Int → Prop) (g : Int → Int → V) : R2 := fun x y H Q => ∃ i j, x = .int i ∧ y = .int j ∧ C i j ∧ Q (g i j) H
def rI0 (g : Int → Int → V) : R2 := fun x y H Q => ∃ i j, x = .int i ∧ y = .int j ∧ Q (g i j) H
def rU (g : Int → V) : V → Hp → VK → Prop := fun x H Q => ∃ i, x = .int i ∧ Q (g i) H
section
variable {X : Cx} {a b c : Expr} {ta tb tc : TE} {pos : Pos}
theorem binT (ha : PE X a ta) (hb : PE X b tb) {pins : List (Addr × Obj)} {s : Shared} {σ : St} {H : Hp} {R : V → V → Hp → Prop} (I : Inv X pins σ H s)
    (h : ta σ H fun x H1 => tb σ H1 fun y H2 => R x y H2) {Q : Value → Shared → Prop} {f : Value → Value → Sem Value}
    (hf : ∀ v u s2 x y H2, Inv X pins σ H2 s2 → RelV x v → RelV y u → R x y H2 → wpAny (model X.prog X.w) X.A (f v u) Q X.xe s2) :
    wpAny (model X.prog X.w) X.A (eval a X.env) (fun v s₁ => wpAny (model X.prog X.w) X.A (eval b X.env) (fun u s₂ => wpAny (model X.prog X.w) X.A (f v u) Q X.xe s₂) X.xe s₁) X.xe s := by
  refine thn (ha pins s σ H _ I h) fun v s1 ⟨x, H1, I1, r1, q1⟩ => ?_
  refine thn (hb pins s1 σ H1 _ I1 q1) fun u s2 ⟨y, H2, I2, r2, q2⟩ => ?_
  exact hf v u s2 x y H2 I2 r1 r2 q2
theorem pe_op {op : Operator} {r : R2} (ho : OpR X (binaryOp op) r) (ha : PE X a ta) (hb : PE X b tb) : PE X (.BinOp a op b pos) (tOp r ta tb) := by
  intro pins s σ H Q I h
  exact wpAny_BinOp (binT ha hb I h fun v u s2 x y H2 I2 rx ry q => ho pins s2 σ H2 x y v u Q I2 rx ry q)
theorem pe_un {op : UnaryOp} {r : V → Hp → VK → Prop} (ho : UnR X (unaryOp op) r) (ha : PE X a ta) : PE X (.UnaryOp op a pos) (tUn r ta) := by
  intro pins s σ H Q I h
  exact UnaryOp_ (thn (ha pins s σ H _ I h) fun v s1 ⟨x, H1, I1, r1, q1⟩ => ho pins s1 σ H1 x v Q I1 r1 q1)
theorem opI {f : Value → Value → Sem Value} {C : Int → Int → Prop} {g : Int → Int → Int}
    (rule : ∀ (i j : Int) (t u : Tok) (s : Shared) (Q : Value → Shared → Prop) (E : Value → Shared → Prop), C i j → Q (.int (g i j) s.toks) { s with toks := s.toks + 1 } → wpAny (model X.prog X.w) X.A (f (.int i t) (.int j u)) Q E s) :
    OpR X f (rI C fun i j => .int (g i j)) := by
  intro pins s σ H x y v u Q I rx ry h
  obtain ⟨i, j, rfl, rfl, hc, q⟩ := h
  obtain ⟨t, rfl⟩ := rx
  obtain ⟨t', rfl⟩ := ry
  exact rule i j t t' s _ _ hc ⟨.int (g i j), H, I.tok _, ⟨_, rfl⟩, q⟩
theorem opI0 {f : Value → Value → Sem Value} {g : Int → Int → Int}
    (rule : ∀ (i j : Int) (t u : Tok) (s : Shared) (Q : Value → Shared → Prop) (E : Value → Shared → Prop), Q (.int (g i j) s.toks) { s with toks := s.toks + 1 } → wpAny (model X.prog X.w) X.A (f (.int i t) (.int j u)) Q E s) :
    OpR X f (rI0 fun i j => .int (g i j)) := by
  intro pins s σ H x y v u Q I rx ry h
  obtain ⟨i, j, rfl, rfl, q⟩ := h
  obtain ⟨t, rfl⟩ := rx
  obtain ⟨t', rfl⟩ := ry
  exact rule i j t t' s _ _ ⟨.int (g i j), H, I.tok _, ⟨_, rfl⟩, q⟩
theorem opB0 {f : Value → Value → Sem Value} {g : Int → Int → Bool}
    (rule : ∀ (i j : Int) (t u : Tok) (s : Shared) (Q : Value → Shared → Prop) (E : Value → Shared → Prop), Q (.bool (g i j)) s → wpAny (model X.prog X.w) X.A (f (.int i t) (.int j u)) Q E s) :
    OpR X f (rI0 fun i j => .bl (g i j)) := by
  intro pins s σ H x y v u Q I rx ry h
  obtain ⟨i, j, rfl, rfl, q⟩ := h
  obtain ⟨t, rfl⟩ := rx
  obtain ⟨t', rfl⟩ := ry
  exact rule i j t t' s _ _ ⟨.bl (g i j), H, I, rfl, q⟩
def CPow (i j : Int) : Prop := 0 ≤ j ∧ j ≤ 1000000 ∧ i.natAbs < 2 ^ 64
def CMul (i j : Int) : Prop := (-(2 ^ 64) < i ∧ i < 2 ^ 64) ∨ (-(2 ^ 64) < j ∧ j < 2 ^ 64)
theorem CMul.ok {i j : Int} (h : CMul i j) : IntMulOk i j := by
  rcases h with ⟨h1, h2⟩ | ⟨h1, h2⟩
  · exact .of_left (intBits_le_64 h1 h2)
  · exact .of_right (intBits_le_64 h1 h2)
theorem op_add : OpR X (binaryOp .Add) (rI0 fun i j => .int (i + j)) := opI0 fun _ _ _ _ _ _ _ q => add_int q
theorem op_sub : OpR X (binaryOp .Sub) (rI0 fun i j => .int (i - j)) := opI0 fun _ _ _ _ _ _ _ q => sub_int q
theorem op_mul : OpR X (binaryOp .Mult) (rI CMul fun i j => .int (i * j)) := opI fun _ _ _ _ _ _ _ hc q => mul_int q hc.ok
theorem op_mod : OpR X (binaryOp .Mod) (rI (fun _ j => 0 < j) fun i j => .int (i % j)) := opI fun i j _ _ _ _ _ hc q => by
  have h1 : (0 : Int) < j := hc
  exact mod_int' (by omega) (by rw [Int.fmod_eq_emod_of_nonneg i (by omega)]; exact q)
theorem op_pow : OpR X (binaryOp .Pow) (rI CPow fun i j => .int (i ^ j.toNat)) := opI fun _ _ _ _ _ _ _ hc q => pow_int_small hc.1 hc.2.1 hc.2.2 q
theorem unI {f : Value → Sem Value} {g : Int → Int}
    (rule : ∀ (i : Int) (t : Tok) (s : Shared) (Q : Value → Shared → Prop) (E : Value → Shared → Prop), Q (.int (g i) s.toks) { s with toks := s.toks + 1 } → wpAny (model X.prog X.w) X.A (f (.int i t)) Q E s) :
    UnR X f (rU fun i => .int (g i)) := by
  intro pins s σ H x v Q I rx h
  obtain ⟨i, rfl, q⟩ := h
  obtain ⟨t, rfl⟩ := rx
  exact rule i t s _ _ ⟨.int (g i), H, I.tok _, ⟨_, rfl⟩, q⟩
theorem un_neg : UnR X (unaryOp .USub) (rU fun i => .int (-i)) := unI fun _ _ _ _ _ q => neg_int q
end
def scal : V → V → Bool
  | .non, .non => true | .non, .int _ => true | .int _, .non => true | .non, .bl _ => true | .bl _, .non => true | .non, .str _ => true | .str _, .non => true
  | .int _, .int _ => true | .bl _, .bl _ => true | .str _, .str _ => true | .byt _, .byt _ => true
  | .int _, .str _ => true | .str _, .int _ => true | .bl _, .str _ => true | .str _, .bl _ => true
  | _, _ => false
def rEq : R2 := fun x y H Q => scal x y = true ∧ Q (.bl (decide (x = y))) H
def rNe : R2 := fun x y H Q => scal x y = true ∧ Q (.bl (!decide (x = y))) H
theorem dec_int {i j : Int} : decide (V.int i = V.int j) = (i == j) := by
  rw [Bool.eq_iff_iff]
  simp
theorem dec_bl {i j : Bool} : decide (V.bl i = V.bl j) = (i == j) := by
  rw [Bool.eq_iff_iff]
  simp
theorem dec_str {i j : Str} : decide (V.str i = V.str j) = (i == j) := by
  rw [Bool.eq_iff_iff]
  simp
theorem dec_byt {i j : Array UInt8} : decide (V.byt i = V.byt j) = (i.toList == j.toList) := by
  rw [Bool.eq_iff_iff]
  cases i
  cases j
  simp
section
variable {X : Cx} {a b c : Expr} {ta tb tc : TE} {pos : Pos}
theorem fin_bl {pins : List (Addr × Obj)} {σ : St} {H : Hp} {s : Shared} {Q : VK} {k k' : Bool} (I : Inv X pins σ H s) (q : Q (.bl k) H) (e : k = k') : EP X pins σ Q (.bool k') s := by
  subst e
  exact ⟨.bl k, H, I, rfl, q⟩
theorem op_eq : OpR X (compareOp .Eq) rEq := by
  intro pins s σ H x y v u Q I rx ry h
  obtain ⟨hs, q⟩ := h
  cases x with
  | non =>
    cases rx
    cases y with
    | non => cases ry; exact PySem.EqNone.eq_none_none (fin_bl I q (by simp))
    | bl j => cases ry; exact PySem.EqNone.eq_none_bool (fin_bl I q (by simp))
    | int j => obtain ⟨t', rfl⟩ := ry; exact PySem.EqNone.eq_none_int (fin_bl I q (by simp))
    | str j => obtain ⟨t', rfl⟩ := ry; exact PySem.EqNone.eq_none_str (fin_bl I q (by simp))
    | _ => exact absurd (show false = true from hs) Bool.false_ne_true
  | bl i =>
    cases rx
    cases y with
    | non => cases ry; exact PySem.EqNone.eq_bool_none (fin_bl I q (by simp))
    | bl j => cases ry; exact eq_bool (fin_bl I q dec_bl)
    | str j => obtain ⟨t', rfl⟩ := ry; exact PySem.EqMixed.eq_bool_str (fin_bl I q (by simp))
    | _ => exact absurd (show false = true from hs) Bool.false_ne_true
  | int i =>
    obtain ⟨t, rfl⟩ := rx
    cases y with
    | non => cases ry; exact PySem.EqNone.eq_int_none (fin_bl I q (by simp))
    | int j => obtain ⟨t', rfl⟩ := ry; exact eq_int (fin_bl I q dec_int)
    | str j => obtain ⟨t', rfl⟩ := ry; exact PySem.EqMixed.eq_int_str (fin_bl I q (by simp))
    | _ => exact absurd (show false = true from hs) Bool.false_ne_true
  | str i =>
    obtain ⟨t, rfl⟩ := rx
    cases y with
    | non => cases ry; exact PySem.EqNone.eq_str_none (fin_bl I q (by simp))
    | bl j => cases ry; exact PySem.EqMixed.eq_str_bool (fin_bl I q (by simp))
    | int j => obtain ⟨t', rfl⟩ := ry; exact PySem.EqMixed.eq_str_int (fin_bl I q (by simp))
    | str j => obtain ⟨t', rfl⟩ := ry; exact eq_str (fin_bl I q dec_str)
    | _ => exact absurd (show false = true from hs) Bool.false_ne_true
  | byt i =>
    obtain ⟨t, rfl⟩ := rx
    cases y with
    | byt j => obtain ⟨t', rfl⟩ := ry; exact PySem.W.eq_bytes (fin_bl I q dec_byt)
    | _ => exact absurd (show false = true from hs) Bool.false_ne_true
  | _ => cases y <;> exact absurd (show false = true from hs) Bool.false_ne_true
theorem op_ne : OpR X (compareOp .NotEq) rNe := by
  intro pins s σ H x y v u Q I rx ry h
  obtain ⟨hs, q⟩ := h
  cases x with
  | non =>
    cases rx
    cases y with
    | non => cases ry; exact PySem.EqNone.ne_none_none (fin_bl I q (by simp))
    | bl j => cases ry; exact PySem.EqNone.ne_none_bool (fin_bl I q (by simp))
    | int j => obtain ⟨t', rfl⟩ := ry; exact PySem.EqNone.ne_none_int (fin_bl I q (by simp))
    | str j => obtain ⟨t', rfl⟩ := ry; exact PySem.EqNone.ne_none_str (fin_bl I q (by simp))
    | _ => exact absurd (show false = true from hs) Bool.false_ne_true
  | bl i =>
    cases rx
    cases y with
    | non => cases ry; exact PySem.EqNone.ne_bool_none (fin_bl I q (by simp))
    | bl j => cases ry; exact ne_bool (fin_bl I q (congrArg not dec_bl))
    | str j => obtain ⟨t', rfl⟩ := ry; exact PySem.EqMixed.ne_bool_str (fin_bl I q (by simp))
    | _ => exact absurd (show false = true from hs) Bool.false_ne_true
  | int i =>
    obtain ⟨t, rfl⟩ := rx
    cases y with
    | non => cases ry; exact PySem.EqNone.ne_int_none (fin_bl I q (by simp))
    | int j => obtain ⟨t', rfl⟩ := ry; exact ne_int (fin_bl I q (congrArg not dec_int))
    | str j => obtain ⟨t', rfl⟩ := ry; exact PySem.EqMixed.ne_int_str (fin_bl I q (by simp))
    | _ => exact absurd (show false = true from hs) Bool.false_ne_true
  | str i =>
    obtain ⟨t, rfl⟩ := rx
    cases y with
    | non => cases ry; exact PySem.EqNone.ne_str_none (fin_bl I q (by simp))
    | bl j => cases ry; exact PySem.EqMixed.ne_str_bool (fin_bl I q (by simp))
    | int j => obtain ⟨t', rfl⟩ := ry; exact PySem.EqMixed.ne_str_int (fin_bl I q (by simp))
    | str j => obtain ⟨t', rfl⟩ := ry; exact ne_str (fin_bl I q (congrArg not dec_str))
    | _ => exact absurd (show false = true from hs) Bool.false_ne_true
  | byt i =>
    obtain ⟨t, rfl⟩ := rx
    cases y with
    | byt j => obtain ⟨t', rfl⟩ := ry; exact PySem.W.ne_bytes (fin_bl I q (congrArg not dec_byt))
    | _ => exact absurd (show false = true from hs) Bool.false_ne_true
  | _ => cases y <;> exact absurd (show false = true from hs) Bool.false_ne_true
theorem op_le : OpR X (compareOp .LtE) (rI0 fun i j => .bl (decide (i ≤ j))) := opB0 fun _ _ _ _ _ _ _ q => le_int q
theorem op_gt : OpR X (compareOp .Gt) (rI0 fun i j => .bl (decide (j < i))) := opB0 fun _ _ _ _ _ _ _ q => gt_int q
theorem op_ge : OpR X (compareOp .GtE) (rI0 fun i j => .bl (decide (j ≤ i))) := opB0 fun _ _ _ _ _ _ _ q => ge_int q
theorem op_in_str : OpR X (compareOp .In) (fun x y H Q => ∃ i j, x = .str i ∧ y = .str j ∧ Q (.bl (!(Builtin.Str.occurrences j i 0 j.length 1).isEmpty)) H) := by
  intro pins s σ H x y v u Q I rx ry h
  obtain ⟨i, j, rfl, rfl, q⟩ := h
  obtain ⟨t, rfl⟩ := rx
  obtain ⟨t', rfl⟩ := ry
  exact in_str (fin_bl I q rfl)
theorem op_isN : OpR X (compareOp .Is) (fun x y H Q => y = .non ∧ Q (.bl (decide (x = .non))) H) := by
  intro pins s σ H x y v u Q I rx ry h
  obtain ⟨rfl, q⟩ := h
  cases ry
  refine is_none_gen (fin_bl I q ?_)
  cases x <;> first
    | (cases rx; rfl)
    | (obtain ⟨t, rfl⟩ := rx; rfl)
theorem OpR.or {f : Value → Value → Sem Value} {r r' : R2} (h : OpR X f r) (h' : OpR X f r') : OpR X f (fun x y H Q => r x y H Q ∨ r' x y H Q) := by
  intro pins s σ H x y v u Q I rx ry q
  rcases q with q | q
  · exact h pins s σ H x y v u Q I rx ry q
  · exact h' pins s σ H x y v u Q I rx ry q
theorem nomark (b : Expr) {op : CmpOp} (h : op ≠ .In := by decide) (h2 : op ≠ .NotIn := by decide) : behindInMarks op b = false := by
  have e1 : (op == CmpOp.In) = false := by cases op <;> first | rfl | exact absurd rfl h
  have e2 : (op == CmpOp.NotIn) = false := by cases op <;> first | rfl | exact absurd rfl h2
  cases b <;> simp [behindInMarks, e1, e2]
theorem pe_cmpR {op : CmpOp} {r : R2} (ho : OpR X (compareOp op) r) (ha : PE X a ta) (hb : PE X b tb) (hm : behindInMarks op b = false) : PE X (.Compare a [op] [b] pos) (tOp r ta tb) := by
  intro pins s σ H Q I h
  exact wpAny_Compare1 (binT ha hb I h fun v u s2 x y H2 I2 rx ry q => ho pins s2 σ H2 x y v u Q I2 rx ry q) hm
def tTest (t : TE) : TT := fun σ H Q => t σ H fun x H' => ∃ k, x = .bl k ∧ Q k H'
theorem pt_cmpR {op : CmpOp} {r : R2} (ho : OpR X (compareOp op) r) (ha : PE X a ta) (hb : PE X b tb) (hm : behindInMarks op b = false) : PT X (.Compare a [op] [b] pos) (tTest (tOp r ta tb)) := by
  intro pins s σ H Q I h
  refine wpAny_isTrue_Compare1 (thn (ha pins s σ H _ I h) fun v s1 ⟨x, H1, I1, r1, q1⟩ => thn (hb pins s1 σ H1 _ I1 q1) fun u s2 ⟨y, H2, I2, r2, q2⟩ =>
    thn (ho pins s2 σ H2 x y v u _ I2 r1 r2 q2) fun c s3 ⟨z, H3, I3, r3, k, e, q3⟩ => ?_) hm
  subst e
  cases r3
  exact wpAny_truthy_bool ⟨H3, I3, q3⟩
def tChain (r r' : R2) (ta tb tc : TE) : TE := fun σ H Q => ta σ H fun x H1 => tb σ H1 fun y H2 => r x y H2 fun z H3 => ∃ k, z = .bl k ∧
  (if k = true then tc σ H3 fun w' H4 => r' y w' H4 Q else Q (.bl false) H3)
theorem pe_chain {op op' : CmpOp} {r r' : R2} (ho : OpR X (compareOp op) r) (ho' : OpR X (compareOp op') r') (ha : PE X a ta) (hb : PE X b tb) (hc : PE X c tc)
    (hm : lastMarks [op, op'] [b, c] = false := by with_unfolding_all rfl) : PE X (.Compare a [op, op'] [b, c] pos) (tChain r r' ta tb tc) := by
  intro pins s σ H Q I h
  refine Compare_chain (thn (ha pins s σ H _ I h) fun v s1 ⟨x, H1, I1, r1, q1⟩ => chain_link (thn (hb pins s1 σ H1 _ I1 q1) fun u s2 ⟨y, H2, I2, r2, q2⟩ =>
    thn (ho pins s2 σ H2 x y v u _ I2 r1 r2 q2) fun d s3 ⟨z, H3, I3, r3, k, e, q3⟩ => ?_)) hm
  subst e
  cases r3
  refine wpAny_truthy_bool ?_
  cases k with
  | false => exact ite_ff ⟨.bl false, H3, I3, rfl, q3⟩
  | true => exact ite_tt (chain_last (thn (hc pins s3 σ H3 _ I3 q3) fun w' s4 ⟨z', H4, I4, r4, q4⟩ => ho' pins s4 σ H4 y z' u w' Q I4 r2 r4 q4))
theorem pt_chain {op op' : CmpOp} {r r' : R2} (ho : OpR X (compareOp op) r) (ho' : OpR X (compareOp op') r') (ha : PE X a ta) (hb : PE X b tb) (hc : PE X c tc)
    (hm : lastMarks [op, op'] [b, c] = false := by with_unfolding_all rfl) : PT X (.Compare a [op, op'] [b, c] pos) (tTest (tChain r r' ta tb tc)) := by
  intro pins s σ H Q I h
  refine isTrue_chain (thn (ha pins s σ H _ I h) fun v s1 ⟨x, H1, I1, r1, q1⟩ => test_link (thn (hb pins s1 σ H1 _ I1 q1) fun u s2 ⟨y, H2, I2, r2, q2⟩ =>
    thn (ho pins s2 σ H2 x y v u _ I2 r1 r2 q2) fun d s3 ⟨z, H3, I3, r3, k, e, q3⟩ => ?_)) hm
  subst e
  cases r3
  refine wpAny_truthy_bool ?_
  cases k with
  | false =>
    obtain ⟨k', e', q'⟩ := q3
    cases e'
    exact ite_ff ⟨H3, I3, q'⟩
  | true =>
    refine ite_tt (test_last (thn (hc pins s3 σ H3 _ I3 q3) fun w' s4 ⟨z', H4, I4, r4, q4⟩ => thn (ho' pins s4 σ H4 y z' u w' _ I4 r2 r4 q4) fun d' s5 ⟨z2, H5, I5, r5, k2, e2, q5⟩ => ?_))
    subst e2
    cases r5
    exact wpAny_truthy_bool ⟨H5, I5, q5⟩
theorem line63 : (sizeLine : Nat) < 2 ^ 63 := by rw [sizeLine_eq]; decide
theorem op_add_str : OpR X (binaryOp .Add) (fun x y H Q => ∃ i j, x = .str i ∧ y = .str j ∧ i.length + j.length ≤ sizeLine ∧ Q (.str (i ++ j)) H) := by
  intro pins s σ H x y v u Q I rx ry h
  obtain ⟨i, j, rfl, rfl, hz, q⟩ := h
  obtain ⟨t, rfl⟩ := rx
  obtain ⟨t', rfl⟩ := ry
  exact add_str (fun t' tk => ⟨.str (i ++ j), H, I.tok _, ⟨_, rfl⟩, q⟩) hz
theorem vals1 {x : V} {us : List Value} (r : Vals [x] us) : ∃ u, us = [u] ∧ RelV x u := by
  cases r with
  | cons r1 r2 => cases r2; exact ⟨_, rfl, r1⟩
theorem vals2 {x y : V} {us : List Value} (r : Vals [x, y] us) : ∃ u w', us = [u, w'] ∧ RelV x u ∧ RelV y w' := by
  cases r with
  | cons r1 r2 =>
    cases r2 with
    | cons r3 r4 => cases r4; exact ⟨_, _, rfl, r1, r3⟩
theorem call_int1 : CallR X (.type "int") (fun xs H Q => (∃ i, xs = [.int i] ∧ Q (.int i) H) ∨ ∃ k, xs = [.bl k] ∧ Q (.int (if k then 1 else 0)) H) := by
  intro pins s σ H xs us Q I r h
  rcases h with ⟨i, rfl, q⟩ | ⟨k, rfl, q⟩
  · obtain ⟨u, rfl, t, rfl⟩ := vals1 r
    exact call_int_int ⟨.int i, H, I, ⟨_, rfl⟩, q⟩
  · obtain ⟨u, rfl, r1⟩ := vals1 r
    cases r1
    exact call_int_bool ⟨.int (if k then 1 else 0), H, I.tok _, ⟨_, rfl⟩, q⟩
end
end L2
namespace L2
open PySem PySem.Spec PyProof.Rows
structure ObjM (h : Heap) (x dx C : Addr) (mA : Str → Option Value) : Prop where
  obj : h.get? x = some (PySem.W.instObj C dx)
  ns : h.Ns1 dx mA
  ne : dx ≠ x
theorem lookIn_ns {h : Heap} {dx : Addr} {mA : Str → Option Value} (n : h.Ns1 dx mA) : ∃ od, h.get? dx = some od ∧ ∀ name, PySem.W.lookIn name od = some (mA name) := by
  obtain ⟨o, es, ep, ho, hd, hk, _, hm⟩ := n
  refine ⟨o, ho, fun name => ?_⟩
  have e := hm name
  unfold nsFind findBy at e
  rw [← Array.find?_toList] at e
  unfold PySem.W.lookIn
  rw [hd]
  dsimp only
  split
  · rename_i y q
    rw [q] at e
    exact congrArg some e
  · rename_i q
    rw [q] at e
    have a : es.toList.any (·.refKey) = false := by
      rw [List.any_eq_false]
      intro y hy
      obtain ⟨z, t, hkey⟩ := hk y (Array.mem_toList_iff.mp hy)
      simp [DictEntry.refKey, hkey]
    have a' : ¬ es.toList.any (·.refKey) = true := by rw [a]; exact Bool.false_ne_true
    rw [if_neg a']
    exact congrArg some e
theorem ObjM.look {h : Heap} {x dx C : Addr} {mA : Str → Option Value} (I : ObjM h x dx C mA) : ∃ od, PySem.W.InstAt h x (PySem.W.instObj C dx) C (some od) ∧ ∀ name, PySem.W.lookIn name od = some (mA name) :=
  let ⟨od, ho, hl⟩ := lookIn_ns I.ns
  ⟨od, ⟨I.obj, rfl, rfl, ho⟩, hl⟩
section
variable {prog : Program} {w : World} {A : Around} {E : Value → Shared → Prop} {s : Shared} {K : PySem.W.Frag} {x dx C f : Addr} {mA : Str → Option Value} {name : Str} {v : Value}
end
theorem RelO.some_of {v : V} {o : Option Value} (r : RelO (some v) o) : ∃ u, o = some u ∧ RelV v u := by
  cases o with
  | none => exact (show False from r).elim
  | some u => exact ⟨u, rfl, r⟩
section
variable {P : Program} {w : World} {H H' : Hp} {h h' : Heap} {a C dx : Addr} {fs fs' : List (Str × V)}
theorem ins_get (hok : HOk P w H h) (e : H a = some (.ins C dx fs)) : ∃ mA, ObjM h a dx C mA ∧ (∀ f, RelO (fs.lookup f) (mA f)) ∧ PySem.Within mA (fs.map (·.1)) ∧ fs.length ≤ 1000 ∧ H dx = some (.own a) := by
  obtain ⟨d, z, ne, ob, mA, n, r, q⟩ := (show ObjOk P w H h a (.ins C dx fs) from hok a _ e)
  exact ⟨mA, ⟨ob, n, ne⟩, r, q, z, d⟩
end
structure Cls (K : PySem.W.Frag) (C : Addr) : Prop where
  pg : PySem.W.plainGet K C Str.empty = true
  hd : PySem.W.hasDictIn K C = true
  po : PySem.W.plainOver K C = true
  sa : PySem.W.findIn K (.ref C) "__setattr__" = some (some (.builtin "object.__setattr__"))
theorem Cls.get {K : PySem.W.Frag} {C : Addr} (c : Cls K C) (f : Str) : PySem.W.plainGet K C f = true := c.pg
section
variable {X : Cx} {pins : List (Addr × Obj)} {σ : St} {H : Hp} {s : Shared} {a C dx : Addr} {fs : List (Str × V)} {f : Str} {v : V} {A : Around} {E : Value → Shared → Prop}
end
section
variable {X : Cx} {o e value : Expr} {f : Str} {pos pos' tpos : Pos} {ta tv : TE}
end
section
variable {X : Cx} {pins : List (Addr × Obj)} {σ : St} {H : Hp} {s : Shared} {A : Around} {E : Value → Shared → Prop} {Q : Value → Shared → Prop} {c : Value} {b : Bool}
inductive TyOf (K : PySem.W.Frag) (H : Hp) : V → Value → Prop where
  | non : TyOf K H .non (.type "NoneType")
  | bl (x : Bool) : TyOf K H (.bl x) (.type "bool")
  | int (i : Int) : TyOf K H (.int i) (.type "int")
  | str (x : Str) : TyOf K H (.str x) (.type "str")
  | flt (x : UInt64) : TyOf K H (.flt x) (.type "float")
  | lst {a : Addr} {xs : List V} (e : H a = some (.lst xs)) : TyOf K H (.ref a) (.type "list")
  | frz {a : Addr} {o : Obj} {xs : List V} (e : H a = some (.frz o (.lst xs))) : TyOf K H (.ref a) (.type "list")
  | tup {a : Addr} {xs : List V} (e : H a = some (.tup xs)) : TyOf K H (.ref a) (.type "tuple")
  | dK {a : Addr} {kvs : List (Key × V)} (e : H a = some (.dK kvs)) : TyOf K H (.ref a) (.type "dict")
  | dT {a : Addr} {kvs : List (List Key × V)} (e : H a = some (.dT kvs)) : TyOf K H (.ref a) (.type "dict")
  | ins {a C dx : Addr} {fs : List (Str × V)} (e : H a = some (.ins C dx fs)) (cl : Cls K C) (ha : PySem.W.findIn K (.ref C) "__class__" = some (some (.builtin "object.__class__")))
      (hn : PySem.W.specialIn K (.builtin "object.__class__") "__get__" = some (some (.builtin "getset_descriptor.__get__"))) (htk : PySem.W.takesIn K (.builtin "object.__class__") = some true)
      (hm : PySem.W.mroIn K C (.type "object") = some true) : TyOf K H (.ref a) (.ref C)
theorem isinst_ok {x : V} {u t : Value} (I : Inv X pins σ H s) (rx : RelV x u) (ty : TyOf X.K H x t) (e : PySem.W.kitOne X.K t c = some b) (h : ∀ tk, Q (.bool b) { s with toks := tk }) :
    wpAny (model X.prog X.w) A (call (.builtin "isinstance") [u, c]) Q E s := by
  cases ty with
  | non => cases (show u = Value.none from rx); exact PySem.W.kia_one PySem.W.kitx_none I.kIn True.intro e (fun z => nomatch z) h
  | bl y => cases (show u = Value.bool y from rx); exact PySem.W.kia_one PySem.W.kitx_bool I.kIn True.intro e (fun z => nomatch z) h
  | int i => obtain ⟨t, q⟩ := (show ∃ t, u = Value.int i t from rx); cases q; exact PySem.W.kia_one PySem.W.kitx_int I.kIn True.intro e (fun z => nomatch z) h
  | str y => obtain ⟨t, q⟩ := (show ∃ t, u = Value.str y t from rx); cases q; exact PySem.W.kia_one PySem.W.kitx_str I.kIn True.intro e (fun z => nomatch z) h
  | flt y => obtain ⟨t, q⟩ := (show ∃ t, u = Value.float y t from rx); cases q; exact PySem.W.kia_one PySem.W.kitx_float I.kIn True.intro e (fun z => nomatch z) h
  | @lst a xs ea =>
    cases (show u = Value.ref a from rx)
    obtain ⟨_, _, n, _, h1⟩ := (show ObjOk X.prog X.w H s.heap a (.lst xs) from I.hok a _ ea)
    exact PySem.W.kia_one PySem.W.kitx_list I.kIn ⟨_, h1, rfl⟩ e (fun z => nomatch z) h
  | @frz a ob xs ea =>
    cases (show u = Value.ref a from rx)
    obtain ⟨_, _, _, n, _, h1⟩ := (show ObjOk X.prog X.w H s.heap a (.frz ob (.lst xs)) from I.hok a _ ea)
    exact PySem.W.kia_one PySem.W.kitx_list I.kIn ⟨_, h1, rfl⟩ e (fun z => nomatch z) h
  | @tup a xs ea =>
    cases (show u = Value.ref a from rx)
    obtain ⟨_, _, _, p⟩ := (show ObjOk X.prog X.w H s.heap a (.tup xs) from I.hok a _ ea)
    obtain ⟨o, h1, h2, _⟩ := p
    exact PySem.W.kia_one PySem.W.kitx_tuple I.kIn ⟨o, h1, h2⟩ e (fun z => nomatch z) h
  | @dK a kvs ea =>
    cases (show u = Value.ref a from rx)
    obtain ⟨_, _, vs, _, p⟩ := (show ObjOk X.prog X.w H s.heap a (.dK kvs) from I.hok a _ ea)
    obtain ⟨o, es, ep, h1, h2, _⟩ := p
    exact PySem.W.kia_one PySem.W.kitx_dict I.kIn ⟨o, h1, h2.1⟩ e (fun z => nomatch z) h
  | @dT a kvs ea =>
    cases (show u = Value.ref a from rx)
    obtain ⟨_, _, xs, _, o, es, ep, h1, h2, _⟩ := (show ObjOk X.prog X.w H s.heap a (.dT kvs) from I.hok a _ ea)
    exact PySem.W.kia_one PySem.W.kitx_dict I.kIn ⟨o, h1, h2.1⟩ e (fun z => nomatch z) h
  | @ins a C dx fs ea cl ha hn htk hm =>
    cases (show u = Value.ref a from rx)
    obtain ⟨mA, O, _⟩ := ins_get I.hok ea
    obtain ⟨od, J, _⟩ := O.look
    exact PySem.W.kia_one (PySem.W.kitx_own (cl.get _) cl.hd ha hn htk hm) I.kIn J e (fun z => nomatch z) h
end
end L2
namespace L2
open PySem PySem.Spec PyProof.Rows
structure Room (k : Nat) (A : Around) : Prop where
  hd : A.handled = none
  dp : A.depth + 3 * k + 5 < recursionLimit
  un : A.units + 16 * k + 200 < cLine
theorem Room.mono {j k : Nat} {A : Around} (r : Room k A) (h : j ≤ k) : Room j A := ⟨r.hd, by have := r.dp; omega, by have := r.un; omega⟩
theorem Room.deeper {k : Nat} {A : Around} (r : Room (k + 1) A) (env : Env) : Room k (A.deeper env) :=
  ⟨r.hd, by have := r.dp; show A.depth + 1 + 3 * k + 5 < _; omega, by have := r.un; show A.units + 3 + 16 * k + 200 < _; omega⟩
theorem Room.in1 {k : Nat} {A : Around} (r : Room (k + 1) A) : Room k A.in1 :=
  ⟨r.hd, by have := r.dp; show A.depth + 3 * k + 5 < _; omega, by have := r.un; show A.units + 1 + 16 * k + 200 < _; omega⟩
theorem Room.depth {k : Nat} {A : Around} (r : Room k A) : A.depth < recursionLimit := by have := r.dp; omega
theorem Room.units {k : Nat} {A : Around} (r : Room k A) : A.units + 64 < cLine := by have := r.un; omega
def tNil : TA := fun _ H Q => Q [] H
def tCons (ta : TE) (tr : TA) : TA := fun σ H Q => ta σ H fun x H1 => tr σ H1 fun xs H2 => Q (x :: xs) H2
section
variable {X : Cx} {e : Expr} {es : List Expr} {te : TE} {t : TA} {pos : Pos}
theorem pa_nil : PA X [] tNil := fun _ _ _ _ H Q I h => Calls.spliced_nil ⟨[], H, I, .nil, h⟩
theorem pa_cons (ha : PE X e te) (hr : PA X es t) (hs : starEach (e :: es) X.env = (false, eval e X.env) :: starEach es X.env := by rfl) : PA X (e :: es) (tCons te t) := by
  intro pos pins s σ H Q I h
  rw [hs]
  show wpAny _ _ (spliced ((false, eval e X.env) :: backTo pos (starEach es X.env))) _ _ s
  refine Calls.spliced_cons (thn (ha pins s σ H _ I h) fun u s1 ⟨x, H1, I1, r1, q1⟩ => ?_)
  exact thn (hr pos pins s1 σ H1 _ I1 q1) fun us s2 ⟨xs, H2, I2, r2, q2⟩ => ⟨x :: xs, H2, I2, .cons r1 r2, q2⟩
def tTup (t : TA) : TE := fun σ H Q => t σ H fun xs H1 => xs.length ≤ sizeLine ∧ ∀ p, H1 p = none → Q (.ref p) (upd H1 p (.tup xs))
def tLst (t : TA) : TE := fun σ H Q => t σ H fun xs H1 => xs.length ≤ sizeLine ∧ ∀ p, H1 p = none → Q (.ref p) (upd H1 p (.lst xs))
theorem pe_tup {x1} (h : PA X es t) : PE X (.Tuple es x1 pos) (tTup t) := by
  intro pins s σ H Q I hq
  refine wpAny_Tuple_spliced (thn (h pos pins s σ H _ I hq) fun us s1 ⟨xs, H1, I1, r, z, q⟩ => ⟨by rw [← r.length]; exact z, ?_⟩)
  have hf : H1 s1.heap.objs.size = none := I1.hok.fresh (Nat.le_refl _)
  refine ⟨.ref s1.heap.objs.size, upd H1 s1.heap.objs.size (.tup xs), I1.laid (t' := s1.toks) (fun b u e => Heap.get?_push_of_some _ e) (Nat.le_refl _) ?_, rfl, q _ hf⟩
  exact ⟨z, us, r, ⟨_, Heap.get?_push_size _ rfl, rfl, _, rfl⟩⟩
theorem pe_lst (h : PA X es t) : PE X (.List es pos) (tLst t) := by
  intro pins s σ H Q I hq
  refine wpAny_List_spliced (thn (h pos pins s σ H _ I hq) fun us s1 ⟨xs, H1, I1, r, z, q⟩ => ⟨by rw [← r.length]; exact z, ?_⟩)
  have hf : H1 s1.heap.objs.size = none := I1.hok.fresh (Nat.le_refl _)
  refine ⟨.ref s1.heap.objs.size, upd H1 s1.heap.objs.size (.lst xs), I1.laid (t' := s1.toks) (fun b u e => Heap.get?_push_of_some _ e) (Nat.le_refl _) ?_, rfl, q _ hf⟩
  exact ⟨z, us, 0, r, Heap.get?_push_size _ rfl⟩
end
abbrev Sp := List V → Hp → VK → XK → Prop
abbrev CXT := List Env → Hp → Shared → XK → Value → Shared → Prop
structure Env0 (P : Program) (w : World) (K : PySem.W.Frag) (mg : Str → Option Value) (base : Heap) (A : Around) (outer : List Env) (s : Shared) (H : Hp) : Prop where
  frames : A.frames = some outer
  mod : Mod K mg base
  bs : ∀ b o, base.get? b = some o → s.heap.get? b = some o ∧ H b = none
  bsz : base.objs.size ≤ s.heap.objs.size
  funs : s.heap.FunFrames base outer
  frf : ∀ b ∈ frs outer, H b = none
  hok : HOk P w H s.heap
  bare : AllBare s.gens
def CE (outer : List Env) (P : Program) (w : World) (H : Hp) (s : Shared) (Q : VK) (u : Value) (s' : Shared) : Prop :=
  ∃ v H', s'.os = s.os ∧ AllBare s'.gens ∧ Un (frs outer) [] H H' s.heap s'.heap ∧ HOk P w H' s'.heap ∧ RelV v u ∧ Q v H'
def CR (CX : CXT) (outer : List Env) (P : Program) (w : World) (H : Hp) (s : Shared) (Q : VK) (E : XK) (r : Result) (s' : Shared) : Prop :=
  match r with
  | .ok (.ret u) => CE outer P w H s Q u s'
  | .ok _ => False
  | .error e => CX outer H s E e s'
structure FnOk (P : Program) (w : World) (K : PySem.W.Frag) (mg : Str → Option Value) (base : Heap) (CX : CXT) (k : Nat) (f : Addr) (fd : FuncData) (ps : List Str) (sp : Sp) : Prop where
  len : ∀ vs H Q E, sp vs H Q E → vs.length = ps.length
  run : ∀ (A : Around) (outer : List Env) (s : Shared) (H : Hp) (args : Args) (us : List Value) (vs : List V) (Q : VK) (E : XK), Room k A → Env0 P w K mg base A outer s H → BindsTo s fd args (ps.zip us) → Vals vs us → sp vs H Q E →
    codeAny (model P w) A (.call (.ref f) args) (CR CX outer P w H s Q E) s
theorem FnOk.mono {P : Program} {w : World} {K : PySem.W.Frag} {mg : Str → Option Value} {base : Heap} {CX : CXT} {j k : Nat} {f : Addr} {fd : FuncData} {ps : List Str} {sp : Sp} (F : FnOk P w K mg base CX j f fd ps sp) (h : j ≤ k) :
    FnOk P w K mg base CX k f fd ps sp := ⟨F.len, fun A outer s H args us vs Q E hr => F.run A outer s H args us vs Q E (hr.mono h)⟩
theorem FnOk.imp {P : Program} {w : World} {K : PySem.W.Frag} {mg : Str → Option Value} {base : Heap} {CX : CXT} {k : Nat} {f : Addr} {fd : FuncData} {ps : List Str} {sp sp' : Sp} (F : FnOk P w K mg base CX k f fd ps sp)
    (h : ∀ vs H Q E, sp' vs H Q E → sp vs H Q E) : FnOk P w K mg base CX k f fd ps sp' :=
  ⟨fun vs H Q E q => F.len vs H Q E (h _ _ _ _ q), fun A outer s H args us vs Q E hr he hb hv hs => F.run A outer s H args us vs Q E hr he hb hv (h _ _ _ _ hs)⟩
theorem Env0.in1 {P : Program} {w : World} {K : PySem.W.Frag} {mg : Str → Option Value} {base : Heap} {A : Around} {outer : List Env} {s : Shared} {H : Hp} (e : Env0 P w K mg base A outer s H) :
    Env0 P w K mg base A.in1 outer s H := ⟨e.frames, e.mod, e.bs, e.bsz, e.funs, e.frf, e.hok, e.bare⟩
section
variable {X : Cx} {pins : List (Addr × Obj)} {σ : St} {H : Hp} {s s' : Shared}
theorem Inv.env0 (I : Inv X pins σ H s) : Env0 X.prog X.w X.K X.mg X.base X.A X.stack s H :=
  ⟨I.ok.frames, I.ok.mod, I.bs, Nat.le_trans I.ok.bsz I.sz, I.stack, I.stkFree, I.hok, I.bare⟩
theorem Inv.after {Q : VK} {u : Value} (I : Inv X pins σ H s) (h : CE X.stack X.prog X.w H s Q u s') : EP X pins σ Q u s' := by
  obtain ⟨v, H', os, bare, un, hok, r, q⟩ := h
  obtain ⟨hh, g, d, t, os'⟩ := s'
  obtain rfl : os' = s.os := os
  exact ⟨v, H', I.call (h' := hh) (g' := g) (d' := d) (t' := t) (ch := []) un hok bare (fun b z => absurd z (by simp)), r, q⟩
end
def tCall (sp : Sp) (dvs : List V) (E : XK) (t : TA) : TE := fun σ H Q => t σ H fun vs H1 => sp (vs ++ dvs) H1 Q E
def Binds (K : PySem.W.Frag) (fd : FuncData) (ps : List Str) (ds : List Value) : Prop :=
  ∀ (s : Shared) (us : List Value), K.In s.heap → (us ++ ds).length = ps.length → BindsTo s fd ⟨us, []⟩ (ps.zip (us ++ ds))
theorem Binds.all {K : PySem.W.Frag} {fd : FuncData} {ps : List Str} (h : ∀ us : List Value, us.length = ps.length → bindArgs fd ⟨us, []⟩ = pure (ps.zip us)) : Binds K fd ps [] := fun s us _ hl => by
  rw [List.append_nil] at hl ⊢
  exact .of_eq (h us hl)
def Passes (CX : CXT) (X : Cx) (E : XK) : Prop := ∀ (pins : List (Addr × Obj)) (σ : St) (H : Hp) (s : Shared) (e : Value) (s' : Shared), Inv X pins σ H s → CX X.stack H s E e s' → X.xe e s'
section
variable {X : Cx} {CX : CXT} {k : Nat} {f C : Addr} {fd : FuncData} {ps : List Str} {sp : Sp} {dvs : List V} {ds : List Value} {E : XK} {x m : Str} {p pos apos : Pos} {e o : Expr} {es : List Expr} {ta : TE} {t : TA}
theorem run_fn {pins : List (Addr × Obj)} {σ : St} {H : Hp} {s : Shared} {Q : VK} {us : List Value} {vs : List V} (F : FnOk X.prog X.w X.K X.mg X.base CX k f fd ps sp) (hr : Room k X.A) (hb : Binds X.K fd ps ds) (hd : Vals dvs ds) (hx : Passes CX X E)
    (I : Inv X pins σ H s) (r : Vals vs us) (h : sp (vs ++ dvs) H Q E) : wpAny (model X.prog X.w) X.A (call (.ref f) us) (EP X pins σ Q) X.xe s := by
  have r2 : Vals (vs ++ dvs) (us ++ ds) := r.append hd
  have hl : (us ++ ds).length = ps.length := by rw [← r2.length]; exact F.len _ _ _ _ h
  refine wpAny_call (codeAny_mono (F.run X.A X.stack s H ⟨us, []⟩ (us ++ ds) (vs ++ dvs) Q E hr I.env0 (hb s us I.kIn hl) r2 h) fun r s' hq => ?_)
  cases r with
  | error e => exact hx pins σ H s e s' I hq
  | ok fl =>
    cases fl with
    | ret u => exact I.after hq
    | next => exact False.elim hq
    | brk => exact False.elim hq
    | cont => exact False.elim hq
theorem pe_call (F : FnOk X.prog X.w X.K X.mg X.base CX k f fd ps sp) (hr : Room k X.A) (hg : Gl X x) (hm : X.mg x = some (.ref f)) (hk : PySem.W.keepIn X.K (.ref f) = true) (hb : Binds X.K fd ps ds) (hd : Vals dvs ds) (hx : Passes CX X E)
    (ha : PA X (e :: es) t) (hdb : (x == ("__debug__" : Str)) = false := by decide) (he : starEach (e :: es) X.env = (false, eval e X.env) :: starEach es X.env := by rfl) (hpl : (backTo pos (starEach es X.env)).any (·.1) = false := by rfl) :
    PE X (.Call (.Name x p) (e :: es) [] pos) (tCall sp dvs E t) := by
  intro pins s σ H Q I h
  refine wpAny_Call_Name_kw (ld_glob I hg hm ?_ hdb)
  refine PySem.W.callWith_K (h₀ := X.base) I.ok.mod.kin hk (thn (ha pos pins s σ H _ I h) fun us s1 ⟨vs, H1, I1, r, q⟩ => ⟨I1.kIn, ?_⟩) he hpl
  exact run_fn F hr hb hd hx I1 r q
end
section
variable {X : Cx} {CX : CXT} {k : Nat} {f C : Addr} {fd : FuncData} {ps ks : List Str} {sp : Sp} {E : XK} {x m : Str} {p pos apos kpos : Pos} {e o : Expr} {es : List Expr} {kws : List Keyword} {te ta : TE} {t tk : TA} {nm : Option Str}
variable {g : List Value → List Value → List Value} {gV : List V → List V → List V}
end
structure FnScope (N P : List Str) (sc : Scope) : Prop where
  kind : sc.kind = .function
  co : sc.isCoroutine = false
  gen : sc.isGenerator = false
  nd : N.Nodup
  pre : N.take P.length = P
  par : ∀ x ∈ P, sc.names.lookup x = some .local ∨ sc.names.lookup x = some .cell
  nofree : ∀ y ∈ sc.names, y.2 ≠ .free
theorem bindL_out {kindOf : Str → Option NameKind} {x : Str} : ∀ {binds : List (Str × Value)} {m : Str → Option Value}, (∀ v, (x, v) ∉ binds) → bindL kindOf binds m x = m x
  | [], _, _ => rfl
  | (n, v) :: r, m, h => by
    unfold bindL
    rw [bindL_out fun w hw => h w (List.mem_cons_of_mem _ hw)]
    split
    · have : x ≠ n := by rintro rfl; exact h v List.mem_cons_self
      simp [this]
    · rfl
theorem bindC_out {kindOf : Str → Option NameKind} {x : Str} : ∀ {binds : List (Str × Value)} {m : Str → Option Value}, (∀ v, (x, v) ∉ binds) → bindC kindOf binds m x = m x
  | [], _, _ => rfl
  | (n, v) :: r, m, h => by
    unfold bindC
    rw [bindC_out fun w hw => h w (List.mem_cons_of_mem _ hw)]
    split
    · rfl
    · have : x ≠ n := by rintro rfl; exact h v List.mem_cons_self
      simp [this]
theorem bindL_get {kindOf : Str → Option NameKind} {x : Str} {v : Value} : ∀ {P : List Str} {vs : List Value} {i : Nat} {m : Str → Option Value}, P.Nodup → P[i]? = some x → vs[i]? = some v → kindOf x = some .local →
    bindL kindOf (P.zip vs) m x = some v
  | [], _, _, _, _, h, _, _ => by simp at h
  | _ :: _, [], _, _, _, _, h, _ => by simp at h
  | p :: P, w :: vs, 0, m, nd, h1, h2, hk => by
    simp at h1 h2; subst h1; subst h2
    show bindL kindOf ((p, w) :: P.zip vs) m p = _
    unfold bindL
    rw [bindL_out fun v hv => (List.nodup_cons.mp nd).1 (List.of_mem_zip hv).1, if_pos hk]
    simp
  | p :: P, w :: vs, i + 1, m, nd, h1, h2, hk => by
    show bindL kindOf ((p, w) :: P.zip vs) m x = _
    unfold bindL
    exact bindL_get (i := i) (List.nodup_cons.mp nd).2 (by simpa using h1) (by simpa using h2) hk
theorem bindC_get {kindOf : Str → Option NameKind} {x : Str} {v : Value} : ∀ {P : List Str} {vs : List Value} {i : Nat} {m : Str → Option Value}, P.Nodup → P[i]? = some x → vs[i]? = some v → kindOf x ≠ some .local →
    bindC kindOf (P.zip vs) m x = some v
  | [], _, _, _, _, h, _, _ => by simp at h
  | _ :: _, [], _, _, _, _, h, _ => by simp at h
  | p :: P, w :: vs, 0, m, nd, h1, h2, hk => by
    simp at h1 h2; subst h1; subst h2
    show bindC kindOf ((p, w) :: P.zip vs) m p = _
    unfold bindC
    rw [bindC_out fun v hv => (List.nodup_cons.mp nd).1 (List.of_mem_zip hv).1, if_neg hk]
    simp
  | p :: P, w :: vs, i + 1, m, nd, h1, h2, hk => by
    show bindC kindOf ((p, w) :: P.zip vs) m x = _
    unfold bindC
    exact bindC_get (i := i) (List.nodup_cons.mp nd).2 (by simpa using h1) (by simpa using h2) hk
def start (N : List Str) (vs : List V) : St := vs.map some ++ List.replicate (N.length - vs.length) none
def cxOf (CX : CXT) (P : Program) (w : World) (K : PySem.W.Frag) (mg : Str → Option Value) (base : Heap) (N : List Str) (qual : Str) (scope : Scope) (f : Addr) (cd : Value) (A : Around) (outer : List Env) (s : Shared) (H : Hp) (E : XK) : Cx where
  prog := P
  w := w
  K := K
  mg := mg
  base := base
  A := A.deeper (envOfC qual scope s.heap.objs.size f cd)
  N := N
  s₀ := s
  H₀ := H
  env := envOfC qual scope s.heap.objs.size f cd
  outer := outer
  stack := envOfC qual scope s.heap.objs.size f cd :: outer
  ex := []
  calm := true
  fn := fun _ => true
  pn := []
  xe := fun e s' => wpAny (model P w) (A.deeper (envOfC qual scope s.heap.objs.size f cd)) (leaving (envOfC qual scope s.heap.objs.size f cd) e) (fun _ s'' => CX outer H s E e s'') (fun e' s'' => CX outer H s E e' s'') s'
theorem cell_has {sc : Scope} {n : Nat} {x : Str} (h : sc.names.lookup x = some .cell) : ∃ c, (cellsFrom n sc.names []).lookup x = some c := by
  have q := PySem.W.cellsFrom_some sc.names n [] (.inl h)
  exact Option.isSome_iff_exists.mp q
theorem inv_start {CX : CXT} {P : Program} {w : World} {K : PySem.W.Frag} {mg : Str → Option Value} {base : Heap} {N ps : List Str} {qual : Str} {scope : Scope} {f : Addr} {cd : Value} {A : Around} {outer : List Env} {s s1 : Shared} {H : Hp} {E : XK} {us : List Value} {vs : List V}
    (S : FnScope N ps scope) (hd : A.handled = none) (e0 : Env0 P w K mg base A outer s H) (hl : vs.length = ps.length) (r : Vals vs us)
    (x : InCallC s s.heap.objs.size (bindL (envOfC qual scope s.heap.objs.size f cd).kindOf (ps.zip us) fun _ => none) (cellsFrom (s.heap.objs.size + 1) scope.names []) (bindC (envOfC qual scope s.heap.objs.size f cd).kindOf (ps.zip us) fun _ => none) s1) :
    Inv (cxOf CX P w K mg base N qual scope f cd A outer s H E) [] (start N vs) H s1 := by
  have hpl : ps.length ≤ N.length := by have := congrArg List.length S.pre; rw [List.length_take] at this; omega
  obtain ⟨h1, tk, rfl, hk⟩ := x.done
  have noA : ∀ b : Addr, b ∉ (cxOf CX P w K mg base N qual scope f cd A outer s H E).ex := fun b z => absurd (show b ∈ ([] : List Addr) from z) (by simp)
  refine ⟨⟨e0.mod, S.kind, rfl, rfl, Nat.le_refl _, fun y z c h1 h2 => ?_, fun y hy => ?_, fun y c _ h => ?_, fun _ => hd, Around.frames_deeper e0.frames, .inr ⟨rfl, rfl⟩, fun b z => absurd z (noA b), e0.bs, e0.bsz, fun b _ _ => noA b, fun b z => absurd z (noA b), e0.funs, e0.frf⟩,
    rfl, e0.bare, Un.kept hk, ⟨_, x.toInCall.ns, fun i y v h1 h2 h3 => ?_⟩, fun y c h => ⟨_, x.cell y c h⟩, e0.hok.fresh (Nat.le_refl _), fun y c h => ?_, fun p hp => absurd (show p ∈ ([] : List (Addr × Obj)) from hp) (by simp), e0.hok.kept hk, ?_⟩
  · exact name_of_addr x.apart (PySem.mem_of_lookup h1) (PySem.mem_of_lookup h2)
  · have hy : scope.names.lookup y = some .cell ∨ scope.names.lookup y = some .free := hy
    rcases hy with hy | hy
    · exact cell_has hy
    · exact absurd rfl (S.nofree _ (PySem.mem_of_lookup hy))
  · exact Nat.le_of_lt (x.above y c (PySem.mem_of_lookup h))
  · have hi : i < vs.length := by
      unfold start at h2
      by_cases hi : i < vs.length
      · exact hi
      · rw [List.getElem?_append_right (by simpa using hi)] at h2
        rw [List.getElem?_replicate] at h2
        split at h2 <;> cases h2
    have ha : vs[i]? = some v := by
      unfold start at h2
      rw [List.getElem?_append_left (by simpa using hi), List.getElem?_map] at h2
      cases e : vs[i]? with
      | none => rw [e] at h2; cases h2
      | some a => rw [e] at h2; cases h2; rfl
    obtain ⟨u, hu, rv⟩ := r.get ha
    have hp : ps[i]? = some y := by
      rw [← S.pre, List.getElem?_take_of_lt (by omega)]; exact h1
    have ndP : ps.Nodup := by rw [← S.pre]; exact S.nd.sublist (List.take_sublist _ _)
    refine ⟨u, rv, ?_⟩
    rcases S.par y (List.mem_of_getElem? hp) with k | k
    · exact .inl ⟨k, bindL_get ndP hp hu k⟩
    · obtain ⟨c, e⟩ := cell_has (n := s.heap.objs.size + 1) k
      refine .inr ⟨.inl k, c, e, ?_⟩
      have q := x.cell y c e
      rw [bindC_get ndP hp hu (by show scope.names.lookup y ≠ _; rw [k]; decide)] at q
      exact q
  · exact e0.hok.fresh (Nat.le_of_lt (x.above y c (PySem.mem_of_lookup h)))
  · unfold start
    show _ = N.length
    rw [List.length_append, List.length_map, List.length_replicate]
    omega
theorem fn_of {CX : CXT} {P : Program} {w : World} {K : PySem.W.Frag} {mg : Str → Option Value} {base : Heap} {k : Nat} {f : Addr} {name qual : Str} {params : Arguments} {body : List Stmt} {scope : Scope} {dV kV doc pm cdv ct oc : Value} {an od : Option Addr}
    {osl : Array (Option Value)} {N ps : List Str} {sp : Sp} (lk : K.lookup f = some ⟨oc, od, .func (PySem.W.fnOf name qual params body scope dV kV doc pm an cdv ct), osl⟩) (hcd : PySem.W.codeIn K cdv qual = true) (S : FnScope N ps scope)
    (len : ∀ vs H Q E, sp vs H Q E → vs.length = ps.length)
    (hbody : ∀ (A : Around) (outer : List Env) (s : Shared) (H : Hp) (vs : List V) (Q : VK) (E : XK), Room k (A.deeper (envOfC qual scope s.heap.objs.size f cdv)) → sp vs H Q E →
      ∃ t, PSs (cxOf CX P w K mg base N qual scope f cdv A outer s H E) body t ∧ t { nx := fun _ H' => Q .non H', rt := Q } (start N vs) H) :
    FnOk P w K mg base CX (k + 1) f (PySem.W.fnOf name qual params body scope dV kV doc pm an cdv ct) ps sp := by
  refine ⟨len, fun A outer s H args us vs Q E hr e0 hb r hsp => ?_⟩
  have hl := len _ _ _ _ hsp
  have KX : K.In s.heap := e0.mod.kin.keeps fun b o e => (e0.bs b o e).1
  have lim : s.heap.NoLimit := e0.mod.nolimit.keeps fun b o e => (e0.bs b o e).1
  have hkind : ∀ y ∈ ps.zip us, scope.names.lookup y.1 = some .local ∨ (scope.names.lookup y.1 = some .cell ∧ ((cellsFrom (s.heap.objs.size + 1) scope.names []).lookup y.1).isSome = true) := fun ⟨n, v⟩ hy => by
    rcases S.par n (List.of_mem_zip hy).1 with q | q
    · exact .inl q
    · exact .inr ⟨q, PySem.W.cellsFrom_some _ _ _ (.inl q)⟩
  refine codeAny_call_function hr.depth (KX _ _ lk) rfl S.co S.gen rfl (PySem.W.codeRec_of KX hcd) (hb _ _ _ _ ?_)
  refine wpAny_newFunctionEnv_cells S.kind hkind fun env he s1 x => ?_
  subst he
  refine ⟨lim.keeps x.toInCall.keep, codeAny_func ?_⟩
  obtain ⟨t, ht, hq⟩ := hbody A outer s H vs Q E (hr.deeper _) hsp
  have I : Inv (cxOf CX P w K mg base N qual scope f cdv A outer s H E) [] (start N vs) H s1 := inv_start S hr.hd e0 hl r x
  refine wpAny_mono (ht [] s1 (start N vs) H _ I hq) (fun fl s' hs => ?_) fun e s' hs => hs
  have fin : ∀ {σ' : St} {H' : Hp} {v : V} {u : Value}, Inv (cxOf CX P w K mg base N qual scope f cdv A outer s H E) [] σ' H' s' → RelV v u → Q v H' → CE outer P w H s Q u s' :=
    fun {σ' H' v u} J rv q => ⟨v, H', J.os, J.bare, J.base, J.hok, rv, q⟩
  cases fl with
  | ret u =>
    obtain ⟨v, σ', H', J, rv, q⟩ := hs
    exact fin J rv q
  | next =>
    obtain ⟨σ', H', J, q⟩ := hs
    exact fin (v := V.non) (u := Value.none) J rfl q
  | brk =>
    obtain ⟨_, _, _, q⟩ := hs
    exact False.elim q
  | cont =>
    obtain ⟨_, _, _, q⟩ := hs
    exact False.elim q
end L2
namespace L2
open PySem PySem.Spec PyProof.Rows
section
variable {X : Cx} {x : Str} {p pos : Pos} {e : Expr} {es : List Expr} {t : TA} {id T : String} {r : List V → Hp → VK → Prop}
def tCB (r : List V → Hp → VK → Prop) (t : TA) : TE := fun σ H Q => t σ H fun vs H1 => r vs H1 Q
theorem pe_callB (hc : CallR X (.builtin id) r) (hg : Gl X x) (hm : X.mg x = none) (hv : bootBuiltins x = some (.builtin id)) (ha : PA X (e :: es) t) (hn : x ≠ "__name__" := by decide) (hdb : (x == ("__debug__" : Str)) = false := by decide)
    (he : starEach (e :: es) X.env = (false, eval e X.env) :: starEach es X.env := by rfl) (hpl : (backTo pos (starEach es X.env)).any (·.1) = false := by rfl) : PE X (.Call (.Name x p) (e :: es) [] pos) (tCB r t) := by
  intro pins s σ H Q I h
  refine wpAny_Call_Name_kw (ld_blt I hg hm hv ?_ hn hdb)
  exact PyProof.Rows.callWith_builtin1 (thn (ha pos pins s σ H _ I h) fun us s1 ⟨vs, H1, I1, r1, q1⟩ => hc pins s1 σ H1 vs us Q I1 r1 q1) he hpl
theorem pe_callTy (hc : CallR X (.type T) r) (hg : Gl X x) (hm : X.mg x = none) (hv : bootBuiltins x = some (.type T)) (ha : PA X (e :: es) t) (hn : x ≠ "__name__" := by decide) (hdb : (x == ("__debug__" : Str)) = false := by decide)
    (he : starEach (e :: es) X.env = (false, eval e X.env) :: starEach es X.env := by rfl) (hpl : (backTo pos (starEach es X.env)).any (·.1) = false := by rfl) : PE X (.Call (.Name x p) (e :: es) [] pos) (tCB r t) := by
  intro pins s σ H Q I h
  refine wpAny_Call_Name_kw (ld_blt I hg hm hv ?_ hn hdb)
  exact PyProof.Rows.callWith_type1 (thn (ha pos pins s σ H _ I h) fun us s1 ⟨vs, H1, I1, r1, q1⟩ => hc pins s1 σ H1 vs us Q I1 r1 q1) he hpl
end
end L2
namespace HT
open PySem PyProof.Rows
def lexLt : List Int → List Int → Bool
  | [], [] => false
  | [], _ :: _ => true
  | _ :: _, [] => false
  | x :: xs, y :: ys => if x = y then lexLt xs ys else decide (x < y)
section
open PySem.SeqAt
open PySem.AutoSeq1 (wpAny_loadPart')
open PySem.MeetsSeq PySem.MeetsSeq2 PySem.MeetsSeq3
end
section
variable {prog : Program} {w : World} {A : Around} {E : Value → Shared → Prop} {s : Shared}
theorem cat_tup {t b : Addr} {vs ws : List Value} {Q : Value → Shared → Prop} (ht : IsTup s.heap t vs.toArray) (hb : IsTup s.heap b ws.toArray) (hv : vs ≠ [])
    (h1 : ws = [] → Q (.ref t) s) (h2 : ws ≠ [] → Q (.ref s.heap.objs.size) { s with heap := s.heap.push { cls := .type "tuple", data := .seq (vs ++ ws).toArray } })
    (hsz : vs.length + ws.length ≤ sizeLine) : wpAny (model prog w) A (binaryOp .Add (.ref t) (.ref b)) Q E s := by
  obtain ⟨⟨cls, dd, data, sl⟩, ho, hc, n, hd⟩ := id ht
  obtain ⟨⟨cls2, dd2, data2, sl2⟩, ho2, hc2, n2, hd2⟩ := id hb
  simp only at hc hd hc2 hd2
  subst hc hd hc2 hd2
  have e : vs.toArray ++ ws.toArray = (vs ++ ws).toArray := by simp
  by_cases hw : ws = []
  · exact concat_meets ⟨_, ho, rfl⟩ ⟨_, ho2, rfl⟩ noFill_tuple_add seq_tuple_add PySem.F.slot_tuple_add PySem.F.entry_tuple_add (PySem.F.args_tuple_add_2 _ _)
      (tuple_addW1 t b vs.toArray ws.toArray n n2 dd dd2 sl sl2 (by simpa using hv) (by simp [hw])) ⟨ho, ho2, h1 hw⟩
  · refine concat_meets ⟨_, ho, rfl⟩ ⟨_, ho2, rfl⟩ noFill_tuple_add seq_tuple_add PySem.F.slot_tuple_add PySem.F.entry_tuple_add (PySem.F.args_tuple_add_2 _ _)
      (tuple_addW2 t b vs.toArray ws.toArray n n2 dd dd2 sl sl2 (by simpa using hv) (by simpa using hw) (by rw [List.size_toArray, List.size_toArray]; exact hsz)) ⟨ho, ho2, ?_⟩
    rw [e]
    exact h2 hw
def sIx (n d : Nat) : Option Int → Nat
  | none => d
  | some v => if v < 0 then (v + (n : Int)).toNat else min v.toNat n
theorem sIx_le (n d : Nat) (hd : d ≤ n) (o : Option Int) : sIx n d o ≤ n := by
  cases o with
  | none => exact hd
  | some v =>
    show (if v < 0 then (v + (n : Int)).toNat else min v.toNat n) ≤ n
    by_cases hv : v < 0
    · rw [if_pos hv]; omega
    · rw [if_neg hv]; exact Nat.min_le_right _ _
theorem clip_eq (v : Int) (n d : Nat) : (if v < 0 then max (v + (n : Int)) 0 else min v (n : Int)) = ((sIx n d (some v) : Nat) : Int) := by
  show (if v < 0 then max (v + (n : Int)) 0 else min v (n : Int)) = (((if v < 0 then (v + (n : Int)).toNat else min v.toNat n) : Nat) : Int)
  by_cases hv : v < 0
  · simp only [if_pos hv]; omega
  · simp only [if_neg hv]; omega
theorem adjust_gen (lo hi : Option Int) (n : Nat) : Builtin.Slice.sliceAdjust lo hi 1 (n : Int) = (((sIx n 0 lo : Nat) : Int), ((sIx n n hi : Nat) : Int)) := by
  have h1 : ¬ ((1 : Int) < 0) := by omega
  unfold Builtin.Slice.sliceAdjust
  simp only [h1, if_false]
  refine Prod.ext ?_ ?_
  · cases lo with
    | none => rfl
    | some v => exact clip_eq v n 0
  · cases hi with
    | none => rfl
    | some v => exact clip_eq v n n
theorem places_gen (i j : Nat) : Builtin.Slice.slicePlaces (i : Int) (j : Int) 1 = j - i := by
  unfold Builtin.Slice.slicePlaces
  have h1 : (1 : Int) > 0 := by omega
  simp only [h1, if_true, Int.ediv_one]
  split <;> omega
theorem slicePart_ {v : Value} {o : Option Int} {Q : Option Int → Shared → Prop} (p : IsPart v o) (h : Q o s) : wpAny (model prog w) A (Builtin.Slice.slicePartIndex v) Q E s := by
  cases p with
  | none => exact slicePart_none h
  | int i t => exact slicePart_int h
theorem sliceApplied_gen {sl : Addr} {vl vu : Value} {lo hi : Option Int} {n : Nat} {Q : Int × Int × Nat → Shared → Prop} (hs : s.heap.IsSliceOf sl vl vu .none) (pl : IsPart vl lo) (pu : IsPart vu hi)
    (h : Q (((sIx n 0 lo : Nat) : Int), 1, sIx n n hi - sIx n 0 lo) s) : wpAny (model prog w) A (Builtin.Slice.sliceApplied (.ref sl) (pure (n : Int))) Q E s := by
  obtain ⟨os, hos, hcs, hds⟩ := id hs
  unfold Builtin.Slice.sliceApplied Builtin.Slice.sliceFields
  refine wpAny_bind (wpAny_bind (wpAny_field hos hds (x := vl) rfl (wpAny_bind (wpAny_field hos hds (x := vu) rfl (wpAny_bind (wpAny_field hos hds (x := .none) rfl (wpAny_pure ?_)))))))
  refine wpAny_bind (slicePart_none ?_)
  show wpAny _ _ (if ((1 : Int) == 0) = true then _ else _) _ _ s
  rw [if_neg (by decide)]
  refine wpAny_bind (slicePart_ pl (wpAny_bind (slicePart_ pu (wpAny_bind (wpAny_pure ?_)))))
  show wpAny _ _ (match Builtin.Slice.sliceAdjust lo hi 1 (n : Int) with | (lo, hi) => pure (lo, (1 : Int), Builtin.Slice.slicePlaces lo hi 1)) _ _ s
  rw [adjust_gen lo hi n]
  show wpAny _ _ (pure (((sIx n 0 lo : Nat) : Int), (1 : Int), Builtin.Slice.slicePlaces ((sIx n 0 lo : Nat) : Int) ((sIx n n hi : Nat) : Int) 1)) _ _ s
  rw [places_gen]
  exact wpAny_pure h
theorem pick_gen (xs : Array Value) (i k : Nat) : ((List.range k).filterMap fun (m : Nat) => xs[((i : Int) + (m : Int) * 1).toNat]?).toArray = ((xs.toList.drop i).take k).toArray := by
  have e : (fun (m : Nat) => xs[((i : Int) + (m : Int) * 1).toNat]?) = fun m => xs[i + m]? := by
    funext m
    have : ((i : Int) + (m : Int) * 1).toNat = i + m := by omega
    rw [this]
  rw [e]
  have := pick_run xs i k
  rw [List.filterMap_map] at this
  have e2 : ((fun x => xs[x]?) ∘ fun x => i + x) = fun m => xs[i + m]? := rfl
  rw [e2] at this
  rw [this]
theorem getItem_tuple_cut {t sl : Addr} {items : Array Value} {vl vu : Value} {lo hi : Option Int} {Q : Value → Shared → Prop} (ht : IsTup s.heap t items) (hs : s.heap.IsSliceOf sl vl vu .none) (pl : IsPart vl lo) (pu : IsPart vu hi)
    (hw : ¬ (sIx items.size 0 lo = 0 ∧ sIx items.size items.size hi = items.size))
    (h : Q (.ref s.heap.objs.size) { s with heap := s.heap.push { cls := .type "tuple", data := .seq ((items.toList.drop (sIx items.size 0 lo)).take (sIx items.size items.size hi - sIx items.size 0 lo)).toArray } })
    (hsz : items.size ≤ sizeLine) : wpAny (model prog w) A (getItem (.ref t) (.ref sl)) Q E s := by
  have htake : sizeOk (.seq ((items.toList.drop (sIx items.size 0 lo)).take (sIx items.size items.size hi - sIx items.size 0 lo)).toArray) := by
    show ((items.toList.drop (sIx items.size 0 lo)).take (sIx items.size items.size hi - sIx items.size 0 lo)).toArray.size ≤ sizeLine
    rw [List.size_toArray, List.length_take, List.length_drop, Array.length_toList]
    omega
  have hj : sIx items.size items.size hi ≤ items.size := sIx_le _ _ (Nat.le_refl _) hi
  obtain ⟨os, hos, hcs, hds⟩ := id hs
  have hTs : s.TypeIs (.ref sl) "slice" := ⟨os, hos, hcs⟩
  unfold getItem
  try with_reducible refine wpAny_holding ?_
  first | refine wpAny_bind (wpAny_pure ?_) | skip
  refine wpAny_bind (wpAny_sequenceKey ht.typeIs (by decide) ?_)
  refine wpAny_bind (wpAny_callSpecial?_slot (name := Str.ofString "__getitem__") ht.typeIs PyProof.Rows.slot_tuple_getitem
    (wpAny_call_entry PyProof.Rows.slot_tuple_getitem ht.typeIs entry_tuple_getitem ?_ (args_tuple_getitem _ _)))
  show wpAny _ _ (Builtin.Tuple.tupleItemsOf (.ref t) >>= _) _ _ s
  refine wpAny_bind (tupleItemsOf_ ht ?_)
  refine wpAny_bind (wpAny_typeOf hTs ?_)
  rw [if_pos (by decide)]
  refine wpAny_bind (sliceApplied_gen hs pl pu ?_)
  have hno : ¬ ((((sIx items.size 0 lo : Nat) : Int) == 0 && (1 : Int) == 1 && (sIx items.size items.size hi - sIx items.size 0 lo) == items.size) = true) := by
    intro q
    rw [Bool.and_eq_true, Bool.and_eq_true] at q
    have q1 : ((sIx items.size 0 lo : Nat) : Int) = 0 := eq_of_beq q.1.1
    have q2 : sIx items.size items.size hi - sIx items.size 0 lo = items.size := eq_of_beq q.2
    exact hw ⟨by omega, by omega⟩
  show wpAny _ _ (if (((sIx items.size 0 lo : Nat) : Int) == 0 && (1 : Int) == 1 && (sIx items.size items.size hi - sIx items.size 0 lo) == items.size) = true then _ else _) _ _ s
  rw [if_neg hno, pick_gen]
  first
    | exact wpAny_bind (m := Builtin.Tuple.tupleExact _) (wpAny_newObj_type (wpAny_pure ⟨_, rfl, wpAny_pure h⟩) htake)
    | exact wpAny_bind (m := Builtin.Tuple.tupleExact _) (wpAny_newObj_type (wpAny_bind (wpAny_pure (wpAny_pure ⟨_, rfl, wpAny_pure h⟩))) htake)
    | exact wpAny_bind (wpAny_bind (m := Builtin.Tuple.tupleExact _) (wpAny_newObj_type (wpAny_pure (wpAny_pure ⟨_, rfl, wpAny_pure h⟩)) htake))
    | exact wpAny_bind (wpAny_bind (m := Builtin.Tuple.tupleExact _) (wpAny_newObj_type (wpAny_pure ⟨_, rfl, wpAny_pure h⟩) htake))
end
end HT
namespace L2
open PySem PySem.Spec PyProof.Rows
abbrev TO := St → Hp → (Option Int → Hp → Prop) → Prop
def PO (X : Cx) (e : Option Expr) (t : TO) : Prop :=
  ∀ (pins : List (Addr × Obj)) (s : Shared) (σ : St) (H : Hp) (Q : Option Int → Hp → Prop), Inv X pins σ H s → t σ H Q →
    wpAny (model X.prog X.w) X.A (evalPart e X.env) (fun u s' => ∃ o H', Inv X pins σ H' s' ∧ IsPart u o ∧ Q o H') X.xe s
def tNoPart : TO := fun _ H Q => Q none H
def tPart (t : TE) : TO := fun σ H Q => t σ H fun x H1 => ∃ i, x = .int i ∧ Q (some i) H1
section
variable {X : Cx} {e : Expr} {te : TE} {lo hi : Option Expr} {tl th : TO} {pos p2 : Pos}
theorem po_none : PO X none tNoPart := by
  intro pins s σ H Q I h
  rw [evalPart_none]
  exact wpAny_pure ⟨none, H, I, .none, h⟩
theorem po_some (h : PE X e te) : PO X (some e) (tPart te) := by
  intro pins s σ H Q I hw
  rw [evalPart_some]
  refine thn (h pins s σ H _ I hw) fun u s1 ⟨x, H1, I1, r1, q1⟩ => ?_
  obtain ⟨i, rfl, q⟩ := q1
  obtain ⟨t, rfl⟩ := r1
  exact ⟨some i, H1, I1, .int i t, q⟩
def SlR (X : Cx) (r : V → Option Int → Option Int → Hp → VK → Prop) : Prop :=
  ∀ (pins : List (Addr × Obj)) (s : Shared) (σ : St) (H : Hp) (x : V) (v vl vu : Value) (lo hi : Option Int) (sl : Addr) (Q : VK), Inv X pins σ H s → RelV x v → s.heap.IsSliceOf sl vl vu .none → IsPart vl lo → IsPart vu hi → r x lo hi H Q →
    ∃ T id, typeLookup (.type T) "__getitem__" = pure (some (.builtin id)) ∧ s.TypeIs v T ∧ wpAny (model X.prog X.w) X.A (getItem v (.ref sl)) (EP X pins σ Q) X.xe s
theorem SlR.or {r r' : V → Option Int → Option Int → Hp → VK → Prop} (h : SlR X r) (h' : SlR X r') : SlR X (fun x lo hi H Q => r x lo hi H Q ∨ r' x lo hi H Q) := by
  intro pins s σ H x v vl vu lo hi sl Q I rx hs pl pu q
  rcases q with q | q
  · exact h pins s σ H x v vl vu lo hi sl Q I rx hs pl pu q
  · exact h' pins s σ H x v vl vu lo hi sl Q I rx hs pl pu q
def tSl (r : V → Option Int → Option Int → Hp → VK → Prop) (te : TE) (tl th : TO) : TE := fun σ H Q => te σ H fun x H1 => tl σ H1 fun l H2 => th σ H2 fun u H3 => r x l u H3 Q
theorem pe_slice {r : V → Option Int → Option Int → Hp → VK → Prop} (hr : SlR X r) (he : PE X e te) (hl : PO X lo tl) (hu : PO X hi th) : PE X (.Subscript e (.Slice lo hi none p2) pos) (tSl r te tl th) := by
  intro pins s σ H Q I h
  refine Subscript_ (thn (he pins s σ H _ I h) fun v s1 ⟨x, H1, I1, r1, q1⟩ => ?_)
  refine wpAny_Slice (thn (hl pins s1 σ H1 _ I1 q1) fun vl s2 ⟨l, H2, I2, pl, q2⟩ => thn (hu pins s2 σ H2 _ I2 q2) fun vu s3 ⟨u, H3, I3, pu, q3⟩ => ?_)
  rw [evalPart_none]
  refine wpAny_pure ?_
  have I4 : Inv X pins σ H3 { s3 with heap := s3.heap.push { cls := .type "slice", data := .fields #[vl, vu, .none] } } := I3.kept (t' := s3.toks) fun b ob q => Heap.get?_push_of_some _ q
  obtain ⟨T, id, hT, ht, hg⟩ := hr pins { s3 with heap := s3.heap.push { cls := .type "slice", data := .fields #[vl, vu, .none] } } σ H3 x v vl vu l u s3.heap.objs.size Q I4 r1 (Heap.IsSliceOf.new ..) pl pu q3
  show wpAny (model X.prog X.w) X.A (subscriptTail e (.Slice lo hi none p2) v (.ref s3.heap.objs.size)) (EP X pins σ Q) X.xe { s3 with heap := s3.heap.push { cls := .type "slice", data := .fields #[vl, vu, .none] } }
  exact tail_any (ops := [.ref s3.heap.objs.size, v]) ht hT hg (by with_unfolding_all rfl)
def cutV (xs : List V) (lo hi : Option Int) : List V := (xs.drop (HT.sIx xs.length 0 lo)).take (HT.sIx xs.length xs.length hi - HT.sIx xs.length 0 lo)
theorem cutV_length (xs : List V) (lo hi : Option Int) : (cutV xs lo hi).length ≤ xs.length := by
  unfold cutV
  rw [List.length_take, List.length_drop]
  omega
def rSlT (K : PySem.W.Frag) : V → Option Int → Option Int → Hp → VK → Prop := fun x lo hi H Q => ∃ a xs, x = .ref a ∧ SqT K H a xs ∧
  ¬ (HT.sIx xs.length 0 lo = 0 ∧ HT.sIx xs.length xs.length hi = xs.length) ∧ ∀ p, H p = none → Q (.ref p) (upd H p (.tup (cutV xs lo hi)))
theorem sl_tup : SlR X (rSlT X.K) := by
  intro pins s σ H x v vl vu lo hi sl Q I rx hs pl pu h
  obtain ⟨a, xs, rfl, hx, hw, q⟩ := h
  cases rx
  obtain ⟨its, r, ht, hz⟩ := I.tuple hx
  have hlen : its.toArray.size = xs.length := by rw [List.size_toArray]; exact r.length.symm
  refine ⟨"tuple", _, PyProof.Rows.slot_tuple_getitem.lookup, ht.typeIs, ?_⟩
  refine HT.getItem_tuple_cut ht hs pl pu (by rw [hlen]; exact hw) ?_ (by rw [hlen]; exact hz)
  rw [hlen]
  refine ⟨.ref s.heap.objs.size, _, I.laid (t' := s.toks) (o := .tup (cutV xs lo hi)) (fun b ob q => Heap.get?_push_of_some _ q) (Nat.le_refl _) ?_, rfl, q _ (I.hok.fresh (Nat.le_refl _))⟩
  exact ⟨Nat.le_trans (cutV_length xs lo hi) hz, _, (r.drop (HT.sIx xs.length 0 lo)).take (HT.sIx xs.length xs.length hi - HT.sIx xs.length 0 lo), IsTup.new _ _⟩
def rLtT (K : PySem.W.Frag) : R2 := fun x y H Q => ∃ a b ns ms, x = .ref a ∧ y = .ref b ∧ SqT K H a (ns.map V.int) ∧ SqT K H b (ms.map V.int) ∧ Q (.bl (HT.lexLt ns ms)) H
def rCatT (K : PySem.W.Frag) : R2 := fun x y H Q => ∃ a b xs ys, x = .ref a ∧ y = .ref b ∧ SqT K H a xs ∧ SqT K H b ys ∧ xs ≠ [] ∧ xs.length + ys.length ≤ sizeLine ∧
  (ys = [] → Q (.ref a) H) ∧ (ys ≠ [] → ∀ p, H p = none → Q (.ref p) (upd H p (.tup (xs ++ ys))))
theorem Vals.nil_iff {xs : List V} {us : List Value} (r : Vals xs us) : us = [] ↔ xs = [] := by
  cases r with
  | nil => simp
  | cons _ _ => simp
theorem op_catT : OpR X (binaryOp .Add) (rCatT X.K) := by
  intro pins s σ H x y v u Q I rx ry h
  obtain ⟨a, b, xs, ys, rfl, rfl, ha, hb, hx, hz, q1, q2⟩ := h
  cases rx
  cases ry
  obtain ⟨its, r1, p1, _⟩ := I.tuple ha
  obtain ⟨its2, r2, p2, _⟩ := I.tuple hb
  refine HT.cat_tup p1 p2 (fun z => hx (r1.nil_iff.mp z)) (fun z => ⟨.ref a, H, I, rfl, q1 (r2.nil_iff.mp z)⟩) (fun z => ?_) (by rw [← r1.length, ← r2.length]; exact hz)
  refine ⟨.ref s.heap.objs.size, _, I.laid (t' := s.toks) (o := .tup (xs ++ ys)) (fun b ob q => Heap.get?_push_of_some _ q) (Nat.le_refl _) ?_, rfl, q2 (fun w => z (r2.nil_iff.mpr w)) _ (I.hok.fresh (Nat.le_refl _))⟩
  exact ⟨by rw [List.length_append]; exact hz, _, r1.append r2, IsTup.new _ _⟩
end
end L2
namespace L2
open PySem PySem.Spec PyProof.Rows
def ixN (n : Nat) (i : Int) : Option Nat := if 0 ≤ i then (if i < n then some i.toNat else none) else if -(n : Int) ≤ i then some (i + n).toNat else none
def atI {α : Type} (xs : List α) (i : Int) : Option α := (ixN xs.length i).bind fun j => xs[j]?
theorem ixN_seq {n : Nat} {i : Int} {j : Nat} (h : ixN n i = some j) : seqIndex? i n = some j ∧ j < n ∧ -(n : Int) ≤ i ∧ i < n := by
  unfold ixN at h
  by_cases h0 : 0 ≤ i
  · rw [if_pos h0] at h
    by_cases h1 : i < n
    · rw [if_pos h1] at h
      have e : i.toNat = j := Option.some.inj h
      exact ⟨by rw [seqIndex_of h0 h1, e], by omega, by omega, h1⟩
    · rw [if_neg h1] at h; cases h
  · rw [if_neg h0] at h
    by_cases h1 : -(n : Int) ≤ i
    · rw [if_pos h1] at h
      have e : (i + n).toNat = j := Option.some.inj h
      exact ⟨by rw [seqIndex_neg (by omega) h1, e], by omega, h1, by omega⟩
    · rw [if_neg h1] at h; cases h
theorem atI_get {α : Type} {xs : List α} {i : Int} {v : α} (h : atI xs i = some v) : ∃ j, seqIndex? i xs.length = some j ∧ xs[j]? = some v ∧ j < xs.length ∧ -(xs.length : Int) ≤ i ∧ i < xs.length := by
  unfold atI at h
  cases e : ixN xs.length i with
  | none => rw [e] at h; cases h
  | some j =>
    rw [e] at h
    obtain ⟨h1, h2, h3, h4⟩ := ixN_seq e
    exact ⟨j, h1, h, h2, h3, h4⟩
theorem atI_nat {α : Type} {xs : List α} {j : Nat} {v : α} (h : xs[j]? = some v) : atI xs (j : Int) = some v := by
  have hj : j < xs.length := (List.getElem?_eq_some_iff.mp h).1
  have e : ixN xs.length (j : Int) = some j := by
    unfold ixN
    rw [if_pos (by omega), if_pos (by omega)]; simp
  unfold atI; rw [e]; exact h
def PlainIx (b : Expr) : Prop := ∀ o i, subscripted b false o i = operate [o, i] (getItem o i)
def IxR (X : Cx) (r : R2) : Prop :=
  ∀ (value slice : Expr) (pins : List (Addr × Obj)) (s : Shared) (σ : St) (H : Hp) (x y : V) (v u : Value) (Q : VK), Inv X pins σ H s → RelV x v → RelV y u → r x y H Q →
    subscripted slice false v u = operate [v, u] (getItem v u) → wpAny (model X.prog X.w) X.A (subscriptTail value slice v u) (EP X pins σ Q) X.xe s
def MtR (X : Cx) (id : String) (r : V → List V → Hp → VK → Prop) : Prop :=
  ∀ (pins : List (Addr × Obj)) (s : Shared) (σ : St) (H : Hp) (x : V) (xs : List V) (v : Value) (us : List Value) (Q : VK), Inv X pins σ H s → RelV x v → Vals xs us → r x xs H Q →
    wpAny (model X.prog X.w) X.A (call (.builtin id) (v :: us)) (EP X pins σ Q) X.xe s
section
variable {X : Cx} {a b : Expr} {ta tb : TE} {pos : Pos}
theorem IxR.or {r r' : R2} (h : IxR X r) (h' : IxR X r') : IxR X (fun x y H Q => r x y H Q ∨ r' x y H Q) := by
  intro value slice pins s σ H x y v u Q I rx ry q hs
  rcases q with q | q
  · exact h value slice pins s σ H x y v u Q I rx ry q hs
  · exact h' value slice pins s σ H x y v u Q I rx ry q hs
theorem MtR.or {id : String} {r r' : V → List V → Hp → VK → Prop} (h : MtR X id r) (h' : MtR X id r') : MtR X id (fun x xs H Q => r x xs H Q ∨ r' x xs H Q) := by
  intro pins s σ H x xs v us Q I rx rs q
  rcases q with q | q
  · exact h pins s σ H x xs v us Q I rx rs q
  · exact h' pins s σ H x xs v us Q I rx rs q
theorem pe_ix {r : R2} (hr : IxR X r) (ha : PE X a ta) (hb : PE X b tb) (hs : PlainIx b) : PE X (.Subscript a b pos) (tOp r ta tb) := by
  intro pins s σ H Q I h
  exact Subscript_ (binT ha hb I h fun v u s2 x y H2 I2 rx ry q => hr a b pins s2 σ H2 x y v u Q I2 rx ry q (hs _ _))
def rIxL (K : PySem.W.Frag) : R2 := fun x y H Q => ∃ p xs i v, x = .ref p ∧ y = .int i ∧ SqL K H p xs ∧ atI xs i = some v ∧ Q v H
def rIxT (K : PySem.W.Frag) : R2 := fun x y H Q => ∃ p xs i v, x = .ref p ∧ y = .int i ∧ SqT K H p xs ∧ atI xs i = some v ∧ Q v H
def rIxS : R2 := fun x y H Q => ∃ z i c, x = .str z ∧ y = .int i ∧ z.length ≤ sizeLine ∧ atI z.cps.toList i = some c ∧ Q (.str ⟨#[c]⟩) H
theorem ix_list : IxR X (rIxL X.K) := by
  intro value slice pins s σ H x y v u Q I rx ry h hs
  obtain ⟨p, xs, i, z, rfl, rfl, hq, he, q⟩ := h
  cases rx
  obtain ⟨t, rfl⟩ := ry
  obtain ⟨its, r, pl, hz⟩ := I.list hq
  obtain ⟨j, h1, h2, h3, h4, h5⟩ := atI_get he
  obtain ⟨w, ew, rw'⟩ := r.get h2
  have hl := r.length
  have hn := line63
  have fin : EP X pins σ Q w s := ⟨z, H, I, rw', q⟩
  by_cases h0 : 0 ≤ i
  · have hj : i.toNat = j := by
      rw [seqIndex_of h0 h5] at h1
      exact Option.some.inj h1
    exact item_listR pl.isList h0 (by omega) (by rw [hj]; simpa using ew) fin hs
  · have hj : (i + (its.toArray.size : Int)).toNat = j := by
      rw [seqIndex_neg (by omega) h4] at h1
      rw [List.size_toArray, ← hl]
      exact Option.some.inj h1
    exact subscriptTail_builtinR (x := w) pl.isList.typeIs slot_list_getitem.lookup
      (wpAny_getItem_list_neg (Q := fun r s' => r = w ∧ EP X pins σ Q r s') pl.isList (by omega) (by rw [List.size_toArray] <;> omega) (by omega) (by rw [hj]; simpa using ew) ⟨rfl, fin⟩) hs
theorem ix_tup : IxR X (rIxT X.K) := by
  intro value slice pins s σ H x y v u Q I rx ry h hs
  obtain ⟨p, xs, i, z, rfl, rfl, hq, he, q⟩ := h
  cases rx
  obtain ⟨t, rfl⟩ := ry
  obtain ⟨its, r, pl, hz⟩ := I.tuple hq
  obtain ⟨j, h1, h2, h3, h4, h5⟩ := atI_get he
  obtain ⟨w, ew, rw'⟩ := r.get h2
  have hl := r.length
  have hn := line63
  have fin : EP X pins σ Q w s := ⟨z, H, I, rw', q⟩
  exact subscriptTail_builtinR (x := w) pl.typeIs slot_tuple_getitem.lookup
    (getItem_tuple (j := j) (Q := fun r s' => r = w ∧ EP X pins σ Q r s') pl (by omega) (by omega) (by rw [List.size_toArray, ← hl]; exact h1) (by simpa using ew) ⟨rfl, fin⟩) hs
theorem ix_str : IxR X rIxS := by
  intro value slice pins s σ H x y v u Q I rx ry h hs
  obtain ⟨z, i, c, rfl, rfl, hz, he, q⟩ := h
  obtain ⟨t, rfl⟩ := rx
  obtain ⟨t', rfl⟩ := ry
  obtain ⟨j, h1, h2, h3, h4, h5⟩ := atI_get he
  have hl : z.cps.toList.length = z.length := by simp [Str.length]
  rw [hl] at h1 h4 h5
  have hn := line63
  exact tail_any (typeIs_str s z t) slot_str_getitem.lookup (getItem_str (c := c) (by
    have e1 : decide (i < -(2 ^ 63 : Int)) = false := decide_eq_false (by omega)
    have e2 : decide (i ≥ 2 ^ 63) = false := decide_eq_false (by omega)
    rw [e1, e2, Bool.or_false]) (by rw [h1]; simpa using h2) ⟨.str ⟨#[c]⟩, H, I.tok _, ⟨_, rfl⟩, q⟩) hs
theorem mapSeq_set (its : List Value) (n j : Nat) (u : Value) : Obj.mapSeq (·.setIfInBounds j u) { cls := .type "list", data := .seq its.toArray n } = { cls := .type "list", data := .seq (its.set j u).toArray n } := by
  simp [Obj.mapSeq]
theorem Inv.lst {pins : List (Addr × Obj)} {σ : St} {H : Hp} {s : Shared} {p : Addr} {xs : List V} (I : Inv X pins σ H s) (h : H p = some (.lst xs)) :
    ∃ (its : List Value) (n : Nat), Vals xs its ∧ s.heap.get? p = some { cls := .type "list", data := .seq its.toArray n } ∧ xs.length ≤ sizeLine := by
  obtain ⟨z, its, n, r, e⟩ := I.hok p _ h
  exact ⟨its, n, r, e, z⟩
theorem Inv.lstUpd {pins : List (Addr × Obj)} {σ : St} {H : Hp} {s : Shared} {p : Addr} {xs ys : List V} {its its' : List Value} {n n' : Nat} {f : Obj → Obj} (I : Inv X pins σ H s) (h : H p = some (.lst xs))
    (ho : s.heap.get? p = some { cls := .type "list", data := .seq its.toArray n }) (hf : f { cls := .type "list", data := .seq its.toArray n } = { cls := .type "list", data := .seq its'.toArray n' }) (r : Vals ys its') (hz : ys.length ≤ sizeLine) (t : Nat) :
    Inv X pins σ (upd H p (.lst ys)) { s with heap := s.heap.update p f, toks := t } := by
  have e : (s.heap.update p f).get? p = some { cls := .type "list", data := .seq its'.toArray n' } := by
    rw [Heap.get?_update_self f ho (by rw [hf] <;> rfl), hf]
  refine I.write (x := p) (e := p) (by rw [h]; trivial) (.inl rfl) (fun b u hb q => (Heap.get?_update_other _ _ (Ne.symm hb)).trans q) ⟨_, e⟩ ?_
  exact ⟨hz, its', n', r, e⟩
def rSetL : V → V → V → Hp → (Hp → Prop) → Prop := fun o i v H Q => ∃ p xs k j, o = .ref p ∧ i = .int k ∧ H p = some (.lst xs) ∧ ixN xs.length k = some j ∧ Q (upd H p (.lst (xs.set j v)))
theorem set_list : PSet X rSetL := by
  intro pins s σ H o i v ov iv u Q I ro ri rv h
  obtain ⟨p, xs, k, j, rfl, rfl, hp, hj, q⟩ := h
  cases ro
  obtain ⟨t, rfl⟩ := ri
  obtain ⟨its, n, r, ho, hz⟩ := I.lst hp
  obtain ⟨h1, h2, h3, h4⟩ := ixN_seq hj
  have hl := r.length
  have hn := line63
  have I' : Inv X pins σ (upd H p (.lst (xs.set j v))) { s with heap := s.heap.update p (Obj.mapSeq (·.setIfInBounds j u)) } :=
    I.lstUpd hp ho (mapSeq_set its n j u) (r.set rv j) (by rw [List.length_set]; exact hz) s.toks
  by_cases h0 : 0 ≤ k
  · have hk : k.toNat = j := by
      rw [seqIndex_of h0 h4] at h1
      exact Option.some.inj h1
    exact PySem.W.ki_setAt ho h0 (by omega) (by rw [List.size_toArray, ← hl]; exact h4) (by rw [hk]; exact ⟨_, I', q⟩)
  · have hk : (k + (its.toArray.size : Int)).toNat = j := by
      rw [seqIndex_neg (by omega) h3] at h1
      rw [List.size_toArray, ← hl]
      exact Option.some.inj h1
    exact PySem.W.ki_setBack ho (by omega) (by rw [List.size_toArray, ← hl]; exact h3) (by omega) (by rw [hk]; exact ⟨_, I', q⟩)
theorem slice_bounds (lo hi : Option Int) (n : Nat) : (sliceBounds lo hi none n).1 = ((HT.sIx n 0 lo : Nat) : Int) ∧ (sliceBounds lo hi none n).2.1 = ((HT.sIx n n hi : Nat) : Int) ∧ (sliceBounds lo hi none n).2.2 = 1 := by
  refine ⟨?_, ?_, rfl⟩
  · cases lo with
    | none => simp [sliceBounds, HT.sIx]
    | some i =>
      simp only [sliceBounds, HT.sIx, Option.getD_none, show (1 : Int) > 0 by decide, if_true]
      by_cases h : i < 0
      · simp only [h, if_true] <;> omega
      · simp only [h, if_false] <;> omega
  · cases hi with
    | none => simp [sliceBounds, HT.sIx]
    | some i =>
      simp only [sliceBounds, HT.sIx, Option.getD_none, show (1 : Int) > 0 by decide, if_true]
      by_cases h : i < 0
      · simp only [h, if_true] <;> omega
      · simp only [h, if_false] <;> omega
theorem slicePick_cut (its : List Value) (lo hi : Option Int) : slicePick its.toArray lo hi none = ((its.drop (HT.sIx its.length 0 lo)).take (HT.sIx its.length its.length hi - HT.sIx its.length 0 lo)).toArray := by
  obtain ⟨h1, h2, h3⟩ := slice_bounds lo hi its.toArray.size
  unfold slicePick
  rw [h1, h2, h3]
  simp only [sliceRange_one, pick_run, List.size_toArray] <;> rfl
def rSlL (K : PySem.W.Frag) : V → Option Int → Option Int → Hp → VK → Prop := fun x lo hi H Q => ∃ a xs, x = .ref a ∧ SqL K H a xs ∧ ∀ p, H p = none → Q (.ref p) (upd H p (.lst (cutV xs lo hi)))
theorem sl_list : SlR X (rSlL X.K) := by
  intro pins s σ H x v vl vu lo hi sl Q I rx hs pl pu h
  obtain ⟨a, xs, rfl, hx, q⟩ := h
  cases rx
  obtain ⟨its, r, ht, hz⟩ := I.list hx
  have hlen := r.length
  refine ⟨"list", _, slot_list_getitem.lookup, ht.isList.typeIs, ?_⟩
  refine wpAny_getItem_list_slice ht.isList hs pl pu .none (by simp) ?_ (by rw [List.size_toArray] <;> omega)
  rw [slicePick_cut, ← hlen]
  refine ⟨.ref s.heap.objs.size, _, I.laid (t' := s.toks) (o := .lst (cutV xs lo hi)) (fun b ob q => Heap.get?_push_of_some _ q) (Nat.le_refl _) ?_, rfl, q _ (I.hok.fresh (Nat.le_refl _))⟩
  exact ⟨Nat.le_trans (cutV_length xs lo hi) hz, _, 0, (r.drop (HT.sIx xs.length 0 lo)).take (HT.sIx xs.length xs.length hi - HT.sIx xs.length 0 lo), Heap.get?_push_size _ rfl⟩
def flatV : V → Bool
  | .non => true
  | .bl _ => true
  | .int _ => true
  | .str _ => true
  | _ => false
def eqV : V → V → Bool
  | .non, .non => true
  | .bl a, .bl b => a == b
  | .bl a, .int b => (if a then 1 else 0) == b
  | .int a, .bl b => a == (if b then 1 else 0)
  | .int a, .int b => a == b
  | .str a, .str b => a == b
  | _, _ => false
theorem eqAt_V {A : Around} {s : Shared} {y x : V} {u v : Value} (ry : RelV y u) (rx : RelV x v) (fy : flatV y = true) (fx : flatV x = true) : SeqAt.EqAt A s u v (eqV y x) := by
  cases y with
  | non =>
    cases ry
    cases x with
    | non => cases rx; exact SeqAt.EqAt.same _
    | bl b => cases rx; exact SeqAt.EqAt.none_bool b
    | int b => obtain ⟨t, rfl⟩ := rx; exact SeqAt.EqAt.none_int b t
    | str b => obtain ⟨t, rfl⟩ := rx; exact SeqAt.EqAt.none_str b t
    | _ => exact absurd (show false = true from fx) Bool.false_ne_true
  | bl a =>
    cases ry
    cases x with
    | non => cases rx; exact SeqAt.EqAt.bool_none a
    | bl b => cases rx; exact SeqAt.EqAt.bool_bool a b
    | int b => obtain ⟨t, rfl⟩ := rx; exact SeqAt.EqAt.bool_int a b t
    | str b => obtain ⟨t, rfl⟩ := rx; exact SeqAt.EqAt.bool_str a b t
    | _ => exact absurd (show false = true from fx) Bool.false_ne_true
  | int a =>
    obtain ⟨t', rfl⟩ := ry
    cases x with
    | non => cases rx; exact SeqAt.EqAt.int_none a t'
    | bl b => cases rx; exact SeqAt.EqAt.int_bool a t' b
    | int b => obtain ⟨t, rfl⟩ := rx; exact SeqAt.EqAt.int_int a t' b t
    | str b => obtain ⟨t, rfl⟩ := rx; exact SeqAt.EqAt.int_str a t' b t
    | _ => exact absurd (show false = true from fx) Bool.false_ne_true
  | str a =>
    obtain ⟨t', rfl⟩ := ry
    cases x with
    | non => cases rx; exact SeqAt.EqAt.str_none a t'
    | bl b => cases rx; exact SeqAt.EqAt.str_bool a t' b
    | int b => obtain ⟨t, rfl⟩ := rx; exact SeqAt.EqAt.str_int a t' b t
    | str b => obtain ⟨t, rfl⟩ := rx; exact SeqAt.EqAt.str_str a t' b t
    | _ => exact absurd (show false = true from fx) Bool.false_ne_true
  | _ => exact absurd (show false = true from fy) Bool.false_ne_true
def eqU (x : V) (u : Value) : Bool := match u with
  | .none => eqV .non x
  | .bool b => eqV (.bl b) x
  | .int i _ => eqV (.int i) x
  | .str z _ => eqV (.str z) x
  | _ => false
theorem eqU_of {x y : V} {u : Value} (r : RelV y u) (f : flatV y = true) : eqU x u = eqV y x := by
  cases y with
  | non => cases r; rfl
  | bl b => cases r; rfl
  | int i => obtain ⟨t, rfl⟩ := r; rfl
  | str z => obtain ⟨t, rfl⟩ := r; rfl
  | _ => exact absurd (show false = true from f) Bool.false_ne_true
theorem any_eqU {x : V} : ∀ {xs : List V} {us : List Value}, Vals xs us → xs.all flatV = true → us.any (eqU x) = xs.any fun y => eqV y x
  | _, _, .nil, _ => rfl
  | y :: xs, u :: us, .cons r t, f => by
    rw [List.all_cons, Bool.and_eq_true] at f
    rw [List.any_cons, List.any_cons, eqU_of r f.1, any_eqU t f.2]
theorem mem_eqAt {A : Around} {s : Shared} {x : V} {v : Value} (rx : RelV x v) (fx : flatV x = true) : ∀ {xs : List V} {us : List Value}, Vals xs us → xs.all flatV = true → ∀ u ∈ us, SeqAt.EqAt A s u v (eqU x u)
  | _, _, .nil, _ => fun u hu => by cases hu
  | y :: xs, u :: us, .cons r t, f => fun u' hu => by
    rw [List.all_cons, Bool.and_eq_true] at f
    rcases List.mem_cons.mp hu with rfl | hu
    · rw [eqU_of r f.1]; exact eqAt_V r rx f.1 fx
    · exact mem_eqAt rx fx t f.2 u' hu
def inV (x : V) (xs : List V) : Bool := xs.any fun y => eqV y x
def rIn (K : PySem.W.Frag) (neg : Bool) : R2 := fun x y H Q => ∃ p xs, y = .ref p ∧ (SqL K H p xs ∨ SqT K H p xs) ∧ flatV x = true ∧ xs.all flatV = true ∧ Q (.bl (if neg then !inV x xs else inV x xs)) H
theorem op_in_seq : OpR X (compareOp .In) (rIn X.K false) := by
  intro pins s σ H x y v u Q I rx ry h
  obtain ⟨p, xs, rfl, hq, fx, fs, q⟩ := h
  cases ry
  rcases hq with hq | hq
  · obtain ⟨its, r, pl, hz⟩ := I.list hq
    refine SeqAt.in_listAt (eqU x) pl.isList (fun w hw => mem_eqAt rx fx r fs w (by simpa using hw)) ⟨.bl _, H, I, rfl, ?_⟩
    rw [show its.toArray.any (eqU x) = its.any (eqU x) by simp, any_eqU r fs]
    exact q
  · obtain ⟨its, r, pl, hz⟩ := I.tuple hq
    refine SeqAt.in_tupleAt (eqU x) pl (fun w hw => mem_eqAt rx fx r fs w (by simpa using hw)) ⟨.bl _, H, I, rfl, ?_⟩
    rw [show its.toArray.any (eqU x) = its.any (eqU x) by simp, any_eqU r fs]
    exact q
theorem call_len_seq : CallR X (.builtin "len") (fun xs H Q => ∃ p ys, xs = [.ref p] ∧ (SqL X.K H p ys ∨ SqT X.K H p ys) ∧ Q (.int ys.length) H) := by
  intro pins s σ H xs us Q I r h
  obtain ⟨p, ys, rfl, hq, q⟩ := h
  obtain ⟨u, rfl, rx⟩ := vals1 r
  cases rx
  have hn := line63
  rcases hq with hq | hq
  · obtain ⟨its, r', pl, hz⟩ := I.list hq
    have hlen := r'.length
    exact Calls.call_len_list pl.isList (by simp only [List.size_toArray] <;> omega) ⟨.int ys.length, H, I.tok _, ⟨s.toks + 1, by rw [List.size_toArray, hlen]⟩, q⟩
  · obtain ⟨its, r', pl, hz⟩ := I.tuple hq
    have hlen := r'.length
    exact len_tuple pl (by simp only [List.size_toArray] <;> omega) ⟨.int ys.length, H, I.tok _, ⟨s.toks + 1, by rw [List.size_toArray, hlen]⟩, q⟩
theorem call_len_str : CallR X (.builtin "len") (fun xs H Q => ∃ z, xs = [.str z] ∧ z.length ≤ sizeLine ∧ Q (.int z.length) H) := by
  intro pins s σ H xs us Q I r h
  obtain ⟨z, rfl, hz, q⟩ := h
  obtain ⟨u, rfl, t, rfl⟩ := vals1 r
  have hn := line63
  exact len_str (by omega) ⟨.int z.length, H, I.tok _, ⟨_, rfl⟩, q⟩
theorem CallR.or {f : Value} {r r' : List V → Hp → VK → Prop} (h : CallR X f r) (h' : CallR X f r') : CallR X f (fun xs H Q => r xs H Q ∨ r' xs H Q) := by
  intro pins s σ H xs us Q I rs q
  rcases q with q | q
  · exact h pins s σ H xs us Q I rs q
  · exact h' pins s σ H xs us Q I rs q
theorem call_list_of : CallR X (.type "list") (fun xs H Q => ∃ p ys, xs = [.ref p] ∧ (SqL X.K H p ys ∨ SqT X.K H p ys) ∧ ∀ l, H l = none → Q (.ref l) (upd H l (.lst ys))) := by
  intro pins s σ H xs us Q I r h
  obtain ⟨p, ys, rfl, hq, q⟩ := h
  obtain ⟨u, rfl, rx⟩ := vals1 r
  cases rx
  have fin : ∀ (its : List Value), Vals ys its → ys.length ≤ sizeLine → ∀ (h' : Heap) (c' : Nat), (∀ b o', s.heap.get? b = some o' → h'.get? b = some o') →
      h'.get? s.heap.objs.size = some { cls := .type "list", dict := none, data := .seq its.toArray c', slots := #[] } → EP X pins σ Q (.ref s.heap.objs.size) { s with heap := h' } := fun its r' hz h' c' kp e =>
    ⟨.ref s.heap.objs.size, _, I.laid (t' := s.toks) kp (Nat.le_refl _) (show ObjOk X.prog X.w _ h' _ (.lst ys) from ⟨hz, its, c', r', e⟩), rfl, q _ (I.hok.fresh (Nat.le_refl _))⟩
  rcases hq with hq | hq
  · obtain ⟨its, r', pl, hz⟩ := I.list hq
    have hlen := r'.length
    obtain ⟨o, ho, hc, n, hd⟩ := pl.isList
    exact call_list_seq p (.inl rfl) ho hc hd (fun h' c' kp e => fin its r' hz h' c' kp e) (by simp only [List.size_toArray] <;> omega)
  · obtain ⟨its, r', pl, hz⟩ := I.tuple hq
    have hlen := r'.length
    obtain ⟨o, ho, hc, n, hd⟩ := pl
    exact call_list_seq p (.inr rfl) ho hc hd (fun h' c' kp e => fin its r' hz h' c' kp e) (by simp only [List.size_toArray] <;> omega)
theorem call_tuple_of : CallR X (.type "tuple") (fun xs H Q => ∃ p ys, xs = [.ref p] ∧ ((SqL X.K H p ys ∧ ∀ l, H l = none → Q (.ref l) (upd H l (.tup ys))) ∨ (SqT X.K H p ys ∧ Q (.ref p) H))) := by
  intro pins s σ H xs us Q I r h
  obtain ⟨p, ys, rfl, h⟩ := h
  obtain ⟨u, rfl, rx⟩ := vals1 r
  cases rx
  rcases h with ⟨hq, q⟩ | ⟨hq, q⟩
  · obtain ⟨its, r', pl, hz⟩ := I.list hq
    have hlen := r'.length
    refine call_tuple_list pl.isList (fun h' kp => ?_) (by simp only [List.size_toArray] <;> omega)
    have I1 : Inv X pins σ H { s with heap := h' } := I.kept (t' := s.toks) kp
    have I2 : Inv X pins σ (upd H h'.objs.size (.tup ys)) { s with heap := h'.push { cls := .type "tuple", data := .seq its.toArray } } :=
      I1.laid (t' := s.toks) (fun b o e => Heap.get?_push_of_some _ e) (Nat.le_refl _) (show ObjOk X.prog X.w _ _ _ (.tup ys) from ⟨hz, its, r', IsTup.new _ _⟩)
    exact ⟨.ref h'.objs.size, _, I2, rfl, q _ (I1.hok.fresh (Nat.le_refl _))⟩
  · obtain ⟨its, r', pl, hz⟩ := I.tuple hq
    exact call_tuple_same pl ⟨.ref p, H, I, rfl, q⟩
def tyV (K : PySem.W.Frag) (T : String) (x : V) (H : Hp) : Prop := match x with
  | .str _ => T = "str"
  | .int _ => T = "int"
  | .ref p => (T = "list" ∧ ∃ xs, SqL K H p xs) ∨ (T = "tuple" ∧ ∃ o, K.lookup p = some o ∧ o.cls = .type "tuple" ∧ o.dict = none) ∨
      (T = "dict" ∧ ((∃ kvs, H p = some (.dK kvs)) ∨ ∃ kvs, H p = some (.dT kvs))) ∨ (T = "set" ∧ ∃ S n, H p = some (.set S n))
  | _ => False
theorem tyV_is {pins : List (Addr × Obj)} {σ : St} {H : Hp} {s : Shared} {T : String} {x : V} {v : Value} (I : Inv X pins σ H s) (r : RelV x v) (ty : tyV X.K T x H) :
    s.TypeIs v T ∧ ∀ a, v = .ref a → ∃ ob, s.heap.get? a = some ob ∧ ob.dict = none := by
  cases x with
  | str z =>
    obtain ⟨t, rfl⟩ := r
    cases (show T = "str" from ty)
    exact ⟨typeIs_str s z t, fun _ e => nomatch e⟩
  | int i =>
    obtain ⟨t, rfl⟩ := r
    cases (show T = "int" from ty)
    exact ⟨typeIs_int s i t, fun _ e => nomatch e⟩
  | ref p =>
    cases r
    rcases ty with ⟨rfl, xs, hq⟩ | ⟨rfl, o, hk, hc, hd⟩ | ⟨rfl, hk⟩ | ⟨rfl, S, n, hk⟩
    · obtain ⟨its, _, pl, _⟩ := I.list hq
      refine ⟨pl.isList.typeIs, fun a e => ?_⟩
      cases e
      obtain ⟨o, n, e, c, hd, _⟩ := pl
      exact ⟨o, e, hd⟩
    · refine ⟨⟨o, I.kIn p o hk, hc⟩, fun a e => ?_⟩
      cases e
      exact ⟨o, I.kIn _ o hk, hd⟩
    · have z : ∃ o, s.heap.get? p = some o ∧ o.ExactDict := by
        rcases hk with ⟨kvs, hk⟩ | ⟨kvs, hk⟩
        · obtain ⟨_, _, _, _, o, _, _, e, ex, _⟩ := I.hok p _ hk
          exact ⟨o, e, ex⟩
        · obtain ⟨_, _, _, _, o, _, _, e, ex, _⟩ := I.hok p _ hk
          exact ⟨o, e, ex⟩
      obtain ⟨o, e, ex⟩ := z
      refine ⟨⟨o, e, ex.1⟩, fun a e2 => ?_⟩
      cases e2
      exact ⟨o, e, ex.2.1⟩
    · obtain ⟨o, _, _, _, e, ex, _⟩ := I.hok p _ hk
      refine ⟨⟨o, e, ex.1⟩, fun a e2 => ?_⟩
      cases e2
      exact ⟨o, e, ex.2.1⟩
  | _ => exact False.elim ty
variable {o e : Expr} {es : List Expr} {to : TE} {t : TA} {name : Str} {apos cpos : Pos} {T id : String} {r : V → List V → Hp → VK → Prop}
end
end L2
namespace L2
open PySem PySem.Spec PyProof.Rows
def MtM (X : Cx) (id : String) (r : V → List V → Hp → VK → Prop) : Prop :=
  ∀ (pins : List (Addr × Obj)) (s : Shared) (σ : St) (H : Hp) (x : V) (xs : List V) (v : Value) (us : List Value) (Q : VK), Inv X pins σ H s → RelV x v → Vals xs us → r x xs H Q →
    wpAny (model X.prog X.w) X.A (call (.builtin id) (v :: us)) (EP X pins σ Q) X.xe s
theorem Vals.one : ∀ {x : V} {us : List Value}, Vals [x] us → ∃ u, us = [u] ∧ RelV x u
  | _, _, .cons r .nil => ⟨_, rfl, r⟩
theorem Vals.zero : ∀ {us : List Value}, Vals [] us → us = []
  | _, .nil => rfl
theorem Vals.eraseIdx : ∀ {xs : List V} {us : List Value} (i : Nat), Vals xs us → Vals (xs.eraseIdx i) (us.eraseIdx i)
  | _, _, _, .nil => .nil
  | _, _, 0, .cons _ t => t
  | _, _, i + 1, .cons r t => .cons r (Vals.eraseIdx i t)
theorem Vals.reverse {xs : List V} {us : List Value} (h : Vals xs us) : Vals xs.reverse us.reverse := by
  induction h with
  | nil => exact .nil
  | cons r t ih => rw [List.reverse_cons, List.reverse_cons]; exact Vals.append ih (.cons r .nil)
theorem len_erase {α : Type} : ∀ (l : List α) (i : Nat), (l.eraseIdx i).length ≤ l.length
  | [], _ => Nat.le_refl _
  | _ :: _, 0 => Nat.le_succ _
  | _ :: r, i + 1 => Nat.succ_le_succ (len_erase r i)
section
variable {X : Cx} {pins : List (Addr × Obj)} {σ : St} {H : Hp} {s : Shared} {l b : Addr} {xs ys zs : List V}
theorem Inv.lset {its its' : List Value} {n : Nat} {f : Array Value → Array Value} {t' : Nat} (I : Inv X pins σ H s) (hH : H l = some (.lst xs))
    (e : s.heap.get? l = some { cls := .type "list", data := .seq its.toArray n }) (hf : f its.toArray = its'.toArray) (hv : Vals ys its') (hz : ys.length ≤ sizeLine) :
    Inv X pins σ (upd H l (.lst ys)) { s with heap := s.heap.update l (Obj.mapSeq f), toks := t' } := by
  have q := PySem.IsL.update e f
  rw [hf] at q
  refine I.write (x := l) (e := l) (by rw [hH]; exact trivial) (.inl rfl) (fun b' u hb hu => (Heap.get?_update_other s.heap (Obj.mapSeq f) (Ne.symm hb)).trans hu) ⟨_, q⟩ ?_
  exact ⟨hz, its', _, hv, q⟩
theorem Inv.lnew {its : List Value} {t' : Nat} (I : Inv X pins σ H s) (hv : Vals ys its) (hz : ys.length ≤ sizeLine) :
    Inv X pins σ (upd H s.heap.objs.size (.lst ys)) { s with heap := s.heap.push { cls := .type "list", data := .seq its.toArray }, toks := t' } :=
  I.laid (fun _ _ q => Heap.get?_push_of_some _ q) (Nat.le_refl _) ⟨hz, its, 0, hv, Heap.get?_push_size _ rfl⟩
theorem Inv.fresh (I : Inv X pins σ H s) : H s.heap.objs.size = none := I.hok.fresh (Nat.le_refl _)
theorem Inv.lstM (I : Inv X pins σ H s) (hH : H l = some (.lst xs)) : xs.length ≤ sizeLine ∧ ∃ (its : List Value) (n : Nat), Vals xs its ∧ xs.length = its.length ∧ s.heap.get? l = some { cls := .type "list", data := .seq its.toArray n } := by
  obtain ⟨z, its, n, r, e⟩ := I.hok l _ hH
  exact ⟨z, its, n, r, r.length, e⟩
theorem notLongL {n : Nat} (h : n ≤ sizeLine) : Builtin.List.listTooLong n = false := by
  unfold Builtin.List.listTooLong
  exact decide_eq_false (by omega)
end
section
variable {X : Cx}
def rAppend : V → List V → Hp → VK → Prop := fun x vs H Q => ∃ l xs y, x = .ref l ∧ vs = [y] ∧ H l = some (.lst xs) ∧ xs.length < sizeLine ∧ Q .non (upd H l (.lst (xs ++ [y])))
theorem mt_append : MtM X "list.append" rAppend := by
  intro pins s σ H x vs v us Q I rx rv h
  obtain ⟨l, xs, y, rfl, rfl, hH, hz, q⟩ := h
  cases rx
  obtain ⟨u, rfl, ru⟩ := rv.one
  obtain ⟨z, its, n, r, hl, e⟩ := I.lstM hH
  refine call_meets F.slot_list_append ⟨_, e, rfl⟩ F.entry_list_append (F.args_list_append_2 _ _) (PySem.list_append l its.toArray n u (by rw [List.size_toArray]; omega)) ⟨e, ?_⟩
  refine ⟨.non, _, I.lset (its' := its ++ [u]) hH e (by simp) (r.append (.cons ru .nil)) ?_, rfl, q⟩
  rw [List.length_append, List.length_singleton]
  omega
def rExtend : V → List V → Hp → VK → Prop := fun x vs H Q => ∃ l b xs zs, x = .ref l ∧ vs = [.ref b] ∧ H l = some (.lst xs) ∧ H b = some (.lst zs) ∧ xs.length + zs.length ≤ sizeLine ∧ Q .non (upd H l (.lst (xs ++ zs)))
theorem mt_extend : MtM X "list.extend" rExtend := by
  intro pins s σ H x vs v us Q I rx rv h
  obtain ⟨l, b, xs, zs, rfl, rfl, hH, hB, hz, q⟩ := h
  cases rx
  obtain ⟨u, rfl, ru⟩ := rv.one
  cases ru
  obtain ⟨z, its, n, r, hl, e⟩ := I.lstM hH
  obtain ⟨z2, its2, n2, r2, hl2, e2⟩ := I.lstM hB
  have hsz : its.toArray.size + its2.toArray.size ≤ sizeLine := by rw [List.size_toArray, List.size_toArray]; omega
  have hlong : ¬ (!its.toArray.isEmpty && Builtin.List.listTooLong (its.toArray.size + its2.toArray.size)) = true := by
    rw [notLongL hsz, Bool.and_false]
    exact Bool.false_ne_true
  refine call_meets F.slot_list_extend ⟨_, e, rfl⟩ F.entry_list_extend (F.args_list_extend_2 _ _)
    (AutoSeq1.list_extend_list_list_0 l its.toArray n b its2.toArray n2 hlong (by rw [List.size_toArray]; omega) (by omega)) ⟨e, e2, ?_⟩
  refine ⟨.non, _, I.lset (its' := its ++ its2) hH e (by simp) (r.append r2) ?_, rfl, q⟩
  rw [List.length_append]
  omega
def rPopAt : V → List V → Hp → VK → Prop := fun x vs H Q => ∃ l xs i k y, x = .ref l ∧ vs = [.int i] ∧ H l = some (.lst xs) ∧ -(2 ^ 63) ≤ i ∧ i < 2 ^ 63 ∧ seqIndex? i xs.length = some k ∧ xs[k]? = some y ∧ Q y (upd H l (.lst (xs.eraseIdx k)))
theorem mt_popAt : MtM X "list.pop" rPopAt := by
  intro pins s σ H x vs v us Q I rx rv h
  obtain ⟨l, xs, i, k, y, rfl, rfl, hH, h1, h2, hk, hy, q⟩ := h
  cases rx
  obtain ⟨u, rfl, ru⟩ := rv.one
  obtain ⟨t, rfl⟩ := ru
  obtain ⟨z, its, n, r, hl, e⟩ := I.lstM hH
  obtain ⟨w, hw, rw'⟩ := r.get hy
  refine call_meets F.slot_list_pop ⟨_, e, rfl⟩ F.entry_list_pop (F.args_list_pop_2 _ _)
    (MeetsSeq.list_pop_at l its.toArray n i t k w (fitsIndex_both h1 h2) (by rw [List.size_toArray, ← hl]; exact hk) (by rw [← Array.getElem?_toList]; exact hw) (by rw [List.size_toArray]; omega)) ⟨e, ?_⟩
  refine ⟨y, _, I.lset (its' := its.eraseIdx k) hH e ?_ (r.eraseIdx k) ?_, rw', q⟩
  · show its.toArray.eraseIdxIfInBounds k = (its.eraseIdx k).toArray
    rw [List.eraseIdxIfInBounds_toArray]
  · have := len_erase xs k
    omega
def rReverse : V → List V → Hp → VK → Prop := fun x vs H Q => ∃ l xs, x = .ref l ∧ vs = [] ∧ H l = some (.lst xs) ∧ Q .non (upd H l (.lst xs.reverse))
theorem mt_reverse : MtM X "list.reverse" rReverse := by
  intro pins s σ H x vs v us Q I rx rv h
  obtain ⟨l, xs, rfl, rfl, hH, q⟩ := h
  cases rx
  have hus := rv.zero
  subst hus
  obtain ⟨z, its, n, r, hl, e⟩ := I.lstM hH
  refine call_meets F.slot_list_reverse ⟨_, e, rfl⟩ F.entry_list_reverse (F.args_list_reverse_1 _) (AutoSeq1.list_reverse_list_0 l its.toArray n (by rw [List.size_toArray]; omega)) ⟨e, ?_⟩
  refine ⟨.non, _, I.lset (its' := its.reverse) hH e (by simp) r.reverse ?_, rfl, q⟩
  rw [List.length_reverse]
  omega
def rCat : R2 := fun x y H Q => ∃ l b xs zs, x = .ref l ∧ y = .ref b ∧ H l = some (.lst xs) ∧ H b = some (.lst zs) ∧ xs.length + zs.length ≤ sizeLine ∧ ∀ p, H p = none → Q (.ref p) (upd H p (.lst (xs ++ zs)))
theorem op_cat : OpR X (binaryOp .Add) rCat := by
  intro pins s σ H x y v u Q I rx ry h
  obtain ⟨l, b, xs, zs, rfl, rfl, hH, hB, hz, q⟩ := h
  cases rx
  cases ry
  obtain ⟨z, its, n, r, hl, e⟩ := I.lstM hH
  obtain ⟨z2, its2, n2, r2, hl2, e2⟩ := I.lstM hB
  refine PySem.P.add_list e e2 ?_ (by rw [List.size_toArray, List.size_toArray]; omega)
  have ea : its.toArray ++ its2.toArray = (its ++ its2).toArray := by simp
  rw [ea]
  exact ⟨.ref _, _, I.lnew (t' := s.toks) (r.append r2) (by rw [List.length_append]; omega), rfl, q _ I.fresh⟩
def rRep : R2 := fun x y H Q => ∃ l k xs, x = .ref l ∧ y = .int k ∧ H l = some (.lst xs) ∧ -(2 ^ 63) ≤ k ∧ k < 2 ^ 63 ∧ xs.length * k.toNat ≤ sizeLine ∧
  ∀ p, H p = none → Q (.ref p) (upd H p (.lst (List.replicate k.toNat xs).flatten))
end
section
variable {prog : Program} {w : World} {A : Around} {E : Value → Shared → Prop} {s : Shared}
end
section
variable {X : Cx}
end
end L2
namespace L2
open PySem PySem.Spec PyProof.Rows
section
variable {κ : Type} [DecidableEq κ]
def valV (kvs : List (κ × V)) (k : κ) : Option V := (kvs.find? fun kv => decide (kv.1 = k)).map (·.2)
def putK (kvs : List (κ × V)) (k : κ) (v : V) : List (κ × V) :=
  if (kvs.any fun kv => decide (kv.1 = k)) = true then kvs.map (fun kv => if kv.1 = k then (kv.1, v) else kv) else kvs ++ [(k, v)]
def dropK (kvs : List (κ × V)) (k : κ) : List (κ × V) := kvs.filter fun kv => decide (kv.1 ≠ k)
theorem valV_pos {p : κ × V} {r : List (κ × V)} {k : κ} (e : p.1 = k) : valV (p :: r) k = some p.2 := by simp [valV, List.find?_cons, e]
theorem valV_neg {p : κ × V} {r : List (κ × V)} {k : κ} (e : ¬ p.1 = k) : valV (p :: r) k = valV r k := by simp [valV, List.find?_cons, e]
theorem valV_any (k : κ) : ∀ kvs : List (κ × V), (kvs.any fun kv => decide (kv.1 = k)) = (valV kvs k).isSome
  | [] => rfl
  | p :: r => by
    rw [List.any_cons]
    by_cases e : p.1 = k
    · simp only [valV_pos e, decide_eq_true e, Bool.true_or, Option.isSome_some]
    · rw [valV_neg e, decide_eq_false e, Bool.false_or]; exact valV_any k r
theorem putK_new {kvs : List (κ × V)} {k : κ} (v : V) (h : valV kvs k = none) : putK kvs k v = kvs ++ [(k, v)] := by
  unfold putK
  rw [valV_any, h]
  exact if_neg (by decide)
theorem RelO.isSome_eq {o : Option V} {u : Option Value} (r : RelO o u) : o.isSome = u.isSome := by
  cases o with
  | none => cases u with
    | none => rfl
    | some _ => exact (show False from r).elim
  | some _ => cases u with
    | none => exact (show False from r).elim
    | some _ => rfl
theorem RelO.getD {o : Option V} {u : Option Value} {d : V} {d' : Value} (r : RelO o u) (rd : RelV d d') : RelV (o.getD d) (u.getD d') := by
  cases o with
  | none => cases u with
    | none => exact rd
    | some _ => exact (show False from r).elim
  | some _ => cases u with
    | none => exact (show False from r).elim
    | some _ => exact r
theorem KV.val {kvs : List (κ × V)} {vs : List (κ × Value)} (r : KV kvs vs) (k : κ) : RelO (valV kvs k) (valueAt vs k) := by
  unfold KV at r
  induction r with
  | nil => exact True.intro
  | @cons p q ps qs h t ih =>
    obtain ⟨h1, h2⟩ := h
    by_cases e : p.1 = k
    · have e' : q.1 = k := h1.symm.trans e
      have b : valueAt (q :: qs) k = some q.2 := by simp [valueAt, List.find?_cons, e']
      rw [valV_pos e, b]; exact h2
    · have e' : ¬ q.1 = k := fun z => e (h1.trans z)
      have b : valueAt (q :: qs) k = valueAt qs k := by simp [valueAt, List.find?_cons, e']
      rw [valV_neg e, b]; exact ih
theorem KV.any {kvs : List (κ × V)} {vs : List (κ × Value)} (r : KV kvs vs) (k : κ) : (kvs.any fun kv => decide (kv.1 = k)) = vs.any fun kv => decide (kv.1 = k) := by
  unfold KV at r
  induction r with
  | nil => rfl
  | cons h t ih => rw [List.any_cons, List.any_cons, ih, h.1]
theorem KV.repl {kvs : List (κ × V)} {vs : List (κ × Value)} (r : KV kvs vs) (k : κ) {y : V} {u : Value} (ry : RelV y u) :
    KV (kvs.map fun kv => if kv.1 = k then (kv.1, y) else kv) (vs.map fun kv => if kv.1 = k then (kv.1, u) else kv) := by
  unfold KV at r ⊢
  induction r with
  | nil => exact .nil
  | @cons p q ps qs h t ih =>
    rw [List.map_cons, List.map_cons]
    refine .cons ?_ ih
    obtain ⟨h1, h2⟩ := h
    by_cases e : p.1 = k
    · rw [if_pos e, if_pos (h1.symm.trans e)]; exact ⟨h1, ry⟩
    · rw [if_neg e, if_neg (fun z => e (h1.trans z))]; exact ⟨h1, h2⟩
theorem KV.put {kvs : List (κ × V)} {vs : List (κ × Value)} (r : KV kvs vs) (k : κ) {y : V} {u : Value} (ry : RelV y u) : KV (putK kvs k y) (stored vs k u) := by
  unfold putK stored
  rw [r.any k]
  by_cases e : (vs.any fun kv => decide (kv.1 = k)) = true
  · rw [if_pos e, if_pos e]; exact r.repl k ry
  · rw [if_neg e, if_neg e]; exact Paired.snoc r ⟨rfl, ry⟩
theorem KV.drop {kvs : List (κ × V)} {vs : List (κ × Value)} (r : KV kvs vs) (k : κ) : KV (dropK kvs k) (without vs k) := by
  unfold KV at r ⊢
  unfold dropK without
  induction r with
  | nil => exact .nil
  | @cons p q ps qs h t ih =>
    obtain ⟨h1, h2⟩ := h
    rw [List.filter_cons, List.filter_cons]
    by_cases e : p.1 = k
    · have a : ¬ decide (p.1 ≠ k) = true := by simp [e]
      have b : ¬ decide (q.1 ≠ k) = true := by simp [h1.symm.trans e]
      rw [if_neg a, if_neg b]; exact ih
    · have e' : ¬ q.1 = k := fun z => e (h1.trans z)
      have a : decide (p.1 ≠ k) = true := by simp [e]
      have b : decide (q.1 ≠ k) = true := by simp [e']
      rw [if_pos a, if_pos b]; exact .cons ⟨h1, h2⟩ ih
theorem KV.keys {kvs : List (κ × V)} {vs : List (κ × Value)} (r : KV kvs vs) : kvs.map (·.1) = vs.map (·.1) := by
  unfold KV at r
  induction r with
  | nil => rfl
  | cons h t ih => rw [List.map_cons, List.map_cons, ih, h.1]
theorem KV.length {kvs : List (κ × V)} {vs : List (κ × Value)} (r : KV kvs vs) : kvs.length = vs.length := Paired.length r
end
theorem kV_is {P : Program} {w : World} {k : Key} {u : Value} (r : RelV (kV k) u) : (mixKind P w).is k u = true := by
  cases k with
  | inl i => obtain ⟨t, e⟩ := (show ∃ t, u = Value.int i t from r); subst e; exact mixKind_int P w i t
  | inr x => obtain ⟨t, e⟩ := (show ∃ t, u = Value.str x t from r); subst e; exact mixKind_str P w x t
theorem items_are {P : Program} {w : World} : ∀ {ks : List Key} {us : List Value}, Vals (ks.map kV) us → ItemsAre (mixKind P w) ks us
  | [], _, r => by rw [List.map_nil] at r; cases r; exact .nil
  | k :: ks, _, r => by
    rw [List.map_cons] at r
    cases r with
    | cons h t => exact .cons (kV_is h) (items_are t)
abbrev KT (H : Hp) : List (List Key × V) → List (List Key × Addr × Value) → Prop := Paired fun p q => p.1 = q.1 ∧ H q.2.1 = some (.tup (p.1.map kV)) ∧ RelV p.2 q.2.2
theorem KT.val {H : Hp} {kvs : List (List Key × V)} {xs : List (List Key × Addr × Value)} (r : KT H kvs xs) (k : List Key) : RelO (valV kvs k) ((atKey xs k).map (·.2)) := by
  induction r with
  | nil => exact True.intro
  | @cons p q ps qs h t ih =>
    obtain ⟨h1, _, h2⟩ := h
    by_cases e : p.1 = k
    · have e' : q.1 = k := h1.symm.trans e
      have b : atKey (q :: qs) k = some q.2 := by simp [atKey, List.find?_cons, e']
      rw [valV_pos e, b]; exact h2
    · have e' : ¬ q.1 = k := fun z => e (h1.trans z)
      have b : atKey (q :: qs) k = atKey qs k := by simp [atKey, List.find?_cons, e']
      rw [valV_neg e, b]; exact ih
theorem KT.repl {H : Hp} {kvs : List (List Key × V)} {xs : List (List Key × Addr × Value)} (r : KT H kvs xs) (k : List Key) {y : V} {u : Value} (ry : RelV y u) :
    KT H (kvs.map fun kv => if kv.1 = k then (kv.1, y) else kv) (xs.map (putAt k u)) := by
  induction r with
  | nil => exact .nil
  | @cons p q ps qs h t ih =>
    rw [List.map_cons, List.map_cons]
    refine .cons ?_ ih
    obtain ⟨h1, h2, h3⟩ := h
    unfold putAt
    by_cases e : p.1 = k
    · rw [if_pos e, if_pos (h1.symm.trans e)]; exact ⟨h1, h2, ry⟩
    · rw [if_neg e, if_neg (fun z => e (h1.trans z))]; exact ⟨h1, h2, h3⟩
theorem KT.put {H : Hp} {kvs : List (List Key × V)} {xs : List (List Key × Addr × Value)} (r : KT H kvs xs) (k : List Key) {b : Addr} {y : V} {u : Value} (hb : H b = some (.tup (k.map kV))) (ry : RelV y u) :
    KT H (putK kvs k y) (storedH xs k b u) := by
  have e : (kvs.any fun kv => decide (kv.1 = k)) = (atKey xs k).isSome := by
    rw [valV_any, (r.val k).isSome_eq, Option.isSome_map]
  unfold putK storedH
  rw [e]
  by_cases q : (atKey xs k).isSome = true
  · rw [if_pos q, if_pos q]; exact r.repl k ry
  · rw [if_neg q, if_neg q]; exact Paired.snoc r ⟨rfl, hb, ry⟩
theorem KT.keeps {H H' : Hp} {kvs : List (List Key × V)} {xs : List (List Key × Addr × Value)} (r : KT H kvs xs) (ht : ∀ b ys, H b = some (.tup ys) → H' b = some (.tup ys)) : KT H' kvs xs :=
  Paired.mapP r fun _ _ z => ⟨z.1, ht _ _ z.2.1, z.2.2⟩
section
variable {P : Program} {w : World} {H : Hp} {h : Heap} {a : Addr}
theorem rd_of {u : HO} (ok : HOk P w H h) (e : Rd H a u) : ObjOk P w H h a u := e.ok ok
theorem dk_rd {kvs : List (Key × V)} (ok : HOk P w H h) (e : Rd H a (.dK kvs)) : kvs.length ≤ sizeLine ∧ (a == sysModules) = false ∧ ∃ vs, KV kvs vs ∧ h.DictOf (mixKind P w) a vs :=
  show ObjOk P w H h a (.dK kvs) from rd_of ok e
theorem key_of {ks : List Key} (ok : HOk P w H h) (e : H a = some (.tup (ks.map kV))) : (tupleKind (mixKind P w)).is h ks a := by
  obtain ⟨_, its, r, o, h1, h2, n, h3⟩ := (show ObjOk P w H h a (.tup (ks.map kV)) from ok a _ e)
  exact ⟨o, its.toArray, n, h1, h2, h3, by simpa using items_are r⟩
theorem dt_rd {kvs : List (List Key × V)} (ok : HOk P w H h) (e : Rd H a (.dT kvs)) : kvs.length ≤ sizeLine ∧ (a == sysModules) = false ∧
    ∃ xs, KT H kvs xs ∧ h.DictOfH (tupleKind (mixKind P w)) a xs := by
  obtain ⟨z, y, xs, r, o, es, ep, h1, h2, h3, h4, h5⟩ := (show ObjOk P w H h a (.dT kvs) from rd_of ok e)
  refine ⟨z, y, xs, r, o, es, ep, h1, h2, h3, h4, fun x hx => ?_, h5⟩
  have all : ∀ {l : List (List Key × V)} {m : List (List Key × Addr × Value)}, KT H l m → ∀ x ∈ m, (tupleKind (mixKind P w)).is h x.1 x.2.1 := by
    intro l m q
    induction q with
    | nil => intro x hx; exact nomatch hx
    | @cons p q ps qs hq t ih =>
      intro x hx
      rcases List.mem_cons.mp hx with e | hx
      · subst e
        exact key_of ok (by rw [← hq.1]; exact hq.2.1)
      · exact ih x hx
  exact all r x hx
end
def DGet (H : Hp) (a : Addr) (y : V) (r : Option V) : Prop :=
  (∃ kvs k, Rd H a (.dK kvs) ∧ y = kV k ∧ r = valV kvs k) ∨ ∃ kvs k b, Rd H a (.dT kvs) ∧ y = .ref b ∧ H b = some (.tup (k.map kV)) ∧ r = valV kvs k
def DPut (H : Hp) (a : Addr) (y v : V) (H' : Hp) : Prop :=
  (∃ kvs k, H a = some (.dK kvs) ∧ y = kV k ∧ kvs.length < sizeLine ∧ H' = upd H a (.dK (putK kvs k v))) ∨
  ∃ kvs k b, H a = some (.dT kvs) ∧ y = .ref b ∧ H b = some (.tup (k.map kV)) ∧ kvs.length < sizeLine ∧ H' = upd H a (.dT (putK kvs k v))
theorem DGet.k {H : Hp} {a : Addr} {kvs : List (Key × V)} {k : Key} (e : H a = some (.dK kvs)) : DGet H a (kV k) (valV kvs k) := .inl ⟨kvs, k, .inl e, rfl, rfl⟩
theorem DGet.t {H : Hp} {a b : Addr} {kvs : List (List Key × V)} {k : List Key} (e : H a = some (.dT kvs)) (eb : H b = some (.tup (k.map kV))) : DGet H a (.ref b) (valV kvs k) := .inr ⟨kvs, k, b, .inl e, rfl, eb, rfl⟩
theorem DPut.k {H : Hp} {a : Addr} {kvs : List (Key × V)} {k : Key} {v : V} (e : H a = some (.dK kvs)) (hl : kvs.length < sizeLine) : DPut H a (kV k) v (upd H a (.dK (putK kvs k v))) := .inl ⟨kvs, k, e, rfl, hl, rfl⟩
theorem DPut.t {H : Hp} {a b : Addr} {kvs : List (List Key × V)} {k : List Key} {v : V} (e : H a = some (.dT kvs)) (eb : H b = some (.tup (k.map kV))) (hl : kvs.length < sizeLine) :
    DPut H a (.ref b) v (upd H a (.dT (putK kvs k v))) := .inr ⟨kvs, k, b, e, rfl, eb, hl, rfl⟩
section
variable {X : Cx} {pins : List (Addr × Obj)} {σ : St} {H : Hp} {s : Shared} {a : Addr} {y v : V} {u r : Value} {o : Option V} {A : Around} {E : Value → Shared → Prop}
theorem Inv.big (I : Inv X pins σ H s) : sysModules < s.heap.objs.size := by
  have h : mainGlobals < s.heap.objs.size := (I.mod.glob.keeps I.bk).lt
  exact Nat.lt_trans (by decide) h
theorem d_getItem {Q : Value → Shared → Prop} (hu : A.units + 1 < cLine) (I : Inv X pins σ H s) (g : DGet H a y (some v)) (ry : RelV y u) (h : ∀ w' s', Inv X pins σ H s' → RelV v w' → Q w' s') :
    wpAny (model X.prog X.w) A (getItem (.ref a) u) Q E s := by
  rcases g with ⟨kvs, k, e, ey, l⟩ | ⟨kvs, k, b, e, ey, eb, l⟩
  · subst ey
    obtain ⟨z, hd, vs, rel, dd⟩ := dk_rd I.hok e
    obtain ⟨w', hw, rw'⟩ := RelO.some_of (v := v) (o := valueAt vs k) (by rw [l]; exact rel.val k)
    exact wpAny_getItem_of (kV_is ry) dd.mapOf hw (h w' _ (I.tok _) rw')
  · subst ey
    cases (show u = Value.ref b from ry)
    obtain ⟨z, hd, xs, rel, dd⟩ := dt_rd I.hok e
    obtain ⟨w', hw, rw'⟩ := RelO.some_of (v := v) (o := (atKey xs k).map (·.2)) (by rw [l]; exact rel.val k)
    obtain ⟨p, hp, hp2⟩ := Option.map_eq_some_iff.mp hw
    refine wpAny_getItem_heap (tupleKind_room_in1 hu) (key_of I.hok eb) dd hp ?_
    rw [hp2]
    exact h w' _ (I.tok _) rw'
theorem d_in {Q : Value → Shared → Prop} (hu : A.units + 1 < cLine) (I : Inv X pins σ H s) (g : DGet H a y o) (ry : RelV y u) (h : ∀ s', Inv X pins σ H s' → Q (.bool o.isSome) s') :
    wpAny (model X.prog X.w) A (compareOp .In u (.ref a)) Q E s := by
  rcases g with ⟨kvs, k, e, ey, l⟩ | ⟨kvs, k, b, e, ey, eb, l⟩
  · subst ey
    obtain ⟨z, hd, vs, rel, dd⟩ := dk_rd I.hok e
    refine wpAny_in_of (kV_is ry) hd dd.mapOf ?_
    rw [← (rel.val k).isSome_eq, ← l]
    exact h _ (I.tok _)
  · subst ey
    cases (show u = Value.ref b from ry)
    obtain ⟨z, hd, xs, rel, dd⟩ := dt_rd I.hok e
    refine wpAny_in_heap (tupleKind_room_in1 hu) (key_of I.hok eb) hd dd ?_
    have q := (rel.val k).isSome_eq
    rw [Option.isSome_map] at q
    rw [← q, ← l]
    exact h _ (I.tok _)
end
section
variable {X : Cx} {pins : List (Addr × Obj)} {σ : St} {H : Hp} {s : Shared} {a : Addr} {kvs : List (Key × V)} {k : Key} {u : Value} {A : Around} {E : Value → Shared → Prop}
theorem d_len {Q : Value → Shared → Prop} (I : Inv X pins σ H s) (e : Rd H a (.dK kvs)) (h : ∀ t s', Inv X pins σ H s' → Q (.int kvs.length t) s') : wpAny (model X.prog X.w) A (call (.builtin "len") [.ref a]) Q E s := by
  obtain ⟨z, hd, vs, rel, dd⟩ := dk_rd I.hok e
  refine call_len_dict hd dd (by rw [← rel.length]; rw [sizeLine_eq] at z; omega) ?_
  rw [← rel.length]
  exact h _ _ (I.tok _)
end
theorem dict_typeIs {X : Cx} {pins : List (Addr × Obj)} {σ : St} {H : Hp} {s : Shared} {a : Addr} {y : V} {o : Option V} (I : Inv X pins σ H s) (g : DGet H a y o) : s.TypeIs (.ref a) "dict" := by
  rcases g with ⟨kvs, k, e, _, _⟩ | ⟨kvs, k, b, e, _, _, _⟩
  · obtain ⟨_, _, vs, _, dd⟩ := dk_rd I.hok e
    exact dd.typeIs
  · obtain ⟨_, _, xs, _, dd⟩ := dt_rd I.hok e
    exact dd.typeIs
section
variable {X : Cx} {o i e value : Expr} {pos pos' tpos : Pos} {td ty tv : TE}
end
def tDNewK : TE := fun _ H Q => ∀ p, H p = none → Q (.ref p) (upd H p (.dK []))
section
variable {X : Cx} {pos : Pos}
end
structure M1 (X : Cx) (o : Expr) (m : Str) (apos : Pos) (e : Expr) (cpos : Pos) : Prop where
  base : attributeBase o m X.env (eval o X.env) = eval o X.env
  few : ((backTo cpos (starEach [e] X.env)).all (fun x => !x.1) && (backToKw cpos (keywordEach [] X.env)).all (fun x => x.1.isSome)
    && decide (([e] : List Expr).length + ([] : List Keyword).length + (if ([] : List Keyword).isEmpty then 0 else 1) < 30)) = true
  line : (apos.endLine == cpos.line) = true
  trees : backTo cpos (starEach [e] X.env) = [(false, eval e X.env)]
section
variable {X : Cx} {pins : List (Addr × Obj)} {σ : St} {H : Hp} {s : Shared} {a : Addr} {y d : V} {u r : Value} {o : Option V} {A : Around} {E : Value → Shared → Prop}
end
section
variable {X : Cx} {o e f : Expr} {apos cpos : Pos} {td ty tx : TE}
end
section
variable {X : Cx} {pins : List (Addr × Obj)} {σ : St} {H : Hp} {s : Shared} {a : Addr} {kvs : List (Key × V)} {A : Around} {E : Value → Shared → Prop}
end
section
variable {X : Cx} {pins : List (Addr × Obj)} {σ : St} {H : Hp} {s : Shared} {a : Addr} {y : V} {u : Value} {A : Around} {E : Value → Shared → Prop}
end
end L2
namespace Att
open PySem PySem.W PySem.Calls PyProof.Rows
theorem ints_of_wellAll {P : Params} {h : Heap} : ∀ (ns : List Int) (vs : List Value), WellAll P h vs (ns.map WData.int) → IntsAre vs ns := by
  intro ns
  induction ns with
  | nil =>
    intro vs w
    rw [List.map_nil] at w
    cases w
    exact .nil
  | cons n ns ih =>
    intro vs w
    rw [List.map_cons] at w
    cases w with
    | cons a b =>
      cases a
      exact .cons _ _ (ih _ b)
theorem script_of {l : OpenLaw} {n : Nat} (hn : l.most = some n) {P : Params} {h : Heap} {args : List WData} {vals : List Value}
    (hpre : l.row.toRowW.claim.pre args = true) (hwl : WellAll P h vals args) :
    ∃ a vs ns, vals = [Value.ref a] ∧ args = [WData.list (ns.map WData.int)] ∧ h.get? a = some { cls := .type "list", data := .seq vs.toArray } ∧ IntsAre vs ns ∧ ns.length ≤ n := by
  have hsh : WShape.hasAll [] args [.list .int] = true := (pre_splitW hpre).1
  have hc : l.pre.holds [] { args := args } = true := (pre_splitW hpre).2
  obtain ⟨d, r, rfl, h1, h2⟩ := hasAllW_cons hsh
  obtain rfl := hasAllW_nil h2
  obtain ⟨xs, rfl, h3⟩ := hasW_list h1
  obtain ⟨ns, rfl⟩ := items_int h3
  have hlen : ns.length ≤ n := by
    unfold OpenLaw.pre at hc
    have h4 : (WTm.not (.lt (.lit (.int (n : Int))) (.len (.arg 0)))).holds [] { args := [.list (ns.map .int)] } = true := by
      have h4 := (holds_andW hc).1
      rw [hn] at h4
      exact h4
    have h5 := condW_of h4 (w_not (w_lt w_lit (w_len_list (w_arg rfl))))
    rw [List.length_map] at h5
    refine Nat.le_of_not_lt fun q => ?_
    have q' : (n : Int) < ((ns.length : Nat) : Int) := by omega
    first
      | (rw [decide_eq_true q'] at h5; exact absurd h5 (by decide))
      | (simp at h5; omega)
  cases hwl with
  | cons w1 w2 =>
    cases w2
    cases w1 with
    | list ho hall => exact ⟨_, _, ns, rfl, rfl, ho, ints_of_wellAll ns _ hall, hlen⟩
theorem post_true (l : OpenLaw) (args : List WData) : l.row.toRowW.claim.post args (.bool true) args = true :=
  postW_of (r := l.row.toRowW) (X := (true == true))
    (show WShape.has [] (.bool true) .bool = true by first | rfl | decide | simp [WShape.has, WShape.arms, WShape.armsAll])
    (show (WTm.eq .res (.lit (.bool true))).value [] { args := args, res := some (.bool true), after := args } = some (.bool (true == true)) from w_eq_bool (w_res rfl) w_lit) rfl
theorem attach_call {l : OpenLaw} {n : Nat} {q : Program} {loose : List Str} {XP : (Str → Option Value) → Heap → Prop} {YP : World → Heap → Prop} {d : DefRec}
    (hn : l.most = some n) (hdf : d.params.defaults = [])
    (call : ∀ (w : World) (s₀ s₁ : Shared) (mg mb : Str → Option Value) (fa : Addr) (o : Obj) (pm cd doc : Value) (a : Addr) (vs : List Value) (ns : List Int),
      Ground q loose [] XP w s₀ mg mb s₁.heap → YP w s₁.heap →
      s₁.heap.get? fa = some o → o.data = .func (docDef d.name d.params d.body d.scope pm cd doc) → s₁.heap.CodeRec cd d.name → mg d.name = some (.ref fa) →
      s₁.heap.get? a = some { cls := .type "list", data := .seq vs.toArray } → IntsAre vs ns → ns.length ≤ n → s₁.gens = #[] →
      codeAny (model l.prog w) callerA (.call (.ref fa) ⟨[.ref a], []⟩) (fun r s' => r = .ok (.ret (.bool true)) ∧ OldK s₁.heap s'.heap ∧ s'.os = s₁.os ∧ AllBare s'.gens) s₁) :
    WalkO q loose XP YP l.row.toRowW d [] (fun f vs => PySem.call f vs) := by
  intro w s₀ s₁ mg mb G Y fa o pm cd doc dV kV ho hd hcd hD hmg hg args vals as hpre hlay hrd hwl hlo
  obtain rfl : dV = .none := Dflts.none hD hdf
  obtain rfl : kV = .none := Dflts.noKw hD
  obtain ⟨a, vs, ns, rfl, rfl, hobj, hints, hlen⟩ := script_of hn hpre hwl
  refine enter_call (codeAny_mono (call w s₀ s₁ mg mb fa o pm cd doc a vs ns G Y ho (fd_plain hd) hcd hmg hobj hints hlen hg) fun r s' hq => ?_)
  obtain ⟨rfl, h2, h3, h4⟩ := hq
  exact ⟨.inl ⟨.bool true, .bool true, [], rfl, fun _ => rfl, .bool true, post_true l _, fun _ => ⟨List.Pairwise.nil, fun _ hm => (nomatch hm)⟩⟩, h2, h3, h4⟩
section
variable {prog : Program} {w : World} {A : Around} {E : Value → Shared → Prop} {s : Shared} {K : Frag}
end
end Att
namespace L2
open PySem PySem.Spec PyProof.Rows
theorem vals_ints : ∀ {vs : List Value} {ns : List Int}, IntsAre vs ns → Vals (ns.map V.int) vs
  | _, _, .nil => .nil
  | _, _, .cons n t h => .cons ⟨t, rfl⟩ (vals_ints h)
def Only (H : Hp) : Prop := ∀ b, H b = none ∨ ∃ o xs, H b = some (.frz o (.lst xs))
theorem law_call {P : Program} {w : World} {K : PySem.W.Frag} {mg mb : Str → Option Value} {CX : CXT} {k : Nat} {fa a : Addr} {fd : FuncData} {x : Str} {sp : Sp} {s₁ : Shared} {vs : List Value} {ns : List Int}
    (KX : K.In s₁.heap) (hns : s₁.heap.Ns mainGlobals mg) (hb : s₁.heap.Ns builtinsNs mb) (hbb : ∀ x : Str, x ≠ "__name__" → mb x = bootBuiltins x) (hlim : s₁.heap.NoLimit) (hg : s₁.gens = #[])
    (ha : s₁.heap.get? a = some { cls := .type "list", data := .seq vs.toArray }) (hi : IntsAre vs ns) (hl : ns.length ≤ sizeLine) (hr : Room k callerA)
    (F : ∀ base : Heap, K.In base → base.Ns mainGlobals mg → FnOk P w K mg base CX k fa fd [x] sp) (hbind : ∀ (s : Shared) (u : Value), BindsTo s fd ⟨[u], []⟩ [(x, u)])
    (hsp : ∀ H : Hp, Only H → SqL K H a (ns.map V.int) → sp [.ref a] H (fun v _ => v = .bl true) fun _ _ _ => False)
    (hCX : ∀ H e s', CX [] H s₁ (fun _ _ _ => False) e s' → False) :
    codeAny (model P w) callerA (.call (.ref fa) ⟨[.ref a], []⟩) (fun r s' => r = .ok (.ret (.bool true)) ∧ OldK s₁.heap s'.heap ∧ s'.os = s₁.os ∧ AllBare s'.gens) s₁ := by
  have rv := vals_ints hi
  have lenV := hi.length
  have core : ∀ H : Hp, Only H → SqL K H a (ns.map V.int) → HOk P w H s₁.heap → (∀ b, H b ≠ none → b = a) → (H a ≠ none → K.lookup a = none) →
      codeAny (model P w) callerA (.call (.ref fa) ⟨[.ref a], []⟩) (fun r s' => r = .ok (.ret (.bool true)) ∧ OldK s₁.heap s'.heap ∧ s'.os = s₁.os ∧ AllBare s'.gens) s₁ := by
    intro H hO hS hok hA hK
    have base_of : ∀ {b : Addr} {o : Obj}, s₁.heap.get? b = some o → H b = none → (hidT s₁.heap H).get? b = some o := fun e n => hidT_get e n
    have noA : ∀ {b : Addr} {o : Obj} {es : Array DictEntry} {ep : Nat}, s₁.heap.get? b = some o → o.data = .dict es ep → H b = none := fun {b o es ep} e d => by
      cases q : H b with
      | none => rfl
      | some u =>
        have e' : b = a := hA b (by rw [q]; simp)
        subst e'
        rw [ha] at e; cases e
        have d' : Data.seq vs.toArray _ = Data.dict es ep := d
        cases d'
    have nsK : ∀ {b : Addr} {m : Str → Option Value}, s₁.heap.Ns b m → (hidT s₁.heap H).Ns b m := fun {b m} ⟨o, es, ep, e, d, r⟩ => ⟨o, es, ep, base_of e (noA e d), d, r⟩
    have hKb : K.In (hidT s₁.heap H) := fun b o e => base_of (KX b o e) (by
      cases q : H b with
      | none => rfl
      | some u =>
        have e' : b = a := hA b (by rw [q]; simp)
        subst e'
        rw [hK (by rw [q]; simp)] at e; cases e)
    have hM : Mod K mg (hidT s₁.heap H) := ⟨hKb, nsK hns, ⟨mb, nsK hb, hbb⟩, let ⟨mc, h1, h2⟩ := hlim; ⟨mc, nsK h1, h2⟩⟩
    have e0 : Env0 P w K mg (hidT s₁.heap H) callerA [] s₁ H := ⟨rfl, hM, fun b o e => of_hidT e, Nat.le_of_eq (hidT_size _ _), trivial, fun b hb => absurd (show b ∈ ([] : List Addr) from hb) (by simp), hok, .of_eq hg⟩
    refine codeAny_mono ((F _ hKb (nsK hns)).run callerA [] s₁ H ⟨[.ref a], []⟩ [.ref a] [.ref a] _ _ hr e0 (hbind s₁ (.ref a)) (.cons rfl .nil) (hsp H hO hS)) fun r s' h => ?_
    cases r with
    | error e => exact (hCX H e s' h).elim
    | ok fl =>
      cases fl with
      | next => exact False.elim h
      | brk => exact False.elim h
      | cont => exact False.elim h
      | ret u =>
        obtain ⟨v, H', os, bare, un, hok', r', q⟩ := h
        have q' : v = .bl true := q
        subst q'
        obtain rfl : u = Value.bool true := r'
        refine ⟨rfl, OldK.of_keep fun b o e => ?_, os, bare⟩
        cases q : H b with
        | none => exact un.keep b o e q (by intro z; exact absurd (show b ∈ ([] : List Addr) from z) (by simp)) (by simp)
        | some u =>
          rcases hO b with z | ⟨ob, xs, z⟩
          · rw [q] at z; cases z
          · have z2 := un.frzs b ob _ z
            obtain ⟨e1, _⟩ := hok b _ z
            obtain ⟨e2, _⟩ := hok' b _ z2
            rw [e] at e1; cases e1
            exact e2
  cases hk : K.lookup a with
  | some o =>
    have e := KX a o hk
    rw [ha] at e
    cases e
    refine core (fun _ => none) (fun _ => .inl rfl) (.inr ⟨_, vs.toArray, _, hk, rfl, rfl, rfl, by rw [List.size_toArray, lenV]; exact hl, by simpa using rv⟩) (fun b u z => by have z' : (none : Option HO) = some u := z; cases z') (fun b z => absurd rfl z) fun z => absurd rfl z
  | none =>
    refine core (fun b => if b = a then some (.frz { cls := .type "list", data := .seq vs.toArray } (.lst (ns.map V.int))) else none) (fun b => ?_) (.inl (.inr ⟨{ cls := .type "list", data := .seq vs.toArray }, if_pos rfl⟩)) (fun b u z => ?_) (fun b z => ?_) fun _ => hk
    · by_cases hb : b = a
      · exact .inr ⟨_, _, if_pos hb⟩
      · exact .inl (if_neg hb)
    · by_cases hb : b = a
      · have z' := (if_pos hb).symm.trans z
        cases z'
        subst hb
        exact ⟨ha, by rw [List.length_map]; exact hl, vs, _, rv, ha⟩
      · have z' := (if_neg hb).symm.trans z
        cases z'
    · by_cases hb : b = a
      · exact hb
      · exact absurd (if_neg hb) z
end L2
namespace L2
open PySem PySem.Spec PyProof.Rows
theorem walk_of {l : PySem.W.OpenLaw} {n k : Nat} {q : Program} {loose : List Str} {XP : (Str → Option Value) → Heap → Prop} {YP : World → Heap → Prop} {d : DefRec} {K : Params → PySem.W.Frag} {CX : World → CXT} {sp : World → Sp} {x : Str}
    (hn : l.most = some n) (hn2 : n ≤ sizeLine) (hdf : d.params.defaults = []) (hr : Room k callerA)
    (hY : ∀ (w : World) (h : Heap), YP w h → (K w.params).In h)
    (F : ∀ (w : World) (mg : Str → Option Value) (fa : Addr) (h : Heap), (K w.params).In h → h.Ns mainGlobals mg → mg d.name = some (.ref fa) →
      ∃ fd : FuncData, (∀ (s : Shared) (u : Value), BindsTo s fd ⟨[u], []⟩ [(x, u)]) ∧
        ∀ base : Heap, (K w.params).In base → base.Ns mainGlobals mg → FnOk l.prog w (K w.params) mg base (CX w) k fa fd [x] (sp w))
    (hsp : ∀ (w : World) (H : Hp) (a : Addr) (ns : List Int), ns.length ≤ n → Only H → SqL (K w.params) H a (ns.map V.int) → sp w [.ref a] H (fun v _ => v = .bl true) fun _ _ _ => False)
    (hCX : ∀ (w : World) (H : Hp) (s : Shared) (e : Value) (s' : Shared), CX w [] H s (fun _ _ _ => False) e s' → False) :
    PySem.W.WalkO q loose XP YP l.row.toRowW d [] (fun f vs => PySem.call f vs) := by
  refine Att.attach_call hn hdf fun w s₀ s₁ mg mb fa o pm cd doc a vs ns G Y ho hd hcd hmg hobj hints hlen hg => ?_
  have KX := hY w _ Y
  obtain ⟨fd, hb, hF⟩ := F w mg fa _ KX G.T.g hmg
  exact law_call KX G.T.g G.T.b G.T.builtins G.T.nolimit hg hobj hints (Nat.le_trans hlen hn2) hr hF hb (fun H hO hS => hsp w H a ns hlen hO hS) fun H e s' => hCX w H s₁ e s'
end L2
namespace L2
open PySem PySem.Spec PyProof.Rows
def defArgs (s : Stmt) : Arguments := match s with
  | .FunctionDef _ a _ _ _ _ _ _ _ _ => a
  | _ => { posonlyargs := [], args := [], vararg := none, kwonlyargs := [], kw_defaults := [], kwarg := none, defaults := [] }
def defBody (s : Stmt) : List Stmt := match s with
  | .FunctionDef _ _ b _ _ _ _ _ _ _ => b
  | _ => []
def defScope (s : Stmt) : Scope := match s with
  | .FunctionDef _ _ _ _ _ _ sc _ _ _ => sc
  | _ => { kind := .function, names := [], isGenerator := false, isCoroutine := false }
abbrev CX0 : CXT := fun _ _ _ _ _ _ => False
abbrev E0 : XK := fun _ _ _ => False
theorem pass0 {X : Cx} : Passes CX0 X E0 := fun _ _ _ _ _ _ _ h => h.elim
structure Fun (K : PySem.W.Frag) (x qual : Str) (st : Stmt) (f : Addr) (fd : FuncData) : Prop where
  ex : ∃ (oc : Value) (od : Option Addr) (kV doc pm : Value) (an : Option Addr) (cdv ct : Value) (osl : Array (Option Value)),
    fd = PySem.W.fnOf x qual (defArgs st) (defBody st) (defScope st) .none kV doc pm an cdv ct ∧ K.lookup f = some ⟨oc, od, .func fd, osl⟩ ∧ PySem.W.codeIn K cdv qual = true
  kp : PySem.W.keepIn K (.ref f) = true
section
variable {P : Program} {w : World} {K : PySem.W.Frag} {mg : Str → Option Value} {base : Heap}
theorem Fun.ok {x qual : Str} {st : Stmt} {f : Addr} {fd : FuncData} {N ps : List Str} {k : Nat} {sp : Sp} (F : Fun K x qual st f fd) (S : FnScope N ps (defScope st)) (len : ∀ vs H Q E, sp vs H Q E → vs.length = ps.length)
    (hbody : ∀ (cdv : Value) (A : Around) (outer : List Env) (s : Shared) (H : Hp) (vs : List V) (Q : VK) (E : XK), Room k (A.deeper (envOfC qual (defScope st) s.heap.objs.size f cdv)) → sp vs H Q E →
      ∃ t, PSs (cxOf CX0 P w K mg base N qual (defScope st) f cdv A outer s H E).nox (defBody st) t ∧ t { nx := fun _ H' => Q .non H', rt := Q } (start N vs) H) : FnOk P w K mg base CX0 (k + 1) f fd ps sp := by
  obtain ⟨oc, od, kV, doc, pm, an, cdv, ct, osl, rfl, lk, hcd⟩ := F.ex
  refine fn_of lk hcd S len fun A outer s H vs Q E hr hsp => ?_
  obtain ⟨t, h, q⟩ := hbody cdv A outer s H vs Q E hr hsp
  exact ⟨t, h.nox, q⟩
theorem Fun.binds {x qual : Str} {st : Stmt} {f : Addr} {fd : FuncData} {ps : List Str} (F : Fun K x qual st f fd)
    (h : ∀ (kV doc pm : Value) (an : Option Addr) (cdv ct : Value) (us : List Value), us.length = ps.length → bindArgs (PySem.W.fnOf x qual (defArgs st) (defBody st) (defScope st) .none kV doc pm an cdv ct) ⟨us, []⟩ = pure (ps.zip us)) : Binds K fd ps [] := by
  obtain ⟨oc, od, kV, doc, pm, an, cdv, ct, osl, rfl, lk, hcd⟩ := F.ex
  exact .all (h kV doc pm an cdv ct)
theorem fun_mk {x qual : Str} {st : Stmt} {f : Addr} {oc : Value} {od an : Option Addr} {osl : Array (Option Value)} {kV doc pm cdv ct : Value} (l : K.lookup f = some ⟨oc, od, .func (PySem.W.fnOf x qual (defArgs st) (defBody st) (defScope st) .none kV doc pm an cdv ct), osl⟩)
    (c : PySem.W.codeIn K cdv qual = true) (k : PySem.W.keepIn K (.ref f) = true) : Fun K x qual st f (PySem.W.fnOf x qual (defArgs st) (defBody st) (defScope st) .none kV doc pm an cdv ct) := ⟨⟨oc, od, kV, doc, pm, an, cdv, ct, osl, rfl, l, c⟩, k⟩
end
theorem hu_of {A : Around} {k : Nat} (hr : Room k A) : A.units + 1 < cLine := Nat.lt_of_le_of_lt (Nat.add_le_add_left (by decide : 1 ≤ 64) _) hr.units
section
variable {X : Cx}
theorem pv (i : Nat) {x : Str} {pos : Pos} (hN : X.N[i]? = some x := by rfl) (hv : Vis X.env.scope x := by first | exact Or.inl rfl | exact Or.inr (Or.inl rfl) | exact Or.inr (Or.inr rfl)) (hd : (x == ("__debug__" : Str)) = false := by decide)
    (hcd : (x == ("__classdict__" : Str)) = false := by decide) : PE X (.Name x pos) (tVar i) := pe_var hN hv hd hcd
theorem call_lenD : CallR X (.builtin "len") (fun xs H Q => ∃ a kvs, xs = [V.ref a] ∧ H a = some (.dK kvs) ∧ Q (.int kvs.length) H) := by
  intro pins s σ H xs us Q I r h
  obtain ⟨a, kvs, rfl, ha, q⟩ := h
  obtain ⟨u, rfl, ru⟩ := vals1 r
  cases ru
  exact d_len I (.inl ha) fun t s' I' => ⟨.int kvs.length, H, I', ⟨t, rfl⟩, q⟩
end
theorem ite2 {c A B : Prop} [Decidable c] (h1 : c → A) (h2 : ¬ c → B) : if c then A else B := by
  by_cases h : c
  · rw [if_pos h]
    exact h1 h
  · rw [if_neg h]
    exact h2 h
def Same (H H' : Hp) : Prop := ∀ b o, H b = some o → H' b = some o
theorem Same.refl (H : Hp) : Same H H := fun _ _ h => h
theorem Same.trans {H H1 H2 : Hp} (a : Same H H1) (b : Same H1 H2) : Same H H2 := fun c o h => b c o (a c o h)
theorem Same.free {H H' : Hp} (e : Same H H') {l : Addr} (h : H' l = Option.none) : H l = Option.none := by
  cases q : H l with
  | none => rfl
  | some o =>
    rw [e l o q] at h
    cases h
theorem Same.seq {K : PySem.W.Frag} {H H' : Hp} {a : Addr} {xs : List V} (e : Same H H') (h : SqL K H a xs) : SqL K H' a xs := by
  rcases h with (h | ⟨o, h⟩) | h
  · exact .inl (.inl (e _ _ h))
  · exact .inl (.inr ⟨o, e _ _ h⟩)
  · exact .inr h
section
variable {κ : Type} [DecidableEq κ]
end
end L2
set_option Elab.async false
set_option linter.all false
set_option maxRecDepth 100000
namespace L2
open PySem PySem.Spec PyProof.Rows
theorem closureFor_go {env : Env} : ∀ (names : List (Str × NameKind)) (acc : List (Str × Addr)), (∀ y ∈ names, y.2 = .free → ∃ c, env.cells.lookup y.1 = some c) → (∀ x c, acc.lookup x = some c → env.cells.lookup x = some c) →
    ∃ cl, (forIn names acc (fun x r => if (x.2 == NameKind.free) = true then do let c ← cellOf env x.1; pure (ForInStep.yield ((x.1, c) :: r)) else pure (ForInStep.yield r)) : Sem _) = pure cl ∧
      (∀ x c, cl.lookup x = some c → env.cells.lookup x = some c) ∧ (∀ x, ((x, NameKind.free) ∈ names ∨ ∃ c, acc.lookup x = some c) → ∃ c, cl.lookup x = some c) := by
  intro names
  induction names with
  | nil => intro acc h ha; exact ⟨acc, rfl, ha, fun x hx => by simpa using hx⟩
  | cons y r ih =>
    intro acc h ha
    obtain ⟨n, k⟩ := y
    have hr : ∀ y ∈ r, y.2 = .free → ∃ c, env.cells.lookup y.1 = some c := fun y hy => h y (List.mem_cons_of_mem _ hy)
    rw [List.forIn_cons]
    by_cases hk : k = .free
    · subst hk
      obtain ⟨c, hc⟩ := h (n, .free) List.mem_cons_self rfl
      have e : cellOf env n = pure c := by unfold cellOf; rw [hc]
      obtain ⟨cl, e1, a, b⟩ := ih ((n, c) :: acc) hr (fun x c' hx => by
        rw [List.lookup_cons] at hx
        cases hxn : x == n with
        | true =>
          rw [hxn] at hx
          cases hx
          rw [eq_of_beq hxn]
          exact hc
        | false =>
          rw [hxn] at hx
          exact ha x c' hx)
      refine ⟨cl, ?_, a, fun x hx => b x ?_⟩
      · rw [← e1]
        show (if (NameKind.free == NameKind.free) = true then (cellOf env n >>= _) else _) >>= _ = _
        rw [if_pos (show (NameKind.free == NameKind.free) = true from rfl), e]
        rfl
      · rcases hx with hx | ⟨c', hx⟩
        · rcases List.mem_cons.mp hx with e2 | hx
          · have e3 : x = n := congrArg Prod.fst e2
            exact .inr ⟨c, by rw [List.lookup_cons, e3]; simp⟩
          · exact .inl hx
        · refine .inr ?_
          rw [List.lookup_cons]
          cases x == n with
          | true => exact ⟨c, rfl⟩
          | false => exact ⟨c', hx⟩
    · obtain ⟨cl, e1, a, b⟩ := ih acc hr ha
      refine ⟨cl, ?_, a, fun x hx => b x ?_⟩
      · rw [← e1]
        have hb : (k == NameKind.free) = false := by simpa using hk
        show (if (k == NameKind.free) = true then _ else _) >>= _ = _
        rw [if_neg (by rw [hb]; simp)]
        rfl
      · rcases hx with hx | hx
        · rcases List.mem_cons.mp hx with e2 | hx
          · exact absurd (congrArg Prod.snd e2).symm hk
          · exact .inl hx
        · exact .inr hx
theorem closureFor_some {scope : Scope} {env : Env} (h : ∀ y ∈ scope.names, y.2 = .free → ∃ c, env.cells.lookup y.1 = some c) :
    ∃ cl, closureFor scope env = pure cl ∧ (∀ x c, cl.lookup x = some c → env.cells.lookup x = some c) ∧ (∀ x, (x, NameKind.free) ∈ scope.names → ∃ c, cl.lookup x = some c) := by
  obtain ⟨cl, e, a, b⟩ := closureFor_go scope.names [] h (by intro x c e; cases e)
  refine ⟨cl, ?_, a, fun x hx => b x (.inl hx)⟩
  unfold closureFor
  exact congrArg (fun m => m >>= fun x => pure x) e
def cpN (N own : List Str) (cap : List Nat) : List Str := own ++ cap.map fun j => N.getD j ""
def cpSt (own : List Str) (cap : List Nat) (σ : St) : St := own.map (fun _ => none) ++ cap.map fun j => σ.getD j none
structure CpScope (N : List Str) (osc sc : Scope) (own : List Str) (cap : List Nat) : Prop where
  kind : sc.kind = .function
  names : ∀ x ∈ sc.names, x.2 = .local → sc.names.lookup x.1 = some .local
  nocell : ∀ y ∈ sc.names, y.2 ≠ .cell
  free : ∀ y ∈ sc.names, y.2 = .free → osc.names.lookup y.1 = some .cell ∨ osc.names.lookup y.1 = some .free
  cap : ∀ j ∈ cap, j < N.length ∧ sc.names.lookup (N.getD j "") = some .free
def cxComp (X : Cx) (sc : Scope) (own : List Str) (cap : List Nat) (cl : List (Str × Addr)) (C : Addr) (s : Shared) (H : Hp) (fp : List Addr) (pins : List (Addr × Obj)) : Cx :=
  { X with N := cpN X.N own cap, s₀ := s, H₀ := H, env := compEnvC sc cl C X.env, outer := X.stack, ex := fp, fn := fun _ => false, pn := X.pn ++ pins, xe := fun _ _ => False }
def PTs (X : Cx) (ifs : List Expr) (tt : TT) : Prop :=
  ∀ (pins : List (Addr × Obj)) (s : Shared) (σ : St) (H : Hp) (Q : Bool → Hp → Prop), Inv X pins σ H s → tt σ H Q →
    wpAny (model X.prog X.w) X.A (forIn ifs true fun c r => if r = true then do let ok ← isTrue c X.env (eval c X.env); pure (ForInStep.yield ok) else pure (ForInStep.yield r)) (TP X pins σ Q) X.xe s
def tYes : TT := fun _ H Q => Q true H
theorem pts_nil {X : Cx} : PTs X [] tYes := fun _ _ _ H _ I h => wpAny_tests_nil ⟨H, I, h⟩
theorem pts_one {X : Cx} {c : Expr} {tt : TT} (h : PT X c tt) : PTs X [c] tt := fun pins s σ H Q I hq => wpAny_tests_one (h pins s σ H Q I hq)
def GOwn (n : Nat) (g : TG) : Prop := ∀ v σ H Q, g v σ H Q → g v σ H fun σ' H' => (σ'.length = σ.length ∧ ∀ j, n ≤ j → σ'[j]? = σ[j]?) ∧ Q σ' H'
theorem gown_name {n i : Nat} (h : i < n) : GOwn n (gName i) := fun v σ H Q q => ⟨⟨by simp, fun j hj => by rw [List.getElem?_set_ne (by omega)]⟩, q⟩
def tComp (own : List Str) (cap : List Nat) (wi : TI) (g : TG) (tt : TT) (te : TE) : TE := fun σ H Q => wi σ H fun J H1 => ∃ W : Nat → Nat → List V → Hp → Prop, (∃ m, W 0 m [] H1) ∧ ∀ i m acc H, W i m acc H → acc.length ≤ sizeLine ∧
  ((J.stop i H ∧ ∀ p, H p = none → Q (.ref p) (upd H p (.lst acc))) ∨
   (J.go i H ∧ acc.length < sizeLine ∧ ∃ N : List V → Hp → Prop, (∀ acc' H', N acc' H' → ∃ m', m' < m ∧ W (i + 1) m' acc' H') ∧ ∀ x H', J.yld i H x H' → g x (cpSt own cap σ) H' fun σ2 H2 => tt σ2 H2 fun b H3 => if b = true then te σ2 H3 fun y H4 => N (acc ++ [y]) H4 else N acc H3))
section
variable {prog : Program} {w : World} {A : Around} {R : Result → Shared → Prop} {s : Shared}
theorem codeAny_compLoop_go {elt target iter : Expr} {ifs : List Expr} {scope : Scope} {pos : Pos} {it acc : Value} {env : Env} (I : Nat → Shared → Prop)
    (turn : ∀ n s, I n s → wpAny (model prog w) A (pyNext it) (fun r s₁ => match r with
      | none => R (.ok .next) s₁
      | some v => wpAny (model prog w) A (letOwnedTupleGo target it v) (fun _ s₁' => wpAny (model prog w) A (assign target env v) (fun _ s₂ =>
          wpAny (model prog w) A (forIn ifs true fun c r => if r = true then do let ok ← isTrue c env (eval c env); pure (ForInStep.yield ok) else pure (ForInStep.yield r)) (fun ok s₃ =>
            if ok = true then wpAny (model prog w) A (eval elt env) (fun x s₄ =>
              wpAny (model prog w) A (call (.builtin "list.append") [acc, x]) (fun _ s₅ => ∃ m, m < n ∧ I m s₅) (fun _ _ => False) s₄) (fun _ _ => False) s₃
            else ∃ m, m < n ∧ I m s₃) (fun _ _ => False) s₂) (fun _ _ => False) s₁') (fun _ _ => False) s₁) (fun _ _ => False) s)
    (n : Nat) (h : I n s) :
    codeAny (model prog w) A (.compLoop (.ListComp elt [⟨target, iter, ifs, 0⟩] scope pos) 0 it acc env) R s := by
  refine codeAny_loop rfl I (fun n s hI => ?_) n h
  show wpAny _ A ((compTurn (.ListComp elt [⟨target, iter, ifs, 0⟩] scope pos) 0 it acc env).onRaise (fun x => do noteFrame x env; theTreesLotGoes x)) _ _ s
  refine wpAny_noted ?_
  rw [compTurn_list]
  refine wpAny_bind (wpAny_standAt (wpAny_bind (wpAny_mono (turn n s hI) (fun r s₁ h₁ => ?_) fun _ _ h' => h'.elim)))
  cases r with
  | none => exact wpAny_pure h₁
  | some v =>
    refine wpAny_bind (wpAny_mono h₁ (fun _ s₁' h₁' => ?_) fun _ _ h' => h'.elim)
    refine wpAny_bind (wpAny_mono h₁' (fun _ s₂ h₂ => wpAny_bind (wpAny_mono h₂ (fun ok s₃ h₃ => ?_) fun _ _ h' => h'.elim)) fun _ _ h' => h'.elim)
    cases ok with
    | false => exact wpAny_pure ⟨rfl, h₃⟩
    | true =>
      exact wpAny_bind (wpAny_bind (wpAny_mono h₃ (fun x s₄ h₄ => wpAny_bind (wpAny_mono h₄ (fun _ s₅ h₅ => wpAny_pure (wpAny_pure ⟨rfl, h₅⟩)) fun _ _ h' => h'.elim)) fun _ _ h' => h'.elim))
end
section
variable {X : Cx}
theorem cpSt_some {own : List Str} {cap : List Nat} {σ : St} {i : Nat} {v : V} (h : (cpSt own cap σ)[i]? = some (some v)) : own.length ≤ i ∧ ∃ j, cap[i - own.length]? = some j ∧ σ[j]? = some (some v) := by
  unfold cpSt at h
  by_cases hi : i < own.length
  · rw [List.getElem?_append_left (by simpa using hi), List.getElem?_map] at h
    cases e : own[i]? with
    | none => rw [e] at h; cases h
    | some a => rw [e] at h; cases h
  · have hi' : own.length ≤ i := by omega
    rw [List.getElem?_append_right (by simpa using hi'), List.length_map, List.getElem?_map] at h
    refine ⟨hi', ?_⟩
    cases e : cap[i - own.length]? with
    | none => rw [e] at h; cases h
    | some j =>
      rw [e] at h
      have h2 : σ.getD j none = some v := Option.some.inj h
      refine ⟨j, rfl, ?_⟩
      rw [List.getD_eq_getElem?_getD] at h2
      cases e2 : σ[j]? with
      | none => rw [e2] at h2; cases h2
      | some o => rw [e2] at h2; simp at h2; rw [h2]
theorem lookup_relabel {env : Env} {x : Str} {k : NameKind} : ∀ {names : List (Str × NameKind)}, names.lookup x = some k →
    (names.map fun (n, k) => if (k == NameKind.free && env.scope.kind == .function && env.kindOf n == some .cell) then (n, NameKind.cell) else (n, k)).lookup x = some (if (k == NameKind.free && env.scope.kind == .function && env.kindOf x == some .cell) = true then .cell else k)
  | [], h => by simp at h
  | (n, k') :: r, h => by
    have ih := @lookup_relabel env x k r
    show List.lookup x ((if (k' == NameKind.free && env.scope.kind == .function && env.kindOf n == some .cell) = true then (n, NameKind.cell) else (n, k')) :: _) = _
    cases hx : x == n with
    | true =>
      simp only [List.lookup_cons, hx] at h
      cases h
      have e := eq_of_beq hx
      subst e
      by_cases hc : (k == NameKind.free && env.scope.kind == .function && env.kindOf x == some .cell) = true
      · rw [if_pos hc, if_pos hc]; simp [List.lookup_cons]
      · rw [if_neg hc, if_neg hc]; simp [List.lookup_cons]
    | false =>
      simp only [List.lookup_cons, hx] at h
      by_cases hc : (k' == NameKind.free && env.scope.kind == .function && env.kindOf n == some .cell) = true
      · rw [if_pos hc]; simp only [List.lookup_cons, hx]; exact ih h
      · rw [if_neg hc]; simp only [List.lookup_cons, hx]; exact ih h
theorem lookup_relabel_free {env : Env} {x : Str} : ∀ {names : List (Str × NameKind)}, (∀ y ∈ names, y.2 ≠ .cell) →
    ((names.map fun (n, k) => if (k == NameKind.free && env.scope.kind == .function && env.kindOf n == some .cell) then (n, NameKind.cell) else (n, k)).lookup x = some .cell ∨
     (names.map fun (n, k) => if (k == NameKind.free && env.scope.kind == .function && env.kindOf n == some .cell) then (n, NameKind.cell) else (n, k)).lookup x = some .free) → (x, NameKind.free) ∈ names
  | [], _, h => by simp at h
  | (n, k') :: r, hn, h => by
    have ih := @lookup_relabel_free env x r fun y hy => hn y (List.mem_cons_of_mem _ hy)
    have hk' : k' ≠ .cell := hn (n, k') List.mem_cons_self
    have h : List.lookup x ((if (k' == NameKind.free && env.scope.kind == .function && env.kindOf n == some .cell) = true then (n, NameKind.cell) else (n, k')) :: _) = some .cell ∨
      List.lookup x ((if (k' == NameKind.free && env.scope.kind == .function && env.kindOf n == some .cell) = true then (n, NameKind.cell) else (n, k')) :: _) = some .free := h
    cases hx : x == n with
    | true =>
      have e := eq_of_beq hx
      subst e
      by_cases hc : (k' == NameKind.free && env.scope.kind == .function && env.kindOf x == some .cell) = true
      · have : k' = .free := by
          rw [Bool.and_eq_true, Bool.and_eq_true] at hc
          exact eq_of_beq hc.1.1
        rw [this]
        exact List.mem_cons_self
      · rw [if_neg hc] at h
        simp [List.lookup_cons] at h
        rcases h with h | h
        · exact absurd h hk'
        · rw [h]; exact List.mem_cons_self
    | false =>
      by_cases hc : (k' == NameKind.free && env.scope.kind == .function && env.kindOf n == some .cell) = true
      · rw [if_pos hc] at h; simp only [List.lookup_cons, hx] at h; exact List.mem_cons_of_mem _ (ih h)
      · rw [if_neg hc] at h; simp only [List.lookup_cons, hx] at h; exact List.mem_cons_of_mem _ (ih h)
end
end L2
set_option Elab.async false
set_option linter.all false
set_option maxRecDepth 100000
namespace L2
open PySem PySem.Spec PyProof.Rows
theorem addr_ne {a b : Addr} {n : Nat} (h1 : a < n) (h2 : n ≤ b) : a ≠ b := Nat.ne_of_lt (Nat.lt_of_lt_of_le h1 h2)
section
variable {X : Cx} {pins : List (Addr × Obj)} {σ : St} {H : Hp} {s : Shared} {sc : Scope} {own : List Str} {cap : List Nat} {cl : List (Str × Addr)} {C : Addr} {fp : List Addr}
theorem cx_ok (S : CpScope X.N X.env.scope sc own cap) (cl1 : ∀ x c, cl.lookup x = some c → X.env.cells.lookup x = some c) (cl2 : ∀ x, (x, NameKind.free) ∈ sc.names → ∃ c, cl.lookup x = some c)
    (I : Inv X pins σ H s) (f : ∀ b ∈ fp, FpOk X pins H b) (live : ∀ b ∈ fp, b < s.heap.objs.size) (hC : s.heap.objs.size ≤ C) : (cxComp X sc own cap cl C s H fp pins).Ok where
  mod := I.ok.mod
  kind := S.kind
  glob := I.ok.glob
  blt := I.ok.blt
  above := hC
  inj := fun x y c h1 h2 => I.ok.inj x y c (cl1 x c h1) (cl1 y c h2)
  has := fun x hx => cl2 x (lookup_relabel_free S.nocell hx)
  cab := fun x c h => by cases h
  hd := I.ok.hd
  frames := I.ok.frames
  stk := .inl rfl
  exf := fun b hb => ⟨fun z => addr_ne (live b hb) hC z, fun x c e => (f b hb).2.2.2.2.1 x c (cl1 x c e)⟩
  bs := I.bs
  bsz := Nat.le_trans I.ok.bsz I.sz
  noex := fun b o e hb => by
    rcases (f b hb).2.2.2.1 with z | z
    · exact I.ok.noex b o e z
    · exact addr_ne (Nat.lt_of_lt_of_le (Heap.lt_size e) I.ok.bsz) z rfl
  exfs := fun b hb z => by
    rcases List.mem_cons.mp (I.stkSub b z) with q | q
    · exact (f b hb).2.1 q
    · exact (f b hb).2.2.1 q
  funs := I.stack
  frf := I.stkFree
theorem cx_inv (S : CpScope X.N X.env.scope sc own cap) (cl1 : ∀ x c, cl.lookup x = some c → X.env.cells.lookup x = some c) (cl2 : ∀ x, (x, NameKind.free) ∈ sc.names → ∃ c, cl.lookup x = some c)
    (I : Inv X pins σ H s) (ok : (cxComp X sc own cap cl C s H fp pins).Ok) (hC : s.heap.objs.size ≤ C) {h₁ : Heap} {tk : Nat} {m : Str → Option Value} (hns : h₁.Ns C m) (old : ∀ b o, s.heap.get? b = some o → h₁.get? b = some o) :
    Inv (cxComp X sc own cap cl C s H fp pins) [] (cpSt own cap σ) H { s with heap := h₁, toks := tk } := by
  have cellK : ∀ x c v, X.env.cells.lookup x = some c → s.heap.IsCell c v → h₁.IsCell c v := fun x c v _ z => by
    obtain ⟨o, ho, hd⟩ := z
    exact ⟨o, old c o ho, hd⟩
  refine ⟨ok, rfl, I.bare, Un.kept old, ⟨m, hns, fun i x v e1 e2 e3 => ?_⟩, fun x c e => ?_, I.hok.fresh hC, fun x c e => I.freeC x c (cl1 x c e), fun p hp => ?_, I.hok.kept old, ?_⟩
  · have e1 : (cpN X.N own cap)[i]? = some x := e1
    obtain ⟨hi, j, hj, hσ⟩ := cpSt_some e2
    unfold cpN at e1
    rw [List.getElem?_append_right hi, List.getElem?_map, hj] at e1
    have e1 : X.N.getD j "" = x := Option.some.inj e1
    obtain ⟨hjl, hfr⟩ := S.cap j (List.mem_of_getElem? hj)
    have hx : X.N[j]? = some x := by rw [← e1, List.getD_eq_getElem?_getD]; simp [hjl]
    rw [e1] at hfr
    have hfree := S.free (x, .free) (PySem.mem_of_lookup hfr) rfl
    obtain ⟨m0, _, hl⟩ := I.loc
    obtain ⟨u, r, l⟩ := hl j x v hx hσ (.inr hfree)
    refine ⟨u, r, ?_⟩
    rcases l with ⟨k, _⟩ | ⟨k, c, hc, z⟩
    · have k : X.env.scope.names.lookup x = some .local := k
      rcases hfree with q | q <;> (rw [q] at k; cases k)
    · obtain ⟨c', hc'⟩ := cl2 x (PySem.mem_of_lookup hfr)
      have e4 := cl1 x c' hc'
      rw [hc] at e4
      cases e4
      refine .inr ⟨?_, c, hc', cellK x c _ hc z⟩
      have q := lookup_relabel (env := X.env) hfr
      show (relabel sc X.env).names.lookup x = some .cell ∨ (relabel sc X.env).names.lookup x = some .free
      have q' : (relabel sc X.env).names.lookup x = some (if (NameKind.free == NameKind.free && X.env.scope.kind == .function && X.env.kindOf x == some .cell) = true then .cell else .free) := q
      rw [q']
      split
      · exact .inl rfl
      · exact .inr rfl
  · obtain ⟨v, z⟩ := I.cell x c (cl1 x c e)
    exact ⟨v, cellK x c v (cl1 x c e) z⟩
  · have hp : p ∈ (X.pn ++ pins) ++ [] := hp
    rw [List.append_nil] at hp
    obtain ⟨e, n, ne, nf, d⟩ := I.pin p hp
    refine ⟨old _ _ e, n, fun z => ?_, fun z => ?_, d⟩
    · exact addr_ne (Heap.lt_size e) hC z
    · rcases List.mem_cons.mp (I.stkSub p.1 z) with q | q
      · exact ne q
      · exact nf q
  · show (cpSt own cap σ).length = (cpN X.N own cap).length
    unfold cpSt cpN
    simp
theorem cx_back (I : Inv X pins σ H s) (f : ∀ b ∈ fp, FpOk X pins H b) (hC : s.heap.objs.size ≤ C) {D : Addr} (hD : s.heap.objs.size ≤ D) (hDC : D ≠ C) {σ' : St} {pl : List (Addr × Obj)} {H' : Hp} {s' : Shared} {acc : List V} {its : List Value} {nn : Nat}
    (J : Inv (cxComp X sc own cap cl C s H fp pins) pl σ' H' s') (hDn : H' D = none) (hDo : s'.heap.get? D = some { cls := .type "list", data := .seq its.toArray nn }) (hv : Vals acc its) (hz : acc.length ≤ sizeLine) :
    Inv X pins σ (upd H' D (.lst acc)) s' ∧ (∃ m, s'.heap.Ns C m) ∧ FpOk X pins (upd H' D (.lst acc)) C := by
  have u : Un (frs X.stack) fp H H' s.heap s'.heap := J.base
  have lt : ∀ b o, s.heap.get? b = some o → b ≠ D := fun b o e z => addr_ne (Heap.lt_size e) hD z
  have trk : ∀ b o, H b = some o → b ≠ D := fun b o e z => addr_ne (I.hok.lt e) hD z
  have CH : H' C = none := J.free
  refine ⟨I.call' (ch := fp) J.os ⟨u.keep, u.slot, fun b o e n hx => by rw [upd_ne (lt b o e)]; exact u.free b o e n hx, u.there, fun b xs e => by rw [upd_ne (trk b _ e)]; exact u.tups b xs e, fun b o xs e => by rw [upd_ne (trk b _ e)]; exact u.frzs b o xs e, fun b ps e => by rw [upd_ne (trk b _ e)]; exact u.tbls b ps e⟩ (fun b o e => ?_) J.bare fun b hb => ?_, ?_, ?_⟩
  · by_cases hb : b = D
    · subst hb
      rw [upd_same] at e
      cases e
      exact ⟨hz, its, nn, hv, hDo⟩
    · rw [upd_ne hb] at e
      refine (J.hok b o e).stay (fun c v _ q => q) (fun c q => ?_) fun c xs q => ?_
      · rw [upd_ne (ne_of_none q hDn)]; exact q
      · rw [upd_ne (ne_of_none q hDn)]; exact q
  · obtain ⟨f0, f1, f2, f3, f4, f5⟩ := f b hb
    exact ⟨f3, f1, f4, f5⟩
  · obtain ⟨m, hn, _⟩ := J.loc
    exact ⟨m, hn⟩
  · refine I.fpOk hC ?_
    rw [upd_ne (Ne.symm hDC)]
    exact CH
theorem comp_block {elt tg iter : Expr} {ifs : List Expr} {pos : Pos} {g : TG} {tt : TT} {te : TE} {E : Value → Shared → Prop}
    {it : Addr} {tn : Nat → Heap → Prop} {J : It} {Q : VK} {RR : Value → Addr → Result → Shared → Prop}
    (hc : X.calm = true) (S : CpScope X.N X.env.scope sc own cap) (hown : GOwn own.length g)
    (cl1 : ∀ x c, cl.lookup x = some c → X.env.cells.lookup x = some c) (cl2 : ∀ x, (x, NameKind.free) ∈ sc.names → ∃ c, cl.lookup x = some c)
    (hb : ∀ cl C s H fp pins, PG (cxComp X sc own cap cl C s H fp pins) tg g ∧ PTs (cxComp X sc own cap cl C s H fp pins) ifs tt ∧ PE (cxComp X sc own cap cl C s H fp pins) elt te)
    (I : Inv X pins σ H s) (T : Turn X.prog X.w X.K tg J fp it tn) (st : tn 0 s.heap) (f : ∀ b ∈ fp, FpOk X pins H b)
    (W : Nat → Nat → List V → Hp → Prop) (w0 : ∃ m, W 0 m [] H)
    (turn : ∀ i m acc H, W i m acc H → acc.length ≤ sizeLine ∧ ((J.stop i H ∧ ∀ p, H p = none → Q (.ref p) (upd H p (.lst acc))) ∨ (J.go i H ∧ acc.length < sizeLine ∧ ∃ N : List V → Hp → Prop, (∀ acc' H', N acc' H' → ∃ m', m' < m ∧ W (i + 1) m' acc' H') ∧ ∀ x H', J.yld i H x H' → g x (cpSt own cap σ) H' fun σ2 H2 => tt σ2 H2 fun b H3 => if b = true then te σ2 H3 fun y H4 => N (acc ++ [y]) H4 else N acc H3)))
    (hRR : ∀ D C H' s', Inv X pins σ H' s' → (∃ m, s'.heap.Ns C m) → FpOk X pins H' C → Q (.ref D) H' → RR (.ref D) C (.ok .next) s') :
    wpAny (model X.prog X.w) X.A (newList []) (fun acc s₃ => wpAny (model X.prog X.w) X.A (newFunctionEnv sc X.env.globals cl [] X.env.qual none .none (some X.env)) (fun cenv s₄ =>
      codeAny (model X.prog X.w) X.A (.compStart (.ListComp elt [⟨tg, iter, ifs, 0⟩] sc pos) 0 (.ref it) acc { cenv with scope := relabel sc X.env }) (RR acc cenv.locals) s₄) E s₃) E s := by
  refine wpAny_newObj_type (wpAny_newFunctionEnv S.nocell (by intro y hy; simp at hy) (fun h₁ hns₁ hsb₁ => ?_) S.kind)
  dsimp only at hns₁ hsb₁ ⊢
  generalize hH2 : s.heap.push { cls := .type "list", dict := none, data := .seq ([] : List Value).toArray } = H2 at hns₁ hsb₁ ⊢
  have hCs : H2.objs.size = s.heap.objs.size + 1 := by rw [← hH2, Heap.size_push]
  have hDC : s.heap.objs.size ≠ H2.objs.size := by omega
  have hCle : s.heap.objs.size ≤ H2.objs.size := by omega
  have old : ∀ b o, s.heap.get? b = some o → h₁.get? b = some o := fun b o e => by
    exact hsb₁.extBut b o (addr_ne (Heap.lt_size e) hCle) (Heap.get?_push_of_some _ (hH2 ▸ Heap.get?_push_of_some _ e))
  have hacc : h₁.get? s.heap.objs.size = some { cls := .type "list", data := .seq ([] : List Value).toArray 0 } := hsb₁.extBut _ _ hDC (Heap.get?_push_of_some _ (hH2 ▸ Heap.get?_push_size _ rfl))
  have live : ∀ b ∈ fp, b < s.heap.objs.size := fun b hb => by
    obtain ⟨o, e, _⟩ := T.obj _ _ st b hb
    exact Heap.lt_size e
  have ok := cx_ok (C := H2.objs.size) S cl1 cl2 I f live hCle
  have hDst : s.heap.objs.size ∉ frs X.stack := fun z => by
    rcases List.mem_cons.mp (I.stkSub _ z) with q | q
    · exact addr_ne I.lt (Nat.le_refl _) q.symm
    · exact I.nofs (Nat.le_refl _) q
  have fpX : ∀ (H' : Hp) (pl : List (Addr × Obj)), (∀ b ∈ fp, H' b = none) → (∀ p ∈ pl, ∀ b ∈ fp, p.1 ≠ b) → ∀ b ∈ fp, FpOk (cxComp X sc own cap cl H2.objs.size s H fp pins) pl H' b := fun H' pl hn hp b hb => by
    obtain ⟨f0, f1, f2, f3, f4, f5⟩ := f b hb
    refine ⟨hn b hb, fun z => ?_, fun z => ?_, .inl hb, fun x c e => f4 x c (cl1 x c e), fun p hpp => ?_⟩
    · exact addr_ne (live b hb) hCle z
    · rcases List.mem_cons.mp (I.stkSub b z) with q | q
      · exact f1 q
      · exact f2 q
    · rcases List.mem_append.mp hpp with q | q
      · exact f5 p q
      · exact hp p q b hb
  have loop : ∀ s₃ : Shared, s₃ = { s with heap := h₁, toks := s.toks + ([] : List (Str × Value)).length } →
      codeAny (model X.prog X.w) X.A (.compLoop (.ListComp elt [⟨tg, iter, ifs, 0⟩] sc pos) 0 (.ref it) (.ref s.heap.objs.size) (compEnvC sc cl H2.objs.size X.env))
        (RR (.ref s.heap.objs.size) H2.objs.size) s₃ := by
    rintro s₃ rfl
    obtain ⟨m0, w0⟩ := w0
    obtain ⟨hg, ht, he⟩ := hb cl H2.objs.size s H fp pins
    have I0 : Inv (cxComp X sc own cap cl H2.objs.size s H fp pins) [] (cpSt own cap σ) H { s with heap := h₁, toks := s.toks + ([] : List (Str × Value)).length } := cx_inv S cl1 cl2 I ok hCle hns₁ old
    refine codeAny_compLoop_go (fun n s' => ∃ i acc its nn H', Inv (cxComp X sc own cap cl H2.objs.size s H fp pins) [] (cpSt own cap σ) H' s' ∧ tn i s'.heap ∧ (∀ b ∈ fp, H' b = none) ∧
      s'.heap.get? s.heap.objs.size = some { cls := .type "list", data := .seq its.toArray nn } ∧ Vals acc its ∧ H' s.heap.objs.size = none ∧ W i n acc H') ?_ m0
      ⟨0, [], [], 0, H, I0, T.keep _ _ _ st (fun b _ o e => old b o e), fun b hb => (f b hb).1, hacc, .nil, I.hok.fresh (Nat.le_refl _), w0⟩
    rintro n s3 ⟨i, acc, its, nn, H3, I3, st3, fr3, hD3, rv3, hDn, w3⟩
    obtain ⟨hz, hcase⟩ := turn i n acc H3 w3
    have hpl : ∀ p ∈ [((s.heap.objs.size : Addr), ({ cls := .type "list", data := .seq its.toArray nn } : Obj))], ∀ b ∈ fp, p.1 ≠ b := fun p hp b hb z => by
      have e : p = _ := List.mem_singleton.mp hp
      rw [e] at z
      exact addr_ne (live b hb) (Nat.le_refl _) z.symm
    have I3' : Inv (cxComp X sc own cap cl H2.objs.size s H fp pins) [((s.heap.objs.size : Addr), ({ cls := .type "list", data := .seq its.toArray nn } : Obj))] (cpSt own cap σ) H3 s3 := I3.pins_of fun p hp => by
      have e : p = _ := List.mem_singleton.mp hp
      subst e
      exact ⟨hD3, hDn, hDC, hDst, fun v z => by cases z⟩
    rcases hcase with ⟨stop, fin⟩ | ⟨go, hlt, N, hN, step⟩
    · refine thn (T.done (cxComp X sc own cap cl H2.objs.size s H fp pins) rfl rfl rfl hc i _ s3 _ H3 _ I3' (fpX H3 _ fr3 hpl) st3 stop) fun r s4 ⟨hr, I4⟩ => ?_
      subst hr
      have hD4 := (I4.pin (_, _) (List.mem_append_right _ (List.mem_singleton.mpr rfl))).1
      obtain ⟨J1, J2, J3⟩ := cx_back I f hCle (Nat.le_refl _) hDC I4 hDn hD4 rv3 hz
      exact hRR _ _ _ _ J1 J2 J3 (fin _ hDn)
    · refine thn (T.item (cxComp X sc own cap cl H2.objs.size s H fp pins) rfl rfl rfl hc i _ s3 _ H3 _ I3' (fpX H3 _ fr3 hpl) st3 go) fun r s4 ⟨u, hr, h4⟩ => ?_
      subst hr
      refine thn h4 fun _ s5 ⟨x, H5, I5, r5, y5, st5, fr5⟩ => ?_
      have I5' := I5.pinned (fpX H5 _ fr5 hpl) (T.obj _ _ st5)
      refine thn (hg _ s5 _ H5 x u _ I5' r5 (hown _ _ _ _ (step x H5 y5))) fun _ s6 ⟨σ6, H6, I6, ⟨hx1, hx2⟩, q6⟩ => ?_
      refine thn (ht _ s6 σ6 H6 _ I6 q6) fun b s7 ⟨H7, I7, q7⟩ => ?_
      have wk : ∀ {H7 : Hp} {s7 : Shared} {pl : List (Addr × Obj)}, Inv (cxComp X sc own cap cl H2.objs.size s H fp pins) pl σ6 H7 s7 → Inv (cxComp X sc own cap cl H2.objs.size s H fp pins) pl (cpSt own cap σ) H7 s7 := fun I => I.weak hx1.symm fun j v e => by
        rw [hx2 j (cpSt_some e).1]
        exact e
      have stay : ∀ {H7 : Hp} {s7 : Shared} {σ7 : St}, Inv (cxComp X sc own cap cl H2.objs.size s H fp pins) ([((s.heap.objs.size : Addr), ({ cls := .type "list", data := .seq its.toArray nn } : Obj))] ++ pinsAt fp s5.heap) σ7 H7 s7 →
          tn (i + 1) s7.heap ∧ (∀ b ∈ fp, H7 b = none) ∧ s7.heap.get? s.heap.objs.size = some { cls := .type "list", data := .seq its.toArray nn } ∧ H7 s.heap.objs.size = none := fun {H7 s7 σ7} I7 => by
        refine ⟨T.keep _ _ _ st5 fun b hb o e => (I7.pin (b, o) (List.mem_append_right _ (List.mem_append_right _ (mem_pinsAt hb e)))).1, fun b hb => ?_, ?_, ?_⟩
        · obtain ⟨o, e, d⟩ := T.obj _ _ st5 b hb
          exact (I7.pin (b, o) (List.mem_append_right _ (List.mem_append_right _ (mem_pinsAt hb e)))).2.1
        · exact (I7.pin (_, _) (List.mem_append_right _ (List.mem_append_left _ (List.mem_singleton.mpr rfl)))).1
        · exact (I7.pin (_, _) (List.mem_append_right _ (List.mem_append_left _ (List.mem_singleton.mpr rfl)))).2.1
      cases b with
      | false =>
        rw [if_neg Bool.false_ne_true] at q7 ⊢
        obtain ⟨m', hm, w7⟩ := hN _ _ q7
        obtain ⟨a1, a2, a3, a4⟩ := stay I7
        exact ⟨m', hm, i + 1, acc, its, nn, H7, (wk I7).pins_of (fun p hp => absurd hp (by simp)), a1, a2, a3, rv3, a4, w7⟩
      | true =>
        rw [if_pos rfl] at q7 ⊢
        refine thn (he _ s7 σ6 H7 _ I7 q7) fun y s8 ⟨v, H8, I8, r8, n8⟩ => ?_
        obtain ⟨m', hm, w8⟩ := hN _ _ n8
        obtain ⟨a1, a2, a3, a4⟩ := stay I8
        have hlen := rv3.length
        refine call_meets F.slot_list_append ⟨_, a3, rfl⟩ F.entry_list_append (F.args_list_append_2 _ _) (PySem.list_append s.heap.objs.size its.toArray nn y (by rw [List.size_toArray]; omega)) ⟨a3, ?_⟩
        obtain ⟨n', q⟩ : ∃ n', (s8.heap.update s.heap.objs.size (Obj.mapSeq (·.push y))).get? s.heap.objs.size = some { cls := .type "list", data := .seq (its ++ [y]).toArray n' } := by
          have q := PySem.IsL.update a3 (·.push y)
          have e : (its.toArray.push y) = (its ++ [y]).toArray := by simp
          rw [← e]
          exact ⟨_, q⟩
        have I9 := (wk I8).pins_of (pins' := pinsAt fp s5.heap) fun p hp => (wk I8).pin p (List.mem_append_right _ (List.mem_append_right _ hp))
        have kk : ∀ b o, b ≠ s.heap.objs.size → s8.heap.get? b = some o → (s8.heap.update s.heap.objs.size (Obj.mapSeq (·.push y))).get? b = some o := fun b o hb e => (Heap.get?_update_other s8.heap (Obj.mapSeq (·.push y)) (Ne.symm hb)).trans e
        refine ⟨m', hm, i + 1, acc ++ [v], its ++ [y], n', H8, (I9.pins_of (pins' := []) fun p hp => absurd hp (by simp)).turned (it := s.heap.objs.size) kk a4 hDC (.inr (Nat.le_refl _)) (fun x c e z => ?_) (fun p hp z => ?_), T.keep _ _ _ a1 fun b hb o e => kk b o (fun z => ?_) e, a2, q, rv3.append (.cons r8 .nil), a4, w8⟩
        · have e := cl1 x c e
          obtain ⟨w', o, ho, _⟩ := I.cell x c e
          exact addr_ne (Heap.lt_size ho) (Nat.le_refl _) z
        · have hp : p ∈ (X.pn ++ pins) ++ [] := hp
          rw [List.append_nil] at hp
          exact addr_ne (Heap.lt_size (I.pin p hp).1) (Nat.le_refl _) z
        · exact addr_ne (live b hb) (Nat.le_refl _) z
  exact codeAny_compStart_list (loop _ rfl) (T.self _ 0 _ _ _ (T.keep _ _ _ st fun b _ o e => old b o e) (loop _ rfl))
theorem pe_comp {elt tg iter : Expr} {ifs : List Expr} {pos : Pos} {wi : TI} {g : TG} {tt : TT} {te : TE} (hc : X.calm = true) (S : CpScope X.N X.env.scope sc own cap) (hown : GOwn own.length g) (hi : PI X tg iter wi)
    (hb : ∀ cl C s H fp pins, PG (cxComp X sc own cap cl C s H fp pins) tg g ∧ PTs (cxComp X sc own cap cl C s H fp pins) ifs tt ∧ PE (cxComp X sc own cap cl C s H fp pins) elt te)
    (hs : ∀ x, foldedSetIterable iter X.env x = pure x := by intro _; rfl) : PE X (.ListComp elt [⟨tg, iter, ifs, 0⟩] sc pos) (tComp own cap wi g tt te) := by
  intro pins s σ H Q I h
  obtain ⟨cl, hcl, cl1, cl2⟩ := closureFor_some (env := X.env) (scope := sc) fun y hy hf => I.ok.has y.1 (S.free y hy hf)
  rw [eval_ListComp]
  refine wpAny_comprehension_free (use := none) rfl hs hcl S.kind S.names (thn (hi pins s σ H _ I h) fun xv s1 h1 => thn h1 fun itv s2 h2 => ?_)
  obtain ⟨it, fp, tn, J, H2, e, I2, T, st2, f2, W, w0, turn⟩ := h2
  subst e
  refine comp_block (RR := fun acc C => compPost (model X.prog X.w) X.A X.xe none (EP X pins σ Q) acc C) hc S hown cl1 cl2 hb I2 T st2 f2 W w0 turn ?_
  intro D C H' s' J1 ⟨m, J2⟩ ⟨c0, c1, c2, c3, c4, c5⟩ q
  exact ⟨m, J2, fun h' sb => ⟨.ref D, H', J1.turned (t' := s'.toks) (fun b o hb e => (sb.2 b hb).trans e) c0 c1 c3 c4 c5, rfl, q⟩⟩
theorem ps_setcomp {elt tg iter : Expr} {ifs : List Expr} {pos pos' spos : Pos} {wi : TI} {g : TG} {tt : TT} {te : TE} {i : Nat} {x : Str} (hc : X.calm = true) (S : CpScope X.N X.env.scope sc own cap) (hown : GOwn own.length g) (hN : X.N.Nodup) (hx : X.N[i]? = some x) (hl : X.env.scope.names.lookup x = some .local) (hi : PI X tg iter wi)
    (hb : ∀ cl C s H fp pins, PG (cxComp X sc own cap cl C s H fp pins) tg g ∧ PTs (cxComp X sc own cap cl C s H fp pins) ifs tt ∧ PE (cxComp X sc own cap cl C s H fp pins) elt te)
    (hsw : swapsWith (.ListComp elt [⟨tg, iter, ifs, 0⟩] sc pos) (some (.Name x pos')) spos.line X.env = pure true := by rfl)
    (hs : ∀ x, foldedSetIterable iter X.env x = pure x := by intro _; rfl) : PS X (.Assign [.Name x pos'] (.ListComp elt [⟨tg, iter, ifs, 0⟩] sc pos) spos) (tAsg (tComp own cap wi g tt te) (gName i)) := by
  intro pins s σ H D I h
  obtain ⟨cl, hcl, cl1, cl2⟩ := closureFor_some (env := X.env) (scope := sc) fun y hy hf => I.ok.has y.1 (S.free y hy hf)
  rw [exec_Assign_Name_used _ _ _ _ hsw]
  refine wpAny_bind (wpAny_standAt (wpAny_bind ?_))
  show wpAny _ _ (do let _ ← comprehension (.ListComp elt [⟨tg, iter, ifs, 0⟩] sc pos) sc X.env _ (newList []) false (eval iter X.env) (some (assign (.Name x pos') X.env))) _ _ s
  refine wpAny_bind (wpAny_mono (wpAny_comprehension_free (use := some (assign (.Name x pos') X.env)) (Q := fun _ s' => SP X pins D .next s') rfl hs hcl S.kind S.names (thn (hi pins s σ H _ I h) fun xv s1 h1 => thn h1 fun itv s2 h2 => ?_)) (fun _ s' hq => wpAny_pure (wpAny_pure hq)) fun _ _ e => e)
  obtain ⟨it, fp, tn, J, H2, e, I2, T, st2, f2, W, w0, turn⟩ := h2
  subst e
  refine comp_block (Q := fun x H1 => gName i x σ H1 D.nx) (RR := fun acc C => compPost (model X.prog X.w) X.A X.xe (some (assign (.Name x pos') X.env)) (fun _ s' => SP X pins D .next s') acc C) hc S hown cl1 cl2 hb I2 T st2 f2 W w0 turn ?_
  intro L C H' s' J1 ⟨m, J2⟩ ⟨c0, c1, c2, c3, c4, c5⟩ q
  show wpAny _ _ (assign (.Name x pos') X.env (.ref L)) _ _ s'
  refine wpAny_assign_Name (store_ok2 (v := .ref L) J1 hN hx (.inl hl) rfl (fun s'' J3 ⟨a, sb, ha⟩ => ?_) (.inr hl))
  have hCa : C ≠ a := by
    rcases ha with z | z
    · rw [z]; exact c1
    · exact Ne.symm (c4 _ _ z)
  refine ⟨m, J2.sameBut sb hCa, fun h' sb' => ⟨_, H', J3.turned (t' := s''.toks) (fun b o hb e => (sb'.2 b hb).trans e) c0 c1 c3 c4 c5, q⟩⟩
end
end L2
set_option Elab.async false
set_option linter.all false
set_option maxRecDepth 100000
namespace L2
open PySem PySem.Spec PyProof.Rows
def tyOf (H : Hp) : V → Option String
  | .non => some "NoneType"
  | .bl _ => some "bool"
  | .int _ => some "int"
  | .str _ => some "str"
  | .ref a => match H a with
    | some (.lst _) => some "list"
    | some (.tup _) => some "tuple"
    | some (.dK _) => some "dict"
    | _ => none
  | _ => none
def isiB (t T : String) : Bool := t == T || (t == "bool" && T == "int")
theorem kit_tab (K : PySem.W.Frag) {t T : String} (ht : t ∈ ["NoneType", "bool", "int", "str", "list", "tuple", "dict"]) (hT : T ∈ ["bool", "int", "str", "list", "tuple", "dict"]) : PySem.W.kitOne K (.type t) (.type T) = some (isiB t T) := by
  simp only [List.mem_cons, List.not_mem_nil, or_false] at ht hT
  rcases ht with rfl | rfl | rfl | rfl | rfl | rfl | rfl <;> rcases hT with rfl | rfl | rfl | rfl | rfl | rfl <;> first | rfl | decide +kernel
section
variable {X : Cx}
theorem call_isinst : CallR X (.builtin "isinstance") (fun xs H Q => ∃ x T t, xs = [x, .ty T] ∧ tyOf H x = some t ∧ T ∈ ["bool", "int", "str", "list", "tuple", "dict"] ∧ Q (.bl (isiB t T)) H) := by
  intro pins s σ H xs us Q I r h
  obtain ⟨x, T, t, rfl, ht, hT, q⟩ := h
  obtain ⟨u, w', rfl, ru, rw'⟩ := vals2 r
  have rw' : w' = Value.type T := rw'
  subst rw'
  have key : ∀ {t' : String}, TyOf X.K H x (.type t') → t' = t → t ∈ ["NoneType", "bool", "int", "str", "list", "tuple", "dict"] → wpAny (model X.prog X.w) X.A (call (.builtin "isinstance") [u, .type T]) (EP X pins σ Q) X.xe s := fun {t'} ty e hm => by
    subst e
    exact isinst_ok I ru ty (kit_tab X.K hm hT) fun tk => ⟨.bl (isiB t' T), H, I.tok tk, rfl, q⟩
  cases x with
  | non => cases ht; exact key .non rfl (by decide)
  | bl b => cases ht; exact key (.bl b) rfl (by decide)
  | int i => cases ht; exact key (.int i) rfl (by decide)
  | str z => cases ht; exact key (.str z) rfl (by decide)
  | ref a =>
    unfold tyOf at ht
    simp only at ht
    cases e : H a with
    | none => rw [e] at ht; cases ht
    | some o =>
      rw [e] at ht
      cases o with
      | lst xs => cases ht; exact key (.lst e) rfl (by decide)
      | tup xs => cases ht; exact key (.tup e) rfl (by decide)
      | dK kvs => cases ht; exact key (.dK e) rfl (by decide)
      | _ => cases ht
  | _ => cases ht
theorem Inv.walked {pins : List (Addr × Obj)} {σ : St} {H : Hp} {s : Shared} {o : Obj} {h' : Heap} {tk : Nat} (I : Inv X pins σ H s) (k : ∀ b ob, b ∉ [s.heap.objs.size] → (s.heap.push o).get? b = some ob → h'.get? b = some ob) : Inv X pins σ H { s with heap := h', toks := tk } :=
  I.kept fun b u e => k b u (by
    intro z
    exact addr_ne (Heap.lt_size e) (Nat.le_refl _) (List.mem_singleton.mp z)) (Heap.get?_push_of_some _ e)
theorem vals_bl : ∀ {bs : List Bool} {us : List Value}, Vals (bs.map V.bl) us → us = bs.map Value.bool
  | [], _, .nil => rfl
  | b :: r, _, .cons h t => by
    have h : _ = Value.bool b := h
    rw [h, vals_bl t]
    rfl
theorem range_all' (bs : List Bool) : ((List.range bs.length).all fun i => (bs[i]?).getD true) = bs.all id := by
  induction bs with
  | nil => rfl
  | cons b r ih =>
    rw [List.length_cons, List.range_succ_eq_map, List.all_cons, List.all_cons, List.all_map]
    show ((b :: r)[0]?.getD true && _) = _
    congr 1
theorem lst_iter {pins : List (Addr × Obj)} {σ : St} {H : Hp} {s : Shared} {a : Addr} {xs : List V} (I : Inv X pins σ H s) (h : H a = some (.lst xs)) : ∃ its : List Value, Vals xs its ∧ s.heap.IsList a its.toArray ∧ a < s.heap.objs.size := by
  obtain ⟨hz, its, n, r, e⟩ := I.hok a _ h
  exact ⟨its, r, ⟨_, e, rfl, n, rfl⟩, Heap.lt_size e⟩
theorem call_all (hc : X.calm = true) : CallR X (.builtin "all") (fun xs H Q => ∃ (a : Addr) (bs : List Bool), xs = [.ref a] ∧ H a = some (.lst (bs.map V.bl)) ∧ Q (.bl (bs.all id)) H) := by
  intro pins s σ H xs us Q I r h
  obtain ⟨a, bs, rfl, ha, q⟩ := h
  obtain ⟨u, rfl, ru⟩ := vals1 r
  cases ru
  obtain ⟨its, rv, hl, hlt⟩ := lst_iter I ha
  have e := vals_bl rv
  subst e
  refine call_all_walk (wpAny_pyIter_list hl ?_)
  refine ⟨s.heap.objs.size, [s.heap.objs.size, a], [s.heap.objs.size], (bs.map Value.bool).toArray.size, _, _, fun i => (bs[i]?).getD true, rfl, Walks.list (A := X.A.in1) (I.ok.hd hc) _ a (Nat.ne_of_lt hlt) (bs.map Value.bool).toArray,
    ⟨⟨_, Heap.get?_push_size _ rfl, rfl, rfl⟩, hl.push _⟩, fun i v s' Q' E' hP hQ => ?_, fun h' tk hk => ?_⟩
  · have hP : (bs.map Value.bool)[i]? = some v := by simpa using hP
    rw [List.getElem?_map] at hP
    cases e : bs[i]? with
    | none => rw [e] at hP; cases hP
    | some b =>
      rw [e] at hP
      cases hP
      simp only [e, Option.getD_some] at hQ
      exact wpAny_truthy_bool hQ
  · have e : ((List.range (bs.map Value.bool).toArray.size).all fun i => (bs[i]?).getD true) = bs.all id := by
      rw [List.size_toArray, List.length_map]; exact range_all' bs
    rw [e]
    exact ⟨.bl (bs.all id), H, I.walked hk, rfl, q⟩
theorem op_isB : OpR X (compareOp .Is) (fun x y H Q => ∃ i j, x = .bl i ∧ y = .bl j ∧ Q (.bl (i == j)) H) := by
  intro pins s σ H x y v u Q I rx ry h
  obtain ⟨i, j, rfl, rfl, q⟩ := h
  cases rx
  cases ry
  exact is_bool ⟨.bl (i == j), H, I, rfl, q⟩
theorem countP_eqU {x : V} : ∀ {xs : List V} {us : List Value}, Vals xs us → xs.all flatV = true → us.countP (eqU x) = xs.countP fun y => eqV y x
  | _, _, .nil, _ => rfl
  | y :: xs, u :: us, .cons r t, h => by
    rw [List.all_cons, Bool.and_eq_true] at h
    rw [List.countP_cons, List.countP_cons, countP_eqU t h.2, eqU_of r h.1]
def rCount : V → List V → Hp → VK → Prop := fun x vs H Q => ∃ l xs y, x = .ref l ∧ vs = [y] ∧ H l = some (.lst xs) ∧ flatV y = true ∧ xs.all flatV = true ∧ Q (.int (xs.countP fun z => eqV z y)) H
theorem mt_count : MtM X "list.count" rCount := by
  intro pins s σ H x vs v us Q I rx rv h
  obtain ⟨l, xs, y, rfl, rfl, hH, fy, fx, q⟩ := h
  cases rx
  obtain ⟨u, rfl, ru⟩ := rv.one
  obtain ⟨z, its, n, r, hl, e⟩ := I.lstM hH
  refine call_meets F.slot_list_count ⟨_, e, rfl⟩ F.entry_list_count (F.args_list_count_2 _ _) (SeqAt.list_countAt l its.toArray n none #[] u (eqU y)) ⟨e, fun w hw => mem_eqAt ru fy r fx w (by simpa using hw), ?_⟩
  exact ⟨.int _, H, I.tok _, ⟨_, by rw [← countP_eqU r fx]⟩, q⟩
def Its (x : Str) : It := ⟨fun i _ => i < x.cps.size, fun i H v H' => H' = H ∧ ∃ c, x.cps[i]? = some c ∧ v = .str ⟨#[c]⟩, fun i _ => x.cps.size ≤ i⟩
theorem turn_str {P : Program} {w : World} {K : PySem.W.Frag} {tg : Expr} (it : Addr) (x : Str) (t : Tok) (ty : String) (hty : ty = "str_ascii_iterator" ∨ ty = "str_iterator") : Turn P w K tg (Its x) [it] it (fun i h => h.IsStrIter it ty x t i) where
  mem := by simp
  obj := fun i h st b hb => by
    have e : b = it := by simpa using hb
    subst e
    obtain ⟨o, e, c, d⟩ := st
    exact ⟨o, e, fun v z => by rw [d] at z; cases z⟩
  keep := fun i h h' st k => let ⟨o, ho, r⟩ := st; ⟨o, k it (by simp) o ho, r⟩
  item := by
    intro X hP hw hK hc i pins s σ H E I hf st hg
    subst hP hw hK
    obtain ⟨f0, f1, f2, f3, f4, f5⟩ := hf it (by simp)
    have hg : i < x.cps.size := hg
    have fin : ∀ h', h'.IsStrIter it ty x t (i + 1) → Heap.SameBut it s.heap h' → ∃ u, some (Value.str ⟨#[x.cps[i]]⟩ s.toks) = some u ∧ wpAny (model X.prog X.w) X.A (letOwnedTupleGo tg (.ref it) u) (fun _ s2 => ∃ x' H', Inv X pins σ H' s2 ∧ RelV x' u ∧ (Its x).yld i H x' H' ∧ s2.heap.IsStrIter it ty x t (i + 1) ∧ ∀ b ∈ [it], H' b = none) E { s with heap := h', toks := s.toks + 1 } := fun h' st' sb => by
      have I1 : Inv X pins σ H { s with heap := h', toks := s.toks + 1 } := I.turned (t' := s.toks + 1) (fun b o hb e => (sb.2 b hb).trans e) f0 f1 f3 f4 f5
      obtain ⟨o, e, c, d⟩ := id st'
      refine ⟨_, rfl, go_of (s := { s with heap := h', toks := s.toks + 1 }) e c d (by rcases hty with rfl | rfl <;> decide) ⟨.str ⟨#[x.cps[i]]⟩, H, I1, ⟨_, rfl⟩, ⟨rfl, _, by simp [hg], rfl⟩, st', fun b hb => (hf b hb).1⟩⟩
    rcases hty with rfl | rfl
    · exact wpAny_pyNext_ascii_item st (c := x.cps[i]) (by simp [hg]) fin
    · exact wpAny_pyNext_wide_item st (c := x.cps[i]) (by simp [hg]) fin
  done := by
    intro X hP hw hK hc i pins s σ H E I hf st hg
    subst hP hw hK
    obtain ⟨f0, f1, f2, f3, f4, f5⟩ := hf it (by simp)
    have hg : x.cps.size ≤ i := hg
    rcases hty with rfl | rfl
    · exact wpAny_pyNext_ascii_end (I.ok.hd hc) st (by simp; omega) fun h' eb => ⟨rfl, I.turned (t' := s.toks) (fun b o hb e => eb b o hb e) f0 f1 f3 f4 f5⟩
    · exact wpAny_pyNext_wide_end (I.ok.hd hc) st (by simp; omega) fun h' eb => ⟨rfl, I.turned (t' := s.toks) (fun b o hb e => eb b o hb e) f0 f1 f3 f4 f5⟩
  self := fun _ _ _ _ _ st h => by
    rcases hty with rfl | rfl
    · exact wpAny_pyIter_striter_ascii st h
    · exact wpAny_pyIter_striter_wide st h
theorem turn_seqL {P : Program} {w : World} {K : PySem.W.Frag} {tg : Expr} (a it : Addr) (xs : List V) : Turn P w K tg ⟨fun i H => H a = some (.lst xs) ∧ i < xs.length, fun i H x H' => H' = H ∧ xs[i]? = some x, fun i H => H a = some (.lst xs) ∧ xs.length ≤ i⟩ [it] it (fun i h => h.IsListIter it a i) where
  mem := (turn_list (P := P) (w := w) (K := K) (tg := tg) a it).mem
  obj := (turn_list (P := P) (w := w) (K := K) (tg := tg) a it).obj
  keep := (turn_list (P := P) (w := w) (K := K) (tg := tg) a it).keep
  item := by
    intro X hP hw hK hc i pins s σ H E I hf st hg
    obtain ⟨h1, h2⟩ := hg
    refine thn ((turn_list (P := P) (w := w) (K := K) (tg := tg) a it).item X hP hw hK hc i pins s σ H E I hf st ⟨xs, xs[i], SqL.of h1, by simp [h2]⟩) fun r s1 ⟨u, hr, h3⟩ => ⟨u, hr, thn h3 fun _ s2 ⟨x, H', I2, rx, ⟨y1, y2⟩, st2, f2⟩ => ⟨x, H', I2, rx, ⟨y1, y2 xs (SqL.of h1)⟩, st2, f2⟩⟩
  done := by
    intro X hP hw hK hc i pins s σ H E I hf st hg
    obtain ⟨h1, h2⟩ := hg
    exact (turn_list (P := P) (w := w) (K := K) (tg := tg) a it).done X hP hw hK hc i pins s σ H E I hf st ⟨xs, SqL.of h1, h2⟩
  self := (turn_list (P := P) (w := w) (K := K) (tg := tg) a it).self
theorem turn_seqT {P : Program} {w : World} {K : PySem.W.Frag} {tg : Expr} (a it : Addr) (xs : List V) : Turn P w K tg ⟨fun i H => H a = some (.tup xs) ∧ i < xs.length, fun i H x H' => H' = H ∧ xs[i]? = some x, fun i H => H a = some (.tup xs) ∧ xs.length ≤ i⟩ [it] it (fun i h => h.IsTupleIter it a i) where
  mem := (turn_tuple (P := P) (w := w) (K := K) (tg := tg) a it).mem
  obj := (turn_tuple (P := P) (w := w) (K := K) (tg := tg) a it).obj
  keep := (turn_tuple (P := P) (w := w) (K := K) (tg := tg) a it).keep
  item := by
    intro X hP hw hK hc i pins s σ H E I hf st hg
    obtain ⟨h1, h2⟩ := hg
    refine thn ((turn_tuple (P := P) (w := w) (K := K) (tg := tg) a it).item X hP hw hK hc i pins s σ H E I hf st ⟨xs, xs[i], SqT.of h1, by simp [h2]⟩) fun r s1 ⟨u, hr, h3⟩ => ⟨u, hr, thn h3 fun _ s2 ⟨x, H', I2, rx, ⟨y1, y2⟩, st2, f2⟩ => ⟨x, H', I2, rx, ⟨y1, y2 xs (SqT.of h1)⟩, st2, f2⟩⟩
  done := by
    intro X hP hw hK hc i pins s σ H E I hf st hg
    obtain ⟨h1, h2⟩ := hg
    exact (turn_tuple (P := P) (w := w) (K := K) (tg := tg) a it).done X hP hw hK hc i pins s σ H E I hf st ⟨xs, SqT.of h1, h2⟩
  self := (turn_tuple (P := P) (w := w) (K := K) (tg := tg) a it).self
def ItL (a : Addr) (xs : List V) : It := ⟨fun i H => H a = some (.lst xs) ∧ i < xs.length, fun i H x H' => H' = H ∧ xs[i]? = some x, fun i H => H a = some (.lst xs) ∧ xs.length ≤ i⟩
def ItT (a : Addr) (xs : List V) : It := ⟨fun i H => H a = some (.tup xs) ∧ i < xs.length, fun i H x H' => H' = H ∧ xs[i]? = some x, fun i H => H a = some (.tup xs) ∧ xs.length ≤ i⟩
def iAny (te : TE) : TI := fun σ H R => te σ H fun x H1 => (∃ a xs, x = .ref a ∧ H1 a = some (.lst xs) ∧ R (ItL a xs) H1) ∨ (∃ a xs, x = .ref a ∧ H1 a = some (.tup xs) ∧ R (ItT a xs) H1) ∨ (∃ z, x = .str z ∧ R (Its z) H1)
theorem pi_any {tg l : Expr} {te : TE} (hl : PE X l te) : PI X tg l (iAny te) := by
  intro pins s σ H R I h
  refine thn (hl pins s σ H _ I h) fun v s1 ⟨x, H1, I1, r1, q1⟩ => ?_
  have fp : ∀ b ∈ [s1.heap.objs.size], FpOk X pins H1 b := fun b hb => by
    have e : b = s1.heap.objs.size := by simpa using hb
    subst e
    exact I1.fpOk (Nat.le_refl _) (I1.hok.fresh (Nat.le_refl _))
  rcases q1 with ⟨a, xs, e, ha, q⟩ | ⟨a, xs, e, ha, q⟩ | ⟨z, e, q⟩
  · subst e
    cases r1
    obtain ⟨its, rv, hli, hlt⟩ := lst_iter I1 ha
    refine wpAny_pyIter_list hli ?_
    exact ⟨s1.heap.objs.size, [s1.heap.objs.size], _, _, H1, rfl, I1.kept (t' := s1.toks) fun b o e => Heap.get?_push_of_some _ e, turn_seqL a _ xs, ⟨_, Heap.get?_push_size _ rfl, rfl, rfl⟩, fp, q⟩
  · subst e
    cases r1
    obtain ⟨hz, its, rv, p⟩ := I1.hok a _ ha
    refine wpAny_pyIter_tuple (show s1.heap.IsTuple a its.toArray from p) ?_
    exact ⟨s1.heap.objs.size, [s1.heap.objs.size], _, _, H1, rfl, I1.kept (t' := s1.toks) fun b o e => Heap.get?_push_of_some _ e, turn_seqT a _ xs, ⟨_, Heap.get?_push_size _ rfl, rfl, rfl⟩, fp, q⟩
  · subst e
    obtain ⟨t, rfl⟩ := r1
    cases hasc : z.cps.all (· < 128)
    · refine wpAny_pyIter_wide hasc ?_
      exact ⟨s1.heap.objs.size, [s1.heap.objs.size], _, _, H1, rfl, I1.kept (t' := s1.toks) fun b o e => Heap.get?_push_of_some _ e, turn_str _ z t _ (.inr rfl), ⟨_, Heap.get?_push_size _ rfl, rfl, rfl⟩, fp, q⟩
    · refine wpAny_pyIter_ascii hasc ?_
      exact ⟨s1.heap.objs.size, [s1.heap.objs.size], _, _, H1, rfl, I1.kept (t' := s1.toks) fun b o e => Heap.get?_push_of_some _ e, turn_str _ z t _ (.inl rfl), ⟨_, Heap.get?_push_size _ rfl, rfl, rfl⟩, fp, q⟩
end
structure Goes (J : It) (n : Nat) (yl : Nat → V → Prop) (ok : Hp → Prop) : Prop where
  go : ∀ i H, i < n → ok H → J.go i H
  yld : ∀ i H x H', i < n → ok H → J.yld i H x H' → H' = H ∧ yl i x
  stop : ∀ H, ok H → J.stop n H
theorem goesL (a : Addr) (xs : List V) : Goes (ItL a xs) xs.length (fun i x => xs[i]? = some x) (fun H => H a = some (.lst xs)) := ⟨fun _ _ h o => ⟨o, h⟩, fun _ _ _ _ _ _ y => y, fun _ o => ⟨o, Nat.le_refl _⟩⟩
theorem goesT (a : Addr) (xs : List V) : Goes (ItT a xs) xs.length (fun i x => xs[i]? = some x) (fun H => H a = some (.tup xs)) := ⟨fun _ _ h o => ⟨o, h⟩, fun _ _ _ _ _ _ y => y, fun _ o => ⟨o, Nat.le_refl _⟩⟩
theorem goesS (z : Str) : Goes (Its z) z.cps.size (fun i x => ∃ c, z.cps[i]? = some c ∧ x = .str ⟨#[c]⟩) (fun _ => True) := ⟨fun _ _ h _ => h, fun _ _ _ _ _ _ y => y, fun _ _ => Nat.le_refl _⟩
theorem goesR (lo : Int) (n : Nat) : Goes (Itr lo n) n (fun i x => x = .int (lo + i)) (fun _ => True) := ⟨fun _ _ h _ => h, fun _ _ _ _ _ _ y => y, fun _ _ => Nat.le_refl _⟩
theorem for_goes {J : It} {n : Nat} {yl : Nat → V → Prop} {ok : Hp → Prop} {g : TG} {tb : TS} {D : Ends} {σ : St} {H : Hp} (G : Goes J n yl ok) (Pv : Nat → St → Hp → Prop) (h0 : Pv 0 σ H) (hok : ∀ i σ H, i ≤ n → Pv i σ H → ok H)
    (hs : ∀ i x σ H, i < n → yl i x → Pv i σ H → g x σ H fun σ2 H2 => tb { D with nx := Pv (i + 1), ct := Pv (i + 1), bk := D.nx } σ2 H2) (hd : ∀ σ H, Pv n σ H → D.nx σ H) :
    ∃ W : Nat → Nat → St → Hp → Prop, (∃ m, W 0 m σ H) ∧ ∀ i m σ H, W i m σ H →
      (J.stop i H ∧ D.nx σ H) ∨ (J.go i H ∧ ∃ N : St → Hp → Prop, (∀ σ' H', N σ' H' → ∃ m', m' < m ∧ W (i + 1) m' σ' H') ∧ ∀ x H', J.yld i H x H' → g x σ H' fun σ2 H2 => tb { D with nx := N, ct := N, bk := D.nx } σ2 H2) := by
  refine ⟨fun i m σ H => m = n - i ∧ i ≤ n ∧ Pv i σ H, ⟨n, by simp, Nat.zero_le _, h0⟩, ?_⟩
  rintro i m σ H ⟨rfl, hi, p⟩
  have q := hok i σ H hi p
  by_cases hlt : i < n
  · refine .inr ⟨G.go i H hlt q, Pv (i + 1), fun σ' H' p' => ⟨n - (i + 1), by omega, rfl, hlt, p'⟩, fun x H' y => ?_⟩
    obtain ⟨e, y'⟩ := G.yld i H x H' hlt q y
    subst e
    exact hs i x σ _ hlt y' p
  · have e : i = n := by omega
    subst e
    exact .inl ⟨G.stop H q, hd σ H p⟩
theorem comp_goes {J : It} {n : Nat} {yl : Nat → V → Prop} {ok : Hp → Prop} {g : TG} {tt : TT} {te : TE} {σ0 : St} {H : Hp} {Q : VK} (G : Goes J n yl ok) (hn : n ≤ sizeLine) (Pv : Nat → List V → Hp → Prop) (h0 : Pv 0 [] H) (hok : ∀ i acc H, i ≤ n → Pv i acc H → ok H)
    (hlen : ∀ i acc H, Pv i acc H → acc.length ≤ i)
    (hs : ∀ i x acc H, i < n → yl i x → Pv i acc H → g x σ0 H fun σ2 H2 => tt σ2 H2 fun b H3 => if b = true then te σ2 H3 fun y H4 => Pv (i + 1) (acc ++ [y]) H4 else Pv (i + 1) acc H3)
    (hd : ∀ acc H, Pv n acc H → ∀ p, H p = none → Q (.ref p) (upd H p (.lst acc))) :
    ∃ W : Nat → Nat → List V → Hp → Prop, (∃ m, W 0 m [] H) ∧ ∀ i m acc H, W i m acc H → acc.length ≤ sizeLine ∧
      ((J.stop i H ∧ ∀ p, H p = none → Q (.ref p) (upd H p (.lst acc))) ∨
       (J.go i H ∧ acc.length < sizeLine ∧ ∃ N : List V → Hp → Prop, (∀ acc' H', N acc' H' → ∃ m', m' < m ∧ W (i + 1) m' acc' H') ∧ ∀ x H', J.yld i H x H' → g x σ0 H' fun σ2 H2 => tt σ2 H2 fun b H3 => if b = true then te σ2 H3 fun y H4 => N (acc ++ [y]) H4 else N acc H3)) := by
  refine ⟨fun i m acc H => m = n - i ∧ i ≤ n ∧ Pv i acc H, ⟨n, by simp, Nat.zero_le _, h0⟩, ?_⟩
  rintro i m acc H ⟨rfl, hi, p⟩
  have q := hok i acc H hi p
  have hl := hlen i acc H p
  refine ⟨by omega, ?_⟩
  by_cases hlt : i < n
  · refine .inr ⟨G.go i H hlt q, by omega, Pv (i + 1), fun acc' H' p' => ⟨n - (i + 1), by omega, rfl, hlt, p'⟩, fun x H' y => ?_⟩
    obtain ⟨e, y'⟩ := G.yld i H x H' hlt q y
    subst e
    exact hs i x acc _ hlt y' p
  · have e : i = n := by omega
    subst e
    exact .inl ⟨G.stop H q, hd acc H p⟩
end L2
set_option Elab.async false
set_option linter.all false
set_option maxRecDepth 100000
namespace L2
open PySem PySem.Spec PyProof.Rows
section
variable {X : Cx} {a b c e o : Expr} {ta tb tc te to : TE} {pos p apos cpos : Pos} {es : List Expr} {t : TA}
theorem op_fdivL : OpR X (binaryOp .FloorDiv) (rI (fun _ j => 0 < j ∧ j < 10 ^ 200) fun i j => .int (i / j)) := opI fun i j _ _ _ _ _ hc q => by
  have h : j.natAbs.log2 < 9000 := by
    have h1 : j.natAbs ≠ 0 := by omega
    rw [Nat.log2_lt h1]
    have h2 : j.natAbs < 10 ^ 200 := by have := hc.2; omega
    exact Nat.lt_of_lt_of_le h2 (by decide +kernel)
  refine floordiv_int (by omega) ?_ (.inl (PyProof.noPylong_of_log2 h))
  rw [Int.fdiv_eq_ediv_of_nonneg i (by omega)]
  exact q
def rCatE : R2 := fun x y H Q => ∃ a b ys, x = .ref a ∧ y = .ref b ∧ H a = some (.tup []) ∧ H b = some (.tup ys) ∧ Q (.ref b) H
theorem op_catE : OpR X (binaryOp .Add) rCatE := by
  intro pins s σ H x y v u Q I rx ry h
  obtain ⟨a, b, ys, rfl, rfl, ha, hb, q⟩ := h
  cases rx
  cases ry
  obtain ⟨its, r1, p1, _⟩ := I.tuple (SqT.of ha)
  obtain ⟨its2, r2, p2, _⟩ := I.tuple (SqT.of hb)
  cases r1
  obtain ⟨⟨cls, dd, data, sl⟩, ho, hc, n, hd⟩ := id p1
  obtain ⟨⟨cls2, dd2, data2, sl2⟩, ho2, hc2, n2, hd2⟩ := id p2
  simp only at hc hd hc2 hd2
  subst hc hd hc2 hd2
  exact concat_meets ⟨_, ho, rfl⟩ ⟨_, ho2, rfl⟩ noFill_tuple_add seq_tuple_add PySem.F.slot_tuple_add PySem.F.entry_tuple_add (PySem.F.args_tuple_add_2 _ _)
      (tuple_addW0 a b _ _ n n2 dd dd2 sl sl2 (by simp)) ⟨ho, ho2, .ref b, H, I, rfl, q⟩
def rCatTT : R2 := fun x y H Q => ∃ a b xs ys, x = .ref a ∧ y = .ref b ∧ H a = some (.tup xs) ∧ H b = some (.tup ys) ∧ xs.length + ys.length ≤ sizeLine ∧
  ∀ p H', H' p = some (.tup (xs ++ ys)) → Same H H' → (∀ q, q ≠ p → H' q = H q) → Q (.ref p) H'
theorem op_catTT : OpR X (binaryOp .Add) rCatTT := by
  intro pins s σ H x y v u Q I rx ry h
  obtain ⟨a, b, xs, ys, rfl, rfl, ha, hb, hz, q⟩ := h
  by_cases hx : xs = []
  · subst hx
    exact op_catE pins s σ H _ _ v u Q I rx ry ⟨a, b, ys, rfl, rfl, ha, hb, q b H (by simpa using hb) (Same.refl H) fun _ _ => rfl⟩
  · refine op_catT pins s σ H _ _ v u Q I rx ry ⟨a, b, xs, ys, rfl, rfl, SqT.of ha, SqT.of hb, hx, hz, fun e => ?_, fun _ p hp => ?_⟩
    · subst e
      exact q a H (by simpa using ha) (Same.refl H) fun _ _ => rfl
    · exact q p _ upd_same (fun c o hc => by rw [upd_ne (ne_of_none hc hp)]; exact hc) fun _ hq => upd_ne hq
def rAddA : R2 := fun x y H Q => (∃ i j, x = .int i ∧ y = .int j ∧ Q (.int (i + j)) H) ∨ (∃ i j, x = .str i ∧ y = .str j ∧ i.length + j.length ≤ sizeLine ∧ Q (.str (i ++ j)) H) ∨ rCat x y H Q ∨ rCatTT x y H Q
def rIAddA : R2 := fun x y H Q => (∃ i j, x = .int i ∧ y = .int j ∧ Q (.int (i + j)) H) ∨ (∃ i j, x = .str i ∧ y = .str j ∧ i.length + j.length ≤ sizeLine ∧ Q (.str (i ++ j)) H)
def Item (H : Hp) (x y v : V) : Prop :=
  (∃ p xs i, x = .ref p ∧ y = .int i ∧ (H p = some (.lst xs) ∨ H p = some (.tup xs)) ∧ atI xs i = some v) ∨
  (∃ z i c, x = .str z ∧ y = .int i ∧ z.length ≤ sizeLine ∧ atI z.cps.toList i = some c ∧ v = .str ⟨#[c]⟩) ∨
  (∃ p kvs k, x = .ref p ∧ y = kV k ∧ Rd H p (.dK kvs) ∧ valV kvs k = some v)
def rItem : R2 := fun x y H Q => ∃ v, Item H x y v ∧ Q v H
theorem ix_dict (hu : X.A.units + 1 < cLine) : IxR X (fun x y H Q => ∃ a v, x = .ref a ∧ DGet H a y (some v) ∧ Q v H) := by
  intro value slice pins s σ H x y v u Q I rx ry h hs
  obtain ⟨a, z, rfl, g, q⟩ := h
  cases rx
  exact tail_any (dict_typeIs I g) PySem.F.slot_dict_getitem.lookup (d_getItem hu I g ry fun w' s3 I3 rw' => ⟨z, H, I3, rw', q⟩) hs
theorem ix_item (hu : X.A.units + 1 < cLine) : IxR X rItem := by
  intro value slice pins s σ H x y v u Q I rx ry h hs
  obtain ⟨z, h, q⟩ := h
  rcases h with ⟨p, xs, i, rfl, rfl, h | h, he⟩ | ⟨z', i, c, rfl, rfl, hz, he, rfl⟩ | ⟨p, kvs, k, rfl, rfl, h, he⟩
  · exact ix_list value slice pins s σ H _ _ v u Q I rx ry ⟨p, xs, i, z, rfl, rfl, SqL.of h, he, q⟩ hs
  · exact ix_tup value slice pins s σ H _ _ v u Q I rx ry ⟨p, xs, i, z, rfl, rfl, SqT.of h, he, q⟩ hs
  · exact ix_str value slice pins s σ H _ _ v u Q I rx ry ⟨z', i, c, rfl, rfl, hz, he, q⟩ hs
  · refine ix_dict hu value slice pins s σ H _ _ v u Q I rx ry ⟨p, z, rfl, ?_, q⟩ hs
    have g : DGet H p (kV k) (valV kvs k) := .inl ⟨kvs, k, h, rfl, rfl⟩
    rw [he] at g
    exact g
theorem pe_item (hu : X.A.units + 1 < cLine) (ha : PE X a ta) (hb : PE X b tb) (hs : PlainIx b) : PE X (.Subscript a b pos) (tOp rItem ta tb) := pe_ix (ix_item hu) ha hb hs
theorem item_t {H : Hp} {p : Addr} {xs : List V} {j : Nat} {v : V} (h : H p = some (.tup xs)) (e : xs[j]? = some v) : Item H (.ref p) (.int j) v := .inl ⟨p, xs, j, rfl, rfl, .inr h, atI_nat e⟩
theorem item_l {H : Hp} {p : Addr} {xs : List V} {j : Nat} {v : V} (h : H p = some (.lst xs)) (e : xs[j]? = some v) : Item H (.ref p) (.int j) v := .inl ⟨p, xs, j, rfl, rfl, .inl h, atI_nat e⟩
theorem item_i {H : Hp} {p : Addr} {xs : List V} {i : Int} {v : V} (h : H p = some (.lst xs) ∨ H p = some (.tup xs)) (h0 : 0 ≤ i) (e : xs[i.toNat]? = some v) : Item H (.ref p) (.int i) v := by
  refine .inl ⟨p, xs, i, rfl, rfl, h, ?_⟩
  have q := atI_nat e
  rw [Int.toNat_of_nonneg h0] at q
  exact q
theorem item_s {H : Hp} {z : Str} {i : Int} {c : Nat} (hz : z.length ≤ sizeLine) (h0 : 0 ≤ i) (e : z.cps.toList[i.toNat]? = some c) : Item H (.str z) (.int i) (.str ⟨#[c]⟩) := by
  refine .inr (.inl ⟨z, i, c, rfl, rfl, hz, ?_, rfl⟩)
  have q := atI_nat e
  rw [Int.toNat_of_nonneg h0] at q
  exact q
def lenA : List V → Hp → VK → Prop := fun xs H Q => (∃ p ys, xs = [.ref p] ∧ (H p = some (.lst ys) ∨ H p = some (.tup ys)) ∧ Q (.int ys.length) H) ∨ (∃ z, xs = [.str z] ∧ z.length ≤ sizeLine ∧ Q (.int z.length) H) ∨ (∃ p kvs, xs = [.ref p] ∧ H p = some (.dK kvs) ∧ Q (.int kvs.length) H)
theorem call_lenA : CallR X (.builtin "len") lenA := by
  intro pins s σ H xs us Q I r h
  rcases h with ⟨p, ys, rfl, h, q⟩ | ⟨z, rfl, hz, q⟩ | ⟨p, kvs, rfl, h, q⟩
  · exact call_len_seq pins s σ H _ us Q I r ⟨p, ys, rfl, h.imp SqL.of SqT.of, q⟩
  · exact call_len_str pins s σ H _ us Q I r ⟨z, rfl, hz, q⟩
  · exact call_lenD pins s σ H _ us Q I r ⟨p, kvs, rfl, h, q⟩
def InA (H : Hp) (x y : V) (b : Bool) : Prop :=
  (∃ p xs, y = .ref p ∧ (H p = some (.lst xs) ∨ H p = some (.tup xs)) ∧ flatV x = true ∧ xs.all flatV = true ∧ b = inV x xs) ∨
  (∃ i j, x = .str i ∧ y = .str j ∧ b = !(Builtin.Str.occurrences j i 0 j.length 1).isEmpty) ∨
  (∃ p kvs k, y = .ref p ∧ x = kV k ∧ Rd H p (.dK kvs) ∧ b = (valV kvs k).isSome)
theorem op_inA (hu : X.A.units + 1 < cLine) : OpR X (compareOp .In) (fun x y H Q => ∃ b, InA H x y b ∧ Q (.bl b) H) := by
  intro pins s σ H x y v u Q I rx ry h
  obtain ⟨b, h, q⟩ := h
  rcases h with ⟨p, xs, rfl, hp, fx, fxs, rfl⟩ | ⟨i, j, rfl, rfl, rfl⟩ | ⟨p, kvs, k, rfl, rfl, hp, rfl⟩
  · exact op_in_seq pins s σ H _ _ v u Q I rx ry ⟨p, xs, rfl, hp.imp SqL.of SqT.of, fx, fxs, q⟩
  · exact op_in_str pins s σ H _ _ v u Q I rx ry ⟨i, j, rfl, rfl, q⟩
  · cases ry
    exact d_in hu I (.inl ⟨kvs, k, hp, rfl, rfl⟩) rx fun s' I' => ⟨.bl _, H, I', rfl, q⟩
def rSetA : V → V → V → Hp → (Hp → Prop) → Prop := fun o i v H Q => rSetL o i v H Q ∨ (∃ p kvs k, o = .ref p ∧ i = kV k ∧ H p = some (.dK kvs) ∧ kvs.length < sizeLine ∧ Q (upd H p (.dK (putK kvs k v))))
theorem tyV_of {K : PySem.W.Frag} {H : Hp} {x : V} {T : String} (h : tyOf H x = some T) (hT : T = "list" ∨ T = "dict" ∨ T = "str") : tyV K T x H := by
  cases x with
  | str z => cases h; rfl
  | ref a =>
    unfold tyOf at h
    simp only at h
    cases e : H a with
    | none => rw [e] at h; cases h
    | some o =>
      rw [e] at h
      cases o with
      | lst xs => cases h; exact .inl ⟨rfl, xs, SqL.of e⟩
      | tup xs => cases h; exact absurd hT (by decide)
      | dK kvs => cases h; exact .inr (.inr (.inl ⟨rfl, .inl ⟨kvs, e⟩⟩))
      | _ => cases h
  | int i => cases h; exact absurd hT (by decide)
  | bl i => cases h; exact absurd hT (by decide)
  | non => cases h; exact absurd hT (by decide)
  | _ => cases h
def tBA0 (T : String) (r : V → List V → Hp → VK → Prop) (to : TE) : TE := fun σ H Q => to σ H fun x H1 => tyOf H1 x = some T ∧ r x [] H1 Q
def tBA (T : String) (r : V → List V → Hp → VK → Prop) (to : TE) (t : TA) : TE := fun σ H Q => to σ H fun x H1 => tyOf H1 x = some T ∧ t σ H1 fun xs H2 => r x xs H2 Q
theorem PE.weak {e : Expr} {t t' : TE} (h : PE X e t) (w : ∀ σ H Q, t' σ H Q → t σ H Q) : PE X e t' := fun pins s σ H Q I q => h pins s σ H Q I (w σ H Q q)
variable {name : Str} {T id : String} {r : V → List V → Hp → VK → Prop}
theorem pe_ba0 (pa : PlainAttrs T) (slot : Slot T name id) (hty : typeOf (.builtin id) = pure (.type "method_descriptor")) (hm : MtR X id r) (ho : PE X o to) (hT : T = "list" ∨ T = "dict" ∨ T = "str" := by decide)
    (hbase : attributeBase o name X.env (eval o X.env) = eval o X.env := by rfl) (hline : (apos.endLine == cpos.line) = true := by rfl) : PE X (.Call (.Attribute o name apos) [] [] cpos) (tBA0 T r to) := by
  intro pins s σ H Q I h
  refine wpAny_Call_method0_late hbase hline (thn (ho pins s σ H _ I h) fun v s1 ⟨x, H1, I1, r1, ty, q1⟩ => ?_)
  obtain ⟨h1, h2⟩ := tyV_is I1 r1 (tyV_of ty hT)
  exact ⟨T, id, pa, slot, hty, h1, h2, Calls.callWith_builtin rfl (PySem.evalArgs_none (hm pins s1 σ H1 x [] v [] Q I1 r1 .nil q1))⟩
theorem pe_ba (pa : PlainAttrs T) (slot : Slot T name id) (hty : typeOf (.builtin id) = pure (.type "method_descriptor")) (hm : MtR X id r) (ho : PE X o to) (ha : PA X (e :: es) t) (hT : T = "list" ∨ T = "dict" ∨ T = "str" := by decide)
    (hbase : attributeBase o name X.env (eval o X.env) = eval o X.env := by rfl)
    (hfew : ((backTo cpos (starEach (e :: es) X.env)).all (fun x => !x.1) && (backToKw cpos (keywordEach [] X.env)).all (fun x => x.1.isSome)
      && decide ((e :: es).length + ([] : List Keyword).length + (if ([] : List Keyword).isEmpty then 0 else 1) < 30)) = true := by rfl)
    (hline : (apos.endLine == cpos.line) = true := by rfl) (hs : starEach (e :: es) X.env = (false, eval e X.env) :: starEach es X.env := by rfl) (hplain : (backTo cpos (starEach es X.env)).any (·.1) = false := by rfl) :
    PE X (.Call (.Attribute o name apos) (e :: es) [] cpos) (tBA T r to t) := by
  intro pins s σ H Q I h
  refine wpAny_Call_method_late hbase hfew hline rfl (thn (ho pins s σ H _ I h) fun v s1 ⟨x, H1, I1, r1, ty, q1⟩ => ?_)
  obtain ⟨h1, h2⟩ := tyV_is I1 r1 (tyV_of ty hT)
  refine ⟨T, id, pa, slot, hty, h1, h2, ?_⟩
  have hA := ha cpos pins s1 σ H1 _ I1 q1
  rw [hs] at hA ⊢
  refine Calls.callWith_builtin (by show (false || (backTo cpos (starEach es X.env)).any (·.1)) = false; rw [hplain] <;> rfl) (Calls.evalArgs_plain ?_)
  exact thn hA fun us s2 ⟨vs, H2, I2, r2, q2⟩ => hm pins s2 σ H2 x vs v us Q I2 r1 r2 q2
end
def Has (P : Program) (w : World) (K : PySem.W.Frag) (mg : Str → Option Value) (base : Heap) (x : Str) (k : Nat) (ps : List Str) (sp : Sp) : Prop :=
  ∃ f fd, mg x = some (.ref f) ∧ PySem.W.keepIn K (.ref f) = true ∧ Binds K fd ps [] ∧ FnOk P w K mg base CX0 k f fd ps sp
theorem pe_callH {X : Cx} {x : Str} {k : Nat} {ps : List Str} {sp : Sp} {e : Expr} {es : List Expr} {t : TA} {p pos : Pos} (h : Has X.prog X.w X.K X.mg X.base x k ps sp) (hr : Room k X.A) (hg : Gl X x) (ha : PA X (e :: es) t)
    (hdb : (x == ("__debug__" : Str)) = false := by decide) (he : starEach (e :: es) X.env = (false, eval e X.env) :: starEach es X.env := by rfl) (hpl : (backTo pos (starEach es X.env)).any (·.1) = false := by rfl) :
    PE X (.Call (.Name x p) (e :: es) [] pos) (tCall sp [] E0 t) := by
  obtain ⟨f, fd, hm, hk, hb, F⟩ := h
  exact pe_call F hr hg hm hk hb .nil pass0 ha hdb he hpl
end L2
set_option Elab.async false
set_option linter.all false
set_option maxRecDepth 100000
namespace HT
open PySem PyProof.Rows
section
variable {prog : Program} {w : World} {A : Around} {E : Value → Shared → Prop} {s : Shared}
theorem getItem_tuple_whole {t sl : Addr} {items : Array Value} {vl vu : Value} {lo hi : Option Int} {Q : Value → Shared → Prop} (ht : IsTup s.heap t items) (hs : s.heap.IsSliceOf sl vl vu .none) (pl : IsPart vl lo) (pu : IsPart vu hi)
    (hw : sIx items.size 0 lo = 0 ∧ sIx items.size items.size hi = items.size) (h : Q (.ref t) s) : wpAny (model prog w) A (getItem (.ref t) (.ref sl)) Q E s := by
  obtain ⟨os, hos, hcs, hds⟩ := id hs
  have hTs : s.TypeIs (.ref sl) "slice" := ⟨os, hos, hcs⟩
  unfold getItem
  try with_reducible refine wpAny_holding ?_
  first | refine wpAny_bind (wpAny_pure ?_) | skip
  refine wpAny_bind (wpAny_sequenceKey ht.typeIs (by decide) ?_)
  refine wpAny_bind (wpAny_callSpecial?_slot (name := Str.ofString "__getitem__") ht.typeIs PyProof.Rows.slot_tuple_getitem
    (wpAny_call_entry PyProof.Rows.slot_tuple_getitem ht.typeIs entry_tuple_getitem ?_ (args_tuple_getitem _ _)))
  show wpAny _ _ (Builtin.Tuple.tupleItemsOf (.ref t) >>= _) _ _ s
  refine wpAny_bind (tupleItemsOf_ ht ?_)
  refine wpAny_bind (wpAny_typeOf hTs ?_)
  rw [if_pos (by decide)]
  refine wpAny_bind (sliceApplied_gen hs pl pu ?_)
  have hyes : ((((sIx items.size 0 lo : Nat) : Int) == 0 && (1 : Int) == 1 && (sIx items.size items.size hi - sIx items.size 0 lo) == items.size) = true) := by
    rw [hw.1, hw.2]
    simp
  show wpAny _ _ (if (((sIx items.size 0 lo : Nat) : Int) == 0 && (1 : Int) == 1 && (sIx items.size items.size hi - sIx items.size 0 lo) == items.size) = true then _ else _) _ _ s
  rw [if_pos hyes]
  refine wpAny_bind (m := Builtin.Tuple.tupleIsExact _) ?_
  unfold Builtin.Tuple.tupleIsExact
  refine wpAny_bind (wpAny_typeOf ht.typeIs (wpAny_pure ?_))
  rw [if_pos (by decide)]
  refine wpAny_bind (wpAny_rule ?_)
  first
    | exact wpAny_pure ⟨_, rfl, wpAny_pure h⟩
    | exact wpAny_bind (wpAny_pure (wpAny_pure ⟨_, rfl, wpAny_pure h⟩))
end
end HT
namespace L2
open PySem PySem.Spec PyProof.Rows
section
variable {X : Cx} {a b c e o : Expr} {ta tb tc te to : TE} {pos p apos cpos : Pos} {es : List Expr} {t : TA}
theorem sl_tupW : SlR X (fun x lo hi H Q => ∃ a xs, x = .ref a ∧ H a = some (.tup xs) ∧ (HT.sIx xs.length 0 lo = 0 ∧ HT.sIx xs.length xs.length hi = xs.length) ∧ Q (.ref a) H) := by
  intro pins s σ H x v vl vu lo hi sl Q I rx hs pl pu h
  obtain ⟨a, xs, rfl, hx, hw, q⟩ := h
  cases rx
  obtain ⟨its, r, ht, hz⟩ := I.tuple (SqT.of hx)
  have hlen : its.toArray.size = xs.length := by rw [List.size_toArray]; exact r.length.symm
  refine ⟨"tuple", _, PyProof.Rows.slot_tuple_getitem.lookup, ht.typeIs, ?_⟩
  exact HT.getItem_tuple_whole ht hs pl pu (by rw [hlen]; exact hw) ⟨.ref a, H, I, rfl, q⟩
theorem cutV_whole {xs : List V} {lo hi : Option Int} (h : HT.sIx xs.length 0 lo = 0 ∧ HT.sIx xs.length xs.length hi = xs.length) : cutV xs lo hi = xs := by
  unfold cutV
  rw [h.1, h.2]
  simp
theorem sl_tupA : SlR X (fun x lo hi H Q => ∃ a xs, x = .ref a ∧ H a = some (.tup xs) ∧ ∀ p H', H' p = some (.tup (cutV xs lo hi)) → Same H H' → (∀ q, q ≠ p → H' q = H q) → Q (.ref p) H') := by
  intro pins s σ H x v vl vu lo hi sl Q I rx hs pl pu h
  obtain ⟨a, xs, rfl, hx, q⟩ := h
  by_cases hw : HT.sIx xs.length 0 lo = 0 ∧ HT.sIx xs.length xs.length hi = xs.length
  · exact sl_tupW pins s σ H _ v vl vu lo hi sl Q I rx hs pl pu ⟨a, xs, rfl, hx, hw, q a H (by rw [cutV_whole hw]; exact hx) (Same.refl H) fun _ _ => rfl⟩
  · exact sl_tup pins s σ H _ v vl vu lo hi sl Q I rx hs pl pu ⟨a, xs, rfl, SqT.of hx, hw, fun p hp => q p _ upd_same (fun c o hc => by rw [upd_ne (ne_of_none hc hp)]; exact hc) fun _ hq => upd_ne hq⟩
theorem sl_lstA : SlR X (fun x lo hi H Q => ∃ a xs, x = .ref a ∧ H a = some (.lst xs) ∧ ∀ p, H p = none → Q (.ref p) (upd H p (.lst (cutV xs lo hi)))) := by
  intro pins s σ H x v vl vu lo hi sl Q I rx hs pl pu h
  obtain ⟨a, xs, rfl, hx, q⟩ := h
  exact sl_list pins s σ H _ v vl vu lo hi sl Q I rx hs pl pu ⟨a, xs, rfl, SqL.of hx, q⟩
theorem pe_globI {x : Str} {i : Int} {pos : Pos} (hg : Gl X x) (hm : ∃ t, X.mg x = some (.int i t)) (hd : (x == ("__debug__" : Str)) = false := by decide) : PE X (.Name x pos) (tC (.int i)) := by
  obtain ⟨t, hm⟩ := hm
  exact pe_glob hg hm ⟨t, rfl⟩ hd
theorem pe_globS {x z : Str} {pos : Pos} (hg : Gl X x) (hm : ∃ t, X.mg x = some (.str z t)) (hd : (x == ("__debug__" : Str)) = false := by decide) : PE X (.Name x pos) (tC (.str z)) := by
  obtain ⟨t, hm⟩ := hm
  exact pe_glob hg hm ⟨t, rfl⟩ hd
theorem op_eqA (hu : X.A.units + 1 < cLine) : OpR X (compareOp .Eq) rEq := op_eq
theorem op_neA (hu : X.A.units + 1 < cLine) : OpR X (compareOp .NotEq) rNe := op_ne
def rIsA : R2 := fun x y H Q => (∃ i j, x = .bl i ∧ y = .bl j ∧ Q (.bl (i == j)) H) ∨ (y = .non ∧ Q (.bl (decide (x = .non))) H)
theorem op_isA : OpR X (compareOp .Is) rIsA := op_isB.or op_isN
def rIsnotA : R2 := fun x y H Q => (∃ i j, x = .bl i ∧ y = .bl j ∧ Q (.bl (i != j)) H) ∨ (y = .non ∧ Q (.bl (!decide (x = .non))) H)
def tupleA : List V → Hp → VK → Prop := fun xs H Q => ∃ p ys, xs = [.ref p] ∧ ((H p = some (.lst ys) ∧ ∀ l, H l = none → Q (.ref l) (upd H l (.tup ys))) ∨ (H p = some (.tup ys) ∧ Q (.ref p) H))
theorem call_tupleA : CallR X (.type "tuple") tupleA := by
  intro pins s σ H xs us Q I r h
  obtain ⟨p, ys, rfl, h⟩ := h
  exact call_tuple_of pins s σ H _ us Q I r ⟨p, ys, rfl, h.imp (fun h => ⟨SqL.of h.1, h.2⟩) fun h => ⟨SqT.of h.1, h.2⟩⟩
def listA : List V → Hp → VK → Prop := fun xs H Q => ∃ p ys, xs = [.ref p] ∧ (H p = some (.lst ys) ∨ H p = some (.tup ys)) ∧ ∀ l, H l = none → Q (.ref l) (upd H l (.lst ys))
theorem call_listA : CallR X (.type "list") listA := by
  intro pins s σ H xs us Q I r h
  obtain ⟨p, ys, rfl, h, q⟩ := h
  exact call_list_of pins s σ H _ us Q I r ⟨p, ys, rfl, h.imp SqL.of SqT.of, q⟩
def cpB (N : List Str) (osc sc : Scope) (own : List Str) (cap : List Nat) : Bool :=
  decide (sc.kind = .function) && sc.names.all (fun x => x.2 != .local || decide (sc.names.lookup x.1 = some .local)) && sc.names.all (fun y => y.2 != .cell) &&
  sc.names.all (fun y => y.2 != .free || decide (osc.names.lookup y.1 = some .cell) || decide (osc.names.lookup y.1 = some .free)) && cap.all fun j => decide (j < N.length) && decide (sc.names.lookup (N.getD j "") = some .free)
theorem cp_ok {N : List Str} {osc sc : Scope} {own : List Str} {cap : List Nat} (h : cpB N osc sc own cap = true) : CpScope N osc sc own cap := by
  unfold cpB at h
  rw [Bool.and_eq_true, Bool.and_eq_true, Bool.and_eq_true, Bool.and_eq_true] at h
  obtain ⟨⟨⟨⟨h1, h2⟩, h3⟩, h4⟩, h5⟩ := h
  refine ⟨of_decide_eq_true h1, fun x hx hl => ?_, fun y hy hc => ?_, fun y hy hf => ?_, fun j hj => ?_⟩
  · have q := List.all_eq_true.mp h2 x hx
    rw [hl] at q
    exact of_decide_eq_true (by simpa using q)
  · have q := List.all_eq_true.mp h3 y hy
    rw [hc] at q
    exact absurd q (by decide)
  · have q := List.all_eq_true.mp h4 y hy
    rw [hf] at q
    rw [Bool.or_eq_true, Bool.or_eq_true] at q
    rcases q with (q | q) | q
    · exact absurd q (by decide)
    · exact .inl (of_decide_eq_true q)
    · exact .inr (of_decide_eq_true q)
  · have q := List.all_eq_true.mp h5 j hj
    rw [Bool.and_eq_true] at q
    exact ⟨of_decide_eq_true q.1, of_decide_eq_true q.2⟩
end
end L2
set_option Elab.async false
set_option linter.all false
set_option maxRecDepth 100000
namespace L2
open PySem PySem.Spec PyProof.Rows
section
variable {X : Cx}
def rRepT : R2 := fun x y H Q => ∃ l k xs, x = .ref l ∧ y = .int k ∧ H l = some (.tup xs) ∧ xs ≠ [] ∧ 2 ≤ k ∧ k ≤ 1000 ∧ xs.length * k.toNat ≤ 10000 ∧
  ∀ p, H p = none → Q (.ref p) (upd H p (.tup (List.replicate k.toNat xs).flatten))
def rMulA : R2 := fun x y H Q => (∃ i j, x = .int i ∧ y = .int j ∧ CMul i j ∧ Q (.int (i * j)) H) ∨ rRepT x y H Q
theorem CallR.weak {f : Value} {r r' : List V → Hp → VK → Prop} (h : CallR X f r) (w : ∀ xs H Q, r' xs H Q → r xs H Q) : CallR X f r' := fun pins s σ H xs us Q I rv q => h pins s σ H xs us Q I rv (w _ _ _ q)
theorem PI.weak {tg it : Expr} {w1 w2 : TI} (h : PI X tg it w1) (w : ∀ σ H R, w2 σ H R → w1 σ H R) : PI X tg it w2 := fun pins s σ H R I q => h pins s σ H R I (w _ _ _ q)
def lenQ : List V → Hp → VK → Prop := fun xs H Q => ∃ p ys, xs = [.ref p] ∧ (H p = some (.lst ys) ∨ H p = some (.tup ys)) ∧ Q (.int ys.length) H
theorem call_len_q : CallR X (.builtin "len") lenQ := call_lenA.weak fun _ _ _ h => .inl h
def lenS : List V → Hp → VK → Prop := fun xs H Q => ∃ z, xs = [.str z] ∧ z.length ≤ sizeLine ∧ Q (.int z.length) H
def lenD : List V → Hp → VK → Prop := fun xs H Q => ∃ p kvs, xs = [.ref p] ∧ H p = some (.dK kvs) ∧ Q (.int kvs.length) H
def rSetD : V → V → V → Hp → (Hp → Prop) → Prop := fun o i v H Q => ∃ p kvs k, o = .ref p ∧ i = kV k ∧ H p = some (.dK kvs) ∧ kvs.length < sizeLine ∧ Q (upd H p (.dK (putK kvs k v)))
def rAddS : R2 := fun x y H Q => ∃ i j, x = .str i ∧ y = .str j ∧ i.length + j.length ≤ sizeLine ∧ Q (.str (i ++ j)) H
def iLst (te : TE) : TI := fun σ H R => te σ H fun x H1 => ∃ a xs, x = .ref a ∧ H1 a = some (.lst xs) ∧ R (ItL a xs) H1
def iTpl (te : TE) : TI := fun σ H R => te σ H fun x H1 => ∃ a xs, x = .ref a ∧ H1 a = some (.tup xs) ∧ R (ItT a xs) H1
def iTxt (te : TE) : TI := fun σ H R => te σ H fun x H1 => ∃ z, x = .str z ∧ R (Its z) H1
theorem pi_lst {tg l : Expr} {te : TE} (hl : PE X l te) : PI X tg l (iLst te) := by
  intro pins s σ H R I h
  refine thn (hl pins s σ H _ I h) fun v s1 ⟨x, H1, I1, r1, q1⟩ => ?_
  obtain ⟨a, xs, e, ha, q⟩ := q1
  subst e
  cases r1
  obtain ⟨its, rv, hli, hlt⟩ := lst_iter I1 ha
  refine wpAny_pyIter_list hli ?_
  refine ⟨s1.heap.objs.size, [s1.heap.objs.size], _, _, H1, rfl, I1.kept (t' := s1.toks) fun b o e => Heap.get?_push_of_some _ e, turn_seqL a _ xs, ⟨_, Heap.get?_push_size _ rfl, rfl, rfl⟩, fun b hb => ?_, q⟩
  have e : b = s1.heap.objs.size := by simpa using hb
  subst e
  exact I1.fpOk (Nat.le_refl _) (I1.hok.fresh (Nat.le_refl _))
theorem pi_tpl {tg l : Expr} {te : TE} (hl : PE X l te) : PI X tg l (iTpl te) := by
  intro pins s σ H R I h
  refine thn (hl pins s σ H _ I h) fun v s1 ⟨x, H1, I1, r1, q1⟩ => ?_
  obtain ⟨a, xs, e, ha, q⟩ := q1
  subst e
  cases r1
  obtain ⟨hz, its, rv, p⟩ := I1.hok a _ ha
  refine wpAny_pyIter_tuple (show s1.heap.IsTuple a its.toArray from p) ?_
  refine ⟨s1.heap.objs.size, [s1.heap.objs.size], _, _, H1, rfl, I1.kept (t' := s1.toks) fun b o e => Heap.get?_push_of_some _ e, turn_seqT a _ xs, ⟨_, Heap.get?_push_size _ rfl, rfl, rfl⟩, fun b hb => ?_, q⟩
  have e : b = s1.heap.objs.size := by simpa using hb
  subst e
  exact I1.fpOk (Nat.le_refl _) (I1.hok.fresh (Nat.le_refl _))
end
end L2
set_option Elab.async false
set_option linter.all false
set_option maxRecDepth 100000
namespace NP
open PySem L2
theorem bt_isinstance : bootBuiltins "isinstance" = some (.builtin "isinstance") := by decide +kernel
theorem bt_all : bootBuiltins "all" = some (.builtin "all") := by decide +kernel
theorem bt_len : bootBuiltins "len" = some (.builtin "len") := by decide +kernel
theorem bt_int : bootBuiltins "int" = some (.type "int") := by decide +kernel
theorem bt_bool : bootBuiltins "bool" = some (.type "bool") := by decide +kernel
theorem bt_str : bootBuiltins "str" = some (.type "str") := by decide +kernel
theorem bt_tuple : bootBuiltins "tuple" = some (.type "tuple") := by decide +kernel
theorem bt_list : bootBuiltins "list" = some (.type "list") := by decide +kernel
theorem bt_enumerate : bootBuiltins "enumerate" = some (.type "enumerate") := by decide +kernel
theorem bt_zip : bootBuiltins "zip" = some (.type "zip") := by decide +kernel
def But (st : Addr) (H H' : Hp) : Prop := ∀ b o, b ≠ st → H b = some o → H' b = some o
theorem But.refl (st : Addr) (H : Hp) : But st H H := fun _ _ _ h => h
theorem But.trans {st : Addr} {H H1 H2 : Hp} (a : But st H H1) (b : But st H1 H2) : But st H H2 := fun c o n h => b c o n (a c o n h)
theorem same_but {st : Addr} {H H' : Hp} (s : Same H H') : But st H H' := fun b o _ h => s b o h
theorem same_upd {H : Hp} {p : Addr} {o : HO} (hp : H p = none) : Same H (upd H p o) := fun b u h => by rw [upd_ne (ne_of_none h hp)]; exact h
theorem but_upd {st : Addr} {H : Hp} {p : Addr} {o : HO} (hp : H p = none) : But st H (upd H p o) := same_but (same_upd hp)
theorem but_set {st : Addr} {H : Hp} {o : HO} : But st H (upd H st o) := fun b u n h => by rw [upd_ne n]; exact h
def StOk (H : Hp) (st : Addr) : Prop := ∃ ns : List Int, ns ≠ [] ∧ H st = some (.lst (ns.map V.int))
theorem StOk.same {H H' : Hp} {st : Addr} (h : StOk H st) (s : Same H H') : StOk H' st := let ⟨ns, n, e⟩ := h; ⟨ns, n, s _ _ e⟩
inductive D where
  | non | bl (b : Bool) | int (i : Int) | str (x : Str) | tup (ds : List D) | lst | dct
mutual
def Rep (H : Hp) : D → V → Prop
  | .non, v => v = .non
  | .bl b, v => v = .bl b
  | .int i, v => v = .int i
  | .str x, v => v = .str x ∧ x.length ≤ 1000
  | .tup ds, v => ∃ a xs, v = .ref a ∧ H a = some (.tup xs) ∧ ds.length ≤ 1000 ∧ Reps H ds xs
  | .lst, v => ∃ a xs, v = .ref a ∧ H a = some (.lst xs)
  | .dct, v => ∃ a kvs, v = .ref a ∧ H a = some (.dK kvs)
def Reps (H : Hp) : List D → List V → Prop
  | [], xs => xs = []
  | d :: ds, xs => ∃ x r, xs = x :: r ∧ Rep H d x ∧ Reps H ds r
end
def KeepT (H H' : Hp) : Prop := (∀ a xs, H a = some (.tup xs) → H' a = some (.tup xs)) ∧ (∀ a xs, H a = some (.lst xs) → ∃ ys, H' a = some (.lst ys)) ∧ ∀ a kvs, H a = some (.dK kvs) → ∃ kvs', H' a = some (.dK kvs')
theorem same_keepT {H H' : Hp} (s : Same H H') : KeepT H H' := ⟨fun _ _ h => s _ _ h, fun _ xs h => ⟨xs, s _ _ h⟩, fun _ kvs h => ⟨kvs, s _ _ h⟩⟩
mutual
theorem Rep.keep {H H' : Hp} (k : KeepT H H') : ∀ (d : D) (v : V), Rep H d v → Rep H' d v
  | .non, v, h => by rw [Rep] at h ⊢; exact h
  | .bl b, v, h => by rw [Rep] at h ⊢; exact h
  | .int i, v, h => by rw [Rep] at h ⊢; exact h
  | .str x, v, h => by rw [Rep] at h ⊢; exact h
  | .tup ds, v, h => by
    rw [Rep] at h ⊢
    obtain ⟨a, xs, e, h, z, r⟩ := h
    exact ⟨a, xs, e, k.1 a xs h, z, Reps.keep k ds xs r⟩
  | .lst, v, h => by
    rw [Rep] at h ⊢
    obtain ⟨a, xs, e, h⟩ := h
    obtain ⟨ys, h'⟩ := k.2.1 a xs h
    exact ⟨a, ys, e, h'⟩
  | .dct, v, h => by
    rw [Rep] at h ⊢
    obtain ⟨a, kvs, e, h⟩ := h
    obtain ⟨ys, h'⟩ := k.2.2 a kvs h
    exact ⟨a, ys, e, h'⟩
theorem Reps.keep {H H' : Hp} (k : KeepT H H') : ∀ (ds : List D) (xs : List V), Reps H ds xs → Reps H' ds xs
  | [], xs, h => by rw [Reps] at h ⊢; exact h
  | d :: ds, xs, h => by
    rw [Reps] at h ⊢
    obtain ⟨x, r, e, h1, h2⟩ := h
    exact ⟨x, r, e, Rep.keep k d x h1, Reps.keep k ds r h2⟩
end
theorem Rep.same {H H' : Hp} {d : D} {v : V} (h : Rep H d v) (s : Same H H') : Rep H' d v := Rep.keep (same_keepT s) d v h
theorem Reps.same {H H' : Hp} {ds : List D} {vs : List V} (h : Reps H ds vs) (s : Same H H') : Reps H' ds vs := Reps.keep (same_keepT s) ds vs h
theorem Reps.length {H : Hp} : ∀ {ds : List D} {xs : List V}, Reps H ds xs → xs.length = ds.length
  | [], xs, h => by rw [Reps] at h; rw [h]; rfl
  | d :: ds, xs, h => by
    rw [Reps] at h
    obtain ⟨x, r, e, _, h2⟩ := h
    rw [e, List.length_cons, List.length_cons, Reps.length h2]
theorem Reps.get {H : Hp} : ∀ {ds : List D} {xs : List V} {i : Nat} {x : V}, Reps H ds xs → xs[i]? = some x → ∃ d, ds[i]? = some d ∧ Rep H d x
  | [], xs, i, x, h, e => by rw [Reps] at h; rw [h] at e; cases e
  | d :: ds, xs, i, x, h, e => by
    rw [Reps] at h
    obtain ⟨y, r, ey, h1, h2⟩ := h
    rw [ey] at e
    cases i with
    | zero => cases e; exact ⟨d, rfl, h1⟩
    | succ i => exact Reps.get (ds := ds) (xs := r) (i := i) h2 (by simpa using e)
theorem Reps.get' {H : Hp} : ∀ {ds : List D} {xs : List V} {i : Nat} {d : D}, Reps H ds xs → ds[i]? = some d → ∃ x, xs[i]? = some x ∧ Rep H d x
  | [], xs, i, d, h, e => by cases e
  | d0 :: ds, xs, i, d, h, e => by
    rw [Reps] at h
    obtain ⟨y, r, ey, h1, h2⟩ := h
    rw [ey]
    cases i with
    | zero => cases e; exact ⟨y, rfl, h1⟩
    | succ i =>
      obtain ⟨x, h3, h4⟩ := Reps.get' (ds := ds) (xs := r) (i := i) (d := d) h2 (by simpa using e)
      exact ⟨x, by simpa using h3, h4⟩
def D.ty : D → String
  | .non => "NoneType"
  | .bl _ => "bool"
  | .int _ => "int"
  | .str _ => "str"
  | .tup _ => "tuple"
  | .lst => "list"
  | .dct => "dict"
theorem Rep.ty {H : Hp} {d : D} {v : V} (h : Rep H d v) : tyOf H v = some d.ty := by
  cases d <;> rw [Rep] at h
  · rw [h]; rfl
  · rw [h]; rfl
  · rw [h]; rfl
  · rw [h.1]; rfl
  · obtain ⟨a, xs, e, h, _⟩ := h; rw [e]; unfold tyOf; simp only [h]; rfl
  · obtain ⟨a, xs, e, h⟩ := h; rw [e]; unfold tyOf; simp only [h]; rfl
  · obtain ⟨a, xs, e, h⟩ := h; rw [e]; unfold tyOf; simp only [h]; rfl
def CompW (J : It) (own : List Str) (cap : List Nat) (g : TG) (tt : TT) (te : TE) (σ : St) (H1 : Hp) (Q : VK) : Prop := ∃ W : Nat → Nat → List V → Hp → Prop, (∃ m, W 0 m [] H1) ∧ ∀ i m acc H, W i m acc H → acc.length ≤ sizeLine ∧
  ((J.stop i H ∧ ∀ p, H p = none → Q (.ref p) (upd H p (.lst acc))) ∨
   (J.go i H ∧ acc.length < sizeLine ∧ ∃ N : List V → Hp → Prop, (∀ acc' H', N acc' H' → ∃ m', m' < m ∧ W (i + 1) m' acc' H') ∧ ∀ x H', J.yld i H x H' → g x (cpSt own cap σ) H' fun σ2 H2 => tt σ2 H2 fun b H3 => if b = true then te σ2 H3 fun y H4 => N (acc ++ [y]) H4 else N acc H3))
theorem tComp_eq (own : List Str) (cap : List Nat) (wi : TI) (g : TG) (tt : TT) (te : TE) (σ : St) (H : Hp) (Q : VK) : tComp own cap wi g tt te σ H Q = wi σ H fun J H1 => CompW J own cap g tt te σ H1 Q := rfl
def ForW (J : It) (g : TG) (tb : TS) (D : Ends) (σ : St) (H1 : Hp) : Prop := ∃ W : Nat → Nat → St → Hp → Prop, (∃ m, W 0 m σ H1) ∧ ∀ i m σ H, W i m σ H →
  (J.stop i H ∧ D.nx σ H) ∨ (J.go i H ∧ ∃ N : St → Hp → Prop, (∀ σ' H', N σ' H' → ∃ m', m' < m ∧ W (i + 1) m' σ' H') ∧ ∀ x H', J.yld i H x H' → g x σ H' fun σ2 H2 => tb { D with nx := N, ct := N, bk := D.nx } σ2 H2)
theorem tFor_eq (wi : TI) (g : TG) (tb : TS) (D : Ends) (σ : St) (H : Hp) : tFor wi g tb D σ H = wi σ H fun J H1 => ForW J g tb D σ H1 := rfl
theorem iAny_eq (te : TE) (σ : St) (H : Hp) (R : It → Hp → Prop) : iAny te σ H R = te σ H fun x H1 => (∃ a xs, x = .ref a ∧ H1 a = some (.lst xs) ∧ R (ItL a xs) H1) ∨ (∃ a xs, x = .ref a ∧ H1 a = some (.tup xs) ∧ R (ItT a xs) H1) ∨ (∃ z, x = .str z ∧ R (Its z) H1) := rfl
theorem mem_int : ("int" ∈ ["bool", "int", "str", "list", "tuple", "dict"]) = True := eq_true (by decide)
theorem mem_bool : ("bool" ∈ ["bool", "int", "str", "list", "tuple", "dict"]) = True := eq_true (by decide)
theorem mem_str : ("str" ∈ ["bool", "int", "str", "list", "tuple", "dict"]) = True := eq_true (by decide)
theorem mem_list : ("list" ∈ ["bool", "int", "str", "list", "tuple", "dict"]) = True := eq_true (by decide)
theorem mem_tuple : ("tuple" ∈ ["bool", "int", "str", "list", "tuple", "dict"]) = True := eq_true (by decide)
theorem mem_dict : ("dict" ∈ ["bool", "int", "str", "list", "tuple", "dict"]) = True := eq_true (by decide)
theorem isi_NoneType_bool : isiB "NoneType" "bool" = false := by decide
theorem isi_NoneType_int : isiB "NoneType" "int" = false := by decide
theorem isi_NoneType_str : isiB "NoneType" "str" = false := by decide
theorem isi_NoneType_list : isiB "NoneType" "list" = false := by decide
theorem isi_NoneType_tuple : isiB "NoneType" "tuple" = false := by decide
theorem isi_NoneType_dict : isiB "NoneType" "dict" = false := by decide
theorem isi_bool_bool : isiB "bool" "bool" = true := by decide
theorem isi_bool_int : isiB "bool" "int" = true := by decide
theorem isi_bool_str : isiB "bool" "str" = false := by decide
theorem isi_bool_list : isiB "bool" "list" = false := by decide
theorem isi_bool_tuple : isiB "bool" "tuple" = false := by decide
theorem isi_bool_dict : isiB "bool" "dict" = false := by decide
theorem isi_int_bool : isiB "int" "bool" = false := by decide
theorem isi_int_int : isiB "int" "int" = true := by decide
theorem isi_int_str : isiB "int" "str" = false := by decide
theorem isi_int_list : isiB "int" "list" = false := by decide
theorem isi_int_tuple : isiB "int" "tuple" = false := by decide
theorem isi_int_dict : isiB "int" "dict" = false := by decide
theorem isi_str_bool : isiB "str" "bool" = false := by decide
theorem isi_str_int : isiB "str" "int" = false := by decide
theorem isi_str_str : isiB "str" "str" = true := by decide
theorem isi_str_list : isiB "str" "list" = false := by decide
theorem isi_str_tuple : isiB "str" "tuple" = false := by decide
theorem isi_str_dict : isiB "str" "dict" = false := by decide
theorem isi_list_bool : isiB "list" "bool" = false := by decide
theorem isi_list_int : isiB "list" "int" = false := by decide
theorem isi_list_str : isiB "list" "str" = false := by decide
theorem isi_list_list : isiB "list" "list" = true := by decide
theorem isi_list_tuple : isiB "list" "tuple" = false := by decide
theorem isi_list_dict : isiB "list" "dict" = false := by decide
theorem isi_tuple_bool : isiB "tuple" "bool" = false := by decide
theorem isi_tuple_int : isiB "tuple" "int" = false := by decide
theorem isi_tuple_str : isiB "tuple" "str" = false := by decide
theorem isi_tuple_list : isiB "tuple" "list" = false := by decide
theorem isi_tuple_tuple : isiB "tuple" "tuple" = true := by decide
theorem isi_tuple_dict : isiB "tuple" "dict" = false := by decide
theorem isi_dict_bool : isiB "dict" "bool" = false := by decide
theorem isi_dict_int : isiB "dict" "int" = false := by decide
theorem isi_dict_str : isiB "dict" "str" = false := by decide
theorem isi_dict_list : isiB "dict" "list" = false := by decide
theorem isi_dict_tuple : isiB "dict" "tuple" = false := by decide
theorem isi_dict_dict : isiB "dict" "dict" = true := by decide
theorem comp_map {J : It} {n : Nat} {yl : Nat → V → Prop} {ok : Hp → Prop} {own : List Str} {cap : List Nat} {g : TG} {tt : TT} {te : TE} {σ : St} {H : Hp} {Q : VK} (G : Goes J n yl ok) (hn : n ≤ sizeLine) (hok : ∀ H', Same H H' → ok H') (ys : List V) (hl : ys.length = n)
    (hs : ∀ i x H', i < n → yl i x → Same H H' → ∀ (N : V → Hp → Prop) (M : Hp → Prop), (∀ y H4, Same H H4 → ys[i]? = some y → N y H4) → g x (cpSt own cap σ) H' fun σ2 H2 => tt σ2 H2 fun b H3 => if b = true then te σ2 H3 N else M H3)
    (hd : ∀ H', Same H H' → ∀ p, H' p = none → Q (.ref p) (upd H' p (.lst ys))) : CompW J own cap g tt te σ H Q := by
  refine comp_goes G hn (fun i acc H' => Same H H' ∧ acc = ys.take i) ⟨Same.refl H, by simp⟩ (fun i acc H' _ h => hok H' h.1) (fun i acc H' h => by rw [h.2, List.length_take]; omega) (fun i x acc H' hi hx h => ?_) (fun acc H' h p hp => ?_)
  · obtain ⟨s', rfl⟩ := h
    refine hs i x H' hi hx s' _ _ fun y H4 s4 hy => ⟨s4, ?_⟩
    rw [List.take_add_one, hy]
    rfl
  · obtain ⟨s', e⟩ := h
    rw [e, List.take_of_length_le (by omega)]
    exact hd H' s' p hp
theorem for_w {J : It} {n : Nat} {yl : Nat → V → Prop} {ok : Hp → Prop} {g : TG} {tb : TS} {D : Ends} {σ : St} {H : Hp} (G : Goes J n yl ok) (Pv : Nat → St → Hp → Prop) (h0 : Pv 0 σ H) (hok : ∀ i σ H, i ≤ n → Pv i σ H → ok H)
    (hs : ∀ i x σ H, i < n → yl i x → Pv i σ H → g x σ H fun σ2 H2 => tb { D with nx := Pv (i + 1), ct := Pv (i + 1), bk := D.nx } σ2 H2) (hd : ∀ σ H, Pv n σ H → D.nx σ H) : ForW J g tb D σ H := for_goes G Pv h0 hok hs hd
theorem StOk.upd {H : Hp} {st l : Addr} {o : HO} (h : StOk H st) (n : st ≠ l) : StOk (upd H l o) st := let ⟨ns, hn, e⟩ := h; ⟨ns, hn, by rw [upd_ne n]; exact e⟩
theorem StOk.ne {H : Hp} {st l : Addr} (h : StOk H st) (n : H l = none) : st ≠ l := let ⟨_, _, e⟩ := h; ne_of_none e n
theorem StOk.neT {H : Hp} {st l : Addr} {xs : List V} (h : StOk H st) (n : H l = some (.tup xs)) : l ≠ st := by
  obtain ⟨_, _, e⟩ := h
  exact ne_of n e (fun z => by cases z)
theorem But.upd {H H1 : Hp} {st l : Addr} {o : HO} (h : But st H H1) (hl : H l = none) : But st H (L2.upd H1 l o) := fun b u n e => by rw [upd_ne (ne_of_none e hl)]; exact h b u n e
theorem But.new {H H1 : Hp} {st l : Addr} {o : HO} (h : But st H H1) (hl : H1 l = none) : But st H (L2.upd H1 l o) := h.trans (but_upd hl)
theorem But.same {H H1 H2 : Hp} {st : Addr} (h : But st H H1) (s : Same H1 H2) : But st H H2 := h.trans (same_but s)
theorem But.none {H H1 : Hp} {st l : Addr} (h : But st H H1) (n : l ≠ st) (hl : H1 l = none) : H l = none := by
  cases e : H l with
  | none => rfl
  | some o => rw [h l o n e] at hl; cases hl
theorem line1000 {n : Nat} (h : n ≤ 1000) : n ≤ sizeLine := Nat.le_trans h (by decide)
end NP
set_option Elab.async false
set_option linter.all false
set_option maxRecDepth 100000
namespace L2
open PySem PySem.Spec PyProof.Rows
def noStar : List Expr → Bool
  | [] => true
  | .Starred .. :: _ => false
  | _ :: r => noStar r
theorem starEach_of {env : Env} : ∀ {es : List Expr}, noStar es = true → starEach es env = es.map fun e => (false, eval e env)
  | [], _ => rfl
  | e :: r, h => by
    cases e <;> first
      | (exact absurd h Bool.false_ne_true)
      | (rw [List.map_cons, ← starEach_of (env := env) (es := r) h]; rfl)
theorem starEach_cons {env : Env} {e : Expr} {es : List Expr} (h : noStar [e] = true) : starEach (e :: es) env = (false, eval e env) :: starEach es env := by
  cases e <;> first
    | (exact absurd h Bool.false_ne_true)
    | rfl
theorem noStar_cons {e : Expr} {es : List Expr} (h : noStar (e :: es) = true) : noStar [e] = true ∧ noStar es = true := by
  cases e <;> first
    | (exact absurd h Bool.false_ne_true)
    | exact ⟨rfl, h⟩
theorem backTo_any {env : Env} {pos : Pos} {es : List Expr} (h : noStar es = true) : (backTo pos (starEach es env)).any (·.1) = false := by
  rw [starEach_of h]
  unfold backTo
  rw [List.map_map, List.any_map]
  induction es with
  | nil => rfl
  | cons e r ih =>
    rw [List.any_cons]
    exact ih (noStar_cons h).2
theorem backTo_all {env : Env} {pos : Pos} {es : List Expr} (h : noStar es = true) : (backTo pos (starEach es env)).all (fun x => !x.1) = true := by
  rw [starEach_of h]
  unfold backTo
  rw [List.map_map, List.all_map]
  induction es with
  | nil => rfl
  | cons e r ih =>
    rw [List.all_cons]
    exact ih (noStar_cons h).2
section
variable {X : Cx} {x : Str} {p pos apos cpos : Pos} {e o tg : Expr} {es : List Expr} {te to : TE} {t : TA} {id T : String} {r : List V → Hp → VK → Prop} {rm : V → List V → Hp → VK → Prop} {k : Nat} {ps : List Str} {sp : Sp} {name : Str}
theorem pa_e (ha : PE X e te) (hr : PA X es t) (hn : noStar [e] = true := by rfl) : PA X (e :: es) (tCons te t) := pa_cons ha hr (starEach_cons hn)
theorem pe_callS (h : Has X.prog X.w X.K X.mg X.base x k ps sp) (hr : Room k X.A) (hg : Gl X x) (ha : PA X (e :: es) t) (hn : noStar (e :: es) = true := by rfl) (hdb : (x == ("__debug__" : Str)) = false := by decide) :
    PE X (.Call (.Name x p) (e :: es) [] pos) (tCall sp [] E0 t) := pe_callH h hr hg ha hdb (starEach_cons (noStar_cons hn).1) (backTo_any (noStar_cons hn).2)
theorem pe_callBS (hc : CallR X (.builtin id) r) (hg : Gl X x) (hm : X.mg x = none) (hv : bootBuiltins x = some (.builtin id)) (ha : PA X (e :: es) t) (hn : noStar (e :: es) = true := by rfl) (hnm : x ≠ "__name__" := by decide) (hdb : (x == ("__debug__" : Str)) = false := by decide) :
    PE X (.Call (.Name x p) (e :: es) [] pos) (tCB r t) := pe_callB hc hg hm hv ha hnm hdb (starEach_cons (noStar_cons hn).1) (backTo_any (noStar_cons hn).2)
theorem pe_callTS (hc : CallR X (.type T) r) (hg : Gl X x) (hm : X.mg x = none) (hv : bootBuiltins x = some (.type T)) (ha : PA X (e :: es) t) (hn : noStar (e :: es) = true := by rfl) (hnm : x ≠ "__name__" := by decide) (hdb : (x == ("__debug__" : Str)) = false := by decide) :
    PE X (.Call (.Name x p) (e :: es) [] pos) (tCB r t) := pe_callTy hc hg hm hv ha hnm hdb (starEach_cons (noStar_cons hn).1) (backTo_any (noStar_cons hn).2)
theorem pe_bs (pa : PlainAttrs T) (slot : Slot T name id) (hty : typeOf (.builtin id) = pure (.type "method_descriptor")) (hm : MtR X id rm) (ho : PE X o to) (ha : PA X (e :: es) t) (hT : T = "list" ∨ T = "dict" ∨ T = "str" := by decide)
    (hbase : attributeBase o name X.env (eval o X.env) = eval o X.env := by rfl) (hn : noStar (e :: es) = true := by rfl) (hlen : (e :: es).length < 20 := by decide) (hline : (apos.endLine == cpos.line) = true := by rfl) :
    PE X (.Call (.Attribute o name apos) (e :: es) [] cpos) (tBA T rm to t) := by
  refine pe_ba pa slot hty hm ho ha hT hbase ?_ hline (starEach_cons (noStar_cons hn).1) (backTo_any (noStar_cons hn).2)
  rw [backTo_all hn, Bool.true_and]
  have e1 : (backToKw cpos (keywordEach [] X.env)).all (fun x => x.1.isSome) = true := rfl
  rw [e1, Bool.true_and]
  refine decide_eq_true ?_
  show (e :: es).length + 0 + 0 < 30
  omega
theorem pi_rangeS1 {ta : TA} (hg : Gl X "range") (hm : X.mg "range" = none) (ha : PA X [e] ta) (hn : noStar [e] = true := by rfl) : PI X tg (.Call (.Name "range" p) [e] [] pos) (iRng1 ta) := pi_range1 hg hm ha (starEach_of hn)
end
end L2
set_option Elab.async false
set_option linter.all false
set_option maxRecDepth 100000
namespace L2
open PySem PySem.Spec PyProof.Rows
mutual
def RD (H : Hp) : PyData → V → Prop
  | .none, v => v = .non
  | .bool b, v => v = .bl b
  | .int i, v => v = .int i
  | .str x, v => v = .str x
  | .list ds, v => ∃ a xs, v = .ref a ∧ H a = some (.lst xs) ∧ RDs H ds xs
  | .tuple ds, v => ∃ a xs, v = .ref a ∧ H a = some (.tup xs) ∧ RDs H ds xs
  | .dict _, _ => False
def RDs (H : Hp) : List PyData → List V → Prop
  | [], xs => xs = []
  | d :: ds, xs => ∃ x r, xs = x :: r ∧ RD H d x ∧ RDs H ds r
end
mutual
theorem RD.reads {P : Program} {w : World} {H : Hp} {h : Heap} (ok : HOk P w H h) : ∀ (d : PyData) (v : V) (u : Value), RD H d v → RelV v u → ∃ as, Reads h u d as
  | .none, v, u, r, e => by
    rw [RD] at r; subst r; cases e; exact ⟨_, .none⟩
  | .bool b, v, u, r, e => by
    rw [RD] at r; subst r; cases e; exact ⟨_, .bool b⟩
  | .int i, v, u, r, e => by
    rw [RD] at r; subst r; obtain ⟨t, rfl⟩ := e; exact ⟨_, .int i t⟩
  | .str x, v, u, r, e => by
    rw [RD] at r; subst r; obtain ⟨t, rfl⟩ := e; exact ⟨_, .str x t⟩
  | .list ds, v, u, r, e => by
    rw [RD] at r
    obtain ⟨a, xs, rfl, ha, r⟩ := r
    cases e
    obtain ⟨hz, its, n, rv, eo⟩ := ok a _ ha
    obtain ⟨as, q⟩ := RDs.reads ok ds xs its r rv
    exact ⟨_, .list (vs := its.toArray) eo rfl rfl q⟩
  | .tuple ds, v, u, r, e => by
    rw [RD] at r
    obtain ⟨a, xs, rfl, ha, r⟩ := r
    cases e
    obtain ⟨hz, its, rv, o, ho, hc, n, hd⟩ := ok a _ ha
    obtain ⟨as, q⟩ := RDs.reads ok ds xs its r rv
    exact ⟨_, .tuple (vs := its.toArray) ho hc hd q⟩
  | .dict _, v, u, r, e => by
    rw [RD] at r; exact r.elim
theorem RDs.reads {P : Program} {w : World} {H : Hp} {h : Heap} (ok : HOk P w H h) : ∀ (ds : List PyData) (xs : List V) (us : List Value), RDs H ds xs → Vals xs us → ∃ as, ReadsAll h us ds as
  | [], xs, us, r, e => by
    rw [RDs] at r; subst r; cases e; exact ⟨_, .nil⟩
  | d :: ds, xs, us, r, e => by
    rw [RDs] at r
    obtain ⟨x, r', rfl, h1, h2⟩ := r
    cases e with
    | cons r1 r2 =>
      obtain ⟨as, q1⟩ := RD.reads ok d x _ h1 r1
      obtain ⟨bs, q2⟩ := RDs.reads ok ds r' _ h2 r2
      exact ⟨_, .cons q1 q2⟩
end
def okD (d : PyData) : Bool := d.canLay0 && decide (d.depth ≤ 50)
def rEqD : R2 := fun x y H Q => ∃ d e, RD H d x ∧ RD H e y ∧ okD d = true ∧ okD e = true ∧ Q (.bl (PyData.eqv d e)) H
def rNeD : R2 := fun x y H Q => ∃ d e, RD H d x ∧ RD H e y ∧ okD d = true ∧ okD e = true ∧ Q (.bl (!PyData.eqv d e)) H
theorem okD_room {A : Around} {d e : PyData} (h : okD d = true) (hu : A.units + 64 < cLine) : A.units + min d.depth e.depth < cLine := by
  have h1 : d.depth ≤ 50 := of_decide_eq_true (Bool.and_eq_true_iff.mp h).2
  have h2 : min d.depth e.depth ≤ d.depth := Nat.min_le_left _ _
  omega
section
variable {X : Cx}
theorem op_eqD (hu : X.A.units + 64 < cLine) : OpR X (compareOp .Eq) rEqD := by
  intro pins s σ H x y v u Q I rx ry h
  obtain ⟨d, e, rd, re, hd, he, q⟩ := h
  obtain ⟨as, r1⟩ := RD.reads I.hok d x v rd rx
  obtain ⟨bs, r2⟩ := RD.reads I.hok e y u re ry
  exact SeqAt.compareEq_reads r1 r2 (Bool.and_eq_true_iff.mp hd).1 (Bool.and_eq_true_iff.mp he).1 (okD_room hd hu) ⟨.bl _, H, I, rfl, q⟩
end
theorem hu64_of {A : Around} {k : Nat} (hr : Room k A) : A.units + 64 < cLine := by
  have := hr.un
  omega
section
variable {X : Cx} {pins : List (Addr × Obj)} {σ : St} {H : Hp} {s : Shared} {h' : Heap}
theorem HOk.but {P : Program} {w : World} {h : Heap} {wr : List Addr} (x : HOk P w H h) (k : ∀ b o, b ∉ wr → h.get? b = some o → h'.get? b = some o) (n : ∀ b ∈ wr, H b = none) : HOk P w H h' := fun a o e =>
  (x a o e).stay (fun b u hb q => k b u (fun z => by
    rcases hb with hb | hb
    · rw [hb] at z; rw [n a z] at e; cases e
    · rw [n b z] at hb; cases hb) q) (fun _ q => q) fun _ _ q => q
theorem Inv.turnedL {t' : Nat} {wr : List Addr} (I : Inv X pins σ H s) (k : ∀ b o, b ∉ wr → s.heap.get? b = some o → h'.get? b = some o) (f : ∀ b ∈ wr, FpOk X pins H b) : Inv X pins σ H { s with heap := h', toks := t' } := by
  refine I.step (g' := s.gens) (d' := s.drawn) (ch := wr) (fun b hb => ?_) (fun b o _ _ hc e _ => k b o hc e) (fun b o _ _ hc e _ => ⟨o.slots, k b o hc e⟩) (fun _ _ _ _ n => n)
    (fun b o hc e => ⟨o, k b o hc e⟩) (fun _ _ e => e) (fun _ _ _ e => e) (fun b ps e => ⟨#[], by rw [e]; simp⟩) (fun m hm => ?_) (I.hok.but k fun b hb => (f b hb).1) I.bare
  · obtain ⟨f0, f1, f2, f3, f4, f5⟩ := f b hb
    exact ⟨f3, f1, f4, f5⟩
  · obtain ⟨o, es, ep, ho, r⟩ := hm
    exact ⟨o, es, ep, k _ o (fun z => (f _ z).2.1 rfl) ho, r⟩
theorem Inv.turnedT {t' : Nat} {wr : List Addr} {p : Addr} {xs : List V} {its : List Value} (I : Inv X pins σ H s) (k : ∀ b o, b ∉ wr → s.heap.get? b = some o → h'.get? b = some o) (f : ∀ b ∈ wr, FpOk X pins H b) (hp : s.heap.objs.size ≤ p)
    (ht : IsTup h' p its.toArray) (rv : Vals xs its) (hz : xs.length ≤ sizeLine) : Inv X pins σ (upd H p (.tup xs)) { s with heap := h', toks := t' } := by
  have hn : H p = none := I.hok.fresh hp
  have ne : ∀ b o, s.heap.get? b = some o → b ≠ p := fun b o e => addr_ne (Heap.lt_size e) hp
  refine I.step (g' := s.gens) (d' := s.drawn) (ch := wr) (fun b hb => ?_) (fun b o _ _ hc e _ => k b o hc e) (fun b o _ _ hc e _ => ⟨o.slots, k b o hc e⟩) (fun b o _ e n => by rw [upd_ne (ne b o e)]; exact n)
    (fun b o hc e => ⟨o, k b o hc e⟩) (fun b ys e => by rw [upd_ne (ne_of_none e hn)]; exact e) (fun b o u e => by rw [upd_ne (ne_of_none e hn)]; exact e) (fun b ps e => ⟨#[], by rw [upd_ne (ne_of_none e hn), e]; simp⟩) (fun m hm => ?_) (fun b u e => ?_) I.bare
  · obtain ⟨f0, f1, f2, f3, f4, f5⟩ := f b hb
    exact ⟨f3, f1, f4, f5⟩
  · obtain ⟨o, es, ep, ho, r⟩ := hm
    exact ⟨o, es, ep, k _ o (fun z => (f _ z).2.1 rfl) ho, r⟩
  · by_cases hb : b = p
    · subst hb
      rw [upd_same] at e
      cases e
      exact ⟨hz, its, rv, ht⟩
    · rw [upd_ne hb] at e
      refine (I.hok.but k (fun b hb => (f b hb).1) b u e).stay (fun _ _ _ q => q) (fun c q => ?_) fun c ys q => ?_
      · rw [upd_ne (ne_of_none q hn)]; exact q
      · rw [upd_ne (ne_of_none q hn)]; exact q
theorem item_T {P : Program} {w : World} {it : Addr} {fp wr : List Addr} {n i : Nat} {Pt : Nat → Array Value → Prop} {St : Nat → Heap → Prop} {Mid : Nat → Addr → Heap → Prop} {elts : List Expr} {k : Nat} {pos : Pos} {E : Value → Shared → Prop} {Y : List V → Prop}
    (W : WalksT P w X.A it fp wr n Pt St Mid) (hi : i < n) (I : Inv X pins σ H s) (st : St i s.heap) (hf : ∀ b ∈ wr, FpOk X pins H b) (hv : ∀ vals, Pt i vals → ∃ xs, Vals xs vals.toList ∧ xs.length ≤ 100 ∧ Y xs) :
    wpAny (model P w) X.A (pyNext (.ref it)) (fun r s1 => ∃ u, r = some u ∧ wpAny (model P w) X.A (letOwnedTupleGo (.Tuple elts k pos) (.ref it) u) (fun _ s2 =>
      ∃ p xs, u = .ref p ∧ s.heap.objs.size ≤ p ∧ H p = none ∧ Inv X pins σ (upd H p (.tup xs)) s2 ∧ Y xs ∧ St (i + 1) s2.heap) E s1) E s := by
  refine W.item i s _ E hi st fun T vals h1 tk hP hT ht hm hk => ⟨.ref T, rfl, ?_⟩
  obtain ⟨xs, rv, hz, hY⟩ := hv vals hP
  refine W.go elts k pos i T { s with heap := h1, toks := tk } _ E hm fun h2 st2 hk2 => ?_
  have hTw : T ∉ wr := W.apart i T h1 hm
  have ht2 : IsTup h2 T vals.toList.toArray := by
    obtain ⟨o, ho, hc, m, hd⟩ := ht
    exact ⟨o, hk2 T o hTw ho, hc, m, by simpa using hd⟩
  exact ⟨T, xs, rfl, hT, I.hok.fresh hT, I.turnedT (t' := tk) (fun b o hb e => hk2 b o hb (hk b o hb e)) hf hT ht2 rv (Nat.le_trans hz (by decide)), hY, st2⟩
end
structure GoesT (J : It) (n : Nat) (yl : Nat → List V → Prop) (ok : Hp → Prop) : Prop where
  go : ∀ i H, i < n → ok H → J.go i H
  yld : ∀ i H x H', i < n → ok H → J.yld i H x H' → ∃ p ys, x = .ref p ∧ H p = none ∧ H' = upd H p (.tup ys) ∧ yl i ys
  stop : ∀ H, ok H → J.stop n H
theorem for_t {J : It} {n : Nat} {yl : Nat → List V → Prop} {ok : Hp → Prop} {g : TG} {tb : TS} {D : Ends} {σ : St} {H : Hp} (G : GoesT J n yl ok) (Pv : Nat → St → Hp → Prop) (h0 : Pv 0 σ H) (hok : ∀ i σ H, i ≤ n → Pv i σ H → ok H)
    (hs : ∀ i ys p σ H, i < n → yl i ys → Pv i σ H → H p = none → g (.ref p) σ (upd H p (.tup ys)) fun σ2 H2 => tb { D with nx := Pv (i + 1), ct := Pv (i + 1), bk := D.nx } σ2 H2) (hd : ∀ σ H, Pv n σ H → D.nx σ H) : NP.ForW J g tb D σ H := by
  refine ⟨fun i m σ H => m = n - i ∧ i ≤ n ∧ Pv i σ H, ⟨n, by simp, Nat.zero_le _, h0⟩, ?_⟩
  rintro i m σ H ⟨rfl, hi, p⟩
  have q := hok i σ H hi p
  by_cases hlt : i < n
  · refine .inr ⟨G.go i H hlt q, Pv (i + 1), fun σ' H' p' => ⟨n - (i + 1), by omega, rfl, hlt, p'⟩, fun x H' y => ?_⟩
    obtain ⟨a, ys, e1, e2, e3, y'⟩ := G.yld i H x H' hlt q y
    subst e1 e3
    exact hs i ys a σ H hlt y' p e2
  · have e : i = n := by omega
    subst e
    exact .inl ⟨G.stop H q, hd σ H p⟩
theorem gT2 {K : PySem.W.Frag} {i j : Nat} {p : Addr} {x y : V} {σ : St} {H : Hp} {Q : St → Hp → Prop} (h : Q ((σ.set i (some x)).set j (some y)) (upd H p (.tup [x, y]))) : gTup K 2 (gCons (gName i) (gCons (gName j) gNil)) (.ref p) σ (upd H p (.tup [x, y])) Q :=
  ⟨p, _, rfl, SqT.of upd_same, rfl, _, _, rfl, _, _, rfl, rfl, h⟩
def ItE (a : Addr) (xs : List V) : It := ⟨fun i H => H a = some (.lst xs) ∧ i < xs.length, fun i H x H' => ∃ p y, x = .ref p ∧ H p = none ∧ xs[i]? = some y ∧ H' = upd H p (.tup [.int i, y]), fun i H => H a = some (.lst xs) ∧ i = xs.length⟩
theorem goesE (a : Addr) (xs : List V) : GoesT (ItE a xs) xs.length (fun i ys => ∃ y, xs[i]? = some y ∧ ys = [.int i, y]) (fun H => H a = some (.lst xs)) :=
  ⟨fun i H h o => ⟨o, h⟩, fun i H x H' h o y => let ⟨p, z, e1, e2, e3, e4⟩ := y; ⟨p, _, e1, e2, e4, z, e3, rfl⟩, fun H o => ⟨o, rfl⟩⟩
theorem turn_enum {P : Program} {w : World} {K : PySem.W.Frag} {elts : List Expr} {k : Nat} {pos : Pos} (e it a : Addr) (xs : List V) (hei : e ≠ it) : Turn P w K (.Tuple elts k pos) (ItE a xs) [e, it] e (fun i h => (∃ old, IsEnum h e it i old) ∧ h.IsListIter it a i) where
  mem := by simp
  obj := fun i h st b hb => by
    obtain ⟨⟨old, he⟩, o, ho, c, d⟩ := st
    rcases List.mem_cons.mp hb with q | q
    · rw [q]; exact ⟨_, he, fun v z => by cases z⟩
    · rw [List.mem_singleton.mp q]; exact ⟨o, ho, fun v z => by rw [d] at z; cases z⟩
  keep := fun i h h' st k => by
    obtain ⟨⟨old, he⟩, hi⟩ := st
    exact ⟨⟨old, k e (by simp) _ he⟩, hi.at fun o q => k it (by simp) o q⟩
  item := by
    intro X hP hw hK hc i pins s σ H E I hf st hg
    subst hP hw hK
    obtain ⟨hq, hlt⟩ := hg
    obtain ⟨its, rv, hl, hal⟩ := lst_iter I hq
    have f1 := hf e (by simp)
    have f2 := hf it (by simp)
    have hae : a ≠ e := ne_of_none hq f1.1
    have hai : a ≠ it := ne_of_none hq f2.1
    have hlen := rv.length
    have hv : ∀ vals : Array Value, (∃ t x, its.toArray[i]? = some x ∧ vals = #[.int i t, x]) → ∃ ys, Vals ys vals.toList ∧ ys.length ≤ 100 ∧ ∃ y, xs[i]? = some y ∧ ys = [V.int i, y] := by
      rintro vals ⟨t, x, hx, rfl⟩
      obtain ⟨u, hu, ru⟩ := rv.get (x := xs[i]) (i := i) (by simp [hlt])
      have hx : its[i]? = some x := by simpa using hx
      rw [hx] at hu
      cases hu
      exact ⟨[.int i, xs[i]], .cons ⟨t, rfl⟩ (.cons ru .nil), by simp, xs[i], by simp [hlt], rfl⟩
    refine thn (item_T (E := E) (WalksT.enumerate (I.ok.hd hc) e it a hei hae hai its.toArray) (by rw [List.size_toArray]; omega) I ⟨st.1, st.2, hl⟩ hf hv) fun r s1 ⟨u, hr, h3⟩ => ⟨u, hr, thn h3 fun _ s2 ⟨p, ys, hu, hp, hn, I2, ⟨y, hy, e2⟩, st2⟩ => ?_⟩
    subst hu e2
    refine ⟨.ref p, _, I2, rfl, ⟨p, y, rfl, hn, hy, rfl⟩, ⟨st2.1, st2.2.1⟩, fun b hb => ?_⟩
    have hbl : b < s.heap.objs.size := by
      obtain ⟨⟨old, he⟩, o, ho, c, d⟩ := st
      rcases List.mem_cons.mp hb with q | q
      · rw [q]; exact Heap.lt_size he
      · rw [List.mem_singleton.mp q]; exact Heap.lt_size ho
    rw [upd_ne (addr_ne hbl hp)]
    exact (hf b hb).1
  done := by
    intro X hP hw hK hc i pins s σ H E I hf st hg
    subst hP hw hK
    obtain ⟨hq, hlt⟩ := hg
    obtain ⟨its, rv, hl, hal⟩ := lst_iter I hq
    have f1 := hf e (by simp)
    have f2 := hf it (by simp)
    have hlen := rv.length
    have hi : its.toArray.size = i := by rw [List.size_toArray]; omega
    refine (WalksT.enumerate (I.ok.hd hc) e it a hei (ne_of_none hq f1.1) (ne_of_none hq f2.1) its.toArray).done s _ E ?_ fun h' tk hk => ⟨rfl, I.turnedL hk hf⟩
    rw [hi]
    exact ⟨st.1, st.2, hl⟩
  self := fun _ _ _ _ _ st h => by
    obtain ⟨⟨old, he⟩, _⟩ := st
    exact wpAny_pyIter_enum he h
section
variable {X : Cx}
def iEnum (ta : TA) : TI := fun σ H R => ta σ H fun vs H1 => ∃ a xs, vs = [.ref a] ∧ H1 a = some (.lst xs) ∧ R (ItE a xs) H1
theorem pi_enum {elts : List Expr} {k : Nat} {pt p pos : Pos} {e : Expr} {ta : TA} (hg : Gl X "enumerate") (hm : X.mg "enumerate" = none) (ha : PA X [e] ta) (hn : noStar [e] = true := by rfl) : PI X (.Tuple elts k pt) (.Call (.Name "enumerate" p) [e] [] pos) (iEnum ta) := by
  intro pins s σ H R I h
  refine Call_ (ld_blt I hg hm NP.bt_enumerate (PyProof.Rows.callWith_type1 (thn (ha pos pins s σ H _ I h) fun us s1 ⟨vs, H1, I1, r1, q1⟩ => ?_) (starEach_of hn) rfl))
  obtain ⟨a, xs, e, hq, q⟩ := q1
  subst e
  obtain ⟨u, rfl, ru⟩ := vals1 r1
  cases ru
  obtain ⟨its, rv, hl, hal⟩ := lst_iter I1 hq
  refine call_enumerate_list hl fun h' he hi hz hk => wpAny_pyIter_enum he ?_
  have I2 : Inv X pins σ H1 { s1 with heap := h' } := I1.kept (t' := s1.toks) hk
  refine ⟨s1.heap.objs.size + 1, [s1.heap.objs.size + 1, s1.heap.objs.size], _, _, H1, rfl, I2, turn_enum _ _ a xs (Nat.succ_ne_self _), ⟨⟨_, he⟩, hi⟩, fun b hb => ?_, q⟩
  have hb' : s1.heap.objs.size ≤ b := by
    rcases List.mem_cons.mp hb with z | z
    · rw [z]; exact Nat.le_succ _
    · rw [List.mem_singleton.mp z]; exact Nat.le_refl _
  exact I1.fpOk hb' (I1.hok.fresh hb')
end
end L2
set_option Elab.async false
set_option linter.all false
set_option maxRecDepth 100000
namespace L2
open PySem PySem.Spec PyProof.Rows
section
variable {X : Cx}
def rSum : List V → Hp → VK → Prop := fun xs H Q => ∃ (a : Addr) (ns : List Int), xs = [.ref a] ∧ H a = some (.lst (ns.map V.int)) ∧ Q (.int ns.sum) H
def rInsert : V → List V → Hp → VK → Prop := fun x vs H Q => ∃ l xs i y, x = .ref l ∧ vs = [.int i, y] ∧ H l = some (.lst xs) ∧ 0 ≤ i ∧ i < 2 ^ 60 ∧ xs.length < 1000000 ∧ Q .non (upd H l (.lst (xs.take (min i.toNat xs.length) ++ y :: xs.drop (min i.toNat xs.length))))
def rMax2 : List V → Hp → VK → Prop := fun xs H Q => ∃ i j, xs = [.int i, .int j] ∧ Q (.int (if j > i then j else i)) H
end
end L2
namespace L2
open PySem PySem.Spec PyProof.Rows
theorem sIx_nn {n d : Nat} {k : Int} (h : 0 ≤ k) : HT.sIx n d (some k) = min k.toNat n := by
  unfold HT.sIx
  simp only
  split <;> omega
theorem cutV_nn {xs : List V} {i j : Int} (hi : 0 ≤ i) (hj : 0 ≤ j) : cutV xs (some i) (some j) = (xs.drop i.toNat).take (j.toNat - i.toNat) := by
  unfold cutV
  rw [sIx_nn hi, sIx_nn hj]
  apply List.ext_getElem?
  intro k
  simp only [List.getElem?_take, List.getElem?_drop]
  by_cases h1 : i.toNat ≤ xs.length
  · rw [Nat.min_eq_left h1]
    by_cases h2 : j.toNat ≤ xs.length
    · rw [Nat.min_eq_left h2]
    · have h2 : xs.length ≤ j.toNat := by omega
      rw [Nat.min_eq_right h2]
      by_cases h3 : k < xs.length - i.toNat
      · rw [if_pos h3, if_pos (by omega)]
      · rw [if_neg h3]
        split
        · rw [List.getElem?_eq_none (by omega)]
        · rfl
  · have h1 : xs.length ≤ i.toNat := by omega
    rw [Nat.min_eq_right h1]
    have : xs[xs.length + k]? = none := List.getElem?_eq_none (by omega)
    rw [this, List.getElem?_eq_none (by omega)]
    split <;> split <;> rfl
theorem cutV_to {xs : List V} {j : Int} (hj : 0 ≤ j) : cutV xs none (some j) = xs.take j.toNat := by
  unfold cutV
  rw [sIx_nn hj]
  have e : HT.sIx xs.length 0 none = 0 := rfl
  rw [e, List.drop_zero, Nat.sub_zero]
  apply List.ext_getElem?
  intro k
  simp only [List.getElem?_take]
  by_cases h : k < xs.length
  · by_cases h2 : k < j.toNat
    · rw [if_pos (by omega), if_pos h2]
    · rw [if_neg (by omega), if_neg h2]
  · rw [List.getElem?_eq_none (by omega)]
    split <;> split <;> rfl
def CMulB (i j : Int) : Prop := CMul i j ∨ (i.natAbs < 10 ^ 3000 ∧ j.natAbs < 10 ^ 3000)
theorem bits_of {i : Int} (h : i.natAbs < 10 ^ 3000) : Builtin.Int.intBits i ≤ 2 ^ 20 := by
  unfold Builtin.Int.intBits
  split
  · exact Nat.zero_le _
  · rename_i h0
    have h1 : i.natAbs ≠ 0 := by
      intro e
      exact h0 (by simpa using e)
    have h2 : i.natAbs.log2 < 2 ^ 19 := by
      rw [Nat.log2_lt h1]
      refine Nat.lt_of_lt_of_le h (Nat.le_trans (Nat.pow_le_pow_left (by decide : (10 : Nat) ≤ 2 ^ 4) 3000) ?_)
      rw [← Nat.pow_mul]
      exact Nat.pow_le_pow_right (by decide) (by decide)
    have : (2 : Nat) ^ 20 = 2 ^ 19 + 2 ^ 19 := by decide
    have : (1 : Nat) ≤ 2 ^ 19 := by decide
    omega
theorem CMulB.ok {i j : Int} (h : CMulB i j) : IntMulOk i j := h.elim CMul.ok fun h => .of_bits (bits_of h.1) (bits_of h.2)
section
variable {X : Cx}
end
end L2
set_option Elab.async false
set_option linter.all false
set_option maxRecDepth 100000
namespace L2
open PySem PySem.Spec PyProof.Rows
def ItZ2 (a b : Addr) (xs ys : List V) : It := ⟨fun i H => H a = some (.lst xs) ∧ H b = some (.lst ys) ∧ i < min xs.length ys.length,
  fun i H x H' => ∃ p y z, x = .ref p ∧ H p = none ∧ xs[i]? = some y ∧ ys[i]? = some z ∧ H' = upd H p (.tup [y, z]), fun i H => H a = some (.lst xs) ∧ H b = some (.lst ys) ∧ i = min xs.length ys.length⟩
section
variable {X : Cx}
def iZip2 (ta : TA) : TI := fun σ H R => ta σ H fun vs H1 => ∃ a b xs ys, vs = [.ref a, .ref b] ∧ H1 a = some (.lst xs) ∧ H1 b = some (.lst ys) ∧ R (ItZ2 a b xs ys) H1
end
end L2
set_option Elab.async false
set_option linter.all false
set_option maxRecDepth 100000
namespace L2
open PySem PySem.Spec PyProof.Rows
section
variable {prog : Program} {w : World} {A : Around} {E : Value → Shared → Prop} {s : Shared}
end
end L2
set_option Elab.async false
set_option linter.all false
set_option maxRecDepth 100000
namespace L2
open PySem PySem.Spec PyProof.Rows
section
variable {prog : Program} {w : World} {A : Around} {E : Value → Shared → Prop} {s : Shared}
end
def ItZ3 (a b c : Addr) (xs ys zs : List V) : It := ⟨fun i H => (H a = some (.lst xs) ∧ H b = some (.lst ys) ∧ H c = some (.lst zs)) ∧ i < min xs.length (min ys.length zs.length),
  fun i H x H' => ∃ p y z v, x = .ref p ∧ H p = none ∧ xs[i]? = some y ∧ ys[i]? = some z ∧ zs[i]? = some v ∧ H' = upd H p (.tup [y, z, v]), fun i H => (H a = some (.lst xs) ∧ H b = some (.lst ys) ∧ H c = some (.lst zs)) ∧ i = min xs.length (min ys.length zs.length)⟩
section
variable {X : Cx}
def iZip3 (ta : TA) : TI := fun σ H R => ta σ H fun vs H1 => ∃ a b c xs ys zs, vs = [.ref a, .ref b, .ref c] ∧ H1 a = some (.lst xs) ∧ H1 b = some (.lst ys) ∧ H1 c = some (.lst zs) ∧ R (ItZ3 a b c xs ys zs) H1
end
end L2
set_option Elab.async false
set_option linter.all false
set_option maxRecDepth 100000
namespace L2
open PySem PySem.Spec PyProof.Rows
theorem cut1 {t u : TS} {D : Ends} {σ : St} {H : Hp} (M : St → Hp → Prop) (hrest : ∀ σ' H', M σ' H' → u D σ' H') (h : ∀ KK : St → Hp → Prop, (∀ σ' H', M σ' H' → KK σ' H') → t { D with nx := KK } σ H) : tSeq t u D σ H := h (u D) hrest
theorem cut2 {t t2 u : TS} {D : Ends} {σ : St} {H : Hp} (M : St → Hp → Prop) (hrest : ∀ σ' H', M σ' H' → u D σ' H') (h : ∀ KK : St → Hp → Prop, (∀ σ' H', M σ' H' → KK σ' H') → t { D with nx := fun σ H => t2 { D with nx := KK } σ H } σ H) : tSeq t (tSeq t2 u) D σ H := h (u D) hrest
theorem ty_lst {H : Hp} {a : Addr} {xs : List V} (h : H a = some (.lst xs)) : tyOf H (.ref a) = some "list" := by unfold tyOf; simp only [h]
end L2
namespace L2
open PySem PySem.Spec PyProof.Rows
theorem gt2 {K : PySem.W.Frag} {i j : Nat} {p : Addr} {x y : V} {σ : St} {H : Hp} {Q : St → Hp → Prop} (e : H p = some (.tup [x, y])) (h : Q ((σ.set i (some x)).set j (some y)) H) : gTup K 2 (gCons (gName i) (gCons (gName j) gNil)) (.ref p) σ H Q :=
  ⟨p, _, rfl, SqT.of e, rfl, _, _, rfl, _, _, rfl, rfl, h⟩
end L2
set_option Elab.async false
set_option linter.all false
set_option maxRecDepth 100000
namespace L2
open PySem PySem.Spec PyProof.Rows
section
variable {X : Cx} {pins : List (Addr × Obj)} {σ : St} {H : Hp} {s : Shared}
end
def ItD (a : Addr) (o : Obj) (kvs : List (Key × V)) : It := ⟨fun i H => H a = some (.frz o (.dK kvs)) ∧ i < kvs.length, fun i H x H' => H' = H ∧ ∃ k v, kvs[i]? = some (k, v) ∧ x = kV k, fun i H => H a = some (.frz o (.dK kvs)) ∧ kvs.length ≤ i⟩
section
variable {X : Cx}
def iDct (te : TE) : TI := fun σ H R => te σ H fun x H1 => ∃ a kvs, x = .ref a ∧ H1 a = some (.dK kvs) ∧ ∀ o, R (ItD a o kvs) (upd H1 a (.frz o (.dK kvs)))
def tTruL (ta : TE) : TT := fun σ H Q => ta σ H fun x H' => ∃ a xs, x = .ref a ∧ H' a = some (.lst xs) ∧ Q (!xs.isEmpty) H'
def tTruD (ta : TE) : TT := fun σ H Q => ta σ H fun x H' => ∃ a kvs, x = .ref a ∧ H' a = some (.dK kvs) ∧ Q (!kvs.isEmpty) H'
theorem PE.wk {e : Expr} {t : TE} (h : PE X e t) {pins : List (Addr × Obj)} {s : Shared} {σ : St} {H : Hp} {Q : VK} (I : Inv X pins σ H s) (q : t σ H Q) : wpAny (model X.prog X.w) X.A (eval e X.env) (EP X pins σ Q) X.xe s := h pins s σ H Q I q
end
mutual
def noLst : PyData → Bool
  | .none | .bool _ | .int _ | .str _ => true
  | .list _ => false
  | .tuple ds => noLsts ds
  | .dict _ => false
def noLsts : List PyData → Bool
  | [] => true
  | d :: ds => noLst d && noLsts ds
end
def KeepU (H H' : Hp) : Prop := ∀ a xs, H a = some (.tup xs) → H' a = some (.tup xs)
theorem KeepU.refl (H : Hp) : KeepU H H := fun _ _ h => h
theorem KeepU.trans {H H1 H2 : Hp} (a : KeepU H H1) (b : KeepU H1 H2) : KeepU H H2 := fun c xs h => b c xs (a c xs h)
theorem Same.ku {H H' : Hp} (s : Same H H') : KeepU H H' := fun a xs h => s a _ h
theorem ku_set {H : Hp} {p : Addr} {o u : HO} (h : H p = some u) (n : ∀ xs, u ≠ .tup xs) : KeepU H (upd H p o) := fun a xs e => by
  rw [upd_ne (fun z => by rw [z, h] at e; exact n xs (Option.some.inj e))]; exact e
mutual
theorem RD.ku {H H' : Hp} (k : KeepU H H') : ∀ (d : PyData) (v : V), noLst d = true → RD H d v → RD H' d v
  | .none, v, _, h => by rw [RD] at h ⊢; exact h
  | .bool b, v, _, h => by rw [RD] at h ⊢; exact h
  | .int i, v, _, h => by rw [RD] at h ⊢; exact h
  | .str x, v, _, h => by rw [RD] at h ⊢; exact h
  | .list ds, v, n, h => by rw [noLst] at n; cases n
  | .tuple ds, v, n, h => by
    rw [noLst] at n
    rw [RD] at h ⊢
    obtain ⟨a, xs, e, ha, r⟩ := h
    exact ⟨a, xs, e, k a xs ha, RDs.ku k ds xs n r⟩
  | .dict _, v, n, h => by rw [noLst] at n; cases n
theorem RDs.ku {H H' : Hp} (k : KeepU H H') : ∀ (ds : List PyData) (xs : List V), noLsts ds = true → RDs H ds xs → RDs H' ds xs
  | [], xs, _, h => by rw [RDs] at h ⊢; exact h
  | d :: ds, xs, n, h => by
    rw [noLsts, Bool.and_eq_true] at n
    rw [RDs] at h ⊢
    obtain ⟨x, r, e, h1, h2⟩ := h
    exact ⟨x, r, e, RD.ku k d x n.1 h1, RDs.ku k ds r n.2 h2⟩
end
mutual
theorem RD.same {H H' : Hp} (k : Same H H') : ∀ (d : PyData) (v : V), RD H d v → RD H' d v
  | .none, v, h => by rw [RD] at h ⊢; exact h
  | .bool b, v, h => by rw [RD] at h ⊢; exact h
  | .int i, v, h => by rw [RD] at h ⊢; exact h
  | .str x, v, h => by rw [RD] at h ⊢; exact h
  | .list ds, v, h => by
    rw [RD] at h ⊢
    obtain ⟨a, xs, e, ha, r⟩ := h
    exact ⟨a, xs, e, k a _ ha, RDs.same k ds xs r⟩
  | .tuple ds, v, h => by
    rw [RD] at h ⊢
    obtain ⟨a, xs, e, ha, r⟩ := h
    exact ⟨a, xs, e, k a _ ha, RDs.same k ds xs r⟩
  | .dict _, v, h => by rw [RD] at h; exact h.elim
theorem RDs.same {H H' : Hp} (k : Same H H') : ∀ (ds : List PyData) (xs : List V), RDs H ds xs → RDs H' ds xs
  | [], xs, h => by rw [RDs] at h ⊢; exact h
  | d :: ds, xs, h => by
    rw [RDs] at h ⊢
    obtain ⟨x, r, e, h1, h2⟩ := h
    exact ⟨x, r, e, RD.same k d x h1, RDs.same k ds r h2⟩
end
theorem RDs.len {H : Hp} : ∀ {ds : List PyData} {xs : List V}, RDs H ds xs → xs.length = ds.length
  | [], xs, h => by rw [RDs] at h; rw [h]; rfl
  | d :: ds, xs, h => by
    rw [RDs] at h
    obtain ⟨x, r, e, _, h2⟩ := h
    rw [e, List.length_cons, List.length_cons, RDs.len h2]
theorem RDs.get {H : Hp} : ∀ {ds : List PyData} {xs : List V} {i : Nat} {d : PyData}, RDs H ds xs → ds[i]? = some d → ∃ x, xs[i]? = some x ∧ RD H d x
  | [], xs, i, d, h, e => by cases e
  | d0 :: ds, xs, i, d, h, e => by
    rw [RDs] at h
    obtain ⟨y, r, ey, h1, h2⟩ := h
    rw [ey]
    cases i with
    | zero => cases e; exact ⟨y, rfl, h1⟩
    | succ i =>
      obtain ⟨x, h3, h4⟩ := RDs.get (ds := ds) (xs := r) (i := i) (d := d) h2 (by simpa using e)
      exact ⟨x, by simpa using h3, h4⟩
theorem RDs.get' {H : Hp} : ∀ {ds : List PyData} {xs : List V} {i : Nat} {x : V}, RDs H ds xs → xs[i]? = some x → ∃ d, ds[i]? = some d ∧ RD H d x
  | [], xs, i, x, h, e => by rw [RDs] at h; rw [h] at e; cases e
  | d :: ds, xs, i, x, h, e => by
    rw [RDs] at h
    obtain ⟨y, r, ey, h1, h2⟩ := h
    rw [ey] at e
    cases i with
    | zero => cases e; exact ⟨d, rfl, h1⟩
    | succ i => exact RDs.get' (ds := ds) (xs := r) (i := i) h2 (by simpa using e)
theorem RDs.app {H : Hp} : ∀ {ds es : List PyData} {xs ys : List V}, RDs H ds xs → RDs H es ys → RDs H (ds ++ es) (xs ++ ys)
  | [], es, xs, ys, h, h' => by rw [RDs] at h; rw [h]; exact h'
  | d :: ds, es, xs, ys, h, h' => by
    rw [RDs] at h
    obtain ⟨x, r, e, h1, h2⟩ := h
    rw [e, List.cons_append, List.cons_append, RDs]
    exact ⟨x, _, rfl, h1, RDs.app h2 h'⟩
theorem RDs.one {H : Hp} {d : PyData} {x : V} (h : RD H d x) : RDs H [d] [x] := by
  rw [RDs]
  refine ⟨x, _, rfl, h, ?_⟩
  rw [RDs]
theorem RDs.nil {H : Hp} : RDs H [] [] := by rw [RDs]
theorem RDs.cons {H : Hp} {d : PyData} {x : V} {ds : List PyData} {xs : List V} (h : RD H d x) (t : RDs H ds xs) : RDs H (d :: ds) (x :: xs) := by
  rw [RDs]
  exact ⟨x, _, rfl, h, t⟩
theorem RD.str_mk {H : Hp} {x : Str} : RD H (.str x) (.str x) := by rw [RD]
theorem RD.int_mk {H : Hp} {i : Int} : RD H (.int i) (.int i) := by rw [RD]
theorem RD.tup_mk {H : Hp} {a : Addr} {xs : List V} {ds : List PyData} (h : H a = some (.tup xs)) (r : RDs H ds xs) : RD H (.tuple ds) (.ref a) := by
  rw [RD]
  exact ⟨a, xs, rfl, h, r⟩
theorem RD.tup_of {H : Hp} {v : V} {ds : List PyData} (h : RD H (.tuple ds) v) : ∃ a xs, v = .ref a ∧ H a = some (.tup xs) ∧ RDs H ds xs := by rw [RD] at h; exact h
theorem RD.str_of {H : Hp} {v : V} {x : Str} (h : RD H (.str x) v) : v = .str x := by rw [RD] at h; exact h
theorem RD.int_of {H : Hp} {v : V} {x : Int} (h : RD H (.int x) v) : v = .int x := by rw [RD] at h; exact h
theorem RDs.nil_of {H : Hp} {xs : List V} (h : RDs H [] xs) : xs = [] := by rw [RDs] at h; exact h
theorem RDs.cons_of {H : Hp} {d : PyData} {ds : List PyData} {xs : List V} (h : RDs H (d :: ds) xs) : ∃ x r, xs = x :: r ∧ RD H d x ∧ RDs H ds r := by rw [RDs] at h; exact h
end L2
set_option Elab.async false
set_option linter.all false
set_option maxRecDepth 100000
namespace NP
open PySem L2
structure Wr where
  name : Str
  lag : Int
  gives : Int
  floor : Int
  stock : Int
  coming : List (Int × Int)
  parts : List (Str × Int)
def arrD (p : Int × Int) : PyData := .tuple [.int p.1, .int p.2]
def partD (p : Str × Int) : PyData := .tuple [.str p.1, .int p.2]
def Wr.d (w : Wr) : PyData := .tuple [.str w.name, .int w.lag, .int w.gives, .int w.floor, .int w.stock, .tuple (w.coming.map arrD), .tuple (w.parts.map partD)]
abbrev Wt := Str × Int × Int
def wantD (p : Wt) : PyData := .tuple [.str p.1, .int p.2.1, .int p.2.2]
structure Sh where
  wares : List Wr
  wants : List Wt
def Sh.d (S : Sh) : PyData := .tuple [.tuple (S.wares.map Wr.d), .tuple (S.wants.map wantD)]
theorem nl_map {α : Type} (f : α → PyData) (h : ∀ x, noLst (f x) = true) : ∀ xs : List α, noLsts (xs.map f) = true
  | [] => by rw [List.map_nil, noLsts]
  | x :: r => by rw [List.map_cons, noLsts, h x, nl_map f h r]; rfl
theorem nl_arr (p : Int × Int) : noLst (arrD p) = true := by unfold arrD; simp only [noLst, noLsts, Bool.and_true]
theorem nl_part (p : Str × Int) : noLst (partD p) = true := by unfold partD; simp only [noLst, noLsts, Bool.and_true]
theorem nl_want (p : Wt) : noLst (wantD p) = true := by unfold wantD; simp only [noLst, noLsts, Bool.and_true]
theorem nl_ware (w : Wr) : noLst w.d = true := by
  unfold Wr.d
  simp only [noLst, noLsts, nl_map arrD nl_arr, nl_map partD nl_part, Bool.and_true]
theorem nl_shop (S : Sh) : noLst S.d = true := by
  unfold Sh.d
  simp only [noLst, noLsts, nl_map Wr.d nl_ware, nl_map wantD nl_want, Bool.and_true]
theorem ware_at {H : Hp} {w : Wr} {v : V} (h : RD H w.d v) : ∃ (a : Addr) (c p : V), v = .ref a ∧ H a = some (.tup [.str w.name, .int w.lag, .int w.gives, .int w.floor, .int w.stock, c, p]) ∧ RD H (.tuple (w.coming.map arrD)) c ∧ RD H (.tuple (w.parts.map partD)) p := by
  unfold Wr.d at h
  obtain ⟨a, xs, rfl, ha, r⟩ := RD.tup_of h
  obtain ⟨x1, r1, rfl, h1, r⟩ := RDs.cons_of r
  obtain ⟨x2, r2, rfl, h2, r⟩ := RDs.cons_of r
  obtain ⟨x3, r3, rfl, h3, r⟩ := RDs.cons_of r
  obtain ⟨x4, r4, rfl, h4, r⟩ := RDs.cons_of r
  obtain ⟨x5, r5, rfl, h5, r⟩ := RDs.cons_of r
  obtain ⟨x6, r6, rfl, h6, r⟩ := RDs.cons_of r
  obtain ⟨x7, r7, rfl, h7, r⟩ := RDs.cons_of r
  have := RDs.nil_of r
  subst this
  rw [RD.str_of h1, RD.int_of h2, RD.int_of h3, RD.int_of h4, RD.int_of h5] at ha
  exact ⟨a, x6, x7, rfl, ha, h6, h7⟩
theorem shop_at {H : Hp} {S : Sh} {v : V} (h : RD H S.d v) : ∃ (a b c : Addr) (ws us : List V), v = .ref a ∧ H a = some (.tup [.ref b, .ref c]) ∧ H b = some (.tup ws) ∧ H c = some (.tup us) ∧ RDs H (S.wares.map Wr.d) ws ∧ RDs H (S.wants.map wantD) us := by
  unfold Sh.d at h
  obtain ⟨a, xs, rfl, ha, r⟩ := RD.tup_of h
  obtain ⟨x1, r1, rfl, h1, r⟩ := RDs.cons_of r
  obtain ⟨x2, r2, rfl, h2, r⟩ := RDs.cons_of r
  have := RDs.nil_of r
  subst this
  obtain ⟨b, ws, rfl, hb, rb⟩ := RD.tup_of h1
  obtain ⟨c, us, rfl, hc, rc⟩ := RD.tup_of h2
  exact ⟨a, b, c, ws, us, rfl, ha, hb, hc, rb, rc⟩
theorem want_at {H : Hp} {p : Wt} {v : V} (h : RD H (wantD p) v) : ∃ a : Addr, v = .ref a ∧ H a = some (.tup [.str p.1, .int p.2.1, .int p.2.2]) := by
  unfold wantD at h
  obtain ⟨a, xs, rfl, ha, r⟩ := RD.tup_of h
  obtain ⟨x1, r1, rfl, h1, r⟩ := RDs.cons_of r
  obtain ⟨x2, r2, rfl, h2, r⟩ := RDs.cons_of r
  obtain ⟨x3, r3, rfl, h3, r⟩ := RDs.cons_of r
  have := RDs.nil_of r
  subst this
  rw [RD.str_of h1, RD.int_of h2, RD.int_of h3] at ha
  exact ⟨a, rfl, ha⟩
theorem part_at {H : Hp} {p : Str × Int} {v : V} (h : RD H (partD p) v) : ∃ a : Addr, v = .ref a ∧ H a = some (.tup [.str p.1, .int p.2]) := by
  unfold partD at h
  obtain ⟨a, xs, rfl, ha, r⟩ := RD.tup_of h
  obtain ⟨x1, r1, rfl, h1, r⟩ := RDs.cons_of r
  obtain ⟨x2, r2, rfl, h2, r⟩ := RDs.cons_of r
  have := RDs.nil_of r
  subst this
  rw [RD.str_of h1, RD.int_of h2] at ha
  exact ⟨a, rfl, ha⟩
theorem arr_at {H : Hp} {p : Int × Int} {v : V} (h : RD H (arrD p) v) : ∃ a : Addr, v = .ref a ∧ H a = some (.tup [.int p.1, .int p.2]) := by
  unfold arrD at h
  obtain ⟨a, xs, rfl, ha, r⟩ := RD.tup_of h
  obtain ⟨x1, r1, rfl, h1, r⟩ := RDs.cons_of r
  obtain ⟨x2, r2, rfl, h2, r⟩ := RDs.cons_of r
  have := RDs.nil_of r
  subst this
  rw [RD.int_of h1, RD.int_of h2] at ha
  exact ⟨a, rfl, ha⟩
theorem rds_map {α : Type} {H : Hp} {f : α → PyData} {xs : List α} {vs : List V} {i : Nat} {v : V} (h : RDs H (xs.map f) vs) (e : vs[i]? = some v) : ∃ x, xs[i]? = some x ∧ RD H (f x) v := by
  obtain ⟨d, hd, r⟩ := RDs.get' h e
  rw [List.getElem?_map] at hd
  cases ex : xs[i]? with
  | none => rw [ex] at hd; cases hd
  | some x => rw [ex] at hd; cases hd; exact ⟨x, rfl, r⟩
theorem rds_len {α : Type} {H : Hp} {f : α → PyData} {xs : List α} {vs : List V} (h : RDs H (xs.map f) vs) : vs.length = xs.length := by have := RDs.len h; rw [List.length_map] at this; exact this
abbrev Gr := List (Str × List Str)
def keysG (G : Gr) : List Str := G.map (·.1)
def PDk (H : Hp) (kvs : List (Key × V)) (G : Gr) : Prop := Paired (fun (e : Str × List Str) (kv : Key × V) => kv.1 = .inr e.1 ∧ ∃ l, kv.2 = .ref l ∧ H l = some (.lst (e.2.map V.str))) G kvs
theorem PDk.mono {H H' : Hp} {kvs : List (Key × V)} {G : Gr} (h : PDk H kvs G) (k : ∀ l xs, H l = some (.lst xs) → H' l = some (.lst xs)) : PDk H' kvs G :=
  Paired.mapP h fun e kv ⟨h1, l, h2, h3⟩ => ⟨h1, l, h2, k l _ h3⟩
theorem PDk.keys : ∀ {H : Hp} {kvs : List (Key × V)} {G : Gr}, PDk H kvs G → kvs.map (·.1) = (keysG G).map Sum.inr
  | _, _, _, .nil => rfl
  | _, _, _, .cons r t => by
    unfold keysG
    rw [List.map_cons, List.map_cons, List.map_cons, r.1]
    exact congrArg _ (PDk.keys t)
theorem PDk.get : ∀ {H : Hp} {kvs : List (Key × V)} {G : Gr} {i : Nat} {e : Str × List Str}, PDk H kvs G → G[i]? = some e → ∃ l, kvs[i]? = some (.inr e.1, .ref l) ∧ H l = some (.lst (e.2.map V.str))
  | _, _, _, _, _, .nil, h => by simp at h
  | _, (k, v) :: _, _, 0, e, .cons r _, h => by
    simp at h
    subst h
    obtain ⟨h1, l, h2, h3⟩ := r
    have h1 : k = _ := h1
    have h2 : v = _ := h2
    exact ⟨l, by rw [h1, h2]; rfl, h3⟩
  | _, _ :: _, _, i + 1, e, .cons _ t, h => by
    obtain ⟨l, q⟩ := PDk.get (i := i) (e := e) t (by simpa using h)
    exact ⟨l, by simpa using q.1, q.2⟩
theorem PDk.get' : ∀ {H : Hp} {kvs : List (Key × V)} {G : Gr} {i : Nat} {k : Key} {v : V}, PDk H kvs G → kvs[i]? = some (k, v) → ∃ e l, G[i]? = some e ∧ k = .inr e.1 ∧ v = .ref l ∧ H l = some (.lst (e.2.map V.str))
  | _, _, _, _, _, _, .nil, h => by simp at h
  | _, _, e :: _, 0, k, v, .cons r _, h => by
    simp at h
    subst h
    obtain ⟨h1, l, h2, h3⟩ := r
    exact ⟨e, l, rfl, h1, h2, h3⟩
  | _, _, _ :: _, i + 1, k, v, .cons _ t, h => by
    obtain ⟨e, l, q⟩ := PDk.get' (i := i) t (by simpa using h)
    exact ⟨e, l, by simpa using q.1, q.2⟩
theorem valV_has {κ : Type} [DecidableEq κ] (kvs : List (κ × V)) (k : κ) : (valV kvs k).isSome = decide (k ∈ kvs.map (·.1)) := by
  rw [← valV_any]
  induction kvs with
  | nil => rfl
  | cons p r ih =>
    rw [List.any_cons, ih, List.map_cons]
    by_cases h : p.1 = k
    · subst h; simp
    · have h' : ¬ k = p.1 := fun e => h e.symm
      simp [h, h']
theorem PDk.has {H : Hp} {kvs : List (Key × V)} {G : Gr} (h : PDk H kvs G) (x : Str) : (valV kvs (.inr x)).isSome = decide (x ∈ keysG G) := by
  rw [valV_has, h.keys]
  congr 1
  apply propext
  constructor
  · intro m
    obtain ⟨y, hy, e⟩ := List.mem_map.mp m
    cases e
    exact hy
  · exact fun m => List.mem_map.mpr ⟨x, m, rfl⟩
theorem paired_app {α β : Type} {F : α → β → Prop} : ∀ {a c : List α} {b d : List β}, Paired F a b → Paired F c d → Paired F (a ++ c) (b ++ d)
  | _, _, _, _, .nil, s => s
  | _, _, _, _, .cons r t, s => .cons r (paired_app t s)
theorem PDk.snoc {H : Hp} {kvs : List (Key × V)} {G : Gr} {n : Str} {l : Addr} {ps : List Str} (h : PDk H kvs G) (hn : n ∉ keysG G) (hl : H l = some (.lst (ps.map V.str))) : PDk H (putK kvs (.inr n) (.ref l)) (G ++ [(n, ps)]) := by
  have hv : valV kvs (.inr n) = none := by
    have := h.has n
    rw [decide_eq_false hn] at this
    cases e : valV kvs (.inr n) with
    | none => rfl
    | some v => rw [e] at this; cases this
  rw [putK_new _ hv]
  exact paired_app h (.cons ⟨rfl, l, rfl, hl⟩ .nil)
theorem PDk.len {H : Hp} {kvs : List (Key × V)} {G : Gr} (h : PDk H kvs G) : kvs.length = G.length := (Paired.length h).symm
end NP
set_option Elab.async false
set_option linter.all false
set_option maxRecDepth 100000
namespace L2
open PySem PySem.Spec PyProof.Rows
section
variable {prog : Program} {w : World} {A : Around} {E : Value → Shared → Prop} {s : Shared}
end
section
variable {X : Cx}
def tLrev (te : TE) : TE := fun σ H Q => te σ H fun x H1 => ∃ a xs, x = .ref a ∧ H1 a = some (.lst xs) ∧ ∀ p, H1 p = none → Q (.ref p) (upd H1 p (.lst xs.reverse))
end
end L2
set_option Elab.async false
set_option linter.all false
set_option maxRecDepth 100000
namespace L2
open PySem PySem.Spec PyProof.Rows
theorem gt3 {K : PySem.W.Frag} {i j k : Nat} {p : Addr} {x y z : V} {σ : St} {H : Hp} {Q : St → Hp → Prop} (e : H p = some (.tup [x, y, z])) (h : Q (((σ.set i (some x)).set j (some y)).set k (some z)) H) :
    gTup K 3 (gCons (gName i) (gCons (gName j) (gCons (gName k) gNil))) (.ref p) σ H Q := ⟨p, _, rfl, SqT.of e, rfl, _, _, rfl, _, _, rfl, _, _, rfl, rfl, h⟩
theorem comp_w {J : It} {n : Nat} {yl : Nat → V → Prop} {ok : Hp → Prop} {own : List Str} {cap : List Nat} {g : TG} {tt : TT} {te : TE} {σ : St} {H : Hp} {Q : VK} (G : Goes J n yl ok) (hn : n ≤ sizeLine) (Pv : Nat → List V → Hp → Prop) (h0 : Pv 0 [] H) (hok : ∀ i acc H, i ≤ n → Pv i acc H → ok H)
    (hlen : ∀ i acc H, Pv i acc H → acc.length ≤ i)
    (hs : ∀ i x acc H, i < n → yl i x → Pv i acc H → g x (cpSt own cap σ) H fun σ2 H2 => tt σ2 H2 fun b H3 => if b = true then te σ2 H3 fun y H4 => Pv (i + 1) (acc ++ [y]) H4 else Pv (i + 1) acc H3)
    (hd : ∀ acc H, Pv n acc H → ∀ p, H p = none → Q (.ref p) (upd H p (.lst acc))) : NP.CompW J own cap g tt te σ H Q := comp_goes G hn Pv h0 hok hlen hs hd
end L2
set_option Elab.async false
set_option linter.all false
set_option maxRecDepth 100000
namespace L2
open PySem PySem.Spec PyProof.Rows
def best (ns : Nat → Int) : Nat → Int
  | 0 => ns 0
  | k + 1 => if ns (k + 1) > best ns k then ns (k + 1) else best ns k
section
variable {prog : Program} {w : World} {A : Around} {R : Result → Shared → Prop} {I : Addr} {fp wr : List Addr} {n : Nat} {P : Nat → Value → Prop} {St : Nat → Heap → Prop}
end
end L2
set_option Elab.async false
set_option linter.all false
set_option maxRecDepth 100000
namespace L2
open PySem PySem.Spec PyProof.Rows
def maxL (ns : List Int) : Int := best (fun i => (ns[i]?).getD 0) (ns.length - 1)
def max0 (ns : List Int) : Int := if ns = [] then 0 else maxL ns
section
variable {X : Cx}
def rMaxL : List V → Hp → VK → Prop := fun vs H Q => ∃ a ns, vs = [.ref a] ∧ H a = some (.lst (ns.map V.int)) ∧ ns ≠ [] ∧ Q (.int (maxL ns)) H
def tMaxd (te : TE) : TE := fun σ H Q => te σ H fun x H1 => ∃ a ns, x = .ref a ∧ H1 a = some (.lst (ns.map V.int)) ∧ Q (.int (max0 ns)) H1
end
end L2
set_option Elab.async false
set_option linter.all false
set_option maxRecDepth 100000
namespace L2
open PySem PySem.Spec PyProof.Rows
section
variable {X : Cx}
def rGetL : V → V → Hp → VK → Prop := fun o i H Q => ∃ p xs k v, o = .ref p ∧ i = .int k ∧ H p = some (.lst xs) ∧ 0 ≤ k ∧ xs[k.toNat]? = some v ∧ Q v H
end
end L2
set_option Elab.async false
set_option linter.all false
set_option maxRecDepth 100000
namespace NP
open PySem L2
end NP
set_option Elab.async false
set_option linter.all false
set_option maxRecDepth 100000
namespace L2
open PySem PySem.Spec PyProof.Rows
def ItI (a : Addr) (o : Obj) (kvs : List (Key × V)) : It := ⟨fun i H => H a = some (.frz o (.dK kvs)) ∧ i < kvs.length, fun i H x H' => ∃ p k v, x = .ref p ∧ H p = none ∧ kvs[i]? = some (k, v) ∧ H' = upd H p (.tup [kV k, v]), fun i H => H a = some (.frz o (.dK kvs)) ∧ kvs.length ≤ i⟩
section
variable {X : Cx}
def iItm (te : TE) : TI := fun σ H R => te σ H fun x H1 => ∃ a kvs, x = .ref a ∧ H1 a = some (.dK kvs) ∧ ∀ o, R (ItI a o kvs) (upd H1 a (.frz o (.dK kvs)))
def LikeK (H : Hp) (ka kb : List (Key × V)) : Prop := ∀ p ∈ ka, ∃ y d e, valV kb p.1 = some y ∧ RD H d p.2 ∧ RD H e y ∧ okD d = true ∧ okD e = true ∧ PyData.eqv d e = true
def rEqK : R2 := fun x y H Q => ∃ a b ka kb, x = .ref a ∧ y = .ref b ∧ Rd H a (.dK ka) ∧ Rd H b (.dK kb) ∧ ka.length = kb.length ∧ LikeK H ka kb ∧ Q (.bl true) H
def rNeK : R2 := fun x y H Q => ∃ a b ka kb, x = .ref a ∧ y = .ref b ∧ Rd H a (.dK ka) ∧ Rd H b (.dK kb) ∧ ka.length = kb.length ∧ LikeK H ka kb ∧ Q (.bl false) H
theorem like_hits {A : Around} {s : Shared} {P : Program} {w : World} {H : Hp} (ok : HOk P w H s.heap) (hu : A.units + 64 < cLine) {kb : List (Key × V)} {vb : List (Key × Value)} (rb : KV kb vb) : ∀ {ka : List (Key × V)} {va : List (Key × Value)}, KV ka va → LikeK H ka kb → PySem.W.KeqHits A s vb va true
  | _, _, .nil, _ => .nil
  | (k, v) :: ka, (k', v') :: va, .cons r t, h => by
    obtain ⟨y, d, e, hy, rd, re, od, oe, q⟩ := h (k, v) List.mem_cons_self
    obtain ⟨ek, rv⟩ := r
    have ek : k = k' := ek
    subst ek
    have hval := rb.val k
    rw [hy] at hval
    cases hx : valueAt vb k with
    | none => rw [hx] at hval; exact hval.elim
    | some u =>
      rw [hx] at hval
      obtain ⟨as, r1⟩ := RD.reads ok d v v' rd rv
      obtain ⟨bs, r2⟩ := RD.reads ok e y u re hval
      have E := SeqAt.eqAt_reads d e A s v' u as bs r1 r2 (Bool.and_eq_true_iff.mp od).1 (Bool.and_eq_true_iff.mp oe).1 (okD_room od hu)
      rw [q] at E
      exact PySem.W.KeqHits.hit (e := true) (b := true) hx E (like_hits ok hu rb t fun p hp => h p (List.mem_cons_of_mem _ hp))
end
end L2
set_option Elab.async false
set_option linter.all false
set_option maxRecDepth 100000
namespace L2
open PySem PySem.Spec PyProof.Rows PySem.W NP
def klt (key : Nat → Int) (a b : Nat) : Prop := key a < key b ∨ (key a = key b ∧ a < b)
section
variable {n : Nat} {key : Nat → Int}
abbrev pat (p : Array Nat) (k : Nat) : Nat := p.getD k 0
theorem pat_rev {p : Array Nat} {i j : Nat} (hj : j ≤ p.size) (k : Nat) : pat (kas_rev p i j) k = if i ≤ k ∧ k < j then pat p (i + j - 1 - k) else pat p k := by
  have e := getElem?_mirror_all (i := i) hj k
  unfold pat kas_rev
  rw [Array.getD_eq_getD_getElem?, e]
  by_cases h1 : i ≤ k ∧ k < j
  · rw [if_pos h1, if_pos h1, Array.getD_eq_getD_getElem?]
  · rw [if_neg h1, if_neg h1, Array.getD_eq_getD_getElem?]
theorem rev_size (p : Array Nat) (i j : Nat) : (kas_rev p i j).size = p.size := mirror_size _ _ _ _
theorem rev_perm (p : Array Nat) (i j : Nat) : (kas_rev p i j).toList.Perm p.toList := Array.perm_iff_toList_perm.mp (mirror_perm _ _ _ _)
structure Srt (n : Nat) (key : Nat → Int) (p : Array Nat) (m : Nat) : Prop where
  sz : p.size = n
  pm : p.toList.Perm (List.range n)
  up : ∀ i j, i < j → j < m → klt key (pat p i) (pat p j)
  fix : ∀ k, m ≤ k → k < n → pat p k = k
  low : ∀ k, k < m → pat p k < m
theorem Srt.lt {p : Array Nat} {m : Nat} (h : Srt n key p m) {k : Nat} (hm : m ≤ n) (hk : k < n) : pat p k < n := by
  by_cases z : k < m
  · have := h.low k z; omega
  · rw [h.fix k (by omega) hk]; exact hk
structure Fal (n : Nat) (key : Nat → Int) (p : Array Nat) (m q : Nat) : Prop where
  sz : p.size = n
  pm : p.toList.Perm (List.range n)
  q1 : q + 1 ≤ m
  m1 : m ≤ n
  dn : ∀ i j, i < j → j < m - (q + 1) → klt key (pat p j) (pat p i)
  fix : ∀ k, m - (q + 1) ≤ k → k < n → pat p k = k
  low : ∀ k, k < m - (q + 1) → pat p k < m - (q + 1)
  cr : ∀ i, i < m - (q + 1) → key (m - 1) < key (pat p i)
  eq : ∀ k, m - (q + 1) ≤ k → k < m → key k = key (m - 1)
structure Dwn (n : Nat) (key : Nat → Int) (p : Array Nat) (m : Nat) : Prop where
  sz : p.size = n
  pm : p.toList.Perm (List.range n)
  dn : ∀ i j, i < j → j < m → klt key (pat p j) (pat p i)
  fix : ∀ k, m ≤ k → k < n → pat p k = k
  low : ∀ k, k < m → pat p k < m
  last : ∀ i, i < m → key (m - 1) ≤ key (pat p i)
theorem Fal.turn {p : Array Nat} {m q : Nat} (h : Fal n key p m q) : Dwn n key (kas_rev p (m - (q + 1)) m) m := by
  have hm := h.m1
  have h1 := h.q1
  have pr := fun k => pat_rev (p := p) (i := m - (q + 1)) (j := m) (by rw [h.sz]; exact hm) k
  refine ⟨by rw [rev_size, h.sz], (rev_perm _ _ _).trans h.pm, fun i j hij hj => ?_, fun k hk hkn => ?_, fun k hk => ?_, fun i hi => ?_⟩
  · have vi1 : m - (q + 1) ≤ i → pat (kas_rev p (m - (q + 1)) m) i = m - (q + 1) + m - 1 - i := fun a => by rw [pr i, if_pos ⟨a, by omega⟩]; exact h.fix _ (by omega) (by omega)
    have vi2 : ¬ m - (q + 1) ≤ i → pat (kas_rev p (m - (q + 1)) m) i = pat p i := fun a => by rw [pr i, if_neg (fun z => a z.1)]
    have vj1 : m - (q + 1) ≤ j → pat (kas_rev p (m - (q + 1)) m) j = m - (q + 1) + m - 1 - j := fun a => by rw [pr j, if_pos ⟨a, hj⟩]; exact h.fix _ (by omega) (by omega)
    have vj2 : ¬ m - (q + 1) ≤ j → pat (kas_rev p (m - (q + 1)) m) j = pat p j := fun a => by rw [pr j, if_neg (fun z => a z.1)]
    by_cases a : m - (q + 1) ≤ i
    · rw [vi1 a, vj1 (by omega)]
      have e1 := h.eq (m - (q + 1) + m - 1 - i) (by omega) (by omega)
      have e2 := h.eq (m - (q + 1) + m - 1 - j) (by omega) (by omega)
      unfold klt
      omega
    · rw [vi2 a]
      by_cases b : m - (q + 1) ≤ j
      · rw [vj1 b]
        have e2 := h.eq (m - (q + 1) + m - 1 - j) (by omega) (by omega)
        have e3 := h.cr i (by omega)
        unfold klt
        omega
      · rw [vj2 b]
        exact h.dn i j hij (by omega)
  · rw [pr k, if_neg (by omega)]
    exact h.fix k (by omega) hkn
  · rw [pr k]
    split
    · rw [h.fix _ (by omega) (by omega)]; omega
    · have := h.low k (by omega); omega
  · rw [pr i]
    split
    · rw [h.fix _ (by omega) (by omega)]
      have := h.eq (m - (q + 1) + m - 1 - i) (by omega) (by omega)
      omega
    · have := h.cr i (by omega); omega
theorem Fal.one {p : Array Nat} {m : Nat} (h : Fal n key p m 0) : Dwn n key p m := by
  have hm := h.m1
  have h1 := h.q1
  have e := h.fix (m - 1) (by omega) (by omega)
  refine ⟨h.sz, h.pm, fun i j hij hj => ?_, fun k hk hkn => h.fix k (by omega) hkn, fun k hk => ?_, fun i hi => ?_⟩
  · by_cases z : j = m - 1
    · rw [z, e]
      have := h.cr i (by omega)
      exact .inl this
    · exact h.dn i j hij (by omega)
  · by_cases z : k = m - 1
    · rw [z, e]; omega
    · have := h.low k (by omega); omega
  · by_cases z : i = m - 1
    · rw [z, e]; exact Int.le_refl _
    · have := h.cr i (by omega); omega
theorem Dwn.next {p : Array Nat} {m : Nat} (h : Dwn n key p m) (h1 : 1 ≤ m) (hm : m < n) (c : key m < key (m - 1)) : Fal n key p (m + 1) 0 :=
  ⟨h.sz, h.pm, by omega, by omega, fun i j hij hj => h.dn i j hij (by omega), fun k hk hkn => h.fix k (by omega) hkn, fun k hk => by have := h.low k (by omega); omega, fun i hi => by
    have := h.last i (by omega)
    show key m < _
    omega, fun k hk hk2 => by
    have : k = m := by omega
    subst this
    rfl⟩
end
def SortK (kz : Str → Int) (xs ys : List Str) : Prop := ys.Perm xs ∧ ys.Pairwise fun a b => kz a ≤ kz b
def StabK (kz : Str → Int) (xs ys : List Str) : Prop := ∃ ps : List Nat, ps.Perm (List.range xs.length) ∧ ys = ps.map (fun i => xs.getD i "") ∧ ps.Pairwise (klt fun i => kz (xs.getD i ""))
end L2
set_option Elab.async false
set_option linter.all false
set_option maxRecDepth 100000
namespace L2
open PySem PySem.Spec PyProof.Rows PySem.W NP
def CodeE (c : Addr) (q : Str) : HO := .ext fun h => h.CodeRec (.ref c) q
def TblAt (H : Hp) (P : Addr) (pos : Pos) (q : Str) : Prop := H P = some (.tbl #[]) ∨ ∃ c, H P = some (.tbl #[rawInt pos.line, rawInt pos.col, .ref c]) ∧ H c = some (CodeE c q)
theorem TblAt.same {H H' : Hp} {P : Addr} {pos : Pos} {q : Str} (t : TblAt H P pos q) (s : Same H H') : TblAt H' P pos q := t.elim (fun e => .inl (s _ _ e)) (fun ⟨c, e, e2⟩ => .inr ⟨c, s _ _ e, s _ _ e2⟩)
section
variable {X : Cx} {pins : List (Addr × Obj)} {σ : St} {H : Hp} {s : Shared}
end
section
variable {prog : Program} {w : World} {A : Around} {s : Shared}
end
section
variable {X : Cx}
def SortAsk (P : Addr) (pos : Pos) (q : Str) (i : Nat) (σ : St) (Q : VK) (x : V) (H1 : Hp) : Prop := ∃ (l : Addr) (xs : List Str) (d : Addr) (kvs : List (Key × V)) (kz : Str → Int), x = .ref l ∧ H1 l = some (.lst (xs.map V.str)) ∧ xs.length < 64 ∧ σ[i]? = some (some (.ref d)) ∧ H1 d = some (.dK kvs) ∧
  (∀ x ∈ xs, valV kvs (.inr x) = some (.int (kz x))) ∧ TblAt H1 P pos q ∧ ∀ r ys H2, H1 r = none → H2 r = some (.lst (ys.map V.str)) → SortK kz xs ys → StabK kz xs ys → TblAt H2 P pos q → But P H1 H2 → Q (.ref r) H2
def tSortK (P : Addr) (pos : Pos) (q : Str) (i : Nat) (te : TE) : TE := fun σ H Q => te σ H (SortAsk P pos q i σ Q)
end
end L2
set_option Elab.async false
set_option linter.all false
set_option maxRecDepth 100000
namespace L2
open PySem PySem.Spec PyProof.Rows PySem.W NP
end L2
set_option Elab.async false
set_option linter.all false
set_option maxRecDepth 100000
namespace NP
open PySem L2
end NP
set_option Elab.async false
set_option linter.all false
set_option maxRecDepth 100000
namespace L2
open PySem PySem.Spec PyProof.Rows
def ItV (a : Addr) (xs : List V) : It := ⟨fun i H => H a = some (.lst xs) ∧ i < xs.length, fun i H x H' => H' = H ∧ xs.reverse[i]? = some x, fun i H => H a = some (.lst xs) ∧ i = xs.length⟩
section
variable {X : Cx}
def iRev (ta : TA) : TI := fun σ H R => ta σ H fun vs H1 => ∃ a xs, vs = [.ref a] ∧ H1 a = some (.lst xs) ∧ R (ItV a xs) H1
end
end L2
set_option Elab.async false
set_option linter.all false
set_option maxRecDepth 100000
namespace NP
open PySem L2
def wareN (S : Sh) (x : Str) : Option Wr := S.wares.find? fun w => decide (w.name = x)
end NP
set_option Elab.async false
set_option linter.all false
set_option maxRecDepth 100000
namespace L2
open PySem PySem.Spec PyProof.Rows PySem.W NP
def StrLe (a b : Str) : Prop := ¬ b.cps.toList < a.cps.toList
def StrSort (xs ys : List Str) : Prop := ys.Perm xs ∧ ys.Pairwise StrLe
section
variable {X : Cx} {pins : List (Addr × Obj)} {σ : St} {H : Hp} {s : Shared} {h' : Heap}
end
section
variable {X : Cx}
def rSortS : List V → Hp → VK → Prop := fun vs H Q => ∃ a xs, vs = [.ref a] ∧ H a = some (.lst (xs.map V.str)) ∧ xs.length < 64 ∧ ∀ p ys, H p = none → StrSort xs ys → Q (.ref p) (upd H p (.lst (ys.map V.str)))
def rSortD : List V → Hp → VK → Prop := fun vs H Q => ∃ a kvs xs, vs = [.ref a] ∧ H a = some (.dK kvs) ∧ kvs.map (·.1) = xs.map Sum.inr ∧ xs.length < 64 ∧ ∀ p ys, H p = none → StrSort xs ys → Q (.ref p) (upd H p (.lst (ys.map V.str)))
def rDictK : List V → Hp → VK → Prop := fun vs H Q => ∃ a kvs, vs = [.ref a] ∧ Rd H a (.dK kvs) ∧ ∀ p, H p = none → Q (.ref p) (upd H p (.dK kvs))
def rClearD : V → List V → Hp → VK → Prop := fun x vs H Q => ∃ a kvs, x = .ref a ∧ vs = [] ∧ H a = some (.dK kvs) ∧ Q .non (upd H a (.dK []))
end
end L2
set_option Elab.async false
set_option linter.all false
set_option maxRecDepth 100000
set_option maxHeartbeats 4000000
namespace L2
open PySem PyProof.Rows
def rIndexS : V → List V → Hp → VK → Prop := fun x vs H Q => ∃ (l : Addr) (xs : List Str) (y : Str), x = .ref l ∧ vs = [.str y] ∧ H l = some (.lst (xs.map V.str)) ∧ y ∈ xs ∧ Q (.int (xs.idxOf y : Nat)) H
theorem all_flatS : ∀ xs : List Str, (xs.map V.str).all flatV = true
  | [] => rfl
  | x :: xs => by rw [List.map_cons, List.all_cons, all_flatS xs]; rfl
theorem inV_strs (x : Str) : ∀ xs : List Str, inV (.str x) (xs.map V.str) = decide (x ∈ xs)
  | [] => rfl
  | y :: xs => by
    show (y == x || inV (.str x) (xs.map V.str)) = decide (x ∈ y :: xs)
    rw [inV_strs x xs]
    by_cases e : y = x
    · rw [e]; simp
    · have e2 : (y == x) = false := by simpa using e
      rw [e2, Bool.false_or]
      exact decide_eq_decide.mpr ⟨fun m => List.mem_cons_of_mem _ m, fun m => (List.mem_cons.mp m).resolve_left fun z => e z.symm⟩
end L2
set_option Elab.async false
set_option linter.all false
set_option maxRecDepth 100000
set_option maxHeartbeats 4000000
set_option exponentiation.threshold 4000
namespace L2
open PySem PySem.Spec PyProof.Rows
def rGetD : V → V → Hp → VK → Prop := fun o i H Q => ∃ (p : Addr) (kvs : List (Key × V)) (k : Str) (v : V), o = .ref p ∧ i = .str k ∧ H p = some (.dK kvs) ∧ valV kvs (.inr k) = some v ∧ Q v H
end L2
namespace NP
open PySem L2
def lotsOf (m g : Int) : Int := if -(-m / g) > 0 then -(-m / g) else 0
def sumI : List Int → Int
  | [] => 0
  | x :: r => x + sumI r
def wantsOf (us : List Wt) (x : Str) : Int := sumI (us.map fun u => if u.1 = x then u.2.2 else 0)
def takeBy (L : Str → Int) (w : Wr) (x : Str) : Int := sumI (w.parts.map fun p => if p.1 = x then L w.name * p.2 else 0)
def takesOf (ws : List Wr) (L : Str → Int) (x : Str) : Int := sumI (ws.map fun w => takeBy L w x)
def needOf (S : Sh) (L : Str → Int) (x : Str) : Int := wantsOf S.wants x + takesOf S.wares L x
def exF (S : Sh) : Nat → Str → Int
  | 0, _ => 0
  | k + 1, x => match wareN S x with
    | some w => lotsOf (needOf S (exF S k) x) w.gives
    | none => 0
def ex (S : Sh) (x : Str) : Int := exF S S.wares.length x
end NP
set_option Elab.async false
set_option linter.all false
set_option maxRecDepth 100000
set_option maxHeartbeats 4000000
set_option exponentiation.threshold 4000
namespace NP
open PySem L2
def above (f g : Int) (xs ys : List Int) : Nat → Int
  | 0 => -f
  | i + 1 => above f g xs ys i + (xs.getD i 0 - ys.getD i 0) + g * lotsOf (-(above f g xs ys i + (xs.getD i 0 - ys.getD i 0))) g
end NP
set_option Elab.async false
set_option linter.all false
set_option maxRecDepth 100000
set_option maxHeartbeats 400000
namespace L2
open PySem PySem.Spec PyProof.Rows PySem.W NP
section
variable {prog : Program} {w : World} {A : Around} {E : Value → Shared → Prop} {s : Shared}
end
def rSortT : List V → Hp → VK → Prop := fun vs H Q => ∃ (a : Addr) (as : List Addr) (kz : Nat → Int), vs = [.ref a] ∧ H a = some (.lst (as.map V.ref)) ∧ as.length < 64 ∧ (∀ i, i < as.length → H (as.getD i 0) = some (.tup [.int (kz i), .int i])) ∧
  ∀ (r : Addr) (ps : List Nat), H r = none → ps.Perm (List.range as.length) → ps.Pairwise (klt kz) → Q (.ref r) (upd H r (.lst (ps.map fun i => V.ref (as.getD i 0))))
end L2
set_option Elab.async false
set_option linter.all false
set_option maxRecDepth 100000
namespace L2
open PySem PySem.Spec PyProof.Rows
def leastN (ns : Nat → Int) : Nat → Int
  | 0 => ns 0
  | k + 1 => if ns (k + 1) < leastN ns k then ns (k + 1) else leastN ns k
section
variable {prog : Program} {w : World} {A : Around} {R : Result → Shared → Prop} {I : Addr} {fp wr : List Addr} {n : Nat} {P : Nat → Value → Prop} {St : Nat → Heap → Prop}
end
def minL (ns : List Int) : Int := leastN (fun i => (ns[i]?).getD 0) (ns.length - 1)
section
variable {X : Cx}
def rMinL : List V → Hp → VK → Prop := fun vs H Q => ∃ a ns, vs = [.ref a] ∧ H a = some (.lst (ns.map V.int)) ∧ ns ≠ [] ∧ Q (.int (minL ns)) H
end
end L2
set_option Elab.async false
set_option linter.all false
set_option maxRecDepth 100000
namespace L2
open PySem PySem.Spec PyProof.Rows PySem.W NP
section
variable {X : Cx}
end
end L2
set_option Elab.async false
set_option linter.all false
set_option maxRecDepth 100000
namespace L2
open PySem PySem.Spec PyProof.Rows
section
variable {X : Cx}
end
end L2
set_option Elab.async false
set_option linter.all false
set_option maxRecDepth 100000
set_option maxHeartbeats 4000000
namespace L2
open PySem PySem.Spec PyProof.Rows PySem.W
theorem ObjOk.ex {P : Program} {w : World} {H : Hp} {h : Heap} {a : Addr} {o : HO} (x : ObjOk P w H h a o) : ∃ ob, h.get? a = some ob := by
  cases o with
  | lst xs => obtain ⟨_, _, _, _, e⟩ := x; exact ⟨_, e⟩
  | tup xs => obtain ⟨_, _, _, ob, e, _⟩ := x; exact ⟨ob, e⟩
  | dK kvs => obtain ⟨_, _, _, _, o, _, _, e, _⟩ := x; exact ⟨o, e⟩
  | dT kvs => obtain ⟨_, _, _, _, o, _, _, e, _⟩ := x; exact ⟨o, e⟩
  | set S n => obtain ⟨ob, _, _, _, e, _⟩ := x; exact ⟨ob, e⟩
  | ins C dx fs => obtain ⟨_, _, _, e, _⟩ := x; exact ⟨_, e⟩
  | own y => exact x
  | xd fs => obtain ⟨_, ⟨od, _, _, e, _⟩, _⟩ := x; exact ⟨od, e⟩
  | rng lo hi => obtain ⟨_, _, _, e⟩ := x; exact ⟨_, e⟩
  | frz ob u => exact ⟨_, x.1⟩
  | tbl ps => exact ⟨_, x⟩
  | met f y => exact ⟨_, x⟩
  | ext φ => exact x.2.1
structure Fl (P : Program) (w : World) (fs : List Addr) (H : Hp) (h : Heap) (a : Addr) (H' : Hp) (B h' : Heap) : Prop where
  un : Un fs [] H H' h h'
  hok : HOk P w H' h'
  new : h.get? a = none
  free : H' a = none
  k1 : ∀ b o, h.get? b = some o → H b = none → b ∉ fs → B.get? b = some o
  k2 : ∀ b o u, H' b = some u → h'.get? b = some o → B.get? b = some o
  k3 : ∀ b o, h.get? b = some o → b ∉ fs → ∃ o', B.get? b = some o'
  fr : ∀ b ∈ fs, ∃ o, h.get? b = some o ∧ H b = none ∧ ∀ vs, o.data ≠ .fields vs
section
variable {P : Program} {w : World} {fs : List Addr} {H H' H0 : Hp} {h h0 h1 h2 B : Heap} {a L : Addr}
theorem Fl.slots (F : Fl P w fs H h a H' B h1) (up : h1.UpToSlots h2) {b : Addr} {o : Obj} (e : h.get? b = some o) (hb : b ∈ fs) : ∃ sl, h2.get? b = some { o with slots := sl } := by
  obtain ⟨o', e', n, hd⟩ := F.fr b hb
  rw [e] at e'
  cases e'
  obtain ⟨sl, q⟩ := F.un.slot b o e n hb (by simp)
  obtain ⟨sl2, q2⟩ := up b _ q hd
  exact ⟨sl2, q2⟩
theorem Fl.out (F : Fl P w (L :: fs) H h a H' B h1) (U : Un fs [] H0 H h0 h) (hL : h0.objs.size ≤ L) (fr : ∀ b ∈ fs, ∃ o, h0.get? b = some o ∧ H0 b = none ∧ ∀ vs, o.data ≠ .fields vs) : Fl P w fs H0 h0 a H' B h1 := by
  have nL : ∀ b o, h0.get? b = some o → b ∉ fs → b ∉ L :: fs := fun b o e hb z => by
    rcases List.mem_cons.mp z with z | z
    · rw [z] at e
      exact absurd (Nat.lt_of_lt_of_le (Heap.lt_size e) hL) (Nat.lt_irrefl _)
    · exact hb z
  have nx : ∀ b : Addr, b ∉ ([] : List Addr) := fun b z => by cases z
  refine ⟨⟨fun b o e n hb hx => ?_, fun b o e n hb hx => ?_, fun b o e n hx => ?_, fun b o e hx => ?_, fun b xs e => F.un.tups b xs (U.tups b xs e), fun b o u e => F.un.frzs b o u (U.frzs b o u e), fun b ps e => ?_⟩, F.hok, ?_, F.free, fun b o e n hb => ?_, F.k2, fun b o e hb => ?_, fr⟩
  · exact F.un.keep b o (U.keep b o e n hb hx) (U.free b o e n hx) (nL b o e hb) hx
  · obtain ⟨sl, q⟩ := U.slot b o e n hb hx
    obtain ⟨sl2, q2⟩ := F.un.slot b _ q (U.free b o e n hx) (List.mem_cons_of_mem _ hb) hx
    exact ⟨sl2, q2⟩
  · obtain ⟨o', q⟩ := U.there b o e hx
    exact F.un.free b o' q (U.free b o e n hx) hx
  · obtain ⟨o', q⟩ := U.there b o e hx
    exact F.un.there b o' q hx
  · obtain ⟨m1, e1⟩ := U.tbls b ps e
    obtain ⟨m2, e2⟩ := F.un.tbls b _ e1
    exact ⟨m1 ++ m2, by rw [e2, Array.append_assoc]⟩
  · cases e : h0.get? a with
    | none => rfl
    | some o =>
      obtain ⟨o', q⟩ := U.there a o e (nx a)
      rw [F.new] at q
      cases q
  · exact F.k1 b o (U.keep b o e n hb (nx b)) (U.free b o e n (nx b)) (nL b o e hb)
  · obtain ⟨o', q⟩ := U.there b o e (nx b)
    exact F.k3 b o' q (nL b o e hb)
end
section
variable {P : Program} {w : World} {K : PySem.W.Frag} {mg : Str → Option Value} {base : Heap} {N : List Str} {qual : Str} {scope : Scope} {f : Addr} {cd : Value} {A : Around} {outer : List Env} {s : Shared} {H : Hp} {E : XK}
end
section
variable {X : Cx} {pins : List (Addr × Obj)} {σ : St} {H H' : Hp} {s s' : Shared} {W : Value → Shared → Prop} {a : Addr} {cls : Value} {B : Heap}
end
end L2
set_option Elab.async false
set_option linter.all false
set_option maxRecDepth 100000
set_option maxHeartbeats 4000000
namespace L2
open PySem PySem.Spec PyProof.Rows PySem.W
abbrev TF := Nat → St → Hp → (Hp → Prop) → Prop
section
variable {X : Cx} {e : Expr} {es : List Expr} {te : TE} {t : TF} {x : Str} {j : Nat} {p q : Pos}
theorem million {n : Nat} (h : n ≤ 1000000) : n ≤ sizeLine := Nat.le_trans h (by decide)
end
end L2
set_option Elab.async false
set_option linter.all false
set_option maxRecDepth 100000
set_option maxHeartbeats 1000000
namespace L2
open PySem PySem.Spec PySem.Calls PyProof.Rows PySem.W Builtin Builtin.ObjectAttr Builtin.Getset_descriptor
section
variable {prog : Program} {w : World} {A : Around} {E : Value → Shared → Prop} {s : Shared} {K : Frag} {x D : Addr}
end
end L2
set_option Elab.async false
set_option linter.all false
set_option maxRecDepth 100000
namespace L2
open PySem PySem.Spec PyProof.Rows PySem.W
section
variable {X : Cx}
def rStrI : List V → Hp → VK → Prop := fun xs H Q => ∃ i : Int, xs = [.int i] ∧ i.natAbs < 10 ^ 500 ∧ Q (.str (Str.ofString (toString i))) H
theorem log_of {n : Nat} (h : n < 10 ^ 500) : n.log2 < 1920 := by
  by_cases z : n = 0
  · subst z
    decide
  · rw [Nat.log2_lt z]
    exact Nat.lt_of_lt_of_le h (by decide +kernel)
theorem call_strI : CallR X (.type "str") rStrI := by
  intro pins s σ H xs us Q I r h
  obtain ⟨i, rfl, hi, q⟩ := h
  obtain ⟨u, rfl, t, rfl⟩ := vals1 r
  exact P.str_of_int (log_of hi) ⟨.str _, H, I.tok _, ⟨_, rfl⟩, q⟩
def rIntT : List V → Hp → VK → Prop := fun xs H Q => ∃ (x : Str) (n : Int), xs = [.str x] ∧ PySem.intText? x = some n ∧ x.length ≤ 640 ∧ Q (.int n) H
theorem call_intT : CallR X (.type "int") rIntT := by
  intro pins s σ H xs us Q I r h
  obtain ⟨x, n, rfl, hn, hl, q⟩ := h
  obtain ⟨u, rfl, t, rfl⟩ := vals1 r
  exact KIN.call_text hn hl ⟨.int _, H, I.tok _, ⟨_, rfl⟩, q⟩
theorem rep_size (c : Array Nat) : ∀ (n : Nat) (acc : Array Nat), ((List.replicate n c).foldl (· ++ ·) acc).size = acc.size + n * c.size
  | 0, acc => by simp
  | n + 1, acc => by
    rw [List.replicate_succ, List.foldl_cons, rep_size c n, Array.size_append, Nat.succ_mul]
    omega
end
end L2
set_option Elab.async false
set_option linter.all false
set_option maxRecDepth 100000
set_option maxHeartbeats 1000000
namespace L2
open PySem PySem.Spec PyProof.Rows PySem.W NP
def Kp (g h : Heap) : Prop := ∀ b o, g.get? b = some o → h.get? b = some o
theorem Kp.trans {g h k : Heap} (a : Kp g h) (b : Kp h k) : Kp g k := fun x o e => b x o (a x o e)
section
variable {prog : Program} {w : World} {A : Around} {E : Value → Shared → Prop} {s : Shared} {I S f : Addr} {fp wr : List Addr} {n : Nat} {P : Nat → Value → Prop} {St : Nat → Heap → Prop} {R : Result → Shared → Prop}
end
section
variable {prog : Program} {w : World} {A : Around} {s : Shared}
end
section
variable {X : Cx}
end
end L2
set_option Elab.async false
set_option linter.all false
set_option maxRecDepth 100000
set_option maxHeartbeats 1000000
namespace L2
open PySem PySem.Spec PyProof.Rows PySem.W NP
section
variable {X : Cx}
end
end L2
set_option Elab.async false
set_option linter.all false
set_option maxRecDepth 100000
namespace L2
open PySem PySem.Spec PyProof.Rows
end L2
namespace NP
open PySem L2
end NP
set_option Elab.async false
set_option linter.all false
set_option maxRecDepth 100000
namespace L2
open PySem PySem.Spec PyProof.Rows PySem.W
end L2
set_option Elab.async false
set_option linter.all false
set_option maxRecDepth 100000
namespace L2
open PySem PySem.Spec PyProof.Rows PySem.W
end L2
set_option Elab.async false
set_option linter.all false
set_option maxRecDepth 100000
namespace NP
open PySem L2
end NP
set_option Elab.async false
set_option linter.all false
set_option maxRecDepth 100000
set_option maxHeartbeats 4000000
namespace L2
open PySem PySem.Spec PyProof.Rows
def rJoin : V → List V → Hp → VK → Prop := fun x vs H Q => ∃ (sep : Str) (l : Addr) (xs : List Str) (B : Nat), x = .str sep ∧ vs = [.ref l] ∧ H l = some (.lst (xs.map V.str)) ∧ (∀ y ∈ xs, y.length ≤ B) ∧ xs.length * B + xs.length * sep.length ≤ 16777216 ∧ Q (.str (Str.join sep xs)) H
theorem join_len {sep : Str} {B : Nat} {xs : List Str} (h : ∀ y ∈ xs, y.length ≤ B) : (Str.join sep xs).length ≤ xs.length * B + xs.length * sep.length := by
  rw [← StrLaws.glued_eq_join, size_glued]
  have h1 := StrLaws.sumLen_le xs h
  have h2 : (xs.length - 1) * sep.length ≤ xs.length * sep.length := Nat.mul_le_mul_right _ (Nat.sub_le _ _)
  omega
theorem vals_pairs : ∀ {xs : List Str} {us : List Value}, Vals (xs.map V.str) us → ∃ l : List (Str × Tok), strValues l = us ∧ l.map (·.1) = xs
  | [], _, .nil => ⟨[], rfl, rfl⟩
  | x :: xs, u :: us, .cons r t => by
    obtain ⟨l, h1, h2⟩ := vals_pairs t
    obtain ⟨tk, rfl⟩ := r
    exact ⟨(x, tk) :: l, by rw [← h1]; rfl, by rw [← h2]; rfl⟩
theorem mt_join {X : Cx} : MtM X "str.join" rJoin := by
  intro pins s σ H x vs v us Q I rx hv h
  obtain ⟨sep, l, xs, B, rfl, rfl, hH, hB, hz, q⟩ := h
  obtain ⟨tk, rfl⟩ := rx
  obtain ⟨u, rfl, ru⟩ := hv.one
  cases ru
  obtain ⟨z, its, n, r, hlx, e⟩ := I.lstM hH
  obtain ⟨ps, rfl, hps⟩ := vals_pairs r
  refine call_meets F.slot_str_join (typeIs_str s sep tk) F.entry_str_join (F.args_str_join_2 _ _) (meets_str_join_list sep tk l ps (by rw [hps]; exact StrLaws.joinFits hB hz)) ⟨⟨_, e, rfl, n, rfl⟩, ?_⟩
  have fin : ∀ t, (EP X pins σ Q) (.str (Str.join sep xs) t) s := fun t => ⟨.str (Str.join sep xs), H, I, ⟨t, rfl⟩, q⟩
  have fin2 : ∀ t t', (EP X pins σ Q) (.str (Str.join sep xs) t) { s with toks := t' } := fun t t' => ⟨.str (Str.join sep xs), H, I.tok _, ⟨t, rfl⟩, q⟩
  have hjl : (Builtin.Str.glued sep xs).length ≤ sizeLine := by
    rw [StrLaws.glued_eq_join, sizeLine_eq]
    exact Nat.le_trans (join_len hB) hz
  subst hps
  match ps with
  | [] => exact ⟨hjl, fin2 _ _⟩
  | [p] => exact fin p.2
  | p :: p2 :: r2 =>
    have e2 := StrLaws.glued_eq_join sep ((p :: p2 :: r2).map (·.1))
    have f3 := fin2 s.toks (s.toks + 1)
    rw [← e2] at f3
    exact ⟨hjl, f3⟩
section
variable {prog : Program} {w : World} {A : Around} {I : Addr} {fp wr : List Addr} {G : Array GenState → Array GenState → Prop} {St : Nat → Shared → Prop}
end
section
variable {prog : Program} {w : World} {A : Around} {s : Shared} {E : Value → Shared → Prop}
end
section
variable {X : Cx}
end
end L2
set_option Elab.async false
set_option linter.all false
set_option maxRecDepth 100000
namespace L2
open PySem PySem.Spec PyProof.Rows PySem.W
section
variable {X : Cx}
theorem rep_mem (c : Array Nat) : ∀ (n : Nat) (acc : Array Nat) (x : Nat), x ∈ ((List.replicate n c).foldl (· ++ ·) acc).toList → x ∈ acc.toList ∨ x ∈ c.toList
  | 0, acc, x, h => .inl h
  | n + 1, acc, x, h => by
    rw [List.replicate_succ, List.foldl_cons] at h
    rcases rep_mem c n (acc ++ c) x h with z | z
    · rw [Array.toList_append] at z
      exact List.mem_append.mp z
    · exact .inr z
end
end L2
set_option Elab.async false
set_option linter.all false
set_option maxRecDepth 100000
namespace L2
open PySem PySem.Spec PyProof.Rows
section
variable {X : Cx}
def AlikeV (H : Hp) (x y : V) : Prop := (∃ d e, RD H d x ∧ RD H e y ∧ okD d = true ∧ okD e = true ∧ PyData.eqv d e = true) ∨ ∃ p q ka kb, x = .ref p ∧ y = .ref q ∧ Rd H p (.dK ka) ∧ Rd H q (.dK kb) ∧ p ≠ q ∧ ka.length = kb.length ∧ LikeK H ka kb
theorem AlikeV.eq {A : Around} {s : Shared} {H : Hp} {x y : V} {u v : Value} (h : AlikeV H x y) (ok : HOk X.prog X.w H s.heap) (rx : RelV x u) (ry : RelV y v) (hu : A.units + 70 < cLine) (E : Value → Shared → Prop) (R : Bool → Shared → Prop) (hR : R true s) : wpAny (model X.prog X.w) A (eqBool u v) R E s := by
  rcases h with ⟨d, e, rd, re, od, oe, q⟩ | ⟨p, q, ka, kb, rfl, rfl, hp, hq, npq, hl, lk⟩
  · obtain ⟨as, r1⟩ := RD.reads ok d x u rd rx
    obtain ⟨bs, r2⟩ := RD.reads ok e y v re ry
    have := SeqAt.eqAt_reads d e A s u v as bs r1 r2 (Bool.and_eq_true_iff.mp od).1 (Bool.and_eq_true_iff.mp oe).1 (okD_room od (by omega))
    rw [q] at this
    exact this _ _ E R hR
  · cases rx
    cases ry
    obtain ⟨yp, np, va, ra, da⟩ := dk_rd ok hp
    obtain ⟨yq, nq, vb, rb, db⟩ := dk_rd ok hq
    have l2 : va.length = vb.length := by rw [← ra.length, ← rb.length]; exact hl
    unfold eqBool
    refine wpAny_holding ?_
    refine wpAny_ite_split (fun hab => absurd (by have := eq_of_beq hab; injection this) npq) (fun _ => wpAny_bind ?_)
    refine PySem.W.keq_eq (r := true) np nq da db (by omega) (fun _ => like_hits ok (by show A.units + 1 + 64 < cLine; omega) rb ra lk) ?_
    rw [l2]
    simp only [BEq.rfl, Bool.and_self]
    exact wpAny_truthy_bool hR
end
end L2
set_option Elab.async false
set_option linter.all false
set_option maxRecDepth 100000
namespace L2
open PySem PySem.Spec PyProof.Rows
section
variable {X : Cx}
def rIExt : R2 := fun x y H Q => ∃ l b xs zs, x = .ref l ∧ y = .ref b ∧ H l = some (.lst xs) ∧ H b = some (.lst zs) ∧ xs.length + zs.length ≤ sizeLine ∧ Q (.ref l) (upd H l (.lst (xs ++ zs)))
end
end L2
set_option Elab.async false
set_option linter.all false
set_option maxRecDepth 100000
set_option maxHeartbeats 4000000
namespace L2
open PySem PySem.Spec PyProof.Rows Builtin Builtin.Str
def one (c : Nat) : Str := ⟨#[c]⟩
theorem occ_all (x : Str) (c lim : Nat) : ∀ (l : List Nat) (st : Array Nat × Nat), (∀ i ∈ l, st.2 ≤ i) → l.Pairwise (· < ·) → st.1.size + l.length ≤ lim →
    (forIn l st (StrLaws.occBody x (one c) x.length lim)).run.1.toList = st.1.toList ++ l.filter fun i => decide (x.cps.toList[i]? = some c)
  | [], st, _, _, _ => by simp
  | a :: r, st, h1, h2, h3 => by
    rw [List.forIn_cons]
    unfold StrLaws.occBody
    have hr := List.pairwise_cons.mp h2
    rw [List.length_cons] at h3
    have iff := StrLaws.subAt_one x c a
    by_cases hc : x.cps.toList[a]? = some c
    · obtain ⟨g1, g2⟩ := iff.mpr hc
      rw [if_pos ⟨⟨⟨by omega, h1 a List.mem_cons_self⟩, g1⟩, g2⟩, List.filter_cons, if_pos (decide_eq_true hc)]
      have := occ_all x c lim r (st.1.push a, a + (one c).length) (fun i hi => hr.1 i hi) hr.2 (by simp; omega)
      refine this.trans ?_
      simp
    · rw [if_neg (fun z => hc (iff.mp ⟨z.1.2, z.2⟩)), List.filter_cons, if_neg (by simpa using hc)]
      exact occ_all x c lim r st (fun i hi => h1 i (List.mem_cons_of_mem _ hi)) hr.2 (by omega)
theorem occ_is (x : Str) (c : Nat) : occurrences x (one c) 0 x.length (x.length + 1) = (List.range' 0 (x.length + 1)).filter fun i => decide (x.cps.toList[i]? = some c) := by
  rw [StrLaws.occ_eq]
  have := occ_all x c (x.length + 1) (List.range' 0 (x.length + 1 - 0)) (#[], 0) (fun _ _ => Nat.zero_le _) List.pairwise_lt_range' (by simp)
  rw [this]
  rfl
theorem parts_no (x : Str) (c : Nat) : ∀ (cuts : List Nat) (a : Nat), (∀ i, a ≤ i → x.cps.toList[i]? = some c → i ∈ cuts) → (∀ i ∈ cuts, a ≤ i) → cuts.Pairwise (· < ·) → ∀ p ∈ StrLaws.partsFrom x 1 a cuts, c ∉ p.cps.toList
  | [], a, h, _, _, p, hp => by
    have hp : p ∈ [strSub x a x.length] := hp
    rw [List.mem_singleton.mp hp, StrLaws.strSub_toList]
    intro z
    obtain ⟨i, hi⟩ := List.getElem?_of_mem (List.mem_of_mem_take z)
    rw [List.getElem?_drop] at hi
    cases h (a + i) (by omega) hi
  | k :: r, a, h, h0, hs, p, hp => by
    have hp : p ∈ strSub x a k :: StrLaws.partsFrom x 1 (k + 1) r := hp
    have hr := List.pairwise_cons.mp hs
    rcases List.mem_cons.mp hp with rfl | hp
    · rw [StrLaws.strSub_toList]
      intro z
      obtain ⟨i, hi⟩ := List.getElem?_of_mem z
      have hl := (List.getElem?_eq_some_iff.mp hi).1
      rw [List.length_take] at hl
      rw [List.getElem?_take_of_lt (by omega), List.getElem?_drop] at hi
      rcases List.mem_cons.mp (h (a + i) (by omega) hi) with e | e
      · omega
      · have := hr.1 _ e
        omega
    · have hk := h0 k List.mem_cons_self
      refine parts_no x c r (k + 1) (fun i hi he => ?_) (fun i hi => hr.1 i hi) hr.2 p hp
      rcases List.mem_cons.mp (h i (by omega) he) with e | e
      · omega
      · exact e
theorem split_no (x : Str) (c : Nat) (hc : c < 256) : ∀ p ∈ Txt.split x (one c), c ∉ p.cps.toList := fun p hp => by
  have hs : (List.range' 0 (x.length + 1)).Pairwise (· < ·) := List.pairwise_lt_range'
  have all : ∀ i, x.cps.toList[i]? = some c → i ∈ occurrences x (one c) 0 x.length (x.length + 1) := fun i hi => by
    rw [occ_is]
    have := (List.getElem?_eq_some_iff.mp hi).1
    have hl : x.cps.toList.length = x.length := by show x.cps.toList.length = x.cps.size; simp
    refine List.mem_filter.mpr ⟨?_, decide_eq_true hi⟩
    rw [List.mem_range']
    exact ⟨i, by omega, by omega⟩
  unfold Txt.split at hp
  split at hp
  · rename_i h1
    rw [List.mem_singleton.mp hp]
    have l1 : (one c).length = 1 := rfl
    have k1 : Builtin.Str.strKind (one c) = 1 := by
      unfold Builtin.Str.strKind one
      rw [if_pos (by simpa using hc)]
    have k2 : 1 ≤ Builtin.Str.strKind x := by unfold Builtin.Str.strKind; split <;> (try split) <;> decide
    have : x.length = 0 := by
      rcases Bool.or_eq_true_iff.mp h1 with z | z
      · have := of_decide_eq_true z; omega
      · have := of_decide_eq_true z; omega
    intro z
    have hl : x.cps.toList.length = 0 := by rw [← this]; show x.cps.toList.length = x.cps.size; simp
    rw [List.eq_nil_of_length_eq_zero hl] at z
    cases z
  · split at hp
    · rename_i h2
      rw [List.mem_singleton.mp hp]
      intro z
      obtain ⟨i, hi⟩ := List.getElem?_of_mem z
      have := all i hi
      rw [List.isEmpty_iff.mp h2] at this
      cases this
    · rw [StrLaws.partsBetween_eq] at hp
      refine parts_no x c _ 0 (fun i _ hi => all i hi) (fun _ _ => Nat.zero_le _) ?_ p hp
      rw [occ_is]
      exact hs.filter _
theorem cut_first {c : Nat} : ∀ {w w' X X' : List Nat}, c ∉ w → c ∉ w' → w ++ c :: X = w' ++ c :: X' → w = w' ∧ X = X'
  | [], [], X, X', _, _, h => by simpa using h
  | [], b :: w', X, X', _, h2, h => by
    have : c = b := by simpa using (List.cons.inj h).1
    exact absurd (by rw [this]; exact List.mem_cons_self) h2
  | a :: w, [], X, X', h1, _, h => by
    have : a = c := by simpa using (List.cons.inj h).1
    exact absurd (by rw [this]; exact List.mem_cons_self) h1
  | a :: w, b :: w', X, X', h1, h2, h => by
    have h := List.cons.inj h
    obtain ⟨e1, e2⟩ := cut_first (fun z => h1 (List.mem_cons_of_mem _ z)) (fun z => h2 (List.mem_cons_of_mem _ z)) h.2
    exact ⟨by rw [h.1, e1], e2⟩
theorem join_cps (c : Nat) (w v : Str) (r : List Str) : (Str.join (one c) (w :: v :: r)).cps.toList = w.cps.toList ++ c :: (Str.join (one c) (v :: r)).cps.toList := by
  show (w ++ one c ++ Str.join (one c) (v :: r)).cps.toList = _
  rw [Str.cps_append, Str.cps_append]
  simp [one]
theorem str_ext {a b : Str} (h : a.cps.toList = b.cps.toList) : a = b := Str.ext' (Array.toList_inj.mp h)
theorem join_inj {c : Nat} : ∀ {ws us : List Str}, ws ≠ [] → us ≠ [] → (∀ w ∈ ws, c ∉ w.cps.toList) → (∀ w ∈ us, c ∉ w.cps.toList) → Str.join (one c) ws = Str.join (one c) us → ws = us
  | [], _, h, _, _, _, _ => absurd rfl h
  | _ :: _, [], _, h, _, _, _ => absurd rfl h
  | [w], [u], _, _, _, _, h => by rw [show w = u from h]
  | [w], u :: u2 :: r, _, _, h1, _, h => by
    have e := congrArg (fun z : Str => z.cps.toList) h
    have e : w.cps.toList = (Str.join (one c) (u :: u2 :: r)).cps.toList := e
    rw [join_cps] at e
    exact absurd (by rw [e]; simp) (h1 w List.mem_cons_self)
  | w :: w2 :: r, [u], _, _, _, h2, h => by
    have e := congrArg (fun z : Str => z.cps.toList) h
    have e : (Str.join (one c) (w :: w2 :: r)).cps.toList = u.cps.toList := e
    rw [join_cps] at e
    exact absurd (by rw [← e]; simp) (h2 u List.mem_cons_self)
  | w :: w2 :: r, u :: u2 :: r2, _, _, h1, h2, h => by
    have e := congrArg (fun z : Str => z.cps.toList) h
    have e : (Str.join (one c) (w :: w2 :: r)).cps.toList = (Str.join (one c) (u :: u2 :: r2)).cps.toList := e
    rw [join_cps, join_cps] at e
    obtain ⟨e1, e2⟩ := cut_first (h1 w List.mem_cons_self) (h2 u List.mem_cons_self) e
    have := join_inj (ws := w2 :: r) (us := u2 :: r2) (by simp) (by simp) (fun x hx => h1 x (List.mem_cons_of_mem _ hx)) (fun x hx => h2 x (List.mem_cons_of_mem _ hx)) (str_ext e2)
    rw [str_ext e1, this]
theorem split_join {c : Nat} {ws : List Str} (hc : c < 256) (h : ws ≠ []) (hn : ∀ w ∈ ws, c ∉ w.cps.toList) : Txt.split (Str.join (one c) ws) (one c) = ws := by
  refine join_inj (c := c) (fun z => ?_) h (split_no _ _ hc) hn (StrLaws.join_split _ _)
  have := split_pos (Str.join (one c) ws) (one c)
  rw [z] at this
  exact absurd this (by decide)
def rSplit : V → List V → Hp → VK → Prop := fun x vs H Q => ∃ (y : Str) (c : Nat), x = .str y ∧ vs = [.str (one c)] ∧ y.length ≤ 1000000 ∧ ∀ p, H p = none → Q (.ref p) (upd H p (.lst ((Txt.split y (one c)).map V.str)))
theorem vals_from : ∀ (l : List Str) (k : Nat), Vals (l.map V.str) (strsFrom k l)
  | [], _ => .nil
  | x :: r, k => .cons ⟨_, rfl⟩ (vals_from r (k + 1))
theorem mt_split {X : Cx} : MtM X "str.split" rSplit := by
  intro pins s σ H x vs v us Q I rx rv h
  obtain ⟨y, c, rfl, rfl, hy, q⟩ := h
  obtain ⟨t, rfl⟩ := rx
  obtain ⟨u, rfl, ru⟩ := rv.one
  obtain ⟨t2, rfl⟩ := ru
  have hz : y.length ≤ sizeLine := Nat.le_trans hy (by decide)
  have hf : H s.heap.objs.size = none := I.hok.fresh (Nat.le_refl _)
  have hl := split_le y (one c)
  have hl2 : (1000002 : Nat) ≤ sizeLine := by decide
  have fin : ∀ (its : List Value) (t' : Nat), Vals ((Txt.split y (one c)).map V.str) its → (EP X pins σ Q) (.ref s.heap.objs.size) { s with heap := s.heap.push { cls := .type "list", data := .seq its.toArray }, toks := t' } := fun its t' r => ⟨.ref s.heap.objs.size, _, I.laid (t' := t') (fun b o e => Heap.get?_push_of_some _ e) (Nat.le_refl _) (show ObjOk X.prog X.w _ _ _ (.lst ((Txt.split y (one c)).map V.str)) from ⟨by rw [List.length_map]; omega, its, 0, r, Heap.get?_push_size _ rfl⟩), rfl, q _ hf⟩
  have one1 : Txt.split y (one c) = [y] → Vals ((Txt.split y (one c)).map V.str) [Value.str y t] := fun e => by rw [e]; exact .cons ⟨_, rfl⟩ .nil
  cases h1 : (decide (y.length < (one c).length) || decide (Builtin.Str.strKind y < Builtin.Str.strKind (one c))) with
  | true =>
    have e : Txt.split y (one c) = [y] := by unfold Txt.split; exact if_pos h1
    exact call_meets F.slot_str_split (typeIs_str s y t) F.entry_str_split (F.args_str_split_2 _ _) (meets_str_split_cannot_occur y (one c) t t2 h1) (fin _ s.toks (one1 e))
  | false =>
    cases h2 : (occurrences y (one c) 0 y.length (y.length + 1)).isEmpty with
    | true =>
      have e : Txt.split y (one c) = [y] := by unfold Txt.split; rw [if_neg (by rw [h1]; decide)]; exact if_pos h2
      exact call_meets F.slot_str_split (typeIs_str s y t) F.entry_str_split (F.args_str_split_2 _ _) (meets_str_split_not_found y (one c) t t2 h1 rfl h2) (fin _ s.toks (one1 e))
    | false =>
      have e : Txt.split y (one c) = partsBetween y (occurrences y (one c) 0 y.length (y.length + 1)) (one c).length := by unfold Txt.split; rw [if_neg (by rw [h1]; decide)]; exact if_neg (by rw [h2]; decide)
      have r := vals_from (Txt.split y (one c)) s.toks
      rw [e] at r
      refine call_meets F.slot_str_split (typeIs_str s y t) F.entry_str_split (F.args_str_split_2 _ _) (meets_str_split_sep y (one c) t t2 h1 rfl h2 hz (by rw [← e]; omega)) ?_
      exact fin _ _ (by rw [e]; exact r)
end L2
set_option Elab.async false
set_option linter.all false
set_option maxRecDepth 100000
set_option maxHeartbeats 4000000
namespace L2
open PySem PySem.Spec PyProof.Rows
def Gives (P : Program) (w : World) (A : Around) (h : Heap) (ex : List Addr) (it : Addr) (x : Value) (Pt : Heap → Prop) : Prop := ∀ (t : Shared) (Q : Value → Shared → Prop) (E : Value → Shared → Prop), (∀ c o, c ∉ ex → h.get? c = some o → t.heap.get? c = some o) → (∀ h', Pt h' → Heap.SameBut it t.heap h' → Q x { t with heap := h' }) → wpAny (model P w) A (Builtin.SmallTypes.nextOf (.ref it)) Q E t
def Ends2 (P : Program) (w : World) (A : Around) (h : Heap) (ex : List Addr) (it : Addr) : Prop := ∀ (t : Shared) (Q : Value → Shared → Prop) (E : Value → Shared → Prop), (∀ c o, c ∉ ex → h.get? c = some o → t.heap.get? c = some o) → (∀ h' e, Heap.ExtBut it t.heap h' → (∃ o, h'.get? e = some o ∧ o.cls = .type "StopIteration") → E (.ref e) { t with heap := h' }) → wpAny (model P w) A (Builtin.SmallTypes.nextOf (.ref it)) Q E t
section
variable {P : Program} {w : World} {A : Around} {E : Value → Shared → Prop} {s : Shared} {z TI TO i1 i2 : Addr} {x y a b : Value}
theorem zip_gives {P1 P2 : Heap → Prop} {Q : Value → Shared → Prop} (nd : [z, TI, TO, i1, i2].Nodup) (hz : IsZip s.heap z TI TO .none) (hTI : IsPair s.heap TI (.ref i1) (.ref i2)) (hTO : IsPair s.heap TO a b)
    (g1 : Gives P w A s.heap [z] i1 x P1) (g2 : Gives P w A s.heap [z, TO, i1] i2 y P2)
    (k1 : ∀ h h', P1 h → (∀ o, h.get? i1 = some o → h'.get? i1 = some o) → P1 h') (k2 : ∀ h h', P2 h → (∀ o, h.get? i2 = some o → h'.get? i2 = some o) → P2 h')
    (hq : ∀ h', IsZip h' z TI TO (rawInt s.heap.objs.size) → IsPair h' TO x y → P1 h' → P2 h' → IsPair h' s.heap.objs.size x y → h'.objs.size = s.heap.objs.size + 1 → (∀ c o, c ∉ [z, TO, i1, i2] → s.heap.get? c = some o → h'.get? c = some o) → Q (.ref s.heap.objs.size) { s with heap := h' }) :
    wpAny (model P w) A (Builtin.«zip.__next__» ⟨[.ref z], []⟩) (fun fin s' => ∃ v, fin = .done (.ret v) ∧ Q v s') E s := by
  simp only [List.nodup_cons, List.mem_cons, List.not_mem_nil, or_false, not_or, List.nodup_nil, and_true, not_false_eq_true] at nd
  obtain ⟨⟨n1, n2, n3, n4⟩, ⟨n5, n6, n7⟩, ⟨n8, n9⟩, n10⟩ := nd
  show wpAny _ _ (field (.ref z) 2 >>= _) _ _ _; refine wpAny_bind (wpAny_field hz rfl (x := .bool false) rfl ?_)
  show wpAny _ _ (field (.ref z) 3 >>= _) _ _ _; refine wpAny_bind (wpAny_field hz rfl (x := .ref TI) rfl (wpAny_bind (wpAny_seqItems hTI rfl ?_)))
  show wpAny _ _ (Builtin.SmallTypes.ownedTupleIsFree (.ref z) >>= _) _ _ _; refine wpAny_bind ?_; unfold Builtin.SmallTypes.ownedTupleIsFree
  refine wpAny_bind (wpAny_field hz rfl (x := .none) rfl (wpAny_pure ?_)); simp only [if_true]
  refine wpAny_bind (wpAny_rule (wpAny_bind (wpAny_field hz rfl (x := .ref TO) rfl (wpAny_bind (wpAny_setField_rec hz (by simp) fun h₁ hz₁ hs₁ => wpAny_bind ?_)))))
  simp only [List.zipIdx_nil, List.zipIdx_cons, List.forIn_nil, List.forIn_cons]
  have e1 : ∀ c o, c ≠ z → s.heap.get? c = some o → h₁.get? c = some o := fun c o n e => hs₁.extBut _ _ n e
  refine wpAny_bind (wpAny_bind (wpAny_onRaise ?_)); show wpAny _ _ (Builtin.SmallTypes.nextOf (.ref i1) >>= _) _ _ _
  refine wpAny_bind (g1 { s with heap := h₁ } _ _ (fun c o n e => e1 c o (by simpa using n) e) fun h₂ p2 hs₂ => wpAny_pure ?_)
  have e2 : ∀ c o, c ≠ z → c ≠ i1 → s.heap.get? c = some o → h₂.get? c = some o := fun c o n m e => hs₂.extBut _ _ m (e1 c o n e)
  have t2 : IsPair h₂ TO a b := e2 _ _ (Ne.symm n2) n8 hTO
  refine wpAny_bind (wpAny_seqItems t2 rfl (wpAny_bind (wpAny_updateSeq_pair t2 fun h₃ t3 hs₃ => wpAny_bind (wpAny_letGo (wpAny_pure ?_)))))
  have t3 : IsPair h₃ TO x b := t3
  have e3 : ∀ c o, c ≠ z → c ≠ i1 → c ≠ TO → s.heap.get? c = some o → h₃.get? c = some o := fun c o n m k e => hs₃.extBut _ _ k (e2 c o n m e)
  refine wpAny_bind (wpAny_bind (wpAny_onRaise ?_)); show wpAny _ _ (Builtin.SmallTypes.nextOf (.ref i2) >>= _) _ _ _
  refine wpAny_bind (g2 { s with heap := h₃ } _ _ (fun c o n e => by simp only [List.mem_cons, List.not_mem_nil, or_false, not_or] at n; exact e3 c o n.1 n.2.2 n.2.1 e) fun h₄ p4 hs₄ => wpAny_pure ?_)
  have t4 : IsPair h₄ TO x b := hs₄.extBut _ _ n9 t3
  refine wpAny_bind (wpAny_seqItems t4 rfl (wpAny_bind (wpAny_updateSeq_pair t4 fun h₅ t5 hs₅ => wpAny_bind (wpAny_letGo (wpAny_pure (wpAny_pure ?_))))))
  have t5 : IsPair h₅ TO x y := t5
  refine wpAny_bind (wpAny_seqItems t5 rfl (wpAny_bind (wpAny_newTuple ?_)))
  have sz : h₅.objs.size = s.heap.objs.size := by rw [hs₅.1, hs₄.1, hs₃.1, hs₂.1, hs₁.1]
  have z5 : h₅.get? z = h₁.get? z := by rw [hs₅.2 z n2, hs₄.2 z n4, hs₃.2 z n2, hs₂.2 z n3]
  have hz₅ : IsZip h₅ z TI TO .ellipsis := z5.trans hz₁
  have e5 : ∀ c o, c ∉ [z, TO, i1, i2] → s.heap.get? c = some o → h₅.get? c = some o := fun c o n e => by
    simp only [List.mem_cons, List.not_mem_nil, or_false, not_or] at n
    exact hs₅.extBut _ _ n.2.1 (hs₄.extBut _ _ n.2.2.2 (e3 c o n.1 n.2.2.1 n.2.1 e))
  have p1₅ : P1 h₅ := k1 _ _ p2 fun o e => hs₅.extBut _ _ (Ne.symm n8) (hs₄.extBut _ _ n10 (hs₃.extBut _ _ (Ne.symm n8) e))
  have p2₅ : P2 h₅ := k2 _ _ p4 fun o e => hs₅.extBut _ _ (Ne.symm n9) e
  have zl : z < h₅.objs.size := Heap.lt_size hz₅
  show wpAny _ _ (Builtin.SmallTypes.ownedTupleHandOut (.ref z) (.ref h₅.objs.size) >>= _) _ _ _; refine wpAny_bind ?_; unfold Builtin.SmallTypes.ownedTupleHandOut
  refine wpAny_bind (wpAny_setField_rec (Heap.get?_push_of_some _ hz₅) (by simp) fun h₇ hz₇ hs₇ => wpAny_setField_rec hz₇ (by simp) fun h₈ hz₈ hs₈ => ?_)
  have up : ∀ c o, c ≠ z → h₅.get? c = some o → h₈.get? c = some o := fun c o n e => hs₈.extBut _ _ n (hs₇.extBut _ _ n (Heap.get?_push_of_some _ e))
  have hz₈ : IsZip h₈ z TI TO (rawInt h₅.objs.size) := hz₈
  have t8 : IsPair h₈ h₅.objs.size x y := hs₈.extBut _ _ (Nat.ne_of_gt zl) (hs₇.extBut _ _ (Nat.ne_of_gt zl) (Heap.get?_push_size _ rfl))
  have s8 : h₈.objs.size = h₅.objs.size + 1 := by rw [hs₈.1, hs₇.1, Heap.size_push]
  rw [sz] at hz₈ t8 s8
  refine wpAny_pure ⟨_, rfl, ?_⟩
  show Q (.ref h₅.objs.size) _
  rw [sz]
  exact hq h₈ hz₈ (up _ _ (Ne.symm n2) t5) (k1 _ _ p1₅ fun o e => up _ o (Ne.symm n3) e) (k2 _ _ p2₅ fun o e => up _ o (Ne.symm n4) e) t8 s8 fun c o n e => up c o (fun q => n (by simp [q])) (e5 c o n e)
theorem zip_ends {P1 : Heap → Prop} {Q : Fin → Shared → Prop} (nd : [z, TI, TO, i1, i2].Nodup) (hz : IsZip s.heap z TI TO .none) (hTI : IsPair s.heap TI (.ref i1) (.ref i2)) (hTO : IsPair s.heap TO a b)
    (g : Ends2 P w A s.heap [z] i1 ∨ (Gives P w A s.heap [z] i1 x P1 ∧ Ends2 P w A s.heap [z, TO, i1] i2))
    (hE : ∀ h' e, (∀ c o, c ∉ [z, TO, i1, i2] → s.heap.get? c = some o → h'.get? c = some o) → (∃ o, h'.get? e = some o ∧ o.cls = .type "StopIteration") → E (.ref e) { s with heap := h' }) :
    wpAny (model P w) A (Builtin.«zip.__next__» ⟨[.ref z], []⟩) Q E s := by
  simp only [List.nodup_cons, List.mem_cons, List.not_mem_nil, or_false, not_or, List.nodup_nil, and_true, not_false_eq_true] at nd
  obtain ⟨⟨n1, n2, n3, n4⟩, ⟨n5, n6, n7⟩, ⟨n8, n9⟩, n10⟩ := nd
  show wpAny _ _ (field (.ref z) 2 >>= _) _ _ _; refine wpAny_bind (wpAny_field hz rfl (x := .bool false) rfl ?_)
  show wpAny _ _ (field (.ref z) 3 >>= _) _ _ _; refine wpAny_bind (wpAny_field hz rfl (x := .ref TI) rfl (wpAny_bind (wpAny_seqItems hTI rfl ?_)))
  show wpAny _ _ (Builtin.SmallTypes.ownedTupleIsFree (.ref z) >>= _) _ _ _; refine wpAny_bind ?_; unfold Builtin.SmallTypes.ownedTupleIsFree
  refine wpAny_bind (wpAny_field hz rfl (x := .none) rfl (wpAny_pure ?_)); simp only [if_true]
  refine wpAny_bind (wpAny_rule (wpAny_bind (wpAny_field hz rfl (x := .ref TO) rfl (wpAny_bind (wpAny_setField_rec hz (by simp) fun h₁ hz₁ hs₁ => wpAny_bind ?_)))))
  simp only [List.zipIdx_nil, List.zipIdx_cons, List.forIn_nil, List.forIn_cons]
  have hz₁ : IsZip h₁ z TI TO .ellipsis := hz₁
  have e1 : ∀ c o, c ≠ z → s.heap.get? c = some o → h₁.get? c = some o := fun c o n e => hs₁.extBut _ _ n e
  refine wpAny_bind (wpAny_bind (wpAny_onRaise ?_)); show wpAny _ _ (Builtin.SmallTypes.nextOf (.ref i1) >>= _) _ _ _
  have out : ∀ (h₂ h₃ : Heap) (e : Addr) (f0 : Value), IsZip h₂ z TI TO f0 → (∃ o, h₂.get? e = some o ∧ o.cls = .type "StopIteration") → Heap.SameBut z h₂ h₃ → ∃ o, h₃.get? e = some o ∧ o.cls = .type "StopIteration" := fun h₂ h₃ e f0 q he sb => by
    obtain ⟨oe, h1, h2⟩ := he
    have ne : e ≠ z := fun y => by rw [y, q] at h1; cases h1; simp at h2
    exact ⟨oe, sb.extBut _ _ ne h1, h2⟩
  rcases g with g1 | ⟨g1, g2⟩
  · refine wpAny_bind (g1 { s with heap := h₁ } _ _ (fun c o n e => e1 c o (by simpa using n) e) fun h₂ e eb he => ?_)
    have q := eb _ _ n3 hz₁
    refine wpAny_setField_rec q (by simp) fun h₃ _ hs₃ => hE h₃ e (fun c o n ec => ?_) (out h₂ h₃ e _ q he hs₃)
    simp only [List.mem_cons, List.not_mem_nil, or_false, not_or] at n
    exact hs₃.extBut _ _ n.1 (eb _ _ n.2.2.1 (e1 c o n.1 ec))
  · refine wpAny_bind (g1 { s with heap := h₁ } _ _ (fun c o n e => e1 c o (by simpa using n) e) fun h₂ p2 hs₂ => wpAny_pure ?_)
    have e2 : ∀ c o, c ≠ z → c ≠ i1 → s.heap.get? c = some o → h₂.get? c = some o := fun c o n m e => hs₂.extBut _ _ m (e1 c o n e)
    have t2 : IsPair h₂ TO a b := e2 _ _ (Ne.symm n2) n8 hTO
    refine wpAny_bind (wpAny_seqItems t2 rfl (wpAny_bind (wpAny_updateSeq_pair t2 fun h₃ t3 hs₃ => wpAny_bind (wpAny_letGo (wpAny_pure ?_)))))
    have e3 : ∀ c o, c ≠ z → c ≠ i1 → c ≠ TO → s.heap.get? c = some o → h₃.get? c = some o := fun c o n m k e => hs₃.extBut _ _ k (e2 c o n m e)
    refine wpAny_bind (wpAny_bind (wpAny_onRaise ?_)); show wpAny _ _ (Builtin.SmallTypes.nextOf (.ref i2) >>= _) _ _ _
    refine wpAny_bind (g2 { s with heap := h₃ } _ _ (fun c o n e => by simp only [List.mem_cons, List.not_mem_nil, or_false, not_or] at n; exact e3 c o n.1 n.2.2 n.2.1 e) fun h₄ e eb he => ?_)
    have q := eb _ _ n4 (hs₃.extBut _ _ n2 (hs₂.extBut _ _ n3 hz₁))
    refine wpAny_setField_rec q (by simp) fun h₅ _ hs₅ => hE h₅ e (fun c o n ec => ?_) (out h₄ h₅ e _ q he hs₅)
    simp only [List.mem_cons, List.not_mem_nil, or_false, not_or] at n
    exact hs₅.extBut _ _ n.1 (eb _ _ n.2.2.2 (e3 c o n.1 n.2.2.1 n.2.1 ec))
theorem gives_list {l : Addr} {k : Nat} {xs : Array Value} (ex : List Addr) (h : s.heap.IsListIter i1 l k) (hl : s.heap.IsList l xs) (hx : xs[k]? = some x) (n1 : i1 ∉ ex) (n2 : l ∉ ex) : Gives P w A s.heap ex i1 x (fun h' => h'.IsListIter i1 l (k + 1)) := fun t Q E kp hq =>
  wpAny_nextOf_list_item (h.at fun o e => kp _ o n1 e) (hl.at fun o e => kp _ o n2 e) hx fun h' a b => hq h' a b
theorem ends_list {l : Addr} {k : Nat} {xs : Array Value} (ex : List Addr) (hh : A.handled = none) (h : s.heap.IsListIter i1 l k) (hl : s.heap.IsList l xs) (hx : xs[k]? = none) (n1 : i1 ∉ ex) (n2 : l ∉ ex) : Ends2 P w A s.heap ex i1 := fun t Q E kp hq =>
  wpAny_nextOf_list_end hh (h.at fun o e => kp _ o n1 e) (hl.at fun o e => kp _ o n2 e) hx fun h' e a b => hq h' e a b
theorem tup_at {h h' : Heap} {b : Addr} {ys : Array Value} (q : h.IsTuple b ys) (k : ∀ o, h.get? b = some o → h'.get? b = some o) : h'.IsTuple b ys := let ⟨o, e, r⟩ := q; ⟨o, k o e, r⟩
theorem gives_tup {l : Addr} {k : Nat} {xs : Array Value} (ex : List Addr) (h : s.heap.IsTupleIter i2 l k) (hl : s.heap.IsTuple l xs) (hx : xs[k]? = some y) (n1 : i2 ∉ ex) (n2 : l ∉ ex) : Gives P w A s.heap ex i2 y (fun h' => h'.IsTupleIter i2 l (k + 1)) := fun t Q E kp hq => by
  have hi := h.at fun o e => kp _ o n1 e
  obtain ⟨oi, ei, ci, di⟩ := id hi
  obtain ⟨ol, el, _, m, dl⟩ := tup_at hl fun o e => kp _ o n2 e
  unfold Builtin.SmallTypes.nextOf
  refine wpAny_bind (wpAny_callSpecial?_slot (name := Str.ofString "__next__") hi.typeIs F.slot_tuple_iterator_next (wpAny_call_entry F.slot_tuple_iterator_next hi.typeIs F.entry_tuple_iterator_next ?_ (F.args_tuple_iterator_next_1 _)))
  show wpAny _ _ (field (.ref i2) 0 >>= _) _ _ t; refine wpAny_bind (wpAny_field ei di (x := .ref l) rfl ?_)
  show wpAny _ _ (if (Value.ref l == Value.none) = true then _ else _) _ _ t; rw [if_neg (fun z : (Value.ref l == Value.none) = true => Bool.false_ne_true z)]
  show wpAny _ _ (field (.ref i2) 1 >>= _) _ _ t; refine wpAny_bind (wpAny_field ei di (x := .int k 0) rfl ?_)
  show wpAny _ _ (seqItems? (.ref l) >>= _) _ _ t; refine wpAny_bind (wpAny_seqItems el dl ?_); simp only [hx, Int.toNat_natCast]
  refine wpAny_bind (wpAny_setField ei di (by simp) (wpAny_pure ⟨y, rfl, wpAny_pure (hq _ ⟨_, Heap.get?_update_self _ ei (Obj.isFreed_of_fields (Obj.data_mapFields di _)), (Obj.cls_mapFields ..).trans ci, by rw [Obj.data_mapFields di]; simp [rawInt]⟩ (Heap.SameBut.update ..))⟩))
theorem ends_tup {l : Addr} {k : Nat} {xs : Array Value} (ex : List Addr) (hh : A.handled = none) (h : s.heap.IsTupleIter i2 l k) (hl : s.heap.IsTuple l xs) (hx : xs[k]? = none) (n1 : i2 ∉ ex) (n2 : l ∉ ex) : Ends2 P w A s.heap ex i2 := fun t Q E kp hq => by
  have hi := h.at fun o e => kp _ o n1 e
  obtain ⟨oi, ei, ci, di⟩ := id hi
  obtain ⟨ol, el, _, m, dl⟩ := tup_at hl fun o e => kp _ o n2 e
  unfold Builtin.SmallTypes.nextOf
  refine wpAny_bind (wpAny_callSpecial?_slot (name := Str.ofString "__next__") hi.typeIs F.slot_tuple_iterator_next (wpAny_call_entry F.slot_tuple_iterator_next hi.typeIs F.entry_tuple_iterator_next ?_ (F.args_tuple_iterator_next_1 _)))
  show wpAny _ _ (field (.ref i2) 0 >>= _) _ _ t; refine wpAny_bind (wpAny_field ei di (x := .ref l) rfl ?_)
  show wpAny _ _ (if (Value.ref l == Value.none) = true then _ else _) _ _ t; rw [if_neg (fun z : (Value.ref l == Value.none) = true => Bool.false_ne_true z)]
  show wpAny _ _ (field (.ref i2) 1 >>= _) _ _ t; refine wpAny_bind (wpAny_field ei di (x := .int k 0) rfl ?_)
  show wpAny _ _ (seqItems? (.ref l) >>= _) _ _ t; refine wpAny_bind (wpAny_seqItems el dl ?_); simp only [hx, Int.toNat_natCast]
  refine wpAny_bind (wpAny_rule (wpAny_bind (wpAny_setField ei di (by simp) ?_))); show wpAny _ _ (newExc (.type "StopIteration") [] >>= _) _ _ _
  refine wpAny_bind ?_; simp only [newExc, newTuple]
  refine wpAny_bind (wpAny_newObj_type ?_ (by size_fits)); refine wpAny_bind (m := firstArgMember _ _) (wpAny_of_eq (a := Value.none) (by first | rfl | (simp only [firstArgMember]; rfl)) ?_)
  refine wpAny_newObj_type ?_ (by size_fits); simp only [raiseNew]
  refine wpAny_bind (wpAny_handled ?_); first | rw [show A.in1.handled = none from hh] | rw [hh]
  exact wpAny_bind (wpAny_pure (wpAny_throw (hq _ _ (((Heap.SameBut.update ..).extBut.push _).push _) ⟨_, Heap.get?_push_size _ rfl, rfl⟩)))
theorem walks_zipT (hh : A.handled = none) (z TI TO i1 i2 l1 l2 : Addr) (nd : [z, TI, TO, i1, i2].Nodup) (n1 : l1 ∉ [z, TO, i1, i2]) (n2 : l2 ∉ [z, TO, i1, i2]) (xs ys : Array Value) :
    WalksT P w A z [z, TI, TO, i1, i2, l1, l2] [z, TO, i1, i2] (min xs.size ys.size) (fun i vals => ∃ x y, xs[i]? = some x ∧ ys[i]? = some y ∧ vals = #[x, y])
      (fun i h => IsZip h z TI TO .none ∧ IsPair h TI (.ref i1) (.ref i2) ∧ (∃ a b, IsPair h TO a b) ∧ h.IsListIter i1 l1 i ∧ h.IsTupleIter i2 l2 i ∧ h.IsList l1 xs ∧ h.IsTuple l2 ys)
      (fun i T h => (IsZip h z TI TO (rawInt T) ∧ IsPair h TI (.ref i1) (.ref i2) ∧ (∃ a b, IsPair h TO a b) ∧ h.IsListIter i1 l1 (i + 1) ∧ h.IsTupleIter i2 l2 (i + 1) ∧ h.IsList l1 xs ∧ h.IsTuple l2 ys) ∧ T ∉ [z, TO, i1, i2]) := by
  have nd' := nd
  simp only [List.nodup_cons, List.mem_cons, List.not_mem_nil, or_false, not_or, List.nodup_nil, and_true, not_false_eq_true] at nd'
  obtain ⟨⟨m1, m2, m3, m4⟩, ⟨m5, m6, m7⟩, ⟨m8, m9⟩, m10⟩ := nd'
  have hTIn : TI ∉ [z, TO, i1, i2] := by simp only [List.mem_cons, List.not_mem_nil, or_false, not_or]; exact ⟨Ne.symm m1, m5, m6, m7⟩
  have q1 := n1
  have q2 := n2
  simp only [List.mem_cons, List.not_mem_nil, or_false, not_or] at q1 q2
  have x1 : i1 ∉ [z] := by simpa using Ne.symm m3
  have x2 : i2 ∉ [z, TO, i1] := by simp only [List.mem_cons, List.not_mem_nil, or_false, not_or]; exact ⟨Ne.symm m4, Ne.symm m9, Ne.symm m10⟩
  have x3 : l1 ∉ [z] := by simpa using q1.1
  have x4 : l2 ∉ [z, TO, i1] := by simp only [List.mem_cons, List.not_mem_nil, or_false, not_or]; exact ⟨q2.1, q2.2.1, q2.2.2.1⟩
  refine ⟨fun c hc => ?_, fun i h h' st k => ?_, fun i s Q E hi st hq => ?_, fun elts k pos i T s Q E hm hq => ?_, fun i T h hm => hm.2, fun s Q E st hq => ?_, fun i s Q E st hq => wpAny_pyIter_zip st.1 hq⟩
  · simp only [List.mem_cons, List.not_mem_nil, or_false] at hc ⊢
    rcases hc with q | q | q | q <;> simp [q]
  · obtain ⟨a1, a2, ⟨u, v, a3⟩, a4, a5, a6, a7⟩ := st
    exact ⟨k z (by simp) _ a1, k TI (by simp) _ a2, ⟨u, v, k TO (by simp) _ a3⟩, a4.at fun o e => k i1 (by simp) o e, a5.at fun o e => k i2 (by simp) o e, a6.at fun o e => k l1 (by simp) o e, tup_at a7 fun o e => k l2 (by simp) o e⟩
  · obtain ⟨a1, a2, ⟨u, v, a3⟩, a4, a5, a6, a7⟩ := st
    have hT : s.TypeIs (.ref z) "zip" := ⟨_, a1, rfl⟩
    have hix : i < xs.size := by omega
    have hiy : i < ys.size := by omega
    have gx : xs[i]? = some xs[i] := Array.getElem?_eq_getElem hix
    have gy : ys[i]? = some ys[i] := Array.getElem?_eq_getElem hiy
    have lt : ∀ {c : Addr} {o : Obj}, s.heap.get? c = some o → s.heap.objs.size ≠ c := fun e => Nat.ne_of_gt (Heap.lt_size e)
    unfold pyNext
    refine wpAny_bind (wpAny_attempt (wpAny_callSpecial?_slot (name := Str.ofString "__next__") hT F.slot_zip_next (wpAny_call_entry F.slot_zip_next hT F.entry_zip_next (zip_gives nd a1 a2 a3 (gives_list [z] a4 a6 gx x1 x3) (gives_tup [z, TO, i1] a5 a7 gy x2 x4) (fun _ _ p k => p.at k) (fun _ _ p k => p.at k) fun h' b1 b2 b3 b4 b5 b6 kp => ?_) (F.args_zip_next_1 _))))
    refine wpAny_pure (hq _ #[xs[i], ys[i]] h' s.toks ⟨_, _, gx, gy, rfl⟩ (Nat.le_refl _) ⟨_, b5, rfl, _, rfl⟩ ⟨⟨b1, kp _ _ hTIn a2, ⟨_, _, b2⟩, b3, b4, a6.at fun o e => kp _ o n1 e, tup_at a7 fun o e => kp _ o n2 e⟩, ?_⟩ kp)
    obtain ⟨_, e4, _⟩ := a4
    obtain ⟨_, e5, _⟩ := a5
    simp only [List.mem_cons, List.not_mem_nil, or_false, not_or]
    exact ⟨lt a1, lt a3, lt e4, lt e5⟩
  · obtain ⟨⟨a1, a2, ⟨u, v, a3⟩, a4, a5, a6, a7⟩, _⟩ := hm
    refine wpAny_letOwnedTupleGo_zip a1 fun h' b1 sb => hq h' ⟨b1, sb.extBut _ _ (Ne.symm m1) a2, ⟨u, v, sb.extBut _ _ (Ne.symm m2) a3⟩, a4.extBut sb.extBut (Ne.symm m3), a5.extBut sb.extBut (Ne.symm m4), a6.extBut sb.extBut q1.1, a7.extBut sb.extBut q2.1⟩ fun c o hc e => sb.extBut _ _ (fun q => hc (by simp [q])) e
  · obtain ⟨a1, a2, ⟨u, v, a3⟩, a4, a5, a6, a7⟩ := st
    have hT : s.TypeIs (.ref z) "zip" := ⟨_, a1, rfl⟩
    unfold pyNext
    have fin : Ends2 P w A.in1 s.heap [z] i1 ∨ ((∃ x, Gives P w A.in1 s.heap [z] i1 x (fun h' => h'.IsListIter i1 l1 (min xs.size ys.size + 1))) ∧ Ends2 P w A.in1 s.heap [z, TO, i1] i2) := by
      by_cases h : xs.size ≤ ys.size
      · exact .inl (ends_list [z] hh a4 a6 (Array.getElem?_eq_none (by omega)) x1 x3)
      · exact .inr ⟨⟨_, gives_list [z] a4 a6 (Array.getElem?_eq_getElem (by omega)) x1 x3⟩, ends_tup [z, TO, i1] hh a5 a7 (Array.getElem?_eq_none (by omega)) x2 x4⟩
    have fin2 : ∃ x, Ends2 P w A.in1 s.heap [z] i1 ∨ (Gives P w A.in1 s.heap [z] i1 x (fun h' => h'.IsListIter i1 l1 (min xs.size ys.size + 1)) ∧ Ends2 P w A.in1 s.heap [z, TO, i1] i2) := by
      rcases fin with f | ⟨⟨x, f⟩, f2⟩
      · exact ⟨.none, .inl f⟩
      · exact ⟨x, .inr ⟨f, f2⟩⟩
    obtain ⟨x, fin2⟩ := fin2
    refine wpAny_bind (wpAny_attempt (wpAny_callSpecial?_slot (name := Str.ofString "__next__") hT F.slot_zip_next (wpAny_call_entry F.slot_zip_next hT F.entry_zip_next (zip_ends nd a1 a2 a3 fin2 fun h' e kp he => ?_) (F.args_zip_next_1 _))))
    obtain ⟨o, e1, e2⟩ := he
    exact wpAny_bind (wpAny_isInstance (T := "StopIteration") (b := true) ⟨o, e1, e2⟩ isSubtype_stop (wpAny_pure (hq h' s.toks kp)))
end
def zt1 (h : Heap) (a : Addr) : Heap := h.push { cls := .type "list_iterator", data := .fields #[.ref a, .int 0 0] }
def zt2 (h : Heap) (a b : Addr) : Heap := (zt1 h a).push { cls := .type "tuple_iterator", data := .fields #[.ref b, .int 0 0] }
def zt3 (h : Heap) (a b : Addr) : Heap := (zt2 h a b).push { cls := .type "tuple", data := .seq #[.ref h.objs.size, .ref (zt1 h a).objs.size] }
def zt4 (h : Heap) (a b : Addr) : Heap := (zt3 h a b).push { cls := .type "tuple", data := .seq #[.none, .none] }
def zt5 (h : Heap) (a b : Addr) : Heap := (zt4 h a b).push { cls := .type "zip", data := .fields #[.none, .bool false, .bool false, .ref (zt2 h a b).objs.size, .ref (zt3 h a b).objs.size] }
theorem meets_zipT (a b : Addr) (xs ys : Array Value) : Meets (Builtin.«zip.__new__» ⟨[.type "zip", .ref a, .ref b], []⟩) (fun _ R s => s.heap.IsList a xs ∧ s.heap.IsTuple b ys ∧ R (.ok (.ret (.ref (zt4 s.heap a b).objs.size))) { s with heap := zt5 s.heap a b }) :=
  .of_wp fun P w A R s h => by
    obtain ⟨hp, g, d, tk, os⟩ := s
    obtain ⟨ha, hb, h⟩ := h
    have hsub := sub_zip
    have qa : Heap.IsList (Shared.heap ⟨hp, g, d, tk, os⟩) a xs := ha
    have qb : Heap.IsTuple (Shared.heap ⟨hp.push { cls := .type "list_iterator", data := .fields #[.ref a, .int 0 0] }, g, d, tk, os⟩) b ys := Heap.IsTuple.push hb _
    wp_walk using wpAny_pyIter_list qa, wpAny_pyIter_tuple qb
    exact ⟨_, rfl, h⟩
theorem call_zipT {P : Program} {w : World} {A : Around} {E : Value → Shared → Prop} {s : Shared} {a b : Addr} {xs ys : Array Value} {Q : Value → Shared → Prop} (ha : s.heap.IsList a xs) (hb : s.heap.IsTuple b ys)
    (h : ∀ h', IsZip h' (s.heap.objs.size + 4) (s.heap.objs.size + 2) (s.heap.objs.size + 3) .none → IsPair h' (s.heap.objs.size + 2) (.ref s.heap.objs.size) (.ref (s.heap.objs.size + 1)) → IsPair h' (s.heap.objs.size + 3) .none .none →
      h'.IsListIter s.heap.objs.size a 0 → h'.IsTupleIter (s.heap.objs.size + 1) b 0 → (∀ c o, s.heap.get? c = some o → h'.get? c = some o) → Q (.ref (s.heap.objs.size + 4)) { s with heap := h' }) :
    wpAny (model P w) A (call (.type "zip") [.ref a, .ref b]) Q E s := by
  refine callType_new F.called_zip (by decide) (F.typeCall_zip_2 _ _) (F.newCall_zip_2 _ _) (fun obj => F.args_object_init_3 obj _ _) F.entry_zip_new (meets_zipT a b xs ys) ⟨ha, hb, ?_⟩
  have z1 : (zt1 s.heap a).objs.size = s.heap.objs.size + 1 := Heap.size_push ..
  have z2 : (zt2 s.heap a b).objs.size = s.heap.objs.size + 2 := (Heap.size_push ..).trans (by rw [z1])
  have z3 : (zt3 s.heap a b).objs.size = s.heap.objs.size + 3 := (Heap.size_push ..).trans (by rw [z2])
  have z4 : (zt4 s.heap a b).objs.size = s.heap.objs.size + 4 := (Heap.size_push ..).trans (by rw [z3])
  have p5 : ∀ {c : Addr} {o : Obj}, (zt4 s.heap a b).get? c = some o → (zt5 s.heap a b).get? c = some o := fun e => Heap.get?_push_of_some _ e
  have p4 : ∀ {c : Addr} {o : Obj}, (zt3 s.heap a b).get? c = some o → (zt5 s.heap a b).get? c = some o := fun e => p5 (Heap.get?_push_of_some _ e)
  have p3 : ∀ {c : Addr} {o : Obj}, (zt2 s.heap a b).get? c = some o → (zt5 s.heap a b).get? c = some o := fun e => p4 (Heap.get?_push_of_some _ e)
  have p2 : ∀ {c : Addr} {o : Obj}, (zt1 s.heap a).get? c = some o → (zt5 s.heap a b).get? c = some o := fun e => p3 (Heap.get?_push_of_some _ e)
  have g5 : (zt5 s.heap a b).get? (zt4 s.heap a b).objs.size = some { cls := .type "zip", data := .fields #[.none, .bool false, .bool false, .ref (zt2 s.heap a b).objs.size, .ref (zt3 s.heap a b).objs.size] } := Heap.get?_push_size _ rfl
  have g4 := p5 (show (zt4 s.heap a b).get? (zt3 s.heap a b).objs.size = some { cls := .type "tuple", data := .seq #[.none, .none] } from Heap.get?_push_size _ rfl)
  have g3 := p4 (show (zt3 s.heap a b).get? (zt2 s.heap a b).objs.size = some { cls := .type "tuple", data := .seq #[.ref s.heap.objs.size, .ref (zt1 s.heap a).objs.size] } from Heap.get?_push_size _ rfl)
  have g2 := p3 (show (zt2 s.heap a b).get? (zt1 s.heap a).objs.size = some { cls := .type "tuple_iterator", data := .fields #[.ref b, .int 0 0] } from Heap.get?_push_size _ rfl)
  have g1 := p2 (show (zt1 s.heap a).get? s.heap.objs.size = some { cls := .type "list_iterator", data := .fields #[.ref a, .int 0 0] } from Heap.get?_push_size _ rfl)
  show _ ∧ _
  rw [z2, z3, z4] at g5
  rw [z1, z2] at g3
  rw [z3] at g4
  rw [z1] at g2
  rw [z4]
  exact ⟨⟨_, g5, rfl⟩, h _ g5 g3 g4 ⟨_, g1, rfl, rfl⟩ ⟨_, g2, rfl, rfl⟩ fun c o e => p2 (Heap.get?_push_of_some _ e)⟩
def ItZT (K : PySem.W.Frag) (a b : Addr) (xs ys : List V) : It := ⟨fun i H => H a = some (.lst xs) ∧ SqT K H b ys ∧ i < min xs.length ys.length,
  fun i H x H' => ∃ p y z, x = .ref p ∧ H p = none ∧ xs[i]? = some y ∧ ys[i]? = some z ∧ H' = upd H p (.tup [y, z]), fun i H => H a = some (.lst xs) ∧ SqT K H b ys ∧ i = min xs.length ys.length⟩
theorem goesZT (K : PySem.W.Frag) (a b : Addr) (xs ys : List V) : GoesT (ItZT K a b xs ys) (min xs.length ys.length) (fun i us => ∃ y z, xs[i]? = some y ∧ ys[i]? = some z ∧ us = [y, z]) (fun H => H a = some (.lst xs) ∧ SqT K H b ys) :=
  ⟨fun i H h o => ⟨o.1, o.2, h⟩, fun i H x H' h o y => let ⟨p, u, v, e1, e2, e3, e4, e5⟩ := y; ⟨p, _, e1, e2, e5, u, v, e3, e4, rfl⟩, fun H o => ⟨o.1, o.2, rfl⟩⟩
theorem turn_zipT {P : Program} {w : World} {K : PySem.W.Frag} {elts : List Expr} {k : Nat} {pos : Pos} (z TI TO i1 i2 a b : Addr) (xs ys : List V) (nd : [z, TI, TO, i1, i2].Nodup) (na : a ∉ [z, TO, i1, i2]) (nb : b ∉ [z, TO, i1, i2]) :
    Turn P w K (.Tuple elts k pos) (ItZT K a b xs ys) [z, TI, TO, i1, i2] z (fun i h => IsZip h z TI TO .none ∧ IsPair h TI (.ref i1) (.ref i2) ∧ (∃ u v, IsPair h TO u v) ∧ h.IsListIter i1 a i ∧ h.IsTupleIter i2 b i) := by
  have objs : ∀ (i : Nat) (h : Heap), (IsZip h z TI TO .none ∧ IsPair h TI (.ref i1) (.ref i2) ∧ (∃ u v, IsPair h TO u v) ∧ h.IsListIter i1 a i ∧ h.IsTupleIter i2 b i) → ∀ c ∈ [z, TI, TO, i1, i2], ∃ o, h.get? c = some o ∧ ∀ v, o.data ≠ .cell v := by
    rintro i h ⟨hz, hT, ⟨u, v, hO⟩, ⟨o1, g1, c1, d1⟩, ⟨o2, g2, c2, d2⟩⟩ c hc
    simp only [List.mem_cons, List.not_mem_nil, or_false] at hc
    rcases hc with q | q | q | q | q <;> subst q
    · exact ⟨_, hz, fun _ y => by cases y⟩
    · exact ⟨_, hT, fun _ y => by cases y⟩
    · exact ⟨_, hO, fun _ y => by cases y⟩
    · exact ⟨o1, g1, fun _ y => by rw [d1] at y; cases y⟩
    · exact ⟨o2, g2, fun _ y => by rw [d2] at y; cases y⟩
  have sub : ∀ c ∈ [z, TO, i1, i2], c ∈ [z, TI, TO, i1, i2] := fun c hc => by simp at hc ⊢; rcases hc with h | h | h | h <;> simp [h]
  refine ⟨by simp, objs, ?_, ?_, ?_, ?_⟩
  · rintro i h h' ⟨hz, hT, ⟨u, v, hO⟩, g1, g2⟩ kp
    exact ⟨kp z (by simp) _ hz, kp TI (by simp) _ hT, ⟨u, v, kp TO (by simp) _ hO⟩, g1.at fun o e => kp i1 (by simp) o e, g2.at fun o e => kp i2 (by simp) o e⟩
  · intro X hP hw hK hc i pins s σ H E I hf st hg
    subst hP hw hK
    obtain ⟨ha, hb, hlt⟩ := hg
    obtain ⟨its, rv, hl, hal⟩ := lst_iter I ha
    obtain ⟨its2, rv2, hl2, hz2⟩ := I.tuple hb
    have len1 := rv.length
    have len2 := rv2.length
    obtain ⟨s1, s2, s3, s4, s5⟩ := id st
    have hv : ∀ vals : Array Value, (∃ x y, its.toArray[i]? = some x ∧ its2.toArray[i]? = some y ∧ vals = #[x, y]) → ∃ us, Vals us vals.toList ∧ us.length ≤ 100 ∧ ∃ y z, xs[i]? = some y ∧ ys[i]? = some z ∧ us = [y, z] := by
      rintro vals ⟨x, y, hx, hy, rfl⟩
      have l1 : i < xs.length := by omega
      have l2 : i < ys.length := by omega
      obtain ⟨u, hu, ru⟩ := rv.get (x := xs[i]) (i := i) (by simp [l1])
      obtain ⟨u', hu', ru'⟩ := rv2.get (x := ys[i]) (i := i) (by simp [l2])
      have hx : its[i]? = some x := by simpa using hx
      have hy : its2[i]? = some y := by simpa using hy
      rw [hx] at hu
      rw [hy] at hu'
      cases hu
      cases hu'
      exact ⟨[xs[i], ys[i]], .cons ru (.cons ru' .nil), by simp, xs[i], ys[i], by simp [l1], by simp [l2], rfl⟩
    refine thn (item_T (E := E) (walks_zipT (I.ok.hd hc) z TI TO i1 i2 a b nd na nb its.toArray its2.toArray) (by rw [List.size_toArray, List.size_toArray]; omega) I ⟨s1, s2, s3, s4, s5, hl, hl2⟩ (fun c hc => hf c (sub c hc)) hv) fun r t1 ⟨u, hr, h3⟩ =>
      ⟨u, hr, thn h3 fun _ t2 ⟨p, us, hu, hp, hn, I2, ⟨y, y', hy, hy', e2⟩, st2⟩ => ?_⟩
    subst hu e2
    refine ⟨.ref p, _, I2, rfl, ⟨p, y, y', rfl, hn, hy, hy', rfl⟩, ⟨st2.1, st2.2.1, st2.2.2.1, st2.2.2.2.1, st2.2.2.2.2.1⟩, fun c hc => ?_⟩
    obtain ⟨o, ho, _⟩ := objs i _ st c hc
    rw [upd_ne (addr_ne (Heap.lt_size ho) hp)]
    exact (hf c hc).1
  · intro X hP hw hK hc i pins s σ H E I hf st hg
    subst hP hw hK
    obtain ⟨ha, hb, hlt⟩ := hg
    obtain ⟨its, rv, hl, hal⟩ := lst_iter I ha
    obtain ⟨its2, rv2, hl2, hz2⟩ := I.tuple hb
    have len1 := rv.length
    have len2 := rv2.length
    obtain ⟨s1, s2, s3, s4, s5⟩ := id st
    have hi : min its.toArray.size its2.toArray.size = i := by rw [List.size_toArray, List.size_toArray]; omega
    refine (walks_zipT (I.ok.hd hc) z TI TO i1 i2 a b nd na nb its.toArray its2.toArray).done s _ E ?_ fun h' tk hk => ⟨rfl, I.turnedL hk fun c hc => hf c (sub c hc)⟩
    rw [hi]
    exact ⟨s1, s2, s3, s4, s5, hl, hl2⟩
  · intro A i s Q E st h
    exact wpAny_pyIter_zip st.1 h
section
variable {X : Cx}
def iZipT (K : PySem.W.Frag) (ta : TA) : TI := fun σ H R => ta σ H fun vs H1 => ∃ a b xs ys, vs = [.ref a, .ref b] ∧ H1 a = some (.lst xs) ∧ SqT K H1 b ys ∧ R (ItZT K a b xs ys) H1
theorem pi_zipT {elts : List Expr} {k : Nat} {pt p pos : Pos} {e e2 : Expr} {ta : TA} (hg : Gl X "zip") (hm : X.mg "zip" = none) (ha : PA X [e, e2] ta) (hn : noStar [e, e2] = true := by rfl) : PI X (.Tuple elts k pt) (.Call (.Name "zip" p) [e, e2] [] pos) (iZipT X.K ta) := by
  intro pins s σ H R I h
  refine Call_ (ld_blt I hg hm NP.bt_zip (PyProof.Rows.callWith_type1 (thn (ha pos pins s σ H _ I h) fun us s1 ⟨vs, H1, I1, r1, q1⟩ => ?_) (starEach_cons (noStar_cons hn).1) (backTo_any (noStar_cons hn).2)))
  obtain ⟨a, b, xs, ys, e, ha, hb, q⟩ := q1
  subst e
  obtain ⟨u, u', rfl, ru, ru'⟩ := vals2 r1
  cases ru
  cases ru'
  obtain ⟨its, rv, hl, hal⟩ := lst_iter I1 ha
  obtain ⟨its2, rv2, hl2, hz2⟩ := I1.tuple hb
  have hbl : b < s1.heap.objs.size := by obtain ⟨o, ho, _⟩ := hl2; exact Heap.lt_size ho
  refine call_zipT hl hl2 fun h' g1 g2 g3 g4 g5 hk => wpAny_pyIter_zip g1 ?_
  have I2 : Inv X pins σ H1 { s1 with heap := h' } := I1.kept (t' := s1.toks) hk
  have nd : [s1.heap.objs.size + 4, s1.heap.objs.size + 2, s1.heap.objs.size + 3, s1.heap.objs.size, s1.heap.objs.size + 1].Nodup := by
    simp only [List.nodup_cons, List.mem_cons, List.not_mem_nil, or_false, not_or, List.nodup_nil, and_true, not_false_eq_true]
    refine ⟨⟨?_, ?_, ?_, ?_⟩, ⟨?_, ?_, ?_⟩, ⟨?_, ?_⟩, ?_⟩ <;> (intro z; have z' : (_ : Nat) = _ := z; omega)
  have off : ∀ c : Addr, c < s1.heap.objs.size → c ∉ [s1.heap.objs.size + 4, s1.heap.objs.size + 3, s1.heap.objs.size, s1.heap.objs.size + 1] := fun c hc z => by
    simp only [List.mem_cons, List.not_mem_nil, or_false] at z
    rcases z with q | q | q | q <;> rw [q] at hc <;> first | exact absurd hc (Nat.not_lt.mpr (Nat.le_add_right _ _)) | exact absurd hc (Nat.lt_irrefl _)
  refine ⟨s1.heap.objs.size + 4, [s1.heap.objs.size + 4, s1.heap.objs.size + 2, s1.heap.objs.size + 3, s1.heap.objs.size, s1.heap.objs.size + 1], _, _, H1, rfl, I2, turn_zipT _ _ _ _ _ a b xs ys nd (off a hal) (off b hbl), ⟨g1, g2, ⟨_, _, g3⟩, g4, g5⟩, fun c hc => ?_, q⟩
  have hb' : s1.heap.objs.size ≤ c := by
    simp only [List.mem_cons, List.not_mem_nil, or_false] at hc
    rcases hc with q | q | q | q | q <;> rw [q] <;> first | exact Nat.le_add_right _ _ | exact Nat.le_refl _
  exact I1.fpOk hb' (I1.hok.fresh hb')
end
end L2
set_option Elab.async false
set_option linter.all false
set_option maxRecDepth 100000
set_option maxHeartbeats 4000000
namespace L2
open PySem PySem.Spec PyProof.Rows
def tabEs (p : Params) (l : List (Str × Tok × Addr)) : Array DictEntry := (l.map fun e => { hash := PyData.keyHash p e.1, key := .str e.1 e.2.1, val := .ref e.2.2 }).toArray
def TabK (w : World) (K : PySem.W.Frag) (a : Addr) (l : List (Str × Tok × Addr)) : Prop := (∃ ep, K.lookup a = some { cls := .type "dict", data := .dict (tabEs w.params l) ep }) ∧ (l.map (·.1)).Nodup ∧ (a == sysModules) = false
def tabVs (l : List (Str × Tok × Addr)) : List (Key × Value) := l.map fun e => (Sum.inr e.1, Value.ref e.2.2)
def tabLook (l : List (Str × Tok × Addr)) (x : Str) : V := match l.find? (fun e => decide (e.1 = x)) with
  | some e => .ref e.2.2
  | none => .non
theorem tab_pairs {P : Program} {w : World} : ∀ l : List (Str × Tok × Addr), Pairs (mixKind P w) (l.map fun e => { hash := PyData.keyHash w.params e.1, key := .str e.1 e.2.1, val := .ref e.2.2 }) (tabVs l)
  | [] => .nil
  | e :: r => .cons (mixKind_str P w e.1 e.2.1) rfl (tab_pairs r)
theorem TabK.dict {P : Program} {w : World} {K : PySem.W.Frag} {a : Addr} {l : List (Str × Tok × Addr)} {h : Heap} (T : TabK w K a l) (X : K.In h) : h.DictOf (mixKind P w) a (tabVs l) := by
  obtain ⟨⟨ep, lk⟩, nd, _⟩ := T
  refine ⟨_, _, ep, X a _ lk, ⟨rfl, rfl, rfl⟩, rfl, fun e he => ?_, ?_, ?_⟩
  · unfold tabEs at he
    have he : e ∈ (l.map fun e => ({ hash := PyData.keyHash w.params e.1, key := .str e.1 e.2.1, val := .ref e.2.2 } : DictEntry)) := by simpa using he
    obtain ⟨q, hq, rfl⟩ := List.mem_map.mp he
    exact ⟨.inr q.1, mixKind_str P w q.1 q.2.1, rfl⟩
  · exact tab_pairs l
  · unfold tabVs
    rw [List.map_map]
    have : (List.map ((fun x => x.1) ∘ fun e : Str × Tok × Addr => ((Sum.inr e.1 : Key), Value.ref e.2.2)) l) = (l.map (·.1)).map Sum.inr := by rw [List.map_map]; rfl
    rw [this]
    exact nd.map _ fun x y n e => n (Sum.inr.inj e)
theorem tab_val (l : List (Str × Tok × Addr)) (x : Str) : RelV (tabLook l x) ((valueAt (tabVs l) (.inr x)).getD .none) := by
  unfold tabLook valueAt tabVs
  rw [List.find?_map]
  have : (fun kv : Key × Value => decide (kv.1 = (Sum.inr x : Key))) ∘ (fun e : Str × Tok × Addr => ((Sum.inr e.1 : Key), Value.ref e.2.2)) = fun e => decide (e.1 = x) := by
    funext e
    simp
  rw [this]
  cases l.find? (fun e => decide (e.1 = x)) with
  | none => rfl
  | some e => rfl
def tKGet (l : List (Str × Tok × Addr)) (ty : TE) : TE := fun σ H Q => ty σ H fun y H1 => ∃ x, y = .str x ∧ Q (tabLook l x) H1
theorem pe_kget {X : Cx} {a : Addr} {l : List (Str × Tok × Addr)} {o e : Expr} {ty : TE} {apos cpos : Pos} (T : TabK X.w X.K a l) (ho : PE X o (fun _ H Q => Q (.ref a) H)) (he : PE X e ty) (m : M1 X o "get" apos e cpos) : PE X (.Call (.Attribute o "get" apos) [e] [] cpos) (tKGet l ty) := by
  intro pins s σ H Q I h
  refine wpAny_Call_method m.base m.few m.line PySem.F.plainAttrs_dict PySem.F.slot_dict_get PySem.F.type_dict_get (thn (ho pins s σ H (fun x H1 => x = .ref a ∧ H1 = H) I ⟨rfl, rfl⟩) fun u s1 ⟨x, H1, I1, rx, ex, eH⟩ => ?_)
  subst ex eH
  obtain rfl : u = Value.ref a := rx
  have d1 : s1.heap.DictOf (mixKind X.prog X.w) a (tabVs l) := T.dict I1.kIn
  refine ⟨d1.typeIs, fun b q => ?_, ?_⟩
  · cases q
    obtain ⟨ob, _, _, e1, e2, _⟩ := d1
    exact ⟨ob, e1, e2.2.1⟩
  rw [m.trees]
  refine Calls.callWith_builtin rfl (Calls.evalArgs_plain (Calls.spliced_cons (thn (he pins s1 σ H1 _ I1 h) fun iv s2 ⟨y, H2, I2, ry, x, ey, q2⟩ => Calls.spliced_nil ?_)))
  subst ey
  have d2 : s2.heap.DictOf (mixKind X.prog X.w) a (tabVs l) := T.dict I2.kIn
  obtain ⟨t, rfl⟩ := ry
  exact call_meetsIn PySem.F.slot_dict_get d2.typeIs PySem.F.entry_dict_get (PySem.F.args_dict_get_2 _ _) (meets_dict_get (mixKind X.prog X.w) a (mixKind_str X.prog X.w x t) T.2.2) ⟨_, d2.mapOf, ⟨_, H2, I2.tok _, tab_val l x, q2⟩⟩
def TupK (K : PySem.W.Frag) (a : Addr) (l : List (Str × Tok)) : Prop := ∃ n, K.lookup a = some { cls := .type "tuple", data := .seq (l.map fun e => Value.str e.1 e.2).toArray n }
theorem TupK.sq {K : PySem.W.Frag} {a : Addr} {l : List (Str × Tok)} (T : TupK K a l) (hl : l.length ≤ 1000) (H : Hp) : SqT K H a ((l.map (·.1)).map V.str) := by
  obtain ⟨n, lk⟩ := T
  refine .inr ⟨_, _, n, lk, rfl, rfl, by rw [List.size_toArray, List.length_map]; exact Nat.le_trans hl (by decide), ?_⟩
  have : ∀ l : List (Str × Tok), Vals ((l.map (·.1)).map V.str) (l.map fun e => Value.str e.1 e.2) := fun l => by
    induction l with
    | nil => exact .nil
    | cons e r ih => exact .cons ⟨_, rfl⟩ ih
  exact this l
def rStrS : List V → Hp → VK → Prop := fun xs H Q => ∃ x : Str, xs = [.str x] ∧ Q (.str x) H
theorem call_strS {X : Cx} : CallR X (.type "str") rStrS := by
  intro pins s σ H xs us Q I r h
  obtain ⟨x, rfl, q⟩ := h
  obtain ⟨u, rfl, t, rfl⟩ := vals1 r
  exact P.str_of_str ⟨.str x, H, I, ⟨_, rfl⟩, q⟩
def rRepD : R2 := fun x y H Q => ∃ (z : Str) (n : Int), x = .str z ∧ y = .int n ∧ z.length ≤ 1000 ∧ 0 ≤ n ∧ n ≤ 1000 ∧ ∀ z' : Str, z'.length ≤ z.length * n.toNat → (∀ c ∈ z'.cps.toList, c ∈ z.cps.toList) → Q (.str z') H
theorem op_repD {X : Cx} : OpR X (binaryOp .Mult) rRepD := by
  intro pins s σ H x y v u Q I rx ry h
  obtain ⟨z, n, rfl, rfl, hz, h0, h1, q⟩ := h
  obtain ⟨t, rfl⟩ := rx
  obtain ⟨t', rfl⟩ := ry
  have hb : z.length * n.toNat ≤ 1000000 := by
    have : z.length * n.toNat ≤ 1000 * 1000 := Nat.mul_le_mul hz (by omega)
    omega
  refine P.mul_str (by rw [decide_eq_false (by omega), decide_eq_false (by omega)]; rfl) (fun hn _ hc => ?_) (fun _ _ => ?_) ?_
  · have : (2 ^ 63 - 1) / n ≥ (2 ^ 63 - 1) / 1000 := by
      have a1 : (2 ^ 63 - 1 : Int) / 1000 * n ≤ 2 ^ 63 - 1 := by
        have : (2 ^ 63 - 1 : Int) / 1000 * n ≤ (2 ^ 63 - 1) / 1000 * 1000 := Int.mul_le_mul_of_nonneg_left h1 (by decide)
        exact Int.le_trans this (by decide)
      exact (Int.le_ediv_iff_mul_le (by omega)).mpr a1
    have : ((2 : Int) ^ 63 - 1) / 1000 ≥ 1000 := by decide
    omega
  · unfold Builtin.Str.tooLong
    simp
    exact million hb
  · split
    · exact ⟨by decide, .str _, H, I.tok _, ⟨_, rfl⟩, q _ (Nat.zero_le _) (fun c hc => by cases hc)⟩
    · split
      · rename_i c1 c2
        have hb1 : z.length ≤ z.length * n.toNat := Nat.le_mul_of_pos_right _ (by omega)
        exact ⟨.str z, H, I, ⟨_, rfl⟩, q _ hb1 (fun c hc => hc)⟩
      · have hl : (⟨(List.replicate n.toNat z.cps).foldl (· ++ ·) #[]⟩ : Str).length = z.length * n.toNat := by
          show ((List.replicate n.toNat z.cps).foldl (· ++ ·) #[]).size = z.length * n.toNat
          rw [rep_size]
          have : n.toNat * z.cps.size = z.length * n.toNat := Nat.mul_comm ..
          simp
          omega
        exact ⟨by rw [hl]; exact million hb, .str _, H, I.tok _, ⟨_, rfl⟩, q _ (by rw [hl]; exact Nat.le_refl _) (fun c hc => rep_mem z.cps n.toNat #[] c hc |>.resolve_left (by simp))⟩
end L2
set_option Elab.async false
set_option linter.all false
set_option maxRecDepth 100000
set_option maxHeartbeats 4000000
namespace L2
open PySem PySem.Spec PyProof.Rows
def rStrK : List V → Hp → VK → Prop := fun xs H Q => rStrI xs H Q ∨ rStrS xs H Q
theorem call_strK {X : Cx} : CallR X (.type "str") rStrK := by
  intro pins s σ H xs us Q I r h
  rcases h with h | h
  · exact call_strI pins s σ H xs us Q I r h
  · exact call_strS pins s σ H xs us Q I r h
end L2
set_option Elab.async false
set_option linter.all false
set_option maxRecDepth 100000
set_option maxHeartbeats 4000000
namespace K54
open PySem L2 NP PySem.W
seal PE PA PT PS PSs PI PO PC PW
local macro_rules | `(tactic| walk_at "rd") => `(tactic| simp only [tSeq, tNext, tRet, tRetN, tAsg, tIfS, tDrop, tAug, gName, gSub, tVar, tC, tCB, tCons, tNil, tCall, tOp, tUn, tTest, tB, tAnd, tOr, tNot, tAndV, tOrV, tNotV, tIf, tTup, tLst, tSl, tPart, tNoPart, tBA, tBA0, tDNewK, tChain, tYes, rI, rI0, rU, rEq, rNe, rIsA, rIsnotA, rItem, lenA, rIAddA, rAddA, rMulA, listA, tupleA, lenQ, lenS, lenD, rSetD, rAddS, iLst, iTpl, iTxt, rCat, rCatTT, rRepT, iRng1, iRng2, iDct, tTruL, tTruD, tLrev, tIf, iEnum, iRev, iZip2, iZip3, rEqD, rNeD, rEqK, rNeK, iItm, tSortK, SortAsk, rSortS, rSortD, rSortT, rDictK, rClearD, rSum, rMaxL, rMinL, tMaxd, rGetL, rGetD, tAugS, rRep, rInsert, rMax2, rCount, rIndexS, rLtT, rAppend, rPopAt, rReverse, rSetA, rSetL, L2.start, cpSt, tComp_eq, tFor_eq, iAny_eq, rStrK, rIExt, rRepD, rStrI, rIntT, rStrS, rSplit, rJoin, tKGet, iZipT,  D.ty, isi_NoneType_bool, isi_NoneType_int, isi_NoneType_str, isi_NoneType_list, isi_NoneType_tuple, isi_NoneType_dict, isi_bool_bool, isi_bool_int, isi_bool_str, isi_bool_list, isi_bool_tuple, isi_bool_dict, isi_int_bool, isi_int_int, isi_int_str, isi_int_list, isi_int_tuple, isi_int_dict, isi_str_bool, isi_str_int, isi_str_str, isi_str_list, isi_str_tuple, isi_str_dict, isi_list_bool, isi_list_int, isi_list_str, isi_list_list, isi_list_tuple, isi_list_dict, isi_tuple_bool, isi_tuple_int, isi_tuple_str, isi_tuple_list, isi_tuple_tuple, isi_tuple_dict, isi_dict_bool, isi_dict_int, isi_dict_str, isi_dict_list, isi_dict_tuple, isi_dict_dict, mem_int, mem_bool, mem_str, mem_list, mem_tuple, mem_dict, Nat.reduceAdd, Nat.reduceSub, Nat.zero_add, Nat.sub_self, List.replicate_zero, List.replicate_succ, List.getD_cons_zero, List.getD_cons_succ, ↓reduceIte, List.map_cons, List.map_nil, List.append_nil, List.nil_append, List.cons_append, List.length_cons, List.length_nil, List.set_cons_zero, List.set_cons_succ, List.set_nil, List.getElem?_cons_zero, List.getElem?_cons_succ, Option.some.injEq, exists_eq_left', exists_eq_left, V.int.injEq, V.bl.injEq, V.str.injEq, V.ref.injEq, V.ty.injEq, List.cons.injEq, and_true, true_and, and_assoc, exists_and_left, exists_eq_right, reduceCtorEq, false_and, and_false, exists_false, or_false, false_or])
def top (i : Nat) : Stmt := PySem.Challenge.pw_needplan_k54_shown_and_read.main.body.getD i (.Pass ⟨0, 0, 0, 0⟩)
abbrev s_is_name : Stmt := top 21
abbrev s_is_whole : Stmt := top 22
abbrev s_is_from : Stmt := top 23
abbrev s_is_between : Stmt := top 24
abbrev s_is_tuple : Stmt := top 25
abbrev s_are_unlike : Stmt := top 26
abbrev s_is_arrival : Stmt := top 27
abbrev s_are_arrivals : Stmt := top 28
abbrev s_is_part : Stmt := top 29
abbrev s_are_parts : Stmt := top 30
abbrev s_is_ware : Stmt := top 31
abbrev s_are_wares : Stmt := top 32
abbrev s_is_want : Stmt := top 33
abbrev s_are_wants : Stmt := top 34
abbrev s_is_shop : Stmt := top 35
abbrev s_names_of : Stmt := top 36
abbrev s_part_names : Stmt := top 37
abbrev s_needed_names : Stmt := top 38
abbrev s_is_number : Stmt := top 43
abbrev s_read_number : Stmt := top 44
abbrev s_read_name : Stmt := top 45
abbrev s_read_words : Stmt := top 46
abbrev s_read_row : Stmt := top 47
abbrev s_read_shop : Stmt := top 48
abbrev s_written_shop : Stmt := top 49
abbrev s_rows_of : Stmt := top 50
abbrev s_shown_shop : Stmt := top 51
abbrev s_shown_row : Stmt := top 52
abbrev s_law_next : Stmt := top 54
abbrev s_law_drawn : Stmt := top 55
abbrev s_law_amount : Stmt := top 56
abbrev s_law_names : Stmt := top 57
abbrev s_law_parts : Stmt := top 58
abbrev s_law_shop : Stmt := top 59
abbrev s_law_any_shop : Stmt := top 60
abbrev s_law_line : Stmt := top 61
abbrev s_law : Stmt := top 62
structure Txt (mg : Str → Option Value) : Prop where
  n_len : mg "len" = none
  n_isinstance : mg "isinstance" = none
  n_str : mg "str" = none
  n_all : mg "all" = none
  n_bool : mg "bool" = none
  n_int : mg "int" = none
  n_tuple : mg "tuple" = none
  n_zip : mg "zip" = none
  n_range : mg "range" = none
  n_enumerate : mg "enumerate" = none
  n_list : mg "list" = none
  g_COMING : ∃ t, mg "COMING" = some (.int 5 t)
  g_FIGURES : ∃ t, mg "FIGURES" = some (.str "0123456789" t)
  g_FLOOR : ∃ t, mg "FLOOR" = some (.int 3 t)
  g_GIVES : ∃ t, mg "GIVES" = some (.int 2 t)
  g_LAG : ∃ t, mg "LAG" = some (.int 1 t)
  g_LAST_DAY : ∃ t, mg "LAST_DAY" = some (.int 400 t)
  g_LETTERS : ∃ t, mg "LETTERS" = some (.str "abcdefghijklmnopqrstuvwxyz" t)
  g_MEMBERS : ∃ t, mg "MEMBERS" = some (.int 7 t)
  g_MOST_COMING : ∃ t, mg "MOST_COMING" = some (.int 12 t)
  g_MOST_FIGURES : ∃ t, mg "MOST_FIGURES" = some (.int 60 t)
  g_MOST_LAG : ∃ t, mg "MOST_LAG" = some (.int 30 t)
  g_MOST_LETTERS : ∃ t, mg "MOST_LETTERS" = some (.int 8 t)
  g_MOST_PARTS : ∃ t, mg "MOST_PARTS" = some (.int 6 t)
  g_MOST_WANTS : ∃ t, mg "MOST_WANTS" = some (.int 20 t)
  g_MOST_WARES : ∃ t, mg "MOST_WARES" = some (.int 12 t)
  g_NAME : ∃ t, mg "NAME" = some (.int 0 t)
  g_PARTS : ∃ t, mg "PARTS" = some (.int 6 t)
  g_STOCK : ∃ t, mg "STOCK" = some (.int 4 t)
def FormK (K : PySem.W.Frag) (l : List (Str × Tok × Addr)) (x : Str) (fs : List Str) : Prop := ∃ (a : Addr) (tl : List (Str × Tok)), tabLook l x = .ref a ∧ TupK K a tl ∧ tl.map (·.1) = fs
def Rws (w : World) (K : PySem.W.Frag) (mg : Str → Option Value) : Prop := ∃ (a : Addr) (l : List (Str × Tok × Addr)), mg "ROWS" = some (.ref a) ∧ TabK w K a l ∧ FormK K l "ware" ["name", "number", "number", "number", "number"] ∧ FormK K l "coming" ["name", "number", "number"] ∧ FormK K l "part" ["name", "name", "number"] ∧ FormK K l "want" ["name", "number", "number"] ∧ l.map (·.1) = (["ware", "coming", "part", "want"] : List Str)
def isWhole : D → Bool
  | .int _ => true
  | _ => false
def isFrom (d : D) (n : Int) : Bool := match d with
  | .int i => decide (n ≤ i)
  | _ => false
def isBetween (d : D) (n m : Int) : Bool := isFrom d n && match d with
  | .int i => decide (i ≤ m)
  | _ => false
def isTuple (d : D) (n m : Int) : Bool := match d with
  | .tup ds => decide (n ≤ ds.length) && decide ((ds.length : Int) ≤ m)
  | _ => false
def letters : List Nat := ("abcdefghijklmnopqrstuvwxyz" : Str).cps.toList
def isNameS (x : Str) : Bool := decide (1 ≤ x.length) && decide (x.length ≤ 8) && x.cps.toList.all fun c => decide (c ∈ letters)
def isName : D → Bool
  | .str x => isNameS x
  | _ => false
def unl (xs : List Str) : Bool := xs.all fun x => decide (xs.countP (fun y => decide (y = x)) = 1)
def isArrival : D → Bool
  | .tup [a, b] => isBetween a 0 400 && isFrom b 0
  | _ => false
def areArrivals : D → Bool
  | .tup ds => decide (ds.length ≤ 12) && ds.all isArrival
  | _ => false
def isPart : D → Bool
  | .tup [a, b] => isName a && isFrom b 1
  | _ => false
def nameOf : D → Str
  | .tup (.str x :: _) => x
  | _ => ""
def areParts : D → Bool
  | .tup ds => decide (ds.length ≤ 6) && ds.all isPart && unl (ds.map nameOf)
  | _ => false
def isWare : D → Bool
  | .tup [n, l, g, f, s, c, p] => isName n && isBetween l 0 30 && isFrom g 1 && isFrom f 0 && isFrom s 0 && areArrivals c && areParts p
  | _ => false
section
variable {P : Program} {w : World} {K : PySem.W.Frag} {mg : Str → Option Value} {base : Heap}
def sp_is_whole : Sp := fun vs H Q _ => ∃ v d, vs = [v] ∧ Rep H d v ∧ ∀ H', Same H H' → Q (.bl (isWhole d)) H'
theorem sc_is_whole : FnScope ["found"] ["found"] (defScope s_is_whole) := ⟨rfl, rfl, rfl, by decide +kernel, rfl, by decide +kernel, by decide +kernel⟩
theorem ok_is_whole {f : Addr} {fd : FuncData} (F : Fun K "is_whole" "is_whole" s_is_whole f fd) (T : Txt mg) : FnOk P w K mg base CX0 1 f fd ["found"] sp_is_whole := by
  refine F.ok sc_is_whole (fun vs H Q E h => ?_) (fun cdv A outer s H vs Q E hr h => ?_)
  · obtain ⟨v, d, rfl, _⟩ := h
    rfl
  · obtain ⟨v, d, rfl, hv, k⟩ := h
    refine ⟨_, (pss_one (ps_ret (pe_and (pe_callBS call_isinst rfl T.n_isinstance bt_isinstance (pa_e (pv 0) (pa_e (pe_bltn (v := .ty "int") rfl T.n_int bt_int rfl) pa_nil))) (pe_one (pe_not (pe_callBS call_isinst rfl T.n_isinstance bt_isinstance (pa_e (pv 0) (pa_e (pe_bltn (v := .ty "bool") rfl T.n_bool bt_bool rfl) pa_nil)))))))), ?_⟩
    simp only [tSeq, tNext, tRet, tRetN, tAsg, tIfS, tDrop, tAug, gName, gSub, tVar, tC, tCB, tCons, tNil, tCall, tOp, tUn, tTest, tB, tAnd, tOr, tNot, tAndV, tOrV, tNotV, tIf, tTup, tLst, tSl, tPart, tNoPart, tBA, tBA0, tDNewK, tChain, tYes, rI, rI0, rU, rEq, rNe, rIsA, rIsnotA, rItem, lenA, rIAddA, rAddA, rMulA, listA, tupleA, lenQ, lenS, lenD, rSetD, rAddS, iLst, iTpl, iTxt, rCat, rCatTT, rRepT, iRng1, iRng2, iDct, tTruL, tTruD, tLrev, tIf, iEnum, iRev, iZip2, iZip3, rEqD, rNeD, rEqK, rNeK, iItm, tSortK, SortAsk, rSortS, rSortD, rSortT, rDictK, rClearD, rSum, rMaxL, rMinL, tMaxd, rGetL, rGetD, tAugS, rRep, rInsert, rMax2, rCount, rIndexS, rLtT, rAppend, rPopAt, rReverse, rSetA, rSetL, L2.start, cpSt, tComp_eq, tFor_eq, iAny_eq, rStrK, rIExt, rRepD, rStrI, rIntT, rStrS, rSplit, rJoin, tKGet, iZipT,  D.ty, isi_NoneType_bool, isi_NoneType_int, isi_NoneType_str, isi_NoneType_list, isi_NoneType_tuple, isi_NoneType_dict, isi_bool_bool, isi_bool_int, isi_bool_str, isi_bool_list, isi_bool_tuple, isi_bool_dict, isi_int_bool, isi_int_int, isi_int_str, isi_int_list, isi_int_tuple, isi_int_dict, isi_str_bool, isi_str_int, isi_str_str, isi_str_list, isi_str_tuple, isi_str_dict, isi_list_bool, isi_list_int, isi_list_str, isi_list_list, isi_list_tuple, isi_list_dict, isi_tuple_bool, isi_tuple_int, isi_tuple_str, isi_tuple_list, isi_tuple_tuple, isi_tuple_dict, isi_dict_bool, isi_dict_int, isi_dict_str, isi_dict_list, isi_dict_tuple, isi_dict_dict, mem_int, mem_bool, mem_str, mem_list, mem_tuple, mem_dict, Nat.reduceAdd, Nat.reduceSub, Nat.zero_add, Nat.sub_self, List.replicate_zero, List.replicate_succ, List.getD_cons_zero, List.getD_cons_succ, ↓reduceIte, List.map_cons, List.map_nil, List.append_nil, List.nil_append, List.cons_append, List.length_cons, List.length_nil, List.set_cons_zero, List.set_cons_succ, List.set_nil, List.getElem?_cons_zero, List.getElem?_cons_succ, Option.some.injEq, exists_eq_left', exists_eq_left, V.int.injEq, V.bl.injEq, V.str.injEq, V.ref.injEq, V.ty.injEq, List.cons.injEq, and_true, true_and, and_assoc, exists_and_left, exists_eq_right, reduceCtorEq, false_and, and_false, exists_false, or_false, false_or, hv.ty]
    have k := k H (Same.refl H)
    cases d <;> exact k
def sp_is_from : Sp := fun vs H Q _ => ∃ v d n, vs = [v, .int n] ∧ Rep H d v ∧ ∀ H', Same H H' → Q (.bl (isFrom d n)) H'
theorem sc_is_from : FnScope ["found", "least"] ["found", "least"] (defScope s_is_from) := ⟨rfl, rfl, rfl, by decide +kernel, rfl, by decide +kernel, by decide +kernel⟩
theorem ok_is_from {f : Addr} {fd : FuncData} (F : Fun K "is_from" "is_from" s_is_from f fd) (T : Txt mg) (h_is_whole : Has P w K mg base "is_whole" 1 ["found"] sp_is_whole) : FnOk P w K mg base CX0 2 f fd ["found", "least"] sp_is_from := by
  refine F.ok sc_is_from (fun vs H Q E h => ?_) (fun cdv A outer s H vs Q E hr h => ?_)
  · obtain ⟨v, d, n, rfl, _⟩ := h
    rfl
  · obtain ⟨v, d, n, rfl, hv, k⟩ := h
    refine ⟨_, (pss_one (ps_ret (pe_and (pe_callS h_is_whole (hr.mono (by decide)) rfl (pa_e (pv 0) pa_nil)) (pe_one (pe_cmpR op_ge (pv 0) (pv 1) (nomark _)))))), ?_⟩
    walk_at "rd"
    refine ⟨v, d, rfl, hv, fun H' s' => ?_⟩
    have k := k H' s'
    cases d <;> simp only [tSeq, tNext, tRet, tRetN, tAsg, tIfS, tDrop, tAug, gName, gSub, tVar, tC, tCB, tCons, tNil, tCall, tOp, tUn, tTest, tB, tAnd, tOr, tNot, tAndV, tOrV, tNotV, tIf, tTup, tLst, tSl, tPart, tNoPart, tBA, tBA0, tDNewK, tChain, tYes, rI, rI0, rU, rEq, rNe, rIsA, rIsnotA, rItem, lenA, rIAddA, rAddA, rMulA, listA, tupleA, lenQ, lenS, lenD, rSetD, rAddS, iLst, iTpl, iTxt, rCat, rCatTT, rRepT, iRng1, iRng2, iDct, tTruL, tTruD, tLrev, tIf, iEnum, iRev, iZip2, iZip3, rEqD, rNeD, rEqK, rNeK, iItm, tSortK, SortAsk, rSortS, rSortD, rSortT, rDictK, rClearD, rSum, rMaxL, rMinL, tMaxd, rGetL, rGetD, tAugS, rRep, rInsert, rMax2, rCount, rIndexS, rLtT, rAppend, rPopAt, rReverse, rSetA, rSetL, L2.start, cpSt, tComp_eq, tFor_eq, iAny_eq, rStrK, rIExt, rRepD, rStrI, rIntT, rStrS, rSplit, rJoin, tKGet, iZipT,  D.ty, isi_NoneType_bool, isi_NoneType_int, isi_NoneType_str, isi_NoneType_list, isi_NoneType_tuple, isi_NoneType_dict, isi_bool_bool, isi_bool_int, isi_bool_str, isi_bool_list, isi_bool_tuple, isi_bool_dict, isi_int_bool, isi_int_int, isi_int_str, isi_int_list, isi_int_tuple, isi_int_dict, isi_str_bool, isi_str_int, isi_str_str, isi_str_list, isi_str_tuple, isi_str_dict, isi_list_bool, isi_list_int, isi_list_str, isi_list_list, isi_list_tuple, isi_list_dict, isi_tuple_bool, isi_tuple_int, isi_tuple_str, isi_tuple_list, isi_tuple_tuple, isi_tuple_dict, isi_dict_bool, isi_dict_int, isi_dict_str, isi_dict_list, isi_dict_tuple, isi_dict_dict, mem_int, mem_bool, mem_str, mem_list, mem_tuple, mem_dict, Nat.reduceAdd, Nat.reduceSub, Nat.zero_add, Nat.sub_self, List.replicate_zero, List.replicate_succ, List.getD_cons_zero, List.getD_cons_succ, ↓reduceIte, List.map_cons, List.map_nil, List.append_nil, List.nil_append, List.cons_append, List.length_cons, List.length_nil, List.set_cons_zero, List.set_cons_succ, List.set_nil, List.getElem?_cons_zero, List.getElem?_cons_succ, Option.some.injEq, exists_eq_left', exists_eq_left, V.int.injEq, V.bl.injEq, V.str.injEq, V.ref.injEq, V.ty.injEq, List.cons.injEq, and_true, true_and, and_assoc, exists_and_left, exists_eq_right, reduceCtorEq, false_and, and_false, exists_false, or_false, false_or, isWhole, Bool.false_eq_true] <;> try exact k
    rw [Rep] at hv
    exact ⟨_, hv, k⟩
def sp_is_between : Sp := fun vs H Q _ => ∃ v d n m, vs = [v, .int n, .int m] ∧ Rep H d v ∧ ∀ H', Same H H' → Q (.bl (isBetween d n m)) H'
theorem sc_is_between : FnScope ["found", "least", "most"] ["found", "least", "most"] (defScope s_is_between) := ⟨rfl, rfl, rfl, by decide +kernel, rfl, by decide +kernel, by decide +kernel⟩
theorem ok_is_between {f : Addr} {fd : FuncData} (F : Fun K "is_between" "is_between" s_is_between f fd) (T : Txt mg) (h_is_from : Has P w K mg base "is_from" 2 ["found", "least"] sp_is_from) : FnOk P w K mg base CX0 3 f fd ["found", "least", "most"] sp_is_between := by
  refine F.ok sc_is_between (fun vs H Q E h => ?_) (fun cdv A outer s H vs Q E hr h => ?_)
  · obtain ⟨v, d, n, m, rfl, _⟩ := h
    rfl
  · obtain ⟨v, d, n, m, rfl, hv, k⟩ := h
    refine ⟨_, (pss_one (ps_ret (pe_and (pe_callS h_is_from (hr.mono (by decide)) rfl (pa_e (pv 0) (pa_e (pv 1) pa_nil))) (pe_one (pe_cmpR op_le (pv 0) (pv 2) (nomark _)))))), ?_⟩
    walk_at "rd"
    refine ⟨v, d, n, rfl, hv, fun H' s' => ?_⟩
    have k := k H' s'
    walk_at "rd"
    refine ite2 (fun h => ?_) (fun h => ?_)
    · cases d <;> try exact absurd h Bool.false_ne_true
      rw [Rep] at hv
      refine ⟨_, hv, ?_⟩
      unfold isBetween at k
      rw [h, Bool.true_and] at k
      exact k
    · unfold isBetween at k
      rw [Bool.eq_false_iff.mpr h, Bool.false_and] at k
      exact k
def sp_is_tuple : Sp := fun vs H Q _ => ∃ v d n m, vs = [v, .int n, .int m] ∧ Rep H d v ∧ ∀ H', Same H H' → Q (.bl (isTuple d n m)) H'
theorem sc_is_tuple : FnScope ["found", "least", "most"] ["found", "least", "most"] (defScope s_is_tuple) := ⟨rfl, rfl, rfl, by decide +kernel, rfl, by decide +kernel, by decide +kernel⟩
theorem ok_is_tuple {f : Addr} {fd : FuncData} (F : Fun K "is_tuple" "is_tuple" s_is_tuple f fd) (T : Txt mg) : FnOk P w K mg base CX0 1 f fd ["found", "least", "most"] sp_is_tuple := by
  refine F.ok sc_is_tuple (fun vs H Q E h => ?_) (fun cdv A outer s H vs Q E hr h => ?_)
  · obtain ⟨v, d, n, m, rfl, _⟩ := h
    rfl
  · obtain ⟨v, d, n, m, rfl, hv, k⟩ := h
    refine ⟨_, (pss_one (ps_ret (pe_and (pe_callBS call_isinst rfl T.n_isinstance bt_isinstance (pa_e (pv 0) (pa_e (pe_bltn (v := .ty "tuple") rfl T.n_tuple bt_tuple rfl) pa_nil))) (pe_one (pe_chain op_le op_le (pv 1) (pe_callBS call_lenA rfl T.n_len bt_len (pa_e (pv 0) pa_nil)) (pv 2)))))), ?_⟩
    simp only [tSeq, tNext, tRet, tRetN, tAsg, tIfS, tDrop, tAug, gName, gSub, tVar, tC, tCB, tCons, tNil, tCall, tOp, tUn, tTest, tB, tAnd, tOr, tNot, tAndV, tOrV, tNotV, tIf, tTup, tLst, tSl, tPart, tNoPart, tBA, tBA0, tDNewK, tChain, tYes, rI, rI0, rU, rEq, rNe, rIsA, rIsnotA, rItem, lenA, rIAddA, rAddA, rMulA, listA, tupleA, lenQ, lenS, lenD, rSetD, rAddS, iLst, iTpl, iTxt, rCat, rCatTT, rRepT, iRng1, iRng2, iDct, tTruL, tTruD, tLrev, tIf, iEnum, iRev, iZip2, iZip3, rEqD, rNeD, rEqK, rNeK, iItm, tSortK, SortAsk, rSortS, rSortD, rSortT, rDictK, rClearD, rSum, rMaxL, rMinL, tMaxd, rGetL, rGetD, tAugS, rRep, rInsert, rMax2, rCount, rIndexS, rLtT, rAppend, rPopAt, rReverse, rSetA, rSetL, L2.start, cpSt, tComp_eq, tFor_eq, iAny_eq, rStrK, rIExt, rRepD, rStrI, rIntT, rStrS, rSplit, rJoin, tKGet, iZipT,  D.ty, isi_NoneType_bool, isi_NoneType_int, isi_NoneType_str, isi_NoneType_list, isi_NoneType_tuple, isi_NoneType_dict, isi_bool_bool, isi_bool_int, isi_bool_str, isi_bool_list, isi_bool_tuple, isi_bool_dict, isi_int_bool, isi_int_int, isi_int_str, isi_int_list, isi_int_tuple, isi_int_dict, isi_str_bool, isi_str_int, isi_str_str, isi_str_list, isi_str_tuple, isi_str_dict, isi_list_bool, isi_list_int, isi_list_str, isi_list_list, isi_list_tuple, isi_list_dict, isi_tuple_bool, isi_tuple_int, isi_tuple_str, isi_tuple_list, isi_tuple_tuple, isi_tuple_dict, isi_dict_bool, isi_dict_int, isi_dict_str, isi_dict_list, isi_dict_tuple, isi_dict_dict, mem_int, mem_bool, mem_str, mem_list, mem_tuple, mem_dict, Nat.reduceAdd, Nat.reduceSub, Nat.zero_add, Nat.sub_self, List.replicate_zero, List.replicate_succ, List.getD_cons_zero, List.getD_cons_succ, ↓reduceIte, List.map_cons, List.map_nil, List.append_nil, List.nil_append, List.cons_append, List.length_cons, List.length_nil, List.set_cons_zero, List.set_cons_succ, List.set_nil, List.getElem?_cons_zero, List.getElem?_cons_succ, Option.some.injEq, exists_eq_left', exists_eq_left, V.int.injEq, V.bl.injEq, V.str.injEq, V.ref.injEq, V.ty.injEq, List.cons.injEq, and_true, true_and, and_assoc, exists_and_left, exists_eq_right, reduceCtorEq, false_and, and_false, exists_false, or_false, false_or, hv.ty]
    have k := k H (Same.refl H)
    cases d with
    | tup ds =>
      rw [Rep] at hv
      obtain ⟨a, xs, rfl, ha, hz, r⟩ := hv
      walk_at "rd"
      refine .inl ⟨xs, .inr ha, ?_⟩
      rw [r.length]
      have k : Q (V.bl (decide (n ≤ ds.length) && decide ((ds.length : Int) ≤ m))) H := k
      refine ite2 (fun h => ?_) (fun h => ?_)
      · rw [h, Bool.true_and] at k
        exact k
      · rw [Bool.eq_false_iff.mpr h, Bool.false_and] at k
        exact k
    | _ => exact k
def sp_is_name : Sp := fun vs H Q _ => ∃ v d, vs = [v] ∧ Rep H d v ∧ ∀ H', Same H H' → Q (.bl (isName d)) H'
theorem sc_is_name : FnScope ["found"] ["found"] (defScope s_is_name) := ⟨rfl, rfl, rfl, by decide +kernel, rfl, by decide +kernel, by decide +kernel⟩
theorem ok_is_name {f : Addr} {fd : FuncData} (F : Fun K "is_name" "is_name" s_is_name f fd) (T : Txt mg) : FnOk P w K mg base CX0 1 f fd ["found"] sp_is_name := by
  refine F.ok sc_is_name (fun vs H Q E h => ?_) (fun cdv A outer s H vs Q E hr h => ?_)
  · obtain ⟨v, d, rfl, _⟩ := h
    rfl
  · obtain ⟨v, d, rfl, hv, k⟩ := h
    have hu := hu_of hr
    refine ⟨_, (pss_cons (ps_if (PW.pt (pw_or (pt_not (pt_val (pe_callBS call_isinst rfl T.n_isinstance bt_isinstance (pa_e (pv 0) (pa_e (pe_bltn (v := .ty "str") rfl T.n_str bt_str rfl) pa_nil))))) (pw_or1 (pt_not (pt_chain op_le op_le pe_int (pe_callBS call_lenA rfl T.n_len bt_len (pa_e (pv 0) pa_nil)) (pe_globI rfl T.g_MOST_LETTERS)))))) (pss_one (ps_ret pe_bl)) pss_nil)
 (pss_one (ps_ret (pe_callBS (call_all rfl) rfl T.n_all bt_all (pa_e (pe_comp (own := ["sign"]) (cap := []) rfl (cp_ok rfl) (gown_name (by decide)) (pi_any (pv 0))
 (fun _ _ _ _ _ _ => ⟨(pg_name (i := 0) (of_decide_eq_true rfl) rfl (Or.inl rfl) (.inr rfl)), pts_nil, (pe_cmpR (op_inA hu) (pv 0) (pe_globS rfl T.g_LETTERS) rfl)⟩)) pa_nil))))), ?_⟩
    simp only [tSeq, tNext, tRet, tRetN, tAsg, tIfS, tDrop, tAug, gName, gSub, tVar, tC, tCB, tCons, tNil, tCall, tOp, tUn, tTest, tB, tAnd, tOr, tNot, tAndV, tOrV, tNotV, tIf, tTup, tLst, tSl, tPart, tNoPart, tBA, tBA0, tDNewK, tChain, tYes, rI, rI0, rU, rEq, rNe, rIsA, rIsnotA, rItem, lenA, rIAddA, rAddA, rMulA, listA, tupleA, lenQ, lenS, lenD, rSetD, rAddS, iLst, iTpl, iTxt, rCat, rCatTT, rRepT, iRng1, iRng2, iDct, tTruL, tTruD, tLrev, tIf, iEnum, iRev, iZip2, iZip3, rEqD, rNeD, rEqK, rNeK, iItm, tSortK, SortAsk, rSortS, rSortD, rSortT, rDictK, rClearD, rSum, rMaxL, rMinL, tMaxd, rGetL, rGetD, tAugS, rRep, rInsert, rMax2, rCount, rIndexS, rLtT, rAppend, rPopAt, rReverse, rSetA, rSetL, L2.start, cpSt, tComp_eq, tFor_eq, iAny_eq, rStrK, rIExt, rRepD, rStrI, rIntT, rStrS, rSplit, rJoin, tKGet, iZipT,  D.ty, isi_NoneType_bool, isi_NoneType_int, isi_NoneType_str, isi_NoneType_list, isi_NoneType_tuple, isi_NoneType_dict, isi_bool_bool, isi_bool_int, isi_bool_str, isi_bool_list, isi_bool_tuple, isi_bool_dict, isi_int_bool, isi_int_int, isi_int_str, isi_int_list, isi_int_tuple, isi_int_dict, isi_str_bool, isi_str_int, isi_str_str, isi_str_list, isi_str_tuple, isi_str_dict, isi_list_bool, isi_list_int, isi_list_str, isi_list_list, isi_list_tuple, isi_list_dict, isi_tuple_bool, isi_tuple_int, isi_tuple_str, isi_tuple_list, isi_tuple_tuple, isi_tuple_dict, isi_dict_bool, isi_dict_int, isi_dict_str, isi_dict_list, isi_dict_tuple, isi_dict_dict, mem_int, mem_bool, mem_str, mem_list, mem_tuple, mem_dict, Nat.reduceAdd, Nat.reduceSub, Nat.zero_add, Nat.sub_self, List.replicate_zero, List.replicate_succ, List.getD_cons_zero, List.getD_cons_succ, ↓reduceIte, List.map_cons, List.map_nil, List.append_nil, List.nil_append, List.cons_append, List.length_cons, List.length_nil, List.set_cons_zero, List.set_cons_succ, List.set_nil, List.getElem?_cons_zero, List.getElem?_cons_succ, Option.some.injEq, exists_eq_left', exists_eq_left, V.int.injEq, V.bl.injEq, V.str.injEq, V.ref.injEq, V.ty.injEq, List.cons.injEq, and_true, true_and, and_assoc, exists_and_left, exists_eq_right, reduceCtorEq, false_and, and_false, exists_false, or_false, false_or, hv.ty]
    cases d with
    | str x =>
      rw [Rep] at hv
      obtain ⟨rfl, hx⟩ := hv
      simp only [tSeq, tNext, tRet, tRetN, tAsg, tIfS, tDrop, tAug, gName, gSub, tVar, tC, tCB, tCons, tNil, tCall, tOp, tUn, tTest, tB, tAnd, tOr, tNot, tAndV, tOrV, tNotV, tIf, tTup, tLst, tSl, tPart, tNoPart, tBA, tBA0, tDNewK, tChain, tYes, rI, rI0, rU, rEq, rNe, rIsA, rIsnotA, rItem, lenA, rIAddA, rAddA, rMulA, listA, tupleA, lenQ, lenS, lenD, rSetD, rAddS, iLst, iTpl, iTxt, rCat, rCatTT, rRepT, iRng1, iRng2, iDct, tTruL, tTruD, tLrev, tIf, iEnum, iRev, iZip2, iZip3, rEqD, rNeD, rEqK, rNeK, iItm, tSortK, SortAsk, rSortS, rSortD, rSortT, rDictK, rClearD, rSum, rMaxL, rMinL, tMaxd, rGetL, rGetD, tAugS, rRep, rInsert, rMax2, rCount, rIndexS, rLtT, rAppend, rPopAt, rReverse, rSetA, rSetL, L2.start, cpSt, tComp_eq, tFor_eq, iAny_eq, rStrK, rIExt, rRepD, rStrI, rIntT, rStrS, rSplit, rJoin, tKGet, iZipT,  D.ty, isi_NoneType_bool, isi_NoneType_int, isi_NoneType_str, isi_NoneType_list, isi_NoneType_tuple, isi_NoneType_dict, isi_bool_bool, isi_bool_int, isi_bool_str, isi_bool_list, isi_bool_tuple, isi_bool_dict, isi_int_bool, isi_int_int, isi_int_str, isi_int_list, isi_int_tuple, isi_int_dict, isi_str_bool, isi_str_int, isi_str_str, isi_str_list, isi_str_tuple, isi_str_dict, isi_list_bool, isi_list_int, isi_list_str, isi_list_list, isi_list_tuple, isi_list_dict, isi_tuple_bool, isi_tuple_int, isi_tuple_str, isi_tuple_list, isi_tuple_tuple, isi_tuple_dict, isi_dict_bool, isi_dict_int, isi_dict_str, isi_dict_list, isi_dict_tuple, isi_dict_dict, mem_int, mem_bool, mem_str, mem_list, mem_tuple, mem_dict, Nat.reduceAdd, Nat.reduceSub, Nat.zero_add, Nat.sub_self, List.replicate_zero, List.replicate_succ, List.getD_cons_zero, List.getD_cons_succ, ↓reduceIte, List.map_cons, List.map_nil, List.append_nil, List.nil_append, List.cons_append, List.length_cons, List.length_nil, List.set_cons_zero, List.set_cons_succ, List.set_nil, List.getElem?_cons_zero, List.getElem?_cons_succ, Option.some.injEq, exists_eq_left', exists_eq_left, V.int.injEq, V.bl.injEq, V.str.injEq, V.ref.injEq, V.ty.injEq, List.cons.injEq, and_true, true_and, and_assoc, exists_and_left, exists_eq_right, reduceCtorEq, false_and, and_false, exists_false, or_false, false_or, Bool.not_true, Bool.false_eq_true, V.str.injEq]
      refine ⟨line1000 hx, ite2 (fun h1 => ite2 (fun h2 => ?_) (fun h2 => ?_)) (fun h1 => ?_)⟩
      · have e : isName (.str x) = false := by
          show isNameS x = false
          unfold isNameS
          have : ¬ (x.length ≤ 8) := by
            simp at h2
            omega
          simp [this]
        have k := k H (Same.refl H)
        rw [e] at k
        exact k
      · have e1 : decide (1 ≤ x.length) = true := decide_eq_true (by have := of_decide_eq_true h1; omega)
        have e2 : decide (x.length ≤ 8) = true := decide_eq_true (by simp at h2; omega)
        refine comp_map (goesS x) (line1000 hx) (fun _ _ => trivial) ((x.cps.toList.map fun c => decide (c ∈ letters)).map V.bl) (by simp) (fun i y H' hi hy s' N M hN => ?_) (fun H' s' p hp => ?_)
        · obtain ⟨c, hc, rfl⟩ := hy
          walk_at "rd"
          refine ⟨_, .inr (.inl ⟨_, _, rfl, rfl, rfl⟩), ?_⟩
          rw [StrLaws.found_one]
          refine hN _ _ s' ?_
          rw [List.getElem?_map, List.getElem?_map, Array.getElem?_toList, hc]
          rfl
        · refine ⟨p, rfl, _, upd_same, ?_⟩
          have k := k _ (s'.trans (same_upd (o := .lst ((x.cps.toList.map fun c => decide (c ∈ letters)).map V.bl)) hp))
          have e : isName (.str x) = (List.map (fun c => decide (c ∈ letters)) x.cps.toList).all id := by
            show isNameS x = _
            unfold isNameS
            rw [e1, e2, List.all_map]
            rfl
          rw [e] at k
          exact k
      · rw [if_pos (by rfl)]
        have e : isName (.str x) = false := by
          show isNameS x = false
          unfold isNameS
          have : ¬ (1 ≤ x.length) := by
            simp at h1
            omega
          simp [this]
        have k := k H (Same.refl H)
        rw [e] at k
        exact k
    | _ => exact k H (Same.refl H)
def sp_are_unlike : Sp := fun vs H Q _ => ∃ a xs, vs = [.ref a] ∧ H a = some (.lst (xs.map V.str)) ∧ xs.length ≤ 1000 ∧ ∀ H', Same H H' → Q (.bl (unl xs)) H'
theorem sc_are_unlike : FnScope ["names"] ["names"] (defScope s_are_unlike) := ⟨rfl, rfl, rfl, by decide +kernel, rfl, by decide +kernel, by decide +kernel⟩
theorem ok_are_unlike {f : Addr} {fd : FuncData} (F : Fun K "are_unlike" "are_unlike" s_are_unlike f fd) (T : Txt mg) : FnOk P w K mg base CX0 1 f fd ["names"] sp_are_unlike := by
  refine F.ok sc_are_unlike (fun vs H Q E h => ?_) (fun cdv A outer s H vs Q E hr h => ?_)
  · obtain ⟨a, xs, rfl, _⟩ := h
    rfl
  · obtain ⟨a, xs, rfl, ha, hx, k⟩ := h
    have hu := hu_of hr
    refine ⟨_, (pss_one (ps_ret (pe_callBS (call_all rfl) rfl T.n_all bt_all (pa_e (pe_comp (own := ["name"]) (cap := [0]) rfl (cp_ok rfl) (gown_name (by decide)) (pi_lst (pv 0))
 (fun _ _ _ _ _ _ => ⟨(pg_name (i := 0) (of_decide_eq_true rfl) rfl (Or.inl rfl) (.inr rfl)), pts_nil, (pe_cmpR (op_eqA hu) (pe_bs PySem.F.plainAttrs_list PySem.F.slot_list_count PySem.F.type_list_count mt_count (pv 1) (pa_e (pv 0) pa_nil)) pe_int (nomark _))⟩)) pa_nil)))), ?_⟩
    walk_at "rd"
    refine ⟨_, ha, ?_⟩
    refine comp_map (goesL a _) (by rw [List.length_map]; exact line1000 hx) (fun H' s' => s' _ _ ha) ((xs.map fun x => decide (xs.countP (fun y => decide (y = x)) = 1)).map V.bl) (by simp) (fun i y H' hi hy s' N M hN => ?_) (fun H' s' p hp => ?_)
    · rw [List.getElem?_map] at hy
      cases e : xs[i]? with
      | none => rw [e] at hy; cases hy
      | some z =>
        rw [e] at hy
        cases hy
        walk_at "rd"
        have ha' := s' _ _ ha
        refine ⟨by unfold tyOf; simp only [ha'], _, ha', rfl, by simp [flatV], rfl, hN _ _ s' ?_⟩
        rw [List.getElem?_map, List.getElem?_map, e]
        show some (V.bl _) = some (V.bl _)
        congr 2
        rw [List.countP_map]
        show decide (List.countP (fun y => decide (y = z)) xs = 1) = decide (((List.countP ((fun w => eqV w (V.str z)) ∘ V.str) xs : Nat) : Int) = 1)
        have e2 : ((fun w => eqV w (V.str z)) ∘ V.str) = fun y => decide (y = z) := by
          funext y
          show (y == z) = decide (y = z)
          rw [Bool.beq_eq_decide_eq]
        rw [e2]
        rw [Bool.eq_iff_iff]
        simp
        omega
    · refine ⟨p, rfl, _, upd_same, ?_⟩
      have k := k _ (s'.trans (same_upd (o := .lst ((xs.map fun x => decide (xs.countP (fun y => decide (y = x)) = 1)).map V.bl)) hp))
      unfold unl at k
      rw [List.all_map]
      exact k
theorem rep_two {H : Hp} {ds : List D} {v : V} (h : Rep H (.tup ds) v) : ∃ a xs, v = .ref a ∧ H a = some (.tup xs) ∧ xs.length = ds.length ∧ ds.length ≤ 1000 ∧ ∀ (i : Nat) (d : D), ds[i]? = some d → ∃ x, xs[i]? = some x ∧ Rep H d x := by
  rw [Rep] at h
  obtain ⟨a, xs, e, ha, hz, r⟩ := h
  exact ⟨a, xs, e, ha, r.length, hz, fun i d e => r.get' e⟩
def sp_is_arrival : Sp := fun vs H Q _ => ∃ v d, vs = [v] ∧ Rep H d v ∧ ∀ H', Same H H' → Q (.bl (isArrival d)) H'
theorem isTuple_two {d : D} (h : isTuple d 2 2 = true) : ∃ a b, d = .tup [a, b] := by
  cases d with
  | tup ds =>
    have h : (decide ((2 : Int) ≤ ds.length) && decide ((ds.length : Int) ≤ 2)) = true := h
    rw [Bool.and_eq_true] at h
    have h1 := of_decide_eq_true h.1
    have h2 := of_decide_eq_true h.2
    match ds, h1, h2 with
    | [a, b], _, _ => exact ⟨a, b, rfl⟩
    | [], h1, _ => simp at h1
    | [_], h1, _ => simp at h1
    | _ :: _ :: _ :: r, _, h2 => simp at h2; omega
  | _ => cases h
theorem not_two {d : D} (h : ¬ isTuple d 2 2 = true) : ∀ a b, d ≠ .tup [a, b] := fun a b e => h (by rw [e]; rfl)
theorem sc_is_arrival : FnScope ["found"] ["found"] (defScope s_is_arrival) := ⟨rfl, rfl, rfl, by decide +kernel, rfl, by decide +kernel, by decide +kernel⟩
theorem ok_is_arrival {f : Addr} {fd : FuncData} (F : Fun K "is_arrival" "is_arrival" s_is_arrival f fd) (T : Txt mg) (h_is_from : Has P w K mg base "is_from" 2 ["found", "least"] sp_is_from) (h_is_between : Has P w K mg base "is_between" 3 ["found", "least", "most"] sp_is_between) (h_is_tuple : Has P w K mg base "is_tuple" 1 ["found", "least", "most"] sp_is_tuple) : FnOk P w K mg base CX0 4 f fd ["found"] sp_is_arrival := by
  refine F.ok sc_is_arrival (fun vs H Q E h => ?_) (fun cdv A outer s H vs Q E hr h => ?_)
  · obtain ⟨v, d, rfl, _⟩ := h
    rfl
  · obtain ⟨v, d, rfl, hv, k⟩ := h
    have hu := hu_of hr
    refine ⟨_, (pss_one (ps_ret (pe_and (pe_callS h_is_tuple (hr.mono (by decide)) rfl (pa_e (pv 0) (pa_e pe_int (pa_e pe_int pa_nil)))) (pe_and (pe_callS h_is_between (hr.mono (by decide)) rfl (pa_e (pe_item hu (pv 0) pe_int (fun _ _ => rfl)) (pa_e pe_int (pa_e (pe_globI rfl T.g_LAST_DAY) pa_nil)))) (pe_one (pe_callS h_is_from (hr.mono (by decide)) rfl (pa_e (pe_item hu (pv 0) pe_int (fun _ _ => rfl)) (pa_e pe_int pa_nil)))))))), ?_⟩
    walk_at "rd"
    refine ⟨v, d, 2, 2, rfl, hv, fun H1 s1 => ?_⟩
    walk_at "rd"
    refine ite2 (fun h => ?_) (fun h => ?_)
    · obtain ⟨x, y, rfl⟩ := isTuple_two h
      obtain ⟨a, xs, rfl, ha, hl, hz, g⟩ := rep_two hv
      obtain ⟨vx, ex, rx⟩ := g 0 x rfl
      obtain ⟨vy, ey, ry⟩ := g 1 y rfl
      refine ⟨vx, item_t (j := 0) (s1 _ _ ha) ex, vx, x, 0, 400, rfl, rx.same s1, fun H2 s2 => ?_⟩
      walk_at "rd"
      refine ite2 (fun h2 => ?_) (fun h2 => ?_)
      · refine ⟨vy, item_t (j := 1) (s2 _ _ (s1 _ _ ha)) ey, vy, y, 0, rfl, ry.same (s1.trans s2), fun H3 s3 => ?_⟩
        have k := k H3 ((s1.trans s2).trans s3)
        have e : isArrival (.tup [x, y]) = isFrom y 0 := by
          show (isBetween x 0 400 && isFrom y 0) = _
          rw [h2, Bool.true_and]
        rw [e] at k
        exact k
      · have k := k H2 (s1.trans s2)
        have e : isArrival (.tup [x, y]) = false := by
          show (isBetween x 0 400 && isFrom y 0) = _
          rw [Bool.eq_false_iff.mpr h2, Bool.false_and]
        rw [e] at k
        exact k
    · have k := k H1 s1
      have e : isArrival d = false := by
        unfold isArrival
        split
        · exact absurd rfl (not_two h _ _)
        · rfl
      rw [e] at k
      exact k
theorem all_items {H : Hp} {ds : List D} {xs : List V} {a : Addr} {p : D → Bool} {te : TE} {own : List Str} {cap : List Nat} {σ : St} {Q : VK} (ha : H a = some (.tup xs)) (r : Reps H ds xs) (hz : ds.length ≤ 1000)
    (hs : ∀ x d H', Rep H' d x → Same H H' → ∀ N : V → Hp → Prop, (∀ H4, Same H' H4 → N (.bl (p d)) H4) → te ((cpSt own cap σ).set 0 (some x)) H' N)
    (hd : ∀ a' H', Same H H' → H' a' = some (.lst ((ds.map p).map V.bl)) → Q (.ref a') H') : CompW (ItT a xs) own cap (gName 0) tYes te σ H Q := by
  refine comp_map (goesT a xs) (by rw [r.length]; exact line1000 hz) (fun H' s' => s' _ _ ha) ((ds.map p).map V.bl) (by simp [r.length]) (fun i y H' hi hy s' N M hN => ?_) (fun H' s' q hq => ?_)
  · obtain ⟨d, hd, rd⟩ := r.get hy
    show if true = true then te _ H' N else M H'
    rw [if_pos rfl]
    refine hs y d H' (rd.same s') s' N fun H4 s4 => hN _ _ (s'.trans s4) ?_
    rw [List.getElem?_map, List.getElem?_map, hd]
    rfl
  · exact hd q _ (s'.trans (same_upd hq)) upd_same
theorem isTuple_some {d : D} {n m : Int} (h : isTuple d n m = true) : ∃ ds, d = .tup ds ∧ n ≤ ds.length ∧ (ds.length : Int) ≤ m := by
  cases d with
  | tup ds =>
    have h : (decide (n ≤ ds.length) && decide ((ds.length : Int) ≤ m)) = true := h
    rw [Bool.and_eq_true] at h
    exact ⟨ds, rfl, of_decide_eq_true h.1, of_decide_eq_true h.2⟩
  | _ => cases h
def sp_are_arrivals : Sp := fun vs H Q _ => ∃ v d, vs = [v] ∧ Rep H d v ∧ ∀ H', Same H H' → Q (.bl (areArrivals d)) H'
theorem sc_are_arrivals : FnScope ["found"] ["found"] (defScope s_are_arrivals) := ⟨rfl, rfl, rfl, by decide +kernel, rfl, by decide +kernel, by decide +kernel⟩
theorem ok_are_arrivals {f : Addr} {fd : FuncData} (F : Fun K "are_arrivals" "are_arrivals" s_are_arrivals f fd) (T : Txt mg) (h_is_arrival : Has P w K mg base "is_arrival" 4 ["found"] sp_is_arrival) (h_is_tuple : Has P w K mg base "is_tuple" 1 ["found", "least", "most"] sp_is_tuple) : FnOk P w K mg base CX0 5 f fd ["found"] sp_are_arrivals := by
  refine F.ok sc_are_arrivals (fun vs H Q E h => ?_) (fun cdv A outer s H vs Q E hr h => ?_)
  · obtain ⟨v, d, rfl, _⟩ := h
    rfl
  · obtain ⟨v, d, rfl, hv, k⟩ := h
    have hu := hu_of hr
    refine ⟨_, (pss_one (ps_ret (pe_and (pe_callS h_is_tuple (hr.mono (by decide)) rfl (pa_e (pv 0) (pa_e pe_int (pa_e (pe_globI rfl T.g_MOST_COMING) pa_nil)))) (pe_one (pe_callBS (call_all rfl) rfl T.n_all bt_all (pa_e (pe_comp (own := ["arrival"]) (cap := []) rfl (cp_ok rfl) (gown_name (by decide)) (pi_any (pv 0))
 (fun _ _ _ _ _ _ => ⟨(pg_name (i := 0) (of_decide_eq_true rfl) rfl (Or.inl rfl) (.inr rfl)), pts_nil, (pe_callS h_is_arrival (hr.mono (by decide)) rfl (pa_e (pv 0) pa_nil))⟩)) pa_nil)))))), ?_⟩
    walk_at "rd"
    refine ⟨v, d, 0, 12, rfl, hv, fun H1 s1 => ?_⟩
    walk_at "rd"
    refine ite2 (fun h => ?_) (fun h => ?_)
    · obtain ⟨ds, rfl, _, hn⟩ := isTuple_some h
      have hv1 := hv.same s1
      rw [Rep] at hv1
      obtain ⟨a, xs, rfl, ha, hz, r⟩ := hv1
      walk_at "rd"
      refine .inr ⟨xs, ha, ?_⟩
      refine all_items (p := isArrival) ha r hz (fun x d H' rd s' N hN => ?_) (fun a' H' s' ha' => ?_)
      · walk_at "rd"
        exact ⟨x, d, rfl, rd, hN⟩
      · refine ⟨a', rfl, _, ha', ?_⟩
        have k := k H' (s1.trans s')
        have e : areArrivals (.tup ds) = (ds.map isArrival).all id := by
          show (decide (ds.length ≤ 12) && ds.all isArrival) = _
          rw [decide_eq_true (by omega), Bool.true_and, List.all_map]
          rfl
        rw [e] at k
        exact k
    · have k := k H1 s1
      have e : areArrivals d = false := by
        cases d with
        | tup ds =>
          show (decide (ds.length ≤ 12) && ds.all isArrival) = false
          have : ¬ ds.length ≤ 12 := fun z => h (by show (decide ((0 : Int) ≤ ds.length) && decide ((ds.length : Int) ≤ 12)) = true; simp; omega)
          rw [decide_eq_false this, Bool.false_and]
        | _ => rfl
      rw [e] at k
      exact k
def sp_is_part : Sp := fun vs H Q _ => ∃ v d, vs = [v] ∧ Rep H d v ∧ ∀ H', Same H H' → Q (.bl (isPart d)) H'
theorem sc_is_part : FnScope ["found"] ["found"] (defScope s_is_part) := ⟨rfl, rfl, rfl, by decide +kernel, rfl, by decide +kernel, by decide +kernel⟩
theorem ok_is_part {f : Addr} {fd : FuncData} (F : Fun K "is_part" "is_part" s_is_part f fd) (T : Txt mg) (h_is_from : Has P w K mg base "is_from" 2 ["found", "least"] sp_is_from) (h_is_name : Has P w K mg base "is_name" 1 ["found"] sp_is_name) (h_is_tuple : Has P w K mg base "is_tuple" 1 ["found", "least", "most"] sp_is_tuple) : FnOk P w K mg base CX0 3 f fd ["found"] sp_is_part := by
  refine F.ok sc_is_part (fun vs H Q E h => ?_) (fun cdv A outer s H vs Q E hr h => ?_)
  · obtain ⟨v, d, rfl, _⟩ := h
    rfl
  · obtain ⟨v, d, rfl, hv, k⟩ := h
    have hu := hu_of hr
    refine ⟨_, (pss_one (ps_ret (pe_and (pe_callS h_is_tuple (hr.mono (by decide)) rfl (pa_e (pv 0) (pa_e pe_int (pa_e pe_int pa_nil)))) (pe_and (pe_callS h_is_name (hr.mono (by decide)) rfl (pa_e (pe_item hu (pv 0) pe_int (fun _ _ => rfl)) pa_nil)) (pe_one (pe_callS h_is_from (hr.mono (by decide)) rfl (pa_e (pe_item hu (pv 0) pe_int (fun _ _ => rfl)) (pa_e pe_int pa_nil)))))))), ?_⟩
    walk_at "rd"
    refine ⟨v, d, 2, 2, rfl, hv, fun H1 s1 => ?_⟩
    walk_at "rd"
    refine ite2 (fun h => ?_) (fun h => ?_)
    · obtain ⟨x, y, rfl⟩ := isTuple_two h
      obtain ⟨a, xs, rfl, ha, hl, hz, g⟩ := rep_two hv
      obtain ⟨vx, ex, rx⟩ := g 0 x rfl
      obtain ⟨vy, ey, ry⟩ := g 1 y rfl
      refine ⟨vx, item_t (j := 0) (s1 _ _ ha) ex, vx, x, rfl, rx.same s1, fun H2 s2 => ?_⟩
      walk_at "rd"
      refine ite2 (fun h2 => ?_) (fun h2 => ?_)
      · refine ⟨vy, item_t (j := 1) (s2 _ _ (s1 _ _ ha)) ey, vy, y, 1, rfl, ry.same (s1.trans s2), fun H3 s3 => ?_⟩
        have k := k H3 ((s1.trans s2).trans s3)
        have e : isPart (.tup [x, y]) = isFrom y 1 := by
          show (isName x && isFrom y 1) = _
          rw [h2, Bool.true_and]
        rw [e] at k
        exact k
      · have k := k H2 (s1.trans s2)
        have e : isPart (.tup [x, y]) = false := by
          show (isName x && isFrom y 1) = _
          rw [Bool.eq_false_iff.mpr h2, Bool.false_and]
        rw [e] at k
        exact k
    · have k := k H1 s1
      have e : isPart d = false := by
        unfold isPart
        split
        · exact absurd rfl (not_two h _ _)
        · rfl
      rw [e] at k
      exact k
theorem isPart_name {d : D} (h : isPart d = true) : ∃ x b, d = .tup [.str x, b] := by
  unfold isPart at h
  split at h
  · rename_i a b
    rw [Bool.and_eq_true] at h
    cases a with
    | str x => exact ⟨x, b, rfl⟩
    | _ => exact absurd h.1 Bool.false_ne_true
  · cases h
def sp_are_parts : Sp := fun vs H Q _ => ∃ v d, vs = [v] ∧ Rep H d v ∧ ∀ H', Same H H' → Q (.bl (areParts d)) H'
theorem sc_are_parts : FnScope ["found"] ["found"] (defScope s_are_parts) := ⟨rfl, rfl, rfl, by decide +kernel, rfl, by decide +kernel, by decide +kernel⟩
theorem ok_are_parts {f : Addr} {fd : FuncData} (F : Fun K "are_parts" "are_parts" s_are_parts f fd) (T : Txt mg) (h_is_part : Has P w K mg base "is_part" 3 ["found"] sp_is_part) (h_is_tuple : Has P w K mg base "is_tuple" 1 ["found", "least", "most"] sp_is_tuple) (h_are_unlike : Has P w K mg base "are_unlike" 1 ["names"] sp_are_unlike) : FnOk P w K mg base CX0 4 f fd ["found"] sp_are_parts := by
  refine F.ok sc_are_parts (fun vs H Q E h => ?_) (fun cdv A outer s H vs Q E hr h => ?_)
  · obtain ⟨v, d, rfl, _⟩ := h
    rfl
  · obtain ⟨v, d, rfl, hv, k⟩ := h
    have hu := hu_of hr
    refine ⟨_, (pss_cons (ps_if (PW.pt (pw_or (pt_not (pt_val (pe_callS h_is_tuple (hr.mono (by decide)) rfl (pa_e (pv 0) (pa_e pe_int (pa_e (pe_globI rfl T.g_MOST_PARTS) pa_nil)))))) (pw_or1 (pt_not (pt_val (pe_callBS (call_all rfl) rfl T.n_all bt_all (pa_e (pe_comp (own := ["part"]) (cap := []) rfl (cp_ok rfl) (gown_name (by decide)) (pi_any (pv 0))
 (fun _ _ _ _ _ _ => ⟨(pg_name (i := 0) (of_decide_eq_true rfl) rfl (Or.inl rfl) (.inr rfl)), pts_nil, (pe_callS h_is_part (hr.mono (by decide)) rfl (pa_e (pv 0) pa_nil))⟩)) pa_nil))))))) (pss_one (ps_ret pe_bl)) pss_nil)
 (pss_one (ps_ret (pe_callS h_are_unlike (hr.mono (by decide)) rfl (pa_e (pe_comp (own := ["part"]) (cap := []) rfl (cp_ok rfl) (gown_name (by decide)) (pi_any (pv 0))
 (fun _ _ _ _ _ _ => ⟨(pg_name (i := 0) (of_decide_eq_true rfl) rfl (Or.inl rfl) (.inr rfl)), pts_nil, (pe_item hu (pv 0) pe_int (fun _ _ => rfl))⟩)) pa_nil))))), ?_⟩
    walk_at "rd"
    refine ⟨v, d, 0, 6, rfl, hv, fun H1 s1 => ?_⟩
    walk_at "rd"
    cases h : isTuple d 0 6 with
    | false =>
      simp only [tSeq, tNext, tRet, tRetN, tAsg, tIfS, tDrop, tAug, gName, gSub, tVar, tC, tCB, tCons, tNil, tCall, tOp, tUn, tTest, tB, tAnd, tOr, tNot, tAndV, tOrV, tNotV, tIf, tTup, tLst, tSl, tPart, tNoPart, tBA, tBA0, tDNewK, tChain, tYes, rI, rI0, rU, rEq, rNe, rIsA, rIsnotA, rItem, lenA, rIAddA, rAddA, rMulA, listA, tupleA, lenQ, lenS, lenD, rSetD, rAddS, iLst, iTpl, iTxt, rCat, rCatTT, rRepT, iRng1, iRng2, iDct, tTruL, tTruD, tLrev, tIf, iEnum, iRev, iZip2, iZip3, rEqD, rNeD, rEqK, rNeK, iItm, tSortK, SortAsk, rSortS, rSortD, rSortT, rDictK, rClearD, rSum, rMaxL, rMinL, tMaxd, rGetL, rGetD, tAugS, rRep, rInsert, rMax2, rCount, rIndexS, rLtT, rAppend, rPopAt, rReverse, rSetA, rSetL, L2.start, cpSt, tComp_eq, tFor_eq, iAny_eq, rStrK, rIExt, rRepD, rStrI, rIntT, rStrS, rSplit, rJoin, tKGet, iZipT,  D.ty, isi_NoneType_bool, isi_NoneType_int, isi_NoneType_str, isi_NoneType_list, isi_NoneType_tuple, isi_NoneType_dict, isi_bool_bool, isi_bool_int, isi_bool_str, isi_bool_list, isi_bool_tuple, isi_bool_dict, isi_int_bool, isi_int_int, isi_int_str, isi_int_list, isi_int_tuple, isi_int_dict, isi_str_bool, isi_str_int, isi_str_str, isi_str_list, isi_str_tuple, isi_str_dict, isi_list_bool, isi_list_int, isi_list_str, isi_list_list, isi_list_tuple, isi_list_dict, isi_tuple_bool, isi_tuple_int, isi_tuple_str, isi_tuple_list, isi_tuple_tuple, isi_tuple_dict, isi_dict_bool, isi_dict_int, isi_dict_str, isi_dict_list, isi_dict_tuple, isi_dict_dict, mem_int, mem_bool, mem_str, mem_list, mem_tuple, mem_dict, Nat.reduceAdd, Nat.reduceSub, Nat.zero_add, Nat.sub_self, List.replicate_zero, List.replicate_succ, List.getD_cons_zero, List.getD_cons_succ, ↓reduceIte, List.map_cons, List.map_nil, List.append_nil, List.nil_append, List.cons_append, List.length_cons, List.length_nil, List.set_cons_zero, List.set_cons_succ, List.set_nil, List.getElem?_cons_zero, List.getElem?_cons_succ, Option.some.injEq, exists_eq_left', exists_eq_left, V.int.injEq, V.bl.injEq, V.str.injEq, V.ref.injEq, V.ty.injEq, List.cons.injEq, and_true, true_and, and_assoc, exists_and_left, exists_eq_right, reduceCtorEq, false_and, and_false, exists_false, or_false, false_or, Bool.not_false]
      have k := k H1 s1
      have e : areParts d = false := by
        cases d with
        | tup ds =>
          show (decide (ds.length ≤ 6) && ds.all isPart && unl (ds.map nameOf)) = false
          have : ¬ ds.length ≤ 6 := fun z => Bool.eq_false_iff.mp h (by show (decide ((0 : Int) ≤ ds.length) && decide ((ds.length : Int) ≤ 6)) = true; simp; omega)
          rw [decide_eq_false this, Bool.false_and, Bool.false_and]
        | _ => rfl
      rw [e] at k
      exact k
    | true =>
      simp only [tSeq, tNext, tRet, tRetN, tAsg, tIfS, tDrop, tAug, gName, gSub, tVar, tC, tCB, tCons, tNil, tCall, tOp, tUn, tTest, tB, tAnd, tOr, tNot, tAndV, tOrV, tNotV, tIf, tTup, tLst, tSl, tPart, tNoPart, tBA, tBA0, tDNewK, tChain, tYes, rI, rI0, rU, rEq, rNe, rIsA, rIsnotA, rItem, lenA, rIAddA, rAddA, rMulA, listA, tupleA, lenQ, lenS, lenD, rSetD, rAddS, iLst, iTpl, iTxt, rCat, rCatTT, rRepT, iRng1, iRng2, iDct, tTruL, tTruD, tLrev, tIf, iEnum, iRev, iZip2, iZip3, rEqD, rNeD, rEqK, rNeK, iItm, tSortK, SortAsk, rSortS, rSortD, rSortT, rDictK, rClearD, rSum, rMaxL, rMinL, tMaxd, rGetL, rGetD, tAugS, rRep, rInsert, rMax2, rCount, rIndexS, rLtT, rAppend, rPopAt, rReverse, rSetA, rSetL, L2.start, cpSt, tComp_eq, tFor_eq, iAny_eq, rStrK, rIExt, rRepD, rStrI, rIntT, rStrS, rSplit, rJoin, tKGet, iZipT,  D.ty, isi_NoneType_bool, isi_NoneType_int, isi_NoneType_str, isi_NoneType_list, isi_NoneType_tuple, isi_NoneType_dict, isi_bool_bool, isi_bool_int, isi_bool_str, isi_bool_list, isi_bool_tuple, isi_bool_dict, isi_int_bool, isi_int_int, isi_int_str, isi_int_list, isi_int_tuple, isi_int_dict, isi_str_bool, isi_str_int, isi_str_str, isi_str_list, isi_str_tuple, isi_str_dict, isi_list_bool, isi_list_int, isi_list_str, isi_list_list, isi_list_tuple, isi_list_dict, isi_tuple_bool, isi_tuple_int, isi_tuple_str, isi_tuple_list, isi_tuple_tuple, isi_tuple_dict, isi_dict_bool, isi_dict_int, isi_dict_str, isi_dict_list, isi_dict_tuple, isi_dict_dict, mem_int, mem_bool, mem_str, mem_list, mem_tuple, mem_dict, Nat.reduceAdd, Nat.reduceSub, Nat.zero_add, Nat.sub_self, List.replicate_zero, List.replicate_succ, List.getD_cons_zero, List.getD_cons_succ, ↓reduceIte, List.map_cons, List.map_nil, List.append_nil, List.nil_append, List.cons_append, List.length_cons, List.length_nil, List.set_cons_zero, List.set_cons_succ, List.set_nil, List.getElem?_cons_zero, List.getElem?_cons_succ, Option.some.injEq, exists_eq_left', exists_eq_left, V.int.injEq, V.bl.injEq, V.str.injEq, V.ref.injEq, V.ty.injEq, List.cons.injEq, and_true, true_and, and_assoc, exists_and_left, exists_eq_right, reduceCtorEq, false_and, and_false, exists_false, or_false, false_or, Bool.not_true, Bool.false_eq_true]
      obtain ⟨ds, rfl, _, hn⟩ := isTuple_some h
      have hv1 := hv.same s1
      rw [Rep] at hv1
      obtain ⟨a, xs, rfl, ha, hz, r⟩ := hv1
      walk_at "rd"
      refine .inr ⟨xs, ha, ?_⟩
      refine all_items (p := isPart) ha r hz (fun x d H' rd s' N hN => ?_) (fun a' H2 s2 ha' => ?_)
      · walk_at "rd"
        exact ⟨x, d, rfl, rd, hN⟩
      · refine ⟨a', rfl, _, ha', ?_⟩
        have e0 : (ds.map isPart).all id = ds.all isPart := by rw [List.all_map]; rfl
        rw [e0]
        have e : areParts (.tup ds) = (ds.all isPart && unl (ds.map nameOf)) := by
          show (decide (ds.length ≤ 6) && ds.all isPart && unl (ds.map nameOf)) = _
          rw [decide_eq_true (by omega), Bool.true_and]
        rw [e] at k
        cases hp : ds.all isPart with
        | false =>
          rw [hp, Bool.false_and] at k
          simp only [tSeq, tNext, tRet, tRetN, tAsg, tIfS, tDrop, tAug, gName, gSub, tVar, tC, tCB, tCons, tNil, tCall, tOp, tUn, tTest, tB, tAnd, tOr, tNot, tAndV, tOrV, tNotV, tIf, tTup, tLst, tSl, tPart, tNoPart, tBA, tBA0, tDNewK, tChain, tYes, rI, rI0, rU, rEq, rNe, rIsA, rIsnotA, rItem, lenA, rIAddA, rAddA, rMulA, listA, tupleA, lenQ, lenS, lenD, rSetD, rAddS, iLst, iTpl, iTxt, rCat, rCatTT, rRepT, iRng1, iRng2, iDct, tTruL, tTruD, tLrev, tIf, iEnum, iRev, iZip2, iZip3, rEqD, rNeD, rEqK, rNeK, iItm, tSortK, SortAsk, rSortS, rSortD, rSortT, rDictK, rClearD, rSum, rMaxL, rMinL, tMaxd, rGetL, rGetD, tAugS, rRep, rInsert, rMax2, rCount, rIndexS, rLtT, rAppend, rPopAt, rReverse, rSetA, rSetL, L2.start, cpSt, tComp_eq, tFor_eq, iAny_eq, rStrK, rIExt, rRepD, rStrI, rIntT, rStrS, rSplit, rJoin, tKGet, iZipT,  D.ty, isi_NoneType_bool, isi_NoneType_int, isi_NoneType_str, isi_NoneType_list, isi_NoneType_tuple, isi_NoneType_dict, isi_bool_bool, isi_bool_int, isi_bool_str, isi_bool_list, isi_bool_tuple, isi_bool_dict, isi_int_bool, isi_int_int, isi_int_str, isi_int_list, isi_int_tuple, isi_int_dict, isi_str_bool, isi_str_int, isi_str_str, isi_str_list, isi_str_tuple, isi_str_dict, isi_list_bool, isi_list_int, isi_list_str, isi_list_list, isi_list_tuple, isi_list_dict, isi_tuple_bool, isi_tuple_int, isi_tuple_str, isi_tuple_list, isi_tuple_tuple, isi_tuple_dict, isi_dict_bool, isi_dict_int, isi_dict_str, isi_dict_list, isi_dict_tuple, isi_dict_dict, mem_int, mem_bool, mem_str, mem_list, mem_tuple, mem_dict, Nat.reduceAdd, Nat.reduceSub, Nat.zero_add, Nat.sub_self, List.replicate_zero, List.replicate_succ, List.getD_cons_zero, List.getD_cons_succ, ↓reduceIte, List.map_cons, List.map_nil, List.append_nil, List.nil_append, List.cons_append, List.length_cons, List.length_nil, List.set_cons_zero, List.set_cons_succ, List.set_nil, List.getElem?_cons_zero, List.getElem?_cons_succ, Option.some.injEq, exists_eq_left', exists_eq_left, V.int.injEq, V.bl.injEq, V.str.injEq, V.ref.injEq, V.ty.injEq, List.cons.injEq, and_true, true_and, and_assoc, exists_and_left, exists_eq_right, reduceCtorEq, false_and, and_false, exists_false, or_false, false_or, Bool.not_false]
          exact k H2 (s1.trans s2)
        | true =>
          rw [hp, Bool.true_and] at k
          simp only [tSeq, tNext, tRet, tRetN, tAsg, tIfS, tDrop, tAug, gName, gSub, tVar, tC, tCB, tCons, tNil, tCall, tOp, tUn, tTest, tB, tAnd, tOr, tNot, tAndV, tOrV, tNotV, tIf, tTup, tLst, tSl, tPart, tNoPart, tBA, tBA0, tDNewK, tChain, tYes, rI, rI0, rU, rEq, rNe, rIsA, rIsnotA, rItem, lenA, rIAddA, rAddA, rMulA, listA, tupleA, lenQ, lenS, lenD, rSetD, rAddS, iLst, iTpl, iTxt, rCat, rCatTT, rRepT, iRng1, iRng2, iDct, tTruL, tTruD, tLrev, tIf, iEnum, iRev, iZip2, iZip3, rEqD, rNeD, rEqK, rNeK, iItm, tSortK, SortAsk, rSortS, rSortD, rSortT, rDictK, rClearD, rSum, rMaxL, rMinL, tMaxd, rGetL, rGetD, tAugS, rRep, rInsert, rMax2, rCount, rIndexS, rLtT, rAppend, rPopAt, rReverse, rSetA, rSetL, L2.start, cpSt, tComp_eq, tFor_eq, iAny_eq, rStrK, rIExt, rRepD, rStrI, rIntT, rStrS, rSplit, rJoin, tKGet, iZipT,  D.ty, isi_NoneType_bool, isi_NoneType_int, isi_NoneType_str, isi_NoneType_list, isi_NoneType_tuple, isi_NoneType_dict, isi_bool_bool, isi_bool_int, isi_bool_str, isi_bool_list, isi_bool_tuple, isi_bool_dict, isi_int_bool, isi_int_int, isi_int_str, isi_int_list, isi_int_tuple, isi_int_dict, isi_str_bool, isi_str_int, isi_str_str, isi_str_list, isi_str_tuple, isi_str_dict, isi_list_bool, isi_list_int, isi_list_str, isi_list_list, isi_list_tuple, isi_list_dict, isi_tuple_bool, isi_tuple_int, isi_tuple_str, isi_tuple_list, isi_tuple_tuple, isi_tuple_dict, isi_dict_bool, isi_dict_int, isi_dict_str, isi_dict_list, isi_dict_tuple, isi_dict_dict, mem_int, mem_bool, mem_str, mem_list, mem_tuple, mem_dict, Nat.reduceAdd, Nat.reduceSub, Nat.zero_add, Nat.sub_self, List.replicate_zero, List.replicate_succ, List.getD_cons_zero, List.getD_cons_succ, ↓reduceIte, List.map_cons, List.map_nil, List.append_nil, List.nil_append, List.cons_append, List.length_cons, List.length_nil, List.set_cons_zero, List.set_cons_succ, List.set_nil, List.getElem?_cons_zero, List.getElem?_cons_succ, Option.some.injEq, exists_eq_left', exists_eq_left, V.int.injEq, V.bl.injEq, V.str.injEq, V.ref.injEq, V.ty.injEq, List.cons.injEq, and_true, true_and, and_assoc, exists_and_left, exists_eq_right, reduceCtorEq, false_and, and_false, exists_false, or_false, false_or, Bool.not_true, Bool.false_eq_true]
          have ha2 := s2 _ _ ha
          have r2 := r.same s2
          refine .inr ⟨xs, ha2, ?_⟩
          refine comp_map (goesT a xs) (by rw [r.length]; exact line1000 hz) (fun H' s' => s' _ _ ha2) ((ds.map nameOf).map V.str) (by simp [r.length]) (fun i y H' hi hy s' N M hN => ?_) (fun H' s' q hq => ?_)
          · obtain ⟨d, hd, rd⟩ := r2.get hy
            obtain ⟨z, b, rfl⟩ := isPart_name (List.all_eq_true.mp hp d (List.mem_of_getElem? hd))
            obtain ⟨c, ys, rfl, hc, hl, _, g⟩ := rep_two rd
            obtain ⟨vx, ex, rx⟩ := g 0 _ rfl
            rw [Rep] at rx
            obtain ⟨rfl, _⟩ := rx
            walk_at "rd"
            refine ⟨_, item_t (j := 0) (s' _ _ hc) ex, hN _ _ s' ?_⟩
            rw [List.getElem?_map, List.getElem?_map, hd]
            rfl
          · refine ⟨q, _, rfl, upd_same, by rw [List.length_map]; exact hz, fun H5 s5 => k H5 ?_⟩
            exact ((s1.trans s2).trans s').trans ((same_upd hq).trans s5)
def sp_is_ware : Sp := fun vs H Q _ => ∃ v d, vs = [v] ∧ Rep H d v ∧ ∀ H', Same H H' → Q (.bl (isWare d)) H'
theorem isTuple_seven {d : D} (h : isTuple d 7 7 = true) : ∃ n l g f s c p, d = .tup [n, l, g, f, s, c, p] := by
  obtain ⟨ds, rfl, h1, h2⟩ := isTuple_some h
  match ds, h1, h2 with
  | [n, l, g, f, s, c, p], _, _ => exact ⟨n, l, g, f, s, c, p, rfl⟩
  | [], h1, _ => simp at h1
  | [_], h1, _ => simp at h1
  | [_, _], h1, _ => simp at h1
  | [_, _, _], h1, _ => simp at h1
  | [_, _, _, _], h1, _ => simp at h1
  | [_, _, _, _, _], h1, _ => simp at h1
  | [_, _, _, _, _, _], h1, _ => simp at h1
  | _ :: _ :: _ :: _ :: _ :: _ :: _ :: _ :: r, _, h2 => simp at h2; omega
theorem sc_is_ware : FnScope ["found"] ["found"] (defScope s_is_ware) := ⟨rfl, rfl, rfl, by decide +kernel, rfl, by decide +kernel, by decide +kernel⟩
theorem ok_is_ware {f : Addr} {fd : FuncData} (F : Fun K "is_ware" "is_ware" s_is_ware f fd) (T : Txt mg) (h_is_tuple : Has P w K mg base "is_tuple" 1 ["found", "least", "most"] sp_is_tuple) (h_is_from : Has P w K mg base "is_from" 2 ["found", "least"] sp_is_from) (h_is_between : Has P w K mg base "is_between" 3 ["found", "least", "most"] sp_is_between) (h_is_name : Has P w K mg base "is_name" 1 ["found"] sp_is_name) (h_are_parts : Has P w K mg base "are_parts" 4 ["found"] sp_are_parts) (h_are_arrivals : Has P w K mg base "are_arrivals" 5 ["found"] sp_are_arrivals) : FnOk P w K mg base CX0 6 f fd ["found"] sp_is_ware := by
  refine F.ok sc_is_ware (fun vs H Q E h => ?_) (fun cdv A outer s H vs Q E hr h => ?_)
  · obtain ⟨v, d, rfl, _⟩ := h
    rfl
  · obtain ⟨v, d, rfl, hv, k⟩ := h
    have hu := hu_of hr
    refine ⟨_, (pss_cons (ps_if (pt_not (pt_val (pe_callS h_is_tuple (hr.mono (by decide)) rfl (pa_e (pv 0) (pa_e (pe_globI rfl T.g_MEMBERS) (pa_e (pe_globI rfl T.g_MEMBERS) pa_nil)))))) (pss_one (ps_ret pe_bl)) pss_nil)
 (pss_cons (ps_if (PW.pt (pw_or (pt_not (pt_val (pe_callS h_is_name (hr.mono (by decide)) rfl (pa_e (pe_item hu (pv 0) (pe_globI rfl T.g_NAME) (fun _ _ => rfl)) pa_nil)))) (pw_or (pt_not (pt_val (pe_callS h_is_between (hr.mono (by decide)) rfl (pa_e (pe_item hu (pv 0) (pe_globI rfl T.g_LAG) (fun _ _ => rfl)) (pa_e pe_int (pa_e (pe_globI rfl T.g_MOST_LAG) pa_nil)))))) (pw_or1 (pt_not (pt_val (pe_callS h_is_from (hr.mono (by decide)) rfl (pa_e (pe_item hu (pv 0) (pe_globI rfl T.g_GIVES) (fun _ _ => rfl)) (pa_e pe_int pa_nil))))))))) (pss_one (ps_ret pe_bl)) pss_nil)
 (pss_cons (ps_if (PW.pt (pw_or (pt_not (pt_val (pe_callS h_is_from (hr.mono (by decide)) rfl (pa_e (pe_item hu (pv 0) (pe_globI rfl T.g_FLOOR) (fun _ _ => rfl)) (pa_e pe_int pa_nil))))) (pw_or1 (pt_not (pt_val (pe_callS h_is_from (hr.mono (by decide)) rfl (pa_e (pe_item hu (pv 0) (pe_globI rfl T.g_STOCK) (fun _ _ => rfl)) (pa_e pe_int pa_nil)))))))) (pss_one (ps_ret pe_bl)) pss_nil)
 (pss_one (ps_ret (pe_and (pe_callS h_are_arrivals (hr.mono (by decide)) rfl (pa_e (pe_item hu (pv 0) (pe_globI rfl T.g_COMING) (fun _ _ => rfl)) pa_nil)) (pe_one (pe_callS h_are_parts (hr.mono (by decide)) rfl (pa_e (pe_item hu (pv 0) (pe_globI rfl T.g_PARTS) (fun _ _ => rfl)) pa_nil))))))))), ?_⟩
    walk_at "rd"
    refine ⟨v, d, 7, 7, rfl, hv, fun H1 s1 => ?_⟩
    walk_at "rd"
    cases h : isTuple d 7 7 with
    | false =>
      simp only [tSeq, tNext, tRet, tRetN, tAsg, tIfS, tDrop, tAug, gName, gSub, tVar, tC, tCB, tCons, tNil, tCall, tOp, tUn, tTest, tB, tAnd, tOr, tNot, tAndV, tOrV, tNotV, tIf, tTup, tLst, tSl, tPart, tNoPart, tBA, tBA0, tDNewK, tChain, tYes, rI, rI0, rU, rEq, rNe, rIsA, rIsnotA, rItem, lenA, rIAddA, rAddA, rMulA, listA, tupleA, lenQ, lenS, lenD, rSetD, rAddS, iLst, iTpl, iTxt, rCat, rCatTT, rRepT, iRng1, iRng2, iDct, tTruL, tTruD, tLrev, tIf, iEnum, iRev, iZip2, iZip3, rEqD, rNeD, rEqK, rNeK, iItm, tSortK, SortAsk, rSortS, rSortD, rSortT, rDictK, rClearD, rSum, rMaxL, rMinL, tMaxd, rGetL, rGetD, tAugS, rRep, rInsert, rMax2, rCount, rIndexS, rLtT, rAppend, rPopAt, rReverse, rSetA, rSetL, L2.start, cpSt, tComp_eq, tFor_eq, iAny_eq, rStrK, rIExt, rRepD, rStrI, rIntT, rStrS, rSplit, rJoin, tKGet, iZipT,  D.ty, isi_NoneType_bool, isi_NoneType_int, isi_NoneType_str, isi_NoneType_list, isi_NoneType_tuple, isi_NoneType_dict, isi_bool_bool, isi_bool_int, isi_bool_str, isi_bool_list, isi_bool_tuple, isi_bool_dict, isi_int_bool, isi_int_int, isi_int_str, isi_int_list, isi_int_tuple, isi_int_dict, isi_str_bool, isi_str_int, isi_str_str, isi_str_list, isi_str_tuple, isi_str_dict, isi_list_bool, isi_list_int, isi_list_str, isi_list_list, isi_list_tuple, isi_list_dict, isi_tuple_bool, isi_tuple_int, isi_tuple_str, isi_tuple_list, isi_tuple_tuple, isi_tuple_dict, isi_dict_bool, isi_dict_int, isi_dict_str, isi_dict_list, isi_dict_tuple, isi_dict_dict, mem_int, mem_bool, mem_str, mem_list, mem_tuple, mem_dict, Nat.reduceAdd, Nat.reduceSub, Nat.zero_add, Nat.sub_self, List.replicate_zero, List.replicate_succ, List.getD_cons_zero, List.getD_cons_succ, ↓reduceIte, List.map_cons, List.map_nil, List.append_nil, List.nil_append, List.cons_append, List.length_cons, List.length_nil, List.set_cons_zero, List.set_cons_succ, List.set_nil, List.getElem?_cons_zero, List.getElem?_cons_succ, Option.some.injEq, exists_eq_left', exists_eq_left, V.int.injEq, V.bl.injEq, V.str.injEq, V.ref.injEq, V.ty.injEq, List.cons.injEq, and_true, true_and, and_assoc, exists_and_left, exists_eq_right, reduceCtorEq, false_and, and_false, exists_false, or_false, false_or, Bool.not_false]
      have k := k H1 s1
      have e : isWare d = false := by
        unfold isWare
        split
        · exact absurd h (by simp [isTuple])
        · rfl
      rw [e] at k
      exact k
    | true =>
      simp only [tSeq, tNext, tRet, tRetN, tAsg, tIfS, tDrop, tAug, gName, gSub, tVar, tC, tCB, tCons, tNil, tCall, tOp, tUn, tTest, tB, tAnd, tOr, tNot, tAndV, tOrV, tNotV, tIf, tTup, tLst, tSl, tPart, tNoPart, tBA, tBA0, tDNewK, tChain, tYes, rI, rI0, rU, rEq, rNe, rIsA, rIsnotA, rItem, lenA, rIAddA, rAddA, rMulA, listA, tupleA, lenQ, lenS, lenD, rSetD, rAddS, iLst, iTpl, iTxt, rCat, rCatTT, rRepT, iRng1, iRng2, iDct, tTruL, tTruD, tLrev, tIf, iEnum, iRev, iZip2, iZip3, rEqD, rNeD, rEqK, rNeK, iItm, tSortK, SortAsk, rSortS, rSortD, rSortT, rDictK, rClearD, rSum, rMaxL, rMinL, tMaxd, rGetL, rGetD, tAugS, rRep, rInsert, rMax2, rCount, rIndexS, rLtT, rAppend, rPopAt, rReverse, rSetA, rSetL, L2.start, cpSt, tComp_eq, tFor_eq, iAny_eq, rStrK, rIExt, rRepD, rStrI, rIntT, rStrS, rSplit, rJoin, tKGet, iZipT,  D.ty, isi_NoneType_bool, isi_NoneType_int, isi_NoneType_str, isi_NoneType_list, isi_NoneType_tuple, isi_NoneType_dict, isi_bool_bool, isi_bool_int, isi_bool_str, isi_bool_list, isi_bool_tuple, isi_bool_dict, isi_int_bool, isi_int_int, isi_int_str, isi_int_list, isi_int_tuple, isi_int_dict, isi_str_bool, isi_str_int, isi_str_str, isi_str_list, isi_str_tuple, isi_str_dict, isi_list_bool, isi_list_int, isi_list_str, isi_list_list, isi_list_tuple, isi_list_dict, isi_tuple_bool, isi_tuple_int, isi_tuple_str, isi_tuple_list, isi_tuple_tuple, isi_tuple_dict, isi_dict_bool, isi_dict_int, isi_dict_str, isi_dict_list, isi_dict_tuple, isi_dict_dict, mem_int, mem_bool, mem_str, mem_list, mem_tuple, mem_dict, Nat.reduceAdd, Nat.reduceSub, Nat.zero_add, Nat.sub_self, List.replicate_zero, List.replicate_succ, List.getD_cons_zero, List.getD_cons_succ, ↓reduceIte, List.map_cons, List.map_nil, List.append_nil, List.nil_append, List.cons_append, List.length_cons, List.length_nil, List.set_cons_zero, List.set_cons_succ, List.set_nil, List.getElem?_cons_zero, List.getElem?_cons_succ, Option.some.injEq, exists_eq_left', exists_eq_left, V.int.injEq, V.bl.injEq, V.str.injEq, V.ref.injEq, V.ty.injEq, List.cons.injEq, and_true, true_and, and_assoc, exists_and_left, exists_eq_right, reduceCtorEq, false_and, and_false, exists_false, or_false, false_or, Bool.not_true, Bool.false_eq_true]
      obtain ⟨n, l, g, f, s, c, p, rfl⟩ := isTuple_seven h
      obtain ⟨a, xs, rfl, ha, hl, hz, gt⟩ := rep_two hv
      obtain ⟨v0, e0, r0⟩ := gt 0 _ rfl
      obtain ⟨v1, e1, r1⟩ := gt 1 _ rfl
      obtain ⟨v2, e2, r2⟩ := gt 2 _ rfl
      obtain ⟨v3, e3, r3⟩ := gt 3 _ rfl
      obtain ⟨v4, e4, r4⟩ := gt 4 _ rfl
      obtain ⟨v5, e5, r5⟩ := gt 5 _ rfl
      obtain ⟨v6, e6, r6⟩ := gt 6 _ rfl
      have k : ∀ H', Same H H' → Q (.bl (isName n && isBetween l 0 30 && isFrom g 1 && isFrom f 0 && isFrom s 0 && areArrivals c && areParts p)) H' := k
      have st := s1
      refine ⟨v0, item_t (j := 0) (st _ _ ha) e0, v0, n, rfl, r0.same st, fun H2 s2 => ?_⟩
      replace st := st.trans s2
      cases h0 : isName n with
      | false => simp only [tSeq, tNext, tRet, tRetN, tAsg, tIfS, tDrop, tAug, gName, gSub, tVar, tC, tCB, tCons, tNil, tCall, tOp, tUn, tTest, tB, tAnd, tOr, tNot, tAndV, tOrV, tNotV, tIf, tTup, tLst, tSl, tPart, tNoPart, tBA, tBA0, tDNewK, tChain, tYes, rI, rI0, rU, rEq, rNe, rIsA, rIsnotA, rItem, lenA, rIAddA, rAddA, rMulA, listA, tupleA, lenQ, lenS, lenD, rSetD, rAddS, iLst, iTpl, iTxt, rCat, rCatTT, rRepT, iRng1, iRng2, iDct, tTruL, tTruD, tLrev, tIf, iEnum, iRev, iZip2, iZip3, rEqD, rNeD, rEqK, rNeK, iItm, tSortK, SortAsk, rSortS, rSortD, rSortT, rDictK, rClearD, rSum, rMaxL, rMinL, tMaxd, rGetL, rGetD, tAugS, rRep, rInsert, rMax2, rCount, rIndexS, rLtT, rAppend, rPopAt, rReverse, rSetA, rSetL, L2.start, cpSt, tComp_eq, tFor_eq, iAny_eq, rStrK, rIExt, rRepD, rStrI, rIntT, rStrS, rSplit, rJoin, tKGet, iZipT,  D.ty, isi_NoneType_bool, isi_NoneType_int, isi_NoneType_str, isi_NoneType_list, isi_NoneType_tuple, isi_NoneType_dict, isi_bool_bool, isi_bool_int, isi_bool_str, isi_bool_list, isi_bool_tuple, isi_bool_dict, isi_int_bool, isi_int_int, isi_int_str, isi_int_list, isi_int_tuple, isi_int_dict, isi_str_bool, isi_str_int, isi_str_str, isi_str_list, isi_str_tuple, isi_str_dict, isi_list_bool, isi_list_int, isi_list_str, isi_list_list, isi_list_tuple, isi_list_dict, isi_tuple_bool, isi_tuple_int, isi_tuple_str, isi_tuple_list, isi_tuple_tuple, isi_tuple_dict, isi_dict_bool, isi_dict_int, isi_dict_str, isi_dict_list, isi_dict_tuple, isi_dict_dict, mem_int, mem_bool, mem_str, mem_list, mem_tuple, mem_dict, Nat.reduceAdd, Nat.reduceSub, Nat.zero_add, Nat.sub_self, List.replicate_zero, List.replicate_succ, List.getD_cons_zero, List.getD_cons_succ, ↓reduceIte, List.map_cons, List.map_nil, List.append_nil, List.nil_append, List.cons_append, List.length_cons, List.length_nil, List.set_cons_zero, List.set_cons_succ, List.set_nil, List.getElem?_cons_zero, List.getElem?_cons_succ, Option.some.injEq, exists_eq_left', exists_eq_left, V.int.injEq, V.bl.injEq, V.str.injEq, V.ref.injEq, V.ty.injEq, List.cons.injEq, and_true, true_and, and_assoc, exists_and_left, exists_eq_right, reduceCtorEq, false_and, and_false, exists_false, or_false, false_or, Bool.not_false]; rw [h0] at k; exact k _ st
      | true =>
      simp only [tSeq, tNext, tRet, tRetN, tAsg, tIfS, tDrop, tAug, gName, gSub, tVar, tC, tCB, tCons, tNil, tCall, tOp, tUn, tTest, tB, tAnd, tOr, tNot, tAndV, tOrV, tNotV, tIf, tTup, tLst, tSl, tPart, tNoPart, tBA, tBA0, tDNewK, tChain, tYes, rI, rI0, rU, rEq, rNe, rIsA, rIsnotA, rItem, lenA, rIAddA, rAddA, rMulA, listA, tupleA, lenQ, lenS, lenD, rSetD, rAddS, iLst, iTpl, iTxt, rCat, rCatTT, rRepT, iRng1, iRng2, iDct, tTruL, tTruD, tLrev, tIf, iEnum, iRev, iZip2, iZip3, rEqD, rNeD, rEqK, rNeK, iItm, tSortK, SortAsk, rSortS, rSortD, rSortT, rDictK, rClearD, rSum, rMaxL, rMinL, tMaxd, rGetL, rGetD, tAugS, rRep, rInsert, rMax2, rCount, rIndexS, rLtT, rAppend, rPopAt, rReverse, rSetA, rSetL, L2.start, cpSt, tComp_eq, tFor_eq, iAny_eq, rStrK, rIExt, rRepD, rStrI, rIntT, rStrS, rSplit, rJoin, tKGet, iZipT,  D.ty, isi_NoneType_bool, isi_NoneType_int, isi_NoneType_str, isi_NoneType_list, isi_NoneType_tuple, isi_NoneType_dict, isi_bool_bool, isi_bool_int, isi_bool_str, isi_bool_list, isi_bool_tuple, isi_bool_dict, isi_int_bool, isi_int_int, isi_int_str, isi_int_list, isi_int_tuple, isi_int_dict, isi_str_bool, isi_str_int, isi_str_str, isi_str_list, isi_str_tuple, isi_str_dict, isi_list_bool, isi_list_int, isi_list_str, isi_list_list, isi_list_tuple, isi_list_dict, isi_tuple_bool, isi_tuple_int, isi_tuple_str, isi_tuple_list, isi_tuple_tuple, isi_tuple_dict, isi_dict_bool, isi_dict_int, isi_dict_str, isi_dict_list, isi_dict_tuple, isi_dict_dict, mem_int, mem_bool, mem_str, mem_list, mem_tuple, mem_dict, Nat.reduceAdd, Nat.reduceSub, Nat.zero_add, Nat.sub_self, List.replicate_zero, List.replicate_succ, List.getD_cons_zero, List.getD_cons_succ, ↓reduceIte, List.map_cons, List.map_nil, List.append_nil, List.nil_append, List.cons_append, List.length_cons, List.length_nil, List.set_cons_zero, List.set_cons_succ, List.set_nil, List.getElem?_cons_zero, List.getElem?_cons_succ, Option.some.injEq, exists_eq_left', exists_eq_left, V.int.injEq, V.bl.injEq, V.str.injEq, V.ref.injEq, V.ty.injEq, List.cons.injEq, and_true, true_and, and_assoc, exists_and_left, exists_eq_right, reduceCtorEq, false_and, and_false, exists_false, or_false, false_or, Bool.not_true, Bool.false_eq_true]
      refine ⟨v1, item_t (j := 1) (st _ _ ha) e1, v1, l, 0, 30, rfl, r1.same st, fun H3 s3 => ?_⟩
      replace st := st.trans s3
      cases h1 : isBetween l 0 30 with
      | false => simp only [tSeq, tNext, tRet, tRetN, tAsg, tIfS, tDrop, tAug, gName, gSub, tVar, tC, tCB, tCons, tNil, tCall, tOp, tUn, tTest, tB, tAnd, tOr, tNot, tAndV, tOrV, tNotV, tIf, tTup, tLst, tSl, tPart, tNoPart, tBA, tBA0, tDNewK, tChain, tYes, rI, rI0, rU, rEq, rNe, rIsA, rIsnotA, rItem, lenA, rIAddA, rAddA, rMulA, listA, tupleA, lenQ, lenS, lenD, rSetD, rAddS, iLst, iTpl, iTxt, rCat, rCatTT, rRepT, iRng1, iRng2, iDct, tTruL, tTruD, tLrev, tIf, iEnum, iRev, iZip2, iZip3, rEqD, rNeD, rEqK, rNeK, iItm, tSortK, SortAsk, rSortS, rSortD, rSortT, rDictK, rClearD, rSum, rMaxL, rMinL, tMaxd, rGetL, rGetD, tAugS, rRep, rInsert, rMax2, rCount, rIndexS, rLtT, rAppend, rPopAt, rReverse, rSetA, rSetL, L2.start, cpSt, tComp_eq, tFor_eq, iAny_eq, rStrK, rIExt, rRepD, rStrI, rIntT, rStrS, rSplit, rJoin, tKGet, iZipT,  D.ty, isi_NoneType_bool, isi_NoneType_int, isi_NoneType_str, isi_NoneType_list, isi_NoneType_tuple, isi_NoneType_dict, isi_bool_bool, isi_bool_int, isi_bool_str, isi_bool_list, isi_bool_tuple, isi_bool_dict, isi_int_bool, isi_int_int, isi_int_str, isi_int_list, isi_int_tuple, isi_int_dict, isi_str_bool, isi_str_int, isi_str_str, isi_str_list, isi_str_tuple, isi_str_dict, isi_list_bool, isi_list_int, isi_list_str, isi_list_list, isi_list_tuple, isi_list_dict, isi_tuple_bool, isi_tuple_int, isi_tuple_str, isi_tuple_list, isi_tuple_tuple, isi_tuple_dict, isi_dict_bool, isi_dict_int, isi_dict_str, isi_dict_list, isi_dict_tuple, isi_dict_dict, mem_int, mem_bool, mem_str, mem_list, mem_tuple, mem_dict, Nat.reduceAdd, Nat.reduceSub, Nat.zero_add, Nat.sub_self, List.replicate_zero, List.replicate_succ, List.getD_cons_zero, List.getD_cons_succ, ↓reduceIte, List.map_cons, List.map_nil, List.append_nil, List.nil_append, List.cons_append, List.length_cons, List.length_nil, List.set_cons_zero, List.set_cons_succ, List.set_nil, List.getElem?_cons_zero, List.getElem?_cons_succ, Option.some.injEq, exists_eq_left', exists_eq_left, V.int.injEq, V.bl.injEq, V.str.injEq, V.ref.injEq, V.ty.injEq, List.cons.injEq, and_true, true_and, and_assoc, exists_and_left, exists_eq_right, reduceCtorEq, false_and, and_false, exists_false, or_false, false_or, Bool.not_false]; rw [h0, h1] at k; exact k _ st
      | true =>
      simp only [tSeq, tNext, tRet, tRetN, tAsg, tIfS, tDrop, tAug, gName, gSub, tVar, tC, tCB, tCons, tNil, tCall, tOp, tUn, tTest, tB, tAnd, tOr, tNot, tAndV, tOrV, tNotV, tIf, tTup, tLst, tSl, tPart, tNoPart, tBA, tBA0, tDNewK, tChain, tYes, rI, rI0, rU, rEq, rNe, rIsA, rIsnotA, rItem, lenA, rIAddA, rAddA, rMulA, listA, tupleA, lenQ, lenS, lenD, rSetD, rAddS, iLst, iTpl, iTxt, rCat, rCatTT, rRepT, iRng1, iRng2, iDct, tTruL, tTruD, tLrev, tIf, iEnum, iRev, iZip2, iZip3, rEqD, rNeD, rEqK, rNeK, iItm, tSortK, SortAsk, rSortS, rSortD, rSortT, rDictK, rClearD, rSum, rMaxL, rMinL, tMaxd, rGetL, rGetD, tAugS, rRep, rInsert, rMax2, rCount, rIndexS, rLtT, rAppend, rPopAt, rReverse, rSetA, rSetL, L2.start, cpSt, tComp_eq, tFor_eq, iAny_eq, rStrK, rIExt, rRepD, rStrI, rIntT, rStrS, rSplit, rJoin, tKGet, iZipT,  D.ty, isi_NoneType_bool, isi_NoneType_int, isi_NoneType_str, isi_NoneType_list, isi_NoneType_tuple, isi_NoneType_dict, isi_bool_bool, isi_bool_int, isi_bool_str, isi_bool_list, isi_bool_tuple, isi_bool_dict, isi_int_bool, isi_int_int, isi_int_str, isi_int_list, isi_int_tuple, isi_int_dict, isi_str_bool, isi_str_int, isi_str_str, isi_str_list, isi_str_tuple, isi_str_dict, isi_list_bool, isi_list_int, isi_list_str, isi_list_list, isi_list_tuple, isi_list_dict, isi_tuple_bool, isi_tuple_int, isi_tuple_str, isi_tuple_list, isi_tuple_tuple, isi_tuple_dict, isi_dict_bool, isi_dict_int, isi_dict_str, isi_dict_list, isi_dict_tuple, isi_dict_dict, mem_int, mem_bool, mem_str, mem_list, mem_tuple, mem_dict, Nat.reduceAdd, Nat.reduceSub, Nat.zero_add, Nat.sub_self, List.replicate_zero, List.replicate_succ, List.getD_cons_zero, List.getD_cons_succ, ↓reduceIte, List.map_cons, List.map_nil, List.append_nil, List.nil_append, List.cons_append, List.length_cons, List.length_nil, List.set_cons_zero, List.set_cons_succ, List.set_nil, List.getElem?_cons_zero, List.getElem?_cons_succ, Option.some.injEq, exists_eq_left', exists_eq_left, V.int.injEq, V.bl.injEq, V.str.injEq, V.ref.injEq, V.ty.injEq, List.cons.injEq, and_true, true_and, and_assoc, exists_and_left, exists_eq_right, reduceCtorEq, false_and, and_false, exists_false, or_false, false_or, Bool.not_true, Bool.false_eq_true]
      refine ⟨v2, item_t (j := 2) (st _ _ ha) e2, v2, g, 1, rfl, r2.same st, fun H4 s4 => ?_⟩
      replace st := st.trans s4
      cases h2 : isFrom g 1 with
      | false => simp only [tSeq, tNext, tRet, tRetN, tAsg, tIfS, tDrop, tAug, gName, gSub, tVar, tC, tCB, tCons, tNil, tCall, tOp, tUn, tTest, tB, tAnd, tOr, tNot, tAndV, tOrV, tNotV, tIf, tTup, tLst, tSl, tPart, tNoPart, tBA, tBA0, tDNewK, tChain, tYes, rI, rI0, rU, rEq, rNe, rIsA, rIsnotA, rItem, lenA, rIAddA, rAddA, rMulA, listA, tupleA, lenQ, lenS, lenD, rSetD, rAddS, iLst, iTpl, iTxt, rCat, rCatTT, rRepT, iRng1, iRng2, iDct, tTruL, tTruD, tLrev, tIf, iEnum, iRev, iZip2, iZip3, rEqD, rNeD, rEqK, rNeK, iItm, tSortK, SortAsk, rSortS, rSortD, rSortT, rDictK, rClearD, rSum, rMaxL, rMinL, tMaxd, rGetL, rGetD, tAugS, rRep, rInsert, rMax2, rCount, rIndexS, rLtT, rAppend, rPopAt, rReverse, rSetA, rSetL, L2.start, cpSt, tComp_eq, tFor_eq, iAny_eq, rStrK, rIExt, rRepD, rStrI, rIntT, rStrS, rSplit, rJoin, tKGet, iZipT,  D.ty, isi_NoneType_bool, isi_NoneType_int, isi_NoneType_str, isi_NoneType_list, isi_NoneType_tuple, isi_NoneType_dict, isi_bool_bool, isi_bool_int, isi_bool_str, isi_bool_list, isi_bool_tuple, isi_bool_dict, isi_int_bool, isi_int_int, isi_int_str, isi_int_list, isi_int_tuple, isi_int_dict, isi_str_bool, isi_str_int, isi_str_str, isi_str_list, isi_str_tuple, isi_str_dict, isi_list_bool, isi_list_int, isi_list_str, isi_list_list, isi_list_tuple, isi_list_dict, isi_tuple_bool, isi_tuple_int, isi_tuple_str, isi_tuple_list, isi_tuple_tuple, isi_tuple_dict, isi_dict_bool, isi_dict_int, isi_dict_str, isi_dict_list, isi_dict_tuple, isi_dict_dict, mem_int, mem_bool, mem_str, mem_list, mem_tuple, mem_dict, Nat.reduceAdd, Nat.reduceSub, Nat.zero_add, Nat.sub_self, List.replicate_zero, List.replicate_succ, List.getD_cons_zero, List.getD_cons_succ, ↓reduceIte, List.map_cons, List.map_nil, List.append_nil, List.nil_append, List.cons_append, List.length_cons, List.length_nil, List.set_cons_zero, List.set_cons_succ, List.set_nil, List.getElem?_cons_zero, List.getElem?_cons_succ, Option.some.injEq, exists_eq_left', exists_eq_left, V.int.injEq, V.bl.injEq, V.str.injEq, V.ref.injEq, V.ty.injEq, List.cons.injEq, and_true, true_and, and_assoc, exists_and_left, exists_eq_right, reduceCtorEq, false_and, and_false, exists_false, or_false, false_or, Bool.not_false]; rw [h0, h1, h2] at k; exact k _ st
      | true =>
      simp only [tSeq, tNext, tRet, tRetN, tAsg, tIfS, tDrop, tAug, gName, gSub, tVar, tC, tCB, tCons, tNil, tCall, tOp, tUn, tTest, tB, tAnd, tOr, tNot, tAndV, tOrV, tNotV, tIf, tTup, tLst, tSl, tPart, tNoPart, tBA, tBA0, tDNewK, tChain, tYes, rI, rI0, rU, rEq, rNe, rIsA, rIsnotA, rItem, lenA, rIAddA, rAddA, rMulA, listA, tupleA, lenQ, lenS, lenD, rSetD, rAddS, iLst, iTpl, iTxt, rCat, rCatTT, rRepT, iRng1, iRng2, iDct, tTruL, tTruD, tLrev, tIf, iEnum, iRev, iZip2, iZip3, rEqD, rNeD, rEqK, rNeK, iItm, tSortK, SortAsk, rSortS, rSortD, rSortT, rDictK, rClearD, rSum, rMaxL, rMinL, tMaxd, rGetL, rGetD, tAugS, rRep, rInsert, rMax2, rCount, rIndexS, rLtT, rAppend, rPopAt, rReverse, rSetA, rSetL, L2.start, cpSt, tComp_eq, tFor_eq, iAny_eq, rStrK, rIExt, rRepD, rStrI, rIntT, rStrS, rSplit, rJoin, tKGet, iZipT,  D.ty, isi_NoneType_bool, isi_NoneType_int, isi_NoneType_str, isi_NoneType_list, isi_NoneType_tuple, isi_NoneType_dict, isi_bool_bool, isi_bool_int, isi_bool_str, isi_bool_list, isi_bool_tuple, isi_bool_dict, isi_int_bool, isi_int_int, isi_int_str, isi_int_list, isi_int_tuple, isi_int_dict, isi_str_bool, isi_str_int, isi_str_str, isi_str_list, isi_str_tuple, isi_str_dict, isi_list_bool, isi_list_int, isi_list_str, isi_list_list, isi_list_tuple, isi_list_dict, isi_tuple_bool, isi_tuple_int, isi_tuple_str, isi_tuple_list, isi_tuple_tuple, isi_tuple_dict, isi_dict_bool, isi_dict_int, isi_dict_str, isi_dict_list, isi_dict_tuple, isi_dict_dict, mem_int, mem_bool, mem_str, mem_list, mem_tuple, mem_dict, Nat.reduceAdd, Nat.reduceSub, Nat.zero_add, Nat.sub_self, List.replicate_zero, List.replicate_succ, List.getD_cons_zero, List.getD_cons_succ, ↓reduceIte, List.map_cons, List.map_nil, List.append_nil, List.nil_append, List.cons_append, List.length_cons, List.length_nil, List.set_cons_zero, List.set_cons_succ, List.set_nil, List.getElem?_cons_zero, List.getElem?_cons_succ, Option.some.injEq, exists_eq_left', exists_eq_left, V.int.injEq, V.bl.injEq, V.str.injEq, V.ref.injEq, V.ty.injEq, List.cons.injEq, and_true, true_and, and_assoc, exists_and_left, exists_eq_right, reduceCtorEq, false_and, and_false, exists_false, or_false, false_or, Bool.not_true, Bool.false_eq_true]
      refine ⟨v3, item_t (j := 3) (st _ _ ha) e3, v3, f, 0, rfl, r3.same st, fun H5 s5 => ?_⟩
      replace st := st.trans s5
      cases h3 : isFrom f 0 with
      | false => simp only [tSeq, tNext, tRet, tRetN, tAsg, tIfS, tDrop, tAug, gName, gSub, tVar, tC, tCB, tCons, tNil, tCall, tOp, tUn, tTest, tB, tAnd, tOr, tNot, tAndV, tOrV, tNotV, tIf, tTup, tLst, tSl, tPart, tNoPart, tBA, tBA0, tDNewK, tChain, tYes, rI, rI0, rU, rEq, rNe, rIsA, rIsnotA, rItem, lenA, rIAddA, rAddA, rMulA, listA, tupleA, lenQ, lenS, lenD, rSetD, rAddS, iLst, iTpl, iTxt, rCat, rCatTT, rRepT, iRng1, iRng2, iDct, tTruL, tTruD, tLrev, tIf, iEnum, iRev, iZip2, iZip3, rEqD, rNeD, rEqK, rNeK, iItm, tSortK, SortAsk, rSortS, rSortD, rSortT, rDictK, rClearD, rSum, rMaxL, rMinL, tMaxd, rGetL, rGetD, tAugS, rRep, rInsert, rMax2, rCount, rIndexS, rLtT, rAppend, rPopAt, rReverse, rSetA, rSetL, L2.start, cpSt, tComp_eq, tFor_eq, iAny_eq, rStrK, rIExt, rRepD, rStrI, rIntT, rStrS, rSplit, rJoin, tKGet, iZipT,  D.ty, isi_NoneType_bool, isi_NoneType_int, isi_NoneType_str, isi_NoneType_list, isi_NoneType_tuple, isi_NoneType_dict, isi_bool_bool, isi_bool_int, isi_bool_str, isi_bool_list, isi_bool_tuple, isi_bool_dict, isi_int_bool, isi_int_int, isi_int_str, isi_int_list, isi_int_tuple, isi_int_dict, isi_str_bool, isi_str_int, isi_str_str, isi_str_list, isi_str_tuple, isi_str_dict, isi_list_bool, isi_list_int, isi_list_str, isi_list_list, isi_list_tuple, isi_list_dict, isi_tuple_bool, isi_tuple_int, isi_tuple_str, isi_tuple_list, isi_tuple_tuple, isi_tuple_dict, isi_dict_bool, isi_dict_int, isi_dict_str, isi_dict_list, isi_dict_tuple, isi_dict_dict, mem_int, mem_bool, mem_str, mem_list, mem_tuple, mem_dict, Nat.reduceAdd, Nat.reduceSub, Nat.zero_add, Nat.sub_self, List.replicate_zero, List.replicate_succ, List.getD_cons_zero, List.getD_cons_succ, ↓reduceIte, List.map_cons, List.map_nil, List.append_nil, List.nil_append, List.cons_append, List.length_cons, List.length_nil, List.set_cons_zero, List.set_cons_succ, List.set_nil, List.getElem?_cons_zero, List.getElem?_cons_succ, Option.some.injEq, exists_eq_left', exists_eq_left, V.int.injEq, V.bl.injEq, V.str.injEq, V.ref.injEq, V.ty.injEq, List.cons.injEq, and_true, true_and, and_assoc, exists_and_left, exists_eq_right, reduceCtorEq, false_and, and_false, exists_false, or_false, false_or, Bool.not_false]; rw [h0, h1, h2, h3] at k; exact k _ st
      | true =>
      simp only [tSeq, tNext, tRet, tRetN, tAsg, tIfS, tDrop, tAug, gName, gSub, tVar, tC, tCB, tCons, tNil, tCall, tOp, tUn, tTest, tB, tAnd, tOr, tNot, tAndV, tOrV, tNotV, tIf, tTup, tLst, tSl, tPart, tNoPart, tBA, tBA0, tDNewK, tChain, tYes, rI, rI0, rU, rEq, rNe, rIsA, rIsnotA, rItem, lenA, rIAddA, rAddA, rMulA, listA, tupleA, lenQ, lenS, lenD, rSetD, rAddS, iLst, iTpl, iTxt, rCat, rCatTT, rRepT, iRng1, iRng2, iDct, tTruL, tTruD, tLrev, tIf, iEnum, iRev, iZip2, iZip3, rEqD, rNeD, rEqK, rNeK, iItm, tSortK, SortAsk, rSortS, rSortD, rSortT, rDictK, rClearD, rSum, rMaxL, rMinL, tMaxd, rGetL, rGetD, tAugS, rRep, rInsert, rMax2, rCount, rIndexS, rLtT, rAppend, rPopAt, rReverse, rSetA, rSetL, L2.start, cpSt, tComp_eq, tFor_eq, iAny_eq, rStrK, rIExt, rRepD, rStrI, rIntT, rStrS, rSplit, rJoin, tKGet, iZipT,  D.ty, isi_NoneType_bool, isi_NoneType_int, isi_NoneType_str, isi_NoneType_list, isi_NoneType_tuple, isi_NoneType_dict, isi_bool_bool, isi_bool_int, isi_bool_str, isi_bool_list, isi_bool_tuple, isi_bool_dict, isi_int_bool, isi_int_int, isi_int_str, isi_int_list, isi_int_tuple, isi_int_dict, isi_str_bool, isi_str_int, isi_str_str, isi_str_list, isi_str_tuple, isi_str_dict, isi_list_bool, isi_list_int, isi_list_str, isi_list_list, isi_list_tuple, isi_list_dict, isi_tuple_bool, isi_tuple_int, isi_tuple_str, isi_tuple_list, isi_tuple_tuple, isi_tuple_dict, isi_dict_bool, isi_dict_int, isi_dict_str, isi_dict_list, isi_dict_tuple, isi_dict_dict, mem_int, mem_bool, mem_str, mem_list, mem_tuple, mem_dict, Nat.reduceAdd, Nat.reduceSub, Nat.zero_add, Nat.sub_self, List.replicate_zero, List.replicate_succ, List.getD_cons_zero, List.getD_cons_succ, ↓reduceIte, List.map_cons, List.map_nil, List.append_nil, List.nil_append, List.cons_append, List.length_cons, List.length_nil, List.set_cons_zero, List.set_cons_succ, List.set_nil, List.getElem?_cons_zero, List.getElem?_cons_succ, Option.some.injEq, exists_eq_left', exists_eq_left, V.int.injEq, V.bl.injEq, V.str.injEq, V.ref.injEq, V.ty.injEq, List.cons.injEq, and_true, true_and, and_assoc, exists_and_left, exists_eq_right, reduceCtorEq, false_and, and_false, exists_false, or_false, false_or, Bool.not_true, Bool.false_eq_true]
      refine ⟨v4, item_t (j := 4) (st _ _ ha) e4, v4, s, 0, rfl, r4.same st, fun H6 s6 => ?_⟩
      replace st := st.trans s6
      cases h4 : isFrom s 0 with
      | false => simp only [tSeq, tNext, tRet, tRetN, tAsg, tIfS, tDrop, tAug, gName, gSub, tVar, tC, tCB, tCons, tNil, tCall, tOp, tUn, tTest, tB, tAnd, tOr, tNot, tAndV, tOrV, tNotV, tIf, tTup, tLst, tSl, tPart, tNoPart, tBA, tBA0, tDNewK, tChain, tYes, rI, rI0, rU, rEq, rNe, rIsA, rIsnotA, rItem, lenA, rIAddA, rAddA, rMulA, listA, tupleA, lenQ, lenS, lenD, rSetD, rAddS, iLst, iTpl, iTxt, rCat, rCatTT, rRepT, iRng1, iRng2, iDct, tTruL, tTruD, tLrev, tIf, iEnum, iRev, iZip2, iZip3, rEqD, rNeD, rEqK, rNeK, iItm, tSortK, SortAsk, rSortS, rSortD, rSortT, rDictK, rClearD, rSum, rMaxL, rMinL, tMaxd, rGetL, rGetD, tAugS, rRep, rInsert, rMax2, rCount, rIndexS, rLtT, rAppend, rPopAt, rReverse, rSetA, rSetL, L2.start, cpSt, tComp_eq, tFor_eq, iAny_eq, rStrK, rIExt, rRepD, rStrI, rIntT, rStrS, rSplit, rJoin, tKGet, iZipT,  D.ty, isi_NoneType_bool, isi_NoneType_int, isi_NoneType_str, isi_NoneType_list, isi_NoneType_tuple, isi_NoneType_dict, isi_bool_bool, isi_bool_int, isi_bool_str, isi_bool_list, isi_bool_tuple, isi_bool_dict, isi_int_bool, isi_int_int, isi_int_str, isi_int_list, isi_int_tuple, isi_int_dict, isi_str_bool, isi_str_int, isi_str_str, isi_str_list, isi_str_tuple, isi_str_dict, isi_list_bool, isi_list_int, isi_list_str, isi_list_list, isi_list_tuple, isi_list_dict, isi_tuple_bool, isi_tuple_int, isi_tuple_str, isi_tuple_list, isi_tuple_tuple, isi_tuple_dict, isi_dict_bool, isi_dict_int, isi_dict_str, isi_dict_list, isi_dict_tuple, isi_dict_dict, mem_int, mem_bool, mem_str, mem_list, mem_tuple, mem_dict, Nat.reduceAdd, Nat.reduceSub, Nat.zero_add, Nat.sub_self, List.replicate_zero, List.replicate_succ, List.getD_cons_zero, List.getD_cons_succ, ↓reduceIte, List.map_cons, List.map_nil, List.append_nil, List.nil_append, List.cons_append, List.length_cons, List.length_nil, List.set_cons_zero, List.set_cons_succ, List.set_nil, List.getElem?_cons_zero, List.getElem?_cons_succ, Option.some.injEq, exists_eq_left', exists_eq_left, V.int.injEq, V.bl.injEq, V.str.injEq, V.ref.injEq, V.ty.injEq, List.cons.injEq, and_true, true_and, and_assoc, exists_and_left, exists_eq_right, reduceCtorEq, false_and, and_false, exists_false, or_false, false_or, Bool.not_false]; rw [h0, h1, h2, h3, h4] at k; exact k _ st
      | true =>
      simp only [tSeq, tNext, tRet, tRetN, tAsg, tIfS, tDrop, tAug, gName, gSub, tVar, tC, tCB, tCons, tNil, tCall, tOp, tUn, tTest, tB, tAnd, tOr, tNot, tAndV, tOrV, tNotV, tIf, tTup, tLst, tSl, tPart, tNoPart, tBA, tBA0, tDNewK, tChain, tYes, rI, rI0, rU, rEq, rNe, rIsA, rIsnotA, rItem, lenA, rIAddA, rAddA, rMulA, listA, tupleA, lenQ, lenS, lenD, rSetD, rAddS, iLst, iTpl, iTxt, rCat, rCatTT, rRepT, iRng1, iRng2, iDct, tTruL, tTruD, tLrev, tIf, iEnum, iRev, iZip2, iZip3, rEqD, rNeD, rEqK, rNeK, iItm, tSortK, SortAsk, rSortS, rSortD, rSortT, rDictK, rClearD, rSum, rMaxL, rMinL, tMaxd, rGetL, rGetD, tAugS, rRep, rInsert, rMax2, rCount, rIndexS, rLtT, rAppend, rPopAt, rReverse, rSetA, rSetL, L2.start, cpSt, tComp_eq, tFor_eq, iAny_eq, rStrK, rIExt, rRepD, rStrI, rIntT, rStrS, rSplit, rJoin, tKGet, iZipT,  D.ty, isi_NoneType_bool, isi_NoneType_int, isi_NoneType_str, isi_NoneType_list, isi_NoneType_tuple, isi_NoneType_dict, isi_bool_bool, isi_bool_int, isi_bool_str, isi_bool_list, isi_bool_tuple, isi_bool_dict, isi_int_bool, isi_int_int, isi_int_str, isi_int_list, isi_int_tuple, isi_int_dict, isi_str_bool, isi_str_int, isi_str_str, isi_str_list, isi_str_tuple, isi_str_dict, isi_list_bool, isi_list_int, isi_list_str, isi_list_list, isi_list_tuple, isi_list_dict, isi_tuple_bool, isi_tuple_int, isi_tuple_str, isi_tuple_list, isi_tuple_tuple, isi_tuple_dict, isi_dict_bool, isi_dict_int, isi_dict_str, isi_dict_list, isi_dict_tuple, isi_dict_dict, mem_int, mem_bool, mem_str, mem_list, mem_tuple, mem_dict, Nat.reduceAdd, Nat.reduceSub, Nat.zero_add, Nat.sub_self, List.replicate_zero, List.replicate_succ, List.getD_cons_zero, List.getD_cons_succ, ↓reduceIte, List.map_cons, List.map_nil, List.append_nil, List.nil_append, List.cons_append, List.length_cons, List.length_nil, List.set_cons_zero, List.set_cons_succ, List.set_nil, List.getElem?_cons_zero, List.getElem?_cons_succ, Option.some.injEq, exists_eq_left', exists_eq_left, V.int.injEq, V.bl.injEq, V.str.injEq, V.ref.injEq, V.ty.injEq, List.cons.injEq, and_true, true_and, and_assoc, exists_and_left, exists_eq_right, reduceCtorEq, false_and, and_false, exists_false, or_false, false_or, Bool.not_true, Bool.false_eq_true]
      refine ⟨v5, item_t (j := 5) (st _ _ ha) e5, v5, c, rfl, r5.same st, fun H7 s7 => ?_⟩
      replace st := st.trans s7
      rw [h0, h1, h2, h3, h4] at k
      cases h5 : areArrivals c with
      | false => simp only [tSeq, tNext, tRet, tRetN, tAsg, tIfS, tDrop, tAug, gName, gSub, tVar, tC, tCB, tCons, tNil, tCall, tOp, tUn, tTest, tB, tAnd, tOr, tNot, tAndV, tOrV, tNotV, tIf, tTup, tLst, tSl, tPart, tNoPart, tBA, tBA0, tDNewK, tChain, tYes, rI, rI0, rU, rEq, rNe, rIsA, rIsnotA, rItem, lenA, rIAddA, rAddA, rMulA, listA, tupleA, lenQ, lenS, lenD, rSetD, rAddS, iLst, iTpl, iTxt, rCat, rCatTT, rRepT, iRng1, iRng2, iDct, tTruL, tTruD, tLrev, tIf, iEnum, iRev, iZip2, iZip3, rEqD, rNeD, rEqK, rNeK, iItm, tSortK, SortAsk, rSortS, rSortD, rSortT, rDictK, rClearD, rSum, rMaxL, rMinL, tMaxd, rGetL, rGetD, tAugS, rRep, rInsert, rMax2, rCount, rIndexS, rLtT, rAppend, rPopAt, rReverse, rSetA, rSetL, L2.start, cpSt, tComp_eq, tFor_eq, iAny_eq, rStrK, rIExt, rRepD, rStrI, rIntT, rStrS, rSplit, rJoin, tKGet, iZipT,  D.ty, isi_NoneType_bool, isi_NoneType_int, isi_NoneType_str, isi_NoneType_list, isi_NoneType_tuple, isi_NoneType_dict, isi_bool_bool, isi_bool_int, isi_bool_str, isi_bool_list, isi_bool_tuple, isi_bool_dict, isi_int_bool, isi_int_int, isi_int_str, isi_int_list, isi_int_tuple, isi_int_dict, isi_str_bool, isi_str_int, isi_str_str, isi_str_list, isi_str_tuple, isi_str_dict, isi_list_bool, isi_list_int, isi_list_str, isi_list_list, isi_list_tuple, isi_list_dict, isi_tuple_bool, isi_tuple_int, isi_tuple_str, isi_tuple_list, isi_tuple_tuple, isi_tuple_dict, isi_dict_bool, isi_dict_int, isi_dict_str, isi_dict_list, isi_dict_tuple, isi_dict_dict, mem_int, mem_bool, mem_str, mem_list, mem_tuple, mem_dict, Nat.reduceAdd, Nat.reduceSub, Nat.zero_add, Nat.sub_self, List.replicate_zero, List.replicate_succ, List.getD_cons_zero, List.getD_cons_succ, ↓reduceIte, List.map_cons, List.map_nil, List.append_nil, List.nil_append, List.cons_append, List.length_cons, List.length_nil, List.set_cons_zero, List.set_cons_succ, List.set_nil, List.getElem?_cons_zero, List.getElem?_cons_succ, Option.some.injEq, exists_eq_left', exists_eq_left, V.int.injEq, V.bl.injEq, V.str.injEq, V.ref.injEq, V.ty.injEq, List.cons.injEq, and_true, true_and, and_assoc, exists_and_left, exists_eq_right, reduceCtorEq, false_and, and_false, exists_false, or_false, false_or, Bool.not_false]; rw [h5] at k; exact k _ st
      | true =>
      simp only [tSeq, tNext, tRet, tRetN, tAsg, tIfS, tDrop, tAug, gName, gSub, tVar, tC, tCB, tCons, tNil, tCall, tOp, tUn, tTest, tB, tAnd, tOr, tNot, tAndV, tOrV, tNotV, tIf, tTup, tLst, tSl, tPart, tNoPart, tBA, tBA0, tDNewK, tChain, tYes, rI, rI0, rU, rEq, rNe, rIsA, rIsnotA, rItem, lenA, rIAddA, rAddA, rMulA, listA, tupleA, lenQ, lenS, lenD, rSetD, rAddS, iLst, iTpl, iTxt, rCat, rCatTT, rRepT, iRng1, iRng2, iDct, tTruL, tTruD, tLrev, tIf, iEnum, iRev, iZip2, iZip3, rEqD, rNeD, rEqK, rNeK, iItm, tSortK, SortAsk, rSortS, rSortD, rSortT, rDictK, rClearD, rSum, rMaxL, rMinL, tMaxd, rGetL, rGetD, tAugS, rRep, rInsert, rMax2, rCount, rIndexS, rLtT, rAppend, rPopAt, rReverse, rSetA, rSetL, L2.start, cpSt, tComp_eq, tFor_eq, iAny_eq, rStrK, rIExt, rRepD, rStrI, rIntT, rStrS, rSplit, rJoin, tKGet, iZipT,  D.ty, isi_NoneType_bool, isi_NoneType_int, isi_NoneType_str, isi_NoneType_list, isi_NoneType_tuple, isi_NoneType_dict, isi_bool_bool, isi_bool_int, isi_bool_str, isi_bool_list, isi_bool_tuple, isi_bool_dict, isi_int_bool, isi_int_int, isi_int_str, isi_int_list, isi_int_tuple, isi_int_dict, isi_str_bool, isi_str_int, isi_str_str, isi_str_list, isi_str_tuple, isi_str_dict, isi_list_bool, isi_list_int, isi_list_str, isi_list_list, isi_list_tuple, isi_list_dict, isi_tuple_bool, isi_tuple_int, isi_tuple_str, isi_tuple_list, isi_tuple_tuple, isi_tuple_dict, isi_dict_bool, isi_dict_int, isi_dict_str, isi_dict_list, isi_dict_tuple, isi_dict_dict, mem_int, mem_bool, mem_str, mem_list, mem_tuple, mem_dict, Nat.reduceAdd, Nat.reduceSub, Nat.zero_add, Nat.sub_self, List.replicate_zero, List.replicate_succ, List.getD_cons_zero, List.getD_cons_succ, ↓reduceIte, List.map_cons, List.map_nil, List.append_nil, List.nil_append, List.cons_append, List.length_cons, List.length_nil, List.set_cons_zero, List.set_cons_succ, List.set_nil, List.getElem?_cons_zero, List.getElem?_cons_succ, Option.some.injEq, exists_eq_left', exists_eq_left, V.int.injEq, V.bl.injEq, V.str.injEq, V.ref.injEq, V.ty.injEq, List.cons.injEq, and_true, true_and, and_assoc, exists_and_left, exists_eq_right, reduceCtorEq, false_and, and_false, exists_false, or_false, false_or, Bool.not_true, Bool.false_eq_true]
      refine ⟨v6, item_t (j := 6) (st _ _ ha) e6, v6, p, rfl, r6.same st, fun H8 s8 => ?_⟩
      replace st := st.trans s8
      rw [h5] at k
      exact k _ st
end
set_option maxRecDepth 100000
set_option maxHeartbeats 4000000
def areWares : D → Bool
  | .tup ds => decide (1 ≤ ds.length) && decide (ds.length ≤ 12) && ds.all isWare && unl (ds.map nameOf)
  | _ => false
def isWant : D → Bool
  | .tup [a, b, c] => isName a && isBetween b 0 400 && isFrom c 0
  | _ => false
def areWants : D → Bool
  | .tup ds => decide (ds.length ≤ 20) && ds.all isWant
  | _ => false
section
variable {P : Program} {w : World} {K : PySem.W.Frag} {mg : Str → Option Value} {base : Heap}
theorem isWare_name {d : D} (h : isWare d = true) : ∃ x b, d = .tup (.str x :: b) := by
  unfold isWare at h
  split at h
  · rename_i a l g f s c p
    simp only [Bool.and_eq_true] at h
    cases a with
    | str x => exact ⟨x, _, rfl⟩
    | _ => exact absurd h.1.1.1.1.1.1 Bool.false_ne_true
  · cases h
def sp_are_wares : Sp := fun vs H Q _ => ∃ v d, vs = [v] ∧ Rep H d v ∧ ∀ H', Same H H' → Q (.bl (areWares d)) H'
theorem sc_are_wares : FnScope ["found"] ["found"] (defScope s_are_wares) := ⟨rfl, rfl, rfl, by decide +kernel, rfl, by decide +kernel, by decide +kernel⟩
theorem ok_are_wares {f : Addr} {fd : FuncData} (F : Fun K "are_wares" "are_wares" s_are_wares f fd) (T : Txt mg) (h_is_ware : Has P w K mg base "is_ware" 6 ["found"] sp_is_ware) (h_is_tuple : Has P w K mg base "is_tuple" 1 ["found", "least", "most"] sp_is_tuple) (h_are_unlike : Has P w K mg base "are_unlike" 1 ["names"] sp_are_unlike) : FnOk P w K mg base CX0 7 f fd ["found"] sp_are_wares := by
  refine F.ok sc_are_wares (fun vs H Q E h => ?_) (fun cdv A outer s H vs Q E hr h => ?_)
  · obtain ⟨v, d, rfl, _⟩ := h
    rfl
  · obtain ⟨v, d, rfl, hv, k⟩ := h
    have hu := hu_of hr
    refine ⟨_, (pss_cons (ps_if (PW.pt (pw_or (pt_not (pt_val (pe_callS h_is_tuple (hr.mono (by decide)) rfl (pa_e (pv 0) (pa_e pe_int (pa_e (pe_globI rfl T.g_MOST_WARES) pa_nil)))))) (pw_or1 (pt_not (pt_val (pe_callBS (call_all rfl) rfl T.n_all bt_all (pa_e (pe_comp (own := ["ware"]) (cap := []) rfl (cp_ok rfl) (gown_name (by decide)) (pi_any (pv 0))
 (fun _ _ _ _ _ _ => ⟨(pg_name (i := 0) (of_decide_eq_true rfl) rfl (Or.inl rfl) (.inr rfl)), pts_nil, (pe_callS h_is_ware (hr.mono (by decide)) rfl (pa_e (pv 0) pa_nil))⟩)) pa_nil))))))) (pss_one (ps_ret pe_bl)) pss_nil)
 (pss_one (ps_ret (pe_callS h_are_unlike (hr.mono (by decide)) rfl (pa_e (pe_comp (own := ["ware"]) (cap := []) rfl (cp_ok rfl) (gown_name (by decide)) (pi_any (pv 0))
 (fun _ _ _ _ _ _ => ⟨(pg_name (i := 0) (of_decide_eq_true rfl) rfl (Or.inl rfl) (.inr rfl)), pts_nil, (pe_item hu (pv 0) (pe_globI rfl T.g_NAME) (fun _ _ => rfl))⟩)) pa_nil))))), ?_⟩
    walk_at "rd"
    refine ⟨v, d, 1, 12, rfl, hv, fun H1 s1 => ?_⟩
    walk_at "rd"
    cases h : isTuple d 1 12 with
    | false =>
      simp only [tSeq, tNext, tRet, tRetN, tAsg, tIfS, tDrop, tAug, gName, gSub, tVar, tC, tCB, tCons, tNil, tCall, tOp, tUn, tTest, tB, tAnd, tOr, tNot, tAndV, tOrV, tNotV, tIf, tTup, tLst, tSl, tPart, tNoPart, tBA, tBA0, tDNewK, tChain, tYes, rI, rI0, rU, rEq, rNe, rIsA, rIsnotA, rItem, lenA, rIAddA, rAddA, rMulA, listA, tupleA, lenQ, lenS, lenD, rSetD, rAddS, iLst, iTpl, iTxt, rCat, rCatTT, rRepT, iRng1, iRng2, iDct, tTruL, tTruD, tLrev, tIf, iEnum, iRev, iZip2, iZip3, rEqD, rNeD, rEqK, rNeK, iItm, tSortK, SortAsk, rSortS, rSortD, rSortT, rDictK, rClearD, rSum, rMaxL, rMinL, tMaxd, rGetL, rGetD, tAugS, rRep, rInsert, rMax2, rCount, rIndexS, rLtT, rAppend, rPopAt, rReverse, rSetA, rSetL, L2.start, cpSt, tComp_eq, tFor_eq, iAny_eq, rStrK, rIExt, rRepD, rStrI, rIntT, rStrS, rSplit, rJoin, tKGet, iZipT,  D.ty, isi_NoneType_bool, isi_NoneType_int, isi_NoneType_str, isi_NoneType_list, isi_NoneType_tuple, isi_NoneType_dict, isi_bool_bool, isi_bool_int, isi_bool_str, isi_bool_list, isi_bool_tuple, isi_bool_dict, isi_int_bool, isi_int_int, isi_int_str, isi_int_list, isi_int_tuple, isi_int_dict, isi_str_bool, isi_str_int, isi_str_str, isi_str_list, isi_str_tuple, isi_str_dict, isi_list_bool, isi_list_int, isi_list_str, isi_list_list, isi_list_tuple, isi_list_dict, isi_tuple_bool, isi_tuple_int, isi_tuple_str, isi_tuple_list, isi_tuple_tuple, isi_tuple_dict, isi_dict_bool, isi_dict_int, isi_dict_str, isi_dict_list, isi_dict_tuple, isi_dict_dict, mem_int, mem_bool, mem_str, mem_list, mem_tuple, mem_dict, Nat.reduceAdd, Nat.reduceSub, Nat.zero_add, Nat.sub_self, List.replicate_zero, List.replicate_succ, List.getD_cons_zero, List.getD_cons_succ, ↓reduceIte, List.map_cons, List.map_nil, List.append_nil, List.nil_append, List.cons_append, List.length_cons, List.length_nil, List.set_cons_zero, List.set_cons_succ, List.set_nil, List.getElem?_cons_zero, List.getElem?_cons_succ, Option.some.injEq, exists_eq_left', exists_eq_left, V.int.injEq, V.bl.injEq, V.str.injEq, V.ref.injEq, V.ty.injEq, List.cons.injEq, and_true, true_and, and_assoc, exists_and_left, exists_eq_right, reduceCtorEq, false_and, and_false, exists_false, or_false, false_or, Bool.not_false]
      have k := k H1 s1
      have e : areWares d = false := by
        cases d with
        | tup ds =>
          show (decide (1 ≤ ds.length) && decide (ds.length ≤ 12) && ds.all isWare && unl (ds.map nameOf)) = false
          have : ¬ (1 ≤ ds.length ∧ ds.length ≤ 12) := fun z => Bool.eq_false_iff.mp h (by show (decide ((1 : Int) ≤ ds.length) && decide ((ds.length : Int) ≤ 12)) = true; simp; omega)
          have e2 : (decide (1 ≤ ds.length) && decide (ds.length ≤ 12)) = false := by rw [← Bool.decide_and]; exact decide_eq_false this
          rw [e2, Bool.false_and, Bool.false_and]
        | _ => rfl
      rw [e] at k
      exact k
    | true =>
      simp only [tSeq, tNext, tRet, tRetN, tAsg, tIfS, tDrop, tAug, gName, gSub, tVar, tC, tCB, tCons, tNil, tCall, tOp, tUn, tTest, tB, tAnd, tOr, tNot, tAndV, tOrV, tNotV, tIf, tTup, tLst, tSl, tPart, tNoPart, tBA, tBA0, tDNewK, tChain, tYes, rI, rI0, rU, rEq, rNe, rIsA, rIsnotA, rItem, lenA, rIAddA, rAddA, rMulA, listA, tupleA, lenQ, lenS, lenD, rSetD, rAddS, iLst, iTpl, iTxt, rCat, rCatTT, rRepT, iRng1, iRng2, iDct, tTruL, tTruD, tLrev, tIf, iEnum, iRev, iZip2, iZip3, rEqD, rNeD, rEqK, rNeK, iItm, tSortK, SortAsk, rSortS, rSortD, rSortT, rDictK, rClearD, rSum, rMaxL, rMinL, tMaxd, rGetL, rGetD, tAugS, rRep, rInsert, rMax2, rCount, rIndexS, rLtT, rAppend, rPopAt, rReverse, rSetA, rSetL, L2.start, cpSt, tComp_eq, tFor_eq, iAny_eq, rStrK, rIExt, rRepD, rStrI, rIntT, rStrS, rSplit, rJoin, tKGet, iZipT,  D.ty, isi_NoneType_bool, isi_NoneType_int, isi_NoneType_str, isi_NoneType_list, isi_NoneType_tuple, isi_NoneType_dict, isi_bool_bool, isi_bool_int, isi_bool_str, isi_bool_list, isi_bool_tuple, isi_bool_dict, isi_int_bool, isi_int_int, isi_int_str, isi_int_list, isi_int_tuple, isi_int_dict, isi_str_bool, isi_str_int, isi_str_str, isi_str_list, isi_str_tuple, isi_str_dict, isi_list_bool, isi_list_int, isi_list_str, isi_list_list, isi_list_tuple, isi_list_dict, isi_tuple_bool, isi_tuple_int, isi_tuple_str, isi_tuple_list, isi_tuple_tuple, isi_tuple_dict, isi_dict_bool, isi_dict_int, isi_dict_str, isi_dict_list, isi_dict_tuple, isi_dict_dict, mem_int, mem_bool, mem_str, mem_list, mem_tuple, mem_dict, Nat.reduceAdd, Nat.reduceSub, Nat.zero_add, Nat.sub_self, List.replicate_zero, List.replicate_succ, List.getD_cons_zero, List.getD_cons_succ, ↓reduceIte, List.map_cons, List.map_nil, List.append_nil, List.nil_append, List.cons_append, List.length_cons, List.length_nil, List.set_cons_zero, List.set_cons_succ, List.set_nil, List.getElem?_cons_zero, List.getElem?_cons_succ, Option.some.injEq, exists_eq_left', exists_eq_left, V.int.injEq, V.bl.injEq, V.str.injEq, V.ref.injEq, V.ty.injEq, List.cons.injEq, and_true, true_and, and_assoc, exists_and_left, exists_eq_right, reduceCtorEq, false_and, and_false, exists_false, or_false, false_or, Bool.not_true, Bool.false_eq_true]
      obtain ⟨ds, rfl, hn0, hn⟩ := isTuple_some h
      have hv1 := hv.same s1
      rw [Rep] at hv1
      obtain ⟨a, xs, rfl, ha, hz, r⟩ := hv1
      walk_at "rd"
      refine .inr ⟨xs, ha, ?_⟩
      refine all_items (p := isWare) ha r hz (fun x d H' rd s' N hN => ?_) (fun a' H2 s2 ha' => ?_)
      · walk_at "rd"
        exact ⟨x, d, rfl, rd, hN⟩
      · refine ⟨a', rfl, _, ha', ?_⟩
        have e0 : (ds.map isWare).all id = ds.all isWare := by rw [List.all_map]; rfl
        rw [e0]
        have e : areWares (.tup ds) = (ds.all isWare && unl (ds.map nameOf)) := by
          show (decide (1 ≤ ds.length) && decide (ds.length ≤ 12) && ds.all isWare && unl (ds.map nameOf)) = _
          rw [decide_eq_true (by omega), decide_eq_true (by omega), Bool.true_and, Bool.true_and]
        rw [e] at k
        cases hp : ds.all isWare with
        | false =>
          rw [hp, Bool.false_and] at k
          simp only [tSeq, tNext, tRet, tRetN, tAsg, tIfS, tDrop, tAug, gName, gSub, tVar, tC, tCB, tCons, tNil, tCall, tOp, tUn, tTest, tB, tAnd, tOr, tNot, tAndV, tOrV, tNotV, tIf, tTup, tLst, tSl, tPart, tNoPart, tBA, tBA0, tDNewK, tChain, tYes, rI, rI0, rU, rEq, rNe, rIsA, rIsnotA, rItem, lenA, rIAddA, rAddA, rMulA, listA, tupleA, lenQ, lenS, lenD, rSetD, rAddS, iLst, iTpl, iTxt, rCat, rCatTT, rRepT, iRng1, iRng2, iDct, tTruL, tTruD, tLrev, tIf, iEnum, iRev, iZip2, iZip3, rEqD, rNeD, rEqK, rNeK, iItm, tSortK, SortAsk, rSortS, rSortD, rSortT, rDictK, rClearD, rSum, rMaxL, rMinL, tMaxd, rGetL, rGetD, tAugS, rRep, rInsert, rMax2, rCount, rIndexS, rLtT, rAppend, rPopAt, rReverse, rSetA, rSetL, L2.start, cpSt, tComp_eq, tFor_eq, iAny_eq, rStrK, rIExt, rRepD, rStrI, rIntT, rStrS, rSplit, rJoin, tKGet, iZipT,  D.ty, isi_NoneType_bool, isi_NoneType_int, isi_NoneType_str, isi_NoneType_list, isi_NoneType_tuple, isi_NoneType_dict, isi_bool_bool, isi_bool_int, isi_bool_str, isi_bool_list, isi_bool_tuple, isi_bool_dict, isi_int_bool, isi_int_int, isi_int_str, isi_int_list, isi_int_tuple, isi_int_dict, isi_str_bool, isi_str_int, isi_str_str, isi_str_list, isi_str_tuple, isi_str_dict, isi_list_bool, isi_list_int, isi_list_str, isi_list_list, isi_list_tuple, isi_list_dict, isi_tuple_bool, isi_tuple_int, isi_tuple_str, isi_tuple_list, isi_tuple_tuple, isi_tuple_dict, isi_dict_bool, isi_dict_int, isi_dict_str, isi_dict_list, isi_dict_tuple, isi_dict_dict, mem_int, mem_bool, mem_str, mem_list, mem_tuple, mem_dict, Nat.reduceAdd, Nat.reduceSub, Nat.zero_add, Nat.sub_self, List.replicate_zero, List.replicate_succ, List.getD_cons_zero, List.getD_cons_succ, ↓reduceIte, List.map_cons, List.map_nil, List.append_nil, List.nil_append, List.cons_append, List.length_cons, List.length_nil, List.set_cons_zero, List.set_cons_succ, List.set_nil, List.getElem?_cons_zero, List.getElem?_cons_succ, Option.some.injEq, exists_eq_left', exists_eq_left, V.int.injEq, V.bl.injEq, V.str.injEq, V.ref.injEq, V.ty.injEq, List.cons.injEq, and_true, true_and, and_assoc, exists_and_left, exists_eq_right, reduceCtorEq, false_and, and_false, exists_false, or_false, false_or, Bool.not_false]
          exact k H2 (s1.trans s2)
        | true =>
          rw [hp, Bool.true_and] at k
          simp only [tSeq, tNext, tRet, tRetN, tAsg, tIfS, tDrop, tAug, gName, gSub, tVar, tC, tCB, tCons, tNil, tCall, tOp, tUn, tTest, tB, tAnd, tOr, tNot, tAndV, tOrV, tNotV, tIf, tTup, tLst, tSl, tPart, tNoPart, tBA, tBA0, tDNewK, tChain, tYes, rI, rI0, rU, rEq, rNe, rIsA, rIsnotA, rItem, lenA, rIAddA, rAddA, rMulA, listA, tupleA, lenQ, lenS, lenD, rSetD, rAddS, iLst, iTpl, iTxt, rCat, rCatTT, rRepT, iRng1, iRng2, iDct, tTruL, tTruD, tLrev, tIf, iEnum, iRev, iZip2, iZip3, rEqD, rNeD, rEqK, rNeK, iItm, tSortK, SortAsk, rSortS, rSortD, rSortT, rDictK, rClearD, rSum, rMaxL, rMinL, tMaxd, rGetL, rGetD, tAugS, rRep, rInsert, rMax2, rCount, rIndexS, rLtT, rAppend, rPopAt, rReverse, rSetA, rSetL, L2.start, cpSt, tComp_eq, tFor_eq, iAny_eq, rStrK, rIExt, rRepD, rStrI, rIntT, rStrS, rSplit, rJoin, tKGet, iZipT,  D.ty, isi_NoneType_bool, isi_NoneType_int, isi_NoneType_str, isi_NoneType_list, isi_NoneType_tuple, isi_NoneType_dict, isi_bool_bool, isi_bool_int, isi_bool_str, isi_bool_list, isi_bool_tuple, isi_bool_dict, isi_int_bool, isi_int_int, isi_int_str, isi_int_list, isi_int_tuple, isi_int_dict, isi_str_bool, isi_str_int, isi_str_str, isi_str_list, isi_str_tuple, isi_str_dict, isi_list_bool, isi_list_int, isi_list_str, isi_list_list, isi_list_tuple, isi_list_dict, isi_tuple_bool, isi_tuple_int, isi_tuple_str, isi_tuple_list, isi_tuple_tuple, isi_tuple_dict, isi_dict_bool, isi_dict_int, isi_dict_str, isi_dict_list, isi_dict_tuple, isi_dict_dict, mem_int, mem_bool, mem_str, mem_list, mem_tuple, mem_dict, Nat.reduceAdd, Nat.reduceSub, Nat.zero_add, Nat.sub_self, List.replicate_zero, List.replicate_succ, List.getD_cons_zero, List.getD_cons_succ, ↓reduceIte, List.map_cons, List.map_nil, List.append_nil, List.nil_append, List.cons_append, List.length_cons, List.length_nil, List.set_cons_zero, List.set_cons_succ, List.set_nil, List.getElem?_cons_zero, List.getElem?_cons_succ, Option.some.injEq, exists_eq_left', exists_eq_left, V.int.injEq, V.bl.injEq, V.str.injEq, V.ref.injEq, V.ty.injEq, List.cons.injEq, and_true, true_and, and_assoc, exists_and_left, exists_eq_right, reduceCtorEq, false_and, and_false, exists_false, or_false, false_or, Bool.not_true, Bool.false_eq_true]
          have ha2 := s2 _ _ ha
          have r2 := r.same s2
          refine .inr ⟨xs, ha2, ?_⟩
          refine comp_map (goesT a xs) (by rw [r.length]; exact line1000 hz) (fun H' s' => s' _ _ ha2) ((ds.map nameOf).map V.str) (by simp [r.length]) (fun i y H' hi hy s' N M hN => ?_) (fun H' s' q hq => ?_)
          · obtain ⟨d, hd, rd⟩ := r2.get hy
            obtain ⟨z, b, rfl⟩ := isWare_name (List.all_eq_true.mp hp d (List.mem_of_getElem? hd))
            obtain ⟨c, ys, rfl, hc, hl, _, g⟩ := rep_two rd
            obtain ⟨vx, ex, rx⟩ := g 0 _ rfl
            rw [Rep] at rx
            obtain ⟨rfl, _⟩ := rx
            walk_at "rd"
            refine ⟨_, item_t (j := 0) (s' _ _ hc) ex, hN _ _ s' ?_⟩
            rw [List.getElem?_map, List.getElem?_map, hd]
            rfl
          · refine ⟨q, _, rfl, upd_same, by rw [List.length_map]; exact hz, fun H5 s5 => k H5 ?_⟩
            exact ((s1.trans s2).trans s').trans ((same_upd hq).trans s5)
def sp_is_want : Sp := fun vs H Q _ => ∃ v d, vs = [v] ∧ Rep H d v ∧ ∀ H', Same H H' → Q (.bl (isWant d)) H'
theorem isTuple_three {d : D} (h : isTuple d 3 3 = true) : ∃ a b c, d = .tup [a, b, c] := by
  obtain ⟨ds, rfl, h1, h2⟩ := isTuple_some h
  match ds, h1, h2 with
  | [a, b, c], _, _ => exact ⟨a, b, c, rfl⟩
  | [], h1, _ => simp at h1
  | [_], h1, _ => simp at h1
  | [_, _], h1, _ => simp at h1
  | _ :: _ :: _ :: _ :: r, _, h2 => simp at h2; omega
theorem sc_is_want : FnScope ["found"] ["found"] (defScope s_is_want) := ⟨rfl, rfl, rfl, by decide +kernel, rfl, by decide +kernel, by decide +kernel⟩
theorem ok_is_want {f : Addr} {fd : FuncData} (F : Fun K "is_want" "is_want" s_is_want f fd) (T : Txt mg) (h_is_tuple : Has P w K mg base "is_tuple" 1 ["found", "least", "most"] sp_is_tuple) (h_is_from : Has P w K mg base "is_from" 2 ["found", "least"] sp_is_from) (h_is_between : Has P w K mg base "is_between" 3 ["found", "least", "most"] sp_is_between) (h_is_name : Has P w K mg base "is_name" 1 ["found"] sp_is_name) : FnOk P w K mg base CX0 4 f fd ["found"] sp_is_want := by
  refine F.ok sc_is_want (fun vs H Q E h => ?_) (fun cdv A outer s H vs Q E hr h => ?_)
  · obtain ⟨v, d, rfl, _⟩ := h
    rfl
  · obtain ⟨v, d, rfl, hv, k⟩ := h
    have hu := hu_of hr
    refine ⟨_, (pss_cons (ps_if (pt_not (pt_val (pe_callS h_is_tuple (hr.mono (by decide)) rfl (pa_e (pv 0) (pa_e pe_int (pa_e pe_int pa_nil)))))) (pss_one (ps_ret pe_bl)) pss_nil)
 (pss_one (ps_ret (pe_and (pe_callS h_is_name (hr.mono (by decide)) rfl (pa_e (pe_item hu (pv 0) pe_int (fun _ _ => rfl)) pa_nil)) (pe_and (pe_callS h_is_between (hr.mono (by decide)) rfl (pa_e (pe_item hu (pv 0) pe_int (fun _ _ => rfl)) (pa_e pe_int (pa_e (pe_globI rfl T.g_LAST_DAY) pa_nil)))) (pe_one (pe_callS h_is_from (hr.mono (by decide)) rfl (pa_e (pe_item hu (pv 0) pe_int (fun _ _ => rfl)) (pa_e pe_int pa_nil))))))))), ?_⟩
    walk_at "rd"
    refine ⟨v, d, 3, 3, rfl, hv, fun H1 s1 => ?_⟩
    walk_at "rd"
    cases h : isTuple d 3 3 with
    | false =>
      rw [if_pos (by decide)]
      have e : isWant d = false := by
        unfold isWant
        split
        · cases h
        · rfl
      have k := k H1 s1
      rw [e] at k
      exact k
    | true =>
      rw [if_neg (by decide)]
      obtain ⟨x, y, z, rfl⟩ := isTuple_three h
      obtain ⟨a, xs, rfl, ha, hl, _, g⟩ := rep_two (hv.same s1)
      obtain ⟨v0, e0, r0⟩ := g 0 _ rfl
      obtain ⟨v1, e1, r1⟩ := g 1 _ rfl
      obtain ⟨v2, e2, r2⟩ := g 2 _ rfl
      have kk : ∀ H', Same H H' → Q (.bl (isName x && isBetween y 0 400 && isFrom z 0)) H' := k
      refine ⟨_, item_t (j := 0) ha e0, v0, x, rfl, r0, fun H2 s2 => ⟨_, rfl, ?_⟩⟩
      cases h1 : isName x with
      | false =>
        rw [h1, Bool.false_and, Bool.false_and] at kk
        rw [if_neg (by decide)]
        exact kk H2 (s1.trans s2)
      | true =>
        rw [h1, Bool.true_and] at kk
        rw [if_pos rfl]
        refine ⟨_, item_t (j := 1) (s2 _ _ ha) e1, v1, y, 0, 400, rfl, r1.same s2, fun H3 s3 => ⟨_, rfl, ?_⟩⟩
        cases h2 : isBetween y 0 400 with
        | false =>
          rw [h2, Bool.false_and] at kk
          rw [if_neg (by decide)]
          exact kk H3 ((s1.trans s2).trans s3)
        | true =>
          rw [h2, Bool.true_and] at kk
          rw [if_pos rfl]
          exact ⟨_, item_t (j := 2) (s3 _ _ (s2 _ _ ha)) e2, v2, z, 0, rfl, (r2.same s2).same s3, fun H4 s4 => kk H4 (((s1.trans s2).trans s3).trans s4)⟩
def sp_are_wants : Sp := fun vs H Q _ => ∃ v d, vs = [v] ∧ Rep H d v ∧ ∀ H', Same H H' → Q (.bl (areWants d)) H'
theorem sc_are_wants : FnScope ["found"] ["found"] (defScope s_are_wants) := ⟨rfl, rfl, rfl, by decide +kernel, rfl, by decide +kernel, by decide +kernel⟩
theorem ok_are_wants {f : Addr} {fd : FuncData} (F : Fun K "are_wants" "are_wants" s_are_wants f fd) (T : Txt mg) (h_is_want : Has P w K mg base "is_want" 4 ["found"] sp_is_want) (h_is_tuple : Has P w K mg base "is_tuple" 1 ["found", "least", "most"] sp_is_tuple) : FnOk P w K mg base CX0 5 f fd ["found"] sp_are_wants := by
  refine F.ok sc_are_wants (fun vs H Q E h => ?_) (fun cdv A outer s H vs Q E hr h => ?_)
  · obtain ⟨v, d, rfl, _⟩ := h
    rfl
  · obtain ⟨v, d, rfl, hv, k⟩ := h
    have hu := hu_of hr
    refine ⟨_, (pss_one (ps_ret (pe_and (pe_callS h_is_tuple (hr.mono (by decide)) rfl (pa_e (pv 0) (pa_e pe_int (pa_e (pe_globI rfl T.g_MOST_WANTS) pa_nil)))) (pe_one (pe_callBS (call_all rfl) rfl T.n_all bt_all (pa_e (pe_comp (own := ["want"]) (cap := []) rfl (cp_ok rfl) (gown_name (by decide)) (pi_any (pv 0))
 (fun _ _ _ _ _ _ => ⟨(pg_name (i := 0) (of_decide_eq_true rfl) rfl (Or.inl rfl) (.inr rfl)), pts_nil, (pe_callS h_is_want (hr.mono (by decide)) rfl (pa_e (pv 0) pa_nil))⟩)) pa_nil)))))), ?_⟩
    walk_at "rd"
    refine ⟨v, d, 0, 20, rfl, hv, fun H1 s1 => ?_⟩
    walk_at "rd"
    refine ite2 (fun h => ?_) (fun h => ?_)
    · obtain ⟨ds, rfl, _, hn⟩ := isTuple_some h
      have hv1 := hv.same s1
      rw [Rep] at hv1
      obtain ⟨a, xs, rfl, ha, hz, r⟩ := hv1
      walk_at "rd"
      refine .inr ⟨xs, ha, ?_⟩
      refine all_items (p := isWant) ha r hz (fun x d H' rd s' N hN => ?_) (fun a' H' s' ha' => ?_)
      · walk_at "rd"
        exact ⟨x, d, rfl, rd, hN⟩
      · refine ⟨a', rfl, _, ha', ?_⟩
        have k := k H' (s1.trans s')
        have e : areWants (.tup ds) = (ds.map isWant).all id := by
          show (decide (ds.length ≤ 20) && ds.all isWant) = _
          rw [decide_eq_true (by omega), Bool.true_and, List.all_map]
          rfl
        rw [e] at k
        exact k
    · have k := k H1 s1
      have e : areWants d = false := by
        cases d with
        | tup ds =>
          show (decide (ds.length ≤ 20) && ds.all isWant) = false
          have : ¬ ds.length ≤ 20 := fun z => h (by show (decide ((0 : Int) ≤ ds.length) && decide ((ds.length : Int) ≤ 20)) = true; simp; omega)
          rw [decide_eq_false this, Bool.false_and]
        | _ => rfl
      rw [e] at k
      exact k
end
set_option maxRecDepth 100000
set_option maxHeartbeats 4000000
def partsD : D → List D
  | .tup [_, _, _, _, _, _, .tup ps] => ps
  | _ => []
def needD (ws us : List D) : List Str := us.map nameOf ++ (ws.map fun w => (partsD w).map nameOf).flatten
def isShop : D → Bool
  | .tup [.tup ws, .tup us] => areWares (.tup ws) && areWants (.tup us) && (needD ws us).all fun x => decide (x ∈ ws.map nameOf)
  | _ => false
theorem isWare_parts {d : D} (h : isWare d = true) : ∃ n l g f s c ps, d = .tup [n, l, g, f, s, c, .tup ps] ∧ ps.length ≤ 6 ∧ (∀ p ∈ ps, isPart p = true) ∧ partsD d = ps := by
  unfold isWare at h
  split at h
  · rename_i a l g f s c p
    simp only [Bool.and_eq_true] at h
    have hp := h.2
    cases p with
    | tup ps =>
      have hp : (decide (ps.length ≤ 6) && ps.all isPart && unl (ps.map nameOf)) = true := hp
      simp only [Bool.and_eq_true] at hp
      exact ⟨a, l, g, f, s, c, ps, rfl, of_decide_eq_true hp.1.1, fun q hq => List.all_eq_true.mp hp.1.2 q hq, rfl⟩
    | _ => exact absurd hp Bool.false_ne_true
  · cases h
theorem rep_name {H : Hp} {x : Str} {b : List D} {v : V} (h : Rep H (.tup (.str x :: b)) v) : Item H v (.int 0) (.str x) := by
  obtain ⟨c, ys, rfl, hc, hl, _, g⟩ := rep_two h
  obtain ⟨vx, ex, rx⟩ := g 0 _ rfl
  rw [Rep] at rx
  obtain ⟨rfl, _⟩ := rx
  exact item_t (j := 0) hc ex
section
variable {P : Program} {w : World} {K : PySem.W.Frag} {mg : Str → Option Value} {base : Heap}
def sp_names_of : Sp := fun vs H Q _ => ∃ (v : V) (ws : List D) (u : D), vs = [v] ∧ Rep H (.tup [.tup ws, u]) v ∧ (∀ d ∈ ws, isWare d = true) ∧ ws.length ≤ 12 ∧ ∀ p H', H p = none → H' p = some (.lst ((ws.map nameOf).map V.str)) → Same H H' → Q (.ref p) H'
theorem sc_names_of : FnScope ["shop"] ["shop"] (defScope s_names_of) := ⟨rfl, rfl, rfl, by decide +kernel, rfl, by decide +kernel, by decide +kernel⟩
theorem ok_names_of {f : Addr} {fd : FuncData} (F : Fun K "names_of" "names_of" s_names_of f fd) (T : Txt mg) : FnOk P w K mg base CX0 1 f fd ["shop"] sp_names_of := by
  refine F.ok sc_names_of (fun vs H Q E h => ?_) (fun cdv A outer s H vs Q E hr h => ?_)
  · obtain ⟨v, ws, u, rfl, _⟩ := h
    rfl
  · obtain ⟨v, ws, u, rfl, hv, hw, hl, k⟩ := h
    have hu := hu_of hr
    refine ⟨_, (pss_one (ps_ret (pe_comp (own := ["ware"]) (cap := []) rfl (cp_ok rfl) (gown_name (by decide)) (pi_tpl (pe_item hu (pv 0) pe_int (fun _ _ => rfl)))
 (fun _ _ _ _ _ _ => ⟨(pg_name (i := 0) (of_decide_eq_true rfl) rfl (Or.inl rfl) (.inr rfl)), pts_nil, (pe_item hu (pv 0) (pe_globI rfl T.g_NAME) (fun _ _ => rfl))⟩)))), ?_⟩
    walk_at "rd"
    obtain ⟨a, xs, rfl, ha, hxl, _, g⟩ := rep_two hv
    obtain ⟨v0, e0, r0⟩ := g 0 _ rfl
    rw [Rep] at r0
    obtain ⟨b, ys, rfl, hb, hz, r⟩ := r0
    refine ⟨_, item_t (j := 0) ha e0, b, rfl, ys, hb, ?_⟩
    refine comp_map (goesT b ys) (by rw [r.length]; exact line1000 (by omega)) (fun H' s' => s' _ _ hb) ((ws.map nameOf).map V.str) (by simp [r.length]) (fun i y H' hi hy s' N M hN => ?_) (fun H' s' q hq => k q _ (Same.free s' hq) upd_same (s'.trans (same_upd hq)))
    obtain ⟨d, hd, rd⟩ := r.get hy
    obtain ⟨z, bb, rfl⟩ := isWare_name (hw d (List.mem_of_getElem? hd))
    walk_at "rd"
    exact ⟨_, rep_name (rd.same s'), hN _ _ s' (by rw [List.getElem?_map, List.getElem?_map, hd]; rfl)⟩
def sp_part_names : Sp := fun vs H Q _ => ∃ (v : V) (d : D), vs = [v] ∧ Rep H d v ∧ isWare d = true ∧ ∀ p H', H p = none → H' p = some (.lst (((partsD d).map nameOf).map V.str)) → Same H H' → Q (.ref p) H'
theorem sc_part_names : FnScope ["ware"] ["ware"] (defScope s_part_names) := ⟨rfl, rfl, rfl, by decide +kernel, rfl, by decide +kernel, by decide +kernel⟩
theorem ok_part_names {f : Addr} {fd : FuncData} (F : Fun K "part_names" "part_names" s_part_names f fd) (T : Txt mg) : FnOk P w K mg base CX0 1 f fd ["ware"] sp_part_names := by
  refine F.ok sc_part_names (fun vs H Q E h => ?_) (fun cdv A outer s H vs Q E hr h => ?_)
  · obtain ⟨v, d, rfl, _⟩ := h
    rfl
  · obtain ⟨v, d, rfl, hv, hw, k⟩ := h
    have hu := hu_of hr
    refine ⟨_, (pss_one (ps_ret (pe_comp (own := ["part"]) (cap := []) rfl (cp_ok rfl) (gown_name (by decide)) (pi_tpl (pe_item hu (pv 0) (pe_globI rfl T.g_PARTS) (fun _ _ => rfl)))
 (fun _ _ _ _ _ _ => ⟨(pg_name (i := 0) (of_decide_eq_true rfl) rfl (Or.inl rfl) (.inr rfl)), pts_nil, (pe_item hu (pv 0) pe_int (fun _ _ => rfl))⟩)))), ?_⟩
    walk_at "rd"
    obtain ⟨n, l, g', f', s', c, ps, rfl, hp6, hps, epd⟩ := isWare_parts hw
    rw [epd] at k
    obtain ⟨a, xs, rfl, ha, hxl, _, g⟩ := rep_two hv
    obtain ⟨v0, e0, r0⟩ := g 6 _ rfl
    rw [Rep] at r0
    obtain ⟨b, ys, rfl, hb, hz, r⟩ := r0
    refine ⟨_, item_t (j := 6) ha e0, b, rfl, ys, hb, ?_⟩
    refine comp_map (goesT b ys) (by rw [r.length]; exact line1000 (by omega)) (fun H' s' => s' _ _ hb) ((ps.map nameOf).map V.str) (by simp [r.length]) (fun i y H' hi hy s' N M hN => ?_) (fun H' s' q hq => k q _ (Same.free s' hq) upd_same (s'.trans (same_upd hq)))
    obtain ⟨d, hd, rd⟩ := r.get hy
    obtain ⟨z, bb, rfl⟩ := isPart_name (hps d (List.mem_of_getElem? hd))
    walk_at "rd"
    exact ⟨_, rep_name (rd.same s'), hN _ _ s' (by rw [List.getElem?_map, List.getElem?_map, hd]; rfl)⟩
end
section
variable {P : Program} {w : World} {K : PySem.W.Frag} {mg : Str → Option Value} {base : Heap}
theorem isWant_name {d : D} (h : isWant d = true) : ∃ x b, d = .tup (.str x :: b) := by
  unfold isWant at h
  split at h
  · rename_i a b c
    simp only [Bool.and_eq_true] at h
    cases a with
    | str x => exact ⟨x, _, rfl⟩
    | _ => exact absurd h.1.1 Bool.false_ne_true
  · cases h
def sp_needed_names : Sp := fun vs H Q _ => ∃ (v : V) (ws us : List D), vs = [v] ∧ Rep H (.tup [.tup ws, .tup us]) v ∧ (∀ d ∈ ws, isWare d = true) ∧ ws.length ≤ 12 ∧ (∀ d ∈ us, isWant d = true) ∧ us.length ≤ 20 ∧ ∀ p H', H p = none → H' p = some (.lst ((needD ws us).map V.str)) → Same H H' → Q (.ref p) H'
def NdInv (v : V) (p : Addr) (ws us : List D) (H : Hp) (i : Nat) (σ : St) (H' : Hp) : Prop := ∃ o2 : Option V, σ = [some v, some (.ref p), o2] ∧ H' p = some (.lst ((needD (ws.take i) us).map V.str)) ∧ Same H H'
theorem need_len {ws us : List D} (hw : ∀ d ∈ ws, isWare d = true) : (needD ws us).length ≤ us.length + 6 * ws.length := by
  unfold needD
  rw [List.length_append, List.length_map]
  have : ((ws.map fun w => (partsD w).map nameOf).flatten).length ≤ 6 * ws.length := by
    induction ws with
    | nil => exact Nat.le_refl _
    | cons d r ih =>
      obtain ⟨_, _, _, _, _, _, ps, _, h6, _, e⟩ := isWare_parts (hw d List.mem_cons_self)
      rw [List.map_cons, List.flatten_cons, List.length_append, List.length_map, e, List.length_cons]
      have := ih fun x hx => hw x (List.mem_cons_of_mem _ hx)
      omega
  omega
theorem sc_needed_names : FnScope ["shop", "names", "ware"] ["shop"] (defScope s_needed_names) := ⟨rfl, rfl, rfl, by decide +kernel, rfl, by decide +kernel, by decide +kernel⟩
theorem ok_needed_names {f : Addr} {fd : FuncData} (F : Fun K "needed_names" "needed_names" s_needed_names f fd) (T : Txt mg) (h_part_names : Has P w K mg base "part_names" 1 ["ware"] sp_part_names) : FnOk P w K mg base CX0 2 f fd ["shop"] sp_needed_names := by
  refine F.ok sc_needed_names (fun vs H Q E h => ?_) (fun cdv A outer s H vs Q E hr h => ?_)
  · obtain ⟨v, ws, us, rfl, _⟩ := h
    rfl
  · obtain ⟨v, ws, us, rfl, hv, hw, hl, hus, hul, k⟩ := h
    have hu := hu_of hr
    refine ⟨_, (pss_cons (ps_setcomp (own := ["want"]) (cap := []) (i := 1) rfl (cp_ok rfl) (gown_name (by decide)) sc_needed_names.nd rfl rfl (pi_tpl (pe_item hu (pv 0) pe_int (fun _ _ => rfl)))
 (fun _ _ _ _ _ _ => ⟨(pg_name (i := 0) (of_decide_eq_true rfl) rfl (Or.inl rfl) (.inr rfl)), pts_nil, (pe_item hu (pv 0) pe_int (fun _ _ => rfl))⟩))
 (pss_cons (ps_for PassesOwn.never rfl (pi_tpl (pe_item hu (pv 0) pe_int (fun _ _ => rfl))) (pg_name (i := 2) sc_needed_names.nd rfl (Or.inl rfl))
 (pss_one (ps_expr (pe_bs PySem.F.plainAttrs_list PySem.F.slot_list_extend PySem.F.type_list_extend mt_extend (pv 1) (pa_e (pe_callS h_part_names (hr.mono (by decide)) rfl (pa_e (pv 2) pa_nil)) pa_nil)))))
 (pss_one (ps_ret (pv 1))))), ?_⟩
    walk_at "rd"
    obtain ⟨a, xs, rfl, ha, hxl, _, g⟩ := rep_two hv
    obtain ⟨v0, e0, r0⟩ := g 0 _ rfl
    obtain ⟨v1, e1, r1⟩ := g 1 _ rfl
    rw [Rep] at r0 r1
    obtain ⟨b, ys, rfl, hb, hz, r⟩ := r0
    obtain ⟨c, zs, rfl, hc, hz1, rz⟩ := r1
    refine ⟨_, item_t (j := 1) ha e1, c, rfl, zs, hc, ?_⟩
    refine comp_map (goesT c zs) (by rw [rz.length]; exact line1000 (by omega)) (fun H' s' => s' _ _ hc) ((us.map nameOf).map V.str) (by simp [rz.length]) (fun i y H' hi hy s' N M hN => ?_) (fun H1 s1 p hp => ?_)
    · obtain ⟨d, hd, rd⟩ := rz.get hy
      obtain ⟨z, bb, rfl⟩ := isWant_name (hus d (List.mem_of_getElem? hd))
      walk_at "rd"
      exact ⟨_, rep_name (rd.same s'), hN _ _ s' (by rw [List.getElem?_map, List.getElem?_map, hd]; rfl)⟩
    have u1 := s1.trans (same_upd (o := .lst ((us.map nameOf).map V.str)) hp)
    have fp : H p = none := Same.free s1 hp
    refine ⟨_, item_t (j := 0) (u1 _ _ ha) e0, b, rfl, ys, u1 _ _ hb, ?_⟩
    refine for_w (goesT b ys) (NdInv (.ref a) p ws us H) ⟨_, rfl, by rw [upd_same]; unfold needD; simp, u1⟩ (fun i σ H' _ h => let ⟨_, _, _, s⟩ := h; s _ _ hb) (fun i x σ H2 hi hx h => ?_) (fun σ H2 h => ?_)
    · obtain ⟨o2, rfl, hp2, s2⟩ := h
      obtain ⟨d, hd, rd⟩ := r.get hx
      have hdm := List.mem_of_getElem? hd
      obtain ⟨_, _, _, _, _, _, ps, _, h6, _, epd⟩ := isWare_parts (hw d hdm)
      walk_at "rd"
      refine ⟨ty_lst hp2, x, d, rfl, rd.same s2, hw d hdm, fun q H3 hq hq3 s3 => ?_⟩
      have hp3 := s3 _ _ hp2
      have hnl := need_len (us := us) (ws := ws.take i) fun x hx => hw x (List.mem_of_mem_take hx)
      rw [List.length_take] at hnl
      have hil := (List.getElem?_eq_some_iff.mp hd).1
      refine ⟨p, q, _, _, rfl, rfl, hp3, hq3, Nat.le_trans (m := 1000) (by rw [List.length_map, List.length_map, List.length_map, epd]; omega) (by decide), _, rfl, ?_, fun b' o' e => ?_⟩
      · rw [upd_same, ← List.map_append]
        congr 3
        unfold needD
        rw [List.take_add_one, hd, List.map_append, List.flatten_append, List.append_assoc]
        simp
      · rw [upd_ne (ne_of_none e fp)]
        exact s3 _ _ (s2 _ _ e)
    · obtain ⟨o2, rfl, hp2, s2⟩ := h
      walk_at "rd"
      rw [r.length, List.take_length] at hp2
      exact k p H2 fp hp2 s2
def sp_is_shop : Sp := fun vs H Q _ => ∃ v d, vs = [v] ∧ Rep H d v ∧ ∀ H', Same H H' → Q (.bl (isShop d)) H'
theorem sc_is_shop : FnScope ["found", "names"] ["found"] (defScope s_is_shop) := ⟨rfl, rfl, rfl, by decide +kernel, rfl, by decide +kernel, by decide +kernel⟩
theorem ok_is_shop {f : Addr} {fd : FuncData} (F : Fun K "is_shop" "is_shop" s_is_shop f fd) (T : Txt mg) (h_are_wants : Has P w K mg base "are_wants" 5 ["found"] sp_are_wants) (h_are_wares : Has P w K mg base "are_wares" 7 ["found"] sp_are_wares) (h_is_tuple : Has P w K mg base "is_tuple" 1 ["found", "least", "most"] sp_is_tuple) (h_names_of : Has P w K mg base "names_of" 1 ["shop"] sp_names_of) (h_needed_names : Has P w K mg base "needed_names" 2 ["shop"] sp_needed_names) : FnOk P w K mg base CX0 8 f fd ["found"] sp_is_shop := by
  refine F.ok sc_is_shop (fun vs H Q E h => ?_) (fun cdv A outer s H vs Q E hr h => ?_)
  · obtain ⟨v, d, rfl, _⟩ := h
    rfl
  · obtain ⟨v, d, rfl, hv, k⟩ := h
    have hu := hu_of hr
    refine ⟨_, (pss_cons (ps_if (PW.pt (pw_or (pt_not (pt_val (pe_callS h_is_tuple (hr.mono (by decide)) rfl (pa_e (pv 0) (pa_e pe_int (pa_e pe_int pa_nil)))))) (pw_or (pt_not (pt_val (pe_callS h_are_wares (hr.mono (by decide)) rfl (pa_e (pe_item hu (pv 0) pe_int (fun _ _ => rfl)) pa_nil)))) (pw_or1 (pt_not (pt_val (pe_callS h_are_wants (hr.mono (by decide)) rfl (pa_e (pe_item hu (pv 0) pe_int (fun _ _ => rfl)) pa_nil)))))))) (pss_one (ps_ret pe_bl)) pss_nil)
 (pss_cons (ps_set (i := 1) sc_is_shop.nd rfl (Or.inr rfl) (pe_callS h_names_of (hr.mono (by decide)) rfl (pa_e (pv 0) pa_nil)))
 (pss_one (ps_ret (pe_callBS (call_all rfl) rfl T.n_all bt_all (pa_e (pe_comp (own := ["name"]) (cap := [1]) rfl (cp_ok rfl) (gown_name (by decide)) (pi_lst (pe_callS h_needed_names (hr.mono (by decide)) rfl (pa_e (pv 0) pa_nil)))
 (fun _ _ _ _ _ _ => ⟨(pg_name (i := 0) (of_decide_eq_true rfl) rfl (Or.inl rfl) (.inr rfl)), pts_nil, (pe_cmpR (op_inA hu) (pv 0) (pv 1) rfl)⟩)) pa_nil)))))), ?_⟩
    walk_at "rd"
    refine ⟨v, d, 2, 2, rfl, hv, fun H1 s1 => ?_⟩
    walk_at "rd"
    have no : isShop d = false → Q (.bl false) H1 := fun e => by
      have k := k H1 s1
      rw [e] at k
      exact k
    cases h : isTuple d 2 2 with
    | false =>
      rw [if_pos (by decide)]
      refine no ?_
      unfold isShop
      split
      · cases h
      · rfl
    | true =>
    rw [if_neg (by decide)]
    obtain ⟨x, y, rfl⟩ := isTuple_two h
    obtain ⟨a, xs, rfl, ha, hl, _, g⟩ := rep_two (hv.same s1)
    obtain ⟨v0, e0, r0⟩ := g 0 _ rfl
    obtain ⟨v1, e1, r1⟩ := g 1 _ rfl
    refine ⟨_, item_t (j := 0) ha e0, v0, x, rfl, r0, fun H2 s2 => ⟨_, rfl, ?_⟩⟩
    cases h1 : areWares x with
    | false =>
      rw [if_pos (by decide)]
      have e : isShop (.tup [x, y]) = false := by
        unfold isShop
        split
        · rename_i ws us e
          cases e
          rw [h1, Bool.false_and, Bool.false_and]
        · rfl
      have k := k H2 (s1.trans s2)
      rw [e] at k
      exact k
    | true =>
    rw [if_neg (by decide)]
    refine ⟨_, item_t (j := 1) (s2 _ _ ha) e1, v1, y, rfl, r1.same s2, fun H3 s3 => ⟨_, rfl, ?_⟩⟩
    cases h2 : areWants y with
    | false =>
      rw [if_pos (by decide)]
      have e : isShop (.tup [x, y]) = false := by
        unfold isShop
        split
        · rename_i ws us e
          cases e
          rw [h2, Bool.and_false, Bool.false_and]
        · rfl
      have k := k H3 ((s1.trans s2).trans s3)
      rw [e] at k
      exact k
    | true =>
    rw [if_neg (by decide)]
    obtain ⟨ws, rfl⟩ : ∃ ws, x = .tup ws := by
      cases x with
      | tup ws => exact ⟨ws, rfl⟩
      | _ => cases h1
    obtain ⟨us, rfl⟩ : ∃ us, y = .tup us := by
      cases y with
      | tup us => exact ⟨us, rfl⟩
      | _ => cases h2
    have h1' : (decide (1 ≤ ws.length) && decide (ws.length ≤ 12) && ws.all isWare && unl (ws.map nameOf)) = true := h1
    have h2' : (decide (us.length ≤ 20) && us.all isWant) = true := h2
    simp only [Bool.and_eq_true] at h1' h2'
    have hw : ∀ d ∈ ws, isWare d = true := List.all_eq_true.mp h1'.1.2
    have hwl := of_decide_eq_true h1'.1.1.2
    have hus : ∀ d ∈ us, isWant d = true := List.all_eq_true.mp h2'.2
    have hul := of_decide_eq_true h2'.1
    have s03 := (s1.trans s2).trans s3
    refine ⟨_, ws, .tup us, rfl, hv.same s03, hw, hwl, fun p H4 hp hp4 s4 => ?_⟩
    refine ⟨_, ws, us, rfl, (hv.same s03).same s4, hw, hwl, hus, hul, fun q H5 hq hq5 s5 => ⟨q, rfl, _, hq5, ?_⟩⟩
    have hnl := need_len (us := us) hw
    have hp5 := s5 _ _ hp4
    refine comp_map (goesL q _) (line1000 (by rw [List.length_map]; omega)) (fun H' s' => s' _ _ hq5) (((needD ws us).map fun z => decide (z ∈ ws.map nameOf)).map V.bl) (by rw [List.length_map, List.length_map, List.length_map]) (fun i z H' hi hz s' N M hN => ?_) (fun H6 s6 r hr6 => ?_)
    · rw [List.getElem?_map] at hz
      cases en : (needD ws us)[i]? with
      | none => rw [en] at hz; cases hz
      | some nm =>
      rw [en] at hz
      have hz : V.str nm = z := Option.some.inj hz
      subst hz
      walk_at "rd"
      refine ⟨_, .inl ⟨p, _, rfl, .inl (s' _ _ hp5), rfl, all_flatS _, rfl⟩, ?_⟩
      rw [inV_strs]
      exact hN _ _ s' (by rw [List.getElem?_map, List.getElem?_map, en]; rfl)
    · refine ⟨r, rfl, _, upd_same, ?_⟩
      have k := k _ ((s03.trans s4).trans ((s5.trans s6).trans (same_upd (o := .lst (((needD ws us).map fun z => decide (z ∈ ws.map nameOf)).map V.bl)) hr6)))
      have e : isShop (.tup [.tup ws, .tup us]) = ((needD ws us).map fun z => decide (z ∈ ws.map nameOf)).all id := by
        show (areWares (.tup ws) && areWants (.tup us) && (needD ws us).all fun x => decide (x ∈ ws.map nameOf)) = _
        rw [h1, h2, Bool.true_and, Bool.true_and, List.all_map]
        rfl
      rw [e] at k
      exact k
end
set_option maxRecDepth 100000
set_option maxHeartbeats 4000000
section
variable {P : Program} {w : World} {K : PySem.W.Frag} {mg : Str → Option Value} {base : Heap}
def figs : List Nat := ("0123456789" : Str).cps.toList
def noNought (x : Str) : Bool := decide (x = "0") || !decide ((⟨#[x.cps.toList.headD 0]⟩ : Str) = "0")
def isNumS (x : Str) : Bool := decide (1 ≤ x.length) && decide (x.length ≤ 60) && (x.cps.toList.all fun c => decide (c ∈ figs)) && noNought x
def isNumD : D → Bool
  | .str x => isNumS x
  | _ => false
theorem num_end {x : Str} {bs : List Bool} {Q : VK} {H2 : Hp} (hx : x.length ≤ 1000) (h1 : 1 ≤ x.length) (k : Q (V.bl (bs.all id && noNought x)) H2) :
    if (!bs.all id) = true then Q (V.bl false) H2 else scal (V.str x) (V.str (Str.ofString "0")) = true ∧ if decide (x = Str.ofString "0") = true then Q (V.bl true) H2 else ∃ v, Item H2 (V.str x) (V.int 0) v ∧ scal v (V.str (Str.ofString "0")) = true ∧ Q (V.bl !decide (v = V.str (Str.ofString "0"))) H2 := by
  cases ha : bs.all id with
  | false =>
    rw [ha] at k
    exact k
  | true =>
    rw [ha, Bool.true_and] at k
    rw [if_neg (by decide)]
    refine ⟨rfl, ite2 (fun h4 => ?_) (fun h4 => ?_)⟩
    · have : noNought x = true := by
        unfold noNought
        have h4 : decide (x = ("0" : Str)) = true := h4
        rw [h4]
        rfl
      rw [this] at k
      exact k
    · have hl : x.cps.toList.length = x.length := Array.length_toList
      refine ⟨_, item_s (line1000 hx) (by decide) (c := x.cps.toList.headD 0) ?_, rfl, ?_⟩
      · cases e : x.cps.toList with
        | nil => rw [e] at hl; simp at hl; omega
        | cons a r => rfl
      · have : noNought x = !decide (V.str (⟨#[x.cps.toList.headD 0]⟩ : Str) = V.str (Str.ofString "0")) := by
          unfold noNought
          have h4 : decide (x = ("0" : Str)) = false := Bool.eq_false_iff.mpr h4
          rw [h4, Bool.false_or]
          congr 1
          exact decide_eq_decide.mpr ⟨fun z => by rw [z], fun z => V.str.inj z⟩
        rw [this] at k
        exact k
def sp_is_number : Sp := fun vs H Q _ => ∃ v d, vs = [v] ∧ Rep H d v ∧ ∀ H', Same H H' → Q (.bl (isNumD d)) H'
theorem sc_is_number : FnScope ["word"] ["word"] (defScope s_is_number) := ⟨rfl, rfl, rfl, by decide +kernel, rfl, by decide +kernel, by decide +kernel⟩
theorem ok_is_number {f : Addr} {fd : FuncData} (F : Fun K "is_number" "is_number" s_is_number f fd) (T : Txt mg) : FnOk P w K mg base CX0 1 f fd ["word"] sp_is_number := by
  refine F.ok sc_is_number (fun vs H Q E h => ?_) (fun cdv A outer s H vs Q E hr h => ?_)
  · obtain ⟨v, d, rfl, _⟩ := h
    rfl
  · obtain ⟨v, d, rfl, hv, k⟩ := h
    have hu := hu_of hr
    refine ⟨_, (pss_cons (ps_if (PW.pt (pw_or (pt_not (pt_val (pe_callBS call_isinst rfl T.n_isinstance bt_isinstance (pa_e (pv 0) (pa_e (pe_bltn (v := .ty "str") rfl T.n_str bt_str rfl) pa_nil))))) (pw_or1 (pt_not (pt_chain op_le op_le pe_int (pe_callBS call_lenA rfl T.n_len bt_len (pa_e (pv 0) pa_nil)) (pe_globI rfl T.g_MOST_FIGURES)))))) (pss_one (ps_ret pe_bl)) pss_nil)
 (pss_cons (ps_if (pt_not (pt_val (pe_callBS (call_all rfl) rfl T.n_all bt_all (pa_e (pe_comp (own := ["sign"]) (cap := []) rfl (cp_ok rfl) (gown_name (by decide)) (pi_any (pv 0))
 (fun _ _ _ _ _ _ => ⟨(pg_name (i := 0) (of_decide_eq_true rfl) rfl (Or.inl rfl) (.inr rfl)), pts_nil, (pe_cmpR (op_inA hu) (pv 0) (pe_globS rfl T.g_FIGURES) rfl)⟩)) pa_nil)))) (pss_one (ps_ret pe_bl)) pss_nil)
 (pss_one (ps_ret (pe_or (pe_cmpR (op_eqA hu) (pv 0) pe_str (nomark _)) (pe_one (pe_cmpR (op_neA hu) (pe_item hu (pv 0) pe_int (fun _ _ => rfl)) pe_str (nomark _)))))))), ?_⟩
    simp only [tSeq, tNext, tRet, tRetN, tAsg, tIfS, tDrop, tAug, gName, gSub, tVar, tC, tCB, tCons, tNil, tCall, tOp, tUn, tTest, tB, tAnd, tOr, tNot, tAndV, tOrV, tNotV, tIf, tTup, tLst, tSl, tPart, tNoPart, tBA, tBA0, tDNewK, tChain, tYes, rI, rI0, rU, rEq, rNe, rIsA, rIsnotA, rItem, lenA, rIAddA, rAddA, rMulA, listA, tupleA, lenQ, lenS, lenD, rSetD, rAddS, iLst, iTpl, iTxt, rCat, rCatTT, rRepT, iRng1, iRng2, iDct, tTruL, tTruD, tLrev, tIf, iEnum, iRev, iZip2, iZip3, rEqD, rNeD, rEqK, rNeK, iItm, tSortK, SortAsk, rSortS, rSortD, rSortT, rDictK, rClearD, rSum, rMaxL, rMinL, tMaxd, rGetL, rGetD, tAugS, rRep, rInsert, rMax2, rCount, rIndexS, rLtT, rAppend, rPopAt, rReverse, rSetA, rSetL, L2.start, cpSt, tComp_eq, tFor_eq, iAny_eq, rStrK, rIExt, rRepD, rStrI, rIntT, rStrS, rSplit, rJoin, tKGet, iZipT,  D.ty, isi_NoneType_bool, isi_NoneType_int, isi_NoneType_str, isi_NoneType_list, isi_NoneType_tuple, isi_NoneType_dict, isi_bool_bool, isi_bool_int, isi_bool_str, isi_bool_list, isi_bool_tuple, isi_bool_dict, isi_int_bool, isi_int_int, isi_int_str, isi_int_list, isi_int_tuple, isi_int_dict, isi_str_bool, isi_str_int, isi_str_str, isi_str_list, isi_str_tuple, isi_str_dict, isi_list_bool, isi_list_int, isi_list_str, isi_list_list, isi_list_tuple, isi_list_dict, isi_tuple_bool, isi_tuple_int, isi_tuple_str, isi_tuple_list, isi_tuple_tuple, isi_tuple_dict, isi_dict_bool, isi_dict_int, isi_dict_str, isi_dict_list, isi_dict_tuple, isi_dict_dict, mem_int, mem_bool, mem_str, mem_list, mem_tuple, mem_dict, Nat.reduceAdd, Nat.reduceSub, Nat.zero_add, Nat.sub_self, List.replicate_zero, List.replicate_succ, List.getD_cons_zero, List.getD_cons_succ, ↓reduceIte, List.map_cons, List.map_nil, List.append_nil, List.nil_append, List.cons_append, List.length_cons, List.length_nil, List.set_cons_zero, List.set_cons_succ, List.set_nil, List.getElem?_cons_zero, List.getElem?_cons_succ, Option.some.injEq, exists_eq_left', exists_eq_left, V.int.injEq, V.bl.injEq, V.str.injEq, V.ref.injEq, V.ty.injEq, List.cons.injEq, and_true, true_and, and_assoc, exists_and_left, exists_eq_right, reduceCtorEq, false_and, and_false, exists_false, or_false, false_or, hv.ty]
    cases d with
    | str x =>
      rw [Rep] at hv
      obtain ⟨rfl, hx⟩ := hv
      have k0 := k H (Same.refl H)
      simp only [tSeq, tNext, tRet, tRetN, tAsg, tIfS, tDrop, tAug, gName, gSub, tVar, tC, tCB, tCons, tNil, tCall, tOp, tUn, tTest, tB, tAnd, tOr, tNot, tAndV, tOrV, tNotV, tIf, tTup, tLst, tSl, tPart, tNoPart, tBA, tBA0, tDNewK, tChain, tYes, rI, rI0, rU, rEq, rNe, rIsA, rIsnotA, rItem, lenA, rIAddA, rAddA, rMulA, listA, tupleA, lenQ, lenS, lenD, rSetD, rAddS, iLst, iTpl, iTxt, rCat, rCatTT, rRepT, iRng1, iRng2, iDct, tTruL, tTruD, tLrev, tIf, iEnum, iRev, iZip2, iZip3, rEqD, rNeD, rEqK, rNeK, iItm, tSortK, SortAsk, rSortS, rSortD, rSortT, rDictK, rClearD, rSum, rMaxL, rMinL, tMaxd, rGetL, rGetD, tAugS, rRep, rInsert, rMax2, rCount, rIndexS, rLtT, rAppend, rPopAt, rReverse, rSetA, rSetL, L2.start, cpSt, tComp_eq, tFor_eq, iAny_eq, rStrK, rIExt, rRepD, rStrI, rIntT, rStrS, rSplit, rJoin, tKGet, iZipT,  D.ty, isi_NoneType_bool, isi_NoneType_int, isi_NoneType_str, isi_NoneType_list, isi_NoneType_tuple, isi_NoneType_dict, isi_bool_bool, isi_bool_int, isi_bool_str, isi_bool_list, isi_bool_tuple, isi_bool_dict, isi_int_bool, isi_int_int, isi_int_str, isi_int_list, isi_int_tuple, isi_int_dict, isi_str_bool, isi_str_int, isi_str_str, isi_str_list, isi_str_tuple, isi_str_dict, isi_list_bool, isi_list_int, isi_list_str, isi_list_list, isi_list_tuple, isi_list_dict, isi_tuple_bool, isi_tuple_int, isi_tuple_str, isi_tuple_list, isi_tuple_tuple, isi_tuple_dict, isi_dict_bool, isi_dict_int, isi_dict_str, isi_dict_list, isi_dict_tuple, isi_dict_dict, mem_int, mem_bool, mem_str, mem_list, mem_tuple, mem_dict, Nat.reduceAdd, Nat.reduceSub, Nat.zero_add, Nat.sub_self, List.replicate_zero, List.replicate_succ, List.getD_cons_zero, List.getD_cons_succ, ↓reduceIte, List.map_cons, List.map_nil, List.append_nil, List.nil_append, List.cons_append, List.length_cons, List.length_nil, List.set_cons_zero, List.set_cons_succ, List.set_nil, List.getElem?_cons_zero, List.getElem?_cons_succ, Option.some.injEq, exists_eq_left', exists_eq_left, V.int.injEq, V.bl.injEq, V.str.injEq, V.ref.injEq, V.ty.injEq, List.cons.injEq, and_true, true_and, and_assoc, exists_and_left, exists_eq_right, reduceCtorEq, false_and, and_false, exists_false, or_false, false_or, Bool.not_true, Bool.false_eq_true, V.str.injEq]
      refine ⟨line1000 hx, ite2 (fun h1 => ite2 (fun h2 => ?_) (fun h2 => ?_)) (fun h1 => ?_)⟩
      · have e : isNumS x = false := by
          unfold isNumS
          have : ¬ (x.length ≤ 60) := by
            simp at h2
            omega
          simp [this]
        rw [show isNumD (.str x) = false from e] at k0
        exact k0
      · have e1 : decide (1 ≤ x.length) = true := decide_eq_true (by have := of_decide_eq_true h1; omega)
        have e2 : decide (x.length ≤ 60) = true := decide_eq_true (by simp at h2; omega)
        refine comp_map (goesS x) (line1000 hx) (fun _ _ => trivial) ((x.cps.toList.map fun c => decide (c ∈ figs)).map V.bl) (by simp) (fun i y H' hi hy s' N M hN => ?_) (fun H' s' p hp => ?_)
        · obtain ⟨c, hc, rfl⟩ := hy
          walk_at "rd"
          refine ⟨_, .inr (.inl ⟨_, _, rfl, rfl, rfl⟩), ?_⟩
          rw [StrLaws.found_one]
          refine hN _ _ s' ?_
          rw [List.getElem?_map, List.getElem?_map, Array.getElem?_toList, hc]
          rfl
        · refine ⟨p, rfl, _, upd_same, ?_⟩
          have k := k _ (s'.trans (same_upd (o := .lst ((x.cps.toList.map fun c => decide (c ∈ figs)).map V.bl)) hp))
          generalize upd H' p (.lst ((x.cps.toList.map fun c => decide (c ∈ figs)).map V.bl)) = H2 at k ⊢
          have e : isNumD (.str x) = ((x.cps.toList.map fun c => decide (c ∈ figs)).all id && noNought x) := by
            show isNumS x = _
            unfold isNumS
            rw [e1, e2, List.all_map]
            rfl
          rw [e] at k
          exact num_end hx (of_decide_eq_true e1) k
      · rw [if_pos (by rfl)]
        have e : isNumS x = false := by
          unfold isNumS
          have : ¬ (1 ≤ x.length) := by
            simp at h1
            omega
          simp [this]
        rw [show isNumD (.str x) = false from e] at k0
        exact k0
    | _ => exact k H (Same.refl H)
theorem toDig_len : ∀ (k m : Nat), m < 10 ^ (k + 1) → (Nat.toDigits 10 m).length ≤ k + 1
  | 0, m, h => by rw [Nat.toDigits_of_lt_base (by omega)]; exact Nat.le_refl _
  | k + 1, m, h => by
    by_cases z : m < 10
    · rw [Nat.toDigits_of_lt_base z]
      show 1 ≤ k + 1 + 1
      omega
    · have hm : m % 10 < 10 := Nat.mod_lt m (by decide)
      have t : Nat.toDigits 10 (m / 10) ++ Nat.toDigits 10 (m % 10) = Nat.toDigits 10 (10 * (m / 10) + m % 10) := Nat.toDigits_append_toDigits (by decide) (by omega) hm
      rw [Nat.div_add_mod] at t
      rw [← t, List.length_append, Nat.toDigits_of_lt_base hm]
      have := toDig_len k (m / 10) (by rw [Nat.pow_succ] at h; omega)
      show _ + 1 ≤ _
      omega
theorem toDig_head : ∀ (m : Nat), 0 < m → ∃ c r, Nat.toDigits 10 m = c :: r ∧ c.toNat ≠ 48 := by
  intro m
  induction m using Nat.strongRecOn with
  | _ m ih =>
    intro h0
    by_cases z : m < 10
    · rw [Nat.toDigits_of_lt_base z]
      have k : ∀ d : Nat, d < 10 → 0 < d → (Nat.digitChar d).toNat ≠ 48 := by decide
      exact ⟨_, [], rfl, k m z h0⟩
    · have hm : m % 10 < 10 := Nat.mod_lt m (by decide)
      have t : Nat.toDigits 10 (m / 10) ++ Nat.toDigits 10 (m % 10) = Nat.toDigits 10 (10 * (m / 10) + m % 10) := Nat.toDigits_append_toDigits (by decide) (by omega) hm
      rw [Nat.div_add_mod] at t
      obtain ⟨c, r, e, hc⟩ := ih (m / 10) (by omega) (by omega)
      exact ⟨c, r ++ Nat.toDigits 10 (m % 10), by rw [← t, e]; rfl, hc⟩
theorem str_num {n : Int} (h0 : 0 ≤ n) (h1 : n < 10 ^ 60) : isNumS (Str.ofString (toString n)) = true ∧ PySem.intText? (Str.ofString (toString n)) = some n ∧ 1 ≤ (Str.ofString (toString n)).length ∧ (Str.ofString (toString n)).length ≤ 60 := by
  obtain ⟨m, rfl⟩ := Int.eq_ofNat_of_zero_le h0
  have hs := KIN.signs_num m
  have hl : (Str.ofString (toString ((m : Nat) : Int))).cps.toList.length = (Str.ofString (toString ((m : Nat) : Int))).length := Array.length_toList
  rw [hs, List.length_map] at hl
  have a1 := toDig_len 59 m (by omega)
  have a0 := toDigits_len_ge 10 m
  have hd : ∀ c ∈ (Str.ofString (toString ((m : Nat) : Int))).cps.toList, 48 ≤ c ∧ c ≤ 57 := by
    intro c hc
    rw [hs] at hc
    obtain ⟨ch, hch, e⟩ := List.mem_map.mp hc
    have r := PyProof.Rows.digit_range (Nat.isDigit_of_mem_toDigits (by decide) (by decide) hch)
    rw [← e]
    exact r
  have ne : (Str.ofString (toString ((m : Nat) : Int))).cps.toList ≠ [] := by
    intro e
    have := congrArg List.length e
    rw [hs, List.length_map, List.length_nil] at this
    omega
  refine ⟨?_, ?_, by omega, by omega⟩
  · unfold isNumS
    rw [decide_eq_true (by omega : 1 ≤ _), decide_eq_true (by omega : _ ≤ 60), Bool.true_and, Bool.true_and, Bool.and_eq_true]
    constructor
    · rw [List.all_eq_true]
      intro c hc
      have := hd c hc
      have k : ∀ c : Nat, 48 ≤ c → c ≤ 57 → c ∈ figs := by
        intro c h1 h2
        have : c = 48 ∨ c = 49 ∨ c = 50 ∨ c = 51 ∨ c = 52 ∨ c = 53 ∨ c = 54 ∨ c = 55 ∨ c = 56 ∨ c = 57 := by omega
        rcases this with e | e | e | e | e | e | e | e | e | e <;> rw [e] <;> decide +kernel
      exact decide_eq_true (k c this.1 this.2)
    · unfold noNought
      by_cases z : m = 0
      · subst z
        have : (Str.ofString (toString (((0 : Nat)) : Int))) = ("0" : Str) := rfl
        rw [decide_eq_true this]
        rfl
      · obtain ⟨c, r, e, hc⟩ := toDig_head m (by omega)
        have : ¬ ((⟨#[(Str.ofString (toString ((m : Nat) : Int))).cps.toList.headD 0]⟩ : Str) = "0") := by
          rw [hs, e]
          intro q
          have q := congrArg (fun z : Str => z.cps.toList) q
          have e2 : ("0" : Str).cps.toList = [48] := by decide +kernel
          rw [e2] at q
          exact hc (List.cons.inj q).1
        rw [decide_eq_false this, Bool.not_false, Bool.or_true]
  · have e := intText_digits hd ne (by omega)
    rw [hs, KIN.val_back] at e
    exact e
def sp_read_number : Sp := fun vs H Q _ => ∃ (x : Str) (n : Int), vs = [.str x] ∧ x.length ≤ 60 ∧ isNumS x = true ∧ PySem.intText? x = some n ∧ ∀ H', Same H H' → Q (.int n) H'
theorem sc_read_number : FnScope ["word"] ["word"] (defScope s_read_number) := ⟨rfl, rfl, rfl, by decide +kernel, rfl, by decide +kernel, by decide +kernel⟩
theorem ok_read_number {f : Addr} {fd : FuncData} (F : Fun K "read_number" "read_number" s_read_number f fd) (T : Txt mg) (h_is_number : Has P w K mg base "is_number" 1 ["word"] sp_is_number) : FnOk P w K mg base CX0 2 f fd ["word"] sp_read_number := by
  refine F.ok sc_read_number (fun vs H Q E h => ?_) (fun cdv A outer s H vs Q E hr h => ?_)
  · obtain ⟨x, n, rfl, _⟩ := h
    rfl
  · obtain ⟨x, n, rfl, hx, hb, hn, k⟩ := h
    have hu := hu_of hr
    refine ⟨_, (pss_cons (ps_if (pt_not (pt_val (pe_callS h_is_number (hr.mono (by decide)) rfl (pa_e (pv 0) pa_nil)))) pss_never pss_nil)
 (pss_one (ps_ret (pe_callTS call_intT rfl T.n_int bt_int (pa_e (pv 0) pa_nil))))), ?_⟩
    walk_at "rd"
    refine ⟨.str x, .str x, rfl, by rw [Rep]; exact ⟨rfl, by omega⟩, fun H1 sm => ⟨isNumD (.str x), rfl, ?_⟩⟩
    rw [show isNumD (.str x) = true from hb, if_neg (by decide)]
    exact ⟨n, hn, by omega, k H1 sm⟩
def sp_read_name : Sp := fun vs H Q _ => ∃ (x : Str), vs = [.str x] ∧ isNameS x = true ∧ ∀ H', Same H H' → Q (.str x) H'
theorem sc_read_name : FnScope ["word"] ["word"] (defScope s_read_name) := ⟨rfl, rfl, rfl, by decide +kernel, rfl, by decide +kernel, by decide +kernel⟩
theorem ok_read_name {f : Addr} {fd : FuncData} (F : Fun K "read_name" "read_name" s_read_name f fd) (T : Txt mg) (h_is_name : Has P w K mg base "is_name" 1 ["found"] sp_is_name) : FnOk P w K mg base CX0 2 f fd ["word"] sp_read_name := by
  refine F.ok sc_read_name (fun vs H Q E h => ?_) (fun cdv A outer s H vs Q E hr h => ?_)
  · obtain ⟨x, rfl, _⟩ := h
    rfl
  · obtain ⟨x, rfl, hb, k⟩ := h
    have hu := hu_of hr
    refine ⟨_, (pss_cons (ps_if (pt_not (pt_val (pe_callS h_is_name (hr.mono (by decide)) rfl (pa_e (pv 0) pa_nil)))) pss_never pss_nil)
 (pss_one (ps_ret (pv 0)))), ?_⟩
    walk_at "rd"
    have hx : x.length ≤ 8 := by
      unfold isNameS at hb
      simp only [Bool.and_eq_true, decide_eq_true_eq] at hb
      exact hb.1.2
    refine ⟨.str x, .str x, rfl, by rw [Rep]; exact ⟨rfl, by omega⟩, fun H1 sm => ⟨isName (.str x), rfl, ?_⟩⟩
    rw [show isName (.str x) = true from hb, if_neg (by decide)]
    exact k H1 sm
end
set_option maxRecDepth 100000
set_option maxHeartbeats 4000000
section
variable {P : Program} {w : World} {K : PySem.W.Frag} {mg : Str → Option Value} {base : Heap}
def cellT : Key → Str
  | .inl i => Str.ofString (toString i)
  | .inr x => x
def cellF : Key → Str
  | .inl _ => "number"
  | .inr _ => "name"
def CellOk : Key → Prop
  | .inl i => 0 ≤ i ∧ i < 10 ^ 60
  | .inr x => isNameS x = true
def sp_read_words (K : PySem.W.Frag) : Sp := fun vs H Q _ => ∃ (a b : Addr) (ks : List Key), vs = [.ref a, .ref b] ∧ H a = some (.lst ((ks.map cellT).map V.str)) ∧ SqT K H b ((ks.map cellF).map V.str) ∧ ks.length ≤ 100 ∧ (∀ k ∈ ks, CellOk k) ∧ ∀ p H', H p = none → H' p = some (.lst (ks.map kV)) → Same H H' → Q (.ref p) H'
def RwInv (a b p : Addr) (ks : List Key) (H : Hp) (i : Nat) (σ : St) (H' : Hp) : Prop := ∃ o1 o2 : Option V, σ = [some (.ref a), some (.ref b), some (.ref p), o1, o2] ∧ H' p = some (.lst ((ks.take i).map kV)) ∧ Same H H'
theorem sqT_same {K : PySem.W.Frag} {H H' : Hp} {b : Addr} {xs : List V} (h : SqT K H b xs) (s : Same H H') : SqT K H' b xs := by
  rcases h with (e | ⟨o, e⟩) | h
  · exact .inl (.inl (s _ _ e))
  · exact .inl (.inr ⟨o, s _ _ e⟩)
  · exact .inr h
theorem sc_read_words : FnScope ["words", "form", "told", "word", "sort"] ["words", "form"] (defScope s_read_words) := ⟨rfl, rfl, rfl, by decide +kernel, rfl, by decide +kernel, by decide +kernel⟩
theorem ok_read_words {f : Addr} {fd : FuncData} (F : Fun K "read_words" "read_words" s_read_words f fd) (T : Txt mg) (h_read_name : Has P w K mg base "read_name" 2 ["word"] sp_read_name) (h_read_number : Has P w K mg base "read_number" 2 ["word"] sp_read_number) : FnOk P w K mg base CX0 3 f fd ["words", "form"] (sp_read_words K) := by
  refine F.ok sc_read_words (fun vs H Q E h => ?_) (fun cdv A outer s H vs Q E hr h => ?_)
  · obtain ⟨a, b, ks, rfl, _⟩ := h
    rfl
  · obtain ⟨a, b, ks, rfl, ha, hb, hl, ok, k⟩ := h
    have hu := hu_of hr
    refine ⟨_, (pss_cons (ps_if (PW.pt (pw_or (pt_cmpR op_isA (pv 1) pe_non (nomark _)) (pw_or1 (pt_cmpR (op_neA hu) (pe_callBS call_len_q rfl T.n_len bt_len (pa_e (pv 0) pa_nil)) (pe_callBS call_len_seq rfl T.n_len bt_len (pa_e (pv 1) pa_nil)) (nomark _))))) pss_never pss_nil)
 (pss_cons (ps_set (i := 2) sc_read_words.nd rfl (Or.inl rfl) (pe_lst pa_nil))
 (pss_cons (ps_for PassesOwn.never rfl (pi_zipT rfl T.n_zip (pa_e (pv 0) (pa_e (pv 1) pa_nil))) (pg_tup (n := 2) rfl (pgs_cons (pg_name (i := 3) sc_read_words.nd rfl (Or.inl rfl)) (pgs_cons (pg_name (i := 4) sc_read_words.nd rfl (Or.inl rfl)) pgs_nil)))
 (pss_one (ps_expr (pe_bs PySem.F.plainAttrs_list PySem.F.slot_list_append PySem.F.type_list_append mt_append (pv 2) (pa_e (pe_ifExp (pt_cmpR (op_eqA hu) (pv 4) pe_str (nomark _)) (pe_callS h_read_name (hr.mono (by decide)) rfl (pa_e (pv 3) pa_nil)) (pe_callS h_read_number (hr.mono (by decide)) rfl (pa_e (pv 3) pa_nil))) pa_nil)))))
 (pss_one (ps_ret (pv 2)))))), ?_⟩
    walk_at "rd"
    rw [if_neg (by decide)]
    refine ⟨_, .inl ha, _, .inr hb, rfl, ?_⟩
    rw [if_neg (by rw [decide_eq_true (by simp only [List.length_map])]; decide)]
    refine ⟨by decide, fun p hp => ?_⟩
    have u := same_upd (o := .lst []) hp
    have hpa : a ≠ p := ne_of_none ha hp
    refine ⟨_, u _ _ ha, _, sqT_same hb u, ?_⟩
    have hmin : min ((ks.map cellT).map V.str).length ((ks.map cellF).map V.str).length = ks.length := by simp only [List.length_map, Nat.min_self]
    refine for_t (goesZT _ a b _ _) (RwInv a b p ks H) ⟨_, _, rfl, upd_same, u⟩ (fun i σ H' _ h => ?_) (fun i ys t σ H' hi hy h ht => ?_) (fun σ H' h => ?_)
    · obtain ⟨_, _, _, _, s'⟩ := h
      exact ⟨s' _ _ ha, sqT_same hb s'⟩
    · obtain ⟨o1, o2, rfl, hp1, s1⟩ := h
      obtain ⟨y, z, ey, ez, rfl⟩ := hy
      rw [List.getElem?_map, List.getElem?_map] at ey ez
      obtain ⟨kk, ek⟩ : ∃ kk, ks[i]? = some kk := ⟨_, List.getElem?_eq_getElem (by rw [hmin] at hi; exact hi)⟩
      rw [ek] at ey ez
      have ey : V.str (cellT kk) = y := Option.some.inj ey
      have ez : V.str (cellF kk) = z := Option.some.inj ez
      subst ey ez
      have ut := same_upd (o := .tup [V.str (cellT kk), V.str (cellF kk)]) ht
      have s2 := s1.trans ut
      have hp2 := ut _ _ hp1
      refine gT2 ?_
      generalize upd H' t (.tup [V.str (cellT kk), V.str (cellF kk)]) = H2 at s2 hp2
      walk_at "rd"
      have okk := ok kk (List.mem_of_getElem? ek)
      have hlen : ((ks.take i).map kV).length < 1000 := by rw [List.length_map, List.length_take]; omega
      have go : ∀ H3, Same H2 H3 → ∃ x, H3 p = some (.lst x) ∧ x.length < sizeLine ∧ RwInv a b p ks H (i + 1) [some (.ref a), some (.ref b), some (.ref p), some (.str (cellT kk)), some (.str (cellF kk))] (upd H3 p (.lst (x ++ [kV kk]))) := fun H3 s3 => by
        refine ⟨_, s3 _ _ hp2, Nat.lt_of_lt_of_le hlen (line1000 (Nat.le_refl _)), _, _, rfl, ?_, fun c o e => ?_⟩
        · rw [upd_same, List.take_add_one, ek, List.map_append]
          rfl
        · rw [upd_ne (ne_of_none e hp)]
          exact s3 _ _ (s2 _ _ e)
      refine ⟨ty_lst hp2, rfl, ?_⟩
      cases kk with
      | inr x =>
        rw [if_pos (by show decide (("name" : Str) = "name") = true; decide +kernel)]
        exact ⟨x, rfl, okk, fun H3 s3 => go H3 s3⟩
      | inl n =>
        rw [if_neg (by show ¬ decide (("number" : Str) = "name") = true; decide +kernel)]
        have q := str_num okk.1 okk.2
        exact ⟨_, n, rfl, q.2.2.2, q.1, q.2.1, fun H3 s3 => go H3 s3⟩
    · obtain ⟨o1, o2, rfl, hp1, s1⟩ := h
      rw [hmin, List.take_length] at hp1
      walk_at "rd"
      exact k p H' hp hp1 s1
end
set_option maxRecDepth 100000
set_option maxHeartbeats 4000000
section
variable {P : Program} {w : World} {K : PySem.W.Frag} {mg : Str → Option Value} {base : Heap}
theorem cutV_from {xs : List V} {i : Int} (hi : 0 ≤ i) : cutV xs (some i) none = xs.drop i.toNat := by
  unfold cutV
  rw [sIx_nn hi]
  have e : HT.sIx xs.length xs.length none = xs.length := rfl
  rw [e]
  by_cases h : i.toNat ≤ xs.length
  · rw [Nat.min_eq_left h, List.take_of_length_le (by rw [List.length_drop]; exact Nat.le_refl _)]
  · have h : xs.length ≤ i.toNat := by omega
    rw [Nat.min_eq_right h, List.drop_length, List.drop_of_length_le h, List.take_nil]
def formsW : List (Str × List Str) := [("ware", ["name", "number", "number", "number", "number"]), ("coming", ["name", "number", "number"]), ("part", ["name", "name", "number"]), ("want", ["name", "number", "number"])]
structure RowOk (r : Str × List Key) : Prop where
  form : (r.1, r.2.map cellF) ∈ formsW
  cells : ∀ k ∈ r.2, CellOk k
def rowT (r : Str × List Key) : Str := Str.join (one 32) (r.1 :: r.2.map cellT)
def rowV (r : Str × List Key) : List V := .str r.1 :: r.2.map kV
theorem cell_no {k : Key} (h : CellOk k) : (32 ∉ (cellT k).cps.toList ∧ 10 ∉ (cellT k).cps.toList) ∧ (cellT k).length ≤ 60 := by
  cases k with
  | inl n =>
    obtain ⟨h1, h2, h3, h4⟩ := str_num h.1 h.2
    refine ⟨?_, h4⟩
    unfold isNumS at h1
    simp only [Bool.and_eq_true] at h1
    have all := List.all_eq_true.mp h1.1.2
    exact ⟨fun z => absurd (of_decide_eq_true (all 32 z)) (by decide +kernel), fun z => absurd (of_decide_eq_true (all 10 z)) (by decide +kernel)⟩
  | inr x =>
    have h : isNameS x = true := h
    unfold isNameS at h
    simp only [Bool.and_eq_true, decide_eq_true_eq] at h
    have all := List.all_eq_true.mp h.2
    exact ⟨⟨fun z => absurd (of_decide_eq_true (all 32 z)) (by decide +kernel), fun z => absurd (of_decide_eq_true (all 10 z)) (by decide +kernel)⟩, Nat.le_trans h.1.2 (by decide)⟩
theorem first_no {r : Str × List Key} (h : RowOk r) : (32 ∉ r.1.cps.toList ∧ 10 ∉ r.1.cps.toList) ∧ r.1.length ≤ 60 ∧ r.2.length ≤ 5 := by
  have hf := h.form
  unfold formsW at hf
  simp only [List.mem_cons, List.not_mem_nil, or_false, Prod.mk.injEq] at hf
  have g : ∀ x : Str, x = "ware" ∨ x = "coming" ∨ x = "part" ∨ x = "want" → (32 ∉ x.cps.toList ∧ 10 ∉ x.cps.toList) ∧ x.length ≤ 60 := fun x hx => by
    rcases hx with rfl | rfl | rfl | rfl <;> decide +kernel
  have hl : r.2.length = (r.2.map cellF).length := by rw [List.length_map]
  rcases hf with ⟨e1, e2⟩ | ⟨e1, e2⟩ | ⟨e1, e2⟩ | ⟨e1, e2⟩ <;> rw [e2] at hl
  · exact ⟨(g r.1 (.inl e1)).1, (g r.1 (.inl e1)).2, by rw [hl]; decide⟩
  · exact ⟨(g r.1 (.inr (.inl e1))).1, (g r.1 (.inr (.inl e1))).2, by rw [hl]; decide⟩
  · exact ⟨(g r.1 (.inr (.inr (.inl e1)))).1, (g r.1 (.inr (.inr (.inl e1)))).2, by rw [hl]; decide⟩
  · exact ⟨(g r.1 (.inr (.inr (.inr e1)))).1, (g r.1 (.inr (.inr (.inr e1)))).2, by rw [hl]; decide⟩
theorem words_all {r : Str × List Key} (h : RowOk r) {P : Str → Prop} (h1 : P r.1) (h2 : ∀ k ∈ r.2, P (cellT k)) : ∀ w ∈ r.1 :: r.2.map cellT, P w := fun w hw => by
  rcases List.mem_cons.mp hw with rfl | hw
  · exact h1
  · obtain ⟨k, hk, rfl⟩ := List.mem_map.mp hw
    exact h2 k hk
theorem row_split {r : Str × List Key} (h : RowOk r) : Txt.split (rowT r) (one 32) = r.1 :: r.2.map cellT :=
  split_join (by decide) (by simp) (words_all h (P := fun w => 32 ∉ w.cps.toList) (first_no h).1.1 fun k hk => (cell_no (h.cells k hk)).1.1)
theorem row_len {r : Str × List Key} (h : RowOk r) : (rowT r).length ≤ 400 := by
  have := join_len (sep := one 32) (B := 60) (words_all h (P := fun w => w.length ≤ 60) (first_no h).2.1 fun k hk => (cell_no (h.cells k hk)).2)
  have hl := (first_no h).2.2
  simp only [List.length_cons, List.length_map] at this
  have l1 : (one 32).length = 1 := rfl
  unfold rowT
  rw [l1] at this
  omega
def sp_read_row : Sp := fun vs H Q _ => ∃ (r : Str × List Key), vs = [.str (rowT r)] ∧ RowOk r ∧ ∀ p H', H p = none → H' p = some (.lst (rowV r)) → Same H H' → Q (.ref p) H'
theorem sc_read_row : FnScope ["row", "words"] ["row"] (defScope s_read_row) := ⟨rfl, rfl, rfl, by decide +kernel, rfl, by decide +kernel, by decide +kernel⟩
theorem ok_read_row {f : Addr} {fd : FuncData} (F : Fun K "read_row" "read_row" s_read_row f fd) (T : Txt mg) (R : Rws w K mg) (h_read_words : Has P w K mg base "read_words" 3 ["words", "form"] (sp_read_words K)) : FnOk P w K mg base CX0 4 f fd ["row"] sp_read_row := by
  refine F.ok sc_read_row (fun vs H Q E h => ?_) (fun cdv A outer s H vs Q E hr h => ?_)
  · obtain ⟨r, rfl, _⟩ := h
    rfl
  · obtain ⟨r, rfl, ok, k⟩ := h
    have hu := hu_of hr
    obtain ⟨R_a, R_l, R_m, R_t, f1, f2, f3, f4, _⟩ := R
    refine ⟨_, (pss_cons (ps_set (i := 1) sc_read_row.nd rfl (Or.inl rfl) (pe_bs PySem.F.plainAttrs_str PySem.F.slot_str_split PySem.F.type_str_split mt_split (pv 0) (pa_e pe_str pa_nil)))
 (pss_one (ps_ret (pe_op op_cat (pe_lst (pa_e (pe_item hu (pv 1) pe_int (fun _ _ => rfl)) pa_nil)) (pe_callS h_read_words (hr.mono (by decide)) rfl (pa_e (pe_slice sl_lstA (pv 1) (po_some pe_int) po_none) (pa_e (pe_kget R_t (pe_glob (v := .ref R_a) rfl R_m rfl) (pe_item hu (pv 1) pe_int (fun _ _ => rfl)) ⟨rfl, rfl, rfl, rfl⟩) pa_nil))))))), ?_⟩
    walk_at "rd"
    have fm : FormK K R_l r.1 (r.2.map cellF) := by
      have hf := ok.form
      unfold formsW at hf
      simp only [List.mem_cons, List.not_mem_nil, or_false, Prod.mk.injEq] at hf
      rcases hf with ⟨q1, q2⟩ | ⟨q1, q2⟩ | ⟨q1, q2⟩ | ⟨q1, q2⟩ <;> rw [q1, q2] <;> assumption
    obtain ⟨fa, tl, q1, q2, q3⟩ := fm
    have hl5 := (first_no ok).2.2
    have htl : tl.length ≤ 1000 := by
      have := congrArg List.length q3
      rw [List.length_map, List.length_map] at this
      omega
    have sq : ∀ H' : Hp, SqT K H' fa ((r.2.map cellF).map V.str) := fun H' => by rw [← q3]; exact q2.sq htl H'
    refine ⟨rfl, 32, by decide +kernel, Nat.le_trans (row_len ok) (by decide), fun p hp => ?_⟩
    rw [row_split ok, List.map_cons]
    have u1 := same_upd (o := .lst (V.str r.1 :: (r.2.map cellT).map V.str)) hp
    refine ⟨_, item_l (j := 0) upd_same rfl, by decide, fun p1 hp1 => ?_⟩
    have u2 := same_upd (o := .lst [V.str r.1]) hp1
    refine ⟨_, u2 _ _ upd_same, fun p2 hp2 => ?_⟩
    have ec : cutV (V.str r.1 :: (r.2.map cellT).map V.str) (some 1) none = (r.2.map cellT).map V.str := by
      rw [cutV_from (by decide)]
      rfl
    rw [ec]
    have u3 := same_upd (o := .lst ((r.2.map cellT).map V.str)) hp2
    refine ⟨_, item_l (j := 0) (u3 _ _ (u2 _ _ upd_same)) rfl, _, rfl, ?_⟩
    rw [q1]
    have uu := (u1.trans u2).trans u3
    refine ⟨p2, fa, r.2, rfl, upd_same, sq _, by omega, ok.cells, fun p3 H3 hp3 hp3' s3 => ⟨p3, rfl, _, s3 _ _ (u3 _ _ upd_same), _, hp3', line1000 (by rw [List.length_map]; simp; omega), fun p4 hp4 => ?_⟩⟩
    exact k p4 _ (Same.free (uu.trans s3) hp4) upd_same ((uu.trans s3).trans (same_upd hp4))
end
set_option maxRecDepth 100000
set_option maxHeartbeats 4000000
section
variable {P : Program} {w : World} {K : PySem.W.Frag} {mg : Str → Option Value} {base : Heap}
def keyD : Key → PyData
  | .inl i => .int i
  | .inr x => .str x
abbrev R3 := Str × Str × List Key
def r3 (r : R3) : Str × List Key := (r.1, .inr r.2.1 :: r.2.2)
def r3D (r : R3) : PyData := .list (.str r.1 :: .str r.2.1 :: r.2.2.map keyD)
def tailD (r : R3) : PyData := .tuple (r.2.2.map keyD)
def pick (s n : Str) (r : R3) : Bool := decide (r.1 = s) && decide (r.2.1 = n)
theorem rd_key {H : Hp} {k : Key} {v : V} (h : RD H (keyD k) v) : v = kV k := by
  cases k with
  | inl i => rw [keyD, RD] at h; exact h
  | inr x => rw [keyD, RD] at h; exact h
theorem rd_keyM {H : Hp} (k : Key) : RD H (keyD k) (kV k) := by
  cases k with
  | inl i => exact RD.int_mk
  | inr x => exact RD.str_mk
theorem rds_keys {H : Hp} : ∀ {ks : List Key} {vs : List V}, RDs H (ks.map keyD) vs → vs = ks.map kV
  | [], vs, h => RDs.nil_of h
  | k :: r, vs, h => by
    obtain ⟨x, r', rfl, h1, h2⟩ := RDs.cons_of h
    rw [rd_key h1, rds_keys h2]
    rfl
theorem rds_keysM {H : Hp} : ∀ ks : List Key, RDs H (ks.map keyD) (ks.map kV)
  | [] => RDs.nil
  | k :: r => RDs.cons (rd_keyM k) (rds_keysM r)
theorem rd_list {H : Hp} {ds : List PyData} {v : V} (h : RD H (.list ds) v) : ∃ a xs, v = .ref a ∧ H a = some (.lst xs) ∧ RDs H ds xs := by rw [RD] at h; exact h
theorem r3_at {H : Hp} {r : R3} {v : V} (h : RD H (r3D r) v) : ∃ a, v = .ref a ∧ H a = some (.lst (.str r.1 :: .str r.2.1 :: r.2.2.map kV)) := by
  obtain ⟨a, xs, rfl, ha, hx⟩ := rd_list h
  obtain ⟨x, r1, rfl, h1, h2⟩ := RDs.cons_of hx
  obtain ⟨y, r2, rfl, h3, h4⟩ := RDs.cons_of h2
  rw [RD] at h1 h3
  rw [h1, h3, rds_keys h4] at ha
  exact ⟨a, rfl, ha⟩
def sp_rows_of : Sp := fun vs H Q _ => ∃ (a : Addr) (rs : List R3) (s n : Str), vs = [.ref a, .str s, .str n] ∧ RD H (.list (rs.map r3D)) (.ref a) ∧ rs.length ≤ 1000 ∧ (∀ r ∈ rs, r.2.2.length ≤ 5) ∧ ∀ p xs H', H p = none → H' p = some (.lst xs) → RDs H' ((rs.filter (pick s n)).map tailD) xs → Same H H' → Q (.ref p) H'
theorem sc_rows_of : FnScope ["rows", "sort", "name"] ["rows", "sort", "name"] (defScope s_rows_of) := ⟨rfl, rfl, rfl, by decide +kernel, rfl, by decide +kernel, by decide +kernel⟩
theorem ok_rows_of {f : Addr} {fd : FuncData} (F : Fun K "rows_of" "rows_of" s_rows_of f fd) (T : Txt mg) : FnOk P w K mg base CX0 1 f fd ["rows", "sort", "name"] sp_rows_of := by
  refine F.ok sc_rows_of (fun vs H Q E h => ?_) (fun cdv A outer s H vs Q E hr h => ?_)
  · obtain ⟨a, rs, s, n, rfl, _⟩ := h
    rfl
  · obtain ⟨a, rs, s', n, rfl, hrd, hl, hk, k⟩ := h
    have hu := hu_of hr
    refine ⟨_, (pss_one (ps_ret (pe_comp (own := ["row"]) (cap := [1, 2]) rfl (cp_ok rfl) (gown_name (by decide)) (pi_lst (pv 0))
 (fun _ _ _ _ _ _ => ⟨(pg_name (i := 0) (of_decide_eq_true rfl) rfl (Or.inl rfl) (.inr rfl)), (pts_one (PW.pt (pw_and (pt_cmpR (op_eqA hu) (pe_item hu (pv 0) pe_int (fun _ _ => rfl)) (pv 1) (nomark _)) (pw_and1 (pt_cmpR (op_eqA hu) (pe_item hu (pv 0) pe_int (fun _ _ => rfl)) (pv 2) (nomark _)))))), (pe_callTS call_tupleA rfl T.n_tuple bt_tuple (pa_e (pe_slice sl_lstA (pv 0) (po_some pe_int) po_none) pa_nil))⟩)))), ?_⟩
    walk_at "rd"
    obtain ⟨a', vs, ea, ha, rv⟩ := rd_list hrd
    cases ea
    have hvl := rds_len rv
    refine ⟨_, ha, ?_⟩
    refine comp_w (goesL a _) (line1000 (by omega)) (fun i acc H' => RDs H' (((rs.take i).filter (pick s' n)).map tailD) acc ∧ Same H H') ⟨RDs.nil, Same.refl _⟩ (fun i acc H' _ h => h.2 _ _ ha) (fun i acc H' h => ?_) (fun i x acc H' hi hx h => ?_) (fun acc H' h p hp => ?_)
    · have := rds_len h.1
      have h2 : ((rs.take i).filter (pick s' n)).length ≤ i := Nat.le_trans (List.length_filter_le _ _) (by rw [List.length_take]; omega)
      omega
    · obtain ⟨racc, s1⟩ := h
      obtain ⟨r, er, rr⟩ := rds_map rv hx
      obtain ⟨ra, rfl, hra⟩ := r3_at rr
      have hra1 := s1 _ _ hra
      have et : (rs.take (i + 1)).filter (pick s' n) = (rs.take i).filter (pick s' n) ++ if pick s' n r = true then [r] else [] := by
        rw [List.take_add_one, er, List.filter_append]
        congr 1
        by_cases z : pick s' n r = true
        · rw [if_pos z]; simp [z]
        · rw [if_neg z]; simp [z]
      walk_at "rd"
      refine ⟨_, item_l (j := 0) hra1 rfl, rfl, ?_⟩
      have no : pick s' n r = false → RDs H' (((rs.take (i + 1)).filter (pick s' n)).map tailD) acc ∧ Same H H' := fun z => by
        rw [et, if_neg (by rw [z]; decide), List.append_nil]
        exact ⟨racc, s1⟩
      refine ite2 (fun z1 => ⟨_, item_l (j := 1) hra1 rfl, rfl, ite2 (fun z2 => ?_) (fun z2 => no ?_)⟩) (fun z1 => no ?_)
      · have e1 : r.1 = s' := V.str.inj (of_decide_eq_true z1)
        have e2 : r.2.1 = n := V.str.inj (of_decide_eq_true z2)
        have ec : cutV (V.str r.1 :: V.str r.2.1 :: r.2.2.map kV) (some 2) none = r.2.2.map kV := by
          rw [cutV_from (by decide)]
          rfl
        refine ⟨_, hra1, fun p hp => ?_⟩
        rw [ec]
        refine ⟨_, .inl ⟨upd_same, fun l hl => ?_⟩⟩
        have u := (same_upd (o := .lst (r.2.2.map kV)) hp).trans (same_upd (o := .tup (r.2.2.map kV)) hl)
        refine ⟨?_, s1.trans u⟩
        rw [et, if_pos (by unfold pick; rw [decide_eq_true e1, decide_eq_true e2]; rfl), List.map_append]
        exact RDs.app (RDs.same u _ _ racc) (RDs.one (RD.tup_mk upd_same (rds_keysM _)))
      · have h2 : decide (r.2.1 = n) = false := decide_eq_false fun z => z2 (decide_eq_true (by rw [z]))
        unfold pick
        rw [h2, Bool.and_false]
      · have h1 : decide (r.1 = s') = false := decide_eq_false fun z => z1 (decide_eq_true (by rw [z]))
        unfold pick
        rw [h1, Bool.false_and]
    · obtain ⟨racc, s1⟩ := h
      rw [hvl, List.take_length] at racc
      exact k p acc _ (Same.free s1 hp) upd_same (RDs.same (same_upd hp) _ _ racc) (s1.trans (same_upd hp))
end
set_option maxRecDepth 100000
set_option maxHeartbeats 4000000
section
variable {P : Program} {w : World} {K : PySem.W.Frag} {mg : Str → Option Value} {base : Heap}
def wareD5 (rs : List R3) (r : R3) : PyData := .tuple ((.str r.2.1 :: r.2.2.map keyD) ++ [.tuple ((rs.filter (pick "coming" r.2.1)).map tailD), .tuple ((rs.filter (pick "part" r.2.1)).map tailD)])
def wantD5 (r : R3) : PyData := .tuple (.str r.2.1 :: r.2.2.map keyD)
def isS (s : Str) (r : R3) : Bool := decide (r.1 = s)
def wrD (rs : List R3) : PyData := .tuple [.tuple ((rs.filter (isS "ware")).map (wareD5 rs)), .tuple ((rs.filter (isS "want")).map wantD5)]
theorem nls_app : ∀ xs ys : List PyData, noLsts xs = true → noLsts ys = true → noLsts (xs ++ ys) = true
  | [], ys, _, h => h
  | x :: r, ys, h1, h2 => by
    rw [noLsts, Bool.and_eq_true] at h1
    rw [List.cons_append, noLsts, h1.1, nls_app r ys h1.2 h2]
    rfl
theorem nl_key (k : Key) : noLst (keyD k) = true := by cases k <;> rfl
theorem nl_tail (r : R3) : noLst (tailD r) = true := by
  unfold tailD
  rw [noLst]
  exact nl_map keyD nl_key _
theorem nl_ware5 (rs : List R3) (r : R3) : noLst (wareD5 rs r) = true := by
  unfold wareD5
  rw [noLst]
  refine nls_app _ _ ?_ ?_
  · rw [noLsts, nl_map keyD nl_key]
    rfl
  · simp only [noLsts, noLst, nl_map tailD nl_tail, Bool.and_true]
theorem isS_snoc {rs : List R3} {s : Str} {i : Nat} {r : R3} (h : rs[i]? = some r) : (rs.take (i + 1)).filter (isS s) = (rs.take i).filter (isS s) ++ if r.1 = s then [r] else [] := by
  rw [List.take_add_one, h, List.filter_append]
  congr 1
  unfold isS
  by_cases z : r.1 = s
  · rw [if_pos z]; simp [z]
  · rw [if_neg z]; simp [z]
theorem ku_lst5 {H : Hp} {l : Addr} {xs ys : List V} (h : H l = some (.lst xs)) : KeepU H (upd H l (.lst ys)) := ku_set h (fun _ z => by cases z)
def sp_written_shop : Sp := fun vs H Q _ => ∃ (a : Addr) (rs : List R3), vs = [.ref a] ∧ RD H (.list (rs.map r3D)) (.ref a) ∧ rs.length ≤ 1000 ∧ (∀ r ∈ rs, r.2.2.length ≤ 5) ∧ ∀ t H', RD H' (wrD rs) (.ref t) → Same H H' → Q (.ref t) H'
def WwInv (a q : Addr) (rs : List R3) (H : Hp) (i : Nat) (σ : St) (H' : Hp) : Prop := ∃ (vs : List V) (o1 o2 o3 : Option V), σ = [some (.ref a), some (.ref q), o1, o2, o3, none] ∧ H' q = some (.lst vs) ∧ RDs H' (((rs.take i).filter (isS "ware")).map (wareD5 rs)) vs ∧ Same H H'
theorem sc_written_shop : FnScope ["rows", "wares", "row", "coming", "parts", "wants"] ["rows"] (defScope s_written_shop) := ⟨rfl, rfl, rfl, by decide +kernel, rfl, by decide +kernel, by decide +kernel⟩
theorem ok_written_shop {f : Addr} {fd : FuncData} (F : Fun K "written_shop" "written_shop" s_written_shop f fd) (T : Txt mg) (h_rows_of : Has P w K mg base "rows_of" 1 ["rows", "sort", "name"] sp_rows_of) : FnOk P w K mg base CX0 2 f fd ["rows"] sp_written_shop := by
  refine F.ok sc_written_shop (fun vs H Q E h => ?_) (fun cdv A outer s H vs Q E hr h => ?_)
  · obtain ⟨a, rs, rfl, _⟩ := h
    rfl
  · obtain ⟨a, rs, rfl, hrd, hl, hk, k⟩ := h
    have hu := hu_of hr
    refine ⟨_, (pss_cons (ps_set (i := 1) sc_written_shop.nd rfl (Or.inl rfl) (pe_lst pa_nil))
 (pss_cons (ps_for PassesOwn.never rfl (pi_lst (pv 0)) (pg_name (i := 2) sc_written_shop.nd rfl (Or.inl rfl))
 (pss_one (ps_if (pt_cmpR (op_eqA hu) (pe_item hu (pv 2) pe_int (fun _ _ => rfl)) pe_str (nomark _)) (pss_cons (ps_set (i := 3) sc_written_shop.nd rfl (Or.inl rfl) (pe_callTS call_tupleA rfl T.n_tuple bt_tuple (pa_e (pe_callS h_rows_of (hr.mono (by decide)) rfl (pa_e (pv 0) (pa_e pe_str (pa_e (pe_item hu (pv 2) pe_int (fun _ _ => rfl)) pa_nil)))) pa_nil)))
 (pss_cons (ps_set (i := 4) sc_written_shop.nd rfl (Or.inl rfl) (pe_callTS call_tupleA rfl T.n_tuple bt_tuple (pa_e (pe_callS h_rows_of (hr.mono (by decide)) rfl (pa_e (pv 0) (pa_e pe_str (pa_e (pe_item hu (pv 2) pe_int (fun _ _ => rfl)) pa_nil)))) pa_nil)))
 (pss_one (ps_expr (pe_bs PySem.F.plainAttrs_list PySem.F.slot_list_append PySem.F.type_list_append mt_append (pv 1) (pa_e (pe_op op_catTT (pe_callTS call_tupleA rfl T.n_tuple bt_tuple (pa_e (pe_slice sl_lstA (pv 2) (po_some pe_int) po_none) pa_nil)) (pe_tup (pa_e (pv 3) (pa_e (pv 4) pa_nil)))) pa_nil)))))) pss_nil)))
 (pss_cons (ps_setcomp (own := ["row"]) (cap := []) (i := 5) rfl (cp_ok rfl) (gown_name (by decide)) sc_written_shop.nd rfl rfl (pi_lst (pv 0))
 (fun _ _ _ _ _ _ => ⟨(pg_name (i := 0) (of_decide_eq_true rfl) rfl (Or.inl rfl) (.inr rfl)), (pts_one (pt_cmpR (op_eqA hu) (pe_item hu (pv 0) pe_int (fun _ _ => rfl)) pe_str (nomark _))), (pe_callTS call_tupleA rfl T.n_tuple bt_tuple (pa_e (pe_slice sl_lstA (pv 0) (po_some pe_int) po_none) pa_nil))⟩))
 (pss_one (ps_ret (pe_tup (pa_e (pe_callTS call_tupleA rfl T.n_tuple bt_tuple (pa_e (pv 1) pa_nil)) (pa_e (pe_callTS call_tupleA rfl T.n_tuple bt_tuple (pa_e (pv 5) pa_nil)) pa_nil)))))))), ?_⟩
    walk_at "rd"
    obtain ⟨a', vs, ea, ha, rv⟩ := rd_list hrd
    cases ea
    have hvl := rds_len rv
    refine ⟨by decide, fun q hq => ?_⟩
    have uq := same_upd (o := .lst []) hq
    refine ⟨_, uq _ _ ha, ?_⟩
    refine for_w (goesL a _) (WwInv a q rs H) ⟨[], _, _, _, rfl, upd_same, RDs.nil, uq⟩ (fun i σ H' _ h => by obtain ⟨_, _, _, _, _, _, _, s'⟩ := h; exact s' _ _ ha) (fun i x σ H1 hi hx h => ?_) (fun σ H1 h => ?_)
    · obtain ⟨ws, o1, o2, o3, rfl, hq1, r1, s1⟩ := h
      obtain ⟨r, er, rr⟩ := rds_map rv hx
      obtain ⟨ra, rfl, hra⟩ := r3_at rr
      have hra1 := s1 _ _ hra
      walk_at "rd"
      refine ⟨_, item_l (j := 0) hra1 rfl, rfl, ite2 (fun z => ?_) (fun z => ?_)⟩
      · have z : r.1 = "ware" := V.str.inj (of_decide_eq_true z)
        refine ⟨_, item_l (j := 1) hra1 rfl, a, rs, _, _, rfl, RD.same s1 _ _ hrd, hl, hk, fun p2 x2 H2 hp2 hp2' rc2 sm2 => ⟨p2, rfl, x2, .inl ⟨hp2', fun l1 hl1 => ?_⟩⟩⟩
        have u3 := same_upd (o := .tup x2) hl1
        have s3 := (s1.trans sm2).trans u3
        have hl1' : upd H2 l1 (.tup x2) l1 = some (.tup x2) := upd_same
        have rc3 := RDs.same u3 _ _ rc2
        have hq3 := u3 _ _ (sm2 _ _ hq1)
        have r3' := RDs.same (sm2.trans u3) _ _ r1
        generalize upd H2 l1 (.tup x2) = H3 at s3 hl1' rc3 hq3 r3'
        refine ⟨_, item_l (j := 1) (s3 _ _ hra) rfl, a, rs, _, _, rfl, RD.same s3 _ _ hrd, hl, hk, fun p4 x4 H4 hp4 hp4' rc4 sm4 => ⟨p4, rfl, x4, .inl ⟨hp4', fun l2 hl2 => ?_⟩⟩⟩
        have u5 := same_upd (o := .tup x4) hl2
        have s5 := (s3.trans sm4).trans u5
        have hl2' : upd H4 l2 (.tup x4) l2 = some (.tup x4) := upd_same
        have hl15 := u5 _ _ (sm4 _ _ hl1')
        have rc5 := RDs.same (sm4.trans u5) _ _ rc3
        have rp5 := RDs.same u5 _ _ rc4
        have hq5 := u5 _ _ (sm4 _ _ hq3)
        have r5' := RDs.same (sm4.trans u5) _ _ r3'
        generalize upd H4 l2 (.tup x4) = H5 at s5 hl2' hl15 rc5 rp5 hq5 r5'
        have ec : cutV (V.str r.1 :: V.str r.2.1 :: r.2.2.map kV) (some 1) none = V.str r.2.1 :: r.2.2.map kV := by
          rw [cutV_from (by decide)]
          rfl
        refine ⟨ty_lst hq5, _, s5 _ _ hra, fun p6 hp6 => ?_⟩
        rw [ec]
        refine ⟨_, .inl ⟨upd_same, fun l3 hl3 => ⟨by decide, fun p7 hp7 => ?_⟩⟩⟩
        have u6 := (same_upd (o := .lst (V.str r.2.1 :: r.2.2.map kV)) hp6).trans (same_upd (o := .tup (V.str r.2.1 :: r.2.2.map kV)) hl3)
        have u7 := same_upd (o := .tup [V.ref l1, V.ref l2]) hp7
        have hkr := hk r (List.mem_of_getElem? er)
        refine ⟨_, u7 _ _ upd_same, _, upd_same, line1000 (by simp only [List.length_cons, List.length_map, List.length_nil]; omega), fun p8 H8 hp8 sm8 _ => ?_⟩
        have ux := (u6.trans u7).trans sm8
        have hlw := rds_len r1
        have hlw2 : ((rs.take i).filter (isS "ware")).length ≤ 1000 := Nat.le_trans (List.length_filter_le _ _) (by rw [List.length_take]; omega)
        have hiw : ((rs.take i).filter (isS "ware")).length < 1000 := Nat.lt_of_le_of_lt (List.length_filter_le _ _) (by rw [List.length_take]; have := (List.getElem?_eq_some_iff.mp er).1; omega)
        have hqx := ux _ _ hq5
        have kx := ku_lst5 (ys := ws ++ [V.ref p8]) hqx
        refine ⟨ws, hqx, Nat.lt_of_lt_of_le (show ws.length < 1000 by omega) (line1000 (Nat.le_refl _)), _, _, _, _, rfl, upd_same, ?_, ?_⟩
        · rw [isS_snoc er, if_pos z, List.map_append]
          refine RDs.app (RDs.ku (ux.ku.trans kx) _ _ (nl_map _ (nl_ware5 rs) _) r5') (RDs.one ?_)
          unfold wareD5
          refine RD.tup_mk (xs := (V.str r.2.1 :: r.2.2.map kV) ++ [V.ref l1, V.ref l2]) (kx _ _ hp8) (RDs.app (RDs.cons RD.str_mk (rds_keysM _)) (RDs.cons (RD.tup_mk ?_ (RDs.ku (ux.ku.trans kx) _ _ (nl_map _ nl_tail _) rc5)) (RDs.one (RD.tup_mk ?_ (RDs.ku (ux.ku.trans kx) _ _ (nl_map _ nl_tail _) rp5)))))
          · exact kx _ _ (ux _ _ hl15)
          · exact kx _ _ (ux _ _ hl2')
        · intro c o e
          rw [upd_ne (ne_of_none e hq)]
          exact ux _ _ (s5 _ _ e)
      · have z : ¬ r.1 = "ware" := fun y => z (decide_eq_true (by rw [y]))
        refine ⟨ws, _, _, _, rfl, hq1, ?_, s1⟩
        rw [isS_snoc er, if_neg z, List.append_nil]
        exact r1
    · obtain ⟨ws, o1, o2, o3, rfl, hq1, r1, s1⟩ := h
      rw [hvl, List.take_length] at r1
      walk_at "rd"
      refine ⟨_, s1 _ _ ha, ?_⟩
      refine comp_w (goesL a _) (line1000 (by omega)) (fun i acc H' => RDs H' (((rs.take i).filter (isS "want")).map wantD5) acc ∧ Same H1 H') ⟨RDs.nil, Same.refl _⟩ (fun i acc H' _ h => h.2 _ _ (s1 _ _ ha)) (fun i acc H' h => ?_) (fun i x acc H' hi hx h => ?_) (fun acc H' h p hp => ?_)
      · have := rds_len h.1
        have h2 : ((rs.take i).filter (isS "want")).length ≤ i := Nat.le_trans (List.length_filter_le _ _) (by rw [List.length_take]; omega)
        omega
      · obtain ⟨racc, s2⟩ := h
        obtain ⟨r, er, rr⟩ := rds_map rv hx
        obtain ⟨ra, rfl, hra⟩ := r3_at rr
        have hra1 := s2 _ _ (s1 _ _ hra)
        walk_at "rd"
        refine ⟨_, item_l (j := 0) hra1 rfl, rfl, ite2 (fun z => ?_) (fun z => ?_)⟩
        · have z : r.1 = "want" := V.str.inj (of_decide_eq_true z)
          have ec : cutV (V.str r.1 :: V.str r.2.1 :: r.2.2.map kV) (some 1) none = V.str r.2.1 :: r.2.2.map kV := by
            rw [cutV_from (by decide)]
            rfl
          refine ⟨_, hra1, fun p hp => ?_⟩
          rw [ec]
          refine ⟨_, .inl ⟨upd_same, fun l hl => ?_⟩⟩
          have u := (same_upd (o := .lst (V.str r.2.1 :: r.2.2.map kV)) hp).trans (same_upd (o := .tup (V.str r.2.1 :: r.2.2.map kV)) hl)
          refine ⟨?_, s2.trans u⟩
          rw [isS_snoc er, if_pos z, List.map_append]
          exact RDs.app (RDs.same u _ _ racc) (RDs.one (RD.tup_mk upd_same (RDs.cons RD.str_mk (rds_keysM _))))
        · have z : ¬ r.1 = "want" := fun y => z (decide_eq_true (by rw [y]))
          rw [isS_snoc er, if_neg z, List.append_nil]
          exact ⟨racc, s2⟩
      · obtain ⟨racc, s2⟩ := h
        rw [hvl, List.take_length] at racc
        have up := same_upd (o := .lst acc) hp
        refine ⟨ws, .inl ⟨(s2.trans up) _ _ hq1, fun l hl => ⟨p, rfl, acc, .inl ⟨same_upd hl _ _ upd_same, fun l2 hl2 => ⟨by decide, fun t ht => ?_⟩⟩⟩⟩⟩
        have v1 := same_upd (o := .tup ws) hl
        have v2 := same_upd (o := .tup acc) hl2
        have v3 := same_upd (o := .tup [V.ref l, V.ref l2]) ht
        have vv := (v1.trans v2).trans v3
        refine k t _ ?_ (((s1.trans s2).trans up).trans vv)
        unfold wrD
        exact RD.tup_mk upd_same (RDs.cons (RD.tup_mk (v3 _ _ (v2 _ _ upd_same)) (RDs.same ((s2.trans up).trans vv) _ _ r1)) (RDs.one (RD.tup_mk (v3 _ _ upd_same) (RDs.same (up.trans vv) _ _ racc))))
end
set_option maxRecDepth 100000
set_option maxHeartbeats 4000000
section
variable {P : Program} {w : World} {K : PySem.W.Frag} {mg : Str → Option Value} {base : Heap}
def textOf (rs : List R3) : Str := Str.join (one 10) (rs.map fun r => rowT (r3 r))
theorem row_no10 {r : Str × List Key} (h : RowOk r) : 10 ∉ (rowT r).cps.toList := by
  have g : ∀ ws : List Str, (∀ w ∈ ws, 10 ∉ w.cps.toList) → 10 ∉ (Str.join (one 32) ws).cps.toList := fun ws => by
    induction ws with
    | nil => intro _ z; exact absurd z (by decide +kernel)
    | cons w r ih =>
      intro hw
      cases r with
      | nil => exact hw w List.mem_cons_self
      | cons v r =>
        rw [join_cps]
        intro z
        rcases List.mem_append.mp z with z | z
        · exact hw w List.mem_cons_self z
        · rcases List.mem_cons.mp z with z | z
          · exact absurd z (by decide)
          · exact ih (fun y hy => hw y (List.mem_cons_of_mem _ hy)) z
  exact g _ (words_all h (P := fun w => 10 ∉ w.cps.toList) (first_no h).1.2 fun k hk => (cell_no (h.cells k hk)).1.2)
theorem text_split {rs : List R3} (h0 : rs ≠ []) (h : ∀ r ∈ rs, RowOk (r3 r)) : Txt.split (textOf rs) (one 10) = rs.map fun r => rowT (r3 r) :=
  split_join (by decide) (by simpa using h0) fun w hw => by
    obtain ⟨r, hr, rfl⟩ := List.mem_map.mp hw
    exact row_no10 (h r hr)
theorem text_len {rs : List R3} (h : ∀ r ∈ rs, RowOk (r3 r)) : (textOf rs).length ≤ rs.length * 400 + rs.length := by
  have := join_len (sep := one 10) (B := 400) (xs := rs.map fun r => rowT (r3 r)) fun w hw => by
    obtain ⟨r, hr, rfl⟩ := List.mem_map.mp hw
    exact row_len (h r hr)
  rw [List.length_map, show (one 10).length = 1 from rfl, Nat.mul_one] at this
  exact this
mutual
def toD : PyData → D
  | .int i => .int i
  | .str x => .str x
  | .tuple ds => .tup (toDs ds)
  | .none => .non
  | .bool b => .bl b
  | .list _ => .lst
  | .dict _ => .dct
def toDs : List PyData → List D
  | [] => []
  | d :: r => toD d :: toDs r
end
mutual
def fitD : PyData → Bool
  | .int _ => true
  | .str x => decide (x.length ≤ 1000)
  | .tuple ds => decide (ds.length ≤ 1000) && fitDs ds
  | .none => false
  | .bool _ => false
  | .list _ => false
  | .dict _ => false
def fitDs : List PyData → Bool
  | [] => true
  | d :: r => fitD d && fitDs r
end
theorem toDs_len : ∀ ds : List PyData, (toDs ds).length = ds.length
  | [] => rfl
  | d :: r => by rw [toDs, List.length_cons, List.length_cons, toDs_len r]
theorem toDs_map {α : Type} (f : α → PyData) : ∀ xs : List α, toDs (xs.map f) = xs.map fun x => toD (f x)
  | [] => rfl
  | x :: r => by rw [List.map_cons, toDs, toDs_map f r]; rfl
mutual
theorem rep_fit {H : Hp} : ∀ (d : PyData) (v : V), fitD d = true → RD H d v → Rep H (toD d) v
  | .int i, v, _, h => by rw [RD] at h; rw [toD, Rep]; exact h
  | .str x, v, f, h => by rw [RD] at h; rw [toD, Rep]; exact ⟨h, by rw [fitD] at f; exact of_decide_eq_true f⟩
  | .tuple ds, v, f, h => by
    rw [RD] at h
    obtain ⟨a, xs, h1, h2, h3⟩ := h
    rw [fitD, Bool.and_eq_true] at f
    rw [toD, Rep]
    exact ⟨a, xs, h1, h2, by rw [toDs_len]; exact of_decide_eq_true f.1, reps_fit ds xs f.2 h3⟩
  | .none, _, f, _ => by rw [fitD] at f; cases f
  | .bool _, _, f, _ => by rw [fitD] at f; cases f
  | .list _, _, f, _ => by rw [fitD] at f; cases f
  | .dict _, _, f, _ => by rw [fitD] at f; cases f
theorem reps_fit {H : Hp} : ∀ (ds : List PyData) (vs : List V), fitDs ds = true → RDs H ds vs → Reps H (toDs ds) vs
  | [], vs, _, h => by rw [RDs.nil_of h, toDs, Reps]
  | d :: r, vs, f, h => by
    rw [fitDs, Bool.and_eq_true] at f
    obtain ⟨x, r', rfl, h1, h2⟩ := RDs.cons_of h
    rw [toDs, Reps]
    exact ⟨x, r', rfl, rep_fit d x f.1 h1, reps_fit r r' f.2 h2⟩
end
end
set_option maxRecDepth 100000
set_option maxHeartbeats 4000000
section
variable {P : Program} {w : World} {K : PySem.W.Frag} {mg : Str → Option Value} {base : Heap}
theorem shop_wares {ws us : List D} (h : isShop (.tup [.tup ws, .tup us]) = true) : (∀ d ∈ ws, isWare d = true) ∧ ws.length ≤ 12 := by
  have h : (areWares (.tup ws) && areWants (.tup us) && (needD ws us).all fun x => decide (x ∈ ws.map nameOf)) = true := h
  simp only [Bool.and_eq_true] at h
  have ha : (decide (1 ≤ ws.length) && decide (ws.length ≤ 12) && ws.all isWare && unl (ws.map nameOf)) = true := h.1.1
  simp only [Bool.and_eq_true, decide_eq_true_eq] at ha
  exact ⟨fun d hd => List.all_eq_true.mp ha.1.2 d hd, ha.1.1.2⟩
structure ShopRows (rs : List R3) : Prop where
  ne : rs ≠ []
  len : rs.length ≤ 400
  ok : ∀ r ∈ rs, RowOk (r3 r)
  fit : fitD (wrD rs) = true
  shop : isShop (toD (wrD rs)) = true
  own : ∀ r ∈ rs, r.2.1 ∈ (rs.filter (isS "ware")).map (·.2.1)
theorem name5 (rs : List R3) (r : R3) : nameOf (toD (wareD5 rs r)) = r.2.1 := by
  unfold wareD5
  rw [toD, List.cons_append, toDs, toD]
  rfl
def sp_read_shop : Sp := fun vs H Q _ => ∃ (rs : List R3), vs = [.str (textOf rs)] ∧ ShopRows rs ∧ ∀ t H', RD H' (wrD rs) (.ref t) → Same H H' → Q (.ref t) H'
theorem sc_read_shop : FnScope ["text", "rows", "shop"] ["text"] (defScope s_read_shop) := ⟨rfl, rfl, rfl, by decide +kernel, rfl, by decide +kernel, by decide +kernel⟩
theorem ok_read_shop {f : Addr} {fd : FuncData} (F : Fun K "read_shop" "read_shop" s_read_shop f fd) (T : Txt mg) (h_read_row : Has P w K mg base "read_row" 4 ["row"] sp_read_row) (h_written_shop : Has P w K mg base "written_shop" 2 ["rows"] sp_written_shop) (h_names_of : Has P w K mg base "names_of" 1 ["shop"] sp_names_of) (h_is_shop : Has P w K mg base "is_shop" 8 ["found"] sp_is_shop) : FnOk P w K mg base CX0 9 f fd ["text"] sp_read_shop := by
  refine F.ok sc_read_shop (fun vs H Q E h => ?_) (fun cdv A outer s H vs Q E hr h => ?_)
  · obtain ⟨rs, rfl, _⟩ := h
    rfl
  · obtain ⟨rs, rfl, sr, k⟩ := h
    have hu := hu_of hr
    refine ⟨_, (pss_cons (ps_if (pt_not (pt_val (pe_callBS call_isinst rfl T.n_isinstance bt_isinstance (pa_e (pv 0) (pa_e (pe_bltn (v := .ty "str") rfl T.n_str bt_str rfl) pa_nil))))) pss_never pss_nil)
 (pss_cons (ps_setcomp (own := ["row"]) (cap := []) (i := 1) rfl (cp_ok rfl) (gown_name (by decide)) sc_read_shop.nd rfl rfl (pi_any (pe_bs PySem.F.plainAttrs_str PySem.F.slot_str_split PySem.F.type_str_split mt_split (pv 0) (pa_e pe_str pa_nil)))
 (fun _ _ _ _ _ _ => ⟨(pg_name (i := 0) (of_decide_eq_true rfl) rfl (Or.inl rfl) (.inr rfl)), pts_nil, (pe_callS h_read_row (hr.mono (by decide)) rfl (pa_e (pv 0) pa_nil))⟩))
 (pss_cons (ps_set (i := 2) sc_read_shop.nd rfl (Or.inr rfl) (pe_callS h_written_shop (hr.mono (by decide)) rfl (pa_e (pv 1) pa_nil)))
 (pss_cons (ps_if (PW.pt (pw_or (pt_not (pt_val (pe_callS h_is_shop (hr.mono (by decide)) rfl (pa_e (pv 2) pa_nil)))) (pw_or1 (pt_not (pt_val (pe_callBS (call_all rfl) rfl T.n_all bt_all (pa_e (pe_comp (own := ["row"]) (cap := [2]) rfl (cp_ok rfl) (gown_name (by decide)) (pi_lst (pv 1))
 (fun _ _ _ _ _ _ => ⟨(pg_name (i := 0) (of_decide_eq_true rfl) rfl (Or.inl rfl) (.inr rfl)), pts_nil, (pe_cmpR (op_inA hu) (pe_item hu (pv 0) pe_int (fun _ _ => rfl)) (pe_callS h_names_of (hr.mono (by decide)) rfl (pa_e (pv 1) pa_nil)) rfl)⟩)) pa_nil))))))) pss_never pss_nil)
 (pss_one (ps_ret (pv 2))))))), ?_⟩
    have hl := sr.len
    have htl := text_len sr.ok
    have h5 : ∀ r ∈ rs, r.2.2.length ≤ 5 := fun r hr => by
      have := (first_no (sr.ok r hr)).2.2
      have e : (r3 r).2.length = r.2.2.length + 1 := rfl
      omega
    walk_at "rd"
    refine ⟨_, rfl, ?_⟩
    rw [if_neg (by decide)]
    refine ⟨rfl, 10, by decide +kernel, by omega, fun p hp => .inl ⟨_, upd_same, ?_⟩⟩
    rw [text_split sr.ne sr.ok]
    have u1 := same_upd (o := .lst ((rs.map fun r => rowT (r3 r)).map V.str)) hp
    have hp1 : upd H p (.lst ((rs.map fun r => rowT (r3 r)).map V.str)) p = some (.lst ((rs.map fun r => rowT (r3 r)).map V.str)) := upd_same
    generalize upd H p (.lst ((rs.map fun r => rowT (r3 r)).map V.str)) = H1 at u1 hp1
    refine comp_w (goesL p _) (line1000 (by simp only [List.length_map]; omega)) (fun i acc H' => RDs H' ((rs.take i).map r3D) acc ∧ Same H1 H') ⟨RDs.nil, Same.refl _⟩ (fun i acc H' _ h => h.2 _ _ hp1) (fun i acc H' h => ?_) (fun i x acc H' hi hx h => ?_) (fun acc H2 h q hq => ?_)
    · have := rds_len h.1
      rw [List.length_take] at this
      omega
    · obtain ⟨racc, s1⟩ := h
      rw [List.getElem?_map, List.getElem?_map] at hx
      cases er : rs[i]? with
      | none => rw [er] at hx; cases hx
      | some r =>
      rw [er] at hx
      have hx : V.str (rowT (r3 r)) = x := Option.some.inj hx
      subst hx
      walk_at "rd"
      refine ⟨r3 r, rfl, sr.ok r (List.mem_of_getElem? er), fun p3 H3 hp3 hp3' s3 => ⟨?_, s1.trans s3⟩⟩
      rw [List.take_add_one, er, List.map_append]
      refine RDs.app (RDs.same s3 _ _ racc) (RDs.one ?_)
      show RD H3 (.list (.str r.1 :: .str r.2.1 :: r.2.2.map keyD)) (.ref p3)
      rw [RD]
      exact ⟨p3, _, rfl, hp3', RDs.cons RD.str_mk (RDs.cons RD.str_mk (rds_keysM _))⟩
    · obtain ⟨racc, s1⟩ := h
      simp only [List.length_map, List.take_length] at racc
      have u2 := same_upd (o := .lst acc) hq
      have hq2 : upd H2 q (.lst acc) q = some (.lst acc) := upd_same
      have s2 := (u1.trans s1).trans u2
      have racc := RDs.same u2 _ _ racc
      generalize upd H2 q (.lst acc) = H3 at hq2 s2 racc
      have rrd : RD H3 (.list (rs.map r3D)) (.ref q) := by rw [RD]; exact ⟨q, acc, rfl, hq2, racc⟩
      refine ⟨q, rs, rfl, rrd, by omega, h5, fun t H4 rt s4 => ?_⟩
      have rep4 := rep_fit _ _ sr.fit rt
      refine ⟨.ref t, toD (wrD rs), rfl, rep4, fun H5 s5 => ⟨_, rfl, ?_⟩⟩
      rw [sr.shop, if_neg (by decide)]
      have s05 := s4.trans s5
      obtain ⟨q', vs5, eq5, hq5, rv5⟩ := rd_list (RD.same s05 _ _ rrd)
      cases eq5
      have hv5 := rds_len rv5
      refine ⟨q, rfl, vs5, hq5, ?_⟩
      have sh := sr.shop
      unfold wrD at sh
      rw [toD, toDs, toDs, toDs, toD, toD] at sh
      obtain ⟨aw, lw⟩ := shop_wares sh
      refine comp_map (goesL q _) (line1000 (by omega)) (fun H' s' => s' _ _ hq5) ((rs.map fun _ => true).map V.bl) (by rw [List.length_map, List.length_map]; omega) (fun i x H' hi hx s' N M hN => ?_) (fun H' s' p6 hp6 => ?_)
      · obtain ⟨r, er, rr⟩ := rds_map rv5 hx
        obtain ⟨ra, rfl, hra⟩ := r3_at rr
        walk_at "rd"
        have rep6 := rep_fit _ _ sr.fit (RD.same (s5.trans s') _ _ rt)
        unfold wrD at rep6
        rw [toD, toDs, toDs, toDs, toD, toD] at rep6
        refine ⟨_, item_l (j := 1) (s' _ _ hra) rfl, .ref t, _, _, rfl, rep6, aw, lw, fun p7 H7 hp7 hp7' s7 => ⟨true, .inl ⟨p7, _, rfl, .inl hp7', rfl, all_flatS _, ?_⟩, hN _ _ (s'.trans s7) ?_⟩⟩
        · have hm := sr.own r (List.mem_of_getElem? er)
          rw [inV_strs, decide_eq_true]
          rw [toDs_map, List.map_map]
          have e : (nameOf ∘ fun x => toD (wareD5 rs x)) = fun r : R3 => r.2.1 := funext fun r => name5 rs r
          rw [e]
          exact hm
        · rw [List.getElem?_map, List.getElem?_map, er]
          rfl
      · refine ⟨p6, rfl, _, upd_same, ?_⟩
        rw [if_neg (by rw [show (rs.map fun _ => true).all id = true by rw [List.all_eq_true]; intro x hx; obtain ⟨y, _, rfl⟩ := List.mem_map.mp hx; rfl]; decide)]
        have u6 := same_upd (o := .lst ((rs.map fun _ => true).map V.bl)) hp6
        exact k t _ (RD.same (s5.trans (s'.trans u6)) _ _ rt) (s2.trans (s05.trans (s'.trans u6)))
end
set_option maxRecDepth 100000
set_option maxHeartbeats 4000000
section
variable {P : Program} {w : World} {K : PySem.W.Frag} {mg : Str → Option Value} {base : Heap}
theorem but_kuS {H H' : Hp} {st : Addr} (s : But st H H') (h : StOk H st) : KeepU H H' := fun a xs e => s a _ (h.neT e) e
theorem ku_lst {H : Hp} {l : Addr} {xs ys : List V} (h : H l = some (.lst xs)) : KeepU H (upd H l (.lst ys)) := ku_set h (fun _ z => by cases z)
def sp_law_next : Sp := fun vs H Q _ => ∃ st m, vs = [.ref st, .int m] ∧ StOk H st ∧ 0 < m ∧ m < 10 ^ 200 ∧ ∀ d H', 0 ≤ d → d < m → StOk H' st → But st H H' → Q (.int d) H'
theorem sc_law_next : FnScope ["_law_state", "_law_many", "_law_digit"] ["_law_state", "_law_many"] (defScope s_law_next) := ⟨rfl, rfl, rfl, by decide +kernel, rfl, by decide +kernel, by decide +kernel⟩
theorem ok_law_next {f : Addr} {fd : FuncData} (F : Fun K "_law_next" "_law_next" s_law_next f fd) (T : Txt mg) : FnOk P w K mg base CX0 1 f fd ["_law_state", "_law_many"] sp_law_next := by
  refine F.ok sc_law_next (fun vs H Q E h => ?_) (fun cdv A outer s H vs Q E hr h => ?_)
  · obtain ⟨st, m, rfl, _⟩ := h
    rfl
  · obtain ⟨st, m, rfl, ⟨ns, hne, hs⟩, h0, hm, k⟩ := h
    have hu := hu_of hr
    refine ⟨_, (pss_cons (ps_if (pt_cmpR op_gt (pe_callBS call_len_q rfl T.n_len bt_len (pa_e (pv 0) pa_nil)) pe_int (nomark _)) (pss_cons (ps_set (i := 2) sc_law_next.nd rfl (Or.inl rfl) (pe_op op_mod (pe_item hu (pv 0) pe_int (fun _ _ => rfl)) (pv 1)))
 (pss_cons (ps_asg (pe_op op_fdivL (pe_item hu (pv 0) pe_int (fun _ _ => rfl)) (pv 1)) (pg_sub (pv 0) pe_int set_list))
 (pss_cons (ps_if (pt_cmpR (op_inA hu) (pe_item hu (pv 0) pe_int (fun _ _ => rfl)) (pe_tup (pa_e pe_int (pa_e (pe_un un_neg pe_int) pa_nil))) rfl) (pss_one (ps_expr (pe_bs PySem.F.plainAttrs_list PySem.F.slot_list_pop PySem.F.type_list_pop mt_popAt (pv 0) (pa_e pe_int pa_nil)))) pss_nil)
 (pss_one (ps_ret (pv 2)))))) pss_nil)
 (pss_cons (ps_asg (pe_op op_mod (pe_op op_add (pe_op op_mul (pe_item hu (pv 0) pe_int (fun _ _ => rfl)) pe_int) pe_int) (pe_op op_sub (pe_op op_pow pe_int pe_int) pe_int)) (pg_sub (pv 0) pe_int set_list))
 (pss_one (ps_ret (pe_op op_mod (pe_op op_fdivL (pe_item hu (pv 0) pe_int (fun _ _ => rfl)) pe_int) (pv 1)))))), ?_⟩
    walk_at "rd"
    cases ns with
    | nil => exact absurd rfl hne
    | cons n0 rest =>
    have hit : ∀ (H' : Hp) (n : Int) (r : List Int), H' st = some (.lst (V.int n :: r.map V.int)) → Item H' (.ref st) (.int 0) (.int n) := fun H' n r e => item_l (j := 0) e rfl
    have h0i := hit H n0 rest hs
    refine ⟨_, .inl hs, ?_⟩
    refine ite2 (fun hl => ?_) (fun hl => ?_)
    · refine ⟨_, h0i, _, rfl, h0, _, h0i, _, rfl, h0, hm, _, hs, 0, by simp [ixN], ?_⟩
      have e1 : upd H st (.lst ((List.map V.int (n0 :: rest)).set 0 (V.int (n0 / m)))) st = some (.lst (V.int (n0 / m) :: rest.map V.int)) := by rw [upd_same]; rfl
      refine ⟨_, hit _ _ _ e1, by decide, fun p hp => ?_⟩
      have npst : st ≠ p := ne_of_none e1 hp
      refine ⟨_, .inl ⟨p, _, rfl, .inr upd_same, rfl, rfl, rfl⟩, ?_⟩
      have d0 : 0 ≤ n0 % m := Int.emod_nonneg _ (by omega)
      have d1 : n0 % m < m := Int.emod_lt_of_pos _ h0
      have e2 : ∀ o, upd (upd H st (.lst ((List.map V.int (n0 :: rest)).set 0 (V.int (n0 / m))))) p o st = some (.lst (V.int (n0 / m) :: rest.map V.int)) := fun o => by rw [upd_ne npst]; exact e1
      have hrest : rest ≠ [] := fun e => by
        have hl := of_decide_eq_true hl
        rw [e] at hl
        simp at hl
      have bt : But st H (upd (upd H st (.lst ((List.map V.int (n0 :: rest)).set 0 (V.int (n0 / m))))) p (.tup [V.int 0, V.int (-1)])) := but_set.trans (but_upd hp)
      refine ite2 (fun hb => ?_) (fun hb => ?_)
      · refine ⟨by unfold tyOf; simp only [e2], _, e2 _, by decide, by decide, 0, by simp [seqIndex?], _, rfl, ?_⟩
        exact k _ _ d0 d1 ⟨rest, hrest, by rw [upd_same]; rfl⟩ (bt.trans but_set)
      · exact k _ _ d0 d1 ⟨(n0 / m) :: rest, by simp, e2 _⟩ bt
    · have e1 : ∀ z : Int, upd H st (.lst ((List.map V.int (n0 :: rest)).set 0 (V.int z))) st = some (.lst (V.int z :: rest.map V.int)) := fun z => by rw [upd_same]; rfl
      refine ⟨_, h0i, _, rfl, .inr ⟨by decide, by decide⟩, ⟨by decide, by decide, by decide⟩, by decide, _, hs, 0, by simp [ixN], _, hit _ _ _ (e1 _), _, rfl, by decide, by decide +kernel, h0, ?_⟩
      exact k _ _ (Int.emod_nonneg _ (by omega)) (Int.emod_lt_of_pos _ h0) ⟨_ :: rest, by simp, e1 _⟩ but_set
def sp_law_drawn (K : PySem.W.Frag) : Sp := fun vs H Q _ => ∃ (a : Addr) (ns : List Int), vs = [.ref a] ∧ SqL K H a (ns.map V.int) ∧ ns.length ≤ 63 ∧ ∀ st H', StOk H' st → Same H H' → Q (.ref st) H'
theorem cutV_ints (ns : List Int) (lo hi : Option Int) : ∃ ms : List Int, cutV (ns.map V.int) lo hi = ms.map V.int := by
  unfold cutV
  exact ⟨_, by rw [← List.map_drop, ← List.map_take]⟩
theorem sc_law_drawn : FnScope ["_law_script", "_law_seed", "_law_cell"] ["_law_script"] (defScope s_law_drawn) := ⟨rfl, rfl, rfl, by decide +kernel, rfl, by decide +kernel, by decide +kernel⟩
theorem ok_law_drawn {f : Addr} {fd : FuncData} (F : Fun K "_law_drawn" "_law_drawn" s_law_drawn f fd) (T : Txt mg) : FnOk P w K mg base CX0 1 f fd ["_law_script"] (sp_law_drawn K) := by
  refine F.ok sc_law_drawn (fun vs H Q E h => ?_) (fun cdv A outer s H vs Q E hr h => ?_)
  · obtain ⟨a, ns, rfl, _⟩ := h
    rfl
  · obtain ⟨a, ns, rfl, hS, hlen, k⟩ := h
    have hu := hu_of hr
    refine ⟨_, (pss_cons (ps_set (i := 1) sc_law_drawn.nd rfl (Or.inl rfl) pe_int)
 (pss_cons (ps_for PassesOwn.never rfl (pi_list (pv 0)) (pg_name (i := 2) sc_law_drawn.nd rfl (Or.inl rfl))
 (pss_one (ps_set (i := 1) sc_law_drawn.nd rfl (Or.inl rfl) (pe_op op_mod (pe_op op_add (pe_op op_add (pe_op op_mul (pv 1) pe_int) (pe_op op_mod (pv 2) (pe_op op_pow pe_int pe_int))) pe_int) (pe_op op_sub (pe_op op_pow pe_int pe_int) pe_int)))))
 (pss_cons (ps_if (PW.pt (pw_and (pt_cmpR op_gt (pe_callBS call_len_seq rfl T.n_len bt_len (pa_e (pv 0) pa_nil)) pe_int (nomark _)) (pw_and1 (pt_cmpR (op_eqA hu) (pe_op op_mod (pe_ix ix_list (pv 0) pe_int (fun _ _ => rfl)) pe_int) pe_int (nomark _))))) (pss_one (ps_ret (pe_op op_cat (pe_op op_cat (pe_lst (pa_e (pe_op op_fdivL (pe_ix ix_list (pv 0) pe_int (fun _ _ => rfl)) pe_int) pa_nil)) (pe_slice sl_list (pv 0) (po_some pe_int) (po_some pe_int))) (pe_lst (pa_e (pv 1) pa_nil))))) pss_nil)
 (pss_one (ps_ret (pe_lst (pa_e (pv 1) pa_nil))))))), ?_⟩
    walk_at "rd"
    simp only [iList]
    walk_at "rd"
    refine ⟨⟨_, hS⟩, for_list (K := K) (a := a) (xs := ns.map V.int) (fun i σ H' => H' = H ∧ ∃ (z : Int) (c : Option V), σ = [some (.ref a), some (.int z), c]) ⟨rfl, _, _, rfl⟩ (fun i σ H' _ p => by rw [p.1]; exact hS) ?_ ?_⟩
    · rintro i y σ H' hy ⟨rfl, z, c, rfl⟩
      obtain ⟨u, rfl⟩ : ∃ u, y = V.int u := by
        rw [List.getElem?_map] at hy
        cases e : ns[i]? with
        | none => rw [e] at hy; cases hy
        | some u => rw [e] at hy; exact ⟨u, (Option.some.inj hy).symm⟩
      walk_at "rd"
      refine ⟨.inr ⟨by decide, by decide⟩, ⟨by decide, by decide, by decide⟩, by decide, ⟨by decide, by decide, by decide⟩, by decide, _, rfl⟩
    · rintro σ H' ⟨rfl, z, c, rfl⟩
      walk_at "rd"
      simp only [rIxL, rSlL]
      walk_at "rd"
      refine ⟨_, .inl hS, ite2 (fun h0 => ?_) (fun h0 => ?_)⟩
      · have hne : ns ≠ [] := fun e => by
          rw [e] at h0
          simp at h0
        obtain ⟨n0, r, rfl⟩ : ∃ n0 r, ns = n0 :: r := by
          cases ns with
          | nil => exact absurd rfl hne
          | cons a b => exact ⟨a, b, rfl⟩
        refine ⟨_, hS, _, atI_nat (j := 0) rfl, _, rfl, by decide, rfl, ite2 (fun h1 => ?_) (fun h1 => ?_)⟩
        · refine ⟨_, hS, _, atI_nat (j := 0) rfl, _, rfl, by decide, by decide +kernel, by decide, fun p hp => ?_⟩
          obtain ⟨ms, ems⟩ := cutV_ints (n0 :: r) (some 1) (some 63)
          have hml : ms.length ≤ 63 := by
            have h1 := cutV_length (List.map V.int (n0 :: r)) (some 1) (some 63)
            rw [ems, List.length_map, List.length_map] at h1
            omega
          refine ⟨_, (same_upd hp).seq hS, fun p1 hp1 => ?_⟩
          rw [ems]
          have e1 := same_upd (o := .lst (ms.map V.int)) hp1 p _ upd_same
          refine ⟨_, e1, _, upd_same, Nat.le_trans (by rw [List.length_map]; simp; omega : _ ≤ 1000) (line1000 (Nat.le_refl _)), fun p2 hp2 => ⟨by decide, fun p3 hp3 => ?_⟩⟩
          refine ⟨_, same_upd hp3 p2 _ upd_same, _, upd_same, Nat.le_trans (by simp; omega : _ ≤ 1000) (line1000 (Nat.le_refl _)), fun p4 hp4 => ?_⟩
          refine k p4 _ ⟨n0 / 2 :: (ms ++ [z]), by simp, ?_⟩ ((((same_upd hp).trans (same_upd hp1)).trans (same_upd hp2)).trans ((same_upd hp3).trans (same_upd hp4)))
          rw [upd_same]
          simp
        · exact ⟨by decide, fun p hp => k p _ ⟨[z], by simp, upd_same⟩ (same_upd hp)⟩
      · exact ⟨by decide, fun p hp => k p _ ⟨[z], by simp, upd_same⟩ (same_upd hp)⟩
end
set_option maxRecDepth 100000
set_option maxHeartbeats 4000000
section
variable {P : Program} {w : World} {K : PySem.W.Frag} {mg : Str → Option Value} {base : Heap}
def sp_law_amount : Sp := fun vs H Q _ => ∃ st, vs = [.ref st] ∧ StOk H st ∧ ∀ n H', 0 ≤ n → n < 10 ^ 41 → StOk H' st → But st H H' → Q (.int n) H'
theorem sc_law_amount : FnScope ["_law_state", "_law_number"] ["_law_state"] (defScope s_law_amount) := ⟨rfl, rfl, rfl, by decide +kernel, rfl, by decide +kernel, by decide +kernel⟩
theorem ok_law_amount {f : Addr} {fd : FuncData} (F : Fun K "_law_amount" "_law_amount" s_law_amount f fd) (T : Txt mg) (h_law_next : Has P w K mg base "_law_next" 1 ["_law_state", "_law_many"] sp_law_next) : FnOk P w K mg base CX0 2 f fd ["_law_state"] sp_law_amount := by
  refine F.ok sc_law_amount (fun vs H Q E h => ?_) (fun cdv A outer s H vs Q E hr h => ?_)
  · obtain ⟨st, rfl, _⟩ := h
    rfl
  · obtain ⟨st, rfl, hs, k⟩ := h
    have hu := hu_of hr
    refine ⟨_, (pss_cons (ps_set (i := 1) sc_law_amount.nd rfl (Or.inl rfl) (pe_callS h_law_next (hr.mono (by decide)) rfl (pa_e (pv 0) (pa_e pe_int pa_nil))))
 (pss_cons (ps_if (pt_cmpR (op_eqA hu) (pe_callS h_law_next (hr.mono (by decide)) rfl (pa_e (pv 0) (pa_e pe_int pa_nil))) pe_int (nomark _)) (pss_one (ps_ret (pe_op op_add (pe_op op_mul (pv 1) (pe_op op_pow pe_int pe_int)) (pe_callS h_law_next (hr.mono (by decide)) rfl (pa_e (pv 0) (pa_e pe_int pa_nil)))))) pss_nil)
 (pss_one (ps_ret (pv 1))))), ?_⟩
    walk_at "rd"
    refine ⟨st, 10, rfl, hs, by decide, by decide +kernel, fun d H1 d0 d1 s1 b1 => ?_⟩
    walk_at "rd"
    refine ⟨st, 8, rfl, s1, by decide, by decide +kernel, fun e H2 e0 e1 s2 b2 => ?_⟩
    walk_at "rd"
    have b02 := b1.trans b2
    refine ⟨rfl, ite2 (fun _ => ?_) (fun _ => k d H2 d0 (Int.lt_trans d1 (by decide +kernel)) s2 b02)⟩
    refine ⟨⟨by decide, by decide, by decide⟩, .inl ⟨by omega, by omega⟩, ?_⟩
    refine ⟨st, 10, rfl, s2, by decide, by decide +kernel, fun x H3 x0 x1 s3 b3 => ⟨x, rfl, ?_⟩⟩
    have q : (0 : Int) ≤ d * 10 ^ Int.toNat 40 + x ∧ d * 10 ^ Int.toNat 40 + x < 10 ^ 41 := by
      have : (10 : Int) ^ Int.toNat 40 = 10000000000000000000000000000000000000000 := by decide +kernel
      rw [this]
      omega
    exact k _ H3 q.1 q.2 s3 (b02.trans b3)
def lets (x : Str) : Prop := ∀ c ∈ x.cps.toList, c ∈ letters
theorem lt26 {d : Int} (h0 : 0 ≤ d) (h1 : d < 26) : ∃ c, ("abcdefghijklmnopqrstuvwxyz" : Str).cps.toList[d.toNat]? = some c ∧ c ∈ letters := by
  have hl : ("abcdefghijklmnopqrstuvwxyz" : Str).cps.toList.length = 26 := by decide +kernel
  have h : d.toNat < ("abcdefghijklmnopqrstuvwxyz" : Str).cps.toList.length := by rw [hl]; omega
  exact ⟨_, List.getElem?_eq_getElem h, List.getElem_mem h⟩
def lastC : List Nat := ("bcdfghjklmnp" : Str).cps.toList
theorem lastC_at : ∀ k : Nat, k < 12 → ∃ c, lastC[k]? = some c ∧ c ∈ letters := by decide +kernel
theorem lastC_nd : lastC.Nodup := by decide +kernel
def nameAt (i : Nat) (x : Str) : Prop := (lets x ∧ x.length ≤ 8) ∧ x.cps.toList.getLast? = lastC[i]?
theorem names_nd {xs : List Str} (hl : xs.length ≤ 12) (h : ∀ (i : Nat) (x : Str), xs[i]? = some x → nameAt i x) : xs.Nodup := by
  refine List.pairwise_iff_getElem.mpr fun i j hi hj hij e => ?_
  have h1 := (h i _ (List.getElem?_eq_getElem hi)).2
  have h2 := (h j _ (List.getElem?_eq_getElem hj)).2
  rw [e, h2] at h1
  have l12 : lastC.length = 12 := by decide +kernel
  have e1 := List.getElem?_eq_getElem (l := lastC) (i := i) (by omega)
  have e2 := List.getElem?_eq_getElem (l := lastC) (i := j) (by omega)
  rw [e1, e2] at h1
  have := List.pairwise_iff_getElem.mp lastC_nd i j (by omega) (by omega) hij
  exact this (Option.some.inj h1).symm
def sp_law_names : Sp := fun vs H Q _ => ∃ st m, vs = [.ref st, .int m] ∧ StOk H st ∧ 0 ≤ m ∧ m ≤ 12 ∧
  ∀ (a : Addr) (xs : List Str) (H' : Hp), xs.length = m.toNat → (∀ (i : Nat) (x : Str), xs[i]? = some x → nameAt i x) → H' a = some (.lst (xs.map V.str)) → H a = none → StOk H' st → But st H H' → Q (.ref a) H'
def NmInv (st : Addr) (H : Hp) (i : Nat) (acc : List V) (H' : Hp) : Prop := ∃ xs : List Str, acc = xs.map V.str ∧ xs.length = i ∧ (∀ (j : Nat) (x : Str), xs[j]? = some x → nameAt j x) ∧ StOk H' st ∧ But st H H'
theorem sc_law_names : FnScope ["_law_state", "_law_many", "_law_letters"] ["_law_state", "_law_many"] (defScope s_law_names) := ⟨rfl, rfl, rfl, by decide +kernel, rfl, by decide +kernel, by decide +kernel⟩
theorem ok_law_names {f : Addr} {fd : FuncData} (F : Fun K "_law_names" "_law_names" s_law_names f fd) (T : Txt mg) (h_law_next : Has P w K mg base "_law_next" 1 ["_law_state", "_law_many"] sp_law_next) : FnOk P w K mg base CX0 2 f fd ["_law_state", "_law_many"] sp_law_names := by
  refine F.ok sc_law_names (fun vs H Q E h => ?_) (fun cdv A outer s H vs Q E hr h => ?_)
  · obtain ⟨st, m, rfl, _⟩ := h
    rfl
  · obtain ⟨st, m, rfl, hs, m0, m1, k⟩ := h
    have hu := hu_of hr
    refine ⟨_, (pss_cons (ps_set (i := 2) sc_law_names.nd rfl (Or.inr rfl) pe_str)
 (pss_one (ps_ret (pe_comp (own := ["_law_k"]) (cap := [2, 0]) rfl (cp_ok rfl) (gown_name (by decide)) (pi_rangeS1 rfl T.n_range (pa_e (pv 1) pa_nil))
 (fun _ _ _ _ _ _ => ⟨(pg_name (i := 0) (of_decide_eq_true rfl) rfl (Or.inl rfl) (.inr rfl)), pts_nil, (pe_op op_add_str (pe_op op_repD (pe_item hu (pv 1) (pe_callS h_law_next (hr.mono (by decide)) rfl (pa_e (pv 2) (pa_e pe_int pa_nil))) (fun _ _ => rfl)) (pe_callS h_law_next (hr.mono (by decide)) rfl (pa_e (pv 2) (pa_e pe_int pa_nil)))) (pe_item hu pe_str (pv 0) (fun _ _ => rfl)))⟩))))), ?_⟩
    walk_at "rd"
    refine ⟨by omega, by omega, ?_⟩
    refine comp_w (goesR 0 _) (line1000 (by omega)) (NmInv st H) ⟨[], rfl, rfl, (fun j x e => by simp at e), hs, But.refl _ _⟩ (fun _ _ _ _ _ => trivial) (fun j acc H' h => by obtain ⟨xs, rfl, e, _⟩ := h; rw [List.length_map]; exact Nat.le_of_eq e) (fun j y acc H1 hj hy h => ?_) (fun acc H1 h p hp => ?_)
    · obtain ⟨xs, rfl, hl, hn, s1, b1⟩ := h
      subst hy
      walk_at "rd"
      refine ⟨st, 26, rfl, s1, by decide, by decide +kernel, fun d H2 d0 d1 s2 b2 => ?_⟩
      obtain ⟨cc, ec, hcc⟩ := lt26 d0 d1
      refine ⟨_, item_s (by decide +kernel) d0 ec, st, 8, rfl, s2, by decide, by decide +kernel, fun e H3 e0 e1 s3 b3 => ?_⟩
      refine ⟨⟨#[cc]⟩, rfl, e, rfl, by show 1 ≤ 1000; decide, e0, by omega, fun z hz hzc => ?_⟩
      have hz : z.length ≤ 1 * e.toNat := hz
      obtain ⟨lc, el, hlc⟩ := lastC_at j (by omega)
      have ij : (0 + (j : Int)).toNat = j := by omega
      refine ⟨_, item_s (by decide +kernel) (by omega) (by rw [ij]; exact el), _, rfl, Nat.le_trans (m := 1000) (by show z.length + 1 ≤ 1000; omega) (line1000 (Nat.le_refl _)), xs ++ [z ++ ⟨#[lc]⟩], by rw [List.map_append]; rfl, by rw [List.length_append, List.length_singleton, hl], fun q y hq => ?_, s3, (b1.trans b2).trans b3⟩
      by_cases hqj : q < xs.length
      · rw [List.getElem?_append_left hqj] at hq
        exact hn q y hq
      · rw [List.getElem?_append_right (by omega)] at hq
        have hq0 : q - xs.length = 0 := by
          cases e : q - xs.length with
          | zero => rfl
          | succ n => rw [e] at hq; simp at hq
        rw [hq0] at hq
        have hq : z ++ ⟨#[lc]⟩ = y := by simpa using hq
        have hqe : q = j := by omega
        subst hq hqe
        have ecp : (z ++ (⟨#[lc]⟩ : Str)).cps.toList = z.cps.toList ++ [lc] := by
          show (z.cps ++ #[lc]).toList = _
          simp
        refine ⟨⟨fun c hc => ?_, ?_⟩, ?_⟩
        · rw [ecp] at hc
          rcases List.mem_append.mp hc with y | y
          · have := hzc c y
            have : c ∈ [cc] := this
            rw [List.mem_singleton.mp this]
            exact hcc
          · rw [List.mem_singleton.mp y]
            exact hlc
        · have : (z ++ (⟨#[lc]⟩ : Str)).length = z.length + 1 := by show (z.cps ++ #[lc]).size = z.cps.size + 1; simp
          omega
        · rw [ecp, List.getLast?_append, el]
          rfl
    · obtain ⟨xs, rfl, hl, hn, s1, b1⟩ := h
      have pst : p ≠ st := Ne.symm (s1.ne hp)
      exact k p xs _ hl hn upd_same (b1.none pst hp) (s1.upd (s1.ne hp)) (b1.new hp)
end
set_option maxRecDepth 100000
set_option maxHeartbeats 4000000
section
variable {P : Program} {w : World} {K : PySem.W.Frag} {mg : Str → Option Value} {base : Heap}
structure PsOk (xs : List Str) (ps : List (Str × Int)) : Prop where
  sub : ∀ p ∈ ps, p.1 ∈ xs ∧ 1 ≤ p.2 ∧ p.2 ≤ 4
  nd : (ps.map (·.1)).Nodup
theorem rds_take {H : Hp} : ∀ {ds : List PyData} {xs : List V} (n : Nat), RDs H ds xs → RDs H (ds.take n) (xs.take n)
  | _, _, 0, _ => by rw [List.take_zero, List.take_zero]; exact RDs.nil
  | [], xs, n + 1, h => by rw [RDs.nil_of h]; exact RDs.nil
  | d :: ds, xs, n + 1, h => by
    obtain ⟨x, r, rfl, h1, h2⟩ := RDs.cons_of h
    rw [List.take_succ_cons, List.take_succ_cons]
    exact RDs.cons h1 (rds_take n h2)
theorem rds_rev {H : Hp} : ∀ {ds : List PyData} {xs : List V}, RDs H ds xs → RDs H ds.reverse xs.reverse
  | [], xs, h => by rw [RDs.nil_of h]; exact RDs.nil
  | d :: ds, xs, h => by
    obtain ⟨x, r, rfl, h1, h2⟩ := RDs.cons_of h
    rw [List.reverse_cons, List.reverse_cons]
    exact RDs.app (rds_rev h2) (RDs.one h1)
def sp_law_parts : Sp := fun vs H Q _ => ∃ (st l : Addr) (xs : List Str), vs = [.ref st, .ref l] ∧ StOk H st ∧ H l = some (.lst (xs.map V.str)) ∧ l ≠ st ∧ xs.length ≤ 12 ∧ xs.Nodup ∧ ∀ v (ps : List (Str × Int)) H', RD H' (.tuple (ps.map partD)) v → ps.length ≤ 6 → PsOk xs ps → StOk H' st → But st H H' → Q v H'
def LpsInv (st l q : Addr) (xs : List Str) (H : Hp) (i : Nat) (σ : St) (H' : Hp) : Prop := ∃ (ps : List (Str × Int)) (vs : List V) (o : Option V), σ = [some (.ref st), some (.ref l), some (.ref q), o] ∧ H' q = some (.lst vs) ∧ RDs H' (ps.map partD) vs ∧ (ps.map (·.1)).Sublist (xs.take i) ∧ (∀ p ∈ ps, 1 ≤ p.2 ∧ p.2 ≤ 4) ∧ H' l = some (.lst (xs.map V.str)) ∧ StOk H' st ∧ But st H H'
theorem sc_law_parts : FnScope ["_law_state", "_law_names_here", "_law_parts_here", "_law_name"] ["_law_state", "_law_names_here"] (defScope s_law_parts) := ⟨rfl, rfl, rfl, by decide +kernel, rfl, by decide +kernel, by decide +kernel⟩
theorem ok_law_parts {f : Addr} {fd : FuncData} (F : Fun K "_law_parts" "_law_parts" s_law_parts f fd) (T : Txt mg) (h_law_next : Has P w K mg base "_law_next" 1 ["_law_state", "_law_many"] sp_law_next) : FnOk P w K mg base CX0 2 f fd ["_law_state", "_law_names_here"] sp_law_parts := by
  refine F.ok sc_law_parts (fun vs H Q E h => ?_) (fun cdv A outer s H vs Q E hr h => ?_)
  · obtain ⟨st, l, xs, rfl, _⟩ := h
    rfl
  · obtain ⟨st, l, xs, rfl, hs, hl, lst', hx, nd, k⟩ := h
    have hu := hu_of hr
    refine ⟨_, (pss_cons (ps_set (i := 2) sc_law_parts.nd rfl (Or.inl rfl) (pe_lst pa_nil))
 (pss_cons (ps_for PassesOwn.never rfl (pi_lst (pv 1)) (pg_name (i := 3) sc_law_parts.nd rfl (Or.inl rfl))
 (pss_one (ps_if (pt_cmpR (op_eqA hu) (pe_callS h_law_next (hr.mono (by decide)) rfl (pa_e (pv 0) (pa_e pe_int pa_nil))) pe_int (nomark _)) (pss_one (ps_expr (pe_bs PySem.F.plainAttrs_list PySem.F.slot_list_append PySem.F.type_list_append mt_append (pv 2) (pa_e (pe_tup (pa_e (pv 3) (pa_e (pe_op op_add pe_int (pe_callS h_law_next (hr.mono (by decide)) rfl (pa_e (pv 0) (pa_e pe_int pa_nil)))) pa_nil))) pa_nil)))) pss_nil)))
 (pss_cons (ps_if (pt_cmpR (op_eqA hu) (pe_callS h_law_next (hr.mono (by decide)) rfl (pa_e (pv 0) (pa_e pe_int pa_nil))) pe_int (nomark _)) (pss_one (ps_expr (pe_ba0 PySem.F.plainAttrs_list PySem.F.slot_list_reverse PySem.F.type_list_reverse mt_reverse (pv 2)))) pss_nil)
 (pss_one (ps_ret (pe_callTS call_tupleA rfl T.n_tuple bt_tuple (pa_e (pe_slice sl_lstA (pv 2) po_none (po_some pe_int)) pa_nil))))))), ?_⟩
    walk_at "rd"
    refine ⟨by decide, fun q hq => ⟨_, by rw [upd_ne (ne_of_none hl hq)]; exact hl, ?_⟩⟩
    have qst : q ≠ st := Ne.symm (hs.ne hq)
    have lq : l ≠ q := ne_of_none hl hq
    refine for_w (goesL l _) (LpsInv st l q xs H) ⟨[], [], _, rfl, upd_same, RDs.nil, List.nil_sublist _, (fun p hp => nomatch hp), by rw [upd_ne lq]; exact hl, hs.upd (Ne.symm qst), but_upd hq⟩ (fun i σ H' _ h => let ⟨_, _, _, _, _, _, _, _, h, _⟩ := h; h) (fun i x σ H1 hi hx h => ?_) (fun σ H1 h => ?_)
    · obtain ⟨ps, vs, o, rfl, hq1, r1, sb, am, hl1, s1, b1⟩ := h
      rw [List.length_map] at hi
      rw [List.getElem?_map] at hx
      cases en : xs[i]? with
      | none => rw [en] at hx; cases hx
      | some nm =>
      rw [en] at hx
      have hx : V.str nm = x := Option.some.inj hx
      subst hx
      have et : xs.take (i + 1) = xs.take i ++ [nm] := by rw [List.take_add_one, en]; rfl
      have no : ∀ {H2 : Hp}, StOk H2 st → But st H1 H2 → LpsInv st l q xs H (i + 1) [some (.ref st), some (.ref l), some (.ref q), some (.str nm)] H2 := fun {H2} s2 b2 => ⟨ps, vs, _, rfl, b2 _ _ qst hq1, RDs.ku (but_kuS b2 s1) _ _ (nl_map partD nl_part _) r1, by rw [et]; exact sb.trans (List.sublist_append_left _ _), am, b2 _ _ lst' hl1, s2, b1.trans b2⟩
      walk_at "rd"
      refine ⟨st, 2, rfl, s1, by decide, by decide +kernel, fun d H2 d0 d1 s2 b2 => ?_⟩
      walk_at "rd"
      refine ⟨rfl, ite2 (fun _ => ?_) (fun _ => no s2 b2)⟩
      have hq2 := b2 _ _ qst hq1
      refine ⟨ty_lst hq2, st, 4, rfl, s2, by decide, by decide +kernel, fun e H3 e0 e1 s3 b3 => ⟨e, rfl, by decide, fun t ht => ?_⟩⟩
      have b23 := b2.trans b3
      have hq3 := b23 _ _ qst hq1
      have hlv := rds_len r1
      have hlp := sb.length_le
      rw [List.length_map, List.length_take] at hlp
      have u := same_upd (o := .tup [V.str nm, V.int (1 + e)]) ht
      have hq4 := u _ _ hq3
      refine ⟨vs, hq4, Nat.lt_of_lt_of_le (show vs.length < 1000 by omega) (line1000 (Nat.le_refl _)), ps ++ [(nm, 1 + e)], _, _, rfl, upd_same, ?_, ?_, fun p hp => ?_, ?_, (s3.same u).upd (Ne.symm qst), ?_⟩
      · have kk := ((but_kuS b23 s1).trans u.ku).trans (ku_lst (ys := vs ++ [V.ref t]) hq4)
        rw [List.map_append]
        refine RDs.app (RDs.ku kk _ _ (nl_map partD nl_part _) r1) (RDs.one (RD.tup_mk (xs := [V.str nm, V.int (1 + e)]) ?_ (RDs.cons RD.str_mk (RDs.one RD.int_mk))))
        rw [upd_ne (Ne.symm (ne_of_none hq3 ht)), upd_same]
      · rw [List.map_append, et]
        exact sb.append (List.Sublist.refl _)
      · rcases List.mem_append.mp hp with z | z
        · exact am p z
        · rw [List.mem_singleton.mp z]
          exact ⟨show 1 ≤ 1 + e by omega, show 1 + e ≤ 4 by omega⟩
      · rw [upd_ne lq]
        exact u _ _ (b23 _ _ lst' hl1)
      · exact ((b1.trans b23).trans (same_but u)).upd hq
    · obtain ⟨ps, vs, o, rfl, hq1, r1, sb, am, hl1, s1, b1⟩ := h
      rw [List.length_map, List.take_length] at sb
      have fin : ∀ (ps2 : List (Str × Int)) (vs2 : List V) (H2 : Hp), H2 q = some (.lst vs2) → RDs H2 (ps2.map partD) vs2 → PsOk xs ps2 → StOk H2 st → But st H H2 → ∀ p, H2 p = none → ∀ t, upd H2 p (.lst (cutV vs2 none (some 6))) t = none → Q (.ref t) (upd (upd H2 p (.lst (cutV vs2 none (some 6)))) t (.tup (cutV vs2 none (some 6)))) := fun ps2 vs2 H2 hq2 r2 po s2 b2 p hp t ht => by
        have e6 : cutV vs2 none (some 6) = vs2.take 6 := by rw [cutV_to (by decide)]; rfl
        rw [e6] at ht ⊢
        have u := (same_upd (o := .lst (vs2.take 6)) hp).trans (same_upd (o := .tup (vs2.take 6)) ht)
        refine k (.ref t) (ps2.take 6) _ (RD.tup_mk upd_same (by rw [List.map_take]; exact rds_take 6 (RDs.same u _ _ r2))) (by rw [List.length_take]; omega) ⟨fun p hp => po.sub p (List.mem_of_mem_take hp), by rw [List.map_take]; exact (List.take_sublist _ _).nodup po.nd⟩ (s2.same u) (b2.trans (same_but u))
      have po : PsOk xs ps := ⟨fun p hp => ⟨sb.subset (List.mem_map.mpr ⟨p, hp, rfl⟩), am p hp⟩, sb.nodup nd⟩
      have po2 : PsOk xs ps.reverse := ⟨fun p hp => po.sub p (List.mem_reverse.mp hp), by rw [List.map_reverse]; exact (List.reverse_perm _).nodup_iff.mpr po.nd⟩
      walk_at "rd"
      refine ⟨st, 2, rfl, s1, by decide, by decide +kernel, fun d H2 d0 d1 s2 b2 => ?_⟩
      walk_at "rd"
      have hq2 := b2 _ _ qst hq1
      have r2 := RDs.ku (but_kuS b2 s1) _ _ (nl_map partD nl_part _) r1
      have b02 := b1.trans b2
      refine ⟨rfl, ite2 (fun _ => ?_) (fun _ => ?_)⟩
      · have kk : KeepU H2 (upd H2 q (.lst vs.reverse)) := ku_lst hq2
        refine ⟨ty_lst hq2, vs, hq2, _, upd_same, fun p hp => ⟨_, .inl ⟨upd_same, fun t ht => ?_⟩⟩⟩
        exact fin ps.reverse vs.reverse _ upd_same (by rw [List.map_reverse]; exact rds_rev (RDs.ku kk _ _ (nl_map partD nl_part _) r2)) po2 (s2.upd (Ne.symm qst)) (b02.upd hq) p hp t ht
      · exact ⟨vs, hq2, fun p hp => ⟨_, .inl ⟨upd_same, fun t ht => fin ps vs H2 hq2 r2 po s2 b02 p hp t ht⟩⟩⟩
end
set_option maxRecDepth 100000
set_option maxHeartbeats 4000000
section
variable {P : Program} {w : World} {K : PySem.W.Frag} {mg : Str → Option Value} {base : Heap}
def WB52 (w : Wr) : Prop := (0 ≤ w.lag ∧ w.lag ≤ 30) ∧ (1 ≤ w.gives ∧ w.gives ≤ 100) ∧ (0 ≤ w.floor ∧ w.floor ≤ 100) ∧ (0 ≤ w.stock ∧ w.stock ≤ 10 ^ 42) ∧ w.parts.length ≤ 6 ∧ (∀ p ∈ w.parts, 1 ≤ p.2 ∧ p.2 ≤ 4) ∧ (w.parts.map (·.1)).Nodup ∧ w.coming.length ≤ 12 ∧ ∀ c ∈ w.coming, (0 ≤ c.1 ∧ c.1 < 9) ∧ 0 ≤ c.2 ∧ c.2 < 10 ^ 41
structure SD (S : Sh) : Prop where
  n : 1 ≤ S.wares.length ∧ S.wares.length ≤ 12
  nm : ∀ w ∈ S.wares, isNameS w.name = true
  nd : (S.wares.map (·.name)).Nodup
  wb : ∀ w ∈ S.wares, WB52 w
  own : ∀ w ∈ S.wares, ∀ p ∈ w.parts, p.1 ∈ S.wares.map (·.name)
  un : S.wants.length ≤ 20
  us : ∀ u ∈ S.wants, u.1 ∈ S.wares.map (·.name) ∧ (0 ≤ u.2.1 ∧ u.2.1 < 9) ∧ 0 ≤ u.2.2 ∧ u.2.2 < 10 ^ 41
theorem name_ok {i : Nat} {x : Str} (hi : i < 12) (h : nameAt i x) : isNameS x = true := by
  obtain ⟨c, e, _⟩ := lastC_at i hi
  have h2 := h.2
  rw [e] at h2
  have h1 : 1 ≤ x.length := by
    have : x.cps.toList ≠ [] := fun z => by rw [z] at h2; cases h2
    have := List.length_pos_iff.mpr this
    rw [Array.length_toList] at this
    exact this
  unfold isNameS
  rw [decide_eq_true h1, decide_eq_true h.1.2, Bool.true_and, Bool.true_and, List.all_eq_true]
  exact fun c hc => decide_eq_true (h.1.1 c hc)
def Kth52 (xs : List Str) (j : Nat) (w : Wr) : Prop := xs[j]? = some w.name ∧ WB52 w ∧ ∀ p ∈ w.parts, p.1 ∈ xs.drop (j + 1)
theorem sd52 {xs : List Str} {ws ws' : List Wr} {us : List Wt} (hx : ∀ (i : Nat) (x : Str), xs[i]? = some x → nameAt i x) (hl : 1 ≤ xs.length ∧ xs.length ≤ 12) (hw : ws.length = xs.length) (hk : ∀ j w, ws[j]? = some w → Kth52 xs j w) (hp : ws'.Perm ws) (hu : us.length ≤ 20 ∧ ∀ u ∈ us, u.1 ∈ xs ∧ (0 ≤ u.2.1 ∧ u.2.1 < 9) ∧ 0 ≤ u.2.2 ∧ u.2.2 < 10 ^ 41) : SD ⟨ws', us⟩ := by
  have nd := names_nd hl.2 hx
  have en : ws.map (·.name) = xs := by
    apply List.ext_getElem?
    intro i
    rw [List.getElem?_map]
    by_cases hi : i < ws.length
    · rw [List.getElem?_eq_getElem hi]
      exact (hk i _ (List.getElem?_eq_getElem hi)).1.symm
    · rw [List.getElem?_eq_none (by omega), List.getElem?_eq_none (by omega)]
      rfl
  have hat : ∀ w ∈ ws', ∃ j, j < xs.length ∧ Kth52 xs j w := fun w hm => by
    obtain ⟨j, hj⟩ := List.mem_iff_getElem?.mp (hp.mem_iff.mp hm)
    have := (List.getElem?_eq_some_iff.mp hj).1
    exact ⟨j, by omega, hk j w hj⟩
  have pn : (ws'.map (·.name)).Perm xs := by rw [← en]; exact hp.map _
  have hlen : ws'.length = xs.length := by rw [hp.length_eq, hw]
  refine ⟨by show 1 ≤ ws'.length ∧ ws'.length ≤ 12; omega, fun w hm => ?_, pn.nodup_iff.mpr nd, fun w hm => ?_, fun w hm p hpm => ?_, hu.1, fun u hm => ⟨pn.mem_iff.mpr (hu.2 u hm).1, (hu.2 u hm).2⟩⟩
  · obtain ⟨j, hj, k1, _⟩ := hat w hm
    exact name_ok (by omega) (hx j _ k1)
  · obtain ⟨j, hj, _, k2, _⟩ := hat w hm
    exact k2
  · obtain ⟨j, hj, _, _, k3⟩ := hat w hm
    exact pn.mem_iff.mpr (List.mem_of_mem_drop (k3 p hpm))
structure Cx31 (st l p : Addr) (xs : List Str) (ws : List Wr) (vs : List V) (H0 H : Hp) : Prop where
  hp : H p = some (.lst vs)
  rd : RDs H (ws.map Wr.d) vs
  hl : H l = some (.lst (xs.map V.str))
  s : StOk H st
  b : But st H0 H
  pst : p ≠ st
  lst : l ≠ st
theorem Cx31.draw {st l p : Addr} {xs : List Str} {ws : List Wr} {vs : List V} {H0 H H' : Hp} (h : Cx31 st l p xs ws vs H0 H) (s : StOk H' st) (b : But st H H') : Cx31 st l p xs ws vs H0 H' :=
  ⟨b _ _ h.pst h.hp, RDs.ku (but_kuS b h.s) _ _ (nl_map Wr.d nl_ware _) h.rd, b _ _ h.lst h.hl, s, h.b.trans b, h.pst, h.lst⟩
theorem Cx31.same {st l p : Addr} {xs : List Str} {ws : List Wr} {vs : List V} {H0 H H' : Hp} (h : Cx31 st l p xs ws vs H0 H) (s : Same H H') : Cx31 st l p xs ws vs H0 H' :=
  ⟨s _ _ h.hp, RDs.same s _ _ h.rd, s _ _ h.hl, h.s.same s, h.b.trans (same_but s), h.pst, h.lst⟩
theorem pick3 {H : Hp} {q : Addr} {a b c : Int} {d lo hi : Int} (h : H q = some (.lst [.int a, .int b, .int c])) (d0 : 0 ≤ d) (d1 : d < 3) (ha : lo ≤ a ∧ a ≤ hi) (hb : lo ≤ b ∧ b ≤ hi) (hc : lo ≤ c ∧ c ≤ hi) : ∃ n, lo ≤ n ∧ n ≤ hi ∧ Item H (.ref q) (.int d) (.int n) := by
  have : d = 0 ∨ d = 1 ∨ d = 2 := by omega
  rcases this with rfl | rfl | rfl
  · exact ⟨a, ha.1, ha.2, item_l (j := 0) h rfl⟩
  · exact ⟨b, hb.1, hb.2, item_l (j := 1) h rfl⟩
  · exact ⟨c, hc.1, hc.2, item_l (j := 2) h rfl⟩
theorem rds_pairs {H : Hp} : ∀ {ps : List (Wr × V)}, (∀ q ∈ ps, RD H q.1.d q.2) → RDs H ((ps.map (·.1)).map Wr.d) (ps.map (·.2))
  | [], _ => RDs.nil
  | q :: r, h => RDs.cons (h q List.mem_cons_self) (rds_pairs fun z hz => h z (List.mem_cons_of_mem _ hz))
theorem pairs_of {H : Hp} : ∀ {ws : List Wr} {vs : List V}, RDs H (ws.map Wr.d) vs → ∃ ps : List (Wr × V), ps.map (·.1) = ws ∧ ps.map (·.2) = vs ∧ ∀ q ∈ ps, RD H q.1.d q.2
  | [], vs, h => ⟨[], rfl, (RDs.nil_of h).symm, fun _ h => nomatch h⟩
  | w :: ws, vs, h => by
    obtain ⟨x, r, rfl, h1, h2⟩ := RDs.cons_of h
    obtain ⟨ps, e1, e2, h3⟩ := pairs_of h2
    refine ⟨(w, x) :: ps, by rw [List.map_cons, e1], by rw [List.map_cons, e2], fun q hq => ?_⟩
    rcases List.mem_cons.mp hq with z | z
    · rw [z]; exact h1
    · exact h3 q z
def ShInv31 (st l p : Addr) (top : V) (xs : List Str) (H : Hp) (i : Nat) (σ : St) (H' : Hp) : Prop := ∃ (ws : List Wr) (vs : List V) (o5 o6 o7 o8 o9 o10 o11 o12 o13 : Option V), σ = [some (.ref st), some top, some (.ref l), some (.ref p), o5, o6, o7, o8, o9, o10, o11, o12, o13] ∧ ws.length = i ∧ (∀ j w, ws[j]? = some w → Kth52 xs j w) ∧ Cx31 st l p xs ws vs H H'
def CoInv31 (st l p : Addr) (xs : List Str) (ws : List Wr) (vs : List V) (H0 : Hp) (j : Nat) (acc : List V) (H' : Hp) : Prop := ∃ cs : List (Int × Int), RDs H' (cs.map arrD) acc ∧ cs.length = j ∧ (∀ c ∈ cs, (0 ≤ c.1 ∧ c.1 < 9) ∧ 0 ≤ c.2 ∧ c.2 < 10 ^ 41) ∧ Cx31 st l p xs ws vs H0 H'
def WaInv31 (st l p wl : Addr) (top : V) (xs : List Str) (ws : List Wr) (vs : List V) (H0 : Hp) (i : Nat) (σ : St) (H' : Hp) : Prop := ∃ (us : List Wt) (uv : List V) (o5 o6 o7 o8 o9 o10 o11 o13 : Option V), σ = [some (.ref st), some top, some (.ref l), some (.ref p), o5, o6, o7, o8, o9, o10, o11, some (.ref wl), o13] ∧ us.length = i ∧ (∀ u ∈ us, u.1 ∈ xs ∧ (0 ≤ u.2.1 ∧ u.2.1 < 9) ∧ 0 ≤ u.2.2 ∧ u.2.2 < 10 ^ 41) ∧ H' wl = some (.lst uv) ∧ RDs H' (us.map wantD) uv ∧ Cx31 st l p xs ws vs H0 H'
def sp_law_shop : Sp := fun vs H Q _ => ∃ (st : Addr) (top : Int), vs = [.ref st, .int top] ∧ StOk H st ∧ 1 ≤ top ∧ top ≤ 12 ∧ ∀ v (S : Sh) H', RD H' S.d v → SD S → StOk H' st → But st H H' → Q v H'
theorem sc_law_shop : FnScope ["_law_state", "_law_top", "_law_names_here", "_law_wares", "_law_k", "_law_name", "_law_lag", "_law_gives", "_law_floor", "_law_stock", "_law_coming", "_law_wants", "_law_shift"] ["_law_state", "_law_top"] (defScope s_law_shop) := ⟨rfl, rfl, rfl, by decide +kernel, rfl, by decide +kernel, by decide +kernel⟩
theorem ok_law_shop {f : Addr} {fd : FuncData} (F : Fun K "_law_shop" "_law_shop" s_law_shop f fd) (T : Txt mg) (h_law_names : Has P w K mg base "_law_names" 2 ["_law_state", "_law_many"] sp_law_names) (h_law_next : Has P w K mg base "_law_next" 1 ["_law_state", "_law_many"] sp_law_next) (h_law_amount : Has P w K mg base "_law_amount" 2 ["_law_state"] sp_law_amount) (h_law_parts : Has P w K mg base "_law_parts" 2 ["_law_state", "_law_names_here"] sp_law_parts) : FnOk P w K mg base CX0 3 f fd ["_law_state", "_law_top"] sp_law_shop := by
  refine F.ok sc_law_shop (fun vs H Q E h => ?_) (fun cdv A outer s H vs Q E hr h => ?_)
  · obtain ⟨st, top, rfl, _⟩ := h
    rfl
  · obtain ⟨st, top, rfl, hs, t0, t1, k⟩ := h
    have hu := hu_of hr
    refine ⟨_, (pss_cons (ps_set (i := 2) sc_law_shop.nd rfl (Or.inl rfl) (pe_callS h_law_names (hr.mono (by decide)) rfl (pa_e (pv 0) (pa_e (pe_op op_add pe_int (pe_callS h_law_next (hr.mono (by decide)) rfl (pa_e (pv 0) (pa_e (pv 1) pa_nil)))) pa_nil))))
 (pss_cons (ps_set (i := 3) sc_law_shop.nd rfl (Or.inl rfl) (pe_lst pa_nil))
 (pss_cons (ps_for PassesOwn.never rfl (pi_enum rfl T.n_enumerate (pa_e (pv 2) pa_nil)) (pg_tup (n := 2) rfl (pgs_cons (pg_name (i := 4) sc_law_shop.nd rfl (Or.inl rfl)) (pgs_cons (pg_name (i := 5) sc_law_shop.nd rfl (Or.inl rfl)) pgs_nil)))
 (pss_cons (ps_set (i := 6) sc_law_shop.nd rfl (Or.inl rfl) (pe_callS h_law_next (hr.mono (by decide)) rfl (pa_e (pv 0) (pa_e pe_int pa_nil))))
 (pss_cons (ps_set (i := 7) sc_law_shop.nd rfl (Or.inl rfl) (pe_op op_add pe_int (pe_callS h_law_next (hr.mono (by decide)) rfl (pa_e (pv 0) (pa_e pe_int pa_nil)))))
 (pss_cons (ps_set (i := 8) sc_law_shop.nd rfl (Or.inl rfl) (pe_item hu (pe_lst (pa_e pe_int (pa_e pe_int (pa_e (pe_callS h_law_next (hr.mono (by decide)) rfl (pa_e (pv 0) (pa_e pe_int pa_nil))) pa_nil)))) (pe_callS h_law_next (hr.mono (by decide)) rfl (pa_e (pv 0) (pa_e pe_int pa_nil))) (fun _ _ => rfl)))
 (pss_cons (ps_set (i := 9) sc_law_shop.nd rfl (Or.inl rfl) (pe_item hu (pe_lst (pa_e (pv 8) (pa_e (pe_op op_add (pv 8) (pe_callS h_law_amount (hr.mono (by decide)) rfl (pa_e (pv 0) pa_nil))) (pa_e (pe_callS h_law_amount (hr.mono (by decide)) rfl (pa_e (pv 0) pa_nil)) pa_nil)))) (pe_callS h_law_next (hr.mono (by decide)) rfl (pa_e (pv 0) (pa_e pe_int pa_nil))) (fun _ _ => rfl)))
 (pss_cons (ps_set (i := 10) sc_law_shop.nd rfl (Or.inl rfl) (pe_callTS call_tupleA rfl T.n_tuple bt_tuple (pa_e (pe_comp (own := ["_law_place"]) (cap := [0]) rfl (cp_ok rfl) (gown_name (by decide)) (pi_rangeS1 rfl T.n_range (pa_e (pe_callS h_law_next (hr.mono (by decide)) rfl (pa_e (pv 0) (pa_e pe_int pa_nil))) pa_nil))
 (fun _ _ _ _ _ _ => ⟨(pg_name (i := 0) (of_decide_eq_true rfl) rfl (Or.inl rfl) (.inr rfl)), pts_nil, (pe_tup (pa_e (pe_callS h_law_next (hr.mono (by decide)) rfl (pa_e (pv 1) (pa_e pe_int pa_nil))) (pa_e (pe_callS h_law_amount (hr.mono (by decide)) rfl (pa_e (pv 1) pa_nil)) pa_nil)))⟩)) pa_nil)))
 (pss_one (ps_expr (pe_bs PySem.F.plainAttrs_list PySem.F.slot_list_append PySem.F.type_list_append mt_append (pv 3) (pa_e (pe_tup (pa_e (pv 5) (pa_e (pv 6) (pa_e (pv 7) (pa_e (pv 8) (pa_e (pv 9) (pa_e (pv 10) (pa_e (pe_callS h_law_parts (hr.mono (by decide)) rfl (pa_e (pv 0) (pa_e (pe_slice sl_lstA (pv 2) (po_some (pe_op op_add (pv 4) pe_int)) po_none) pa_nil))) pa_nil)))))))) pa_nil))))))))))
 (pss_cons (ps_set (i := 11) sc_law_shop.nd rfl (Or.inl rfl) (pe_lst pa_nil))
 (pss_cons (ps_for PassesOwn.never rfl (pi_rangeS1 rfl T.n_range (pa_e (pe_callS h_law_next (hr.mono (by decide)) rfl (pa_e (pv 0) (pa_e pe_int pa_nil))) pa_nil)) (pg_name (i := 4) sc_law_shop.nd rfl (Or.inl rfl))
 (pss_one (ps_expr (pe_bs PySem.F.plainAttrs_list PySem.F.slot_list_append PySem.F.type_list_append mt_append (pv 11) (pa_e (pe_tup (pa_e (pe_item hu (pv 2) (pe_callS h_law_next (hr.mono (by decide)) rfl (pa_e (pv 0) (pa_e (pe_callBS call_len_q rfl T.n_len bt_len (pa_e (pv 2) pa_nil)) pa_nil))) (fun _ _ => rfl)) (pa_e (pe_callS h_law_next (hr.mono (by decide)) rfl (pa_e (pv 0) (pa_e pe_int pa_nil))) (pa_e (pe_callS h_law_amount (hr.mono (by decide)) rfl (pa_e (pv 0) pa_nil)) pa_nil)))) pa_nil)))))
 (pss_cons (ps_set (i := 12) sc_law_shop.nd rfl (Or.inl rfl) (pe_callS h_law_next (hr.mono (by decide)) rfl (pa_e (pv 0) (pa_e (pe_callBS call_len_q rfl T.n_len bt_len (pa_e (pv 2) pa_nil)) pa_nil))))
 (pss_one (ps_ret (pe_tup (pa_e (pe_callTS call_tupleA rfl T.n_tuple bt_tuple (pa_e (pe_op op_cat (pe_slice sl_lstA (pv 3) (po_some (pv 12)) po_none) (pe_slice sl_lstA (pv 3) po_none (po_some (pv 12)))) pa_nil)) (pa_e (pe_callTS call_tupleA rfl T.n_tuple bt_tuple (pa_e (pv 11) pa_nil)) pa_nil))))))))))), ?_⟩
    walk_at "rd"
    refine ⟨st, top, rfl, hs, t0, Int.lt_of_le_of_lt (b := 12) t1 (by decide +kernel), fun d H1 d0 d1 s1 b1 => ⟨d, rfl, ?_⟩⟩
    refine ⟨st, 1 + d, rfl, s1, by omega, by omega, fun l xs H2 hxl hxn hl fl s2 b2 => ?_⟩
    walk_at "rd"
    have lst' : l ≠ st := fun z => by
      obtain ⟨ns1, _, e1⟩ := s1
      rw [z, e1] at fl
      cases fl
    refine ⟨by decide, fun p hp => ?_⟩
    have pst : p ≠ st := Ne.symm (s2.ne hp)
    have b02 := b1.trans b2
    have fp : H p = none := b02.none pst hp
    have u2 := same_upd (o := .lst []) hp
    have c3 : Cx31 st l p xs [] [] H (upd H2 p (.lst [])) := ⟨upd_same, RDs.nil, u2 _ _ hl, s2.upd (s2.ne hp), b02.new hp, pst, lst'⟩
    refine ⟨_, c3.hl, ?_⟩
    refine for_t (goesE l _) (ShInv31 st l p (.int top) xs H) ⟨[], [], _, _, _, _, _, _, _, _, _, rfl, rfl, (fun j w e => by simp at e), c3⟩ (fun i σ H' _ h => let ⟨_, _, _, _, _, _, _, _, _, _, _, _, _, _, c⟩ := h; c.hl) (fun i us t σ H4 hi hy h ht => ?_) (fun σ H4 h => ?_)
    · obtain ⟨ws, vs, o5, o6, o7, o8, o9, o10, o11, o12, o13, rfl, hwl, hk, c4⟩ := h
      obtain ⟨y, ey, rfl⟩ := hy
      rw [List.length_map] at hi
      rw [List.getElem?_map] at ey
      cases en : xs[i]? with
      | none => rw [en] at ey; cases ey
      | some nm =>
      rw [en] at ey
      have ey : V.str nm = y := Option.some.inj ey
      subst ey
      have c5 := c4.same (same_upd (o := .tup [.int i, .str nm]) ht)
      refine gT2 ?_
      generalize upd H4 t (.tup [.int i, .str nm]) = H5 at c5 ⊢
      simp only [List.set_cons_succ, List.set_cons_zero]
      refine cut2 (fun σ' H' => ∃ lag ga : Int, (0 ≤ lag ∧ lag ≤ 30) ∧ (0 ≤ ga ∧ ga < 5) ∧ σ' = [some (.ref st), some (.int top), some (.ref l), some (.ref p), some (.int i), some (.str nm), some (.int lag), some (.int (1 + ga)), o9, o10, o11, o12, o13] ∧ Cx31 st l p xs ws vs H H') (fun σ' H8 hM => ?_) (fun KK hK => ?_)
      rotate_left
      · walk_at "rd"
        refine ⟨st, 4, rfl, c5.s, by decide, by decide +kernel, fun lag H7 g0 g1 s7 b7 => ?_⟩
        have c7 := c5.draw s7 b7
        have lag30 : 0 ≤ lag ∧ lag ≤ 30 := ⟨g0, by omega⟩
        refine ⟨st, 5, rfl, c7.s, by decide, by decide +kernel, fun ga H8 ga0 ga1 s8 b8 => ⟨ga, rfl, hK _ _ ⟨lag, ga, lag30, ⟨ga0, ga1⟩, rfl, c7.draw s8 b8⟩⟩⟩
      obtain ⟨lag, ga, lag30, ⟨ga0, ga1⟩, rfl, c8⟩ := hM
      refine cut2 (fun σ' H' => ∃ flo sto : Int, (0 ≤ flo ∧ flo ≤ 6) ∧ (0 ≤ sto ∧ sto ≤ 10 ^ 42) ∧ σ' = [some (.ref st), some (.int top), some (.ref l), some (.ref p), some (.int i), some (.str nm), some (.int lag), some (.int (1 + ga)), some (.int flo), some (.int sto), o11, o12, o13] ∧ Cx31 st l p xs ws vs H H') (fun σ' H15 hM => ?_) (fun KK hK => ?_)
      rotate_left
      · walk_at "rd"
        refine ⟨st, 7, rfl, c8.s, by decide, by decide +kernel, fun fl H9 fl0 fl1 s9 b9 => ⟨by decide, fun q2 hq2 => ?_⟩⟩
        have c9 := (c8.draw s9 b9).same (same_upd (o := .lst [V.int 0, V.int 0, V.int fl]) hq2)
        have x2 := upd_same (H := H9) (a := q2) (o := .lst [V.int 0, V.int 0, V.int fl])
        have q2st : q2 ≠ st := Ne.symm ((c8.draw s9 b9).s.ne hq2)
        generalize upd H9 q2 (.lst [V.int 0, V.int 0, V.int fl]) = H10 at c9 x2 ⊢
        refine ⟨st, 3, rfl, c9.s, by decide, by decide +kernel, fun e H11 e0 e1 s11 b11 => ?_⟩
        have c11 := c9.draw s11 b11
        obtain ⟨flo, f0, f1, fi⟩ := pick3 (lo := 0) (hi := 6) (b11 _ _ q2st x2) e0 e1 ⟨by decide, by decide⟩ ⟨by decide, by decide⟩ ⟨fl0, by omega⟩
        refine ⟨_, fi, st, rfl, c11.s, fun a1 H12 a10 a11 s12 b12 => ⟨flo, rfl, a1, rfl, ?_⟩⟩
        have c12 := c11.draw s12 b12
        refine ⟨st, rfl, c12.s, fun a2 H13 a20 a21 s13 b13 => ⟨by decide, fun q3 hq3 => ?_⟩⟩
        have c13 := (c12.draw s13 b13).same (same_upd (o := .lst [V.int flo, V.int (flo + a1), V.int a2]) hq3)
        have x3 := upd_same (H := H13) (a := q3) (o := .lst [V.int flo, V.int (flo + a1), V.int a2])
        have q3st : q3 ≠ st := Ne.symm ((c12.draw s13 b13).s.ne hq3)
        generalize upd H13 q3 (.lst [V.int flo, V.int (flo + a1), V.int a2]) = H14 at c13 x3 ⊢
        refine ⟨st, 3, rfl, c13.s, by decide, by decide +kernel, fun e2 H15 e20 e21 s15 b15 => ?_⟩
        have c15 := c13.draw s15 b15
        obtain ⟨sto, st0, st1, si⟩ := pick3 (lo := 0) (hi := 10 ^ 42) (b15 _ _ q3st x3) e20 e21 ⟨by omega, by omega⟩ ⟨by omega, by omega⟩ ⟨by omega, by omega⟩
        exact ⟨_, si, hK _ _ ⟨flo, sto, ⟨f0, f1⟩, ⟨st0, st1⟩, rfl, c15⟩⟩
      obtain ⟨flo, sto, ⟨f0, f1⟩, ⟨st0, st1⟩, rfl, c15⟩ := hM
      walk_at "rd"
      refine ⟨st, 3, rfl, c15.s, by decide, by decide +kernel, fun many H18 m0 m1 s18 b18 => ?_⟩
      have c18 := c15.draw s18 b18
      refine ⟨many, rfl, by omega, by omega, ?_⟩
      refine comp_w (goesR 0 _) (line1000 (by omega)) (CoInv31 st l p xs ws vs H) ⟨[], RDs.nil, rfl, (fun c hc => nomatch hc), c18⟩ (fun _ _ _ _ _ => trivial) (fun j acc H' h => by obtain ⟨cs, r, e, _⟩ := h; rw [rds_len r]; exact Nat.le_of_eq e) (fun j y acc H19 hj hy h => ?_) (fun acc H19 h r hr19 => ?_)
      · obtain ⟨cs, rc, hcl, hcs, c19⟩ := h
        walk_at "rd"
        refine ⟨st, 9, rfl, c19.s, by decide, by decide +kernel, fun da H20 da0 da1 s20 b20 => ?_⟩
        have c20 := c19.draw s20 b20
        refine ⟨st, rfl, c20.s, fun am H21 am0 am1 s21 b21 => ⟨by decide, fun t2 ht2 => ?_⟩⟩
        have c21 := c20.draw s21 b21
        have u := same_upd (o := .tup [V.int da, V.int am]) ht2
        have kk := ((but_kuS b20 c19.s).trans (but_kuS b21 c20.s)).trans u.ku
        refine ⟨cs ++ [(da, am)], ?_, by rw [List.length_append, List.length_singleton, hcl], fun c hc => ?_, c21.same u⟩
        · rw [List.map_append]
          exact RDs.app (RDs.ku kk _ _ (nl_map arrD nl_arr _) rc) (RDs.one (RD.tup_mk (xs := [V.int da, V.int am]) upd_same (RDs.cons RD.int_mk (RDs.one RD.int_mk))))
        · rcases List.mem_append.mp hc with z | z
          · exact hcs c z
          · rw [List.mem_singleton.mp z]
            exact ⟨⟨da0, da1⟩, am0, am1⟩
      · obtain ⟨cs, rc, hcl, hcs, c19⟩ := h
        refine ⟨r, rfl, acc, .inl ⟨upd_same, fun cu hcu => ?_⟩⟩
        have u := (same_upd (o := .lst acc) hr19).trans (same_upd (o := .tup acc) hcu)
        have c20 := c19.same u
        have rc20 := RDs.same u _ _ rc
        have hcu20 := upd_same (H := upd H19 r (.lst acc)) (a := cu) (o := .tup acc)
        generalize upd (upd H19 r (.lst acc)) cu (.tup acc) = H20 at c20 rc20 hcu20 ⊢
        refine ⟨ty_lst c20.hp, _, c20.hl, fun z hz => ?_⟩
        rw [cutV_from (by omega), show ((i : Int) + 1).toNat = i + 1 by omega, ← List.map_drop]
        have u2 := same_upd (o := .lst ((xs.drop (i + 1)).map V.str)) hz
        have c21 := c20.same u2
        have zst : z ≠ st := Ne.symm (c20.s.ne hz)
        have hx12 : xs.length ≤ 12 := by omega
        refine ⟨st, z, xs.drop (i + 1), rfl, c21.s, upd_same, zst, by rw [List.length_drop]; omega, (List.drop_sublist _ _).nodup (names_nd hx12 hxn), fun pv ps H22 rpv p6 po s22 b22 => ⟨by decide, fun wt hwt => ?_⟩⟩
        have c22 := c21.draw s22 b22
        have u3 := same_upd (o := .tup [V.str nm, V.int lag, V.int (1 + ga), V.int flo, V.int sto, V.ref cu, pv]) hwt
        have c23 := c22.same u3
        have rpv23 := RD.same u3 _ _ rpv
        have k2023 : KeepU H20 (upd H22 wt (.tup [V.str nm, V.int lag, V.int (1 + ga), V.int flo, V.int sto, V.ref cu, pv])) := (u2.ku.trans (but_kuS b22 c21.s)).trans u3.ku
        have rc23 := RDs.ku k2023 _ _ (nl_map arrD nl_arr _) rc20
        have hcu23 := k2023 _ _ hcu20
        have x23 := upd_same (H := H22) (a := wt) (o := .tup [V.str nm, V.int lag, V.int (1 + ga), V.int flo, V.int sto, V.ref cu, pv])
        generalize upd H22 wt (.tup [V.str nm, V.int lag, V.int (1 + ga), V.int flo, V.int sto, V.ref cu, pv]) = H23 at c23 rpv23 rc23 hcu23 x23 ⊢
        have hvl := rds_len c23.rd
        have kk : KeepU H23 (upd H23 p (.lst (vs ++ [.ref wt]))) := ku_lst c23.hp
        have lp : l ≠ p := fun z => by
          have h1 := c23.hl
          have h2 := c3.hp
          have h3 := c3.hl
          rw [z] at h3
          rw [h3] at h2
          have : xs.map V.str = [] := by injection h2 with h2; injection h2
          have hl0 := congrArg List.length this
          rw [List.length_map, List.length_nil] at hl0
          omega
        refine ⟨vs, c23.hp, Nat.lt_of_lt_of_le (show vs.length < 1000 by omega) (line1000 (Nat.le_refl _)), ws ++ [⟨nm, lag, 1 + ga, flo, sto, cs, ps⟩], _, _, _, _, _, _, _, _, _, _, rfl, by rw [List.length_append, List.length_singleton, hwl], fun j w' hw' => ?_, ⟨upd_same, ?_, by rw [upd_ne lp]; exact c23.hl, c23.s.upd (Ne.symm c23.pst), c23.b.upd fp, c23.pst, c23.lst⟩⟩
        · by_cases hj : j < ws.length
          · rw [List.getElem?_append_left hj] at hw'
            exact hk j w' hw'
          · rw [List.getElem?_append_right (by omega)] at hw'
            have hj0 : j - ws.length = 0 := by
              cases e : j - ws.length with
              | zero => rfl
              | succ n => rw [e] at hw'; simp at hw'
            rw [hj0] at hw'
            have ew : (⟨nm, lag, 1 + ga, flo, sto, cs, ps⟩ : Wr) = w' := by simpa using hw'
            have ej : j = i := by omega
            subst ew ej
            exact ⟨en, ⟨lag30, ⟨show 1 ≤ 1 + ga by omega, show 1 + ga ≤ 100 by omega⟩, ⟨f0, show flo ≤ 100 by omega⟩, ⟨st0, st1⟩, show ps.length ≤ 6 by omega, fun p hp => (po.sub p hp).2, po.nd, show cs.length ≤ 12 by omega, hcs⟩, fun p hp => (po.sub p hp).1⟩
        · rw [List.map_append]
          refine RDs.app (RDs.ku kk _ _ (nl_map Wr.d nl_ware _) c23.rd) (RDs.one (RD.ku kk _ _ (nl_ware _) ?_))
          unfold Wr.d
          exact RD.tup_mk x23 (RDs.cons RD.str_mk (RDs.cons RD.int_mk (RDs.cons RD.int_mk (RDs.cons RD.int_mk (RDs.cons RD.int_mk (RDs.cons (RD.tup_mk hcu23 rc23) (RDs.one rpv23)))))))
    · obtain ⟨ws, vs, o5, o6, o7, o8, o9, o10, o11, o12, o13, rfl, hwl, hk, c4⟩ := h
      rw [List.length_map] at hwl
      walk_at "rd"
      refine ⟨by decide, fun wl hw4 => ?_⟩
      have u5 := same_upd (o := .lst []) hw4
      have c5 := c4.same u5
      have hw5 := upd_same (H := H4) (a := wl) (o := .lst [])
      have wst : wl ≠ st := Ne.symm (c4.s.ne hw4)
      have fw : H wl = none := c4.b.none wst hw4
      have wp : wl ≠ p := fun z => by have := c4.hp; rw [← z, hw4] at this; cases this
      have wl' : wl ≠ l := fun z => by have := c4.hl; rw [← z, hw4] at this; cases this
      generalize upd H4 wl (.lst []) = H5 at c5 hw5 ⊢
      refine ⟨st, 6, rfl, c5.s, by decide, by decide +kernel, fun m H7 m0 m1 s7 b7 => ?_⟩
      have c7 := c5.draw s7 b7
      refine ⟨m, rfl, by omega, by omega, ?_⟩
      have hw7 := b7 _ _ wst hw5
      refine for_w (goesR 0 _) (WaInv31 st l p wl (.int top) xs ws vs H) ⟨[], [], _, _, _, _, _, _, _, _, rfl, rfl, (fun u hu => nomatch hu), hw7, RDs.nil, c7⟩ (fun _ _ _ _ _ => trivial) (fun i x σ H8 hi hx h => ?_) (fun σ H8 h => ?_)
      · obtain ⟨us, uv, o5, o6, o7, o8, o9, o10, o11, o13, rfl, hul, hus, hw8, ru, c8⟩ := h
        walk_at "rd"
        have e1 : (xs.map V.str).length = xs.length := List.length_map ..
        refine ⟨ty_lst hw8, _, .inl c8.hl, st, xs.length, by rw [e1], c8.s, by omega, Int.lt_of_le_of_lt (b := 12) (by omega) (by decide +kernel), fun ni H9 n0 n1 s9 b9 => ?_⟩
        have c9 := c8.draw s9 b9
        obtain ⟨nm, hnm⟩ : ∃ nm, xs[ni.toNat]? = some nm := ⟨_, List.getElem?_eq_getElem (by omega)⟩
        refine ⟨.str nm, item_i (.inl c9.hl) n0 (by rw [List.getElem?_map, hnm]; rfl), st, 9, rfl, c9.s, by decide, by decide +kernel, fun da H10 da0 da1 s10 b10 => ?_⟩
        have c10 := c9.draw s10 b10
        refine ⟨st, rfl, c10.s, fun am H11 am0 am1 s11 b11 => ⟨by decide, fun t ht => ?_⟩⟩
        have c11 := c10.draw s11 b11
        have b811 := (b9.trans b10).trans b11
        have u := same_upd (o := .tup [V.str nm, V.int da, V.int am]) ht
        have c12 := c11.same u
        have hw12 := u _ _ (b811 _ _ wst hw8)
        have ru12 := RDs.ku ((but_kuS b811 c8.s).trans u.ku) _ _ (nl_map wantD nl_want _) ru
        have x12 := upd_same (H := H11) (a := t) (o := .tup [V.str nm, V.int da, V.int am])
        generalize upd H11 t (.tup [V.str nm, V.int da, V.int am]) = H12 at c12 hw12 ru12 x12 ⊢
        have hvl := rds_len ru12
        have hi : i < m.toNat := hi
        have kk : KeepU H12 (upd H12 wl (.lst (uv ++ [.ref t]))) := ku_lst hw12
        refine ⟨uv, hw12, Nat.lt_of_lt_of_le (show uv.length < 1000 by omega) (line1000 (Nat.le_refl _)), us ++ [(nm, da, am)], _, _, _, _, _, _, _, _, _, rfl, by rw [List.length_append, List.length_singleton, hul], fun y hy => ?_, upd_same, ?_, ⟨by rw [upd_ne (Ne.symm wp)]; exact c12.hp, RDs.ku kk _ _ (nl_map Wr.d nl_ware _) c12.rd, by rw [upd_ne (Ne.symm wl')]; exact c12.hl, c12.s.upd (Ne.symm wst), c12.b.upd fw, c12.pst, c12.lst⟩⟩
        · rcases List.mem_append.mp hy with z | z
          · exact hus y z
          · rw [List.mem_singleton.mp z]
            exact ⟨List.mem_of_getElem? hnm, ⟨da0, da1⟩, am0, am1⟩
        · rw [List.map_append]
          exact RDs.app (RDs.ku kk _ _ (nl_map wantD nl_want _) ru12) (RDs.one (RD.tup_mk (xs := [V.str nm, V.int da, V.int am]) (kk _ _ x12) (RDs.cons RD.str_mk (RDs.cons RD.int_mk (RDs.one RD.int_mk)))))
      · obtain ⟨us, uv, o5, o6, o7, o8, o9, o10, o11, o13, rfl, hul, hus, hw8, ru, c8⟩ := h
        walk_at "rd"
        have e1 : (xs.map V.str).length = xs.length := List.length_map ..
        refine ⟨_, .inl c8.hl, st, xs.length, by rw [e1], c8.s, by omega, Int.lt_of_le_of_lt (b := 12) (by omega) (by decide +kernel), fun sh H9 h0 h1 s9 b9 => ⟨sh, rfl, ?_⟩⟩
        have c9 := c8.draw s9 b9
        have hw9 := b9 _ _ wst hw8
        have ru9 := RDs.ku (but_kuS b9 c8.s) _ _ (nl_map wantD nl_want _) ru
        refine ⟨vs, c9.hp, fun r1 hr1 => ⟨sh, rfl, vs, same_upd hr1 _ _ c9.hp, fun r2 hr2 => ?_⟩⟩
        rw [cutV_from h0, cutV_to h0] at *
        have v1 := same_upd (o := .lst (vs.drop sh.toNat)) hr1
        have v2 := same_upd (o := .lst (vs.take sh.toNat)) hr2
        have y1 := v2 _ _ (upd_same (H := H9) (a := r1) (o := .lst (vs.drop sh.toNat)))
        have y2 := upd_same (H := upd H9 r1 (.lst (vs.drop sh.toNat))) (a := r2) (o := .lst (vs.take sh.toNat))
        have s11 := v1.trans v2
        generalize upd (upd H9 r1 (.lst (vs.drop sh.toNat))) r2 (.lst (vs.take sh.toNat)) = H11 at y1 y2 s11 ⊢
        have hvl := rds_len c9.rd
        refine ⟨_, y1, _, y2, Nat.le_trans (m := 1000) (by rw [List.length_drop, List.length_take]; omega) (line1000 (Nat.le_refl _)), fun r3 hr3 => ⟨_, .inl ⟨upd_same, fun r4 hr4 => ?_⟩⟩⟩
        have v34 := (same_upd (o := .lst (vs.drop sh.toNat ++ vs.take sh.toNat)) hr3).trans (same_upd (o := .tup (vs.drop sh.toNat ++ vs.take sh.toNat)) hr4)
        have y4 := upd_same (H := upd H11 r3 (.lst (vs.drop sh.toNat ++ vs.take sh.toNat))) (a := r4) (o := .tup (vs.drop sh.toNat ++ vs.take sh.toNat))
        have s13 := s11.trans v34
        generalize upd (upd H11 r3 (.lst (vs.drop sh.toNat ++ vs.take sh.toNat))) r4 (.tup (vs.drop sh.toNat ++ vs.take sh.toNat)) = H13 at y4 s13 ⊢
        refine ⟨uv, .inl ⟨s13 _ _ hw9, fun r5 hr5 => ⟨by decide, fun r6 hr6 => ?_⟩⟩⟩
        have v56 := (same_upd (o := .tup uv) hr5).trans (same_upd (o := .tup [V.ref r4, V.ref r5]) hr6)
        have s15 := s13.trans v56
        have c15 := c9.same s15
        obtain ⟨ps, e3, e4, h3⟩ := pairs_of c15.rd
        have pm : (ps.drop sh.toNat ++ ps.take sh.toNat).Perm ps := List.perm_append_comm.trans (by rw [List.take_append_drop])
        refine k (.ref r6) ⟨(ps.drop sh.toNat ++ ps.take sh.toNat).map (·.1), us⟩ _ ?_ (sd52 hxn ⟨by omega, by omega⟩ hwl hk (by rw [← e3]; exact pm.map _) ⟨by omega, hus⟩) c15.s c15.b
        unfold Sh.d
        refine RD.tup_mk upd_same (RDs.cons (RD.tup_mk (v56 _ _ y4) ?_) (RDs.one (RD.tup_mk (same_upd hr6 _ _ upd_same) (RDs.same s15 _ _ ru9))))
        rw [← e4, ← List.map_drop, ← List.map_take, ← List.map_append]
        exact rds_pairs fun q hq => h3 q (pm.mem_iff.mp hq)
end
set_option maxRecDepth 100000
set_option maxHeartbeats 4000000
section
variable {P : Program} {w : World} {K : PySem.W.Frag} {mg : Str → Option Value} {base : Heap}
theorem ixN_at {n : Nat} {i : Int} (h : i.toNat < n) (h0 : 0 ≤ i) : ixN n i = some i.toNat := by
  unfold ixN
  rw [if_pos h0, if_pos (by omega)]
theorem item_two {H : Hp} {q : Addr} {a b : Int} {c : Bool} (h : H q = some (.lst [.int a, .int b])) : Item H (.ref q) (.int (if c = true then 1 else 0)) (.int (if c = true then b else a)) := by
  cases c with
  | true => exact item_l (j := 1) h rfl
  | false => exact item_l (j := 0) h rfl
theorem rds_set {H : Hp} {d : PyData} {v : V} (hv : RD H d v) : ∀ {ds : List PyData} {xs : List V} (n : Nat), RDs H ds xs → RDs H (ds.set n d) (xs.set n v)
  | [], xs, n, h => by rw [RDs.nil_of h]; cases n <;> exact RDs.nil
  | e :: ds, xs, n, h => by
    obtain ⟨x, r, rfl, h1, h2⟩ := RDs.cons_of h
    cases n with
    | zero => exact RDs.cons hv h2
    | succ n => exact RDs.cons h1 (rds_set hv n h2)
theorem sd_set {S : Sh} {i : Nat} {wr wo : Wr} {lg n : Int} (sd : SD S) (e : S.wares[i]? = some wr) (ho : wo ∈ S.wares) (hl : 0 ≤ lg ∧ lg ≤ 30) (hn : 1 ≤ n ∧ n ≤ 4) : SD ⟨S.wares.set i ⟨wr.name, lg, wr.gives, wr.floor, wr.stock, wr.coming, (wr.parts.filter fun p => decide (p.1 ≠ wo.name)).take 5 ++ [(wo.name, n)]⟩, S.wants⟩ := by
  have hwr := List.mem_of_getElem? e
  have en : ∀ x1 x2 x3 x4 x5 x6, (S.wares.set i ⟨wr.name, x1, x2, x3, x4, x5, x6⟩).map (·.name) = S.wares.map (·.name) := fun x1 x2 x3 x4 x5 x6 => by
    rw [List.map_set]
    apply List.ext_getElem?
    intro j
    rw [List.getElem?_set]
    by_cases h : i = j
    · subst h
      rw [if_pos rfl, List.getElem?_map, e]
      have := (List.getElem?_eq_some_iff.mp e).1
      rw [List.length_map, if_pos this]
      rfl
    · rw [if_neg h]
  have hm : ∀ {w' w : Wr}, w ∈ S.wares.set i w' → w ∈ S.wares ∨ w = w' := fun h => List.mem_or_eq_of_mem_set h
  have wb := sd.wb wr hwr
  have sub : ∀ p ∈ (wr.parts.filter fun p => decide (p.1 ≠ wo.name)).take 5, p ∈ wr.parts ∧ p.1 ≠ wo.name := fun p hp => by
    have := List.mem_filter.mp (List.mem_of_mem_take hp)
    exact ⟨this.1, of_decide_eq_true this.2⟩
  have wn : wo.name ∈ S.wares.map (·.name) := List.mem_map.mpr ⟨wo, ho, rfl⟩
  refine ⟨by show 1 ≤ (S.wares.set i _).length ∧ (S.wares.set i _).length ≤ 12; rw [List.length_set]; exact sd.n, fun w h => ?_, by rw [en]; exact sd.nd, fun w h => ?_, fun w h p hp => ?_, sd.un, fun u hu => by rw [en]; exact sd.us u hu⟩
  · rcases hm h with h | rfl
    · exact sd.nm w h
    · exact sd.nm wr hwr
  · rcases hm h with h | rfl
    · exact sd.wb w h
    · refine ⟨hl, wb.2.1, wb.2.2.1, wb.2.2.2.1, ?_, fun p hp => ?_, ?_, wb.2.2.2.2.2.2.2⟩
      · show ((wr.parts.filter fun p => decide (p.1 ≠ wo.name)).take 5 ++ [(wo.name, n)]).length ≤ 6
        rw [List.length_append, List.length_take, List.length_singleton]
        omega
      · rcases List.mem_append.mp hp with z | z
        · exact wb.2.2.2.2.2.1 p (sub p z).1
        · rw [List.mem_singleton.mp z]
          exact hn
      · show (((wr.parts.filter fun p => decide (p.1 ≠ wo.name)).take 5 ++ [(wo.name, n)]).map (·.1)).Nodup
        rw [List.map_append, List.nodup_append]
        refine ⟨?_, by simp, fun x hx y hy => ?_⟩
        · exact (((List.take_sublist _ _).trans List.filter_sublist).map _).nodup wb.2.2.2.2.2.2.1
        · obtain ⟨p, hp, rfl⟩ := List.mem_map.mp hx
          have hy : y ∈ [wo.name] := hy
          rw [List.mem_singleton.mp hy]
          exact (sub p hp).2
  · rw [en]
    rcases hm h with h | rfl
    · exact sd.own w h p hp
    · rcases List.mem_append.mp hp with z | z
      · exact sd.own wr hwr p (sub p z).1
      · rw [List.mem_singleton.mp z]
        exact wn
def sp_law_any_shop : Sp := fun vs H Q _ => ∃ (st : Addr), vs = [.ref st] ∧ StOk H st ∧ ∀ v (S : Sh) H', RD H' S.d v → SD S → StOk H' st → But st H H' → Q v H'
theorem sc_law_any_shop : FnScope ["_law_state", "_law_shop_here", "_law_wares", "_law_spot", "_law_ware", "_law_other", "_law_parts_here"] ["_law_state"] (defScope s_law_any_shop) := ⟨rfl, rfl, rfl, by decide +kernel, rfl, by decide +kernel, by decide +kernel⟩
theorem ok_law_any_shop {f : Addr} {fd : FuncData} (F : Fun K "_law_any_shop" "_law_any_shop" s_law_any_shop f fd) (T : Txt mg) (h_law_shop : Has P w K mg base "_law_shop" 3 ["_law_state", "_law_top"] sp_law_shop) (h_law_next : Has P w K mg base "_law_next" 1 ["_law_state", "_law_many"] sp_law_next) : FnOk P w K mg base CX0 4 f fd ["_law_state"] sp_law_any_shop := by
  refine F.ok sc_law_any_shop (fun vs H Q E h => ?_) (fun cdv A outer s H vs Q E hr h => ?_)
  · obtain ⟨st, rfl, _⟩ := h
    rfl
  · obtain ⟨st, rfl, hs, k⟩ := h
    have hu := hu_of hr
    refine ⟨_, (pss_cons (ps_set (i := 1) sc_law_any_shop.nd rfl (Or.inl rfl) (pe_callS h_law_shop (hr.mono (by decide)) rfl (pa_e (pv 0) (pa_e (pe_item hu (pe_lst (pa_e pe_int (pa_e pe_int pa_nil))) (pe_callTS call_int1 rfl T.n_int bt_int (pa_e (pe_cmpR (op_eqA hu) (pe_callS h_law_next (hr.mono (by decide)) rfl (pa_e (pv 0) (pa_e pe_int pa_nil))) pe_int (nomark _)) pa_nil)) (fun _ _ => rfl)) pa_nil))))
 (pss_cons (ps_if (pt_cmpR op_gt (pe_callS h_law_next (hr.mono (by decide)) rfl (pa_e (pv 0) (pa_e pe_int pa_nil))) pe_int (nomark _)) (pss_one (ps_ret (pv 1))) pss_nil)
 (pss_cons (ps_set (i := 2) sc_law_any_shop.nd rfl (Or.inl rfl) (pe_callTS call_listA rfl T.n_list bt_list (pa_e (pe_item hu (pv 1) pe_int (fun _ _ => rfl)) pa_nil)))
 (pss_cons (ps_set (i := 3) sc_law_any_shop.nd rfl (Or.inl rfl) (pe_callS h_law_next (hr.mono (by decide)) rfl (pa_e (pv 0) (pa_e (pe_callBS call_len_q rfl T.n_len bt_len (pa_e (pv 2) pa_nil)) pa_nil))))
 (pss_cons (ps_set (i := 4) sc_law_any_shop.nd rfl (Or.inl rfl) (pe_item hu (pv 2) (pv 3) (fun _ _ => rfl)))
 (pss_cons (ps_set (i := 5) sc_law_any_shop.nd rfl (Or.inr rfl) (pe_item hu (pe_item hu (pv 2) (pe_callS h_law_next (hr.mono (by decide)) rfl (pa_e (pv 0) (pa_e (pe_callBS call_len_q rfl T.n_len bt_len (pa_e (pv 2) pa_nil)) pa_nil))) (fun _ _ => rfl)) pe_int (fun _ _ => rfl)))
 (pss_cons (ps_set (i := 6) sc_law_any_shop.nd rfl (Or.inl rfl) (pe_op op_catTT (pe_callTS call_tupleA rfl T.n_tuple bt_tuple (pa_e (pe_slice sl_lstA (pe_comp (own := ["_law_part"]) (cap := [5]) rfl (cp_ok rfl) (gown_name (by decide)) (pi_tpl (pe_item hu (pv 4) pe_int (fun _ _ => rfl)))
 (fun _ _ _ _ _ _ => ⟨(pg_name (i := 0) (of_decide_eq_true rfl) rfl (Or.inl rfl) (.inr rfl)), (pts_one (pt_cmpR (op_neA hu) (pe_item hu (pv 0) pe_int (fun _ _ => rfl)) (pv 1) (nomark _))), (pv 0)⟩)) po_none (po_some pe_int)) pa_nil)) (pe_tup (pa_e (pe_tup (pa_e (pv 5) (pa_e (pe_op op_add pe_int (pe_callS h_law_next (hr.mono (by decide)) rfl (pa_e (pv 0) (pa_e pe_int pa_nil)))) pa_nil))) pa_nil))))
 (pss_cons (ps_asg (pe_op op_catTT (pe_op op_catTT (pe_tup (pa_e (pe_item hu (pv 4) pe_int (fun _ _ => rfl)) (pa_e (pe_callS h_law_next (hr.mono (by decide)) rfl (pa_e (pv 0) (pa_e pe_int pa_nil))) pa_nil))) (pe_slice sl_tupA (pv 4) (po_some pe_int) (po_some pe_int))) (pe_tup (pa_e (pv 6) pa_nil))) (pg_sub (pv 2) (pv 3) set_list))
 (pss_one (ps_ret (pe_tup (pa_e (pe_callTS call_tupleA rfl T.n_tuple bt_tuple (pa_e (pv 2) pa_nil)) (pa_e (pe_item hu (pv 1) pe_int (fun _ _ => rfl)) pa_nil))))))))))))), ?_⟩
    walk_at "rd"
    refine ⟨by decide, fun p hp => ?_⟩
    have pst : p ≠ st := Ne.symm (hs.ne hp)
    refine ⟨st, 6, rfl, hs.upd (hs.ne hp), by decide, by decide +kernel, fun d H1 d0 d1 s1 b1 => ⟨rfl, _, item_two (b1 _ _ pst upd_same), ?_⟩⟩
    refine ⟨st, _, rfl, s1, by split <;> decide, by split <;> decide, fun v S H2 rS sd s2 b2 => ?_⟩
    walk_at "rd"
    refine ⟨st, 3, rfl, s2, by decide, by decide +kernel, fun e H3 e0 e1 s3 b3 => ⟨e, rfl, ?_⟩⟩
    have b03 := ((but_upd (o := .lst [V.int 5, V.int 12]) hp).trans b1).trans (b2.trans b3)
    have rS3 := RD.ku (but_kuS b3 s2) _ _ (nl_shop S) rS
    refine ite2 (fun _ => k v S H3 rS3 sd s3 b03) (fun _ => ?_)
    obtain ⟨a, b, c, ws, us, rfl, ha, hb, hc, rw3, ru3⟩ := shop_at rS3
    have hwl := rds_len rw3
    have hn := sd.n
    refine ⟨_, item_t (j := 0) ha rfl, b, rfl, ws, .inr hb, fun l hl => ⟨ws, .inl upd_same, ?_⟩⟩
    have lst' : l ≠ st := Ne.symm (s3.ne hl)
    have ul := same_upd (o := .lst ws) hl
    refine ⟨st, ws.length, rfl, s3.upd (s3.ne hl), by omega, Int.lt_of_le_of_lt (b := 12) (by omega) (by decide +kernel), fun sp H4 sp0 sp1 s4 b4 => ?_⟩
    obtain ⟨wv, hwv⟩ : ∃ wv, ws[sp.toNat]? = some wv := ⟨_, List.getElem?_eq_getElem (by omega)⟩
    have hl4 := b4 _ _ lst' upd_same
    refine ⟨wv, item_i (.inl hl4) sp0 hwv, ws, .inl hl4, st, ws.length, rfl, s4, by omega, Int.lt_of_le_of_lt (b := 12) (by omega) (by decide +kernel), fun ot H5 ot0 ot1 s5 b5 => ?_⟩
    have hl5 := b5 _ _ lst' hl4
    obtain ⟨ov, hov⟩ : ∃ ov, ws[ot.toNat]? = some ov := ⟨_, List.getElem?_eq_getElem (by omega)⟩
    have b35 : But st H3 H5 := ((but_upd (o := .lst ws) hl).trans b4).trans b5
    have k35 : KeepU H3 H5 := (ul.ku.trans (but_kuS b4 (s3.upd (s3.ne hl)))).trans (but_kuS b5 s4)
    obtain ⟨wo, ewo, rwo⟩ := rds_map (RDs.ku k35 _ _ (nl_map Wr.d nl_ware _) rw3) hov
    obtain ⟨ao, _, _, rfl, hao, _, _⟩ := ware_at rwo
    obtain ⟨wr, ewr, rwr⟩ := rds_map (RDs.ku k35 _ _ (nl_map Wr.d nl_ware _) rw3) hwv
    obtain ⟨ar, cv, pv, rfl, har, rc5, rp5⟩ := ware_at rwr
    refine ⟨_, item_i (.inl hl5) ot0 hov, _, item_t (j := 0) hao rfl, _, item_t (j := 6) har rfl, ?_⟩
    obtain ⟨pa, pvs, rfl, hpa, rpp⟩ := RD.tup_of rp5
    refine ⟨pa, rfl, pvs, hpa, ?_⟩
    have hpl := rds_len rpp
    have wb := sd.wb wr (List.mem_of_getElem? ewr)
    have p6 := wb.2.2.2.2.1
    refine comp_w (goesT pa _) (line1000 (by omega)) (fun i acc H' => RDs H' (((wr.parts.take i).filter fun p => decide (p.1 ≠ wo.name)).map partD) acc ∧ Same H5 H') ⟨RDs.nil, Same.refl _⟩ (fun i acc H' _ h => h.2 _ _ hpa) (fun i acc H' h => ?_) (fun i x acc H' hi hx h => ?_) (fun acc H6 h q hq => ?_)
    · have := rds_len h.1
      have h2 : ((wr.parts.take i).filter fun p => decide (p.1 ≠ wo.name)).length ≤ i := Nat.le_trans (List.length_filter_le _ _) (by rw [List.length_take]; omega)
      omega
    · obtain ⟨racc, s1⟩ := h
      obtain ⟨r, er, rr⟩ := rds_map rpp hx
      obtain ⟨ra, rfl, hra⟩ := part_at rr
      walk_at "rd"
      have et : (wr.parts.take (i + 1)).filter (fun p => decide (p.1 ≠ wo.name)) = (wr.parts.take i).filter (fun p => decide (p.1 ≠ wo.name)) ++ if r.1 ≠ wo.name then [r] else [] := by
        rw [List.take_add_one, er, List.filter_append]
        congr 1
        by_cases z : r.1 = wo.name
        · rw [if_neg (fun h => h z)]; simp [z]
        · rw [if_pos z]; simp [z]
      refine ⟨_, item_t (j := 0) (s1 _ _ hra) rfl, rfl, ite2 (fun z => ⟨?_, s1⟩) (fun z => ⟨?_, s1⟩)⟩
      · have z : r.1 ≠ wo.name := fun e => by rw [e] at z; simp at z
        rw [et, if_pos z, List.map_append]
        exact RDs.app racc (RDs.one (RD.same s1 _ _ rr))
      · have z : r.1 = wo.name := by simpa using z
        rw [et, if_neg (fun h => h z), List.append_nil]
        exact racc
    · obtain ⟨racc, s6⟩ := h
      rw [show wr.parts.take pvs.length = wr.parts by rw [hpl, List.take_length]] at racc
      refine ⟨q, rfl, acc, upd_same, fun q2 hq2 => ⟨_, .inl ⟨upd_same, fun l1 hl1 => ?_⟩⟩⟩
      rw [cutV_to (by decide)] at hl1 ⊢
      have e5 : Int.toNat 5 = 5 := rfl
      rw [e5] at hl1 ⊢
      have ra5 := rds_take 5 racc
      rw [← List.map_take] at ra5
      have u7 := ((same_upd (o := .lst acc) hq).trans (same_upd (o := .lst (acc.take 5)) hq2)).trans (same_upd (o := .tup (acc.take 5)) hl1)
      have hl7 := upd_same (H := upd (upd H6 q (.lst acc)) q2 (.lst (acc.take 5))) (a := l1) (o := .tup (acc.take 5))
      generalize upd (upd (upd H6 q (.lst acc)) q2 (.lst (acc.take 5))) l1 (.tup (acc.take 5)) = H7 at u7 hl7 ⊢
      have s57 := s6.trans u7
      refine ⟨st, 4, rfl, s5.same s57, by decide, by decide +kernel, fun am H8 am0 am1 s8 b8 => ⟨am, rfl, by decide, fun p1 hp1 => ⟨by decide, fun p2 hp2 => ?_⟩⟩⟩
      have l1st : l1 ≠ st := fun z => by obtain ⟨_, _, e⟩ := s5.same s57; rw [← z, hl7] at e; cases e
      have u9 := (same_upd (o := .tup [V.str wo.name, V.int (1 + am)]) hp1).trans (same_upd (o := .tup [V.ref p1]) hp2)
      have hp9 := upd_same (H := upd H8 p1 (.tup [V.str wo.name, V.int (1 + am)])) (a := p2) (o := .tup [V.ref p1])
      have hp19 := same_upd (o := .tup [V.ref p1]) hp2 _ _ (upd_same (H := H8) (a := p1) (o := .tup [V.str wo.name, V.int (1 + am)]))
      generalize upd (upd H8 p1 (.tup [V.str wo.name, V.int (1 + am)])) p2 (.tup [V.ref p1]) = H9 at u9 hp9 hp19 ⊢
      have hl9 := u9 _ _ (b8 _ _ l1st hl7)
      refine ⟨_, hl9, _, hp9, Nat.le_trans (m := 1000) (by rw [List.length_take, List.length_singleton]; omega) (line1000 (Nat.le_refl _)), fun p3 H10 hp10 s10 _ => ?_⟩
      have b59 : But st H5 H10 := (same_but s57).trans (b8.trans ((same_but u9).trans (same_but s10)))
      have k59 : KeepU H5 H10 := s57.ku.trans ((but_kuS b8 (s5.same s57)).trans (u9.trans s10).ku)
      have rpn : RD H10 (.tuple ((((wr.parts.filter fun p => decide (p.1 ≠ wo.name)).take 5) ++ [(wo.name, 1 + am)]).map partD)) (.ref p3) := by
        refine RD.tup_mk hp10 ?_
        rw [List.map_append]
        refine RDs.app (RDs.ku ((u7.ku.trans (but_kuS b8 (s5.same s57))).trans (u9.trans s10).ku) _ _ (nl_map partD nl_part _) ra5) (RDs.one (RD.tup_mk (xs := [V.str wo.name, V.int (1 + am)]) (s10 _ _ hp19) (RDs.cons RD.str_mk (RDs.one RD.int_mk))))
      have s10' := (s8.same u9).same s10
      refine ⟨_, item_t (j := 0) (k59 _ _ har) rfl, st, 31, rfl, s10', by decide, by decide +kernel, fun lg H11 lg0 lg1 s11 b11 => ⟨by decide, fun p4 hp4 => ?_⟩⟩
      have u12 := same_upd (o := .tup [V.str wr.name, V.int lg]) hp4
      have har12 := u12 _ _ (but_kuS b11 s10' _ _ (k59 _ _ har))
      refine ⟨ar, rfl, _, har12, fun p5 H12 hp5 s12 _ => ⟨_, s12 _ _ upd_same, _, hp5, ?_⟩⟩
      have ecut : ∀ x1 x2 x3 x4 x5 x6 x7 : V, cutV [x1, x2, x3, x4, x5, x6, x7] (some 2) (some 6) = [x3, x4, x5, x6] := fun x1 x2 x3 x4 x5 x6 x7 => by rw [cutV_nn (by decide) (by decide)]; rfl
      rw [ecut]
      refine ⟨by show 6 ≤ sizeLine; decide, fun p6 H13 hp6 s13 _ => ⟨by decide, fun p7 hp7 => ⟨_, same_upd hp7 _ _ hp6, _, upd_same, by show 7 ≤ sizeLine; decide, fun p8 H14 hp8 s14 _ => ?_⟩⟩⟩
      have s1114 : Same H11 H14 := (u12.trans s12).trans (s13.trans ((same_upd hp7).trans s14))
      have b514 : But st H5 H14 := b59.trans (b11.trans (same_but s1114))
      have hl14 := b514 _ _ lst' hl5
      have s14' := s11.same s1114
      have k514 : KeepU H5 H14 := k59.trans ((but_kuS b11 s10').trans s1114.ku)
      have k314 := k35.trans k514
      have rpn14 := RD.ku ((but_kuS b11 s10').trans s1114.ku) _ _ (by rw [noLst]; exact nl_map partD nl_part _) rpn
      have spl : sp.toNat < ws.length := by omega
      refine ⟨ws, sp, rfl, hl14, sp.toNat, ixN_at spl sp0, _, .inl ⟨upd_same, fun l2 hl2 => ?_⟩⟩
      have kl : KeepU H14 (upd H14 l (.lst (ws.set sp.toNat (.ref p8)))) := ku_lst hl14
      have ul2 := same_upd (o := .tup (ws.set sp.toNat (.ref p8))) hl2
      have kl2 := k314.trans (kl.trans ul2.ku)
      refine ⟨_, item_t (j := 1) (kl2 _ _ ha) rfl, by decide, fun p9 hp9 => ?_⟩
      have u9' := same_upd (o := .tup [V.ref l2, V.ref c]) hp9
      have kf := kl2.trans u9'.ku
      have klf := kl.trans (ul2.ku.trans u9'.ku)
      have fl : H l = none := b03.none lst' hl
      refine k (.ref p9) ⟨S.wares.set sp.toNat ⟨wr.name, lg, wr.gives, wr.floor, wr.stock, wr.coming, (wr.parts.filter fun p => decide (p.1 ≠ wo.name)).take 5 ++ [(wo.name, 1 + am)]⟩, S.wants⟩ _ ?_ (sd_set sd ewr (List.mem_of_getElem? ewo) ⟨lg0, by omega⟩ ⟨by omega, by omega⟩) (((s14'.upd (Ne.symm lst')).same ul2).same u9') ((((b03.trans (b35.trans b514)).upd fl).trans (same_but ul2)).trans (same_but u9'))
      unfold Sh.d
      refine RD.tup_mk upd_same (RDs.cons (RD.tup_mk (u9' _ _ upd_same) ?_) (RDs.one (RD.tup_mk (kf _ _ hc) (RDs.ku kf _ _ (nl_map wantD nl_want _) ru3))))
      rw [List.map_set]
      refine rds_set ?_ _ (RDs.ku kf _ _ (nl_map Wr.d nl_ware _) rw3)
      unfold Wr.d
      exact RD.tup_mk (klf _ _ hp8) (RDs.cons RD.str_mk (RDs.cons RD.int_mk (RDs.cons RD.int_mk (RDs.cons RD.int_mk (RDs.cons RD.int_mk (RDs.cons (RD.ku (k514.trans klf) _ _ (by rw [noLst]; exact nl_map arrD nl_arr _) rc5) (RDs.one (RD.ku klf _ _ (by rw [noLst]; exact nl_map partD nl_part _) rpn14))))))))
end
set_option maxRecDepth 100000
set_option maxHeartbeats 4000000
def wareR (w : Wr) : R3 := ("ware", w.name, [.inl w.lag, .inl w.gives, .inl w.floor, .inl w.stock])
def comR (n : Str) (c : Int × Int) : R3 := ("coming", n, [.inl c.1, .inl c.2])
def partR (n : Str) (p : Str × Int) : R3 := ("part", n, [.inr p.1, .inl p.2])
def wantR (u : Wt) : R3 := ("want", u.1, [.inl u.2.1, .inl u.2.2])
def txv (r : R3) : V := .str (rowT (r3 r))
def grp2 (w : Wr) : List (List R3) := [w.coming.map (comR w.name), w.parts.map (partR w.name)]
def groups (S : Sh) : List (List R3) := S.wares.map wareR :: S.wants.map wantR :: S.wares.flatMap grp2
def LsAt (H : Hp) : List Addr → List (List R3) → Prop
  | [], [] => True
  | q :: qs, g :: gs => H q = some (.lst (g.map txv)) ∧ LsAt H qs gs
  | [], _ :: _ => False
  | _ :: _, [] => False
theorem LsAt.len {H : Hp} : ∀ {qs : List Addr} {gs : List (List R3)}, LsAt H qs gs → qs.length = gs.length
  | [], [], _ => rfl
  | q :: qs, g :: gs, h => by rw [List.length_cons, List.length_cons, LsAt.len h.2]
  | [], _ :: _, h => h.elim
  | _ :: _, [], h => h.elim
theorem LsAt.mono {H H' : Hp} : ∀ {qs : List Addr} {gs : List (List R3)}, LsAt H qs gs → (∀ q ∈ qs, ∀ o, H q = some o → H' q = some o) → LsAt H' qs gs
  | [], [], _, _ => trivial
  | q :: qs, g :: gs, h, s => ⟨s q List.mem_cons_self _ h.1, LsAt.mono h.2 fun q hq => s q (List.mem_cons_of_mem _ hq)⟩
  | [], _ :: _, h, _ => h.elim
  | _ :: _, [], h, _ => h.elim
theorem LsAt.same {H H' : Hp} {qs : List Addr} {gs : List (List R3)} (h : LsAt H qs gs) (s : Same H H') : LsAt H' qs gs := h.mono fun q _ o => s q o
theorem LsAt.app {H : Hp} : ∀ {qs qs' : List Addr} {gs gs' : List (List R3)}, LsAt H qs gs → LsAt H qs' gs' → LsAt H (qs ++ qs') (gs ++ gs')
  | [], _, [], _, _, h => h
  | q :: qs, _, g :: gs, _, h, h' => ⟨h.1, LsAt.app h.2 h'⟩
  | [], _, _ :: _, _, h, _ => h.elim
  | _ :: _, _, [], _, h, _ => h.elim
theorem LsAt.mem {H : Hp} : ∀ {qs : List Addr} {gs : List (List R3)} {q : Addr}, LsAt H qs gs → q ∈ qs → ∃ g : List R3, H q = some (.lst (g.map txv))
  | [], [], _, _, h => nomatch h
  | q :: qs, g :: gs, r, h, hq => by
    rcases List.mem_cons.mp hq with z | z
    · rw [z]; exact ⟨g, h.1⟩
    · exact LsAt.mem h.2 z
  | [], _ :: _, _, h, _ => h.elim
  | _ :: _, [], _, h, _ => h.elim
theorem sp32 : (Str.ofString " ") = one 32 := by decide +kernel
theorem cell60 {i : Int} (h : CellOk (.inl i)) : i.natAbs < 10 ^ 500 := by
  have h : 0 ≤ i ∧ i < 10 ^ 60 := h
  have : i.natAbs < 10 ^ 60 := by omega
  exact Nat.lt_trans this (by decide +kernel)
theorem rows_ok {S : Sh} (sd : SD S) {w : Wr} (hw : w ∈ S.wares) : RowOk (r3 (wareR w)) ∧ (∀ c ∈ w.coming, RowOk (r3 (comR w.name c))) ∧ ∀ p ∈ w.parts, RowOk (r3 (partR w.name p)) := by
  have wb := sd.wb w hw
  have nm : CellOk (.inr w.name) := sd.nm w hw
  have big : (10 : Int) ^ 42 < 10 ^ 60 := by decide +kernel
  have big2 : (10 : Int) ^ 41 < 10 ^ 60 := by decide +kernel
  refine ⟨⟨by show (_, _) ∈ formsW; unfold formsW; simp [r3, wareR, cellF], fun k hk => ?_⟩, fun c hc => ⟨by show (_, _) ∈ formsW; unfold formsW; simp [r3, comR, cellF], fun k hk => ?_⟩, fun p hp => ⟨by show (_, _) ∈ formsW; unfold formsW; simp [r3, partR, cellF], fun k hk => ?_⟩⟩
  · simp only [r3, wareR, List.mem_cons, List.not_mem_nil, or_false] at hk
    obtain ⟨h1, h2, h3, h4, _⟩ := wb
    rcases hk with rfl | rfl | rfl | rfl | rfl
    · exact nm
    · exact ⟨h1.1, by omega⟩
    · exact ⟨by omega, by omega⟩
    · exact ⟨h3.1, by omega⟩
    · exact ⟨h4.1, by omega⟩
  · simp only [r3, comR, List.mem_cons, List.not_mem_nil, or_false] at hk
    have h := wb.2.2.2.2.2.2.2.2 c hc
    rcases hk with rfl | rfl | rfl
    · exact nm
    · exact ⟨h.1.1, by omega⟩
    · exact ⟨h.2.1, by omega⟩
  · simp only [r3, partR, List.mem_cons, List.not_mem_nil, or_false] at hk
    have h := wb.2.2.2.2.2.1 p hp
    rcases hk with rfl | rfl | rfl
    · exact nm
    · obtain ⟨w', hw', e⟩ := List.mem_map.mp (sd.own w hw p hp)
      have : isNameS w'.name = true := sd.nm w' hw'
      rw [e] at this
      exact this
    · exact ⟨by omega, by omega⟩
theorem want_ok {S : Sh} (sd : SD S) {u : Wt} (hu : u ∈ S.wants) : RowOk (r3 (wantR u)) := by
  have h := sd.us u hu
  have big2 : (10 : Int) ^ 41 < 10 ^ 60 := by decide +kernel
  refine ⟨by show (_, _) ∈ formsW; unfold formsW; simp [r3, wantR, cellF], fun k hk => ?_⟩
  simp only [r3, wantR, List.mem_cons, List.not_mem_nil, or_false] at hk
  rcases hk with rfl | rfl | rfl
  · obtain ⟨w', hw', e⟩ := List.mem_map.mp h.1
    have : isNameS w'.name = true := sd.nm w' hw'
    rw [e] at this
    exact this
  · exact ⟨h.2.1.1, by omega⟩
  · exact ⟨h.2.2.1, by omega⟩
set_option maxRecDepth 100000
set_option maxHeartbeats 4000000
def One (φ : R3 → Bool) (gs : List (List R3)) : Prop := gs.Pairwise fun g h => g.filter φ = [] ∨ h.filter φ = []
structure Mg (S : Sh) (rs : List R3) (gs : List (List R3)) : Prop where
  all : ∀ r ∈ rs ++ gs.flatten, r ∈ (groups S).flatten
  len : rs.length + gs.flatten.length = (groups S).flatten.length
  fl : ∀ φ, One φ (groups S) → One φ gs ∧ rs.filter φ ++ gs.flatten.filter φ = (groups S).flatten.filter φ
theorem fil_none {α : Type} {φ : R3 → Bool} {f : α → R3} {xs : List α} (h : ∀ x ∈ xs, φ (f x) = false) : (xs.map f).filter φ = [] := by
  rw [List.filter_eq_nil_iff]
  intro r hr
  obtain ⟨x, hx, rfl⟩ := List.mem_map.mp hr
  rw [h x hx]
  exact Bool.false_ne_true
theorem fil_all {α : Type} {φ : R3 → Bool} {f : α → R3} {xs : List α} (h : ∀ x ∈ xs, φ (f x) = true) : (xs.map f).filter φ = xs.map f := by
  rw [List.filter_eq_self]
  intro r hr
  obtain ⟨x, hx, rfl⟩ := List.mem_map.mp hr
  exact h x hx
theorem grp_none {φ : R3 → Bool} {w : Wr} (h1 : ∀ c, φ (comR w.name c) = false) (h2 : ∀ p, φ (partR w.name p) = false) : ∀ g ∈ grp2 w, g.filter φ = [] := fun g hg => by
  unfold grp2 at hg
  rcases List.mem_cons.mp hg with z | z
  · rw [z]; exact fil_none fun c _ => h1 c
  · rw [List.mem_singleton.mp z]; exact fil_none fun c _ => h2 c
theorem flat_none {φ : R3 → Bool} {gs : List (List R3)} (h : ∀ g ∈ gs, g.filter φ = []) : gs.flatten.filter φ = [] := by
  rw [List.filter_eq_nil_iff]
  intro r hr
  obtain ⟨g, hg, hr⟩ := List.mem_flatten.mp hr
  exact List.filter_eq_nil_iff.mp (h g hg) r hr
theorem one_none {φ : R3 → Bool} {gs : List (List R3)} (h : ∀ g ∈ gs, g.filter φ = []) : One φ gs := by
  refine List.pairwise_iff_getElem.mpr fun i j hi hj _ => .inl (h _ (List.getElem_mem hi))
theorem one_cons {φ : R3 → Bool} {g : List R3} {gs : List (List R3)} (h : g.filter φ = [] ∨ ∀ x ∈ gs, x.filter φ = []) (o : One φ gs) : One φ (g :: gs) := List.pairwise_cons.mpr ⟨fun x hx => h.imp id fun z => z x hx, o⟩
def isCP (s : Str) : Prop := s = "coming" ∨ s = "part"
theorem pick_name {s n m : Str} {x : Str} {ks : List Key} (h : m ≠ n) : pick s n (x, m, ks) = false := by
  unfold pick
  rw [decide_eq_false h, Bool.and_false]
theorem pick_sort {s n m : Str} {x : Str} {ks : List Key} (h : x ≠ s) : pick s n (x, m, ks) = false := by
  unfold pick
  rw [decide_eq_false h, Bool.false_and]
theorem pick_both {s n : Str} {ks : List Key} : pick s n (s, n, ks) = true := by
  unfold pick
  rw [decide_eq_true rfl, decide_eq_true rfl]
  rfl
theorem pickW {s n : Str} (h : isCP s) (w : Wr) : pick s n (wareR w) = false := pick_sort (by rcases h with rfl | rfl <;> decide +kernel)
theorem pickU {s n : Str} (h : isCP s) (u : Wt) : pick s n (wantR u) = false := pick_sort (by rcases h with rfl | rfl <;> decide +kernel)
theorem flat_other {s n : Str} {ws : List Wr} (h : ∀ w ∈ ws, w.name ≠ n) : ∀ g ∈ ws.flatMap grp2, g.filter (pick s n) = [] := fun g hg => by
  obtain ⟨w, hw, hg⟩ := List.mem_flatMap.mp hg
  exact grp_none (fun c => pick_name (h w hw)) (fun p => pick_name (h w hw)) g hg
theorem one_flat {s n : Str} (hs : isCP s) : ∀ {ws : List Wr}, (ws.map (·.name)).Nodup → One (pick s n) (ws.flatMap grp2)
  | [], _ => List.Pairwise.nil
  | w :: r, nd => by
    have nd := List.nodup_cons.mp (show (w.name :: r.map (·.name)).Nodup from nd)
    have o := one_flat hs nd.2 (n := n)
    rw [List.flatMap_cons]
    show One _ (_ :: _ :: r.flatMap grp2)
    by_cases z : w.name = n
    · have ot : ∀ g ∈ r.flatMap grp2, g.filter (pick s n) = [] := flat_other fun w' hw' e => nd.1 (by rw [z, ← e]; exact List.mem_map.mpr ⟨w', hw', rfl⟩)
      refine one_cons ?_ (one_cons (.inr ot) o)
      rcases hs with rfl | rfl
      · refine .inr fun x hx => ?_
        rcases List.mem_cons.mp hx with e | hx
        · rw [e]; exact fil_none fun p _ => pick_sort (by decide +kernel)
        · exact ot x hx
      · exact .inl (fil_none fun p _ => pick_sort (by decide +kernel))
    · exact one_cons (.inl (fil_none fun c _ => pick_name z)) (one_cons (.inl (fil_none fun c _ => pick_name z)) o)
theorem one_pick {s n : Str} (hs : isCP s) {S : Sh} (nd : (S.wares.map (·.name)).Nodup) : One (pick s n) (groups S) :=
  one_cons (.inl (fil_none fun w _ => pickW hs w)) (one_cons (.inl (fil_none fun u _ => pickU hs u)) (one_flat hs nd))
theorem flat_pick {s : Str} (hs : isCP s) {w : Wr} : ∀ {ws : List Wr}, (ws.map (·.name)).Nodup → w ∈ ws → (ws.flatMap grp2).flatten.filter (pick s w.name) = (grp2 w).flatten.filter (pick s w.name)
  | [], _, h => nomatch h
  | v :: r, nd, h => by
    have nd := List.nodup_cons.mp (show (v.name :: r.map (·.name)).Nodup from nd)
    rw [List.flatMap_cons, List.flatten_append, List.filter_append]
    rcases List.mem_cons.mp h with z | z
    · subst z
      rw [flat_none (gs := r.flatMap grp2) (flat_other fun w' hw' e => nd.1 (by rw [← e]; exact List.mem_map.mpr ⟨w', hw', rfl⟩)), List.append_nil]
    · have ne : v.name ≠ w.name := fun e => nd.1 (by rw [e]; exact List.mem_map.mpr ⟨w, z, rfl⟩)
      rw [flat_none (gs := grp2 v) (grp_none (fun c => pick_name ne) (fun p => pick_name ne)), List.nil_append, flat_pick hs nd.2 z]
theorem grp_com (w : Wr) : (grp2 w).flatten.filter (pick "coming" w.name) = w.coming.map (comR w.name) := by
  unfold grp2
  rw [List.flatten_cons, List.flatten_cons, List.flatten_nil, List.append_nil, List.filter_append, fil_all (f := comR w.name) (fun c _ => pick_both), fil_none (f := partR w.name) (fun p _ => pick_sort (by decide +kernel)), List.append_nil]
theorem grp_part (w : Wr) : (grp2 w).flatten.filter (pick "part" w.name) = w.parts.map (partR w.name) := by
  unfold grp2
  rw [List.flatten_cons, List.flatten_cons, List.flatten_nil, List.append_nil, List.filter_append, fil_all (f := partR w.name) (fun c _ => pick_both), fil_none (f := comR w.name) (fun p _ => pick_sort (by decide +kernel)), List.nil_append]
theorem groups_pick {s : Str} (hs : isCP s) {S : Sh} (nd : (S.wares.map (·.name)).Nodup) {w : Wr} (hw : w ∈ S.wares) : (groups S).flatten.filter (pick s w.name) = (grp2 w).flatten.filter (pick s w.name) := by
  unfold groups
  rw [List.flatten_cons, List.flatten_cons, List.filter_append, List.filter_append, fil_none (f := wareR) (fun w _ => pickW hs w), fil_none (f := wantR) (fun u _ => pickU hs u), List.nil_append, List.nil_append, flat_pick hs nd hw]
theorem flat_isS {s : Str} (h1 : s ≠ "coming") (h2 : s ≠ "part") (ws : List Wr) : ∀ g ∈ ws.flatMap grp2, g.filter (isS s) = [] := fun g hg => by
  obtain ⟨w, hw, hg⟩ := List.mem_flatMap.mp hg
  exact grp_none (fun c => decide_eq_false (Ne.symm h1)) (fun p => decide_eq_false (Ne.symm h2)) g hg
theorem isS_ware (S : Sh) : One (isS "ware") (groups S) ∧ (groups S).flatten.filter (isS "ware") = S.wares.map wareR := by
  have f := flat_isS (s := "ware") (by decide +kernel) (by decide +kernel) S.wares
  have u : (S.wants.map wantR).filter (isS "ware") = [] := fil_none fun u _ => decide_eq_false (show ("want" : Str) ≠ "ware" by decide +kernel)
  refine ⟨one_cons (.inr fun x hx => ?_) (one_cons (.inl u) (one_none f)), ?_⟩
  · rcases List.mem_cons.mp hx with e | hx
    · rw [e]; exact u
    · exact f x hx
  · unfold groups
    rw [List.flatten_cons, List.flatten_cons, List.filter_append, List.filter_append, u, flat_none f, List.nil_append, List.append_nil, fil_all (f := wareR) fun w _ => decide_eq_true rfl]
theorem isS_want (S : Sh) : One (isS "want") (groups S) ∧ (groups S).flatten.filter (isS "want") = S.wants.map wantR := by
  have f := flat_isS (s := "want") (by decide +kernel) (by decide +kernel) S.wares
  have u : (S.wares.map wareR).filter (isS "want") = [] := fil_none fun u _ => decide_eq_false (show ("ware" : Str) ≠ "want" by decide +kernel)
  refine ⟨one_cons (.inl u) (one_cons (.inr f) (one_none f)), ?_⟩
  unfold groups
  rw [List.flatten_cons, List.flatten_cons, List.filter_append, List.filter_append, u, flat_none f, List.nil_append, List.append_nil, fil_all (f := wantR) fun w _ => decide_eq_true rfl]
set_option maxRecDepth 100000
set_option maxHeartbeats 4000000
theorem unl_of {xs : List Str} (h : xs.Nodup) : unl xs = true := by
  unfold unl
  refine List.all_eq_true.mpr fun x hx => decide_eq_true ?_
  have e : (fun y => decide (y = x)) = fun y : Str => y == x := by
    funext y
    rw [Bool.beq_eq_decide_eq]
  rw [e]
  show xs.count x = 1
  rw [h.count, if_pos hx]
def arrT (c : Int × Int) : D := .tup [.int c.1, .int c.2]
def partT (p : Str × Int) : D := .tup [.str p.1, .int p.2]
def wareT (w : Wr) : D := .tup [.str w.name, .int w.lag, .int w.gives, .int w.floor, .int w.stock, .tup (w.coming.map arrT), .tup (w.parts.map partT)]
def wantT (u : Wt) : D := .tup [.str u.1, .int u.2.1, .int u.2.2]
theorem toD_ware (w : Wr) : toD w.d = wareT w := by
  unfold Wr.d wareT
  simp only [toD, toDs, toDs_map]
  rfl
theorem toD_shop (S : Sh) : toD S.d = .tup [.tup (S.wares.map wareT), .tup (S.wants.map wantT)] := by
  unfold Sh.d
  simp only [toD, toDs, toDs_map, toD_ware]
  rfl
theorem isWare_of {S : Sh} (sd : SD S) {w : Wr} (hw : w ∈ S.wares) : isWare (wareT w) = true := by
  obtain ⟨h1, h2, h3, h4, h5, h6, h7, h8, h9⟩ := sd.wb w hw
  show (isNameS w.name && isBetween (.int w.lag) 0 30 && isFrom (.int w.gives) 1 && isFrom (.int w.floor) 0 && isFrom (.int w.stock) 0 && areArrivals (.tup (w.coming.map arrT)) && areParts (.tup (w.parts.map partT))) = true
  have e2 : isBetween (.int w.lag) 0 30 = true := by
    show (decide (0 ≤ w.lag) && decide (w.lag ≤ 30)) = true
    rw [decide_eq_true h1.1, decide_eq_true h1.2]
    rfl
  have e3 : isFrom (.int w.gives) 1 = true := decide_eq_true h2.1
  have e4 : isFrom (.int w.floor) 0 = true := decide_eq_true h3.1
  have e5 : isFrom (.int w.stock) 0 = true := decide_eq_true h4.1
  have e6 : areArrivals (.tup (w.coming.map arrT)) = true := by
    show (decide ((w.coming.map arrT).length ≤ 12) && (w.coming.map arrT).all isArrival) = true
    rw [List.length_map, decide_eq_true h8, Bool.true_and]
    refine List.all_eq_true.mpr fun d hd => ?_
    obtain ⟨p, hp, rfl⟩ := List.mem_map.mp hd
    have q := h9 p hp
    show ((decide (0 ≤ p.1) && decide (p.1 ≤ 400)) && decide (0 ≤ p.2)) = true
    rw [decide_eq_true q.1.1, decide_eq_true (by omega : p.1 ≤ 400), decide_eq_true q.2.1]
    rfl
  have e7 : areParts (.tup (w.parts.map partT)) = true := by
    show (decide ((w.parts.map partT).length ≤ 6) && (w.parts.map partT).all isPart && unl ((w.parts.map partT).map nameOf)) = true
    have e : (w.parts.map partT).map nameOf = w.parts.map (·.1) := by
      rw [List.map_map]
      rfl
    rw [List.length_map, decide_eq_true h5, e, unl_of h7, Bool.and_true, Bool.true_and]
    refine List.all_eq_true.mpr fun d hd => ?_
    obtain ⟨p, hp', rfl⟩ := List.mem_map.mp hd
    show (isNameS p.1 && decide (1 ≤ p.2)) = true
    obtain ⟨w', hw', e⟩ := List.mem_map.mp (sd.own w hw p hp')
    have en : isNameS w'.name = true := sd.nm w' hw'
    rw [e] at en
    rw [en, decide_eq_true (h6 p hp').1]
    rfl
  rw [sd.nm w hw, e2, e3, e4, e5, e6, e7]
  rfl
theorem isShop_of {S : Sh} (sd : SD S) : isShop (toD S.d) = true := by
  rw [toD_shop]
  have en : (S.wares.map wareT).map nameOf = S.wares.map (·.name) := by
    rw [List.map_map]
    rfl
  show (areWares (.tup (S.wares.map wareT)) && areWants (.tup (S.wants.map wantT)) && (needD (S.wares.map wareT) (S.wants.map wantT)).all fun x => decide (x ∈ (S.wares.map wareT).map nameOf)) = true
  have e1 : areWares (.tup (S.wares.map wareT)) = true := by
    show (decide (1 ≤ (S.wares.map wareT).length) && decide ((S.wares.map wareT).length ≤ 12) && (S.wares.map wareT).all isWare && unl ((S.wares.map wareT).map nameOf)) = true
    rw [en, List.length_map, decide_eq_true sd.n.1, decide_eq_true sd.n.2, unl_of sd.nd, Bool.and_true, Bool.true_and, Bool.true_and]
    refine List.all_eq_true.mpr fun d hd => ?_
    obtain ⟨w, hw, rfl⟩ := List.mem_map.mp hd
    exact isWare_of sd hw
  have e2 : areWants (.tup (S.wants.map wantT)) = true := by
    show (decide ((S.wants.map wantT).length ≤ 20) && (S.wants.map wantT).all isWant) = true
    rw [List.length_map, decide_eq_true sd.un, Bool.true_and]
    refine List.all_eq_true.mpr fun d hd => ?_
    obtain ⟨u, hu, rfl⟩ := List.mem_map.mp hd
    have h := sd.us u hu
    show (isNameS u.1 && (decide (0 ≤ u.2.1) && decide (u.2.1 ≤ 400)) && decide (0 ≤ u.2.2)) = true
    obtain ⟨w', hw', e⟩ := List.mem_map.mp h.1
    have en : isNameS w'.name = true := sd.nm w' hw'
    rw [e] at en
    rw [en, decide_eq_true h.2.1.1, decide_eq_true (by omega : u.2.1 ≤ 400), decide_eq_true h.2.2.1]
    rfl
  rw [e1, e2, Bool.true_and, Bool.true_and, en]
  refine List.all_eq_true.mpr fun x hx => decide_eq_true ?_
  unfold needD at hx
  rcases List.mem_append.mp hx with z | z
  · rw [List.map_map] at z
    obtain ⟨u, hu, rfl⟩ := List.mem_map.mp z
    exact (sd.us u hu).1
  · obtain ⟨l, hl, hx⟩ := List.mem_flatten.mp z
    rw [List.map_map] at hl
    obtain ⟨w, hw, rfl⟩ := List.mem_map.mp hl
    have hx : x ∈ (w.parts.map partT).map nameOf := hx
    rw [List.map_map] at hx
    obtain ⟨p, hp, rfl⟩ := List.mem_map.mp hx
    exact sd.own w hw p hp
theorem fitDs_map {α : Type} {f : α → PyData} : ∀ {xs : List α}, (∀ x ∈ xs, fitD (f x) = true) → fitDs (xs.map f) = true
  | [], _ => rfl
  | x :: r, h => by
    rw [List.map_cons, fitDs, h x List.mem_cons_self, fitDs_map fun y hy => h y (List.mem_cons_of_mem _ hy)]
    rfl
theorem name_fit {x : Str} (h : isNameS x = true) : decide (x.length ≤ 1000) = true := by
  unfold isNameS at h
  simp only [Bool.and_eq_true, decide_eq_true_eq] at h
  exact decide_eq_true (by omega)
theorem fit_ware {S : Sh} (sd : SD S) {w : Wr} (hw : w ∈ S.wares) : fitD w.d = true := by
  obtain ⟨h1, h2, h3, h4, h5, h6, h7, h8, h9⟩ := sd.wb w hw
  have e1 : fitDs (w.coming.map arrD) = true := fitDs_map fun c hc => rfl
  have e2 : fitDs (w.parts.map partD) = true := fitDs_map fun p hp => by
    obtain ⟨w', hw', e⟩ := List.mem_map.mp (sd.own w hw p hp)
    have en : isNameS w'.name = true := sd.nm w' hw'
    rw [e] at en
    unfold partD
    simp only [fitD, fitDs, name_fit en]
    rfl
  unfold Wr.d
  simp only [fitD, fitDs, e1, e2, name_fit (sd.nm w hw), List.length_map, decide_eq_true (by omega : w.coming.length ≤ 1000), decide_eq_true (by omega : w.parts.length ≤ 1000)]
  rfl
theorem fit_shop {S : Sh} (sd : SD S) : fitD S.d = true := by
  have hn := sd.n
  have hu := sd.un
  have e1 : fitDs (S.wares.map Wr.d) = true := fitDs_map fun w hw => fit_ware sd hw
  have e2 : fitDs (S.wants.map wantD) = true := fitDs_map fun u hu => by
    obtain ⟨w', hw', e⟩ := List.mem_map.mp (sd.us u hu).1
    have en : isNameS w'.name = true := sd.nm w' hw'
    rw [e] at en
    unfold wantD
    simp only [fitD, fitDs, name_fit en]
    rfl
  unfold Sh.d
  simp only [fitD, fitDs, e1, e2, List.length_map, decide_eq_true (by omega : S.wares.length ≤ 1000), decide_eq_true (by omega : S.wants.length ≤ 1000)]
  rfl
theorem wrD_of {S : Sh} (sd : SD S) {rs : List R3} (h : Mg S rs []) : wrD rs = S.d ∧ rs.filter (isS "ware") = S.wares.map wareR := by
  have pk : ∀ φ, One φ (groups S) → rs.filter φ = (groups S).flatten.filter φ := fun φ o => by
    have := (h.fl φ o).2
    rw [← this]
    show _ = _ ++ []
    rw [List.append_nil]
  have ew : rs.filter (isS "ware") = S.wares.map wareR := by rw [pk _ (isS_ware S).1, (isS_ware S).2]
  have eu : rs.filter (isS "want") = S.wants.map wantR := by rw [pk _ (isS_want S).1, (isS_want S).2]
  refine ⟨?_, ew⟩
  unfold wrD Sh.d
  rw [ew, eu, List.map_map, List.map_map]
  have e1 : S.wares.map (wareD5 rs ∘ wareR) = S.wares.map Wr.d := by
    refine List.map_congr_left fun w hw => ?_
    show wareD5 rs (wareR w) = w.d
    unfold wareD5
    have n : (wareR w).2.1 = w.name := rfl
    rw [n, pk _ (one_pick (.inl rfl) sd.nd), pk _ (one_pick (.inr rfl) sd.nd), groups_pick (.inl rfl) sd.nd hw, groups_pick (.inr rfl) sd.nd hw, grp_com, grp_part, List.map_map, List.map_map]
    rfl
  rw [e1]
  rfl
theorem groups_mem {S : Sh} (sd : SD S) {r : R3} (h : r ∈ (groups S).flatten) : RowOk (r3 r) ∧ r.2.1 ∈ S.wares.map (·.name) := by
  unfold groups at h
  rw [List.flatten_cons, List.flatten_cons] at h
  have own : ∀ {w : Wr}, w ∈ S.wares → w.name ∈ S.wares.map (·.name) := fun hw => List.mem_map.mpr ⟨_, hw, rfl⟩
  rcases List.mem_append.mp h with h | h
  · obtain ⟨w, hw, rfl⟩ := List.mem_map.mp h
    exact ⟨(rows_ok sd hw).1, own hw⟩
  rcases List.mem_append.mp h with h | h
  · obtain ⟨u, hu, rfl⟩ := List.mem_map.mp h
    exact ⟨want_ok sd hu, (sd.us u hu).1⟩
  obtain ⟨g, hg, hr⟩ := List.mem_flatten.mp h
  obtain ⟨w, hw, hg⟩ := List.mem_flatMap.mp hg
  obtain ⟨_, okc, okp⟩ := rows_ok sd hw
  unfold grp2 at hg
  rcases List.mem_cons.mp hg with z | z
  · rw [z] at hr
    obtain ⟨c, hc, rfl⟩ := List.mem_map.mp hr
    exact ⟨okc c hc, own hw⟩
  · rw [List.mem_singleton.mp z] at hr
    obtain ⟨c, hc, rfl⟩ := List.mem_map.mp hr
    exact ⟨okp c hc, own hw⟩
theorem flat2_len {S : Sh} (sd : SD S) : ∀ {ws : List Wr}, (∀ w ∈ ws, w ∈ S.wares) → (ws.flatMap grp2).flatten.length ≤ 18 * ws.length
  | [], _ => Nat.le_refl _
  | w :: r, h => by
    have ih := flat2_len sd (ws := r) fun x hx => h x (List.mem_cons_of_mem _ hx)
    obtain ⟨_, _, _, _, h5, _, _, h8, _⟩ := sd.wb w (h w List.mem_cons_self)
    rw [List.flatMap_cons, List.flatten_append, List.length_append, List.length_cons]
    have : (grp2 w).flatten.length = w.coming.length + w.parts.length := by
      unfold grp2
      simp only [List.flatten_cons, List.flatten_nil, List.append_nil, List.length_append, List.length_map]
    omega
theorem groups_len {S : Sh} (sd : SD S) : (groups S).flatten.length ≤ 248 := by
  have hn := sd.n
  have hu := sd.un
  have := flat2_len sd (ws := S.wares) fun _ h => h
  unfold groups
  rw [List.flatten_cons, List.flatten_cons, List.length_append, List.length_append, List.length_map, List.length_map]
  omega
theorem rows_shop {S : Sh} (sd : SD S) {rs : List R3} (h : Mg S rs []) : ShopRows rs := by
  obtain ⟨e1, e2⟩ := wrD_of sd h
  have hn := sd.n
  have hl := h.len
  have gl := groups_len sd
  have hall : ∀ r ∈ rs, r ∈ (groups S).flatten := fun r hr => h.all r (List.mem_append_left _ hr)
  refine ⟨fun z => ?_, by omega, fun r hr => (groups_mem sd (hall r hr)).1, by rw [e1]; exact fit_shop sd, by rw [e1]; exact isShop_of sd, fun r hr => ?_⟩
  · rw [z] at e2
    have := congrArg List.length e2
    rw [List.length_map] at this
    have : 0 = S.wares.length := this
    omega
  · rw [e2, List.map_map]
    exact (groups_mem sd (hall r hr)).2
set_option maxRecDepth 100000
set_option maxHeartbeats 4000000
mutual
theorem eqv_refl : ∀ d : PyData, d.canLay0 = true → PyData.eqv d d = true
  | .none, _ => by rw [PyData.eqv]
  | .bool b, _ => by rw [PyData.eqv]; simp
  | .int i, _ => by rw [PyData.eqv]; simp
  | .str x, _ => by rw [PyData.eqv]; simp
  | .list xs, h => by
    rw [PyData.canLay0] at h
    rw [PyData.eqv]
    exact eqvAll_refl xs h
  | .tuple xs, h => by
    rw [PyData.canLay0] at h
    rw [PyData.eqv]
    exact eqvAll_refl xs h
  | .dict _, h => by rw [PyData.canLay0] at h; cases h
theorem eqvAll_refl : ∀ ds : List PyData, PyData.canLayAll0 ds = true → PyData.eqvAll ds ds = true
  | [], _ => by rw [PyData.eqvAll]
  | d :: ds, h => by
    rw [PyData.canLayAll0, Bool.and_eq_true] at h
    rw [PyData.eqvAll, eqv_refl d h.1, eqvAll_refl ds h.2]
    rfl
end
theorem lay_map {α : Type} (f : α → PyData) : ∀ xs : List α, (∀ x ∈ xs, (f x).canLay0 = true) → PyData.canLayAll0 (xs.map f) = true
  | [], _ => by rw [List.map_nil, PyData.canLayAll0]
  | x :: r, h => by
    rw [List.map_cons, PyData.canLayAll0, h x List.mem_cons_self, lay_map f r fun y hy => h y (List.mem_cons_of_mem _ hy)]
    rfl
theorem depth_map {α : Type} (f : α → PyData) (n : Nat) : ∀ xs : List α, (∀ x ∈ xs, (f x).depth ≤ n) → PyData.depthAll (xs.map f) ≤ n
  | [], _ => by rw [List.map_nil, PyData.depthAll]; exact Nat.zero_le _
  | x :: r, h => by
    rw [List.map_cons, PyData.depthAll]
    exact Nat.max_le.mpr ⟨h x List.mem_cons_self, depth_map f n r fun y hy => h y (List.mem_cons_of_mem _ hy)⟩
theorem depth_want (u : Wt) : (wantD u).depth ≤ 1 := by unfold wantD; simp [PyData.depth, PyData.depthAll]
theorem depth_part (u : Str × Int) : (partD u).depth ≤ 1 := by unfold partD; simp [PyData.depth, PyData.depthAll]
theorem depth_arr (u : Int × Int) : (arrD u).depth ≤ 1 := by unfold arrD; simp [PyData.depth, PyData.depthAll]
theorem depth_ware (w : Wr) : w.d.depth ≤ 3 := by
  have h1 := depth_map arrD 1 w.coming fun x _ => depth_arr x
  have h2 := depth_map partD 1 w.parts fun x _ => depth_part x
  unfold Wr.d
  simp only [PyData.depth, PyData.depthAll]
  omega
theorem okD_shop {S : Sh} (h1 : ∀ w ∈ S.wares, PyData.strOk w.name = true ∧ ∀ p ∈ w.parts, PyData.strOk p.1 = true) (h2 : ∀ u ∈ S.wants, PyData.strOk u.1 = true) : okD S.d = true := by
  unfold okD
  rw [Bool.and_eq_true]
  constructor
  · unfold Sh.d
    rw [PyData.canLay0, PyData.canLayAll0, PyData.canLayAll0, PyData.canLayAll0, PyData.canLay0, PyData.canLay0, lay_map Wr.d _ fun w hw => ?_, lay_map wantD _ fun u hu => ?_]
    · rfl
    · unfold wantD
      simp only [PyData.canLay0, PyData.canLayAll0, h2 u hu, Bool.and_true]
    · unfold Wr.d
      have a1 : PyData.canLayAll0 (w.coming.map arrD) = true := lay_map arrD _ fun x _ => by unfold arrD; simp only [PyData.canLay0, PyData.canLayAll0, Bool.and_true]
      have a2 : PyData.canLayAll0 (w.parts.map partD) = true := lay_map partD _ fun x hx => by unfold partD; simp only [PyData.canLay0, PyData.canLayAll0, (h1 w hw).2 x hx, Bool.and_true]
      simp only [PyData.canLay0, PyData.canLayAll0, (h1 w hw).1, a1, a2, Bool.and_true]
  · have d1 := depth_map Wr.d 3 S.wares fun w _ => depth_ware w
    have d2 := depth_map wantD 1 S.wants fun u _ => depth_want u
    refine decide_eq_true ?_
    unfold Sh.d
    simp only [PyData.depth, PyData.depthAll]
    omega
theorem okD_lay {d : PyData} (h : okD d = true) : d.canLay0 = true := (Bool.and_eq_true_iff.mp h).1
theorem name_str {x : Str} (h : isNameS x = true) : PyData.strOk x = true := by
  unfold isNameS at h
  simp only [Bool.and_eq_true] at h
  have all := List.all_eq_true.mp h.2
  have lt : ∀ c ∈ letters, c < 0x110000 := by decide +kernel
  unfold PyData.strOk
  rw [← Array.all_toList]
  exact List.all_eq_true.mpr fun c hc => decide_eq_true (lt c (of_decide_eq_true (all c hc)))
abbrev Zs := List (Addr × List R3)
def ZAt (H : Hp) (zs : Zs) : Prop := ∀ z ∈ zs, H z.1 = some (.lst (z.2.map txv))
theorem ZAt.same {H H' : Hp} {zs : Zs} (h : ZAt H zs) (s : Same H H') : ZAt H' zs := fun z hz => s _ _ (h z hz)
set_option maxRecDepth 100000
set_option maxHeartbeats 4000000
section
variable {P : Program} {w : World} {K : PySem.W.Frag} {mg : Str → Option Value} {base : Heap}
def rowsW (w : Wr) : List R3 := wareR w :: (grp2 w).flatten
def rowsS (S : Sh) : List R3 := S.wares.flatMap rowsW ++ S.wants.map wantR
structure OneAt (p : Addr) (H0 H : Hp) (rs : List R3) : Prop where
  hp : H p = some (.lst (rs.map txv))
  nw : H0 p = none
  s : Same H0 H
theorem OneAt.same {p : Addr} {H0 H H' : Hp} {rs : List R3} (h : OneAt p H0 H rs) (s : Same H H') : OneAt p H0 H' rs := ⟨s _ _ h.hp, h.nw, h.s.trans s⟩
theorem OneAt.put {p : Addr} {H0 H : Hp} {rs : List R3} (h : OneAt p H0 H rs) (xs : List R3) : OneAt p H0 (upd H p (.lst (rs.map txv ++ xs.map txv))) (rs ++ xs) :=
  ⟨by rw [List.map_append]; exact upd_same, h.nw, fun a u e => by rw [upd_ne (ne_of_none e h.nw)]; exact h.s a u e⟩
def sp_shown_row : Sp := fun vs H Q _ => ∃ (r : Str × List Key) (t : Addr), vs = [.str r.1, .ref t] ∧ H t = some (.tup (r.2.map kV)) ∧ RowOk r ∧ ∀ H', Same H H' → Q (.str (rowT r)) H'
theorem sc_shown_row : FnScope ["sort", "members"] ["sort", "members"] (defScope s_shown_row) := ⟨rfl, rfl, rfl, by decide +kernel, rfl, by decide +kernel, by decide +kernel⟩
theorem ok_shown_row {f : Addr} {fd : FuncData} (F : Fun K "shown_row" "shown_row" s_shown_row f fd) (T : Txt mg) : FnOk P w K mg base CX0 1 f fd ["sort", "members"] sp_shown_row := by
  refine F.ok sc_shown_row (fun vs H Q E h => ?_) (fun cdv A outer s H vs Q E hr h => ?_)
  · obtain ⟨r, t, rfl, _⟩ := h
    rfl
  · obtain ⟨r, t, rfl, ht, ok, k⟩ := h
    have hu := hu_of hr
    refine ⟨_, (pss_one (ps_ret (pe_bs PySem.F.plainAttrs_str PySem.F.slot_str_join PySem.F.type_str_join mt_join pe_str (pa_e (pe_op op_cat (pe_lst (pa_e (pv 0) pa_nil)) (pe_comp (own := ["member"]) (cap := []) rfl (cp_ok rfl) (gown_name (by decide)) (pi_tpl (pv 1))
 (fun _ _ _ _ _ _ => ⟨(pg_name (i := 0) (of_decide_eq_true rfl) rfl (Or.inl rfl) (.inr rfl)), pts_nil, (pe_callTS call_strK rfl T.n_str bt_str (pa_e (pv 0) pa_nil))⟩))) pa_nil)))), ?_⟩
    walk_at "rd"
    refine ⟨rfl, by decide, fun p hp => ?_⟩
    have u := same_upd (o := .lst [V.str r.1]) hp
    have ht' := u _ _ ht
    have hl5 := (first_no ok).2.2
    refine ⟨_, ht', comp_map (goesT t _) (line1000 (by rw [List.length_map]; omega)) (fun H' s' => s' _ _ ht') ((r.2.map cellT).map V.str) (by rw [List.length_map, List.length_map, List.length_map]) (fun j y H' hj hy s' N M hN => ?_) (fun H2 s2 q hq => ?_)⟩
    · rw [List.getElem?_map] at hy
      cases ek : r.2[j]? with
      | none => rw [ek] at hy; cases hy
      | some x =>
      rw [ek] at hy
      have hy : kV x = y := Option.some.inj hy
      subst hy
      have ck := ok.cells x (List.mem_of_getElem? ek)
      have ev : ((r.2.map cellT).map V.str)[j]? = some (V.str (cellT x)) := by rw [List.getElem?_map, List.getElem?_map, ek]; rfl
      walk_at "rd"
      cases x with
      | inl n => exact .inl ⟨n, rfl, cell60 ck, hN _ _ s' ev⟩
      | inr x => exact .inr ⟨x, rfl, hN _ _ s' ev⟩
    · have u3 := same_upd (o := .lst ((r.2.map cellT).map V.str)) hq
      refine ⟨q, rfl, _, u3 _ _ (s2 _ _ upd_same), _, upd_same, line1000 (by simp only [List.length_map, List.length_cons, List.length_nil]; omega), fun p4 hp4 => ⟨r.1 :: r.2.map cellT, upd_same, 60, words_all ok (P := fun x => x.length ≤ 60) (first_no ok).2.1 fun k hk => (cell_no (ok.cells k hk)).2, ?_, ?_⟩⟩
      · rw [sp32, List.length_cons, List.length_map]
        show (r.2.length + 1) * 60 + (r.2.length + 1) * 1 ≤ 16777216
        omega
      · rw [sp32]
        exact k _ (((u.trans s2).trans u3).trans (same_upd hp4))
theorem rowsF_len {S : Sh} (sd : SD S) : ∀ {ws : List Wr}, (∀ w ∈ ws, w ∈ S.wares) → (ws.flatMap rowsW).length ≤ 19 * ws.length
  | [], _ => Nat.le_refl _
  | w :: r, h => by
    have ih := rowsF_len sd (ws := r) fun x hx => h x (List.mem_cons_of_mem _ hx)
    obtain ⟨_, _, _, _, h5, _, _, h8, _⟩ := sd.wb w (h w List.mem_cons_self)
    rw [List.flatMap_cons, List.length_append, List.length_cons]
    have : (rowsW w).length = 1 + (w.coming.length + w.parts.length) := by
      unfold rowsW grp2
      simp only [List.flatten_cons, List.flatten_nil, List.append_nil, List.length_append, List.length_map, List.length_cons]
      omega
    omega
theorem rowsP_len {S : Sh} (sd : SD S) (i : Nat) : ((S.wares.take i).flatMap rowsW).length ≤ 228 := by
  have := rowsF_len sd (ws := S.wares.take i) fun w hw => List.mem_of_mem_take hw
  have hn := sd.n
  rw [List.length_take] at this
  omega
theorem textS_ok {S : Sh} (sd : SD S) : ∀ r ∈ rowsS S, RowOk (r3 r) := fun r hr => by
  unfold rowsS at hr
  rcases List.mem_append.mp hr with h | h
  · obtain ⟨w, hw, h⟩ := List.mem_flatMap.mp h
    obtain ⟨o1, o2, o3⟩ := rows_ok sd hw
    rcases List.mem_cons.mp h with rfl | h
    · exact o1
    · unfold grp2 at h
      rw [List.flatten_cons, List.flatten_cons, List.flatten_nil, List.append_nil] at h
      rcases List.mem_append.mp h with h | h
      · obtain ⟨c, hc, rfl⟩ := List.mem_map.mp h
        exact o2 c hc
      · obtain ⟨c, hc, rfl⟩ := List.mem_map.mp h
        exact o3 c hc
  · obtain ⟨u, hu, rfl⟩ := List.mem_map.mp h
    exact want_ok sd hu
def SiInv (v : V) (S : Sh) (p : Addr) (H : Hp) (i : Nat) (σ : St) (H' : Hp) : Prop := ∃ o : Option V, σ = [some v, some (.ref p), o] ∧ OneAt p H H' ((S.wares.take i).flatMap rowsW)
theorem n10 : Str.ofString "\n" = one 10 := by decide +kernel
theorem join_text {rs : List R3} : (Str.ofString "\n").join (rs.map fun r => rowT (r3 r)) = textOf rs := by rw [n10]; rfl
theorem join_ok {rs : List R3} (h : ∀ r ∈ rs, RowOk (r3 r)) (n : rs.length ≤ 1000) : (∀ y ∈ rs.map fun r => rowT (r3 r), y.length ≤ 400) ∧ (rs.map fun r => rowT (r3 r)).length * 400 + (rs.map fun r => rowT (r3 r)).length * (Str.ofString "\n").length ≤ 16777216 := by
  refine ⟨fun y hy => ?_, ?_⟩
  · obtain ⟨r, hr, rfl⟩ := List.mem_map.mp hy
    exact row_len (h r hr)
  · rw [n10, List.length_map]
    show rs.length * 400 + rs.length * 1 ≤ 16777216
    omega
theorem txv_map (rs : List R3) : rs.map txv = (rs.map fun r => rowT (r3 r)).map V.str := by rw [List.map_map]; rfl
def sp_shown_shop : Sp := fun vs H Q _ => ∃ (v : V) (S : Sh), vs = [v] ∧ RD H S.d v ∧ SD S ∧ ∀ H', Same H H' → Q (.str (textOf (rowsS S))) H'
theorem sc_shown_shop : FnScope ["shop", "rows", "ware"] ["shop"] (defScope s_shown_shop) := ⟨rfl, rfl, rfl, by decide +kernel, rfl, by decide +kernel, by decide +kernel⟩
theorem ok_shown_shop {f : Addr} {fd : FuncData} (F : Fun K "shown_shop" "shown_shop" s_shown_shop f fd) (T : Txt mg) (h_shown_row : Has P w K mg base "shown_row" 1 ["sort", "members"] sp_shown_row) : FnOk P w K mg base CX0 2 f fd ["shop"] sp_shown_shop := by
  refine F.ok sc_shown_shop (fun vs H Q E h => ?_) (fun cdv A outer s H vs Q E hr h => ?_)
  · obtain ⟨v, S, rfl, _⟩ := h
    rfl
  · obtain ⟨v, S, rfl, rS, sd, k⟩ := h
    have hu := hu_of hr
    refine ⟨_, (pss_cons (ps_set (i := 1) sc_shown_shop.nd rfl (Or.inl rfl) (pe_lst pa_nil))
 (pss_cons (ps_for PassesOwn.never rfl (pi_tpl (pe_item hu (pv 0) pe_int (fun _ _ => rfl))) (pg_name (i := 2) sc_shown_shop.nd rfl (Or.inr rfl))
 (pss_cons (ps_expr (pe_bs PySem.F.plainAttrs_list PySem.F.slot_list_append PySem.F.type_list_append mt_append (pv 1) (pa_e (pe_callS h_shown_row (hr.mono (by decide)) rfl (pa_e pe_str (pa_e (pe_slice sl_tupA (pv 2) po_none (po_some (pe_globI rfl T.g_COMING))) pa_nil))) pa_nil)))
 (pss_cons (ps_expr (pe_bs PySem.F.plainAttrs_list PySem.F.slot_list_extend PySem.F.type_list_extend mt_extend (pv 1) (pa_e (pe_comp (own := ["arrival"]) (cap := [2]) rfl (cp_ok rfl) (gown_name (by decide)) (pi_tpl (pe_item hu (pv 2) (pe_globI rfl T.g_COMING) (fun _ _ => rfl)))
 (fun _ _ _ _ _ _ => ⟨(pg_name (i := 0) (of_decide_eq_true rfl) rfl (Or.inl rfl) (.inr rfl)), pts_nil, (pe_callS h_shown_row (hr.mono (by decide)) rfl (pa_e pe_str (pa_e (pe_op op_catTT (pe_tup (pa_e (pe_item hu (pv 1) (pe_globI rfl T.g_NAME) (fun _ _ => rfl)) pa_nil)) (pv 0)) pa_nil)))⟩)) pa_nil)))
 (pss_one (ps_expr (pe_bs PySem.F.plainAttrs_list PySem.F.slot_list_extend PySem.F.type_list_extend mt_extend (pv 1) (pa_e (pe_comp (own := ["part"]) (cap := [2]) rfl (cp_ok rfl) (gown_name (by decide)) (pi_tpl (pe_item hu (pv 2) (pe_globI rfl T.g_PARTS) (fun _ _ => rfl)))
 (fun _ _ _ _ _ _ => ⟨(pg_name (i := 0) (of_decide_eq_true rfl) rfl (Or.inl rfl) (.inr rfl)), pts_nil, (pe_callS h_shown_row (hr.mono (by decide)) rfl (pa_e pe_str (pa_e (pe_op op_catTT (pe_tup (pa_e (pe_item hu (pv 1) (pe_globI rfl T.g_NAME) (fun _ _ => rfl)) pa_nil)) (pv 0)) pa_nil)))⟩)) pa_nil)))))))
 (pss_cons (ps_expr (pe_bs PySem.F.plainAttrs_list PySem.F.slot_list_extend PySem.F.type_list_extend mt_extend (pv 1) (pa_e (pe_comp (own := ["want"]) (cap := []) rfl (cp_ok rfl) (gown_name (by decide)) (pi_tpl (pe_item hu (pv 0) pe_int (fun _ _ => rfl)))
 (fun _ _ _ _ _ _ => ⟨(pg_name (i := 0) (of_decide_eq_true rfl) rfl (Or.inl rfl) (.inr rfl)), pts_nil, (pe_callS h_shown_row (hr.mono (by decide)) rfl (pa_e pe_str (pa_e (pv 0) pa_nil)))⟩)) pa_nil)))
 (pss_one (ps_ret (pe_bs PySem.F.plainAttrs_str PySem.F.slot_str_join PySem.F.type_str_join mt_join pe_str (pa_e (pv 1) pa_nil))))))), ?_⟩
    walk_at "rd"
    obtain ⟨a, b, c, ws, us, rfl, ha, hb, hc, rw3, ru3⟩ := shop_at rS
    have hwl := rds_len rw3
    have hul := rds_len ru3
    have hn := sd.n
    refine ⟨by decide, fun p hp => ?_⟩
    have u := same_upd (o := .lst []) hp
    refine ⟨_, item_t (j := 0) (u _ _ ha) rfl, b, rfl, ws, u _ _ hb, for_w (goesT b _) (SiInv (.ref a) S p H) ⟨none, rfl, ⟨upd_same, hp, u⟩⟩ (fun i σ H' _ h => by obtain ⟨_, _, o⟩ := h; exact o.s _ _ hb) (fun i x σ H4 hi hx h => ?_) (fun σ H4 h => ?_)⟩
    · obtain ⟨o, rfl, one⟩ := h
      obtain ⟨w', ew, rw'⟩ := rds_map rw3 hx
      obtain ⟨aw, cv, pv, rfl, haw, rc, rp'⟩ := ware_at rw'
      have hw' := List.mem_of_getElem? ew
      obtain ⟨okw, okc, okp⟩ := rows_ok sd hw'
      have et : S.wares.take (i + 1) = S.wares.take i ++ [w'] := by rw [List.take_add_one, ew]; rfl
      have pl := rowsP_len sd i
      have c12 := (sd.wb w' hw').2.2.2.2.2.2.2.1
      have p6 := (sd.wb w' hw').2.2.2.2.1
      refine cut1 (fun σ' H' => σ' = [some (.ref a), some (.ref p), some (.ref aw)] ∧ OneAt p H H' ((S.wares.take i).flatMap rowsW ++ [wareR w'])) (fun σ' H5 hM => ?_) (fun KK hK => ?_)
      rotate_left
      · walk_at "rd"
        refine ⟨ty_lst one.hp, _, one.s _ _ haw, fun q2 H5 hq2 s5 _ => ?_⟩
        have ecut : ∀ x1 x2 x3 x4 x5 x6 x7 : V, cutV [x1, x2, x3, x4, x5, x6, x7] none (some 5) = [x1, x2, x3, x4, x5] := fun x1 x2 x3 x4 x5 x6 x7 => by unfold cutV; rw [sIx_nn (by decide)]; rfl
        rw [ecut] at hq2
        refine ⟨r3 (wareR w'), q2, rfl, hq2, okw, fun H6 s6 => ⟨_, ((one.same s5).same s6).hp, Nat.lt_of_lt_of_le (m := 1000) (by rw [List.length_map]; omega) (line1000 (Nat.le_refl _)), hK _ _ ⟨rfl, ((one.same s5).same s6).put [wareR w']⟩⟩⟩
      obtain ⟨rfl, one5⟩ := hM
      refine cut1 (fun σ' H' => σ' = [some (.ref a), some (.ref p), some (.ref aw)] ∧ OneAt p H H' (((S.wares.take i).flatMap rowsW ++ [wareR w']) ++ w'.coming.map (comR w'.name))) (fun σ' H6 hM => ?_) (fun KK hK => ?_)
      rotate_left
      · simp only [tSeq, tNext, tRet, tRetN, tAsg, tIfS, tDrop, tAug, gName, gSub, tVar, tC, tCB, tCons, tNil, tCall, tOp, tUn, tTest, tB, tAnd, tOr, tNot, tAndV, tOrV, tNotV, tIf, tTup, tLst, tSl, tPart, tNoPart, tBA, tBA0, tDNewK, tChain, tYes, rI, rI0, rU, rEq, rNe, rIsA, rIsnotA, rItem, lenA, rIAddA, rAddA, rMulA, listA, tupleA, lenQ, lenS, lenD, rSetD, rAddS, iLst, iTpl, iTxt, rCat, rCatTT, rRepT, iRng1, iRng2, iDct, tTruL, tTruD, tLrev, tIf, iEnum, iRev, iZip2, iZip3, rEqD, rNeD, rEqK, rNeK, iItm, tSortK, SortAsk, rSortS, rSortD, rSortT, rDictK, rClearD, rSum, rMaxL, rMinL, tMaxd, rGetL, rGetD, tAugS, rRep, rInsert, rMax2, rCount, rIndexS, rLtT, rAppend, rPopAt, rReverse, rSetA, rSetL, L2.start, cpSt, tComp_eq, tFor_eq, iAny_eq, rStrK, rIExt, rRepD, rStrI, rIntT, rStrS, rSplit, rJoin, tKGet, iZipT,  D.ty, isi_NoneType_bool, isi_NoneType_int, isi_NoneType_str, isi_NoneType_list, isi_NoneType_tuple, isi_NoneType_dict, isi_bool_bool, isi_bool_int, isi_bool_str, isi_bool_list, isi_bool_tuple, isi_bool_dict, isi_int_bool, isi_int_int, isi_int_str, isi_int_list, isi_int_tuple, isi_int_dict, isi_str_bool, isi_str_int, isi_str_str, isi_str_list, isi_str_tuple, isi_str_dict, isi_list_bool, isi_list_int, isi_list_str, isi_list_list, isi_list_tuple, isi_list_dict, isi_tuple_bool, isi_tuple_int, isi_tuple_str, isi_tuple_list, isi_tuple_tuple, isi_tuple_dict, isi_dict_bool, isi_dict_int, isi_dict_str, isi_dict_list, isi_dict_tuple, isi_dict_dict, mem_int, mem_bool, mem_str, mem_list, mem_tuple, mem_dict, Nat.reduceAdd, Nat.reduceSub, Nat.zero_add, Nat.sub_self, List.replicate_zero, List.replicate_succ, List.getD_cons_zero, List.getD_cons_succ, ↓reduceIte, List.map_cons, List.map_nil, List.append_nil, List.nil_append, List.cons_append, List.length_cons, List.length_nil, List.set_cons_zero, List.set_cons_succ, List.set_nil, List.getElem?_cons_zero, List.getElem?_cons_succ, Option.some.injEq, exists_eq_left', exists_eq_left, V.int.injEq, V.bl.injEq, V.str.injEq, V.ref.injEq, V.ty.injEq, List.cons.injEq, and_true, true_and, and_assoc, exists_and_left, exists_eq_right, reduceCtorEq, false_and, and_false, exists_false, or_false, false_or, rExtend]
        obtain ⟨ca, cvs, rfl, hca, rcs⟩ := RD.tup_of (RD.same one5.s _ _ rc)
        have hcl := rds_len rcs
        refine ⟨ty_lst one5.hp, _, item_t (j := 5) (one5.s _ _ haw) rfl, ca, rfl, cvs, hca, ?_⟩
        refine comp_map (goesT ca _) (line1000 (by omega)) (fun H' s' => s' _ _ hca) ((w'.coming.map (comR w'.name)).map txv) (by rw [List.length_map, List.length_map, hcl]) (fun j y H' hj hy s' N M hN => ?_) (fun H6 s6 q3 hq3 => ?_)
        · obtain ⟨cc, ec, rcc⟩ := rds_map rcs hy
          obtain ⟨cca, rfl, hcca⟩ := arr_at rcc
          walk_at "rd"
          refine ⟨_, item_t (j := 0) (s' _ _ (one5.s _ _ haw)) rfl, by decide, fun q4 hq4 => ⟨_, upd_same, _, same_upd hq4 _ _ (s' _ _ hcca), by show 3 ≤ sizeLine; decide, fun q5 H8 hq5 s8 _ => ⟨r3 (comR w'.name cc), q5, rfl, hq5, okc cc (List.mem_of_getElem? ec), fun H9 s9 => hN _ _ (((s'.trans (same_upd hq4)).trans s8).trans s9) ?_⟩⟩⟩
          rw [List.getElem?_map, List.getElem?_map, ec]
          rfl
        · have v3 := same_upd (o := .lst ((w'.coming.map (comR w'.name)).map txv)) hq3
          exact ⟨q3, rfl, _, v3 _ _ (s6 _ _ one5.hp), _, upd_same, line1000 (by simp only [List.length_map, List.length_append, List.length_cons, List.length_nil]; omega), hK _ _ ⟨rfl, ((one5.same s6).same v3).put (w'.coming.map (comR w'.name))⟩⟩
      obtain ⟨rfl, one6⟩ := hM
      simp only [tSeq, tNext, tRet, tRetN, tAsg, tIfS, tDrop, tAug, gName, gSub, tVar, tC, tCB, tCons, tNil, tCall, tOp, tUn, tTest, tB, tAnd, tOr, tNot, tAndV, tOrV, tNotV, tIf, tTup, tLst, tSl, tPart, tNoPart, tBA, tBA0, tDNewK, tChain, tYes, rI, rI0, rU, rEq, rNe, rIsA, rIsnotA, rItem, lenA, rIAddA, rAddA, rMulA, listA, tupleA, lenQ, lenS, lenD, rSetD, rAddS, iLst, iTpl, iTxt, rCat, rCatTT, rRepT, iRng1, iRng2, iDct, tTruL, tTruD, tLrev, tIf, iEnum, iRev, iZip2, iZip3, rEqD, rNeD, rEqK, rNeK, iItm, tSortK, SortAsk, rSortS, rSortD, rSortT, rDictK, rClearD, rSum, rMaxL, rMinL, tMaxd, rGetL, rGetD, tAugS, rRep, rInsert, rMax2, rCount, rIndexS, rLtT, rAppend, rPopAt, rReverse, rSetA, rSetL, L2.start, cpSt, tComp_eq, tFor_eq, iAny_eq, rStrK, rIExt, rRepD, rStrI, rIntT, rStrS, rSplit, rJoin, tKGet, iZipT,  D.ty, isi_NoneType_bool, isi_NoneType_int, isi_NoneType_str, isi_NoneType_list, isi_NoneType_tuple, isi_NoneType_dict, isi_bool_bool, isi_bool_int, isi_bool_str, isi_bool_list, isi_bool_tuple, isi_bool_dict, isi_int_bool, isi_int_int, isi_int_str, isi_int_list, isi_int_tuple, isi_int_dict, isi_str_bool, isi_str_int, isi_str_str, isi_str_list, isi_str_tuple, isi_str_dict, isi_list_bool, isi_list_int, isi_list_str, isi_list_list, isi_list_tuple, isi_list_dict, isi_tuple_bool, isi_tuple_int, isi_tuple_str, isi_tuple_list, isi_tuple_tuple, isi_tuple_dict, isi_dict_bool, isi_dict_int, isi_dict_str, isi_dict_list, isi_dict_tuple, isi_dict_dict, mem_int, mem_bool, mem_str, mem_list, mem_tuple, mem_dict, Nat.reduceAdd, Nat.reduceSub, Nat.zero_add, Nat.sub_self, List.replicate_zero, List.replicate_succ, List.getD_cons_zero, List.getD_cons_succ, ↓reduceIte, List.map_cons, List.map_nil, List.append_nil, List.nil_append, List.cons_append, List.length_cons, List.length_nil, List.set_cons_zero, List.set_cons_succ, List.set_nil, List.getElem?_cons_zero, List.getElem?_cons_succ, Option.some.injEq, exists_eq_left', exists_eq_left, V.int.injEq, V.bl.injEq, V.str.injEq, V.ref.injEq, V.ty.injEq, List.cons.injEq, and_true, true_and, and_assoc, exists_and_left, exists_eq_right, reduceCtorEq, false_and, and_false, exists_false, or_false, false_or, rExtend]
      obtain ⟨pa, pvs, rfl, hpa, rps⟩ := RD.tup_of (RD.same one6.s _ _ rp')
      have hpl := rds_len rps
      refine ⟨ty_lst one6.hp, _, item_t (j := 6) (one6.s _ _ haw) rfl, pa, rfl, pvs, hpa, ?_⟩
      refine comp_map (goesT pa _) (line1000 (by omega)) (fun H' s' => s' _ _ hpa) ((w'.parts.map (partR w'.name)).map txv) (by rw [List.length_map, List.length_map, hpl]) (fun j y H' hj hy s' N M hN => ?_) (fun H7 s7 q3 hq3 => ?_)
      · obtain ⟨cc, ec, rcc⟩ := rds_map rps hy
        obtain ⟨cca, rfl, hcca⟩ := part_at rcc
        walk_at "rd"
        refine ⟨_, item_t (j := 0) (s' _ _ (one6.s _ _ haw)) rfl, by decide, fun q4 hq4 => ⟨_, upd_same, _, same_upd hq4 _ _ (s' _ _ hcca), by show 3 ≤ sizeLine; decide, fun q5 H9 hq5 s9 _ => ⟨r3 (partR w'.name cc), q5, rfl, hq5, okp cc (List.mem_of_getElem? ec), fun H10 s10 => hN _ _ (((s'.trans (same_upd hq4)).trans s9).trans s10) ?_⟩⟩⟩
        rw [List.getElem?_map, List.getElem?_map, ec]
        rfl
      · have v3 := same_upd (o := .lst ((w'.parts.map (partR w'.name)).map txv)) hq3
        have ef : (S.wares.take (i + 1)).flatMap rowsW = (((S.wares.take i).flatMap rowsW ++ [wareR w']) ++ w'.coming.map (comR w'.name)) ++ w'.parts.map (partR w'.name) := by
          rw [et, List.flatMap_append, List.append_assoc, List.append_assoc]
          show _ = _ ++ (wareR w' :: (w'.coming.map (comR w'.name) ++ w'.parts.map (partR w'.name)))
          unfold rowsW grp2
          simp only [List.flatMap_cons, List.flatMap_nil, List.flatten_cons, List.flatten_nil, List.append_nil]
        exact ⟨q3, rfl, _, v3 _ _ (s7 _ _ one6.hp), _, upd_same, line1000 (by simp only [List.length_map, List.length_append, List.length_cons, List.length_nil]; omega), _, rfl, ef ▸ ((one6.same s7).same v3).put (w'.parts.map (partR w'.name))⟩
    · obtain ⟨o, rfl, one⟩ := h
      simp only [tSeq, tNext, tRet, tRetN, tAsg, tIfS, tDrop, tAug, gName, gSub, tVar, tC, tCB, tCons, tNil, tCall, tOp, tUn, tTest, tB, tAnd, tOr, tNot, tAndV, tOrV, tNotV, tIf, tTup, tLst, tSl, tPart, tNoPart, tBA, tBA0, tDNewK, tChain, tYes, rI, rI0, rU, rEq, rNe, rIsA, rIsnotA, rItem, lenA, rIAddA, rAddA, rMulA, listA, tupleA, lenQ, lenS, lenD, rSetD, rAddS, iLst, iTpl, iTxt, rCat, rCatTT, rRepT, iRng1, iRng2, iDct, tTruL, tTruD, tLrev, tIf, iEnum, iRev, iZip2, iZip3, rEqD, rNeD, rEqK, rNeK, iItm, tSortK, SortAsk, rSortS, rSortD, rSortT, rDictK, rClearD, rSum, rMaxL, rMinL, tMaxd, rGetL, rGetD, tAugS, rRep, rInsert, rMax2, rCount, rIndexS, rLtT, rAppend, rPopAt, rReverse, rSetA, rSetL, L2.start, cpSt, tComp_eq, tFor_eq, iAny_eq, rStrK, rIExt, rRepD, rStrI, rIntT, rStrS, rSplit, rJoin, tKGet, iZipT,  D.ty, isi_NoneType_bool, isi_NoneType_int, isi_NoneType_str, isi_NoneType_list, isi_NoneType_tuple, isi_NoneType_dict, isi_bool_bool, isi_bool_int, isi_bool_str, isi_bool_list, isi_bool_tuple, isi_bool_dict, isi_int_bool, isi_int_int, isi_int_str, isi_int_list, isi_int_tuple, isi_int_dict, isi_str_bool, isi_str_int, isi_str_str, isi_str_list, isi_str_tuple, isi_str_dict, isi_list_bool, isi_list_int, isi_list_str, isi_list_list, isi_list_tuple, isi_list_dict, isi_tuple_bool, isi_tuple_int, isi_tuple_str, isi_tuple_list, isi_tuple_tuple, isi_tuple_dict, isi_dict_bool, isi_dict_int, isi_dict_str, isi_dict_list, isi_dict_tuple, isi_dict_dict, mem_int, mem_bool, mem_str, mem_list, mem_tuple, mem_dict, Nat.reduceAdd, Nat.reduceSub, Nat.zero_add, Nat.sub_self, List.replicate_zero, List.replicate_succ, List.getD_cons_zero, List.getD_cons_succ, ↓reduceIte, List.map_cons, List.map_nil, List.append_nil, List.nil_append, List.cons_append, List.length_cons, List.length_nil, List.set_cons_zero, List.set_cons_succ, List.set_nil, List.getElem?_cons_zero, List.getElem?_cons_succ, Option.some.injEq, exists_eq_left', exists_eq_left, V.int.injEq, V.bl.injEq, V.str.injEq, V.ref.injEq, V.ty.injEq, List.cons.injEq, and_true, true_and, and_assoc, exists_and_left, exists_eq_right, reduceCtorEq, false_and, and_false, exists_false, or_false, false_or, rExtend]
      rw [show S.wares.take ws.length = S.wares by rw [hwl, List.take_length]] at one
      have u20 := sd.un
      have pl := rowsP_len sd S.wares.length
      rw [List.take_length] at pl
      refine ⟨ty_lst one.hp, _, item_t (j := 1) (one.s _ _ ha) rfl, c, rfl, us, one.s _ _ hc, ?_⟩
      refine comp_map (goesT c _) (line1000 (by omega)) (fun H' s' => s' _ _ (one.s _ _ hc)) ((S.wants.map wantR).map txv) (by rw [List.length_map, List.length_map, hul]) (fun j y H' hj hy s' N M hN => ?_) (fun H7 s7 q3 hq3 => ?_)
      · obtain ⟨cc, ec, rcc⟩ := rds_map ru3 hy
        obtain ⟨cca, rfl, hcca⟩ := want_at rcc
        walk_at "rd"
        refine ⟨r3 (wantR cc), cca, rfl, s' _ _ (one.s _ _ hcca), want_ok sd (List.mem_of_getElem? ec), fun H9 s9 => hN _ _ (s'.trans s9) ?_⟩
        rw [List.getElem?_map, List.getElem?_map, ec]
        rfl
      · have v3 := same_upd (o := .lst ((S.wants.map wantR).map txv)) hq3
        have one8 := ((one.same s7).same v3).put (S.wants.map wantR)
        obtain ⟨j1, j2⟩ := join_ok (textS_ok sd) (by unfold rowsS; rw [List.length_append, List.length_map]; omega)
        refine ⟨q3, rfl, _, v3 _ _ (s7 _ _ one.hp), _, upd_same, line1000 (by simp only [List.length_map]; omega), rfl, (rowsS S).map fun r => rowT (r3 r), ?_, 400, j1, j2, ?_⟩
        · rw [← txv_map]
          exact one8.hp
        · rw [join_text]
          exact k _ one8.s
end
set_option maxRecDepth 100000
set_option maxHeartbeats 4000000
section
variable {P : Program} {w : World} {K : PySem.W.Frag} {mg : Str → Option Value} {base : Heap}
theorem rowsF_grp {φ : R3 → Bool} : ∀ {ws : List Wr}, (∀ w ∈ ws, φ (wareR w) = false) → (ws.flatMap rowsW).filter φ = (ws.flatMap grp2).flatten.filter φ
  | [], _ => rfl
  | w :: r, h => by
    rw [List.flatMap_cons, List.flatMap_cons, List.flatten_append, List.filter_append, List.filter_append, rowsF_grp fun x hx => h x (List.mem_cons_of_mem _ hx)]
    unfold rowsW
    rw [List.filter_cons, if_neg (by rw [h w List.mem_cons_self]; decide)]
theorem rowsF_ware {φ : R3 → Bool} : ∀ {ws : List Wr}, (∀ g ∈ ws.flatMap grp2, g.filter φ = []) → (ws.flatMap rowsW).filter φ = (ws.map wareR).filter φ
  | [], _ => rfl
  | w :: r, h => by
    rw [List.flatMap_cons] at h
    rw [List.flatMap_cons, List.filter_append, rowsF_ware fun g hg => h g (List.mem_append_right _ hg), List.map_cons]
    unfold rowsW
    rw [List.filter_cons, List.filter_cons, flat_none fun g hg => h g (List.mem_append_left _ hg)]
    split <;> rfl
theorem rowsF_all : ∀ {ws : List Wr} {r : R3}, r ∈ ws.flatMap rowsW → r ∈ ws.map wareR ∨ r ∈ (ws.flatMap grp2).flatten
  | ws, r, h => by
    obtain ⟨w, hw, h⟩ := List.mem_flatMap.mp h
    rcases List.mem_cons.mp h with rfl | h
    · exact .inl (List.mem_map.mpr ⟨w, hw, rfl⟩)
    · obtain ⟨g, hg, h⟩ := List.mem_flatten.mp h
      exact .inr (List.mem_flatten.mpr ⟨g, List.mem_flatMap.mpr ⟨w, hw, hg⟩, h⟩)
theorem rowsF_size : ∀ ws : List Wr, (ws.flatMap rowsW).length = ws.length + (ws.flatMap grp2).flatten.length
  | [] => rfl
  | w :: r => by
    rw [List.flatMap_cons, List.flatMap_cons, List.flatten_append, List.length_append, List.length_append, rowsF_size r]
    unfold rowsW
    rw [List.length_cons, List.length_cons]
    omega
theorem mg_rows (S : Sh) : Mg S (rowsS S) [] := by
  refine ⟨fun r hr => ?_, ?_, fun φ o => ?_⟩
  · rw [List.flatten_nil, List.append_nil] at hr
    unfold groups
    rw [List.flatten_cons, List.flatten_cons]
    rcases List.mem_append.mp hr with h | h
    · rcases rowsF_all h with h | h
      · exact List.mem_append_left _ h
      · exact List.mem_append_right _ (List.mem_append_right _ h)
    · exact List.mem_append_right _ (List.mem_append_left _ h)
  · unfold rowsS groups
    rw [List.flatten_cons, List.flatten_cons, List.flatten_nil, List.length_append, List.length_append, List.length_append, rowsF_size, List.length_map, List.length_map, List.length_nil]
    omega
  · refine ⟨List.Pairwise.nil, ?_⟩
    rw [List.flatten_nil, List.filter_nil, List.append_nil]
    unfold groups at o ⊢
    have o := List.pairwise_cons.mp o
    have o2 := List.pairwise_cons.mp o.2
    unfold rowsS
    rw [List.flatten_cons, List.flatten_cons, List.filter_append, List.filter_append, List.filter_append]
    by_cases z : (S.wares.map wareR).filter φ = []
    · rw [rowsF_grp fun w hw => ?_, z, List.nil_append]
      · by_cases y : (S.wants.map wantR).filter φ = []
        · rw [y, List.append_nil, List.nil_append]
        · rw [flat_none fun g hg => (o2.1 g hg).resolve_left y, List.nil_append, List.append_nil]
      · have := List.filter_eq_nil_iff.mp z (wareR w) (List.mem_map.mpr ⟨w, hw, rfl⟩)
        exact Bool.eq_false_iff.mpr this
    · have u := (o.1 _ List.mem_cons_self).resolve_left z
      have g := fun g hg => (o.1 g (List.mem_cons_of_mem _ hg)).resolve_left z
      rw [rowsF_ware g, u, flat_none g, List.nil_append]
def sp_law_line : Sp := fun vs H Q _ => ∃ (l : Addr) (r : Str × List Key), vs = [.ref l] ∧ H l = some (.lst (rowV r)) ∧ RowOk r ∧ ∀ H', Same H H' → Q (.str (rowT r)) H'
theorem sc_law_line : FnScope ["_law_parts_here"] ["_law_parts_here"] (defScope s_law_line) := ⟨rfl, rfl, rfl, by decide +kernel, rfl, by decide +kernel, by decide +kernel⟩
theorem ok_law_line {f : Addr} {fd : FuncData} (F : Fun K "_law_line" "_law_line" s_law_line f fd) (T : Txt mg) : FnOk P w K mg base CX0 1 f fd ["_law_parts_here"] sp_law_line := by
  refine F.ok sc_law_line (fun vs H Q E h => ?_) (fun cdv A outer s H vs Q E hr h => ?_)
  · obtain ⟨l, r, rfl, _⟩ := h
    rfl
  · obtain ⟨l, r, rfl, hl, ok, k⟩ := h
    have hu := hu_of hr
    refine ⟨_, (pss_one (ps_ret (pe_bs PySem.F.plainAttrs_str PySem.F.slot_str_join PySem.F.type_str_join mt_join pe_str (pa_e (pe_comp (own := ["_law_part"]) (cap := []) rfl (cp_ok rfl) (gown_name (by decide)) (pi_lst (pv 0))
 (fun _ _ _ _ _ _ => ⟨(pg_name (i := 0) (of_decide_eq_true rfl) rfl (Or.inl rfl) (.inr rfl)), pts_nil, (pe_callTS call_strK rfl T.n_str bt_str (pa_e (pv 0) pa_nil))⟩)) pa_nil)))), ?_⟩
    walk_at "rd"
    have hl5 := (first_no ok).2.2
    refine ⟨rfl, _, hl, comp_map (goesL l _) (line1000 (by unfold rowV; rw [List.length_cons, List.length_map]; omega)) (fun H' s' => s' _ _ hl) ((r.1 :: r.2.map cellT).map V.str) (by unfold rowV; simp only [List.length_map, List.length_cons]) (fun j y H' hj hy s' N M hN => ?_) (fun H2 s2 q hq => ?_)⟩
    · walk_at "rd"
      cases j with
      | zero => exact .inr ⟨r.1, (Option.some.inj hy).symm, hN _ _ s' rfl⟩
      | succ j =>
      have hy : (r.2.map kV)[j]? = some y := hy
      rw [List.getElem?_map] at hy
      cases ek : r.2[j]? with
      | none => rw [ek] at hy; cases hy
      | some x =>
      rw [ek] at hy
      have hy : kV x = y := Option.some.inj hy
      subst hy
      have ck := ok.cells x (List.mem_of_getElem? ek)
      have ev : ((r.1 :: r.2.map cellT).map V.str)[j + 1]? = some (V.str (cellT x)) := by rw [List.map_cons, List.getElem?_cons_succ, List.getElem?_map, List.getElem?_map, ek]; rfl
      cases x with
      | inl n => exact .inl ⟨n, rfl, cell60 ck, hN _ _ s' ev⟩
      | inr x => exact .inr ⟨x, rfl, hN _ _ s' ev⟩
    · refine ⟨q, rfl, r.1 :: r.2.map cellT, upd_same, 60, words_all ok (P := fun x => x.length ≤ 60) (first_no ok).2.1 fun k hk => (cell_no (ok.cells k hk)).2, ?_, ?_⟩
      · rw [sp32, List.length_cons, List.length_map]
        show (r.2.length + 1) * 60 + (r.2.length + 1) * 1 ≤ 16777216
        omega
      · rw [sp32]
        exact k _ (s2.trans (same_upd hq))
theorem gt7 {K : PySem.W.Frag} {i1 i2 i3 i4 i5 i6 i7 : Nat} {p : Addr} {x1 x2 x3 x4 x5 x6 x7 : V} {σ : St} {H : Hp} {Q : St → Hp → Prop} (e : H p = some (.tup [x1, x2, x3, x4, x5, x6, x7])) (h : Q (((((((σ.set i1 (some x1)).set i2 (some x2)).set i3 (some x3)).set i4 (some x4)).set i5 (some x5)).set i6 (some x6)).set i7 (some x7)) H) :
    gTup K 7 (gCons (gName i1) (gCons (gName i2) (gCons (gName i3) (gCons (gName i4) (gCons (gName i5) (gCons (gName i6) (gCons (gName i7) gNil))))))) (.ref p) σ H Q := ⟨p, _, rfl, SqT.of e, rfl, _, _, rfl, _, _, rfl, _, _, rfl, _, _, rfl, _, _, rfl, _, _, rfl, _, _, rfl, rfl, h⟩
def LiInv (a st v : V) (p : Addr) (S : Sh) (H : Hp) (i : Nat) (σ : St) (H' : Hp) : Prop := ∃ o4 o5 o6 o7 o8 o9 o10 o11 o12 o13 : Option V, σ = [some a, some st, some v, some (.ref p), o4, o5, o6, o7, o8, o9, o10, o11, o12, o13, none] ∧ OneAt p H H' ((S.wares.take i).flatMap rowsW)
def LjInv (a st v : V) (p : Addr) (w : Wr) (cv pv : V) (H : Hp) (pre rs : List R3) (i : Nat) (σ : St) (H' : Hp) : Prop := ∃ o11 o12 o13 : Option V, σ = [some a, some st, some v, some (.ref p), some (.str w.name), some (.int w.lag), some (.int w.gives), some (.int w.floor), some (.int w.stock), some cv, some pv, o11, o12, o13, none] ∧ OneAt p H H' (pre ++ rs.take i)
def LkInv (a st v : V) (p : Addr) (H : Hp) (pre rs : List R3) (i : Nat) (σ : St) (H' : Hp) : Prop := ∃ o4 o5 o6 o7 o8 o9 o10 o11 o12 o13 : Option V, σ = [some a, some st, some v, some (.ref p), o4, o5, o6, o7, o8, o9, o10, o11, o12, o13, none] ∧ OneAt p H H' (pre ++ rs.take i)
theorem OneAt.next {p : Addr} {H0 H : Hp} {pre rs : List R3} {i : Nat} {x : R3} (h : OneAt p H0 H (pre ++ rs.take i)) (e : rs[i]? = some x) : OneAt p H0 (upd H p (.lst ((pre ++ rs.take i).map txv ++ [txv x]))) (pre ++ rs.take (i + 1)) := by
  have := h.put [x]
  rw [List.append_assoc, ← show rs.take (i + 1) = rs.take i ++ [x] by rw [List.take_add_one, e]; rfl] at this
  exact this
def sp_law (K : PySem.W.Frag) : Sp := fun vs H Q _ => ∃ (a : Addr) (ns : List Int), vs = [.ref a] ∧ SqL K H a (ns.map V.int) ∧ ns.length ≤ 63 ∧ ∀ H', Q (.bl true) H'
theorem sc_law : FnScope ["_law_script", "_law_state", "_law_shop_here", "_law_lines", "_law_name", "_law_lag", "_law_gives", "_law_floor", "_law_stock", "_law_coming", "_law_parts_here", "_law_day", "_law_amount_here", "_law_part", "_law_text"] ["_law_script"] (defScope s_law) := ⟨rfl, rfl, rfl, by decide +kernel, rfl, by decide +kernel, by decide +kernel⟩
theorem ok_law {f : Addr} {fd : FuncData} (F : Fun K "law" "law" s_law f fd) (T : Txt mg) (h_law_drawn : Has P w K mg base "_law_drawn" 1 ["_law_script"] (sp_law_drawn K)) (h_law_any_shop : Has P w K mg base "_law_any_shop" 4 ["_law_state"] sp_law_any_shop) (h_law_line : Has P w K mg base "_law_line" 1 ["_law_parts_here"] sp_law_line) (h_shown_shop : Has P w K mg base "shown_shop" 2 ["shop"] sp_shown_shop) (h_read_shop : Has P w K mg base "read_shop" 9 ["text"] sp_read_shop) : FnOk P w K mg base CX0 10 f fd ["_law_script"] (sp_law K) := by
  refine F.ok sc_law (fun vs H Q E h => ?_) (fun cdv A outer s H vs Q E hr h => ?_)
  · obtain ⟨a, ns, rfl, _⟩ := h
    rfl
  · obtain ⟨a, ns, rfl, hS, hl, k⟩ := h
    have hu := hu_of hr
    have hu4 := hu64_of hr
    refine ⟨_, (pss_cons (ps_set (i := 1) sc_law.nd rfl (Or.inl rfl) (pe_callS h_law_drawn (hr.mono (by decide)) rfl (pa_e (pv 0) pa_nil)))
 (pss_cons (ps_set (i := 2) sc_law.nd rfl (Or.inl rfl) (pe_callS h_law_any_shop (hr.mono (by decide)) rfl (pa_e (pv 1) pa_nil)))
 (pss_cons (ps_set (i := 3) sc_law.nd rfl (Or.inl rfl) (pe_lst pa_nil))
 (pss_cons (ps_for PassesOwn.never rfl (pi_tpl (pe_item hu (pv 2) pe_int (fun _ _ => rfl))) (pg_tup (n := 7) rfl (pgs_cons (pg_name (i := 4) sc_law.nd rfl (Or.inl rfl)) (pgs_cons (pg_name (i := 5) sc_law.nd rfl (Or.inl rfl)) (pgs_cons (pg_name (i := 6) sc_law.nd rfl (Or.inl rfl)) (pgs_cons (pg_name (i := 7) sc_law.nd rfl (Or.inl rfl)) (pgs_cons (pg_name (i := 8) sc_law.nd rfl (Or.inl rfl)) (pgs_cons (pg_name (i := 9) sc_law.nd rfl (Or.inl rfl)) (pgs_cons (pg_name (i := 10) sc_law.nd rfl (Or.inl rfl)) pgs_nil))))))))
 (pss_cons (ps_expr (pe_bs PySem.F.plainAttrs_list PySem.F.slot_list_append PySem.F.type_list_append mt_append (pv 3) (pa_e (pe_callS h_law_line (hr.mono (by decide)) rfl (pa_e (pe_lst (pa_e pe_str (pa_e (pv 4) (pa_e (pv 5) (pa_e (pv 6) (pa_e (pv 7) (pa_e (pv 8) pa_nil))))))) pa_nil)) pa_nil)))
 (pss_cons (ps_for PassesOwn.never rfl (pi_tpl (pv 9)) (pg_tup (n := 2) rfl (pgs_cons (pg_name (i := 11) sc_law.nd rfl (Or.inl rfl)) (pgs_cons (pg_name (i := 12) sc_law.nd rfl (Or.inl rfl)) pgs_nil)))
 (pss_one (ps_expr (pe_bs PySem.F.plainAttrs_list PySem.F.slot_list_append PySem.F.type_list_append mt_append (pv 3) (pa_e (pe_callS h_law_line (hr.mono (by decide)) rfl (pa_e (pe_lst (pa_e pe_str (pa_e (pv 4) (pa_e (pv 11) (pa_e (pv 12) pa_nil))))) pa_nil)) pa_nil)))))
 (pss_one (ps_for PassesOwn.never rfl (pi_tpl (pv 10)) (pg_tup (n := 2) rfl (pgs_cons (pg_name (i := 13) sc_law.nd rfl (Or.inl rfl)) (pgs_cons (pg_name (i := 12) sc_law.nd rfl (Or.inl rfl)) pgs_nil)))
 (pss_one (ps_expr (pe_bs PySem.F.plainAttrs_list PySem.F.slot_list_append PySem.F.type_list_append mt_append (pv 3) (pa_e (pe_callS h_law_line (hr.mono (by decide)) rfl (pa_e (pe_lst (pa_e pe_str (pa_e (pv 4) (pa_e (pv 13) (pa_e (pv 12) pa_nil))))) pa_nil)) pa_nil)))))))))
 (pss_cons (ps_for PassesOwn.never rfl (pi_tpl (pe_item hu (pv 2) pe_int (fun _ _ => rfl))) (pg_tup (n := 3) rfl (pgs_cons (pg_name (i := 4) sc_law.nd rfl (Or.inl rfl)) (pgs_cons (pg_name (i := 11) sc_law.nd rfl (Or.inl rfl)) (pgs_cons (pg_name (i := 12) sc_law.nd rfl (Or.inl rfl)) pgs_nil))))
 (pss_one (ps_expr (pe_bs PySem.F.plainAttrs_list PySem.F.slot_list_append PySem.F.type_list_append mt_append (pv 3) (pa_e (pe_callS h_law_line (hr.mono (by decide)) rfl (pa_e (pe_lst (pa_e pe_str (pa_e (pv 4) (pa_e (pv 11) (pa_e (pv 12) pa_nil))))) pa_nil)) pa_nil)))))
 (pss_cons (ps_set (i := 14) sc_law.nd rfl (Or.inl rfl) (pe_callS h_shown_shop (hr.mono (by decide)) rfl (pa_e (pv 2) pa_nil)))
 (pss_one (ps_ret (pe_and (pe_callBS call_isinst rfl T.n_isinstance bt_isinstance (pa_e (pv 14) (pa_e (pe_bltn (v := .ty "str") rfl T.n_str bt_str rfl) pa_nil))) (pe_and (pe_cmpR (op_eqA hu) (pv 14) (pe_bs PySem.F.plainAttrs_str PySem.F.slot_str_join PySem.F.type_str_join mt_join pe_str (pa_e (pv 3) pa_nil)) (nomark _)) (pe_one (pe_cmpR (op_eqD hu4) (pe_callS h_read_shop (hr.mono (by decide)) rfl (pa_e (pv 14) pa_nil)) (pv 2) (nomark _))))))))))))), ?_⟩
    walk_at "rd"
    refine ⟨a, ns, rfl, hS, hl, fun st H1 ok1 s1 => ⟨st, rfl, ok1, fun v S H2 rS sd ok2 b2 => ?_⟩⟩
    obtain ⟨sa, b, c, ws, us, rfl, ha, hb, hc, rw3, ru3⟩ := shop_at rS
    have hwl := rds_len rw3
    have hul := rds_len ru3
    have hn := sd.n
    refine ⟨by decide, fun p hp => ?_⟩
    have u := same_upd (o := .lst []) hp
    refine ⟨_, item_t (j := 0) (u _ _ ha) rfl, b, rfl, ws, u _ _ hb, for_w (goesT b _) (LiInv (.ref a) (.ref st) (.ref sa) p S H2) ⟨_, _, _, _, _, _, _, _, _, _, rfl, ⟨upd_same, hp, u⟩⟩ (fun i σ H' _ h => by obtain ⟨_, _, _, _, _, _, _, _, _, _, _, o⟩ := h; exact o.s _ _ hb) (fun i x σ H4 hi hx h => ?_) (fun σ H4 h => ?_)⟩
    · obtain ⟨o4, o5, o6, o7, o8, o9, o10, o11, o12, o13, rfl, one⟩ := h
      obtain ⟨w', ew, rw'⟩ := rds_map rw3 hx
      obtain ⟨aw, cv, pv, rfl, haw, rc, rp'⟩ := ware_at rw'
      have hw' := List.mem_of_getElem? ew
      obtain ⟨okw, okc, okp⟩ := rows_ok sd hw'
      have et : S.wares.take (i + 1) = S.wares.take i ++ [w'] := by rw [List.take_add_one, ew]; rfl
      have pl := rowsP_len sd i
      have c12 := (sd.wb w' hw').2.2.2.2.2.2.2.1
      have p6 := (sd.wb w' hw').2.2.2.2.1
      refine gt7 (one.s _ _ haw) ?_
      walk_at "rd"
      have ok6 : ∀ {H5 : Hp}, OneAt p H2 H5 ((S.wares.take i).flatMap rowsW) → ((S.wares.take i).flatMap rowsW).length < sizeLine := fun _ => Nat.lt_of_lt_of_le (m := 1000) (by omega) (line1000 (Nat.le_refl _))
      obtain ⟨ca, cvs, rfl, hca, rcs⟩ := RD.tup_of rc
      obtain ⟨pa, pvs, rfl, hpa, rps⟩ := RD.tup_of rp'
      have hcl := rds_len rcs
      have hpl := rds_len rps
      refine ⟨ty_lst one.hp, by decide, fun q hq => ⟨q, r3 (wareR w'), rfl, upd_same, okw, fun H6 s6 => ?_⟩⟩
      have one6 := (one.same (same_upd (o := .lst [V.str "ware", V.str w'.name, V.int w'.lag, V.int w'.gives, V.int w'.floor, V.int w'.stock]) hq)).same s6
      have one7 := one6.put [wareR w']
      refine ⟨_, one6.hp, Nat.lt_of_lt_of_le (m := 1000) (by rw [List.length_map]; omega) (line1000 (Nat.le_refl _)), ca, rfl, cvs, one7.s _ _ hca, for_w (goesT ca _) (LjInv (.ref a) (.ref st) (.ref sa) p w' (.ref ca) (.ref pa) H2 ((S.wares.take i).flatMap rowsW ++ [wareR w']) (w'.coming.map (comR w'.name))) ⟨_, _, _, rfl, by rw [List.take_zero, List.append_nil]; exact one7⟩ (fun i σ H' _ h => by obtain ⟨_, _, _, _, o⟩ := h; exact o.s _ _ hca) (fun j y σ H8 hj hy h => ?_) (fun σ H8 h => ?_)⟩
      · obtain ⟨o11, o12, o13, rfl, oj⟩ := h
        obtain ⟨cc, ec, rcc⟩ := rds_map rcs hy
        obtain ⟨cca, rfl, hcca⟩ := arr_at rcc
        refine gt2 (oj.s _ _ hcca) ?_
        walk_at "rd"
        refine ⟨ty_lst oj.hp, by decide, fun q hq => ⟨q, r3 (comR w'.name cc), rfl, upd_same, okc cc (List.mem_of_getElem? ec), fun H9 s9 => ?_⟩⟩
        have oj9 := (oj.same (same_upd (o := .lst (rowV (r3 (comR w'.name cc)))) hq)).same s9
        exact ⟨_, oj9.hp, Nat.lt_of_lt_of_le (m := 1000) (by simp only [List.length_map, List.length_append, List.length_take, List.length_cons, List.length_nil]; omega) (line1000 (Nat.le_refl _)), _, _, _, rfl, oj9.next (by rw [List.getElem?_map, ec]; rfl)⟩
      · obtain ⟨o11, o12, o13, rfl, oj⟩ := h
        rw [List.take_of_length_le (l := w'.coming.map (comR w'.name)) (by rw [List.length_map, hcl]; exact Nat.le_refl _)] at oj
        walk_at "rd"
        refine ⟨pvs, oj.s _ _ hpa, for_w (goesT pa _) (LjInv (.ref a) (.ref st) (.ref sa) p w' (.ref ca) (.ref pa) H2 (((S.wares.take i).flatMap rowsW ++ [wareR w']) ++ w'.coming.map (comR w'.name)) (w'.parts.map (partR w'.name))) ⟨_, _, _, rfl, by rw [List.take_zero, List.append_nil]; exact oj⟩ (fun i σ H' _ h => by obtain ⟨_, _, _, _, o⟩ := h; exact o.s _ _ hpa) (fun j y σ H8 hj hy h => ?_) (fun σ H8 h => ?_)⟩
        · obtain ⟨o11, o12, o13, rfl, oj⟩ := h
          obtain ⟨cc, ec, rcc⟩ := rds_map rps hy
          obtain ⟨cca, rfl, hcca⟩ := part_at rcc
          refine gt2 (oj.s _ _ hcca) ?_
          walk_at "rd"
          refine ⟨ty_lst oj.hp, by decide, fun q hq => ⟨q, r3 (partR w'.name cc), rfl, upd_same, okp cc (List.mem_of_getElem? ec), fun H9 s9 => ?_⟩⟩
          have oj9 := (oj.same (same_upd (o := .lst (rowV (r3 (partR w'.name cc)))) hq)).same s9
          exact ⟨_, oj9.hp, Nat.lt_of_lt_of_le (m := 1000) (by simp only [List.length_map, List.length_append, List.length_take, List.length_cons, List.length_nil]; omega) (line1000 (Nat.le_refl _)), _, _, _, rfl, oj9.next (by rw [List.getElem?_map, ec]; rfl)⟩
        · obtain ⟨o11, o12, o13, rfl, oj⟩ := h
          rw [List.take_of_length_le (l := w'.parts.map (partR w'.name)) (by rw [List.length_map, hpl]; exact Nat.le_refl _)] at oj
          have ef : (S.wares.take (i + 1)).flatMap rowsW = (((S.wares.take i).flatMap rowsW ++ [wareR w']) ++ w'.coming.map (comR w'.name)) ++ w'.parts.map (partR w'.name) := by
            rw [et, List.flatMap_append, List.append_assoc, List.append_assoc]
            show _ = _ ++ (wareR w' :: (w'.coming.map (comR w'.name) ++ w'.parts.map (partR w'.name)))
            unfold rowsW grp2
            simp only [List.flatMap_cons, List.flatMap_nil, List.flatten_cons, List.flatten_nil, List.append_nil]
          exact ⟨_, _, _, _, _, _, _, _, _, _, rfl, ef ▸ oj⟩
    · obtain ⟨o4, o5, o6, o7, o8, o9, o10, o11, o12, o13, rfl, one⟩ := h
      rw [show S.wares.take ws.length = S.wares by rw [hwl, List.take_length]] at one
      have u20 := sd.un
      have pl := rowsP_len sd S.wares.length
      rw [List.take_length] at pl
      walk_at "rd"
      refine ⟨_, item_t (j := 1) (one.s _ _ ha) rfl, c, rfl, us, one.s _ _ hc, for_w (goesT c _) (LkInv (.ref a) (.ref st) (.ref sa) p H2 (S.wares.flatMap rowsW) (S.wants.map wantR)) ⟨_, _, _, _, _, _, _, _, _, _, rfl, by rw [List.take_zero, List.append_nil]; exact one⟩ (fun i σ H' _ h => by obtain ⟨_, _, _, _, _, _, _, _, _, _, _, o⟩ := h; exact o.s _ _ hc) (fun j y σ H8 hj hy h => ?_) (fun σ H8 h => ?_)⟩
      · obtain ⟨o4, o5, o6, o7, o8, o9, o10, o11, o12, o13, rfl, oj⟩ := h
        obtain ⟨cc, ec, rcc⟩ := rds_map ru3 hy
        obtain ⟨cca, rfl, hcca⟩ := want_at rcc
        refine gt3 (oj.s _ _ hcca) ?_
        walk_at "rd"
        refine ⟨ty_lst oj.hp, by decide, fun q hq => ⟨q, r3 (wantR cc), rfl, upd_same, want_ok sd (List.mem_of_getElem? ec), fun H9 s9 => ?_⟩⟩
        have oj9 := (oj.same (same_upd (o := .lst (rowV (r3 (wantR cc)))) hq)).same s9
        exact ⟨_, oj9.hp, Nat.lt_of_lt_of_le (m := 1000) (by simp only [List.length_map, List.length_append, List.length_take, List.length_cons, List.length_nil]; omega) (line1000 (Nat.le_refl _)), _, _, _, _, _, _, _, _, _, _, rfl, oj9.next (by rw [List.getElem?_map, ec]; rfl)⟩
      · obtain ⟨o4, o5, o6, o7, o8, o9, o10, o11, o12, o13, rfl, oj⟩ := h
        rw [List.take_of_length_le (by rw [List.length_map, hul]; exact Nat.le_refl _)] at oj
        have oj : OneAt p H2 H8 (rowsS S) := oj
        walk_at "rd"
        have own : ∀ {y : Str}, y ∈ S.wares.map (·.name) → PyData.strOk y = true := fun hy => by
          obtain ⟨w', hw', rfl⟩ := List.mem_map.mp hy
          exact name_str (sd.nm w' hw')
        have okS : okD S.d = true := okD_shop (fun w' hw' => ⟨name_str (sd.nm w' hw'), fun p' hp' => own (sd.own w' hw' p' hp')⟩) fun u' hu' => own (sd.us u' hu').1
        obtain ⟨e1, _⟩ := wrD_of sd (mg_rows S)
        have sr := rows_shop sd (mg_rows S)
        obtain ⟨j1, j2⟩ := join_ok (textS_ok sd) (by have := sr.len; omega)
        refine ⟨.ref sa, S, rfl, RD.same oj.s _ _ rS, sd, fun H9 s9 => ⟨_, rfl, ?_⟩⟩
        rw [if_pos (by decide +kernel)]
        refine ⟨rfl, (rowsS S).map fun r => rowT (r3 r), by rw [← txv_map]; exact s9 _ _ oj.hp, 400, j1, j2, ?_⟩
        rw [join_text]
        refine ⟨rfl, ?_⟩
        rw [if_pos (decide_eq_true rfl)]
        refine ⟨rowsS S, rfl, sr, fun t H10 rt s10 => ?_⟩
        rw [e1] at rt
        refine ⟨S.d, rt, S.d, RD.same ((oj.s.trans s9).trans s10) _ _ rS, okS, okS, ?_⟩
        rw [eqv_refl _ (okD_lay okS)]
        exact k _
end
theorem all_mk {l : PySem.W.OpenLaw} {w : World} {K : PySem.W.Frag} {h : Heap} {mg : Str → Option Value} {fa : Addr} (X : K.In h) (G : h.Ns mainGlobals mg) (hfa : mg "law" = some (.ref fa))
    {f1 : Addr} {od1 an1 : Option Addr} {sl1 : Array (Option Value)} {oc1 kV1 dc1 pm1 cd1 ct1 : Value} {f2 : Addr} {od2 an2 : Option Addr} {sl2 : Array (Option Value)} {oc2 kV2 dc2 pm2 cd2 ct2 : Value} {f3 : Addr} {od3 an3 : Option Addr} {sl3 : Array (Option Value)} {oc3 kV3 dc3 pm3 cd3 ct3 : Value} {f4 : Addr} {od4 an4 : Option Addr} {sl4 : Array (Option Value)} {oc4 kV4 dc4 pm4 cd4 ct4 : Value} {f5 : Addr} {od5 an5 : Option Addr} {sl5 : Array (Option Value)} {oc5 kV5 dc5 pm5 cd5 ct5 : Value} {f6 : Addr} {od6 an6 : Option Addr} {sl6 : Array (Option Value)} {oc6 kV6 dc6 pm6 cd6 ct6 : Value} {f7 : Addr} {od7 an7 : Option Addr} {sl7 : Array (Option Value)} {oc7 kV7 dc7 pm7 cd7 ct7 : Value} {f8 : Addr} {od8 an8 : Option Addr} {sl8 : Array (Option Value)} {oc8 kV8 dc8 pm8 cd8 ct8 : Value} {f9 : Addr} {od9 an9 : Option Addr} {sl9 : Array (Option Value)} {oc9 kV9 dc9 pm9 cd9 ct9 : Value} {f10 : Addr} {od10 an10 : Option Addr} {sl10 : Array (Option Value)} {oc10 kV10 dc10 pm10 cd10 ct10 : Value} {f11 : Addr} {od11 an11 : Option Addr} {sl11 : Array (Option Value)} {oc11 kV11 dc11 pm11 cd11 ct11 : Value} {f12 : Addr} {od12 an12 : Option Addr} {sl12 : Array (Option Value)} {oc12 kV12 dc12 pm12 cd12 ct12 : Value} {f13 : Addr} {od13 an13 : Option Addr} {sl13 : Array (Option Value)} {oc13 kV13 dc13 pm13 cd13 ct13 : Value} {f14 : Addr} {od14 an14 : Option Addr} {sl14 : Array (Option Value)} {oc14 kV14 dc14 pm14 cd14 ct14 : Value} {f15 : Addr} {od15 an15 : Option Addr} {sl15 : Array (Option Value)} {oc15 kV15 dc15 pm15 cd15 ct15 : Value} {f16 : Addr} {od16 an16 : Option Addr} {sl16 : Array (Option Value)} {oc16 kV16 dc16 pm16 cd16 ct16 : Value} {f17 : Addr} {od17 an17 : Option Addr} {sl17 : Array (Option Value)} {oc17 kV17 dc17 pm17 cd17 ct17 : Value} {f18 : Addr} {od18 an18 : Option Addr} {sl18 : Array (Option Value)} {oc18 kV18 dc18 pm18 cd18 ct18 : Value} {f19 : Addr} {od19 an19 : Option Addr} {sl19 : Array (Option Value)} {oc19 kV19 dc19 pm19 cd19 ct19 : Value} {f20 : Addr} {od20 an20 : Option Addr} {sl20 : Array (Option Value)} {oc20 kV20 dc20 pm20 cd20 ct20 : Value} {f21 : Addr} {od21 an21 : Option Addr} {sl21 : Array (Option Value)} {oc21 kV21 dc21 pm21 cd21 ct21 : Value} {f22 : Addr} {od22 an22 : Option Addr} {sl22 : Array (Option Value)} {oc22 kV22 dc22 pm22 cd22 ct22 : Value} {f23 : Addr} {od23 an23 : Option Addr} {sl23 : Array (Option Value)} {oc23 kV23 dc23 pm23 cd23 ct23 : Value} {f24 : Addr} {od24 an24 : Option Addr} {sl24 : Array (Option Value)} {oc24 kV24 dc24 pm24 cd24 ct24 : Value} {f25 : Addr} {od25 an25 : Option Addr} {sl25 : Array (Option Value)} {oc25 kV25 dc25 pm25 cd25 ct25 : Value} {f26 : Addr} {od26 an26 : Option Addr} {sl26 : Array (Option Value)} {oc26 kV26 dc26 pm26 cd26 ct26 : Value} {f27 : Addr} {od27 an27 : Option Addr} {sl27 : Array (Option Value)} {oc27 kV27 dc27 pm27 cd27 ct27 : Value} {f28 : Addr} {od28 an28 : Option Addr} {sl28 : Array (Option Value)} {oc28 kV28 dc28 pm28 cd28 ct28 : Value} {f29 : Addr} {od29 an29 : Option Addr} {sl29 : Array (Option Value)} {oc29 kV29 dc29 pm29 cd29 ct29 : Value} {f30 : Addr} {od30 an30 : Option Addr} {sl30 : Array (Option Value)} {oc30 kV30 dc30 pm30 cd30 ct30 : Value} {f31 : Addr} {od31 an31 : Option Addr} {sl31 : Array (Option Value)} {oc31 kV31 dc31 pm31 cd31 ct31 : Value} {f32 : Addr} {od32 an32 : Option Addr} {sl32 : Array (Option Value)} {oc32 kV32 dc32 pm32 cd32 ct32 : Value} {f33 : Addr} {od33 an33 : Option Addr} {sl33 : Array (Option Value)} {oc33 kV33 dc33 pm33 cd33 ct33 : Value} {f34 : Addr} {od34 an34 : Option Addr} {sl34 : Array (Option Value)} {oc34 kV34 dc34 pm34 cd34 ct34 : Value} {f35 : Addr} {od35 an35 : Option Addr} {sl35 : Array (Option Value)} {oc35 kV35 dc35 pm35 cd35 ct35 : Value} {f36 : Addr} {od36 an36 : Option Addr} {sl36 : Array (Option Value)} {oc36 kV36 dc36 pm36 cd36 ct36 : Value} {f37 : Addr} {od37 an37 : Option Addr} {sl37 : Array (Option Value)} {oc37 kV37 dc37 pm37 cd37 ct37 : Value} {t_COMING : Tok} {t_FIGURES : Tok} {t_FLOOR : Tok} {t_GIVES : Tok} {t_LAG : Tok} {t_LAST_DAY : Tok} {t_LETTERS : Tok} {t_MEMBERS : Tok} {t_MOST_COMING : Tok} {t_MOST_FIGURES : Tok} {t_MOST_LAG : Tok} {t_MOST_LETTERS : Tok} {t_MOST_PARTS : Tok} {t_MOST_WANTS : Tok} {t_MOST_WARES : Tok} {t_NAME : Tok} {t_PARTS : Tok} {t_STOCK : Tok} {Ra R1 R2 R3 R4 : Addr} {Re Rn1 Rn2 Rn3 Rn4 : Nat} {Rt1 Rt2 Rt3 Rt4 Rt1_0 Rt1_1 Rt1_2 Rt1_3 Rt1_4 Rt2_0 Rt2_1 Rt2_2 Rt3_0 Rt3_1 Rt3_2 Rt4_0 Rt4_1 Rt4_2 : Tok}
    (a1 : PySem.W.nsIn K mainGlobals "_law_drawn" = some (some (.ref f1))) (l1 : K.lookup f1 = some ⟨oc1, od1, .func (PySem.W.fnOf "_law_drawn" "_law_drawn" (defArgs s_law_drawn) (defBody s_law_drawn) (defScope s_law_drawn) .none kV1 dc1 pm1 an1 cd1 ct1), sl1⟩) (c1 : PySem.W.codeIn K cd1 "_law_drawn" = true) (k1 : PySem.W.keepIn K (.ref f1) = true)
    (a2 : PySem.W.nsIn K mainGlobals "_law_next" = some (some (.ref f2))) (l2 : K.lookup f2 = some ⟨oc2, od2, .func (PySem.W.fnOf "_law_next" "_law_next" (defArgs s_law_next) (defBody s_law_next) (defScope s_law_next) .none kV2 dc2 pm2 an2 cd2 ct2), sl2⟩) (c2 : PySem.W.codeIn K cd2 "_law_next" = true) (k2 : PySem.W.keepIn K (.ref f2) = true)
    (a3 : PySem.W.nsIn K mainGlobals "_law_names" = some (some (.ref f3))) (l3 : K.lookup f3 = some ⟨oc3, od3, .func (PySem.W.fnOf "_law_names" "_law_names" (defArgs s_law_names) (defBody s_law_names) (defScope s_law_names) .none kV3 dc3 pm3 an3 cd3 ct3), sl3⟩) (c3 : PySem.W.codeIn K cd3 "_law_names" = true) (k3 : PySem.W.keepIn K (.ref f3) = true)
    (a4 : PySem.W.nsIn K mainGlobals "_law_amount" = some (some (.ref f4))) (l4 : K.lookup f4 = some ⟨oc4, od4, .func (PySem.W.fnOf "_law_amount" "_law_amount" (defArgs s_law_amount) (defBody s_law_amount) (defScope s_law_amount) .none kV4 dc4 pm4 an4 cd4 ct4), sl4⟩) (c4 : PySem.W.codeIn K cd4 "_law_amount" = true) (k4 : PySem.W.keepIn K (.ref f4) = true)
    (a5 : PySem.W.nsIn K mainGlobals "_law_parts" = some (some (.ref f5))) (l5 : K.lookup f5 = some ⟨oc5, od5, .func (PySem.W.fnOf "_law_parts" "_law_parts" (defArgs s_law_parts) (defBody s_law_parts) (defScope s_law_parts) .none kV5 dc5 pm5 an5 cd5 ct5), sl5⟩) (c5 : PySem.W.codeIn K cd5 "_law_parts" = true) (k5 : PySem.W.keepIn K (.ref f5) = true)
    (a6 : PySem.W.nsIn K mainGlobals "_law_shop" = some (some (.ref f6))) (l6 : K.lookup f6 = some ⟨oc6, od6, .func (PySem.W.fnOf "_law_shop" "_law_shop" (defArgs s_law_shop) (defBody s_law_shop) (defScope s_law_shop) .none kV6 dc6 pm6 an6 cd6 ct6), sl6⟩) (c6 : PySem.W.codeIn K cd6 "_law_shop" = true) (k6 : PySem.W.keepIn K (.ref f6) = true)
    (a7 : PySem.W.nsIn K mainGlobals "_law_any_shop" = some (some (.ref f7))) (l7 : K.lookup f7 = some ⟨oc7, od7, .func (PySem.W.fnOf "_law_any_shop" "_law_any_shop" (defArgs s_law_any_shop) (defBody s_law_any_shop) (defScope s_law_any_shop) .none kV7 dc7 pm7 an7 cd7 ct7), sl7⟩) (c7 : PySem.W.codeIn K cd7 "_law_any_shop" = true) (k7 : PySem.W.keepIn K (.ref f7) = true)
    (a8 : PySem.W.nsIn K mainGlobals "_law_line" = some (some (.ref f8))) (l8 : K.lookup f8 = some ⟨oc8, od8, .func (PySem.W.fnOf "_law_line" "_law_line" (defArgs s_law_line) (defBody s_law_line) (defScope s_law_line) .none kV8 dc8 pm8 an8 cd8 ct8), sl8⟩) (c8 : PySem.W.codeIn K cd8 "_law_line" = true) (k8 : PySem.W.keepIn K (.ref f8) = true)
    (a9 : PySem.W.nsIn K mainGlobals "shown_row" = some (some (.ref f9))) (l9 : K.lookup f9 = some ⟨oc9, od9, .func (PySem.W.fnOf "shown_row" "shown_row" (defArgs s_shown_row) (defBody s_shown_row) (defScope s_shown_row) .none kV9 dc9 pm9 an9 cd9 ct9), sl9⟩) (c9 : PySem.W.codeIn K cd9 "shown_row" = true) (k9 : PySem.W.keepIn K (.ref f9) = true)
    (a10 : PySem.W.nsIn K mainGlobals "shown_shop" = some (some (.ref f10))) (l10 : K.lookup f10 = some ⟨oc10, od10, .func (PySem.W.fnOf "shown_shop" "shown_shop" (defArgs s_shown_shop) (defBody s_shown_shop) (defScope s_shown_shop) .none kV10 dc10 pm10 an10 cd10 ct10), sl10⟩) (c10 : PySem.W.codeIn K cd10 "shown_shop" = true) (k10 : PySem.W.keepIn K (.ref f10) = true)
    (a11 : PySem.W.nsIn K mainGlobals "is_name" = some (some (.ref f11))) (l11 : K.lookup f11 = some ⟨oc11, od11, .func (PySem.W.fnOf "is_name" "is_name" (defArgs s_is_name) (defBody s_is_name) (defScope s_is_name) .none kV11 dc11 pm11 an11 cd11 ct11), sl11⟩) (c11 : PySem.W.codeIn K cd11 "is_name" = true) (k11 : PySem.W.keepIn K (.ref f11) = true)
    (a12 : PySem.W.nsIn K mainGlobals "read_name" = some (some (.ref f12))) (l12 : K.lookup f12 = some ⟨oc12, od12, .func (PySem.W.fnOf "read_name" "read_name" (defArgs s_read_name) (defBody s_read_name) (defScope s_read_name) .none kV12 dc12 pm12 an12 cd12 ct12), sl12⟩) (c12 : PySem.W.codeIn K cd12 "read_name" = true) (k12 : PySem.W.keepIn K (.ref f12) = true)
    (a13 : PySem.W.nsIn K mainGlobals "is_number" = some (some (.ref f13))) (l13 : K.lookup f13 = some ⟨oc13, od13, .func (PySem.W.fnOf "is_number" "is_number" (defArgs s_is_number) (defBody s_is_number) (defScope s_is_number) .none kV13 dc13 pm13 an13 cd13 ct13), sl13⟩) (c13 : PySem.W.codeIn K cd13 "is_number" = true) (k13 : PySem.W.keepIn K (.ref f13) = true)
    (a14 : PySem.W.nsIn K mainGlobals "read_number" = some (some (.ref f14))) (l14 : K.lookup f14 = some ⟨oc14, od14, .func (PySem.W.fnOf "read_number" "read_number" (defArgs s_read_number) (defBody s_read_number) (defScope s_read_number) .none kV14 dc14 pm14 an14 cd14 ct14), sl14⟩) (c14 : PySem.W.codeIn K cd14 "read_number" = true) (k14 : PySem.W.keepIn K (.ref f14) = true)
    (a15 : PySem.W.nsIn K mainGlobals "read_words" = some (some (.ref f15))) (l15 : K.lookup f15 = some ⟨oc15, od15, .func (PySem.W.fnOf "read_words" "read_words" (defArgs s_read_words) (defBody s_read_words) (defScope s_read_words) .none kV15 dc15 pm15 an15 cd15 ct15), sl15⟩) (c15 : PySem.W.codeIn K cd15 "read_words" = true) (k15 : PySem.W.keepIn K (.ref f15) = true)
    (a16 : PySem.W.nsIn K mainGlobals "read_row" = some (some (.ref f16))) (l16 : K.lookup f16 = some ⟨oc16, od16, .func (PySem.W.fnOf "read_row" "read_row" (defArgs s_read_row) (defBody s_read_row) (defScope s_read_row) .none kV16 dc16 pm16 an16 cd16 ct16), sl16⟩) (c16 : PySem.W.codeIn K cd16 "read_row" = true) (k16 : PySem.W.keepIn K (.ref f16) = true)
    (a17 : PySem.W.nsIn K mainGlobals "rows_of" = some (some (.ref f17))) (l17 : K.lookup f17 = some ⟨oc17, od17, .func (PySem.W.fnOf "rows_of" "rows_of" (defArgs s_rows_of) (defBody s_rows_of) (defScope s_rows_of) .none kV17 dc17 pm17 an17 cd17 ct17), sl17⟩) (c17 : PySem.W.codeIn K cd17 "rows_of" = true) (k17 : PySem.W.keepIn K (.ref f17) = true)
    (a18 : PySem.W.nsIn K mainGlobals "written_shop" = some (some (.ref f18))) (l18 : K.lookup f18 = some ⟨oc18, od18, .func (PySem.W.fnOf "written_shop" "written_shop" (defArgs s_written_shop) (defBody s_written_shop) (defScope s_written_shop) .none kV18 dc18 pm18 an18 cd18 ct18), sl18⟩) (c18 : PySem.W.codeIn K cd18 "written_shop" = true) (k18 : PySem.W.keepIn K (.ref f18) = true)
    (a19 : PySem.W.nsIn K mainGlobals "names_of" = some (some (.ref f19))) (l19 : K.lookup f19 = some ⟨oc19, od19, .func (PySem.W.fnOf "names_of" "names_of" (defArgs s_names_of) (defBody s_names_of) (defScope s_names_of) .none kV19 dc19 pm19 an19 cd19 ct19), sl19⟩) (c19 : PySem.W.codeIn K cd19 "names_of" = true) (k19 : PySem.W.keepIn K (.ref f19) = true)
    (a20 : PySem.W.nsIn K mainGlobals "is_tuple" = some (some (.ref f20))) (l20 : K.lookup f20 = some ⟨oc20, od20, .func (PySem.W.fnOf "is_tuple" "is_tuple" (defArgs s_is_tuple) (defBody s_is_tuple) (defScope s_is_tuple) .none kV20 dc20 pm20 an20 cd20 ct20), sl20⟩) (c20 : PySem.W.codeIn K cd20 "is_tuple" = true) (k20 : PySem.W.keepIn K (.ref f20) = true)
    (a21 : PySem.W.nsIn K mainGlobals "is_whole" = some (some (.ref f21))) (l21 : K.lookup f21 = some ⟨oc21, od21, .func (PySem.W.fnOf "is_whole" "is_whole" (defArgs s_is_whole) (defBody s_is_whole) (defScope s_is_whole) .none kV21 dc21 pm21 an21 cd21 ct21), sl21⟩) (c21 : PySem.W.codeIn K cd21 "is_whole" = true) (k21 : PySem.W.keepIn K (.ref f21) = true)
    (a22 : PySem.W.nsIn K mainGlobals "is_from" = some (some (.ref f22))) (l22 : K.lookup f22 = some ⟨oc22, od22, .func (PySem.W.fnOf "is_from" "is_from" (defArgs s_is_from) (defBody s_is_from) (defScope s_is_from) .none kV22 dc22 pm22 an22 cd22 ct22), sl22⟩) (c22 : PySem.W.codeIn K cd22 "is_from" = true) (k22 : PySem.W.keepIn K (.ref f22) = true)
    (a23 : PySem.W.nsIn K mainGlobals "is_between" = some (some (.ref f23))) (l23 : K.lookup f23 = some ⟨oc23, od23, .func (PySem.W.fnOf "is_between" "is_between" (defArgs s_is_between) (defBody s_is_between) (defScope s_is_between) .none kV23 dc23 pm23 an23 cd23 ct23), sl23⟩) (c23 : PySem.W.codeIn K cd23 "is_between" = true) (k23 : PySem.W.keepIn K (.ref f23) = true)
    (a24 : PySem.W.nsIn K mainGlobals "is_want" = some (some (.ref f24))) (l24 : K.lookup f24 = some ⟨oc24, od24, .func (PySem.W.fnOf "is_want" "is_want" (defArgs s_is_want) (defBody s_is_want) (defScope s_is_want) .none kV24 dc24 pm24 an24 cd24 ct24), sl24⟩) (c24 : PySem.W.codeIn K cd24 "is_want" = true) (k24 : PySem.W.keepIn K (.ref f24) = true)
    (a25 : PySem.W.nsIn K mainGlobals "are_wants" = some (some (.ref f25))) (l25 : K.lookup f25 = some ⟨oc25, od25, .func (PySem.W.fnOf "are_wants" "are_wants" (defArgs s_are_wants) (defBody s_are_wants) (defScope s_are_wants) .none kV25 dc25 pm25 an25 cd25 ct25), sl25⟩) (c25 : PySem.W.codeIn K cd25 "are_wants" = true) (k25 : PySem.W.keepIn K (.ref f25) = true)
    (a26 : PySem.W.nsIn K mainGlobals "is_part" = some (some (.ref f26))) (l26 : K.lookup f26 = some ⟨oc26, od26, .func (PySem.W.fnOf "is_part" "is_part" (defArgs s_is_part) (defBody s_is_part) (defScope s_is_part) .none kV26 dc26 pm26 an26 cd26 ct26), sl26⟩) (c26 : PySem.W.codeIn K cd26 "is_part" = true) (k26 : PySem.W.keepIn K (.ref f26) = true)
    (a27 : PySem.W.nsIn K mainGlobals "are_unlike" = some (some (.ref f27))) (l27 : K.lookup f27 = some ⟨oc27, od27, .func (PySem.W.fnOf "are_unlike" "are_unlike" (defArgs s_are_unlike) (defBody s_are_unlike) (defScope s_are_unlike) .none kV27 dc27 pm27 an27 cd27 ct27), sl27⟩) (c27 : PySem.W.codeIn K cd27 "are_unlike" = true) (k27 : PySem.W.keepIn K (.ref f27) = true)
    (a28 : PySem.W.nsIn K mainGlobals "are_parts" = some (some (.ref f28))) (l28 : K.lookup f28 = some ⟨oc28, od28, .func (PySem.W.fnOf "are_parts" "are_parts" (defArgs s_are_parts) (defBody s_are_parts) (defScope s_are_parts) .none kV28 dc28 pm28 an28 cd28 ct28), sl28⟩) (c28 : PySem.W.codeIn K cd28 "are_parts" = true) (k28 : PySem.W.keepIn K (.ref f28) = true)
    (a29 : PySem.W.nsIn K mainGlobals "is_arrival" = some (some (.ref f29))) (l29 : K.lookup f29 = some ⟨oc29, od29, .func (PySem.W.fnOf "is_arrival" "is_arrival" (defArgs s_is_arrival) (defBody s_is_arrival) (defScope s_is_arrival) .none kV29 dc29 pm29 an29 cd29 ct29), sl29⟩) (c29 : PySem.W.codeIn K cd29 "is_arrival" = true) (k29 : PySem.W.keepIn K (.ref f29) = true)
    (a30 : PySem.W.nsIn K mainGlobals "are_arrivals" = some (some (.ref f30))) (l30 : K.lookup f30 = some ⟨oc30, od30, .func (PySem.W.fnOf "are_arrivals" "are_arrivals" (defArgs s_are_arrivals) (defBody s_are_arrivals) (defScope s_are_arrivals) .none kV30 dc30 pm30 an30 cd30 ct30), sl30⟩) (c30 : PySem.W.codeIn K cd30 "are_arrivals" = true) (k30 : PySem.W.keepIn K (.ref f30) = true)
    (a31 : PySem.W.nsIn K mainGlobals "is_ware" = some (some (.ref f31))) (l31 : K.lookup f31 = some ⟨oc31, od31, .func (PySem.W.fnOf "is_ware" "is_ware" (defArgs s_is_ware) (defBody s_is_ware) (defScope s_is_ware) .none kV31 dc31 pm31 an31 cd31 ct31), sl31⟩) (c31 : PySem.W.codeIn K cd31 "is_ware" = true) (k31 : PySem.W.keepIn K (.ref f31) = true)
    (a32 : PySem.W.nsIn K mainGlobals "are_wares" = some (some (.ref f32))) (l32 : K.lookup f32 = some ⟨oc32, od32, .func (PySem.W.fnOf "are_wares" "are_wares" (defArgs s_are_wares) (defBody s_are_wares) (defScope s_are_wares) .none kV32 dc32 pm32 an32 cd32 ct32), sl32⟩) (c32 : PySem.W.codeIn K cd32 "are_wares" = true) (k32 : PySem.W.keepIn K (.ref f32) = true)
    (a33 : PySem.W.nsIn K mainGlobals "part_names" = some (some (.ref f33))) (l33 : K.lookup f33 = some ⟨oc33, od33, .func (PySem.W.fnOf "part_names" "part_names" (defArgs s_part_names) (defBody s_part_names) (defScope s_part_names) .none kV33 dc33 pm33 an33 cd33 ct33), sl33⟩) (c33 : PySem.W.codeIn K cd33 "part_names" = true) (k33 : PySem.W.keepIn K (.ref f33) = true)
    (a34 : PySem.W.nsIn K mainGlobals "needed_names" = some (some (.ref f34))) (l34 : K.lookup f34 = some ⟨oc34, od34, .func (PySem.W.fnOf "needed_names" "needed_names" (defArgs s_needed_names) (defBody s_needed_names) (defScope s_needed_names) .none kV34 dc34 pm34 an34 cd34 ct34), sl34⟩) (c34 : PySem.W.codeIn K cd34 "needed_names" = true) (k34 : PySem.W.keepIn K (.ref f34) = true)
    (a35 : PySem.W.nsIn K mainGlobals "is_shop" = some (some (.ref f35))) (l35 : K.lookup f35 = some ⟨oc35, od35, .func (PySem.W.fnOf "is_shop" "is_shop" (defArgs s_is_shop) (defBody s_is_shop) (defScope s_is_shop) .none kV35 dc35 pm35 an35 cd35 ct35), sl35⟩) (c35 : PySem.W.codeIn K cd35 "is_shop" = true) (k35 : PySem.W.keepIn K (.ref f35) = true)
    (a36 : PySem.W.nsIn K mainGlobals "read_shop" = some (some (.ref f36))) (l36 : K.lookup f36 = some ⟨oc36, od36, .func (PySem.W.fnOf "read_shop" "read_shop" (defArgs s_read_shop) (defBody s_read_shop) (defScope s_read_shop) .none kV36 dc36 pm36 an36 cd36 ct36), sl36⟩) (c36 : PySem.W.codeIn K cd36 "read_shop" = true) (k36 : PySem.W.keepIn K (.ref f36) = true)
    (a37 : PySem.W.nsIn K mainGlobals "law" = some (some (.ref f37))) (l37 : K.lookup f37 = some ⟨oc37, od37, .func (PySem.W.fnOf "law" "law" (defArgs s_law) (defBody s_law) (defScope s_law) .none kV37 dc37 pm37 an37 cd37 ct37), sl37⟩) (c37 : PySem.W.codeIn K cd37 "law" = true) (k37 : PySem.W.keepIn K (.ref f37) = true)
    (z_len : PySem.W.nsIn K mainGlobals "len" = some none)
    (z_isinstance : PySem.W.nsIn K mainGlobals "isinstance" = some none)
    (z_str : PySem.W.nsIn K mainGlobals "str" = some none)
    (z_all : PySem.W.nsIn K mainGlobals "all" = some none)
    (z_bool : PySem.W.nsIn K mainGlobals "bool" = some none)
    (z_int : PySem.W.nsIn K mainGlobals "int" = some none)
    (z_tuple : PySem.W.nsIn K mainGlobals "tuple" = some none)
    (z_zip : PySem.W.nsIn K mainGlobals "zip" = some none)
    (z_range : PySem.W.nsIn K mainGlobals "range" = some none)
    (z_enumerate : PySem.W.nsIn K mainGlobals "enumerate" = some none)
    (z_list : PySem.W.nsIn K mainGlobals "list" = some none)
    (g_COMING : PySem.W.nsIn K mainGlobals "COMING" = some (some (.int 5 t_COMING)))
    (g_FIGURES : PySem.W.nsIn K mainGlobals "FIGURES" = some (some (.str "0123456789" t_FIGURES)))
    (g_FLOOR : PySem.W.nsIn K mainGlobals "FLOOR" = some (some (.int 3 t_FLOOR)))
    (g_GIVES : PySem.W.nsIn K mainGlobals "GIVES" = some (some (.int 2 t_GIVES)))
    (g_LAG : PySem.W.nsIn K mainGlobals "LAG" = some (some (.int 1 t_LAG)))
    (g_LAST_DAY : PySem.W.nsIn K mainGlobals "LAST_DAY" = some (some (.int 400 t_LAST_DAY)))
    (g_LETTERS : PySem.W.nsIn K mainGlobals "LETTERS" = some (some (.str "abcdefghijklmnopqrstuvwxyz" t_LETTERS)))
    (g_MEMBERS : PySem.W.nsIn K mainGlobals "MEMBERS" = some (some (.int 7 t_MEMBERS)))
    (g_MOST_COMING : PySem.W.nsIn K mainGlobals "MOST_COMING" = some (some (.int 12 t_MOST_COMING)))
    (g_MOST_FIGURES : PySem.W.nsIn K mainGlobals "MOST_FIGURES" = some (some (.int 60 t_MOST_FIGURES)))
    (g_MOST_LAG : PySem.W.nsIn K mainGlobals "MOST_LAG" = some (some (.int 30 t_MOST_LAG)))
    (g_MOST_LETTERS : PySem.W.nsIn K mainGlobals "MOST_LETTERS" = some (some (.int 8 t_MOST_LETTERS)))
    (g_MOST_PARTS : PySem.W.nsIn K mainGlobals "MOST_PARTS" = some (some (.int 6 t_MOST_PARTS)))
    (g_MOST_WANTS : PySem.W.nsIn K mainGlobals "MOST_WANTS" = some (some (.int 20 t_MOST_WANTS)))
    (g_MOST_WARES : PySem.W.nsIn K mainGlobals "MOST_WARES" = some (some (.int 12 t_MOST_WARES)))
    (g_NAME : PySem.W.nsIn K mainGlobals "NAME" = some (some (.int 0 t_NAME)))
    (g_PARTS : PySem.W.nsIn K mainGlobals "PARTS" = some (some (.int 6 t_PARTS)))
    (g_STOCK : PySem.W.nsIn K mainGlobals "STOCK" = some (some (.int 4 t_STOCK)))
    (r_g : PySem.W.nsIn K mainGlobals "ROWS" = some (some (.ref Ra))) (r_l : K.lookup Ra = some { cls := .type "dict", data := .dict #[{ hash := PyData.keyHash w.params "ware", key := .str "ware" Rt1, val := .ref R1 }, { hash := PyData.keyHash w.params "coming", key := .str "coming" Rt2, val := .ref R2 }, { hash := PyData.keyHash w.params "part", key := .str "part" Rt3, val := .ref R3 }, { hash := PyData.keyHash w.params "want", key := .str "want" Rt4, val := .ref R4 }] Re }) (r_n : (Ra == sysModules) = false)
    (r_1 : K.lookup R1 = some { cls := .type "tuple", data := .seq #[Value.str "name" Rt1_0, Value.str "number" Rt1_1, Value.str "number" Rt1_2, Value.str "number" Rt1_3, Value.str "number" Rt1_4] Rn1 })
    (r_2 : K.lookup R2 = some { cls := .type "tuple", data := .seq #[Value.str "name" Rt2_0, Value.str "number" Rt2_1, Value.str "number" Rt2_2] Rn2 })
    (r_3 : K.lookup R3 = some { cls := .type "tuple", data := .seq #[Value.str "name" Rt3_0, Value.str "name" Rt3_1, Value.str "number" Rt3_2] Rn3 })
    (r_4 : K.lookup R4 = some { cls := .type "tuple", data := .seq #[Value.str "name" Rt4_0, Value.str "number" Rt4_1, Value.str "number" Rt4_2] Rn4 }) :
    ∃ fd : FuncData, (∀ (s : Shared) (v : Value), BindsTo s fd ⟨[v], []⟩ [("_law_script", v)]) ∧ ∀ base : Heap, K.In base → base.Ns mainGlobals mg → FnOk l.prog w K mg base CX0 10 fa fd ["_law_script"] (sp_law K) := by
  have e := hfa.symm.trans (PySem.W.mg_of X G a37)
  cases e
  have T : Txt mg := ⟨PySem.W.mg_none_of X G z_len, PySem.W.mg_none_of X G z_isinstance, PySem.W.mg_none_of X G z_str, PySem.W.mg_none_of X G z_all, PySem.W.mg_none_of X G z_bool, PySem.W.mg_none_of X G z_int, PySem.W.mg_none_of X G z_tuple, PySem.W.mg_none_of X G z_zip, PySem.W.mg_none_of X G z_range, PySem.W.mg_none_of X G z_enumerate, PySem.W.mg_none_of X G z_list, ⟨_, PySem.W.mg_of X G g_COMING⟩, ⟨_, PySem.W.mg_of X G g_FIGURES⟩, ⟨_, PySem.W.mg_of X G g_FLOOR⟩, ⟨_, PySem.W.mg_of X G g_GIVES⟩, ⟨_, PySem.W.mg_of X G g_LAG⟩, ⟨_, PySem.W.mg_of X G g_LAST_DAY⟩, ⟨_, PySem.W.mg_of X G g_LETTERS⟩, ⟨_, PySem.W.mg_of X G g_MEMBERS⟩, ⟨_, PySem.W.mg_of X G g_MOST_COMING⟩, ⟨_, PySem.W.mg_of X G g_MOST_FIGURES⟩, ⟨_, PySem.W.mg_of X G g_MOST_LAG⟩, ⟨_, PySem.W.mg_of X G g_MOST_LETTERS⟩, ⟨_, PySem.W.mg_of X G g_MOST_PARTS⟩, ⟨_, PySem.W.mg_of X G g_MOST_WANTS⟩, ⟨_, PySem.W.mg_of X G g_MOST_WARES⟩, ⟨_, PySem.W.mg_of X G g_NAME⟩, ⟨_, PySem.W.mg_of X G g_PARTS⟩, ⟨_, PySem.W.mg_of X G g_STOCK⟩⟩
  have R : Rws w K mg := ⟨Ra, [("ware", Rt1, R1), ("coming", Rt2, R2), ("part", Rt3, R3), ("want", Rt4, R4)], PySem.W.mg_of X G r_g, ⟨⟨Re, r_l⟩, by show (["ware", "coming", "part", "want"] : List Str).Nodup; decide +kernel, r_n⟩, ⟨R1, [("name", Rt1_0), ("number", Rt1_1), ("number", Rt1_2), ("number", Rt1_3), ("number", Rt1_4)], rfl, ⟨Rn1, r_1⟩, rfl⟩, ⟨R2, [("name", Rt2_0), ("number", Rt2_1), ("number", Rt2_2)], rfl, ⟨Rn2, r_2⟩, rfl⟩, ⟨R3, [("name", Rt3_0), ("name", Rt3_1), ("number", Rt3_2)], rfl, ⟨Rn3, r_3⟩, rfl⟩, ⟨R4, [("name", Rt4_0), ("number", Rt4_1), ("number", Rt4_2)], rfl, ⟨Rn4, r_4⟩, rfl⟩, rfl⟩
  have F1 := fun_mk (st := s_law_drawn) l1 c1 k1
  have b1 := F1.binds (ps := ["_law_script"]) fun _ _ _ _ _ _ us hl => match us, hl with | [_], _ => rfl
  have h_law_drawn : ∀ base : Heap, Has l.prog w K mg base "_law_drawn" 1 ["_law_script"] (sp_law_drawn K) := fun base => ⟨_, _, PySem.W.mg_of X G a1, k1, b1, ok_law_drawn F1 T⟩
  have F2 := fun_mk (st := s_law_next) l2 c2 k2
  have b2 := F2.binds (ps := ["_law_state", "_law_many"]) fun _ _ _ _ _ _ us hl => match us, hl with | [_, _], _ => rfl
  have h_law_next : ∀ base : Heap, Has l.prog w K mg base "_law_next" 1 ["_law_state", "_law_many"] sp_law_next := fun base => ⟨_, _, PySem.W.mg_of X G a2, k2, b2, ok_law_next F2 T⟩
  have F3 := fun_mk (st := s_law_names) l3 c3 k3
  have b3 := F3.binds (ps := ["_law_state", "_law_many"]) fun _ _ _ _ _ _ us hl => match us, hl with | [_, _], _ => rfl
  have h_law_names : ∀ base : Heap, Has l.prog w K mg base "_law_names" 2 ["_law_state", "_law_many"] sp_law_names := fun base => ⟨_, _, PySem.W.mg_of X G a3, k3, b3, ok_law_names F3 T (h_law_next base)⟩
  have F4 := fun_mk (st := s_law_amount) l4 c4 k4
  have b4 := F4.binds (ps := ["_law_state"]) fun _ _ _ _ _ _ us hl => match us, hl with | [_], _ => rfl
  have h_law_amount : ∀ base : Heap, Has l.prog w K mg base "_law_amount" 2 ["_law_state"] sp_law_amount := fun base => ⟨_, _, PySem.W.mg_of X G a4, k4, b4, ok_law_amount F4 T (h_law_next base)⟩
  have F5 := fun_mk (st := s_law_parts) l5 c5 k5
  have b5 := F5.binds (ps := ["_law_state", "_law_names_here"]) fun _ _ _ _ _ _ us hl => match us, hl with | [_, _], _ => rfl
  have h_law_parts : ∀ base : Heap, Has l.prog w K mg base "_law_parts" 2 ["_law_state", "_law_names_here"] sp_law_parts := fun base => ⟨_, _, PySem.W.mg_of X G a5, k5, b5, ok_law_parts F5 T (h_law_next base)⟩
  have F6 := fun_mk (st := s_law_shop) l6 c6 k6
  have b6 := F6.binds (ps := ["_law_state", "_law_top"]) fun _ _ _ _ _ _ us hl => match us, hl with | [_, _], _ => rfl
  have h_law_shop : ∀ base : Heap, Has l.prog w K mg base "_law_shop" 3 ["_law_state", "_law_top"] sp_law_shop := fun base => ⟨_, _, PySem.W.mg_of X G a6, k6, b6, ok_law_shop F6 T (h_law_names base) (h_law_next base) (h_law_amount base) (h_law_parts base)⟩
  have F7 := fun_mk (st := s_law_any_shop) l7 c7 k7
  have b7 := F7.binds (ps := ["_law_state"]) fun _ _ _ _ _ _ us hl => match us, hl with | [_], _ => rfl
  have h_law_any_shop : ∀ base : Heap, Has l.prog w K mg base "_law_any_shop" 4 ["_law_state"] sp_law_any_shop := fun base => ⟨_, _, PySem.W.mg_of X G a7, k7, b7, ok_law_any_shop F7 T (h_law_shop base) (h_law_next base)⟩
  have F8 := fun_mk (st := s_law_line) l8 c8 k8
  have b8 := F8.binds (ps := ["_law_parts_here"]) fun _ _ _ _ _ _ us hl => match us, hl with | [_], _ => rfl
  have h_law_line : ∀ base : Heap, Has l.prog w K mg base "_law_line" 1 ["_law_parts_here"] sp_law_line := fun base => ⟨_, _, PySem.W.mg_of X G a8, k8, b8, ok_law_line F8 T⟩
  have F9 := fun_mk (st := s_shown_row) l9 c9 k9
  have b9 := F9.binds (ps := ["sort", "members"]) fun _ _ _ _ _ _ us hl => match us, hl with | [_, _], _ => rfl
  have h_shown_row : ∀ base : Heap, Has l.prog w K mg base "shown_row" 1 ["sort", "members"] sp_shown_row := fun base => ⟨_, _, PySem.W.mg_of X G a9, k9, b9, ok_shown_row F9 T⟩
  have F10 := fun_mk (st := s_shown_shop) l10 c10 k10
  have b10 := F10.binds (ps := ["shop"]) fun _ _ _ _ _ _ us hl => match us, hl with | [_], _ => rfl
  have h_shown_shop : ∀ base : Heap, Has l.prog w K mg base "shown_shop" 2 ["shop"] sp_shown_shop := fun base => ⟨_, _, PySem.W.mg_of X G a10, k10, b10, ok_shown_shop F10 T (h_shown_row base)⟩
  have F11 := fun_mk (st := s_is_name) l11 c11 k11
  have b11 := F11.binds (ps := ["found"]) fun _ _ _ _ _ _ us hl => match us, hl with | [_], _ => rfl
  have h_is_name : ∀ base : Heap, Has l.prog w K mg base "is_name" 1 ["found"] sp_is_name := fun base => ⟨_, _, PySem.W.mg_of X G a11, k11, b11, ok_is_name F11 T⟩
  have F12 := fun_mk (st := s_read_name) l12 c12 k12
  have b12 := F12.binds (ps := ["word"]) fun _ _ _ _ _ _ us hl => match us, hl with | [_], _ => rfl
  have h_read_name : ∀ base : Heap, Has l.prog w K mg base "read_name" 2 ["word"] sp_read_name := fun base => ⟨_, _, PySem.W.mg_of X G a12, k12, b12, ok_read_name F12 T (h_is_name base)⟩
  have F13 := fun_mk (st := s_is_number) l13 c13 k13
  have b13 := F13.binds (ps := ["word"]) fun _ _ _ _ _ _ us hl => match us, hl with | [_], _ => rfl
  have h_is_number : ∀ base : Heap, Has l.prog w K mg base "is_number" 1 ["word"] sp_is_number := fun base => ⟨_, _, PySem.W.mg_of X G a13, k13, b13, ok_is_number F13 T⟩
  have F14 := fun_mk (st := s_read_number) l14 c14 k14
  have b14 := F14.binds (ps := ["word"]) fun _ _ _ _ _ _ us hl => match us, hl with | [_], _ => rfl
  have h_read_number : ∀ base : Heap, Has l.prog w K mg base "read_number" 2 ["word"] sp_read_number := fun base => ⟨_, _, PySem.W.mg_of X G a14, k14, b14, ok_read_number F14 T (h_is_number base)⟩
  have F15 := fun_mk (st := s_read_words) l15 c15 k15
  have b15 := F15.binds (ps := ["words", "form"]) fun _ _ _ _ _ _ us hl => match us, hl with | [_, _], _ => rfl
  have h_read_words : ∀ base : Heap, Has l.prog w K mg base "read_words" 3 ["words", "form"] (sp_read_words K) := fun base => ⟨_, _, PySem.W.mg_of X G a15, k15, b15, ok_read_words F15 T (h_read_name base) (h_read_number base)⟩
  have F16 := fun_mk (st := s_read_row) l16 c16 k16
  have b16 := F16.binds (ps := ["row"]) fun _ _ _ _ _ _ us hl => match us, hl with | [_], _ => rfl
  have h_read_row : ∀ base : Heap, Has l.prog w K mg base "read_row" 4 ["row"] sp_read_row := fun base => ⟨_, _, PySem.W.mg_of X G a16, k16, b16, ok_read_row F16 T R (h_read_words base)⟩
  have F17 := fun_mk (st := s_rows_of) l17 c17 k17
  have b17 := F17.binds (ps := ["rows", "sort", "name"]) fun _ _ _ _ _ _ us hl => match us, hl with | [_, _, _], _ => rfl
  have h_rows_of : ∀ base : Heap, Has l.prog w K mg base "rows_of" 1 ["rows", "sort", "name"] sp_rows_of := fun base => ⟨_, _, PySem.W.mg_of X G a17, k17, b17, ok_rows_of F17 T⟩
  have F18 := fun_mk (st := s_written_shop) l18 c18 k18
  have b18 := F18.binds (ps := ["rows"]) fun _ _ _ _ _ _ us hl => match us, hl with | [_], _ => rfl
  have h_written_shop : ∀ base : Heap, Has l.prog w K mg base "written_shop" 2 ["rows"] sp_written_shop := fun base => ⟨_, _, PySem.W.mg_of X G a18, k18, b18, ok_written_shop F18 T (h_rows_of base)⟩
  have F19 := fun_mk (st := s_names_of) l19 c19 k19
  have b19 := F19.binds (ps := ["shop"]) fun _ _ _ _ _ _ us hl => match us, hl with | [_], _ => rfl
  have h_names_of : ∀ base : Heap, Has l.prog w K mg base "names_of" 1 ["shop"] sp_names_of := fun base => ⟨_, _, PySem.W.mg_of X G a19, k19, b19, ok_names_of F19 T⟩
  have F20 := fun_mk (st := s_is_tuple) l20 c20 k20
  have b20 := F20.binds (ps := ["found", "least", "most"]) fun _ _ _ _ _ _ us hl => match us, hl with | [_, _, _], _ => rfl
  have h_is_tuple : ∀ base : Heap, Has l.prog w K mg base "is_tuple" 1 ["found", "least", "most"] sp_is_tuple := fun base => ⟨_, _, PySem.W.mg_of X G a20, k20, b20, ok_is_tuple F20 T⟩
  have F21 := fun_mk (st := s_is_whole) l21 c21 k21
  have b21 := F21.binds (ps := ["found"]) fun _ _ _ _ _ _ us hl => match us, hl with | [_], _ => rfl
  have h_is_whole : ∀ base : Heap, Has l.prog w K mg base "is_whole" 1 ["found"] sp_is_whole := fun base => ⟨_, _, PySem.W.mg_of X G a21, k21, b21, ok_is_whole F21 T⟩
  have F22 := fun_mk (st := s_is_from) l22 c22 k22
  have b22 := F22.binds (ps := ["found", "least"]) fun _ _ _ _ _ _ us hl => match us, hl with | [_, _], _ => rfl
  have h_is_from : ∀ base : Heap, Has l.prog w K mg base "is_from" 2 ["found", "least"] sp_is_from := fun base => ⟨_, _, PySem.W.mg_of X G a22, k22, b22, ok_is_from F22 T (h_is_whole base)⟩
  have F23 := fun_mk (st := s_is_between) l23 c23 k23
  have b23 := F23.binds (ps := ["found", "least", "most"]) fun _ _ _ _ _ _ us hl => match us, hl with | [_, _, _], _ => rfl
  have h_is_between : ∀ base : Heap, Has l.prog w K mg base "is_between" 3 ["found", "least", "most"] sp_is_between := fun base => ⟨_, _, PySem.W.mg_of X G a23, k23, b23, ok_is_between F23 T (h_is_from base)⟩
  have F24 := fun_mk (st := s_is_want) l24 c24 k24
  have b24 := F24.binds (ps := ["found"]) fun _ _ _ _ _ _ us hl => match us, hl with | [_], _ => rfl
  have h_is_want : ∀ base : Heap, Has l.prog w K mg base "is_want" 4 ["found"] sp_is_want := fun base => ⟨_, _, PySem.W.mg_of X G a24, k24, b24, ok_is_want F24 T (h_is_tuple base) (h_is_from base) (h_is_between base) (h_is_name base)⟩
  have F25 := fun_mk (st := s_are_wants) l25 c25 k25
  have b25 := F25.binds (ps := ["found"]) fun _ _ _ _ _ _ us hl => match us, hl with | [_], _ => rfl
  have h_are_wants : ∀ base : Heap, Has l.prog w K mg base "are_wants" 5 ["found"] sp_are_wants := fun base => ⟨_, _, PySem.W.mg_of X G a25, k25, b25, ok_are_wants F25 T (h_is_want base) (h_is_tuple base)⟩
  have F26 := fun_mk (st := s_is_part) l26 c26 k26
  have b26 := F26.binds (ps := ["found"]) fun _ _ _ _ _ _ us hl => match us, hl with | [_], _ => rfl
  have h_is_part : ∀ base : Heap, Has l.prog w K mg base "is_part" 3 ["found"] sp_is_part := fun base => ⟨_, _, PySem.W.mg_of X G a26, k26, b26, ok_is_part F26 T (h_is_from base) (h_is_name base) (h_is_tuple base)⟩
  have F27 := fun_mk (st := s_are_unlike) l27 c27 k27
  have b27 := F27.binds (ps := ["names"]) fun _ _ _ _ _ _ us hl => match us, hl with | [_], _ => rfl
  have h_are_unlike : ∀ base : Heap, Has l.prog w K mg base "are_unlike" 1 ["names"] sp_are_unlike := fun base => ⟨_, _, PySem.W.mg_of X G a27, k27, b27, ok_are_unlike F27 T⟩
  have F28 := fun_mk (st := s_are_parts) l28 c28 k28
  have b28 := F28.binds (ps := ["found"]) fun _ _ _ _ _ _ us hl => match us, hl with | [_], _ => rfl
  have h_are_parts : ∀ base : Heap, Has l.prog w K mg base "are_parts" 4 ["found"] sp_are_parts := fun base => ⟨_, _, PySem.W.mg_of X G a28, k28, b28, ok_are_parts F28 T (h_is_part base) (h_is_tuple base) (h_are_unlike base)⟩
  have F29 := fun_mk (st := s_is_arrival) l29 c29 k29
  have b29 := F29.binds (ps := ["found"]) fun _ _ _ _ _ _ us hl => match us, hl with | [_], _ => rfl
  have h_is_arrival : ∀ base : Heap, Has l.prog w K mg base "is_arrival" 4 ["found"] sp_is_arrival := fun base => ⟨_, _, PySem.W.mg_of X G a29, k29, b29, ok_is_arrival F29 T (h_is_from base) (h_is_between base) (h_is_tuple base)⟩
  have F30 := fun_mk (st := s_are_arrivals) l30 c30 k30
  have b30 := F30.binds (ps := ["found"]) fun _ _ _ _ _ _ us hl => match us, hl with | [_], _ => rfl
  have h_are_arrivals : ∀ base : Heap, Has l.prog w K mg base "are_arrivals" 5 ["found"] sp_are_arrivals := fun base => ⟨_, _, PySem.W.mg_of X G a30, k30, b30, ok_are_arrivals F30 T (h_is_arrival base) (h_is_tuple base)⟩
  have F31 := fun_mk (st := s_is_ware) l31 c31 k31
  have b31 := F31.binds (ps := ["found"]) fun _ _ _ _ _ _ us hl => match us, hl with | [_], _ => rfl
  have h_is_ware : ∀ base : Heap, Has l.prog w K mg base "is_ware" 6 ["found"] sp_is_ware := fun base => ⟨_, _, PySem.W.mg_of X G a31, k31, b31, ok_is_ware F31 T (h_is_tuple base) (h_is_from base) (h_is_between base) (h_is_name base) (h_are_parts base) (h_are_arrivals base)⟩
  have F32 := fun_mk (st := s_are_wares) l32 c32 k32
  have b32 := F32.binds (ps := ["found"]) fun _ _ _ _ _ _ us hl => match us, hl with | [_], _ => rfl
  have h_are_wares : ∀ base : Heap, Has l.prog w K mg base "are_wares" 7 ["found"] sp_are_wares := fun base => ⟨_, _, PySem.W.mg_of X G a32, k32, b32, ok_are_wares F32 T (h_is_ware base) (h_is_tuple base) (h_are_unlike base)⟩
  have F33 := fun_mk (st := s_part_names) l33 c33 k33
  have b33 := F33.binds (ps := ["ware"]) fun _ _ _ _ _ _ us hl => match us, hl with | [_], _ => rfl
  have h_part_names : ∀ base : Heap, Has l.prog w K mg base "part_names" 1 ["ware"] sp_part_names := fun base => ⟨_, _, PySem.W.mg_of X G a33, k33, b33, ok_part_names F33 T⟩
  have F34 := fun_mk (st := s_needed_names) l34 c34 k34
  have b34 := F34.binds (ps := ["shop"]) fun _ _ _ _ _ _ us hl => match us, hl with | [_], _ => rfl
  have h_needed_names : ∀ base : Heap, Has l.prog w K mg base "needed_names" 2 ["shop"] sp_needed_names := fun base => ⟨_, _, PySem.W.mg_of X G a34, k34, b34, ok_needed_names F34 T (h_part_names base)⟩
  have F35 := fun_mk (st := s_is_shop) l35 c35 k35
  have b35 := F35.binds (ps := ["found"]) fun _ _ _ _ _ _ us hl => match us, hl with | [_], _ => rfl
  have h_is_shop : ∀ base : Heap, Has l.prog w K mg base "is_shop" 8 ["found"] sp_is_shop := fun base => ⟨_, _, PySem.W.mg_of X G a35, k35, b35, ok_is_shop F35 T (h_are_wants base) (h_are_wares base) (h_is_tuple base) (h_names_of base) (h_needed_names base)⟩
  have F36 := fun_mk (st := s_read_shop) l36 c36 k36
  have b36 := F36.binds (ps := ["text"]) fun _ _ _ _ _ _ us hl => match us, hl with | [_], _ => rfl
  have h_read_shop : ∀ base : Heap, Has l.prog w K mg base "read_shop" 9 ["text"] sp_read_shop := fun base => ⟨_, _, PySem.W.mg_of X G a36, k36, b36, ok_read_shop F36 T (h_read_row base) (h_written_shop base) (h_names_of base) (h_is_shop base)⟩
  have F37 := fun_mk (st := s_law) l37 c37 k37
  exact ⟨PySem.W.fnOf "law" "law" (defArgs s_law) (defBody s_law) (defScope s_law) .none kV37 dc37 pm37 an37 cd37 ct37, fun s v => .of_eq rfl, fun base _ _ => ok_law F37 T (h_law_drawn base) (h_law_any_shop base) (h_law_line base) (h_shown_shop base) (h_read_shop base)⟩
theorem walk {l : PySem.W.OpenLaw} {q : Program} {loose : List Str} {XP : (Str → Option Value) → Heap → Prop} {YP : World → Heap → Prop} {d : DefRec} {K : Params → PySem.W.Frag} (hn : l.most = some 63) (hdf : d.params.defaults = [])
    (hY : ∀ (w : World) (h : Heap), YP w h → (K w.params).In h)
    (F : ∀ (w : World) (mg : Str → Option Value) (fa : Addr) (h : Heap), (K w.params).In h → h.Ns mainGlobals mg → mg d.name = some (.ref fa) →
      ∃ fd : FuncData, (∀ (s : Shared) (u : Value), BindsTo s fd ⟨[u], []⟩ [("_law_script", u)]) ∧ ∀ base : Heap, (K w.params).In base → base.Ns mainGlobals mg → FnOk l.prog w (K w.params) mg base CX0 10 fa fd ["_law_script"] (sp_law (K w.params))) :
    PySem.W.WalkO q loose XP YP l.row.toRowW d [] (fun f vs => PySem.call f vs) :=
  L2.walk_of (n := 63) (k := 10) (x := "_law_script") (CX := fun _ => CX0) (sp := fun w => sp_law (K w.params)) hn (by decide) hdf ⟨rfl, by decide, by decide⟩ hY F (fun _ _ a ns hl _ hS => ⟨a, ns, rfl, hS, hl, fun _ => rfl⟩) fun _ _ _ _ _ z => z
end K54
namespace PySem.W.Fast
def tw6911602756877250705:=0
def tw17564453973411469333:=0
def tw12905498563514916332:=0
def tw16165801380186352895:=0
def tw5858227642949559446:=0
def tw4224415051694355438:=0
def tw14458165016645264575:=0
def tw16121043061910492182:=0
def tw11759785574369638318:=0
def tw14970914473302510016:=0
def tw5449019089179979913:=0
def tw284158065342278888:=0
def tw105718647892260500:=0
def tw14394024369895946169:=0
def tw14261618767701196481:=0
def tw10858973649637050950:=0
def tw8115296279909896365:=0
def tw11921891145223666938:=0
def tw4444194371201853162:=0
def tw17669090154840439734:=0
def tw897616278608069730:=0
def tw1777785472535669116:=0
def tw3024571877407489499:=0
def tw3331821100779739381:=0
def tw13685362429890453952:=0
def tw16532551033987600221:=0
def tw11772929752733988869:=0
def tw14670696529316313458:=0
def tw14611758043639467883:=0
def tw786066405922221843:=0
def tw12985163568086053791:=0
def tw956012337207948557:=0
def tw12977686825540823163:=0
def tw2237267250063385374:=0
def tw14036928134572870952:=0
def tw9964561137340986010:=0
def tw6891020091158636366:=0
def tw9168143836751552305:=0
def tw13648849048102376:=0
def tw725842325951242496:=0
def tw6890419661964036970:=0
def tw54790248748113181:=0
def tw12782573652341447900:=0
def tw14551670089666412374:=0
def tw17190104111459046631:=0
def tw17097480643603010176:=0
end PySem.W.Fast
open PySem PySem.W PyProof.Rows
set_option maxRecDepth 100000 in
set_option maxHeartbeats 0 in
theorem PySem.Challenge.cw_needplan_k54_shown_and_read_holds : PySem.Challenge.rw_needplan_k54_shown_and_read.Holds := by
  w_on; o_law; k_head; (case hw => w_witness2)
  k_fill
  refine K54.walk (l := PySem.Challenge.rw_needplan_k54_shown_and_read) rfl rfl (fun w h Y => PySem.W.kIn_of Y) ?F
  case F =>
    intro w mg fa h KX G hmg
    refine' K54.all_mk KX G hmg ?a1 ?l1 ?c1 ?k1 ?a2 ?l2 ?c2 ?k2 ?a3 ?l3 ?c3 ?k3 ?a4 ?l4 ?c4 ?k4 ?a5 ?l5 ?c5 ?k5 ?a6 ?l6 ?c6 ?k6 ?a7 ?l7 ?c7 ?k7 ?a8 ?l8 ?c8 ?k8 ?a9 ?l9 ?c9 ?k9 ?a10 ?l10 ?c10 ?k10 ?a11 ?l11 ?c11 ?k11 ?a12 ?l12 ?c12 ?k12 ?a13 ?l13 ?c13 ?k13 ?a14 ?l14 ?c14 ?k14 ?a15 ?l15 ?c15 ?k15 ?a16 ?l16 ?c16 ?k16 ?a17 ?l17 ?c17 ?k17 ?a18 ?l18 ?c18 ?k18 ?a19 ?l19 ?c19 ?k19 ?a20 ?l20 ?c20 ?k20 ?a21 ?l21 ?c21 ?k21 ?a22 ?l22 ?c22 ?k22 ?a23 ?l23 ?c23 ?k23 ?a24 ?l24 ?c24 ?k24 ?a25 ?l25 ?c25 ?k25 ?a26 ?l26 ?c26 ?k26 ?a27 ?l27 ?c27 ?k27 ?a28 ?l28 ?c28 ?k28 ?a29 ?l29 ?c29 ?k29 ?a30 ?l30 ?c30 ?k30 ?a31 ?l31 ?c31 ?k31 ?a32 ?l32 ?c32 ?k32 ?a33 ?l33 ?c33 ?k33 ?a34 ?l34 ?c34 ?k34 ?a35 ?l35 ?c35 ?k35 ?a36 ?l36 ?c36 ?k36 ?a37 ?l37 ?c37 ?k37 ?z_len ?z_isinstance ?z_str ?z_all ?z_bool ?z_int ?z_tuple ?z_zip ?z_range ?z_enumerate ?z_list ?g_COMING ?g_FIGURES ?g_FLOOR ?g_GIVES ?g_LAG ?g_LAST_DAY ?g_LETTERS ?g_MEMBERS ?g_MOST_COMING ?g_MOST_FIGURES ?g_MOST_LAG ?g_MOST_LETTERS ?g_MOST_PARTS ?g_MOST_WANTS ?g_MOST_WARES ?g_NAME ?g_PARTS ?g_STOCK ?r_g ?r_l ?r_n ?r_1 ?r_2 ?r_3 ?r_4
    (case a1 => k_is)
    (case l1 => k_is)
    (case c1 => k_is)
    (case k1 => k_is)
    (case a2 => k_is)
    (case l2 => k_is)
    (case c2 => k_is)
    (case k2 => k_is)
    (case a3 => k_is)
    (case l3 => k_is)
    (case c3 => k_is)
    (case k3 => k_is)
    (case a4 => k_is)
    (case l4 => k_is)
    (case c4 => k_is)
    (case k4 => k_is)
    (case a5 => k_is)
    (case l5 => k_is)
    (case c5 => k_is)
    (case k5 => k_is)
    (case a6 => k_is)
    (case l6 => k_is)
    (case c6 => k_is)
    (case k6 => k_is)
    (case a7 => k_is)
    (case l7 => k_is)
    (case c7 => k_is)
    (case k7 => k_is)
    (case a8 => k_is)
    (case l8 => k_is)
    (case c8 => k_is)
    (case k8 => k_is)
    (case a9 => k_is)
    (case l9 => k_is)
    (case c9 => k_is)
    (case k9 => k_is)
    (case a10 => k_is)
    (case l10 => k_is)
    (case c10 => k_is)
    (case k10 => k_is)
    (case a11 => k_is)
    (case l11 => k_is)
    (case c11 => k_is)
    (case k11 => k_is)
    (case a12 => k_is)
    (case l12 => k_is)
    (case c12 => k_is)
    (case k12 => k_is)
    (case a13 => k_is)
    (case l13 => k_is)
    (case c13 => k_is)
    (case k13 => k_is)
    (case a14 => k_is)
    (case l14 => k_is)
    (case c14 => k_is)
    (case k14 => k_is)
    (case a15 => k_is)
    (case l15 => k_is)
    (case c15 => k_is)
    (case k15 => k_is)
    (case a16 => k_is)
    (case l16 => k_is)
    (case c16 => k_is)
    (case k16 => k_is)
    (case a17 => k_is)
    (case l17 => k_is)
    (case c17 => k_is)
    (case k17 => k_is)
    (case a18 => k_is)
    (case l18 => k_is)
    (case c18 => k_is)
    (case k18 => k_is)
    (case a19 => k_is)
    (case l19 => k_is)
    (case c19 => k_is)
    (case k19 => k_is)
    (case a20 => k_is)
    (case l20 => k_is)
    (case c20 => k_is)
    (case k20 => k_is)
    (case a21 => k_is)
    (case l21 => k_is)
    (case c21 => k_is)
    (case k21 => k_is)
    (case a22 => k_is)
    (case l22 => k_is)
    (case c22 => k_is)
    (case k22 => k_is)
    (case a23 => k_is)
    (case l23 => k_is)
    (case c23 => k_is)
    (case k23 => k_is)
    (case a24 => k_is)
    (case l24 => k_is)
    (case c24 => k_is)
    (case k24 => k_is)
    (case a25 => k_is)
    (case l25 => k_is)
    (case c25 => k_is)
    (case k25 => k_is)
    (case a26 => k_is)
    (case l26 => k_is)
    (case c26 => k_is)
    (case k26 => k_is)
    (case a27 => k_is)
    (case l27 => k_is)
    (case c27 => k_is)
    (case k27 => k_is)
    (case a28 => k_is)
    (case l28 => k_is)
    (case c28 => k_is)
    (case k28 => k_is)
    (case a29 => k_is)
    (case l29 => k_is)
    (case c29 => k_is)
    (case k29 => k_is)
    (case a30 => k_is)
    (case l30 => k_is)
    (case c30 => k_is)
    (case k30 => k_is)
    (case a31 => k_is)
    (case l31 => k_is)
    (case c31 => k_is)
    (case k31 => k_is)
    (case a32 => k_is)
    (case l32 => k_is)
    (case c32 => k_is)
    (case k32 => k_is)
    (case a33 => k_is)
    (case l33 => k_is)
    (case c33 => k_is)
    (case k33 => k_is)
    (case a34 => k_is)
    (case l34 => k_is)
    (case c34 => k_is)
    (case k34 => k_is)
    (case a35 => k_is)
    (case l35 => k_is)
    (case c35 => k_is)
    (case k35 => k_is)
    (case a36 => k_is)
    (case l36 => k_is)
    (case c36 => k_is)
    (case k36 => k_is)
    (case a37 => k_is)
    (case l37 => k_is)
    (case c37 => k_is)
    (case k37 => k_is)
    (case z_len => k_is)
    (case z_isinstance => k_is)
    (case z_str => k_is)
    (case z_all => k_is)
    (case z_bool => k_is)
    (case z_int => k_is)
    (case z_tuple => k_is)
    (case z_zip => k_is)
    (case z_range => k_is)
    (case z_enumerate => k_is)
    (case z_list => k_is)
    (case g_COMING => k_is)
    (case g_FIGURES => k_is)
    (case g_FLOOR => k_is)
    (case g_GIVES => k_is)
    (case g_LAG => k_is)
    (case g_LAST_DAY => k_is)
    (case g_LETTERS => k_is)
    (case g_MEMBERS => k_is)
    (case g_MOST_COMING => k_is)
    (case g_MOST_FIGURES => k_is)
    (case g_MOST_LAG => k_is)
    (case g_MOST_LETTERS => k_is)
    (case g_MOST_PARTS => k_is)
    (case g_MOST_WANTS => k_is)
    (case g_MOST_WARES => k_is)
    (case g_NAME => k_is)
    (case g_PARTS => k_is)
    (case g_STOCK => k_is)
    (case r_g => k_is)
    (case r_l => k_is)
    (case r_n => rfl)
    (case r_1 => k_is)
    (case r_2 => k_is)
    (case r_3 => k_is)
    (case r_4 => k_is)
#print axioms PySem.Challenge.cw_needplan_k54_shown_and_read_holds
