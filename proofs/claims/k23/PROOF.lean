import PyProof.Rows.All
import Wide.All
import OpenK.AllK
import Wide.FinOn
import Lean
import PyProof.EqAt
import PyProof.EqKinds
import PyProof.TupleCall
import PySem.Challenge.RW_needplan_k23_whole_most
set_option Elab.async false
set_option linter.all false
set_option maxRecDepth 100000
namespace L2
open PySem PySem.Spec PyProof.Rows
abbrev Key := Sum Int Str
def keyIs : Key → Value → Bool
  | .inl k, v => Value.isInt k v
  | .inr x, v => Value.isStrOf x v
def keyH (w : World) : Key → Int
  | .inl k => hashInt k
  | .inr x => hashStr w x
theorem keyIs_shape : ∀ {k : Key} {v : Value}, keyIs k v = true → (∃ i t, k = Sum.inl i ∧ v = Value.int i t) ∨ (∃ x t, k = Sum.inr x ∧ v = Value.str x t)
  | .inl i, v, h => by
    obtain ⟨t, e⟩ := Value.isInt_shape (k := i) (v := v) h
    exact .inl ⟨i, t, rfl, e⟩
  | .inr x, v, h => by
    obtain ⟨t, e⟩ := Value.isStrOf_shape (x := x) (v := v) h
    exact .inr ⟨x, t, rfl, e⟩
theorem keyIs_int (i : Int) (t : Tok) : keyIs (.inl i) (.int i t) = true := by simp [keyIs, Value.isInt]
theorem keyIs_str (x : Str) (t : Tok) : keyIs (.inr x) (.str x t) = true := by simp [keyIs, Value.isStrOf]
theorem key_ll (a b : Int) : decide ((Sum.inl a : Key) = Sum.inl b) = (a == b) := by
  by_cases e : a = b
  · subst e; simp
  · have h : ¬ (Sum.inl a : Key) = Sum.inl b := fun q => e (Sum.inl.inj q)
    rw [decide_eq_false h]
    exact (beq_eq_false_iff_ne.mpr e).symm
theorem key_rr (a b : Str) : decide ((Sum.inr a : Key) = Sum.inr b) = decide (a = b) := by
  by_cases e : a = b
  · subst e; simp
  · have h : ¬ (Sum.inr a : Key) = Sum.inr b := fun q => e (Sum.inr.inj q)
    rw [decide_eq_false h, decide_eq_false e]
theorem key_lr (a : Int) (b : Str) : decide ((Sum.inl a : Key) = Sum.inr b) = false := decide_eq_false (fun q => nomatch q)
theorem key_rl (a : Str) (b : Int) : decide ((Sum.inr a : Key) = Sum.inl b) = false := decide_eq_false (fun q => nomatch q)
def mixKind (prog : Program) (w : World) : PySem.KeyKind prog w Key where
  is := keyIs
  hash := keyH w
  inj := fun v a b ha hb => by
    rcases keyIs_shape ha with ⟨i, t, rfl, rfl⟩ | ⟨x, t, rfl, rfl⟩
    · rcases keyIs_shape hb with ⟨j, u, rfl, e⟩ | ⟨y, u, rfl, e⟩
      · injection e with e1 _; rw [e1]
      · exact nomatch e
    · rcases keyIs_shape hb with ⟨j, u, rfl, e⟩ | ⟨y, u, rfl, e⟩
      · exact nomatch e
      · injection e with e1 _; rw [e1]
  byValue := fun k v h => by
    rcases keyIs_shape h with ⟨i, t, rfl, rfl⟩ | ⟨x, t, rfl, rfl⟩ <;> rfl
  pyHash := fun hv h => by
    rcases keyIs_shape hv with ⟨i, t, rfl, rfl⟩ | ⟨x, t, rfl, rfl⟩
    · exact wpAny_pyHash_int h
    · exact wpAny_pyHash_str h
  eqBool := fun hu hv h => by
    rcases keyIs_shape hu with ⟨i, t, rfl, rfl⟩ | ⟨x, t, rfl, rfl⟩
    · rcases keyIs_shape hv with ⟨j, u, rfl, rfl⟩ | ⟨y, u, rfl, rfl⟩
      · rw [key_ll] at h; exact wpAny_eqBool_int h
      · rw [key_lr] at h; exact SeqAt.EqAt.int_str i t y u _ _ _ _ h
    · rcases keyIs_shape hv with ⟨j, u, rfl, rfl⟩ | ⟨y, u, rfl, rfl⟩
      · rw [key_rl] at h; exact SeqAt.EqAt.str_int x t j u _ _ _ _ h
      · rw [key_rr] at h; exact wpAny_eqBool_str h
  «strs» := fun k x t v h => by
    rcases keyIs_shape h with ⟨i, u, rfl, e⟩ | ⟨y, u, rfl, e⟩
    · exact nomatch e
    · injection e with e1 _
      subst e1
      cases v <;> rfl
theorem mixKind_int (prog : Program) (w : World) (i : Int) (t : Tok) : (mixKind prog w).is (.inl i) (.int i t) = true := keyIs_int i t
theorem mixKind_str (prog : Program) (w : World) (x : Str) (t : Tok) : (mixKind prog w).is (.inr x) (.str x t) = true := keyIs_str x t
end L2
namespace L2
open PySem PySem.Spec PyProof.Rows
inductive V where
  | non | bl (b : Bool) | int (i : Int) | str (x : Str) | byt (b : Array UInt8) | flt (b : UInt64) | ref (a : Addr) | ty (n : String)
  deriving DecidableEq
def RelV : V → Value → Prop
  | .non, u => u = Value.none
  | .bl b, u => u = Value.bool b
  | .int i, u => ∃ t, u = Value.int i t
  | .str x, u => ∃ t, u = Value.str x t
  | .byt b, u => ∃ t, u = Value.bytes b t
  | .flt b, u => ∃ t, u = Value.float b t
  | .ref a, u => u = Value.ref a
  | .ty n, u => u = Value.type n
abbrev Vals : List V → List Value → Prop := Paired RelV
theorem Vals.length {xs : List V} {us : List Value} (r : Vals xs us) : xs.length = us.length := Paired.length r
theorem Vals.get : ∀ {xs : List V} {us : List Value} {i : Nat} {x : V}, Vals xs us → xs[i]? = some x → ∃ u, us[i]? = some u ∧ RelV x u
  | _, _, _, _, .nil, e => by simp at e
  | _, _, 0, _, .cons r _, e => by simp at e; subst e; exact ⟨_, rfl, r⟩
  | _, _, i + 1, x, .cons _ t, e => by
    obtain ⟨u, h1, h2⟩ := Vals.get (i := i) (x := x) t (by simpa using e)
    exact ⟨u, by simpa using h1, h2⟩
theorem Vals.set {x : V} {u : Value} (r : RelV x u) : ∀ {xs : List V} {us : List Value} (i : Nat), Vals xs us → Vals (xs.set i x) (us.set i u)
  | _, _, _, .nil => .nil
  | _, _, 0, .cons _ t => .cons r t
  | _, _, i + 1, .cons q t => .cons q (Vals.set r i t)
theorem Vals.append : ∀ {xs ys : List V} {us ws : List Value}, Vals xs us → Vals ys ws → Vals (xs ++ ys) (us ++ ws)
  | _, _, _, _, .nil, s => s
  | _, _, _, _, .cons r t, s => .cons r (Vals.append t s)
theorem Vals.take : ∀ {xs : List V} {us : List Value} (n : Nat), Vals xs us → Vals (xs.take n) (us.take n)
  | _, _, 0, _ => .nil
  | _, _, _ + 1, .nil => .nil
  | _, _, n + 1, .cons r t => .cons r (Vals.take n t)
theorem Vals.drop : ∀ {xs : List V} {us : List Value} (n : Nat), Vals xs us → Vals (xs.drop n) (us.drop n)
  | _, _, 0, r => r
  | _, _, _ + 1, .nil => .nil
  | _, _, n + 1, .cons _ t => Vals.drop n t
def RelO : Option V → Option Value → Prop
  | some v, some u => RelV v u
  | none, none => True
  | _, _ => False
def KV {κ : Type} : List (κ × V) → List (κ × Value) → Prop := Paired fun (p : κ × V) (q : κ × Value) => p.1 = q.1 ∧ RelV p.2 q.2
def kV : Key → V
  | .inl i => .int i
  | .inr x => .str x
inductive HO where
  | lst (xs : List V)
  | tup (xs : List V)
  | dK (kvs : List (Key × V)) | dT (kvs : List (List Key × V))
  | set (S : Int → Bool) (n : Nat)
  | ins (C dx : Addr) (fs : List (Str × V))
  | own (x : Addr)
  | xd (fs : List (Str × V))
  | met (f x : Addr)
  | rng (lo hi : Int)
  | frz (o : Obj) (u : HO)
  | tbl (ps : Array Value)
  | ext (φ : Heap → Prop)
abbrev Hp := Addr → Option HO
def upd (H : Hp) (a : Addr) (o : HO) : Hp := fun b => if b = a then some o else H b
theorem upd_same {H : Hp} {a : Addr} {o : HO} : upd H a o a = some o := by unfold upd; rw [if_pos rfl]
theorem upd_ne {H : Hp} {a b : Addr} {o : HO} (h : b ≠ a) : upd H a o b = H b := by unfold upd; rw [if_neg h]
theorem ne_of {H : Hp} {a b : Addr} {o u : HO} (h : H a = some o) (h' : H b = some u) (d : o ≠ u) : a ≠ b := by
  intro e; subst e; rw [h] at h'; exact d (Option.some.inj h')
theorem ne_of_none {H : Hp} {a b : Addr} {o : HO} (h : H a = some o) (h' : H b = none) : a ≠ b := by
  intro e; subst e; rw [h] at h'; cases h'
section
variable (P : Program) (w : World)
def ObjOk (H : Hp) (h : Heap) (a : Addr) : HO → Prop
  | .lst xs => xs.length ≤ sizeLine ∧ ∃ (its : List Value) (n : Nat), Vals xs its ∧ h.get? a = some { cls := .type "list", data := .seq its.toArray n }
  | .tup xs => xs.length ≤ sizeLine ∧ ∃ its : List Value, Vals xs its ∧ IsTup h a its.toArray
  | .dK kvs => kvs.length ≤ sizeLine ∧ (a == sysModules) = false ∧ ∃ vs, KV kvs vs ∧ h.DictOf (mixKind P w) a vs
  | .dT kvs => kvs.length ≤ sizeLine ∧ (a == sysModules) = false ∧ ∃ xs : List (List Key × Addr × Value),
      Paired (fun (p : List Key × V) (q : List Key × Addr × Value) => p.1 = q.1 ∧ H q.2.1 = some (.tup (p.1.map kV)) ∧ RelV p.2 q.2.2) kvs xs ∧
      ∃ o es ep, h.get? a = some o ∧ o.ExactDict ∧ o.data = .dict es ep ∧ es.toList = xs.map (entryOfKey (tupleKind (mixKind P w))) ∧ (xs.map (·.1)).Nodup
  | .set S n => h.SetOf (intKind P w) a S n
  | .ins C dx fs => H dx = some (.own a) ∧ fs.length ≤ 1000 ∧ dx ≠ a ∧ h.get? a = some (PySem.W.instObj C dx) ∧
      ∃ mA, h.Ns1 dx mA ∧ (∀ f, RelO (fs.lookup f) (mA f)) ∧ PySem.Within mA (fs.map (·.1))
  | .own _ => ∃ o, h.get? a = some o
  | .xd fs => ∃ mA, h.Ns1 a mA ∧ ∀ f, RelO (fs.lookup f) (mA f)
  | .rng lo hi => ∃ t u v, h.get? a = some { cls := .type "range", data := .fields #[.int lo t, .int hi u, .int 1 v] }
  | .frz o u => h.get? a = some o ∧ ObjOk H h a u
  | .tbl ps => h.get? a = some { cls := .none, data := .fields ps }
  | .met f x => h.get? a = some (PySem.W.methodObj (.ref f) (.ref x))
  | .ext φ => φ h ∧ (∃ o, h.get? a = some o) ∧ ∀ h1 h2 : Heap, φ h1 → (∀ o, h1.get? a = some o → h2.get? a = some o) → φ h2
def HOk (H : Hp) (h : Heap) : Prop := ∀ a o, H a = some o → ObjOk P w H h a o
end
section
variable {P : Program} {w : World} {H H' : Hp} {h h' : Heap} {a : Addr} {o : HO}
theorem ObjOk.lt (x : ObjOk P w H h a o) : a < h.objs.size := by
  cases o with
  | lst xs => obtain ⟨_, _, _, _, e⟩ := x; exact Heap.lt_size e
  | tup xs => obtain ⟨_, _, _, p⟩ := x; exact p.lt
  | dK kvs => obtain ⟨_, _, _, _, o, _, _, e, _⟩ := x; exact Heap.lt_size e
  | dT kvs => obtain ⟨_, _, _, _, o, _, _, e, _⟩ := x; exact Heap.lt_size e
  | set S n => obtain ⟨o, _, _, _, e, _⟩ := x; exact Heap.lt_size e
  | ins C dx fs => obtain ⟨_, _, _, e, _⟩ := x; exact Heap.lt_size e
  | own y => obtain ⟨_, e⟩ := x; exact Heap.lt_size e
  | xd fs => obtain ⟨_, ⟨_, _, _, e, _⟩, _⟩ := x; exact Heap.lt_size e
  | rng lo hi => obtain ⟨_, _, _, e⟩ := x; exact Heap.lt_size e
  | frz ob u => obtain ⟨e, _⟩ := x; exact Heap.lt_size e
  | tbl ps => exact Heap.lt_size (show h.get? a = some _ from x)
  | met f y => exact Heap.lt_size (show h.get? a = some _ from x)
  | ext φ => obtain ⟨_, ⟨_, e⟩, _⟩ := x; exact Heap.lt_size e
theorem Paired.mapP {α β : Type} {F G : α → β → Prop} : ∀ {l₁ : List α} {l₂ : List β}, Paired F l₁ l₂ → (∀ a b, F a b → G a b) → Paired G l₁ l₂
  | _, _, .nil, _ => .nil
  | _, _, .cons r t, f => .cons (f _ _ r) (Paired.mapP t f)
theorem ObjOk.stay (x : ObjOk P w H h a o) (k : ∀ b u, (b = a ∨ H b = some (.own a)) → h.get? b = some u → h'.get? b = some u)
    (ho : ∀ b, H b = some (.own a) → H' b = some (.own a)) (ht : ∀ b xs, H b = some (.tup xs) → H' b = some (.tup xs)) : ObjOk P w H' h' a o := by
  induction o with
  | lst xs => obtain ⟨z, its, n, r, e⟩ := x; exact ⟨z, its, n, r, k _ _ (.inl rfl) e⟩
  | tup xs => obtain ⟨z, its, r, ob, e, c⟩ := x; exact ⟨z, its, r, ob, k _ _ (.inl rfl) e, c⟩
  | dK kvs => obtain ⟨z, y, vs, r, ob, es, ep, e, c⟩ := x; exact ⟨z, y, vs, r, ob, es, ep, k _ _ (.inl rfl) e, c⟩
  | dT kvs =>
    obtain ⟨z, y, xs, r, ob, es, ep, e, c⟩ := x
    exact ⟨z, y, xs, Paired.mapP r fun p q z => ⟨z.1, ht _ _ z.2.1, z.2.2⟩, ob, es, ep, k _ _ (.inl rfl) e, c⟩
  | set S n => obtain ⟨ob, es, ep, t, e, c⟩ := x; exact ⟨ob, es, ep, t, k _ _ (.inl rfl) e, c⟩
  | ins C dx fs =>
    obtain ⟨d, z, ne, e, mA, ⟨od, es, ep, e2, c⟩, r⟩ := x
    exact ⟨ho _ d, z, ne, k _ _ (.inl rfl) e, mA, ⟨od, es, ep, k _ _ (.inr d) e2, c⟩, r⟩
  | own y => obtain ⟨ob, e⟩ := x; exact ⟨ob, k _ _ (.inl rfl) e⟩
  | xd fs => obtain ⟨mA, ⟨od, es, ep, e, c⟩, r⟩ := x; exact ⟨mA, ⟨od, es, ep, k _ _ (.inl rfl) e, c⟩, r⟩
  | rng lo hi => obtain ⟨t, u, v, e⟩ := x; exact ⟨t, u, v, k _ _ (.inl rfl) e⟩
  | frz ob u ih => obtain ⟨e, q⟩ := x; exact ⟨k _ _ (.inl rfl) e, ih q⟩
  | tbl ps =>
    have e : h.get? a = some { cls := .none, data := .fields ps } := x
    show h'.get? a = some { cls := .none, data := .fields ps }
    exact k a _ (.inl rfl) e
  | met f y =>
    have e : h.get? a = some (PySem.W.methodObj (.ref f) (.ref y)) := x
    show h'.get? a = some (PySem.W.methodObj (.ref f) (.ref y))
    exact k a _ (.inl rfl) e
  | ext φ => obtain ⟨p, ⟨o, e⟩, st⟩ := x; exact ⟨st _ _ p fun o q => k _ _ (.inl rfl) q, ⟨o, k _ _ (.inl rfl) e⟩, st⟩
theorem HOk.lt (x : HOk P w H h) (e : H a = some o) : a < h.objs.size := (x a o e).lt
theorem HOk.fresh (x : HOk P w H h) (e : h.objs.size ≤ a) : H a = none := by
  cases q : H a with
  | none => rfl
  | some u => exact absurd (Nat.lt_of_lt_of_le (x.lt q) e) (Nat.lt_irrefl _)
theorem HOk.kept (x : HOk P w H h) (k : ∀ b u, h.get? b = some u → h'.get? b = some u) : HOk P w H h' := fun a o e =>
  (x a o e).stay (fun b u _ q => k b u q) (fun _ q => q) fun _ _ q => q
theorem HOk.laid (x : HOk P w H h) (k : ∀ b u, h.get? b = some u → h'.get? b = some u) (hp : h.objs.size ≤ a) (new : ObjOk P w (upd H a o) h' a o) : HOk P w (upd H a o) h' := fun b u e => by
  have hn := x.fresh hp
  by_cases hb : b = a
  · subst hb; rw [upd_same] at e; cases e; exact new
  · rw [upd_ne hb] at e
    exact (x b u e).stay (fun c v _ q => k c v q) (fun c q => by rw [upd_ne (ne_of_none q hn)]; exact q) fun c xs q => by rw [upd_ne (ne_of_none q hn)]; exact q
end
def Rd (H : Hp) (a : Addr) (u : HO) : Prop := H a = some u ∨ ∃ o, H a = some (.frz o u)
theorem Rd.of {H : Hp} {a : Addr} {u : HO} (h : H a = some u) : Rd H a u := .inl h
theorem Rd.ok {P : Program} {w : World} {H : Hp} {h : Heap} {a : Addr} {u : HO} (r : Rd H a u) (x : HOk P w H h) : ObjOk P w H h a u := by
  rcases r with r | ⟨o, r⟩
  · exact x a u r
  · obtain ⟨_, q⟩ := x a _ r
    exact q
def Mut : Option HO → Prop
  | some (.lst _) => True
  | some (.dK _) => True
  | some (.dT _) => True
  | some (.set _ _) => True
  | some (.ins _ _ _) => True
  | some (.ext _) => True
  | _ => False
section
variable {P : Program} {w : World} {H : Hp} {h h' : Heap} {x e : Addr} {o' : HO}
theorem HOk.write (ok : HOk P w H h) (mu : Mut (H x)) (he : e = x ∨ H e = some (.own x)) (k : ∀ b u, b ≠ e → h.get? b = some u → h'.get? b = some u) (heo : ∃ u, h'.get? e = some u)
    (new : ObjOk P w (upd H x o') h' x o') : HOk P w (upd H x o') h' := fun b u q => by
  have nown : ∀ c y, H c = some (.own y) → c ≠ x := fun c y r z => by subst z; rw [r] at mu; exact mu
  have ntup : ∀ c xs, H c = some (.tup xs) → c ≠ x := fun c xs r z => by subst z; rw [r] at mu; exact mu
  by_cases hb : b = x
  · subst hb; rw [upd_same] at q; cases q; exact new
  · rw [upd_ne hb] at q
    by_cases hbe : b = e
    · have q' : H b = some (.own x) := by
        rcases he with z | z
        · exact absurd (hbe.trans z) hb
        · rw [hbe]; exact z
      rw [q] at q'; cases q'
      obtain ⟨v, hv⟩ := heo
      exact ⟨v, by rw [hbe]; exact hv⟩
    · refine (ok b u q).stay (fun c v hc r => k c v ?_ r) (fun c r => by rw [upd_ne (nown c b r)]; exact r) fun c xs r => by rw [upd_ne (ntup c xs r)]; exact r
      rcases hc with rfl | hc
      · exact hbe
      · rintro rfl
        rcases he with z | z
        · exact nown c b hc z
        · rw [hc] at z; cases z; exact hb rfl
end
structure Un (fs ex : List Addr) (H H' : Hp) (h h' : Heap) : Prop where
  keep : ∀ b o, h.get? b = some o → H b = none → b ∉ fs → b ∉ ex → h'.get? b = some o
  slot : ∀ b o, h.get? b = some o → H b = none → b ∈ fs → b ∉ ex → ∃ sl, h'.get? b = some { o with slots := sl }
  free : ∀ b o, h.get? b = some o → H b = none → b ∉ ex → H' b = none
  there : ∀ b o, h.get? b = some o → b ∉ ex → ∃ o', h'.get? b = some o'
  tups : ∀ b xs, H b = some (.tup xs) → H' b = some (.tup xs)
  frzs : ∀ b o u, H b = some (.frz o u) → H' b = some (.frz o u)
  tbls : ∀ b ps, H b = some (.tbl ps) → ∃ more, H' b = some (.tbl (ps ++ more))
section
variable {fs fs' ex ex' : List Addr} {H H1 H2 : Hp} {h h1 h2 h' : Heap} {a x e : Addr} {o : HO}
theorem Un.any (u : Un fs ex H H1 h h1) {b : Addr} {ob : Obj} (q : h.get? b = some ob) (n : H b = none) (hx : b ∉ ex) : ∃ sl, h1.get? b = some { ob with slots := sl } := by
  by_cases hb : b ∈ fs
  · exact u.slot b ob q n hb hx
  · exact ⟨ob.slots, u.keep b ob q n hb hx⟩
theorem Un.trans (a : Un fs ex H H1 h h1) (b : Un fs ex H1 H2 h1 h2) : Un fs ex H H2 h h2 where
  keep := fun c ob q n hc hx => b.keep c ob (a.keep c ob q n hc hx) (a.free c ob q n hx) hc hx
  slot := fun c ob q n hc hx => by
    obtain ⟨sl, e1⟩ := a.slot c ob q n hc hx
    obtain ⟨sl', e2⟩ := b.slot c _ e1 (a.free c ob q n hx) hc hx
    exact ⟨sl', e2⟩
  free := fun c ob q n hx => by
    obtain ⟨o', e1⟩ := a.there c ob q hx
    exact b.free c o' e1 (a.free c ob q n hx) hx
  there := fun c ob q hx => by
    obtain ⟨o', e1⟩ := a.there c ob q hx
    exact b.there c o' e1 hx
  tups := fun c xs q => b.tups c xs (a.tups c xs q)
  frzs := fun c ob xs q => b.frzs c ob xs (a.frzs c ob xs q)
  tbls := fun c ps q => by
    obtain ⟨m1, e1⟩ := a.tbls c ps q
    obtain ⟨m2, e2⟩ := b.tbls c _ e1
    exact ⟨m1 ++ m2, by rw [e2, Array.append_assoc]⟩
theorem Un.kept (k : ∀ b u, h.get? b = some u → h'.get? b = some u) : Un fs ex H H h h' :=
  ⟨fun b ob q _ _ _ => k b ob q, fun b ob q _ _ _ => ⟨ob.slots, k b ob q⟩, fun _ _ _ n _ => n, fun b ob q _ => ⟨ob, k b ob q⟩, fun _ _ q => q, fun _ _ _ q => q, fun _ ps q => ⟨#[], by rw [q]; simp⟩⟩
theorem Un.refl : Un fs ex H H h h := Un.kept fun _ _ q => q
theorem Un.laid (k : ∀ b u, h.get? b = some u → h'.get? b = some u) (hp : h.objs.size ≤ a) (hn : H a = none) : Un fs ex H (upd H a o) h h' where
  keep := fun b u q _ _ _ => k b u q
  slot := fun b u q _ _ _ => ⟨u.slots, k b u q⟩
  free := fun b u q n _ => by rw [upd_ne (Nat.ne_of_lt (Nat.lt_of_lt_of_le (Heap.lt_size q) hp))]; exact n
  there := fun b u q _ => ⟨u, k b u q⟩
  tups := fun b xs q => by rw [upd_ne (ne_of_none q hn)]; exact q
  frzs := fun b u xs q => by rw [upd_ne (ne_of_none q hn)]; exact q
  tbls := fun b ps q => ⟨#[], by rw [upd_ne (ne_of_none q hn), q]; simp⟩
theorem Un.write (mu : Mut (H x)) (he : e = x ∨ H e = some (.own x)) (k : ∀ b u, b ≠ e → h.get? b = some u → h'.get? b = some u) (heo : ∃ u, h'.get? e = some u) : Un fs ex H (upd H x o) h h' := by
  have hx : ∀ b, H b = none → b ≠ x := fun b n z => by subst z; rw [n] at mu; exact mu
  have hb : ∀ b, H b = none → b ≠ e := fun b n z => by
    subst z
    rcases he with r | r
    · exact hx b n r
    · rw [n] at r; cases r
  have hm : ∀ b u, H b = some u → ¬ Mut (some u) → b ≠ x := fun b u q nm z => by subst z; rw [q] at mu; exact nm mu
  refine ⟨fun b u q n _ _ => k b u (hb b n) q, fun b u q n _ _ => ⟨u.slots, k b u (hb b n) q⟩, fun b u q n _ => by rw [upd_ne (hx b n)]; exact n, fun b u q _ => ?_,
    fun b xs q => by rw [upd_ne (hm b _ q fun z => z)]; exact q, fun b u xs q => by rw [upd_ne (hm b _ q fun z => z)]; exact q, fun b ps q => ⟨#[], by rw [upd_ne (hm b _ q fun z => z), q]; simp⟩⟩
  by_cases hbe : b = e
  · subst hbe; exact heo
  · exact ⟨u, k b u hbe q⟩
theorem Un.mono (u : Un fs ex H H1 h h1) (hs : ∀ b ∈ fs, b ∈ fs') (hx : ∀ b ∈ ex, b ∈ ex') : Un fs' ex' H H1 h h1 :=
  ⟨fun b ob q n hb he => u.keep b ob q n (fun z => hb (hs b z)) fun z => he (hx b z), fun _ _ q n _ he => u.any q n fun z => he (hx _ z), fun b ob q n he => u.free b ob q n fun z => he (hx b z), fun b ob q he => u.there b ob q fun z => he (hx b z), u.tups, u.frzs, u.tbls⟩
end
def trk (h : Heap) (H : Hp) : List Addr := (List.range h.objs.size).filter fun a => (H a).isSome
def hidT (h : Heap) (H : Hp) : Heap := PySem.W.hideAll h (trk h H)
theorem hidT_size (h : Heap) (H : Hp) : (hidT h H).objs.size = h.objs.size := PySem.W.hideAll_size _ _
theorem hidT_get {h : Heap} {H : Hp} {b : Addr} {o : Obj} (e : h.get? b = some o) (n : H b = none) : (hidT h H).get? b = some o :=
  PySem.W.hideAll_get _ e fun hm => by
    have q : (H b).isSome = true := (List.mem_filter.mp hm).2
    rw [n] at q; simp at q
theorem of_hidT {h : Heap} {H : Hp} {b : Addr} {o : Obj} (e : (hidT h H).get? b = some o) : h.get? b = some o ∧ H b = none := by
  have e' : h.get? b = some o := PySem.W.of_hideAll (trk h H) e
  refine ⟨e', ?_⟩
  cases q : H b with
  | none => rfl
  | some x =>
    have hm : b ∈ trk h H := List.mem_filter.mpr ⟨List.mem_range.mpr (Heap.lt_size e'), by simp [q]⟩
    have z : (hidT h H).get? b = none := PySem.W.hideAll_none (trk h H) hm
    rw [z] at e; cases e
def allNews (g h : Heap) (L : Addr) : List (Addr × Obj) := (List.range h.objs.size).filterMap fun a => if a = L ∨ (g.get? a).isSome = true then none else (h.get? a).map fun o => (a, o)
theorem mem_allNews {g h : Heap} {L a : Addr} {o : Obj} (h1 : a ≠ L) (h2 : g.get? a = none) (h3 : h.get? a = some o) : (a, o) ∈ allNews g h L :=
  List.mem_filterMap.mpr ⟨a, List.mem_range.mpr (Heap.lt_size h3), by simp [h1, h2, h3]⟩
theorem of_mem_allNews {g h : Heap} {L : Addr} {p : Addr × Obj} (hp : p ∈ allNews g h L) : p.1 ≠ L ∧ g.get? p.1 = none ∧ h.get? p.1 = some p.2 := by
  obtain ⟨b, _, e⟩ := List.mem_filterMap.mp hp
  split at e
  · cases e
  · rename_i hn
    cases q : h.get? b with
    | none => rw [q] at e; simp at e
    | some u =>
      rw [q] at e
      simp only [Option.map_some, Option.some.injEq] at e
      subst e
      refine ⟨fun z => hn (.inl z), ?_, q⟩
      show g.get? b = none
      cases r : g.get? b with
      | none => rfl
      | some v => exact (hn (.inr (by simp [r]))).elim
def rest (g h : Heap) (L d : Addr) : List (Addr × Obj) := (allNews g h L).filter fun p => decide (p.1 ≠ d)
theorem news_all {g h : Heap} {L : Addr} : News g L h (allNews g h L) := fun p hp => let ⟨a, b, c⟩ := of_mem_allNews hp; ⟨c, a, b⟩
end L2
namespace L2
open PySem PySem.Spec PyProof.Rows
structure Mod (K : PySem.W.Frag) (mg : Str → Option Value) (base : Heap) : Prop where
  kin : K.In base
  glob : base.Ns mainGlobals mg
  blt : ∃ mb, base.Ns builtinsNs mb ∧ ∀ x : Str, x ≠ "__name__" → mb x = bootBuiltins x
  nolimit : base.NoLimit
structure Cx where
  prog : Program
  w : World
  K : PySem.W.Frag
  mg : Str → Option Value
  base : Heap
  A : Around
  N : List Str
  s₀ : Shared
  H₀ : Hp
  env : Env
  outer : List Env
  stack : List Env
  ex : List Addr
  fn : Str → Bool
  calm : Bool
  pn : List (Addr × Obj)
  xe : Value → Shared → Prop
def frs (l : List Env) : List Addr := l.filterMap (·.frame)
abbrev Cx.fs (X : Cx) : List Addr := frs X.outer
def Vis (sc : Scope) (x : Str) : Prop := sc.names.lookup x = some .local ∨ sc.names.lookup x = some .cell ∨ sc.names.lookup x = some .free
def Loc (sc : Scope) (x : Str) : Prop := sc.names.lookup x = some .local ∨ sc.names.lookup x = some .cell
def Look (env : Env) (h : Heap) (m : Str → Option Value) (x : Str) (u : Value) : Prop :=
  (env.kindOf x = some .local ∧ m x = some u) ∨ ((env.kindOf x = some .cell ∨ env.kindOf x = some .free) ∧ ∃ c, env.cells.lookup x = some c ∧ h.IsCell c (some u))
structure Cx.Ok (X : Cx) : Prop where
  mod : Mod X.K X.mg X.base
  kind : X.env.scope.kind = .function
  glob : X.env.globals = mainGlobals
  blt : X.env.builtins = builtinsNs
  above : X.s₀.heap.objs.size ≤ X.env.locals
  inj : ∀ x y c, X.env.cells.lookup x = some c → X.env.cells.lookup y = some c → x = y
  has : ∀ x, (X.env.kindOf x = some .cell ∨ X.env.kindOf x = some .free) → ∃ c, X.env.cells.lookup x = some c
  cab : ∀ x c, X.fn x = true → X.env.cells.lookup x = some c → X.s₀.heap.objs.size ≤ c
  hd : X.calm = true → X.A.handled = none
  frames : X.A.frames = some X.stack
  stk : X.stack = X.outer ∨ (X.stack = X.env :: X.outer ∧ X.env.frame = some X.env.locals)
  exf : ∀ b ∈ X.ex, b ≠ X.env.locals ∧ ∀ x c, X.env.cells.lookup x = some c → c ≠ b
  bs : ∀ b o, X.base.get? b = some o → X.s₀.heap.get? b = some o ∧ X.H₀ b = none
  bsz : X.base.objs.size ≤ X.s₀.heap.objs.size
  noex : ∀ b o, X.base.get? b = some o → b ∉ X.ex
  exfs : ∀ b ∈ X.ex, b ∉ X.fs
  funs : X.s₀.heap.FunFrames X.base X.outer
  frf : ∀ b ∈ X.fs, X.H₀ b = none
structure Inv (X : Cx) (pins : List (Addr × Obj)) (σ : List (Option V)) (H : Hp) (s : Shared) : Prop where
  ok : X.Ok
  os : s.os = X.s₀.os
  bare : AllBare s.gens
  base : Un X.fs X.ex X.H₀ H X.s₀.heap s.heap
  loc : ∃ m, s.heap.Ns X.env.locals m ∧ ∀ (i : Nat) (x : Str) (v : V), X.N[i]? = some x → σ[i]? = some (some v) → Vis X.env.scope x → ∃ u, RelV v u ∧ Look X.env s.heap m x u
  cell : ∀ x c, X.env.cells.lookup x = some c → ∃ v, s.heap.IsCell c v
  free : H X.env.locals = none
  freeC : ∀ x c, X.env.cells.lookup x = some c → H c = none
  pin : ∀ p ∈ X.pn ++ pins, s.heap.get? p.1 = some p.2 ∧ H p.1 = none ∧ p.1 ≠ X.env.locals ∧ p.1 ∉ X.fs ∧ ∀ v, p.2.data ≠ .cell v
  hok : HOk X.prog X.w H s.heap
  len : σ.length = X.N.length
section
variable {X : Cx} {pins : List (Addr × Obj)} {σ : List (Option V)} {H H' : Hp} {s : Shared} {h' : Heap}
theorem Cx.Ok.nofr (ok : X.Ok) {b : Addr} {o : Obj} (e : X.base.get? b = some o) : b ∉ X.fs := fun hb => by
  have := (ok.funs.mem hb).1
  rw [e] at this; cases this
theorem Inv.bs (I : Inv X pins σ H s) : ∀ b o, X.base.get? b = some o → s.heap.get? b = some o ∧ H b = none := fun b o e =>
  ⟨I.base.keep b o (I.ok.bs b o e).1 (I.ok.bs b o e).2 (I.ok.nofr e) (I.ok.noex b o e), I.base.free b o (I.ok.bs b o e).1 (I.ok.bs b o e).2 (I.ok.noex b o e)⟩
theorem Inv.bk (I : Inv X pins σ H s) : ∀ b o, X.base.get? b = some o → s.heap.get? b = some o := fun b o e => (I.bs b o e).1
theorem Inv.mod (I : Inv X pins σ H s) : Mod X.K X.mg X.base := I.ok.mod
theorem Inv.kIn (I : Inv X pins σ H s) : X.K.In s.heap := I.ok.mod.kin.keeps I.bk
theorem Inv.nolimit (I : Inv X pins σ H s) : s.heap.NoLimit := I.ok.mod.nolimit.keeps I.bk
theorem Inv.fr (I : Inv X pins σ H s) : ∃ m, Fr X.base X.env.locals s.heap m :=
  let ⟨m, hn, _⟩ := I.loc
  ⟨m, hn, I.bk, Nat.le_trans I.ok.bsz I.ok.above⟩
theorem Inv.lt (I : Inv X pins σ H s) : X.env.locals < s.heap.objs.size := let ⟨_, hn, _⟩ := I.loc; hn.lt
theorem Inv.sz (I : Inv X pins σ H s) : X.s₀.heap.objs.size ≤ s.heap.objs.size := Nat.le_trans I.ok.above (Nat.le_of_lt I.lt)
theorem Inv.nofs (I : Inv X pins σ H s) {a : Addr} (h : s.heap.objs.size ≤ a) : a ∉ X.fs := fun hb => by
  obtain ⟨_, o, ho, _⟩ := I.ok.funs.mem hb
  exact absurd (Nat.lt_of_lt_of_le (Heap.lt_size ho) (Nat.le_trans I.sz h)) (Nat.lt_irrefl _)
theorem Inv.cne (I : Inv X pins σ H s) : ∀ x c, X.env.cells.lookup x = some c → c ≠ X.env.locals := fun x c e z => by
  obtain ⟨v, o, ho, hd⟩ := I.cell x c e
  obtain ⟨m, ⟨o', es, ep, ho', hd', _⟩, _⟩ := I.loc
  rw [z, ho'] at ho; cases ho; rw [hd'] at hd; cases hd
theorem Inv.funs (I : Inv X pins σ H s) : s.heap.FunFrames X.base X.outer := by
  have all : ∀ (l : List Env), (∀ b ∈ frs l, b ∈ X.fs) → X.s₀.heap.FunFrames X.base l → s.heap.FunFrames X.base l := by
    intro l
    induction l with
    | nil => intro _ _; trivial
    | cons env r ih =>
      intro hs hl
      obtain ⟨hk, ⟨L, o, hf, hn, ho, hd⟩, hr⟩ := hl
      have hL : L ∈ X.fs := hs L (by unfold frs; rw [List.filterMap_cons, hf]; exact List.mem_cons_self)
      obtain ⟨sl, e⟩ := I.base.slot L o ho (I.ok.frf L hL) hL fun z => I.ok.exfs L z hL
      exact ⟨hk, ⟨L, _, hf, hn, e, hd⟩, ih (fun b hb => hs b (by unfold frs; rw [List.filterMap_cons, hf]; exact List.mem_cons_of_mem _ hb)) hr⟩
  exact all X.outer (fun _ hb => hb) I.ok.funs
theorem Inv.stack (I : Inv X pins σ H s) : s.heap.FunFrames X.base X.stack := by
  rcases I.ok.stk with e | ⟨e, hf⟩
  · rw [e]; exact I.funs
  · rw [e]
    obtain ⟨m, hn, _⟩ := I.loc
    refine .cons (by rw [I.ok.kind]; decide) hf hn ?_ I.funs
    exact Heap.get?_none_of_le (Nat.le_trans I.ok.bsz I.ok.above)
theorem Inv.stkSub (I : Inv X pins σ H s) : ∀ b ∈ frs X.stack, b ∈ X.env.locals :: X.fs := fun b hb => by
  rcases I.ok.stk with e | ⟨e, hf⟩
  · rw [e] at hb; exact List.mem_cons_of_mem _ hb
  · rw [e] at hb
    unfold frs at hb
    rw [List.filterMap_cons, hf] at hb
    exact hb
theorem Inv.stkFree (I : Inv X pins σ H s) : ∀ b ∈ frs X.stack, H b = none := fun b hb => by
  rcases List.mem_cons.mp (I.stkSub b hb) with e | hb
  · rw [e]; exact I.free
  · obtain ⟨_, o, ho, _⟩ := I.ok.funs.mem hb
    exact I.base.free b o ho (I.ok.frf b hb) fun z => I.ok.exfs b z hb
theorem Inv.step {g' : Array GenState} {t' : Nat} {d' : Drawn} {ch : List Addr} (I : Inv X pins σ H s)
    (hch : ∀ b ∈ ch, (b ∈ X.ex ∨ X.s₀.heap.objs.size ≤ b) ∧ b ≠ X.env.locals ∧ (∀ x c, X.env.cells.lookup x = some c → c ≠ b) ∧ ∀ p ∈ X.pn ++ pins, p.1 ≠ b)
    (keep : ∀ b o, b ≠ X.env.locals → b ∉ X.fs → b ∉ ch → s.heap.get? b = some o → H b = none → h'.get? b = some o)
    (slot : ∀ b o, b ≠ X.env.locals → b ∈ X.fs → b ∉ ch → s.heap.get? b = some o → H b = none → ∃ sl, h'.get? b = some { o with slots := sl }) (free : ∀ b o, b ∉ ch → s.heap.get? b = some o → H b = none → H' b = none)
    (there : ∀ b o, b ∉ ch → s.heap.get? b = some o → ∃ o', h'.get? b = some o')
    (tups : ∀ b xs, H b = some (.tup xs) → H' b = some (.tup xs)) (frzs : ∀ b o u, H b = some (.frz o u) → H' b = some (.frz o u)) (tbls : ∀ b ps, H b = some (.tbl ps) → ∃ more, H' b = some (.tbl (ps ++ more)))
    (ns : ∀ m, s.heap.Ns X.env.locals m → h'.Ns X.env.locals m) (hok : HOk X.prog X.w H' h') (hg : AllBare g') :
    Inv X pins σ H' { s with heap := h', gens := g', drawn := d', toks := t' } := by
  have neL : ∀ b o, X.s₀.heap.get? b = some o → b ≠ X.env.locals := fun b o e => Nat.ne_of_lt (Nat.lt_of_lt_of_le (Heap.lt_size e) I.ok.above)
  have neC : ∀ b o, X.s₀.heap.get? b = some o → b ∉ X.ex → b ∉ ch := fun b o e hx hb => by
    rcases (hch b hb).1 with z | z
    · exact hx z
    · exact absurd (Nat.lt_of_lt_of_le (Heap.lt_size e) z) (Nat.lt_irrefl _)
  have cellK : ∀ x c, X.env.cells.lookup x = some c → ∀ v, s.heap.IsCell c v → h'.IsCell c v := fun x c e v ⟨o, ho, hd⟩ => by
    have nch : c ∉ ch := fun z => (hch c z).2.2.1 x c e rfl
    by_cases hc : c ∈ X.fs
    · obtain ⟨sl, q⟩ := slot c o (I.cne x c e) hc nch ho (I.freeC x c e)
      exact ⟨_, q, hd⟩
    · exact ⟨o, keep c o (I.cne x c e) hc nch ho (I.freeC x c e), hd⟩
  refine ⟨I.ok, I.os, hg, ⟨fun b o e n hb hx => ?_, fun b o e n hb hx => ?_, fun b o e n hx => ?_, fun b o e hx => ?_, fun b xs e => tups b xs (I.base.tups b xs e), fun b o xs e => frzs b o xs (I.base.frzs b o xs e), fun b ps e => ?_⟩, ?_, fun x c e => ?_, ?_, fun x c e => ?_, fun p hp => ?_, hok, I.len⟩
  · exact keep b o (neL b o e) hb (neC b o e hx) (I.base.keep b o e n hb hx) (I.base.free b o e n hx)
  · obtain ⟨sl, e1⟩ := I.base.slot b o e n hb hx
    obtain ⟨sl', e2⟩ := slot b _ (neL b o e) hb (neC b o e hx) e1 (I.base.free b o e n hx)
    exact ⟨sl', e2⟩
  · obtain ⟨o', e1⟩ := I.base.there b o e hx
    exact free b o' (neC b o e hx) e1 (I.base.free b o e n hx)
  · obtain ⟨o', e1⟩ := I.base.there b o e hx
    exact there b o' (neC b o e hx) e1
  · obtain ⟨m1, e1⟩ := I.base.tbls b ps e
    obtain ⟨m2, e2⟩ := tbls b _ e1
    exact ⟨m1 ++ m2, by rw [e2, Array.append_assoc]⟩
  · obtain ⟨m, hn, hl⟩ := I.loc
    refine ⟨m, ns m hn, fun i x v e1 e2 e3 => ?_⟩
    obtain ⟨u, r, l⟩ := hl i x v e1 e2 e3
    refine ⟨u, r, ?_⟩
    rcases l with l | ⟨k, c, e, z⟩
    · exact .inl l
    · exact .inr ⟨k, c, e, cellK x c e _ z⟩
  · obtain ⟨v, z⟩ := I.cell x c e
    exact ⟨v, cellK x c e v z⟩
  · obtain ⟨m, ⟨o, _, _, ho, _⟩, _⟩ := I.loc
    exact free _ o (fun z => (hch _ z).2.1 rfl) ho I.free
  · obtain ⟨v, o, ho, hd⟩ := I.cell x c e
    exact free c o (fun z => (hch c z).2.2.1 x c e rfl) ho (I.freeC x c e)
  · obtain ⟨e, n, ne, nf, d⟩ := I.pin p hp
    have nch : p.1 ∉ ch := fun z => (hch p.1 z).2.2.2 p hp rfl
    exact ⟨keep p.1 p.2 ne nf nch e n, free p.1 p.2 nch e n, ne, nf, d⟩
theorem Inv.un {t' : Nat} (I : Inv X pins σ H s) (u : Un X.fs [] H H' s.heap h') (hok : HOk X.prog X.w H' h') : Inv X pins σ H' { s with heap := h', toks := t' } := by
  obtain ⟨m, ⟨o, es, ep, ho, r⟩, _⟩ := id I.loc
  obtain ⟨sl, hL⟩ := u.any ho I.free (by simp)
  exact I.step (g' := s.gens) (d' := s.drawn) (ch := []) (fun _ z => nomatch z) (fun b o _ hb _ e n => u.keep b o e n hb (by simp)) (fun b o _ hb _ e n => u.slot b o e n hb (by simp)) (fun b o _ e n => u.free b o e n (by simp)) (fun b o _ e => u.there b o e (by simp)) u.tups u.frzs u.tbls (fun m' hm => by
    obtain ⟨o', es', ep', ho', r'⟩ := hm
    rw [ho] at ho'; cases ho'
    exact ⟨_, es', ep', hL, r'⟩) hok I.bare
theorem Inv.call {g' : Array GenState} {t' : Nat} {d' : Drawn} {ch : List Addr} (I : Inv X pins σ H s) (u : Un (frs X.stack) ch H H' s.heap h') (hok : HOk X.prog X.w H' h') (hg : AllBare g')
    (hch : ∀ b ∈ ch, (b ∈ X.ex ∨ X.s₀.heap.objs.size ≤ b) ∧ b ≠ X.env.locals ∧ (∀ x c, X.env.cells.lookup x = some c → c ≠ b) ∧ ∀ p ∈ X.pn ++ pins, p.1 ≠ b) :
    Inv X pins σ H' { s with heap := h', gens := g', drawn := d', toks := t' } := by
  obtain ⟨m, ⟨o, es, ep, ho, r⟩, _⟩ := id I.loc
  obtain ⟨sl, hL⟩ := u.any ho I.free fun z => (hch _ z).2.1 rfl
  exact I.step (ch := ch) hch (fun b o hL hb hc e n => u.keep b o e n (fun z => (List.mem_cons.mp (I.stkSub b z)).elim hL hb) hc) (fun b o _ _ hc e n => u.any e n hc) (fun b o hc e n => u.free b o e n hc) (fun b o hc e => u.there b o e hc) u.tups u.frzs u.tbls (fun m' hm => by
    obtain ⟨o', es', ep', ho', r'⟩ := hm
    rw [ho] at ho'; cases ho'
    exact ⟨_, es', ep', hL, r'⟩) hok hg
theorem Inv.turned {t' : Nat} {it : Addr} (I : Inv X pins σ H s) (k : ∀ b o, b ≠ it → s.heap.get? b = some o → h'.get? b = some o) (hn : H it = none) (hL : it ≠ X.env.locals)
    (h1 : it ∈ X.ex ∨ X.s₀.heap.objs.size ≤ it) (h2 : ∀ x c, X.env.cells.lookup x = some c → c ≠ it) (h3 : ∀ p ∈ X.pn ++ pins, p.1 ≠ it) : Inv X pins σ H { s with heap := h', toks := t' } := by
  have nit : ∀ b u, H b = some u → b ≠ it := fun b u e z => by rw [z, hn] at e; cases e
  refine I.step (g' := s.gens) (d' := s.drawn) (ch := [it]) (fun b hb => ?_) (fun b o _ _ hc e _ => k b o (fun z => hc (by simp [z])) e) (fun b o _ _ hc e _ => ⟨o.slots, k b o (fun z => hc (by simp [z])) e⟩) (fun _ _ _ _ n => n)
    (fun b o hc e => ⟨o, k b o (fun z => hc (by simp [z])) e⟩) (fun _ _ e => e) (fun _ _ _ e => e) (fun b ps e => ⟨#[], by rw [e]; simp⟩) (fun m hm => ?_) (fun b u e => ?_) I.bare
  · have e : b = it := by simpa using hb
    subst e
    exact ⟨h1, hL, h2, h3⟩
  · obtain ⟨o, es, ep, ho, r⟩ := hm
    exact ⟨o, es, ep, k _ o (Ne.symm hL) ho, r⟩
  · refine (I.hok b u e).stay (fun c v hc q => k c v ?_ q) (fun _ q => q) fun _ _ q => q
    rcases hc with z | z
    · rw [z]; exact nit b u e
    · exact nit c _ z
theorem Inv.tok (I : Inv X pins σ H s) (t : Nat) : Inv X pins σ H { s with toks := t } := I.un (h' := s.heap) (t' := t) Un.refl I.hok
theorem Inv.kept {t' : Nat} (I : Inv X pins σ H s) (k : ∀ b u, s.heap.get? b = some u → h'.get? b = some u) : Inv X pins σ H { s with heap := h', toks := t' } := I.un (Un.kept k) (I.hok.kept k)
theorem Inv.laid {a : Addr} {o : HO} {t' : Nat} (I : Inv X pins σ H s) (k : ∀ b u, s.heap.get? b = some u → h'.get? b = some u) (hp : s.heap.objs.size ≤ a) (new : ObjOk X.prog X.w (upd H a o) h' a o) :
    Inv X pins σ (upd H a o) { s with heap := h', toks := t' } := I.un (Un.laid k hp (I.hok.fresh hp)) (I.hok.laid k hp new)
theorem Inv.write {x e : Addr} {o : HO} {t' : Nat} (I : Inv X pins σ H s) (mu : Mut (H x)) (he : e = x ∨ H e = some (.own x)) (k : ∀ b u, b ≠ e → s.heap.get? b = some u → h'.get? b = some u) (heo : ∃ u, h'.get? e = some u)
    (new : ObjOk X.prog X.w (upd H x o) h' x o) : Inv X pins σ (upd H x o) { s with heap := h', toks := t' } := I.un (Un.write mu he k heo) (I.hok.write mu he k heo new)
theorem Inv.weak {σ' : List (Option V)} (I : Inv X pins σ H s) (hl : σ'.length = σ.length) (w : ∀ (i : Nat) v, σ'[i]? = some (some v) → σ[i]? = some (some v)) : Inv X pins σ' H s :=
  ⟨I.ok, I.os, I.bare, I.base, let ⟨m, hn, hl'⟩ := I.loc; ⟨m, hn, fun i x v e1 e2 e3 => hl' i x v e1 (w i v e2) e3⟩, I.cell, I.free, I.freeC, I.pin, I.hok, hl.trans I.len⟩
theorem Inv.pins_of {pins' : List (Addr × Obj)} (I : Inv X pins σ H s) (h : ∀ p ∈ pins', s.heap.get? p.1 = some p.2 ∧ H p.1 = none ∧ p.1 ≠ X.env.locals ∧ p.1 ∉ X.fs ∧ ∀ v, p.2.data ≠ .cell v) : Inv X pins' σ H s :=
  ⟨I.ok, I.os, I.bare, I.base, I.loc, I.cell, I.free, I.freeC, fun p hp => (List.mem_append.mp hp).elim (fun z => I.pin p (List.mem_append_left _ z)) (h p), I.hok, I.len⟩
theorem nodup_ix {N : List Str} (hN : N.Nodup) {i j : Nat} {x : Str} (a : N[i]? = some x) (b : N[j]? = some x) : i = j := by
  obtain ⟨h1, e1⟩ := List.getElem?_eq_some_iff.mp a
  obtain ⟨h2, e2⟩ := List.getElem?_eq_some_iff.mp b
  exact (List.getElem_inj hN).mp (e1.trans e2.symm)
theorem store_ok2 {M : Model} {A : Around} {E : Value → Shared → Prop} {i : Nat} {x : Str} {v : V} {u : Value} {Q : Unit → Shared → Prop} (I : Inv X pins σ H s) (hN : X.N.Nodup) (hi : X.N[i]? = some x) (hx : Loc X.env.scope x) (r : RelV v u)
    (h : ∀ s', Inv X pins (σ.set i (some v)) H s' → (∃ a, Heap.SameBut a s.heap s'.heap ∧ (a = X.env.locals ∨ X.env.cells.lookup x = some a)) → Q () s') (hf : X.fn x = true ∨ X.env.scope.names.lookup x = some .local := by first | exact .inl rfl | exact .inr rfl | assumption) : wpAny M A (storeName X.env x u) Q E s := by
  obtain ⟨m, hn, hl⟩ := id I.loc
  have hcls : (X.env.scope.kind == .class || (X.env.scope.kind == .module && X.env.locals != X.env.globals)) = false := by rw [I.ok.kind]; rfl
  have hiσ : i < σ.length := by rw [I.len]; exact (List.getElem?_eq_some_iff.mp hi).1
  have cne := I.cne
  have tracked : ∀ {a : Addr} {h' : Heap}, (∃ o, s.heap.get? a = some o ∧ H a = none) → Heap.SameBut a s.heap h' → HOk X.prog X.w H h' := fun {a h'} ha hs b ob e => by
    obtain ⟨_, _, hfree⟩ := ha
    refine (I.hok b ob e).stay (fun c w' hc q => (hs.2 c ?_).trans q) (fun _ q => q) fun _ _ q => q
    rintro rfl
    rcases hc with rfl | hc
    · rw [hfree] at e; cases e
    · rw [hfree] at hc; cases hc
  rcases hx with hk | hk
  · refine wpAny_storeName_local hk hn (fun h' hn' hs => ?_) hcls
    obtain ⟨oL, _, _, hoL, _⟩ := id hn
    refine h _ ⟨I.ok, I.os, I.bare, ⟨fun b o e n hb hx => ?_, fun b o e n hb hx => ?_, I.base.free, fun b o e hx => ?_, I.base.tups, I.base.frzs, I.base.tbls⟩, ⟨_, hn', fun j y v' e1 e2 e3 => ?_⟩, fun y c e => ?_, I.free, I.freeC, fun p hp => ?_, tracked ⟨oL, hoL, I.free⟩ hs, by simpa using I.len⟩ ⟨_, hs, .inl rfl⟩
    · exact (hs.2 b (Nat.ne_of_lt (Nat.lt_of_lt_of_le (Heap.lt_size e) I.ok.above))).trans (I.base.keep b o e n hb hx)
    · obtain ⟨sl, e1⟩ := I.base.slot b o e n hb hx
      exact ⟨sl, (hs.2 b (Nat.ne_of_lt (Nat.lt_of_lt_of_le (Heap.lt_size e) I.ok.above))).trans e1⟩
    · obtain ⟨o', e1⟩ := I.base.there b o e hx
      exact ⟨o', (hs.2 b (Nat.ne_of_lt (Nat.lt_of_lt_of_le (Heap.lt_size e) I.ok.above))).trans e1⟩
    · by_cases hj : j = i
      · subst hj
        rw [hi] at e1; cases e1
        rw [List.getElem?_set_self hiσ] at e2
        cases e2
        exact ⟨u, r, .inl ⟨hk, by simp⟩⟩
      · rw [List.getElem?_set_ne (Ne.symm hj)] at e2
        obtain ⟨u', r', q⟩ := hl j y v' e1 e2 e3
        refine ⟨u', r', ?_⟩
        rcases q with ⟨k, e⟩ | ⟨k, c, e, z⟩
        · refine .inl ⟨k, ?_⟩
          have : y ≠ x := fun e => hj (nodup_ix hN e1 (e ▸ hi))
          simp [this, e]
        · exact .inr ⟨k, c, e, z.sameBut hs (cne y c e)⟩
    · obtain ⟨w', z⟩ := I.cell y c e
      exact ⟨w', z.sameBut hs (cne y c e)⟩
    · obtain ⟨e, n, ne, nf, d⟩ := I.pin p hp
      exact ⟨(hs.2 p.1 ne).trans e, n, ne, nf, d⟩
  · have hfn : X.fn x = true := by
      rcases hf with z | z
      · exact z
      · rw [z] at hk; cases hk
    obtain ⟨c, hc⟩ := I.ok.has x (.inl hk)
    obtain ⟨w', z⟩ := I.cell x c hc
    refine wpAny_storeName_cell I.ok.kind hk hc z (fun h' hc' hs => ?_)
    obtain ⟨oc, hoc, hocd⟩ := id z
    refine h { s with heap := h' } ⟨I.ok, I.os, I.bare, ⟨fun b o e n hb hx => ?_, fun b o e n hb hx => ?_, I.base.free, fun b o e hx => ?_, I.base.tups, I.base.frzs, I.base.tbls⟩, ⟨m, hn.sameBut hs (Ne.symm (cne x c hc)), fun j y v' e1 e2 e3 => ?_⟩, fun y c' e => ?_, I.free, I.freeC, fun p hp => ?_, tracked ⟨oc, hoc, I.freeC x c hc⟩ hs, by simpa using I.len⟩ ⟨c, hs, .inr hc⟩
    · exact (hs.2 b (Nat.ne_of_lt (Nat.lt_of_lt_of_le (Heap.lt_size e) (I.ok.cab x c hfn hc)))).trans (I.base.keep b o e n hb hx)
    · obtain ⟨sl, e1⟩ := I.base.slot b o e n hb hx
      exact ⟨sl, (hs.2 b (Nat.ne_of_lt (Nat.lt_of_lt_of_le (Heap.lt_size e) (I.ok.cab x c hfn hc)))).trans e1⟩
    · obtain ⟨o', e1⟩ := I.base.there b o e hx
      exact ⟨o', (hs.2 b (Nat.ne_of_lt (Nat.lt_of_lt_of_le (Heap.lt_size e) (I.ok.cab x c hfn hc)))).trans e1⟩
    · by_cases hj : j = i
      · subst hj
        rw [hi] at e1; cases e1
        rw [List.getElem?_set_self hiσ] at e2
        cases e2
        exact ⟨u, r, .inr ⟨.inl hk, c, hc, hc'⟩⟩
      · rw [List.getElem?_set_ne (Ne.symm hj)] at e2
        obtain ⟨u', r', q⟩ := hl j y v' e1 e2 e3
        refine ⟨u', r', ?_⟩
        rcases q with q | ⟨k, c', e, z'⟩
        · exact .inl q
        · refine .inr ⟨k, c', e, z'.sameBut hs ?_⟩
          rintro rfl
          exact hj (nodup_ix hN e1 (I.ok.inj _ _ _ e hc ▸ hi))
    · by_cases hcc : c' = c
      · subst hcc; exact ⟨_, hc'⟩
      · obtain ⟨w2, z2⟩ := I.cell y c' e
        exact ⟨w2, z2.sameBut hs hcc⟩
    · obtain ⟨e, n, ne, nf, d⟩ := I.pin p hp
      refine ⟨(hs.2 p.1 ?_).trans e, n, ne, nf, d⟩
      intro q
      rw [q, hoc] at e
      have q' : oc = p.2 := Option.some.inj e
      exact d w' (by rw [← q']; exact hocd)
theorem store_ok {M : Model} {A : Around} {E : Value → Shared → Prop} {i : Nat} {x : Str} {v : V} {u : Value} {Q : Unit → Shared → Prop} (I : Inv X pins σ H s) (hN : X.N.Nodup) (hi : X.N[i]? = some x) (hx : Loc X.env.scope x) (r : RelV v u)
    (h : ∀ s', Inv X pins (σ.set i (some v)) H s' → Q () s') (hf : X.fn x = true ∨ X.env.scope.names.lookup x = some .local := by first | exact .inl rfl | exact .inr rfl | assumption) : wpAny M A (storeName X.env x u) Q E s :=
  store_ok2 I hN hi hx r (fun s' I' _ => h s' I') hf
theorem Inv.call' {s' : Shared} {ch : List Addr} (I : Inv X pins σ H s) (ho : s'.os = s.os) (u : Un (frs X.stack) ch H H' s.heap s'.heap) (hok : HOk X.prog X.w H' s'.heap) (hg : AllBare s'.gens)
    (hch : ∀ b ∈ ch, (b ∈ X.ex ∨ X.s₀.heap.objs.size ≤ b) ∧ b ≠ X.env.locals ∧ (∀ x c, X.env.cells.lookup x = some c → c ≠ b) ∧ ∀ p ∈ X.pn ++ pins, p.1 ≠ b) : Inv X pins σ H' s' := by
  obtain ⟨h', g', d', t', o'⟩ := s'
  have e : o' = s.os := ho
  subst e
  exact I.call (g' := g') (t' := t') (d' := d') u hok hg hch
end
abbrev XK := Value → Option Addr → Hp → Prop
abbrev St := List (Option V)
abbrev VK := V → Hp → Prop
abbrev TE := St → Hp → VK → Prop
abbrev TT := St → Hp → (Bool → Hp → Prop) → Prop
abbrev TA := St → Hp → (List V → Hp → Prop) → Prop
structure Ends where
  nx : St → Hp → Prop
  rt : VK
  bk : St → Hp → Prop := fun _ _ => False
  ct : St → Hp → Prop := fun _ _ => False
abbrev TS := Ends → St → Hp → Prop
def EP (X : Cx) (pins : List (Addr × Obj)) (σ : St) (Q : VK) (u : Value) (s' : Shared) : Prop := ∃ v H', Inv X pins σ H' s' ∧ RelV v u ∧ Q v H'
def TP (X : Cx) (pins : List (Addr × Obj)) (σ : St) (Q : Bool → Hp → Prop) (b : Bool) (s' : Shared) : Prop := ∃ H', Inv X pins σ H' s' ∧ Q b H'
def AP (X : Cx) (pins : List (Addr × Obj)) (σ : St) (Q : List V → Hp → Prop) (us : List Value) (s' : Shared) : Prop := ∃ vs H', Inv X pins σ H' s' ∧ Vals vs us ∧ Q vs H'
def SP (X : Cx) (pins : List (Addr × Obj)) (D : Ends) (f : Flow) (s' : Shared) : Prop :=
  match f with
  | .next => ∃ σ' H', Inv X pins σ' H' s' ∧ D.nx σ' H'
  | .brk => ∃ σ' H', Inv X pins σ' H' s' ∧ D.bk σ' H'
  | .cont => ∃ σ' H', Inv X pins σ' H' s' ∧ D.ct σ' H'
  | .ret u => ∃ v σ' H', Inv X pins σ' H' s' ∧ RelV v u ∧ D.rt v H'
def PE (X : Cx) (e : Expr) (t : TE) : Prop :=
  ∀ (pins : List (Addr × Obj)) (s : Shared) (σ : St) (H : Hp) (Q : VK), Inv X pins σ H s → t σ H Q → wpAny (model X.prog X.w) X.A (eval e X.env) (EP X pins σ Q) X.xe s
def PT (X : Cx) (e : Expr) (t : TT) : Prop :=
  ∀ (pins : List (Addr × Obj)) (s : Shared) (σ : St) (H : Hp) (Q : Bool → Hp → Prop), Inv X pins σ H s → t σ H Q → wpAny (model X.prog X.w) X.A (isTrue e X.env (eval e X.env)) (TP X pins σ Q) X.xe s
def PW (X : Cx) (e : Expr) (t : TT) : Prop :=
  ∀ (whole : Sem Value) (pins : List (Addr × Obj)) (s : Shared) (σ : St) (H : Hp) (Q : Bool → Hp → Prop), Inv X pins σ H s → t σ H Q → wpAny (model X.prog X.w) X.A (isTrue e X.env whole) (TP X pins σ Q) X.xe s
theorem PW.pt {X : Cx} {e : Expr} {t : TT} (h : PW X e t) : PT X e t := h _
def PA (X : Cx) (es : List Expr) (t : TA) : Prop :=
  ∀ (pos : Pos) (pins : List (Addr × Obj)) (s : Shared) (σ : St) (H : Hp) (Q : List V → Hp → Prop), Inv X pins σ H s → t σ H Q → wpAny (model X.prog X.w) X.A (spliced (backTo pos (starEach es X.env))) (AP X pins σ Q) X.xe s
def PS (X : Cx) (st : Stmt) (t : TS) : Prop :=
  ∀ (pins : List (Addr × Obj)) (s : Shared) (σ : St) (H : Hp) (D : Ends), Inv X pins σ H s → t D σ H → wpAny (model X.prog X.w) X.A (exec st X.env) (SP X pins D) X.xe s
def PSs (X : Cx) (st : List Stmt) (t : TS) : Prop :=
  ∀ (pins : List (Addr × Obj)) (s : Shared) (σ : St) (H : Hp) (D : Ends), Inv X pins σ H s → t D σ H → wpAny (model X.prog X.w) X.A (execs st X.env) (SP X pins D) X.xe s
theorem thn {α : Type} {t : Sem α} {Q Q' : α → Shared → Prop} {M : Model} {A : Around} {E : Value → Shared → Prop} {s : Shared} (h : wpAny M A t Q E s) (hQ : ∀ a s, Q a s → Q' a s) : wpAny M A t Q' E s := wpAny_mono h hQ fun _ _ x => x
end L2
namespace L2
open PySem PySem.Spec PyProof.Rows
section
variable {X : Cx}
def tVar (i : Nat) : TE := fun σ H Q => ∃ v, σ[i]? = some (some v) ∧ Q v H
def tC (v : V) : TE := fun _ H Q => Q v H
theorem pe_var {i : Nat} {x : Str} {pos : Pos} (hN : X.N[i]? = some x) (hv : Vis X.env.scope x) (hd : (x == ("__debug__" : Str)) = false := by decide) (hcd : (x == ("__classdict__" : Str)) = false := by decide) : PE X (.Name x pos) (tVar i) := by
  intro pins s σ H Q I h
  obtain ⟨v, e, h⟩ := h
  obtain ⟨m, hn, hl⟩ := I.loc
  obtain ⟨u, r, l⟩ := hl i x v hN e hv
  have fin : EP X pins σ Q u s := ⟨v, H, I, r, h⟩
  rcases l with ⟨hk, hm⟩ | ⟨hk, c, hc, hcell⟩
  · exact wpAny_Name (wpAny_loadName_local I.ok.kind hk hn hm fin) hd
  · rcases hk with hk | hk
    · exact wpAny_Name (wpAny_loadName_cell I.ok.kind hk hc hcell fin) hd
    · exact wpAny_Name (wpAny_loadName_free I.ok.kind hk hc hcell fin hcd) hd
theorem pe_int {i j pos} : PE X (.Constant (.int i) j pos) (tC (.int i)) := fun _ _ _ H _ I h => wpAny_Constant_int ⟨.int i, H, I.tok _, ⟨_, rfl⟩, h⟩
theorem pe_bl {b j pos} : PE X (.Constant (.bool b) j pos) (tC (.bl b)) := fun _ _ _ H _ I h => Constant_bool ⟨.bl b, H, I, rfl, h⟩
theorem pe_non {j pos} : PE X (.Constant .none j pos) (tC .non) := fun _ _ _ H _ I h => Constant_none ⟨.non, H, I, rfl, h⟩
theorem pe_str {x j pos} : PE X (.Constant (.str x) j pos) (tC (.str x)) := fun _ _ _ H _ I h => Calls.Constant_str ⟨.str x, H, I.tok _, ⟨_, rfl⟩, h⟩
def Gl (X : Cx) (x : Str) : Prop := X.env.kindOf x = some .globalImplicit
theorem ld_glob {E : Value → Shared → Prop} {pins : List (Addr × Obj)} {s : Shared} {σ : St} {H : Hp} {x : Str} {u : Value} {pos : Pos} {Q : Value → Shared → Prop} (I : Inv X pins σ H s) (hg : Gl X x) (hm : X.mg x = some u) (h : Q u s)
    (hd : (x == ("__debug__" : Str)) = false := by decide) : wpAny (model X.prog X.w) X.A (eval (.Name x pos) X.env) Q E s :=
  Calls.Name_function_global I.ok.kind hg (Calls.loadGlobal_global (by rw [I.ok.glob]; exact I.mod.glob.keeps I.bk) hm h) hd
theorem ld_blt {E : Value → Shared → Prop} {pins : List (Addr × Obj)} {s : Shared} {σ : St} {H : Hp} {x : Str} {u : Value} {pos : Pos} {Q : Value → Shared → Prop} (I : Inv X pins σ H s) (hg : Gl X x) (hm : X.mg x = none) (hv : bootBuiltins x = some u) (h : Q u s)
    (hn : x ≠ "__name__" := by decide) (hd : (x == ("__debug__" : Str)) = false := by decide) : wpAny (model X.prog X.w) X.A (eval (.Name x pos) X.env) Q E s := by
  obtain ⟨mb, h1, h2⟩ := I.mod.blt
  exact Calls.Name_function_global I.ok.kind hg (Calls.loadGlobal_builtin (by rw [I.ok.glob]; exact I.mod.glob.keeps I.bk) hm (by rw [I.ok.blt]; exact h1.keeps I.bk) ((h2 x hn).trans hv) h) hd
theorem pe_glob {x : Str} {v : V} {u : Value} {pos : Pos} (hg : Gl X x) (hm : X.mg x = some u) (r : RelV v u) (hd : (x == ("__debug__" : Str)) = false := by decide) : PE X (.Name x pos) (tC v) :=
  fun _ _ _ H _ I h => ld_glob I hg hm ⟨v, H, I, r, h⟩ hd
theorem pe_bltn {x : Str} {v : V} {u : Value} {pos : Pos} (hg : Gl X x) (hm : X.mg x = none) (hv : bootBuiltins x = some u) (r : RelV v u) (hn : x ≠ "__name__" := by decide) (hd : (x == ("__debug__" : Str)) = false := by decide) : PE X (.Name x pos) (tC v) :=
  fun _ _ _ H _ I h => ld_blt I hg hm hv ⟨v, H, I, r, h⟩ hn hd
variable {a b : Expr} {ta tb : TE} {pos : Pos}
def PC (X : Cx) (op : CmpOp) (a b : Expr) (t : TE) : Prop :=
  ∀ (pins : List (Addr × Obj)) (s : Shared) (σ : St) (H : Hp) (Q : VK), Inv X pins σ H s → t σ H Q →
    wpAny (model X.prog X.w) X.A (eval a X.env) (fun v s₁ => wpAny (model X.prog X.w) X.A (eval b X.env) (fun u s₂ => wpAny (model X.prog X.w) X.A (compareOp op v u) (EP X pins σ Q) X.xe s₂) X.xe s₁) X.xe s
def tB (t : TE) : TT := fun σ H Q => t σ H fun x H1 => ∃ c, x = .bl c ∧ Q c H1
theorem pt_val {e : Expr} {t : TE} (h : PE X e t) (he : ∀ whole, isTrue e X.env whole = (do let v ← whole; standAt e.pos; holding [v] (truthy v)) := by intro _; rfl) : PT X e (tB t) := by
  intro pins s σ H Q I hw
  refine isTrue_plain (thn (h pins s σ H _ I hw) fun v s1 ⟨x, H1, I1, r1, q1⟩ => ?_) (he _)
  obtain ⟨d, rfl, q⟩ := q1
  cases r1
  exact wpAny_truthy_bool ⟨H1, I1, q⟩
variable {tA tB' : TT} {rest : List Expr}
def tAnd (t u : TT) : TT := fun σ H Q => t σ H fun c H1 => if c = true then u σ H1 Q else Q false H1
def tOr (t u : TT) : TT := fun σ H Q => t σ H fun c H1 => if c = true then Q true H1 else u σ H1 Q
def tNot (t : TT) : TT := fun σ H Q => t σ H fun c H1 => Q (!c) H1
theorem pw_and1 (ha : PT X a tA) : PW X (.BoolOp .And [a] pos) tA := by
  intro wh pins s σ H Q I h
  refine isTrue_and (thn (ha pins s σ H Q I h) fun c s1 e => ?_)
  cases c with
  | true => exact isTrue_and_nil e
  | false => exact e
theorem pw_or1 (ha : PT X a tA) : PW X (.BoolOp .Or [a] pos) tA := by
  intro wh pins s σ H Q I h
  refine isTrue_or (thn (ha pins s σ H Q I h) fun c s1 e => ?_)
  cases c with
  | false => exact isTrue_or_nil e
  | true => exact e
theorem pw_and (ha : PT X a tA) (hb : PW X (.BoolOp .And (b :: rest) pos) tB') : PW X (.BoolOp .And (a :: b :: rest) pos) (tAnd tA tB') := by
  intro wh pins s σ H Q I h
  refine isTrue_and (thn (ha pins s σ H _ I h) fun c s1 ⟨H1, I1, q1⟩ => ?_)
  cases c with
  | true => exact hb wh pins s1 σ H1 Q I1 q1
  | false => exact ⟨H1, I1, q1⟩
theorem pw_or (ha : PT X a tA) (hb : PW X (.BoolOp .Or (b :: rest) pos) tB') : PW X (.BoolOp .Or (a :: b :: rest) pos) (tOr tA tB') := by
  intro wh pins s σ H Q I h
  refine isTrue_or (thn (ha pins s σ H _ I h) fun c s1 ⟨H1, I1, q1⟩ => ?_)
  cases c with
  | true => exact ⟨H1, I1, q1⟩
  | false => exact hb wh pins s1 σ H1 Q I1 q1
theorem pt_not (ha : PT X a tA) : PT X (.UnaryOp .Not a pos) (tNot tA) := by
  intro pins s σ H Q I h
  exact isTrue_not (ha pins s σ H (fun c H1 => Q (!c) H1) I h)
def tAndV (ta tb : TE) : TE := fun σ H Q => ta σ H fun x H1 => ∃ c, x = .bl c ∧ if c = true then tb σ H1 Q else Q (.bl false) H1
def tOrV (ta tb : TE) : TE := fun σ H Q => ta σ H fun x H1 => ∃ c, x = .bl c ∧ if c = true then Q (.bl true) H1 else tb σ H1 Q
def tNotV (ta : TE) : TE := fun σ H Q => ta σ H fun x H1 => ∃ c, x = .bl c ∧ Q (.bl (!c)) H1
theorem pe_one {op} {t : TE} (h : PE X a t) : PE X (.BoolOp op [a] pos) t := fun pins s σ H Q I hw => BoolOp_one (h pins s σ H Q I hw)
theorem pe_and (ha : PE X a ta) (hb : PE X (.BoolOp .And (b :: rest) pos) tb) : PE X (.BoolOp .And (a :: b :: rest) pos) (tAndV ta tb) := by
  intro pins s σ H Q I h
  refine BoolOp_and (thn (ha pins s σ H _ I h) fun v s1 ⟨x, H1, I1, r1, q1⟩ => ?_)
  obtain ⟨c, rfl, q1⟩ := q1
  cases r1
  refine wpAny_truthy_bool ?_
  cases c with
  | true => exact hb pins s1 σ H1 Q I1 q1
  | false => exact ⟨.bl false, H1, I1, rfl, q1⟩
theorem pe_not (ha : PE X a ta) : PE X (.UnaryOp .Not a pos) (tNotV ta) := by
  intro pins s σ H Q I h
  refine UnaryOp_ (thn (ha pins s σ H _ I h) fun v s1 ⟨x, H1, I1, r1, q1⟩ => ?_)
  obtain ⟨c, rfl, q1⟩ := q1
  cases r1
  exact not_of (wpAny_truthy_bool ⟨.bl (!c), H1, I1, rfl, q1⟩)
def tIf (t : TT) (ta tb : TE) : TE := fun σ H Q => t σ H fun c H1 => if c = true then ta σ H1 Q else tb σ H1 Q
end
end L2
namespace L2
open PySem PySem.Spec PyProof.Rows
def SqL (K : PySem.W.Frag) (H : Hp) (a : Addr) (xs : List V) : Prop :=
  Rd H a (.lst xs) ∨
    ∃ (o : Obj) (its : Array Value) (n : Nat), K.lookup a = some o ∧ o.cls = .type "list" ∧ o.dict = none ∧ o.data = .seq its n ∧ its.size ≤ sizeLine ∧ Vals xs its.toList
def SqT (K : PySem.W.Frag) (H : Hp) (a : Addr) (xs : List V) : Prop :=
  Rd H a (.tup xs) ∨
    ∃ (o : Obj) (its : Array Value) (n : Nat), K.lookup a = some o ∧ o.cls = .type "tuple" ∧ o.data = .seq its n ∧ its.size ≤ sizeLine ∧ Vals xs its.toList
def absV : Value → Option V
  | .none => some .non
  | .bool b => some (.bl b)
  | .int i _ => some (.int i)
  | .str x _ => some (.str x)
  | .bytes b _ => some (.byt b)
  | .float b _ => some (.flt b)
  | .ref a => some (.ref a)
  | .type n => some (.ty n)
  | _ => none
theorem RelV.abs {x : V} {u : Value} (r : RelV x u) : absV u = some x := by
  cases x with
  | non => cases r; rfl
  | bl _ => cases r; rfl
  | int _ => obtain ⟨t, rfl⟩ := r; rfl
  | str _ => obtain ⟨t, rfl⟩ := r; rfl
  | byt _ => obtain ⟨t, rfl⟩ := r; rfl
  | flt _ => obtain ⟨t, rfl⟩ := r; rfl
  | ref _ => cases r; rfl
  | ty _ => cases r; rfl
theorem RelV.inj {x y : V} {u : Value} (r : RelV x u) (q : RelV y u) : x = y := Option.some.inj (r.abs.symm.trans q.abs)
theorem Vals.inj : ∀ {xs ys : List V} {us : List Value}, Vals xs us → Vals ys us → xs = ys
  | _, _, _, .nil, .nil => rfl
  | _, _, _, .cons r t, .cons r' t' => by rw [r.inj r', Vals.inj t t']
section
variable {X : Cx} {pins : List (Addr × Obj)} {σ : St} {H : Hp} {s : Shared} {a : Addr} {xs ys : List V}
theorem SqL.of {K : PySem.W.Frag} (h : H a = some (.lst xs)) : SqL K H a xs := .inl (.inl h)
theorem SqT.of {K : PySem.W.Frag} (h : H a = some (.tup xs)) : SqT K H a xs := .inl (.inl h)
theorem Inv.list (I : Inv X pins σ H s) (h : SqL X.K H a xs) : ∃ its : List Value, Vals xs its ∧ PlainL s.heap a its.toArray ∧ xs.length ≤ sizeLine := by
  rcases h with h | ⟨o, its, n, hk, hc, hd, hs, hz, r⟩
  · obtain ⟨z, its, n, r, e⟩ := h.ok I.hok
    exact ⟨its, r, ⟨_, n, e, rfl, rfl, rfl⟩, z⟩
  · refine ⟨its.toList, r, ⟨o, n, I.kIn a o hk, hc, hd, by simpa using hs⟩, ?_⟩
    have e := r.length
    simp only [Array.length_toList] at e
    omega
theorem Inv.tuple (I : Inv X pins σ H s) (h : SqT X.K H a xs) : ∃ its : List Value, Vals xs its ∧ IsTup s.heap a its.toArray ∧ xs.length ≤ sizeLine := by
  rcases h with h | ⟨o, its, n, hk, hc, hs, hz, r⟩
  · obtain ⟨z, its, r, p⟩ := h.ok I.hok
    exact ⟨its, r, p, z⟩
  · refine ⟨its.toList, r, ⟨o, I.kIn a o hk, hc, n, by simpa using hs⟩, ?_⟩
    have e := r.length
    simp only [Array.length_toList] at e
    omega
theorem Inv.list_inj (I : Inv X pins σ H s) (h : SqL X.K H a xs) (h' : SqL X.K H a ys) : xs = ys := by
  obtain ⟨its, r, ⟨o, n, e, _, _, d⟩, _⟩ := I.list h
  obtain ⟨its', r', ⟨o', n', e', _, _, d'⟩, _⟩ := I.list h'
  rw [e] at e'; cases e'
  rw [d] at d'
  injection d' with d1 _
  have : its = its' := by simpa using congrArg Array.toList d1
  subst this
  exact r.inj r'
theorem Inv.tuple_inj (I : Inv X pins σ H s) (h : SqT X.K H a xs) (h' : SqT X.K H a ys) : xs = ys := by
  obtain ⟨its, r, ⟨o, e, _, n, d⟩, _⟩ := I.tuple h
  obtain ⟨its', r', ⟨o', e', _, n', d'⟩, _⟩ := I.tuple h'
  rw [e] at e'; cases e'
  rw [d] at d'
  injection d' with d1 _
  have : its = its' := by simpa using congrArg Array.toList d1
  subst this
  exact r.inj r'
end
abbrev Cx.wish (X : Cx) (E : Value → Shared → Prop) : Cx := { X with xe := E }
abbrev Cx.nox (X : Cx) : Cx := X.wish fun _ _ => False
theorem Cx.Ok.wish {X : Cx} (ok : X.Ok) (E : Value → Shared → Prop) : (X.wish E).Ok :=
  ⟨ok.mod, ok.kind, ok.glob, ok.blt, ok.above, ok.inj, ok.has, ok.cab, ok.hd, ok.frames, ok.stk, ok.exf, ok.bs, ok.bsz, ok.noex, ok.exfs, ok.funs, ok.frf⟩
theorem Cx.Ok.unwish {X : Cx} {E : Value → Shared → Prop} (ok : (X.wish E).Ok) : X.Ok :=
  ⟨ok.mod, ok.kind, ok.glob, ok.blt, ok.above, ok.inj, ok.has, ok.cab, ok.hd, ok.frames, ok.stk, ok.exf, ok.bs, ok.bsz, ok.noex, ok.exfs, ok.funs, ok.frf⟩
section
variable {X : Cx} {pins : List (Addr × Obj)} {σ : St} {H : Hp} {s : Shared} {E : Value → Shared → Prop}
theorem Inv.wish (I : Inv X pins σ H s) (E : Value → Shared → Prop) : Inv (X.wish E) pins σ H s := ⟨I.ok.wish E, I.os, I.bare, I.base, I.loc, I.cell, I.free, I.freeC, I.pin, I.hok, I.len⟩
theorem Inv.unwish (I : Inv (X.wish E) pins σ H s) : Inv X pins σ H s := ⟨I.ok.unwish, I.os, I.bare, I.base, I.loc, I.cell, I.free, I.freeC, I.pin, I.hok, I.len⟩
theorem SP.unwish {D : Ends} {f : Flow} {s' : Shared} (h : SP (X.wish E) pins D f s') : SP X pins D f s' := by
  cases f with
  | next => obtain ⟨σ', H', I, q⟩ := h; exact ⟨σ', H', I.unwish, q⟩
  | brk => obtain ⟨σ', H', I, q⟩ := h; exact ⟨σ', H', I.unwish, q⟩
  | cont => obtain ⟨σ', H', I, q⟩ := h; exact ⟨σ', H', I.unwish, q⟩
  | ret u => obtain ⟨v, σ', H', I, r, q⟩ := h; exact ⟨v, σ', H', I.unwish, r, q⟩
theorem PE.nox {e : Expr} {t : TE} (h : PE X.nox e t) : PE X e t := fun pins s σ H Q I hw =>
  wpAny_mono (h pins s σ H Q (I.wish _) hw) (fun _ _ ⟨v, H', I', r, q⟩ => ⟨v, H', I'.unwish, r, q⟩) fun _ _ z => False.elim z
theorem PT.nox {e : Expr} {t : TT} (h : PT X.nox e t) : PT X e t := fun pins s σ H Q I hw =>
  wpAny_mono (h pins s σ H Q (I.wish _) hw) (fun _ _ ⟨H', I', q⟩ => ⟨H', I'.unwish, q⟩) fun _ _ z => False.elim z
theorem PSs.nox {st : List Stmt} {t : TS} (h : PSs X.nox st t) : PSs X st t := fun pins s σ H D I hw =>
  wpAny_mono (h pins s σ H D (I.wish _) hw) (fun _ _ q => q.unwish) fun _ _ z => False.elim z
end
section
variable {X : Cx} {st : Stmt} {rest : List Stmt} {t u : TS} {e : Expr} {te : TE} {pos : Pos}
def tNext : TS := fun D σ H => D.nx σ H
def tSeq (t u : TS) : TS := fun D σ H => t { D with nx := u D } σ H
theorem pss_nil : PSs X [] tNext := fun _ _ σ H _ I h => wpAny_execs_nil ⟨σ, H, I, h⟩
theorem pss_cons (h1 : PS X st t) (h2 : PSs X rest u) : PSs X (st :: rest) (tSeq t u) := by
  intro pins s σ H D I h
  refine wpAny_execs_cons (thn (h1 pins s σ H { D with nx := u D } I h) fun f s1 q => ?_)
  cases f with
  | next =>
    obtain ⟨σ', H', I', q⟩ := q
    exact h2 pins s1 σ' H' D I' q
  | ret v => exact q
  | brk => exact q
  | cont => exact q
theorem pss_one (h1 : PS X st t) : PSs X [st] t := by
  intro pins s σ H D I h
  refine wpAny_execs_cons (thn (h1 pins s σ H D I h) fun f s1 q => ?_)
  cases f with
  | next => exact wpAny_execs_nil q
  | ret v => exact q
  | brk => exact q
  | cont => exact q
theorem Inv.quiet {pins : List (Addr × Obj)} {σ : St} {H : Hp} {s : Shared} (I : Inv X pins σ H s) : interactive X.env = false := by simp [interactive, I.ok.kind]
def tDrop (te : TE) : TS := fun D σ H => te σ H fun _ H1 => D.nx σ H1
theorem ps_expr (he : PE X e te) (hs : swapsWith e none pos.line X.env = pure false := by rfl) : PS X (.Expr e pos) (tDrop te) := by
  intro pins s σ H D I h
  exact wpAny_Expr_any (thn (he pins s σ H _ I h) fun v s1 ⟨x, H1, I1, r1, q1⟩ => ⟨σ, H1, I1, q1⟩) I.quiet hs
def tRet (te : TE) : TS := fun D σ H => te σ H D.rt
theorem ps_ret (he : PE X e te) : PS X (.Return (some e) pos) (tRet te) := by
  intro pins s σ H D I h
  exact wpAny_Return_some (thn (he pins s σ H _ I h) fun v s1 ⟨x, H1, I1, r1, q1⟩ => ⟨x, σ, H1, I1, r1, q1⟩)
def tRetN : TS := fun D _ H => D.rt .non H
def tIfS (c : TT) (t u : TS) : TS := fun D σ H => c σ H fun b H1 => if b = true then t D σ H1 else u D σ H1
theorem ps_if {c : Expr} {a b : List Stmt} {tc : TT} (hc : PT X c tc) (ha : PSs X a t) (hb : PSs X b u) : PS X (.If c a b pos) (tIfS tc t u) := by
  intro pins s σ H D I h
  refine wpAny_If (thn (hc pins s σ H _ I h) fun d s1 ⟨H1, I1, q1⟩ => ?_)
  cases d with
  | true => exact ha pins s1 σ H1 D I1 q1
  | false => exact hb pins s1 σ H1 D I1 q1
def tNever : TS := fun _ _ _ => False
theorem ps_never : PS X st tNever := fun _ _ _ _ _ _ h => h.elim
theorem pss_never {sts : List Stmt} : PSs X sts tNever := fun _ _ _ _ _ _ h => h.elim
end
abbrev TG := V → St → Hp → (St → Hp → Prop) → Prop
abbrev TGs := List V → St → Hp → (St → Hp → Prop) → Prop
def PG (X : Cx) (target : Expr) (t : TG) : Prop :=
  ∀ (pins : List (Addr × Obj)) (s : Shared) (σ : St) (H : Hp) (v : V) (u : Value) (Q : St → Hp → Prop), Inv X pins σ H s → RelV v u → t v σ H Q →
    wpAny (model X.prog X.w) X.A (assign target X.env u) (fun _ s' => ∃ σ' H', Inv X pins σ' H' s' ∧ Q σ' H') X.xe s
def PGs (X : Cx) (ts : List Expr) (t : TGs) : Prop :=
  ∀ (pins : List (Addr × Obj)) (s : Shared) (σ : St) (H : Hp) (vs : List V) (us : List Value) (Q : St → Hp → Prop), Inv X pins σ H s → Vals vs us → t vs σ H Q →
    wpAny (model X.prog X.w) X.A (assignInOrder ((assignEach ts X.env).map (·.2)) us) (fun _ s' => ∃ σ' H', Inv X pins σ' H' s' ∧ Q σ' H') X.xe s
abbrev TSet := V → V → V → Hp → (Hp → Prop) → Prop
def PSet (X : Cx) (t : TSet) : Prop :=
  ∀ (pins : List (Addr × Obj)) (s : Shared) (σ : St) (H : Hp) (o i v : V) (ov iv u : Value) (Q : Hp → Prop), Inv X pins σ H s → RelV o ov → RelV i iv → RelV v u → t o i v H Q →
    wpAny (model X.prog X.w) X.A (setItem ov iv u) (fun _ s' => ∃ H', Inv X pins σ H' s' ∧ Q H') X.xe s
abbrev TIp := V → V → Hp → VK → Prop
def PIp (X : Cx) (op : Operator) (t : TIp) : Prop :=
  ∀ (pins : List (Addr × Obj)) (s : Shared) (σ : St) (H : Hp) (x y : V) (v u : Value) (Q : VK), Inv X pins σ H s → RelV x v → RelV y u → t x y H Q →
    wpAny (model X.prog X.w) X.A (inplaceOp op v u) (EP X pins σ Q) X.xe s
section
variable {X : Cx} {pos : Pos}
def gName (i : Nat) : TG := fun v σ H Q => Q (σ.set i (some v)) H
theorem pg_name {i : Nat} {x : Str} (hN : X.N.Nodup) (hi : X.N[i]? = some x) (hx : Loc X.env.scope x) (hf : X.fn x = true ∨ X.env.scope.names.lookup x = some .local := by first | exact .inl rfl | exact .inr rfl | assumption) : PG X (.Name x pos) (gName i) := by
  intro pins s σ H v u Q I r h
  exact wpAny_assign_Name (store_ok I hN hi hx r (fun s' I' => ⟨_, H, I', h⟩) hf)
def gNil : TGs := fun vs σ H Q => vs = [] ∧ Q σ H
def gCons (t : TG) (u : TGs) : TGs := fun vs σ H Q => ∃ v r, vs = v :: r ∧ t v σ H fun σ' H' => u r σ' H' Q
theorem pgs_nil : PGs X [] gNil := by
  intro pins s σ H vs us Q I r h
  obtain ⟨e, h⟩ := h
  subst e
  cases r
  exact assignInOrder_nil ⟨σ, H, I, h⟩
theorem pgs_cons {e : Expr} {es : List Expr} {t : TG} {u : TGs} (h1 : PG X e t) (h2 : PGs X es u)
    (hs : (assignEach (e :: es) X.env).map (·.2) = assign e X.env :: (assignEach es X.env).map (·.2) := by rfl) : PGs X (e :: es) (gCons t u) := by
  intro pins s σ H vs us Q I r h
  obtain ⟨v, vr, e1, h⟩ := h
  subst e1
  cases r with
  | cons r rr =>
    rw [hs]
    refine assignInOrder_cons (thn (h1 pins s σ H _ _ _ I r h) fun _ s1 ⟨σ1, H1, I1, q1⟩ => ?_)
    exact h2 pins s1 σ1 H1 _ _ Q I1 rr q1
def gTup (K : PySem.W.Frag) (n : Nat) (t : TGs) : TG := fun v σ H Q => ∃ a xs, v = .ref a ∧ SqT K H a xs ∧ xs.length = n ∧ t xs σ H Q
theorem pg_tup {es : List Expr} {k : Nat} {t : TGs} {n : Nat} (hc : X.calm = true) (h : PGs X es t)
    (hn : (assignEach es X.env).length = n := by rfl) (hst : (assignEach es X.env).findIdx? (·.1) = none := by rfl) : PG X (.Tuple es k pos) (gTup X.K n t) := by
  intro pins s σ H v u Q I r hw
  obtain ⟨a, xs, e1, hq, hl, hw⟩ := hw
  subst e1
  cases r
  obtain ⟨its, rv, ht, hz⟩ := I.tuple hq
  refine assign_Tuple_tuple (I.ok.hd hc) ht (by simp [hn, ← hl, rv.length]) hst fun h' hx => ?_
  have I1 : Inv X pins σ H { s with heap := h' } := I.kept (t' := s.toks) fun b o e => hx b o (Nat.ne_of_lt (Heap.lt_size e)) e
  exact h pins _ σ H xs _ Q I1 (by simpa using rv) hw
def gSub (to ti : TE) (t : TSet) : TG := fun v σ H Q => to σ H fun o H1 => ti σ H1 fun i H2 => t o i v H2 fun H3 => Q σ H3
theorem pg_sub {o i : Expr} {to ti : TE} {t : TSet} (ho : PE X o to) (hi : PE X i ti) (hs : PSet X t)
    (ha : ∀ v, assign (.Subscript o i pos) X.env v = (do
      let ov ← holding [v] (eval o X.env)
      let iv ← holding [v, ov] (eval i X.env)
      standAt pos
      holding [v, ov, iv] (setItem ov iv v)
      release [v, ov, iv] []) := by intro _; rfl) : PG X (.Subscript o i pos) (gSub to ti t) := by
  intro pins s σ H v u Q I r h
  rw [ha]
  refine wpAny_bind (wpAny_holding (thn (ho pins s σ H _ I h) fun ov s1 ⟨x, H1, I1, r1, q1⟩ => ?_))
  refine wpAny_bind (wpAny_holding (thn (hi pins s1 σ H1 _ I1 q1) fun iv s2 ⟨y, H2, I2, r2, q2⟩ => ?_))
  refine wpAny_bind (wpAny_standAt (wpAny_bind (wpAny_holding (thn (hs pins s2 σ H2 x y v ov iv u _ I2 r1 r2 r q2) fun _ s3 ⟨H3, I3, q3⟩ => ?_))))
  exact wpAny_release ⟨σ, H3, I3, q3⟩
def tAsg (te : TE) (g : TG) : TS := fun D σ H => te σ H fun x H1 => g x σ H1 D.nx
theorem ps_asg {tg e : Expr} {te : TE} {g : TG} (he : PE X e te) (hg : PG X tg g) (hs : swapsWithSole [tg] e pos.line X.env = pure false := by rfl) (hw : swappedStores [tg] e X.env = pure none := by rfl)
    (h1 : (assignEach [tg] X.env).map (·.2) = [assign tg X.env] := by rfl) : PS X (.Assign [tg] e pos) (tAsg te g) := by
  intro pins s σ H D I h
  refine wpAny_Assign_stores (thn (he pins s σ H _ I h) fun v s1 ⟨x, H1, I1, r1, q1⟩ => ?_) hs hw
  rw [h1]
  exact thn (hg pins s1 σ H1 x v _ I1 r1 q1) fun _ s2 q => q
theorem ps_set {i : Nat} {x : Str} {e : Expr} {te : TE} {pos' : Pos} (hN : X.N.Nodup) (hi : X.N[i]? = some x) (hx : Loc X.env.scope x) (he : PE X e te) (hs : swapsWith e (some (.Name x pos')) pos.line X.env = pure false := by rfl) (hf : X.fn x = true ∨ X.env.scope.names.lookup x = some .local := by first | exact .inl rfl | exact .inr rfl | assumption) :
    PS X (.Assign [.Name x pos'] e pos) (tAsg te (gName i)) := by
  intro pins s σ H D I h
  refine wpAny_Assign_Name (thn (he pins s σ H _ I h) fun v s1 ⟨y, H1, I1, r1, q1⟩ => ?_) hs
  exact store_ok I1 hN hi hx r1 (fun s2 I2 => ⟨_, H1, I2, q1⟩) hf
def tAug (i : Nat) (te : TE) (ti : TIp) : TS := fun D σ H => ∃ x, σ[i]? = some (some x) ∧ te σ H fun y H1 => ti x y H1 fun z H2 => D.nx (σ.set i (some z)) H2
theorem ps_aug {i : Nat} {x : Str} {e : Expr} {te : TE} {op : Operator} {ti : TIp} {pos' : Pos} (hN : X.N.Nodup) (hi : X.N[i]? = some x) (hx : Loc X.env.scope x) (he : PE X e te) (ho : PIp X op ti) (hf : X.fn x = true ∨ X.env.scope.names.lookup x = some .local := by first | exact .inl rfl | exact .inr rfl | assumption) :
    PS X (.AugAssign (.Name x pos') op e pos) (tAug i te ti) := by
  intro pins s σ H D I h
  obtain ⟨v, e1, h⟩ := h
  obtain ⟨m, hn, hl⟩ := I.loc
  have vis : Vis X.env.scope x := by rcases hx with k | k; exact .inl k; exact .inr (.inl k)
  obtain ⟨u, r, l⟩ := hl i x v hi e1 vis
  refine wpAny_AugAssign_Name ?_
  have go : wpAny (model X.prog X.w) X.A (eval e X.env) (fun w s₂ => wpAny (model X.prog X.w) X.A (inplaceOp op u w) (fun r s₃ => wpAny (model X.prog X.w) X.A (storeName X.env x r) (fun _ => SP X pins D .next) X.xe s₃) X.xe s₂) X.xe s := by
    refine thn (he pins s σ H _ I h) fun w s1 ⟨y, H1, I1, r1, q1⟩ => ?_
    refine thn (ho pins s1 σ H1 v y u w _ I1 r r1 q1) fun z s2 ⟨zv, H2, I2, r2, q2⟩ => ?_
    exact store_ok I2 hN hi hx r2 (fun s3 I3 => ⟨_, H2, I3, q2⟩) hf
  rcases l with ⟨hk, hm⟩ | ⟨hk, c, hc, hcell⟩
  · exact wpAny_loadName_local I.ok.kind hk hn hm go
  · rcases hk with hk | hk
    · exact wpAny_loadName_cell I.ok.kind hk hc hcell go
    · rcases hx with k | k
      · have : X.env.scope.names.lookup x = some .free := hk
        rw [k] at this; cases this
      · have : X.env.scope.names.lookup x = some .free := hk
        rw [k] at this; cases this
def tAugS (to ti te : TE) (tget : V → V → Hp → VK → Prop) (tip : TIp) (tset : TSet) : TS := fun D σ H => to σ H fun o H1 => ti σ H1 fun i H2 => tget o i H2 fun x H3 => te σ H3 fun y H4 => tip x y H4 fun z H5 => tset o i z H5 fun H6 => D.nx σ H6
def PGet (X : Cx) (t : V → V → Hp → VK → Prop) : Prop :=
  ∀ (pins : List (Addr × Obj)) (s : Shared) (σ : St) (H : Hp) (o i : V) (ov iv : Value) (Q : VK), Inv X pins σ H s → RelV o ov → RelV i iv → t o i H Q →
    wpAny (model X.prog X.w) X.A (getItem ov iv) (EP X pins σ Q) X.xe s
theorem ps_augS {o i e : Expr} {to ti te : TE} {tget : V → V → Hp → VK → Prop} {tip : TIp} {tset : TSet} {op : Operator} {tpos : Pos} (ho : PE X o to) (hi : PE X i ti) (hg : PGet X tget) (he : PE X e te) (hp : PIp X op tip) (hs : PSet X tset)
    (ha : ∀ ov iv new, augStore i ov iv new = (do holding [new, ov, iv] (setItem ov iv new); release [new, ov, iv] []; pure .next) := by intros; rfl) : PS X (.AugAssign (.Subscript o i tpos) op e pos) (tAugS to ti te tget tip tset) := by
  intro pins s σ H D I h
  refine wpAny_AugAssign_SubscriptAny (thn (ho pins s σ H _ I h) fun ov s1 ⟨x1, H1, I1, r1, q1⟩ => ?_) ha
  refine thn (hi pins s1 σ H1 _ I1 q1) fun iv s2 ⟨x2, H2, I2, r2, q2⟩ => ?_
  refine thn (hg pins s2 σ H2 x1 x2 ov iv _ I2 r1 r2 q2) fun old s3 ⟨x3, H3, I3, r3, q3⟩ => ?_
  refine thn (he pins s3 σ H3 _ I3 q3) fun v s4 ⟨x4, H4, I4, r4, q4⟩ => ?_
  refine thn (hp pins s4 σ H4 x3 x4 old v _ I4 r3 r4 q4) fun new s5 ⟨x5, H5, I5, r5, q5⟩ => ?_
  exact thn (hs pins s5 σ H5 x1 x2 x5 ov iv new _ I5 r1 r2 r5 q5) fun _ s6 ⟨H6, I6, q6⟩ => ⟨σ, H6, I6, q6⟩
end
section
variable {X : Cx} {pos : Pos}
def tWhile (c : TT) (tb : TS) : TS := fun D σ H => ∃ W : Nat → St → Hp → Prop, (∃ m, W m σ H) ∧ ∀ m σ H, W m σ H →
  c σ H fun b H1 => if b = true then ∃ N : St → Hp → Prop, (∀ σ' H', N σ' H' → ∃ m', m' < m ∧ W m' σ' H') ∧ tb { D with nx := N, ct := N, bk := D.nx } σ H1 else D.nx σ H1
theorem ps_while {c : Expr} {body : List Stmt} {tc : TT} {tb : TS} (hp : PassesOwn (model X.prog X.w) X.A X.env X.xe) (hc : PT X c tc) (hb : PSs X body tb) : PS X (.While c body [] pos) (tWhile tc tb) := by
  intro pins s σ H D I h
  obtain ⟨W, ⟨m0, w0⟩, turn⟩ := h
  refine wpAny_While (codeAny_whileLoop (fun n s' => ∃ σ' H', Inv X pins σ' H' s' ∧ W n σ' H') ?_ m0 ⟨σ, H, I, w0⟩)
  rintro n s1 ⟨σ1, H1, I1, w1⟩
  refine wpAny_passesOwn hp (thn (hc pins s1 σ1 H1 _ I1 (turn n σ1 H1 w1)) fun b s2 ⟨H2, I2, q2⟩ => ?_)
  cases b with
  | true =>
    obtain ⟨N, hN, q2⟩ := q2
    rw [if_pos rfl]
    refine wpAny_passesOwn hp (thn (hb pins s2 σ1 H2 _ I2 q2) fun f s3 q3 => ?_)
    cases f with
    | next =>
      obtain ⟨σ3, H3, I3, n3⟩ := q3
      obtain ⟨m', hm, w3⟩ := hN σ3 H3 n3
      exact ⟨m', hm, σ3, H3, I3, w3⟩
    | cont =>
      obtain ⟨σ3, H3, I3, n3⟩ := q3
      obtain ⟨m', hm, w3⟩ := hN σ3 H3 n3
      exact ⟨m', hm, σ3, H3, I3, w3⟩
    | brk => exact q3
    | ret v => exact q3
  | false =>
    rw [if_neg Bool.false_ne_true]
    exact wpAny_execs_nil ⟨σ1, H2, I2, q2⟩
end
structure It where
  go : Nat → Hp → Prop
  yld : Nat → Hp → V → Hp → Prop
  stop : Nat → Hp → Prop
def FpOk (X : Cx) (pins : List (Addr × Obj)) (H : Hp) (b : Addr) : Prop :=
  H b = none ∧ b ≠ X.env.locals ∧ b ∉ X.fs ∧ (b ∈ X.ex ∨ X.s₀.heap.objs.size ≤ b) ∧ (∀ x c, X.env.cells.lookup x = some c → c ≠ b) ∧ ∀ p ∈ X.pn ++ pins, p.1 ≠ b
theorem Inv.fpOk {X : Cx} {pins : List (Addr × Obj)} {σ : St} {H H' : Hp} {s : Shared} {b : Addr} (I : Inv X pins σ H s) (hb : s.heap.objs.size ≤ b) (hn : H' b = none) : FpOk X pins H' b := by
  refine ⟨hn, Nat.ne_of_gt (Nat.lt_of_lt_of_le I.lt hb), I.nofs hb, .inr (Nat.le_trans I.sz hb), fun x c e z => ?_, fun p hp z => ?_⟩
  · obtain ⟨v, q⟩ := I.cell x c e
    exact absurd (Nat.lt_of_lt_of_le q.lt (by rw [z]; exact hb)) (Nat.lt_irrefl _)
  · exact absurd (Nat.lt_of_lt_of_le (Heap.lt_size (I.pin p hp).1) (by rw [z]; exact hb)) (Nat.lt_irrefl _)
structure Turn (P : Program) (w : World) (K : PySem.W.Frag) (tg : Expr) (J : It) (fp : List Addr) (it : Addr) (tn : Nat → Heap → Prop) : Prop where
  mem : it ∈ fp
  obj : ∀ i h, tn i h → ∀ b ∈ fp, ∃ o, h.get? b = some o ∧ ∀ v, o.data ≠ .cell v
  keep : ∀ i h h', tn i h → (∀ b ∈ fp, ∀ o, h.get? b = some o → h'.get? b = some o) → tn i h'
  item : ∀ (X : Cx), X.prog = P → X.w = w → X.K = K → X.calm = true → ∀ (i : Nat) (pins : List (Addr × Obj)) (s : Shared) (σ : St) (H : Hp) (E : Value → Shared → Prop), Inv X pins σ H s → (∀ b ∈ fp, FpOk X pins H b) → tn i s.heap → J.go i H →
    wpAny (model P w) X.A (pyNext (.ref it)) (fun r s1 => ∃ u, r = some u ∧
      wpAny (model P w) X.A (letOwnedTupleGo tg (.ref it) u) (fun _ s2 => ∃ x H', Inv X pins σ H' s2 ∧ RelV x u ∧ J.yld i H x H' ∧ tn (i + 1) s2.heap ∧ ∀ b ∈ fp, H' b = none) E s1) E s
  done : ∀ (X : Cx), X.prog = P → X.w = w → X.K = K → X.calm = true → ∀ (i : Nat) (pins : List (Addr × Obj)) (s : Shared) (σ : St) (H : Hp) (E : Value → Shared → Prop), Inv X pins σ H s → (∀ b ∈ fp, FpOk X pins H b) → tn i s.heap → J.stop i H →
    wpAny (model P w) X.A (pyNext (.ref it)) (fun r s1 => r = none ∧ Inv X pins σ H s1) E s
  self : ∀ (A : Around) (i : Nat) (s : Shared) (Q : Value → Shared → Prop) (E : Value → Shared → Prop), tn i s.heap → Q (.ref it) s → wpAny (model P w) A (pyIter (.ref it)) Q E s
abbrev TI := St → Hp → (It → Hp → Prop) → Prop
def PIE (X : Cx) (pins : List (Addr × Obj)) (σ : St) (tg : Expr) (R : It → Hp → Prop) (itv : Value) (s2 : Shared) : Prop :=
  ∃ (it : Addr) (fp : List Addr) (tn : Nat → Heap → Prop) (J : It) (H' : Hp), itv = .ref it ∧ Inv X pins σ H' s2 ∧ Turn X.prog X.w X.K tg J fp it tn ∧ tn 0 s2.heap ∧ (∀ b ∈ fp, FpOk X pins H' b) ∧ R J H'
def PI (X : Cx) (tg iter : Expr) (wi : TI) : Prop :=
  ∀ (pins : List (Addr × Obj)) (s : Shared) (σ : St) (H : Hp) (R : It → Hp → Prop), Inv X pins σ H s → wi σ H R →
    wpAny (model X.prog X.w) X.A (eval iter X.env) (fun v s1 => wpAny (model X.prog X.w) X.A (pyIter v) (PIE X pins σ tg R) X.xe s1) X.xe s
theorem go_of {M : Model} {A : Around} {E : Value → Shared → Prop} {s : Shared} {tg : Expr} {it : Addr} {u : Value} {o : Obj} {n : String} {vs : Array Value} {Q : Unit → Shared → Prop} (ho : s.heap.get? it = some o) (hc : o.cls = .type n) (hd : o.data = .fields vs)
    (hn : ["enumerate", "zip", "dict_itemiterator", "dict_reverseitemiterator", "odict_iterator", "itertools.zip_longest", "itertools.pairwise"].contains n = false) (hQ : Q () s) : wpAny M A (letOwnedTupleGo tg (.ref it) u) Q E s := by
  unfold letOwnedTupleGo
  cases tg <;> first
    | exact wpAny_pure hQ
    | (cases u <;> first
        | exact wpAny_pure hQ
        | (refine wpAny_bind (wpAny_load ho ?_)
           rw [hc, hd]
           show wpAny M A (if (["enumerate", "zip", "dict_itemiterator", "dict_reverseitemiterator", "odict_iterator", "itertools.zip_longest", "itertools.pairwise"].contains n && vs[0]? == some (rawInt _)) = true then _ else _) Q E s
           rw [if_neg (by intro h; rw [hn, Bool.false_and] at h; cases h)]
           exact wpAny_pure hQ))
def Itl (K : PySem.W.Frag) (a : Addr) : It :=
  ⟨fun i H => ∃ xs x, SqL K H a xs ∧ xs[i]? = some x, fun i H x H' => H' = H ∧ ∀ xs, SqL K H a xs → xs[i]? = some x, fun i H => ∃ xs, SqL K H a xs ∧ xs.length ≤ i⟩
def Itt (K : PySem.W.Frag) (a : Addr) : It :=
  ⟨fun i H => ∃ xs x, SqT K H a xs ∧ xs[i]? = some x, fun i H x H' => H' = H ∧ ∀ xs, SqT K H a xs → xs[i]? = some x, fun i H => ∃ xs, SqT K H a xs ∧ xs.length ≤ i⟩
def Itr (lo : Int) (n : Nat) : It := ⟨fun i _ => i < n, fun i H x H' => H' = H ∧ x = .int (lo + i), fun i _ => n ≤ i⟩
theorem turn_list {P : Program} {w : World} {K : PySem.W.Frag} {tg : Expr} (a it : Addr) : Turn P w K tg (Itl K a) [it] it (fun i h => h.IsListIter it a i) where
  mem := by simp
  obj := fun i h st b hb => by
    have e : b = it := by simpa using hb
    subst e
    obtain ⟨o, e, c, d⟩ := st
    exact ⟨o, e, fun v z => by rw [d] at z; cases z⟩
  keep := fun i h h' st k => st.at fun o e => k it (by simp) o e
  item := by
    intro X hP hw hK hc i pins s σ H E I hf st hg
    subst hP hw hK
    obtain ⟨xs, x, hq, hx⟩ := hg
    obtain ⟨its, rv, p, hz⟩ := I.list hq
    obtain ⟨u, hu, ru⟩ := rv.get hx
    obtain ⟨f0, f1, f2, f3, f4, f5⟩ := hf it (by simp)
    refine wpAny_pyNext_list_item st p.isList (x := u) (by simpa using hu) fun h' st' sb => ?_
    have I1 : Inv X pins σ H { s with heap := h' } := I.turned (t' := s.toks) (fun b o hb e => (sb.2 b hb).trans e) f0 f1 f3 f4 f5
    obtain ⟨o, e, c, d⟩ := id st'
    exact ⟨u, rfl, go_of (s := { s with heap := h' }) e c d (by decide) ⟨x, H, I1, ru, ⟨rfl, fun ys hy => by rw [I.list_inj hy hq]; exact hx⟩, st', fun b hb => (hf b hb).1⟩⟩
  done := by
    intro X hP hw hK hc i pins s σ H E I hf st hg
    subst hP hw hK
    obtain ⟨xs, hq, hx⟩ := hg
    obtain ⟨its, rv, p, hz⟩ := I.list hq
    obtain ⟨f0, f1, f2, f3, f4, f5⟩ := hf it (by simp)
    have hl := rv.length
    exact wpAny_pyNext_list_end (I.ok.hd hc) st p.isList (by simp; omega) fun h' eb => ⟨rfl, I.turned (t' := s.toks) (fun b o hb e => eb b o hb e) f0 f1 f3 f4 f5⟩
  self := fun _ _ _ _ _ st h => wpAny_pyIter_listiter st h
theorem turn_tuple {P : Program} {w : World} {K : PySem.W.Frag} {tg : Expr} (a it : Addr) : Turn P w K tg (Itt K a) [it] it (fun i h => h.IsTupleIter it a i) where
  mem := by simp
  obj := fun i h st b hb => by
    have e : b = it := by simpa using hb
    subst e
    obtain ⟨o, e, c, d⟩ := st
    exact ⟨o, e, fun v z => by rw [d] at z; cases z⟩
  keep := fun i h h' st k => st.at fun o e => k it (by simp) o e
  item := by
    intro X hP hw hK hc i pins s σ H E I hf st hg
    subst hP hw hK
    obtain ⟨xs, x, hq, hx⟩ := hg
    obtain ⟨its, rv, p, hz⟩ := I.tuple hq
    obtain ⟨u, hu, ru⟩ := rv.get hx
    obtain ⟨f0, f1, f2, f3, f4, f5⟩ := hf it (by simp)
    refine wpAny_pyNext_tuple_item st (show s.heap.IsTuple a its.toArray from p) (x := u) (by simpa using hu) fun h' st' sb => ?_
    have I1 : Inv X pins σ H { s with heap := h' } := I.turned (t' := s.toks) (fun b o hb e => (sb.2 b hb).trans e) f0 f1 f3 f4 f5
    obtain ⟨o, e, c, d⟩ := id st'
    exact ⟨u, rfl, go_of (s := { s with heap := h' }) e c d (by decide) ⟨x, H, I1, ru, ⟨rfl, fun ys hy => by rw [I.tuple_inj hy hq]; exact hx⟩, st', fun b hb => (hf b hb).1⟩⟩
  done := by
    intro X hP hw hK hc i pins s σ H E I hf st hg
    subst hP hw hK
    obtain ⟨xs, hq, hx⟩ := hg
    obtain ⟨its, rv, p, hz⟩ := I.tuple hq
    obtain ⟨f0, f1, f2, f3, f4, f5⟩ := hf it (by simp)
    have hl := rv.length
    exact wpAny_pyNext_tuple_end (I.ok.hd hc) st (show s.heap.IsTuple a its.toArray from p) (by simp; omega) fun h' eb => ⟨rfl, I.turned (t' := s.toks) (fun b o hb e => eb b o hb e) f0 f1 f3 f4 f5⟩
  self := fun _ _ _ _ _ st h => wpAny_pyIter_tupleiter st h
theorem turn_range {P : Program} {w : World} {K : PySem.W.Frag} {tg : Expr} (it : Addr) (lo : Int) (n : Nat) : Turn P w K tg (Itr lo n) [it] it (fun i h => IsRangeIter h it (lo + (i : Nat) * 1) ((n : Int) - (i : Nat)) 1) where
  mem := by simp
  obj := fun i h st b hb => by
    have e : b = it := by simpa using hb
    subst e
    exact ⟨_, st, fun v z => by
      have z' : Data.fields _ = Data.cell v := z
      cases z'⟩
  keep := fun i h h' st k => k it (by simp) _ st
  item := by
    intro X hP hw hK hc i pins s σ H E I hf st hg
    subst hP hw hK
    obtain ⟨f0, f1, f2, f3, f4, f5⟩ := hf it (by simp)
    have W := Walks.range (prog := X.prog) (w := X.w) (I.ok.hd hc) it lo 1 n
    refine W.item i s _ _ hg st fun v h' tk hv st' kk => ?_
    obtain ⟨t, rfl⟩ := hv
    have I1 : Inv X pins σ H { s with heap := h', toks := tk } := I.turned (fun b o hb e => kk b o (by simpa using hb) e) f0 f1 f3 f4 f5
    refine ⟨_, rfl, go_of (s := { s with heap := h', toks := tk }) (n := "range_iterator") st' rfl rfl (by decide) ⟨.int (lo + i), H, I1, ⟨t, ?_⟩, ⟨rfl, rfl⟩, st', fun b hb => (hf b hb).1⟩⟩
    rw [Int.mul_one]
  done := by
    intro X hP hw hK hc i pins s σ H E I hf st hg
    subst hP hw hK
    obtain ⟨f0, f1, f2, f3, f4, f5⟩ := hf it (by simp)
    exact wpAny_pyNext_range_end (I.ok.hd hc) st (by have : n ≤ i := hg; omega) fun h' eb => ⟨rfl, I.turned (t' := s.toks) (fun b o hb e => eb b o hb e) f0 f1 f3 f4 f5⟩
  self := fun _ _ _ _ _ st h => wpAny_pyIter_rangeiter st h
end L2
namespace L2
open PySem PySem.Spec PyProof.Rows
section
variable {X : Cx} {tg : Expr}
theorem range_it {pins : List (Addr × Obj)} {σ : St} {H : Hp} {s : Shared} {R : It → Hp → Prop} {E : Value → Shared → Prop} {lo hi : Int} {t u v : Tok} {tk : Nat} (I : Inv X pins σ H s) (h1 : -(2 ^ 62) ≤ lo) (h2 : lo < 2 ^ 62) (h3 : -(2 ^ 62) ≤ hi) (h4 : hi < 2 ^ 62)
    (q : R (Itr lo (hi - lo).toNat) H) : wpAny (model X.prog X.w) X.A (pyIter (.ref s.heap.objs.size)) (PIE X pins σ tg R) E { s with heap := s.heap.push { cls := .type "range", data := .fields #[.int lo t, .int hi u, .int 1 v] }, toks := tk } := by
  refine wpAny_pyIter_range (IsRange.new ..) (small_one h1 h2 h3 h4) ?_
  have I1 : Inv X pins σ H { s with heap := s.heap.push { cls := .type "range", data := .fields #[.int lo t, .int hi u, .int 1 v] }, toks := tk } := I.kept fun b o e => Heap.get?_push_of_some _ e
  refine ⟨(s.heap.push { cls := .type "range", data := .fields #[.int lo t, .int hi u, .int 1 v] }).objs.size, [(s.heap.push { cls := .type "range", data := .fields #[.int lo t, .int hi u, .int 1 v] }).objs.size], _, _, H, rfl,
    I1.kept (t' := tk) fun b o e => Heap.get?_push_of_some _ e, turn_range _ lo (hi - lo).toNat, ?_, fun b hb => ?_, q⟩
  · have e1 : lo + ((0 : Nat) : Int) * 1 = lo := by simp
    have e2 : (((hi - lo).toNat : Nat) : Int) - ((0 : Nat) : Int) = Builtin.Range.rangeSize lo hi 1 := by rw [rangeSize_one]; split <;> omega
    show IsRangeIter _ _ (lo + ((0 : Nat) : Int) * 1) ((((hi - lo).toNat : Nat) : Int) - ((0 : Nat) : Int)) 1
    rw [e1, e2]
    exact Heap.get?_push_size _ rfl
  · have e : b = (s.heap.push { cls := .type "range", data := .fields #[.int lo t, .int hi u, .int 1 v] }).objs.size := by simpa using hb
    subst e
    exact I1.fpOk (Nat.le_refl _) (I1.hok.fresh (Nat.le_refl _))
def iRng1 (ta : TA) : TI := fun σ H R => ta σ H fun vs H1 => ∃ j : Int, vs = [.int j] ∧ -(2 ^ 62) ≤ j ∧ j < 2 ^ 62 ∧ R (Itr 0 j.toNat) H1
def iRng2 (ta : TA) : TI := fun σ H R => ta σ H fun vs H1 => ∃ i j : Int, vs = [.int i, .int j] ∧ (-(2 ^ 62) ≤ i ∧ i < 2 ^ 62 ∧ -(2 ^ 62) ≤ j ∧ j < 2 ^ 62) ∧ R (Itr i (j - i).toNat) H1
theorem pi_range1 {a : Expr} {ta : TA} {p pos : Pos} (hg : Gl X "range") (hm : X.mg "range" = none) (ha : PA X [a] ta) (hs : starEach [a] X.env = [(false, eval a X.env)] := by rfl) : PI X tg (.Call (.Name "range" p) [a] [] pos) (iRng1 ta) := by
  intro pins s σ H R I h
  refine Call_ (ld_blt I hg hm boot_range (PyProof.Rows.callWith_type1 (thn (ha pos pins s σ H _ I h) fun us s1 ⟨vs, H1, I1, r1, q1⟩ => ?_) hs rfl))
  obtain ⟨j, e, q1, q2, q⟩ := q1
  subst e
  cases r1 with
  | cons r rr =>
    cases rr
    obtain ⟨t, rfl⟩ := r
    exact call_range_1 (range_it I1 (by omega) (by omega) q1 q2 (by simpa using q))
theorem pi_range2 {a b : Expr} {ta : TA} {p pos : Pos} (hg : Gl X "range") (hm : X.mg "range" = none) (ha : PA X [a, b] ta) (hs : starEach [a, b] X.env = [(false, eval a X.env), (false, eval b X.env)] := by rfl) (hs2 : starEach [b] X.env = [(false, eval b X.env)] := by rfl) :
    PI X tg (.Call (.Name "range" p) [a, b] [] pos) (iRng2 ta) := by
  intro pins s σ H R I h
  refine Call_ (ld_blt I hg hm boot_range (PyProof.Rows.callWith_type1 (thn (ha pos pins s σ H _ I h) fun us s1 ⟨vs, H1, I1, r1, q1⟩ => ?_) (by rw [hs, hs2]) (by rw [hs2]; rfl)))
  obtain ⟨i, j, e, ⟨q1, q2, q3, q4⟩, q⟩ := q1
  subst e
  cases r1 with
  | cons r rr =>
    cases rr with
    | cons r' rr =>
      cases rr
      obtain ⟨t, rfl⟩ := r
      obtain ⟨t', rfl⟩ := r'
      exact call_range_2 (range_it I1 q1 q2 q3 q4 q)
def tFor (wi : TI) (g : TG) (tb : TS) : TS := fun D σ H => wi σ H fun J H1 => ∃ W : Nat → Nat → St → Hp → Prop, (∃ m, W 0 m σ H1) ∧ ∀ i m σ H, W i m σ H →
  (J.stop i H ∧ D.nx σ H) ∨ (J.go i H ∧ ∃ N : St → Hp → Prop, (∀ σ' H', N σ' H' → ∃ m', m' < m ∧ W (i + 1) m' σ' H') ∧ ∀ x H', J.yld i H x H' → g x σ H' fun σ2 H2 => tb { D with nx := N, ct := N, bk := D.nx } σ2 H2)
def pinsAt (fp : List Addr) (h : Heap) : List (Addr × Obj) := fp.filterMap fun b => (h.get? b).map fun o => (b, o)
theorem mem_pinsAt {fp : List Addr} {h : Heap} {b : Addr} {o : Obj} (hb : b ∈ fp) (e : h.get? b = some o) : (b, o) ∈ pinsAt fp h := List.mem_filterMap.mpr ⟨b, hb, by rw [e]; rfl⟩
theorem of_pinsAt {fp : List Addr} {h : Heap} {p : Addr × Obj} (hp : p ∈ pinsAt fp h) : p.1 ∈ fp ∧ h.get? p.1 = some p.2 := by
  obtain ⟨b, hb, e⟩ := List.mem_filterMap.mp hp
  cases q : h.get? b with
  | none => rw [q] at e; cases e
  | some o =>
    rw [q] at e
    have e' : (b, o) = p := Option.some.inj e
    subst e'
    exact ⟨hb, q⟩
theorem Inv.pinned {pins : List (Addr × Obj)} {σ : St} {H : Hp} {s : Shared} {fp : List Addr} (I : Inv X pins σ H s) (hf : ∀ b ∈ fp, FpOk X pins H b) (ho : ∀ b ∈ fp, ∃ o, s.heap.get? b = some o ∧ ∀ v, o.data ≠ .cell v) : Inv X (pins ++ pinsAt fp s.heap) σ H s :=
  I.pins_of fun p hp => (List.mem_append.mp hp).elim (fun z => I.pin p (List.mem_append_right _ z)) fun z => by
    obtain ⟨hb, e⟩ := of_pinsAt z
    obtain ⟨f0, f1, f2, _⟩ := hf p.1 hb
    obtain ⟨o, e', d⟩ := ho p.1 hb
    rw [e] at e'; cases e'
    exact ⟨e, f0, f1, f2, d⟩
theorem Inv.unpinned {pins pl : List (Addr × Obj)} {σ : St} {H : Hp} {s : Shared} (I : Inv X (pins ++ pl) σ H s) : Inv X pins σ H s := I.pins_of fun p hp => I.pin p (List.mem_append_right _ (List.mem_append_left _ hp))
theorem ps_for {iter : Expr} {body : List Stmt} {wi : TI} {g : TG} {tb : TS} {pos : Pos} (hp : PassesOwn (model X.prog X.w) X.A X.env X.xe) (hc : X.calm = true) (hi : PI X tg iter wi) (hg : PG X tg g) (hb : PSs X body tb)
    (hs : ∀ x, foldedSetIterable iter X.env x = pure x := by intro _; rfl) : PS X (.For tg iter body [] pos) (tFor wi g tb) := by
  intro pins s σ H D I h
  refine wpAny_For (thn (hi pins s σ H _ I h) fun v s1 h1 => thn h1 fun itv s2 h2 => ?_) hs
  obtain ⟨it, fp, tn, J, H2, e, I2, T, st2, f2, W, ⟨m0, w0⟩, turn⟩ := h2
  subst e
  have stat : ∀ {H' : Hp}, (∀ b ∈ fp, H' b = none) → ∀ b ∈ fp, FpOk X pins H' b := fun hn b hb => ⟨hn b hb, (f2 b hb).2⟩
  refine codeAny_forLoop_any (fun n s' => ∃ i σ' H', Inv X pins σ' H' s' ∧ tn i s'.heap ∧ (∀ b ∈ fp, H' b = none) ∧ W i n σ' H') ?_ m0 ⟨0, σ, H2, I2, st2, fun b hb => (f2 b hb).1, w0⟩
  rintro n s3 ⟨i, σ3, H3, I3, st3, fr3, w3⟩
  rcases turn i n σ3 H3 w3 with ⟨stop, qn⟩ | ⟨go, N, hN, step⟩
  · refine wpAny_passesOwn hp (thn (T.done X rfl rfl rfl hc i pins s3 σ3 H3 X.xe I3 (stat fr3) st3 stop) fun r s4 ⟨hr, I4⟩ => ?_)
    subst hr
    exact wpAny_execs_nil ⟨σ3, H3, I4, qn⟩
  · refine wpAny_passesOwn hp (thn (T.item X rfl rfl rfl hc i pins s3 σ3 H3 X.xe I3 (stat fr3) st3 go) fun r s4 ⟨u, hr, h4⟩ => ?_)
    subst hr
    refine wpAny_passesOwn hp (thn h4 fun _ s5 ⟨x, H5, I5, r5, y5, st5, fr5⟩ => ?_)
    have I5' := I5.pinned (stat fr5) (T.obj _ _ st5)
    refine wpAny_passesOwn hp (thn (hg _ s5 σ3 H5 x u _ I5' r5 (step x H5 y5)) fun _ s6 ⟨σ6, H6, I6, q6⟩ => ?_)
    refine wpAny_passesOwn hp (thn (hb _ s6 σ6 H6 _ I6 q6) fun f s7 q7 => ?_)
    have again : ∀ {σ7 : St} {H7 : Hp}, Inv X (pins ++ pinsAt fp s5.heap) σ7 H7 s7 → N σ7 H7 → ∃ m, m < n ∧ ∃ i σ' H', Inv X pins σ' H' s7 ∧ tn i s7.heap ∧ (∀ b ∈ fp, H' b = none) ∧ W i m σ' H' := fun {σ7 H7} I7 n7 => by
      obtain ⟨m', hm, w7⟩ := hN σ7 H7 n7
      refine ⟨m', hm, i + 1, σ7, H7, I7.unpinned, T.keep _ _ _ st5 fun b hb o e => (I7.pin (b, o) (List.mem_append_right _ (List.mem_append_right _ (mem_pinsAt hb e)))).1, fun b hb => ?_, w7⟩
      obtain ⟨o, e, d⟩ := T.obj _ _ st5 b hb
      exact (I7.pin (b, o) (List.mem_append_right _ (List.mem_append_right _ (mem_pinsAt hb e)))).2.1
    cases f with
    | next => obtain ⟨σ7, H7, I7, n7⟩ := q7; exact again I7 n7
    | cont => obtain ⟨σ7, H7, I7, n7⟩ := q7; exact again I7 n7
    | brk => obtain ⟨σ7, H7, I7, q7⟩ := q7; exact ⟨σ7, H7, I7.unpinned, q7⟩
    | ret v => obtain ⟨x7, σ7, H7, I7, r7, q7⟩ := q7; exact ⟨x7, σ7, H7, I7.unpinned, r7, q7⟩
end
end L2
namespace L2
open PySem PySem.Spec PyProof.Rows
abbrev R2 := V → V → Hp → VK → Prop
def OpR (X : Cx) (f : Value → Value → Sem Value) (r : R2) : Prop :=
  ∀ (pins : List (Addr × Obj)) (s : Shared) (σ : St) (H : Hp) (x y : V) (v u : Value) (Q : VK), Inv X pins σ H s → RelV x v → RelV y u → r x y H Q →
    wpAny (model X.prog X.w) X.A (f v u) (EP X pins σ Q) X.xe s
def UnR (X : Cx) (f : Value → Sem Value) (r : V → Hp → VK → Prop) : Prop :=
  ∀ (pins : List (Addr × Obj)) (s : Shared) (σ : St) (H : Hp) (x : V) (v : Value) (Q : VK), Inv X pins σ H s → RelV x v → r x H Q →
    wpAny (model X.prog X.w) X.A (f v) (EP X pins σ Q) X.xe s
def CallR (X : Cx) (f : Value) (r : List V → Hp → VK → Prop) : Prop :=
  ∀ (pins : List (Addr × Obj)) (s : Shared) (σ : St) (H : Hp) (xs : List V) (us : List Value) (Q : VK), Inv X pins σ H s → Vals xs us → r xs H Q →
    wpAny (model X.prog X.w) X.A (call f us) (EP X pins σ Q) X.xe s
def TruR (X : Cx) (r : V → Hp → (Bool → Hp → Prop) → Prop) : Prop :=
  ∀ (pins : List (Addr × Obj)) (s : Shared) (σ : St) (H : Hp) (x : V) (v : Value) (Q : Bool → Hp → Prop), Inv X pins σ H s → RelV x v → r x H Q →
    wpAny (model X.prog X.w) X.A (truthy v) (TP X pins σ Q) X.xe s
def tOp (r : R2) (ta tb : TE) : TE := fun σ H Q => ta σ H fun x H1 => tb σ H1 fun y H2 => r x y H2 Q
def tUn (r : V → Hp → VK → Prop) (ta : TE) : TE := fun σ H Q => ta σ H fun x H1 => r x H1 Q
def rI (C : Int → Int → Prop) (g : Int → Int → V) : R2 := fun x y H Q => ∃ i j, x = .int i ∧ y = .int j ∧ C i j ∧ Q (g i j) H
def rI0 (g : Int → Int → V) : R2 := fun x y H Q => ∃ i j, x = .int i ∧ y = .int j ∧ Q (g i j) H
def rU (g : Int → V) : V → Hp → VK → Prop := fun x H Q => ∃ i, x = .int i ∧ Q (g i) H
section
variable {X : Cx} {a b c : Expr} {ta tb tc : TE} {pos : Pos}
theorem binT (ha : PE X a ta) (hb : PE X b tb) {pins : List (Addr × Obj)} {s : Shared} {σ : St} {H : Hp} {R : V → V → Hp → Prop} (I : Inv X pins σ H s)
    (h : ta σ H fun x H1 => tb σ H1 fun y H2 => R x y H2) {Q : Value → Shared → Prop} {f : Value → Value → Sem Value}
    (hf : ∀ v u s2 x y H2, Inv X pins σ H2 s2 → RelV x v → RelV y u → R x y H2 → wpAny (model X.prog X.w) X.A (f v u) Q X.xe s2) :
    wpAny (model X.prog X.w) X.A (eval a X.env) (fun v s₁ => wpAny (model X.prog X.w) X.A (eval b X.env) (fun u s₂ => wpAny (model X.prog X.w) X.A (f v u) Q X.xe s₂) X.xe s₁) X.xe s := by
  refine thn (ha pins s σ H _ I h) fun v s1 ⟨x, H1, I1, r1, q1⟩ => ?_
  refine thn (hb pins s1 σ H1 _ I1 q1) fun u s2 ⟨y, H2, I2, r2, q2⟩ => ?_
  exact hf v u s2 x y H2 I2 r1 r2 q2
theorem pe_op {op : Operator} {r : R2} (ho : OpR X (binaryOp op) r) (ha : PE X a ta) (hb : PE X b tb) : PE X (.BinOp a op b pos) (tOp r ta tb) := by
  intro pins s σ H Q I h
  exact wpAny_BinOp (binT ha hb I h fun v u s2 x y H2 I2 rx ry q => ho pins s2 σ H2 x y v u Q I2 rx ry q)
theorem pe_un {op : UnaryOp} {r : V → Hp → VK → Prop} (ho : UnR X (unaryOp op) r) (ha : PE X a ta) : PE X (.UnaryOp op a pos) (tUn r ta) := by
  intro pins s σ H Q I h
  exact UnaryOp_ (thn (ha pins s σ H _ I h) fun v s1 ⟨x, H1, I1, r1, q1⟩ => ho pins s1 σ H1 x v Q I1 r1 q1)
theorem opI {f : Value → Value → Sem Value} {C : Int → Int → Prop} {g : Int → Int → Int}
    (rule : ∀ (i j : Int) (t u : Tok) (s : Shared) (Q : Value → Shared → Prop) (E : Value → Shared → Prop), C i j → Q (.int (g i j) s.toks) { s with toks := s.toks + 1 } → wpAny (model X.prog X.w) X.A (f (.int i t) (.int j u)) Q E s) :
    OpR X f (rI C fun i j => .int (g i j)) := by
  intro pins s σ H x y v u Q I rx ry h
  obtain ⟨i, j, rfl, rfl, hc, q⟩ := h
  obtain ⟨t, rfl⟩ := rx
  obtain ⟨t', rfl⟩ := ry
  exact rule i j t t' s _ _ hc ⟨.int (g i j), H, I.tok _, ⟨_, rfl⟩, q⟩
theorem opI0 {f : Value → Value → Sem Value} {g : Int → Int → Int}
    (rule : ∀ (i j : Int) (t u : Tok) (s : Shared) (Q : Value → Shared → Prop) (E : Value → Shared → Prop), Q (.int (g i j) s.toks) { s with toks := s.toks + 1 } → wpAny (model X.prog X.w) X.A (f (.int i t) (.int j u)) Q E s) :
    OpR X f (rI0 fun i j => .int (g i j)) := by
  intro pins s σ H x y v u Q I rx ry h
  obtain ⟨i, j, rfl, rfl, q⟩ := h
  obtain ⟨t, rfl⟩ := rx
  obtain ⟨t', rfl⟩ := ry
  exact rule i j t t' s _ _ ⟨.int (g i j), H, I.tok _, ⟨_, rfl⟩, q⟩
theorem opB0 {f : Value → Value → Sem Value} {g : Int → Int → Bool}
    (rule : ∀ (i j : Int) (t u : Tok) (s : Shared) (Q : Value → Shared → Prop) (E : Value → Shared → Prop), Q (.bool (g i j)) s → wpAny (model X.prog X.w) X.A (f (.int i t) (.int j u)) Q E s) :
    OpR X f (rI0 fun i j => .bl (g i j)) := by
  intro pins s σ H x y v u Q I rx ry h
  obtain ⟨i, j, rfl, rfl, q⟩ := h
  obtain ⟨t, rfl⟩ := rx
  obtain ⟨t', rfl⟩ := ry
  exact rule i j t t' s _ _ ⟨.bl (g i j), H, I, rfl, q⟩
def CPow (i j : Int) : Prop := 0 ≤ j ∧ j ≤ 1000000 ∧ i.natAbs < 2 ^ 64
def CMul (i j : Int) : Prop := (-(2 ^ 64) < i ∧ i < 2 ^ 64) ∨ (-(2 ^ 64) < j ∧ j < 2 ^ 64)
theorem CMul.ok {i j : Int} (h : CMul i j) : IntMulOk i j := by
  rcases h with ⟨h1, h2⟩ | ⟨h1, h2⟩
  · exact .of_left (intBits_le_64 h1 h2)
  · exact .of_right (intBits_le_64 h1 h2)
theorem op_add : OpR X (binaryOp .Add) (rI0 fun i j => .int (i + j)) := opI0 fun _ _ _ _ _ _ _ q => add_int q
theorem op_sub : OpR X (binaryOp .Sub) (rI0 fun i j => .int (i - j)) := opI0 fun _ _ _ _ _ _ _ q => sub_int q
theorem op_mod : OpR X (binaryOp .Mod) (rI (fun _ j => 0 < j) fun i j => .int (i % j)) := opI fun i j _ _ _ _ _ hc q => by
  have h1 : (0 : Int) < j := hc
  exact mod_int' (by omega) (by rw [Int.fmod_eq_emod_of_nonneg i (by omega)]; exact q)
theorem op_pow : OpR X (binaryOp .Pow) (rI CPow fun i j => .int (i ^ j.toNat)) := opI fun _ _ _ _ _ _ _ hc q => pow_int_small hc.1 hc.2.1 hc.2.2 q
theorem iop_add : OpR X (inplaceOp .Add) (rI0 fun i j => .int (i + j)) := opI0 fun _ _ _ _ _ _ _ q => iadd_int q
theorem unI {f : Value → Sem Value} {g : Int → Int}
    (rule : ∀ (i : Int) (t : Tok) (s : Shared) (Q : Value → Shared → Prop) (E : Value → Shared → Prop), Q (.int (g i) s.toks) { s with toks := s.toks + 1 } → wpAny (model X.prog X.w) X.A (f (.int i t)) Q E s) :
    UnR X f (rU fun i => .int (g i)) := by
  intro pins s σ H x v Q I rx h
  obtain ⟨i, rfl, q⟩ := h
  obtain ⟨t, rfl⟩ := rx
  exact rule i t s _ _ ⟨.int (g i), H, I.tok _, ⟨_, rfl⟩, q⟩
theorem un_neg : UnR X (unaryOp .USub) (rU fun i => .int (-i)) := unI fun _ _ _ _ _ q => neg_int q
end
def scal : V → V → Bool
  | .non, .non => true | .non, .int _ => true | .int _, .non => true | .non, .bl _ => true | .bl _, .non => true | .non, .str _ => true | .str _, .non => true
  | .int _, .int _ => true | .bl _, .bl _ => true | .str _, .str _ => true | .byt _, .byt _ => true
  | .int _, .str _ => true | .str _, .int _ => true | .bl _, .str _ => true | .str _, .bl _ => true
  | _, _ => false
def rEq : R2 := fun x y H Q => scal x y = true ∧ Q (.bl (decide (x = y))) H
def rNe : R2 := fun x y H Q => scal x y = true ∧ Q (.bl (!decide (x = y))) H
theorem dec_int {i j : Int} : decide (V.int i = V.int j) = (i == j) := by
  rw [Bool.eq_iff_iff]
  simp
theorem dec_bl {i j : Bool} : decide (V.bl i = V.bl j) = (i == j) := by
  rw [Bool.eq_iff_iff]
  simp
theorem dec_str {i j : Str} : decide (V.str i = V.str j) = (i == j) := by
  rw [Bool.eq_iff_iff]
  simp
theorem dec_byt {i j : Array UInt8} : decide (V.byt i = V.byt j) = (i.toList == j.toList) := by
  rw [Bool.eq_iff_iff]
  cases i
  cases j
  simp
section
variable {X : Cx} {a b c : Expr} {ta tb tc : TE} {pos : Pos}
theorem fin_bl {pins : List (Addr × Obj)} {σ : St} {H : Hp} {s : Shared} {Q : VK} {k k' : Bool} (I : Inv X pins σ H s) (q : Q (.bl k) H) (e : k = k') : EP X pins σ Q (.bool k') s := by
  subst e
  exact ⟨.bl k, H, I, rfl, q⟩
theorem op_eq : OpR X (compareOp .Eq) rEq := by
  intro pins s σ H x y v u Q I rx ry h
  obtain ⟨hs, q⟩ := h
  cases x with
  | non =>
    cases rx
    cases y with
    | non => cases ry; exact PySem.EqNone.eq_none_none (fin_bl I q (by simp))
    | bl j => cases ry; exact PySem.EqNone.eq_none_bool (fin_bl I q (by simp))
    | int j => obtain ⟨t', rfl⟩ := ry; exact PySem.EqNone.eq_none_int (fin_bl I q (by simp))
    | str j => obtain ⟨t', rfl⟩ := ry; exact PySem.EqNone.eq_none_str (fin_bl I q (by simp))
    | _ => exact absurd (show false = true from hs) Bool.false_ne_true
  | bl i =>
    cases rx
    cases y with
    | non => cases ry; exact PySem.EqNone.eq_bool_none (fin_bl I q (by simp))
    | bl j => cases ry; exact eq_bool (fin_bl I q dec_bl)
    | str j => obtain ⟨t', rfl⟩ := ry; exact PySem.EqMixed.eq_bool_str (fin_bl I q (by simp))
    | _ => exact absurd (show false = true from hs) Bool.false_ne_true
  | int i =>
    obtain ⟨t, rfl⟩ := rx
    cases y with
    | non => cases ry; exact PySem.EqNone.eq_int_none (fin_bl I q (by simp))
    | int j => obtain ⟨t', rfl⟩ := ry; exact eq_int (fin_bl I q dec_int)
    | str j => obtain ⟨t', rfl⟩ := ry; exact PySem.EqMixed.eq_int_str (fin_bl I q (by simp))
    | _ => exact absurd (show false = true from hs) Bool.false_ne_true
  | str i =>
    obtain ⟨t, rfl⟩ := rx
    cases y with
    | non => cases ry; exact PySem.EqNone.eq_str_none (fin_bl I q (by simp))
    | bl j => cases ry; exact PySem.EqMixed.eq_str_bool (fin_bl I q (by simp))
    | int j => obtain ⟨t', rfl⟩ := ry; exact PySem.EqMixed.eq_str_int (fin_bl I q (by simp))
    | str j => obtain ⟨t', rfl⟩ := ry; exact eq_str (fin_bl I q dec_str)
    | _ => exact absurd (show false = true from hs) Bool.false_ne_true
  | byt i =>
    obtain ⟨t, rfl⟩ := rx
    cases y with
    | byt j => obtain ⟨t', rfl⟩ := ry; exact PySem.W.eq_bytes (fin_bl I q dec_byt)
    | _ => exact absurd (show false = true from hs) Bool.false_ne_true
  | _ => cases y <;> exact absurd (show false = true from hs) Bool.false_ne_true
theorem op_ne : OpR X (compareOp .NotEq) rNe := by
  intro pins s σ H x y v u Q I rx ry h
  obtain ⟨hs, q⟩ := h
  cases x with
  | non =>
    cases rx
    cases y with
    | non => cases ry; exact PySem.EqNone.ne_none_none (fin_bl I q (by simp))
    | bl j => cases ry; exact PySem.EqNone.ne_none_bool (fin_bl I q (by simp))
    | int j => obtain ⟨t', rfl⟩ := ry; exact PySem.EqNone.ne_none_int (fin_bl I q (by simp))
    | str j => obtain ⟨t', rfl⟩ := ry; exact PySem.EqNone.ne_none_str (fin_bl I q (by simp))
    | _ => exact absurd (show false = true from hs) Bool.false_ne_true
  | bl i =>
    cases rx
    cases y with
    | non => cases ry; exact PySem.EqNone.ne_bool_none (fin_bl I q (by simp))
    | bl j => cases ry; exact ne_bool (fin_bl I q (congrArg not dec_bl))
    | str j => obtain ⟨t', rfl⟩ := ry; exact PySem.EqMixed.ne_bool_str (fin_bl I q (by simp))
    | _ => exact absurd (show false = true from hs) Bool.false_ne_true
  | int i =>
    obtain ⟨t, rfl⟩ := rx
    cases y with
    | non => cases ry; exact PySem.EqNone.ne_int_none (fin_bl I q (by simp))
    | int j => obtain ⟨t', rfl⟩ := ry; exact ne_int (fin_bl I q (congrArg not dec_int))
    | str j => obtain ⟨t', rfl⟩ := ry; exact PySem.EqMixed.ne_int_str (fin_bl I q (by simp))
    | _ => exact absurd (show false = true from hs) Bool.false_ne_true
  | str i =>
    obtain ⟨t, rfl⟩ := rx
    cases y with
    | non => cases ry; exact PySem.EqNone.ne_str_none (fin_bl I q (by simp))
    | bl j => cases ry; exact PySem.EqMixed.ne_str_bool (fin_bl I q (by simp))
    | int j => obtain ⟨t', rfl⟩ := ry; exact PySem.EqMixed.ne_str_int (fin_bl I q (by simp))
    | str j => obtain ⟨t', rfl⟩ := ry; exact ne_str (fin_bl I q (congrArg not dec_str))
    | _ => exact absurd (show false = true from hs) Bool.false_ne_true
  | byt i =>
    obtain ⟨t, rfl⟩ := rx
    cases y with
    | byt j => obtain ⟨t', rfl⟩ := ry; exact PySem.W.ne_bytes (fin_bl I q (congrArg not dec_byt))
    | _ => exact absurd (show false = true from hs) Bool.false_ne_true
  | _ => cases y <;> exact absurd (show false = true from hs) Bool.false_ne_true
theorem op_lt : OpR X (compareOp .Lt) (rI0 fun i j => .bl (decide (i < j))) := opB0 fun _ _ _ _ _ _ _ q => lt_int q
theorem op_gt : OpR X (compareOp .Gt) (rI0 fun i j => .bl (decide (j < i))) := opB0 fun _ _ _ _ _ _ _ q => gt_int q
theorem op_ge : OpR X (compareOp .GtE) (rI0 fun i j => .bl (decide (j ≤ i))) := opB0 fun _ _ _ _ _ _ _ q => ge_int q
theorem op_in_str : OpR X (compareOp .In) (fun x y H Q => ∃ i j, x = .str i ∧ y = .str j ∧ Q (.bl (!(Builtin.Str.occurrences j i 0 j.length 1).isEmpty)) H) := by
  intro pins s σ H x y v u Q I rx ry h
  obtain ⟨i, j, rfl, rfl, q⟩ := h
  obtain ⟨t, rfl⟩ := rx
  obtain ⟨t', rfl⟩ := ry
  exact in_str (fin_bl I q rfl)
theorem op_notN : OpR X (compareOp .IsNot) (fun x y H Q => y = .non ∧ Q (.bl (!decide (x = .non))) H) := by
  intro pins s σ H x y v u Q I rx ry h
  obtain ⟨rfl, q⟩ := h
  cases ry
  refine isnot_none_gen (fin_bl I q ?_)
  cases x <;> first
    | (cases rx; rfl)
    | (obtain ⟨t, rfl⟩ := rx; rfl)
theorem OpR.or {f : Value → Value → Sem Value} {r r' : R2} (h : OpR X f r) (h' : OpR X f r') : OpR X f (fun x y H Q => r x y H Q ∨ r' x y H Q) := by
  intro pins s σ H x y v u Q I rx ry q
  rcases q with q | q
  · exact h pins s σ H x y v u Q I rx ry q
  · exact h' pins s σ H x y v u Q I rx ry q
theorem nomark (b : Expr) {op : CmpOp} (h : op ≠ .In := by decide) (h2 : op ≠ .NotIn := by decide) : behindInMarks op b = false := by
  have e1 : (op == CmpOp.In) = false := by cases op <;> first | rfl | exact absurd rfl h
  have e2 : (op == CmpOp.NotIn) = false := by cases op <;> first | rfl | exact absurd rfl h2
  cases b <;> simp [behindInMarks, e1, e2]
theorem pe_cmpR {op : CmpOp} {r : R2} (ho : OpR X (compareOp op) r) (ha : PE X a ta) (hb : PE X b tb) (hm : behindInMarks op b = false) : PE X (.Compare a [op] [b] pos) (tOp r ta tb) := by
  intro pins s σ H Q I h
  exact wpAny_Compare1 (binT ha hb I h fun v u s2 x y H2 I2 rx ry q => ho pins s2 σ H2 x y v u Q I2 rx ry q) hm
def tTest (t : TE) : TT := fun σ H Q => t σ H fun x H' => ∃ k, x = .bl k ∧ Q k H'
theorem pt_cmpR {op : CmpOp} {r : R2} (ho : OpR X (compareOp op) r) (ha : PE X a ta) (hb : PE X b tb) (hm : behindInMarks op b = false) : PT X (.Compare a [op] [b] pos) (tTest (tOp r ta tb)) := by
  intro pins s σ H Q I h
  refine wpAny_isTrue_Compare1 (thn (ha pins s σ H _ I h) fun v s1 ⟨x, H1, I1, r1, q1⟩ => thn (hb pins s1 σ H1 _ I1 q1) fun u s2 ⟨y, H2, I2, r2, q2⟩ =>
    thn (ho pins s2 σ H2 x y v u _ I2 r1 r2 q2) fun c s3 ⟨z, H3, I3, r3, k, e, q3⟩ => ?_) hm
  subst e
  cases r3
  exact wpAny_truthy_bool ⟨H3, I3, q3⟩
def tChain (r r' : R2) (ta tb tc : TE) : TE := fun σ H Q => ta σ H fun x H1 => tb σ H1 fun y H2 => r x y H2 fun z H3 => ∃ k, z = .bl k ∧
  (if k = true then tc σ H3 fun w' H4 => r' y w' H4 Q else Q (.bl false) H3)
def TruV (K : PySem.W.Frag) (x : V) (H : Hp) (k : Bool) : Prop :=
  match x with
  | .non => k = false
  | .bl b => k = b
  | .int i => k = (i != 0)
  | .str y => y.length ≤ sizeLine ∧ k = ((y.length : Int) != 0)
  | .byt y => y.size ≤ sizeLine ∧ k = ((y.size : Int) != 0)
  | .ref p => (∃ xs, SqL K H p xs ∧ k = !xs.isEmpty) ∨ (∃ xs, SqT K H p xs ∧ k = !xs.isEmpty) ∨ ∃ kvs, H p = some (.dK kvs) ∧ k = !kvs.isEmpty
  | _ => False
theorem isEmpty_kv {κ : Type} {kvs : List (κ × V)} {vs : List (κ × Value)} (r : KV kvs vs) : (!vs.isEmpty) = !kvs.isEmpty := by
  cases r <;> rfl
theorem isEmpty_of {xs : List V} {its : List Value} (r : Vals xs its) : (!its.toArray.isEmpty) = !xs.isEmpty := by
  cases r <;> simp
theorem line63 : (sizeLine : Nat) < 2 ^ 63 := by rw [sizeLine_eq]; decide
theorem tru_ok : TruR X (fun x H Q => ∃ k, TruV X.K x H k ∧ Q k H) := by
  intro pins s σ H x v Q I rx h
  obtain ⟨k, e, q⟩ := h
  have hl := line63
  have hs : sizeLine = 16777216 := sizeLine_eq
  cases x with
  | non =>
    cases rx
    have e' : k = false := e
    subst e'
    exact truthy_none ⟨H, I, q⟩
  | bl b =>
    cases rx
    have e' : k = b := e
    subst e'
    exact wpAny_truthy_bool ⟨H, I, q⟩
  | int i =>
    obtain ⟨t, rfl⟩ := rx
    have e' : k = (i != 0) := e
    subst e'
    exact PySem.P.truthy_int ⟨H, I, q⟩
  | str y =>
    obtain ⟨t, rfl⟩ := rx
    obtain ⟨hy, e'⟩ : y.length ≤ sizeLine ∧ k = ((y.length : Int) != 0) := e
    subst e'
    exact PySem.P.truthy_str (by omega) ⟨H, I.tok _, q⟩
  | byt y =>
    obtain ⟨t, rfl⟩ := rx
    obtain ⟨hy, e'⟩ : y.size ≤ sizeLine ∧ k = ((y.size : Int) != 0) := e
    subst e'
    exact PySem.W.truthy_bytes (by omega) ⟨H, I.tok _, q⟩
  | ref p =>
    cases rx
    have e' : (∃ xs, SqL X.K H p xs ∧ k = !xs.isEmpty) ∨ (∃ xs, SqT X.K H p xs ∧ k = !xs.isEmpty) ∨ ∃ kvs, H p = some (.dK kvs) ∧ k = !kvs.isEmpty := e
    rcases e' with ⟨xs, hx, e'⟩ | ⟨xs, hx, e'⟩ | ⟨kvs, hx, e'⟩
    · subst e'
      obtain ⟨its, r, pl, hz⟩ := I.list hx
      have hlen := r.length
      exact wpAny_truthy_list pl.isList (by simp only [List.size_toArray]; omega) ⟨H, I.tok _, by rw [isEmpty_of r]; exact q⟩
    · subst e'
      obtain ⟨its, r, pl, hz⟩ := I.tuple hx
      have hlen := r.length
      exact truthy_tuple pl (by simp only [List.size_toArray]; omega) ⟨H, I.tok _, by rw [isEmpty_of r]; exact q⟩
    · subst e'
      obtain ⟨hz, hS, vs, r, m⟩ : kvs.length ≤ sizeLine ∧ (p == sysModules) = false ∧ ∃ vs, KV kvs vs ∧ s.heap.DictOf (mixKind X.prog X.w) p vs := I.hok p _ hx
      have hlen : kvs.length = vs.length := Paired.length r
      exact wpAny_truthy_dict hS m (by omega) ⟨H, I.tok _, by rw [isEmpty_kv r]; exact q⟩
  | _ => exact (show False from e).elim
theorem vals1 {x : V} {us : List Value} (r : Vals [x] us) : ∃ u, us = [u] ∧ RelV x u := by
  cases r with
  | cons r1 r2 => cases r2; exact ⟨_, rfl, r1⟩
theorem vals2 {x y : V} {us : List Value} (r : Vals [x, y] us) : ∃ u w', us = [u, w'] ∧ RelV x u ∧ RelV y w' := by
  cases r with
  | cons r1 r2 =>
    cases r2 with
    | cons r3 r4 => cases r4; exact ⟨_, _, rfl, r1, r3⟩
theorem call_max2 (hc : X.calm = true) : CallR X (.builtin "max") (fun xs H Q => ∃ i j, xs = [.int i, .int j] ∧ Q (.int (if j > i then j else i)) H) := by
  intro pins s σ H xs us Q I r h
  obtain ⟨i, j, rfl, q⟩ := h
  obtain ⟨u, w', rfl, ⟨t, rfl⟩, ⟨t', rfl⟩⟩ := vals2 r
  refine max_two_ints (I.ok.hd hc) fun h' tk k => ⟨_, H, I.kept k, ?_, q⟩
  by_cases hj : j > i
  · rw [if_pos hj, if_pos hj]; exact ⟨_, rfl⟩
  · rw [if_neg hj, if_neg hj]; exact ⟨_, rfl⟩
theorem call_min2 (hc : X.calm = true) : CallR X (.builtin "min") (fun xs H Q => ∃ i j, xs = [.int i, .int j] ∧ Q (.int (if j < i then j else i)) H) := by
  intro pins s σ H xs us Q I r h
  obtain ⟨i, j, rfl, q⟩ := h
  obtain ⟨u, w', rfl, ⟨t, rfl⟩, ⟨t', rfl⟩⟩ := vals2 r
  refine min_two_ints (I.ok.hd hc) fun h' tk k => ⟨_, H, I.kept k, ?_, q⟩
  by_cases hj : j < i
  · rw [if_pos hj, if_pos hj]; exact ⟨_, rfl⟩
  · rw [if_neg hj, if_neg hj]; exact ⟨_, rfl⟩
theorem call_int1 : CallR X (.type "int") (fun xs H Q => (∃ i, xs = [.int i] ∧ Q (.int i) H) ∨ ∃ k, xs = [.bl k] ∧ Q (.int (if k then 1 else 0)) H) := by
  intro pins s σ H xs us Q I r h
  rcases h with ⟨i, rfl, q⟩ | ⟨k, rfl, q⟩
  · obtain ⟨u, rfl, t, rfl⟩ := vals1 r
    exact call_int_int ⟨.int i, H, I, ⟨_, rfl⟩, q⟩
  · obtain ⟨u, rfl, r1⟩ := vals1 r
    cases r1
    exact call_int_bool ⟨.int (if k then 1 else 0), H, I.tok _, ⟨_, rfl⟩, q⟩
end
end L2
namespace L2
open PySem PySem.Spec PyProof.Rows
structure ObjM (h : Heap) (x dx C : Addr) (mA : Str → Option Value) : Prop where
  obj : h.get? x = some (PySem.W.instObj C dx)
  ns : h.Ns1 dx mA
  ne : dx ≠ x
theorem lookIn_ns {h : Heap} {dx : Addr} {mA : Str → Option Value} (n : h.Ns1 dx mA) : ∃ od, h.get? dx = some od ∧ ∀ name, PySem.W.lookIn name od = some (mA name) := by
  obtain ⟨o, es, ep, ho, hd, hk, _, hm⟩ := n
  refine ⟨o, ho, fun name => ?_⟩
  have e := hm name
  unfold nsFind findBy at e
  rw [← Array.find?_toList] at e
  unfold PySem.W.lookIn
  rw [hd]
  dsimp only
  split
  · rename_i y q
    rw [q] at e
    exact congrArg some e
  · rename_i q
    rw [q] at e
    have a : es.toList.any (·.refKey) = false := by
      rw [List.any_eq_false]
      intro y hy
      obtain ⟨z, t, hkey⟩ := hk y (Array.mem_toList_iff.mp hy)
      simp [DictEntry.refKey, hkey]
    have a' : ¬ es.toList.any (·.refKey) = true := by rw [a]; exact Bool.false_ne_true
    rw [if_neg a']
    exact congrArg some e
theorem ObjM.look {h : Heap} {x dx C : Addr} {mA : Str → Option Value} (I : ObjM h x dx C mA) : ∃ od, PySem.W.InstAt h x (PySem.W.instObj C dx) C (some od) ∧ ∀ name, PySem.W.lookIn name od = some (mA name) :=
  let ⟨od, ho, hl⟩ := lookIn_ns I.ns
  ⟨od, ⟨I.obj, rfl, rfl, ho⟩, hl⟩
section
variable {prog : Program} {w : World} {A : Around} {E : Value → Shared → Prop} {s : Shared} {K : PySem.W.Frag} {x dx C f : Addr} {mA : Str → Option Value} {name : Str} {v : Value}
end
theorem RelO.some_of {v : V} {o : Option Value} (r : RelO (some v) o) : ∃ u, o = some u ∧ RelV v u := by
  cases o with
  | none => exact (show False from r).elim
  | some u => exact ⟨u, rfl, r⟩
section
variable {P : Program} {w : World} {H H' : Hp} {h h' : Heap} {a C dx : Addr} {fs fs' : List (Str × V)}
theorem ins_get (hok : HOk P w H h) (e : H a = some (.ins C dx fs)) : ∃ mA, ObjM h a dx C mA ∧ (∀ f, RelO (fs.lookup f) (mA f)) ∧ PySem.Within mA (fs.map (·.1)) ∧ fs.length ≤ 1000 ∧ H dx = some (.own a) := by
  obtain ⟨d, z, ne, ob, mA, n, r, q⟩ := (show ObjOk P w H h a (.ins C dx fs) from hok a _ e)
  exact ⟨mA, ⟨ob, n, ne⟩, r, q, z, d⟩
end
structure Cls (K : PySem.W.Frag) (C : Addr) : Prop where
  pg : PySem.W.plainGet K C Str.empty = true
  hd : PySem.W.hasDictIn K C = true
  po : PySem.W.plainOver K C = true
  sa : PySem.W.findIn K (.ref C) "__setattr__" = some (some (.builtin "object.__setattr__"))
theorem Cls.get {K : PySem.W.Frag} {C : Addr} (c : Cls K C) (f : Str) : PySem.W.plainGet K C f = true := c.pg
def NoAttr (K : PySem.W.Frag) (C : Addr) (f : Str) : Prop := PySem.W.findIn K (.ref C) f = some none
theorem NoAttr.taker {K : PySem.W.Frag} {C : Addr} {f : Str} (n : NoAttr K C f) : PySem.W.takerIn K C f = some none := by
  unfold PySem.W.takerIn
  rw [show PySem.W.findIn K (.ref C) f = some none from n]
  rfl
section
variable {X : Cx} {pins : List (Addr × Obj)} {σ : St} {H : Hp} {s : Shared} {a C dx : Addr} {fs : List (Str × V)} {f : Str} {v : V} {A : Around} {E : Value → Shared → Prop}
end
section
variable {X : Cx} {o e value : Expr} {f : Str} {pos pos' tpos : Pos} {ta tv : TE}
end
section
variable {X : Cx} {pins : List (Addr × Obj)} {σ : St} {H : Hp} {s : Shared} {A : Around} {E : Value → Shared → Prop} {Q : Value → Shared → Prop} {c : Value} {b : Bool}
inductive TyOf (K : PySem.W.Frag) (H : Hp) : V → Value → Prop where
  | non : TyOf K H .non (.type "NoneType")
  | bl (x : Bool) : TyOf K H (.bl x) (.type "bool")
  | int (i : Int) : TyOf K H (.int i) (.type "int")
  | str (x : Str) : TyOf K H (.str x) (.type "str")
  | flt (x : UInt64) : TyOf K H (.flt x) (.type "float")
  | lst {a : Addr} {xs : List V} (e : H a = some (.lst xs)) : TyOf K H (.ref a) (.type "list")
  | frz {a : Addr} {o : Obj} {xs : List V} (e : H a = some (.frz o (.lst xs))) : TyOf K H (.ref a) (.type "list")
  | tup {a : Addr} {xs : List V} (e : H a = some (.tup xs)) : TyOf K H (.ref a) (.type "tuple")
  | dK {a : Addr} {kvs : List (Key × V)} (e : H a = some (.dK kvs)) : TyOf K H (.ref a) (.type "dict")
  | dT {a : Addr} {kvs : List (List Key × V)} (e : H a = some (.dT kvs)) : TyOf K H (.ref a) (.type "dict")
  | ins {a C dx : Addr} {fs : List (Str × V)} (e : H a = some (.ins C dx fs)) (cl : Cls K C) (ha : PySem.W.findIn K (.ref C) "__class__" = some (some (.builtin "object.__class__")))
      (hn : PySem.W.specialIn K (.builtin "object.__class__") "__get__" = some (some (.builtin "getset_descriptor.__get__"))) (htk : PySem.W.takesIn K (.builtin "object.__class__") = some true)
      (hm : PySem.W.mroIn K C (.type "object") = some true) : TyOf K H (.ref a) (.ref C)
theorem isinst_ok {x : V} {u t : Value} (I : Inv X pins σ H s) (rx : RelV x u) (ty : TyOf X.K H x t) (e : PySem.W.kitOne X.K t c = some b) (h : ∀ tk, Q (.bool b) { s with toks := tk }) :
    wpAny (model X.prog X.w) A (call (.builtin "isinstance") [u, c]) Q E s := by
  cases ty with
  | non => cases (show u = Value.none from rx); exact PySem.W.kia_one PySem.W.kitx_none I.kIn True.intro e (fun z => nomatch z) h
  | bl y => cases (show u = Value.bool y from rx); exact PySem.W.kia_one PySem.W.kitx_bool I.kIn True.intro e (fun z => nomatch z) h
  | int i => obtain ⟨t, q⟩ := (show ∃ t, u = Value.int i t from rx); cases q; exact PySem.W.kia_one PySem.W.kitx_int I.kIn True.intro e (fun z => nomatch z) h
  | str y => obtain ⟨t, q⟩ := (show ∃ t, u = Value.str y t from rx); cases q; exact PySem.W.kia_one PySem.W.kitx_str I.kIn True.intro e (fun z => nomatch z) h
  | flt y => obtain ⟨t, q⟩ := (show ∃ t, u = Value.float y t from rx); cases q; exact PySem.W.kia_one PySem.W.kitx_float I.kIn True.intro e (fun z => nomatch z) h
  | @lst a xs ea =>
    cases (show u = Value.ref a from rx)
    obtain ⟨_, _, n, _, h1⟩ := (show ObjOk X.prog X.w H s.heap a (.lst xs) from I.hok a _ ea)
    exact PySem.W.kia_one PySem.W.kitx_list I.kIn ⟨_, h1, rfl⟩ e (fun z => nomatch z) h
  | @frz a ob xs ea =>
    cases (show u = Value.ref a from rx)
    obtain ⟨_, _, _, n, _, h1⟩ := (show ObjOk X.prog X.w H s.heap a (.frz ob (.lst xs)) from I.hok a _ ea)
    exact PySem.W.kia_one PySem.W.kitx_list I.kIn ⟨_, h1, rfl⟩ e (fun z => nomatch z) h
  | @tup a xs ea =>
    cases (show u = Value.ref a from rx)
    obtain ⟨_, _, _, p⟩ := (show ObjOk X.prog X.w H s.heap a (.tup xs) from I.hok a _ ea)
    obtain ⟨o, h1, h2, _⟩ := p
    exact PySem.W.kia_one PySem.W.kitx_tuple I.kIn ⟨o, h1, h2⟩ e (fun z => nomatch z) h
  | @dK a kvs ea =>
    cases (show u = Value.ref a from rx)
    obtain ⟨_, _, vs, _, p⟩ := (show ObjOk X.prog X.w H s.heap a (.dK kvs) from I.hok a _ ea)
    obtain ⟨o, es, ep, h1, h2, _⟩ := p
    exact PySem.W.kia_one PySem.W.kitx_dict I.kIn ⟨o, h1, h2.1⟩ e (fun z => nomatch z) h
  | @dT a kvs ea =>
    cases (show u = Value.ref a from rx)
    obtain ⟨_, _, xs, _, o, es, ep, h1, h2, _⟩ := (show ObjOk X.prog X.w H s.heap a (.dT kvs) from I.hok a _ ea)
    exact PySem.W.kia_one PySem.W.kitx_dict I.kIn ⟨o, h1, h2.1⟩ e (fun z => nomatch z) h
  | @ins a C dx fs ea cl ha hn htk hm =>
    cases (show u = Value.ref a from rx)
    obtain ⟨mA, O, _⟩ := ins_get I.hok ea
    obtain ⟨od, J, _⟩ := O.look
    exact PySem.W.kia_one (PySem.W.kitx_own (cl.get _) cl.hd ha hn htk hm) I.kIn J e (fun z => nomatch z) h
end
end L2
namespace L2
open PySem PySem.Spec PyProof.Rows
structure Room (k : Nat) (A : Around) : Prop where
  hd : A.handled = none
  dp : A.depth + 3 * k + 5 < recursionLimit
  un : A.units + 16 * k + 200 < cLine
theorem Room.mono {j k : Nat} {A : Around} (r : Room k A) (h : j ≤ k) : Room j A := ⟨r.hd, by have := r.dp; omega, by have := r.un; omega⟩
theorem Room.deeper {k : Nat} {A : Around} (r : Room (k + 1) A) (env : Env) : Room k (A.deeper env) :=
  ⟨r.hd, by have := r.dp; show A.depth + 1 + 3 * k + 5 < _; omega, by have := r.un; show A.units + 3 + 16 * k + 200 < _; omega⟩
theorem Room.in1 {k : Nat} {A : Around} (r : Room (k + 1) A) : Room k A.in1 :=
  ⟨r.hd, by have := r.dp; show A.depth + 3 * k + 5 < _; omega, by have := r.un; show A.units + 1 + 16 * k + 200 < _; omega⟩
theorem Room.depth {k : Nat} {A : Around} (r : Room k A) : A.depth < recursionLimit := by have := r.dp; omega
theorem Room.units {k : Nat} {A : Around} (r : Room k A) : A.units + 64 < cLine := by have := r.un; omega
def tNil : TA := fun _ H Q => Q [] H
def tCons (ta : TE) (tr : TA) : TA := fun σ H Q => ta σ H fun x H1 => tr σ H1 fun xs H2 => Q (x :: xs) H2
section
variable {X : Cx} {e : Expr} {es : List Expr} {te : TE} {t : TA} {pos : Pos}
theorem pa_nil : PA X [] tNil := fun _ _ _ _ H Q I h => Calls.spliced_nil ⟨[], H, I, .nil, h⟩
theorem pa_cons (ha : PE X e te) (hr : PA X es t) (hs : starEach (e :: es) X.env = (false, eval e X.env) :: starEach es X.env := by rfl) : PA X (e :: es) (tCons te t) := by
  intro pos pins s σ H Q I h
  rw [hs]
  show wpAny _ _ (spliced ((false, eval e X.env) :: backTo pos (starEach es X.env))) _ _ s
  refine Calls.spliced_cons (thn (ha pins s σ H _ I h) fun u s1 ⟨x, H1, I1, r1, q1⟩ => ?_)
  exact thn (hr pos pins s1 σ H1 _ I1 q1) fun us s2 ⟨xs, H2, I2, r2, q2⟩ => ⟨x :: xs, H2, I2, .cons r1 r2, q2⟩
def tTup (t : TA) : TE := fun σ H Q => t σ H fun xs H1 => xs.length ≤ sizeLine ∧ ∀ p, H1 p = none → Q (.ref p) (upd H1 p (.tup xs))
def tLst (t : TA) : TE := fun σ H Q => t σ H fun xs H1 => xs.length ≤ sizeLine ∧ ∀ p, H1 p = none → Q (.ref p) (upd H1 p (.lst xs))
theorem pe_tup {x1} (h : PA X es t) : PE X (.Tuple es x1 pos) (tTup t) := by
  intro pins s σ H Q I hq
  refine wpAny_Tuple_spliced (thn (h pos pins s σ H _ I hq) fun us s1 ⟨xs, H1, I1, r, z, q⟩ => ⟨by rw [← r.length]; exact z, ?_⟩)
  have hf : H1 s1.heap.objs.size = none := I1.hok.fresh (Nat.le_refl _)
  refine ⟨.ref s1.heap.objs.size, upd H1 s1.heap.objs.size (.tup xs), I1.laid (t' := s1.toks) (fun b u e => Heap.get?_push_of_some _ e) (Nat.le_refl _) ?_, rfl, q _ hf⟩
  exact ⟨z, us, r, ⟨_, Heap.get?_push_size _ rfl, rfl, _, rfl⟩⟩
theorem pe_lst (h : PA X es t) : PE X (.List es pos) (tLst t) := by
  intro pins s σ H Q I hq
  refine wpAny_List_spliced (thn (h pos pins s σ H _ I hq) fun us s1 ⟨xs, H1, I1, r, z, q⟩ => ⟨by rw [← r.length]; exact z, ?_⟩)
  have hf : H1 s1.heap.objs.size = none := I1.hok.fresh (Nat.le_refl _)
  refine ⟨.ref s1.heap.objs.size, upd H1 s1.heap.objs.size (.lst xs), I1.laid (t' := s1.toks) (fun b u e => Heap.get?_push_of_some _ e) (Nat.le_refl _) ?_, rfl, q _ hf⟩
  exact ⟨z, us, 0, r, Heap.get?_push_size _ rfl⟩
end
abbrev Sp := List V → Hp → VK → XK → Prop
abbrev CXT := List Env → Hp → Shared → XK → Value → Shared → Prop
structure Env0 (P : Program) (w : World) (K : PySem.W.Frag) (mg : Str → Option Value) (base : Heap) (A : Around) (outer : List Env) (s : Shared) (H : Hp) : Prop where
  frames : A.frames = some outer
  mod : Mod K mg base
  bs : ∀ b o, base.get? b = some o → s.heap.get? b = some o ∧ H b = none
  bsz : base.objs.size ≤ s.heap.objs.size
  funs : s.heap.FunFrames base outer
  frf : ∀ b ∈ frs outer, H b = none
  hok : HOk P w H s.heap
  bare : AllBare s.gens
def CE (outer : List Env) (P : Program) (w : World) (H : Hp) (s : Shared) (Q : VK) (u : Value) (s' : Shared) : Prop :=
  ∃ v H', s'.os = s.os ∧ AllBare s'.gens ∧ Un (frs outer) [] H H' s.heap s'.heap ∧ HOk P w H' s'.heap ∧ RelV v u ∧ Q v H'
def CR (CX : CXT) (outer : List Env) (P : Program) (w : World) (H : Hp) (s : Shared) (Q : VK) (E : XK) (r : Result) (s' : Shared) : Prop :=
  match r with
  | .ok (.ret u) => CE outer P w H s Q u s'
  | .ok _ => False
  | .error e => CX outer H s E e s'
structure FnOk (P : Program) (w : World) (K : PySem.W.Frag) (mg : Str → Option Value) (base : Heap) (CX : CXT) (k : Nat) (f : Addr) (fd : FuncData) (ps : List Str) (sp : Sp) : Prop where
  len : ∀ vs H Q E, sp vs H Q E → vs.length = ps.length
  run : ∀ (A : Around) (outer : List Env) (s : Shared) (H : Hp) (args : Args) (us : List Value) (vs : List V) (Q : VK) (E : XK), Room k A → Env0 P w K mg base A outer s H → BindsTo s fd args (ps.zip us) → Vals vs us → sp vs H Q E →
    codeAny (model P w) A (.call (.ref f) args) (CR CX outer P w H s Q E) s
theorem FnOk.mono {P : Program} {w : World} {K : PySem.W.Frag} {mg : Str → Option Value} {base : Heap} {CX : CXT} {j k : Nat} {f : Addr} {fd : FuncData} {ps : List Str} {sp : Sp} (F : FnOk P w K mg base CX j f fd ps sp) (h : j ≤ k) :
    FnOk P w K mg base CX k f fd ps sp := ⟨F.len, fun A outer s H args us vs Q E hr => F.run A outer s H args us vs Q E (hr.mono h)⟩
theorem FnOk.imp {P : Program} {w : World} {K : PySem.W.Frag} {mg : Str → Option Value} {base : Heap} {CX : CXT} {k : Nat} {f : Addr} {fd : FuncData} {ps : List Str} {sp sp' : Sp} (F : FnOk P w K mg base CX k f fd ps sp)
    (h : ∀ vs H Q E, sp' vs H Q E → sp vs H Q E) : FnOk P w K mg base CX k f fd ps sp' :=
  ⟨fun vs H Q E q => F.len vs H Q E (h _ _ _ _ q), fun A outer s H args us vs Q E hr he hb hv hs => F.run A outer s H args us vs Q E hr he hb hv (h _ _ _ _ hs)⟩
theorem Env0.in1 {P : Program} {w : World} {K : PySem.W.Frag} {mg : Str → Option Value} {base : Heap} {A : Around} {outer : List Env} {s : Shared} {H : Hp} (e : Env0 P w K mg base A outer s H) :
    Env0 P w K mg base A.in1 outer s H := ⟨e.frames, e.mod, e.bs, e.bsz, e.funs, e.frf, e.hok, e.bare⟩
section
variable {X : Cx} {pins : List (Addr × Obj)} {σ : St} {H : Hp} {s s' : Shared}
theorem Inv.env0 (I : Inv X pins σ H s) : Env0 X.prog X.w X.K X.mg X.base X.A X.stack s H :=
  ⟨I.ok.frames, I.ok.mod, I.bs, Nat.le_trans I.ok.bsz I.sz, I.stack, I.stkFree, I.hok, I.bare⟩
theorem Inv.after {Q : VK} {u : Value} (I : Inv X pins σ H s) (h : CE X.stack X.prog X.w H s Q u s') : EP X pins σ Q u s' := by
  obtain ⟨v, H', os, bare, un, hok, r, q⟩ := h
  obtain ⟨hh, g, d, t, os'⟩ := s'
  obtain rfl : os' = s.os := os
  exact ⟨v, H', I.call (h' := hh) (g' := g) (d' := d) (t' := t) (ch := []) un hok bare (fun b z => absurd z (by simp)), r, q⟩
end
def tCall (sp : Sp) (dvs : List V) (E : XK) (t : TA) : TE := fun σ H Q => t σ H fun vs H1 => sp (vs ++ dvs) H1 Q E
def Binds (K : PySem.W.Frag) (fd : FuncData) (ps : List Str) (ds : List Value) : Prop :=
  ∀ (s : Shared) (us : List Value), K.In s.heap → (us ++ ds).length = ps.length → BindsTo s fd ⟨us, []⟩ (ps.zip (us ++ ds))
theorem Binds.all {K : PySem.W.Frag} {fd : FuncData} {ps : List Str} (h : ∀ us : List Value, us.length = ps.length → bindArgs fd ⟨us, []⟩ = pure (ps.zip us)) : Binds K fd ps [] := fun s us _ hl => by
  rw [List.append_nil] at hl ⊢
  exact .of_eq (h us hl)
def Passes (CX : CXT) (X : Cx) (E : XK) : Prop := ∀ (pins : List (Addr × Obj)) (σ : St) (H : Hp) (s : Shared) (e : Value) (s' : Shared), Inv X pins σ H s → CX X.stack H s E e s' → X.xe e s'
section
variable {X : Cx} {CX : CXT} {k : Nat} {f C : Addr} {fd : FuncData} {ps : List Str} {sp : Sp} {dvs : List V} {ds : List Value} {E : XK} {x m : Str} {p pos apos : Pos} {e o : Expr} {es : List Expr} {ta : TE} {t : TA}
theorem run_fn {pins : List (Addr × Obj)} {σ : St} {H : Hp} {s : Shared} {Q : VK} {us : List Value} {vs : List V} (F : FnOk X.prog X.w X.K X.mg X.base CX k f fd ps sp) (hr : Room k X.A) (hb : Binds X.K fd ps ds) (hd : Vals dvs ds) (hx : Passes CX X E)
    (I : Inv X pins σ H s) (r : Vals vs us) (h : sp (vs ++ dvs) H Q E) : wpAny (model X.prog X.w) X.A (call (.ref f) us) (EP X pins σ Q) X.xe s := by
  have r2 : Vals (vs ++ dvs) (us ++ ds) := r.append hd
  have hl : (us ++ ds).length = ps.length := by rw [← r2.length]; exact F.len _ _ _ _ h
  refine wpAny_call (codeAny_mono (F.run X.A X.stack s H ⟨us, []⟩ (us ++ ds) (vs ++ dvs) Q E hr I.env0 (hb s us I.kIn hl) r2 h) fun r s' hq => ?_)
  cases r with
  | error e => exact hx pins σ H s e s' I hq
  | ok fl =>
    cases fl with
    | ret u => exact I.after hq
    | next => exact False.elim hq
    | brk => exact False.elim hq
    | cont => exact False.elim hq
theorem pe_call (F : FnOk X.prog X.w X.K X.mg X.base CX k f fd ps sp) (hr : Room k X.A) (hg : Gl X x) (hm : X.mg x = some (.ref f)) (hk : PySem.W.keepIn X.K (.ref f) = true) (hb : Binds X.K fd ps ds) (hd : Vals dvs ds) (hx : Passes CX X E)
    (ha : PA X (e :: es) t) (hdb : (x == ("__debug__" : Str)) = false := by decide) (he : starEach (e :: es) X.env = (false, eval e X.env) :: starEach es X.env := by rfl) (hpl : (backTo pos (starEach es X.env)).any (·.1) = false := by rfl) :
    PE X (.Call (.Name x p) (e :: es) [] pos) (tCall sp dvs E t) := by
  intro pins s σ H Q I h
  refine wpAny_Call_Name_kw (ld_glob I hg hm ?_ hdb)
  refine PySem.W.callWith_K (h₀ := X.base) I.ok.mod.kin hk (thn (ha pos pins s σ H _ I h) fun us s1 ⟨vs, H1, I1, r, q⟩ => ⟨I1.kIn, ?_⟩) he hpl
  exact run_fn F hr hb hd hx I1 r q
end
section
variable {X : Cx} {CX : CXT} {k : Nat} {f C : Addr} {fd : FuncData} {ps ks : List Str} {sp : Sp} {E : XK} {x m : Str} {p pos apos kpos : Pos} {e o : Expr} {es : List Expr} {kws : List Keyword} {te ta : TE} {t tk : TA} {nm : Option Str}
variable {g : List Value → List Value → List Value} {gV : List V → List V → List V}
end
structure FnScope (N P : List Str) (sc : Scope) : Prop where
  kind : sc.kind = .function
  co : sc.isCoroutine = false
  gen : sc.isGenerator = false
  nd : N.Nodup
  pre : N.take P.length = P
  par : ∀ x ∈ P, sc.names.lookup x = some .local ∨ sc.names.lookup x = some .cell
  nofree : ∀ y ∈ sc.names, y.2 ≠ .free
theorem bindL_out {kindOf : Str → Option NameKind} {x : Str} : ∀ {binds : List (Str × Value)} {m : Str → Option Value}, (∀ v, (x, v) ∉ binds) → bindL kindOf binds m x = m x
  | [], _, _ => rfl
  | (n, v) :: r, m, h => by
    unfold bindL
    rw [bindL_out fun w hw => h w (List.mem_cons_of_mem _ hw)]
    split
    · have : x ≠ n := by rintro rfl; exact h v List.mem_cons_self
      simp [this]
    · rfl
theorem bindC_out {kindOf : Str → Option NameKind} {x : Str} : ∀ {binds : List (Str × Value)} {m : Str → Option Value}, (∀ v, (x, v) ∉ binds) → bindC kindOf binds m x = m x
  | [], _, _ => rfl
  | (n, v) :: r, m, h => by
    unfold bindC
    rw [bindC_out fun w hw => h w (List.mem_cons_of_mem _ hw)]
    split
    · rfl
    · have : x ≠ n := by rintro rfl; exact h v List.mem_cons_self
      simp [this]
theorem bindL_get {kindOf : Str → Option NameKind} {x : Str} {v : Value} : ∀ {P : List Str} {vs : List Value} {i : Nat} {m : Str → Option Value}, P.Nodup → P[i]? = some x → vs[i]? = some v → kindOf x = some .local →
    bindL kindOf (P.zip vs) m x = some v
  | [], _, _, _, _, h, _, _ => by simp at h
  | _ :: _, [], _, _, _, _, h, _ => by simp at h
  | p :: P, w :: vs, 0, m, nd, h1, h2, hk => by
    simp at h1 h2; subst h1; subst h2
    show bindL kindOf ((p, w) :: P.zip vs) m p = _
    unfold bindL
    rw [bindL_out fun v hv => (List.nodup_cons.mp nd).1 (List.of_mem_zip hv).1, if_pos hk]
    simp
  | p :: P, w :: vs, i + 1, m, nd, h1, h2, hk => by
    show bindL kindOf ((p, w) :: P.zip vs) m x = _
    unfold bindL
    exact bindL_get (i := i) (List.nodup_cons.mp nd).2 (by simpa using h1) (by simpa using h2) hk
theorem bindC_get {kindOf : Str → Option NameKind} {x : Str} {v : Value} : ∀ {P : List Str} {vs : List Value} {i : Nat} {m : Str → Option Value}, P.Nodup → P[i]? = some x → vs[i]? = some v → kindOf x ≠ some .local →
    bindC kindOf (P.zip vs) m x = some v
  | [], _, _, _, _, h, _, _ => by simp at h
  | _ :: _, [], _, _, _, _, h, _ => by simp at h
  | p :: P, w :: vs, 0, m, nd, h1, h2, hk => by
    simp at h1 h2; subst h1; subst h2
    show bindC kindOf ((p, w) :: P.zip vs) m p = _
    unfold bindC
    rw [bindC_out fun v hv => (List.nodup_cons.mp nd).1 (List.of_mem_zip hv).1, if_neg hk]
    simp
  | p :: P, w :: vs, i + 1, m, nd, h1, h2, hk => by
    show bindC kindOf ((p, w) :: P.zip vs) m x = _
    unfold bindC
    exact bindC_get (i := i) (List.nodup_cons.mp nd).2 (by simpa using h1) (by simpa using h2) hk
def start (N : List Str) (vs : List V) : St := vs.map some ++ List.replicate (N.length - vs.length) none
def cxOf (CX : CXT) (P : Program) (w : World) (K : PySem.W.Frag) (mg : Str → Option Value) (base : Heap) (N : List Str) (qual : Str) (scope : Scope) (f : Addr) (cd : Value) (A : Around) (outer : List Env) (s : Shared) (H : Hp) (E : XK) : Cx where
  prog := P
  w := w
  K := K
  mg := mg
  base := base
  A := A.deeper (envOfC qual scope s.heap.objs.size f cd)
  N := N
  s₀ := s
  H₀ := H
  env := envOfC qual scope s.heap.objs.size f cd
  outer := outer
  stack := envOfC qual scope s.heap.objs.size f cd :: outer
  ex := []
  calm := true
  fn := fun _ => true
  pn := []
  xe := fun e s' => wpAny (model P w) (A.deeper (envOfC qual scope s.heap.objs.size f cd)) (leaving (envOfC qual scope s.heap.objs.size f cd) e) (fun _ s'' => CX outer H s E e s'') (fun e' s'' => CX outer H s E e' s'') s'
theorem cell_has {sc : Scope} {n : Nat} {x : Str} (h : sc.names.lookup x = some .cell) : ∃ c, (cellsFrom n sc.names []).lookup x = some c := by
  have q := PySem.W.cellsFrom_some sc.names n [] (.inl h)
  exact Option.isSome_iff_exists.mp q
theorem inv_start {CX : CXT} {P : Program} {w : World} {K : PySem.W.Frag} {mg : Str → Option Value} {base : Heap} {N ps : List Str} {qual : Str} {scope : Scope} {f : Addr} {cd : Value} {A : Around} {outer : List Env} {s s1 : Shared} {H : Hp} {E : XK} {us : List Value} {vs : List V}
    (S : FnScope N ps scope) (hd : A.handled = none) (e0 : Env0 P w K mg base A outer s H) (hl : vs.length = ps.length) (r : Vals vs us)
    (x : InCallC s s.heap.objs.size (bindL (envOfC qual scope s.heap.objs.size f cd).kindOf (ps.zip us) fun _ => none) (cellsFrom (s.heap.objs.size + 1) scope.names []) (bindC (envOfC qual scope s.heap.objs.size f cd).kindOf (ps.zip us) fun _ => none) s1) :
    Inv (cxOf CX P w K mg base N qual scope f cd A outer s H E) [] (start N vs) H s1 := by
  have hpl : ps.length ≤ N.length := by have := congrArg List.length S.pre; rw [List.length_take] at this; omega
  obtain ⟨h1, tk, rfl, hk⟩ := x.done
  have noA : ∀ b : Addr, b ∉ (cxOf CX P w K mg base N qual scope f cd A outer s H E).ex := fun b z => absurd (show b ∈ ([] : List Addr) from z) (by simp)
  refine ⟨⟨e0.mod, S.kind, rfl, rfl, Nat.le_refl _, fun y z c h1 h2 => ?_, fun y hy => ?_, fun y c _ h => ?_, fun _ => hd, Around.frames_deeper e0.frames, .inr ⟨rfl, rfl⟩, fun b z => absurd z (noA b), e0.bs, e0.bsz, fun b _ _ => noA b, fun b z => absurd z (noA b), e0.funs, e0.frf⟩,
    rfl, e0.bare, Un.kept hk, ⟨_, x.toInCall.ns, fun i y v h1 h2 h3 => ?_⟩, fun y c h => ⟨_, x.cell y c h⟩, e0.hok.fresh (Nat.le_refl _), fun y c h => ?_, fun p hp => absurd (show p ∈ ([] : List (Addr × Obj)) from hp) (by simp), e0.hok.kept hk, ?_⟩
  · exact name_of_addr x.apart (PySem.mem_of_lookup h1) (PySem.mem_of_lookup h2)
  · have hy : scope.names.lookup y = some .cell ∨ scope.names.lookup y = some .free := hy
    rcases hy with hy | hy
    · exact cell_has hy
    · exact absurd rfl (S.nofree _ (PySem.mem_of_lookup hy))
  · exact Nat.le_of_lt (x.above y c (PySem.mem_of_lookup h))
  · have hi : i < vs.length := by
      unfold start at h2
      by_cases hi : i < vs.length
      · exact hi
      · rw [List.getElem?_append_right (by simpa using hi)] at h2
        rw [List.getElem?_replicate] at h2
        split at h2 <;> cases h2
    have ha : vs[i]? = some v := by
      unfold start at h2
      rw [List.getElem?_append_left (by simpa using hi), List.getElem?_map] at h2
      cases e : vs[i]? with
      | none => rw [e] at h2; cases h2
      | some a => rw [e] at h2; cases h2; rfl
    obtain ⟨u, hu, rv⟩ := r.get ha
    have hp : ps[i]? = some y := by
      rw [← S.pre, List.getElem?_take_of_lt (by omega)]; exact h1
    have ndP : ps.Nodup := by rw [← S.pre]; exact S.nd.sublist (List.take_sublist _ _)
    refine ⟨u, rv, ?_⟩
    rcases S.par y (List.mem_of_getElem? hp) with k | k
    · exact .inl ⟨k, bindL_get ndP hp hu k⟩
    · obtain ⟨c, e⟩ := cell_has (n := s.heap.objs.size + 1) k
      refine .inr ⟨.inl k, c, e, ?_⟩
      have q := x.cell y c e
      rw [bindC_get ndP hp hu (by show scope.names.lookup y ≠ _; rw [k]; decide)] at q
      exact q
  · exact e0.hok.fresh (Nat.le_of_lt (x.above y c (PySem.mem_of_lookup h)))
  · unfold start
    show _ = N.length
    rw [List.length_append, List.length_map, List.length_replicate]
    omega
theorem fn_of {CX : CXT} {P : Program} {w : World} {K : PySem.W.Frag} {mg : Str → Option Value} {base : Heap} {k : Nat} {f : Addr} {name qual : Str} {params : Arguments} {body : List Stmt} {scope : Scope} {dV kV doc pm cdv ct oc : Value} {an od : Option Addr}
    {osl : Array (Option Value)} {N ps : List Str} {sp : Sp} (lk : K.lookup f = some ⟨oc, od, .func (PySem.W.fnOf name qual params body scope dV kV doc pm an cdv ct), osl⟩) (hcd : PySem.W.codeIn K cdv qual = true) (S : FnScope N ps scope)
    (len : ∀ vs H Q E, sp vs H Q E → vs.length = ps.length)
    (hbody : ∀ (A : Around) (outer : List Env) (s : Shared) (H : Hp) (vs : List V) (Q : VK) (E : XK), Room k (A.deeper (envOfC qual scope s.heap.objs.size f cdv)) → sp vs H Q E →
      ∃ t, PSs (cxOf CX P w K mg base N qual scope f cdv A outer s H E) body t ∧ t { nx := fun _ H' => Q .non H', rt := Q } (start N vs) H) :
    FnOk P w K mg base CX (k + 1) f (PySem.W.fnOf name qual params body scope dV kV doc pm an cdv ct) ps sp := by
  refine ⟨len, fun A outer s H args us vs Q E hr e0 hb r hsp => ?_⟩
  have hl := len _ _ _ _ hsp
  have KX : K.In s.heap := e0.mod.kin.keeps fun b o e => (e0.bs b o e).1
  have lim : s.heap.NoLimit := e0.mod.nolimit.keeps fun b o e => (e0.bs b o e).1
  have hkind : ∀ y ∈ ps.zip us, scope.names.lookup y.1 = some .local ∨ (scope.names.lookup y.1 = some .cell ∧ ((cellsFrom (s.heap.objs.size + 1) scope.names []).lookup y.1).isSome = true) := fun ⟨n, v⟩ hy => by
    rcases S.par n (List.of_mem_zip hy).1 with q | q
    · exact .inl q
    · exact .inr ⟨q, PySem.W.cellsFrom_some _ _ _ (.inl q)⟩
  refine codeAny_call_function hr.depth (KX _ _ lk) rfl S.co S.gen rfl (PySem.W.codeRec_of KX hcd) (hb _ _ _ _ ?_)
  refine wpAny_newFunctionEnv_cells S.kind hkind fun env he s1 x => ?_
  subst he
  refine ⟨lim.keeps x.toInCall.keep, codeAny_func ?_⟩
  obtain ⟨t, ht, hq⟩ := hbody A outer s H vs Q E (hr.deeper _) hsp
  have I : Inv (cxOf CX P w K mg base N qual scope f cdv A outer s H E) [] (start N vs) H s1 := inv_start S hr.hd e0 hl r x
  refine wpAny_mono (ht [] s1 (start N vs) H _ I hq) (fun fl s' hs => ?_) fun e s' hs => hs
  have fin : ∀ {σ' : St} {H' : Hp} {v : V} {u : Value}, Inv (cxOf CX P w K mg base N qual scope f cdv A outer s H E) [] σ' H' s' → RelV v u → Q v H' → CE outer P w H s Q u s' :=
    fun {σ' H' v u} J rv q => ⟨v, H', J.os, J.bare, J.base, J.hok, rv, q⟩
  cases fl with
  | ret u =>
    obtain ⟨v, σ', H', J, rv, q⟩ := hs
    exact fin J rv q
  | next =>
    obtain ⟨σ', H', J, q⟩ := hs
    exact fin (v := V.non) (u := Value.none) J rfl q
  | brk =>
    obtain ⟨_, _, _, q⟩ := hs
    exact False.elim q
  | cont =>
    obtain ⟨_, _, _, q⟩ := hs
    exact False.elim q
end L2
namespace L2
open PySem PySem.Spec PyProof.Rows
section
variable {X : Cx} {x : Str} {p pos : Pos} {e : Expr} {es : List Expr} {t : TA} {id T : String} {r : List V → Hp → VK → Prop}
def tCB (r : List V → Hp → VK → Prop) (t : TA) : TE := fun σ H Q => t σ H fun vs H1 => r vs H1 Q
theorem pe_callB (hc : CallR X (.builtin id) r) (hg : Gl X x) (hm : X.mg x = none) (hv : bootBuiltins x = some (.builtin id)) (ha : PA X (e :: es) t) (hn : x ≠ "__name__" := by decide) (hdb : (x == ("__debug__" : Str)) = false := by decide)
    (he : starEach (e :: es) X.env = (false, eval e X.env) :: starEach es X.env := by rfl) (hpl : (backTo pos (starEach es X.env)).any (·.1) = false := by rfl) : PE X (.Call (.Name x p) (e :: es) [] pos) (tCB r t) := by
  intro pins s σ H Q I h
  refine wpAny_Call_Name_kw (ld_blt I hg hm hv ?_ hn hdb)
  exact PyProof.Rows.callWith_builtin1 (thn (ha pos pins s σ H _ I h) fun us s1 ⟨vs, H1, I1, r1, q1⟩ => hc pins s1 σ H1 vs us Q I1 r1 q1) he hpl
theorem pe_callTy (hc : CallR X (.type T) r) (hg : Gl X x) (hm : X.mg x = none) (hv : bootBuiltins x = some (.type T)) (ha : PA X (e :: es) t) (hn : x ≠ "__name__" := by decide) (hdb : (x == ("__debug__" : Str)) = false := by decide)
    (he : starEach (e :: es) X.env = (false, eval e X.env) :: starEach es X.env := by rfl) (hpl : (backTo pos (starEach es X.env)).any (·.1) = false := by rfl) : PE X (.Call (.Name x p) (e :: es) [] pos) (tCB r t) := by
  intro pins s σ H Q I h
  refine wpAny_Call_Name_kw (ld_blt I hg hm hv ?_ hn hdb)
  exact PyProof.Rows.callWith_type1 (thn (ha pos pins s σ H _ I h) fun us s1 ⟨vs, H1, I1, r1, q1⟩ => hc pins s1 σ H1 vs us Q I1 r1 q1) he hpl
end
end L2
namespace HT
open PySem PyProof.Rows
def lexLt : List Int → List Int → Bool
  | [], [] => false
  | [], _ :: _ => true
  | _ :: _, [] => false
  | x :: xs, y :: ys => if x = y then lexLt xs ys else decide (x < y)
section
open PySem.SeqAt
open PySem.AutoSeq1 (wpAny_loadPart')
open PySem.MeetsSeq PySem.MeetsSeq2 PySem.MeetsSeq3
end
section
variable {prog : Program} {w : World} {A : Around} {E : Value → Shared → Prop} {s : Shared}
theorem cat_tup {t b : Addr} {vs ws : List Value} {Q : Value → Shared → Prop} (ht : IsTup s.heap t vs.toArray) (hb : IsTup s.heap b ws.toArray) (hv : vs ≠ [])
    (h1 : ws = [] → Q (.ref t) s) (h2 : ws ≠ [] → Q (.ref s.heap.objs.size) { s with heap := s.heap.push { cls := .type "tuple", data := .seq (vs ++ ws).toArray } })
    (hsz : vs.length + ws.length ≤ sizeLine) : wpAny (model prog w) A (binaryOp .Add (.ref t) (.ref b)) Q E s := by
  obtain ⟨⟨cls, dd, data, sl⟩, ho, hc, n, hd⟩ := id ht
  obtain ⟨⟨cls2, dd2, data2, sl2⟩, ho2, hc2, n2, hd2⟩ := id hb
  simp only at hc hd hc2 hd2
  subst hc hd hc2 hd2
  have e : vs.toArray ++ ws.toArray = (vs ++ ws).toArray := by simp
  by_cases hw : ws = []
  · exact concat_meets ⟨_, ho, rfl⟩ ⟨_, ho2, rfl⟩ noFill_tuple_add seq_tuple_add PySem.F.slot_tuple_add PySem.F.entry_tuple_add (PySem.F.args_tuple_add_2 _ _)
      (tuple_addW1 t b vs.toArray ws.toArray n n2 dd dd2 sl sl2 (by simpa using hv) (by simp [hw])) ⟨ho, ho2, h1 hw⟩
  · refine concat_meets ⟨_, ho, rfl⟩ ⟨_, ho2, rfl⟩ noFill_tuple_add seq_tuple_add PySem.F.slot_tuple_add PySem.F.entry_tuple_add (PySem.F.args_tuple_add_2 _ _)
      (tuple_addW2 t b vs.toArray ws.toArray n n2 dd dd2 sl sl2 (by simpa using hv) (by simpa using hw) (by rw [List.size_toArray, List.size_toArray]; exact hsz)) ⟨ho, ho2, ?_⟩
    rw [e]
    exact h2 hw
def sIx (n d : Nat) : Option Int → Nat
  | none => d
  | some v => if v < 0 then (v + (n : Int)).toNat else min v.toNat n
end
end HT
namespace L2
open PySem PySem.Spec PyProof.Rows
abbrev TO := St → Hp → (Option Int → Hp → Prop) → Prop
def PO (X : Cx) (e : Option Expr) (t : TO) : Prop :=
  ∀ (pins : List (Addr × Obj)) (s : Shared) (σ : St) (H : Hp) (Q : Option Int → Hp → Prop), Inv X pins σ H s → t σ H Q →
    wpAny (model X.prog X.w) X.A (evalPart e X.env) (fun u s' => ∃ o H', Inv X pins σ H' s' ∧ IsPart u o ∧ Q o H') X.xe s
def tNoPart : TO := fun _ H Q => Q none H
def tPart (t : TE) : TO := fun σ H Q => t σ H fun x H1 => ∃ i, x = .int i ∧ Q (some i) H1
section
variable {X : Cx} {e : Expr} {te : TE} {lo hi : Option Expr} {tl th : TO} {pos p2 : Pos}
theorem po_none : PO X none tNoPart := by
  intro pins s σ H Q I h
  rw [evalPart_none]
  exact wpAny_pure ⟨none, H, I, .none, h⟩
theorem po_some (h : PE X e te) : PO X (some e) (tPart te) := by
  intro pins s σ H Q I hw
  rw [evalPart_some]
  refine thn (h pins s σ H _ I hw) fun u s1 ⟨x, H1, I1, r1, q1⟩ => ?_
  obtain ⟨i, rfl, q⟩ := q1
  obtain ⟨t, rfl⟩ := r1
  exact ⟨some i, H1, I1, .int i t, q⟩
def SlR (X : Cx) (r : V → Option Int → Option Int → Hp → VK → Prop) : Prop :=
  ∀ (pins : List (Addr × Obj)) (s : Shared) (σ : St) (H : Hp) (x : V) (v vl vu : Value) (lo hi : Option Int) (sl : Addr) (Q : VK), Inv X pins σ H s → RelV x v → s.heap.IsSliceOf sl vl vu .none → IsPart vl lo → IsPart vu hi → r x lo hi H Q →
    ∃ T id, typeLookup (.type T) "__getitem__" = pure (some (.builtin id)) ∧ s.TypeIs v T ∧ wpAny (model X.prog X.w) X.A (getItem v (.ref sl)) (EP X pins σ Q) X.xe s
theorem SlR.or {r r' : V → Option Int → Option Int → Hp → VK → Prop} (h : SlR X r) (h' : SlR X r') : SlR X (fun x lo hi H Q => r x lo hi H Q ∨ r' x lo hi H Q) := by
  intro pins s σ H x v vl vu lo hi sl Q I rx hs pl pu q
  rcases q with q | q
  · exact h pins s σ H x v vl vu lo hi sl Q I rx hs pl pu q
  · exact h' pins s σ H x v vl vu lo hi sl Q I rx hs pl pu q
def tSl (r : V → Option Int → Option Int → Hp → VK → Prop) (te : TE) (tl th : TO) : TE := fun σ H Q => te σ H fun x H1 => tl σ H1 fun l H2 => th σ H2 fun u H3 => r x l u H3 Q
theorem pe_slice {r : V → Option Int → Option Int → Hp → VK → Prop} (hr : SlR X r) (he : PE X e te) (hl : PO X lo tl) (hu : PO X hi th) : PE X (.Subscript e (.Slice lo hi none p2) pos) (tSl r te tl th) := by
  intro pins s σ H Q I h
  refine Subscript_ (thn (he pins s σ H _ I h) fun v s1 ⟨x, H1, I1, r1, q1⟩ => ?_)
  refine wpAny_Slice (thn (hl pins s1 σ H1 _ I1 q1) fun vl s2 ⟨l, H2, I2, pl, q2⟩ => thn (hu pins s2 σ H2 _ I2 q2) fun vu s3 ⟨u, H3, I3, pu, q3⟩ => ?_)
  rw [evalPart_none]
  refine wpAny_pure ?_
  have I4 : Inv X pins σ H3 { s3 with heap := s3.heap.push { cls := .type "slice", data := .fields #[vl, vu, .none] } } := I3.kept (t' := s3.toks) fun b ob q => Heap.get?_push_of_some _ q
  obtain ⟨T, id, hT, ht, hg⟩ := hr pins { s3 with heap := s3.heap.push { cls := .type "slice", data := .fields #[vl, vu, .none] } } σ H3 x v vl vu l u s3.heap.objs.size Q I4 r1 (Heap.IsSliceOf.new ..) pl pu q3
  show wpAny (model X.prog X.w) X.A (subscriptTail e (.Slice lo hi none p2) v (.ref s3.heap.objs.size)) (EP X pins σ Q) X.xe { s3 with heap := s3.heap.push { cls := .type "slice", data := .fields #[vl, vu, .none] } }
  exact tail_any (ops := [.ref s3.heap.objs.size, v]) ht hT hg (by with_unfolding_all rfl)
def cutV (xs : List V) (lo hi : Option Int) : List V := (xs.drop (HT.sIx xs.length 0 lo)).take (HT.sIx xs.length xs.length hi - HT.sIx xs.length 0 lo)
theorem cutV_length (xs : List V) (lo hi : Option Int) : (cutV xs lo hi).length ≤ xs.length := by
  unfold cutV
  rw [List.length_take, List.length_drop]
  omega
def rLtT (K : PySem.W.Frag) : R2 := fun x y H Q => ∃ a b ns ms, x = .ref a ∧ y = .ref b ∧ SqT K H a (ns.map V.int) ∧ SqT K H b (ms.map V.int) ∧ Q (.bl (HT.lexLt ns ms)) H
def rCatT (K : PySem.W.Frag) : R2 := fun x y H Q => ∃ a b xs ys, x = .ref a ∧ y = .ref b ∧ SqT K H a xs ∧ SqT K H b ys ∧ xs ≠ [] ∧ xs.length + ys.length ≤ sizeLine ∧
  (ys = [] → Q (.ref a) H) ∧ (ys ≠ [] → ∀ p, H p = none → Q (.ref p) (upd H p (.tup (xs ++ ys))))
theorem Vals.nil_iff {xs : List V} {us : List Value} (r : Vals xs us) : us = [] ↔ xs = [] := by
  cases r with
  | nil => simp
  | cons _ _ => simp
theorem op_catT : OpR X (binaryOp .Add) (rCatT X.K) := by
  intro pins s σ H x y v u Q I rx ry h
  obtain ⟨a, b, xs, ys, rfl, rfl, ha, hb, hx, hz, q1, q2⟩ := h
  cases rx
  cases ry
  obtain ⟨its, r1, p1, _⟩ := I.tuple ha
  obtain ⟨its2, r2, p2, _⟩ := I.tuple hb
  refine HT.cat_tup p1 p2 (fun z => hx (r1.nil_iff.mp z)) (fun z => ⟨.ref a, H, I, rfl, q1 (r2.nil_iff.mp z)⟩) (fun z => ?_) (by rw [← r1.length, ← r2.length]; exact hz)
  refine ⟨.ref s.heap.objs.size, _, I.laid (t' := s.toks) (o := .tup (xs ++ ys)) (fun b ob q => Heap.get?_push_of_some _ q) (Nat.le_refl _) ?_, rfl, q2 (fun w => z (r2.nil_iff.mpr w)) _ (I.hok.fresh (Nat.le_refl _))⟩
  exact ⟨by rw [List.length_append]; exact hz, _, r1.append r2, IsTup.new _ _⟩
end
end L2
namespace L2
open PySem PySem.Spec PyProof.Rows
def ixN (n : Nat) (i : Int) : Option Nat := if 0 ≤ i then (if i < n then some i.toNat else none) else if -(n : Int) ≤ i then some (i + n).toNat else none
def atI {α : Type} (xs : List α) (i : Int) : Option α := (ixN xs.length i).bind fun j => xs[j]?
theorem ixN_seq {n : Nat} {i : Int} {j : Nat} (h : ixN n i = some j) : seqIndex? i n = some j ∧ j < n ∧ -(n : Int) ≤ i ∧ i < n := by
  unfold ixN at h
  by_cases h0 : 0 ≤ i
  · rw [if_pos h0] at h
    by_cases h1 : i < n
    · rw [if_pos h1] at h
      have e : i.toNat = j := Option.some.inj h
      exact ⟨by rw [seqIndex_of h0 h1, e], by omega, by omega, h1⟩
    · rw [if_neg h1] at h; cases h
  · rw [if_neg h0] at h
    by_cases h1 : -(n : Int) ≤ i
    · rw [if_pos h1] at h
      have e : (i + n).toNat = j := Option.some.inj h
      exact ⟨by rw [seqIndex_neg (by omega) h1, e], by omega, h1, by omega⟩
    · rw [if_neg h1] at h; cases h
theorem atI_get {α : Type} {xs : List α} {i : Int} {v : α} (h : atI xs i = some v) : ∃ j, seqIndex? i xs.length = some j ∧ xs[j]? = some v ∧ j < xs.length ∧ -(xs.length : Int) ≤ i ∧ i < xs.length := by
  unfold atI at h
  cases e : ixN xs.length i with
  | none => rw [e] at h; cases h
  | some j =>
    rw [e] at h
    obtain ⟨h1, h2, h3, h4⟩ := ixN_seq e
    exact ⟨j, h1, h, h2, h3, h4⟩
theorem atI_nat {α : Type} {xs : List α} {j : Nat} {v : α} (h : xs[j]? = some v) : atI xs (j : Int) = some v := by
  have hj : j < xs.length := (List.getElem?_eq_some_iff.mp h).1
  have e : ixN xs.length (j : Int) = some j := by
    unfold ixN
    rw [if_pos (by omega), if_pos (by omega)]; simp
  unfold atI; rw [e]; exact h
def PlainIx (b : Expr) : Prop := ∀ o i, subscripted b false o i = operate [o, i] (getItem o i)
def IxR (X : Cx) (r : R2) : Prop :=
  ∀ (value slice : Expr) (pins : List (Addr × Obj)) (s : Shared) (σ : St) (H : Hp) (x y : V) (v u : Value) (Q : VK), Inv X pins σ H s → RelV x v → RelV y u → r x y H Q →
    subscripted slice false v u = operate [v, u] (getItem v u) → wpAny (model X.prog X.w) X.A (subscriptTail value slice v u) (EP X pins σ Q) X.xe s
def MtR (X : Cx) (id : String) (r : V → List V → Hp → VK → Prop) : Prop :=
  ∀ (pins : List (Addr × Obj)) (s : Shared) (σ : St) (H : Hp) (x : V) (xs : List V) (v : Value) (us : List Value) (Q : VK), Inv X pins σ H s → RelV x v → Vals xs us → r x xs H Q →
    wpAny (model X.prog X.w) X.A (call (.builtin id) (v :: us)) (EP X pins σ Q) X.xe s
section
variable {X : Cx} {a b : Expr} {ta tb : TE} {pos : Pos}
theorem IxR.or {r r' : R2} (h : IxR X r) (h' : IxR X r') : IxR X (fun x y H Q => r x y H Q ∨ r' x y H Q) := by
  intro value slice pins s σ H x y v u Q I rx ry q hs
  rcases q with q | q
  · exact h value slice pins s σ H x y v u Q I rx ry q hs
  · exact h' value slice pins s σ H x y v u Q I rx ry q hs
theorem MtR.or {id : String} {r r' : V → List V → Hp → VK → Prop} (h : MtR X id r) (h' : MtR X id r') : MtR X id (fun x xs H Q => r x xs H Q ∨ r' x xs H Q) := by
  intro pins s σ H x xs v us Q I rx rs q
  rcases q with q | q
  · exact h pins s σ H x xs v us Q I rx rs q
  · exact h' pins s σ H x xs v us Q I rx rs q
theorem pe_ix {r : R2} (hr : IxR X r) (ha : PE X a ta) (hb : PE X b tb) (hs : PlainIx b) : PE X (.Subscript a b pos) (tOp r ta tb) := by
  intro pins s σ H Q I h
  exact Subscript_ (binT ha hb I h fun v u s2 x y H2 I2 rx ry q => hr a b pins s2 σ H2 x y v u Q I2 rx ry q (hs _ _))
def rIxL (K : PySem.W.Frag) : R2 := fun x y H Q => ∃ p xs i v, x = .ref p ∧ y = .int i ∧ SqL K H p xs ∧ atI xs i = some v ∧ Q v H
def rIxT (K : PySem.W.Frag) : R2 := fun x y H Q => ∃ p xs i v, x = .ref p ∧ y = .int i ∧ SqT K H p xs ∧ atI xs i = some v ∧ Q v H
def rIxS : R2 := fun x y H Q => ∃ z i c, x = .str z ∧ y = .int i ∧ z.length ≤ sizeLine ∧ atI z.cps.toList i = some c ∧ Q (.str ⟨#[c]⟩) H
theorem ix_list : IxR X (rIxL X.K) := by
  intro value slice pins s σ H x y v u Q I rx ry h hs
  obtain ⟨p, xs, i, z, rfl, rfl, hq, he, q⟩ := h
  cases rx
  obtain ⟨t, rfl⟩ := ry
  obtain ⟨its, r, pl, hz⟩ := I.list hq
  obtain ⟨j, h1, h2, h3, h4, h5⟩ := atI_get he
  obtain ⟨w, ew, rw'⟩ := r.get h2
  have hl := r.length
  have hn := line63
  have fin : EP X pins σ Q w s := ⟨z, H, I, rw', q⟩
  by_cases h0 : 0 ≤ i
  · have hj : i.toNat = j := by
      rw [seqIndex_of h0 h5] at h1
      exact Option.some.inj h1
    exact item_listR pl.isList h0 (by omega) (by rw [hj]; simpa using ew) fin hs
  · have hj : (i + (its.toArray.size : Int)).toNat = j := by
      rw [seqIndex_neg (by omega) h4] at h1
      rw [List.size_toArray, ← hl]
      exact Option.some.inj h1
    exact subscriptTail_builtinR (x := w) pl.isList.typeIs slot_list_getitem.lookup
      (wpAny_getItem_list_neg (Q := fun r s' => r = w ∧ EP X pins σ Q r s') pl.isList (by omega) (by rw [List.size_toArray] <;> omega) (by omega) (by rw [hj]; simpa using ew) ⟨rfl, fin⟩) hs
theorem ix_tup : IxR X (rIxT X.K) := by
  intro value slice pins s σ H x y v u Q I rx ry h hs
  obtain ⟨p, xs, i, z, rfl, rfl, hq, he, q⟩ := h
  cases rx
  obtain ⟨t, rfl⟩ := ry
  obtain ⟨its, r, pl, hz⟩ := I.tuple hq
  obtain ⟨j, h1, h2, h3, h4, h5⟩ := atI_get he
  obtain ⟨w, ew, rw'⟩ := r.get h2
  have hl := r.length
  have hn := line63
  have fin : EP X pins σ Q w s := ⟨z, H, I, rw', q⟩
  exact subscriptTail_builtinR (x := w) pl.typeIs slot_tuple_getitem.lookup
    (getItem_tuple (j := j) (Q := fun r s' => r = w ∧ EP X pins σ Q r s') pl (by omega) (by omega) (by rw [List.size_toArray, ← hl]; exact h1) (by simpa using ew) ⟨rfl, fin⟩) hs
theorem ix_str : IxR X rIxS := by
  intro value slice pins s σ H x y v u Q I rx ry h hs
  obtain ⟨z, i, c, rfl, rfl, hz, he, q⟩ := h
  obtain ⟨t, rfl⟩ := rx
  obtain ⟨t', rfl⟩ := ry
  obtain ⟨j, h1, h2, h3, h4, h5⟩ := atI_get he
  have hl : z.cps.toList.length = z.length := by simp [Str.length]
  rw [hl] at h1 h4 h5
  have hn := line63
  exact tail_any (typeIs_str s z t) slot_str_getitem.lookup (getItem_str (c := c) (by
    have e1 : decide (i < -(2 ^ 63 : Int)) = false := decide_eq_false (by omega)
    have e2 : decide (i ≥ 2 ^ 63) = false := decide_eq_false (by omega)
    rw [e1, e2, Bool.or_false]) (by rw [h1]; simpa using h2) ⟨.str ⟨#[c]⟩, H, I.tok _, ⟨_, rfl⟩, q⟩) hs
theorem mapSeq_set (its : List Value) (n j : Nat) (u : Value) : Obj.mapSeq (·.setIfInBounds j u) { cls := .type "list", data := .seq its.toArray n } = { cls := .type "list", data := .seq (its.set j u).toArray n } := by
  simp [Obj.mapSeq]
theorem Inv.lst {pins : List (Addr × Obj)} {σ : St} {H : Hp} {s : Shared} {p : Addr} {xs : List V} (I : Inv X pins σ H s) (h : H p = some (.lst xs)) :
    ∃ (its : List Value) (n : Nat), Vals xs its ∧ s.heap.get? p = some { cls := .type "list", data := .seq its.toArray n } ∧ xs.length ≤ sizeLine := by
  obtain ⟨z, its, n, r, e⟩ := I.hok p _ h
  exact ⟨its, n, r, e, z⟩
theorem Inv.lstUpd {pins : List (Addr × Obj)} {σ : St} {H : Hp} {s : Shared} {p : Addr} {xs ys : List V} {its its' : List Value} {n n' : Nat} {f : Obj → Obj} (I : Inv X pins σ H s) (h : H p = some (.lst xs))
    (ho : s.heap.get? p = some { cls := .type "list", data := .seq its.toArray n }) (hf : f { cls := .type "list", data := .seq its.toArray n } = { cls := .type "list", data := .seq its'.toArray n' }) (r : Vals ys its') (hz : ys.length ≤ sizeLine) (t : Nat) :
    Inv X pins σ (upd H p (.lst ys)) { s with heap := s.heap.update p f, toks := t } := by
  have e : (s.heap.update p f).get? p = some { cls := .type "list", data := .seq its'.toArray n' } := by
    rw [Heap.get?_update_self f ho (by rw [hf] <;> rfl), hf]
  refine I.write (x := p) (e := p) (by rw [h]; trivial) (.inl rfl) (fun b u hb q => (Heap.get?_update_other _ _ (Ne.symm hb)).trans q) ⟨_, e⟩ ?_
  exact ⟨hz, its', n', r, e⟩
def rSetL : V → V → V → Hp → (Hp → Prop) → Prop := fun o i v H Q => ∃ p xs k j, o = .ref p ∧ i = .int k ∧ H p = some (.lst xs) ∧ ixN xs.length k = some j ∧ Q (upd H p (.lst (xs.set j v)))
theorem set_list : PSet X rSetL := by
  intro pins s σ H o i v ov iv u Q I ro ri rv h
  obtain ⟨p, xs, k, j, rfl, rfl, hp, hj, q⟩ := h
  cases ro
  obtain ⟨t, rfl⟩ := ri
  obtain ⟨its, n, r, ho, hz⟩ := I.lst hp
  obtain ⟨h1, h2, h3, h4⟩ := ixN_seq hj
  have hl := r.length
  have hn := line63
  have I' : Inv X pins σ (upd H p (.lst (xs.set j v))) { s with heap := s.heap.update p (Obj.mapSeq (·.setIfInBounds j u)) } :=
    I.lstUpd hp ho (mapSeq_set its n j u) (r.set rv j) (by rw [List.length_set]; exact hz) s.toks
  by_cases h0 : 0 ≤ k
  · have hk : k.toNat = j := by
      rw [seqIndex_of h0 h4] at h1
      exact Option.some.inj h1
    exact PySem.W.ki_setAt ho h0 (by omega) (by rw [List.size_toArray, ← hl]; exact h4) (by rw [hk]; exact ⟨_, I', q⟩)
  · have hk : (k + (its.toArray.size : Int)).toNat = j := by
      rw [seqIndex_neg (by omega) h3] at h1
      rw [List.size_toArray, ← hl]
      exact Option.some.inj h1
    exact PySem.W.ki_setBack ho (by omega) (by rw [List.size_toArray, ← hl]; exact h3) (by omega) (by rw [hk]; exact ⟨_, I', q⟩)
theorem slice_bounds (lo hi : Option Int) (n : Nat) : (sliceBounds lo hi none n).1 = ((HT.sIx n 0 lo : Nat) : Int) ∧ (sliceBounds lo hi none n).2.1 = ((HT.sIx n n hi : Nat) : Int) ∧ (sliceBounds lo hi none n).2.2 = 1 := by
  refine ⟨?_, ?_, rfl⟩
  · cases lo with
    | none => simp [sliceBounds, HT.sIx]
    | some i =>
      simp only [sliceBounds, HT.sIx, Option.getD_none, show (1 : Int) > 0 by decide, if_true]
      by_cases h : i < 0
      · simp only [h, if_true] <;> omega
      · simp only [h, if_false] <;> omega
  · cases hi with
    | none => simp [sliceBounds, HT.sIx]
    | some i =>
      simp only [sliceBounds, HT.sIx, Option.getD_none, show (1 : Int) > 0 by decide, if_true]
      by_cases h : i < 0
      · simp only [h, if_true] <;> omega
      · simp only [h, if_false] <;> omega
theorem slicePick_cut (its : List Value) (lo hi : Option Int) : slicePick its.toArray lo hi none = ((its.drop (HT.sIx its.length 0 lo)).take (HT.sIx its.length its.length hi - HT.sIx its.length 0 lo)).toArray := by
  obtain ⟨h1, h2, h3⟩ := slice_bounds lo hi its.toArray.size
  unfold slicePick
  rw [h1, h2, h3]
  simp only [sliceRange_one, pick_run, List.size_toArray] <;> rfl
def rSlL (K : PySem.W.Frag) : V → Option Int → Option Int → Hp → VK → Prop := fun x lo hi H Q => ∃ a xs, x = .ref a ∧ SqL K H a xs ∧ ∀ p, H p = none → Q (.ref p) (upd H p (.lst (cutV xs lo hi)))
theorem sl_list : SlR X (rSlL X.K) := by
  intro pins s σ H x v vl vu lo hi sl Q I rx hs pl pu h
  obtain ⟨a, xs, rfl, hx, q⟩ := h
  cases rx
  obtain ⟨its, r, ht, hz⟩ := I.list hx
  have hlen := r.length
  refine ⟨"list", _, slot_list_getitem.lookup, ht.isList.typeIs, ?_⟩
  refine wpAny_getItem_list_slice ht.isList hs pl pu .none (by simp) ?_ (by rw [List.size_toArray] <;> omega)
  rw [slicePick_cut, ← hlen]
  refine ⟨.ref s.heap.objs.size, _, I.laid (t' := s.toks) (o := .lst (cutV xs lo hi)) (fun b ob q => Heap.get?_push_of_some _ q) (Nat.le_refl _) ?_, rfl, q _ (I.hok.fresh (Nat.le_refl _))⟩
  exact ⟨Nat.le_trans (cutV_length xs lo hi) hz, _, 0, (r.drop (HT.sIx xs.length 0 lo)).take (HT.sIx xs.length xs.length hi - HT.sIx xs.length 0 lo), Heap.get?_push_size _ rfl⟩
def flatV : V → Bool
  | .non => true
  | .bl _ => true
  | .int _ => true
  | .str _ => true
  | _ => false
def eqV : V → V → Bool
  | .non, .non => true
  | .bl a, .bl b => a == b
  | .bl a, .int b => (if a then 1 else 0) == b
  | .int a, .bl b => a == (if b then 1 else 0)
  | .int a, .int b => a == b
  | .str a, .str b => a == b
  | _, _ => false
theorem eqAt_V {A : Around} {s : Shared} {y x : V} {u v : Value} (ry : RelV y u) (rx : RelV x v) (fy : flatV y = true) (fx : flatV x = true) : SeqAt.EqAt A s u v (eqV y x) := by
  cases y with
  | non =>
    cases ry
    cases x with
    | non => cases rx; exact SeqAt.EqAt.same _
    | bl b => cases rx; exact SeqAt.EqAt.none_bool b
    | int b => obtain ⟨t, rfl⟩ := rx; exact SeqAt.EqAt.none_int b t
    | str b => obtain ⟨t, rfl⟩ := rx; exact SeqAt.EqAt.none_str b t
    | _ => exact absurd (show false = true from fx) Bool.false_ne_true
  | bl a =>
    cases ry
    cases x with
    | non => cases rx; exact SeqAt.EqAt.bool_none a
    | bl b => cases rx; exact SeqAt.EqAt.bool_bool a b
    | int b => obtain ⟨t, rfl⟩ := rx; exact SeqAt.EqAt.bool_int a b t
    | str b => obtain ⟨t, rfl⟩ := rx; exact SeqAt.EqAt.bool_str a b t
    | _ => exact absurd (show false = true from fx) Bool.false_ne_true
  | int a =>
    obtain ⟨t', rfl⟩ := ry
    cases x with
    | non => cases rx; exact SeqAt.EqAt.int_none a t'
    | bl b => cases rx; exact SeqAt.EqAt.int_bool a t' b
    | int b => obtain ⟨t, rfl⟩ := rx; exact SeqAt.EqAt.int_int a t' b t
    | str b => obtain ⟨t, rfl⟩ := rx; exact SeqAt.EqAt.int_str a t' b t
    | _ => exact absurd (show false = true from fx) Bool.false_ne_true
  | str a =>
    obtain ⟨t', rfl⟩ := ry
    cases x with
    | non => cases rx; exact SeqAt.EqAt.str_none a t'
    | bl b => cases rx; exact SeqAt.EqAt.str_bool a t' b
    | int b => obtain ⟨t, rfl⟩ := rx; exact SeqAt.EqAt.str_int a t' b t
    | str b => obtain ⟨t, rfl⟩ := rx; exact SeqAt.EqAt.str_str a t' b t
    | _ => exact absurd (show false = true from fx) Bool.false_ne_true
  | _ => exact absurd (show false = true from fy) Bool.false_ne_true
def eqU (x : V) (u : Value) : Bool := match u with
  | .none => eqV .non x
  | .bool b => eqV (.bl b) x
  | .int i _ => eqV (.int i) x
  | .str z _ => eqV (.str z) x
  | _ => false
theorem eqU_of {x y : V} {u : Value} (r : RelV y u) (f : flatV y = true) : eqU x u = eqV y x := by
  cases y with
  | non => cases r; rfl
  | bl b => cases r; rfl
  | int i => obtain ⟨t, rfl⟩ := r; rfl
  | str z => obtain ⟨t, rfl⟩ := r; rfl
  | _ => exact absurd (show false = true from f) Bool.false_ne_true
theorem any_eqU {x : V} : ∀ {xs : List V} {us : List Value}, Vals xs us → xs.all flatV = true → us.any (eqU x) = xs.any fun y => eqV y x
  | _, _, .nil, _ => rfl
  | y :: xs, u :: us, .cons r t, f => by
    rw [List.all_cons, Bool.and_eq_true] at f
    rw [List.any_cons, List.any_cons, eqU_of r f.1, any_eqU t f.2]
theorem mem_eqAt {A : Around} {s : Shared} {x : V} {v : Value} (rx : RelV x v) (fx : flatV x = true) : ∀ {xs : List V} {us : List Value}, Vals xs us → xs.all flatV = true → ∀ u ∈ us, SeqAt.EqAt A s u v (eqU x u)
  | _, _, .nil, _ => fun u hu => by cases hu
  | y :: xs, u :: us, .cons r t, f => fun u' hu => by
    rw [List.all_cons, Bool.and_eq_true] at f
    rcases List.mem_cons.mp hu with rfl | hu
    · rw [eqU_of r f.1]; exact eqAt_V r rx f.1 fx
    · exact mem_eqAt rx fx t f.2 u' hu
def inV (x : V) (xs : List V) : Bool := xs.any fun y => eqV y x
def rIn (K : PySem.W.Frag) (neg : Bool) : R2 := fun x y H Q => ∃ p xs, y = .ref p ∧ (SqL K H p xs ∨ SqT K H p xs) ∧ flatV x = true ∧ xs.all flatV = true ∧ Q (.bl (if neg then !inV x xs else inV x xs)) H
theorem op_in_seq : OpR X (compareOp .In) (rIn X.K false) := by
  intro pins s σ H x y v u Q I rx ry h
  obtain ⟨p, xs, rfl, hq, fx, fs, q⟩ := h
  cases ry
  rcases hq with hq | hq
  · obtain ⟨its, r, pl, hz⟩ := I.list hq
    refine SeqAt.in_listAt (eqU x) pl.isList (fun w hw => mem_eqAt rx fx r fs w (by simpa using hw)) ⟨.bl _, H, I, rfl, ?_⟩
    rw [show its.toArray.any (eqU x) = its.any (eqU x) by simp, any_eqU r fs]
    exact q
  · obtain ⟨its, r, pl, hz⟩ := I.tuple hq
    refine SeqAt.in_tupleAt (eqU x) pl (fun w hw => mem_eqAt rx fx r fs w (by simpa using hw)) ⟨.bl _, H, I, rfl, ?_⟩
    rw [show its.toArray.any (eqU x) = its.any (eqU x) by simp, any_eqU r fs]
    exact q
theorem call_len_seq : CallR X (.builtin "len") (fun xs H Q => ∃ p ys, xs = [.ref p] ∧ (SqL X.K H p ys ∨ SqT X.K H p ys) ∧ Q (.int ys.length) H) := by
  intro pins s σ H xs us Q I r h
  obtain ⟨p, ys, rfl, hq, q⟩ := h
  obtain ⟨u, rfl, rx⟩ := vals1 r
  cases rx
  have hn := line63
  rcases hq with hq | hq
  · obtain ⟨its, r', pl, hz⟩ := I.list hq
    have hlen := r'.length
    exact Calls.call_len_list pl.isList (by simp only [List.size_toArray] <;> omega) ⟨.int ys.length, H, I.tok _, ⟨s.toks + 1, by rw [List.size_toArray, hlen]⟩, q⟩
  · obtain ⟨its, r', pl, hz⟩ := I.tuple hq
    have hlen := r'.length
    exact len_tuple pl (by simp only [List.size_toArray] <;> omega) ⟨.int ys.length, H, I.tok _, ⟨s.toks + 1, by rw [List.size_toArray, hlen]⟩, q⟩
theorem call_len_str : CallR X (.builtin "len") (fun xs H Q => ∃ z, xs = [.str z] ∧ z.length ≤ sizeLine ∧ Q (.int z.length) H) := by
  intro pins s σ H xs us Q I r h
  obtain ⟨z, rfl, hz, q⟩ := h
  obtain ⟨u, rfl, t, rfl⟩ := vals1 r
  have hn := line63
  exact len_str (by omega) ⟨.int z.length, H, I.tok _, ⟨_, rfl⟩, q⟩
theorem CallR.or {f : Value} {r r' : List V → Hp → VK → Prop} (h : CallR X f r) (h' : CallR X f r') : CallR X f (fun xs H Q => r xs H Q ∨ r' xs H Q) := by
  intro pins s σ H xs us Q I rs q
  rcases q with q | q
  · exact h pins s σ H xs us Q I rs q
  · exact h' pins s σ H xs us Q I rs q
theorem call_tuple_of : CallR X (.type "tuple") (fun xs H Q => ∃ p ys, xs = [.ref p] ∧ ((SqL X.K H p ys ∧ ∀ l, H l = none → Q (.ref l) (upd H l (.tup ys))) ∨ (SqT X.K H p ys ∧ Q (.ref p) H))) := by
  intro pins s σ H xs us Q I r h
  obtain ⟨p, ys, rfl, h⟩ := h
  obtain ⟨u, rfl, rx⟩ := vals1 r
  cases rx
  rcases h with ⟨hq, q⟩ | ⟨hq, q⟩
  · obtain ⟨its, r', pl, hz⟩ := I.list hq
    have hlen := r'.length
    refine call_tuple_list pl.isList (fun h' kp => ?_) (by simp only [List.size_toArray] <;> omega)
    have I1 : Inv X pins σ H { s with heap := h' } := I.kept (t' := s.toks) kp
    have I2 : Inv X pins σ (upd H h'.objs.size (.tup ys)) { s with heap := h'.push { cls := .type "tuple", data := .seq its.toArray } } :=
      I1.laid (t' := s.toks) (fun b o e => Heap.get?_push_of_some _ e) (Nat.le_refl _) (show ObjOk X.prog X.w _ _ _ (.tup ys) from ⟨hz, its, r', IsTup.new _ _⟩)
    exact ⟨.ref h'.objs.size, _, I2, rfl, q _ (I1.hok.fresh (Nat.le_refl _))⟩
  · obtain ⟨its, r', pl, hz⟩ := I.tuple hq
    exact call_tuple_same pl ⟨.ref p, H, I, rfl, q⟩
def tyV (K : PySem.W.Frag) (T : String) (x : V) (H : Hp) : Prop := match x with
  | .str _ => T = "str"
  | .int _ => T = "int"
  | .ref p => (T = "list" ∧ ∃ xs, SqL K H p xs) ∨ (T = "tuple" ∧ ∃ o, K.lookup p = some o ∧ o.cls = .type "tuple" ∧ o.dict = none) ∨
      (T = "dict" ∧ ((∃ kvs, H p = some (.dK kvs)) ∨ ∃ kvs, H p = some (.dT kvs))) ∨ (T = "set" ∧ ∃ S n, H p = some (.set S n))
  | _ => False
theorem tyV_is {pins : List (Addr × Obj)} {σ : St} {H : Hp} {s : Shared} {T : String} {x : V} {v : Value} (I : Inv X pins σ H s) (r : RelV x v) (ty : tyV X.K T x H) :
    s.TypeIs v T ∧ ∀ a, v = .ref a → ∃ ob, s.heap.get? a = some ob ∧ ob.dict = none := by
  cases x with
  | str z =>
    obtain ⟨t, rfl⟩ := r
    cases (show T = "str" from ty)
    exact ⟨typeIs_str s z t, fun _ e => nomatch e⟩
  | int i =>
    obtain ⟨t, rfl⟩ := r
    cases (show T = "int" from ty)
    exact ⟨typeIs_int s i t, fun _ e => nomatch e⟩
  | ref p =>
    cases r
    rcases ty with ⟨rfl, xs, hq⟩ | ⟨rfl, o, hk, hc, hd⟩ | ⟨rfl, hk⟩ | ⟨rfl, S, n, hk⟩
    · obtain ⟨its, _, pl, _⟩ := I.list hq
      refine ⟨pl.isList.typeIs, fun a e => ?_⟩
      cases e
      obtain ⟨o, n, e, c, hd, _⟩ := pl
      exact ⟨o, e, hd⟩
    · refine ⟨⟨o, I.kIn p o hk, hc⟩, fun a e => ?_⟩
      cases e
      exact ⟨o, I.kIn _ o hk, hd⟩
    · have z : ∃ o, s.heap.get? p = some o ∧ o.ExactDict := by
        rcases hk with ⟨kvs, hk⟩ | ⟨kvs, hk⟩
        · obtain ⟨_, _, _, _, o, _, _, e, ex, _⟩ := I.hok p _ hk
          exact ⟨o, e, ex⟩
        · obtain ⟨_, _, _, _, o, _, _, e, ex, _⟩ := I.hok p _ hk
          exact ⟨o, e, ex⟩
      obtain ⟨o, e, ex⟩ := z
      refine ⟨⟨o, e, ex.1⟩, fun a e2 => ?_⟩
      cases e2
      exact ⟨o, e, ex.2.1⟩
    · obtain ⟨o, _, _, _, e, ex, _⟩ := I.hok p _ hk
      refine ⟨⟨o, e, ex.1⟩, fun a e2 => ?_⟩
      cases e2
      exact ⟨o, e, ex.2.1⟩
  | _ => exact False.elim ty
variable {o e : Expr} {es : List Expr} {to : TE} {t : TA} {name : Str} {apos cpos : Pos} {T id : String} {r : V → List V → Hp → VK → Prop}
end
end L2
namespace L2
open PySem PySem.Spec PyProof.Rows
def MtM (X : Cx) (id : String) (r : V → List V → Hp → VK → Prop) : Prop :=
  ∀ (pins : List (Addr × Obj)) (s : Shared) (σ : St) (H : Hp) (x : V) (xs : List V) (v : Value) (us : List Value) (Q : VK), Inv X pins σ H s → RelV x v → Vals xs us → r x xs H Q →
    wpAny (model X.prog X.w) X.A (call (.builtin id) (v :: us)) (EP X pins σ Q) X.xe s
theorem Vals.one : ∀ {x : V} {us : List Value}, Vals [x] us → ∃ u, us = [u] ∧ RelV x u
  | _, _, .cons r .nil => ⟨_, rfl, r⟩
theorem Vals.zero : ∀ {us : List Value}, Vals [] us → us = []
  | _, .nil => rfl
theorem Vals.eraseIdx : ∀ {xs : List V} {us : List Value} (i : Nat), Vals xs us → Vals (xs.eraseIdx i) (us.eraseIdx i)
  | _, _, _, .nil => .nil
  | _, _, 0, .cons _ t => t
  | _, _, i + 1, .cons r t => .cons r (Vals.eraseIdx i t)
theorem Vals.reverse {xs : List V} {us : List Value} (h : Vals xs us) : Vals xs.reverse us.reverse := by
  induction h with
  | nil => exact .nil
  | cons r t ih => rw [List.reverse_cons, List.reverse_cons]; exact Vals.append ih (.cons r .nil)
theorem Vals.rep {xs : List V} {us : List Value} (h : Vals xs us) : ∀ k : Nat, Vals (List.replicate k xs).flatten (List.replicate k us).flatten
  | 0 => .nil
  | k + 1 => by
    rw [List.replicate_succ, List.replicate_succ, List.flatten_cons, List.flatten_cons]
    exact Vals.append h (Vals.rep h k)
theorem foldl_rep (its : List Value) : ∀ (k : Nat) (acc : List Value),
    List.foldl (fun x1 x2 => x1 ++ x2) acc.toArray (List.replicate k its.toArray) = (acc ++ (List.replicate k its).flatten).toArray
  | 0, acc => by simp
  | k + 1, acc => by
    have e : acc.toArray ++ its.toArray = (acc ++ its).toArray := by simp
    have e2 : (acc ++ its) ++ (List.replicate k its).flatten = acc ++ (List.replicate (k + 1) its).flatten := by
      rw [List.replicate_succ, List.flatten_cons, List.append_assoc]
    rw [← e2, ← foldl_rep its k (acc ++ its), ← e, List.replicate_succ, List.foldl_cons]
section
variable {X : Cx} {pins : List (Addr × Obj)} {σ : St} {H : Hp} {s : Shared} {l b : Addr} {xs ys zs : List V}
theorem Inv.lset {its its' : List Value} {n : Nat} {f : Array Value → Array Value} {t' : Nat} (I : Inv X pins σ H s) (hH : H l = some (.lst xs))
    (e : s.heap.get? l = some { cls := .type "list", data := .seq its.toArray n }) (hf : f its.toArray = its'.toArray) (hv : Vals ys its') (hz : ys.length ≤ sizeLine) :
    Inv X pins σ (upd H l (.lst ys)) { s with heap := s.heap.update l (Obj.mapSeq f), toks := t' } := by
  have q := PySem.IsL.update e f
  rw [hf] at q
  refine I.write (x := l) (e := l) (by rw [hH]; exact trivial) (.inl rfl) (fun b' u hb hu => (Heap.get?_update_other s.heap (Obj.mapSeq f) (Ne.symm hb)).trans hu) ⟨_, q⟩ ?_
  exact ⟨hz, its', _, hv, q⟩
theorem Inv.lnew {its : List Value} {t' : Nat} (I : Inv X pins σ H s) (hv : Vals ys its) (hz : ys.length ≤ sizeLine) :
    Inv X pins σ (upd H s.heap.objs.size (.lst ys)) { s with heap := s.heap.push { cls := .type "list", data := .seq its.toArray }, toks := t' } :=
  I.laid (fun _ _ q => Heap.get?_push_of_some _ q) (Nat.le_refl _) ⟨hz, its, 0, hv, Heap.get?_push_size _ rfl⟩
theorem Inv.fresh (I : Inv X pins σ H s) : H s.heap.objs.size = none := I.hok.fresh (Nat.le_refl _)
theorem Inv.lstM (I : Inv X pins σ H s) (hH : H l = some (.lst xs)) : xs.length ≤ sizeLine ∧ ∃ (its : List Value) (n : Nat), Vals xs its ∧ xs.length = its.length ∧ s.heap.get? l = some { cls := .type "list", data := .seq its.toArray n } := by
  obtain ⟨z, its, n, r, e⟩ := I.hok l _ hH
  exact ⟨z, its, n, r, r.length, e⟩
theorem notLongL {n : Nat} (h : n ≤ sizeLine) : Builtin.List.listTooLong n = false := by
  unfold Builtin.List.listTooLong
  exact decide_eq_false (by omega)
end
section
variable {X : Cx}
def rAppend : V → List V → Hp → VK → Prop := fun x vs H Q => ∃ l xs y, x = .ref l ∧ vs = [y] ∧ H l = some (.lst xs) ∧ xs.length < sizeLine ∧ Q .non (upd H l (.lst (xs ++ [y])))
theorem mt_append : MtM X "list.append" rAppend := by
  intro pins s σ H x vs v us Q I rx rv h
  obtain ⟨l, xs, y, rfl, rfl, hH, hz, q⟩ := h
  cases rx
  obtain ⟨u, rfl, ru⟩ := rv.one
  obtain ⟨z, its, n, r, hl, e⟩ := I.lstM hH
  refine call_meets F.slot_list_append ⟨_, e, rfl⟩ F.entry_list_append (F.args_list_append_2 _ _) (PySem.list_append l its.toArray n u (by rw [List.size_toArray]; omega)) ⟨e, ?_⟩
  refine ⟨.non, _, I.lset (its' := its ++ [u]) hH e (by simp) (r.append (.cons ru .nil)) ?_, rfl, q⟩
  rw [List.length_append, List.length_singleton]
  omega
def rPopAt : V → List V → Hp → VK → Prop := fun x vs H Q => ∃ l xs i k y, x = .ref l ∧ vs = [.int i] ∧ H l = some (.lst xs) ∧ -(2 ^ 63) ≤ i ∧ i < 2 ^ 63 ∧ seqIndex? i xs.length = some k ∧ xs[k]? = some y ∧ Q y (upd H l (.lst (xs.eraseIdx k)))
def rReverse : V → List V → Hp → VK → Prop := fun x vs H Q => ∃ l xs, x = .ref l ∧ vs = [] ∧ H l = some (.lst xs) ∧ Q .non (upd H l (.lst xs.reverse))
def rCat : R2 := fun x y H Q => ∃ l b xs zs, x = .ref l ∧ y = .ref b ∧ H l = some (.lst xs) ∧ H b = some (.lst zs) ∧ xs.length + zs.length ≤ sizeLine ∧ ∀ p, H p = none → Q (.ref p) (upd H p (.lst (xs ++ zs)))
theorem op_cat : OpR X (binaryOp .Add) rCat := by
  intro pins s σ H x y v u Q I rx ry h
  obtain ⟨l, b, xs, zs, rfl, rfl, hH, hB, hz, q⟩ := h
  cases rx
  cases ry
  obtain ⟨z, its, n, r, hl, e⟩ := I.lstM hH
  obtain ⟨z2, its2, n2, r2, hl2, e2⟩ := I.lstM hB
  refine PySem.P.add_list e e2 ?_ (by rw [List.size_toArray, List.size_toArray]; omega)
  have ea : its.toArray ++ its2.toArray = (its ++ its2).toArray := by simp
  rw [ea]
  exact ⟨.ref _, _, I.lnew (t' := s.toks) (r.append r2) (by rw [List.length_append]; omega), rfl, q _ I.fresh⟩
def rRep : R2 := fun x y H Q => ∃ l k xs, x = .ref l ∧ y = .int k ∧ H l = some (.lst xs) ∧ -(2 ^ 63) ≤ k ∧ k < 2 ^ 63 ∧ xs.length * k.toNat ≤ sizeLine ∧
  ∀ p, H p = none → Q (.ref p) (upd H p (.lst (List.replicate k.toNat xs).flatten))
theorem len_rep {α : Type} (xs : List α) (k : Nat) : (List.replicate k xs).flatten.length = k * xs.length := by
  induction k with
  | zero => simp
  | succ k ih => rw [List.replicate_succ, List.flatten_cons, List.length_append, ih, Nat.succ_mul, Nat.add_comm]
theorem op_rep : OpR X (binaryOp .Mult) rRep := by
  intro pins s σ H x y v u Q I rx ry h
  obtain ⟨l, k, xs, rfl, rfl, hH, h1, h2, hz, q⟩ := h
  cases rx
  obtain ⟨t, rfl⟩ := ry
  obtain ⟨z, its, n, r, hl, e⟩ := I.lstM hH
  have hlen : its.toArray.size * k.toNat ≤ sizeLine := by rw [List.size_toArray, ← hl]; exact hz
  have hcap : ¬ its.toArray.size * k.toNat > (2 ^ 63 - 1) / 8 := by
    have : (sizeLine : Nat) ≤ (2 ^ 63 - 1) / 8 := by decide
    omega
  have hfit : ¬ (!Builtin.List.listFitsIndex k) = true := by
    rw [fitsIndex_both h1 h2]
    exact Bool.false_ne_true
  have hlong : ¬ Builtin.List.listTooLong (its.toArray.size * k.toNat) = true := by
    rw [notLongL hlen]
    exact Bool.false_ne_true
  have hnew : List.foldl (fun x1 x2 => x1 ++ x2) #[] (List.replicate (if its.toArray.isEmpty = true then 0 else k.toNat) its.toArray) = (List.replicate k.toNat its).flatten.toArray := by
    have f0 : ∀ m : Nat, List.foldl (fun x1 x2 => x1 ++ x2) #[] (List.replicate m its.toArray) = (List.replicate m its).flatten.toArray := fun m => by
      have := foldl_rep its m []
      rw [List.nil_append] at this
      exact this
    rw [f0]
    cases its with
    | nil => simp
    | cons a r' => rw [if_neg (by simp)]
  refine wpAny_binaryOp_repeat_ref (T := "list") (U := "int") (by decide) ⟨_, e, rfl⟩ (fun s' => typeIs_int s' k t) noFill_list_mul F.fills_int_mul F.slot_int_rmul repeat_list F.slot_int_index.lookup
    (call_meets F.slot_int_rmul (typeIs_int s k t) F.entry_int_rmul (F.args_int_rmul_2 _ _) (int___rmul___int_list k t l its.toArray n)
      ⟨e, rfl, ⟨_, e, rfl⟩, call_meets F.slot_list_mul ⟨_, e, rfl⟩ F.entry_list_mul (F.args_list_mul_2 _ _) (AutoListH.list___mul___list_int_3 l its.toArray n k t hfit hcap hlong) ⟨e, ?_⟩⟩)
  rw [hnew]
  exact ⟨.ref _, _, I.lnew (t' := s.toks) (r.rep k.toNat) (by rw [len_rep, Nat.mul_comm]; exact hz), rfl, q _ I.fresh⟩
end
section
variable {prog : Program} {w : World} {A : Around} {E : Value → Shared → Prop} {s : Shared}
end
section
variable {X : Cx}
end
end L2
namespace L2
open PySem PySem.Spec PyProof.Rows
section
variable {κ : Type} [DecidableEq κ]
def valV (kvs : List (κ × V)) (k : κ) : Option V := (kvs.find? fun kv => decide (kv.1 = k)).map (·.2)
def putK (kvs : List (κ × V)) (k : κ) (v : V) : List (κ × V) :=
  if (kvs.any fun kv => decide (kv.1 = k)) = true then kvs.map (fun kv => if kv.1 = k then (kv.1, v) else kv) else kvs ++ [(k, v)]
def dropK (kvs : List (κ × V)) (k : κ) : List (κ × V) := kvs.filter fun kv => decide (kv.1 ≠ k)
theorem valV_pos {p : κ × V} {r : List (κ × V)} {k : κ} (e : p.1 = k) : valV (p :: r) k = some p.2 := by simp [valV, List.find?_cons, e]
theorem valV_neg {p : κ × V} {r : List (κ × V)} {k : κ} (e : ¬ p.1 = k) : valV (p :: r) k = valV r k := by simp [valV, List.find?_cons, e]
theorem valV_any (k : κ) : ∀ kvs : List (κ × V), (kvs.any fun kv => decide (kv.1 = k)) = (valV kvs k).isSome
  | [] => rfl
  | p :: r => by
    rw [List.any_cons]
    by_cases e : p.1 = k
    · simp only [valV_pos e, decide_eq_true e, Bool.true_or, Option.isSome_some]
    · rw [valV_neg e, decide_eq_false e, Bool.false_or]; exact valV_any k r
theorem valV_map (k j : κ) (y : V) : ∀ kvs : List (κ × V), valV (kvs.map fun kv => if kv.1 = k then (kv.1, y) else kv) j = (valV kvs j).map fun x => if j = k then y else x
  | [] => rfl
  | p :: r => by
    have ih := valV_map k j y r
    rw [List.map_cons]
    by_cases h : p.1 = k
    · rw [if_pos h]
      by_cases e : p.1 = j
      · rw [valV_pos (p := (p.1, y)) e, valV_pos e, Option.map_some, if_pos (e.symm.trans h)]
      · rw [valV_neg (p := (p.1, y)) e, valV_neg e, ih]
    · rw [if_neg h]
      by_cases e : p.1 = j
      · rw [valV_pos (p := p) e, valV_pos e, Option.map_some, if_neg (fun z => h (e.trans z))]
      · rw [valV_neg (p := p) e, valV_neg e, ih]
theorem valV_snoc (k j : κ) (y : V) : ∀ kvs : List (κ × V), valV kvs k = none → valV (kvs ++ [(k, y)]) j = if j = k then some y else valV kvs j
  | [], _ => by
    by_cases e : k = j
    · rw [if_pos e.symm]; exact valV_pos (p := (k, y)) e
    · rw [if_neg (fun z => e z.symm)]; exact valV_neg (p := (k, y)) e
  | p :: r, hn => by
    rw [List.cons_append]
    have hk : ¬ p.1 = k := fun z => by rw [valV_pos z] at hn; cases hn
    rw [valV_neg hk] at hn
    have ih := valV_snoc k j y r hn
    by_cases e : p.1 = j
    · rw [valV_pos e, valV_pos e, if_neg (fun z => hk (e.trans z))]
    · rw [valV_neg e, valV_neg e, ih]
theorem valV_put (kvs : List (κ × V)) (k j : κ) (y : V) : valV (putK kvs k y) j = if j = k then some y else valV kvs j := by
  unfold putK
  by_cases a : (kvs.any fun kv => decide (kv.1 = k)) = true
  · rw [if_pos a, valV_map]
    rw [valV_any] at a
    by_cases e : j = k
    · obtain ⟨x, hx⟩ := Option.isSome_iff_exists.mp a
      rw [if_pos e, e, hx, Option.map_some, if_pos rfl]
    · rw [if_neg e]
      cases valV kvs j with
      | none => rfl
      | some x => rw [Option.map_some, if_neg e]
  · rw [if_neg a]
    refine valV_snoc k j y kvs ?_
    rw [valV_any] at a
    cases q : valV kvs k with
    | none => rfl
    | some x => rw [q] at a; exact (a rfl).elim
theorem length_putK (kvs : List (κ × V)) (k : κ) (v : V) : (putK kvs k v).length ≤ kvs.length + 1 := by
  unfold putK
  split
  · rw [List.length_map]; omega
  · rw [List.length_append, List.length_cons, List.length_nil]; omega
theorem putK_new {kvs : List (κ × V)} {k : κ} (v : V) (h : valV kvs k = none) : putK kvs k v = kvs ++ [(k, v)] := by
  unfold putK
  rw [valV_any, h]
  exact if_neg (by decide)
theorem RelO.isSome_eq {o : Option V} {u : Option Value} (r : RelO o u) : o.isSome = u.isSome := by
  cases o with
  | none => cases u with
    | none => rfl
    | some _ => exact (show False from r).elim
  | some _ => cases u with
    | none => exact (show False from r).elim
    | some _ => rfl
theorem RelO.getD {o : Option V} {u : Option Value} {d : V} {d' : Value} (r : RelO o u) (rd : RelV d d') : RelV (o.getD d) (u.getD d') := by
  cases o with
  | none => cases u with
    | none => exact rd
    | some _ => exact (show False from r).elim
  | some _ => cases u with
    | none => exact (show False from r).elim
    | some _ => exact r
theorem KV.val {kvs : List (κ × V)} {vs : List (κ × Value)} (r : KV kvs vs) (k : κ) : RelO (valV kvs k) (valueAt vs k) := by
  unfold KV at r
  induction r with
  | nil => exact True.intro
  | @cons p q ps qs h t ih =>
    obtain ⟨h1, h2⟩ := h
    by_cases e : p.1 = k
    · have e' : q.1 = k := h1.symm.trans e
      have b : valueAt (q :: qs) k = some q.2 := by simp [valueAt, List.find?_cons, e']
      rw [valV_pos e, b]; exact h2
    · have e' : ¬ q.1 = k := fun z => e (h1.trans z)
      have b : valueAt (q :: qs) k = valueAt qs k := by simp [valueAt, List.find?_cons, e']
      rw [valV_neg e, b]; exact ih
theorem KV.any {kvs : List (κ × V)} {vs : List (κ × Value)} (r : KV kvs vs) (k : κ) : (kvs.any fun kv => decide (kv.1 = k)) = vs.any fun kv => decide (kv.1 = k) := by
  unfold KV at r
  induction r with
  | nil => rfl
  | cons h t ih => rw [List.any_cons, List.any_cons, ih, h.1]
theorem KV.repl {kvs : List (κ × V)} {vs : List (κ × Value)} (r : KV kvs vs) (k : κ) {y : V} {u : Value} (ry : RelV y u) :
    KV (kvs.map fun kv => if kv.1 = k then (kv.1, y) else kv) (vs.map fun kv => if kv.1 = k then (kv.1, u) else kv) := by
  unfold KV at r ⊢
  induction r with
  | nil => exact .nil
  | @cons p q ps qs h t ih =>
    rw [List.map_cons, List.map_cons]
    refine .cons ?_ ih
    obtain ⟨h1, h2⟩ := h
    by_cases e : p.1 = k
    · rw [if_pos e, if_pos (h1.symm.trans e)]; exact ⟨h1, ry⟩
    · rw [if_neg e, if_neg (fun z => e (h1.trans z))]; exact ⟨h1, h2⟩
theorem KV.put {kvs : List (κ × V)} {vs : List (κ × Value)} (r : KV kvs vs) (k : κ) {y : V} {u : Value} (ry : RelV y u) : KV (putK kvs k y) (stored vs k u) := by
  unfold putK stored
  rw [r.any k]
  by_cases e : (vs.any fun kv => decide (kv.1 = k)) = true
  · rw [if_pos e, if_pos e]; exact r.repl k ry
  · rw [if_neg e, if_neg e]; exact Paired.snoc r ⟨rfl, ry⟩
theorem KV.drop {kvs : List (κ × V)} {vs : List (κ × Value)} (r : KV kvs vs) (k : κ) : KV (dropK kvs k) (without vs k) := by
  unfold KV at r ⊢
  unfold dropK without
  induction r with
  | nil => exact .nil
  | @cons p q ps qs h t ih =>
    obtain ⟨h1, h2⟩ := h
    rw [List.filter_cons, List.filter_cons]
    by_cases e : p.1 = k
    · have a : ¬ decide (p.1 ≠ k) = true := by simp [e]
      have b : ¬ decide (q.1 ≠ k) = true := by simp [h1.symm.trans e]
      rw [if_neg a, if_neg b]; exact ih
    · have e' : ¬ q.1 = k := fun z => e (h1.trans z)
      have a : decide (p.1 ≠ k) = true := by simp [e]
      have b : decide (q.1 ≠ k) = true := by simp [e']
      rw [if_pos a, if_pos b]; exact .cons ⟨h1, h2⟩ ih
theorem KV.keys {kvs : List (κ × V)} {vs : List (κ × Value)} (r : KV kvs vs) : kvs.map (·.1) = vs.map (·.1) := by
  unfold KV at r
  induction r with
  | nil => rfl
  | cons h t ih => rw [List.map_cons, List.map_cons, ih, h.1]
theorem KV.length {kvs : List (κ × V)} {vs : List (κ × Value)} (r : KV kvs vs) : kvs.length = vs.length := Paired.length r
end
theorem kV_is {P : Program} {w : World} {k : Key} {u : Value} (r : RelV (kV k) u) : (mixKind P w).is k u = true := by
  cases k with
  | inl i => obtain ⟨t, e⟩ := (show ∃ t, u = Value.int i t from r); subst e; exact mixKind_int P w i t
  | inr x => obtain ⟨t, e⟩ := (show ∃ t, u = Value.str x t from r); subst e; exact mixKind_str P w x t
theorem items_are {P : Program} {w : World} : ∀ {ks : List Key} {us : List Value}, Vals (ks.map kV) us → ItemsAre (mixKind P w) ks us
  | [], _, r => by rw [List.map_nil] at r; cases r; exact .nil
  | k :: ks, _, r => by
    rw [List.map_cons] at r
    cases r with
    | cons h t => exact .cons (kV_is h) (items_are t)
abbrev KT (H : Hp) : List (List Key × V) → List (List Key × Addr × Value) → Prop := Paired fun p q => p.1 = q.1 ∧ H q.2.1 = some (.tup (p.1.map kV)) ∧ RelV p.2 q.2.2
theorem KT.val {H : Hp} {kvs : List (List Key × V)} {xs : List (List Key × Addr × Value)} (r : KT H kvs xs) (k : List Key) : RelO (valV kvs k) ((atKey xs k).map (·.2)) := by
  induction r with
  | nil => exact True.intro
  | @cons p q ps qs h t ih =>
    obtain ⟨h1, _, h2⟩ := h
    by_cases e : p.1 = k
    · have e' : q.1 = k := h1.symm.trans e
      have b : atKey (q :: qs) k = some q.2 := by simp [atKey, List.find?_cons, e']
      rw [valV_pos e, b]; exact h2
    · have e' : ¬ q.1 = k := fun z => e (h1.trans z)
      have b : atKey (q :: qs) k = atKey qs k := by simp [atKey, List.find?_cons, e']
      rw [valV_neg e, b]; exact ih
theorem KT.repl {H : Hp} {kvs : List (List Key × V)} {xs : List (List Key × Addr × Value)} (r : KT H kvs xs) (k : List Key) {y : V} {u : Value} (ry : RelV y u) :
    KT H (kvs.map fun kv => if kv.1 = k then (kv.1, y) else kv) (xs.map (putAt k u)) := by
  induction r with
  | nil => exact .nil
  | @cons p q ps qs h t ih =>
    rw [List.map_cons, List.map_cons]
    refine .cons ?_ ih
    obtain ⟨h1, h2, h3⟩ := h
    unfold putAt
    by_cases e : p.1 = k
    · rw [if_pos e, if_pos (h1.symm.trans e)]; exact ⟨h1, h2, ry⟩
    · rw [if_neg e, if_neg (fun z => e (h1.trans z))]; exact ⟨h1, h2, h3⟩
theorem KT.put {H : Hp} {kvs : List (List Key × V)} {xs : List (List Key × Addr × Value)} (r : KT H kvs xs) (k : List Key) {b : Addr} {y : V} {u : Value} (hb : H b = some (.tup (k.map kV))) (ry : RelV y u) :
    KT H (putK kvs k y) (storedH xs k b u) := by
  have e : (kvs.any fun kv => decide (kv.1 = k)) = (atKey xs k).isSome := by
    rw [valV_any, (r.val k).isSome_eq, Option.isSome_map]
  unfold putK storedH
  rw [e]
  by_cases q : (atKey xs k).isSome = true
  · rw [if_pos q, if_pos q]; exact r.repl k ry
  · rw [if_neg q, if_neg q]; exact Paired.snoc r ⟨rfl, hb, ry⟩
theorem KT.keeps {H H' : Hp} {kvs : List (List Key × V)} {xs : List (List Key × Addr × Value)} (r : KT H kvs xs) (ht : ∀ b ys, H b = some (.tup ys) → H' b = some (.tup ys)) : KT H' kvs xs :=
  Paired.mapP r fun _ _ z => ⟨z.1, ht _ _ z.2.1, z.2.2⟩
section
variable {P : Program} {w : World} {H : Hp} {h : Heap} {a : Addr}
theorem rd_of {u : HO} (ok : HOk P w H h) (e : Rd H a u) : ObjOk P w H h a u := e.ok ok
theorem dk_rd {kvs : List (Key × V)} (ok : HOk P w H h) (e : Rd H a (.dK kvs)) : kvs.length ≤ sizeLine ∧ (a == sysModules) = false ∧ ∃ vs, KV kvs vs ∧ h.DictOf (mixKind P w) a vs :=
  show ObjOk P w H h a (.dK kvs) from rd_of ok e
theorem dk_of {kvs : List (Key × V)} (ok : HOk P w H h) (e : H a = some (.dK kvs)) : kvs.length ≤ sizeLine ∧ (a == sysModules) = false ∧ ∃ vs, KV kvs vs ∧ h.DictOf (mixKind P w) a vs := dk_rd ok (.inl e)
theorem key_of {ks : List Key} (ok : HOk P w H h) (e : H a = some (.tup (ks.map kV))) : (tupleKind (mixKind P w)).is h ks a := by
  obtain ⟨_, its, r, o, h1, h2, n, h3⟩ := (show ObjOk P w H h a (.tup (ks.map kV)) from ok a _ e)
  exact ⟨o, its.toArray, n, h1, h2, h3, by simpa using items_are r⟩
theorem dt_rd {kvs : List (List Key × V)} (ok : HOk P w H h) (e : Rd H a (.dT kvs)) : kvs.length ≤ sizeLine ∧ (a == sysModules) = false ∧
    ∃ xs, KT H kvs xs ∧ h.DictOfH (tupleKind (mixKind P w)) a xs := by
  obtain ⟨z, y, xs, r, o, es, ep, h1, h2, h3, h4, h5⟩ := (show ObjOk P w H h a (.dT kvs) from rd_of ok e)
  refine ⟨z, y, xs, r, o, es, ep, h1, h2, h3, h4, fun x hx => ?_, h5⟩
  have all : ∀ {l : List (List Key × V)} {m : List (List Key × Addr × Value)}, KT H l m → ∀ x ∈ m, (tupleKind (mixKind P w)).is h x.1 x.2.1 := by
    intro l m q
    induction q with
    | nil => intro x hx; exact nomatch hx
    | @cons p q ps qs hq t ih =>
      intro x hx
      rcases List.mem_cons.mp hx with e | hx
      · subst e
        exact key_of ok (by rw [← hq.1]; exact hq.2.1)
      · exact ih x hx
  exact all r x hx
theorem dt_of {kvs : List (List Key × V)} (ok : HOk P w H h) (e : H a = some (.dT kvs)) : kvs.length ≤ sizeLine ∧ (a == sysModules) = false ∧
    ∃ xs, KT H kvs xs ∧ h.DictOfH (tupleKind (mixKind P w)) a xs := dt_rd ok (.inl e)
end
def DGet (H : Hp) (a : Addr) (y : V) (r : Option V) : Prop :=
  (∃ kvs k, Rd H a (.dK kvs) ∧ y = kV k ∧ r = valV kvs k) ∨ ∃ kvs k b, Rd H a (.dT kvs) ∧ y = .ref b ∧ H b = some (.tup (k.map kV)) ∧ r = valV kvs k
def DPut (H : Hp) (a : Addr) (y v : V) (H' : Hp) : Prop :=
  (∃ kvs k, H a = some (.dK kvs) ∧ y = kV k ∧ kvs.length < sizeLine ∧ H' = upd H a (.dK (putK kvs k v))) ∨
  ∃ kvs k b, H a = some (.dT kvs) ∧ y = .ref b ∧ H b = some (.tup (k.map kV)) ∧ kvs.length < sizeLine ∧ H' = upd H a (.dT (putK kvs k v))
theorem DGet.k {H : Hp} {a : Addr} {kvs : List (Key × V)} {k : Key} (e : H a = some (.dK kvs)) : DGet H a (kV k) (valV kvs k) := .inl ⟨kvs, k, .inl e, rfl, rfl⟩
theorem DGet.t {H : Hp} {a b : Addr} {kvs : List (List Key × V)} {k : List Key} (e : H a = some (.dT kvs)) (eb : H b = some (.tup (k.map kV))) : DGet H a (.ref b) (valV kvs k) := .inr ⟨kvs, k, b, .inl e, rfl, eb, rfl⟩
theorem DPut.k {H : Hp} {a : Addr} {kvs : List (Key × V)} {k : Key} {v : V} (e : H a = some (.dK kvs)) (hl : kvs.length < sizeLine) : DPut H a (kV k) v (upd H a (.dK (putK kvs k v))) := .inl ⟨kvs, k, e, rfl, hl, rfl⟩
theorem DPut.t {H : Hp} {a b : Addr} {kvs : List (List Key × V)} {k : List Key} {v : V} (e : H a = some (.dT kvs)) (eb : H b = some (.tup (k.map kV))) (hl : kvs.length < sizeLine) :
    DPut H a (.ref b) v (upd H a (.dT (putK kvs k v))) := .inr ⟨kvs, k, b, e, rfl, eb, hl, rfl⟩
section
variable {X : Cx} {pins : List (Addr × Obj)} {σ : St} {H : Hp} {s : Shared} {a : Addr} {y v : V} {u r : Value} {o : Option V} {A : Around} {E : Value → Shared → Prop}
theorem Inv.big (I : Inv X pins σ H s) : sysModules < s.heap.objs.size := by
  have h : mainGlobals < s.heap.objs.size := (I.mod.glob.keeps I.bk).lt
  exact Nat.lt_trans (by decide) h
theorem d_getItem {Q : Value → Shared → Prop} (hu : A.units + 1 < cLine) (I : Inv X pins σ H s) (g : DGet H a y (some v)) (ry : RelV y u) (h : ∀ w' s', Inv X pins σ H s' → RelV v w' → Q w' s') :
    wpAny (model X.prog X.w) A (getItem (.ref a) u) Q E s := by
  rcases g with ⟨kvs, k, e, ey, l⟩ | ⟨kvs, k, b, e, ey, eb, l⟩
  · subst ey
    obtain ⟨z, hd, vs, rel, dd⟩ := dk_rd I.hok e
    obtain ⟨w', hw, rw'⟩ := RelO.some_of (v := v) (o := valueAt vs k) (by rw [l]; exact rel.val k)
    exact wpAny_getItem_of (kV_is ry) dd.mapOf hw (h w' _ (I.tok _) rw')
  · subst ey
    cases (show u = Value.ref b from ry)
    obtain ⟨z, hd, xs, rel, dd⟩ := dt_rd I.hok e
    obtain ⟨w', hw, rw'⟩ := RelO.some_of (v := v) (o := (atKey xs k).map (·.2)) (by rw [l]; exact rel.val k)
    obtain ⟨p, hp, hp2⟩ := Option.map_eq_some_iff.mp hw
    refine wpAny_getItem_heap (tupleKind_room_in1 hu) (key_of I.hok eb) dd hp ?_
    rw [hp2]
    exact h w' _ (I.tok _) rw'
theorem d_in {Q : Value → Shared → Prop} (hu : A.units + 1 < cLine) (I : Inv X pins σ H s) (g : DGet H a y o) (ry : RelV y u) (h : ∀ s', Inv X pins σ H s' → Q (.bool o.isSome) s') :
    wpAny (model X.prog X.w) A (compareOp .In u (.ref a)) Q E s := by
  rcases g with ⟨kvs, k, e, ey, l⟩ | ⟨kvs, k, b, e, ey, eb, l⟩
  · subst ey
    obtain ⟨z, hd, vs, rel, dd⟩ := dk_rd I.hok e
    refine wpAny_in_of (kV_is ry) hd dd.mapOf ?_
    rw [← (rel.val k).isSome_eq, ← l]
    exact h _ (I.tok _)
  · subst ey
    cases (show u = Value.ref b from ry)
    obtain ⟨z, hd, xs, rel, dd⟩ := dt_rd I.hok e
    refine wpAny_in_heap (tupleKind_room_in1 hu) (key_of I.hok eb) hd dd ?_
    have q := (rel.val k).isSome_eq
    rw [Option.isSome_map] at q
    rw [← q, ← l]
    exact h _ (I.tok _)
theorem d_write {h' : Heap} {t' : Nat} {ob : HO} (I : Inv X pins σ H s) (mu : Mut (H a)) (hs : Heap.SameBut a s.heap h') (he : ∃ q, h'.get? a = some q) (new : ObjOk X.prog X.w (upd H a ob) h' a ob) :
    Inv X pins σ (upd H a ob) { s with heap := h', toks := t' } :=
  I.write (x := a) (e := a) mu (.inl rfl) (fun b q hb z => (hs.2 b hb).trans z) he new
theorem dk_new {P : Program} {w : World} {H' : Hp} {h' : Heap} {kvs : List (Key × V)} {vs : List (Key × Value)} (z : kvs.length ≤ sizeLine) (hd : (a == sysModules) = false) (rel : KV kvs vs) (dd : h'.DictOf (mixKind P w) a vs) :
    ObjOk P w H' h' a (.dK kvs) := ⟨z, hd, vs, rel, dd⟩
theorem d_setItem {H' : Hp} {Q : Unit → Shared → Prop} (hu : A.units + 1 < cLine) (I : Inv X pins σ H s) (g : DPut H a y v H') (ry : RelV y u) (rv : RelV v r) (h : ∀ s', Inv X pins σ H' s' → Q () s') :
    wpAny (model X.prog X.w) A (setItem (.ref a) u r) Q E s := by
  rcases g with ⟨kvs, k, e, ey, l, eH⟩ | ⟨kvs, k, b, e, ey, eb, l, eH⟩
  · subst ey eH
    obtain ⟨z, hd, vs, rel, dd⟩ := dk_of I.hok e
    have hz : vs.length ≤ sizeLine := by rw [← rel.length]; exact z
    have hl : (putK kvs k v).length ≤ sizeLine := by have := length_putK kvs k v; omega
    refine wpAny_setItem_pairs (hsz := hz) (kV_is ry) dd fun h' dd' hs => h _ ?_
    have he : ∃ q, h'.get? a = some q := let ⟨q, _, _, hq, _⟩ := dd'; ⟨q, hq⟩
    exact d_write I (by rw [e]; exact True.intro) hs he (dk_new hl hd (rel.put k rv) dd')
  · subst ey eH
    cases (show u = Value.ref b from ry)
    obtain ⟨z, hd, xs, rel, dd⟩ := dt_of I.hok e
    have hz : xs.length ≤ sizeLine := by rw [← Paired.length rel]; exact z
    have hl : (putK kvs k v).length ≤ sizeLine := by have := length_putK kvs k v; omega
    refine wpAny_setItem_heap (hsz := hz) (tupleKind_room_in1 hu) (key_of I.hok eb) dd fun h' dd' hs => h _ ?_
    obtain ⟨q, es, ep, hq, h2, h3, h4, _, h5⟩ := dd'
    refine d_write I (by rw [e]; exact True.intro) hs ⟨q, hq⟩ ⟨hl, hd, _, (rel.put k eb rv).keeps fun c ys ec => ?_, q, es, ep, hq, h2, h3, h4, h5⟩
    rw [upd_ne (ne_of ec e (fun z => nomatch z))]
    exact ec
end
section
variable {X : Cx} {pins : List (Addr × Obj)} {σ : St} {H : Hp} {s : Shared} {a : Addr} {kvs : List (Key × V)} {k : Key} {u : Value} {A : Around} {E : Value → Shared → Prop}
theorem d_len {Q : Value → Shared → Prop} (I : Inv X pins σ H s) (e : Rd H a (.dK kvs)) (h : ∀ t s', Inv X pins σ H s' → Q (.int kvs.length t) s') : wpAny (model X.prog X.w) A (call (.builtin "len") [.ref a]) Q E s := by
  obtain ⟨z, hd, vs, rel, dd⟩ := dk_rd I.hok e
  refine call_len_dict hd dd (by rw [← rel.length]; rw [sizeLine_eq] at z; omega) ?_
  rw [← rel.length]
  exact h _ _ (I.tok _)
end
theorem dict_typeIs {X : Cx} {pins : List (Addr × Obj)} {σ : St} {H : Hp} {s : Shared} {a : Addr} {y : V} {o : Option V} (I : Inv X pins σ H s) (g : DGet H a y o) : s.TypeIs (.ref a) "dict" := by
  rcases g with ⟨kvs, k, e, _, _⟩ | ⟨kvs, k, b, e, _, _, _⟩
  · obtain ⟨_, _, vs, _, dd⟩ := dk_rd I.hok e
    exact dd.typeIs
  · obtain ⟨_, _, xs, _, dd⟩ := dt_rd I.hok e
    exact dd.typeIs
section
variable {X : Cx} {o i e value : Expr} {pos pos' tpos : Pos} {td ty tv : TE}
end
theorem dk_empty {P : Program} {w : World} {H : Hp} (h : Heap) (hb : sysModules < h.objs.size) : ObjOk P w H (h.push { cls := .type "dict", data := .dict #[] }) h.objs.size (.dK []) :=
  ⟨Nat.zero_le _, beq_eq_false_iff_ne.mpr (Ne.symm (Nat.ne_of_lt hb)), [], .nil, Heap.DictOf.new h⟩
def tDNewK : TE := fun _ H Q => ∀ p, H p = none → Q (.ref p) (upd H p (.dK []))
section
variable {X : Cx} {pos : Pos}
theorem pe_dnewK : PE X (.Dict [] [] pos) tDNewK := fun pins s σ H Q I h =>
  wpAny_Dict_empty ⟨.ref s.heap.objs.size, _, I.laid (a := s.heap.objs.size) (o := .dK []) (t' := s.toks) (fun _ _ q => Heap.get?_push_of_some _ q) (Nat.le_refl _) (dk_empty s.heap I.big), rfl, h _ (I.hok.fresh (Nat.le_refl _))⟩
end
def IsD (H : Hp) (a : Addr) : Prop := (∃ kvs, Rd H a (.dK kvs)) ∨ ∃ kvs, Rd H a (.dT kvs)
theorem isD_at {X : Cx} {pins : List (Addr × Obj)} {σ : St} {H : Hp} {s : Shared} {a : Addr} (I : Inv X pins σ H s) (d : IsD H a) :
    s.TypeIs (.ref a) "dict" ∧ (∀ b, Value.ref a = .ref b → ∃ ob, s.heap.get? b = some ob ∧ ob.dict = none) ∧ (a == sysModules) = false := by
  rcases d with ⟨kvs, e⟩ | ⟨kvs, e⟩
  · obtain ⟨_, hd, vs, _, dd⟩ := dk_rd I.hok e
    refine ⟨dd.typeIs, fun b q => ?_, hd⟩
    cases q
    obtain ⟨ob, _, _, h1, h2, _⟩ := dd
    exact ⟨ob, h1, h2.2.1⟩
  · obtain ⟨_, hd, xs, _, dd⟩ := dt_rd I.hok e
    refine ⟨dd.typeIs, fun b q => ?_, hd⟩
    cases q
    obtain ⟨ob, _, _, h1, h2, _⟩ := dd
    exact ⟨ob, h1, h2.2.1⟩
section
variable {X : Cx} {pins : List (Addr × Obj)} {σ : St} {H : Hp} {s : Shared} {a : Addr} {y d : V} {u r : Value} {o : Option V} {A : Around} {E : Value → Shared → Prop}
end
section
variable {X : Cx} {o e f : Expr} {apos cpos : Pos} {td ty tx : TE}
end
section
variable {X : Cx} {pins : List (Addr × Obj)} {σ : St} {H : Hp} {s : Shared} {a : Addr} {kvs : List (Key × V)} {A : Around} {E : Value → Shared → Prop}
end
section
variable {X : Cx} {pins : List (Addr × Obj)} {σ : St} {H : Hp} {s : Shared} {a : Addr} {y : V} {u : Value} {A : Around} {E : Value → Shared → Prop}
end
end L2
namespace Att
open PySem PySem.W PySem.Calls PyProof.Rows
theorem ints_of_wellAll {P : Params} {h : Heap} : ∀ (ns : List Int) (vs : List Value), WellAll P h vs (ns.map WData.int) → IntsAre vs ns := by
  intro ns
  induction ns with
  | nil =>
    intro vs w
    rw [List.map_nil] at w
    cases w
    exact .nil
  | cons n ns ih =>
    intro vs w
    rw [List.map_cons] at w
    cases w with
    | cons a b =>
      cases a
      exact .cons _ _ (ih _ b)
theorem script_of {l : OpenLaw} {n : Nat} (hn : l.most = some n) {P : Params} {h : Heap} {args : List WData} {vals : List Value}
    (hpre : l.row.toRowW.claim.pre args = true) (hwl : WellAll P h vals args) :
    ∃ a vs ns, vals = [Value.ref a] ∧ args = [WData.list (ns.map WData.int)] ∧ h.get? a = some { cls := .type "list", data := .seq vs.toArray } ∧ IntsAre vs ns ∧ ns.length ≤ n := by
  have hsh : WShape.hasAll [] args [.list .int] = true := (pre_splitW hpre).1
  have hc : l.pre.holds [] { args := args } = true := (pre_splitW hpre).2
  obtain ⟨d, r, rfl, h1, h2⟩ := hasAllW_cons hsh
  obtain rfl := hasAllW_nil h2
  obtain ⟨xs, rfl, h3⟩ := hasW_list h1
  obtain ⟨ns, rfl⟩ := items_int h3
  have hlen : ns.length ≤ n := by
    unfold OpenLaw.pre at hc
    have h4 : (WTm.not (.lt (.lit (.int (n : Int))) (.len (.arg 0)))).holds [] { args := [.list (ns.map .int)] } = true := by
      have h4 := (holds_andW hc).1
      rw [hn] at h4
      exact h4
    have h5 := condW_of h4 (w_not (w_lt w_lit (w_len_list (w_arg rfl))))
    rw [List.length_map] at h5
    refine Nat.le_of_not_lt fun q => ?_
    have q' : (n : Int) < ((ns.length : Nat) : Int) := by omega
    first
      | (rw [decide_eq_true q'] at h5; exact absurd h5 (by decide))
      | (simp at h5; omega)
  cases hwl with
  | cons w1 w2 =>
    cases w2
    cases w1 with
    | list ho hall => exact ⟨_, _, ns, rfl, rfl, ho, ints_of_wellAll ns _ hall, hlen⟩
theorem post_true (l : OpenLaw) (args : List WData) : l.row.toRowW.claim.post args (.bool true) args = true :=
  postW_of (r := l.row.toRowW) (X := (true == true))
    (show WShape.has [] (.bool true) .bool = true by first | rfl | decide | simp [WShape.has, WShape.arms, WShape.armsAll])
    (show (WTm.eq .res (.lit (.bool true))).value [] { args := args, res := some (.bool true), after := args } = some (.bool (true == true)) from w_eq_bool (w_res rfl) w_lit) rfl
theorem attach_call {l : OpenLaw} {n : Nat} {q : Program} {loose : List Str} {XP : (Str → Option Value) → Heap → Prop} {YP : World → Heap → Prop} {d : DefRec}
    (hn : l.most = some n) (hdf : d.params.defaults = [])
    (call : ∀ (w : World) (s₀ s₁ : Shared) (mg mb : Str → Option Value) (fa : Addr) (o : Obj) (pm cd doc : Value) (a : Addr) (vs : List Value) (ns : List Int),
      Ground q loose [] XP w s₀ mg mb s₁.heap → YP w s₁.heap →
      s₁.heap.get? fa = some o → o.data = .func (docDef d.name d.params d.body d.scope pm cd doc) → s₁.heap.CodeRec cd d.name → mg d.name = some (.ref fa) →
      s₁.heap.get? a = some { cls := .type "list", data := .seq vs.toArray } → IntsAre vs ns → ns.length ≤ n → s₁.gens = #[] →
      codeAny (model l.prog w) callerA (.call (.ref fa) ⟨[.ref a], []⟩) (fun r s' => r = .ok (.ret (.bool true)) ∧ OldK s₁.heap s'.heap ∧ s'.os = s₁.os ∧ AllBare s'.gens) s₁) :
    WalkO q loose XP YP l.row.toRowW d [] (fun f vs => PySem.call f vs) := by
  intro w s₀ s₁ mg mb G Y fa o pm cd doc dV kV ho hd hcd hD hmg hg args vals as hpre hlay hrd hwl hlo
  obtain rfl : dV = .none := Dflts.none hD hdf
  obtain rfl : kV = .none := Dflts.noKw hD
  obtain ⟨a, vs, ns, rfl, rfl, hobj, hints, hlen⟩ := script_of hn hpre hwl
  refine enter_call (codeAny_mono (call w s₀ s₁ mg mb fa o pm cd doc a vs ns G Y ho (fd_plain hd) hcd hmg hobj hints hlen hg) fun r s' hq => ?_)
  obtain ⟨rfl, h2, h3, h4⟩ := hq
  exact ⟨.inl ⟨.bool true, .bool true, [], rfl, fun _ => rfl, .bool true, post_true l _, fun _ => ⟨List.Pairwise.nil, fun _ hm => (nomatch hm)⟩⟩, h2, h3, h4⟩
section
variable {prog : Program} {w : World} {A : Around} {E : Value → Shared → Prop} {s : Shared} {K : Frag}
end
end Att
namespace L2
open PySem PySem.Spec PyProof.Rows
theorem vals_ints : ∀ {vs : List Value} {ns : List Int}, IntsAre vs ns → Vals (ns.map V.int) vs
  | _, _, .nil => .nil
  | _, _, .cons n t h => .cons ⟨t, rfl⟩ (vals_ints h)
end L2
namespace L2
open PySem PySem.Spec PyProof.Rows
end L2
namespace L2
open PySem PySem.Spec PyProof.Rows
def defArgs (s : Stmt) : Arguments := match s with
  | .FunctionDef _ a _ _ _ _ _ _ _ _ => a
  | _ => { posonlyargs := [], args := [], vararg := none, kwonlyargs := [], kw_defaults := [], kwarg := none, defaults := [] }
def defBody (s : Stmt) : List Stmt := match s with
  | .FunctionDef _ _ b _ _ _ _ _ _ _ => b
  | _ => []
def defScope (s : Stmt) : Scope := match s with
  | .FunctionDef _ _ _ _ _ _ sc _ _ _ => sc
  | _ => { kind := .function, names := [], isGenerator := false, isCoroutine := false }
abbrev CX0 : CXT := fun _ _ _ _ _ _ => False
abbrev E0 : XK := fun _ _ _ => False
theorem pass0 {X : Cx} : Passes CX0 X E0 := fun _ _ _ _ _ _ _ h => h.elim
structure Fun (K : PySem.W.Frag) (x qual : Str) (st : Stmt) (f : Addr) (fd : FuncData) : Prop where
  ex : ∃ (oc : Value) (od : Option Addr) (kV doc pm : Value) (an : Option Addr) (cdv ct : Value) (osl : Array (Option Value)),
    fd = PySem.W.fnOf x qual (defArgs st) (defBody st) (defScope st) .none kV doc pm an cdv ct ∧ K.lookup f = some ⟨oc, od, .func fd, osl⟩ ∧ PySem.W.codeIn K cdv qual = true
  kp : PySem.W.keepIn K (.ref f) = true
section
variable {P : Program} {w : World} {K : PySem.W.Frag} {mg : Str → Option Value} {base : Heap}
theorem Fun.ok {x qual : Str} {st : Stmt} {f : Addr} {fd : FuncData} {N ps : List Str} {k : Nat} {sp : Sp} (F : Fun K x qual st f fd) (S : FnScope N ps (defScope st)) (len : ∀ vs H Q E, sp vs H Q E → vs.length = ps.length)
    (hbody : ∀ (cdv : Value) (A : Around) (outer : List Env) (s : Shared) (H : Hp) (vs : List V) (Q : VK) (E : XK), Room k (A.deeper (envOfC qual (defScope st) s.heap.objs.size f cdv)) → sp vs H Q E →
      ∃ t, PSs (cxOf CX0 P w K mg base N qual (defScope st) f cdv A outer s H E).nox (defBody st) t ∧ t { nx := fun _ H' => Q .non H', rt := Q } (start N vs) H) : FnOk P w K mg base CX0 (k + 1) f fd ps sp := by
  obtain ⟨oc, od, kV, doc, pm, an, cdv, ct, osl, rfl, lk, hcd⟩ := F.ex
  refine fn_of lk hcd S len fun A outer s H vs Q E hr hsp => ?_
  obtain ⟨t, h, q⟩ := hbody cdv A outer s H vs Q E hr hsp
  exact ⟨t, h.nox, q⟩
theorem Fun.binds {x qual : Str} {st : Stmt} {f : Addr} {fd : FuncData} {ps : List Str} (F : Fun K x qual st f fd)
    (h : ∀ (kV doc pm : Value) (an : Option Addr) (cdv ct : Value) (us : List Value), us.length = ps.length → bindArgs (PySem.W.fnOf x qual (defArgs st) (defBody st) (defScope st) .none kV doc pm an cdv ct) ⟨us, []⟩ = pure (ps.zip us)) : Binds K fd ps [] := by
  obtain ⟨oc, od, kV, doc, pm, an, cdv, ct, osl, rfl, lk, hcd⟩ := F.ex
  exact .all (h kV doc pm an cdv ct)
theorem fun_mk {x qual : Str} {st : Stmt} {f : Addr} {oc : Value} {od an : Option Addr} {osl : Array (Option Value)} {kV doc pm cdv ct : Value} (l : K.lookup f = some ⟨oc, od, .func (PySem.W.fnOf x qual (defArgs st) (defBody st) (defScope st) .none kV doc pm an cdv ct), osl⟩)
    (c : PySem.W.codeIn K cdv qual = true) (k : PySem.W.keepIn K (.ref f) = true) : Fun K x qual st f (PySem.W.fnOf x qual (defArgs st) (defBody st) (defScope st) .none kV doc pm an cdv ct) := ⟨⟨oc, od, kV, doc, pm, an, cdv, ct, osl, rfl, l, c⟩, k⟩
end
theorem hu_of {A : Around} {k : Nat} (hr : Room k A) : A.units + 1 < cLine := Nat.lt_of_le_of_lt (Nat.add_le_add_left (by decide : 1 ≤ 64) _) hr.units
section
variable {X : Cx}
theorem pv (i : Nat) {x : Str} {pos : Pos} (hN : X.N[i]? = some x := by rfl) (hv : Vis X.env.scope x := by first | exact Or.inl rfl | exact Or.inr (Or.inl rfl) | exact Or.inr (Or.inr rfl)) (hd : (x == ("__debug__" : Str)) = false := by decide)
    (hcd : (x == ("__classdict__" : Str)) = false := by decide) : PE X (.Name x pos) (tVar i) := pe_var hN hv hd hcd
theorem call_lenD : CallR X (.builtin "len") (fun xs H Q => ∃ a kvs, xs = [V.ref a] ∧ H a = some (.dK kvs) ∧ Q (.int kvs.length) H) := by
  intro pins s σ H xs us Q I r h
  obtain ⟨a, kvs, rfl, ha, q⟩ := h
  obtain ⟨u, rfl, ru⟩ := vals1 r
  cases ru
  exact d_len I (.inl ha) fun t s' I' => ⟨.int kvs.length, H, I', ⟨t, rfl⟩, q⟩
end
theorem iteF {A B : Prop} (h : B) : if false = true then A else B := by
  rw [if_neg Bool.false_ne_true]
  exact h
theorem iteT {A B : Prop} (h : A) : if true = true then A else B := by
  rw [if_pos rfl]
  exact h
theorem ite2 {c A B : Prop} [Decidable c] (h1 : c → A) (h2 : ¬ c → B) : if c then A else B := by
  by_cases h : c
  · rw [if_pos h]
    exact h1 h
  · rw [if_neg h]
    exact h2 h
theorem iteNS {c A B : Prop} [Decidable c] (hc : c) (h : B) : if (!decide c) = true then A else B := by
  rw [decide_eq_true hc]
  exact iteF h
def Same (H H' : Hp) : Prop := ∀ b o, H b = some o → H' b = some o
theorem Same.refl (H : Hp) : Same H H := fun _ _ h => h
theorem Same.trans {H H1 H2 : Hp} (a : Same H H1) (b : Same H1 H2) : Same H H2 := fun c o h => b c o (a c o h)
theorem Same.free {H H' : Hp} (e : Same H H') {l : Addr} (h : H' l = Option.none) : H l = Option.none := by
  cases q : H l with
  | none => rfl
  | some o =>
    rw [e l o q] at h
    cases h
theorem Same.seq {K : PySem.W.Frag} {H H' : Hp} {a : Addr} {xs : List V} (e : Same H H') (h : SqL K H a xs) : SqL K H' a xs := by
  rcases h with (h | ⟨o, h⟩) | h
  · exact .inl (.inl (e _ _ h))
  · exact .inl (.inr ⟨o, e _ _ h⟩)
  · exact .inr h
section
variable {κ : Type} [DecidableEq κ]
theorem valV_in {kvs : List (κ × V)} {k : κ} {v : V} (h : valV kvs k = some v) : k ∈ kvs.map (·.1) := by
  have q : (kvs.any fun kv => decide (kv.1 = k)) = true := by
    rw [valV_any, h]
    all_goals rfl
  obtain ⟨p, hp, e⟩ := List.any_eq_true.mp q
  exact List.mem_map.mpr ⟨p, hp, of_decide_eq_true e⟩
end
end L2
set_option Elab.async false
set_option linter.all false
set_option maxRecDepth 100000
namespace L2
open PySem PySem.Spec PyProof.Rows
theorem closureFor_go {env : Env} : ∀ (names : List (Str × NameKind)) (acc : List (Str × Addr)), (∀ y ∈ names, y.2 = .free → ∃ c, env.cells.lookup y.1 = some c) → (∀ x c, acc.lookup x = some c → env.cells.lookup x = some c) →
    ∃ cl, (forIn names acc (fun x r => if (x.2 == NameKind.free) = true then do let c ← cellOf env x.1; pure (ForInStep.yield ((x.1, c) :: r)) else pure (ForInStep.yield r)) : Sem _) = pure cl ∧
      (∀ x c, cl.lookup x = some c → env.cells.lookup x = some c) ∧ (∀ x, ((x, NameKind.free) ∈ names ∨ ∃ c, acc.lookup x = some c) → ∃ c, cl.lookup x = some c) := by
  intro names
  induction names with
  | nil => intro acc h ha; exact ⟨acc, rfl, ha, fun x hx => by simpa using hx⟩
  | cons y r ih =>
    intro acc h ha
    obtain ⟨n, k⟩ := y
    have hr : ∀ y ∈ r, y.2 = .free → ∃ c, env.cells.lookup y.1 = some c := fun y hy => h y (List.mem_cons_of_mem _ hy)
    rw [List.forIn_cons]
    by_cases hk : k = .free
    · subst hk
      obtain ⟨c, hc⟩ := h (n, .free) List.mem_cons_self rfl
      have e : cellOf env n = pure c := by unfold cellOf; rw [hc]
      obtain ⟨cl, e1, a, b⟩ := ih ((n, c) :: acc) hr (fun x c' hx => by
        rw [List.lookup_cons] at hx
        cases hxn : x == n with
        | true =>
          rw [hxn] at hx
          cases hx
          rw [eq_of_beq hxn]
          exact hc
        | false =>
          rw [hxn] at hx
          exact ha x c' hx)
      refine ⟨cl, ?_, a, fun x hx => b x ?_⟩
      · rw [← e1]
        show (if (NameKind.free == NameKind.free) = true then (cellOf env n >>= _) else _) >>= _ = _
        rw [if_pos (show (NameKind.free == NameKind.free) = true from rfl), e]
        rfl
      · rcases hx with hx | ⟨c', hx⟩
        · rcases List.mem_cons.mp hx with e2 | hx
          · have e3 : x = n := congrArg Prod.fst e2
            exact .inr ⟨c, by rw [List.lookup_cons, e3]; simp⟩
          · exact .inl hx
        · refine .inr ?_
          rw [List.lookup_cons]
          cases x == n with
          | true => exact ⟨c, rfl⟩
          | false => exact ⟨c', hx⟩
    · obtain ⟨cl, e1, a, b⟩ := ih acc hr ha
      refine ⟨cl, ?_, a, fun x hx => b x ?_⟩
      · rw [← e1]
        have hb : (k == NameKind.free) = false := by simpa using hk
        show (if (k == NameKind.free) = true then _ else _) >>= _ = _
        rw [if_neg (by rw [hb]; simp)]
        rfl
      · rcases hx with hx | hx
        · rcases List.mem_cons.mp hx with e2 | hx
          · exact absurd (congrArg Prod.snd e2).symm hk
          · exact .inl hx
        · exact .inr hx
theorem closureFor_some {scope : Scope} {env : Env} (h : ∀ y ∈ scope.names, y.2 = .free → ∃ c, env.cells.lookup y.1 = some c) :
    ∃ cl, closureFor scope env = pure cl ∧ (∀ x c, cl.lookup x = some c → env.cells.lookup x = some c) ∧ (∀ x, (x, NameKind.free) ∈ scope.names → ∃ c, cl.lookup x = some c) := by
  obtain ⟨cl, e, a, b⟩ := closureFor_go scope.names [] h (by intro x c e; cases e)
  refine ⟨cl, ?_, a, fun x hx => b x (.inl hx)⟩
  unfold closureFor
  exact congrArg (fun m => m >>= fun x => pure x) e
def cpN (N own : List Str) (cap : List Nat) : List Str := own ++ cap.map fun j => N.getD j ""
def cpSt (own : List Str) (cap : List Nat) (σ : St) : St := own.map (fun _ => none) ++ cap.map fun j => σ.getD j none
structure CpScope (N : List Str) (osc sc : Scope) (own : List Str) (cap : List Nat) : Prop where
  kind : sc.kind = .function
  names : ∀ x ∈ sc.names, x.2 = .local → sc.names.lookup x.1 = some .local
  nocell : ∀ y ∈ sc.names, y.2 ≠ .cell
  free : ∀ y ∈ sc.names, y.2 = .free → osc.names.lookup y.1 = some .cell ∨ osc.names.lookup y.1 = some .free
  cap : ∀ j ∈ cap, j < N.length ∧ sc.names.lookup (N.getD j "") = some .free
def cxComp (X : Cx) (sc : Scope) (own : List Str) (cap : List Nat) (cl : List (Str × Addr)) (C : Addr) (s : Shared) (H : Hp) (fp : List Addr) (pins : List (Addr × Obj)) : Cx :=
  { X with N := cpN X.N own cap, s₀ := s, H₀ := H, env := compEnvC sc cl C X.env, outer := X.stack, ex := fp, fn := fun _ => false, pn := X.pn ++ pins, xe := fun _ _ => False }
def PTs (X : Cx) (ifs : List Expr) (tt : TT) : Prop :=
  ∀ (pins : List (Addr × Obj)) (s : Shared) (σ : St) (H : Hp) (Q : Bool → Hp → Prop), Inv X pins σ H s → tt σ H Q →
    wpAny (model X.prog X.w) X.A (forIn ifs true fun c r => if r = true then do let ok ← isTrue c X.env (eval c X.env); pure (ForInStep.yield ok) else pure (ForInStep.yield r)) (TP X pins σ Q) X.xe s
def tYes : TT := fun _ H Q => Q true H
theorem pts_nil {X : Cx} : PTs X [] tYes := fun _ _ _ H _ I h => wpAny_tests_nil ⟨H, I, h⟩
theorem pts_one {X : Cx} {c : Expr} {tt : TT} (h : PT X c tt) : PTs X [c] tt := fun pins s σ H Q I hq => wpAny_tests_one (h pins s σ H Q I hq)
def GOwn (n : Nat) (g : TG) : Prop := ∀ v σ H Q, g v σ H Q → g v σ H fun σ' H' => (σ'.length = σ.length ∧ ∀ j, n ≤ j → σ'[j]? = σ[j]?) ∧ Q σ' H'
theorem gown_name {n i : Nat} (h : i < n) : GOwn n (gName i) := fun v σ H Q q => ⟨⟨by simp, fun j hj => by rw [List.getElem?_set_ne (by omega)]⟩, q⟩
def tComp (own : List Str) (cap : List Nat) (wi : TI) (g : TG) (tt : TT) (te : TE) : TE := fun σ H Q => wi σ H fun J H1 => ∃ W : Nat → Nat → List V → Hp → Prop, (∃ m, W 0 m [] H1) ∧ ∀ i m acc H, W i m acc H → acc.length ≤ sizeLine ∧
  ((J.stop i H ∧ ∀ p, H p = none → Q (.ref p) (upd H p (.lst acc))) ∨
   (J.go i H ∧ acc.length < sizeLine ∧ ∃ N : List V → Hp → Prop, (∀ acc' H', N acc' H' → ∃ m', m' < m ∧ W (i + 1) m' acc' H') ∧ ∀ x H', J.yld i H x H' → g x (cpSt own cap σ) H' fun σ2 H2 => tt σ2 H2 fun b H3 => if b = true then te σ2 H3 fun y H4 => N (acc ++ [y]) H4 else N acc H3))
section
variable {prog : Program} {w : World} {A : Around} {R : Result → Shared → Prop} {s : Shared}
theorem codeAny_compLoop_go {elt target iter : Expr} {ifs : List Expr} {scope : Scope} {pos : Pos} {it acc : Value} {env : Env} (I : Nat → Shared → Prop)
    (turn : ∀ n s, I n s → wpAny (model prog w) A (pyNext it) (fun r s₁ => match r with
      | none => R (.ok .next) s₁
      | some v => wpAny (model prog w) A (letOwnedTupleGo target it v) (fun _ s₁' => wpAny (model prog w) A (assign target env v) (fun _ s₂ =>
          wpAny (model prog w) A (forIn ifs true fun c r => if r = true then do let ok ← isTrue c env (eval c env); pure (ForInStep.yield ok) else pure (ForInStep.yield r)) (fun ok s₃ =>
            if ok = true then wpAny (model prog w) A (eval elt env) (fun x s₄ =>
              wpAny (model prog w) A (call (.builtin "list.append") [acc, x]) (fun _ s₅ => ∃ m, m < n ∧ I m s₅) (fun _ _ => False) s₄) (fun _ _ => False) s₃
            else ∃ m, m < n ∧ I m s₃) (fun _ _ => False) s₂) (fun _ _ => False) s₁') (fun _ _ => False) s₁) (fun _ _ => False) s)
    (n : Nat) (h : I n s) :
    codeAny (model prog w) A (.compLoop (.ListComp elt [⟨target, iter, ifs, 0⟩] scope pos) 0 it acc env) R s := by
  refine codeAny_loop rfl I (fun n s hI => ?_) n h
  show wpAny _ A ((compTurn (.ListComp elt [⟨target, iter, ifs, 0⟩] scope pos) 0 it acc env).onRaise (fun x => do noteFrame x env; theTreesLotGoes x)) _ _ s
  refine wpAny_noted ?_
  rw [compTurn_list]
  refine wpAny_bind (wpAny_standAt (wpAny_bind (wpAny_mono (turn n s hI) (fun r s₁ h₁ => ?_) fun _ _ h' => h'.elim)))
  cases r with
  | none => exact wpAny_pure h₁
  | some v =>
    refine wpAny_bind (wpAny_mono h₁ (fun _ s₁' h₁' => ?_) fun _ _ h' => h'.elim)
    refine wpAny_bind (wpAny_mono h₁' (fun _ s₂ h₂ => wpAny_bind (wpAny_mono h₂ (fun ok s₃ h₃ => ?_) fun _ _ h' => h'.elim)) fun _ _ h' => h'.elim)
    cases ok with
    | false => exact wpAny_pure ⟨rfl, h₃⟩
    | true =>
      exact wpAny_bind (wpAny_bind (wpAny_mono h₃ (fun x s₄ h₄ => wpAny_bind (wpAny_mono h₄ (fun _ s₅ h₅ => wpAny_pure (wpAny_pure ⟨rfl, h₅⟩)) fun _ _ h' => h'.elim)) fun _ _ h' => h'.elim))
end
section
variable {X : Cx}
theorem cpSt_some {own : List Str} {cap : List Nat} {σ : St} {i : Nat} {v : V} (h : (cpSt own cap σ)[i]? = some (some v)) : own.length ≤ i ∧ ∃ j, cap[i - own.length]? = some j ∧ σ[j]? = some (some v) := by
  unfold cpSt at h
  by_cases hi : i < own.length
  · rw [List.getElem?_append_left (by simpa using hi), List.getElem?_map] at h
    cases e : own[i]? with
    | none => rw [e] at h; cases h
    | some a => rw [e] at h; cases h
  · have hi' : own.length ≤ i := by omega
    rw [List.getElem?_append_right (by simpa using hi'), List.length_map, List.getElem?_map] at h
    refine ⟨hi', ?_⟩
    cases e : cap[i - own.length]? with
    | none => rw [e] at h; cases h
    | some j =>
      rw [e] at h
      have h2 : σ.getD j none = some v := Option.some.inj h
      refine ⟨j, rfl, ?_⟩
      rw [List.getD_eq_getElem?_getD] at h2
      cases e2 : σ[j]? with
      | none => rw [e2] at h2; cases h2
      | some o => rw [e2] at h2; simp at h2; rw [h2]
theorem lookup_relabel {env : Env} {x : Str} {k : NameKind} : ∀ {names : List (Str × NameKind)}, names.lookup x = some k →
    (names.map fun (n, k) => if (k == NameKind.free && env.scope.kind == .function && env.kindOf n == some .cell) then (n, NameKind.cell) else (n, k)).lookup x = some (if (k == NameKind.free && env.scope.kind == .function && env.kindOf x == some .cell) = true then .cell else k)
  | [], h => by simp at h
  | (n, k') :: r, h => by
    have ih := @lookup_relabel env x k r
    show List.lookup x ((if (k' == NameKind.free && env.scope.kind == .function && env.kindOf n == some .cell) = true then (n, NameKind.cell) else (n, k')) :: _) = _
    cases hx : x == n with
    | true =>
      simp only [List.lookup_cons, hx] at h
      cases h
      have e := eq_of_beq hx
      subst e
      by_cases hc : (k == NameKind.free && env.scope.kind == .function && env.kindOf x == some .cell) = true
      · rw [if_pos hc, if_pos hc]; simp [List.lookup_cons]
      · rw [if_neg hc, if_neg hc]; simp [List.lookup_cons]
    | false =>
      simp only [List.lookup_cons, hx] at h
      by_cases hc : (k' == NameKind.free && env.scope.kind == .function && env.kindOf n == some .cell) = true
      · rw [if_pos hc]; simp only [List.lookup_cons, hx]; exact ih h
      · rw [if_neg hc]; simp only [List.lookup_cons, hx]; exact ih h
theorem lookup_relabel_free {env : Env} {x : Str} : ∀ {names : List (Str × NameKind)}, (∀ y ∈ names, y.2 ≠ .cell) →
    ((names.map fun (n, k) => if (k == NameKind.free && env.scope.kind == .function && env.kindOf n == some .cell) then (n, NameKind.cell) else (n, k)).lookup x = some .cell ∨
     (names.map fun (n, k) => if (k == NameKind.free && env.scope.kind == .function && env.kindOf n == some .cell) then (n, NameKind.cell) else (n, k)).lookup x = some .free) → (x, NameKind.free) ∈ names
  | [], _, h => by simp at h
  | (n, k') :: r, hn, h => by
    have ih := @lookup_relabel_free env x r fun y hy => hn y (List.mem_cons_of_mem _ hy)
    have hk' : k' ≠ .cell := hn (n, k') List.mem_cons_self
    have h : List.lookup x ((if (k' == NameKind.free && env.scope.kind == .function && env.kindOf n == some .cell) = true then (n, NameKind.cell) else (n, k')) :: _) = some .cell ∨
      List.lookup x ((if (k' == NameKind.free && env.scope.kind == .function && env.kindOf n == some .cell) = true then (n, NameKind.cell) else (n, k')) :: _) = some .free := h
    cases hx : x == n with
    | true =>
      have e := eq_of_beq hx
      subst e
      by_cases hc : (k' == NameKind.free && env.scope.kind == .function && env.kindOf x == some .cell) = true
      · have : k' = .free := by
          rw [Bool.and_eq_true, Bool.and_eq_true] at hc
          exact eq_of_beq hc.1.1
        rw [this]
        exact List.mem_cons_self
      · rw [if_neg hc] at h
        simp [List.lookup_cons] at h
        rcases h with h | h
        · exact absurd h hk'
        · rw [h]; exact List.mem_cons_self
    | false =>
      by_cases hc : (k' == NameKind.free && env.scope.kind == .function && env.kindOf n == some .cell) = true
      · rw [if_pos hc] at h; simp only [List.lookup_cons, hx] at h; exact List.mem_cons_of_mem _ (ih h)
      · rw [if_neg hc] at h; simp only [List.lookup_cons, hx] at h; exact List.mem_cons_of_mem _ (ih h)
end
end L2
set_option Elab.async false
set_option linter.all false
set_option maxRecDepth 100000
namespace L2
open PySem PySem.Spec PyProof.Rows
theorem addr_ne {a b : Addr} {n : Nat} (h1 : a < n) (h2 : n ≤ b) : a ≠ b := Nat.ne_of_lt (Nat.lt_of_lt_of_le h1 h2)
section
variable {X : Cx} {pins : List (Addr × Obj)} {σ : St} {H : Hp} {s : Shared} {sc : Scope} {own : List Str} {cap : List Nat} {cl : List (Str × Addr)} {C : Addr} {fp : List Addr}
theorem cx_ok (S : CpScope X.N X.env.scope sc own cap) (cl1 : ∀ x c, cl.lookup x = some c → X.env.cells.lookup x = some c) (cl2 : ∀ x, (x, NameKind.free) ∈ sc.names → ∃ c, cl.lookup x = some c)
    (I : Inv X pins σ H s) (f : ∀ b ∈ fp, FpOk X pins H b) (live : ∀ b ∈ fp, b < s.heap.objs.size) (hC : s.heap.objs.size ≤ C) : (cxComp X sc own cap cl C s H fp pins).Ok where
  mod := I.ok.mod
  kind := S.kind
  glob := I.ok.glob
  blt := I.ok.blt
  above := hC
  inj := fun x y c h1 h2 => I.ok.inj x y c (cl1 x c h1) (cl1 y c h2)
  has := fun x hx => cl2 x (lookup_relabel_free S.nocell hx)
  cab := fun x c h => by cases h
  hd := I.ok.hd
  frames := I.ok.frames
  stk := .inl rfl
  exf := fun b hb => ⟨fun z => addr_ne (live b hb) hC z, fun x c e => (f b hb).2.2.2.2.1 x c (cl1 x c e)⟩
  bs := I.bs
  bsz := Nat.le_trans I.ok.bsz I.sz
  noex := fun b o e hb => by
    rcases (f b hb).2.2.2.1 with z | z
    · exact I.ok.noex b o e z
    · exact addr_ne (Nat.lt_of_lt_of_le (Heap.lt_size e) I.ok.bsz) z rfl
  exfs := fun b hb z => by
    rcases List.mem_cons.mp (I.stkSub b z) with q | q
    · exact (f b hb).2.1 q
    · exact (f b hb).2.2.1 q
  funs := I.stack
  frf := I.stkFree
theorem cx_inv (S : CpScope X.N X.env.scope sc own cap) (cl1 : ∀ x c, cl.lookup x = some c → X.env.cells.lookup x = some c) (cl2 : ∀ x, (x, NameKind.free) ∈ sc.names → ∃ c, cl.lookup x = some c)
    (I : Inv X pins σ H s) (ok : (cxComp X sc own cap cl C s H fp pins).Ok) (hC : s.heap.objs.size ≤ C) {h₁ : Heap} {tk : Nat} {m : Str → Option Value} (hns : h₁.Ns C m) (old : ∀ b o, s.heap.get? b = some o → h₁.get? b = some o) :
    Inv (cxComp X sc own cap cl C s H fp pins) [] (cpSt own cap σ) H { s with heap := h₁, toks := tk } := by
  have cellK : ∀ x c v, X.env.cells.lookup x = some c → s.heap.IsCell c v → h₁.IsCell c v := fun x c v _ z => by
    obtain ⟨o, ho, hd⟩ := z
    exact ⟨o, old c o ho, hd⟩
  refine ⟨ok, rfl, I.bare, Un.kept old, ⟨m, hns, fun i x v e1 e2 e3 => ?_⟩, fun x c e => ?_, I.hok.fresh hC, fun x c e => I.freeC x c (cl1 x c e), fun p hp => ?_, I.hok.kept old, ?_⟩
  · have e1 : (cpN X.N own cap)[i]? = some x := e1
    obtain ⟨hi, j, hj, hσ⟩ := cpSt_some e2
    unfold cpN at e1
    rw [List.getElem?_append_right hi, List.getElem?_map, hj] at e1
    have e1 : X.N.getD j "" = x := Option.some.inj e1
    obtain ⟨hjl, hfr⟩ := S.cap j (List.mem_of_getElem? hj)
    have hx : X.N[j]? = some x := by rw [← e1, List.getD_eq_getElem?_getD]; simp [hjl]
    rw [e1] at hfr
    have hfree := S.free (x, .free) (PySem.mem_of_lookup hfr) rfl
    obtain ⟨m0, _, hl⟩ := I.loc
    obtain ⟨u, r, l⟩ := hl j x v hx hσ (.inr hfree)
    refine ⟨u, r, ?_⟩
    rcases l with ⟨k, _⟩ | ⟨k, c, hc, z⟩
    · have k : X.env.scope.names.lookup x = some .local := k
      rcases hfree with q | q <;> (rw [q] at k; cases k)
    · obtain ⟨c', hc'⟩ := cl2 x (PySem.mem_of_lookup hfr)
      have e4 := cl1 x c' hc'
      rw [hc] at e4
      cases e4
      refine .inr ⟨?_, c, hc', cellK x c _ hc z⟩
      have q := lookup_relabel (env := X.env) hfr
      show (relabel sc X.env).names.lookup x = some .cell ∨ (relabel sc X.env).names.lookup x = some .free
      have q' : (relabel sc X.env).names.lookup x = some (if (NameKind.free == NameKind.free && X.env.scope.kind == .function && X.env.kindOf x == some .cell) = true then .cell else .free) := q
      rw [q']
      split
      · exact .inl rfl
      · exact .inr rfl
  · obtain ⟨v, z⟩ := I.cell x c (cl1 x c e)
    exact ⟨v, cellK x c v (cl1 x c e) z⟩
  · have hp : p ∈ (X.pn ++ pins) ++ [] := hp
    rw [List.append_nil] at hp
    obtain ⟨e, n, ne, nf, d⟩ := I.pin p hp
    refine ⟨old _ _ e, n, fun z => ?_, fun z => ?_, d⟩
    · exact addr_ne (Heap.lt_size e) hC z
    · rcases List.mem_cons.mp (I.stkSub p.1 z) with q | q
      · exact ne q
      · exact nf q
  · show (cpSt own cap σ).length = (cpN X.N own cap).length
    unfold cpSt cpN
    simp
theorem cx_back (I : Inv X pins σ H s) (f : ∀ b ∈ fp, FpOk X pins H b) (hC : s.heap.objs.size ≤ C) {D : Addr} (hD : s.heap.objs.size ≤ D) (hDC : D ≠ C) {σ' : St} {pl : List (Addr × Obj)} {H' : Hp} {s' : Shared} {acc : List V} {its : List Value} {nn : Nat}
    (J : Inv (cxComp X sc own cap cl C s H fp pins) pl σ' H' s') (hDn : H' D = none) (hDo : s'.heap.get? D = some { cls := .type "list", data := .seq its.toArray nn }) (hv : Vals acc its) (hz : acc.length ≤ sizeLine) :
    Inv X pins σ (upd H' D (.lst acc)) s' ∧ (∃ m, s'.heap.Ns C m) ∧ FpOk X pins (upd H' D (.lst acc)) C := by
  have u : Un (frs X.stack) fp H H' s.heap s'.heap := J.base
  have lt : ∀ b o, s.heap.get? b = some o → b ≠ D := fun b o e z => addr_ne (Heap.lt_size e) hD z
  have trk : ∀ b o, H b = some o → b ≠ D := fun b o e z => addr_ne (I.hok.lt e) hD z
  have CH : H' C = none := J.free
  refine ⟨I.call' (ch := fp) J.os ⟨u.keep, u.slot, fun b o e n hx => by rw [upd_ne (lt b o e)]; exact u.free b o e n hx, u.there, fun b xs e => by rw [upd_ne (trk b _ e)]; exact u.tups b xs e, fun b o xs e => by rw [upd_ne (trk b _ e)]; exact u.frzs b o xs e, fun b ps e => by rw [upd_ne (trk b _ e)]; exact u.tbls b ps e⟩ (fun b o e => ?_) J.bare fun b hb => ?_, ?_, ?_⟩
  · by_cases hb : b = D
    · subst hb
      rw [upd_same] at e
      cases e
      exact ⟨hz, its, nn, hv, hDo⟩
    · rw [upd_ne hb] at e
      refine (J.hok b o e).stay (fun c v _ q => q) (fun c q => ?_) fun c xs q => ?_
      · rw [upd_ne (ne_of_none q hDn)]; exact q
      · rw [upd_ne (ne_of_none q hDn)]; exact q
  · obtain ⟨f0, f1, f2, f3, f4, f5⟩ := f b hb
    exact ⟨f3, f1, f4, f5⟩
  · obtain ⟨m, hn, _⟩ := J.loc
    exact ⟨m, hn⟩
  · refine I.fpOk hC ?_
    rw [upd_ne (Ne.symm hDC)]
    exact CH
theorem comp_block {elt tg iter : Expr} {ifs : List Expr} {pos : Pos} {g : TG} {tt : TT} {te : TE} {E : Value → Shared → Prop}
    {it : Addr} {tn : Nat → Heap → Prop} {J : It} {Q : VK} {RR : Value → Addr → Result → Shared → Prop}
    (hc : X.calm = true) (S : CpScope X.N X.env.scope sc own cap) (hown : GOwn own.length g)
    (cl1 : ∀ x c, cl.lookup x = some c → X.env.cells.lookup x = some c) (cl2 : ∀ x, (x, NameKind.free) ∈ sc.names → ∃ c, cl.lookup x = some c)
    (hb : ∀ cl C s H fp pins, PG (cxComp X sc own cap cl C s H fp pins) tg g ∧ PTs (cxComp X sc own cap cl C s H fp pins) ifs tt ∧ PE (cxComp X sc own cap cl C s H fp pins) elt te)
    (I : Inv X pins σ H s) (T : Turn X.prog X.w X.K tg J fp it tn) (st : tn 0 s.heap) (f : ∀ b ∈ fp, FpOk X pins H b)
    (W : Nat → Nat → List V → Hp → Prop) (w0 : ∃ m, W 0 m [] H)
    (turn : ∀ i m acc H, W i m acc H → acc.length ≤ sizeLine ∧ ((J.stop i H ∧ ∀ p, H p = none → Q (.ref p) (upd H p (.lst acc))) ∨ (J.go i H ∧ acc.length < sizeLine ∧ ∃ N : List V → Hp → Prop, (∀ acc' H', N acc' H' → ∃ m', m' < m ∧ W (i + 1) m' acc' H') ∧ ∀ x H', J.yld i H x H' → g x (cpSt own cap σ) H' fun σ2 H2 => tt σ2 H2 fun b H3 => if b = true then te σ2 H3 fun y H4 => N (acc ++ [y]) H4 else N acc H3)))
    (hRR : ∀ D C H' s', Inv X pins σ H' s' → (∃ m, s'.heap.Ns C m) → FpOk X pins H' C → Q (.ref D) H' → RR (.ref D) C (.ok .next) s') :
    wpAny (model X.prog X.w) X.A (newList []) (fun acc s₃ => wpAny (model X.prog X.w) X.A (newFunctionEnv sc X.env.globals cl [] X.env.qual none .none (some X.env)) (fun cenv s₄ =>
      codeAny (model X.prog X.w) X.A (.compStart (.ListComp elt [⟨tg, iter, ifs, 0⟩] sc pos) 0 (.ref it) acc { cenv with scope := relabel sc X.env }) (RR acc cenv.locals) s₄) E s₃) E s := by
  refine wpAny_newObj_type (wpAny_newFunctionEnv S.nocell (by intro y hy; simp at hy) (fun h₁ hns₁ hsb₁ => ?_) S.kind)
  dsimp only at hns₁ hsb₁ ⊢
  generalize hH2 : s.heap.push { cls := .type "list", dict := none, data := .seq ([] : List Value).toArray } = H2 at hns₁ hsb₁ ⊢
  have hCs : H2.objs.size = s.heap.objs.size + 1 := by rw [← hH2, Heap.size_push]
  have hDC : s.heap.objs.size ≠ H2.objs.size := by omega
  have hCle : s.heap.objs.size ≤ H2.objs.size := by omega
  have old : ∀ b o, s.heap.get? b = some o → h₁.get? b = some o := fun b o e => by
    exact hsb₁.extBut b o (addr_ne (Heap.lt_size e) hCle) (Heap.get?_push_of_some _ (hH2 ▸ Heap.get?_push_of_some _ e))
  have hacc : h₁.get? s.heap.objs.size = some { cls := .type "list", data := .seq ([] : List Value).toArray 0 } := hsb₁.extBut _ _ hDC (Heap.get?_push_of_some _ (hH2 ▸ Heap.get?_push_size _ rfl))
  have live : ∀ b ∈ fp, b < s.heap.objs.size := fun b hb => by
    obtain ⟨o, e, _⟩ := T.obj _ _ st b hb
    exact Heap.lt_size e
  have ok := cx_ok (C := H2.objs.size) S cl1 cl2 I f live hCle
  have hDst : s.heap.objs.size ∉ frs X.stack := fun z => by
    rcases List.mem_cons.mp (I.stkSub _ z) with q | q
    · exact addr_ne I.lt (Nat.le_refl _) q.symm
    · exact I.nofs (Nat.le_refl _) q
  have fpX : ∀ (H' : Hp) (pl : List (Addr × Obj)), (∀ b ∈ fp, H' b = none) → (∀ p ∈ pl, ∀ b ∈ fp, p.1 ≠ b) → ∀ b ∈ fp, FpOk (cxComp X sc own cap cl H2.objs.size s H fp pins) pl H' b := fun H' pl hn hp b hb => by
    obtain ⟨f0, f1, f2, f3, f4, f5⟩ := f b hb
    refine ⟨hn b hb, fun z => ?_, fun z => ?_, .inl hb, fun x c e => f4 x c (cl1 x c e), fun p hpp => ?_⟩
    · exact addr_ne (live b hb) hCle z
    · rcases List.mem_cons.mp (I.stkSub b z) with q | q
      · exact f1 q
      · exact f2 q
    · rcases List.mem_append.mp hpp with q | q
      · exact f5 p q
      · exact hp p q b hb
  have loop : ∀ s₃ : Shared, s₃ = { s with heap := h₁, toks := s.toks + ([] : List (Str × Value)).length } →
      codeAny (model X.prog X.w) X.A (.compLoop (.ListComp elt [⟨tg, iter, ifs, 0⟩] sc pos) 0 (.ref it) (.ref s.heap.objs.size) (compEnvC sc cl H2.objs.size X.env))
        (RR (.ref s.heap.objs.size) H2.objs.size) s₃ := by
    rintro s₃ rfl
    obtain ⟨m0, w0⟩ := w0
    obtain ⟨hg, ht, he⟩ := hb cl H2.objs.size s H fp pins
    have I0 : Inv (cxComp X sc own cap cl H2.objs.size s H fp pins) [] (cpSt own cap σ) H { s with heap := h₁, toks := s.toks + ([] : List (Str × Value)).length } := cx_inv S cl1 cl2 I ok hCle hns₁ old
    refine codeAny_compLoop_go (fun n s' => ∃ i acc its nn H', Inv (cxComp X sc own cap cl H2.objs.size s H fp pins) [] (cpSt own cap σ) H' s' ∧ tn i s'.heap ∧ (∀ b ∈ fp, H' b = none) ∧
      s'.heap.get? s.heap.objs.size = some { cls := .type "list", data := .seq its.toArray nn } ∧ Vals acc its ∧ H' s.heap.objs.size = none ∧ W i n acc H') ?_ m0
      ⟨0, [], [], 0, H, I0, T.keep _ _ _ st (fun b _ o e => old b o e), fun b hb => (f b hb).1, hacc, .nil, I.hok.fresh (Nat.le_refl _), w0⟩
    rintro n s3 ⟨i, acc, its, nn, H3, I3, st3, fr3, hD3, rv3, hDn, w3⟩
    obtain ⟨hz, hcase⟩ := turn i n acc H3 w3
    have hpl : ∀ p ∈ [((s.heap.objs.size : Addr), ({ cls := .type "list", data := .seq its.toArray nn } : Obj))], ∀ b ∈ fp, p.1 ≠ b := fun p hp b hb z => by
      have e : p = _ := List.mem_singleton.mp hp
      rw [e] at z
      exact addr_ne (live b hb) (Nat.le_refl _) z.symm
    have I3' : Inv (cxComp X sc own cap cl H2.objs.size s H fp pins) [((s.heap.objs.size : Addr), ({ cls := .type "list", data := .seq its.toArray nn } : Obj))] (cpSt own cap σ) H3 s3 := I3.pins_of fun p hp => by
      have e : p = _ := List.mem_singleton.mp hp
      subst e
      exact ⟨hD3, hDn, hDC, hDst, fun v z => by cases z⟩
    rcases hcase with ⟨stop, fin⟩ | ⟨go, hlt, N, hN, step⟩
    · refine thn (T.done (cxComp X sc own cap cl H2.objs.size s H fp pins) rfl rfl rfl hc i _ s3 _ H3 _ I3' (fpX H3 _ fr3 hpl) st3 stop) fun r s4 ⟨hr, I4⟩ => ?_
      subst hr
      have hD4 := (I4.pin (_, _) (List.mem_append_right _ (List.mem_singleton.mpr rfl))).1
      obtain ⟨J1, J2, J3⟩ := cx_back I f hCle (Nat.le_refl _) hDC I4 hDn hD4 rv3 hz
      exact hRR _ _ _ _ J1 J2 J3 (fin _ hDn)
    · refine thn (T.item (cxComp X sc own cap cl H2.objs.size s H fp pins) rfl rfl rfl hc i _ s3 _ H3 _ I3' (fpX H3 _ fr3 hpl) st3 go) fun r s4 ⟨u, hr, h4⟩ => ?_
      subst hr
      refine thn h4 fun _ s5 ⟨x, H5, I5, r5, y5, st5, fr5⟩ => ?_
      have I5' := I5.pinned (fpX H5 _ fr5 hpl) (T.obj _ _ st5)
      refine thn (hg _ s5 _ H5 x u _ I5' r5 (hown _ _ _ _ (step x H5 y5))) fun _ s6 ⟨σ6, H6, I6, ⟨hx1, hx2⟩, q6⟩ => ?_
      refine thn (ht _ s6 σ6 H6 _ I6 q6) fun b s7 ⟨H7, I7, q7⟩ => ?_
      have wk : ∀ {H7 : Hp} {s7 : Shared} {pl : List (Addr × Obj)}, Inv (cxComp X sc own cap cl H2.objs.size s H fp pins) pl σ6 H7 s7 → Inv (cxComp X sc own cap cl H2.objs.size s H fp pins) pl (cpSt own cap σ) H7 s7 := fun I => I.weak hx1.symm fun j v e => by
        rw [hx2 j (cpSt_some e).1]
        exact e
      have stay : ∀ {H7 : Hp} {s7 : Shared} {σ7 : St}, Inv (cxComp X sc own cap cl H2.objs.size s H fp pins) ([((s.heap.objs.size : Addr), ({ cls := .type "list", data := .seq its.toArray nn } : Obj))] ++ pinsAt fp s5.heap) σ7 H7 s7 →
          tn (i + 1) s7.heap ∧ (∀ b ∈ fp, H7 b = none) ∧ s7.heap.get? s.heap.objs.size = some { cls := .type "list", data := .seq its.toArray nn } ∧ H7 s.heap.objs.size = none := fun {H7 s7 σ7} I7 => by
        refine ⟨T.keep _ _ _ st5 fun b hb o e => (I7.pin (b, o) (List.mem_append_right _ (List.mem_append_right _ (mem_pinsAt hb e)))).1, fun b hb => ?_, ?_, ?_⟩
        · obtain ⟨o, e, d⟩ := T.obj _ _ st5 b hb
          exact (I7.pin (b, o) (List.mem_append_right _ (List.mem_append_right _ (mem_pinsAt hb e)))).2.1
        · exact (I7.pin (_, _) (List.mem_append_right _ (List.mem_append_left _ (List.mem_singleton.mpr rfl)))).1
        · exact (I7.pin (_, _) (List.mem_append_right _ (List.mem_append_left _ (List.mem_singleton.mpr rfl)))).2.1
      cases b with
      | false =>
        rw [if_neg Bool.false_ne_true] at q7 ⊢
        obtain ⟨m', hm, w7⟩ := hN _ _ q7
        obtain ⟨a1, a2, a3, a4⟩ := stay I7
        exact ⟨m', hm, i + 1, acc, its, nn, H7, (wk I7).pins_of (fun p hp => absurd hp (by simp)), a1, a2, a3, rv3, a4, w7⟩
      | true =>
        rw [if_pos rfl] at q7 ⊢
        refine thn (he _ s7 σ6 H7 _ I7 q7) fun y s8 ⟨v, H8, I8, r8, n8⟩ => ?_
        obtain ⟨m', hm, w8⟩ := hN _ _ n8
        obtain ⟨a1, a2, a3, a4⟩ := stay I8
        have hlen := rv3.length
        refine call_meets F.slot_list_append ⟨_, a3, rfl⟩ F.entry_list_append (F.args_list_append_2 _ _) (PySem.list_append s.heap.objs.size its.toArray nn y (by rw [List.size_toArray]; omega)) ⟨a3, ?_⟩
        obtain ⟨n', q⟩ : ∃ n', (s8.heap.update s.heap.objs.size (Obj.mapSeq (·.push y))).get? s.heap.objs.size = some { cls := .type "list", data := .seq (its ++ [y]).toArray n' } := by
          have q := PySem.IsL.update a3 (·.push y)
          have e : (its.toArray.push y) = (its ++ [y]).toArray := by simp
          rw [← e]
          exact ⟨_, q⟩
        have I9 := (wk I8).pins_of (pins' := pinsAt fp s5.heap) fun p hp => (wk I8).pin p (List.mem_append_right _ (List.mem_append_right _ hp))
        have kk : ∀ b o, b ≠ s.heap.objs.size → s8.heap.get? b = some o → (s8.heap.update s.heap.objs.size (Obj.mapSeq (·.push y))).get? b = some o := fun b o hb e => (Heap.get?_update_other s8.heap (Obj.mapSeq (·.push y)) (Ne.symm hb)).trans e
        refine ⟨m', hm, i + 1, acc ++ [v], its ++ [y], n', H8, (I9.pins_of (pins' := []) fun p hp => absurd hp (by simp)).turned (it := s.heap.objs.size) kk a4 hDC (.inr (Nat.le_refl _)) (fun x c e z => ?_) (fun p hp z => ?_), T.keep _ _ _ a1 fun b hb o e => kk b o (fun z => ?_) e, a2, q, rv3.append (.cons r8 .nil), a4, w8⟩
        · have e := cl1 x c e
          obtain ⟨w', o, ho, _⟩ := I.cell x c e
          exact addr_ne (Heap.lt_size ho) (Nat.le_refl _) z
        · have hp : p ∈ (X.pn ++ pins) ++ [] := hp
          rw [List.append_nil] at hp
          exact addr_ne (Heap.lt_size (I.pin p hp).1) (Nat.le_refl _) z
        · exact addr_ne (live b hb) (Nat.le_refl _) z
  exact codeAny_compStart_list (loop _ rfl) (T.self _ 0 _ _ _ (T.keep _ _ _ st fun b _ o e => old b o e) (loop _ rfl))
theorem pe_comp {elt tg iter : Expr} {ifs : List Expr} {pos : Pos} {wi : TI} {g : TG} {tt : TT} {te : TE} (hc : X.calm = true) (S : CpScope X.N X.env.scope sc own cap) (hown : GOwn own.length g) (hi : PI X tg iter wi)
    (hb : ∀ cl C s H fp pins, PG (cxComp X sc own cap cl C s H fp pins) tg g ∧ PTs (cxComp X sc own cap cl C s H fp pins) ifs tt ∧ PE (cxComp X sc own cap cl C s H fp pins) elt te)
    (hs : ∀ x, foldedSetIterable iter X.env x = pure x := by intro _; rfl) : PE X (.ListComp elt [⟨tg, iter, ifs, 0⟩] sc pos) (tComp own cap wi g tt te) := by
  intro pins s σ H Q I h
  obtain ⟨cl, hcl, cl1, cl2⟩ := closureFor_some (env := X.env) (scope := sc) fun y hy hf => I.ok.has y.1 (S.free y hy hf)
  rw [eval_ListComp]
  refine wpAny_comprehension_free (use := none) rfl hs hcl S.kind S.names (thn (hi pins s σ H _ I h) fun xv s1 h1 => thn h1 fun itv s2 h2 => ?_)
  obtain ⟨it, fp, tn, J, H2, e, I2, T, st2, f2, W, w0, turn⟩ := h2
  subst e
  refine comp_block (RR := fun acc C => compPost (model X.prog X.w) X.A X.xe none (EP X pins σ Q) acc C) hc S hown cl1 cl2 hb I2 T st2 f2 W w0 turn ?_
  intro D C H' s' J1 ⟨m, J2⟩ ⟨c0, c1, c2, c3, c4, c5⟩ q
  exact ⟨m, J2, fun h' sb => ⟨.ref D, H', J1.turned (t' := s'.toks) (fun b o hb e => (sb.2 b hb).trans e) c0 c1 c3 c4 c5, rfl, q⟩⟩
theorem ps_setcomp {elt tg iter : Expr} {ifs : List Expr} {pos pos' spos : Pos} {wi : TI} {g : TG} {tt : TT} {te : TE} {i : Nat} {x : Str} (hc : X.calm = true) (S : CpScope X.N X.env.scope sc own cap) (hown : GOwn own.length g) (hN : X.N.Nodup) (hx : X.N[i]? = some x) (hl : X.env.scope.names.lookup x = some .local) (hi : PI X tg iter wi)
    (hb : ∀ cl C s H fp pins, PG (cxComp X sc own cap cl C s H fp pins) tg g ∧ PTs (cxComp X sc own cap cl C s H fp pins) ifs tt ∧ PE (cxComp X sc own cap cl C s H fp pins) elt te)
    (hsw : swapsWith (.ListComp elt [⟨tg, iter, ifs, 0⟩] sc pos) (some (.Name x pos')) spos.line X.env = pure true := by rfl)
    (hs : ∀ x, foldedSetIterable iter X.env x = pure x := by intro _; rfl) : PS X (.Assign [.Name x pos'] (.ListComp elt [⟨tg, iter, ifs, 0⟩] sc pos) spos) (tAsg (tComp own cap wi g tt te) (gName i)) := by
  intro pins s σ H D I h
  obtain ⟨cl, hcl, cl1, cl2⟩ := closureFor_some (env := X.env) (scope := sc) fun y hy hf => I.ok.has y.1 (S.free y hy hf)
  rw [exec_Assign_Name_used _ _ _ _ hsw]
  refine wpAny_bind (wpAny_standAt (wpAny_bind ?_))
  show wpAny _ _ (do let _ ← comprehension (.ListComp elt [⟨tg, iter, ifs, 0⟩] sc pos) sc X.env _ (newList []) false (eval iter X.env) (some (assign (.Name x pos') X.env))) _ _ s
  refine wpAny_bind (wpAny_mono (wpAny_comprehension_free (use := some (assign (.Name x pos') X.env)) (Q := fun _ s' => SP X pins D .next s') rfl hs hcl S.kind S.names (thn (hi pins s σ H _ I h) fun xv s1 h1 => thn h1 fun itv s2 h2 => ?_)) (fun _ s' hq => wpAny_pure (wpAny_pure hq)) fun _ _ e => e)
  obtain ⟨it, fp, tn, J, H2, e, I2, T, st2, f2, W, w0, turn⟩ := h2
  subst e
  refine comp_block (Q := fun x H1 => gName i x σ H1 D.nx) (RR := fun acc C => compPost (model X.prog X.w) X.A X.xe (some (assign (.Name x pos') X.env)) (fun _ s' => SP X pins D .next s') acc C) hc S hown cl1 cl2 hb I2 T st2 f2 W w0 turn ?_
  intro L C H' s' J1 ⟨m, J2⟩ ⟨c0, c1, c2, c3, c4, c5⟩ q
  show wpAny _ _ (assign (.Name x pos') X.env (.ref L)) _ _ s'
  refine wpAny_assign_Name (store_ok2 (v := .ref L) J1 hN hx (.inl hl) rfl (fun s'' J3 ⟨a, sb, ha⟩ => ?_) (.inr hl))
  have hCa : C ≠ a := by
    rcases ha with z | z
    · rw [z]; exact c1
    · exact Ne.symm (c4 _ _ z)
  refine ⟨m, J2.sameBut sb hCa, fun h' sb' => ⟨_, H', J3.turned (t' := s''.toks) (fun b o hb e => (sb'.2 b hb).trans e) c0 c1 c3 c4 c5, q⟩⟩
end
end L2
set_option Elab.async false
set_option linter.all false
set_option maxRecDepth 100000
namespace L2
open PySem PySem.Spec PyProof.Rows
def tyOf (H : Hp) : V → Option String
  | .non => some "NoneType"
  | .bl _ => some "bool"
  | .int _ => some "int"
  | .str _ => some "str"
  | .ref a => match H a with
    | some (.lst _) => some "list"
    | some (.tup _) => some "tuple"
    | some (.dK _) => some "dict"
    | _ => none
  | _ => none
def isiB (t T : String) : Bool := t == T || (t == "bool" && T == "int")
theorem kit_tab (K : PySem.W.Frag) {t T : String} (ht : t ∈ ["NoneType", "bool", "int", "str", "list", "tuple", "dict"]) (hT : T ∈ ["bool", "int", "str", "list", "tuple", "dict"]) : PySem.W.kitOne K (.type t) (.type T) = some (isiB t T) := by
  simp only [List.mem_cons, List.not_mem_nil, or_false] at ht hT
  rcases ht with rfl | rfl | rfl | rfl | rfl | rfl | rfl <;> rcases hT with rfl | rfl | rfl | rfl | rfl | rfl <;> first | rfl | decide +kernel
section
variable {X : Cx}
theorem call_isinst : CallR X (.builtin "isinstance") (fun xs H Q => ∃ x T t, xs = [x, .ty T] ∧ tyOf H x = some t ∧ T ∈ ["bool", "int", "str", "list", "tuple", "dict"] ∧ Q (.bl (isiB t T)) H) := by
  intro pins s σ H xs us Q I r h
  obtain ⟨x, T, t, rfl, ht, hT, q⟩ := h
  obtain ⟨u, w', rfl, ru, rw'⟩ := vals2 r
  have rw' : w' = Value.type T := rw'
  subst rw'
  have key : ∀ {t' : String}, TyOf X.K H x (.type t') → t' = t → t ∈ ["NoneType", "bool", "int", "str", "list", "tuple", "dict"] → wpAny (model X.prog X.w) X.A (call (.builtin "isinstance") [u, .type T]) (EP X pins σ Q) X.xe s := fun {t'} ty e hm => by
    subst e
    exact isinst_ok I ru ty (kit_tab X.K hm hT) fun tk => ⟨.bl (isiB t' T), H, I.tok tk, rfl, q⟩
  cases x with
  | non => cases ht; exact key .non rfl (by decide)
  | bl b => cases ht; exact key (.bl b) rfl (by decide)
  | int i => cases ht; exact key (.int i) rfl (by decide)
  | str z => cases ht; exact key (.str z) rfl (by decide)
  | ref a =>
    unfold tyOf at ht
    simp only at ht
    cases e : H a with
    | none => rw [e] at ht; cases ht
    | some o =>
      rw [e] at ht
      cases o with
      | lst xs => cases ht; exact key (.lst e) rfl (by decide)
      | tup xs => cases ht; exact key (.tup e) rfl (by decide)
      | dK kvs => cases ht; exact key (.dK e) rfl (by decide)
      | _ => cases ht
  | _ => cases ht
theorem lst_iter {pins : List (Addr × Obj)} {σ : St} {H : Hp} {s : Shared} {a : Addr} {xs : List V} (I : Inv X pins σ H s) (h : H a = some (.lst xs)) : ∃ its : List Value, Vals xs its ∧ s.heap.IsList a its.toArray ∧ a < s.heap.objs.size := by
  obtain ⟨hz, its, n, r, e⟩ := I.hok a _ h
  exact ⟨its, r, ⟨_, e, rfl, n, rfl⟩, Heap.lt_size e⟩
theorem op_isnotB : OpR X (compareOp .IsNot) (fun x y H Q => ∃ i j, x = .bl i ∧ y = .bl j ∧ Q (.bl (i != j)) H) := by
  intro pins s σ H x y v u Q I rx ry h
  obtain ⟨i, j, rfl, rfl, q⟩ := h
  cases rx
  cases ry
  exact isnot_bool ⟨.bl (i != j), H, I, rfl, q⟩
def rCount : V → List V → Hp → VK → Prop := fun x vs H Q => ∃ l xs y, x = .ref l ∧ vs = [y] ∧ H l = some (.lst xs) ∧ flatV y = true ∧ xs.all flatV = true ∧ Q (.int (xs.countP fun z => eqV z y)) H
def Its (x : Str) : It := ⟨fun i _ => i < x.cps.size, fun i H v H' => H' = H ∧ ∃ c, x.cps[i]? = some c ∧ v = .str ⟨#[c]⟩, fun i _ => x.cps.size ≤ i⟩
theorem turn_seqL {P : Program} {w : World} {K : PySem.W.Frag} {tg : Expr} (a it : Addr) (xs : List V) : Turn P w K tg ⟨fun i H => H a = some (.lst xs) ∧ i < xs.length, fun i H x H' => H' = H ∧ xs[i]? = some x, fun i H => H a = some (.lst xs) ∧ xs.length ≤ i⟩ [it] it (fun i h => h.IsListIter it a i) where
  mem := (turn_list (P := P) (w := w) (K := K) (tg := tg) a it).mem
  obj := (turn_list (P := P) (w := w) (K := K) (tg := tg) a it).obj
  keep := (turn_list (P := P) (w := w) (K := K) (tg := tg) a it).keep
  item := by
    intro X hP hw hK hc i pins s σ H E I hf st hg
    obtain ⟨h1, h2⟩ := hg
    refine thn ((turn_list (P := P) (w := w) (K := K) (tg := tg) a it).item X hP hw hK hc i pins s σ H E I hf st ⟨xs, xs[i], SqL.of h1, by simp [h2]⟩) fun r s1 ⟨u, hr, h3⟩ => ⟨u, hr, thn h3 fun _ s2 ⟨x, H', I2, rx, ⟨y1, y2⟩, st2, f2⟩ => ⟨x, H', I2, rx, ⟨y1, y2 xs (SqL.of h1)⟩, st2, f2⟩⟩
  done := by
    intro X hP hw hK hc i pins s σ H E I hf st hg
    obtain ⟨h1, h2⟩ := hg
    exact (turn_list (P := P) (w := w) (K := K) (tg := tg) a it).done X hP hw hK hc i pins s σ H E I hf st ⟨xs, SqL.of h1, h2⟩
  self := (turn_list (P := P) (w := w) (K := K) (tg := tg) a it).self
theorem turn_seqT {P : Program} {w : World} {K : PySem.W.Frag} {tg : Expr} (a it : Addr) (xs : List V) : Turn P w K tg ⟨fun i H => H a = some (.tup xs) ∧ i < xs.length, fun i H x H' => H' = H ∧ xs[i]? = some x, fun i H => H a = some (.tup xs) ∧ xs.length ≤ i⟩ [it] it (fun i h => h.IsTupleIter it a i) where
  mem := (turn_tuple (P := P) (w := w) (K := K) (tg := tg) a it).mem
  obj := (turn_tuple (P := P) (w := w) (K := K) (tg := tg) a it).obj
  keep := (turn_tuple (P := P) (w := w) (K := K) (tg := tg) a it).keep
  item := by
    intro X hP hw hK hc i pins s σ H E I hf st hg
    obtain ⟨h1, h2⟩ := hg
    refine thn ((turn_tuple (P := P) (w := w) (K := K) (tg := tg) a it).item X hP hw hK hc i pins s σ H E I hf st ⟨xs, xs[i], SqT.of h1, by simp [h2]⟩) fun r s1 ⟨u, hr, h3⟩ => ⟨u, hr, thn h3 fun _ s2 ⟨x, H', I2, rx, ⟨y1, y2⟩, st2, f2⟩ => ⟨x, H', I2, rx, ⟨y1, y2 xs (SqT.of h1)⟩, st2, f2⟩⟩
  done := by
    intro X hP hw hK hc i pins s σ H E I hf st hg
    obtain ⟨h1, h2⟩ := hg
    exact (turn_tuple (P := P) (w := w) (K := K) (tg := tg) a it).done X hP hw hK hc i pins s σ H E I hf st ⟨xs, SqT.of h1, h2⟩
  self := (turn_tuple (P := P) (w := w) (K := K) (tg := tg) a it).self
def ItL (a : Addr) (xs : List V) : It := ⟨fun i H => H a = some (.lst xs) ∧ i < xs.length, fun i H x H' => H' = H ∧ xs[i]? = some x, fun i H => H a = some (.lst xs) ∧ xs.length ≤ i⟩
def ItT (a : Addr) (xs : List V) : It := ⟨fun i H => H a = some (.tup xs) ∧ i < xs.length, fun i H x H' => H' = H ∧ xs[i]? = some x, fun i H => H a = some (.tup xs) ∧ xs.length ≤ i⟩
def iAny (te : TE) : TI := fun σ H R => te σ H fun x H1 => (∃ a xs, x = .ref a ∧ H1 a = some (.lst xs) ∧ R (ItL a xs) H1) ∨ (∃ a xs, x = .ref a ∧ H1 a = some (.tup xs) ∧ R (ItT a xs) H1) ∨ (∃ z, x = .str z ∧ R (Its z) H1)
end
structure Goes (J : It) (n : Nat) (yl : Nat → V → Prop) (ok : Hp → Prop) : Prop where
  go : ∀ i H, i < n → ok H → J.go i H
  yld : ∀ i H x H', i < n → ok H → J.yld i H x H' → H' = H ∧ yl i x
  stop : ∀ H, ok H → J.stop n H
theorem goesL (a : Addr) (xs : List V) : Goes (ItL a xs) xs.length (fun i x => xs[i]? = some x) (fun H => H a = some (.lst xs)) := ⟨fun _ _ h o => ⟨o, h⟩, fun _ _ _ _ _ _ y => y, fun _ o => ⟨o, Nat.le_refl _⟩⟩
theorem goesT (a : Addr) (xs : List V) : Goes (ItT a xs) xs.length (fun i x => xs[i]? = some x) (fun H => H a = some (.tup xs)) := ⟨fun _ _ h o => ⟨o, h⟩, fun _ _ _ _ _ _ y => y, fun _ o => ⟨o, Nat.le_refl _⟩⟩
theorem goesR (lo : Int) (n : Nat) : Goes (Itr lo n) n (fun i x => x = .int (lo + i)) (fun _ => True) := ⟨fun _ _ h _ => h, fun _ _ _ _ _ _ y => y, fun _ _ => Nat.le_refl _⟩
theorem for_goes {J : It} {n : Nat} {yl : Nat → V → Prop} {ok : Hp → Prop} {g : TG} {tb : TS} {D : Ends} {σ : St} {H : Hp} (G : Goes J n yl ok) (Pv : Nat → St → Hp → Prop) (h0 : Pv 0 σ H) (hok : ∀ i σ H, i ≤ n → Pv i σ H → ok H)
    (hs : ∀ i x σ H, i < n → yl i x → Pv i σ H → g x σ H fun σ2 H2 => tb { D with nx := Pv (i + 1), ct := Pv (i + 1), bk := D.nx } σ2 H2) (hd : ∀ σ H, Pv n σ H → D.nx σ H) :
    ∃ W : Nat → Nat → St → Hp → Prop, (∃ m, W 0 m σ H) ∧ ∀ i m σ H, W i m σ H →
      (J.stop i H ∧ D.nx σ H) ∨ (J.go i H ∧ ∃ N : St → Hp → Prop, (∀ σ' H', N σ' H' → ∃ m', m' < m ∧ W (i + 1) m' σ' H') ∧ ∀ x H', J.yld i H x H' → g x σ H' fun σ2 H2 => tb { D with nx := N, ct := N, bk := D.nx } σ2 H2) := by
  refine ⟨fun i m σ H => m = n - i ∧ i ≤ n ∧ Pv i σ H, ⟨n, by simp, Nat.zero_le _, h0⟩, ?_⟩
  rintro i m σ H ⟨rfl, hi, p⟩
  have q := hok i σ H hi p
  by_cases hlt : i < n
  · refine .inr ⟨G.go i H hlt q, Pv (i + 1), fun σ' H' p' => ⟨n - (i + 1), by omega, rfl, hlt, p'⟩, fun x H' y => ?_⟩
    obtain ⟨e, y'⟩ := G.yld i H x H' hlt q y
    subst e
    exact hs i x σ _ hlt y' p
  · have e : i = n := by omega
    subst e
    exact .inl ⟨G.stop H q, hd σ H p⟩
theorem comp_goes {J : It} {n : Nat} {yl : Nat → V → Prop} {ok : Hp → Prop} {g : TG} {tt : TT} {te : TE} {σ0 : St} {H : Hp} {Q : VK} (G : Goes J n yl ok) (hn : n ≤ sizeLine) (Pv : Nat → List V → Hp → Prop) (h0 : Pv 0 [] H) (hok : ∀ i acc H, i ≤ n → Pv i acc H → ok H)
    (hlen : ∀ i acc H, Pv i acc H → acc.length ≤ i)
    (hs : ∀ i x acc H, i < n → yl i x → Pv i acc H → g x σ0 H fun σ2 H2 => tt σ2 H2 fun b H3 => if b = true then te σ2 H3 fun y H4 => Pv (i + 1) (acc ++ [y]) H4 else Pv (i + 1) acc H3)
    (hd : ∀ acc H, Pv n acc H → ∀ p, H p = none → Q (.ref p) (upd H p (.lst acc))) :
    ∃ W : Nat → Nat → List V → Hp → Prop, (∃ m, W 0 m [] H) ∧ ∀ i m acc H, W i m acc H → acc.length ≤ sizeLine ∧
      ((J.stop i H ∧ ∀ p, H p = none → Q (.ref p) (upd H p (.lst acc))) ∨
       (J.go i H ∧ acc.length < sizeLine ∧ ∃ N : List V → Hp → Prop, (∀ acc' H', N acc' H' → ∃ m', m' < m ∧ W (i + 1) m' acc' H') ∧ ∀ x H', J.yld i H x H' → g x σ0 H' fun σ2 H2 => tt σ2 H2 fun b H3 => if b = true then te σ2 H3 fun y H4 => N (acc ++ [y]) H4 else N acc H3)) := by
  refine ⟨fun i m acc H => m = n - i ∧ i ≤ n ∧ Pv i acc H, ⟨n, by simp, Nat.zero_le _, h0⟩, ?_⟩
  rintro i m acc H ⟨rfl, hi, p⟩
  have q := hok i acc H hi p
  have hl := hlen i acc H p
  refine ⟨by omega, ?_⟩
  by_cases hlt : i < n
  · refine .inr ⟨G.go i H hlt q, by omega, Pv (i + 1), fun acc' H' p' => ⟨n - (i + 1), by omega, rfl, hlt, p'⟩, fun x H' y => ?_⟩
    obtain ⟨e, y'⟩ := G.yld i H x H' hlt q y
    subst e
    exact hs i x acc _ hlt y' p
  · have e : i = n := by omega
    subst e
    exact .inl ⟨G.stop H q, hd acc H p⟩
end L2
set_option Elab.async false
set_option linter.all false
set_option maxRecDepth 100000
namespace L2
open PySem PySem.Spec PyProof.Rows
section
variable {X : Cx} {a b c e o : Expr} {ta tb tc te to : TE} {pos p apos cpos : Pos} {es : List Expr} {t : TA}
theorem op_fdivL : OpR X (binaryOp .FloorDiv) (rI (fun _ j => 0 < j ∧ j < 10 ^ 200) fun i j => .int (i / j)) := opI fun i j _ _ _ _ _ hc q => by
  have h : j.natAbs.log2 < 9000 := by
    have h1 : j.natAbs ≠ 0 := by omega
    rw [Nat.log2_lt h1]
    have h2 : j.natAbs < 10 ^ 200 := by have := hc.2; omega
    exact Nat.lt_of_lt_of_le h2 (by decide +kernel)
  refine floordiv_int (by omega) ?_ (.inl (PyProof.noPylong_of_log2 h))
  rw [Int.fdiv_eq_ediv_of_nonneg i (by omega)]
  exact q
def rCatE : R2 := fun x y H Q => ∃ a b ys, x = .ref a ∧ y = .ref b ∧ H a = some (.tup []) ∧ H b = some (.tup ys) ∧ Q (.ref b) H
theorem op_catE : OpR X (binaryOp .Add) rCatE := by
  intro pins s σ H x y v u Q I rx ry h
  obtain ⟨a, b, ys, rfl, rfl, ha, hb, q⟩ := h
  cases rx
  cases ry
  obtain ⟨its, r1, p1, _⟩ := I.tuple (SqT.of ha)
  obtain ⟨its2, r2, p2, _⟩ := I.tuple (SqT.of hb)
  cases r1
  obtain ⟨⟨cls, dd, data, sl⟩, ho, hc, n, hd⟩ := id p1
  obtain ⟨⟨cls2, dd2, data2, sl2⟩, ho2, hc2, n2, hd2⟩ := id p2
  simp only at hc hd hc2 hd2
  subst hc hd hc2 hd2
  exact concat_meets ⟨_, ho, rfl⟩ ⟨_, ho2, rfl⟩ noFill_tuple_add seq_tuple_add PySem.F.slot_tuple_add PySem.F.entry_tuple_add (PySem.F.args_tuple_add_2 _ _)
      (tuple_addW0 a b _ _ n n2 dd dd2 sl sl2 (by simp)) ⟨ho, ho2, .ref b, H, I, rfl, q⟩
def rCatTT : R2 := fun x y H Q => ∃ a b xs ys, x = .ref a ∧ y = .ref b ∧ H a = some (.tup xs) ∧ H b = some (.tup ys) ∧ xs.length + ys.length ≤ sizeLine ∧
  ∀ p H', H' p = some (.tup (xs ++ ys)) → Same H H' → (∀ q, q ≠ p → H' q = H q) → Q (.ref p) H'
theorem op_catTT : OpR X (binaryOp .Add) rCatTT := by
  intro pins s σ H x y v u Q I rx ry h
  obtain ⟨a, b, xs, ys, rfl, rfl, ha, hb, hz, q⟩ := h
  by_cases hx : xs = []
  · subst hx
    exact op_catE pins s σ H _ _ v u Q I rx ry ⟨a, b, ys, rfl, rfl, ha, hb, q b H (by simpa using hb) (Same.refl H) fun _ _ => rfl⟩
  · refine op_catT pins s σ H _ _ v u Q I rx ry ⟨a, b, xs, ys, rfl, rfl, SqT.of ha, SqT.of hb, hx, hz, fun e => ?_, fun _ p hp => ?_⟩
    · subst e
      exact q a H (by simpa using ha) (Same.refl H) fun _ _ => rfl
    · exact q p _ upd_same (fun c o hc => by rw [upd_ne (ne_of_none hc hp)]; exact hc) fun _ hq => upd_ne hq
def rAddA : R2 := fun x y H Q => (∃ i j, x = .int i ∧ y = .int j ∧ Q (.int (i + j)) H) ∨ (∃ i j, x = .str i ∧ y = .str j ∧ i.length + j.length ≤ sizeLine ∧ Q (.str (i ++ j)) H) ∨ rCat x y H Q ∨ rCatTT x y H Q
def rIAddA : R2 := fun x y H Q => (∃ i j, x = .int i ∧ y = .int j ∧ Q (.int (i + j)) H) ∨ (∃ i j, x = .str i ∧ y = .str j ∧ i.length + j.length ≤ sizeLine ∧ Q (.str (i ++ j)) H)
def Item (H : Hp) (x y v : V) : Prop :=
  (∃ p xs i, x = .ref p ∧ y = .int i ∧ (H p = some (.lst xs) ∨ H p = some (.tup xs)) ∧ atI xs i = some v) ∨
  (∃ z i c, x = .str z ∧ y = .int i ∧ z.length ≤ sizeLine ∧ atI z.cps.toList i = some c ∧ v = .str ⟨#[c]⟩) ∨
  (∃ p kvs k, x = .ref p ∧ y = kV k ∧ Rd H p (.dK kvs) ∧ valV kvs k = some v)
def rItem : R2 := fun x y H Q => ∃ v, Item H x y v ∧ Q v H
theorem ix_dict (hu : X.A.units + 1 < cLine) : IxR X (fun x y H Q => ∃ a v, x = .ref a ∧ DGet H a y (some v) ∧ Q v H) := by
  intro value slice pins s σ H x y v u Q I rx ry h hs
  obtain ⟨a, z, rfl, g, q⟩ := h
  cases rx
  exact tail_any (dict_typeIs I g) PySem.F.slot_dict_getitem.lookup (d_getItem hu I g ry fun w' s3 I3 rw' => ⟨z, H, I3, rw', q⟩) hs
theorem ix_item (hu : X.A.units + 1 < cLine) : IxR X rItem := by
  intro value slice pins s σ H x y v u Q I rx ry h hs
  obtain ⟨z, h, q⟩ := h
  rcases h with ⟨p, xs, i, rfl, rfl, h | h, he⟩ | ⟨z', i, c, rfl, rfl, hz, he, rfl⟩ | ⟨p, kvs, k, rfl, rfl, h, he⟩
  · exact ix_list value slice pins s σ H _ _ v u Q I rx ry ⟨p, xs, i, z, rfl, rfl, SqL.of h, he, q⟩ hs
  · exact ix_tup value slice pins s σ H _ _ v u Q I rx ry ⟨p, xs, i, z, rfl, rfl, SqT.of h, he, q⟩ hs
  · exact ix_str value slice pins s σ H _ _ v u Q I rx ry ⟨z', i, c, rfl, rfl, hz, he, q⟩ hs
  · refine ix_dict hu value slice pins s σ H _ _ v u Q I rx ry ⟨p, z, rfl, ?_, q⟩ hs
    have g : DGet H p (kV k) (valV kvs k) := .inl ⟨kvs, k, h, rfl, rfl⟩
    rw [he] at g
    exact g
theorem pe_item (hu : X.A.units + 1 < cLine) (ha : PE X a ta) (hb : PE X b tb) (hs : PlainIx b) : PE X (.Subscript a b pos) (tOp rItem ta tb) := pe_ix (ix_item hu) ha hb hs
theorem item_t {H : Hp} {p : Addr} {xs : List V} {j : Nat} {v : V} (h : H p = some (.tup xs)) (e : xs[j]? = some v) : Item H (.ref p) (.int j) v := .inl ⟨p, xs, j, rfl, rfl, .inr h, atI_nat e⟩
theorem item_l {H : Hp} {p : Addr} {xs : List V} {j : Nat} {v : V} (h : H p = some (.lst xs)) (e : xs[j]? = some v) : Item H (.ref p) (.int j) v := .inl ⟨p, xs, j, rfl, rfl, .inl h, atI_nat e⟩
theorem item_i {H : Hp} {p : Addr} {xs : List V} {i : Int} {v : V} (h : H p = some (.lst xs) ∨ H p = some (.tup xs)) (h0 : 0 ≤ i) (e : xs[i.toNat]? = some v) : Item H (.ref p) (.int i) v := by
  refine .inl ⟨p, xs, i, rfl, rfl, h, ?_⟩
  have q := atI_nat e
  rw [Int.toNat_of_nonneg h0] at q
  exact q
theorem item_d {H : Hp} {p : Addr} {kvs : List (Key × V)} {k : Str} {v : V} (h : Rd H p (.dK kvs)) (e : valV kvs (Sum.inr k) = some v) : Item H (.ref p) (.str k) v := .inr (.inr ⟨p, kvs, Sum.inr k, rfl, rfl, h, e⟩)
def lenA : List V → Hp → VK → Prop := fun xs H Q => (∃ p ys, xs = [.ref p] ∧ (H p = some (.lst ys) ∨ H p = some (.tup ys)) ∧ Q (.int ys.length) H) ∨ (∃ z, xs = [.str z] ∧ z.length ≤ sizeLine ∧ Q (.int z.length) H) ∨ (∃ p kvs, xs = [.ref p] ∧ H p = some (.dK kvs) ∧ Q (.int kvs.length) H)
theorem call_lenA : CallR X (.builtin "len") lenA := by
  intro pins s σ H xs us Q I r h
  rcases h with ⟨p, ys, rfl, h, q⟩ | ⟨z, rfl, hz, q⟩ | ⟨p, kvs, rfl, h, q⟩
  · exact call_len_seq pins s σ H _ us Q I r ⟨p, ys, rfl, h.imp SqL.of SqT.of, q⟩
  · exact call_len_str pins s σ H _ us Q I r ⟨z, rfl, hz, q⟩
  · exact call_lenD pins s σ H _ us Q I r ⟨p, kvs, rfl, h, q⟩
def InA (H : Hp) (x y : V) (b : Bool) : Prop :=
  (∃ p xs, y = .ref p ∧ (H p = some (.lst xs) ∨ H p = some (.tup xs)) ∧ flatV x = true ∧ xs.all flatV = true ∧ b = inV x xs) ∨
  (∃ i j, x = .str i ∧ y = .str j ∧ b = !(Builtin.Str.occurrences j i 0 j.length 1).isEmpty) ∨
  (∃ p kvs k, y = .ref p ∧ x = kV k ∧ Rd H p (.dK kvs) ∧ b = (valV kvs k).isSome)
theorem op_inA (hu : X.A.units + 1 < cLine) : OpR X (compareOp .In) (fun x y H Q => ∃ b, InA H x y b ∧ Q (.bl b) H) := by
  intro pins s σ H x y v u Q I rx ry h
  obtain ⟨b, h, q⟩ := h
  rcases h with ⟨p, xs, rfl, hp, fx, fxs, rfl⟩ | ⟨i, j, rfl, rfl, rfl⟩ | ⟨p, kvs, k, rfl, rfl, hp, rfl⟩
  · exact op_in_seq pins s σ H _ _ v u Q I rx ry ⟨p, xs, rfl, hp.imp SqL.of SqT.of, fx, fxs, q⟩
  · exact op_in_str pins s σ H _ _ v u Q I rx ry ⟨i, j, rfl, rfl, q⟩
  · cases ry
    exact d_in hu I (.inl ⟨kvs, k, hp, rfl, rfl⟩) rx fun s' I' => ⟨.bl _, H, I', rfl, q⟩
def rSetA : V → V → V → Hp → (Hp → Prop) → Prop := fun o i v H Q => rSetL o i v H Q ∨ (∃ p kvs k, o = .ref p ∧ i = kV k ∧ H p = some (.dK kvs) ∧ kvs.length < sizeLine ∧ Q (upd H p (.dK (putK kvs k v))))
theorem set_any (hu : X.A.units + 1 < cLine) : PSet X rSetA := by
  intro pins s σ H o i v ov iv u Q I ro ri rv h
  rcases h with h | ⟨p, kvs, k, rfl, rfl, hp, hl, q⟩
  · exact set_list pins s σ H o i v ov iv u Q I ro ri rv h
  · cases ro
    exact d_setItem hu I (DPut.k hp hl) ri rv fun s' I' => ⟨_, I', q⟩
theorem tyV_of {K : PySem.W.Frag} {H : Hp} {x : V} {T : String} (h : tyOf H x = some T) (hT : T = "list" ∨ T = "dict" ∨ T = "str") : tyV K T x H := by
  cases x with
  | str z => cases h; rfl
  | ref a =>
    unfold tyOf at h
    simp only at h
    cases e : H a with
    | none => rw [e] at h; cases h
    | some o =>
      rw [e] at h
      cases o with
      | lst xs => cases h; exact .inl ⟨rfl, xs, SqL.of e⟩
      | tup xs => cases h; exact absurd hT (by decide)
      | dK kvs => cases h; exact .inr (.inr (.inl ⟨rfl, .inl ⟨kvs, e⟩⟩))
      | _ => cases h
  | int i => cases h; exact absurd hT (by decide)
  | bl i => cases h; exact absurd hT (by decide)
  | non => cases h; exact absurd hT (by decide)
  | _ => cases h
def tBA0 (T : String) (r : V → List V → Hp → VK → Prop) (to : TE) : TE := fun σ H Q => to σ H fun x H1 => tyOf H1 x = some T ∧ r x [] H1 Q
def tBA (T : String) (r : V → List V → Hp → VK → Prop) (to : TE) (t : TA) : TE := fun σ H Q => to σ H fun x H1 => tyOf H1 x = some T ∧ t σ H1 fun xs H2 => r x xs H2 Q
theorem PE.weak {e : Expr} {t t' : TE} (h : PE X e t) (w : ∀ σ H Q, t' σ H Q → t σ H Q) : PE X e t' := fun pins s σ H Q I q => h pins s σ H Q I (w σ H Q q)
variable {name : Str} {T id : String} {r : V → List V → Hp → VK → Prop}
theorem pe_ba (pa : PlainAttrs T) (slot : Slot T name id) (hty : typeOf (.builtin id) = pure (.type "method_descriptor")) (hm : MtR X id r) (ho : PE X o to) (ha : PA X (e :: es) t) (hT : T = "list" ∨ T = "dict" ∨ T = "str" := by decide)
    (hbase : attributeBase o name X.env (eval o X.env) = eval o X.env := by rfl)
    (hfew : ((backTo cpos (starEach (e :: es) X.env)).all (fun x => !x.1) && (backToKw cpos (keywordEach [] X.env)).all (fun x => x.1.isSome)
      && decide ((e :: es).length + ([] : List Keyword).length + (if ([] : List Keyword).isEmpty then 0 else 1) < 30)) = true := by rfl)
    (hline : (apos.endLine == cpos.line) = true := by rfl) (hs : starEach (e :: es) X.env = (false, eval e X.env) :: starEach es X.env := by rfl) (hplain : (backTo cpos (starEach es X.env)).any (·.1) = false := by rfl) :
    PE X (.Call (.Attribute o name apos) (e :: es) [] cpos) (tBA T r to t) := by
  intro pins s σ H Q I h
  refine wpAny_Call_method_late hbase hfew hline rfl (thn (ho pins s σ H _ I h) fun v s1 ⟨x, H1, I1, r1, ty, q1⟩ => ?_)
  obtain ⟨h1, h2⟩ := tyV_is I1 r1 (tyV_of ty hT)
  refine ⟨T, id, pa, slot, hty, h1, h2, ?_⟩
  have hA := ha cpos pins s1 σ H1 _ I1 q1
  rw [hs] at hA ⊢
  refine Calls.callWith_builtin (by show (false || (backTo cpos (starEach es X.env)).any (·.1)) = false; rw [hplain] <;> rfl) (Calls.evalArgs_plain ?_)
  exact thn hA fun us s2 ⟨vs, H2, I2, r2, q2⟩ => hm pins s2 σ H2 x vs v us Q I2 r1 r2 q2
end
def Has (P : Program) (w : World) (K : PySem.W.Frag) (mg : Str → Option Value) (base : Heap) (x : Str) (k : Nat) (ps : List Str) (sp : Sp) : Prop :=
  ∃ f fd, mg x = some (.ref f) ∧ PySem.W.keepIn K (.ref f) = true ∧ Binds K fd ps [] ∧ FnOk P w K mg base CX0 k f fd ps sp
theorem pe_callH {X : Cx} {x : Str} {k : Nat} {ps : List Str} {sp : Sp} {e : Expr} {es : List Expr} {t : TA} {p pos : Pos} (h : Has X.prog X.w X.K X.mg X.base x k ps sp) (hr : Room k X.A) (hg : Gl X x) (ha : PA X (e :: es) t)
    (hdb : (x == ("__debug__" : Str)) = false := by decide) (he : starEach (e :: es) X.env = (false, eval e X.env) :: starEach es X.env := by rfl) (hpl : (backTo pos (starEach es X.env)).any (·.1) = false := by rfl) :
    PE X (.Call (.Name x p) (e :: es) [] pos) (tCall sp [] E0 t) := by
  obtain ⟨f, fd, hm, hk, hb, F⟩ := h
  exact pe_call F hr hg hm hk hb .nil pass0 ha hdb he hpl
end L2
set_option Elab.async false
set_option linter.all false
set_option maxRecDepth 100000
namespace HT
open PySem PyProof.Rows
section
variable {prog : Program} {w : World} {A : Around} {E : Value → Shared → Prop} {s : Shared}
end
end HT
namespace L2
open PySem PySem.Spec PyProof.Rows
section
variable {X : Cx} {a b c e o : Expr} {ta tb tc te to : TE} {pos p apos cpos : Pos} {es : List Expr} {t : TA}
theorem sl_lstA : SlR X (fun x lo hi H Q => ∃ a xs, x = .ref a ∧ H a = some (.lst xs) ∧ ∀ p, H p = none → Q (.ref p) (upd H p (.lst (cutV xs lo hi)))) := by
  intro pins s σ H x v vl vu lo hi sl Q I rx hs pl pu h
  obtain ⟨a, xs, rfl, hx, q⟩ := h
  exact sl_list pins s σ H _ v vl vu lo hi sl Q I rx hs pl pu ⟨a, xs, rfl, SqL.of hx, q⟩
theorem pe_globI {x : Str} {i : Int} {pos : Pos} (hg : Gl X x) (hm : ∃ t, X.mg x = some (.int i t)) (hd : (x == ("__debug__" : Str)) = false := by decide) : PE X (.Name x pos) (tC (.int i)) := by
  obtain ⟨t, hm⟩ := hm
  exact pe_glob hg hm ⟨t, rfl⟩ hd
theorem op_eqA (hu : X.A.units + 1 < cLine) : OpR X (compareOp .Eq) rEq := op_eq
theorem op_neA (hu : X.A.units + 1 < cLine) : OpR X (compareOp .NotEq) rNe := op_ne
theorem op_ltA (hu : X.A.units + 1 < cLine) : OpR X (compareOp .Lt) (rI0 fun i j => .bl (decide (i < j))) := op_lt
def rIsA : R2 := fun x y H Q => (∃ i j, x = .bl i ∧ y = .bl j ∧ Q (.bl (i == j)) H) ∨ (y = .non ∧ Q (.bl (decide (x = .non))) H)
def rIsnotA : R2 := fun x y H Q => (∃ i j, x = .bl i ∧ y = .bl j ∧ Q (.bl (i != j)) H) ∨ (y = .non ∧ Q (.bl (!decide (x = .non))) H)
theorem op_isnotA : OpR X (compareOp .IsNot) rIsnotA := op_isnotB.or op_notN
theorem call_minA (hc : X.calm = true) : CallR X (.builtin "min") (fun xs H Q => ∃ i j, xs = [.int i, .int j] ∧ Q (.int (if j < i then j else i)) H) := call_min2 hc
def tupleA : List V → Hp → VK → Prop := fun xs H Q => ∃ p ys, xs = [.ref p] ∧ ((H p = some (.lst ys) ∧ ∀ l, H l = none → Q (.ref l) (upd H l (.tup ys))) ∨ (H p = some (.tup ys) ∧ Q (.ref p) H))
theorem call_tupleA : CallR X (.type "tuple") tupleA := by
  intro pins s σ H xs us Q I r h
  obtain ⟨p, ys, rfl, h⟩ := h
  exact call_tuple_of pins s σ H _ us Q I r ⟨p, ys, rfl, h.imp (fun h => ⟨SqL.of h.1, h.2⟩) fun h => ⟨SqT.of h.1, h.2⟩⟩
def listA : List V → Hp → VK → Prop := fun xs H Q => ∃ p ys, xs = [.ref p] ∧ (H p = some (.lst ys) ∨ H p = some (.tup ys)) ∧ ∀ l, H l = none → Q (.ref l) (upd H l (.lst ys))
def cpB (N : List Str) (osc sc : Scope) (own : List Str) (cap : List Nat) : Bool :=
  decide (sc.kind = .function) && sc.names.all (fun x => x.2 != .local || decide (sc.names.lookup x.1 = some .local)) && sc.names.all (fun y => y.2 != .cell) &&
  sc.names.all (fun y => y.2 != .free || decide (osc.names.lookup y.1 = some .cell) || decide (osc.names.lookup y.1 = some .free)) && cap.all fun j => decide (j < N.length) && decide (sc.names.lookup (N.getD j "") = some .free)
theorem cp_ok {N : List Str} {osc sc : Scope} {own : List Str} {cap : List Nat} (h : cpB N osc sc own cap = true) : CpScope N osc sc own cap := by
  unfold cpB at h
  rw [Bool.and_eq_true, Bool.and_eq_true, Bool.and_eq_true, Bool.and_eq_true] at h
  obtain ⟨⟨⟨⟨h1, h2⟩, h3⟩, h4⟩, h5⟩ := h
  refine ⟨of_decide_eq_true h1, fun x hx hl => ?_, fun y hy hc => ?_, fun y hy hf => ?_, fun j hj => ?_⟩
  · have q := List.all_eq_true.mp h2 x hx
    rw [hl] at q
    exact of_decide_eq_true (by simpa using q)
  · have q := List.all_eq_true.mp h3 y hy
    rw [hc] at q
    exact absurd q (by decide)
  · have q := List.all_eq_true.mp h4 y hy
    rw [hf] at q
    rw [Bool.or_eq_true, Bool.or_eq_true] at q
    rcases q with (q | q) | q
    · exact absurd q (by decide)
    · exact .inl (of_decide_eq_true q)
    · exact .inr (of_decide_eq_true q)
  · have q := List.all_eq_true.mp h5 j hj
    rw [Bool.and_eq_true] at q
    exact ⟨of_decide_eq_true q.1, of_decide_eq_true q.2⟩
end
end L2
set_option Elab.async false
set_option linter.all false
set_option maxRecDepth 100000
namespace L2
open PySem PySem.Spec PyProof.Rows
section
variable {X : Cx}
def rRepT : R2 := fun x y H Q => ∃ l k xs, x = .ref l ∧ y = .int k ∧ H l = some (.tup xs) ∧ xs ≠ [] ∧ 2 ≤ k ∧ k ≤ 1000 ∧ xs.length * k.toNat ≤ 10000 ∧
  ∀ p, H p = none → Q (.ref p) (upd H p (.tup (List.replicate k.toNat xs).flatten))
def rMulA : R2 := fun x y H Q => (∃ i j, x = .int i ∧ y = .int j ∧ CMul i j ∧ Q (.int (i * j)) H) ∨ rRepT x y H Q
theorem CallR.weak {f : Value} {r r' : List V → Hp → VK → Prop} (h : CallR X f r) (w : ∀ xs H Q, r' xs H Q → r xs H Q) : CallR X f r' := fun pins s σ H xs us Q I rv q => h pins s σ H xs us Q I rv (w _ _ _ q)
theorem PI.weak {tg it : Expr} {w1 w2 : TI} (h : PI X tg it w1) (w : ∀ σ H R, w2 σ H R → w1 σ H R) : PI X tg it w2 := fun pins s σ H R I q => h pins s σ H R I (w _ _ _ q)
def lenQ : List V → Hp → VK → Prop := fun xs H Q => ∃ p ys, xs = [.ref p] ∧ (H p = some (.lst ys) ∨ H p = some (.tup ys)) ∧ Q (.int ys.length) H
theorem call_len_q : CallR X (.builtin "len") lenQ := call_lenA.weak fun _ _ _ h => .inl h
def lenS : List V → Hp → VK → Prop := fun xs H Q => ∃ z, xs = [.str z] ∧ z.length ≤ sizeLine ∧ Q (.int z.length) H
def lenD : List V → Hp → VK → Prop := fun xs H Q => ∃ p kvs, xs = [.ref p] ∧ H p = some (.dK kvs) ∧ Q (.int kvs.length) H
def rSetD : V → V → V → Hp → (Hp → Prop) → Prop := fun o i v H Q => ∃ p kvs k, o = .ref p ∧ i = kV k ∧ H p = some (.dK kvs) ∧ kvs.length < sizeLine ∧ Q (upd H p (.dK (putK kvs k v)))
theorem set_dict (hu : X.A.units + 1 < cLine) : PSet X rSetD := fun pins s σ H o i v ov iv u Q I ro ri rv h => set_any hu pins s σ H o i v ov iv u Q I ro ri rv (.inr h)
theorem ip_addI : PIp X .Add (rI0 fun i j => .int (i + j)) := fun pins s σ H x y v u Q I rx ry q => iop_add pins s σ H x y v u Q I rx ry q
def rAddS : R2 := fun x y H Q => ∃ i j, x = .str i ∧ y = .str j ∧ i.length + j.length ≤ sizeLine ∧ Q (.str (i ++ j)) H
def iLst (te : TE) : TI := fun σ H R => te σ H fun x H1 => ∃ a xs, x = .ref a ∧ H1 a = some (.lst xs) ∧ R (ItL a xs) H1
def iTpl (te : TE) : TI := fun σ H R => te σ H fun x H1 => ∃ a xs, x = .ref a ∧ H1 a = some (.tup xs) ∧ R (ItT a xs) H1
def iTxt (te : TE) : TI := fun σ H R => te σ H fun x H1 => ∃ z, x = .str z ∧ R (Its z) H1
theorem pi_lst {tg l : Expr} {te : TE} (hl : PE X l te) : PI X tg l (iLst te) := by
  intro pins s σ H R I h
  refine thn (hl pins s σ H _ I h) fun v s1 ⟨x, H1, I1, r1, q1⟩ => ?_
  obtain ⟨a, xs, e, ha, q⟩ := q1
  subst e
  cases r1
  obtain ⟨its, rv, hli, hlt⟩ := lst_iter I1 ha
  refine wpAny_pyIter_list hli ?_
  refine ⟨s1.heap.objs.size, [s1.heap.objs.size], _, _, H1, rfl, I1.kept (t' := s1.toks) fun b o e => Heap.get?_push_of_some _ e, turn_seqL a _ xs, ⟨_, Heap.get?_push_size _ rfl, rfl, rfl⟩, fun b hb => ?_, q⟩
  have e : b = s1.heap.objs.size := by simpa using hb
  subst e
  exact I1.fpOk (Nat.le_refl _) (I1.hok.fresh (Nat.le_refl _))
theorem pi_tpl {tg l : Expr} {te : TE} (hl : PE X l te) : PI X tg l (iTpl te) := by
  intro pins s σ H R I h
  refine thn (hl pins s σ H _ I h) fun v s1 ⟨x, H1, I1, r1, q1⟩ => ?_
  obtain ⟨a, xs, e, ha, q⟩ := q1
  subst e
  cases r1
  obtain ⟨hz, its, rv, p⟩ := I1.hok a _ ha
  refine wpAny_pyIter_tuple (show s1.heap.IsTuple a its.toArray from p) ?_
  refine ⟨s1.heap.objs.size, [s1.heap.objs.size], _, _, H1, rfl, I1.kept (t' := s1.toks) fun b o e => Heap.get?_push_of_some _ e, turn_seqT a _ xs, ⟨_, Heap.get?_push_size _ rfl, rfl, rfl⟩, fun b hb => ?_, q⟩
  have e : b = s1.heap.objs.size := by simpa using hb
  subst e
  exact I1.fpOk (Nat.le_refl _) (I1.hok.fresh (Nat.le_refl _))
end
end L2
set_option Elab.async false
set_option linter.all false
set_option maxRecDepth 100000
namespace NP
open PySem L2
theorem bt_isinstance : bootBuiltins "isinstance" = some (.builtin "isinstance") := by decide +kernel
theorem bt_min : bootBuiltins "min" = some (.builtin "min") := by decide +kernel
theorem bt_max : bootBuiltins "max" = some (.builtin "max") := by decide +kernel
theorem bt_len : bootBuiltins "len" = some (.builtin "len") := by decide +kernel
theorem bt_sorted : bootBuiltins "sorted" = some (.builtin "sorted") := by decide +kernel
theorem bt_int : bootBuiltins "int" = some (.type "int") := by decide +kernel
theorem bt_bool : bootBuiltins "bool" = some (.type "bool") := by decide +kernel
theorem bt_tuple : bootBuiltins "tuple" = some (.type "tuple") := by decide +kernel
theorem bt_list : bootBuiltins "list" = some (.type "list") := by decide +kernel
theorem bt_reversed : bootBuiltins "reversed" = some (.type "reversed") := by decide +kernel
theorem bt_enumerate : bootBuiltins "enumerate" = some (.type "enumerate") := by decide +kernel
theorem bt_zip : bootBuiltins "zip" = some (.type "zip") := by decide +kernel
def But (st : Addr) (H H' : Hp) : Prop := ∀ b o, b ≠ st → H b = some o → H' b = some o
theorem But.refl (st : Addr) (H : Hp) : But st H H := fun _ _ _ h => h
theorem But.trans {st : Addr} {H H1 H2 : Hp} (a : But st H H1) (b : But st H1 H2) : But st H H2 := fun c o n h => b c o n (a c o n h)
theorem same_but {st : Addr} {H H' : Hp} (s : Same H H') : But st H H' := fun b o _ h => s b o h
theorem same_upd {H : Hp} {p : Addr} {o : HO} (hp : H p = none) : Same H (upd H p o) := fun b u h => by rw [upd_ne (ne_of_none h hp)]; exact h
theorem but_upd {st : Addr} {H : Hp} {p : Addr} {o : HO} (hp : H p = none) : But st H (upd H p o) := same_but (same_upd hp)
theorem but_set {st : Addr} {H : Hp} {o : HO} : But st H (upd H st o) := fun b u n h => by rw [upd_ne n]; exact h
def StOk (H : Hp) (st : Addr) : Prop := ∃ ns : List Int, ns ≠ [] ∧ H st = some (.lst (ns.map V.int))
theorem StOk.same {H H' : Hp} {st : Addr} (h : StOk H st) (s : Same H H') : StOk H' st := let ⟨ns, n, e⟩ := h; ⟨ns, n, s _ _ e⟩
inductive D where
  | non | bl (b : Bool) | int (i : Int) | str (x : Str) | tup (ds : List D) | lst | dct
mutual
def Rep (H : Hp) : D → V → Prop
  | .non, v => v = .non
  | .bl b, v => v = .bl b
  | .int i, v => v = .int i
  | .str x, v => v = .str x ∧ x.length ≤ 1000
  | .tup ds, v => ∃ a xs, v = .ref a ∧ H a = some (.tup xs) ∧ ds.length ≤ 1000 ∧ Reps H ds xs
  | .lst, v => ∃ a xs, v = .ref a ∧ H a = some (.lst xs)
  | .dct, v => ∃ a kvs, v = .ref a ∧ H a = some (.dK kvs)
def Reps (H : Hp) : List D → List V → Prop
  | [], xs => xs = []
  | d :: ds, xs => ∃ x r, xs = x :: r ∧ Rep H d x ∧ Reps H ds r
end
def KeepT (H H' : Hp) : Prop := (∀ a xs, H a = some (.tup xs) → H' a = some (.tup xs)) ∧ (∀ a xs, H a = some (.lst xs) → ∃ ys, H' a = some (.lst ys)) ∧ ∀ a kvs, H a = some (.dK kvs) → ∃ kvs', H' a = some (.dK kvs')
theorem same_keepT {H H' : Hp} (s : Same H H') : KeepT H H' := ⟨fun _ _ h => s _ _ h, fun _ xs h => ⟨xs, s _ _ h⟩, fun _ kvs h => ⟨kvs, s _ _ h⟩⟩
mutual
theorem Rep.keep {H H' : Hp} (k : KeepT H H') : ∀ (d : D) (v : V), Rep H d v → Rep H' d v
  | .non, v, h => by rw [Rep] at h ⊢; exact h
  | .bl b, v, h => by rw [Rep] at h ⊢; exact h
  | .int i, v, h => by rw [Rep] at h ⊢; exact h
  | .str x, v, h => by rw [Rep] at h ⊢; exact h
  | .tup ds, v, h => by
    rw [Rep] at h ⊢
    obtain ⟨a, xs, e, h, z, r⟩ := h
    exact ⟨a, xs, e, k.1 a xs h, z, Reps.keep k ds xs r⟩
  | .lst, v, h => by
    rw [Rep] at h ⊢
    obtain ⟨a, xs, e, h⟩ := h
    obtain ⟨ys, h'⟩ := k.2.1 a xs h
    exact ⟨a, ys, e, h'⟩
  | .dct, v, h => by
    rw [Rep] at h ⊢
    obtain ⟨a, kvs, e, h⟩ := h
    obtain ⟨ys, h'⟩ := k.2.2 a kvs h
    exact ⟨a, ys, e, h'⟩
theorem Reps.keep {H H' : Hp} (k : KeepT H H') : ∀ (ds : List D) (xs : List V), Reps H ds xs → Reps H' ds xs
  | [], xs, h => by rw [Reps] at h ⊢; exact h
  | d :: ds, xs, h => by
    rw [Reps] at h ⊢
    obtain ⟨x, r, e, h1, h2⟩ := h
    exact ⟨x, r, e, Rep.keep k d x h1, Reps.keep k ds r h2⟩
end
theorem Rep.same {H H' : Hp} {d : D} {v : V} (h : Rep H d v) (s : Same H H') : Rep H' d v := Rep.keep (same_keepT s) d v h
theorem Reps.same {H H' : Hp} {ds : List D} {vs : List V} (h : Reps H ds vs) (s : Same H H') : Reps H' ds vs := Reps.keep (same_keepT s) ds vs h
theorem Reps.length {H : Hp} : ∀ {ds : List D} {xs : List V}, Reps H ds xs → xs.length = ds.length
  | [], xs, h => by rw [Reps] at h; rw [h]; rfl
  | d :: ds, xs, h => by
    rw [Reps] at h
    obtain ⟨x, r, e, _, h2⟩ := h
    rw [e, List.length_cons, List.length_cons, Reps.length h2]
theorem Reps.get {H : Hp} : ∀ {ds : List D} {xs : List V} {i : Nat} {x : V}, Reps H ds xs → xs[i]? = some x → ∃ d, ds[i]? = some d ∧ Rep H d x
  | [], xs, i, x, h, e => by rw [Reps] at h; rw [h] at e; cases e
  | d :: ds, xs, i, x, h, e => by
    rw [Reps] at h
    obtain ⟨y, r, ey, h1, h2⟩ := h
    rw [ey] at e
    cases i with
    | zero => cases e; exact ⟨d, rfl, h1⟩
    | succ i => exact Reps.get (ds := ds) (xs := r) (i := i) h2 (by simpa using e)
theorem Reps.get' {H : Hp} : ∀ {ds : List D} {xs : List V} {i : Nat} {d : D}, Reps H ds xs → ds[i]? = some d → ∃ x, xs[i]? = some x ∧ Rep H d x
  | [], xs, i, d, h, e => by cases e
  | d0 :: ds, xs, i, d, h, e => by
    rw [Reps] at h
    obtain ⟨y, r, ey, h1, h2⟩ := h
    rw [ey]
    cases i with
    | zero => cases e; exact ⟨y, rfl, h1⟩
    | succ i =>
      obtain ⟨x, h3, h4⟩ := Reps.get' (ds := ds) (xs := r) (i := i) (d := d) h2 (by simpa using e)
      exact ⟨x, by simpa using h3, h4⟩
def D.ty : D → String
  | .non => "NoneType"
  | .bl _ => "bool"
  | .int _ => "int"
  | .str _ => "str"
  | .tup _ => "tuple"
  | .lst => "list"
  | .dct => "dict"
theorem Rep.ty {H : Hp} {d : D} {v : V} (h : Rep H d v) : tyOf H v = some d.ty := by
  cases d <;> rw [Rep] at h
  · rw [h]; rfl
  · rw [h]; rfl
  · rw [h]; rfl
  · rw [h.1]; rfl
  · obtain ⟨a, xs, e, h, _⟩ := h; rw [e]; unfold tyOf; simp only [h]; rfl
  · obtain ⟨a, xs, e, h⟩ := h; rw [e]; unfold tyOf; simp only [h]; rfl
  · obtain ⟨a, xs, e, h⟩ := h; rw [e]; unfold tyOf; simp only [h]; rfl
def CompW (J : It) (own : List Str) (cap : List Nat) (g : TG) (tt : TT) (te : TE) (σ : St) (H1 : Hp) (Q : VK) : Prop := ∃ W : Nat → Nat → List V → Hp → Prop, (∃ m, W 0 m [] H1) ∧ ∀ i m acc H, W i m acc H → acc.length ≤ sizeLine ∧
  ((J.stop i H ∧ ∀ p, H p = none → Q (.ref p) (upd H p (.lst acc))) ∨
   (J.go i H ∧ acc.length < sizeLine ∧ ∃ N : List V → Hp → Prop, (∀ acc' H', N acc' H' → ∃ m', m' < m ∧ W (i + 1) m' acc' H') ∧ ∀ x H', J.yld i H x H' → g x (cpSt own cap σ) H' fun σ2 H2 => tt σ2 H2 fun b H3 => if b = true then te σ2 H3 fun y H4 => N (acc ++ [y]) H4 else N acc H3))
theorem tComp_eq (own : List Str) (cap : List Nat) (wi : TI) (g : TG) (tt : TT) (te : TE) (σ : St) (H : Hp) (Q : VK) : tComp own cap wi g tt te σ H Q = wi σ H fun J H1 => CompW J own cap g tt te σ H1 Q := rfl
def ForW (J : It) (g : TG) (tb : TS) (D : Ends) (σ : St) (H1 : Hp) : Prop := ∃ W : Nat → Nat → St → Hp → Prop, (∃ m, W 0 m σ H1) ∧ ∀ i m σ H, W i m σ H →
  (J.stop i H ∧ D.nx σ H) ∨ (J.go i H ∧ ∃ N : St → Hp → Prop, (∀ σ' H', N σ' H' → ∃ m', m' < m ∧ W (i + 1) m' σ' H') ∧ ∀ x H', J.yld i H x H' → g x σ H' fun σ2 H2 => tb { D with nx := N, ct := N, bk := D.nx } σ2 H2)
theorem tFor_eq (wi : TI) (g : TG) (tb : TS) (D : Ends) (σ : St) (H : Hp) : tFor wi g tb D σ H = wi σ H fun J H1 => ForW J g tb D σ H1 := rfl
theorem iAny_eq (te : TE) (σ : St) (H : Hp) (R : It → Hp → Prop) : iAny te σ H R = te σ H fun x H1 => (∃ a xs, x = .ref a ∧ H1 a = some (.lst xs) ∧ R (ItL a xs) H1) ∨ (∃ a xs, x = .ref a ∧ H1 a = some (.tup xs) ∧ R (ItT a xs) H1) ∨ (∃ z, x = .str z ∧ R (Its z) H1) := rfl
theorem mem_int : ("int" ∈ ["bool", "int", "str", "list", "tuple", "dict"]) = True := eq_true (by decide)
theorem mem_bool : ("bool" ∈ ["bool", "int", "str", "list", "tuple", "dict"]) = True := eq_true (by decide)
theorem mem_str : ("str" ∈ ["bool", "int", "str", "list", "tuple", "dict"]) = True := eq_true (by decide)
theorem mem_list : ("list" ∈ ["bool", "int", "str", "list", "tuple", "dict"]) = True := eq_true (by decide)
theorem mem_tuple : ("tuple" ∈ ["bool", "int", "str", "list", "tuple", "dict"]) = True := eq_true (by decide)
theorem mem_dict : ("dict" ∈ ["bool", "int", "str", "list", "tuple", "dict"]) = True := eq_true (by decide)
theorem isi_NoneType_bool : isiB "NoneType" "bool" = false := by decide
theorem isi_NoneType_int : isiB "NoneType" "int" = false := by decide
theorem isi_NoneType_str : isiB "NoneType" "str" = false := by decide
theorem isi_NoneType_list : isiB "NoneType" "list" = false := by decide
theorem isi_NoneType_tuple : isiB "NoneType" "tuple" = false := by decide
theorem isi_NoneType_dict : isiB "NoneType" "dict" = false := by decide
theorem isi_bool_bool : isiB "bool" "bool" = true := by decide
theorem isi_bool_int : isiB "bool" "int" = true := by decide
theorem isi_bool_str : isiB "bool" "str" = false := by decide
theorem isi_bool_list : isiB "bool" "list" = false := by decide
theorem isi_bool_tuple : isiB "bool" "tuple" = false := by decide
theorem isi_bool_dict : isiB "bool" "dict" = false := by decide
theorem isi_int_bool : isiB "int" "bool" = false := by decide
theorem isi_int_int : isiB "int" "int" = true := by decide
theorem isi_int_str : isiB "int" "str" = false := by decide
theorem isi_int_list : isiB "int" "list" = false := by decide
theorem isi_int_tuple : isiB "int" "tuple" = false := by decide
theorem isi_int_dict : isiB "int" "dict" = false := by decide
theorem isi_str_bool : isiB "str" "bool" = false := by decide
theorem isi_str_int : isiB "str" "int" = false := by decide
theorem isi_str_str : isiB "str" "str" = true := by decide
theorem isi_str_list : isiB "str" "list" = false := by decide
theorem isi_str_tuple : isiB "str" "tuple" = false := by decide
theorem isi_str_dict : isiB "str" "dict" = false := by decide
theorem isi_list_bool : isiB "list" "bool" = false := by decide
theorem isi_list_int : isiB "list" "int" = false := by decide
theorem isi_list_str : isiB "list" "str" = false := by decide
theorem isi_list_list : isiB "list" "list" = true := by decide
theorem isi_list_tuple : isiB "list" "tuple" = false := by decide
theorem isi_list_dict : isiB "list" "dict" = false := by decide
theorem isi_tuple_bool : isiB "tuple" "bool" = false := by decide
theorem isi_tuple_int : isiB "tuple" "int" = false := by decide
theorem isi_tuple_str : isiB "tuple" "str" = false := by decide
theorem isi_tuple_list : isiB "tuple" "list" = false := by decide
theorem isi_tuple_tuple : isiB "tuple" "tuple" = true := by decide
theorem isi_tuple_dict : isiB "tuple" "dict" = false := by decide
theorem isi_dict_bool : isiB "dict" "bool" = false := by decide
theorem isi_dict_int : isiB "dict" "int" = false := by decide
theorem isi_dict_str : isiB "dict" "str" = false := by decide
theorem isi_dict_list : isiB "dict" "list" = false := by decide
theorem isi_dict_tuple : isiB "dict" "tuple" = false := by decide
theorem isi_dict_dict : isiB "dict" "dict" = true := by decide
theorem comp_map {J : It} {n : Nat} {yl : Nat → V → Prop} {ok : Hp → Prop} {own : List Str} {cap : List Nat} {g : TG} {tt : TT} {te : TE} {σ : St} {H : Hp} {Q : VK} (G : Goes J n yl ok) (hn : n ≤ sizeLine) (hok : ∀ H', Same H H' → ok H') (ys : List V) (hl : ys.length = n)
    (hs : ∀ i x H', i < n → yl i x → Same H H' → ∀ (N : V → Hp → Prop) (M : Hp → Prop), (∀ y H4, Same H H4 → ys[i]? = some y → N y H4) → g x (cpSt own cap σ) H' fun σ2 H2 => tt σ2 H2 fun b H3 => if b = true then te σ2 H3 N else M H3)
    (hd : ∀ H', Same H H' → ∀ p, H' p = none → Q (.ref p) (upd H' p (.lst ys))) : CompW J own cap g tt te σ H Q := by
  refine comp_goes G hn (fun i acc H' => Same H H' ∧ acc = ys.take i) ⟨Same.refl H, by simp⟩ (fun i acc H' _ h => hok H' h.1) (fun i acc H' h => by rw [h.2, List.length_take]; omega) (fun i x acc H' hi hx h => ?_) (fun acc H' h p hp => ?_)
  · obtain ⟨s', rfl⟩ := h
    refine hs i x H' hi hx s' _ _ fun y H4 s4 hy => ⟨s4, ?_⟩
    rw [List.take_add_one, hy]
    rfl
  · obtain ⟨s', e⟩ := h
    rw [e, List.take_of_length_le (by omega)]
    exact hd H' s' p hp
theorem for_w {J : It} {n : Nat} {yl : Nat → V → Prop} {ok : Hp → Prop} {g : TG} {tb : TS} {D : Ends} {σ : St} {H : Hp} (G : Goes J n yl ok) (Pv : Nat → St → Hp → Prop) (h0 : Pv 0 σ H) (hok : ∀ i σ H, i ≤ n → Pv i σ H → ok H)
    (hs : ∀ i x σ H, i < n → yl i x → Pv i σ H → g x σ H fun σ2 H2 => tb { D with nx := Pv (i + 1), ct := Pv (i + 1), bk := D.nx } σ2 H2) (hd : ∀ σ H, Pv n σ H → D.nx σ H) : ForW J g tb D σ H := for_goes G Pv h0 hok hs hd
theorem StOk.upd {H : Hp} {st l : Addr} {o : HO} (h : StOk H st) (n : st ≠ l) : StOk (upd H l o) st := let ⟨ns, hn, e⟩ := h; ⟨ns, hn, by rw [upd_ne n]; exact e⟩
theorem StOk.ne {H : Hp} {st l : Addr} (h : StOk H st) (n : H l = none) : st ≠ l := let ⟨_, _, e⟩ := h; ne_of_none e n
theorem StOk.neT {H : Hp} {st l : Addr} {xs : List V} (h : StOk H st) (n : H l = some (.tup xs)) : l ≠ st := by
  obtain ⟨_, _, e⟩ := h
  exact ne_of n e (fun z => by cases z)
theorem But.upd {H H1 : Hp} {st l : Addr} {o : HO} (h : But st H H1) (hl : H l = none) : But st H (L2.upd H1 l o) := fun b u n e => by rw [upd_ne (ne_of_none e hl)]; exact h b u n e
theorem But.new {H H1 : Hp} {st l : Addr} {o : HO} (h : But st H H1) (hl : H1 l = none) : But st H (L2.upd H1 l o) := h.trans (but_upd hl)
theorem But.same {H H1 H2 : Hp} {st : Addr} (h : But st H H1) (s : Same H1 H2) : But st H H2 := h.trans (same_but s)
theorem But.none {H H1 : Hp} {st l : Addr} (h : But st H H1) (n : l ≠ st) (hl : H1 l = none) : H l = none := by
  cases e : H l with
  | none => rfl
  | some o => rw [h l o n e] at hl; cases hl
theorem line1000 {n : Nat} (h : n ≤ 1000) : n ≤ sizeLine := Nat.le_trans h (by decide)
end NP
set_option Elab.async false
set_option linter.all false
set_option maxRecDepth 100000
namespace L2
open PySem PySem.Spec PyProof.Rows
def noStar : List Expr → Bool
  | [] => true
  | .Starred .. :: _ => false
  | _ :: r => noStar r
theorem starEach_of {env : Env} : ∀ {es : List Expr}, noStar es = true → starEach es env = es.map fun e => (false, eval e env)
  | [], _ => rfl
  | e :: r, h => by
    cases e <;> first
      | (exact absurd h Bool.false_ne_true)
      | (rw [List.map_cons, ← starEach_of (env := env) (es := r) h]; rfl)
theorem starEach_cons {env : Env} {e : Expr} {es : List Expr} (h : noStar [e] = true) : starEach (e :: es) env = (false, eval e env) :: starEach es env := by
  cases e <;> first
    | (exact absurd h Bool.false_ne_true)
    | rfl
theorem noStar_cons {e : Expr} {es : List Expr} (h : noStar (e :: es) = true) : noStar [e] = true ∧ noStar es = true := by
  cases e <;> first
    | (exact absurd h Bool.false_ne_true)
    | exact ⟨rfl, h⟩
theorem backTo_any {env : Env} {pos : Pos} {es : List Expr} (h : noStar es = true) : (backTo pos (starEach es env)).any (·.1) = false := by
  rw [starEach_of h]
  unfold backTo
  rw [List.map_map, List.any_map]
  induction es with
  | nil => rfl
  | cons e r ih =>
    rw [List.any_cons]
    exact ih (noStar_cons h).2
theorem backTo_all {env : Env} {pos : Pos} {es : List Expr} (h : noStar es = true) : (backTo pos (starEach es env)).all (fun x => !x.1) = true := by
  rw [starEach_of h]
  unfold backTo
  rw [List.map_map, List.all_map]
  induction es with
  | nil => rfl
  | cons e r ih =>
    rw [List.all_cons]
    exact ih (noStar_cons h).2
section
variable {X : Cx} {x : Str} {p pos apos cpos : Pos} {e o tg : Expr} {es : List Expr} {te to : TE} {t : TA} {id T : String} {r : List V → Hp → VK → Prop} {rm : V → List V → Hp → VK → Prop} {k : Nat} {ps : List Str} {sp : Sp} {name : Str}
theorem pa_e (ha : PE X e te) (hr : PA X es t) (hn : noStar [e] = true := by rfl) : PA X (e :: es) (tCons te t) := pa_cons ha hr (starEach_cons hn)
theorem pe_callS (h : Has X.prog X.w X.K X.mg X.base x k ps sp) (hr : Room k X.A) (hg : Gl X x) (ha : PA X (e :: es) t) (hn : noStar (e :: es) = true := by rfl) (hdb : (x == ("__debug__" : Str)) = false := by decide) :
    PE X (.Call (.Name x p) (e :: es) [] pos) (tCall sp [] E0 t) := pe_callH h hr hg ha hdb (starEach_cons (noStar_cons hn).1) (backTo_any (noStar_cons hn).2)
theorem pe_callBS (hc : CallR X (.builtin id) r) (hg : Gl X x) (hm : X.mg x = none) (hv : bootBuiltins x = some (.builtin id)) (ha : PA X (e :: es) t) (hn : noStar (e :: es) = true := by rfl) (hnm : x ≠ "__name__" := by decide) (hdb : (x == ("__debug__" : Str)) = false := by decide) :
    PE X (.Call (.Name x p) (e :: es) [] pos) (tCB r t) := pe_callB hc hg hm hv ha hnm hdb (starEach_cons (noStar_cons hn).1) (backTo_any (noStar_cons hn).2)
theorem pe_callTS (hc : CallR X (.type T) r) (hg : Gl X x) (hm : X.mg x = none) (hv : bootBuiltins x = some (.type T)) (ha : PA X (e :: es) t) (hn : noStar (e :: es) = true := by rfl) (hnm : x ≠ "__name__" := by decide) (hdb : (x == ("__debug__" : Str)) = false := by decide) :
    PE X (.Call (.Name x p) (e :: es) [] pos) (tCB r t) := pe_callTy hc hg hm hv ha hnm hdb (starEach_cons (noStar_cons hn).1) (backTo_any (noStar_cons hn).2)
theorem pe_bs (pa : PlainAttrs T) (slot : Slot T name id) (hty : typeOf (.builtin id) = pure (.type "method_descriptor")) (hm : MtR X id rm) (ho : PE X o to) (ha : PA X (e :: es) t) (hT : T = "list" ∨ T = "dict" ∨ T = "str" := by decide)
    (hbase : attributeBase o name X.env (eval o X.env) = eval o X.env := by rfl) (hn : noStar (e :: es) = true := by rfl) (hlen : (e :: es).length < 20 := by decide) (hline : (apos.endLine == cpos.line) = true := by rfl) :
    PE X (.Call (.Attribute o name apos) (e :: es) [] cpos) (tBA T rm to t) := by
  refine pe_ba pa slot hty hm ho ha hT hbase ?_ hline (starEach_cons (noStar_cons hn).1) (backTo_any (noStar_cons hn).2)
  rw [backTo_all hn, Bool.true_and]
  have e1 : (backToKw cpos (keywordEach [] X.env)).all (fun x => x.1.isSome) = true := rfl
  rw [e1, Bool.true_and]
  refine decide_eq_true ?_
  show (e :: es).length + 0 + 0 < 30
  omega
theorem pi_rangeS1 {ta : TA} (hg : Gl X "range") (hm : X.mg "range" = none) (ha : PA X [e] ta) (hn : noStar [e] = true := by rfl) : PI X tg (.Call (.Name "range" p) [e] [] pos) (iRng1 ta) := pi_range1 hg hm ha (starEach_of hn)
theorem pi_rangeS2 {ta : TA} {e2 : Expr} (hg : Gl X "range") (hm : X.mg "range" = none) (ha : PA X [e, e2] ta) (hn : noStar [e, e2] = true := by rfl) : PI X tg (.Call (.Name "range" p) [e, e2] [] pos) (iRng2 ta) := pi_range2 hg hm ha (starEach_of hn) (starEach_of (noStar_cons hn).2)
end
end L2
set_option Elab.async false
set_option linter.all false
set_option maxRecDepth 100000
namespace L2
open PySem PySem.Spec PyProof.Rows
mutual
def RD (H : Hp) : PyData → V → Prop
  | .none, v => v = .non
  | .bool b, v => v = .bl b
  | .int i, v => v = .int i
  | .str x, v => v = .str x
  | .list ds, v => ∃ a xs, v = .ref a ∧ H a = some (.lst xs) ∧ RDs H ds xs
  | .tuple ds, v => ∃ a xs, v = .ref a ∧ H a = some (.tup xs) ∧ RDs H ds xs
  | .dict _, _ => False
def RDs (H : Hp) : List PyData → List V → Prop
  | [], xs => xs = []
  | d :: ds, xs => ∃ x r, xs = x :: r ∧ RD H d x ∧ RDs H ds r
end
mutual
theorem RD.reads {P : Program} {w : World} {H : Hp} {h : Heap} (ok : HOk P w H h) : ∀ (d : PyData) (v : V) (u : Value), RD H d v → RelV v u → ∃ as, Reads h u d as
  | .none, v, u, r, e => by
    rw [RD] at r; subst r; cases e; exact ⟨_, .none⟩
  | .bool b, v, u, r, e => by
    rw [RD] at r; subst r; cases e; exact ⟨_, .bool b⟩
  | .int i, v, u, r, e => by
    rw [RD] at r; subst r; obtain ⟨t, rfl⟩ := e; exact ⟨_, .int i t⟩
  | .str x, v, u, r, e => by
    rw [RD] at r; subst r; obtain ⟨t, rfl⟩ := e; exact ⟨_, .str x t⟩
  | .list ds, v, u, r, e => by
    rw [RD] at r
    obtain ⟨a, xs, rfl, ha, r⟩ := r
    cases e
    obtain ⟨hz, its, n, rv, eo⟩ := ok a _ ha
    obtain ⟨as, q⟩ := RDs.reads ok ds xs its r rv
    exact ⟨_, .list (vs := its.toArray) eo rfl rfl q⟩
  | .tuple ds, v, u, r, e => by
    rw [RD] at r
    obtain ⟨a, xs, rfl, ha, r⟩ := r
    cases e
    obtain ⟨hz, its, rv, o, ho, hc, n, hd⟩ := ok a _ ha
    obtain ⟨as, q⟩ := RDs.reads ok ds xs its r rv
    exact ⟨_, .tuple (vs := its.toArray) ho hc hd q⟩
  | .dict _, v, u, r, e => by
    rw [RD] at r; exact r.elim
theorem RDs.reads {P : Program} {w : World} {H : Hp} {h : Heap} (ok : HOk P w H h) : ∀ (ds : List PyData) (xs : List V) (us : List Value), RDs H ds xs → Vals xs us → ∃ as, ReadsAll h us ds as
  | [], xs, us, r, e => by
    rw [RDs] at r; subst r; cases e; exact ⟨_, .nil⟩
  | d :: ds, xs, us, r, e => by
    rw [RDs] at r
    obtain ⟨x, r', rfl, h1, h2⟩ := r
    cases e with
    | cons r1 r2 =>
      obtain ⟨as, q1⟩ := RD.reads ok d x _ h1 r1
      obtain ⟨bs, q2⟩ := RDs.reads ok ds r' _ h2 r2
      exact ⟨_, .cons q1 q2⟩
end
def okD (d : PyData) : Bool := d.canLay0 && decide (d.depth ≤ 50)
def rEqD : R2 := fun x y H Q => ∃ d e, RD H d x ∧ RD H e y ∧ okD d = true ∧ okD e = true ∧ Q (.bl (PyData.eqv d e)) H
def rNeD : R2 := fun x y H Q => ∃ d e, RD H d x ∧ RD H e y ∧ okD d = true ∧ okD e = true ∧ Q (.bl (!PyData.eqv d e)) H
theorem okD_room {A : Around} {d e : PyData} (h : okD d = true) (hu : A.units + 64 < cLine) : A.units + min d.depth e.depth < cLine := by
  have h1 : d.depth ≤ 50 := of_decide_eq_true (Bool.and_eq_true_iff.mp h).2
  have h2 : min d.depth e.depth ≤ d.depth := Nat.min_le_left _ _
  omega
section
variable {X : Cx}
theorem op_eqD (hu : X.A.units + 64 < cLine) : OpR X (compareOp .Eq) rEqD := by
  intro pins s σ H x y v u Q I rx ry h
  obtain ⟨d, e, rd, re, hd, he, q⟩ := h
  obtain ⟨as, r1⟩ := RD.reads I.hok d x v rd rx
  obtain ⟨bs, r2⟩ := RD.reads I.hok e y u re ry
  exact SeqAt.compareEq_reads r1 r2 (Bool.and_eq_true_iff.mp hd).1 (Bool.and_eq_true_iff.mp he).1 (okD_room hd hu) ⟨.bl _, H, I, rfl, q⟩
end
theorem hu64_of {A : Around} {k : Nat} (hr : Room k A) : A.units + 64 < cLine := by
  have := hr.un
  omega
section
variable {X : Cx} {pins : List (Addr × Obj)} {σ : St} {H : Hp} {s : Shared} {h' : Heap}
theorem HOk.but {P : Program} {w : World} {h : Heap} {wr : List Addr} (x : HOk P w H h) (k : ∀ b o, b ∉ wr → h.get? b = some o → h'.get? b = some o) (n : ∀ b ∈ wr, H b = none) : HOk P w H h' := fun a o e =>
  (x a o e).stay (fun b u hb q => k b u (fun z => by
    rcases hb with hb | hb
    · rw [hb] at z; rw [n a z] at e; cases e
    · rw [n b z] at hb; cases hb) q) (fun _ q => q) fun _ _ q => q
theorem Inv.turnedL {t' : Nat} {wr : List Addr} (I : Inv X pins σ H s) (k : ∀ b o, b ∉ wr → s.heap.get? b = some o → h'.get? b = some o) (f : ∀ b ∈ wr, FpOk X pins H b) : Inv X pins σ H { s with heap := h', toks := t' } := by
  refine I.step (g' := s.gens) (d' := s.drawn) (ch := wr) (fun b hb => ?_) (fun b o _ _ hc e _ => k b o hc e) (fun b o _ _ hc e _ => ⟨o.slots, k b o hc e⟩) (fun _ _ _ _ n => n)
    (fun b o hc e => ⟨o, k b o hc e⟩) (fun _ _ e => e) (fun _ _ _ e => e) (fun b ps e => ⟨#[], by rw [e]; simp⟩) (fun m hm => ?_) (I.hok.but k fun b hb => (f b hb).1) I.bare
  · obtain ⟨f0, f1, f2, f3, f4, f5⟩ := f b hb
    exact ⟨f3, f1, f4, f5⟩
  · obtain ⟨o, es, ep, ho, r⟩ := hm
    exact ⟨o, es, ep, k _ o (fun z => (f _ z).2.1 rfl) ho, r⟩
theorem Inv.turnedT {t' : Nat} {wr : List Addr} {p : Addr} {xs : List V} {its : List Value} (I : Inv X pins σ H s) (k : ∀ b o, b ∉ wr → s.heap.get? b = some o → h'.get? b = some o) (f : ∀ b ∈ wr, FpOk X pins H b) (hp : s.heap.objs.size ≤ p)
    (ht : IsTup h' p its.toArray) (rv : Vals xs its) (hz : xs.length ≤ sizeLine) : Inv X pins σ (upd H p (.tup xs)) { s with heap := h', toks := t' } := by
  have hn : H p = none := I.hok.fresh hp
  have ne : ∀ b o, s.heap.get? b = some o → b ≠ p := fun b o e => addr_ne (Heap.lt_size e) hp
  refine I.step (g' := s.gens) (d' := s.drawn) (ch := wr) (fun b hb => ?_) (fun b o _ _ hc e _ => k b o hc e) (fun b o _ _ hc e _ => ⟨o.slots, k b o hc e⟩) (fun b o _ e n => by rw [upd_ne (ne b o e)]; exact n)
    (fun b o hc e => ⟨o, k b o hc e⟩) (fun b ys e => by rw [upd_ne (ne_of_none e hn)]; exact e) (fun b o u e => by rw [upd_ne (ne_of_none e hn)]; exact e) (fun b ps e => ⟨#[], by rw [upd_ne (ne_of_none e hn), e]; simp⟩) (fun m hm => ?_) (fun b u e => ?_) I.bare
  · obtain ⟨f0, f1, f2, f3, f4, f5⟩ := f b hb
    exact ⟨f3, f1, f4, f5⟩
  · obtain ⟨o, es, ep, ho, r⟩ := hm
    exact ⟨o, es, ep, k _ o (fun z => (f _ z).2.1 rfl) ho, r⟩
  · by_cases hb : b = p
    · subst hb
      rw [upd_same] at e
      cases e
      exact ⟨hz, its, rv, ht⟩
    · rw [upd_ne hb] at e
      refine (I.hok.but k (fun b hb => (f b hb).1) b u e).stay (fun _ _ _ q => q) (fun c q => ?_) fun c ys q => ?_
      · rw [upd_ne (ne_of_none q hn)]; exact q
      · rw [upd_ne (ne_of_none q hn)]; exact q
theorem item_T {P : Program} {w : World} {it : Addr} {fp wr : List Addr} {n i : Nat} {Pt : Nat → Array Value → Prop} {St : Nat → Heap → Prop} {Mid : Nat → Addr → Heap → Prop} {elts : List Expr} {k : Nat} {pos : Pos} {E : Value → Shared → Prop} {Y : List V → Prop}
    (W : WalksT P w X.A it fp wr n Pt St Mid) (hi : i < n) (I : Inv X pins σ H s) (st : St i s.heap) (hf : ∀ b ∈ wr, FpOk X pins H b) (hv : ∀ vals, Pt i vals → ∃ xs, Vals xs vals.toList ∧ xs.length ≤ 100 ∧ Y xs) :
    wpAny (model P w) X.A (pyNext (.ref it)) (fun r s1 => ∃ u, r = some u ∧ wpAny (model P w) X.A (letOwnedTupleGo (.Tuple elts k pos) (.ref it) u) (fun _ s2 =>
      ∃ p xs, u = .ref p ∧ s.heap.objs.size ≤ p ∧ H p = none ∧ Inv X pins σ (upd H p (.tup xs)) s2 ∧ Y xs ∧ St (i + 1) s2.heap) E s1) E s := by
  refine W.item i s _ E hi st fun T vals h1 tk hP hT ht hm hk => ⟨.ref T, rfl, ?_⟩
  obtain ⟨xs, rv, hz, hY⟩ := hv vals hP
  refine W.go elts k pos i T { s with heap := h1, toks := tk } _ E hm fun h2 st2 hk2 => ?_
  have hTw : T ∉ wr := W.apart i T h1 hm
  have ht2 : IsTup h2 T vals.toList.toArray := by
    obtain ⟨o, ho, hc, m, hd⟩ := ht
    exact ⟨o, hk2 T o hTw ho, hc, m, by simpa using hd⟩
  exact ⟨T, xs, rfl, hT, I.hok.fresh hT, I.turnedT (t' := tk) (fun b o hb e => hk2 b o hb (hk b o hb e)) hf hT ht2 rv (Nat.le_trans hz (by decide)), hY, st2⟩
end
structure GoesT (J : It) (n : Nat) (yl : Nat → List V → Prop) (ok : Hp → Prop) : Prop where
  go : ∀ i H, i < n → ok H → J.go i H
  yld : ∀ i H x H', i < n → ok H → J.yld i H x H' → ∃ p ys, x = .ref p ∧ H p = none ∧ H' = upd H p (.tup ys) ∧ yl i ys
  stop : ∀ H, ok H → J.stop n H
theorem for_t {J : It} {n : Nat} {yl : Nat → List V → Prop} {ok : Hp → Prop} {g : TG} {tb : TS} {D : Ends} {σ : St} {H : Hp} (G : GoesT J n yl ok) (Pv : Nat → St → Hp → Prop) (h0 : Pv 0 σ H) (hok : ∀ i σ H, i ≤ n → Pv i σ H → ok H)
    (hs : ∀ i ys p σ H, i < n → yl i ys → Pv i σ H → H p = none → g (.ref p) σ (upd H p (.tup ys)) fun σ2 H2 => tb { D with nx := Pv (i + 1), ct := Pv (i + 1), bk := D.nx } σ2 H2) (hd : ∀ σ H, Pv n σ H → D.nx σ H) : NP.ForW J g tb D σ H := by
  refine ⟨fun i m σ H => m = n - i ∧ i ≤ n ∧ Pv i σ H, ⟨n, by simp, Nat.zero_le _, h0⟩, ?_⟩
  rintro i m σ H ⟨rfl, hi, p⟩
  have q := hok i σ H hi p
  by_cases hlt : i < n
  · refine .inr ⟨G.go i H hlt q, Pv (i + 1), fun σ' H' p' => ⟨n - (i + 1), by omega, rfl, hlt, p'⟩, fun x H' y => ?_⟩
    obtain ⟨a, ys, e1, e2, e3, y'⟩ := G.yld i H x H' hlt q y
    subst e1 e3
    exact hs i ys a σ H hlt y' p e2
  · have e : i = n := by omega
    subst e
    exact .inl ⟨G.stop H q, hd σ H p⟩
theorem gT2 {K : PySem.W.Frag} {i j : Nat} {p : Addr} {x y : V} {σ : St} {H : Hp} {Q : St → Hp → Prop} (h : Q ((σ.set i (some x)).set j (some y)) (upd H p (.tup [x, y]))) : gTup K 2 (gCons (gName i) (gCons (gName j) gNil)) (.ref p) σ (upd H p (.tup [x, y])) Q :=
  ⟨p, _, rfl, SqT.of upd_same, rfl, _, _, rfl, _, _, rfl, rfl, h⟩
def ItE (a : Addr) (xs : List V) : It := ⟨fun i H => H a = some (.lst xs) ∧ i < xs.length, fun i H x H' => ∃ p y, x = .ref p ∧ H p = none ∧ xs[i]? = some y ∧ H' = upd H p (.tup [.int i, y]), fun i H => H a = some (.lst xs) ∧ i = xs.length⟩
theorem goesE (a : Addr) (xs : List V) : GoesT (ItE a xs) xs.length (fun i ys => ∃ y, xs[i]? = some y ∧ ys = [.int i, y]) (fun H => H a = some (.lst xs)) :=
  ⟨fun i H h o => ⟨o, h⟩, fun i H x H' h o y => let ⟨p, z, e1, e2, e3, e4⟩ := y; ⟨p, _, e1, e2, e4, z, e3, rfl⟩, fun H o => ⟨o, rfl⟩⟩
theorem turn_enum {P : Program} {w : World} {K : PySem.W.Frag} {elts : List Expr} {k : Nat} {pos : Pos} (e it a : Addr) (xs : List V) (hei : e ≠ it) : Turn P w K (.Tuple elts k pos) (ItE a xs) [e, it] e (fun i h => (∃ old, IsEnum h e it i old) ∧ h.IsListIter it a i) where
  mem := by simp
  obj := fun i h st b hb => by
    obtain ⟨⟨old, he⟩, o, ho, c, d⟩ := st
    rcases List.mem_cons.mp hb with q | q
    · rw [q]; exact ⟨_, he, fun v z => by cases z⟩
    · rw [List.mem_singleton.mp q]; exact ⟨o, ho, fun v z => by rw [d] at z; cases z⟩
  keep := fun i h h' st k => by
    obtain ⟨⟨old, he⟩, hi⟩ := st
    exact ⟨⟨old, k e (by simp) _ he⟩, hi.at fun o q => k it (by simp) o q⟩
  item := by
    intro X hP hw hK hc i pins s σ H E I hf st hg
    subst hP hw hK
    obtain ⟨hq, hlt⟩ := hg
    obtain ⟨its, rv, hl, hal⟩ := lst_iter I hq
    have f1 := hf e (by simp)
    have f2 := hf it (by simp)
    have hae : a ≠ e := ne_of_none hq f1.1
    have hai : a ≠ it := ne_of_none hq f2.1
    have hlen := rv.length
    have hv : ∀ vals : Array Value, (∃ t x, its.toArray[i]? = some x ∧ vals = #[.int i t, x]) → ∃ ys, Vals ys vals.toList ∧ ys.length ≤ 100 ∧ ∃ y, xs[i]? = some y ∧ ys = [V.int i, y] := by
      rintro vals ⟨t, x, hx, rfl⟩
      obtain ⟨u, hu, ru⟩ := rv.get (x := xs[i]) (i := i) (by simp [hlt])
      have hx : its[i]? = some x := by simpa using hx
      rw [hx] at hu
      cases hu
      exact ⟨[.int i, xs[i]], .cons ⟨t, rfl⟩ (.cons ru .nil), by simp, xs[i], by simp [hlt], rfl⟩
    refine thn (item_T (E := E) (WalksT.enumerate (I.ok.hd hc) e it a hei hae hai its.toArray) (by rw [List.size_toArray]; omega) I ⟨st.1, st.2, hl⟩ hf hv) fun r s1 ⟨u, hr, h3⟩ => ⟨u, hr, thn h3 fun _ s2 ⟨p, ys, hu, hp, hn, I2, ⟨y, hy, e2⟩, st2⟩ => ?_⟩
    subst hu e2
    refine ⟨.ref p, _, I2, rfl, ⟨p, y, rfl, hn, hy, rfl⟩, ⟨st2.1, st2.2.1⟩, fun b hb => ?_⟩
    have hbl : b < s.heap.objs.size := by
      obtain ⟨⟨old, he⟩, o, ho, c, d⟩ := st
      rcases List.mem_cons.mp hb with q | q
      · rw [q]; exact Heap.lt_size he
      · rw [List.mem_singleton.mp q]; exact Heap.lt_size ho
    rw [upd_ne (addr_ne hbl hp)]
    exact (hf b hb).1
  done := by
    intro X hP hw hK hc i pins s σ H E I hf st hg
    subst hP hw hK
    obtain ⟨hq, hlt⟩ := hg
    obtain ⟨its, rv, hl, hal⟩ := lst_iter I hq
    have f1 := hf e (by simp)
    have f2 := hf it (by simp)
    have hlen := rv.length
    have hi : its.toArray.size = i := by rw [List.size_toArray]; omega
    refine (WalksT.enumerate (I.ok.hd hc) e it a hei (ne_of_none hq f1.1) (ne_of_none hq f2.1) its.toArray).done s _ E ?_ fun h' tk hk => ⟨rfl, I.turnedL hk hf⟩
    rw [hi]
    exact ⟨st.1, st.2, hl⟩
  self := fun _ _ _ _ _ st h => by
    obtain ⟨⟨old, he⟩, _⟩ := st
    exact wpAny_pyIter_enum he h
section
variable {X : Cx}
def iEnum (ta : TA) : TI := fun σ H R => ta σ H fun vs H1 => ∃ a xs, vs = [.ref a] ∧ H1 a = some (.lst xs) ∧ R (ItE a xs) H1
theorem pi_enum {elts : List Expr} {k : Nat} {pt p pos : Pos} {e : Expr} {ta : TA} (hg : Gl X "enumerate") (hm : X.mg "enumerate" = none) (ha : PA X [e] ta) (hn : noStar [e] = true := by rfl) : PI X (.Tuple elts k pt) (.Call (.Name "enumerate" p) [e] [] pos) (iEnum ta) := by
  intro pins s σ H R I h
  refine Call_ (ld_blt I hg hm NP.bt_enumerate (PyProof.Rows.callWith_type1 (thn (ha pos pins s σ H _ I h) fun us s1 ⟨vs, H1, I1, r1, q1⟩ => ?_) (starEach_of hn) rfl))
  obtain ⟨a, xs, e, hq, q⟩ := q1
  subst e
  obtain ⟨u, rfl, ru⟩ := vals1 r1
  cases ru
  obtain ⟨its, rv, hl, hal⟩ := lst_iter I1 hq
  refine call_enumerate_list hl fun h' he hi hz hk => wpAny_pyIter_enum he ?_
  have I2 : Inv X pins σ H1 { s1 with heap := h' } := I1.kept (t' := s1.toks) hk
  refine ⟨s1.heap.objs.size + 1, [s1.heap.objs.size + 1, s1.heap.objs.size], _, _, H1, rfl, I2, turn_enum _ _ a xs (Nat.succ_ne_self _), ⟨⟨_, he⟩, hi⟩, fun b hb => ?_, q⟩
  have hb' : s1.heap.objs.size ≤ b := by
    rcases List.mem_cons.mp hb with z | z
    · rw [z]; exact Nat.le_succ _
    · rw [List.mem_singleton.mp z]; exact Nat.le_refl _
  exact I1.fpOk hb' (I1.hok.fresh hb')
end
end L2
set_option Elab.async false
set_option linter.all false
set_option maxRecDepth 100000
namespace L2
open PySem PySem.Spec PyProof.Rows
theorem vals_int : ∀ {ns : List Int} {us : List Value} {i : Nat} {u : Value}, Vals (ns.map V.int) us → us[i]? = some u → ∃ t, u = .int ((ns[i]?).getD 0) t
  | [], _, i, u, .nil, e => by simp at e
  | n :: r, _, 0, u, .cons h t, e => by
    obtain ⟨t', h⟩ := h
    simp at e
    subst e
    exact ⟨t', by rw [h]; rfl⟩
  | n :: r, _, i + 1, u, .cons h t, e => by
    obtain ⟨t', q⟩ := vals_int (ns := r) (i := i) (u := u) t (by simpa using e)
    exact ⟨t', by rw [q]; simp⟩
section
variable {X : Cx}
def rSum : List V → Hp → VK → Prop := fun xs H Q => ∃ (a : Addr) (ns : List Int), xs = [.ref a] ∧ H a = some (.lst (ns.map V.int)) ∧ Q (.int ns.sum) H
def rInsert : V → List V → Hp → VK → Prop := fun x vs H Q => ∃ l xs i y, x = .ref l ∧ vs = [.int i, y] ∧ H l = some (.lst xs) ∧ 0 ≤ i ∧ i < 2 ^ 60 ∧ xs.length < 1000000 ∧ Q .non (upd H l (.lst (xs.take (min i.toNat xs.length) ++ y :: xs.drop (min i.toNat xs.length))))
def rMax2 : List V → Hp → VK → Prop := fun xs H Q => ∃ i j, xs = [.int i, .int j] ∧ Q (.int (if j > i then j else i)) H
theorem call_maxA (hc : X.calm = true) : CallR X (.builtin "max") rMax2 := call_max2 hc
end
end L2
namespace L2
open PySem PySem.Spec PyProof.Rows
theorem sIx_nn {n d : Nat} {k : Int} (h : 0 ≤ k) : HT.sIx n d (some k) = min k.toNat n := by
  unfold HT.sIx
  simp only
  split <;> omega
theorem cutV_to {xs : List V} {j : Int} (hj : 0 ≤ j) : cutV xs none (some j) = xs.take j.toNat := by
  unfold cutV
  rw [sIx_nn hj]
  have e : HT.sIx xs.length 0 none = 0 := rfl
  rw [e, List.drop_zero, Nat.sub_zero]
  apply List.ext_getElem?
  intro k
  simp only [List.getElem?_take]
  by_cases h : k < xs.length
  · by_cases h2 : k < j.toNat
    · rw [if_pos (by omega), if_pos h2]
    · rw [if_neg (by omega), if_neg h2]
  · rw [List.getElem?_eq_none (by omega)]
    split <;> split <;> rfl
def CMulB (i j : Int) : Prop := CMul i j ∨ (i.natAbs < 10 ^ 3000 ∧ j.natAbs < 10 ^ 3000)
theorem bits_of {i : Int} (h : i.natAbs < 10 ^ 3000) : Builtin.Int.intBits i ≤ 2 ^ 20 := by
  unfold Builtin.Int.intBits
  split
  · exact Nat.zero_le _
  · rename_i h0
    have h1 : i.natAbs ≠ 0 := by
      intro e
      exact h0 (by simpa using e)
    have h2 : i.natAbs.log2 < 2 ^ 19 := by
      rw [Nat.log2_lt h1]
      refine Nat.lt_of_lt_of_le h (Nat.le_trans (Nat.pow_le_pow_left (by decide : (10 : Nat) ≤ 2 ^ 4) 3000) ?_)
      rw [← Nat.pow_mul]
      exact Nat.pow_le_pow_right (by decide) (by decide)
    have : (2 : Nat) ^ 20 = 2 ^ 19 + 2 ^ 19 := by decide
    have : (1 : Nat) ≤ 2 ^ 19 := by decide
    omega
theorem CMulB.ok {i j : Int} (h : CMulB i j) : IntMulOk i j := h.elim CMul.ok fun h => .of_bits (bits_of h.1) (bits_of h.2)
section
variable {X : Cx}
theorem op_mulB : OpR X (binaryOp .Mult) (rI CMulB fun i j => .int (i * j)) := opI fun _ _ _ _ _ _ _ hc q => mul_int q hc.ok
end
end L2
set_option Elab.async false
set_option linter.all false
set_option maxRecDepth 100000
namespace L2
open PySem PySem.Spec PyProof.Rows
def ItZ2 (a b : Addr) (xs ys : List V) : It := ⟨fun i H => H a = some (.lst xs) ∧ H b = some (.lst ys) ∧ i < min xs.length ys.length,
  fun i H x H' => ∃ p y z, x = .ref p ∧ H p = none ∧ xs[i]? = some y ∧ ys[i]? = some z ∧ H' = upd H p (.tup [y, z]), fun i H => H a = some (.lst xs) ∧ H b = some (.lst ys) ∧ i = min xs.length ys.length⟩
theorem goesZ2 (a b : Addr) (xs ys : List V) : GoesT (ItZ2 a b xs ys) (min xs.length ys.length) (fun i us => ∃ y z, xs[i]? = some y ∧ ys[i]? = some z ∧ us = [y, z]) (fun H => H a = some (.lst xs) ∧ H b = some (.lst ys)) :=
  ⟨fun i H h o => ⟨o.1, o.2, h⟩, fun i H x H' h o y => let ⟨p, u, v, e1, e2, e3, e4, e5⟩ := y; ⟨p, _, e1, e2, e5, u, v, e3, e4, rfl⟩, fun H o => ⟨o.1, o.2, rfl⟩⟩
theorem turn_zip2 {P : Program} {w : World} {K : PySem.W.Frag} {elts : List Expr} {k : Nat} {pos : Pos} (z TI TO i1 i2 a b : Addr) (xs ys : List V) (nd : [z, TI, TO, i1, i2].Nodup) :
    Turn P w K (.Tuple elts k pos) (ItZ2 a b xs ys) [z, TI, TO, i1, i2] z (fun i h => IsZip h z TI TO .none ∧ IsPair h TI (.ref i1) (.ref i2) ∧ (∃ u v, IsPair h TO u v) ∧ h.IsListIter i1 a i ∧ h.IsListIter i2 b i) := by
  have nd' := nd
  simp only [List.nodup_cons, List.mem_cons, List.not_mem_nil, or_false, not_or] at nd'
  obtain ⟨⟨n1, n2, n3, n4⟩, ⟨n5, n6, n7⟩, ⟨n8, n9⟩, n10, _⟩ := nd'
  have objs : ∀ (i : Nat) (h : Heap), (IsZip h z TI TO .none ∧ IsPair h TI (.ref i1) (.ref i2) ∧ (∃ u v, IsPair h TO u v) ∧ h.IsListIter i1 a i ∧ h.IsListIter i2 b i) → ∀ c ∈ [z, TI, TO, i1, i2], ∃ o, h.get? c = some o ∧ ∀ v, o.data ≠ .cell v := by
    rintro i h ⟨hz, hT, ⟨u, v, hO⟩, ⟨o1, g1, c1, d1⟩, ⟨o2, g2, c2, d2⟩⟩ c hc
    simp only [List.mem_cons, List.not_mem_nil, or_false] at hc
    rcases hc with q | q | q | q | q <;> subst q
    · exact ⟨_, hz, fun _ y => by cases y⟩
    · exact ⟨_, hT, fun _ y => by cases y⟩
    · exact ⟨_, hO, fun _ y => by cases y⟩
    · exact ⟨o1, g1, fun _ y => by rw [d1] at y; cases y⟩
    · exact ⟨o2, g2, fun _ y => by rw [d2] at y; cases y⟩
  have apart : ∀ {X : Cx} {pins : List (Addr × Obj)} {H : Hp}, (∀ c ∈ [z, TI, TO, i1, i2], FpOk X pins H c) → ∀ {us vs : List V}, H a = some (.lst us) → H b = some (.lst vs) → ZipApart z TI TO i1 i2 a b := by
    intro X pins H hf us vs ha hb
    have fr : ∀ c ∈ [z, TI, TO, i1, i2], a ≠ c ∧ b ≠ c := fun c hc => ⟨ne_of_none ha (hf c hc).1, ne_of_none hb (hf c hc).1⟩
    exact ⟨fun e => n1 e.symm, fun e => n2 e.symm, fun e => n3 e.symm, fun e => n4 e.symm, n5, n6, n7, n8, n9, n10, (fr z (by simp)).1, (fr TO (by simp)).1, (fr i1 (by simp)).1, (fr i2 (by simp)).1, (fr z (by simp)).2, (fr TO (by simp)).2, (fr i1 (by simp)).2, (fr i2 (by simp)).2⟩
  refine ⟨by simp, objs, ?_, ?_, ?_, ?_⟩
  · rintro i h h' ⟨hz, hT, ⟨u, v, hO⟩, g1, g2⟩ kp
    exact ⟨kp z (by simp) _ hz, kp TI (by simp) _ hT, ⟨u, v, kp TO (by simp) _ hO⟩, g1.at fun o e => kp i1 (by simp) o e, g2.at fun o e => kp i2 (by simp) o e⟩
  · intro X hP hw hK hc i pins s σ H E I hf st hg
    subst hP hw hK
    obtain ⟨ha, hb, hlt⟩ := hg
    obtain ⟨its, rv, hl, hal⟩ := lst_iter I ha
    obtain ⟨its2, rv2, hl2, hal2⟩ := lst_iter I hb
    have len1 := rv.length
    have len2 := rv2.length
    obtain ⟨s1, s2, s3, s4, s5⟩ := id st
    have hv : ∀ vals : Array Value, (∃ x y, its.toArray[i]? = some x ∧ its2.toArray[i]? = some y ∧ vals = #[x, y]) → ∃ us, Vals us vals.toList ∧ us.length ≤ 100 ∧ ∃ y z, xs[i]? = some y ∧ ys[i]? = some z ∧ us = [y, z] := by
      rintro vals ⟨x, y, hx, hy, rfl⟩
      have l1 : i < xs.length := by omega
      have l2 : i < ys.length := by omega
      obtain ⟨u, hu, ru⟩ := rv.get (x := xs[i]) (i := i) (by simp [l1])
      obtain ⟨u', hu', ru'⟩ := rv2.get (x := ys[i]) (i := i) (by simp [l2])
      have hx : its[i]? = some x := by simpa using hx
      have hy : its2[i]? = some y := by simpa using hy
      rw [hx] at hu
      rw [hy] at hu'
      cases hu
      cases hu'
      exact ⟨[xs[i], ys[i]], .cons ru (.cons ru' .nil), by simp, xs[i], ys[i], by simp [l1], by simp [l2], rfl⟩
    have sub : ∀ c ∈ [z, TO, i1, i2], c ∈ [z, TI, TO, i1, i2] := fun c hc => by simp at hc ⊢; rcases hc with h | h | h | h <;> simp [h]
    refine thn (item_T (E := E) (WalksT.zip2 (I.ok.hd hc) z TI TO i1 i2 a b (apart hf ha hb) its.toArray its2.toArray) (by rw [List.size_toArray, List.size_toArray]; omega) I ⟨s1, s2, s3, s4, s5, hl, hl2⟩ (fun c hc => hf c (sub c hc)) hv) fun r t1 ⟨u, hr, h3⟩ =>
      ⟨u, hr, thn h3 fun _ t2 ⟨p, us, hu, hp, hn, I2, ⟨y, y', hy, hy', e2⟩, st2⟩ => ?_⟩
    subst hu e2
    refine ⟨.ref p, _, I2, rfl, ⟨p, y, y', rfl, hn, hy, hy', rfl⟩, ⟨st2.1, st2.2.1, st2.2.2.1, st2.2.2.2.1, st2.2.2.2.2.1⟩, fun c hc => ?_⟩
    obtain ⟨o, ho, _⟩ := objs i _ st c hc
    rw [upd_ne (addr_ne (Heap.lt_size ho) hp)]
    exact (hf c hc).1
  · intro X hP hw hK hc i pins s σ H E I hf st hg
    subst hP hw hK
    obtain ⟨ha, hb, hlt⟩ := hg
    obtain ⟨its, rv, hl, hal⟩ := lst_iter I ha
    obtain ⟨its2, rv2, hl2, hal2⟩ := lst_iter I hb
    have len1 := rv.length
    have len2 := rv2.length
    obtain ⟨s1, s2, s3, s4, s5⟩ := id st
    have sub : ∀ c ∈ [z, TO, i1, i2], c ∈ [z, TI, TO, i1, i2] := fun c hc => by simp at hc ⊢; rcases hc with h | h | h | h <;> simp [h]
    have hi : min its.toArray.size its2.toArray.size = i := by rw [List.size_toArray, List.size_toArray]; omega
    refine (WalksT.zip2 (I.ok.hd hc) z TI TO i1 i2 a b (apart hf ha hb) its.toArray its2.toArray).done s _ E ?_ fun h' tk hk => ⟨rfl, I.turnedL hk fun c hc => hf c (sub c hc)⟩
    rw [hi]
    exact ⟨s1, s2, s3, s4, s5, hl, hl2⟩
  · intro A i s Q E st h
    exact wpAny_pyIter_zip st.1 h
section
variable {X : Cx}
def iZip2 (ta : TA) : TI := fun σ H R => ta σ H fun vs H1 => ∃ a b xs ys, vs = [.ref a, .ref b] ∧ H1 a = some (.lst xs) ∧ H1 b = some (.lst ys) ∧ R (ItZ2 a b xs ys) H1
theorem pi_zip2 {elts : List Expr} {k : Nat} {pt p pos : Pos} {e e2 : Expr} {ta : TA} (hg : Gl X "zip") (hm : X.mg "zip" = none) (ha : PA X [e, e2] ta) (hn : noStar [e, e2] = true := by rfl) : PI X (.Tuple elts k pt) (.Call (.Name "zip" p) [e, e2] [] pos) (iZip2 ta) := by
  intro pins s σ H R I h
  refine Call_ (ld_blt I hg hm NP.bt_zip (PyProof.Rows.callWith_type1 (thn (ha pos pins s σ H _ I h) fun us s1 ⟨vs, H1, I1, r1, q1⟩ => ?_) (starEach_cons (noStar_cons hn).1) (backTo_any (noStar_cons hn).2)))
  obtain ⟨a, b, xs, ys, e, ha, hb, q⟩ := q1
  subst e
  obtain ⟨u, u', rfl, ru, ru'⟩ := vals2 r1
  cases ru
  cases ru'
  obtain ⟨its, rv, hl, hal⟩ := lst_iter I1 ha
  obtain ⟨its2, rv2, hl2, hal2⟩ := lst_iter I1 hb
  refine call_zip_2 hl hl2 fun h' g1 g2 g3 g4 g5 hz hk => wpAny_pyIter_zip g1 ?_
  have I2 : Inv X pins σ H1 { s1 with heap := h' } := I1.kept (t' := s1.toks) hk
  have nd : [s1.heap.objs.size + 4, s1.heap.objs.size + 2, s1.heap.objs.size + 3, s1.heap.objs.size, s1.heap.objs.size + 1].Nodup := by
    simp only [List.nodup_cons, List.mem_cons, List.not_mem_nil, or_false, not_or, List.nodup_nil, and_true, not_false_eq_true]
    refine ⟨⟨?_, ?_, ?_, ?_⟩, ⟨?_, ?_, ?_⟩, ⟨?_, ?_⟩, ?_⟩ <;> (intro z; have z' : (_ : Nat) = _ := z; omega)
  refine ⟨s1.heap.objs.size + 4, [s1.heap.objs.size + 4, s1.heap.objs.size + 2, s1.heap.objs.size + 3, s1.heap.objs.size, s1.heap.objs.size + 1], _, _, H1, rfl, I2, turn_zip2 _ _ _ _ _ a b xs ys nd, ⟨g1, g2, ⟨_, _, g3⟩, g4, g5⟩, fun c hc => ?_, q⟩
  have hb' : s1.heap.objs.size ≤ c := by
    simp only [List.mem_cons, List.not_mem_nil, or_false] at hc
    rcases hc with q | q | q | q | q <;> rw [q] <;> first | exact Nat.le_add_right _ _ | exact Nat.le_refl _
  exact I1.fpOk hb' (I1.hok.fresh hb')
end
end L2
set_option Elab.async false
set_option linter.all false
set_option maxRecDepth 100000
namespace L2
open PySem PySem.Spec PyProof.Rows
section
variable {prog : Program} {w : World} {A : Around} {E : Value → Shared → Prop} {s : Shared}
end
end L2
set_option Elab.async false
set_option linter.all false
set_option maxRecDepth 100000
namespace L2
open PySem PySem.Spec PyProof.Rows
section
variable {prog : Program} {w : World} {A : Around} {E : Value → Shared → Prop} {s : Shared}
end
def ItZ3 (a b c : Addr) (xs ys zs : List V) : It := ⟨fun i H => (H a = some (.lst xs) ∧ H b = some (.lst ys) ∧ H c = some (.lst zs)) ∧ i < min xs.length (min ys.length zs.length),
  fun i H x H' => ∃ p y z v, x = .ref p ∧ H p = none ∧ xs[i]? = some y ∧ ys[i]? = some z ∧ zs[i]? = some v ∧ H' = upd H p (.tup [y, z, v]), fun i H => (H a = some (.lst xs) ∧ H b = some (.lst ys) ∧ H c = some (.lst zs)) ∧ i = min xs.length (min ys.length zs.length)⟩
section
variable {X : Cx}
def iZip3 (ta : TA) : TI := fun σ H R => ta σ H fun vs H1 => ∃ a b c xs ys zs, vs = [.ref a, .ref b, .ref c] ∧ H1 a = some (.lst xs) ∧ H1 b = some (.lst ys) ∧ H1 c = some (.lst zs) ∧ R (ItZ3 a b c xs ys zs) H1
end
end L2
set_option Elab.async false
set_option linter.all false
set_option maxRecDepth 100000
namespace L2
open PySem PySem.Spec PyProof.Rows
theorem cut1 {t u : TS} {D : Ends} {σ : St} {H : Hp} (M : St → Hp → Prop) (hrest : ∀ σ' H', M σ' H' → u D σ' H') (h : ∀ KK : St → Hp → Prop, (∀ σ' H', M σ' H' → KK σ' H') → t { D with nx := KK } σ H) : tSeq t u D σ H := h (u D) hrest
theorem cut2 {t t2 u : TS} {D : Ends} {σ : St} {H : Hp} (M : St → Hp → Prop) (hrest : ∀ σ' H', M σ' H' → u D σ' H') (h : ∀ KK : St → Hp → Prop, (∀ σ' H', M σ' H' → KK σ' H') → t { D with nx := fun σ H => t2 { D with nx := KK } σ H } σ H) : tSeq t (tSeq t2 u) D σ H := h (u D) hrest
theorem cut3 {t t2 t3 u : TS} {D : Ends} {σ : St} {H : Hp} (M : St → Hp → Prop) (hrest : ∀ σ' H', M σ' H' → u D σ' H')
    (h : ∀ KK : St → Hp → Prop, (∀ σ' H', M σ' H' → KK σ' H') → t { D with nx := fun σ H => t2 { D with nx := fun σ H => t3 { D with nx := KK } σ H } σ H } σ H) : tSeq t (tSeq t2 (tSeq t3 u)) D σ H := h (u D) hrest
theorem ty_lst {H : Hp} {a : Addr} {xs : List V} (h : H a = some (.lst xs)) : tyOf H (.ref a) = some "list" := by unfold tyOf; simp only [h]
theorem ty_tup {H : Hp} {a : Addr} {xs : List V} (h : H a = some (.tup xs)) : tyOf H (.ref a) = some "tuple" := by unfold tyOf; simp only [h]
end L2
namespace L2
open PySem PySem.Spec PyProof.Rows
theorem gt2 {K : PySem.W.Frag} {i j : Nat} {p : Addr} {x y : V} {σ : St} {H : Hp} {Q : St → Hp → Prop} (e : H p = some (.tup [x, y])) (h : Q ((σ.set i (some x)).set j (some y)) H) : gTup K 2 (gCons (gName i) (gCons (gName j) gNil)) (.ref p) σ H Q :=
  ⟨p, _, rfl, SqT.of e, rfl, _, _, rfl, _, _, rfl, rfl, h⟩
end L2
set_option Elab.async false
set_option linter.all false
set_option maxRecDepth 100000
namespace L2
open PySem PySem.Spec PyProof.Rows
section
variable {X : Cx} {pins : List (Addr × Obj)} {σ : St} {H : Hp} {s : Shared}
theorem Inv.freeze {a : Addr} {kvs : List (Key × V)} (I : Inv X pins σ H s) (h : H a = some (.dK kvs)) : ∃ o, s.heap.get? a = some o ∧ Inv X pins σ (upd H a (.frz o (.dK kvs))) s := by
  obtain ⟨hz, hS, vs, r, o, es, ep, ho, rest⟩ := I.hok a _ h
  have ne : ∀ b u, H b = some u → u ≠ .dK kvs → b ≠ a := fun b u e n z => by rw [z, h] at e; exact n (Option.some.inj e).symm
  refine ⟨o, ho, I.un (t' := s.toks) ⟨fun b ob e n _ _ => e, fun b ob e n _ _ => ⟨ob.slots, e⟩, fun b ob e n _ => ?_, fun b ob e _ => ⟨ob, e⟩, fun b xs e => ?_, fun b ob u e => ?_, fun b ps e => ⟨#[], ?_⟩⟩ fun b u e => ?_⟩
  · rw [upd_ne (fun z => by rw [z, h] at n; cases n)]; exact n
  · rw [upd_ne (ne b _ e (fun z => by cases z))]; exact e
  · rw [upd_ne (ne b _ e (fun z => by cases z))]; exact e
  · rw [upd_ne (ne b _ e (fun z => by cases z)), e]; simp
  · by_cases hb : b = a
    · subst hb
      rw [upd_same] at e
      cases e
      exact ⟨ho, hz, hS, vs, r, o, es, ep, ho, rest⟩
    · rw [upd_ne hb] at e
      refine (I.hok b u e).stay (fun _ _ _ q => q) (fun c q => ?_) fun c ys q => ?_
      · rw [upd_ne (ne c _ q (fun z => by cases z))]; exact q
      · rw [upd_ne (ne c _ q (fun z => by cases z))]; exact q
end
def ItD (a : Addr) (o : Obj) (kvs : List (Key × V)) : It := ⟨fun i H => H a = some (.frz o (.dK kvs)) ∧ i < kvs.length, fun i H x H' => H' = H ∧ ∃ k v, kvs[i]? = some (k, v) ∧ x = kV k, fun i H => H a = some (.frz o (.dK kvs)) ∧ kvs.length ≤ i⟩
theorem goesD (a : Addr) (o : Obj) (kvs : List (Key × V)) : Goes (ItD a o kvs) kvs.length (fun i x => ∃ k v, kvs[i]? = some (k, v) ∧ x = kV k) (fun H => H a = some (.frz o (.dK kvs))) :=
  ⟨fun _ _ h o => ⟨o, h⟩, fun _ _ _ _ _ _ y => y, fun _ o => ⟨o, Nat.le_refl _⟩⟩
theorem kv_get {κ : Type} : ∀ {kvs : List (κ × V)} {vs : List (κ × Value)} {i : Nat} {k : κ} {v : V}, KV kvs vs → kvs[i]? = some (k, v) → ∃ u, vs[i]? = some (k, u)
  | _, _, _, _, _, .nil, e => by simp at e
  | _, (k', u') :: _, 0, k, v, .cons r _, e => by
    simp at e
    subst e
    exact ⟨u', by simp; exact r.1.symm⟩
  | _, _ :: _, i + 1, k, v, .cons _ t, e => by
    obtain ⟨u, h⟩ := kv_get (i := i) t (by simpa using e)
    exact ⟨u, by simpa using h⟩
theorem kV_of {P : Program} {w : World} {k : Key} {u : Value} (h : (mixKind P w).is k u = true) : RelV (kV k) u := by
  rcases keyIs_shape h with ⟨i, t, rfl, rfl⟩ | ⟨x, t, rfl, rfl⟩
  · exact ⟨t, rfl⟩
  · exact ⟨t, rfl⟩
theorem turn_dict {P : Program} {w : World} {K : PySem.W.Frag} {tg : Expr} (a it : Addr) (o : Obj) (kvs : List (Key × V)) (es : Array DictEntry) (ep : Nat) (hd : o.data = .dict es ep) :
    Turn P w K tg (ItD a o kvs) [it] it (fun i h => h.IsKeyIter it a i kvs.length ep) where
  mem := by simp
  obj := fun i h st b hb => by
    have e : b = it := by simpa using hb
    subst e
    obtain ⟨o, e, c, d⟩ := st
    exact ⟨o, e, fun v z => by rw [d] at z; cases z⟩
  keep := fun i h h' st k => st.at fun o e => k it (by simp) o e
  item := by
    intro X hP hw hK hc i pins s σ H E I hf st hg
    subst hP hw hK
    obtain ⟨hq, hlt⟩ := hg
    obtain ⟨ho, hz, hS, vs, rel, o', es', ep', ho', c', d', kk, pp, nn⟩ := I.hok a _ hq
    rw [ho] at ho'
    cases ho'
    rw [hd] at d'
    cases d'
    have hm : s.heap.DictAt (mixKind X.prog X.w) a vs ep := ⟨o, es, ho, c', hd, kk, pp, nn⟩
    obtain ⟨f0, f1, f2, f3, f4, f5⟩ := hf it (by simp)
    have hlen : kvs.length = vs.length := rel.length
    obtain ⟨u, hu⟩ := kv_get (k := kvs[i].1) (v := kvs[i].2) (i := i) rel (by simp [hlt])
    have st' : s.heap.IsKeyIter it a i vs.length ep := by rw [← hlen]; exact st
    refine wpAny_pyNext_dict_item st' hm hu fun key h' hk hit sb => ?_
    have I1 : Inv X pins σ H { s with heap := h' } := I.turned (t' := s.toks) (fun b o hb e => (sb.2 b hb).trans e) f0 f1 f3 f4 f5
    obtain ⟨oi, ei, ci, di⟩ := id hit
    refine ⟨key, rfl, go_of (s := { s with heap := h' }) ei ci di (by decide) ⟨kV kvs[i].1, H, I1, kV_of hk, ⟨rfl, kvs[i].1, kvs[i].2, by simp [hlt], rfl⟩, ?_, fun b hb => (hf b hb).1⟩⟩
    rw [hlen]
    exact hit
  done := by
    intro X hP hw hK hc i pins s σ H E I hf st hg
    subst hP hw hK
    obtain ⟨hq, hlt⟩ := hg
    obtain ⟨ho, hz, hS, vs, rel, o', es', ep', ho', c', d', kk, pp, nn⟩ := I.hok a _ hq
    rw [ho] at ho'
    cases ho'
    rw [hd] at d'
    cases d'
    have hm : s.heap.DictAt (mixKind X.prog X.w) a vs ep := ⟨o, es, ho, c', hd, kk, pp, nn⟩
    obtain ⟨f0, f1, f2, f3, f4, f5⟩ := hf it (by simp)
    have hlen : kvs.length = vs.length := rel.length
    have st' : s.heap.IsKeyIter it a i vs.length ep := by rw [← hlen]; exact st
    exact wpAny_pyNext_dict_end (I.ok.hd hc) st' hm (by simp; omega) fun h' eb => ⟨rfl, I.turned (t' := s.toks) (fun b o hb e => eb b o hb e) f0 f1 f3 f4 f5⟩
  self := fun _ _ _ _ _ st h => wpAny_pyIter_keyiter st h
section
variable {X : Cx}
def iDct (te : TE) : TI := fun σ H R => te σ H fun x H1 => ∃ a kvs, x = .ref a ∧ H1 a = some (.dK kvs) ∧ ∀ o, R (ItD a o kvs) (upd H1 a (.frz o (.dK kvs)))
theorem pi_dct {tg l : Expr} {te : TE} (hl : PE X l te) : PI X tg l (iDct te) := by
  intro pins s σ H R I h
  refine thn (hl pins s σ H _ I h) fun v s1 ⟨x, H1, I1, r1, q1⟩ => ?_
  obtain ⟨a, kvs, e, ha, q⟩ := q1
  subst e
  cases r1
  obtain ⟨o, ho, I2⟩ := I1.freeze ha
  obtain ⟨hz, hS, vs, rel, o', es, ep, ho', c', d', kk, pp, nn⟩ := I1.hok a _ ha
  rw [ho] at ho'
  cases ho'
  have hm : s1.heap.DictAt (mixKind X.prog X.w) a vs ep := ⟨o, es, ho, c', d', kk, pp, nn⟩
  have hlen : kvs.length = vs.length := rel.length
  refine wpAny_pyIter_dict hS hm ?_
  refine ⟨s1.heap.objs.size, [s1.heap.objs.size], _, _, _, rfl, I2.kept (t' := s1.toks) fun b o e => Heap.get?_push_of_some _ e, turn_dict a _ o kvs es ep d', ?_, fun b hb => ?_, q o⟩
  · rw [hlen]
    exact ⟨_, Heap.get?_push_size _ rfl, rfl, rfl⟩
  · have e : b = s1.heap.objs.size := by simpa using hb
    subst e
    exact I2.fpOk (Nat.le_refl _) (I2.hok.fresh (Nat.le_refl _))
def tTruL (ta : TE) : TT := fun σ H Q => ta σ H fun x H' => ∃ a xs, x = .ref a ∧ H' a = some (.lst xs) ∧ Q (!xs.isEmpty) H'
def tTruD (ta : TE) : TT := fun σ H Q => ta σ H fun x H' => ∃ a kvs, x = .ref a ∧ H' a = some (.dK kvs) ∧ Q (!kvs.isEmpty) H'
theorem PE.wk {e : Expr} {t : TE} (h : PE X e t) {pins : List (Addr × Obj)} {s : Shared} {σ : St} {H : Hp} {Q : VK} (I : Inv X pins σ H s) (q : t σ H Q) : wpAny (model X.prog X.w) X.A (eval e X.env) (EP X pins σ Q) X.xe s := h pins s σ H Q I q
theorem pt_truL {a : Expr} {ta : TE} (ha : PE X a ta) (he : ∀ whole, isTrue a X.env whole = (do let v ← whole; standAt a.pos; holding [v] (truthy v)) := by intro _; rfl) : PT X a (tTruL ta) := by
  intro pins s σ H Q I h
  refine isTrue_plain (thn (ha pins s σ H _ I h) fun v s1 ⟨x, H1, I1, r1, q1⟩ => ?_) (he _)
  obtain ⟨a, xs, e, hx, q⟩ := q1
  exact tru_ok pins s1 σ H1 x v Q I1 r1 ⟨_, by subst e; exact .inl ⟨xs, SqL.of hx, rfl⟩, q⟩
theorem pt_truD {a : Expr} {ta : TE} (ha : PE X a ta) (he : ∀ whole, isTrue a X.env whole = (do let v ← whole; standAt a.pos; holding [v] (truthy v)) := by intro _; rfl) : PT X a (tTruD ta) := by
  intro pins s σ H Q I h
  refine isTrue_plain (thn (ha pins s σ H _ I h) fun v s1 ⟨x, H1, I1, r1, q1⟩ => ?_) (he _)
  obtain ⟨a, xs, e, hx, q⟩ := q1
  exact tru_ok pins s1 σ H1 x v Q I1 r1 ⟨_, by subst e; exact .inr (.inr ⟨xs, hx, rfl⟩), q⟩
end
mutual
def noLst : PyData → Bool
  | .none | .bool _ | .int _ | .str _ => true
  | .list _ => false
  | .tuple ds => noLsts ds
  | .dict _ => false
def noLsts : List PyData → Bool
  | [] => true
  | d :: ds => noLst d && noLsts ds
end
def KeepU (H H' : Hp) : Prop := ∀ a xs, H a = some (.tup xs) → H' a = some (.tup xs)
theorem KeepU.refl (H : Hp) : KeepU H H := fun _ _ h => h
theorem KeepU.trans {H H1 H2 : Hp} (a : KeepU H H1) (b : KeepU H1 H2) : KeepU H H2 := fun c xs h => b c xs (a c xs h)
theorem Same.ku {H H' : Hp} (s : Same H H') : KeepU H H' := fun a xs h => s a _ h
theorem ku_new {H : Hp} {p : Addr} {o : HO} (h : H p = none) : KeepU H (upd H p o) := fun a xs e => by rw [upd_ne (ne_of_none e h)]; exact e
theorem ku_set {H : Hp} {p : Addr} {o u : HO} (h : H p = some u) (n : ∀ xs, u ≠ .tup xs) : KeepU H (upd H p o) := fun a xs e => by
  rw [upd_ne (fun z => by rw [z, h] at e; exact n xs (Option.some.inj e))]; exact e
mutual
theorem RD.ku {H H' : Hp} (k : KeepU H H') : ∀ (d : PyData) (v : V), noLst d = true → RD H d v → RD H' d v
  | .none, v, _, h => by rw [RD] at h ⊢; exact h
  | .bool b, v, _, h => by rw [RD] at h ⊢; exact h
  | .int i, v, _, h => by rw [RD] at h ⊢; exact h
  | .str x, v, _, h => by rw [RD] at h ⊢; exact h
  | .list ds, v, n, h => by rw [noLst] at n; cases n
  | .tuple ds, v, n, h => by
    rw [noLst] at n
    rw [RD] at h ⊢
    obtain ⟨a, xs, e, ha, r⟩ := h
    exact ⟨a, xs, e, k a xs ha, RDs.ku k ds xs n r⟩
  | .dict _, v, n, h => by rw [noLst] at n; cases n
theorem RDs.ku {H H' : Hp} (k : KeepU H H') : ∀ (ds : List PyData) (xs : List V), noLsts ds = true → RDs H ds xs → RDs H' ds xs
  | [], xs, _, h => by rw [RDs] at h ⊢; exact h
  | d :: ds, xs, n, h => by
    rw [noLsts, Bool.and_eq_true] at n
    rw [RDs] at h ⊢
    obtain ⟨x, r, e, h1, h2⟩ := h
    exact ⟨x, r, e, RD.ku k d x n.1 h1, RDs.ku k ds r n.2 h2⟩
end
mutual
theorem RD.same {H H' : Hp} (k : Same H H') : ∀ (d : PyData) (v : V), RD H d v → RD H' d v
  | .none, v, h => by rw [RD] at h ⊢; exact h
  | .bool b, v, h => by rw [RD] at h ⊢; exact h
  | .int i, v, h => by rw [RD] at h ⊢; exact h
  | .str x, v, h => by rw [RD] at h ⊢; exact h
  | .list ds, v, h => by
    rw [RD] at h ⊢
    obtain ⟨a, xs, e, ha, r⟩ := h
    exact ⟨a, xs, e, k a _ ha, RDs.same k ds xs r⟩
  | .tuple ds, v, h => by
    rw [RD] at h ⊢
    obtain ⟨a, xs, e, ha, r⟩ := h
    exact ⟨a, xs, e, k a _ ha, RDs.same k ds xs r⟩
  | .dict _, v, h => by rw [RD] at h; exact h.elim
theorem RDs.same {H H' : Hp} (k : Same H H') : ∀ (ds : List PyData) (xs : List V), RDs H ds xs → RDs H' ds xs
  | [], xs, h => by rw [RDs] at h ⊢; exact h
  | d :: ds, xs, h => by
    rw [RDs] at h ⊢
    obtain ⟨x, r, e, h1, h2⟩ := h
    exact ⟨x, r, e, RD.same k d x h1, RDs.same k ds r h2⟩
end
theorem RDs.len {H : Hp} : ∀ {ds : List PyData} {xs : List V}, RDs H ds xs → xs.length = ds.length
  | [], xs, h => by rw [RDs] at h; rw [h]; rfl
  | d :: ds, xs, h => by
    rw [RDs] at h
    obtain ⟨x, r, e, _, h2⟩ := h
    rw [e, List.length_cons, List.length_cons, RDs.len h2]
theorem RDs.get {H : Hp} : ∀ {ds : List PyData} {xs : List V} {i : Nat} {d : PyData}, RDs H ds xs → ds[i]? = some d → ∃ x, xs[i]? = some x ∧ RD H d x
  | [], xs, i, d, h, e => by cases e
  | d0 :: ds, xs, i, d, h, e => by
    rw [RDs] at h
    obtain ⟨y, r, ey, h1, h2⟩ := h
    rw [ey]
    cases i with
    | zero => cases e; exact ⟨y, rfl, h1⟩
    | succ i =>
      obtain ⟨x, h3, h4⟩ := RDs.get (ds := ds) (xs := r) (i := i) (d := d) h2 (by simpa using e)
      exact ⟨x, by simpa using h3, h4⟩
theorem RDs.get' {H : Hp} : ∀ {ds : List PyData} {xs : List V} {i : Nat} {x : V}, RDs H ds xs → xs[i]? = some x → ∃ d, ds[i]? = some d ∧ RD H d x
  | [], xs, i, x, h, e => by rw [RDs] at h; rw [h] at e; cases e
  | d :: ds, xs, i, x, h, e => by
    rw [RDs] at h
    obtain ⟨y, r, ey, h1, h2⟩ := h
    rw [ey] at e
    cases i with
    | zero => cases e; exact ⟨d, rfl, h1⟩
    | succ i => exact RDs.get' (ds := ds) (xs := r) (i := i) h2 (by simpa using e)
theorem RDs.app {H : Hp} : ∀ {ds es : List PyData} {xs ys : List V}, RDs H ds xs → RDs H es ys → RDs H (ds ++ es) (xs ++ ys)
  | [], es, xs, ys, h, h' => by rw [RDs] at h; rw [h]; exact h'
  | d :: ds, es, xs, ys, h, h' => by
    rw [RDs] at h
    obtain ⟨x, r, e, h1, h2⟩ := h
    rw [e, List.cons_append, List.cons_append, RDs]
    exact ⟨x, _, rfl, h1, RDs.app h2 h'⟩
theorem RDs.one {H : Hp} {d : PyData} {x : V} (h : RD H d x) : RDs H [d] [x] := by
  rw [RDs]
  refine ⟨x, _, rfl, h, ?_⟩
  rw [RDs]
theorem RDs.nil {H : Hp} : RDs H [] [] := by rw [RDs]
theorem RDs.cons {H : Hp} {d : PyData} {x : V} {ds : List PyData} {xs : List V} (h : RD H d x) (t : RDs H ds xs) : RDs H (d :: ds) (x :: xs) := by
  rw [RDs]
  exact ⟨x, _, rfl, h, t⟩
theorem RD.str_mk {H : Hp} {x : Str} : RD H (.str x) (.str x) := by rw [RD]
theorem RD.int_mk {H : Hp} {i : Int} : RD H (.int i) (.int i) := by rw [RD]
theorem RD.tup_mk {H : Hp} {a : Addr} {xs : List V} {ds : List PyData} (h : H a = some (.tup xs)) (r : RDs H ds xs) : RD H (.tuple ds) (.ref a) := by
  rw [RD]
  exact ⟨a, xs, rfl, h, r⟩
theorem RD.tup_of {H : Hp} {v : V} {ds : List PyData} (h : RD H (.tuple ds) v) : ∃ a xs, v = .ref a ∧ H a = some (.tup xs) ∧ RDs H ds xs := by rw [RD] at h; exact h
theorem RD.str_of {H : Hp} {v : V} {x : Str} (h : RD H (.str x) v) : v = .str x := by rw [RD] at h; exact h
theorem RD.int_of {H : Hp} {v : V} {x : Int} (h : RD H (.int x) v) : v = .int x := by rw [RD] at h; exact h
theorem RDs.nil_of {H : Hp} {xs : List V} (h : RDs H [] xs) : xs = [] := by rw [RDs] at h; exact h
theorem RDs.cons_of {H : Hp} {d : PyData} {ds : List PyData} {xs : List V} (h : RDs H (d :: ds) xs) : ∃ x r, xs = x :: r ∧ RD H d x ∧ RDs H ds r := by rw [RDs] at h; exact h
end L2
set_option Elab.async false
set_option linter.all false
set_option maxRecDepth 100000
namespace NP
open PySem L2
structure Wr where
  name : Str
  lag : Int
  gives : Int
  floor : Int
  stock : Int
  coming : List (Int × Int)
  parts : List (Str × Int)
def arrD (p : Int × Int) : PyData := .tuple [.int p.1, .int p.2]
def partD (p : Str × Int) : PyData := .tuple [.str p.1, .int p.2]
def Wr.d (w : Wr) : PyData := .tuple [.str w.name, .int w.lag, .int w.gives, .int w.floor, .int w.stock, .tuple (w.coming.map arrD), .tuple (w.parts.map partD)]
abbrev Wt := Str × Int × Int
def wantD (p : Wt) : PyData := .tuple [.str p.1, .int p.2.1, .int p.2.2]
structure Sh where
  wares : List Wr
  wants : List Wt
def Sh.d (S : Sh) : PyData := .tuple [.tuple (S.wares.map Wr.d), .tuple (S.wants.map wantD)]
theorem nl_map {α : Type} (f : α → PyData) (h : ∀ x, noLst (f x) = true) : ∀ xs : List α, noLsts (xs.map f) = true
  | [] => by rw [List.map_nil, noLsts]
  | x :: r => by rw [List.map_cons, noLsts, h x, nl_map f h r]; rfl
theorem nl_arr (p : Int × Int) : noLst (arrD p) = true := by unfold arrD; simp only [noLst, noLsts, Bool.and_true]
theorem nl_part (p : Str × Int) : noLst (partD p) = true := by unfold partD; simp only [noLst, noLsts, Bool.and_true]
theorem nl_want (p : Wt) : noLst (wantD p) = true := by unfold wantD; simp only [noLst, noLsts, Bool.and_true]
theorem nl_ware (w : Wr) : noLst w.d = true := by
  unfold Wr.d
  simp only [noLst, noLsts, nl_map arrD nl_arr, nl_map partD nl_part, Bool.and_true]
theorem nl_shop (S : Sh) : noLst S.d = true := by
  unfold Sh.d
  simp only [noLst, noLsts, nl_map Wr.d nl_ware, nl_map wantD nl_want, Bool.and_true]
theorem ware_at {H : Hp} {w : Wr} {v : V} (h : RD H w.d v) : ∃ (a : Addr) (c p : V), v = .ref a ∧ H a = some (.tup [.str w.name, .int w.lag, .int w.gives, .int w.floor, .int w.stock, c, p]) ∧ RD H (.tuple (w.coming.map arrD)) c ∧ RD H (.tuple (w.parts.map partD)) p := by
  unfold Wr.d at h
  obtain ⟨a, xs, rfl, ha, r⟩ := RD.tup_of h
  obtain ⟨x1, r1, rfl, h1, r⟩ := RDs.cons_of r
  obtain ⟨x2, r2, rfl, h2, r⟩ := RDs.cons_of r
  obtain ⟨x3, r3, rfl, h3, r⟩ := RDs.cons_of r
  obtain ⟨x4, r4, rfl, h4, r⟩ := RDs.cons_of r
  obtain ⟨x5, r5, rfl, h5, r⟩ := RDs.cons_of r
  obtain ⟨x6, r6, rfl, h6, r⟩ := RDs.cons_of r
  obtain ⟨x7, r7, rfl, h7, r⟩ := RDs.cons_of r
  have := RDs.nil_of r
  subst this
  rw [RD.str_of h1, RD.int_of h2, RD.int_of h3, RD.int_of h4, RD.int_of h5] at ha
  exact ⟨a, x6, x7, rfl, ha, h6, h7⟩
theorem shop_at {H : Hp} {S : Sh} {v : V} (h : RD H S.d v) : ∃ (a b c : Addr) (ws us : List V), v = .ref a ∧ H a = some (.tup [.ref b, .ref c]) ∧ H b = some (.tup ws) ∧ H c = some (.tup us) ∧ RDs H (S.wares.map Wr.d) ws ∧ RDs H (S.wants.map wantD) us := by
  unfold Sh.d at h
  obtain ⟨a, xs, rfl, ha, r⟩ := RD.tup_of h
  obtain ⟨x1, r1, rfl, h1, r⟩ := RDs.cons_of r
  obtain ⟨x2, r2, rfl, h2, r⟩ := RDs.cons_of r
  have := RDs.nil_of r
  subst this
  obtain ⟨b, ws, rfl, hb, rb⟩ := RD.tup_of h1
  obtain ⟨c, us, rfl, hc, rc⟩ := RD.tup_of h2
  exact ⟨a, b, c, ws, us, rfl, ha, hb, hc, rb, rc⟩
theorem want_at {H : Hp} {p : Wt} {v : V} (h : RD H (wantD p) v) : ∃ a : Addr, v = .ref a ∧ H a = some (.tup [.str p.1, .int p.2.1, .int p.2.2]) := by
  unfold wantD at h
  obtain ⟨a, xs, rfl, ha, r⟩ := RD.tup_of h
  obtain ⟨x1, r1, rfl, h1, r⟩ := RDs.cons_of r
  obtain ⟨x2, r2, rfl, h2, r⟩ := RDs.cons_of r
  obtain ⟨x3, r3, rfl, h3, r⟩ := RDs.cons_of r
  have := RDs.nil_of r
  subst this
  rw [RD.str_of h1, RD.int_of h2, RD.int_of h3] at ha
  exact ⟨a, rfl, ha⟩
theorem part_at {H : Hp} {p : Str × Int} {v : V} (h : RD H (partD p) v) : ∃ a : Addr, v = .ref a ∧ H a = some (.tup [.str p.1, .int p.2]) := by
  unfold partD at h
  obtain ⟨a, xs, rfl, ha, r⟩ := RD.tup_of h
  obtain ⟨x1, r1, rfl, h1, r⟩ := RDs.cons_of r
  obtain ⟨x2, r2, rfl, h2, r⟩ := RDs.cons_of r
  have := RDs.nil_of r
  subst this
  rw [RD.str_of h1, RD.int_of h2] at ha
  exact ⟨a, rfl, ha⟩
theorem arr_at {H : Hp} {p : Int × Int} {v : V} (h : RD H (arrD p) v) : ∃ a : Addr, v = .ref a ∧ H a = some (.tup [.int p.1, .int p.2]) := by
  unfold arrD at h
  obtain ⟨a, xs, rfl, ha, r⟩ := RD.tup_of h
  obtain ⟨x1, r1, rfl, h1, r⟩ := RDs.cons_of r
  obtain ⟨x2, r2, rfl, h2, r⟩ := RDs.cons_of r
  have := RDs.nil_of r
  subst this
  rw [RD.int_of h1, RD.int_of h2] at ha
  exact ⟨a, rfl, ha⟩
theorem rds_map {α : Type} {H : Hp} {f : α → PyData} {xs : List α} {vs : List V} {i : Nat} {v : V} (h : RDs H (xs.map f) vs) (e : vs[i]? = some v) : ∃ x, xs[i]? = some x ∧ RD H (f x) v := by
  obtain ⟨d, hd, r⟩ := RDs.get' h e
  rw [List.getElem?_map] at hd
  cases ex : xs[i]? with
  | none => rw [ex] at hd; cases hd
  | some x => rw [ex] at hd; cases hd; exact ⟨x, rfl, r⟩
theorem rds_len {α : Type} {H : Hp} {f : α → PyData} {xs : List α} {vs : List V} (h : RDs H (xs.map f) vs) : vs.length = xs.length := by have := RDs.len h; rw [List.length_map] at this; exact this
abbrev Gr := List (Str × List Str)
def keysG (G : Gr) : List Str := G.map (·.1)
def goOn (ks : List Str) (ps : List Str) : List Str := ps.filter fun x => decide (x ∈ ks)
def cutOne (ks : List Str) (e : Str × List Str) : Option (Str × List Str) := if goOn ks e.2 = [] then none else some (e.1, goOn ks e.2)
def cutE (G : Gr) : Gr := G.filterMap (cutOne (keysG G))
def cutN : Nat → Gr → Gr
  | 0, G => G
  | n + 1, G => cutE (cutN n G)
def grOf (S : Sh) : Gr := S.wares.map fun w => (w.name, w.parts.map (·.1))
theorem keys_filter {ks : List Str} : ∀ {G : Gr}, (keysG (G.filterMap (cutOne ks))).Sublist (keysG G)
  | [] => .slnil
  | e :: r => by
    unfold keysG
    rw [List.filterMap_cons]
    cases h : cutOne ks e with
    | none => exact .cons _ (keys_filter (G := r))
    | some q =>
      have e1 : q.1 = e.1 := by
        unfold cutOne at h
        split at h
        · cases h
        · cases h; rfl
      show (q.1 :: keysG (r.filterMap (cutOne ks))).Sublist (e.1 :: keysG r)
      rw [e1]
      exact .cons₂ _ (keys_filter (G := r))
theorem cutE_nodup {G : Gr} (h : (keysG G).Nodup) : (keysG (cutE G)).Nodup := keys_filter.nodup h
theorem cutN_nodup {G : Gr} (h : (keysG G).Nodup) : ∀ n, (keysG (cutN n G)).Nodup
  | 0 => h
  | n + 1 => cutE_nodup (cutN_nodup h n)
theorem cutE_len (G : Gr) : (cutE G).length ≤ G.length := List.length_filterMap_le _ _
theorem cutN_len (G : Gr) : ∀ n, (cutN n G).length ≤ G.length
  | 0 => Nat.le_refl _
  | n + 1 => Nat.le_trans (cutE_len _) (cutN_len G n)
theorem cutE_parts {G : Gr} {e : Str × List Str} (h : e ∈ cutE G) : ∃ ps, (e.1, ps) ∈ G ∧ (∀ x ∈ e.2, x ∈ ps ∧ x ∈ keysG G) ∧ e.2 ≠ [] ∧ e.2.length ≤ ps.length := by
  unfold cutE at h
  obtain ⟨q, hq, hc⟩ := List.mem_filterMap.mp h
  unfold cutOne at hc
  split at hc
  · cases hc
  · rename_i hn
    cases hc
    refine ⟨q.2, hq, fun x hx => ?_, hn, List.length_filter_le _ _⟩
    have := List.mem_filter.mp hx
    exact ⟨this.1, of_decide_eq_true this.2⟩
theorem cutN_parts {G : Gr} : ∀ (n : Nat) {e : Str × List Str}, e ∈ cutN n G → ∃ ps, (e.1, ps) ∈ G ∧ (∀ x ∈ e.2, x ∈ ps) ∧ e.2.length ≤ ps.length
  | 0, e, h => ⟨e.2, h, fun x hx => hx, Nat.le_refl _⟩
  | n + 1, e, h => by
    obtain ⟨ps, h1, h2, _, h3⟩ := cutE_parts h
    obtain ⟨qs, q1, q2, q3⟩ := cutN_parts n h1
    exact ⟨qs, q1, fun x hx => q2 x (h2 x hx).1, by have h3' : e.2.length ≤ ps.length := h3; have q3' : ps.length ≤ qs.length := q3; omega⟩
def Low (G : Gr) (r : Str → Nat) : Prop := ∀ e ∈ G, ∀ x ∈ e.2, r x < r e.1
theorem low_cut {G : Gr} {r : Str → Nat} (h : Low G r) : ∀ (n : Nat) (e : Str × List Str), e ∈ cutN n G → n ≤ r e.1
  | 0, e, _ => Nat.zero_le _
  | n + 1, e, he => by
    obtain ⟨ps, h1, h2, h3, _⟩ := cutE_parts he
    obtain ⟨qs, q1, q2, _⟩ := cutN_parts n h1
    cases hx : e.2 with
    | nil => exact absurd hx h3
    | cons x t =>
      have hm : x ∈ e.2 := by rw [hx]; exact List.mem_cons_self
      obtain ⟨m1, m2⟩ := h2 x hm
      obtain ⟨y, hy, ey⟩ := List.mem_map.mp m2
      have lo := low_cut h n y hy
      have lt := h _ q1 x (q2 x m1)
      rw [ey] at lo
      have lt : r x < r e.1 := lt
      omega
theorem cut_none {G : Gr} {r : Str → Nat} {n : Nat} (h : Low G r) (hr : ∀ e ∈ G, r e.1 < n) : cutN n G = [] := by
  cases hc : cutN n G with
  | nil => rfl
  | cons e t =>
    have he : e ∈ cutN n G := by rw [hc]; exact List.mem_cons_self
    have h1 := low_cut h n e he
    obtain ⟨ps, h2, _⟩ := cutN_parts n he
    have h3 := hr _ h2
    have h3 : r e.1 < n := h3
    omega
def PDk (H : Hp) (kvs : List (Key × V)) (G : Gr) : Prop := Paired (fun (e : Str × List Str) (kv : Key × V) => kv.1 = .inr e.1 ∧ ∃ l, kv.2 = .ref l ∧ H l = some (.lst (e.2.map V.str))) G kvs
theorem PDk.mono {H H' : Hp} {kvs : List (Key × V)} {G : Gr} (h : PDk H kvs G) (k : ∀ l xs, H l = some (.lst xs) → H' l = some (.lst xs)) : PDk H' kvs G :=
  Paired.mapP h fun e kv ⟨h1, l, h2, h3⟩ => ⟨h1, l, h2, k l _ h3⟩
theorem PDk.keys : ∀ {H : Hp} {kvs : List (Key × V)} {G : Gr}, PDk H kvs G → kvs.map (·.1) = (keysG G).map Sum.inr
  | _, _, _, .nil => rfl
  | _, _, _, .cons r t => by
    unfold keysG
    rw [List.map_cons, List.map_cons, List.map_cons, r.1]
    exact congrArg _ (PDk.keys t)
theorem PDk.get : ∀ {H : Hp} {kvs : List (Key × V)} {G : Gr} {i : Nat} {e : Str × List Str}, PDk H kvs G → G[i]? = some e → ∃ l, kvs[i]? = some (.inr e.1, .ref l) ∧ H l = some (.lst (e.2.map V.str))
  | _, _, _, _, _, .nil, h => by simp at h
  | _, (k, v) :: _, _, 0, e, .cons r _, h => by
    simp at h
    subst h
    obtain ⟨h1, l, h2, h3⟩ := r
    have h1 : k = _ := h1
    have h2 : v = _ := h2
    exact ⟨l, by rw [h1, h2]; rfl, h3⟩
  | _, _ :: _, _, i + 1, e, .cons _ t, h => by
    obtain ⟨l, q⟩ := PDk.get (i := i) (e := e) t (by simpa using h)
    exact ⟨l, by simpa using q.1, q.2⟩
theorem PDk.get' : ∀ {H : Hp} {kvs : List (Key × V)} {G : Gr} {i : Nat} {k : Key} {v : V}, PDk H kvs G → kvs[i]? = some (k, v) → ∃ e l, G[i]? = some e ∧ k = .inr e.1 ∧ v = .ref l ∧ H l = some (.lst (e.2.map V.str))
  | _, _, _, _, _, _, .nil, h => by simp at h
  | _, _, e :: _, 0, k, v, .cons r _, h => by
    simp at h
    subst h
    obtain ⟨h1, l, h2, h3⟩ := r
    exact ⟨e, l, rfl, h1, h2, h3⟩
  | _, _, _ :: _, i + 1, k, v, .cons _ t, h => by
    obtain ⟨e, l, q⟩ := PDk.get' (i := i) t (by simpa using h)
    exact ⟨e, l, by simpa using q.1, q.2⟩
theorem valV_nodup {κ : Type} [DecidableEq κ] : ∀ {kvs : List (κ × V)} {i : Nat} {k : κ} {v : V}, (kvs.map (·.1)).Nodup → kvs[i]? = some (k, v) → valV kvs k = some v
  | [], _, _, _, _, h => by simp at h
  | p :: r, 0, k, v, hn, h => by
    simp at h
    subst h
    exact valV_pos rfl
  | p :: r, i + 1, k, v, hn, h => by
    have h' : r[i]? = some (k, v) := by simpa using h
    have hn' : (p.1 :: r.map (·.1)).Nodup := hn
    obtain ⟨h1, h2⟩ := List.nodup_cons.mp hn'
    have hm : k ∈ r.map (·.1) := List.mem_map.mpr ⟨(k, v), List.mem_of_getElem? h', rfl⟩
    rw [valV_neg (fun e => h1 (e ▸ hm))]
    exact valV_nodup h2 h'
theorem valV_has {κ : Type} [DecidableEq κ] (kvs : List (κ × V)) (k : κ) : (valV kvs k).isSome = decide (k ∈ kvs.map (·.1)) := by
  rw [← valV_any]
  induction kvs with
  | nil => rfl
  | cons p r ih =>
    rw [List.any_cons, ih, List.map_cons]
    by_cases h : p.1 = k
    · subst h; simp
    · have h' : ¬ k = p.1 := fun e => h e.symm
      simp [h, h']
theorem inr_nodup {xs : List Str} (h : xs.Nodup) : (xs.map (Sum.inr : Str → Key)).Nodup := by
  induction xs with
  | nil => exact List.nodup_nil
  | cons x r ih =>
    obtain ⟨h1, h2⟩ := List.nodup_cons.mp h
    rw [List.map_cons]
    refine List.nodup_cons.mpr ⟨fun m => ?_, ih h2⟩
    obtain ⟨y, hy, e⟩ := List.mem_map.mp m
    cases e
    exact h1 hy
theorem PDk.has {H : Hp} {kvs : List (Key × V)} {G : Gr} (h : PDk H kvs G) (x : Str) : (valV kvs (.inr x)).isSome = decide (x ∈ keysG G) := by
  rw [valV_has, h.keys]
  congr 1
  apply propext
  constructor
  · intro m
    obtain ⟨y, hy, e⟩ := List.mem_map.mp m
    cases e
    exact hy
  · exact fun m => List.mem_map.mpr ⟨x, m, rfl⟩
theorem paired_app {α β : Type} {F : α → β → Prop} : ∀ {a c : List α} {b d : List β}, Paired F a b → Paired F c d → Paired F (a ++ c) (b ++ d)
  | _, _, _, _, .nil, s => s
  | _, _, _, _, .cons r t, s => .cons r (paired_app t s)
theorem PDk.snoc {H : Hp} {kvs : List (Key × V)} {G : Gr} {n : Str} {l : Addr} {ps : List Str} (h : PDk H kvs G) (hn : n ∉ keysG G) (hl : H l = some (.lst (ps.map V.str))) : PDk H (putK kvs (.inr n) (.ref l)) (G ++ [(n, ps)]) := by
  have hv : valV kvs (.inr n) = none := by
    have := h.has n
    rw [decide_eq_false hn] at this
    cases e : valV kvs (.inr n) with
    | none => rfl
    | some v => rw [e] at this; cases this
  rw [putK_new _ hv]
  exact paired_app h (.cons ⟨rfl, l, rfl, hl⟩ .nil)
theorem PDk.len {H : Hp} {kvs : List (Key × V)} {G : Gr} (h : PDk H kvs G) : kvs.length = G.length := (Paired.length h).symm
end NP
set_option Elab.async false
set_option linter.all false
set_option maxRecDepth 100000
namespace L2
open PySem PySem.Spec PyProof.Rows
theorem lri_len : typeLookup (.type "list_reverseiterator") "__len__" = pure none := by rw [typeLookup_type, builtinLookup_eq_fast]; kernel_rfl
theorem lri_hint : typeLookup (.type "list_reverseiterator") "__length_hint__" = pure (some (.builtin "list_reverseiterator.__length_hint__")) := by rw [typeLookup_type, builtinLookup_eq_fast]; kernel_rfl
section
variable {prog : Program} {w : World} {A : Around} {E : Value → Shared → Prop} {s : Shared}
theorem hint_rev {r l : Addr} {i : Int} {Q : Bool → Shared → Prop} (hr : s.heap.IsRevIter r l i) (h : Q false s) : wpAny (model prog w) A (Builtin.List.listLengthHint (.ref r)) Q E s := by
  unfold Builtin.List.listLengthHint
  refine wpAny_bind (wpAny_specialOf hr.typeIs lri_len ?_)
  refine wpAny_bind (m := specialOf (Value.ref r) (Str.ofString "__length_hint__")) (wpAny_specialOf hr.typeIs lri_hint ?_)
  generalize hid : ("list_reverseiterator.__length_hint__" : String) = idr
  wp_delta
  rw [show splitId idr = some ("list_reverseiterator", "__length_hint__") from by subst hid; decide +kernel]
  subst hid
  exact wpAny_bind (wpAny_isInstance (b := true) hr.typeIs (by rw [isSubtype_type]; kernel_rfl) (wpAny_pure h))
theorem init_rev {R : Result → Shared → Prop} {r l S : Addr} {items : Array Value} (hh : A.handled = none) (hr : s.heap.IsRevIter r l ((items.size : Int) - 1)) (hl : s.heap.IsList l items) (nlr : l ≠ r) (nSr : S ≠ r) (nSl : S ≠ l) (hz : items.size ≤ sizeLine)
    (hS : s.heap.get? S = some { cls := .type "list", data := .seq #[] })
    (hR : ∀ h' tk acc' c', (∀ b o, b ∉ [S, r] → s.heap.get? b = some o → h'.get? b = some o) → h'.get? S = some { cls := .type "list", dict := none, data := .seq acc' c', slots := #[] } →
      ItemsOf (fun i v => items[items.size - 1 - i]? = some v) acc' items.size → R (.ok (.ret .none)) { s with heap := h', toks := tk }) :
    wpAny (model prog w) A.in1 (Builtin.«list.__init__» ⟨[.ref S, .ref r], []⟩)
      (fun fin s' => match fin with | .done f => R (.ok f) s' | .again c' => c'.quiet = true ∧ codeAny (model prog w) A c' R s') (fun e s' => R (.error e) s') s := by
  have W := (Walks.listRev (prog := prog) (w := w) (A := A.in1) hh r l nlr items).toS
  refine wpAny_bind (m := Builtin.List.listItems (.ref S)) ?_
  unfold Builtin.List.listItems
  refine wpAny_bind (wpAny_seqItems hS rfl (wpAny_pure ?_))
  refine wpAny_bind (m := updateSeq S (fun _ => #[])) (wpAny_updateSeq hS rfl ?_)
  have hS2 := Heap.get?_update_self (Obj.mapSeq (fun _ => (#[] : Array Value))) hS rfl
  have K1 : ∀ b o, b ≠ S → s.heap.get? b = some o → (s.heap.update S (Obj.mapSeq (fun _ => (#[] : Array Value)))).get? b = some o := fun b o n e => (Heap.get?_update_other _ _ (Ne.symm n)).trans e
  generalize s.heap.update S (Obj.mapSeq (fun _ => (#[] : Array Value))) = h1 at hS2 K1
  refine wpAny_bind (wpAny_letGo ?_)
  have r1 : h1.IsRevIter r l ((items.size : Int) - 1) := hr.at fun o e => K1 r o (Ne.symm nSr) e
  have l1 : h1.IsList l items := hl.at fun o e => K1 l o (Ne.symm nSl) e
  unfold Builtin.List.listExtendWith
  refine wpAny_bind (wpAny_typeOf (s := { s with heap := h1 }) r1.typeIs ?_)
  have d1 : Builtin.List.listSameRef (.ref S) (.ref r) = false := by simp [Builtin.List.listSameRef, nSr]
  rw [if_neg (by rw [d1]; decide)]
  refine wpAny_bind (wpAny_pyIter_revIter (s := { s with heap := h1 }) r1 (wpAny_bind (wpAny_holding (hint_rev (s := { s with heap := h1 }) r1 ?_))))
  rw [if_neg (by decide)]
  refine wpAny_pure ⟨plainId_quiet F.plain_extend_loop _, codeAny_extend_loopS W hz S (by simp [nSr, nSl]) .none items.size 0 _ #[] _ rfl (Nat.zero_le _) ⟨Nat.zero_le _, by simpa using r1, l1⟩ hS2 (ItemsOf.nil _) fun s' acc' c' hm hS' ha => ?_⟩
  rw [Moved.eq_with hm]
  refine hR s'.heap s'.toks acc' c' (fun b o n e => hm.heap b o n (K1 b o (fun z => n (by simp [z])) e)) hS' ha
theorem list_rev {r l : Addr} {items : Array Value} {Q : Value → Shared → Prop} (hh : A.handled = none) (hr : s.heap.IsRevIter r l ((items.size : Int) - 1)) (hl : s.heap.IsList l items) (nlr : l ≠ r) (hz : items.size ≤ sizeLine)
    (hQ : ∀ h' tk acc' c', (∀ b o, b ≠ r → s.heap.get? b = some o → h'.get? b = some o) → h'.get? s.heap.objs.size = some { cls := .type "list", dict := none, data := .seq acc' c', slots := #[] } →
      ItemsOf (fun i v => items[items.size - 1 - i]? = some v) acc' items.size → Q (.ref s.heap.objs.size) { s with heap := h', toks := tk }) : wpAny (model prog w) A (call (.type "list") [.ref r]) Q E s := by
  have lr : r < s.heap.objs.size := by obtain ⟨o, e, _⟩ := hr; exact Heap.lt_size e
  have ll : l < s.heap.objs.size := by obtain ⟨o, e, _⟩ := hl; exact Heap.lt_size e
  refine callType_codes (Q₁ := fun obj t => obj = .ref s.heap.objs.size ∧ t = { s with heap := s.heap.push { cls := .type "list", data := .seq #[] } }) F.called_list (F.typeCall_list_1 _) F.entry_list_init (code_list_new _ ⟨rfl, rfl⟩) fun obj t ht => ?_
  obtain ⟨rfl, rfl⟩ := ht
  have nS : (s.heap.push { cls := .type "list", data := .seq #[] }).get? s.heap.objs.size = some { cls := .type "list", data := .seq #[] } := Heap.get?_push_size _ rfl
  refine ⟨⟨_, nS, rfl⟩, F.args_list_init_2 _ _, init_rev (A := A.in1) hh (hr.at fun o e => Heap.get?_push_of_some _ e) (hl.push _) nlr (Nat.ne_of_gt lr) (Nat.ne_of_gt ll) hz nS fun h' tk acc' c' hk hS' ha => ?_⟩
  refine ⟨rfl, hQ h' tk acc' c' (fun b o n e => hk b o ?_ (Heap.get?_push_of_some _ e)) hS' ha⟩
  simp only [List.mem_cons, List.not_mem_nil, or_false, not_or]
  exact ⟨Nat.ne_of_lt (Heap.lt_size e), n⟩
end
theorem items_rev {items : List Value} {acc : Array Value} (h : ItemsOf (fun i v => items.toArray[items.toArray.size - 1 - i]? = some v) acc items.toArray.size) : acc = items.reverse.toArray := by
  obtain ⟨h1, h2⟩ := h
  have h1 : acc.size = items.length := by rw [h1, List.size_toArray]
  have h2 : ∀ j v, acc[j]? = some v → items[items.length - 1 - j]? = some v := fun j v e => by simpa using h2 j v e
  have e : acc.toList = items.reverse := by
    apply List.ext_getElem?
    intro j
    cases e : acc[j]? with
    | none =>
      have : acc.size ≤ j := by simpa using e
      rw [List.getElem?_eq_none (by rw [Array.length_toList]; exact this), List.getElem?_eq_none (by rw [List.length_reverse]; omega)]
    | some v =>
      have q := h2 j v e
      have lt : j < acc.size := (Array.getElem?_eq_some_iff.mp e).1
      rw [List.getElem?_reverse (by omega), q, Array.getElem?_toList, e]
  rw [← e]
section
variable {X : Cx}
def tLrev (te : TE) : TE := fun σ H Q => te σ H fun x H1 => ∃ a xs, x = .ref a ∧ H1 a = some (.lst xs) ∧ ∀ p, H1 p = none → Q (.ref p) (upd H1 p (.lst xs.reverse))
theorem pe_lrev {e : Expr} {te : TE} {p1 p2 p3 p4 : Pos} (hc : X.calm = true) (hg : Gl X "list") (hm : X.mg "list" = none) (hg2 : Gl X "reversed") (hm2 : X.mg "reversed" = none) (he : PE X e te) (hn : noStar [e] = true := by rfl) :
    PE X (.Call (.Name "list" p1) [.Call (.Name "reversed" p2) [e] [] p3] [] p4) (tLrev te) := by
  intro pins s σ H Q I h
  refine wpAny_Call_Name_kw (ld_blt I hg hm NP.bt_list ?_ (by decide) (by decide))
  refine PyProof.Rows.callWith_type1 (Calls.spliced_cons ?_) rfl rfl
  refine wpAny_Call_Name_kw (ld_blt I hg2 hm2 NP.bt_reversed ?_ (by decide) (by decide))
  refine PyProof.Rows.callWith_type1 (thn ((pa_e he pa_nil hn) p3 pins s σ H (fun vs H1 => match vs with | [x] => ∃ a xs, x = .ref a ∧ H1 a = some (.lst xs) ∧ ∀ p, H1 p = none → Q (.ref p) (upd H1 p (.lst xs.reverse)) | _ => False) I h) fun us s1 ⟨vs, H1, I1, r1, hv⟩ => ?_) (starEach_of hn) rfl
  match vs, hv, r1 with
  | [x], ⟨a, xs, ea, ha, q⟩, r1 =>
    subst ea
    obtain ⟨u, rfl, ru⟩ := vals1 r1
    cases ru
    obtain ⟨its, rv, hl, hlt⟩ := lst_iter I1 ha
    have hlen := rv.length
    obtain ⟨hz, _⟩ := I1.hok a _ ha
    refine call_reversed_list hl (Calls.spliced_nil ?_)
    have sz : (s1.heap.push (revObj a ((its.toArray.size : Int) - 1))).objs.size = s1.heap.objs.size + 1 := Heap.size_push ..
    have fr := I1.fpOk (Nat.le_refl _) (I1.hok.fresh (Nat.le_refl _))
    have nar : a ≠ s1.heap.objs.size := Nat.ne_of_lt hlt
    refine list_rev (s := { s1 with heap := s1.heap.push (revObj a ((its.toArray.size : Int) - 1)) }) (I1.ok.hd hc) ⟨_, Heap.get?_push_size _ rfl, rfl, rfl⟩ (hl.push _) nar (by rw [List.size_toArray]; omega) fun h' tk acc c hk hS ha' => ?_
    have ea := items_rev ha'
    subst ea
    have sz2 : s1.heap.objs.size ≤ (s1.heap.push (revObj a ((its.toArray.size : Int) - 1))).objs.size := by rw [sz]; exact Nat.le_succ _
    have kk : ∀ b o, s1.heap.get? b = some o → h'.get? b = some o := fun b o e => hk b o (Nat.ne_of_lt (Heap.lt_size e)) (Heap.get?_push_of_some _ e)
    exact ⟨.ref _, _, I1.laid (t' := tk) (o := .lst xs.reverse) kk sz2 ⟨by rw [List.length_reverse]; exact hz, its.reverse, c, rv.reverse, hS⟩, rfl, q _ (I1.hok.fresh sz2)⟩
end
end L2
set_option Elab.async false
set_option linter.all false
set_option maxRecDepth 100000
namespace L2
open PySem PySem.Spec PyProof.Rows
theorem gown_tup2 {K : PySem.W.Frag} : GOwn 2 (gTup K 2 (gCons (gName 0) (gCons (gName 1) gNil))) := fun v σ H Q h => by
  obtain ⟨a, xs, e, hq, hl, v1, r1, e1, v2, r2, e2, e3, q⟩ := h
  exact ⟨a, xs, e, hq, hl, v1, r1, e1, v2, r2, e2, e3, ⟨⟨by simp, fun j hj => by rw [List.getElem?_set_ne (by omega), List.getElem?_set_ne (by omega)]⟩, q⟩⟩
theorem gown_tup3 {K : PySem.W.Frag} : GOwn 3 (gTup K 3 (gCons (gName 0) (gCons (gName 1) (gCons (gName 2) gNil)))) := fun v σ H Q h => by
  obtain ⟨a, xs, e, hq, hl, v1, r1, e1, v2, r2, e2, v3, r3, e3, e4, q⟩ := h
  exact ⟨a, xs, e, hq, hl, v1, r1, e1, v2, r2, e2, v3, r3, e3, e4, ⟨⟨by simp, fun j hj => by rw [List.getElem?_set_ne (by omega), List.getElem?_set_ne (by omega), List.getElem?_set_ne (by omega)]⟩, q⟩⟩
theorem gt3 {K : PySem.W.Frag} {i j k : Nat} {p : Addr} {x y z : V} {σ : St} {H : Hp} {Q : St → Hp → Prop} (e : H p = some (.tup [x, y, z])) (h : Q (((σ.set i (some x)).set j (some y)).set k (some z)) H) :
    gTup K 3 (gCons (gName i) (gCons (gName j) (gCons (gName k) gNil))) (.ref p) σ H Q := ⟨p, _, rfl, SqT.of e, rfl, _, _, rfl, _, _, rfl, _, _, rfl, rfl, h⟩
theorem comp_t {J : It} {n : Nat} {yl : Nat → List V → Prop} {ok : Hp → Prop} {own : List Str} {cap : List Nat} {g : TG} {tt : TT} {te : TE} {σ : St} {H : Hp} {Q : VK} (G : GoesT J n yl ok) (hn : n ≤ sizeLine) (Pv : Nat → List V → Hp → Prop) (h0 : Pv 0 [] H) (hok : ∀ i acc H, i ≤ n → Pv i acc H → ok H)
    (hlen : ∀ i acc H, Pv i acc H → acc.length ≤ i)
    (hs : ∀ i ys p acc H, i < n → yl i ys → Pv i acc H → H p = none → g (.ref p) (cpSt own cap σ) (upd H p (.tup ys)) fun σ2 H2 => tt σ2 H2 fun b H3 => if b = true then te σ2 H3 fun y H4 => Pv (i + 1) (acc ++ [y]) H4 else Pv (i + 1) acc H3)
    (hd : ∀ acc H, Pv n acc H → ∀ p, H p = none → Q (.ref p) (upd H p (.lst acc))) : NP.CompW J own cap g tt te σ H Q := by
  refine ⟨fun i m acc H => m = n - i ∧ i ≤ n ∧ Pv i acc H, ⟨n, by simp, Nat.zero_le _, h0⟩, ?_⟩
  rintro i m acc H ⟨rfl, hi, p⟩
  have q := hok i acc H hi p
  have hl := hlen i acc H p
  refine ⟨by omega, ?_⟩
  by_cases hlt : i < n
  · refine .inr ⟨G.go i H hlt q, by omega, Pv (i + 1), fun acc' H' p' => ⟨n - (i + 1), by omega, rfl, hlt, p'⟩, fun x H' y => ?_⟩
    obtain ⟨a, ys, e1, e2, e3, y'⟩ := G.yld i H x H' hlt q y
    subst e1 e3
    exact hs i ys a acc H hlt y' p e2
  · have e : i = n := by omega
    subst e
    exact .inl ⟨G.stop H q, hd acc H p⟩
theorem comp_w {J : It} {n : Nat} {yl : Nat → V → Prop} {ok : Hp → Prop} {own : List Str} {cap : List Nat} {g : TG} {tt : TT} {te : TE} {σ : St} {H : Hp} {Q : VK} (G : Goes J n yl ok) (hn : n ≤ sizeLine) (Pv : Nat → List V → Hp → Prop) (h0 : Pv 0 [] H) (hok : ∀ i acc H, i ≤ n → Pv i acc H → ok H)
    (hlen : ∀ i acc H, Pv i acc H → acc.length ≤ i)
    (hs : ∀ i x acc H, i < n → yl i x → Pv i acc H → g x (cpSt own cap σ) H fun σ2 H2 => tt σ2 H2 fun b H3 => if b = true then te σ2 H3 fun y H4 => Pv (i + 1) (acc ++ [y]) H4 else Pv (i + 1) acc H3)
    (hd : ∀ acc H, Pv n acc H → ∀ p, H p = none → Q (.ref p) (upd H p (.lst acc))) : NP.CompW J own cap g tt te σ H Q := comp_goes G hn Pv h0 hok hlen hs hd
end L2
set_option Elab.async false
set_option linter.all false
set_option maxRecDepth 100000
namespace L2
open PySem PySem.Spec PyProof.Rows
def best (ns : Nat → Int) : Nat → Int
  | 0 => ns 0
  | k + 1 => if ns (k + 1) > best ns k then ns (k + 1) else best ns k
section
variable {prog : Program} {w : World} {A : Around} {R : Result → Shared → Prop} {I : Addr} {fp wr : List Addr} {n : Nat} {P : Nat → Value → Prop} {St : Nat → Heap → Prop}
theorem gt_rich {a b : Int} {t u : Tok} {Q : Value → Shared → Prop} {E : Value → Shared → Prop} {s : Shared} (h : Q (.bool (decide (b < a))) s) : wpAny (model prog w) A (richCompare .Gt (.int a t) (.int b u)) Q E s := show wpAny _ _ (compareOp .Gt _ _) _ _ _ from gt_int h
theorem maxl_more (kw : List (Str × Value)) (W : Walks prog w A.in1 I fp wr n P St) (ns : Nat → Int) (hv : ∀ i v, P i v → ∃ t, v = .int (ns i) t) (S : Addr) (hSf : S ∉ fp) :
    ∀ (k j : Nat) (s : Shared) (t : Tok) (c : Nat), n - (j + 1) = k → j + 1 ≤ n → St (j + 1) s.heap → s.heap.get? S = some { cls := .type "list", dict := none, data := .seq #[.int (best ns j) t, .int (best ns j) t] c, slots := #[] } →
    (∀ t' h' tk, (∀ b o, b ∉ wr → b ≠ S → s.heap.get? b = some o → h'.get? b = some o) → R (.ok (.ret (.int (best ns (n - 1)) t'))) { s with heap := h', toks := tk }) →
    codeAny (model prog w) A (.builtin "max.loop" ⟨[.ref I, .none, .ref S], kw⟩) R s := by
  have nSw : S ∉ wr := fun h => hSf (W.sub _ h)
  have nm : (toString "max" ++ toString ".loop" : String) = "max.loop" := by decide
  intro k
  induction k with
  | zero =>
    intro j s t c hk hj hst hS hR
    have hin : j + 1 = n := by omega
    refine codeAny_builtin F.entry_max_loop ?_
    rw [Around.under_plainId F.plain_max_loop _]
    refine wpAny_bind (m := seqItems? (.ref S)) (wpAny_seqItems hS rfl (wpAny_bind (m := tryCatch (pyNext (.ref I)) _) (wpAny_tryCatch (W.done s _ _ (hin ▸ hst) fun h' tk hk' => ?_))))
    refine wpAny_bind (m := updateSeq S (fun _ => #[])) (wpAny_updateSeq (hk' S _ nSw hS) rfl (wpAny_bind (wpAny_letGo (wpAny_pure ?_))))
    have e : n - 1 = j := by omega
    rw [e] at hR
    exact hR t _ tk fun b o n1 n2 q => (Heap.get?_update_other _ _ (Ne.symm n2)).trans (hk' b o n1 q)
  | succ k ih =>
    intro j s t c hk hj hst hS hR
    have hlt : j + 1 < n := by omega
    refine codeAny_builtin F.entry_max_loop ?_
    rw [Around.under_plainId F.plain_max_loop _]
    refine wpAny_bind (m := seqItems? (.ref S)) (wpAny_seqItems hS rfl (wpAny_bind (m := tryCatch (pyNext (.ref I)) _) (wpAny_tryCatch (W.item (j + 1) s _ _ hlt hst fun v h' tk hP hst' hk' => ?_))))
    obtain ⟨u, rfl⟩ := hv _ _ hP
    have hS' := hk' S _ nSw hS
    refine wpAny_bind (m := tryCatch (holding _ (richCompare .Gt _ _ >>= _)) _) (wpAny_tryCatch (wpAny_holding (wpAny_bind (gt_rich (wpAny_bind (wpAny_holding (wpAny_truthy_bool (wpAny_bind (wpAny_letGo (wpAny_pure ?_))))))))))
    by_cases hb : best ns j < ns (j + 1)
    · rw [decide_eq_true hb]
      simp only [if_true]
      refine wpAny_bind (wpAny_updateSeq hS' rfl (wpAny_bind (wpAny_letGo ?_)))
      rw [nm]
      have eb : best ns (j + 1) = ns (j + 1) := if_pos hb
      refine wpAny_pure ⟨plainId_quiet F.plain_max_loop _, ih (j + 1) _ u _ (by omega) hlt (W.frame _ _ _ hst' fun b hbf o e => ?_) (by rw [eb]; exact Heap.get?_update_self _ hS' rfl) fun t' h'' tk' hk2 => ?_⟩
      · exact (Heap.get?_update_other _ _ (fun h : S = b => hSf (by rw [h]; exact hbf))).trans e
      · exact hR t' h'' tk' fun b o n1 n2 e => hk2 b o n1 n2 ((Heap.get?_update_other _ _ (Ne.symm n2)).trans (hk' b o n1 e))
    · rw [decide_eq_false hb]
      simp only [Bool.false_eq_true, if_false]
      refine wpAny_bind (wpAny_letGo ?_)
      rw [nm]
      have eb : best ns (j + 1) = best ns j := if_neg hb
      refine wpAny_pure ⟨plainId_quiet F.plain_max_loop _, ih (j + 1) _ t c (by omega) hlt hst' (by rw [eb]; exact hS') fun t' h'' tk' hk2 => ?_⟩
      exact hR t' h'' tk' fun b o n1 n2 e => hk2 b o n1 n2 (hk' b o n1 e)
theorem maxl_first (kw : List (Str × Value)) (W : Walks prog w A.in1 I fp wr n P St) (ns : Nat → Int) (hv : ∀ i v, P i v → ∃ t, v = .int (ns i) t) (S : Addr) (hSf : S ∉ fp) (hn : 0 < n) {s : Shared} {c : Nat} (hst : St 0 s.heap)
    (hS : s.heap.get? S = some { cls := .type "list", dict := none, data := .seq #[] c, slots := #[] })
    (hR : ∀ t' h' tk, (∀ b o, b ∉ wr → b ≠ S → s.heap.get? b = some o → h'.get? b = some o) → R (.ok (.ret (.int (best ns (n - 1)) t'))) { s with heap := h', toks := tk }) :
    codeAny (model prog w) A (.builtin "max.loop" ⟨[.ref I, .none, .ref S], kw⟩) R s := by
  have nSw : S ∉ wr := fun h => hSf (W.sub _ h)
  have nm : (toString "max" ++ toString ".loop" : String) = "max.loop" := by decide
  refine codeAny_builtin F.entry_max_loop ?_
  rw [Around.under_plainId F.plain_max_loop _]
  refine wpAny_bind (m := seqItems? (.ref S)) (wpAny_seqItems hS rfl (wpAny_bind (m := tryCatch (pyNext (.ref I)) _) (wpAny_tryCatch (W.item 0 s _ _ hn hst fun v h' tk hP hst' hk' => ?_))))
  obtain ⟨u, rfl⟩ := hv _ _ hP
  have hS' := hk' S _ nSw hS
  refine wpAny_bind (m := updateSeq S _) (wpAny_updateSeq hS' rfl ?_)
  rw [nm]
  refine wpAny_pure ⟨plainId_quiet F.plain_max_loop _, maxl_more kw W ns hv S hSf _ 0 _ u _ rfl hn (W.frame _ _ _ hst' fun b hbf o e => ?_) (Heap.get?_update_self _ hS' rfl) fun t' h'' tk' hk2 => ?_⟩
  · exact (Heap.get?_update_other _ _ (fun h : S = b => hSf (by rw [h]; exact hbf))).trans e
  · exact hR t' h'' tk' fun b o n1 n2 e => hk2 b o n1 n2 ((Heap.get?_update_other _ _ (Ne.symm n2)).trans (hk' b o n1 e))
theorem maxl_none {d : Value} (W : Walks prog w A.in1 I fp wr 0 P St) (S : Addr) (hSf : S ∉ fp) {s : Shared} {c : Nat} (hst : St 0 s.heap)
    (hS : s.heap.get? S = some { cls := .type "list", dict := none, data := .seq #[] c, slots := #[] })
    (hR : ∀ h' tk, (∀ b o, b ∉ wr → b ≠ S → s.heap.get? b = some o → h'.get? b = some o) → R (.ok (.ret d)) { s with heap := h', toks := tk }) :
    codeAny (model prog w) A (.builtin "max.loop" ⟨[.ref I, .none, .ref S], [("default", d)]⟩) R s := by
  refine codeAny_builtin F.entry_max_loop ?_
  rw [Around.under_plainId F.plain_max_loop _]
  refine wpAny_bind (m := seqItems? (.ref S)) (wpAny_seqItems hS rfl (wpAny_bind (m := tryCatch (pyNext (.ref I)) _) (wpAny_tryCatch (W.done s _ _ hst fun h' tk hk' => ?_))))
  exact wpAny_bind (wpAny_rule (wpAny_pure (hR h' tk fun b o n1 _ e => hk' b o n1 e)))
end
end L2
set_option Elab.async false
set_option linter.all false
set_option maxRecDepth 100000
namespace L2
open PySem PySem.Spec PyProof.Rows
def maxL (ns : List Int) : Int := best (fun i => (ns[i]?).getD 0) (ns.length - 1)
def max0 (ns : List Int) : Int := if ns = [] then 0 else maxL ns
theorem best_mem (f : Nat → Int) : ∀ k, ∃ i, i ≤ k ∧ best f k = f i
  | 0 => ⟨0, Nat.le_refl _, rfl⟩
  | k + 1 => by
    rw [best]
    split
    · exact ⟨k + 1, Nat.le_refl _, rfl⟩
    · obtain ⟨i, h1, h2⟩ := best_mem f k
      exact ⟨i, by omega, h2⟩
theorem best_ge (f : Nat → Int) : ∀ k i, i ≤ k → f i ≤ best f k
  | 0, i, h => by
    have : i = 0 := by omega
    subst this
    exact Int.le_refl _
  | k + 1, i, h => by
    rw [best]
    by_cases hi : i = k + 1
    · subst hi
      split <;> omega
    · have := best_ge f k i (by omega)
      split <;> omega
theorem maxL_mem {ns : List Int} (h : ns ≠ []) : maxL ns ∈ ns := by
  have hl : 0 < ns.length := List.length_pos_iff.mpr h
  obtain ⟨i, h1, h2⟩ := best_mem (fun i => (ns[i]?).getD 0) (ns.length - 1)
  unfold maxL
  rw [h2]
  have hi : i < ns.length := by omega
  simp only [List.getElem?_eq_getElem hi, Option.getD_some]
  exact List.getElem_mem hi
theorem maxL_ge {ns : List Int} {x : Int} (h : x ∈ ns) : x ≤ maxL ns := by
  obtain ⟨i, hi, e⟩ := List.mem_iff_getElem.mp h
  have := best_ge (fun i => (ns[i]?).getD 0) (ns.length - 1) i (by omega)
  simp only [List.getElem?_eq_getElem hi, Option.getD_some, e] at this
  exact this
theorem maxL_eq {ns : List Int} {m : Int} (h1 : m ∈ ns) (h2 : ∀ x ∈ ns, x ≤ m) : maxL ns = m := by
  have a := maxL_ge h1
  have b := h2 _ (maxL_mem (List.ne_nil_of_mem h1))
  omega
theorem args_maxd (a d : Value) : argsOk "max" ⟨[a], [(Str.ofString "default", d)]⟩ := by unfold argsOk; kernel_rfl
section
variable {X : Cx}
theorem max_core {pins : List (Addr × Obj)} {σ : St} {H : Hp} {s : Shared} {a : Addr} {ns : List Int} {Q : VK} {E : Value → Shared → Prop} {kw : List (Str × Value)} (hc : X.calm = true) (I : Inv X pins σ H s) (ha : H a = some (.lst (ns.map V.int))) (hn : ns ≠ []) (q : Q (.int (maxL ns)) H) :
    codeAny (model X.prog X.w) X.A (.builtin "max.loop" ⟨[.ref s.heap.objs.size, .none, .ref (s.heap.objs.size + 1)], kw⟩) (fun r s' => match r with | .ok (.ret v) => EP X pins σ Q v s' | .ok _ => False | .error e => E e s')
      { s with heap := (s.heap.push { cls := .type "list_iterator", data := .fields #[.ref a, .int 0 0] }).push { cls := .type "list", data := .seq #[] } } := by
  obtain ⟨its, rv, hl, hlt⟩ := lst_iter I ha
  have hlen : its.length = ns.length := by have := rv.length; rw [List.length_map] at this; exact this.symm
  have sz : (s.heap.push { cls := .type "list_iterator", data := .fields #[.ref a, .int 0 0] }).objs.size = s.heap.objs.size + 1 := Heap.size_push ..
  have gI : ((s.heap.push { cls := .type "list_iterator", data := .fields #[.ref a, .int 0 0] }).push { cls := .type "list", data := .seq #[] }).get? s.heap.objs.size = some { cls := .type "list_iterator", data := .fields #[.ref a, .int 0 0] } := Heap.get?_push_of_some _ (Heap.get?_push_size _ rfl)
  have gS : ((s.heap.push { cls := .type "list_iterator", data := .fields #[.ref a, .int 0 0] }).push { cls := .type "list", data := .seq #[] }).get? (s.heap.objs.size + 1) = some { cls := .type "list", data := .seq #[] } := by
    have := Heap.get?_push_size (s.heap.push { cls := .type "list_iterator", data := .fields #[.ref a, .int 0 0] }) (o := { cls := .type "list", data := .seq #[] }) rfl
    rw [sz] at this
    exact this
  have hpos : 0 < its.toArray.size := by rw [List.size_toArray, hlen]; exact List.length_pos_iff.mpr hn
  have nS : (s.heap.objs.size + 1 : Addr) ∉ [s.heap.objs.size, a] := by
    simp only [List.mem_cons, List.not_mem_nil, or_false, not_or]
    exact ⟨Nat.succ_ne_self _, Nat.ne_of_gt (Nat.lt_succ_of_lt hlt)⟩
  refine maxl_first kw (Walks.list (prog := X.prog) (w := X.w) (A := X.A.in1) (I.ok.hd hc) s.heap.objs.size a (Nat.ne_of_lt hlt) its.toArray) (fun i => (ns[i]?).getD 0) (fun i v hP => vals_int rv (by simpa using hP)) (s.heap.objs.size + 1) nS hpos ⟨⟨_, gI, rfl, rfl⟩, (hl.push _).push _⟩ gS fun t' h' tk hk => ?_
  rw [List.size_toArray, hlen]
  refine ⟨.int (maxL ns), H, I.kept fun b o e => hk b o ?_ ?_ (Heap.get?_push_of_some _ (Heap.get?_push_of_some _ e)), ⟨_, rfl⟩, q⟩
  · simp only [List.mem_cons, List.not_mem_nil, or_false]
    exact Nat.ne_of_lt (Heap.lt_size e)
  · exact Nat.ne_of_lt (Nat.lt_succ_of_lt (Heap.lt_size e))
def rMaxL : List V → Hp → VK → Prop := fun vs H Q => ∃ a ns, vs = [.ref a] ∧ H a = some (.lst (ns.map V.int)) ∧ ns ≠ [] ∧ Q (.int (maxL ns)) H
theorem call_maxl (hc : X.calm = true) : CallR X (.builtin "max") rMaxL := by
  intro pins s σ H xs us Q I r h
  obtain ⟨a, ns, rfl, ha, hn, q⟩ := h
  obtain ⟨u, rfl, ru⟩ := vals1 r
  cases ru
  obtain ⟨its, rv, hl, hlt⟩ := lst_iter I ha
  have nm : (toString "max" ++ toString ".loop" : String) = "max.loop" := by decide
  have sz : (s.heap.push { cls := .type "list_iterator", data := .fields #[.ref a, .int 0 0] }).objs.size = s.heap.objs.size + 1 := Heap.size_push ..
  refine call_function_tree F.kind_max F.plain_max F.entry_max (F.args_max1 _) ?_
  refine wpAny_bind (m := Builtin.Builtins.bindParams "max" ["key", "default"] 0 ⟨[], []⟩) (wpAny_of_eq (show Builtin.Builtins.bindParams "max" ["key", "default"] 0 ⟨[], []⟩ = pure [none, none] from rfl) (wpAny_bind (wpAny_pure (wpAny_bind (wpAny_pyIter_list hl (wpAny_bind (wpAny_newObj_type ?_)))))))
  rw [nm]
  refine wpAny_pure ⟨plainId_quiet F.plain_max_loop _, ?_⟩
  have := max_core (E := X.xe) (kw := []) hc I ha hn q
  rw [← sz] at this
  exact this
def tMaxd (te : TE) : TE := fun σ H Q => te σ H fun x H1 => ∃ a ns, x = .ref a ∧ H1 a = some (.lst (ns.map V.int)) ∧ Q (.int (max0 ns)) H1
theorem pe_maxd {e : Expr} {te : TE} {p1 p2 p3 kp : Pos} {j} (hc : X.calm = true) (hg : Gl X "max") (hm : X.mg "max" = none) (he : PE X e te) (hn : noStar [e] = true := by rfl) :
    PE X (.Call (.Name "max" p1) [e] [⟨some "default", .Constant (.int 0) j p3, kp⟩] p2) (tMaxd te) := by
  intro pins s σ H Q I h
  refine wpAny_Call_Name_kw (ld_blt I hg hm NP.bt_max ?_ (by decide) (by decide))
  refine callWith_kw (thn ((pa_e he pa_nil hn) p2 pins s σ H (fun vs H1 => match vs with | [x] => ∃ a ns, x = .ref a ∧ H1 a = some (.lst (ns.map V.int)) ∧ Q (.int (max0 ns)) H1 | _ => False) I h) fun us s1 ⟨vs, H1, I1, r1, hv⟩ => kws_cons (wpAny_Constant_int (kws_nil ?_))) ?_ ?_ rfl rfl
  · match vs, hv, r1 with
    | [x], ⟨a, ns, ea, ha, q⟩, r1 =>
    subst ea
    obtain ⟨u, rfl, ru⟩ := vals1 r1
    cases ru
    have I2 := I1.tok (s1.toks + 1)
    obtain ⟨its, rv, hl, hlt⟩ := lst_iter I2 ha
    have nm : (toString "max" ++ toString ".loop" : String) = "max.loop" := by decide
    have sz : (s1.heap.push { cls := .type "list_iterator", data := .fields #[.ref a, .int 0 0] }).objs.size = s1.heap.objs.size + 1 := Heap.size_push ..
    refine kmk_tree F.kind_max F.plain_max F.entry_max (args_maxd _ _) ?_
    refine wpAny_bind (m := Builtin.Builtins.bindParams "max" ["key", "default"] 0 ⟨[], [(Str.ofString "default", .int 0 s1.toks)]⟩) (wpAny_of_eq (show Builtin.Builtins.bindParams "max" ["key", "default"] 0 ⟨[], [(Str.ofString "default", .int 0 s1.toks)]⟩ = pure [none, some (.int 0 s1.toks)] from rfl) (wpAny_bind (wpAny_pure (wpAny_bind (wpAny_pyIter_list hl (wpAny_bind (wpAny_newObj_type ?_)))))))
    rw [nm]
    refine wpAny_pure ⟨plainId_quiet F.plain_max_loop _, ?_⟩
    by_cases hz : ns = []
    · subst hz
      have gI : ((s1.heap.push { cls := .type "list_iterator", data := .fields #[.ref a, .int 0 0] }).push { cls := .type "list", data := .seq #[] }).get? s1.heap.objs.size = some { cls := .type "list_iterator", data := .fields #[.ref a, .int 0 0] } := Heap.get?_push_of_some _ (Heap.get?_push_size _ rfl)
      have gS : ((s1.heap.push { cls := .type "list_iterator", data := .fields #[.ref a, .int 0 0] }).push { cls := .type "list", data := .seq #[] }).get? (s1.heap.push { cls := .type "list_iterator", data := .fields #[.ref a, .int 0 0] }).objs.size = some { cls := .type "list", data := .seq #[] } := Heap.get?_push_size _ rfl
      have e0 : its = [] := by cases rv; rfl
      subst e0
      have nS : (s1.heap.push { cls := .type "list_iterator", data := .fields #[.ref a, .int 0 0] }).objs.size ∉ [s1.heap.objs.size, a] := by
        rw [sz]
        simp only [List.mem_cons, List.not_mem_nil, or_false, not_or]
        exact ⟨Nat.succ_ne_self _, Nat.ne_of_gt (Nat.lt_succ_of_lt hlt)⟩
      refine maxl_none (Walks.list (prog := X.prog) (w := X.w) (A := X.A.in1) (I.ok.hd hc) s1.heap.objs.size a (Nat.ne_of_lt hlt) ([] : List Value).toArray) _ nS ⟨⟨_, gI, rfl, rfl⟩, (hl.push _).push _⟩ gS fun h' tk hk => ?_
      refine ⟨.int 0, H1, I1.kept fun b o e => hk b o ?_ ?_ (Heap.get?_push_of_some _ (Heap.get?_push_of_some _ e)), ⟨_, rfl⟩, q⟩
      · simp only [List.mem_cons, List.not_mem_nil, or_false]
        exact Nat.ne_of_lt (Heap.lt_size e)
      · rw [sz]
        exact Nat.ne_of_lt (Nat.lt_succ_of_lt (Heap.lt_size e))
    · have q' : Q (.int (maxL ns)) H1 := by unfold max0 at q; rw [if_neg hz] at q; exact q
      have := max_core (E := X.xe) (kw := [("default", .int 0 s1.toks)]) hc I2 ha hz q'
      rw [← sz] at this
      exact this
  · rw [starEach_of hn]; rfl
  · exact backTo_any hn
end
end L2
set_option Elab.async false
set_option linter.all false
set_option maxRecDepth 100000
namespace L2
open PySem PySem.Spec PyProof.Rows
section
variable {X : Cx}
def rGetL : V → V → Hp → VK → Prop := fun o i H Q => ∃ p xs k v, o = .ref p ∧ i = .int k ∧ H p = some (.lst xs) ∧ 0 ≤ k ∧ xs[k.toNat]? = some v ∧ Q v H
theorem get_lst : PGet X rGetL := by
  intro pins s σ H o i ov iv Q I ro ri h
  obtain ⟨p, xs, k, v, rfl, rfl, hp, h0, hv, q⟩ := h
  cases ro
  obtain ⟨t, rfl⟩ := ri
  obtain ⟨its, rv, hl, hlt⟩ := lst_iter I hp
  obtain ⟨u, hu, ru⟩ := rv.get hv
  have hlen := rv.length
  obtain ⟨hz, _⟩ := I.hok p _ hp
  have hk : k.toNat < xs.length := (List.getElem?_eq_some_iff.mp hv).1
  have h63 := line63
  exact wpAny_getItem_list hl h0 (by omega) (by simpa using hu) ⟨v, H, I, ru, q⟩
end
end L2
set_option Elab.async false
set_option linter.all false
set_option maxRecDepth 100000
namespace NP
open PySem L2
def rowOf (n : Nat) (f : Nat → Int) : List Int := (List.range n).map f
theorem rowOf_len (n : Nat) (f : Nat → Int) : (rowOf n f).length = n := by simp [rowOf]
theorem rowOf_get {n : Nat} {f : Nat → Int} {i : Nat} (h : i < n) : (rowOf n f)[i]? = some (f i) := by simp [rowOf, h]
theorem rowOf_getD {n : Nat} {f : Nat → Int} {i : Nat} (h : i < n) : (rowOf n f).getD i 0 = f i := by rw [List.getD_eq_getElem?_getD, rowOf_get h]; rfl
theorem rowOf_eq {n : Nat} {f g : Nat → Int} (h : ∀ i, i < n → f i = g i) : rowOf n f = rowOf n g := by
  apply List.ext_getElem?
  intro i
  by_cases hi : i < n
  · rw [rowOf_get hi, rowOf_get hi, h i hi]
  · rw [List.getElem?_eq_none (by rw [rowOf_len]; omega), List.getElem?_eq_none (by rw [rowOf_len]; omega)]
theorem rowOf_set {n : Nat} {f : Nat → Int} {j : Nat} {v : Int} : (rowOf n f).set j v = rowOf n fun d => if d = j then v else f d := by
  apply List.ext_getElem?
  intro i
  by_cases hi : i < n
  · rw [rowOf_get hi]
    by_cases hj : j = i
    · subst hj
      rw [List.getElem?_set_self (by rw [rowOf_len]; exact hi), if_pos rfl]
    · rw [List.getElem?_set_ne hj, rowOf_get hi, if_neg (fun e => hj e.symm)]
  · rw [List.getElem?_eq_none (by rw [List.length_set, rowOf_len]; omega), List.getElem?_eq_none (by rw [rowOf_len]; omega)]
theorem rowOf_succ (n : Nat) (f : Nat → Int) : rowOf (n + 1) f = rowOf n f ++ [f n] := by
  unfold rowOf
  rw [List.range_succ, List.map_append]
  rfl
theorem rep_zero (k : Nat) : (List.replicate k [V.int 0]).flatten = (rowOf k fun _ => 0).map V.int := by
  induction k with
  | zero => rfl
  | succ k ih =>
    rw [List.replicate_succ', List.flatten_append, ih, rowOf_succ, List.map_append]
    rfl
def sumF {α : Type} (f : α → Int) (xs : List α) : Int := (xs.map f).sum
theorem sumF_nil {α : Type} (f : α → Int) : sumF f [] = 0 := rfl
theorem sumF_app {α : Type} (f : α → Int) (xs ys : List α) : sumF f (xs ++ ys) = sumF f xs + sumF f ys := by unfold sumF; rw [List.map_append, List.sum_append]
theorem sumF_one {α : Type} (f : α → Int) (x : α) : sumF f [x] = f x := by simp [sumF]
theorem sumF_cons {α : Type} (f : α → Int) (x : α) (xs : List α) : sumF f (x :: xs) = f x + sumF f xs := by simp [sumF]
theorem sumF_take {α : Type} (f : α → Int) {xs : List α} {i : Nat} {x : α} (h : xs[i]? = some x) : sumF f (xs.take (i + 1)) = sumF f (xs.take i) + f x := by
  rw [List.take_add_one, h, sumF_app]
  rw [show (some x).toList = [x] from rfl, sumF_one]
theorem sumF_zero {α : Type} {f : α → Int} {xs : List α} (h : ∀ x ∈ xs, f x = 0) : sumF f xs = 0 := by
  induction xs with
  | nil => rfl
  | cons x r ih => rw [sumF_cons, h x List.mem_cons_self, ih fun y hy => h y (List.mem_cons_of_mem _ hy)]; rfl
theorem sumF_congr {α : Type} {f g : α → Int} {xs : List α} (h : ∀ x ∈ xs, f x = g x) : sumF f xs = sumF g xs := by
  induction xs with
  | nil => rfl
  | cons x r ih => rw [sumF_cons, sumF_cons, h x List.mem_cons_self, ih fun y hy => h y (List.mem_cons_of_mem _ hy)]
def daysN (S : Sh) : Nat := (1 + max0 (S.wants.map fun u => u.2.1)).toNat
theorem max0_nn {ns : List Int} (h : ∀ x ∈ ns, 0 ≤ x) : 0 ≤ max0 ns := by
  unfold max0
  split
  · exact Int.le_refl _
  · rename_i hn
    exact h _ (maxL_mem hn)
theorem max0_ge {ns : List Int} {x : Int} (h : x ∈ ns) : x ≤ max0 ns := by
  unfold max0
  rw [if_neg (List.ne_nil_of_mem h)]
  exact maxL_ge h
theorem max0_lt {ns : List Int} {b : Int} (hb : 0 < b) (h : ∀ x ∈ ns, x < b) : max0 ns < b := by
  unfold max0
  split
  · exact hb
  · rename_i hn
    exact h _ (maxL_mem hn)
theorem max0_cons (ns : List Int) (h : ∀ x ∈ ns, 0 ≤ x) : maxL (0 :: ns) = max0 ns := by
  refine maxL_eq ?_ (fun x hx => ?_)
  · unfold max0
    split
    · exact List.mem_cons_self
    · rename_i hn
      exact List.mem_cons_of_mem _ (maxL_mem hn)
  · rcases List.mem_cons.mp hx with e | m
    · rw [e]; exact max0_nn h
    · exact max0_ge m
def wAt (nm : Str) (d : Nat) (u : Wt) : Int := if u.1 = nm ∧ u.2.1 = (d : Int) then u.2.2 else 0
def cAt (d : Nat) (p : Int × Int) : Int := if p.1 = (d : Int) then p.2 else 0
def bAt (lots : List Int) (lag : Int) (d : Nat) : Int := if d + lag.toNat < lots.length then lots.getD (d + lag.toNat) 0 else 0
def begunRow (lots : List Int) (lag : Int) : List Int := rowOf lots.length (bAt lots lag)
theorem begun_eq (lots : List Int) (lag : Int) : lots.drop lag.toNat ++ rowOf (min lag.toNat lots.length) (fun _ => 0) = begunRow lots lag := by
  unfold begunRow bAt
  apply List.ext_getElem?
  intro i
  by_cases hi : i < lots.length
  · rw [rowOf_get hi]
    by_cases h : i + lag.toNat < lots.length
    · rw [if_pos h, List.getElem?_append_left (by rw [List.length_drop]; omega), List.getElem?_drop, Nat.add_comm lag.toNat i, List.getElem?_eq_getElem h, List.getD_eq_getElem?_getD, List.getElem?_eq_getElem h]
      rfl
    · rw [if_neg h, List.getElem?_append_right (by rw [List.length_drop]; omega), List.length_drop, rowOf_get (by omega)]
  · rw [List.getElem?_eq_none (by rw [List.length_append, List.length_drop, rowOf_len]; omega), List.getElem?_eq_none (by rw [rowOf_len]; omega)]
def pAt (plan : Str → List Int) (nm : Str) (d : Nat) (w : Wr) : Int := sumF (fun p : Str × Int => if p.1 = nm then p.2 * bAt (plan w.name) w.lag d else 0) w.parts
def needAt (S : Sh) (plan : Str → List Int) (nm : Str) (d : Nat) : Int := sumF (wAt nm d) S.wants + sumF (pAt plan nm d) S.wares
def needsRow (S : Sh) (plan : Str → List Int) (nm : Str) : List Int := rowOf (daysN S) (needAt S plan nm)
def arrAt (w : Wr) (d : Nat) : Int := (if d = 0 then w.stock else 0) + sumF (cAt d) w.coming
def chAt (S : Sh) (plan : Str → List Int) (w : Wr) (d : Nat) : Int := arrAt w d + w.gives * (plan w.name).getD d 0 - needAt S plan w.name d
def upS (f : Nat → Int) : Nat → Int
  | 0 => 0
  | d + 1 => upS f d + f d
end NP
set_option Elab.async false
set_option linter.all false
set_option maxRecDepth 100000
namespace L2
open PySem PySem.Spec PyProof.Rows
def ItI (a : Addr) (o : Obj) (kvs : List (Key × V)) : It := ⟨fun i H => H a = some (.frz o (.dK kvs)) ∧ i < kvs.length, fun i H x H' => ∃ p k v, x = .ref p ∧ H p = none ∧ kvs[i]? = some (k, v) ∧ H' = upd H p (.tup [kV k, v]), fun i H => H a = some (.frz o (.dK kvs)) ∧ kvs.length ≤ i⟩
theorem kv_at {κ : Type} : ∀ {kvs : List (κ × V)} {vs : List (κ × Value)} {i : Nat} {k : κ} {v : V}, KV kvs vs → kvs[i]? = some (k, v) → ∃ u, vs[i]? = some (k, u) ∧ RelV v u
  | _, _, _, _, _, .nil, e => by simp at e
  | _, (k', u') :: _, 0, k, v, .cons r _, e => by
    simp at e
    subst e
    exact ⟨u', by simp; exact r.1.symm, r.2⟩
  | _, _ :: _, i + 1, k, v, .cons _ t, e => by
    obtain ⟨u, h, q⟩ := kv_at (i := i) t (by simpa using e)
    exact ⟨u, by simpa using h, q⟩
section
variable {X : Cx}
def iItm (te : TE) : TI := fun σ H R => te σ H fun x H1 => ∃ a kvs, x = .ref a ∧ H1 a = some (.dK kvs) ∧ ∀ o, R (ItI a o kvs) (upd H1 a (.frz o (.dK kvs)))
def LikeK (H : Hp) (ka kb : List (Key × V)) : Prop := ∀ p ∈ ka, ∃ y d e, valV kb p.1 = some y ∧ RD H d p.2 ∧ RD H e y ∧ okD d = true ∧ okD e = true ∧ PyData.eqv d e = true
def rEqK : R2 := fun x y H Q => ∃ a b ka kb, x = .ref a ∧ y = .ref b ∧ Rd H a (.dK ka) ∧ Rd H b (.dK kb) ∧ ka.length = kb.length ∧ LikeK H ka kb ∧ Q (.bl true) H
def rNeK : R2 := fun x y H Q => ∃ a b ka kb, x = .ref a ∧ y = .ref b ∧ Rd H a (.dK ka) ∧ Rd H b (.dK kb) ∧ ka.length = kb.length ∧ LikeK H ka kb ∧ Q (.bl false) H
end
end L2
set_option Elab.async false
set_option linter.all false
set_option maxRecDepth 100000
namespace L2
open PySem PySem.Spec PyProof.Rows PySem.W NP
def KasOk (n : Nat) (key : Nat → Int) {α : Type} : KasT α → (α → Prop) → Prop
  | .ret a, Q => Q a
  | .ask i j k, Q => i < n ∧ j < n ∧ KasOk n key (k (decide (key i < key j))) Q
theorem kasOk_bind {n : Nat} {key : Nat → Int} {α β : Type} {f : α → KasT β} {Q : β → Prop} : ∀ {t : KasT α}, KasOk n key t (fun a => KasOk n key (f a) Q) → KasOk n key (t.bind f) Q
  | .ret _, h => h
  | .ask _ _ _, ⟨h1, h2, h3⟩ => ⟨h1, h2, kasOk_bind h3⟩
theorem kasOk_mono {n : Nat} {key : Nat → Int} {α : Type} {Q Q' : α → Prop} (hq : ∀ a, Q a → Q' a) : ∀ {t : KasT α}, KasOk n key t Q → KasOk n key t Q'
  | .ret _, h => hq _ h
  | .ask _ _ _, ⟨h1, h2, h3⟩ => ⟨h1, h2, kasOk_mono hq h3⟩
def klt (key : Nat → Int) (a b : Nat) : Prop := key a < key b ∨ (key a = key b ∧ a < b)
theorem klt_trans {key : Nat → Int} {a b c : Nat} (h1 : klt key a b) (h2 : klt key b c) : klt key a c := by unfold klt at *; omega
theorem klt_le {key : Nat → Int} {a b : Nat} (h : klt key a b) : key a ≤ key b := by unfold klt at h; omega
section
variable {n : Nat} {key : Nat → Int}
abbrev pat (p : Array Nat) (k : Nat) : Nat := p.getD k 0
theorem pat_rev {p : Array Nat} {i j : Nat} (hj : j ≤ p.size) (k : Nat) : pat (kas_rev p i j) k = if i ≤ k ∧ k < j then pat p (i + j - 1 - k) else pat p k := by
  have e := getElem?_mirror_all (i := i) hj k
  unfold pat kas_rev
  rw [Array.getD_eq_getD_getElem?, e]
  by_cases h1 : i ≤ k ∧ k < j
  · rw [if_pos h1, if_pos h1, Array.getD_eq_getD_getElem?]
  · rw [if_neg h1, if_neg h1, Array.getD_eq_getD_getElem?]
theorem pat_bub {p : Array Nat} {src d : Nat} (hs : src < p.size) (hd : d ≤ src) (k : Nat) : pat (bubble p src d) k = if k = src - d then pat p src else if src - d < k ∧ k ≤ src then pat p (k - 1) else pat p k := by
  have e := getElem?_bubble hs d hd k
  unfold pat
  rw [Array.getD_eq_getD_getElem?, e]
  by_cases h1 : k = src - d
  · rw [if_pos h1, if_pos h1, Array.getD_eq_getD_getElem?]
  · rw [if_neg h1, if_neg h1]
    by_cases h2 : src - d < k ∧ k ≤ src
    · rw [if_pos h2, if_pos h2, Array.getD_eq_getD_getElem?]
    · rw [if_neg h2, if_neg h2, Array.getD_eq_getD_getElem?]
theorem rev_size (p : Array Nat) (i j : Nat) : (kas_rev p i j).size = p.size := mirror_size _ _ _ _
theorem rev_perm (p : Array Nat) (i j : Nat) : (kas_rev p i j).toList.Perm p.toList := Array.perm_iff_toList_perm.mp (mirror_perm _ _ _ _)
structure Srt (n : Nat) (key : Nat → Int) (p : Array Nat) (m : Nat) : Prop where
  sz : p.size = n
  pm : p.toList.Perm (List.range n)
  up : ∀ i j, i < j → j < m → klt key (pat p i) (pat p j)
  fix : ∀ k, m ≤ k → k < n → pat p k = k
  low : ∀ k, k < m → pat p k < m
theorem Srt.lt {p : Array Nat} {m : Nat} (h : Srt n key p m) {k : Nat} (hm : m ≤ n) (hk : k < n) : pat p k < n := by
  by_cases z : k < m
  · have := h.low k z; omega
  · rw [h.fix k (by omega) hk]; exact hk
theorem asc_ok : ∀ (f : Nat) {p : Array Nat} {m : Nat}, Srt n key p m → 1 ≤ m → m + f = n → KasOk n key (kas_asc p f m) fun m' => m ≤ m' ∧ m' ≤ n ∧ Srt n key p m' ∧ (m' < n → key (pat p m') < key (pat p (m' - 1)))
  | 0, p, m, h, h1, h2 => ⟨Nat.le_refl _, by omega, h, fun z => by omega⟩
  | f + 1, p, m, h, h1, h2 => by
    refine ⟨h.lt (by omega) (by omega), h.lt (by omega) (by omega), ?_⟩
    show KasOk n key (if decide (key (pat p m) < key (pat p (m - 1))) = true then _ else _) _
    by_cases c : key (pat p m) < key (pat p (m - 1))
    · rw [decide_eq_true c, if_pos rfl]
      exact ⟨Nat.le_refl _, by omega, h, fun _ => c⟩
    · rw [decide_eq_false c, if_neg (by decide)]
      have e := h.fix m (Nat.le_refl _) (by omega)
      have h' : Srt n key p (m + 1) := ⟨h.sz, h.pm, fun i j hij hj => by
          by_cases z : j < m
          · exact h.up i j hij z
          · have ej : j = m := by omega
            subst ej
            have l1 : klt key (pat p (j - 1)) (pat p j) := by
              have := h.low (j - 1) (by omega)
              unfold klt
              rw [e] at c ⊢
              omega
            by_cases y : i = j - 1
            · rw [y]; exact l1
            · exact klt_trans (h.up i (j - 1) (by omega) (by omega)) l1, fun k hk hkn => h.fix k (by omega) hkn, fun k hk => by
          by_cases z : k < m
          · have := h.low k z; omega
          · have ek : k = m := by omega
            rw [ek, e]; omega⟩
      exact kasOk_mono (fun a ⟨a1, a2, a3, a4⟩ => ⟨by omega, a2, a3, a4⟩) (asc_ok f h' (by omega) (by omega))
structure Fal (n : Nat) (key : Nat → Int) (p : Array Nat) (m q : Nat) : Prop where
  sz : p.size = n
  pm : p.toList.Perm (List.range n)
  q1 : q + 1 ≤ m
  m1 : m ≤ n
  dn : ∀ i j, i < j → j < m - (q + 1) → klt key (pat p j) (pat p i)
  fix : ∀ k, m - (q + 1) ≤ k → k < n → pat p k = k
  low : ∀ k, k < m - (q + 1) → pat p k < m - (q + 1)
  cr : ∀ i, i < m - (q + 1) → key (m - 1) < key (pat p i)
  eq : ∀ k, m - (q + 1) ≤ k → k < m → key k = key (m - 1)
structure Dwn (n : Nat) (key : Nat → Int) (p : Array Nat) (m : Nat) : Prop where
  sz : p.size = n
  pm : p.toList.Perm (List.range n)
  dn : ∀ i j, i < j → j < m → klt key (pat p j) (pat p i)
  fix : ∀ k, m ≤ k → k < n → pat p k = k
  low : ∀ k, k < m → pat p k < m
  last : ∀ i, i < m → key (m - 1) ≤ key (pat p i)
theorem Fal.turn {p : Array Nat} {m q : Nat} (h : Fal n key p m q) : Dwn n key (kas_rev p (m - (q + 1)) m) m := by
  have hm := h.m1
  have h1 := h.q1
  have pr := fun k => pat_rev (p := p) (i := m - (q + 1)) (j := m) (by rw [h.sz]; exact hm) k
  refine ⟨by rw [rev_size, h.sz], (rev_perm _ _ _).trans h.pm, fun i j hij hj => ?_, fun k hk hkn => ?_, fun k hk => ?_, fun i hi => ?_⟩
  · have vi1 : m - (q + 1) ≤ i → pat (kas_rev p (m - (q + 1)) m) i = m - (q + 1) + m - 1 - i := fun a => by rw [pr i, if_pos ⟨a, by omega⟩]; exact h.fix _ (by omega) (by omega)
    have vi2 : ¬ m - (q + 1) ≤ i → pat (kas_rev p (m - (q + 1)) m) i = pat p i := fun a => by rw [pr i, if_neg (fun z => a z.1)]
    have vj1 : m - (q + 1) ≤ j → pat (kas_rev p (m - (q + 1)) m) j = m - (q + 1) + m - 1 - j := fun a => by rw [pr j, if_pos ⟨a, hj⟩]; exact h.fix _ (by omega) (by omega)
    have vj2 : ¬ m - (q + 1) ≤ j → pat (kas_rev p (m - (q + 1)) m) j = pat p j := fun a => by rw [pr j, if_neg (fun z => a z.1)]
    by_cases a : m - (q + 1) ≤ i
    · rw [vi1 a, vj1 (by omega)]
      have e1 := h.eq (m - (q + 1) + m - 1 - i) (by omega) (by omega)
      have e2 := h.eq (m - (q + 1) + m - 1 - j) (by omega) (by omega)
      unfold klt
      omega
    · rw [vi2 a]
      by_cases b : m - (q + 1) ≤ j
      · rw [vj1 b]
        have e2 := h.eq (m - (q + 1) + m - 1 - j) (by omega) (by omega)
        have e3 := h.cr i (by omega)
        unfold klt
        omega
      · rw [vj2 b]
        exact h.dn i j hij (by omega)
  · rw [pr k, if_neg (by omega)]
    exact h.fix k (by omega) hkn
  · rw [pr k]
    split
    · rw [h.fix _ (by omega) (by omega)]; omega
    · have := h.low k (by omega); omega
  · rw [pr i]
    split
    · rw [h.fix _ (by omega) (by omega)]
      have := h.eq (m - (q + 1) + m - 1 - i) (by omega) (by omega)
      omega
    · have := h.cr i (by omega); omega
theorem Fal.one {p : Array Nat} {m : Nat} (h : Fal n key p m 0) : Dwn n key p m := by
  have hm := h.m1
  have h1 := h.q1
  have e := h.fix (m - 1) (by omega) (by omega)
  refine ⟨h.sz, h.pm, fun i j hij hj => ?_, fun k hk hkn => h.fix k (by omega) hkn, fun k hk => ?_, fun i hi => ?_⟩
  · by_cases z : j = m - 1
    · rw [z, e]
      have := h.cr i (by omega)
      exact .inl this
    · exact h.dn i j hij (by omega)
  · by_cases z : k = m - 1
    · rw [z, e]; omega
    · have := h.low k (by omega); omega
  · by_cases z : i = m - 1
    · rw [z, e]; exact Int.le_refl _
    · have := h.cr i (by omega); omega
theorem Dwn.next {p : Array Nat} {m : Nat} (h : Dwn n key p m) (h1 : 1 ≤ m) (hm : m < n) (c : key m < key (m - 1)) : Fal n key p (m + 1) 0 :=
  ⟨h.sz, h.pm, by omega, by omega, fun i j hij hj => h.dn i j hij (by omega), fun k hk hkn => h.fix k (by omega) hkn, fun k hk => by have := h.low k (by omega); omega, fun i hi => by
    have := h.last i (by omega)
    show key m < _
    omega, fun k hk hk2 => by
    have : k = m := by omega
    subst this
    rfl⟩
theorem desc_ok : ∀ (f : Nat) {p : Array Nat} {m q : Nat}, Fal n key p m q → m + f = n → KasOk n key (kas_desc f p m q) fun r => Fal n key r.1 r.2.1 r.2.2
  | 0, p, m, q, h, _ => h
  | f + 1, p, m, q, h, hf => by
    have h1 := h.q1
    have e1 := h.fix m (by omega) (by omega)
    have e2 := h.fix (m - 1) (by omega) (by omega)
    refine ⟨by show pat p m < n; omega, by show pat p (m - 1) < n; omega, ?_⟩
    show KasOk n key (if decide (key (pat p m) < key (pat p (m - 1))) = true then _ else _) _
    rw [e1, e2]
    by_cases c : key m < key (m - 1)
    · rw [decide_eq_true c, if_pos rfl]
      by_cases hq : q > 0
      · rw [if_pos hq]
        exact desc_ok f (h.turn.next (by omega) (by omega) c) (by omega)
      · rw [if_neg hq]
        have q0 : q = 0 := by omega
        subst q0
        exact desc_ok f (h.one.next (by omega) (by omega) c) (by omega)
    · rw [decide_eq_false c, if_neg (by decide)]
      refine ⟨by show pat p (m - 1) < n; omega, by show pat p m < n; omega, ?_⟩
      show KasOk n key (if decide (key (pat p (m - 1)) < key (pat p m)) = true then _ else _) _
      rw [e1, e2]
      by_cases d : key (m - 1) < key m
      · rw [decide_eq_true d, if_pos rfl]
        exact h
      · rw [decide_eq_false d, if_neg (by decide)]
        have ek : key m = key (m - 1) := by omega
        refine desc_ok f ⟨h.sz, h.pm, by omega, by omega, fun i j hij hj => h.dn i j hij (by omega), fun k hk hkn => h.fix k (by omega) hkn, fun k hk => by have := h.low k (by omega); omega, fun i hi => by have := h.cr i (by omega); show key m < _; omega, fun k hk hk2 => ?_⟩ (by omega)
        show key k = key m
        by_cases z : k = m
        · rw [z]
        · rw [ek]; exact h.eq k (by omega) (by omega)
theorem tail_ok {p : Array Nat} {m : Nat} (h : Dwn n key p m) (h1 : 1 ≤ m) (hm : m ≤ n) : KasOk n key (kas_tail3 m n p) fun r => 1 ≤ r.1 ∧ r.1 ≤ n ∧ Srt n key r.2 r.1 := by
  have pr := fun k => pat_rev (p := p) (i := 0) (j := m) (by rw [h.sz]; exact hm) k
  have hs : Srt n key (kas_rev p 0 m) m := by
    refine ⟨by rw [rev_size, h.sz], (rev_perm _ _ _).trans h.pm, fun i j hij hj => ?_, fun k hk hkn => ?_, fun k hk => ?_⟩
    · rw [pr i, pr j, if_pos ⟨by omega, by omega⟩, if_pos ⟨by omega, by omega⟩]
      exact h.dn _ _ (by omega) (by omega)
    · rw [pr k, if_neg (by omega)]
      exact h.fix k hk hkn
    · rw [pr k, if_pos ⟨by omega, hk⟩]
      exact h.low _ (by omega)
  exact kasOk_bind (kasOk_mono (fun a ⟨a1, a2, a3, _⟩ => ⟨by show 1 ≤ a; omega, a2, a3⟩) (asc_ok (n - m) hs h1 (by omega)))
theorem part_ok {p : Array Nat} {m : Nat} (h : Fal n key p (m + 1) 0) : KasOk n key (kas_descPart m n p) fun r => 1 ≤ r.1 ∧ r.1 ≤ n ∧ Srt n key r.2 r.1 := by
  have := h.m1
  refine kasOk_bind (kasOk_mono (fun r hr => ?_) (desc_ok (n - (m + 1)) h (by omega)))
  have r1 := hr.q1
  have r2 := hr.m1
  by_cases z : r.2.2 > 0
  · rw [if_pos z]
    exact tail_ok hr.turn (by omega) r2
  · rw [if_neg z]
    have q0 : r.2.2 = 0 := by omega
    rw [q0] at hr
    exact tail_ok hr.one (by omega) r2
theorem range_pat {k : Nat} (h : k < n) : pat (List.toArray (List.range n)) k = k := by
  unfold pat
  rw [Array.getD_eq_getD_getElem?]
  simp [h]
theorem count_ok (h2 : 2 ≤ n) : KasOk n key (kas_count n (List.toArray (List.range n))) fun r => 1 ≤ r.1 ∧ r.1 ≤ n ∧ Srt n key r.2 r.1 := by
  have s0 : Srt n key (List.toArray (List.range n)) 1 := ⟨by simp, by simp, fun i j hij hj => by omega, fun k _ hk => range_pat hk, fun k hk => by rw [range_pat (by omega)]; exact hk⟩
  refine kasOk_bind (kasOk_mono (fun m hm => ?_) (asc_ok (n - 1) s0 (Nat.le_refl _) (by omega)))
  obtain ⟨a1, a2, a3, a4⟩ := hm
  by_cases z : m = n
  · rw [if_pos (by rw [z]; simp)]
    exact ⟨a1, a2, a3⟩
  · rw [if_neg (by simpa using z)]
    have c := a4 (by omega)
    rw [range_pat (by omega), range_pat (by omega)] at c
    by_cases y : m > 1
    · rw [if_pos y]
      have g0 : pat (List.toArray (List.range n)) 0 = 0 := range_pat (by omega)
      have g1 : pat (List.toArray (List.range n)) (m - 1) = m - 1 := range_pat (by omega)
      refine ⟨by show pat (List.toArray (List.range n)) 0 < n; omega, by show pat (List.toArray (List.range n)) (m - 1) < n; omega, ?_⟩
      show KasOk n key (if decide (key (pat (List.toArray (List.range n)) 0) < key (pat (List.toArray (List.range n)) (m - 1))) = true then _ else _) _
      rw [g0, g1]
      by_cases d : key 0 < key (m - 1)
      · rw [decide_eq_true d, if_pos rfl]
        exact ⟨a1, a2, a3⟩
      · rw [decide_eq_false d, if_neg (by decide)]
        have up : ∀ i, i < m → key 0 ≤ key i ∧ key i ≤ key (m - 1) := fun i hi => by
          constructor
          · by_cases w : i = 0
            · rw [w]; exact Int.le_refl _
            · have := klt_le (a3.up 0 i (by omega) hi)
              rw [range_pat (by omega), range_pat (by omega)] at this
              exact this
          · by_cases w : i = m - 1
            · rw [w]; exact Int.le_refl _
            · have := klt_le (a3.up i (m - 1) (by omega) (by omega))
              rw [range_pat (by omega), range_pat (by omega)] at this
              exact this
        have al : ∀ i, i < m → key i = key (m - 1) := fun i hi => by have := up i hi; omega
        have pr := fun k => pat_rev (p := List.toArray (List.range n)) (i := 0) (j := m) (by simp; omega) k
        have dw : Dwn n key (kas_rev (List.toArray (List.range n)) 0 m) m := by
          refine ⟨by rw [rev_size]; simp, (rev_perm _ _ _).trans (by simp), fun i j hij hj => ?_, fun k hk hkn => ?_, fun k hk => ?_, fun i hi => ?_⟩
          · rw [pr i, pr j, if_pos ⟨by omega, by omega⟩, if_pos ⟨by omega, by omega⟩, range_pat (by omega), range_pat (by omega)]
            have e1 := al (0 + m - 1 - i) (by omega)
            have e2 := al (0 + m - 1 - j) (by omega)
            unfold klt
            omega
          · rw [pr k, if_neg (by omega), range_pat hkn]
          · rw [pr k, if_pos ⟨by omega, hk⟩, range_pat (by omega)]; omega
          · rw [pr i, if_pos ⟨by omega, hi⟩, range_pat (by omega)]
            have := al (0 + m - 1 - i) (by omega)
            omega
        exact part_ok (dw.next (by omega) (by omega) c)
    · rw [if_neg y]
      have m1 : m = 1 := by omega
      subst m1
      have dw : Dwn n key (List.toArray (List.range n)) 1 := ⟨by simp, by simp, fun i j hij hj => by omega, fun k _ hk => range_pat hk, fun k hk => by rw [range_pat (by omega)]; exact hk, fun i hi => by
        rw [range_pat (by omega)]
        have : i = 0 := by omega
        rw [this]
        exact Int.le_refl _⟩
      exact part_ok (dw.next (by omega) (by omega) c)
theorem place_ok {p : Array Nat} {k : Nat} (h : Srt n key p k) (hk : k < n) : ∀ (f l r : Nat), l ≤ r → r ≤ k → r - l ≤ f → (∀ i, i < l → key (pat p i) ≤ key k) → (∀ i, r ≤ i → i < k → key k < key (pat p i)) → KasOk n key (kas_place p k f l r) fun l' => l' ≤ k ∧ (∀ i, i < l' → key (pat p i) ≤ key k) ∧ ∀ i, l' ≤ i → i < k → key k < key (pat p i)
  | 0, l, r, h1, h2, h3, h4, h5 => ⟨by omega, h4, fun i hi => h5 i (by omega)⟩
  | f + 1, l, r, h1, h2, h3, h4, h5 => by
    show KasOk n key (if l ≥ r then _ else _) _
    by_cases z : l ≥ r
    · rw [if_pos z]
      exact ⟨by omega, h4, fun i hi => h5 i (by omega)⟩
    · rw [if_neg z]
      have e := h.fix k (Nat.le_refl _) hk
      refine ⟨by show pat p k < n; omega, by have := h.low ((l + r) / 2) (by omega); show pat p ((l + r) / 2) < n; omega, ?_⟩
      show KasOk n key (if decide (key (pat p k) < key (pat p ((l + r) / 2))) = true then _ else _) _
      rw [e]
      have mono : ∀ i j, i ≤ j → j < k → key (pat p i) ≤ key (pat p j) := fun i j hij hj => by
        by_cases y : i = j
        · rw [y]; exact Int.le_refl _
        · exact klt_le (h.up i j (by omega) hj)
      by_cases c : key k < key (pat p ((l + r) / 2))
      · rw [decide_eq_true c, if_pos rfl]
        exact place_ok h hk f l ((l + r) / 2) (by omega) (by omega) (by omega) h4 fun i hi hik => by have := mono _ i hi hik; omega
      · rw [decide_eq_false c, if_neg (by decide)]
        exact place_ok h hk f ((l + r) / 2 + 1) r (by omega) h2 (by omega) (fun i hi => by have := mono i ((l + r) / 2) (by omega) (by omega); omega) h5
theorem bin_ok : ∀ (f : Nat) {p : Array Nat} {k : Nat}, Srt n key p k → k + f = n → KasOk n key (kas_bin f p k) fun p' => Srt n key p' n
  | 0, p, k, h, hf => by
    have : k = n := by omega
    subst this
    exact h
  | f + 1, p, k, h, hf => by
    refine kasOk_bind (kasOk_mono (fun l hl => ?_) (place_ok h (by omega) k 0 k (Nat.zero_le _) (Nat.le_refl _) (by omega) (fun i hi => by omega) (fun i hi hik => by omega)))
    obtain ⟨l1, l2, l3⟩ := hl
    have hs := h.sz
    have pb := fun i => pat_bub (p := p) (src := k) (d := k - l) (by omega) (by omega) i
    have ed : k - (k - l) = l := by omega
    rw [ed] at pb
    have ek := h.fix k (Nat.le_refl _) (by omega)
    refine bin_ok f ⟨by rw [bubble_size, hs], (Array.perm_iff_toList_perm.mp (bubble_perm _ _ _)).trans h.pm, fun i j hij hj => ?_, fun i hi hin => ?_, fun i hi => ?_⟩ (by omega)
    · rw [pb i, pb j]
      by_cases a : i = l
      · rw [if_pos a, if_neg (by omega), if_pos ⟨by omega, by omega⟩, ek]
        have := l3 (j - 1) (by omega) (by omega)
        exact .inl this
      · rw [if_neg a]
        by_cases b : j = l
        · rw [if_pos b, if_neg (by omega), ek]
          have h1 := l2 i (by omega)
          have h2 := h.low i (by omega)
          unfold klt
          omega
        · rw [if_neg b]
          by_cases c : l < i
          · rw [if_pos ⟨c, by omega⟩, if_pos ⟨by omega, by omega⟩]
            exact h.up (i - 1) (j - 1) (by omega) (by omega)
          · rw [if_neg (fun z => c z.1)]
            by_cases d : l < j
            · rw [if_pos ⟨d, by omega⟩]
              exact h.up i (j - 1) (by omega) (by omega)
            · rw [if_neg (fun z => d z.1)]
              exact h.up i j hij (by omega)
    · rw [pb i, if_neg (by omega), if_neg (by omega)]
      exact h.fix i (by omega) hin
    · rw [pb i]
      split
      · rw [ek]; omega
      · split
        · have := h.low (i - 1) (by omega); omega
        · have := h.low i (by omega); omega
theorem sort_ok (h2 : 2 ≤ n) : KasOk n key (kas_sort n) fun p => Srt n key p n := by
  refine kasOk_bind (kasOk_mono (fun r hr => ?_) (count_ok h2))
  obtain ⟨r1, r2, r3⟩ := hr
  by_cases z : r.1 < n
  · rw [if_pos z]
    have e : max r.1 1 = r.1 := by omega
    rw [e]
    exact bin_ok _ r3 (by omega)
  · rw [if_neg z]
    have e : r.1 = n := by omega
    rw [e] at r3
    exact r3
end
theorem kasWp_of {n : Nat} {key : Nat → Int} {α : Type} {cmp : Nat → Nat → (Bool → Shared → Prop) → Shared → Prop} {Qp : α → Prop} {Q : α → Shared → Prop} {s : Shared} (hc : ∀ i j (C : Bool → Shared → Prop), i < n → j < n → C (decide (key i < key j)) s → cmp i j C s) (hq : ∀ a, Qp a → Q a s) : ∀ {t : KasT α}, KasOk n key t Qp → t.kasWp cmp Q s
  | .ret _, h => hq _ h
  | .ask i j k, ⟨h1, h2, h3⟩ => hc i j _ h1 h2 (kasWp_of hc hq h3)
def SortK (kz : Str → Int) (xs ys : List Str) : Prop := ys.Perm xs ∧ ys.Pairwise fun a b => kz a ≤ kz b
def StabK (kz : Str → Int) (xs ys : List Str) : Prop := ∃ ps : List Nat, ps.Perm (List.range xs.length) ∧ ys = ps.map (fun i => xs.getD i "") ∧ ps.Pairwise (klt fun i => kz (xs.getD i ""))
theorem range_getD (xs : List Str) : (List.range xs.length).map (fun i => xs.getD i "") = xs := by
  apply List.ext_getElem?
  intro i
  by_cases hi : i < xs.length
  · rw [List.getElem?_map, List.getElem?_range hi, List.getElem?_eq_getElem hi]
    simp [List.getD_eq_getElem?_getD, hi]
  · rw [List.getElem?_eq_none (by simp; omega), List.getElem?_eq_none (by omega)]
theorem stab_sort {kz : Str → Int} {xs ys : List Str} (h : StabK kz xs ys) : SortK kz xs ys := by
  obtain ⟨ps, h1, rfl, h2⟩ := h
  refine ⟨?_, ?_⟩
  · have := h1.map (fun i => xs.getD i "")
    rw [range_getD] at this
    exact this
  · rw [List.pairwise_map]
    exact h2.imp fun {a b} hab => klt_le hab
theorem stab_small {kz : Str → Int} {xs ys : List Str} (h : ys.Perm xs) (hl : xs.length < 2) : StabK kz xs ys := by
  refine ⟨List.range xs.length, List.Perm.refl _, ?_, ?_⟩
  · rw [range_getD]
    match xs, hl with
    | [], _ => exact List.perm_nil.mp h
    | [x], _ => exact List.perm_singleton.mp h
  · rw [List.pairwise_iff_getElem]
    intro i j hi hj hij
    rw [List.length_range] at hi hj
    omega
theorem srt_pw {n : Nat} {key : Nat → Int} {p : Array Nat} (h : Srt n key p n) : p.toList.Pairwise (klt key) := by
  rw [List.pairwise_iff_getElem]
  intro i j hi hj hij
  rw [Array.length_toList, h.sz] at hi hj
  have := h.up i j hij hj
  unfold pat at this
  rw [Array.getD_eq_getD_getElem?, Array.getD_eq_getD_getElem?, Array.getElem?_eq_getElem (by rw [h.sz]; exact hi), Array.getElem?_eq_getElem (by rw [h.sz]; exact hj)] at this
  simpa using this
end L2
set_option Elab.async false
set_option linter.all false
set_option maxRecDepth 100000
namespace L2
open PySem PySem.Spec PyProof.Rows PySem.W NP
theorem obj_has {P : Program} {w : World} {H : Hp} {h : Heap} {a : Addr} {o : HO} (x : ObjOk P w H h a o) : ∃ ob, h.get? a = some ob := by
  cases o with
  | lst xs => obtain ⟨_, _, _, _, e⟩ := x; exact ⟨_, e⟩
  | tup xs => obtain ⟨_, _, _, o, e, _⟩ := x; exact ⟨_, e⟩
  | dK kvs => obtain ⟨_, _, _, _, o, _, _, e, _⟩ := x; exact ⟨_, e⟩
  | dT kvs => obtain ⟨_, _, _, _, o, _, _, e, _⟩ := x; exact ⟨_, e⟩
  | set S n => obtain ⟨o, _, _, _, e, _⟩ := x; exact ⟨_, e⟩
  | ins C dx fs => obtain ⟨_, _, _, e, _⟩ := x; exact ⟨_, e⟩
  | own y => exact x
  | xd fs => obtain ⟨_, ⟨_, _, _, e, _⟩, _⟩ := x; exact ⟨_, e⟩
  | rng lo hi => obtain ⟨_, _, _, e⟩ := x; exact ⟨_, e⟩
  | frz o u => obtain ⟨e, _⟩ := x; exact ⟨_, e⟩
  | tbl ps => exact ⟨_, x⟩
  | met f y => exact ⟨_, x⟩
  | ext φ => obtain ⟨_, e, _⟩ := x; exact e
def CodeE (c : Addr) (q : Str) : HO := .ext fun h => h.CodeRec (.ref c) q
theorem codeE_ok {P : Program} {w : World} {H : Hp} {h : Heap} {c : Addr} {q : Str} (x : h.CodeRec (.ref c) q) : ObjOk P w H h c (CodeE c q) := by
  obtain ⟨c', o, vs, t, e, ho, r⟩ := id x
  cases e
  refine ⟨x, ⟨o, ho⟩, fun h1 h2 y k => ?_⟩
  obtain ⟨c2, o2, vs2, t2, e2, g2, r2⟩ := y
  cases e2
  exact ⟨c, o2, vs2, t2, rfl, k _ g2, r2⟩
theorem codeE_of {P : Program} {w : World} {H : Hp} {h : Heap} {c : Addr} {q : Str} (ok : HOk P w H h) (e : H c = some (CodeE c q)) : h.CodeRec (.ref c) q := (ok c _ e).1
def TblAt (H : Hp) (P : Addr) (pos : Pos) (q : Str) : Prop := H P = some (.tbl #[]) ∨ ∃ c, H P = some (.tbl #[rawInt pos.line, rawInt pos.col, .ref c]) ∧ H c = some (CodeE c q)
theorem TblAt.same {H H' : Hp} {P : Addr} {pos : Pos} {q : Str} (t : TblAt H P pos q) (s : Same H H') : TblAt H' P pos q := t.elim (fun e => .inl (s _ _ e)) (fun ⟨c, e, e2⟩ => .inr ⟨c, s _ _ e, s _ _ e2⟩)
def BMain (mg : Str → Option Value) (base : Heap) : Prop := ∃ bm ob, mg "__builtins__" = some (.ref bm) ∧ bm ≠ builtinsNs ∧ bm ≠ mainGlobals ∧ base.get? bm = some ob ∧ ob.cls = .type "module" ∧ ob.dict = some builtinsNs ∧ ob.data = .plain
section
variable {X : Cx} {pins : List (Addr × Obj)} {σ : St} {H : Hp} {s : Shared}
theorem lam_make {P c : Addr} {params : Arguments} {body : Expr} {scope : Scope} {pos : Pos} {clos : List (Str × Addr)} {Q : Value → Shared → Prop}
    (I : Inv X pins σ H s) (hcd : X.env.code = .ref c) (hC : codeHdIn X.K c P = true) (hB : BMain X.mg X.base) (t : TblAt H P pos (X.env.qual ++ "<lambda>")) (hdef : defaultsOf params X.env = ([], [])) (hcl : closureFor scope X.env = pure clos)
    (h : ∀ f c' ctv H' s', Inv X pins σ H' s' → s'.heap.get? f = some (kla_obj "<lambda>" (X.env.qual ++ "<lambda>") params body scope clos ((X.mg "__name__").getD .none) c' ctv) → H' f = none → H' c' = some (CodeE c' (X.env.qual ++ "<lambda>")) → TblAt H' P pos (X.env.qual ++ "<lambda>") → But P H H' → Q (.ref f) s') :
    wpAny (model X.prog X.w) X.A (eval (.Lambda params body scope pos) X.env) Q X.xe s := by
  refine kla_eval hdef ?_
  have hHP : ∃ u, H P = some u := t.elim (fun e => ⟨_, e⟩) (fun ⟨c, e, _⟩ => ⟨_, e⟩)
  obtain ⟨u, hu⟩ := hHP
  have neP : ∀ b o, X.base.get? b = some o → b ≠ P := fun b o e z => by rw [z] at e; rw [(I.bs P o e).2] at hu; cases hu
  have C : CodeHd s.heap c P := codeHd_of_K I.kIn hC
  have hg : s.heap.Ns mainGlobals X.mg := I.ok.mod.glob.keeps I.bk
  have hgP : mainGlobals ≠ P := by obtain ⟨o, es, ep, e, _⟩ := I.ok.mod.glob; exact neP _ _ e
  have hb : s.heap.BuiltinsAt X.mg P := by
    obtain ⟨bm, ob, b1, b2, b3, b4, b5⟩ := hB
    exact ⟨bm, ob, b1, b2, b3, neP _ _ b4, I.bk _ _ b4, b5⟩
  rcases t with e | ⟨c', e, ec⟩
  · have hP : s.heap.get? P = some (tabObj #[]) := I.hok P _ e
    refine kla_makeFunction (ps := #[]) hcl I.ok.glob hg hcd C hP trivial rfl hgP hb fun c' ctv h' tk hx hge hlt hrec htb => ?_
    have hc0 : H c' = none := I.hok.fresh hge
    have cP : c' ≠ P := fun z => by rw [z, hu] at hc0; cases hc0
    have k : ∀ b o, b ≠ P → s.heap.get? b = some o → (h'.push (kla_obj "<lambda>" (X.env.qual ++ "<lambda>") params body scope clos ((X.mg "__name__").getD .none) c' ctv)).get? b = some o := fun b o nb eb => Heap.get?_push_of_some _ (hx b o nb eb)
    have hsz : s.heap.objs.size ≤ h'.objs.size := by omega
    have hf : H h'.objs.size = none := I.hok.fresh hsz
    have cf : h'.objs.size ≠ c' := Nat.ne_of_gt hlt
    have fP : h'.objs.size ≠ P := fun z => by rw [z, hu] at hf; cases hf
    refine h h'.objs.size c' ctv (upd (upd H P (.tbl #[rawInt pos.line, rawInt pos.col, .ref c'])) c' (CodeE c' (X.env.qual ++ "<lambda>"))) _ (I.un (t' := tk) ⟨fun b o eb n _ _ => k b o (fun z => by rw [z, hu] at n; cases n) eb, fun b o eb n _ _ => ⟨o.slots, k b o (fun z => by rw [z, hu] at n; cases n) eb⟩, fun b o eb n _ => ?_, fun b o eb _ => ?_, fun b xs eb => ?_, fun b o u' eb => ?_, fun b ps eb => ?_⟩ fun b v eb => ?_) (Heap.get?_push_size _ rfl) ?_ upd_same ?_ ?_
    · rw [upd_ne (Nat.ne_of_lt (Nat.lt_of_lt_of_le (Heap.lt_size eb) hge)), upd_ne (fun z => by rw [z, hu] at n; cases n)]
      exact n
    · by_cases z : b = P
      · rw [z]
        exact ⟨_, Heap.get?_push_of_some _ htb⟩
      · exact ⟨o, k b o z eb⟩
    · rw [upd_ne (ne_of_none eb hc0), upd_ne (fun z => by rw [z, e] at eb; cases eb)]
      exact eb
    · rw [upd_ne (ne_of_none eb hc0), upd_ne (fun z => by rw [z, e] at eb; cases eb)]
      exact eb
    · by_cases z : b = P
      · subst z
        rw [e] at eb
        cases eb
        exact ⟨#[rawInt pos.line, rawInt pos.col, .ref c'], by rw [upd_ne (Ne.symm cP), upd_same]; simp⟩
      · exact ⟨#[], by rw [upd_ne (ne_of_none eb hc0), upd_ne z, eb]; simp⟩
    · by_cases z : b = c'
      · subst z
        rw [upd_same] at eb
        cases eb
        exact codeE_ok (hrec.push _)
      · rw [upd_ne z] at eb
        by_cases z2 : b = P
        · subst z2
          rw [upd_same] at eb
          cases eb
          exact Heap.get?_push_of_some _ htb
        · rw [upd_ne z2] at eb
          refine (I.hok b v eb).stay (fun b' u' hb' q => k b' u' (fun z3 => ?_) q) (fun b' q => ?_) fun b' xs q => ?_
          · rcases hb' with r | r
            · exact z2 (r.symm.trans z3)
            · rw [z3, e] at r; cases r
          · rw [upd_ne (ne_of_none q hc0), upd_ne (fun z3 => by rw [z3, e] at q; cases q)]; exact q
          · rw [upd_ne (ne_of_none q hc0), upd_ne (fun z3 => by rw [z3, e] at q; cases q)]; exact q
    · rw [upd_ne cf, upd_ne fP]
      exact hf
    · exact .inr ⟨c', by rw [upd_ne (Ne.symm cP), upd_same], upd_same⟩
    · exact fun b o nb eb => by rw [upd_ne (ne_of_none eb hc0), upd_ne nb]; exact eb
  · have hP : s.heap.get? P = some (tabObj #[rawInt pos.line, rawInt pos.col, .ref c']) := I.hok P _ e
    refine kla_makeFunctionHit (cv := .ref c') hcl I.ok.glob hg hcd C hP trivial (by simp [codeAmong, rawInt]) hb fun ctv h' tk hk hsz => ?_
    have k : ∀ b o, s.heap.get? b = some o → (h'.push (kla_obj "<lambda>" (X.env.qual ++ "<lambda>") params body scope clos ((X.mg "__name__").getD .none) c' ctv)).get? b = some o := fun b o eb => Heap.get?_push_of_some _ (hk b o eb)
    exact h h'.objs.size c' ctv H _ (I.kept (t' := tk) k) (Heap.get?_push_size _ rfl) (I.hok.fresh hsz) ec (.inr ⟨c', e, ec⟩) (But.refl _ _)
end
section
variable {prog : Program} {w : World} {A : Around} {s : Shared}
theorem lam_key {f c' d cc : Addr} {q nm lv x : Str} {params : Arguments} {scope : Scope} {p1 p2 p3 : Pos} {pm ctv : Value} {k : Int} {t t0 : Tok} {vs : List (Key × Value)}
    (hf : s.heap.get? f = some (kla_obj "<lambda>" q params (.Subscript (.Name lv p1) (.Name nm p2) p3) scope [(lv, cc)] pm c' ctv)) (hrec : s.heap.CodeRec (.ref c') q) (hcell : s.heap.IsCell cc (some (.ref d))) (hd : s.heap.DictOf (mixKind prog w) d vs) (hv : valueAt vs (.inr x) = some (.int k t))
    (hroom : A.depth < recursionLimit) (hlim : s.heap.NoLimit) (hsc : scope.kind = .function ∧ scope.isCoroutine = false ∧ scope.isGenerator = false ∧ scope.names.lookup nm = some .local ∧ scope.names.lookup lv = some .free ∧ ∀ x ∈ scope.names, x.2 ≠ .cell)
    (hbind : bindArgs (kla_fn "<lambda>" q params (.Subscript (.Name lv p1) (.Name nm p2) p3) scope [(lv, cc)] pm (.ref c') ctv) ⟨[.str x t0], []⟩ = pure [(nm, .str x t0)]) (hn1 : (nm == ("__debug__" : Str)) = false := by decide) (hn2 : (lv == ("__debug__" : Str)) = false := by decide) (hn3 : (lv == ("__classdict__" : Str)) = false := by decide) :
    wpAny (model prog w) A (call (.ref f) [.str x t0]) (fun v s' => ∃ h' tk t', s' = { s with heap := h', toks := tk } ∧ v = .int k t' ∧ ∀ b o, s.heap.get? b = some o → h'.get? b = some o) (fun _ _ => False) s := by
  obtain ⟨k1, k2, k3, k4, k5, k6⟩ := hsc
  refine wpAny_call (kla_callFunE hroom hf rfl k2 k3 rfl hrec ?_)
  rw [hbind]
  refine wpAny_pure (wpAny_newFunctionEnv k6 (fun y hy => ?_) (fun h₁ hns hsb => ?_) k1)
  · rw [List.mem_singleton.mp hy]
    exact k4
  have hk : ∀ b o, s.heap.get? b = some o → h₁.get? b = some o := fun b o e => hsb.extBut b o (Nat.ne_of_lt (Heap.lt_size e)) (Heap.get?_push_of_some _ e)
  refine ⟨hlim.fresh _ hsb, kla_codeExpr ?_⟩
  have hd1 : h₁.DictOf (mixKind prog w) d vs := by
    obtain ⟨o, es, ep, ho, r⟩ := hd
    exact ⟨o, es, ep, hk _ _ ho, r⟩
  have hc1 : h₁.IsCell cc (some (.ref d)) := by
    obtain ⟨o, ho, r⟩ := hcell
    exact ⟨o, hk _ _ ho, r⟩
  refine wpAny_Subscript_Name (T := "dict") F.slot_dict_getitem.lookup (wpAny_Name (wpAny_loadName_free k1 k5 (c := cc) (by simp [newEnv]) hc1 (wpAny_Name (wpAny_loadName_local k1 k4 hns (v := .str x t0) (by simp) ⟨hd1.typeIs, ?_⟩) hn1) hn3) hn2)
  refine wpAny_getItem_of (knd := mixKind prog w) (k := .inr x) ?_ hd1.mapOf hv ?_
  · exact kV_is (k := .inr x) ⟨t0, rfl⟩
  · exact ⟨_, _, _, rfl, rfl, hk⟩
end
def strV : Value → Str
  | .str x _ => x
  | _ => ""
theorem vals_str {xs : List Str} {us : List Value} (r : Vals (xs.map V.str) us) : us.map strV = xs ∧ ∀ u ∈ us, ∃ t, u = .str (strV u) t := by
  induction xs generalizing us with
  | nil => cases r; exact ⟨rfl, fun _ h => nomatch h⟩
  | cons x xs ih =>
    cases r with
    | cons r1 r2 =>
      obtain ⟨t, rfl⟩ := r1
      obtain ⟨e, h⟩ := ih r2
      refine ⟨by rw [List.map_cons, e]; rfl, fun u hu => ?_⟩
      rcases List.mem_cons.mp hu with z | z
      · rw [z]; exact ⟨t, rfl⟩
      · exact h u z
theorem vals_of_str : ∀ {us : List Value}, (∀ u ∈ us, ∃ t, u = .str (strV u) t) → Vals ((us.map strV).map V.str) us
  | [], _ => .nil
  | u :: us, h => by
    obtain ⟨t, e⟩ := h u List.mem_cons_self
    exact .cons ⟨t, e⟩ (vals_of_str fun v hv => h v (List.mem_cons_of_mem _ hv))
theorem ints_at : ∀ {vs : List Value} {ns : List Int} {i : Nat} {n : Int}, IntsAre vs ns → ns[i]? = some n → ∃ t, vs[i]? = some (.int n t)
  | _, _, i, n, .nil, e => by simp at e
  | _, _, 0, n, .cons k t _, e => by
    have : k = n := by simpa using e
    subst this
    exact ⟨t, rfl⟩
  | _, _, i + 1, n, .cons _ _ r, e => by
    obtain ⟨t, h⟩ := ints_at (i := i) r (by simpa using e)
    exact ⟨t, by simpa using h⟩
theorem zip_key {kz : Str → Int} : ∀ {us : List Value} {p : Int × Value}, p ∈ ((us.map strV).map kz).zip us → p.2 ∈ us ∧ p.1 = kz (strV p.2)
  | [], p, h => by simp at h
  | u :: us, p, h => by
    rw [List.map_cons, List.map_cons, List.zip_cons_cons] at h
    rcases List.mem_cons.mp h with z | z
    · rw [z]; exact ⟨List.mem_cons_self, rfl⟩
    · obtain ⟨h1, h2⟩ := zip_key z
      exact ⟨List.mem_cons_of_mem _ h1, h2⟩
theorem sortK_out {kz : Str → Int} {us out : List Value} (h : KskOut false ((us.map strV).map kz) us out) : (∀ u ∈ out, u ∈ us) ∧ SortK kz (us.map strV) (out.map strV) := by
  obtain ⟨ps, hp, rfl, hs⟩ := h
  have hz : ∀ p ∈ ps, p.2 ∈ us ∧ p.1 = kz (strV p.2) := fun p hm => zip_key (hp.mem_iff.mp hm)
  refine ⟨fun u hu => ?_, ?_, ?_⟩
  · obtain ⟨p, hm, rfl⟩ := List.mem_map.mp hu
    exact (hz p hm).1
  · have e : (((us.map strV).map kz).zip us).map (fun p => strV p.2) = us.map strV := by
      have : (((us.map strV).map kz).zip us).map Prod.snd = us := List.map_snd_zip (by simp)
      have h2 := congrArg (List.map strV) this
      rw [List.map_map] at h2
      exact h2
    rw [List.map_map, ← e]
    exact hp.map _
  · rw [List.map_map, List.pairwise_map]
    refine hs.imp_of_mem fun {a b} ha hb hab => ?_
    have hab : a.1 ≤ b.1 := hab
    rw [(hz a ha).2, (hz b hb).2] at hab
    exact hab
section
variable {X : Cx}
def SortAsk (P : Addr) (pos : Pos) (q : Str) (i : Nat) (σ : St) (Q : VK) (x : V) (H1 : Hp) : Prop := ∃ (l : Addr) (xs : List Str) (d : Addr) (kvs : List (Key × V)) (kz : Str → Int), x = .ref l ∧ H1 l = some (.lst (xs.map V.str)) ∧ xs.length < 64 ∧ σ[i]? = some (some (.ref d)) ∧ H1 d = some (.dK kvs) ∧
  (∀ x ∈ xs, valV kvs (.inr x) = some (.int (kz x))) ∧ TblAt H1 P pos q ∧ ∀ r ys H2, H1 r = none → H2 r = some (.lst (ys.map V.str)) → SortK kz xs ys → StabK kz xs ys → TblAt H2 P pos q → But P H1 H2 → Q (.ref r) H2
def tSortK (P : Addr) (pos : Pos) (q : Str) (i : Nat) (te : TE) : TE := fun σ H Q => te σ H (SortAsk P pos q i σ Q)
theorem pe_sortK {e : Expr} {te : TE} {p1 p2 kp lp q1 q2 q3 : Pos} {params : Arguments} {scope : Scope} {i k : Nat} {nm lv : Str} {P c : Addr} (hg : Gl X "sorted") (hm : X.mg "sorted" = none) (he : PE X e te) (hr : Room k X.A)
    (hcd : X.env.code = .ref c) (hC : codeHdIn X.K c P = true) (hB : BMain X.mg X.base) (hdef : defaultsOf params X.env = ([], [])) (hN : X.N[i]? = some lv) (hlv : X.env.scope.names.lookup lv = some .cell) (hcl : ∀ cc, X.env.cells.lookup lv = some cc → closureFor scope X.env = pure [(lv, cc)])
    (hsc : scope.kind = .function ∧ scope.isCoroutine = false ∧ scope.isGenerator = false ∧ scope.names.lookup nm = some .local ∧ scope.names.lookup lv = some .free ∧ ∀ x ∈ scope.names, x.2 ≠ .cell)
    (hbind : ∀ (cc c' : Addr) (pm ctv v : Value), bindArgs (kla_fn "<lambda>" (X.env.qual ++ "<lambda>") params (.Subscript (.Name lv q1) (.Name nm q2) q3) scope [(lv, cc)] pm (.ref c') ctv) ⟨[v], []⟩ = pure [(nm, v)])
    (hn1 : (nm == ("__debug__" : Str)) = false := by decide) (hn2 : (lv == ("__debug__" : Str)) = false := by decide) (hn3 : (lv == ("__classdict__" : Str)) = false := by decide) (hn : noStar [e] = true := by rfl) :
    PE X (.Call (.Name "sorted" p1) [e] [⟨some "key", .Lambda params (.Subscript (.Name lv q1) (.Name nm q2) q3) scope lp, kp⟩] p2) (tSortK P lp (X.env.qual ++ "<lambda>") i te) := by
  intro pins s σ H Q I h
  refine wpAny_Call_Name_kw (ld_blt I hg hm NP.bt_sorted ?_ (by decide) (by decide))
  have hx : ∃ cc, X.env.cells.lookup lv = some cc := I.ok.has lv (.inl hlv)
  obtain ⟨cc, hcc⟩ := hx
  refine callWith_kw (thn ((pa_e he pa_nil hn) p2 pins s σ H (fun vs H1 => match vs with | [x] => SortAsk P lp (X.env.qual ++ "<lambda>") i σ Q x H1 | _ => False) I h) fun us s1 ⟨vs, H1, I1, r1, hv⟩ => ?_) ?_ ?_ rfl rfl
  · match vs, hv, r1 with
    | [x], ⟨l, xs, d, kvs, kz, ex, hl, h64, hσ, hd, hval, tb, q⟩, r1 =>
    subst ex
    obtain ⟨u, rfl, ru⟩ := vals1 r1
    cases ru
    refine kws_cons (lam_make I1 hcd hC hB tb hdef (hcl cc hcc) fun f c' ctv H' s2 I2 hf Hf hc' tb' bt => kws_nil ?_)
    have hPs : ∃ u, H1 P = some (.tbl u) := tb.elim (fun e => ⟨_, e⟩) (fun ⟨c, e, _⟩ => ⟨_, e⟩)
    obtain ⟨pt, hPt⟩ := hPs
    have hl2 : H' l = some (.lst (xs.map V.str)) := bt _ _ (fun z => by rw [z, hPt] at hl; cases hl) hl
    have hd2 : H' d = some (.dK kvs) := bt _ _ (fun z => by rw [z, hPt] at hd; cases hd) hd
    obtain ⟨its, rv, hil, hlt⟩ := lst_iter I2 hl2
    obtain ⟨eit, hit⟩ := vals_str rv
    obtain ⟨m, F⟩ := I2.fr
    obtain ⟨zd, nd, dv, rel, hdd⟩ := I2.hok d _ hd2
    have hcell : s2.heap.IsCell cc (some (.ref d)) := by
      obtain ⟨m', hn', hl'⟩ := I2.loc
      obtain ⟨u, ru, lk⟩ := hl' i lv (.ref d) hN hσ (.inr (.inl hlv))
      cases ru
      rcases lk with ⟨hk, _⟩ | ⟨_, c2, e2, e3⟩
      · have hk : X.env.scope.names.lookup lv = some .local := hk
        rw [hlv] at hk; cases hk
      · rw [hcc] at e2; cases e2; exact e3
    have hrec : s2.heap.CodeRec (.ref c') (X.env.qual ++ "<lambda>") := codeE_of I2.hok hc'
    have nL : ∀ b o, s2.heap.get? b = some o → (∀ es ep, o.data ≠ .dict es ep) → b ≠ X.env.locals := fun b o e n z => by
      obtain ⟨oL, es, ep, e2, d2, _⟩ := F.ns
      rw [← z, e] at e2; cases e2; exact n _ _ d2
    have keepA : ∀ (h : Heap) (own : List (Addr × Obj)), Fr X.base X.env.locals h m → News X.base X.env.locals h (allNews X.base s2.heap X.env.locals ++ own) → ∀ b o, b ≠ X.env.locals → s2.heap.get? b = some o → h.get? b = some o := fun h own F' N' b o nb e => by
      cases z : X.base.get? b with
      | some u =>
        have := I2.bk b u z
        rw [e] at this; cases this
        exact F'.keep b _ z
      | none => exact (N' (b, o) (List.mem_append_left _ (mem_allNews nb z e))).1
    have hil2 : its.length = xs.length := by have := rv.length; rw [List.length_map] at this; exact this.symm
    have step : ∀ (v : Value), v ∈ its → ∀ (h : Heap) (tk : Nat) (own : List (Addr × Obj)), Fr X.base X.env.locals h m → News X.base X.env.locals h (allNews X.base s2.heap X.env.locals ++ own) →
        wpAny (model X.prog X.w) X.A.in1.in1 (call (.ref f) [v]) (fun v' s' => ∃ h' tk' t', s' = { s2 with heap := h', toks := tk' } ∧ v' = .int (kz (strV v)) t' ∧ ∀ b o, h.get? b = some o → h'.get? b = some o) (fun _ _ => False) { s2 with heap := h, toks := tk } := by
      intro v hvm h tk own F' N'
      obtain ⟨t, ev⟩ := hit v hvm
      have hmem : strV v ∈ xs := by rw [← eit]; exact List.mem_map.mpr ⟨v, hvm, rfl⟩
      have kp := keepA h own F' N'
      obtain ⟨w', hw, rw'⟩ := RelO.some_of (v := .int (kz (strV v))) (o := valueAt dv (.inr (strV v))) (by have := rel.val (.inr (strV v)); rw [hval _ hmem] at this; exact this)
      obtain ⟨tk', ew⟩ := rw'
      subst ew
      have dL : d ≠ X.env.locals := fun z => by rw [z, I2.free] at hd2; cases hd2
      have cL : cc ≠ X.env.locals := I2.cne lv cc hcc
      have fL : f ≠ X.env.locals := nL f _ hf (fun es ep z => by cases z)
      have c'L : c' ≠ X.env.locals := fun z => by rw [z, I2.free] at hc'; cases hc'
      have hroom : X.A.depth < recursionLimit := by have := hr.dp; omega
      have hk1 := lam_key (prog := X.prog) (w := X.w) (A := X.A.in1.in1) (s := { s2 with heap := h, toks := tk }) (nm := nm) (lv := lv) (x := strV v) (k := kz (strV v)) (t := tk') (t0 := t) (vs := dv) (kp f _ fL hf) (by
        obtain ⟨c2, o, vs, t2, e1, e2, r⟩ := hrec
        cases e1
        exact ⟨c', o, vs, t2, rfl, kp _ _ c'L e2, r⟩) (by
        obtain ⟨o, e1, r⟩ := hcell
        exact ⟨o, kp _ _ cL e1, r⟩) (by
        obtain ⟨o, es, ep, e1, r⟩ := hdd
        exact ⟨o, es, ep, kp _ _ dL e1, r⟩) hw hroom (I2.ok.mod.nolimit.keeps F'.keep) hsc (hbind cc c' _ ctv _) hn1 hn2 hn3
      rw [← ev] at hk1
      exact hk1
    have fin : ∀ (D : Addr) (h' : Heap) (tk : Nat) (out : Array Value) (c : Nat), Fr X.base X.env.locals h' m → News X.base X.env.locals h' ((D, seqObj "list" out c) :: allNews X.base s2.heap X.env.locals) → (∀ q ∈ allNews X.base s2.heap X.env.locals, q.1 < D) → (∀ u ∈ out.toList, u ∈ its) → StabK kz xs (out.toList.map strV) → EP X pins σ Q (.ref D) { s2 with heap := h', toks := tk } := by
      intro D h' tk out c F' N' hlt2 hsub hstab
      have hsort := stab_sort hstab
      have hD := N' (D, seqObj "list" out c) List.mem_cons_self
      have N2 : News X.base X.env.locals h' (allNews X.base s2.heap X.env.locals ++ []) := fun p hp => N' p (List.mem_cons_of_mem _ (by rw [List.append_nil] at hp; exact hp))
      have kp := keepA h' [] F' N2
      have tL : ∀ b u, H' b = some u → b ≠ X.env.locals := fun b u e z => by rw [z, I2.free] at e; cases e
      have neD : ∀ b o, s2.heap.get? b = some o → b ≠ D := fun b o e z => by
        by_cases hb : b = X.env.locals
        · exact hD.2.1 (z.symm.trans hb)
        · cases y : X.base.get? b with
          | some u => rw [z] at y; rw [hD.2.2] at y; cases y
          | none => exact absurd (hlt2 (b, o) (mem_allNews hb y e)) (by rw [z]; exact Nat.lt_irrefl _)
      have HD : H' D = none := by
        cases y : H' D with
        | none => rfl
        | some u =>
          obtain ⟨o, e⟩ := (show ∃ o, s2.heap.get? D = some o from obj_has (I2.hok D u y))
          exact absurd rfl (neD D o e)
      have vs2 : Vals ((out.toList.map strV).map V.str) out.toList := vals_of_str fun u hu => hit u (hsub u hu)
      have hlen : (out.toList.map strV).length = xs.length := hsort.1.length_eq
      have I3 : Inv X pins σ (upd H' D (.lst ((out.toList.map strV).map V.str))) { s2 with heap := h', gens := s2.gens, drawn := s2.drawn, toks := tk } := by
        refine I2.step (g' := s2.gens) (d' := s2.drawn) (ch := []) (fun _ z => nomatch z) (fun b o nb _ _ e _ => kp b o nb e) (fun b o nb _ _ e _ => ⟨o.slots, kp b o nb e⟩) (fun b o _ e n => by rw [upd_ne (neD b o e)]; exact n) (fun b o _ e => ?_)
          (fun b ys e => by rw [upd_ne (ne_of_none e HD)]; exact e) (fun b o u e => by rw [upd_ne (ne_of_none e HD)]; exact e) (fun b ps e => ⟨#[], by rw [upd_ne (ne_of_none e HD), e]; simp⟩) (fun m' hm' => ?_) (fun b u e => ?_) I2.bare
        · by_cases hb : b = X.env.locals
          · obtain ⟨oL, _, _, e2, _⟩ := F'.ns
            exact ⟨oL, by rw [hb]; exact e2⟩
          · exact ⟨o, kp b o hb e⟩
        · have em : m' = m := funext fun x => hm'.agree F.ns x
          rw [em]
          exact F'.ns
        · by_cases hb : b = D
          · subst hb
            rw [upd_same] at e
            cases e
            refine ⟨by rw [List.length_map, hlen]; exact line1000 (by omega), out.toList, c, vs2, ?_⟩
            rw [Array.toArray_toList]
            exact hD.1
          · rw [upd_ne hb] at e
            refine (I2.hok b u e).stay (fun b' u' hb' q' => kp b' u' ?_ q') (fun b' q' => by rw [upd_ne (ne_of_none q' HD)]; exact q') fun b' ys q' => by rw [upd_ne (ne_of_none q' HD)]; exact q'
            rcases hb' with r | r
            · rw [r]; exact tL b u e
            · exact tL b' _ r
      have H1D : H1 D = none := by
        cases y : H1 D with
        | none => rfl
        | some u =>
          have hDP : D ≠ P := fun z => by
            have : H' P = none := by rw [← z]; exact HD
            rcases tb' with e | ⟨_, e, _⟩ <;> · rw [this] at e; cases e
          rw [bt _ _ hDP y] at HD; cases HD
      exact ⟨.ref D, _, I3, rfl, q D _ _ H1D upd_same hsort hstab (tb'.same (same_upd HD)) (bt.new HD)⟩
    by_cases h2 : 2 ≤ its.length
    · refine kat_sortedK (f := .ref f) (b := false) F news_all hil h2 (by omega) (ksk_s1 _ _) (fun x => ksk_l1 _ _) (fun x => ksk_t1 _ _) fun D kS e1 h' F' N' hDk hlt2 => ?_
      have keys : ∀ (rest ks don : List Value) (e : Nat) (h : Heap) (tk : Nat), its = don ++ rest → IntsAre ks ((don.map strV).map kz) → Fr X.base X.env.locals h m → News X.base X.env.locals h ((kS, seqObj "list" (List.toArray ks) e) :: (D, seqObj "list" #[] e1) :: allNews X.base s2.heap X.env.locals) →
          KatKeys X.prog X.w X.A.in1.in1 X.base X.env.locals m kS (.ref f) (fun ks e s' => wpAny (model X.prog X.w) X.A.in1.in1 (keyKind' (List.toArray ks)) (fun κ s'' => (kas_sort its.length).kasWp (kas_ask X.prog X.w X.A.in1.in1 κ (katRev false ks)) (fun p s3 => KatFin X.base X.env.locals m kS D ks e e1 (katRev false (p.toList.map fun i => (katRev false its).getD i Value.none)) (fun s4 => EP X pins σ Q (.ref D) s4) s3) s'') (fun _ _ => False) s') rest ks e { s2 with heap := h, toks := tk } := by
        intro rest
        induction rest with
        | nil =>
          intro ks don e h tk eq hi Fh Nh
          rw [List.append_nil] at eq
          subst eq
          have hkl : ks.length = its.length := by have := hi.length; rw [List.length_map, List.length_map] at this; exact this
          show wpAny (model X.prog X.w) X.A.in1.in1 (keyKind' (List.toArray ks)) _ _ _
          rw [ksk_kind (keys := List.toArray ks) (kz := (its.map strV).map kz) (by simpa using hi) (by simp; omega)]
          refine wpAny_pure ?_
          have kat : ∀ i, i < its.length → ∃ t, ks.getD i Value.none = .int (kz (strV (its.getD i Value.none))) t := fun i hi2 => by
            have h1 : ((its.map strV).map kz)[i]? = some (kz (strV (its.getD i Value.none))) := by
              rw [List.getElem?_map, List.getElem?_map, List.getElem?_eq_getElem hi2, List.getD_eq_getElem?_getD, List.getElem?_eq_getElem hi2]; rfl
            obtain ⟨t, ht⟩ := ints_at hi h1
            exact ⟨t, by rw [List.getD_eq_getElem?_getD, ht]; rfl⟩
          refine kasWp_of (n := its.length) (key := fun i => kz (strV (its.getD i Value.none))) (Qp := fun p => Srt its.length (fun i => kz (strV (its.getD i Value.none))) p its.length) (fun i j C hi2 hj2 hC => ?_) (fun p hp => ?_) (sort_ok h2)
          · obtain ⟨t1, e1'⟩ := kat i hi2
            obtain ⟨t2, e2'⟩ := kat j hj2
            show wpAny _ _ (keyLt' oneType' (ks.getD i Value.none) (ks.getD j Value.none)) C _ _
            rw [e1', e2']
            exact kat_lt_int hC
          · have nkD : kS ≠ D := Nat.ne_of_gt hDk
            have nall : ∀ q ∈ allNews X.base s2.heap X.env.locals, q.1 ≠ kS ∧ q.1 ≠ D := fun q hq => by have := hlt2 q hq; exact ⟨Nat.ne_of_lt (Nat.lt_trans this hDk), Nat.ne_of_lt this⟩
            refine KatFin.intro Fh Nh (.head fun q hq => ?_) fun h3 c3 F3 N3 => KasFin.intro F3 N3 (.tail nkD (.head fun q hq => (nall q hq).2)) fun h4 c4 F4 N4 => ?_
            · rcases List.mem_cons.mp hq with z | z
              · rw [z]; exact Ne.symm nkD
              · exact (nall q z).1
            · refine fin D h4 tk (List.toArray (p.toList.map fun i => its.getD i Value.none)) c4 F4 (fun q hq => N4 q (List.mem_cons_of_mem _ hq)) hlt2 (fun u hu => ?_) ?_
              · have hu : u ∈ p.toList.map fun i => its.getD i Value.none := by simpa using hu
                obtain ⟨i, hi2, rfl⟩ := List.mem_map.mp hu
                have hi3 : i < its.length := List.mem_range.mp (hp.pm.mem_iff.mp hi2)
                rw [List.getD_eq_getElem?_getD, List.getElem?_eq_getElem hi3]
                exact List.getElem_mem hi3
              · have exs : ∀ i, xs.getD i "" = strV (its.getD i Value.none) := fun i => by
                  rw [← eit, List.getD_eq_getElem?_getD, List.getD_eq_getElem?_getD, List.getElem?_map]
                  cases its[i]? <;> rfl
                refine ⟨p.toList, by rw [← hil2]; exact hp.pm, ?_, ?_⟩
                · rw [List.map_map]
                  exact List.map_congr_left fun i _ => (exs i).symm
                · have : (fun i => kz (xs.getD i "")) = fun i => kz (strV (its.getD i Value.none)) := funext fun i => by rw [exs]
                  rw [this]
                  exact srt_pw hp
        | cons v r ih =>
          intro ks don e h tk eq hi Fh Nh
          have hvm : v ∈ its := by rw [eq]; simp
          have Nh2 : News X.base X.env.locals h (allNews X.base s2.heap X.env.locals ++ [(kS, seqObj "list" (List.toArray ks) e), (D, seqObj "list" #[] e1)]) := fun q hq => by
            rcases List.mem_append.mp hq with z | z
            · exact Nh q (List.mem_cons_of_mem _ (List.mem_cons_of_mem _ z))
            · rcases List.mem_cons.mp z with y | y
              · rw [y]; exact Nh _ List.mem_cons_self
              · rw [List.mem_singleton.mp y]; exact Nh _ (List.mem_cons_of_mem _ List.mem_cons_self)
          refine KatKeys.cons (wpAny_mono (step v hvm h tk _ Fh Nh2) (fun v' s' hh => ?_) (fun _ _ z => z))
          obtain ⟨h3, tk3, t3, e1', e2', k3⟩ := hh
          subst e1' e2'
          have nkD : kS ≠ D := Nat.ne_of_gt hDk
          refine KatBack.intro (F := Fh.kept k3) (N := Nh.grown k3) (U := .head fun q hq => ?_) fun h4 c4 F4 N4 => ?_
          · rcases List.mem_cons.mp hq with z | z
            · rw [z]; exact Ne.symm nkD
            · have := hlt2 q z; exact Nat.ne_of_lt (Nat.lt_trans this hDk)
          · exact ih (ks ++ [.int (kz (strV v)) t3]) (don ++ [v]) c4 h4 tk3 (by rw [eq]; simp) (by rw [List.map_append, List.map_append]; exact ksk_snoc hi) F4 N4
      exact keys its [] [] 0 h' s2.toks rfl .nil F' N'
    · refine ksk_sorted (kz := (its.map strV).map kz) (f := .ref f) (b := false) F news_all hil (by simp) (by omega) (ksk_s1 _ _) (fun x => ksk_l1 _ _) (fun x => ksk_t1 _ _) (fun j v kk hv hk h tk own F' N' => ?_) (fun D h' tk out c F' N' hlt2 hout => ?_)
      · have ek : kk = kz (strV v) := by
          rw [List.getElem?_map, List.getElem?_map, hv] at hk
          exact (Option.some.inj hk).symm
        subst ek
        refine wpAny_mono (step v (List.mem_of_getElem? hv) h tk own F' N') (fun v' s' hh => ?_) (fun _ _ z => z)
        obtain ⟨h3, tk3, t3, e1, e2, k3⟩ := hh
        subst e1 e2
        exact ⟨h3, tk3, t3, rfl, rfl, F'.kept k3, N'.grown k3⟩
      · obtain ⟨hsub, hsort⟩ := sortK_out hout
        rw [eit] at hsort
        exact fin D h' tk out c F' N' hlt2 hsub (stab_small hsort.1 (by omega))
  · rw [starEach_of hn]; rfl
  · exact backTo_any hn
end
end L2
set_option Elab.async false
set_option linter.all false
set_option maxRecDepth 100000
namespace L2
open PySem PySem.Spec PyProof.Rows PySem.W NP
def Start (H : Hp) (a Pt : Addr) : Prop := ∀ b u, H b = some u → (b = Pt ∧ u = .tbl #[]) ∨ (b = a ∧ ∃ o xs, u = .frz o (.lst xs))
theorem head_run {P : Program} {w : World} {K : Frag} {mg mb : Str → Option Value} {k : Nat} {fa a Pt ct : Addr} {fd : FuncData} {x : Str} {sp : Sp} {s₁ : Shared} {H : Hp}
    (KX : K.In s₁.heap) (hns : s₁.heap.Ns mainGlobals mg) (hb : s₁.heap.Ns builtinsNs mb) (hbb : ∀ x : Str, x ≠ "__name__" → mb x = bootBuiltins x) (hlim : s₁.heap.NoLimit) (hg : s₁.gens = #[]) (hr : Room k callerA)
    (hT : s₁.heap.TableAt ct Pt #[]) (hBM : BMain mg s₁.heap) (hO : Start H a Pt) (hHK : ∀ b u, H b = some u → K.lookup b = none) (ok : HOk P w H s₁.heap)
    (F : ∀ base : Heap, K.In base → base.Ns mainGlobals mg → BMain mg base → FnOk P w K mg base CX0 k fa fd [x] sp) (hbind : ∀ (s : Shared) (u : Value), BindsTo s fd ⟨[u], []⟩ [(x, u)])
    (hsp : sp [.ref a] H (fun v _ => v = .bl true) fun _ _ _ => False) :
    codeAny (model P w) callerA (.call (.ref fa) ⟨[.ref a], []⟩) (fun r s' => r = .ok (.ret (.bool true)) ∧ OldK s₁.heap s'.heap ∧ s'.os = s₁.os ∧ AllBare s'.gens) s₁ := by
  have noD : ∀ {b : Addr} {o : Obj}, s₁.heap.get? b = some o → (∀ vs : Array Value, o.data ≠ .fields vs) → (∀ vs n, o.data ≠ .seq vs n) → H b = none := fun {b o} e n1 n2 => by
    cases q : H b with
    | none => rfl
    | some u =>
      have y := ok b u q
      rcases hO b u q with ⟨_, rfl⟩ | ⟨_, ob, xs, rfl⟩
      · have y : s₁.heap.get? b = some { cls := .none, data := .fields #[] } := y
        rw [e] at y; cases y; exact absurd rfl (n1 _)
      · obtain ⟨_, _, its, m, _, y3⟩ := y
        rw [e] at y3; cases y3; exact absurd rfl (n2 _ _)
  have baseG : ∀ {b : Addr} {o : Obj}, s₁.heap.get? b = some o → H b = none → (hidT s₁.heap H).get? b = some o := fun e n => hidT_get e n
  have nsB : ∀ {b : Addr} {m : Str → Option Value}, s₁.heap.Ns b m → (hidT s₁.heap H).Ns b m := fun {b m} ⟨o, es, ep, e, d, r⟩ => ⟨o, es, ep, baseG e (noD e (fun _ z => by rw [d] at z; cases z) (fun _ _ z => by rw [d] at z; cases z)), d, r⟩
  have kB : K.In (hidT s₁.heap H) := fun b o e => baseG (KX b o e) (by
    cases q : H b with
    | none => rfl
    | some u => rw [hHK b u q] at e; cases e)
  have bB : BMain mg (hidT s₁.heap H) := by
    obtain ⟨bm, ob, b1, b2, b3, b4, b5, b6, b7⟩ := hBM
    exact ⟨bm, ob, b1, b2, b3, baseG b4 (noD b4 (fun _ z => by rw [b7] at z; cases z) (fun _ _ z => by rw [b7] at z; cases z)), b5, b6, b7⟩
  have mB : Mod K mg (hidT s₁.heap H) := ⟨kB, nsB hns, ⟨mb, nsB hb, hbb⟩, let ⟨mc, h1, h2⟩ := hlim; ⟨mc, nsB h1, h2⟩⟩
  have e0 : Env0 P w K mg (hidT s₁.heap H) callerA [] s₁ H := ⟨rfl, mB, fun b o e => of_hidT e, Nat.le_of_eq (hidT_size _ _), trivial, (fun b hb => nomatch (show b ∈ ([] : List Addr) from hb)), ok, .of_eq hg⟩
  refine codeAny_mono ((F _ kB (nsB hns) bB).run callerA [] s₁ H ⟨[.ref a], []⟩ [.ref a] [.ref a] _ _ hr e0 (hbind s₁ (.ref a)) (.cons rfl .nil) hsp) fun r s' h => ?_
  cases r with
  | error e => exact h.elim
  | ok fl =>
    cases fl with
    | next => exact h.elim
    | brk => exact h.elim
    | cont => exact h.elim
    | ret u =>
      obtain ⟨v, H', os, bare, un, ok', r', q⟩ := h
      have q : v = .bl true := q
      subst q
      obtain rfl : u = Value.bool true := r'
      have old : ∀ b o, s₁.heap.get? b = some o → asItWas s₁.heap s'.heap b o := fun b o e => by
        cases y : H b with
        | none => exact .inl (un.keep b o e y (by intro z; cases z) (by simp))
        | some u =>
          have ob := ok b u y
          rcases hO b u y with ⟨rfl, rfl⟩ | ⟨_, oo, xs, rfl⟩
          · obtain ⟨more, e2⟩ := un.tbls b #[] y
            have ob : s₁.heap.get? b = some { cls := .none, data := .fields #[] } := ob
            rw [e] at ob
            cases ob
            have e3 : s'.heap.get? b = some { cls := .none, data := .fields (#[] ++ more) } := ok' b _ e2
            exact .inr (.inl ⟨hT.isCodeTable, rfl, #[], more, rfl, e3⟩)
          · have e2 := un.frzs b oo _ y
            have e3 := (ok' b _ e2).1
            have e4 := ob.1
            rw [e] at e4
            cases e4
            exact .inl e3
      exact ⟨rfl, ⟨old, fun b o e => un.there b o e (by simp)⟩, os, bare⟩
theorem walk_tab {l : OpenLaw} {n k : Nat} {q : Program} {loose : List Str} {XP : (Str → Option Value) → Heap → Prop} {YP : World → Heap → Prop} {d dw : DefRec} {K : Params → Frag} {sp : World → Addr → Sp} {x wk : Str}
    (hn : l.most = some n) (hn2 : n ≤ sizeLine) (hdf : d.params.defaults = []) (hr : Room k callerA) (hY : ∀ (w : World) (h : Heap), YP w h → (K w.params).In h) (hw : (recsOf q).find? (fun e => e.name == wk) = some dw)
    (F : ∀ (w : World) (mg : Str → Option Value) (fa : Addr) (h : Heap), (K w.params).In h → h.Ns mainGlobals mg → mg d.name = some (.ref fa) →
      ∃ (fd : FuncData) (ct Pt : Addr), (∀ (s : Shared) (u : Value), BindsTo s fd ⟨[u], []⟩ [(x, u)]) ∧ tabIn (K w.params) wk = some (ct, Pt) ∧ (K w.params).lookup Pt = none ∧
        ∀ base : Heap, (K w.params).In base → base.Ns mainGlobals mg → BMain mg base → FnOk l.prog w (K w.params) mg base CX0 k fa fd [x] (sp w Pt))
    (hsp : ∀ (w : World) (H : Hp) (a Pt : Addr) (ns : List Int), ns.length ≤ n → H Pt = some (.tbl #[]) → SqL (K w.params) H a (ns.map V.int) → sp w Pt [.ref a] H (fun v _ => v = .bl true) fun _ _ _ => False) :
    WalkO q loose XP YP l.row.toRowW d [] (fun f vs => PySem.call f vs) := by
  refine Att.attach_call hn hdf fun w s₀ s₁ mg mb fa o pm cd doc a vs ns G Y ho hd hcd hmg hobj hints hlen hg => ?_
  have KX := hY w _ Y
  obtain ⟨fd, ct, Pt, hbd, htab, hKP, hF⟩ := F w mg fa _ KX G.T.g hmg
  obtain ⟨hC, hP⟩ := tab_of G.T KX hw htab
  have hT := hC.tab hP
  have aP : a ≠ Pt := fun z => by rw [z, hP] at hobj; cases hobj
  have hBM : BMain mg s₁.heap := by
    obtain ⟨bm, ob, b1, b2, b3, b4, b5, b6⟩ := G.T.bmain
    refine ⟨bm, ob, b1, b2, fun z => ?_, b3, b4, b5, b6⟩
    obtain ⟨og, es, ep, e, dg, _⟩ := G.T.g
    rw [← z, b3] at e
    cases e
    rw [b6] at dg
    cases dg
  have rv := vals_ints hints
  have lenV := hints.length
  have okP : ∀ H : Hp, ObjOk l.prog w H s₁.heap Pt (.tbl #[]) := fun _ => hP
  cases hk : (K w.params).lookup a with
  | some oa =>
    have e := KX a oa hk
    rw [hobj] at e
    cases e
    refine head_run (H := upd (fun _ => none) Pt (.tbl #[])) KX G.T.g G.T.b G.T.builtins G.T.nolimit hg hr hT hBM (fun b u y => ?_) (fun b u y => ?_) (fun b u y => ?_) hF hbd (hsp w _ a Pt ns hlen upd_same (.inr ⟨_, vs.toArray, _, hk, rfl, rfl, rfl, by rw [List.size_toArray, lenV]; exact Nat.le_trans hlen hn2, by simpa using rv⟩))
    · by_cases z : b = Pt
      · subst z; rw [upd_same] at y; cases y; exact .inl ⟨rfl, rfl⟩
      · rw [upd_ne z] at y; cases y
    · by_cases z : b = Pt
      · rw [z]; exact hKP
      · rw [upd_ne z] at y; cases y
    · by_cases z : b = Pt
      · subst z; rw [upd_same] at y; cases y; exact okP _
      · rw [upd_ne z] at y; cases y
  | none =>
    refine head_run (H := upd (upd (fun _ => none) Pt (.tbl #[])) a (.frz { cls := .type "list", data := .seq vs.toArray } (.lst (ns.map V.int)))) KX G.T.g G.T.b G.T.builtins G.T.nolimit hg hr hT hBM (fun b u y => ?_) (fun b u y => ?_) (fun b u y => ?_) hF hbd (hsp w _ a Pt ns hlen (by rw [upd_ne (Ne.symm aP), upd_same]) (.inl (.inr ⟨_, upd_same⟩)))
    · by_cases z2 : b = a
      · subst z2; rw [upd_same] at y; cases y; exact .inr ⟨rfl, _, _, rfl⟩
      · rw [upd_ne z2] at y
        by_cases z : b = Pt
        · subst z; rw [upd_same] at y; cases y; exact .inl ⟨rfl, rfl⟩
        · rw [upd_ne z] at y; cases y
    · by_cases z2 : b = a
      · rw [z2]; exact hk
      · rw [upd_ne z2] at y
        by_cases z : b = Pt
        · rw [z]; exact hKP
        · rw [upd_ne z] at y; cases y
    · by_cases z2 : b = a
      · subst z2; rw [upd_same] at y; cases y
        exact ⟨hobj, by rw [List.length_map]; exact Nat.le_trans hlen hn2, vs, _, rv, hobj⟩
      · rw [upd_ne z2] at y
        by_cases z : b = Pt
        · subst z; rw [upd_same] at y; cases y; exact okP _
        · rw [upd_ne z] at y; cases y
def codeVs (vs : Array Value) (c P : Addr) : Bool := (match vs.getD 18 .none with | .str _ _ => true | _ => false) && (match vs.getD 7 .none with | .int _ _ => true | _ => false) && (match vs.getD 9 .none with | .bool _ => true | _ => false) && (match vs.getD 10 .none with | .int _ _ => true | _ => false) && c != P
theorem codeHd_mk {K : Frag} {c P : Addr} {od : Option Addr} {vs : Array Value} {sl : Array (Option Value)} (tl : K.lookup c = some ⟨.type "code", od, .fields vs, sl⟩) (h11 : vs[11]? = some (.ref P)) (h : codeVs vs c P = true) : codeHdIn K c P = true := by
  unfold codeHdIn
  rw [tl]
  simp only [h11, BEq.rfl, Bool.true_and]
  exact h
theorem tab_mk {K : Frag} {x : Str} {f c P : Addr} {oc : Value} {od odc : Option Addr} {fd : FuncData} {sl slc : Array (Option Value)} {vs : Array Value} (hn : nsIn K mainGlobals x = some (some (.ref f))) (hl : K.lookup f = some ⟨oc, od, .func fd, sl⟩) (hc : fd.code = .ref c) (tl : K.lookup c = some ⟨.type "code", odc, .fields vs, slc⟩) (h11 : vs[11]? = some (.ref P)) : tabIn K x = some (c, P) := by
  unfold tabIn
  simp only [hn, hl, hc, tl, h11]
theorem code_of_tab {K : Frag} {x : Str} {f c P : Addr} {oc : Value} {od : Option Addr} {fd : FuncData} {sl : Array (Option Value)} (h : tabIn K x = some (c, P)) (hn : nsIn K mainGlobals x = some (some (.ref f))) (hl : K.lookup f = some ⟨oc, od, .func fd, sl⟩) : fd.code = .ref c := by
  unfold tabIn at h
  simp only [hn, hl] at h
  split at h
  · rename_i c' hc
    split at h
    · split at h
      · cases h
        exact hc
      · cases h
    · cases h
  · cases h
theorem closure_one {nm lv : Str} {scope : Scope} {env : Env} {cc : Addr} (hs : scope.names = [(nm, .local), (lv, .free)]) (h : env.cells.lookup lv = some cc) : closureFor scope env = pure [(lv, cc)] := by
  unfold closureFor
  rw [hs]
  simp [cellOf, h]
structure CodeAt (K : Frag) (f c P : Addr) : Prop where
  code : ∀ oc od fd sl, K.lookup f = some ⟨oc, od, .func fd, sl⟩ → fd.code = .ref c
  hd : codeHdIn K c P = true
theorem Fun.okC {P : Program} {w : World} {K : Frag} {mg : Str → Option Value} {base : Heap} {x qual : Str} {st : Stmt} {f c Pt : Addr} {fd : FuncData} {N ps : List Str} {k : Nat} {sp : Sp} (F : Fun K x qual st f fd) (C : CodeAt K f c Pt) (S : FnScope N ps (defScope st)) (len : ∀ vs H Q E, sp vs H Q E → vs.length = ps.length)
    (hbody : ∀ (A : Around) (outer : List Env) (s : Shared) (H : Hp) (vs : List V) (Q : VK) (E : XK), Room k (A.deeper (envOfC qual (defScope st) s.heap.objs.size f (.ref c))) → sp vs H Q E →
      ∃ t, PSs (cxOf CX0 P w K mg base N qual (defScope st) f (.ref c) A outer s H E).nox (defBody st) t ∧ t { nx := fun _ H' => Q .non H', rt := Q } (start N vs) H) : FnOk P w K mg base CX0 (k + 1) f fd ps sp := by
  obtain ⟨oc, od, kV, doc, pm, an, cdv, ct, osl, rfl, lk, hcd⟩ := F.ex
  have e : cdv = .ref c := C.code _ _ _ _ lk
  subst e
  refine fn_of lk hcd S len fun A outer s H vs Q E hr hsp => ?_
  obtain ⟨t, h, q⟩ := hbody A outer s H vs Q E hr hsp
  exact ⟨t, h.nox, q⟩
end L2
set_option Elab.async false
set_option linter.all false
set_option maxRecDepth 100000
namespace NP
open PySem L2
def usersOf (S : Sh) (x : Str) : List Wr := S.wares.filter fun w => decide (x ∈ w.parts.map (·.1))
def lvF (S : Sh) : Nat → Str → Int
  | 0, _ => 0
  | k + 1, x => max0 ((usersOf S x).map fun u => 1 + lvF S k u.name)
def lv (S : Sh) (x : Str) : Int := lvF S S.wares.length x
structure Lev (S : Sh) : Prop where
  nd : (S.wares.map (·.name)).Nodup
  own : ∀ w ∈ S.wares, ∀ p ∈ w.parts, p.1 ∈ S.wares.map (·.name)
  low : ∃ r : Str → Nat, (∀ w ∈ S.wares, r w.name < S.wares.length) ∧ ∀ w ∈ S.wares, ∀ p ∈ w.parts, r p.1 < r w.name
theorem mem_users {S : Sh} {x : Str} {w : Wr} : w ∈ usersOf S x ↔ w ∈ S.wares ∧ x ∈ w.parts.map (·.1) := by
  unfold usersOf
  rw [List.mem_filter]
  exact ⟨fun ⟨a, b⟩ => ⟨a, of_decide_eq_true b⟩, fun ⟨a, b⟩ => ⟨a, decide_eq_true b⟩⟩
theorem lvF_nn (S : Sh) : ∀ k x, 0 ≤ lvF S k x
  | 0, _ => Int.le_refl _
  | k + 1, x => max0_nn fun y hy => by
    obtain ⟨u, _, rfl⟩ := List.mem_map.mp hy
    have := lvF_nn S k u.name
    show 0 ≤ 1 + lvF S k u.name
    omega
theorem lvF_stop {S : Sh} {r : Str → Nat} (hr : ∀ w ∈ S.wares, r w.name < S.wares.length) (hp : ∀ w ∈ S.wares, ∀ p ∈ w.parts, r p.1 < r w.name) : ∀ k w, w ∈ S.wares → S.wares.length - r w.name ≤ k → lvF S (k + 1) w.name = lvF S k w.name
  | 0, w, hw, h => by have := hr w hw; omega
  | k + 1, w, hw, h => by
    show max0 ((usersOf S w.name).map fun u => 1 + lvF S (k + 1) u.name) = max0 ((usersOf S w.name).map fun u => 1 + lvF S k u.name)
    congr 1
    apply List.map_congr_left
    intro u hu
    obtain ⟨h1, h2⟩ := mem_users.mp hu
    obtain ⟨p, hp1, hp2⟩ := List.mem_map.mp h2
    have h3 := hp u h1 p hp1
    rw [hp2] at h3
    have := hr u h1
    rw [lvF_stop hr hp k u h1 (by omega)]
theorem lv_eq {S : Sh} (L : Lev S) {w : Wr} (hw : w ∈ S.wares) : lv S w.name = max0 ((usersOf S w.name).map fun u => 1 + lv S u.name) := by
  obtain ⟨r, h1, h2⟩ := L.low
  have := lvF_stop h1 h2 S.wares.length w hw (by omega)
  exact this.symm
theorem lv_nn (S : Sh) (x : Str) : 0 ≤ lv S x := lvF_nn S _ x
theorem lv_part {S : Sh} (L : Lev S) {w : Wr} (hw : w ∈ S.wares) {p : Str × Int} (hp : p ∈ w.parts) : lv S w.name + 1 ≤ lv S p.1 := by
  obtain ⟨v, hv, e⟩ := List.mem_map.mp (L.own w hw p hp)
  rw [← e, lv_eq L hv]
  have : 1 + lv S w.name ≤ max0 ((usersOf S v.name).map fun u => 1 + lv S u.name) := max0_ge (List.mem_map.mpr ⟨w, mem_users.mpr ⟨hw, List.mem_map.mpr ⟨p, hp, e.symm⟩⟩, rfl⟩)
  omega
theorem lv_reach {S : Sh} {k : Nat} {g : Str → Int} (h0 : ∀ x, 0 ≤ g x) (h : ∀ w ∈ S.wares, ∀ p ∈ w.parts, 1 + lvF S k w.name ≤ g p.1) (x : Str) : lvF S (k + 1) x ≤ g x := by
  show max0 ((usersOf S x).map fun u => 1 + lvF S k u.name) ≤ g x
  unfold max0
  split
  · exact h0 x
  · rename_i hn
    obtain ⟨u, hu, e⟩ := List.mem_map.mp (maxL_mem hn)
    rw [← e]
    obtain ⟨h1, h2⟩ := mem_users.mp hu
    obtain ⟨p, hp1, hp2⟩ := List.mem_map.mp h2
    rw [← hp2]
    exact h u h1 p hp1
def fnD (names : List Str) (g : Str → Int) : List (Key × V) := names.map fun x => (Sum.inr x, V.int (g x))
theorem fnD_len (names : List Str) (g : Str → Int) : (fnD names g).length = names.length := by unfold fnD; rw [List.length_map]
theorem fnD_val {names : List Str} {g : Str → Int} {x : Str} (h : x ∈ names) : valV (fnD names g) (.inr x) = some (.int (g x)) := by
  induction names with
  | nil => cases h
  | cons y r ih =>
    unfold fnD
    rw [List.map_cons]
    by_cases e : y = x
    · rw [valV_pos (by rw [e])]
      rw [e]
    · rw [valV_neg (fun z => e (Sum.inr.inj z))]
      exact ih ((List.mem_cons.mp h).resolve_left fun z => e z.symm)
theorem fnD_none {names : List Str} {g : Str → Int} {x : Str} (h : x ∉ names) : valV (fnD names g) (.inr x) = none := by
  induction names with
  | nil => rfl
  | cons y r ih =>
    unfold fnD
    rw [List.map_cons, valV_neg (fun z => h (by rw [← Sum.inr.inj z]; exact List.mem_cons_self))]
    exact ih fun m => h (List.mem_cons_of_mem _ m)
theorem fnD_put {names : List Str} {g : Str → Int} {y : Str} {v : Int} (h : y ∈ names) : putK (fnD names g) (.inr y) (.int v) = fnD names fun x => if x = y then v else g x := by
  unfold putK
  rw [if_pos (by rw [valV_any, fnD_val h]; rfl)]
  unfold fnD
  rw [List.map_map]
  apply List.map_congr_left
  intro x _
  show (if Sum.inr x = (Sum.inr y : Key) then (Sum.inr x, V.int v) else (Sum.inr x, V.int (g x))) = (Sum.inr x, V.int (if x = y then v else g x))
  by_cases e : x = y
  · rw [if_pos (by rw [e]), if_pos e]
  · rw [if_neg (fun z => e (Sum.inr.inj z)), if_neg e]
theorem fnD_congr {names : List Str} {g g' : Str → Int} (h : ∀ x ∈ names, g x = g' x) : fnD names g = fnD names g' := by
  unfold fnD
  exact List.map_congr_left fun x hx => by rw [h x hx]
theorem fnD_new {names : List Str} {g : Str → Int} {y : Str} {v : Int} (h : y ∉ names) : putK (fnD names g) (.inr y) (.int v) = fnD (names ++ [y]) fun x => if x = y then v else g x := by
  rw [putK_new _ (fnD_none h)]
  unfold fnD
  rw [List.map_append]
  congr 1
  · refine List.map_congr_left fun x hx => ?_
    show (Sum.inr x, V.int (g x)) = (Sum.inr x, V.int (if x = y then v else g x))
    rw [if_neg (fun e : x = y => h (e ▸ hx))]
  · show [(Sum.inr y, V.int v)] = [(Sum.inr y, V.int (if y = y then v else g y))]
    rw [if_pos rfl]
theorem take_nin' {xs : List Str} (nd : xs.Nodup) {i : Nat} {x : Str} (h : xs[i]? = some x) : x ∉ xs.take i := by
  intro m
  obtain ⟨j, hj⟩ := List.mem_iff_getElem?.mp m
  rw [List.getElem?_take] at hj
  split at hj
  · rename_i hlt
    have hj2 : j < xs.length := (List.getElem?_eq_some_iff.mp hj).1
    have := (List.getElem?_inj hj2 nd).mp (hj.trans h.symm)
    omega
  · cases hj
end NP
set_option Elab.async false
set_option linter.all false
set_option maxRecDepth 100000
namespace L2
open PySem PySem.Spec PyProof.Rows
def ItV (a : Addr) (xs : List V) : It := ⟨fun i H => H a = some (.lst xs) ∧ i < xs.length, fun i H x H' => H' = H ∧ xs.reverse[i]? = some x, fun i H => H a = some (.lst xs) ∧ i = xs.length⟩
theorem goesV (a : Addr) (xs : List V) : Goes (ItV a xs) xs.length (fun i x => xs.reverse[i]? = some x) (fun H => H a = some (.lst xs)) :=
  ⟨fun _ _ h o => ⟨o, h⟩, fun _ _ _ _ _ _ y => y, fun _ o => ⟨o, rfl⟩⟩
theorem turn_rev {P : Program} {w : World} {K : PySem.W.Frag} {tg : Expr} (a it : Addr) (xs : List V) : Turn P w K tg (ItV a xs) [it] it (fun i h => i ≤ xs.length ∧ h.IsRevIter it a ((xs.length : Int) - 1 - (i : Int))) where
  mem := by simp
  obj := fun i h st b hb => by
    have e : b = it := by simpa using hb
    subst e
    obtain ⟨_, o, e, c, d⟩ := st
    exact ⟨o, e, fun v z => by rw [d] at z; cases z⟩
  keep := fun i h h' st k => ⟨st.1, st.2.at fun o e => k it (by simp) o e⟩
  item := by
    intro X hP hw hK hc i pins s σ H E I hf st hg
    subst hP hw hK
    obtain ⟨hq, hlt⟩ := hg
    obtain ⟨its, rv, hl, hal⟩ := lst_iter I hq
    obtain ⟨f0, f1, f2, f3, f4, f5⟩ := hf it (by simp)
    have hai : a ≠ it := ne_of_none hq f0
    have hlen := rv.length
    have hsz : its.toArray.size = xs.length := by rw [List.size_toArray]; exact hlen.symm
    have st2 : s.heap.IsRevIter it a ((its.toArray.size : Int) - 1 - (i : Int)) := by rw [hsz]; exact st.2
    refine (Walks.listRev (prog := X.prog) (w := X.w) (A := X.A) (I.ok.hd hc) it a hai its.toArray).item i s _ E (by omega) ⟨by omega, st2, hl⟩ fun v h' tk hx st3 hk => ?_
    have I1 : Inv X pins σ H { s with heap := h', toks := tk } := I.turned (t' := tk) (fun b o hb e => hk b o (by simpa using hb) e) f0 f1 f3 f4 f5
    obtain ⟨_, ⟨oi, ei, ci, di⟩, _⟩ := id st3
    have hlt2 : its.length - 1 - i < its.length := by omega
    have hx : its[its.length - 1 - i]? = some v := by rw [hsz, hlen] at hx; simpa using hx
    obtain ⟨u, hu, ru⟩ := rv.get (x := xs[xs.length - 1 - i]) (i := xs.length - 1 - i) (by simp [show xs.length - 1 - i < xs.length by omega])
    have eu : u = v := by rw [hlen, hx] at hu; exact (Option.some.inj hu).symm
    subst eu
    refine ⟨u, rfl, go_of (s := { s with heap := h', toks := tk }) ei ci di (by decide) ⟨xs[xs.length - 1 - i], H, I1, ru, ⟨rfl, ?_⟩, ?_, fun b hb => (hf b hb).1⟩⟩
    · rw [List.getElem?_reverse hlt]
      simp [show xs.length - 1 - i < xs.length by omega]
    · have := st3.2.1
      rw [hsz] at this
      exact ⟨hlt, this⟩
  done := by
    intro X hP hw hK hc i pins s σ H E I hf st hg
    subst hP hw hK
    obtain ⟨hq, hlt⟩ := hg
    obtain ⟨its, rv, hl, hal⟩ := lst_iter I hq
    obtain ⟨f0, f1, f2, f3, f4, f5⟩ := hf it (by simp)
    have hai : a ≠ it := ne_of_none hq f0
    have hlen := rv.length
    have hsz : its.toArray.size = xs.length := by rw [List.size_toArray]; exact hlen.symm
    subst hlt
    have st2 : s.heap.IsRevIter it a ((its.toArray.size : Int) - 1 - ((its.toArray.size : Nat) : Int)) := by rw [hsz]; exact st.2
    exact (Walks.listRev (prog := X.prog) (w := X.w) (A := X.A) (I.ok.hd hc) it a hai its.toArray).done s _ E ⟨Nat.le_refl _, st2, hl⟩ fun h' tk hk => ⟨rfl, I.turned (t' := tk) (fun b o hb e => hk b o (by simpa using hb) e) f0 f1 f3 f4 f5⟩
  self := fun _ _ _ _ _ st h => wpAny_pyIter_revIter st.2 h
section
variable {X : Cx}
def iRev (ta : TA) : TI := fun σ H R => ta σ H fun vs H1 => ∃ a xs, vs = [.ref a] ∧ H1 a = some (.lst xs) ∧ R (ItV a xs) H1
theorem pi_rev {tg : Expr} {p pos : Pos} {e : Expr} {ta : TA} (hg : Gl X "reversed") (hm : X.mg "reversed" = none) (ha : PA X [e] ta) (hn : noStar [e] = true := by rfl) : PI X tg (.Call (.Name "reversed" p) [e] [] pos) (iRev ta) := by
  intro pins s σ H R I h
  refine Call_ (ld_blt I hg hm NP.bt_reversed (PyProof.Rows.callWith_type1 (thn (ha pos pins s σ H _ I h) fun us s1 ⟨vs, H1, I1, r1, q1⟩ => ?_) (starEach_of hn) rfl))
  obtain ⟨a, xs, e, hq, q⟩ := q1
  subst e
  obtain ⟨u, rfl, ru⟩ := vals1 r1
  cases ru
  obtain ⟨its, rv, hl, hal⟩ := lst_iter I1 hq
  have hlen := rv.length
  refine call_reversed_list hl ?_
  have hrv : (s1.heap.push (revObj a ((its.toArray.size : Int) - 1))).IsRevIter s1.heap.objs.size a ((xs.length : Int) - 1 - ((0 : Nat) : Int)) := by
    refine ⟨_, Heap.get?_push_size _ rfl, rfl, ?_⟩
    rw [List.size_toArray, ← hlen]
    simp [revObj]
  have I2 : Inv X pins σ H1 { s1 with heap := s1.heap.push (revObj a ((its.toArray.size : Int) - 1)) } := I1.kept (t' := s1.toks) fun b o e => Heap.get?_push_of_some _ e
  refine wpAny_pyIter_revIter (s := { s1 with heap := s1.heap.push (revObj a ((its.toArray.size : Int) - 1)) }) hrv ⟨_, [_], _, _, H1, rfl, I2, turn_rev a _ xs, ⟨Nat.zero_le _, hrv⟩, fun b hb => ?_, q⟩
  have e := List.mem_singleton.mp hb
  subst e
  exact I1.fpOk (Nat.le_refl _) (I1.hok.fresh (Nat.le_refl _))
end
end L2
set_option Elab.async false
set_option linter.all false
set_option maxRecDepth 100000
namespace NP
open PySem L2
def wareN (S : Sh) (x : Str) : Option Wr := S.wares.find? fun w => decide (w.name = x)
theorem wareN_eq {S : Sh} (nd : (S.wares.map (·.name)).Nodup) {w : Wr} (hw : w ∈ S.wares) : wareN S w.name = some w := by
  unfold wareN
  cases e : S.wares.find? (fun v => decide (v.name = w.name)) with
  | none =>
    have := List.find?_eq_none.mp e w hw
    simp at this
  | some v =>
    have h1 : v.name = w.name := of_decide_eq_true (by simpa using List.find?_some e)
    have h2 := List.mem_of_find?_eq_some e
    obtain ⟨i, hi, ei⟩ := List.mem_iff_getElem.mp hw
    obtain ⟨j, hj, ej⟩ := List.mem_iff_getElem.mp h2
    have : (S.wares.map (·.name))[i]? = (S.wares.map (·.name))[j]? := by
      rw [List.getElem?_map, List.getElem?_map, List.getElem?_eq_getElem hi, List.getElem?_eq_getElem hj, ei, ej]
      show some w.name = some v.name
      rw [h1]
    have e2 := (List.getElem?_inj (by rw [List.length_map]; exact hi) nd).mp this
    subst e2
    rw [← ei, ← ej]
def tmF (S : Sh) : Nat → Str → Int
  | 0, _ => 0
  | k + 1, x => match wareN S x with
    | some w => w.lag + max0 (w.parts.map fun p => tmF S k p.1)
    | none => 0
def tm (S : Sh) (x : Str) : Int := tmF S S.wares.length x
theorem tmF_succ {S : Sh} (L : Lev S) (k : Nat) {w : Wr} (hw : w ∈ S.wares) : tmF S (k + 1) w.name = w.lag + max0 (w.parts.map fun p => tmF S k p.1) := by
  rw [tmF, wareN_eq L.nd hw]
theorem tmF_stop {S : Sh} (L : Lev S) {r : Str → Nat} (hp : ∀ w ∈ S.wares, ∀ p ∈ w.parts, r p.1 < r w.name) : ∀ k w, w ∈ S.wares → r w.name < k → tmF S (k + 1) w.name = tmF S k w.name
  | 0, w, _, h => by omega
  | k + 1, w, hw, h => by
    rw [tmF_succ L _ hw, tmF_succ L _ hw]
    congr 2
    apply List.map_congr_left
    intro p hpm
    obtain ⟨v, hv, e⟩ := List.mem_map.mp (L.own w hw p hpm)
    have h3 := hp w hw p hpm
    rw [← e] at h3 ⊢
    exact tmF_stop L hp k v hv (by omega)
theorem tm_eq {S : Sh} (L : Lev S) {w : Wr} (hw : w ∈ S.wares) : tm S w.name = w.lag + max0 (w.parts.map fun p => tm S p.1) := by
  obtain ⟨r, h1, h2⟩ := L.low
  have h3 := tmF_stop L h2 S.wares.length w hw (h1 w hw)
  rw [tmF_succ L _ hw] at h3
  exact h3.symm
theorem parts_ahead {S : Sh} (L : Lev S) {ys : List Str} (so : SortK (lv S) (S.wares.map (·.name)) ys) {j : Nat} {w : Wr} (hw : w ∈ S.wares) (hj : ys.reverse[j]? = some w.name) {p : Str × Int} (hp : p ∈ w.parts) : p.1 ∈ ys.reverse.take j := by
  have hlv := lv_part L hw hp
  have hm : p.1 ∈ ys.reverse := by rw [List.mem_reverse]; exact so.1.mem_iff.mpr (L.own w hw p hp)
  have pw : ys.reverse.Pairwise fun a b => lv S b ≤ lv S a := by rw [List.pairwise_reverse]; exact so.2
  obtain ⟨i, hi⟩ := List.mem_iff_getElem?.mp hm
  obtain ⟨hil, ei⟩ := List.getElem?_eq_some_iff.mp hi
  obtain ⟨hjl, ej⟩ := List.getElem?_eq_some_iff.mp hj
  have hlt : i < j := by
    rcases Nat.lt_trichotomy i j with z | z | z
    · exact z
    · subst z
      rw [ei] at ej
      rw [ej] at hlv
      omega
    · have := List.pairwise_iff_getElem.mp pw j i hjl hil z
      rw [ei, ej] at this
      omega
  exact List.mem_of_getElem? (i := i) (by rw [List.getElem?_take, if_pos hlt]; exact hi)
end NP
set_option Elab.async false
set_option linter.all false
set_option maxRecDepth 100000
namespace L2
open PySem PySem.Spec PyProof.Rows PySem.W NP
def StrLe (a b : Str) : Prop := ¬ b.cps.toList < a.cps.toList
def StrSort (xs ys : List Str) : Prop := ys.Perm xs ∧ ys.Pairwise StrLe
section
variable {X : Cx} {pins : List (Addr × Obj)} {σ : St} {H : Hp} {s : Shared} {h' : Heap}
end
section
variable {X : Cx}
def rSortS : List V → Hp → VK → Prop := fun vs H Q => ∃ a xs, vs = [.ref a] ∧ H a = some (.lst (xs.map V.str)) ∧ xs.length < 64 ∧ ∀ p ys, H p = none → StrSort xs ys → Q (.ref p) (upd H p (.lst (ys.map V.str)))
def rSortD : List V → Hp → VK → Prop := fun vs H Q => ∃ a kvs xs, vs = [.ref a] ∧ H a = some (.dK kvs) ∧ kvs.map (·.1) = xs.map Sum.inr ∧ xs.length < 64 ∧ ∀ p ys, H p = none → StrSort xs ys → Q (.ref p) (upd H p (.lst (ys.map V.str)))
def rDictK : List V → Hp → VK → Prop := fun vs H Q => ∃ a kvs, vs = [.ref a] ∧ Rd H a (.dK kvs) ∧ ∀ p, H p = none → Q (.ref p) (upd H p (.dK kvs))
def rClearD : V → List V → Hp → VK → Prop := fun x vs H Q => ∃ a kvs, x = .ref a ∧ vs = [] ∧ H a = some (.dK kvs) ∧ Q .non (upd H a (.dK []))
end
end L2
set_option Elab.async false
set_option linter.all false
set_option maxRecDepth 100000
set_option maxHeartbeats 4000000
namespace L2
open PySem PyProof.Rows
def rIndexS : V → List V → Hp → VK → Prop := fun x vs H Q => ∃ (l : Addr) (xs : List Str) (y : Str), x = .ref l ∧ vs = [.str y] ∧ H l = some (.lst (xs.map V.str)) ∧ y ∈ xs ∧ Q (.int (xs.idxOf y : Nat)) H
end L2
set_option Elab.async false
set_option linter.all false
set_option maxRecDepth 100000
set_option maxHeartbeats 4000000
set_option exponentiation.threshold 4000
namespace L2
open PySem PySem.Spec PyProof.Rows
def rGetD : V → V → Hp → VK → Prop := fun o i H Q => ∃ (p : Addr) (kvs : List (Key × V)) (k : Str) (v : V), o = .ref p ∧ i = .str k ∧ H p = some (.dK kvs) ∧ valV kvs (.inr k) = some v ∧ Q v H
end L2
namespace NP
open PySem L2
def lotsOf (m g : Int) : Int := if -(-m / g) > 0 then -(-m / g) else 0
theorem lotsOf_nn (m g : Int) : 0 ≤ lotsOf m g := by unfold lotsOf; split <;> omega
theorem lotsOf_enough {m g : Int} (h : 0 < g) : m ≤ g * lotsOf m g := by
  have h1 := Int.mul_ediv_add_emod (-m) g
  have h2 := Int.emod_nonneg (-m) (b := g) (by omega)
  have h3 : g * (-(-m / g)) = -(g * (-m / g)) := Int.mul_neg ..
  unfold lotsOf
  split
  · rw [h3]; omega
  · rename_i q
    have h4 : 0 ≤ -m / g := by omega
    have h5 : 0 ≤ g * (-m / g) := Int.mul_nonneg (by omega) h4
    omega
theorem lotsOf_least {m g : Int} (h : 0 < g) (hl : 0 < lotsOf m g) : g * lotsOf m g < m + g := by
  have h1 := Int.mul_ediv_add_emod (-m) g
  have h2 := Int.emod_lt_of_pos (-m) h
  have h3 : g * (-(-m / g)) = -(g * (-m / g)) := Int.mul_neg ..
  unfold lotsOf at hl ⊢
  split
  · rw [h3]; omega
  · rename_i q
    rw [if_neg q] at hl
    omega
theorem lotsOf_le {m g : Int} (h : 0 < g) (hm : 0 ≤ m) : lotsOf m g ≤ m := by
  by_cases hz : 0 < lotsOf m g
  · have h1 := lotsOf_least h hz
    have h2 : lotsOf m g * 1 ≤ lotsOf m g * g := Int.mul_le_mul_of_nonneg_left (by omega) (by omega)
    have h3 : g * lotsOf m g = lotsOf m g * g := Int.mul_comm ..
    have h4 : (g - 1) * 1 ≤ (g - 1) * lotsOf m g := Int.mul_le_mul_of_nonneg_left (by omega) (by omega)
    have h5 : (g - 1) * lotsOf m g = g * lotsOf m g - lotsOf m g := by rw [Int.sub_mul, Int.one_mul]
    omega
  · omega
def sumI : List Int → Int
  | [] => 0
  | x :: r => x + sumI r
def wantsOf (us : List Wt) (x : Str) : Int := sumI (us.map fun u => if u.1 = x then u.2.2 else 0)
def takeBy (L : Str → Int) (w : Wr) (x : Str) : Int := sumI (w.parts.map fun p => if p.1 = x then L w.name * p.2 else 0)
def takesOf (ws : List Wr) (L : Str → Int) (x : Str) : Int := sumI (ws.map fun w => takeBy L w x)
def needOf (S : Sh) (L : Str → Int) (x : Str) : Int := wantsOf S.wants x + takesOf S.wares L x
def exF (S : Sh) : Nat → Str → Int
  | 0, _ => 0
  | k + 1, x => match wareN S x with
    | some w => lotsOf (needOf S (exF S k) x) w.gives
    | none => 0
def ex (S : Sh) (x : Str) : Int := exF S S.wares.length x
theorem wareN_mem {S : Sh} {x : Str} {w : Wr} (h : wareN S x = some w) : w ∈ S.wares ∧ w.name = x := ⟨List.mem_of_find?_eq_some h, of_decide_eq_true (by simpa using List.find?_some h)⟩
end NP
set_option Elab.async false
set_option linter.all false
set_option maxRecDepth 100000
set_option maxHeartbeats 4000000
set_option exponentiation.threshold 4000
namespace NP
open PySem L2
theorem lotsOf_none {m g : Int} (h : 0 < g) (hm : m ≤ 0) : lotsOf m g = 0 := by
  unfold lotsOf
  have : 0 ≤ -m / g := Int.ediv_nonneg (by omega) (by omega)
  rw [if_neg (by omega)]
def above (f g : Int) (xs ys : List Int) : Nat → Int
  | 0 => -f
  | i + 1 => above f g xs ys i + (xs.getD i 0 - ys.getD i 0) + g * lotsOf (-(above f g xs ys i + (xs.getD i 0 - ys.getD i 0))) g
def lotAt (f g : Int) (xs ys : List Int) (i : Nat) : Int := lotsOf (-(above f g xs ys i + (xs.getD i 0 - ys.getD i 0))) g
def lots (f g : Int) (xs ys : List Int) (n : Nat) : List Int := (List.range n).map (lotAt f g xs ys)
theorem lots_len (f g : Int) (xs ys : List Int) (n : Nat) : (lots f g xs ys n).length = n := by simp [lots]
theorem lots_succ (f g : Int) (xs ys : List Int) (n : Nat) : lots f g xs ys (n + 1) = lots f g xs ys n ++ [lotAt f g xs ys n] := by
  unfold lots
  rw [List.range_succ, List.map_append]
  rfl
theorem lots_get {f g : Int} {xs ys : List Int} {n i : Nat} (h : i < n) : (lots f g xs ys n)[i]? = some (lotAt f g xs ys i) := by simp [lots, h]
theorem lots_getD {f g : Int} {xs ys : List Int} {n i : Nat} (h : i < n) : (lots f g xs ys n).getD i 0 = lotAt f g xs ys i := by rw [List.getD_eq_getElem?_getD, lots_get h]; rfl
theorem above_succ (f g : Int) (xs ys : List Int) (i : Nat) : above f g xs ys (i + 1) = above f g xs ys i + (xs.getD i 0 - ys.getD i 0) + g * lotAt f g xs ys i := rfl
theorem above_nn {f g : Int} {xs ys : List Int} (hg : 0 < g) (i : Nat) : 0 ≤ above f g xs ys (i + 1) := by
  have := lotsOf_enough (m := -(above f g xs ys i + (xs.getD i 0 - ys.getD i 0))) hg
  rw [above_succ]
  unfold lotAt
  omega
theorem lotAt_nn (f g : Int) (xs ys : List Int) (i : Nat) : 0 ≤ lotAt f g xs ys i := lotsOf_nn _ _
theorem above_ge {f g : Int} {xs ys : List Int} (hg : 0 < g) (hf : 0 ≤ f) (i : Nat) : -f ≤ above f g xs ys i := by
  cases i with
  | zero => exact Int.le_refl _
  | succ i => have := above_nn (f := f) (xs := xs) (ys := ys) hg i; omega
theorem lotAt_le {f g : Int} {xs ys : List Int} (hg : 0 < g) (hf : 0 ≤ f) {i : Nat} (hx : 0 ≤ xs.getD i 0) (hy : 0 ≤ ys.getD i 0) : lotAt f g xs ys i ≤ f + ys.getD i 0 := by
  have h1 := above_ge (f := f) (xs := xs) (ys := ys) hg hf i
  unfold lotAt
  by_cases h : 0 ≤ -(above f g xs ys i + (xs.getD i 0 - ys.getD i 0))
  · have := lotsOf_le hg h
    omega
  · rw [lotsOf_none hg (by omega)]
    omega
theorem above_sum {f g : Int} {xs ys : List Int} {n : Nat} (ch : Nat → Int) (hc : ∀ i, i < n → ch i = xs.getD i 0 + g * lotAt f g xs ys i - ys.getD i 0) : ∀ i, i ≤ n → above f g xs ys i = upS ch i - f
  | 0, _ => by show -f = 0 - f; omega
  | i + 1, h => by
    rw [above_succ, above_sum ch hc i (by omega)]
    show _ = upS ch i + ch i - f
    rw [hc i (by omega)]
    omega
def LRF (S : Sh) : Nat → Str → List Int
  | 0, _ => []
  | k + 1, x => match wareN S x with
    | some w => lots w.floor w.gives (rowOf (daysN S) (arrAt w)) (needsRow S (LRF S k) x) (daysN S)
    | none => []
def LR (S : Sh) (x : Str) : List Int := LRF S S.wares.length x
theorem needAt_congr {S : Sh} {plan plan' : Str → List Int} {nm : Str} (h : ∀ t ∈ S.wares, ∀ p ∈ t.parts, p.1 = nm → plan t.name = plan' t.name) (d : Nat) : needAt S plan nm d = needAt S plan' nm d := by
  unfold needAt
  congr 1
  refine sumF_congr fun t ht => ?_
  unfold pAt
  refine sumF_congr fun p hp => ?_
  by_cases e : p.1 = nm
  · rw [if_pos e, if_pos e, h t ht p hp e]
  · rw [if_neg e, if_neg e]
theorem needsRow_congr {S : Sh} {plan plan' : Str → List Int} {nm : Str} (h : ∀ t ∈ S.wares, ∀ p ∈ t.parts, p.1 = nm → plan t.name = plan' t.name) : needsRow S plan nm = needsRow S plan' nm := rowOf_eq fun d _ => needAt_congr h d
theorem LRF_succ {S : Sh} (L : Lev S) (k : Nat) {w : Wr} (hw : w ∈ S.wares) : LRF S (k + 1) w.name = lots w.floor w.gives (rowOf (daysN S) (arrAt w)) (needsRow S (LRF S k) w.name) (daysN S) := by rw [LRF, wareN_eq L.nd hw]
theorem LRF_stop {S : Sh} (L : Lev S) {r : Str → Nat} (hr : ∀ w ∈ S.wares, r w.name < S.wares.length) (hp : ∀ w ∈ S.wares, ∀ p ∈ w.parts, r p.1 < r w.name) : ∀ k w, w ∈ S.wares → S.wares.length - r w.name ≤ k → LRF S (k + 1) w.name = LRF S k w.name
  | 0, w, hw, h => by have := hr w hw; omega
  | k + 1, w, hw, h => by
    rw [LRF_succ L _ hw, LRF_succ L _ hw]
    congr 1
    refine needsRow_congr fun u hu p hpm e => ?_
    have h3 := hp u hu p hpm
    rw [e] at h3
    have := hr u hu
    exact LRF_stop L hr hp k u hu (by omega)
theorem LR_eq {S : Sh} (L : Lev S) {w : Wr} (hw : w ∈ S.wares) : LR S w.name = lots w.floor w.gives (rowOf (daysN S) (arrAt w)) (needsRow S (LR S) w.name) (daysN S) := by
  obtain ⟨r, h1, h2⟩ := L.low
  have h3 := LRF_stop L h1 h2 S.wares.length w hw (by omega)
  rw [LRF_succ L _ hw] at h3
  exact h3.symm
theorem LR_len {S : Sh} (L : Lev S) {w : Wr} (hw : w ∈ S.wares) : (LR S w.name).length = daysN S := by rw [LR_eq L hw, lots_len]
theorem taker_in {S : Sh} (L : Lev S) {ys : List Str} (so : SortK (lv S) (S.wares.map (·.name)) ys) {i : Nat} {nm : Str} (hi : ys[i]? = some nm) {t : Wr} (ht : t ∈ S.wares) {p : Str × Int} (hp : p ∈ t.parts) (e : p.1 = nm) : t.name ∈ ys.take i := by
  have h1 := lv_part L ht hp
  rw [e] at h1
  obtain ⟨j, hj⟩ := List.mem_iff_getElem?.mp (so.1.mem_iff.mpr (List.mem_map.mpr ⟨t, ht, rfl⟩))
  obtain ⟨hil, ei⟩ := List.getElem?_eq_some_iff.mp hi
  obtain ⟨hjl, ej⟩ := List.getElem?_eq_some_iff.mp hj
  have hlt : j < i := by
    rcases Nat.lt_trichotomy j i with z | z | z
    · exact z
    · subst z
      rw [ei] at ej
      rw [ej] at h1
      omega
    · have := List.pairwise_iff_getElem.mp so.2 i j hil hjl z
      rw [ei, ej] at this
      omega
  exact List.mem_of_getElem? (i := j) (by rw [List.getElem?_take, if_pos hlt]; exact hj)
structure PlOk (S : Sh) : Prop where
  wb : ∀ w ∈ S.wares, (1 ≤ w.gives ∧ w.gives ≤ 10 ^ 41) ∧ (0 ≤ w.floor ∧ w.floor ≤ 10 ^ 41) ∧ 0 ≤ w.stock ∧ w.parts.length ≤ 12 ∧ ∀ p ∈ w.parts, 1 ≤ p.2 ∧ p.2 ≤ 10 ^ 41
  com : ∀ w ∈ S.wares, ∀ p ∈ w.coming, 0 ≤ p.2
  few : S.wares.length ≤ 12
  wt : S.wants.length ≤ 21 ∧ ∀ u ∈ S.wants, 0 ≤ u.2.2 ∧ u.2.2 ≤ 10 ^ 100
theorem sumF_nn {α : Type} {l : List α} {f : α → Int} (h : ∀ x ∈ l, 0 ≤ f x) : 0 ≤ sumF f l := by
  induction l with
  | nil => exact Int.le_refl _
  | cons x r ih =>
    rw [sumF_cons]
    have h1 := h x List.mem_cons_self
    have h2 := ih fun y hy => h y (List.mem_cons_of_mem _ hy)
    omega
theorem sumF_le {α : Type} {l : List α} {f : α → Int} {c : Int} {n : Nat} (hc : 0 ≤ c) (hl : l.length ≤ n) (h : ∀ x ∈ l, f x ≤ c) : sumF f l ≤ n * c := by
  induction l generalizing n with
  | nil => exact Int.mul_nonneg (Int.natCast_nonneg n) hc
  | cons x r ih =>
    cases n with
    | zero => cases hl
    | succ n =>
      rw [sumF_cons]
      have h1 := h x List.mem_cons_self
      have h2 := ih (n := n) (Nat.le_of_succ_le_succ hl) fun y hy => h y (List.mem_cons_of_mem _ hy)
      have e : ((n + 1 : Nat) : Int) * c = n * c + c := by rw [Int.natCast_add, Int.add_mul]; simp
      omega
theorem getD_in {xs : List Int} {B : Int} (hB : 0 ≤ B) (h : ∀ x ∈ xs, 0 ≤ x ∧ x ≤ B) (i : Nat) : 0 ≤ xs.getD i 0 ∧ xs.getD i 0 ≤ B := by
  rw [List.getD_eq_getElem?_getD]
  cases e : xs[i]? with
  | none => exact ⟨Int.le_refl _, hB⟩
  | some x => exact h x (List.mem_of_getElem? e)
theorem bAt_in {xs : List Int} {B : Int} (hB : 0 ≤ B) (h : ∀ x ∈ xs, 0 ≤ x ∧ x ≤ B) (lag : Int) (d : Nat) : 0 ≤ bAt xs lag d ∧ bAt xs lag d ≤ B := by
  unfold bAt
  split
  · exact getD_in hB h _
  · exact ⟨Int.le_refl _, hB⟩
theorem needAt_in {S : Sh} (E : PlOk S) {plan : Str → List Int} {B : Int} (hB : 0 ≤ B) (h : ∀ nm, ∀ x ∈ plan nm, 0 ≤ x ∧ x ≤ B) (nm : Str) (d : Nat) : 0 ≤ needAt S plan nm d ∧ needAt S plan nm d ≤ 21 * 10 ^ 100 + 12 * (12 * (10 ^ 41 * B)) := by
  have hB2 : 0 ≤ 10 ^ 41 * B := Int.mul_nonneg (by decide +kernel) hB
  have w0 : 0 ≤ sumF (wAt nm d) S.wants := sumF_nn fun u hu => by
    unfold wAt
    split
    · exact (E.wt.2 u hu).1
    · exact Int.le_refl _
  have w1 : sumF (wAt nm d) S.wants ≤ (21 : Nat) * (10 : Int) ^ 100 := sumF_le (by decide +kernel) E.wt.1 fun u hu => by
    unfold wAt
    split
    · exact (E.wt.2 u hu).2
    · decide +kernel
  have p0 : 0 ≤ sumF (pAt plan nm d) S.wares := sumF_nn fun t ht => sumF_nn fun p hp => by
    split
    · exact Int.mul_nonneg (by have := ((E.wb t ht).2.2.2.2 p hp).1; omega) (bAt_in hB (h t.name) t.lag d).1
    · exact Int.le_refl _
  have p1 : sumF (pAt plan nm d) S.wares ≤ (12 : Nat) * (12 * (10 ^ 41 * B)) := sumF_le (by omega) E.few fun t ht => by
    have : pAt plan nm d t ≤ (12 : Nat) * (10 ^ 41 * B) := sumF_le hB2 (E.wb t ht).2.2.2.1 fun p hp => by
      split
      · have h3 := (E.wb t ht).2.2.2.2 p hp
        have h4 := bAt_in hB (h t.name) t.lag d
        exact Int.mul_le_mul h3.2 h4.2 h4.1 (by decide +kernel)
      · exact hB2
    exact this
  unfold needAt
  exact ⟨by omega, Int.add_le_add w1 p1⟩
theorem arrAt_nn {S : Sh} (E : PlOk S) {w : Wr} (hw : w ∈ S.wares) (d : Nat) : 0 ≤ arrAt w d := by
  unfold arrAt
  have h1 : 0 ≤ (if d = 0 then w.stock else 0) := by
    split
    · exact (E.wb w hw).2.2.1
    · exact Int.le_refl _
  have h2 : 0 ≤ sumF (cAt d) w.coming := sumF_nn fun p hp => by
    unfold cAt
    split
    · exact E.com w hw p hp
    · exact Int.le_refl _
  omega
theorem LRF_in {S : Sh} (E : PlOk S) : ∀ (k : Nat) (nm : Str), ∀ x ∈ LRF S k nm, 0 ≤ x ∧ x ≤ 10 ^ (105 + 45 * k)
  | 0, nm, x, h => by cases h
  | k + 1, nm, x, h => by
    have hB : (0 : Int) ≤ 10 ^ (105 + 45 * k) := Int.pow_nonneg (by decide)
    have h1 : (1 : Int) ≤ 10 ^ (105 + 45 * k) := Int.pow_pos (by decide)
    have e : (10 : Int) ^ (105 + 45 * (k + 1)) = 10 ^ (105 + 45 * k) * 10 ^ 45 := by rw [← Int.pow_add]; rfl
    have hbig : (10 : Int) ^ 105 ≤ 10 ^ (105 + 45 * k) := by
      have : (10 : Nat) ^ 105 ≤ 10 ^ (105 + 45 * k) := Nat.pow_le_pow_right (by decide) (by omega)
      exact_mod_cast this
    rw [LRF] at h
    split at h
    · rename_i w hw
      have hw2 := (wareN_mem hw).1
      unfold lots at h
      obtain ⟨i, hi, rfl⟩ := List.mem_map.mp h
      have hi := List.mem_range.mp hi
      have hwb := E.wb w hw2
      have hn := needAt_in E hB (fun y => LRF_in E k y) nm i
      have e1 : (rowOf (daysN S) (arrAt w)).getD i 0 = arrAt w i := rowOf_getD hi
      have e2 : (needsRow S (LRF S k) nm).getD i 0 = needAt S (LRF S k) nm i := rowOf_getD hi
      have h2 := lotAt_le (f := w.floor) (g := w.gives) (xs := rowOf (daysN S) (arrAt w)) (ys := needsRow S (LRF S k) nm) (i := i) (by omega) hwb.2.1.1 (by rw [e1]; exact arrAt_nn E hw2 i) (by rw [e2]; exact hn.1)
      rw [e2] at h2
      refine ⟨lotAt_nn _ _ _ _ _, ?_⟩
      rw [e]
      have hn2 := hn.2
      have hf := hwb.2.1.2
      generalize (10 : Int) ^ (45 * k) = B at hB h1 hn2 ⊢
      omega
    · cases h
theorem LR_in {S : Sh} (E : PlOk S) (nm : Str) : ∀ x ∈ LR S nm, 0 ≤ x ∧ x < 10 ^ 700 := fun x hx => by
  have h1 := LRF_in E S.wares.length nm x hx
  have h2 : (10 : Int) ^ (105 + 45 * S.wares.length) ≤ 10 ^ (105 + 45 * 12) := by
    have : (10 : Nat) ^ (105 + 45 * S.wares.length) ≤ 10 ^ (105 + 45 * 12) := Nat.pow_le_pow_right (by decide) (Nat.add_le_add_left (Nat.mul_le_mul_left _ E.few) _)
    exact_mod_cast this
  exact ⟨h1.1, Int.lt_of_le_of_lt (Int.le_trans h1.2 h2) (by decide +kernel)⟩
def earlyF (row : List Int) (lag : Int) : Nat → Option Nat
  | 0 => none
  | n + 1 => match earlyF row lag n with
    | some d => some d
    | none => if (n : Int) < lag ∧ 0 < row.getD n 0 then some n else none
def earlyAt (row : List Int) (lag : Int) : Option Nat := earlyF row lag row.length
theorem earlyF_none {row : List Int} {lag : Int} : ∀ {n : Nat}, earlyF row lag n = none → ∀ e, e < n → ¬ ((e : Int) < lag ∧ 0 < row.getD e 0)
  | 0, _, e, he => absurd he (Nat.not_lt_zero _)
  | n + 1, h, e, he => by
    rw [earlyF] at h
    split at h
    · cases h
    · rename_i q
      split at h
      · cases h
      · rename_i c
        by_cases z : e = n
        · subst z
          exact c
        · exact earlyF_none q e (by omega)
theorem early_more {row : List Int} {lag : Int} {n d : Nat} (h : earlyF row lag n = some d) : ∀ k, earlyF row lag (n + k) = some d
  | 0 => h
  | k + 1 => by
    show earlyF row lag ((n + k) + 1) = some d
    rw [earlyF, early_more h k]
theorem early_stop {row : List Int} {lag : Int} {n d : Nat} (h : earlyF row lag n = some d) (hn : n ≤ row.length) : earlyAt row lag = some d := by
  have := early_more h (row.length - n)
  rw [Nat.add_sub_cancel' hn] at this
  exact this
theorem earlyF_some {row : List Int} {lag : Int} : ∀ {n d : Nat}, earlyF row lag n = some d → d < n ∧ (d : Int) < lag ∧ 0 < row.getD d 0 ∧ ∀ e, e < d → ¬ ((e : Int) < lag ∧ 0 < row.getD e 0)
  | 0, d, h => by cases h
  | n + 1, d, h => by
    rw [earlyF] at h
    split at h
    · rename_i d' e
      obtain rfl := Option.some.inj h
      obtain ⟨h1, h2, h3, h4⟩ := earlyF_some e
      exact ⟨by omega, h2, h3, h4⟩
    · rename_i e
      split at h
      · rename_i c
        obtain rfl := Option.some.inj h
        exact ⟨by omega, c.1, c.2, fun i hi => earlyF_none e i hi⟩
      · cases h
end NP
set_option Elab.async false
set_option linter.all false
set_option maxRecDepth 100000
set_option maxHeartbeats 400000
namespace L2
open PySem PySem.Spec PyProof.Rows PySem.W NP
section
variable {prog : Program} {w : World} {A : Around} {E : Value → Shared → Prop} {s : Shared}
end
def rSortT : List V → Hp → VK → Prop := fun vs H Q => ∃ (a : Addr) (as : List Addr) (kz : Nat → Int), vs = [.ref a] ∧ H a = some (.lst (as.map V.ref)) ∧ as.length < 64 ∧ (∀ i, i < as.length → H (as.getD i 0) = some (.tup [.int (kz i), .int i])) ∧
  ∀ (r : Addr) (ps : List Nat), H r = none → ps.Perm (List.range as.length) → ps.Pairwise (klt kz) → Q (.ref r) (upd H r (.lst (ps.map fun i => V.ref (as.getD i 0))))
end L2
set_option Elab.async false
set_option linter.all false
set_option maxRecDepth 100000
namespace L2
open PySem PySem.Spec PyProof.Rows
def leastN (ns : Nat → Int) : Nat → Int
  | 0 => ns 0
  | k + 1 => if ns (k + 1) < leastN ns k then ns (k + 1) else leastN ns k
section
variable {prog : Program} {w : World} {A : Around} {R : Result → Shared → Prop} {I : Addr} {fp wr : List Addr} {n : Nat} {P : Nat → Value → Prop} {St : Nat → Heap → Prop}
end
def minL (ns : List Int) : Int := leastN (fun i => (ns[i]?).getD 0) (ns.length - 1)
section
variable {X : Cx}
def rMinL : List V → Hp → VK → Prop := fun vs H Q => ∃ a ns, vs = [.ref a] ∧ H a = some (.lst (ns.map V.int)) ∧ ns ≠ [] ∧ Q (.int (minL ns)) H
end
end L2
set_option Elab.async false
set_option linter.all false
set_option maxRecDepth 100000
namespace L2
open PySem PySem.Spec PyProof.Rows PySem.W NP
section
variable {X : Cx}
end
end L2
set_option Elab.async false
set_option linter.all false
set_option maxRecDepth 100000
namespace L2
open PySem PySem.Spec PyProof.Rows
section
variable {X : Cx}
end
end L2
set_option Elab.async false
set_option linter.all false
set_option maxRecDepth 100000
namespace L2
open PySem PySem.Spec PyProof.Rows PySem.W NP
section
variable {X : Cx}
def tMaxV (te : TE) : TE := fun σ H Q => te σ H fun x H1 => ∃ (a : Addr) (kvs : List (Key × V)) (ns : List Int), x = .ref a ∧ H1 a = some (.dK kvs) ∧ kvs.map (·.2) = ns.map V.int ∧ ns ≠ [] ∧ Q (.int (maxL ns)) H1
theorem pe_maxVals {l : Expr} {te : TE} {p apos cpos pos : Pos} (hc : X.calm = true) (hg : Gl X "max") (hm : X.mg "max" = none) (hl : PE X l te) (hbase : attributeBase l "values" X.env (eval l X.env) = eval l X.env := by rfl) (hline : (apos.endLine == cpos.line) = true := by rfl)
    (hn : noStar [.Call (.Attribute l "values" apos) [] [] cpos] = true := by rfl) :
    PE X (.Call (.Name "max" p) [.Call (.Attribute l "values" apos) [] [] cpos] [] pos) (tMaxV te) := by
  intro pins s σ H Q I h
  refine wpAny_Call_Name_kw (ld_blt I hg hm NP.bt_max ?_ (by decide) (by decide))
  refine PyProof.Rows.callWith_builtin1 ?_ (starEach_cons hn) (backTo_any (noStar_cons hn).2)
  rw [starEach_cons hn]
  show wpAny _ _ (spliced ((false, eval (.Call (.Attribute l "values" apos) [] [] cpos) X.env) :: backTo pos (starEach [] X.env))) _ _ s
  refine Calls.spliced_cons (wpAny_Call_method0_late hbase hline (thn (hl pins s σ H _ I h) fun v s1 ⟨x, H1, I1, r1, q1⟩ => ?_))
  obtain ⟨a, kvs, ns, e, ha, hk, hns, q⟩ := q1
  subst e
  cases r1
  obtain ⟨hz, hS, vs, rel, hdd⟩ := I1.hok a _ ha
  obtain ⟨ep, hat⟩ := hdd.dictAt
  obtain ⟨t1, t2, _⟩ := isD_at I1 (.inl ⟨kvs, .inl ha⟩)
  refine ⟨"dict", "dict.values", PySem.F.plainAttrs_dict, PySem.F.slot_dict_values, PySem.F.type_dict_values, t1, t2, Calls.callWith_builtin rfl (PySem.evalArgs_none ?_)⟩
  refine call_meetsIn PySem.F.slot_dict_values t1 PySem.F.entry_dict_values (PySem.F.args_dict_values_1 _) (meets_dict_values (mixKind X.prog X.w) a hS) ⟨⟨vs, hat.dictOf⟩, ?_⟩
  have I3 : Inv X pins σ H1 { s1 with heap := s1.heap.push { cls := .type "dict_values", data := .fields #[.ref a] } } := I1.kept (t' := s1.toks) fun b o e => Heap.get?_push_of_some _ e
  refine Calls.spliced_nil ?_
  have K := PySem.W.kdl_values (prog := X.prog) (w := X.w) (knd := mixKind X.prog X.w) (r := s1.heap.objs.size) (d := a) (kvs := vs) (ep := ep)
  have hok : (s1.heap.push { cls := .type "dict_values", data := .fields #[.ref a] }).IsValuesView s1.heap.objs.size a ∧ (s1.heap.push { cls := .type "dict_values", data := .fields #[.ref a] }).DictAt (mixKind X.prog X.w) a vs ep := ⟨⟨_, Heap.get?_push_size _ rfl, rfl, rfl⟩, hat.push _⟩
  have hlv : vs.length = ns.length := by
    have := congrArg List.length hk
    rw [List.length_map, List.length_map] at this
    rw [← rel.length]
    exact this
  have hval : ∀ (i : Nat) (v : Value), (∃ k, vs[i]? = some (k, v)) → ∃ t, v = .int ((ns[i]?).getD 0) t := fun i v ⟨k, e⟩ => by
    have hi : i < kvs.length := by rw [rel.length]; exact (List.getElem?_eq_some_iff.mp e).1
    obtain ⟨u, hu, ru⟩ := kv_at (k := kvs[i].1) (v := kvs[i].2) (i := i) rel (by simp [hi])
    rw [hu] at e
    have e := Option.some.inj e
    have eu : u = v := congrArg Prod.snd e
    subst eu
    have e1 := congrArg (fun z => z[i]?) hk
    simp only [List.getElem?_map, List.getElem?_eq_getElem hi, Option.map_some] at e1
    cases en : ns[i]? with
    | none => rw [en] at e1; cases e1
    | some n =>
      rw [en] at e1
      have e1 : kvs[i].2 = .int n := Option.some.inj e1
      rw [e1] at ru
      exact ru
  generalize hh3 : s1.heap.push { cls := .type "dict_values", data := .fields #[.ref a] } = h3 at I3 hok
  have hsz : ∀ b o, s1.heap.get? b = some o → h3.get? b = some o := fun b o e => by rw [← hh3]; exact Heap.get?_push_of_some _ e
  obtain ⟨oI, St, hit, W, st⟩ := K.iter X.A.in1 { s1 with heap := h3 } (I3.ok.hd hc) hok
  have nm : (toString "max" ++ toString ".loop" : String) = "max.loop" := by decide
  refine call_function_tree F.kind_max F.plain_max F.entry_max (F.args_max1 _) ?_
  refine wpAny_bind (m := Builtin.Builtins.bindParams "max" ["key", "default"] 0 ⟨[], []⟩) (wpAny_of_eq (show Builtin.Builtins.bindParams "max" ["key", "default"] 0 ⟨[], []⟩ = pure [none, none] from rfl) (wpAny_bind (wpAny_pure (wpAny_bind (hit _ _ (wpAny_bind (wpAny_newObj_type ?_)))))))
  rw [nm]
  refine wpAny_pure ⟨plainId_quiet F.plain_max_loop _, ?_⟩
  have sz : (h3.push oI).objs.size = h3.objs.size + 1 := Heap.size_push ..
  have hlt := K.there h3 hok
  have nS : (h3.push oI).objs.size ∉ [h3.objs.size, a] := by
    rw [sz]
    simp only [List.mem_cons, List.not_mem_nil, or_false, not_or]
    exact ⟨Nat.succ_ne_self _, Nat.ne_of_gt (Nat.lt_succ_of_lt hlt.2)⟩
  have gS : ((h3.push oI).push { cls := .type "list", data := .seq #[] }).get? (h3.push oI).objs.size = some { cls := .type "list", data := .seq #[] } := Heap.get?_push_size _ rfl
  have st2 : St 0 ((h3.push oI).push { cls := .type "list", data := .seq #[] }) := W.frame 0 _ _ st fun b _ o e => Heap.get?_push_of_some _ e
  have hpos : 0 < vs.length := by rw [hlv]; exact List.length_pos_iff.mpr hns
  refine maxl_first [] W (fun i => (ns[i]?).getD 0) hval _ nS hpos st2 gS fun t' h' tk hk' => ?_
  rw [hlv]
  refine ⟨.int (maxL ns), H1, I3.kept fun b o e => hk' b o ?_ ?_ (Heap.get?_push_of_some _ (Heap.get?_push_of_some _ e)), ⟨_, rfl⟩, q⟩
  · simp only [List.mem_cons, List.not_mem_nil, or_false]
    exact Nat.ne_of_lt (Heap.lt_size e)
  · rw [sz]
    exact Nat.ne_of_lt (Nat.lt_succ_of_lt (Heap.lt_size e))
end
end L2
set_option Elab.async false
set_option linter.all false
set_option maxRecDepth 100000
namespace L2
open PySem PySem.Spec PyProof.Rows
section
variable {X : Cx}
theorem iop_mulB : OpR X (inplaceOp .Mult) (rI CMulB fun i j => .int (i * j)) := opI fun _ _ _ _ _ _ _ hc q => imul_int q hc.ok
theorem ip_mulI : PIp X .Mult (rI CMulB fun i j => .int (i * j)) := fun pins s σ H x y v u Q I rx ry q => iop_mulB pins s σ H x y v u Q I rx ry q
end
end L2
set_option Elab.async false
set_option linter.all false
set_option maxRecDepth 100000
set_option maxHeartbeats 4000000
namespace K23
open PySem L2 NP
seal PE PA PT PS PSs PI PO PC PW
local macro_rules | `(tactic| walk_at "rd") => `(tactic| simp only [tSeq, tNext, tRet, tRetN, tAsg, tIfS, tDrop, tAug, gName, gSub, tVar, tC, tCB, tCons, tNil, tCall, tOp, tUn, tTest, tB, tAnd, tOr, tNot, tAndV, tOrV, tNotV, tIf, tTup, tLst, tSl, tPart, tNoPart, tBA, tBA0, tDNewK, tChain, tYes, rI, rI0, rU, rEq, rNe, rIsA, rIsnotA, rItem, lenA, rIAddA, rAddA, rMulA, listA, tupleA, lenQ, lenS, lenD, rSetD, rAddS, iLst, iTpl, iTxt, rCat, rCatTT, rRepT, iRng1, iRng2, iDct, tTruL, tTruD, tLrev, tIf, iEnum, iRev, iZip2, iZip3, rEqD, rNeD, rEqK, rNeK, iItm, tSortK, SortAsk, rSortS, rSortD, rSortT, rDictK, rClearD, rSum, rMaxL, rMinL, tMaxd, rGetL, rGetD, tAugS, rRep, rInsert, rMax2, rCount, rIndexS, rLtT, rAppend, rPopAt, rReverse, rSetA, rSetL, L2.start, cpSt, tComp_eq, tFor_eq, iAny_eq, tMaxV,  D.ty, isi_NoneType_bool, isi_NoneType_int, isi_NoneType_str, isi_NoneType_list, isi_NoneType_tuple, isi_NoneType_dict, isi_bool_bool, isi_bool_int, isi_bool_str, isi_bool_list, isi_bool_tuple, isi_bool_dict, isi_int_bool, isi_int_int, isi_int_str, isi_int_list, isi_int_tuple, isi_int_dict, isi_str_bool, isi_str_int, isi_str_str, isi_str_list, isi_str_tuple, isi_str_dict, isi_list_bool, isi_list_int, isi_list_str, isi_list_list, isi_list_tuple, isi_list_dict, isi_tuple_bool, isi_tuple_int, isi_tuple_str, isi_tuple_list, isi_tuple_tuple, isi_tuple_dict, isi_dict_bool, isi_dict_int, isi_dict_str, isi_dict_list, isi_dict_tuple, isi_dict_dict, mem_int, mem_bool, mem_str, mem_list, mem_tuple, mem_dict, Nat.reduceAdd, Nat.reduceSub, Nat.zero_add, Nat.sub_self, List.replicate_zero, List.replicate_succ, List.getD_cons_zero, List.getD_cons_succ, ↓reduceIte, List.map_cons, List.map_nil, List.append_nil, List.nil_append, List.cons_append, List.length_cons, List.length_nil, List.set_cons_zero, List.set_cons_succ, List.set_nil, List.getElem?_cons_zero, List.getElem?_cons_succ, Option.some.injEq, exists_eq_left', exists_eq_left, V.int.injEq, V.bl.injEq, V.str.injEq, V.ref.injEq, V.ty.injEq, List.cons.injEq, and_true, true_and, and_assoc, exists_and_left, exists_eq_right, reduceCtorEq, false_and, and_false, exists_false, or_false, false_or])
def top (i : Nat) : Stmt := PySem.Challenge.pw_needplan_k23_whole_most.main.body.getD i (.Pass ⟨0, 0, 0, 0⟩)
abbrev s_names_of : Stmt := top 15
abbrev s_part_names : Stmt := top 16
abbrev s_ware_of : Stmt := top 17
abbrev s_without_ends : Stmt := top 19
abbrev s_endless_parts : Stmt := top 20
abbrev s_ring : Stmt := top 21
abbrev s_check_rings : Stmt := top 22
abbrev s_levels : Stmt := top 23
abbrev s_worked : Stmt := top 24
abbrev s_times : Stmt := top 25
abbrev s_lots_for : Stmt := top 27
abbrev s_least_lots : Stmt := top 28
abbrev s_planned : Stmt := top 30
abbrev s_count_days : Stmt := top 31
abbrev s_begun_row : Stmt := top 32
abbrev s_needs_row : Stmt := top 33
abbrev s_wants_row : Stmt := top 34
abbrev s_arrivals_row : Stmt := top 35
abbrev s_first_early : Stmt := top 36
abbrev s_put_off : Stmt := top 38
abbrev s_with_want : Stmt := top 39
abbrev s_lets_plan : Stmt := top 40
abbrev s_late : Stmt := top 41
abbrev s_most : Stmt := top 42
abbrev s_greatest_amount : Stmt := top 43
abbrev s_law_cell_at : Stmt := top 45
abbrev s_law_drawn : Stmt := top 46
abbrev s_law_next : Stmt := top 47
abbrev s_law_amount : Stmt := top 48
abbrev s_law_wares : Stmt := top 49
abbrev s_law_filled : Stmt := top 50
abbrev s_law_time : Stmt := top 51
abbrev s_law_plans : Stmt := top 52
abbrev s_law_right : Stmt := top 53
abbrev s_law : Stmt := top 54
structure Txt (mg : Str → Option Value) : Prop where
  n_range : mg "range" = none
  n_len : mg "len" = none
  n_max : mg "max" = none
  n_sorted : mg "sorted" = none
  n_reversed : mg "reversed" = none
  n_zip : mg "zip" = none
  n_min : mg "min" = none
  n_enumerate : mg "enumerate" = none
  n_tuple : mg "tuple" = none
  n_int : mg "int" = none
  n_list : mg "list" = none
  n_isinstance : mg "isinstance" = none
  n_bool : mg "bool" = none
  g_COMING : ∃ t, mg "COMING" = some (.int 5 t)
  g_FLOOR : ∃ t, mg "FLOOR" = some (.int 3 t)
  g_GIVES : ∃ t, mg "GIVES" = some (.int 2 t)
  g_LAG : ∃ t, mg "LAG" = some (.int 1 t)
  g_NAME : ∃ t, mg "NAME" = some (.int 0 t)
  g_PARTS : ∃ t, mg "PARTS" = some (.int 6 t)
  g_STOCK : ∃ t, mg "STOCK" = some (.int 4 t)
  g_WANT_AMOUNT : ∃ t, mg "WANT_AMOUNT" = some (.int 2 t)
  g_WANT_DAY : ∃ t, mg "WANT_DAY" = some (.int 1 t)
  g_WANT_NAME : ∃ t, mg "WANT_NAME" = some (.int 0 t)
def lamP : Pos := ⟨70, 38, 70, 65⟩
def lamQ : Str := ("worked" : Str) ++ ".<locals>." ++ "<lambda>"
def Tb (H : L2.Hp) (Pt : Addr) : Prop := L2.TblAt H Pt lamP lamQ
section
variable {P : Program} {w : World} {K : PySem.W.Frag} {mg : Str → Option Value} {base : Heap}
def WrOk (w : Wr) : Prop := w.parts.length ≤ 1000 ∧ w.coming.length ≤ 1000
structure ShOk (S : Sh) : Prop where
  names : (S.wares.map (·.name)).Nodup
  len : S.wares.length ≤ 1000
  wares : ∀ w ∈ S.wares, WrOk w
def sp_part_names : Sp := fun vs H Q _ => ∃ (v : V) (w : Wr), vs = [v] ∧ RD H w.d v ∧ WrOk w ∧ ∀ p H', H p = none → H' p = some (.lst ((w.parts.map (·.1)).map V.str)) → Same H H' → Q (.ref p) H'
theorem sc_part_names : FnScope ["ware"] ["ware"] (defScope s_part_names) := ⟨rfl, rfl, rfl, by decide +kernel, rfl, by decide +kernel, by decide +kernel⟩
theorem ok_part_names {f : Addr} {fd : FuncData} (F : Fun K "part_names" "part_names" s_part_names f fd) (T : Txt mg) : FnOk P w K mg base CX0 1 f fd ["ware"] sp_part_names := by
  refine F.ok sc_part_names (fun vs H Q E h => ?_) (fun cdv A outer s H vs Q E hr h => ?_)
  · obtain ⟨v, w, rfl, _⟩ := h
    rfl
  · obtain ⟨v, w, rfl, rw', ok, k⟩ := h
    have hu := hu_of hr
    refine ⟨_, (pss_one (ps_ret (pe_comp (own := ["part"]) (cap := []) rfl (cp_ok rfl) (gown_name (by decide)) (pi_tpl (pe_item hu (pv 0) (pe_globI rfl T.g_PARTS) (fun _ _ => rfl)))
 (fun _ _ _ _ _ _ => ⟨(pg_name (i := 0) (of_decide_eq_true rfl) rfl (Or.inl rfl) (.inr rfl)), pts_nil, (pe_item hu (pv 0) pe_int (fun _ _ => rfl))⟩)))), ?_⟩
    obtain ⟨a, c, p, rfl, ha, rc, rp⟩ := ware_at rw'
    obtain ⟨b, ps, rfl, hb, rps⟩ := RD.tup_of rp
    have hl := rds_len rps
    walk_at "rd"
    refine ⟨_, item_t (j := 6) ha rfl, b, rfl, _, hb, ?_⟩
    refine comp_map (goesT b _) (line1000 (by rw [hl]; exact ok.1)) (fun H' s' => s' _ _ hb) ((w.parts.map (·.1)).map V.str) (by rw [List.length_map, List.length_map, hl]) (fun i x H' hi hx s' N M hN => ?_) (fun H' s' p hp => ?_)
    · obtain ⟨y, hy, ry⟩ := rds_map rps hx
      obtain ⟨e, rfl, he⟩ := part_at ry
      walk_at "rd"
      exact ⟨_, item_t (j := 0) (s' _ _ he) rfl, hN _ _ s' (by rw [List.getElem?_map, List.getElem?_map, hy]; rfl)⟩
    · exact k p _ (Same.free s' hp) upd_same (s'.trans (same_upd hp))
def sp_ware_of : Sp := fun vs H Q _ => ∃ (v : V) (S : Sh) (n : Str), vs = [v, .str n] ∧ RD H S.d v ∧ ShOk S ∧ n ∈ S.wares.map (·.name) ∧ ∀ x w, w ∈ S.wares → w.name = n → RD H w.d x → Q x H
def WareInv (b : V) (n : Str) (ws : List Wr) (H : Hp) (i : Nat) (σ : St) (H' : Hp) : Prop := ∃ c : Option V, σ = [some b, some (.str n), c] ∧ H' = H ∧ ∀ w ∈ ws.take i, w.name ≠ n
theorem sc_ware_of : FnScope ["shop", "name", "ware"] ["shop", "name"] (defScope s_ware_of) := ⟨rfl, rfl, rfl, by decide +kernel, rfl, by decide +kernel, by decide +kernel⟩
theorem ok_ware_of {f : Addr} {fd : FuncData} (F : Fun K "ware_of" "ware_of" s_ware_of f fd) (T : Txt mg) : FnOk P w K mg base CX0 1 f fd ["shop", "name"] sp_ware_of := by
  refine F.ok sc_ware_of (fun vs H Q E h => ?_) (fun cdv A outer s H vs Q E hr h => ?_)
  · obtain ⟨v, S, n, rfl, _⟩ := h
    rfl
  · obtain ⟨v, S, n, rfl, rs, ok, hn, k⟩ := h
    have hu := hu_of hr
    refine ⟨_, (pss_cons (ps_for PassesOwn.never rfl (pi_tpl (pe_item hu (pv 0) pe_int (fun _ _ => rfl))) (pg_name (i := 2) sc_ware_of.nd rfl (Or.inl rfl))
 (pss_one (ps_if (pt_cmpR (op_eqA hu) (pe_item hu (pv 2) (pe_globI rfl T.g_NAME) (fun _ _ => rfl)) (pv 1) (nomark _)) (pss_one (ps_ret (pv 2))) pss_nil)))
 (pss_one ps_never)), ?_⟩
    obtain ⟨a, b, c, ws, us, rfl, ha, hb, hc, rws, rus⟩ := shop_at rs
    have hl := rds_len rws
    walk_at "rd"
    refine ⟨_, item_t (j := 0) ha rfl, b, rfl, _, hb, ?_⟩
    refine for_w (goesT b _) (WareInv (.ref a) n S.wares H) ⟨_, rfl, rfl, by simp⟩ (fun i σ H' _ h => by obtain ⟨_, _, rfl, _⟩ := h; exact hb) (fun i x σ H' hi hx h => ?_) (fun σ H' h => ?_)
    · obtain ⟨c, rfl, rfl, hno⟩ := h
      obtain ⟨w, hw, rw'⟩ := rds_map rws hx
      obtain ⟨e, c1, c2, rfl, he, _⟩ := ware_at rw'
      walk_at "rd"
      refine ⟨_, item_t (j := 0) he rfl, rfl, ite2 (fun h => ?_) (fun h => ?_)⟩
      · exact k _ w (List.mem_of_getElem? hw) (by have := of_decide_eq_true h; cases this; rfl) rw'
      · refine ⟨_, rfl, rfl, fun w' hw' => ?_⟩
        rw [List.take_add_one, hw] at hw'
        rcases List.mem_append.mp hw' with z | z
        · exact hno w' z
        · have e : w' = w := by simpa using z
          subst e
          intro e
          exact h (decide_eq_true (by rw [e]))
    · obtain ⟨c, rfl, rfl, hno⟩ := h
      rw [hl, List.take_length] at hno
      obtain ⟨w, hw, e⟩ := List.mem_map.mp hn
      exact absurd e (hno w hw)
def sp_without_ends : Sp := fun vs H Q _ => ∃ (a : Addr) (kvs : List (Key × V)) (G : Gr), vs = [.ref a] ∧ H a = some (.dK kvs) ∧ PDk H kvs G ∧ (keysG G).Nodup ∧ G.length ≤ 1000 ∧ (∀ e ∈ G, e.2.length ≤ 1000) ∧
  ∀ p kvs' H', H p = none → H' p = some (.dK kvs') → PDk H' kvs' (cutE G) → But a H H' → Q (.ref p) H'
def EndsInv (a p : Addr) (o : Obj) (kvs : List (Key × V)) (G : Gr) (H : Hp) (i : Nat) (σ : St) (H' : Hp) : Prop := ∃ (n g : Option V) (kvs' : List (Key × V)), σ = [some (.ref a), some (.ref p), n, g] ∧ H' a = some (.frz o (.dK kvs)) ∧ H' p = some (.dK kvs') ∧ PDk H' kvs' ((G.take i).filterMap (cutOne (keysG G))) ∧ But a H H'
def GoInv (a p : Addr) (o : Obj) (kvs kvs' : List (Key × V)) (G G' : Gr) (ps : List Str) (H : Hp) (i : Nat) (acc : List V) (H' : Hp) : Prop := acc = (goOn (keysG G) (ps.take i)).map V.str ∧ H' a = some (.frz o (.dK kvs)) ∧ H' p = some (.dK kvs') ∧ PDk H' kvs' G' ∧ But a H H' ∧ PDk H' kvs G
theorem goOn_succ {ks ps : List Str} {i : Nat} {x : Str} (h : ps[i]? = some x) : goOn ks (ps.take (i + 1)) = goOn ks (ps.take i) ++ if decide (x ∈ ks) = true then [x] else [] := by
  unfold goOn
  rw [List.take_add_one, h, List.filter_append]
  by_cases hx : x ∈ ks
  · simp [hx]
  · simp [hx]
theorem sc_without_ends : FnScope ["parts", "left", "name", "going_on"] ["parts"] (defScope s_without_ends) := ⟨rfl, rfl, rfl, by decide +kernel, rfl, by decide +kernel, by decide +kernel⟩
theorem ok_without_ends {f : Addr} {fd : FuncData} (F : Fun K "without_ends" "without_ends" s_without_ends f fd) (T : Txt mg) : FnOk P w K mg base CX0 1 f fd ["parts"] sp_without_ends := by
  refine F.ok sc_without_ends (fun vs H Q E h => ?_) (fun cdv A outer s H vs Q E hr h => ?_)
  · obtain ⟨a, kvs, G, rfl, _⟩ := h
    rfl
  · obtain ⟨a, kvs, G, rfl, ha, pd, nd, hG, hps, k⟩ := h
    have hu := hu_of hr
    have hkl := pd.len
    have ndk : (kvs.map (·.1)).Nodup := by rw [pd.keys]; exact inr_nodup nd
    refine ⟨_, (pss_cons (ps_set (i := 1) sc_without_ends.nd rfl (Or.inl rfl) pe_dnewK)
 (pss_cons (ps_for PassesOwn.never rfl (pi_dct (pv 0)) (pg_name (i := 2) sc_without_ends.nd rfl (Or.inl rfl))
 (pss_cons (ps_setcomp (own := ["part"]) (cap := [0]) (i := 3) rfl (cp_ok rfl) (gown_name (by decide)) sc_without_ends.nd rfl rfl (pi_lst (pe_item hu (pv 0) (pv 2) (fun _ _ => rfl)))
 (fun _ _ _ _ _ _ => ⟨(pg_name (i := 0) (of_decide_eq_true rfl) rfl (Or.inl rfl) (.inr rfl)), (pts_one (pt_cmpR (op_inA hu) (pv 0) (pv 1) rfl)), (pv 0)⟩))
 (pss_one (ps_if (pt_truL (pv 3)) (pss_one (ps_asg (pv 3) (pg_sub (pv 1) (pv 2) (set_dict hu)))) pss_nil))))
 (pss_one (ps_ret (pv 1))))), ?_⟩
    walk_at "rd"
    refine fun p hp => ⟨_, by rw [upd_ne (ne_of_none ha hp)]; exact ha, fun o => ?_⟩
    have nap : a ≠ p := ne_of_none ha hp
    have b0 : But a H (upd (upd H p (.dK [])) a (.frz o (.dK kvs))) := (but_upd hp).trans but_set
    have pl : ∀ {H' : Hp}, But a H H' → PDk H' kvs G := fun {H'} bt => pd.mono fun l xs h => bt l _ (fun z => by rw [z, ha] at h; cases h) h
    refine for_w (goesD a o kvs) (EndsInv a p o kvs G H) ⟨_, _, [], rfl, upd_same, by rw [upd_ne (Ne.symm nap), upd_same], .nil, b0⟩ (fun i σ H' _ h => let ⟨_, _, _, _, h, _⟩ := h; h) (fun i x σ H' hi hx h => ?_) (fun σ H' h => ?_)
    · obtain ⟨n, g, kvs', rfl, h1, h2, h3, bt⟩ := h
      obtain ⟨key, val, hk, rfl⟩ := hx
      obtain ⟨e, l, he, rfl, rfl, hl⟩ := PDk.get' (pl bt) hk
      have hv := valV_nodup ndk hk
      have hmem := List.mem_of_getElem? he
      refine cut1 (fun σ' H'' => ∃ q : Addr, σ' = [some (.ref a), some (.ref p), some (.str e.1), some (.ref q)] ∧ H'' q = some (.lst ((goOn (keysG G) e.2).map V.str)) ∧ H'' a = some (.frz o (.dK kvs)) ∧ H'' p = some (.dK kvs') ∧ PDk H'' kvs' ((G.take i).filterMap (cutOne (keysG G))) ∧ But a H H'') ?_ (fun KK hK => ?_)
      · rintro σ' H'' ⟨q, rfl, hq, g1, g2, g3, gb⟩
        walk_at "rd"
        refine ⟨_, hq, ?_⟩
        have et : (G.take (i + 1)).filterMap (cutOne (keysG G)) = (G.take i).filterMap (cutOne (keysG G)) ++ (cutOne (keysG G) e).toList := by
          rw [List.take_add_one, he, List.filterMap_append]
          cases hc : cutOne (keysG G) e <;> simp [hc]
        refine ite2 (fun hz => ?_) (fun hz => ?_)
        · have hne : goOn (keysG G) e.2 ≠ [] := fun z => by rw [z] at hz; exact absurd hz (by decide)
          have hc : cutOne (keysG G) e = some (e.1, goOn (keysG G) e.2) := by unfold cutOne; rw [if_neg hne]
          have nin : e.1 ∉ keysG ((G.take i).filterMap (cutOne (keysG G))) := fun m => by
            have m' : e.1 ∈ keysG (G.take i) := (keys_filter (ks := keysG G) (G := G.take i)).subset m
            have nd' : (keysG (G.take i) ++ keysG (G.drop i)).Nodup := by
              have : keysG (G.take i) ++ keysG (G.drop i) = keysG G := by unfold keysG; rw [← List.map_append, List.take_append_drop]
              rw [this]; exact nd
            have hlt : i < G.length := (List.getElem?_eq_some_iff.mp he).1
            have md : e.1 ∈ keysG (G.drop i) := by
              unfold keysG
              rw [List.drop_eq_getElem_cons hlt]
              have : G[i] = e := (List.getElem?_eq_some_iff.mp he).2
              rw [this, List.map_cons]
              exact List.mem_cons_self
            exact (List.nodup_append.mp nd').2.2 _ m' _ md rfl
          have hlen' : kvs'.length < sizeLine := by
            have := g3.len
            have h5 : ((G.take i).filterMap (cutOne (keysG G))).length ≤ (G.take i).length := List.length_filterMap_le _ _
            rw [List.length_take] at h5
            exact Nat.lt_of_le_of_lt (m := 1000) (by omega) (by decide)
          refine ⟨kvs', .inr e.1, rfl, g2, hlen', ?_⟩
          have ku : ∀ l xs, H'' l = some (.lst xs) → upd H'' p (.dK (putK kvs' (.inr e.1) (.ref q))) l = some (.lst xs) := fun l xs h => by rw [upd_ne (fun z => by rw [z, g2] at h; cases h)]; exact h
          refine ⟨_, _, _, rfl, by rw [upd_ne nap]; exact g1, upd_same, ?_, ?_⟩
          · rw [et, hc]
            exact (g3.mono ku).snoc nin (ku _ _ hq)
          · exact fun b o' nb hb => by rw [upd_ne (ne_of_none hb hp)]; exact gb b o' nb hb
        · have hne : goOn (keysG G) e.2 = [] := by
            cases hx : goOn (keysG G) e.2 with
            | nil => rfl
            | cons y r => rw [hx] at hz; exact absurd rfl hz
          have hc : cutOne (keysG G) e = none := by unfold cutOne; rw [if_pos hne]
          exact ⟨_, _, _, rfl, g1, g2, by rw [et, hc]; simpa using g3, gb⟩
      · walk_at "rd"
        refine ⟨_, item_d (.inr ⟨o, h1⟩) hv, l, rfl, _, hl, ?_⟩
        refine comp_w (goesL l _) (line1000 (by rw [List.length_map]; exact hps e hmem)) (GoInv a p o kvs kvs' G ((G.take i).filterMap (cutOne (keysG G))) e.2 H) ⟨rfl, h1, h2, h3, bt, pl bt⟩ (fun j acc H2 _ h => ?_) (fun j acc H2 h => ?_) (fun j x acc H2 hj hx h => ?_) (fun acc H2 h q hq => ?_)
        · obtain ⟨_, _, _, _, hb, hpd⟩ := h
          obtain ⟨l2, hl2, hl3⟩ := PDk.get hpd he
          rw [hk] at hl2
          cases hl2
          exact hl3
        · rw [h.1, List.length_map]
          refine Nat.le_trans (List.length_filter_le _ _) ?_
          rw [List.length_take]
          exact Nat.min_le_left _ _
        · obtain ⟨rfl, w1, w2, w3, w4, w5⟩ := h
          rw [List.getElem?_map] at hx
          cases ex : e.2[j]? with
          | none => rw [ex] at hx; cases hx
          | some y =>
          rw [ex] at hx
          cases hx
          walk_at "rd"
          refine ⟨_, .inr (.inr ⟨a, kvs, .inr y, rfl, rfl, .inr ⟨o, w1⟩, rfl⟩), ?_⟩
          rw [w5.has y]
          refine ite2 (fun hy => ?_) (fun hy => ?_)
          · exact ⟨by rw [goOn_succ ex, if_pos hy, List.map_append]; rfl, w1, w2, w3, w4, w5⟩
          · exact ⟨by rw [goOn_succ ex, if_neg hy, List.append_nil], w1, w2, w3, w4, w5⟩
        · obtain ⟨rfl, w1, w2, w3, w4, w5⟩ := h
          rw [List.length_map, List.take_length]
          have nq : ∀ {b : Addr} {o' : HO} (o'' : HO), H2 b = some o' → upd H2 q o'' b = some o' := fun {b o'} o'' hb => by rw [upd_ne (ne_of_none hb hq)]; exact hb
          exact hK _ _ ⟨q, rfl, upd_same, nq _ w1, nq _ w2, w3.mono fun l xs h => nq _ h, w4.trans (but_upd hq)⟩
    · obtain ⟨n, g, kvs', rfl, h1, h2, h3, bt⟩ := h
      walk_at "rd"
      rw [hkl, List.take_length] at h3
      exact k p kvs' H' hp h2 h3 bt
def sp_endless_parts : Sp := fun vs H Q _ => ∃ (v : V) (S : Sh), vs = [v] ∧ RD H S.d v ∧ ShOk S ∧ ∀ p kvs' H', H p = none → H' p = some (.dK kvs') → PDk H' kvs' (cutN S.wares.length (grOf S)) → Same H H' → Q (.ref p) H'
def AllInv (v : V) (p : Addr) (S : Sh) (H : Hp) (i : Nat) (σ : St) (H' : Hp) : Prop := ∃ (n g : Option V) (kvs' : List (Key × V)), σ = [some v, some (.ref p), n, g] ∧ H' p = some (.dK kvs') ∧ PDk H' kvs' ((grOf S).take i) ∧ Same H H'
def CutInv (v : V) (S : Sh) (H : Hp) (i : Nat) (σ : St) (H' : Hp) : Prop := ∃ (q : Addr) (n g : Option V) (kvs' : List (Key × V)), σ = [some v, some (.ref q), n, g] ∧ H q = none ∧ H' q = some (.dK kvs') ∧ PDk H' kvs' (cutN i (grOf S)) ∧ Same H H'
theorem keys_gr (S : Sh) : keysG (grOf S) = S.wares.map (·.name) := by unfold keysG grOf; rw [List.map_map]; rfl
theorem gr_len (S : Sh) : (grOf S).length = S.wares.length := by unfold grOf; rw [List.length_map]
theorem gr_parts {S : Sh} (ok : ShOk S) : ∀ e ∈ grOf S, e.2.length ≤ 1000 := fun e he => by
  obtain ⟨w, hw, rfl⟩ := List.mem_map.mp he
  show (w.parts.map (·.1)).length ≤ 1000
  rw [List.length_map]
  exact (ok.wares w hw).1
theorem sc_endless_parts : FnScope ["shop", "parts", "ware", "turn"] ["shop"] (defScope s_endless_parts) := ⟨rfl, rfl, rfl, by decide +kernel, rfl, by decide +kernel, by decide +kernel⟩
theorem ok_endless_parts {f : Addr} {fd : FuncData} (F : Fun K "endless_parts" "endless_parts" s_endless_parts f fd) (T : Txt mg) (h_part_names : Has P w K mg base "part_names" 1 ["ware"] sp_part_names) (h_without_ends : Has P w K mg base "without_ends" 1 ["parts"] sp_without_ends) : FnOk P w K mg base CX0 2 f fd ["shop"] sp_endless_parts := by
  refine F.ok sc_endless_parts (fun vs H Q E h => ?_) (fun cdv A outer s H vs Q E hr h => ?_)
  · obtain ⟨v, S, rfl, _⟩ := h
    rfl
  · obtain ⟨v, S, rfl, rs, ok, k⟩ := h
    have hu := hu_of hr
    have nd : (keysG (grOf S)).Nodup := by rw [keys_gr]; exact ok.names
    refine ⟨_, (pss_cons (ps_set (i := 1) sc_endless_parts.nd rfl (Or.inl rfl) pe_dnewK)
 (pss_cons (ps_for PassesOwn.never rfl (pi_tpl (pe_item hu (pv 0) pe_int (fun _ _ => rfl))) (pg_name (i := 2) sc_endless_parts.nd rfl (Or.inl rfl))
 (pss_one (ps_asg (pe_callS h_part_names (hr.mono (by decide)) rfl (pa_e (pv 2) pa_nil)) (pg_sub (pv 1) (pe_item hu (pv 2) (pe_globI rfl T.g_NAME) (fun _ _ => rfl)) (set_dict hu)))))
 (pss_cons (ps_for PassesOwn.never rfl (pi_rangeS1 rfl T.n_range (pa_e (pe_callBS call_len_q rfl T.n_len bt_len (pa_e (pe_item hu (pv 0) pe_int (fun _ _ => rfl)) pa_nil)) pa_nil)) (pg_name (i := 3) sc_endless_parts.nd rfl (Or.inl rfl))
 (pss_one (ps_set (i := 1) sc_endless_parts.nd rfl (Or.inl rfl) (pe_callS h_without_ends (hr.mono (by decide)) rfl (pa_e (pv 1) pa_nil)))))
 (pss_one (ps_ret (pv 1)))))), ?_⟩
    obtain ⟨a, b, c, ws, us, rfl, ha, hb, hc, rws, rus⟩ := shop_at rs
    have hl := rds_len rws
    refine cut2 (fun σ' H' => ∃ (p : Addr) (n g : Option V) (kvs' : List (Key × V)), σ' = [some (.ref a), some (.ref p), n, g] ∧ H p = none ∧ H' p = some (.dK kvs') ∧ PDk H' kvs' (grOf S) ∧ Same H H') ?_ (fun KK hK => ?_)
    · rintro σ' H1 ⟨p, n, g, kvs', rfl, hp, hp1, pd, sm⟩
      walk_at "rd"
      refine ⟨_, item_t (j := 0) (sm _ _ ha) rfl, b, rfl, _, .inr (sm _ _ hb), by omega, by have := ok.len; omega, ?_⟩
      have en : ((ws.length : Nat) : Int).toNat = S.wares.length := by omega
      rw [en]
      refine for_w (goesR 0 _) (CutInv (.ref a) S H) ⟨p, _, _, _, rfl, hp, hp1, pd, sm⟩ (fun _ _ _ _ _ => trivial) (fun i x σ H2 hi hx h => ?_) (fun σ H2 h => ?_)
      · obtain ⟨q, n, g, kvs', rfl, hq, hq1, pd, sm⟩ := h
        walk_at "rd"
        refine ⟨q, kvs', _, rfl, hq1, pd, cutN_nodup nd i, by have := cutN_len (grOf S) i; rw [gr_len] at this; have := ok.len; omega, fun e he => ?_, fun p2 kvs2 H3 hp2 hp3 pd3 bt => ?_⟩
        · obtain ⟨ps, h1, _, h3⟩ := cutN_parts i he
          have := gr_parts ok _ h1
          have : ps.length ≤ 1000 := this
          omega
        · exact ⟨p2, _, _, kvs2, rfl, Same.free sm hp2, hp3, pd3, fun b' o hb' => bt b' o (ne_of_none hb' hq) (sm b' o hb')⟩
      · obtain ⟨q, n, g, kvs', rfl, hq, hq1, pd, sm⟩ := h
        walk_at "rd"
        exact k q kvs' H2 hq hq1 pd sm
    · walk_at "rd"
      refine fun p hp => ?_
      refine ⟨_, item_t (j := 0) (by rw [upd_ne (ne_of_none ha hp)]; exact ha) rfl, b, rfl, _, by rw [upd_ne (ne_of_none hb hp)]; exact hb, ?_⟩
      refine for_w (goesT b _) (AllInv (.ref a) p S H) ⟨_, _, [], rfl, upd_same, .nil, same_upd hp⟩ (fun i σ H' _ h => let ⟨_, _, _, _, _, _, s⟩ := h; s _ _ hb) (fun i x σ H' hi hx h => ?_) (fun σ H' h => ?_)
      · obtain ⟨n, g, kvs', rfl, h1, h2, sm⟩ := h
        obtain ⟨w, hw, rw'⟩ := rds_map rws hx
        have hg : (grOf S)[i]? = some (w.name, w.parts.map (·.1)) := by unfold grOf; rw [List.getElem?_map, hw]; rfl
        walk_at "rd"
        refine ⟨x, w, rfl, RD.same sm _ _ rw', ok.wares w (List.mem_of_getElem? hw), fun q H2 hq hq2 sm2 => ?_⟩
        obtain ⟨e, c1, c2, rfl, he, _⟩ := ware_at rw'
        have sm02 := sm.trans sm2
        have nin : w.name ∉ keysG ((grOf S).take i) := fun m => by
          have nd' : (keysG ((grOf S).take i) ++ keysG ((grOf S).drop i)).Nodup := by
            have : keysG ((grOf S).take i) ++ keysG ((grOf S).drop i) = keysG (grOf S) := by unfold keysG; rw [← List.map_append, List.take_append_drop]
            rw [this]; exact nd
          have hlt : i < (grOf S).length := (List.getElem?_eq_some_iff.mp hg).1
          have md : w.name ∈ keysG ((grOf S).drop i) := by
            unfold keysG
            rw [List.drop_eq_getElem_cons hlt]
            have : (grOf S)[i] = (w.name, w.parts.map (·.1)) := (List.getElem?_eq_some_iff.mp hg).2
            rw [this, List.map_cons]
            exact List.mem_cons_self
          exact (List.nodup_append.mp nd').2.2 _ m _ md rfl
        have hp2 := sm2 p _ h1
        refine ⟨_, item_t (j := 0) (sm02 _ _ he) rfl, kvs', .inr w.name, rfl, hp2, ?_, ?_⟩
        · have := h2.len
          rw [List.length_take, gr_len] at this
          have := ok.len
          exact Nat.lt_of_le_of_lt (m := 1000) (by omega) (by decide)
        · have ku : ∀ l xs, H2 l = some (.lst xs) → upd H2 p (.dK (putK kvs' (.inr w.name) (.ref q))) l = some (.lst xs) := fun l xs h => by rw [upd_ne (fun z => by rw [z, hp2] at h; cases h)]; exact h
          refine ⟨_, _, _, rfl, upd_same, ?_, fun b' o hb' => by rw [upd_ne (ne_of_none hb' hp)]; exact sm02 b' o hb'⟩
          rw [List.take_add_one, hg]
          exact ((h2.mono fun l xs h => sm2 l _ h).mono ku).snoc nin (ku _ _ hq2)
      · obtain ⟨n, g, kvs', rfl, h1, h2, sm⟩ := h
        rw [hl, ← gr_len, List.take_length] at h2
        exact hK _ _ ⟨p, _, _, kvs', rfl, hp, h1, h2, sm⟩
def NoRing (S : Sh) : Prop := cutN S.wares.length (grOf S) = []
def sp_ring : Sp := fun vs H Q _ => ∃ (v : V) (S : Sh), vs = [v] ∧ RD H S.d v ∧ ShOk S ∧ NoRing S ∧ ∀ H', Same H H' → Q .non H'
theorem sc_ring : FnScope ["shop", "parts", "way", "name"] ["shop"] (defScope s_ring) := ⟨rfl, rfl, rfl, by decide +kernel, rfl, by decide +kernel, by decide +kernel⟩
theorem ok_ring {f : Addr} {fd : FuncData} (F : Fun K "ring" "ring" s_ring f fd) (T : Txt mg) (h_endless_parts : Has P w K mg base "endless_parts" 2 ["shop"] sp_endless_parts) : FnOk P w K mg base CX0 3 f fd ["shop"] sp_ring := by
  refine F.ok sc_ring (fun vs H Q E h => ?_) (fun cdv A outer s H vs Q E hr h => ?_)
  · obtain ⟨v, S, rfl, _⟩ := h
    rfl
  · obtain ⟨v, S, rfl, rs, ok, no, k⟩ := h
    have hu := hu_of hr
    refine ⟨_, (pss_cons (ps_set (i := 1) sc_ring.nd rfl (Or.inl rfl) (pe_callS h_endless_parts (hr.mono (by decide)) rfl (pa_e (pv 0) pa_nil)))
 (pss_cons (ps_if (pt_not (pt_truD (pv 1))) (pss_one (ps_ret pe_non)) pss_nil)
 pss_never)), ?_⟩
    walk_at "rd"
    refine ⟨v, S, rfl, rs, ok, fun p kvs H' hp hp' pd sm => ?_⟩
    rw [no] at pd
    cases pd
    exact ⟨p, rfl, [], hp', iteT (k H' sm)⟩
def sp_check_rings : Sp := fun vs H Q _ => ∃ (v : V) (S : Sh), vs = [v] ∧ RD H S.d v ∧ ShOk S ∧ NoRing S ∧ ∀ H', Same H H' → Q .non H'
theorem sc_check_rings : FnScope ["shop", "found", "names"] ["shop"] (defScope s_check_rings) := ⟨rfl, rfl, rfl, by decide +kernel, rfl, by decide +kernel, by decide +kernel⟩
theorem ok_check_rings {f : Addr} {fd : FuncData} (F : Fun K "check_rings" "check_rings" s_check_rings f fd) (T : Txt mg) (h_ring : Has P w K mg base "ring" 3 ["shop"] sp_ring) : FnOk P w K mg base CX0 4 f fd ["shop"] sp_check_rings := by
  refine F.ok sc_check_rings (fun vs H Q E h => ?_) (fun cdv A outer s H vs Q E hr h => ?_)
  · obtain ⟨v, S, rfl, _⟩ := h
    rfl
  · obtain ⟨v, S, rfl, rs, ok, no, k⟩ := h
    have hu := hu_of hr
    refine ⟨_, (pss_cons (ps_set (i := 1) sc_check_rings.nd rfl (Or.inl rfl) (pe_callS h_ring (hr.mono (by decide)) rfl (pa_e (pv 0) pa_nil)))
 (pss_one (ps_if (pt_cmpR op_isnotA (pv 1) pe_non (nomark _)) pss_never pss_nil))), ?_⟩
    walk_at "rd"
    refine ⟨v, S, rfl, rs, ok, no, fun H' sm => ?_⟩
    walk_at "rd"
    exact iteNS trivial (k H' sm)
end
set_option maxRecDepth 100000
set_option maxHeartbeats 4000000
section
variable {P : Program} {w : World} {K : PySem.W.Frag} {mg : Str → Option Value} {base : Heap} {Pt : Addr}
structure LevOk (S : Sh) : Prop extends Lev S where
  ok : ShOk S
  few : S.wares.length < 64
theorem lev_noRing {S : Sh} (h : Lev S) : NoRing S := by
  obtain ⟨r, h1, h2⟩ := h.low
  unfold NoRing
  refine cut_none (r := r) (fun e he x hx => ?_) (fun e he => ?_)
  · obtain ⟨w, hw, rfl⟩ := List.mem_map.mp he
    obtain ⟨p, hp, rfl⟩ := List.mem_map.mp hx
    exact h2 w hw p hp
  · obtain ⟨w, hw, rfl⟩ := List.mem_map.mp he
    exact h1 w hw
def namesS (S : Sh) : List Str := S.wares.map (·.name)
theorem namesS_len (S : Sh) : (namesS S).length = S.wares.length := by unfold namesS; rw [List.length_map]
def sp_names_of : Sp := fun vs H Q _ => ∃ (v : V) (S : Sh), vs = [v] ∧ RD H S.d v ∧ S.wares.length ≤ 1000 ∧ ∀ p H', H p = none → H' p = some (.lst ((namesS S).map V.str)) → Same H H' → Q (.ref p) H'
theorem sc_names_of : FnScope ["shop"] ["shop"] (defScope s_names_of) := ⟨rfl, rfl, rfl, by decide +kernel, rfl, by decide +kernel, by decide +kernel⟩
theorem ok_names_of {f : Addr} {fd : FuncData} (F : Fun K "names_of" "names_of" s_names_of f fd) (T : Txt mg) : FnOk P w K mg base CX0 1 f fd ["shop"] sp_names_of := by
  refine F.ok sc_names_of (fun vs H Q E h => ?_) (fun cdv A outer s H vs Q E hr h => ?_)
  · obtain ⟨v, S, rfl, _⟩ := h
    rfl
  · obtain ⟨v, S, rfl, rs, hlen, k⟩ := h
    have hu := hu_of hr
    refine ⟨_, (pss_one (ps_ret (pe_comp (own := ["ware"]) (cap := []) rfl (cp_ok rfl) (gown_name (by decide)) (pi_tpl (pe_item hu (pv 0) pe_int (fun _ _ => rfl)))
 (fun _ _ _ _ _ _ => ⟨(pg_name (i := 0) (of_decide_eq_true rfl) rfl (Or.inl rfl) (.inr rfl)), pts_nil, (pe_item hu (pv 0) (pe_globI rfl T.g_NAME) (fun _ _ => rfl))⟩)))), ?_⟩
    obtain ⟨a, b, c, ws, us, rfl, ha, hb, hc, rws, rus⟩ := shop_at rs
    have hl := rds_len rws
    walk_at "rd"
    refine ⟨_, item_t (j := 0) ha rfl, b, rfl, _, hb, ?_⟩
    refine comp_map (goesT b _) (line1000 (by omega)) (fun H' s' => s' _ _ hb) ((namesS S).map V.str) (by rw [List.length_map, namesS_len, hl]) (fun i x H' hi hx s' N M hN => ?_) (fun H' s' p hp => ?_)
    · obtain ⟨y, hy, ry⟩ := rds_map rws hx
      obtain ⟨e, c1, c2, rfl, he, _⟩ := ware_at ry
      walk_at "rd"
      refine ⟨_, item_t (j := 0) (s' _ _ he) rfl, hN _ _ s' ?_⟩
      unfold namesS
      rw [List.getElem?_map, List.getElem?_map, hy]
      rfl
    · exact k p _ (Same.free s' hp) upd_same (s'.trans (same_upd hp))
def sp_levels : Sp := fun vs H Q _ => ∃ (v : V) (S : Sh), vs = [v] ∧ RD H S.d v ∧ LevOk S ∧ ∀ p H', H p = none → H' p = some (.dK (fnD (namesS S) (lv S))) → Same H H' → Q (.ref p) H'
def ZeroInv (v : V) (p : Addr) (S : Sh) (H : Hp) (i : Nat) (σ : St) (H' : Hp) : Prop := ∃ o1 o2 o3 o4 : Option V, σ = [some v, some (.ref p), o1, o2, o3, o4] ∧ H' p = some (.dK (fnD ((namesS S).take i) fun _ => 0)) ∧ Same H H'
def LvMid (S : Sh) (k i j : Nat) (g : Str → Int) : Prop := (∀ x, 0 ≤ g x ∧ lvF S k x ≤ g x ∧ (x ∈ namesS S → g x ≤ lv S x)) ∧ (∀ w ∈ S.wares.take i, ∀ p ∈ w.parts, 1 + lvF S k w.name ≤ g p.1) ∧ ∀ w, S.wares[i]? = some w → ∀ p ∈ w.parts.take j, 1 + lvF S k w.name ≤ g p.1
def TurnInv (v : V) (p : Addr) (S : Sh) (H : Hp) (k : Nat) (σ : St) (H' : Hp) : Prop := ∃ (o1 o2 o3 o4 : Option V) (g : Str → Int), σ = [some v, some (.ref p), o1, o2, o3, o4] ∧ H' p = some (.dK (fnD (namesS S) g)) ∧ (∀ x, 0 ≤ g x ∧ lvF S k x ≤ g x ∧ (x ∈ namesS S → g x ≤ lv S x)) ∧ Same H H'
def SeenInv (v : V) (p : Addr) (S : Sh) (k : Nat) (H : Hp) (i : Nat) (σ : St) (H' : Hp) : Prop := ∃ (o1 o2 o3 o4 : Option V) (g : Str → Int), σ = [some v, some (.ref p), o1, o2, o3, o4] ∧ H' p = some (.dK (fnD (namesS S) g)) ∧ LvMid S k i 0 g ∧ Same H H'
def PartsInv (v : V) (p : Addr) (t : V) (S : Sh) (k i : Nat) (H : Hp) (j : Nat) (σ : St) (H' : Hp) : Prop := ∃ (o1 o2 o4 : Option V) (g : Str → Int), σ = [some v, some (.ref p), o1, o2, some t, o4] ∧ H' p = some (.dK (fnD (namesS S) g)) ∧ LvMid S k i j g ∧ Same H H'
theorem sc_levels : FnScope ["shop", "told", "name", "turn", "ware", "part"] ["shop"] (defScope s_levels) := ⟨rfl, rfl, rfl, by decide +kernel, rfl, by decide +kernel, by decide +kernel⟩
theorem ok_levels {f : Addr} {fd : FuncData} (F : Fun K "levels" "levels" s_levels f fd) (T : Txt mg) (h_check_rings : Has P w K mg base "check_rings" 4 ["shop"] sp_check_rings) (h_names_of : Has P w K mg base "names_of" 1 ["shop"] sp_names_of) (h_part_names : Has P w K mg base "part_names" 1 ["ware"] sp_part_names) : FnOk P w K mg base CX0 5 f fd ["shop"] sp_levels := by
  refine F.ok sc_levels (fun vs H Q E h => ?_) (fun cdv A outer s H vs Q E hr h => ?_)
  · obtain ⟨v, S, rfl, _⟩ := h
    rfl
  · obtain ⟨v, S, rfl, rs, L, k⟩ := h
    have hu := hu_of hr
    refine ⟨_, (pss_cons (ps_expr (pe_callS h_check_rings (hr.mono (by decide)) rfl (pa_e (pv 0) pa_nil)))
 (pss_cons (ps_set (i := 1) sc_levels.nd rfl (Or.inl rfl) pe_dnewK)
 (pss_cons (ps_for PassesOwn.never rfl (pi_lst (pe_callS h_names_of (hr.mono (by decide)) rfl (pa_e (pv 0) pa_nil))) (pg_name (i := 2) sc_levels.nd rfl (Or.inl rfl))
 (pss_one (ps_asg pe_int (pg_sub (pv 1) (pv 2) (set_dict hu)))))
 (pss_cons (ps_for PassesOwn.never rfl (pi_rangeS1 rfl T.n_range (pa_e (pe_callBS call_len_q rfl T.n_len bt_len (pa_e (pe_item hu (pv 0) pe_int (fun _ _ => rfl)) pa_nil)) pa_nil)) (pg_name (i := 3) sc_levels.nd rfl (Or.inl rfl))
 (pss_one (ps_for PassesOwn.never rfl (pi_tpl (pe_item hu (pv 0) pe_int (fun _ _ => rfl))) (pg_name (i := 4) sc_levels.nd rfl (Or.inl rfl))
 (pss_one (ps_for PassesOwn.never rfl (pi_lst (pe_callS h_part_names (hr.mono (by decide)) rfl (pa_e (pv 4) pa_nil))) (pg_name (i := 5) sc_levels.nd rfl (Or.inl rfl))
 (pss_one (ps_asg (pe_callBS (call_maxA rfl) rfl T.n_max bt_max (pa_e (pe_item hu (pv 1) (pv 5) (fun _ _ => rfl)) (pa_e (pe_op op_add (pe_item hu (pv 1) (pe_item hu (pv 4) (pe_globI rfl T.g_NAME) (fun _ _ => rfl)) (fun _ _ => rfl)) pe_int) pa_nil))) (pg_sub (pv 1) (pv 5) (set_dict hu)))))))))
 (pss_one (ps_ret (pv 1))))))), ?_⟩
    have hfew := L.few
    walk_at "rd"
    refine ⟨v, S, rfl, rs, L.ok, lev_noRing L.toLev, fun H1 sm1 => ?_⟩
    obtain ⟨a, b, c, ws, us, rfl, ha, hb, hc, rws, rus⟩ := shop_at rs
    have hl := rds_len rws
    intro p hp
    have u1 := sm1.trans (same_upd (o := .dK []) hp)
    have fp : H p = none := Same.free sm1 hp
    have hnl := namesS_len S
    refine ⟨.ref a, S, rfl, RD.same u1 _ _ rs, by omega, fun q H2 hq hq2 sm2 => ⟨q, rfl, _, hq2, ?_⟩⟩
    have hp2 := sm2 p _ upd_same
    have s2 := u1.trans sm2
    have qp : q ≠ p := fun z => by rw [z, upd_same] at hq; cases hq
    refine for_w (goesL q _) (fun i σ H' => ZeroInv (.ref a) p S H i σ H' ∧ H' q = some (.lst ((namesS S).map V.str))) ⟨⟨_, _, _, _, rfl, hp2, s2⟩, hq2⟩ (fun i σ H' _ h => h.2) (fun i x σ H3 hi hx h => ?_) (fun σ H3 h => ?_)
    · obtain ⟨⟨o1, o2, o3, o4, rfl, hp3, s3⟩, hq3⟩ := h
      rw [List.length_map] at hi
      rw [List.getElem?_map] at hx
      cases en : (namesS S)[i]? with
      | none => rw [en] at hx; cases hx
      | some nm =>
      rw [en] at hx
      have hx : V.str nm = x := Option.some.inj hx
      subst hx
      walk_at "rd"
      refine ⟨_, .inr nm, rfl, hp3, ?_, ⟨_, _, _, _, rfl, ?_, fun b' o' hb' => by rw [upd_ne (ne_of_none hb' fp)]; exact s3 b' o' hb'⟩, by rw [upd_ne qp]; exact hq3⟩
      · rw [fnD_len, List.length_take]
        exact Nat.lt_of_le_of_lt (m := 1000) (by omega) (by decide)
      · have nin : nm ∉ (namesS S).take i := take_nin' L.nd en
        rw [upd_same, fnD_new nin, List.take_add_one, en]
        exact congrArg (fun z => some (HO.dK z)) (fnD_congr fun x _ => by split <;> rfl)
    · obtain ⟨⟨o1, o2, o3, o4, rfl, hp3, s3⟩, _⟩ := h
      rw [List.length_map, List.take_length] at hp3
      walk_at "rd"
      refine ⟨_, item_t (j := 0) (s3 _ _ ha) rfl, b, rfl, _, .inr (s3 _ _ hb), by omega, by omega, ?_⟩
      have en : ((ws.length : Nat) : Int).toNat = S.wares.length := by omega
      rw [en]
      refine for_w (goesR 0 _) (TurnInv (.ref a) p S H) ⟨_, _, _, _, fun _ => 0, rfl, hp3, fun x => ⟨Int.le_refl _, Int.le_refl _, fun _ => lv_nn S x⟩, s3⟩ (fun _ _ _ _ _ => trivial) (fun k' x σ H4 hi hx h => ?_) (fun σ H4 h => ?_)
      · obtain ⟨o1, o2, o3, o4, g, rfl, hp4, hg, s4⟩ := h
        walk_at "rd"
        refine ⟨_, item_t (j := 0) (s4 _ _ ha) rfl, b, rfl, _, s4 _ _ hb, ?_⟩
        refine for_w (goesT b _) (SeenInv (.ref a) p S k' H) ⟨_, _, _, _, g, rfl, hp4, ⟨hg, (fun w hw => by cases hw), fun w _ p hp => by cases hp⟩, s4⟩ (fun i σ H' _ h => let ⟨_, _, _, _, _, _, _, _, s⟩ := h; s _ _ hb) (fun i y σ H5 hi2 hy h => ?_) (fun σ H5 h => ?_)
        · obtain ⟨o1, o2, o3, o4, g, rfl, hp5, hg, s5⟩ := h
          obtain ⟨t, ht, rt⟩ := rds_map rws hy
          have htm := List.mem_of_getElem? ht
          obtain ⟨te, d1, d2, rfl, hte, _⟩ := ware_at rt
          walk_at "rd"
          refine ⟨.ref te, t, rfl, RD.same s5 _ _ rt, L.ok.wares t htm, fun q2 H6 hq6 hq7 sm6 => ⟨q2, rfl, _, hq7, ?_⟩⟩
          have hp6 := sm6 p _ hp5
          have s6 := s5.trans sm6
          have q2p : q2 ≠ p := fun z => by rw [z, hp5] at hq6; cases hq6
          refine for_w (goesL q2 _) (fun j σ H' => PartsInv (.ref a) p (.ref te) S k' i H j σ H' ∧ H' q2 = some (.lst ((t.parts.map (·.1)).map V.str))) ⟨⟨_, _, _, g, rfl, hp6, hg, s6⟩, hq7⟩ (fun j σ H' _ h => h.2) (fun j z σ H7 hj hz h => ?_) (fun σ H7 h => ?_)
          · obtain ⟨⟨o1, o2, o4, g, rfl, hp7, hg, s7⟩, hq8⟩ := h
            rw [List.length_map, List.length_map] at hj
            obtain ⟨pp, hpp⟩ : ∃ pp, t.parts[j]? = some pp := ⟨_, List.getElem?_eq_getElem hj⟩
            rw [List.getElem?_map, List.getElem?_map, hpp] at hz
            have hz : V.str pp.1 = z := Option.some.inj hz
            subst hz
            have hpm := List.mem_of_getElem? hpp
            have hown : pp.1 ∈ namesS S := L.own t htm pp hpm
            have htn : t.name ∈ namesS S := List.mem_map.mpr ⟨t, htm, rfl⟩
            walk_at "rd"
            have hg1 := (hg.1 pp.1)
            have hgt := (hg.1 t.name)
            have hup : g t.name + 1 ≤ lv S pp.1 := by have h1 := hgt.2.2 htn; have h2 := lv_part L.toLev htm hpm; omega
            refine ⟨.int (g pp.1), item_d (.inl hp7) (fnD_val hown), _, item_t (j := 0) (s7 _ _ hte) rfl, .int (g t.name), item_d (.inl hp7) (fnD_val htn), _, rfl, _, rfl, _, .inr pp.1, rfl, hp7, by rw [fnD_len, hnl]; exact Nat.lt_of_le_of_lt (m := 1000) (by omega) (by decide), ?_, by rw [upd_ne q2p]; exact hq8⟩
            rw [fnD_put hown]
            refine ⟨_, _, _, fun x => if x = pp.1 then (if g t.name + 1 > g pp.1 then g t.name + 1 else g pp.1) else g x, rfl, upd_same, ?_, fun b' o' hb' => by rw [upd_ne (ne_of_none hb' fp)]; exact s7 b' o' hb'⟩
            have gr : ∀ x, g x ≤ (if x = pp.1 then (if g t.name + 1 > g pp.1 then g t.name + 1 else g pp.1) else g x) := fun x => by
              split
              · rename_i e; rw [e]; split <;> omega
              · exact Int.le_refl _
            refine ⟨fun x => ⟨Int.le_trans (hg.1 x).1 (gr x), Int.le_trans (hg.1 x).2.1 (gr x), fun hx => ?_⟩, fun w hw p hp => Int.le_trans (hg.2.1 w hw p hp) (gr p.1), fun w hw p hp => ?_⟩
            · show (if x = pp.1 then (if g t.name + 1 > g pp.1 then g t.name + 1 else g pp.1) else g x) ≤ lv S x
              split
              · rename_i e; rw [e]; have := hg1.2.2 hown; split <;> omega
              · exact (hg.1 x).2.2 hx
            · rw [ht] at hw
              have e : t = w := Option.some.inj hw
              subst e
              rw [List.take_add_one, hpp] at hp
              rcases List.mem_append.mp hp with m | m
              · exact Int.le_trans (hg.2.2 t ht p m) (gr p.1)
              · have e : p = pp := by simpa using m
                subst e
                show 1 + lvF S k' t.name ≤ (if p.1 = p.1 then (if g t.name + 1 > g p.1 then g t.name + 1 else g p.1) else g p.1)
                rw [if_pos rfl]
                have := hgt.2.1
                split <;> omega
          · obtain ⟨⟨o1, o2, o4, g, rfl, hp7, hg, s7⟩, _⟩ := h
            rw [List.length_map, List.length_map] at hg
            refine ⟨_, _, _, _, g, rfl, hp7, ⟨hg.1, fun w hw p hp => ?_, fun w _ p hp => by cases hp⟩, s7⟩
            rw [List.take_add_one, ht] at hw
            rcases List.mem_append.mp hw with m | m
            · exact hg.2.1 w m p hp
            · have e : w = t := by simpa using m
              subst e
              exact hg.2.2 w ht p (by rw [List.take_length]; exact hp)
        · obtain ⟨o1, o2, o3, o4, g, rfl, hp5, hg, s5⟩ := h
          rw [hl] at hg
          exact ⟨_, _, _, _, g, rfl, hp5, fun x => ⟨(hg.1 x).1, lv_reach (fun x => (hg.1 x).1) (fun w hw p hp => hg.2.1 w (by rw [List.take_length]; exact hw) p hp) x, (hg.1 x).2.2⟩, s5⟩
      · obtain ⟨o1, o2, o3, o4, g, rfl, hp4, hg, s4⟩ := h
        walk_at "rd"
        refine k p H4 fp ?_ s4
        rw [hp4]
        exact congrArg (fun z => some (HO.dK z)) (fnD_congr fun x hx => Int.le_antisymm ((hg x).2.2 hx) (hg x).2.1)
def sp_worked (Pt : Addr) : Sp := fun vs H Q _ => ∃ (v : V) (S : Sh), vs = [v] ∧ RD H S.d v ∧ LevOk S ∧ Tb H Pt ∧ ∀ p ys H', H p = none → H' p = some (.lst (ys.map V.str)) → SortK (lv S) (namesS S) ys → StabK (lv S) (namesS S) ys → Tb H' Pt → But Pt H H' → Q (.ref p) H'
theorem sc_worked : FnScope ["shop", "level_of"] ["shop"] (defScope s_worked) := ⟨rfl, rfl, rfl, by decide +kernel, rfl, by decide +kernel, by decide +kernel⟩
theorem ok_worked {f ct : Addr} {fd : FuncData} (F : Fun K "worked" "worked" s_worked f fd) (T : Txt mg) (h_levels : Has P w K mg base "levels" 5 ["shop"] sp_levels) (h_names_of : Has P w K mg base "names_of" 1 ["shop"] sp_names_of) (C : CodeAt K f ct Pt) (hB : BMain mg base) : FnOk P w K mg base CX0 6 f fd ["shop"] (sp_worked Pt) := by
  refine F.okC C sc_worked (fun vs H Q E h => ?_) (fun A outer s H vs Q E hr h => ?_)
  · obtain ⟨v, S, rfl, _⟩ := h
    rfl
  · obtain ⟨v, S, rfl, rs, L, tb, k⟩ := h
    have hu := hu_of hr
    refine ⟨_, (pss_cons (ps_set (i := 1) sc_worked.nd rfl (Or.inr rfl) (pe_callS h_levels (hr.mono (by decide)) rfl (pa_e (pv 0) pa_nil)))
 (pss_one (ps_ret (pe_sortK (i := 1) (nm := "name") (lv := "level_of") rfl T.n_sorted (pe_callS h_names_of (hr.mono (by decide)) rfl (pa_e (pv 0) pa_nil)) hr rfl C.hd hB rfl rfl rfl (fun _ h => closure_one rfl h) ⟨rfl, rfl, rfl, rfl, rfl, by decide⟩ (fun _ _ _ _ _ => rfl))))), ?_⟩
    have hfew := L.few
    walk_at "rd"
    refine ⟨v, S, rfl, rs, L, fun p H1 hp hp1 sm1 => ?_⟩
    refine ⟨v, S, rfl, RD.same sm1 _ _ rs, by omega, fun q H2 hq hq2 sm2 => ?_⟩
    have s2 := sm1.trans sm2
    unfold SortAsk
    refine ⟨q, namesS S, p, fnD (namesS S) (lv S), lv S, rfl, hq2, by rw [namesS_len]; exact hfew, rfl, sm2 _ _ hp1, fun x hx => fnD_val hx, TblAt.same tb s2, fun r ys H3 hr3 hr4 so sb tb3 bt => ?_⟩
    exact k r ys H3 (Same.free s2 hr3) hr4 so sb tb3 (fun b o nb hb => bt b o nb (s2 b o hb))
theorem Tb.same {H H' : Hp} {Pt : Addr} (t : Tb H Pt) (s : Same H H') : Tb H' Pt := TblAt.same t s
theorem Tb.at {H : Hp} {Pt : Addr} (t : Tb H Pt) : ∃ u, H Pt = some (.tbl u) := t.elim (fun e => ⟨_, e⟩) (fun ⟨_, e, _⟩ => ⟨_, e⟩)
theorem tb_ku {H H' : Hp} {Pt : Addr} (t : Tb H Pt) (b : But Pt H H') : KeepU H H' := fun a xs e => b a _ (fun z => by obtain ⟨u, hu⟩ := t.at; rw [z, hu] at e; cases e) e
theorem tb_ne {H : Hp} {Pt p : Addr} {o : HO} (t : Tb H Pt) (h : H p = some o) (hn : ∀ u, o ≠ .tbl u) : p ≠ Pt := fun z => by
  obtain ⟨u, e⟩ := t.at
  rw [← z, h] at e
  exact hn u (Option.some.inj e)
end
set_option maxRecDepth 100000
set_option maxHeartbeats 4000000
section
variable {P : Program} {w : World} {K : PySem.W.Frag} {mg : Str → Option Value} {base : Heap} {Pt : Addr}
def StOk2 (H : Hp) (st : Addr) : Prop := ∃ x y : Int, H st = some (.lst [.int x, .int y])
theorem StOk2.same {H H' : Hp} {st : Addr} (h : StOk2 H st) (s : Same H H') : StOk2 H' st := let ⟨x, y, e⟩ := h; ⟨x, y, s _ _ e⟩
theorem StOk2.but {H H' : Hp} {a st : Addr} (h : StOk2 H a) (s : But st H H') (hs : StOk2 H' st) : StOk2 H' a := by
  by_cases e : a = st
  · rw [e]; exact hs
  · obtain ⟨x, y, q⟩ := h
    exact ⟨x, y, s _ _ e q⟩
def noInt : List V → Bool
  | .int _ :: _ => false
  | _ => true
theorem StOk2.ne {H : Hp} {st a : Addr} {xs : List V} (h : StOk2 H st) (ha : H a = some (.lst xs)) (n : noInt xs = true) : a ≠ st := fun e => by
  obtain ⟨x, y, q⟩ := h
  rw [e, q] at ha
  cases ha
  cases n
theorem StOk2.neT {H : Hp} {st a : Addr} {xs : List V} (h : StOk2 H st) (ha : H a = some (.tup xs)) : a ≠ st := fun e => by
  obtain ⟨x, y, q⟩ := h
  rw [e, q] at ha
  cases ha
theorem but_ku {H H' : Hp} {st : Addr} (s : But st H H') (h : StOk2 H st) : KeepU H H' := fun a xs e => s a _ (h.neT e) e
def sp_law_cell_at (K : PySem.W.Frag) : Sp := fun vs H Q _ => ∃ (a : Addr) (ns : List Int) (k : Int), vs = [.ref a, .int k] ∧ SqL K H a (ns.map V.int) ∧ ns.length ≤ 63 ∧ 0 ≤ k ∧ ∀ c, 0 ≤ c → c < 10 ^ 60 → Q (.int c) H
theorem sc_law_cell_at : FnScope ["_law_script", "_law_k"] ["_law_script", "_law_k"] (defScope s_law_cell_at) := ⟨rfl, rfl, rfl, by decide +kernel, rfl, by decide +kernel, by decide +kernel⟩
theorem ok_law_cell_at {f : Addr} {fd : FuncData} (F : Fun K "_law_cell_at" "_law_cell_at" s_law_cell_at f fd) (T : Txt mg) : FnOk P w K mg base CX0 1 f fd ["_law_script", "_law_k"] (sp_law_cell_at K) := by
  refine F.ok sc_law_cell_at (fun vs H Q E h => ?_) (fun cdv A outer s H vs Q E hr h => ?_)
  · obtain ⟨a, ns, k, rfl, _⟩ := h
    rfl
  · obtain ⟨a, ns, k, rfl, hS, hlen, k0, q⟩ := h
    have hu := hu_of hr
    refine ⟨_, (pss_cons (ps_if (pt_cmpR (op_ltA hu) (pv 1) (pe_callBS call_len_seq rfl T.n_len bt_len (pa_e (pv 0) pa_nil)) (nomark _)) (pss_one (ps_ret (pe_op op_mod (pe_ix ix_list (pv 0) (pv 1) (fun _ _ => rfl)) (pe_op op_pow pe_int pe_int)))) pss_nil)
 (pss_one (ps_ret pe_int))), ?_⟩
    walk_at "rd"
    refine ⟨_, .inl hS, ite2 (fun h => ?_) (fun h => q 0 (by decide) (by decide))⟩
    have h := of_decide_eq_true h
    rw [List.length_map] at h
    have hk : k.toNat < ns.length := by omega
    have e : ((k.toNat : Nat) : Int) = k := by omega
    refine ⟨a, _, k, .int ns[k.toNat], rfl, rfl, hS, ?_, ⟨by decide, by decide, by decide⟩, _, rfl, by decide +kernel, ?_⟩
    · have q := atI_nat (xs := ns.map V.int) (j := k.toNat) (v := V.int ns[k.toNat]) (by rw [List.getElem?_map, List.getElem?_eq_getElem hk]; rfl)
      rw [e] at q
      exact q
    · exact q _ (Int.emod_nonneg _ (by decide +kernel)) (Int.emod_lt_of_pos _ (by decide +kernel))
def sp_law_drawn (K : PySem.W.Frag) : Sp := fun vs H Q _ => ∃ (a : Addr) (ns : List Int) (k s : Int), vs = [.ref a, .int k, .int s] ∧ SqL K H a (ns.map V.int) ∧ ns.length ≤ 63 ∧ 0 ≤ k ∧ ∀ st H', H st = none → StOk2 H' st → Same H H' → Q (.ref st) H'
theorem sc_law_drawn : FnScope ["_law_script", "_law_k", "_law_salt", "_law_cell", "_law_mixed"] ["_law_script", "_law_k", "_law_salt"] (defScope s_law_drawn) := ⟨rfl, rfl, rfl, by decide +kernel, rfl, by decide +kernel, by decide +kernel⟩
theorem ok_law_drawn {f : Addr} {fd : FuncData} (F : Fun K "_law_drawn" "_law_drawn" s_law_drawn f fd) (T : Txt mg) (h_law_cell_at : Has P w K mg base "_law_cell_at" 1 ["_law_script", "_law_k"] (sp_law_cell_at K)) : FnOk P w K mg base CX0 2 f fd ["_law_script", "_law_k", "_law_salt"] (sp_law_drawn K) := by
  refine F.ok sc_law_drawn (fun vs H Q E h => ?_) (fun cdv A outer s H vs Q E hr h => ?_)
  · obtain ⟨a, ns, k, s, rfl, _⟩ := h
    rfl
  · obtain ⟨a, ns, k, sa, rfl, hS, hlen, k0, q⟩ := h
    have hu := hu_of hr
    refine ⟨_, (pss_cons (ps_set (i := 3) sc_law_drawn.nd rfl (Or.inl rfl) (pe_callS h_law_cell_at (hr.mono (by decide)) rfl (pa_e (pv 0) (pa_e (pv 1) pa_nil))))
 (pss_cons (ps_set (i := 4) sc_law_drawn.nd rfl (Or.inl rfl) (pe_op op_mod (pe_op op_add (pe_op op_add (pe_op op_mulB (pv 3) pe_int) (pe_op op_mulB pe_int (pe_op op_add (pv 1) (pv 2)))) pe_int) pe_int))
 (pss_cons (ps_if (pt_cmpR (op_eqA hu) (pe_op op_mod (pe_callS h_law_cell_at (hr.mono (by decide)) rfl (pa_e (pv 0) (pa_e pe_int pa_nil))) pe_int) pe_int (nomark _)) (pss_one (ps_ret (pe_lst (pa_e (pe_op op_fdivL (pv 3) (pe_op op_add pe_int (pe_callTS call_int1 rfl T.n_int bt_int (pa_e (pe_cmpR (op_eqA hu) (pv 1) pe_int (nomark _)) pa_nil)))) (pa_e (pv 4) pa_nil))))) pss_nil)
 (pss_one (ps_ret (pe_lst (pa_e pe_int (pa_e (pv 4) pa_nil)))))))), ?_⟩
    walk_at "rd"
    refine ⟨a, ns, k, rfl, hS, hlen, k0, fun c c0 c1 => ?_⟩
    walk_at "rd"
    refine ⟨.inl (.inr ⟨by decide, by decide⟩), .inl (.inl ⟨by decide, by decide⟩), by decide, ?_⟩
    refine ⟨a, ns, 0, rfl, hS, hlen, by decide, fun d d0 d1 => ?_⟩
    walk_at "rd"
    refine ⟨by decide, rfl, ite2 (fun _ => ?_) (fun _ => ?_)⟩
    · refine ⟨rfl, ?_⟩
      have hj : ∀ b : Bool, (0 : Int) < 1 + (if b = true then 1 else 0) ∧ (1 + (if b = true then 1 else 0) : Int) < 10 ^ 200 := by decide +kernel
      exact ⟨(hj _).1, (hj _).2, by decide, fun p hp => q p _ hp ⟨_, _, upd_same⟩ (same_upd hp)⟩
    · exact ⟨by decide, fun p hp => q p _ hp ⟨_, _, upd_same⟩ (same_upd hp)⟩
def sp_law_next : Sp := fun vs H Q _ => ∃ st m, vs = [.ref st, .int m] ∧ StOk2 H st ∧ 0 < m ∧ m < 10 ^ 200 ∧ ∀ d H', 0 ≤ d → d < m → StOk2 H' st → But st H H' → Q (.int d) H'
theorem sc_law_next : FnScope ["_law_state", "_law_many", "_law_digit"] ["_law_state", "_law_many"] (defScope s_law_next) := ⟨rfl, rfl, rfl, by decide +kernel, rfl, by decide +kernel, by decide +kernel⟩
theorem ok_law_next {f : Addr} {fd : FuncData} (F : Fun K "_law_next" "_law_next" s_law_next f fd) (T : Txt mg) : FnOk P w K mg base CX0 1 f fd ["_law_state", "_law_many"] sp_law_next := by
  refine F.ok sc_law_next (fun vs H Q E h => ?_) (fun cdv A outer s H vs Q E hr h => ?_)
  · obtain ⟨st, m, rfl, _⟩ := h
    rfl
  · obtain ⟨st, m, rfl, ⟨x, y, hs⟩, h0, hm, k⟩ := h
    have hu := hu_of hr
    refine ⟨_, (pss_cons (ps_if (pt_cmpR op_gt (pe_item hu (pv 0) pe_int (fun _ _ => rfl)) pe_int (nomark _)) (pss_cons (ps_set (i := 2) sc_law_next.nd rfl (Or.inl rfl) (pe_op op_mod (pe_item hu (pv 0) pe_int (fun _ _ => rfl)) (pv 1)))
 (pss_cons (ps_asg (pe_op op_fdivL (pe_item hu (pv 0) pe_int (fun _ _ => rfl)) (pv 1)) (pg_sub (pv 0) pe_int set_list))
 (pss_one (ps_ret (pv 2))))) pss_nil)
 (pss_cons (ps_asg (pe_op op_mod (pe_op op_add (pe_op op_mulB (pe_item hu (pv 0) pe_int (fun _ _ => rfl)) pe_int) pe_int) pe_int) (pg_sub (pv 0) pe_int set_list))
 (pss_one (ps_ret (pe_op op_mod (pe_op op_fdivL (pe_item hu (pv 0) pe_int (fun _ _ => rfl)) pe_int) (pv 1)))))), ?_⟩
    walk_at "rd"
    have i0 : Item H (.ref st) (.int 0) (.int x) := item_l (j := 0) hs rfl
    have i1 : Item H (.ref st) (.int 1) (.int y) := item_l (j := 1) hs rfl
    refine ⟨_, i0, _, rfl, ite2 (fun _ => ?_) (fun _ => ?_)⟩
    · refine ⟨_, i0, _, rfl, h0, _, i0, _, rfl, h0, hm, _, hs, 0, by simp [ixN], ?_⟩
      exact k _ _ (Int.emod_nonneg _ (by omega)) (Int.emod_lt_of_pos _ h0) ⟨x / m, y, by rw [upd_same]; rfl⟩ but_set
    · refine ⟨_, i1, _, rfl, .inl (.inr ⟨by decide, by decide⟩), by decide, _, hs, 1, by simp [ixN], ?_⟩
      refine ⟨_, item_l (j := 1) upd_same rfl, _, rfl, by decide, by decide +kernel, h0, ?_⟩
      exact k _ _ (Int.emod_nonneg _ (by omega)) (Int.emod_lt_of_pos _ h0) ⟨x, _, by rw [upd_same]; rfl⟩ but_set
def sp_law_amount : Sp := fun vs H Q _ => ∃ st, vs = [.ref st] ∧ StOk2 H st ∧ ∀ n H', 0 ≤ n → n < 10 ^ 32 → StOk2 H' st → But st H H' → Q (.int n) H'
theorem sc_law_amount : FnScope ["_law_state", "_law_amount_here"] ["_law_state"] (defScope s_law_amount) := ⟨rfl, rfl, rfl, by decide +kernel, rfl, by decide +kernel, by decide +kernel⟩
theorem ok_law_amount {f : Addr} {fd : FuncData} (F : Fun K "_law_amount" "_law_amount" s_law_amount f fd) (T : Txt mg) (h_law_next : Has P w K mg base "_law_next" 1 ["_law_state", "_law_many"] sp_law_next) : FnOk P w K mg base CX0 2 f fd ["_law_state"] sp_law_amount := by
  refine F.ok sc_law_amount (fun vs H Q E h => ?_) (fun cdv A outer s H vs Q E hr h => ?_)
  · obtain ⟨st, rfl, _⟩ := h
    rfl
  · obtain ⟨st, rfl, hs, k⟩ := h
    have hu := hu_of hr
    refine ⟨_, (pss_cons (ps_set (i := 1) sc_law_amount.nd rfl (Or.inl rfl) (pe_callS h_law_next (hr.mono (by decide)) rfl (pa_e (pv 0) (pa_e pe_int pa_nil))))
 (pss_cons (ps_if (pt_cmpR (op_eqA hu) (pe_callS h_law_next (hr.mono (by decide)) rfl (pa_e (pv 0) (pa_e pe_int pa_nil))) pe_int (nomark _)) (pss_one (ps_ret (pe_op op_add (pe_op op_mulB (pe_op op_add pe_int (pv 1)) (pe_op op_pow pe_int pe_int)) (pe_callS h_law_next (hr.mono (by decide)) rfl (pa_e (pv 0) (pa_e pe_int pa_nil)))))) pss_nil)
 (pss_one (ps_ret (pv 1))))), ?_⟩
    walk_at "rd"
    refine ⟨st, 10, rfl, hs, by decide, by decide +kernel, fun d H1 d0 d1 s1 b1 => ?_⟩
    walk_at "rd"
    refine ⟨st, 8, rfl, s1, by decide, by decide +kernel, fun d' H2 _ _ s2 b2 => ?_⟩
    walk_at "rd"
    have b2 := b1.trans b2
    refine ⟨rfl, ite2 (fun _ => ?_) (fun _ => k d H2 d0 (Int.lt_trans d1 (by decide)) s2 b2)⟩
    refine ⟨⟨by decide, by decide, by decide⟩, .inl (.inl ⟨by omega, by omega⟩), ?_⟩
    refine ⟨st, 9, rfl, s2, by decide, by decide +kernel, fun e H3 e0 e1 s3 b3 => ?_⟩
    have q : (0 : Int) ≤ (1 + d) * 10 ^ Int.toNat 9 + e ∧ (1 + d) * 10 ^ Int.toNat 9 + e < 10 ^ 32 := by
      have : (10 : Int) ^ Int.toNat 9 = 1000000000 := by decide
      rw [this]
      omega
    exact ⟨e, rfl, k _ H3 q.1 q.2 s3 (b2.trans b3)⟩
structure Raw where
  a : Addr
  c : Addr
  q : Addr
  w : Wr
def RawOk (H : Hp) (r : Raw) : Prop := H r.a = some (.lst [.str r.w.name, .int r.w.lag, .int r.w.gives, .int r.w.floor, .int r.w.stock, .ref r.c, .ref r.q]) ∧ (∃ cv, H r.c = some (.lst cv) ∧ RDs H (r.w.coming.map arrD) cv) ∧ ∃ pv, H r.q = some (.lst pv) ∧ RDs H (r.w.parts.map partD) pv
theorem RawOk.mono {H H' : Hp} {r : Raw} (h : RawOk H r) (k : ∀ b xs, b = r.a ∨ b = r.c ∨ b = r.q → H b = some (.lst xs) → H' b = some (.lst xs)) (u : KeepU H H') : RawOk H' r := by
  obtain ⟨h1, ⟨cv, h2, h3⟩, pv, h4, h5⟩ := h
  exact ⟨k _ _ (.inl rfl) h1, ⟨cv, k _ _ (.inr (.inl rfl)) h2, RDs.ku u _ _ (nl_map arrD nl_arr _) h3⟩, pv, k _ _ (.inr (.inr rfl)) h4, RDs.ku u _ _ (nl_map partD nl_part _) h5⟩
theorem noInt_arr {H : Hp} {xs : List (Int × Int)} {vs : List V} (h : RDs H (xs.map arrD) vs) : noInt vs = true := by
  cases xs with
  | nil => rw [RDs.nil_of h]; rfl
  | cons x r =>
    obtain ⟨v, t, rfl, hv, _⟩ := RDs.cons_of h
    obtain ⟨a, rfl, _⟩ := arr_at hv
    rfl
theorem noInt_part {H : Hp} {xs : List (Str × Int)} {vs : List V} (h : RDs H (xs.map partD) vs) : noInt vs = true := by
  cases xs with
  | nil => rw [RDs.nil_of h]; rfl
  | cons x r =>
    obtain ⟨v, t, rfl, hv, _⟩ := RDs.cons_of h
    obtain ⟨a, rfl, _⟩ := part_at hv
    rfl
theorem noInt_want {H : Hp} {xs : List Wt} {vs : List V} (h : RDs H (xs.map wantD) vs) : noInt vs = true := by
  cases xs with
  | nil => rw [RDs.nil_of h]; rfl
  | cons x r =>
    obtain ⟨v, t, rfl, hv, _⟩ := RDs.cons_of h
    obtain ⟨a, rfl, _⟩ := want_at hv
    rfl
theorem noInt_refs (as : List Addr) : noInt (as.map V.ref) = true := by cases as <;> rfl
theorem RawOk.but {H H' : Hp} {r : Raw} {st : Addr} (h : RawOk H r) (b : But st H H') (s : StOk2 H st) : RawOk H' r := by
  refine h.mono (fun x xs e hx => b x _ ?_ hx) (but_ku b s)
  obtain ⟨h1, ⟨cv, h2, h3⟩, pv, h4, h5⟩ := h
  rcases e with rfl | rfl | rfl
  · exact s.ne h1 rfl
  · exact s.ne h2 (noInt_arr h3)
  · exact s.ne h4 (noInt_part h5)
theorem pick_int {H : Hp} {p : Addr} {ns : List Int} {d : Int} {lo hi : Int} (h : H p = some (.lst (ns.map V.int))) (d0 : 0 ≤ d) (d1 : d < ns.length) (hb : ∀ n ∈ ns, lo ≤ n ∧ n ≤ hi) : ∃ n, lo ≤ n ∧ n ≤ hi ∧ Item H (.ref p) (.int d) (.int n) := by
  have hd : d.toNat < ns.length := by omega
  have := hb _ (List.getElem_mem hd)
  exact ⟨ns[d.toNat], this.1, this.2, item_i (.inl h) d0 (by rw [List.getElem?_map, List.getElem?_eq_getElem hd]; rfl)⟩
structure WB (w : Wr) : Prop where
  lag : 0 ≤ w.lag ∧ w.lag ≤ 30
  gives : 1 ≤ w.gives ∧ w.gives ≤ 100
  floor : 0 ≤ w.floor ∧ w.floor ≤ 100
  stock : 0 ≤ w.stock ∧ w.stock ≤ 100
  parts : w.parts.length ≤ 12
  amts : ∀ p ∈ w.parts, 1 ≤ p.2 ∧ p.2 ≤ 100
  nds : (w.parts.map (·.1)).Nodup
structure RawsOk (H : Hp) (rs : List Raw) : Prop where
  each : ∀ r ∈ rs, RawOk H r
  nd : (rs.map (·.c)).Nodup
  apart : ∀ r ∈ rs, ∀ r' ∈ rs, r.c ≠ r'.a ∧ r.c ≠ r'.q
theorem RawsOk.perm {H : Hp} {rs rs' : List Raw} (h : RawsOk H rs) (p : rs'.Perm rs) : RawsOk H rs' :=
  ⟨fun r hr => h.each r (p.mem_iff.mp hr), (p.map _).nodup_iff.mpr h.nd, fun r hr r' hr' => h.apart r (p.mem_iff.mp hr) r' (p.mem_iff.mp hr')⟩
def Kth (Pn : List Str) (m : Nat) (i : Nat) (w : Wr) : Prop := Pn[i]? = some w.name ∧ WB w ∧ ∀ p ∈ w.parts, ∃ j, i < j ∧ j < m ∧ Pn[j]? = some p.1
structure WsOk (ws : List Wr) : Prop where
  nd : (ws.map (·.name)).Nodup
  wb : ∀ w ∈ ws, WB w
  txt : ∀ w ∈ ws, PyData.strOk w.name = true
  own : ∀ w ∈ ws, ∀ p ∈ w.parts, p.1 ∈ ws.map (·.name)
  low : ∃ r : Str → Nat, (∀ w ∈ ws, r w.name < ws.length) ∧ ∀ w ∈ ws, ∀ p ∈ w.parts, r p.1 < r w.name
theorem WsOk.perm {ws ws' : List Wr} (h : WsOk ws) (p : ws'.Perm ws) : WsOk ws' := by
  refine ⟨(p.map _).nodup_iff.mpr h.nd, fun w hw => h.wb w (p.mem_iff.mp hw), fun w hw => h.txt w (p.mem_iff.mp hw), fun w hw q hq => (p.map _).mem_iff.mpr (h.own w (p.mem_iff.mp hw) q hq), ?_⟩
  obtain ⟨r, h1, h2⟩ := h.low
  exact ⟨r, fun w hw => by rw [p.length_eq]; exact h1 w (p.mem_iff.mp hw), fun w hw => h2 w (p.mem_iff.mp hw)⟩
theorem idx_of {Pn : List Str} (nd : Pn.Nodup) {i : Nat} {x : Str} (h : Pn[i]? = some x) : Pn.idxOf x = i := by
  obtain ⟨hi, rfl⟩ := List.getElem?_eq_some_iff.mp h
  exact nd.idxOf_getElem i hi
theorem ws_of {Pn : List Str} {ws : List Wr} (nd : Pn.Nodup) (hs : ∀ x ∈ Pn, PyData.strOk x = true) (h : ∀ (i : Nat) (w : Wr), ws[i]? = some w → Kth Pn ws.length i w) (hm : ws.length ≤ Pn.length) : WsOk ws := by
  have en : ws.map (·.name) = Pn.take ws.length := by
    apply List.ext_getElem?
    intro i
    rw [List.getElem?_map, List.getElem?_take]
    by_cases hi : i < ws.length
    · rw [if_pos hi, List.getElem?_eq_getElem hi]
      exact (h i _ (List.getElem?_eq_getElem hi)).1.symm
    · rw [if_neg hi, List.getElem?_eq_none (by omega)]
      rfl
  have at' : ∀ w ∈ ws, ∃ i, i < ws.length ∧ Kth Pn ws.length i w := fun w hw => by
    obtain ⟨i, hi, e⟩ := List.mem_iff_getElem.mp hw
    exact ⟨i, hi, h i w (by rw [List.getElem?_eq_getElem hi, e])⟩
  refine ⟨by rw [en]; exact (List.take_sublist _ _).nodup nd, fun w hw => ?_, fun w hw => ?_, fun w hw p hp => ?_, fun x => ws.length - 1 - Pn.idxOf x, fun w hw => ?_, fun w hw p hp => ?_⟩
  · obtain ⟨i, _, k⟩ := at' w hw; exact k.2.1
  · obtain ⟨i, _, k⟩ := at' w hw
    exact hs _ (List.mem_of_getElem? k.1)
  · obtain ⟨i, _, k⟩ := at' w hw
    obtain ⟨j, h1, h2, h3⟩ := k.2.2 p hp
    rw [en]
    refine List.mem_of_getElem? (i := j) ?_
    rw [List.getElem?_take, if_pos h2]
    exact h3
  · obtain ⟨i, hi, k⟩ := at' w hw
    show ws.length - 1 - Pn.idxOf w.name < ws.length
    omega
  · obtain ⟨i, hi, k⟩ := at' w hw
    obtain ⟨j, h1, h2, h3⟩ := k.2.2 p hp
    show ws.length - 1 - Pn.idxOf p.1 < ws.length - 1 - Pn.idxOf w.name
    rw [idx_of nd k.1, idx_of nd h3]
    omega
theorem ws_noRing {S : Sh} (h : WsOk S.wares) : NoRing S := by
  obtain ⟨r, h1, h2⟩ := h.low
  refine cut_none (r := r) (fun e he x hx => ?_) (fun e he => ?_)
  · obtain ⟨w, hw, rfl⟩ := List.mem_map.mp he
    obtain ⟨p, hp, rfl⟩ := List.mem_map.mp hx
    exact h2 w hw p hp
  · obtain ⟨w, hw, rfl⟩ := List.mem_map.mp he
    exact h1 w hw
end
set_option maxRecDepth 100000
set_option maxHeartbeats 4000000
section
variable {P : Program} {w : World} {K : PySem.W.Frag} {mg : Str → Option Value} {base : Heap} {Pt : Addr}
theorem cutV_from {xs : List V} {i : Int} (hi : 0 ≤ i) : cutV xs (some i) none = xs.drop i.toNat := by
  unfold cutV
  rw [sIx_nn hi]
  have e : HT.sIx xs.length xs.length none = xs.length := rfl
  rw [e]
  by_cases h : i.toNat ≤ xs.length
  · rw [Nat.min_eq_left h, List.take_of_length_le (by rw [List.length_drop]; exact Nat.le_refl _)]
  · have h : xs.length ≤ i.toNat := by omega
    rw [Nat.min_eq_right h, List.drop_length, List.drop_of_length_le h, List.take_nil]
theorem RawsOk.but {H H' : Hp} {rs : List Raw} {st : Addr} (h : RawsOk H rs) (b : But st H H') (s : StOk2 H st) : RawsOk H' rs := ⟨fun r hr => (h.each r hr).but b s, h.nd, h.apart⟩
theorem RawsOk.same {H H' : Hp} {rs : List Raw} (h : RawsOk H rs) (s : Same H H') : RawsOk H' rs := ⟨fun r hr => (h.each r hr).mono (fun b xs _ e => s b _ e) s.ku, h.nd, h.apart⟩
def pool0 : List Str := ["a", "ab", "b", "ba", "c", "frame", "nut", "wheel"]
theorem pool_nd : pool0.Nodup := by decide +kernel
theorem pool_ok : ∀ x ∈ pool0, PyData.strOk x = true := by decide +kernel
structure PnOk (Pn : List Str) : Prop where
  nd : Pn.Nodup
  len : Pn.length = pool0.length
  txt : ∀ x ∈ Pn, PyData.strOk x = true
theorem pn_rot (c : Nat) : PnOk (pool0.drop c ++ pool0.take c) := by
  have p : (pool0.drop c ++ pool0.take c).Perm pool0 := by
    refine List.perm_append_comm.trans ?_
    rw [List.take_append_drop]
  exact ⟨p.nodup_iff.mpr pool_nd, p.length_eq, fun x hx => pool_ok x (p.mem_iff.mp hx)⟩
def MadeInv (st pl wl : Addr) (m : Nat) (c : Int) (Pn : List Str) (H : Hp) (i : Nat) (σ : St) (H' : Hp) : Prop := ∃ (rs : List Raw) (o1 o2 o3 o4 o5 o6 o7 o8 : Option V),
  σ = [some (.ref st), some (.int m), some (.ref pl), some (.int c), some (.ref wl), o1, o2, o3, o4, o5, o6, o7, o8] ∧ rs.length = i ∧ H' wl = some (.lst ((rs.map (·.a)).map V.ref)) ∧ H' pl = some (.lst (Pn.map V.str)) ∧ RawsOk H' rs ∧
  (∀ j r, rs[j]? = some r → Kth Pn m j r.w ∧ r.w.coming = [] ∧ H r.a = none ∧ H r.c = none ∧ H r.q = none ∧ r.a ≠ wl ∧ r.c ≠ wl ∧ r.q ≠ wl) ∧ StOk2 H' st ∧ But st H H'
def MadeB (st pl wl : Addr) (Pn : List Str) (rs : List Raw) (H Hx : Hp) : Prop := Hx wl = some (.lst ((rs.map (·.a)).map V.ref)) ∧ Hx pl = some (.lst (Pn.map V.str)) ∧ RawsOk Hx rs ∧ StOk2 Hx st ∧ But st H Hx
theorem MadeB.same {st pl wl : Addr} {Pn : List Str} {rs : List Raw} {H Hx H' : Hp} (h : MadeB st pl wl Pn rs H Hx) (s : Same Hx H') : MadeB st pl wl Pn rs H H' :=
  ⟨s _ _ h.1, s _ _ h.2.1, h.2.2.1.same s, h.2.2.2.1.same s, h.2.2.2.2.same s⟩
theorem noInt_strs (xs : List Str) : noInt (xs.map V.str) = true := by cases xs <;> rfl
theorem MadeB.nx {st pl wl : Addr} {Pn : List Str} {rs : List Raw} {H Hx H' : Hp} (h : MadeB st pl wl Pn rs H Hx) (s : StOk2 H' st) (b : But st Hx H') : MadeB st pl wl Pn rs H H' :=
  ⟨b _ _ (h.2.2.2.1.ne h.1 (noInt_refs _)) h.1, b _ _ (h.2.2.2.1.ne h.2.1 (noInt_strs _)) h.2.1, h.2.2.1.but b h.2.2.2.1, s, h.2.2.2.2.trans b⟩
theorem MadeB.ne {st pl wl p : Addr} {Pn : List Str} {rs : List Raw} {H Hx : Hp} (h : MadeB st pl wl Pn rs H Hx) (hp : Hx p = none) : p ≠ st := fun e => by
  obtain ⟨x, y, q⟩ := h.2.2.2.1
  rw [e, q] at hp
  cases hp
theorem RawOk.ne {H : Hp} {r : Raw} {st b : Addr} (h : RawOk H r) (s : StOk2 H st) (e : b = r.a ∨ b = r.c ∨ b = r.q) : b ≠ st := by
  obtain ⟨h1, ⟨cv, h2, h3⟩, pv, h4, h5⟩ := h
  rcases e with rfl | rfl | rfl
  · exact s.ne h1 rfl
  · exact s.ne h2 (noInt_arr h3)
  · exact s.ne h4 (noInt_part h5)
theorem RawOk.fresh {H : Hp} {r : Raw} {p b : Addr} (h : RawOk H r) (hp : H p = none) (e : b = r.a ∨ b = r.c ∨ b = r.q) : b ≠ p := by
  obtain ⟨h1, ⟨cv, h2, h3⟩, pv, h4, h5⟩ := h
  rcases e with rfl | rfl | rfl
  · exact ne_of_none h1 hp
  · exact ne_of_none h2 hp
  · exact ne_of_none h4 hp
def PartInv (st pl wl pa : Addr) (m : Nat) (k : Nat) (c : Int) (lag fl sk : Int) (Pn : List Str) (H1 : Hp) (i : Nat) (σ : St) (H' : Hp) : Prop := ∃ (ps : List (Str × Int)) (pv : List V) (o6 o7 o8 : Option V),
  σ = [some (.ref st), some (.int m), some (.ref pl), some (.int c), some (.ref wl), some (.int k), some (.int lag), some (.int fl), some (.int sk), some (.ref pa), o6, o7, o8] ∧ H' pa = some (.lst pv) ∧ RDs H' (ps.map partD) pv ∧ ps.length ≤ i ∧
  (∀ p ∈ ps, 1 ≤ p.2 ∧ p.2 ≤ 100) ∧ (∀ p ∈ ps, ∃ j, k < j ∧ j < k + 1 + i ∧ Pn[j]? = some p.1) ∧ (ps.map (·.1)).Nodup ∧ StOk2 H' st ∧ (∀ b o, b ≠ st → b ≠ pa → H1 b = some o → H' b = some o)
def sp_law_wares : Sp := fun vs H Q _ => ∃ (st : Addr) (m : Nat), vs = [.ref st, .int m] ∧ StOk2 H st ∧ 1 ≤ m ∧ m ≤ pool0.length ∧ ∀ l (rs : List Raw) H', H l = none → H' l = some (.lst ((rs.map (·.a)).map V.ref)) → rs.length = m → RawsOk H' rs → WsOk (rs.map (·.w)) → (∀ r ∈ rs, r.w.coming = [] ∧ H r.a = none ∧ H r.c = none ∧ H r.q = none ∧ r.c ≠ l) → StOk2 H' st → But st H H' → Q (.ref l) H'
theorem sc_law_wares : FnScope ["_law_state", "_law_many", "_law_pool", "_law_cut", "_law_wares_here", "_law_k", "_law_lag", "_law_floor", "_law_stock", "_law_parts", "_law_j", "_law_amount_here", "_law_spot"] ["_law_state", "_law_many"] (defScope s_law_wares) := ⟨rfl, rfl, rfl, by decide +kernel, rfl, by decide +kernel, by decide +kernel⟩
theorem ok_law_wares {f : Addr} {fd : FuncData} (F : Fun K "_law_wares" "_law_wares" s_law_wares f fd) (T : Txt mg) (h_law_next : Has P w K mg base "_law_next" 1 ["_law_state", "_law_many"] sp_law_next) : FnOk P w K mg base CX0 2 f fd ["_law_state", "_law_many"] sp_law_wares := by
  refine F.ok sc_law_wares (fun vs H Q E h => ?_) (fun cdv A outer s H vs Q E hr h => ?_)
  · obtain ⟨st, m, rfl, _⟩ := h
    rfl
  · obtain ⟨st, m, rfl, hs, m1, m8, k⟩ := h
    have hp8 : pool0.length = 8 := rfl
    have m200 : (m : Int) < 10 ^ 200 := Int.lt_of_le_of_lt (b := 8) (by omega) (by decide +kernel)
    have hu := hu_of hr
    refine ⟨_, (pss_cons (ps_set (i := 2) sc_law_wares.nd rfl (Or.inl rfl) (pe_lst (pa_e pe_str (pa_e pe_str (pa_e pe_str (pa_e pe_str (pa_e pe_str (pa_e pe_str (pa_e pe_str (pa_e pe_str pa_nil))))))))))
 (pss_cons (ps_set (i := 3) sc_law_wares.nd rfl (Or.inl rfl) (pe_callS h_law_next (hr.mono (by decide)) rfl (pa_e (pv 0) (pa_e pe_int pa_nil))))
 (pss_cons (ps_set (i := 2) sc_law_wares.nd rfl (Or.inl rfl) (pe_op op_cat (pe_slice sl_lstA (pv 2) (po_some (pv 3)) po_none) (pe_slice sl_lstA (pv 2) po_none (po_some (pv 3)))))
 (pss_cons (ps_set (i := 4) sc_law_wares.nd rfl (Or.inl rfl) (pe_lst pa_nil))
 (pss_cons (ps_for PassesOwn.never rfl (pi_rangeS1 rfl T.n_range (pa_e (pv 1) pa_nil)) (pg_name (i := 5) sc_law_wares.nd rfl (Or.inl rfl))
 (pss_cons (ps_set (i := 6) sc_law_wares.nd rfl (Or.inl rfl) (pe_item hu (pe_lst (pa_e pe_int (pa_e pe_int (pa_e pe_int (pa_e pe_int (pa_e pe_int (pa_e pe_int pa_nil))))))) (pe_callS h_law_next (hr.mono (by decide)) rfl (pa_e (pv 0) (pa_e pe_int pa_nil))) (fun _ _ => rfl)))
 (pss_cons (ps_set (i := 7) sc_law_wares.nd rfl (Or.inl rfl) (pe_item hu (pe_lst (pa_e pe_int (pa_e pe_int (pa_e pe_int (pa_e pe_int (pa_e pe_int (pa_e pe_int pa_nil))))))) (pe_callS h_law_next (hr.mono (by decide)) rfl (pa_e (pv 0) (pa_e pe_int pa_nil))) (fun _ _ => rfl)))
 (pss_cons (ps_set (i := 8) sc_law_wares.nd rfl (Or.inl rfl) (pe_item hu (pe_lst (pa_e pe_int (pa_e (pv 7) (pa_e (pe_op op_add (pv 7) (pe_callS h_law_next (hr.mono (by decide)) rfl (pa_e (pv 0) (pa_e pe_int pa_nil)))) (pa_e (pe_op op_mulB (pv 7) pe_int) pa_nil))))) (pe_callS h_law_next (hr.mono (by decide)) rfl (pa_e (pv 0) (pa_e pe_int pa_nil))) (fun _ _ => rfl)))
 (pss_cons (ps_set (i := 9) sc_law_wares.nd rfl (Or.inl rfl) (pe_lst pa_nil))
 (pss_cons (ps_for PassesOwn.never rfl (pi_rangeS2 rfl T.n_range (pa_e (pe_op op_add (pv 5) pe_int) (pa_e (pv 1) pa_nil))) (pg_name (i := 10) sc_law_wares.nd rfl (Or.inl rfl))
 (pss_cons (ps_set (i := 11) sc_law_wares.nd rfl (Or.inl rfl) (pe_callBS (call_maxA rfl) rfl T.n_max bt_max (pa_e pe_int (pa_e (pe_op op_sub (pe_callS h_law_next (hr.mono (by decide)) rfl (pa_e (pv 0) (pa_e pe_int pa_nil))) pe_int) pa_nil))))
 (pss_one (ps_if (pt_cmpR op_gt (pv 11) pe_int (nomark _)) (pss_one (ps_expr (pe_bs PySem.F.plainAttrs_list PySem.F.slot_list_append PySem.F.type_list_append mt_append (pv 9) (pa_e (pe_tup (pa_e (pe_item hu (pv 2) (pv 10) (fun _ _ => rfl)) (pa_e (pv 11) pa_nil))) pa_nil)))) pss_nil))))
 (pss_one (ps_expr (pe_bs PySem.F.plainAttrs_list PySem.F.slot_list_append PySem.F.type_list_append mt_append (pv 4) (pa_e (pe_lst (pa_e (pe_item hu (pv 2) (pv 5) (fun _ _ => rfl)) (pa_e (pv 6) (pa_e (pe_op op_add pe_int (pe_callS h_law_next (hr.mono (by decide)) rfl (pa_e (pv 0) (pa_e pe_int pa_nil)))) (pa_e (pv 7) (pa_e (pv 8) (pa_e (pe_lst pa_nil) (pa_e (pv 9) pa_nil)))))))) pa_nil))))))))))
 (pss_cons (ps_set (i := 12) sc_law_wares.nd rfl (Or.inl rfl) (pe_callS h_law_next (hr.mono (by decide)) rfl (pa_e (pv 0) (pa_e (pv 1) pa_nil))))
 (pss_one (ps_ret (pe_op op_cat (pe_slice sl_lstA (pv 4) (po_some (pv 12)) po_none) (pe_lrev rfl rfl T.n_list rfl T.n_reversed (pe_slice sl_lstA (pv 4) po_none (po_some (pv 12))))))))))))), ?_⟩
    refine cut3 (fun σ' H' => ∃ (pl : Addr) (c : Int) (Pn : List Str), σ' = [some (.ref st), some (.int m), some (.ref pl), some (.int c), none, none, none, none, none, none, none, none, none] ∧ H' pl = some (.lst (Pn.map V.str)) ∧ PnOk Pn ∧ H pl = none ∧ StOk2 H' st ∧ But st H H') ?_ (fun KK hK => ?_)
    · rintro σ' H1 ⟨pl, c, Pn, rfl, hpl, pn, fpl, s1, b1⟩
      refine cut2 (fun σ' H' => ∃ wl : Addr, MadeInv st pl wl m c Pn H m σ' H' ∧ H wl = none) ?_ (fun KK hK => ?_)
      · rintro σ' H2 ⟨wl, ⟨rs, o1, o2, o3, o4, o5, o6, o7, o8, rfl, hrs, hwl, hpl2, raws, each, s2, b2⟩, fwl⟩
        walk_at "rd"
        refine ⟨st, m, rfl, s2, by omega, m200, fun d H3 d0 d1 s3 b3 => ?_⟩
        have hwl3 := b3 wl _ (s2.ne hwl (noInt_refs _)) hwl
        refine ⟨d, rfl, _, hwl3, fun p hp => ⟨d, rfl, _, by rw [upd_ne (ne_of_none hwl3 hp)]; exact hwl3, fun p1 hp1 => ⟨_, upd_same, fun p2 hp2 => ⟨cutV ((rs.map (·.a)).map V.ref) (some d) none, ?_, _, upd_same, ?_, fun p3 hp3 => ?_⟩⟩⟩⟩
        · have n1 : p ≠ p1 := ne_of_none upd_same hp1
          have e1 : upd (upd H3 p (.lst (cutV ((rs.map (·.a)).map V.ref) (some d) none))) p1 (.lst (cutV ((rs.map (·.a)).map V.ref) none (some d))) p = some (.lst (cutV ((rs.map (·.a)).map V.ref) (some d) none)) := by rw [upd_ne n1, upd_same]
          rw [upd_ne (ne_of_none e1 hp2)]
          exact e1
        · rw [cutV_from d0, cutV_to d0, List.length_reverse, List.length_drop, List.length_take, List.length_map, List.length_map]
          exact line1000 (by omega)
        · have t1 := same_upd (o := .lst (cutV ((rs.map (·.a)).map V.ref) (some d) none)) hp
          have t2 := t1.trans (same_upd (o := .lst (cutV ((rs.map (·.a)).map V.ref) none (some d))) hp1)
          have t3 := t2.trans (same_upd (o := .lst (cutV ((rs.map (·.a)).map V.ref) none (some d)).reverse) hp2)
          have t4 := t3.trans (same_upd (o := .lst (cutV ((rs.map (·.a)).map V.ref) (some d) none ++ (cutV ((rs.map (·.a)).map V.ref) none (some d)).reverse)) hp3)
          have pm : (rs.drop d.toNat ++ (rs.take d.toNat).reverse).Perm rs := by
            refine ((List.Perm.refl _).append (List.reverse_perm _)).trans (List.perm_append_comm.trans ?_)
            rw [List.take_append_drop]
          have raws3 : RawsOk H3 rs := raws.but b3 s2
          have f3 : H3 p3 = none := Same.free t3 hp3
          refine k p3 (rs.drop d.toNat ++ (rs.take d.toNat).reverse) _ ?_ ?_ (by rw [pm.length_eq]; exact hrs) ((raws3.same t4).perm pm) ?_ (fun r hr => ?_) (s3.same t4) ((b2.trans b3).same t4)
          · refine (b2.trans b3).none (fun e => ?_) f3
            obtain ⟨x, y, q⟩ := s3
            rw [← e, f3] at q
            cases q
          · rw [upd_same, cutV_from d0, cutV_to d0, List.map_append, List.map_append, ← List.map_drop, ← List.map_drop, List.map_reverse, List.map_reverse, ← List.map_take, ← List.map_take]
          · rw [List.map_append, ← List.map_append]
            refine WsOk.perm (ws := rs.map (·.w)) (ws_of pn.nd pn.txt (fun j w hw => ?_) (by rw [List.length_map, pn.len]; omega)) (pm.map _)
            rw [List.getElem?_map] at hw
            cases er : rs[j]? with
            | none => rw [er] at hw; cases hw
            | some r =>
              rw [er] at hw
              cases hw
              rw [List.length_map, hrs]
              exact (each j r er).1
          · have hr' := pm.mem_iff.mp hr
            obtain ⟨j, hj, e⟩ := List.mem_iff_getElem.mp hr'
            obtain ⟨_, e1, e2, e3, e4, _⟩ := each j r (by rw [List.getElem?_eq_getElem hj, e])
            obtain ⟨_, ⟨cv, hc, _⟩, _⟩ := raws3.each r hr'
            exact ⟨e1, e2, e3, e4, ne_of_none (t3 _ _ hc) hp3⟩
      · walk_at "rd"
        refine ⟨Nat.zero_le _, fun wl hwl => ⟨by omega, by omega, ?_⟩⟩
        have nwp : pl ≠ wl := ne_of_none hpl hwl
        have nws : st ≠ wl := fun e => by obtain ⟨x, y, q⟩ := s1; rw [e, hwl] at q; cases q
        have fwl : H wl = none := b1.none (Ne.symm nws) hwl
        have em : ((m : Nat) : Int).toNat = m := by omega
        rw [em]
        refine for_w (goesR 0 _) (MadeInv st pl wl m c Pn H) ⟨[], _, _, _, _, _, _, _, _, rfl, rfl, upd_same, by rw [upd_ne nwp]; exact hpl, ⟨(fun _ h => nomatch h), List.nodup_nil, (fun _ h => nomatch h)⟩, (fun _ _ h => nomatch h), ?_, b1.new hwl⟩ (fun _ _ _ _ _ => trivial) (fun i x σ H2 hi hx h => ?_) (fun σ H2 h => ?_)
        · obtain ⟨x, y, q⟩ := s1; exact ⟨x, y, by rw [upd_ne nws]; exact q⟩
        · obtain ⟨rs, o1, o2, o3, o4, o5, o6, o7, o8, rfl, hrs, hwl2, hpl2, raws, each, s2, b2⟩ := h
          subst hx
          have ei : (0 : Int) + (i : Int) = i := Int.zero_add _
          rw [ei]
          have B0 : MadeB st pl wl Pn rs H H2 := ⟨hwl2, hpl2, raws, s2, b2⟩
          walk_at "rd"
          refine ⟨by decide, fun p1 hp1 => ?_⟩
          have n1 := B0.ne hp1
          have B1 := B0.same (same_upd (o := .lst [V.int 0, V.int 0, V.int 1, V.int 1, V.int 2, V.int 3]) hp1)
          refine ⟨st, 6, rfl, B1.2.2.2.1, by decide, by decide +kernel, fun d1 H3 d10 d11 s3 b3 => ?_⟩
          have B3 := B1.nx s3 b3
          obtain ⟨lag, lag0, lag1, it1⟩ := pick_int (ns := [0, 0, 1, 1, 2, 3]) (lo := 0) (hi := 30) (b3 p1 _ n1 upd_same) d10 (by simpa using d11) (by decide)
          refine ⟨_, it1, by decide, fun p2 hp2 => ?_⟩
          have n2 := B3.ne hp2
          have B4 := B3.same (same_upd (o := .lst [V.int 0, V.int 0, V.int 0, V.int 1, V.int 2, V.int 5]) hp2)
          refine ⟨st, 6, rfl, B4.2.2.2.1, by decide, by decide +kernel, fun d2 H5 d20 d21 s5 b5 => ?_⟩
          have B5 := B4.nx s5 b5
          obtain ⟨fl, fl0, fl1, it2⟩ := pick_int (ns := [0, 0, 0, 1, 2, 5]) (lo := 0) (hi := 5) (b5 p2 _ n2 upd_same) d20 (by simpa using d21) (by decide)
          refine ⟨_, it2, st, 10, rfl, s5, by decide, by decide +kernel, fun d3 H6 d30 d31 s6 b6 => ?_⟩
          have B6 := B5.nx s6 b6
          refine ⟨fl, rfl, d3, rfl, fl, rfl, .inl (.inr ⟨by decide, by decide⟩), by decide, fun p3 hp3 => ?_⟩
          have n3 := B6.ne hp3
          have B7 := B6.same (same_upd (o := .lst [V.int 0, V.int fl, V.int (fl + d3), V.int (fl * 3)]) hp3)
          refine ⟨st, 4, rfl, B7.2.2.2.1, by decide, by decide +kernel, fun d4 H8 d40 d41 s8 b8 => ?_⟩
          have B8 := B7.nx s8 b8
          obtain ⟨sk, sk0, sk1, it3⟩ := pick_int (ns := [0, fl, fl + d3, fl * 3]) (lo := 0) (hi := 100) (b8 p3 _ n3 upd_same) d40 (by simpa using d41) (by
            intro n hn
            simp only [List.mem_cons, List.not_mem_nil, or_false] at hn
            rcases hn with rfl | rfl | rfl | rfl <;> omega)
          refine ⟨_, it3, by decide, fun pa hpa => ⟨by omega, by omega, by omega, by omega, ?_⟩⟩
          have npa := B8.ne hpa
          have B9 := B8.same (same_upd (o := .lst []) hpa)
          have fpa : H pa = none := B8.2.2.2.2.none npa hpa
          have nwp' : wl ≠ pa := ne_of_none B8.1 hpa
          have npp' : pl ≠ pa := ne_of_none B8.2.1 hpa
          have napart : ∀ r ∈ rs, r.a ≠ pa ∧ r.c ≠ pa ∧ r.q ≠ pa := fun r hr => by
            obtain ⟨h1, ⟨cv, h2, _⟩, pv, h4, _⟩ := B8.2.2.1.each r hr
            exact ⟨ne_of_none h1 hpa, ne_of_none h2 hpa, ne_of_none h4 hpa⟩
          have lift : ∀ Hx : Hp, StOk2 Hx st → (∀ b o, b ≠ st → b ≠ pa → upd H8 pa (.lst []) b = some o → Hx b = some o) → MadeB st pl wl Pn rs H Hx := fun Hx sx kx => by
            obtain ⟨c1, c2, c3, c4, c5⟩ := B9
            refine ⟨kx _ _ (c4.ne c1 (noInt_refs _)) nwp' c1, kx _ _ (c4.ne c2 (noInt_strs _)) npp' c2, ⟨fun r hr => (c3.each r hr).mono (fun b xs e hb => kx b _ ((c3.each r hr).ne c4 e) ?_ hb) (fun a xs h => kx a _ (c4.neT h) (fun e => ?_) h), c3.nd, c3.apart⟩, sx, fun b o nb hb => kx b o nb (ne_of_none hb fpa) (c5 b o nb hb)⟩
            · obtain ⟨w1, w2, w3⟩ := napart r hr
              rcases e with rfl | rfl | rfl
              · exact w1
              · exact w2
              · exact w3
            · rw [e, upd_same] at h; cases h
          have er : ((m : Int) - ((i : Int) + 1)).toNat = m - (i + 1) := by omega
          rw [er]
          refine for_w (goesR _ _) (PartInv st pl wl pa m i c lag fl sk Pn (upd H8 pa (.lst []))) ⟨[], [], _, _, _, rfl, upd_same, RDs.nil, Nat.le_refl _, (fun _ h => nomatch h), (fun _ h => nomatch h), List.nodup_nil, B9.2.2.2.1, fun b o _ _ h => h⟩ (fun _ _ _ _ _ => trivial) (fun t x σ Hx ht hx h => ?_) (fun σ Hx h => ?_)
          · obtain ⟨ps, pv, o6, o7, o8, rfl, hpv, rpv, lps, amts, own, ndp, sx, kx⟩ := h
            subst hx
            have Bx := lift Hx sx kx
            have hj : i + 1 + t < Pn.length := by rw [pn.len]; omega
            have hjn : Pn[i + 1 + t]? = some Pn[i + 1 + t] := List.getElem?_eq_getElem hj
            walk_at "rd"
            refine ⟨st, 6, rfl, sx, by decide, by decide +kernel, fun d Hy e0 e1 sy by' => ⟨d, rfl, ?_⟩⟩
            have By := Bx.nx sy by'
            have hpv' := by' pa _ npa hpv
            have rpv' := RDs.ku (but_ku by' sx) _ _ (nl_map partD nl_part _) rpv
            have ky : ∀ b o, b ≠ st → b ≠ pa → upd H8 pa (.lst []) b = some o → Hy b = some o := fun b o n1 n2 h => by' b o n1 (kx b o n1 n2 h)
            generalize hq : (if d - 2 > 0 then d - 2 else 0) = am
            have am1 : am ≤ 3 := by rw [← hq]; split <;> omega
            refine ite2 (fun hz => ?_) (fun hz => ?_)
            · have hz := of_decide_eq_true hz
              refine ⟨ty_lst hpv', .str Pn[i + 1 + t], item_i (.inl By.2.1) (by omega) ?_, by decide, fun t' ht' => ⟨pv, by rw [upd_ne (ne_of_none hpv' ht')]; exact hpv', ?_, ?_⟩⟩
              · have : ((i : Int) + 1 + (t : Int)).toNat = i + 1 + t := by omega
                rw [this, List.getElem?_map, hjn]
                rfl
              · have := RDs.len rpv
                rw [List.length_map] at this
                exact Nat.lt_of_le_of_lt (m := 1000) (by omega) (by decide)
              · have u1 : KeepU Hy (upd Hy t' (.tup [.str Pn[i + 1 + t], .int am])) := ku_new ht'
                have h1 : upd Hy t' (.tup [.str Pn[i + 1 + t], .int am]) pa = some (.lst pv) := by rw [upd_ne (ne_of_none hpv' ht')]; exact hpv'
                have u2 : KeepU Hy (upd (upd Hy t' (.tup [.str Pn[i + 1 + t], .int am])) pa (.lst (pv ++ [.ref t']))) := u1.trans (ku_set h1 (fun _ z => by cases z))
                have ntp : t' ≠ pa := fun e => by rw [e, hpv'] at ht'; cases ht'
                have nts : t' ≠ st := By.ne ht'
                refine ⟨ps ++ [(Pn[i + 1 + t], am)], pv ++ [.ref t'], _, _, _, rfl, upd_same, ?_, by simp; omega, fun p hp => ?_, fun p hp => ?_, ?_, ?_, fun b o n1 n2 h => ?_⟩
                · rw [List.map_append]
                  refine RDs.app (RDs.ku u2 _ _ (nl_map partD nl_part _) rpv') (RDs.one ?_)
                  exact RD.tup_mk (by rw [upd_ne ntp, upd_same]) (RDs.cons RD.str_mk (RDs.one RD.int_mk))
                · rcases List.mem_append.mp hp with z | z
                  · exact amts p z
                  · rw [List.mem_singleton.mp z]; exact ⟨by omega, by omega⟩
                · rcases List.mem_append.mp hp with z | z
                  · obtain ⟨j, j1, j2, j3⟩ := own p z
                    exact ⟨j, j1, by omega, j3⟩
                  · rw [List.mem_singleton.mp z]; exact ⟨i + 1 + t, by omega, by omega, hjn⟩
                · rw [List.map_append]
                  refine List.nodup_append.mpr ⟨ndp, by simp, fun x hx y hy e => ?_⟩
                  have ey : y = Pn[i + 1 + t] := by simpa using hy
                  obtain ⟨p, hp, rfl⟩ := List.mem_map.mp hx
                  obtain ⟨j, j1, j2, j3⟩ := own p hp
                  have := idx_of pn.nd j3
                  rw [e, ey, idx_of pn.nd hjn] at this
                  omega
                · obtain ⟨x, y, q⟩ := sy
                  exact ⟨x, y, by rw [upd_ne (Ne.symm npa), upd_ne (Ne.symm nts)]; exact q⟩
                · have := ky b o n1 n2 h
                  rw [upd_ne n2, upd_ne (ne_of_none this ht')]
                  exact this
            · exact ⟨ps, pv, _, _, _, rfl, hpv', rpv', by omega, amts, fun p hp => let ⟨j, j1, j2, j3⟩ := own p hp; ⟨j, j1, by omega, j3⟩, ndp, sy, ky⟩
          · obtain ⟨ps, pv, o6, o7, o8, rfl, hpv, rpv, lps, amts, own, ndp, sx, kx⟩ := h
            have Bx := lift Hx sx kx
            have hil : i < Pn.length := by rw [pn.len]; omega
            obtain ⟨nm, hin⟩ : ∃ x, Pn[i]? = some x := ⟨_, List.getElem?_eq_getElem hil⟩
            walk_at "rd"
            refine ⟨ty_lst Bx.1, .str nm, item_l (j := i) Bx.2.1 (by rw [List.getElem?_map, hin]; rfl), st, 5, rfl, sx, by decide, by decide +kernel, fun x Hy x0 x1 sy by' => ⟨x, rfl, Nat.zero_le _, fun cc hcc => ⟨by decide, fun aa haa => ?_⟩⟩⟩
            have By := Bx.nx sy by'
            have hpv' := by' pa _ npa hpv
            have rpv' := RDs.ku (but_ku by' sx) _ _ (nl_map partD nl_part _) rpv
            have fcs : cc ≠ st := By.ne hcc
            have nca : cc ≠ aa := ne_of_none upd_same haa
            have haaY : Hy aa = none := by rw [upd_ne (Ne.symm nca)] at haa; exact haa
            have fas : aa ≠ st := By.ne haaY
            have nwc : wl ≠ cc := ne_of_none By.1 hcc
            have nwa : wl ≠ aa := ne_of_none By.1 haaY
            have npc : pa ≠ cc := ne_of_none hpv' hcc
            have npaa : pa ≠ aa := ne_of_none hpv' haaY
            have fcH : H cc = none := By.2.2.2.2.none fcs hcc
            have faH : H aa = none := By.2.2.2.2.none fas haaY
            refine ⟨(rs.map (·.a)).map V.ref, by rw [upd_ne nwa, upd_ne nwc]; exact By.1, ?_, ?_⟩
            · rw [List.length_map, List.length_map]
              exact Nat.lt_of_le_of_lt (m := 1000) (by omega) (by decide)
            · generalize hR : (HO.lst [V.str nm, V.int lag, V.int (1 + x), V.int fl, V.int sk, V.ref cc, V.ref pa]) = oR
              have kf : ∀ b o, b ≠ wl → Hy b = some o → upd (upd (upd Hy cc (.lst [])) aa oR) wl (.lst ((rs.map (·.a)).map V.ref ++ [.ref aa])) b = some o := fun b o n h => by
                rw [upd_ne n, upd_ne (ne_of_none h haaY), upd_ne (ne_of_none h hcc)]; exact h
              have uf : KeepU Hy (upd (upd (upd Hy cc (.lst [])) aa oR) wl (.lst ((rs.map (·.a)).map V.ref ++ [.ref aa]))) := fun a xs h => kf a _ (fun e => by rw [e, By.1] at h; cases h) h
              have oldne : ∀ r ∈ rs, (r.a ≠ wl ∧ r.c ≠ wl ∧ r.q ≠ wl) := fun r hr => by
                obtain ⟨j, hj, e⟩ := List.mem_iff_getElem.mp hr
                exact (each j r (by rw [List.getElem?_eq_getElem hj, e])).2.2.2.2.2
              refine ⟨rs ++ [⟨aa, cc, pa, ⟨nm, lag, 1 + x, fl, sk, [], ps⟩⟩], _, _, _, _, _, _, _, _, rfl, by simp [hrs], ?_, kf _ _ (fun e => ?_) By.2.1, ⟨fun r hr => ?_, ?_, fun r hr r' hr' => ?_⟩, fun j r hj => ?_, ?_, fun b o nb hb => ?_⟩
              · rw [upd_same, List.map_append, List.map_append]; rfl
              · rw [e] at hpl2
                have := By.2.1
                rw [e, By.1] at this
                have z := congrArg (fun o => match o with | some (HO.lst (V.str _ :: _)) => true | _ => false) this
                cases hP : Pn with
                | nil => have := pn.len; rw [hP] at this; cases this
                | cons y r => rw [hP] at z; cases rs <;> cases z
              · rcases List.mem_append.mp hr with z | z
                · refine (By.2.2.1.each r z).mono (fun b xs e hb => kf b _ ?_ hb) uf
                  obtain ⟨w1, w2, w3⟩ := oldne r z
                  rcases e with rfl | rfl | rfl
                  · exact w1
                  · exact w2
                  · exact w3
                · have e : r = _ := List.mem_singleton.mp z
                  subst e
                  refine ⟨?_, ⟨[], ?_, RDs.nil⟩, pv, kf _ _ (Ne.symm nwp') hpv', RDs.ku uf _ _ (nl_map partD nl_part _) rpv'⟩
                  · rw [upd_ne (Ne.symm nwa), upd_same, ← hR]
                  · rw [upd_ne (Ne.symm nwc), upd_ne nca, upd_same]
              · rw [List.map_append]
                refine List.nodup_append.mpr ⟨By.2.2.1.nd, by simp, fun x hx y hy e => ?_⟩
                have ey : y = cc := by simpa using hy
                obtain ⟨r, hr, rfl⟩ := List.mem_map.mp hx
                exact (By.2.2.1.each r hr).fresh hcc (.inr (.inl rfl)) (e.trans ey)
              · rcases List.mem_append.mp hr with z | z <;> rcases List.mem_append.mp hr' with z' | z'
                · exact By.2.2.1.apart r z r' z'
                · have e : r' = _ := List.mem_singleton.mp z'
                  subst e
                  exact ⟨(By.2.2.1.each r z).fresh haaY (.inr (.inl rfl)), (napart r z).2.1⟩
                · have e : r = _ := List.mem_singleton.mp z
                  subst e
                  exact ⟨Ne.symm ((By.2.2.1.each r' z').fresh hcc (.inl rfl)), Ne.symm ((By.2.2.1.each r' z').fresh hcc (.inr (.inr rfl)))⟩
                · have e : r = _ := List.mem_singleton.mp z
                  have e' : r' = _ := List.mem_singleton.mp z'
                  subst e e'
                  exact ⟨nca, Ne.symm npc⟩
              · by_cases hlt : j < rs.length
                · rw [List.getElem?_append_left hlt] at hj
                  exact each j r hj
                · have hj2 : j = rs.length := by
                    have := (List.getElem?_eq_some_iff.mp hj).1
                    simp at this
                    omega
                  rw [hj2, List.getElem?_append_right (Nat.le_refl _), Nat.sub_self] at hj
                  have e : r = _ := (Option.some.inj hj).symm
                  subst e
                  refine ⟨⟨by rw [hj2, hrs]; exact hin, ⟨⟨lag0, lag1⟩, ⟨by show 1 ≤ 1 + x; omega, by show 1 + x ≤ 100; omega⟩, ⟨fl0, by show fl ≤ 100; omega⟩, ⟨sk0, sk1⟩, by show ps.length ≤ 12; omega, amts, ndp⟩, fun p hp => ?_⟩, rfl, faH, fcH, fpa, Ne.symm nwa, Ne.symm nwc, Ne.symm nwp'⟩
                  obtain ⟨j', j1, j2, j3⟩ := own p hp
                  exact ⟨j', by omega, by omega, j3⟩
              · obtain ⟨x, y, q⟩ := sy
                exact ⟨x, y, kf _ _ (fun e => by rw [← e] at fwl; exact absurd (By.2.2.2.1) (fun h => by obtain ⟨x', y', q'⟩ := h; rw [e, By.1] at q'; cases rs <;> cases q')) q⟩
              · have nbw : b ≠ wl := ne_of_none hb fwl
                exact kf b o nbw (By.2.2.2.2 b o nb hb)
        · exact hK _ _ ⟨wl, h, fwl⟩
    · walk_at "rd"
      refine ⟨by decide, fun p0 hp0 => ?_⟩
      have np0 : st ≠ p0 := fun e => by obtain ⟨x, y, q⟩ := hs; rw [e, hp0] at q; cases q
      refine ⟨st, 8, rfl, ?_, by decide, by decide +kernel, fun d H1 d0 d1 s1 b1 => ?_⟩
      · obtain ⟨x, y, q⟩ := hs; exact ⟨x, y, by rw [upd_ne np0]; exact q⟩
      walk_at "rd"
      have h0 : H1 p0 = some (.lst (pool0.map V.str)) := b1 p0 _ (Ne.symm np0) upd_same
      refine ⟨_, h0, fun p hp => ⟨_, by rw [upd_ne (ne_of_none h0 hp)]; exact h0, fun p1 hp1 => ⟨_, by rw [upd_ne (ne_of_none upd_same hp1), upd_same], _, upd_same, ?_, fun p2 hp2 => ?_⟩⟩⟩
      · rw [cutV_from d0, cutV_to d0, List.length_drop, List.length_take, List.length_map]
        exact line1000 (by omega)
      · have t1 := same_upd (o := .lst (cutV (pool0.map V.str) (some d) none)) hp
        have t2 := t1.trans (same_upd (o := .lst (cutV (pool0.map V.str) none (some d))) hp1)
        have t3 := t2.trans (same_upd (o := .lst (cutV (pool0.map V.str) (some d) none ++ cutV (pool0.map V.str) none (some d))) hp2)
        have b01 : But st H H1 := (but_upd hp0).trans b1
        refine hK _ _ ⟨p2, d, pool0.drop d.toNat ++ pool0.take d.toNat, rfl, ?_, pn_rot _, ?_, s1.same t3, b01.same t3⟩
        · rw [upd_same, cutV_from d0, cutV_to d0, List.map_append, List.map_drop, List.map_take]
        · refine b01.none (fun e => ?_) (Same.free t2 hp2)
          obtain ⟨x, y, q⟩ := s1
          rw [e] at hp2
          rw [t2 _ _ q] at hp2
          cases hp2
end
set_option maxRecDepth 100000
set_option maxHeartbeats 4000000
section
variable {P : Program} {w : World} {K : PySem.W.Frag} {mg : Str → Option Value} {base : Heap} {Pt : Addr}
def core (w : Wr) : Wr := { w with coming := [] }
def ComOk (sz : Int) (cs : List (Int × Int)) : Prop := cs.length ≤ 12 ∧ ∀ p ∈ cs, (0 ≤ p.1 ∧ p.1 < sz) ∧ 0 ≤ p.2 ∧ p.2 < 10 ^ 32
def WantsOk (sz : Int) (names : List Str) (us : List Wt) : Prop := us.length ≤ 21 ∧ ∀ u ∈ us, u.1 ∈ names ∧ (0 ≤ u.2.1 ∧ u.2.1 < sz) ∧ 0 ≤ u.2.2 ∧ u.2.2 < 10 ^ 100
def WantsOk0 (sz : Int) (names : List Str) (us : List Wt) : Prop := us.length ≤ 20 ∧ ∀ u ∈ us, u.1 ∈ names ∧ (0 ≤ u.2.1 ∧ u.2.1 < sz) ∧ 0 ≤ u.2.2 ∧ u.2.2 < 10 ^ 32
theorem map_set_same {α β : Type} {f : α → β} {l : List α} {i : Nat} {x y : α} (h : l[i]? = some y) (e : f x = f y) : (l.set i x).map f = l.map f := by
  rw [List.map_set, e]
  apply List.ext_getElem?
  intro j
  by_cases hj : i = j
  · subst hj
    have hi : i < l.length := (List.getElem?_eq_some_iff.mp h).1
    rw [List.getElem?_set_self (by rw [List.length_map]; exact hi), List.getElem?_map, h]
    rfl
  · rw [List.getElem?_set_ne hj]
theorem WsOk.core {ws ws' : List Wr} (h : WsOk ws) (e : ws'.map core = ws.map core) : WsOk ws' := by
  have f : ∀ {β : Type} (g : Wr → β), (∀ w, g (K23.core w) = g w) → ws'.map g = ws.map g := fun {β} g hg => by
    have := congrArg (List.map g) e
    rw [List.map_map, List.map_map] at this
    have q : g ∘ K23.core = g := funext hg
    rw [q] at this
    exact this
  have fn := f (·.name) (fun _ => rfl)
  have fl : ws'.length = ws.length := by have := congrArg List.length fn; rw [List.length_map, List.length_map] at this; exact this
  have mem : ∀ w ∈ ws', ∃ w0 ∈ ws, K23.core w0 = K23.core w := fun w hw => by
    have : K23.core w ∈ ws.map K23.core := by rw [← e]; exact List.mem_map.mpr ⟨w, hw, rfl⟩
    obtain ⟨w0, h0, e0⟩ := List.mem_map.mp this
    exact ⟨w0, h0, e0⟩
  have cn : ∀ {w w0 : Wr}, K23.core w0 = K23.core w → w.name = w0.name ∧ w.parts = w0.parts ∧ (WB w0 → WB w) := fun {w w0} e => by
    have e1 := congrArg Wr.name e
    have e2 := congrArg Wr.parts e
    have e3 := congrArg Wr.lag e
    have e4 := congrArg Wr.gives e
    have e5 := congrArg Wr.floor e
    have e6 := congrArg Wr.stock e
    simp only [K23.core] at e1 e2 e3 e4 e5 e6
    refine ⟨e1.symm, e2.symm, fun h => ?_⟩
    obtain ⟨a, b, c, d, p, q, r⟩ := h
    exact ⟨e3 ▸ a, e4 ▸ b, e5 ▸ c, e6 ▸ d, e2 ▸ p, e2 ▸ q, e2 ▸ r⟩
  refine ⟨by rw [fn]; exact h.nd, fun w hw => ?_, fun w hw => ?_, fun w hw p hp => ?_, ?_⟩
  · obtain ⟨w0, h0, e0⟩ := mem w hw; exact (cn e0).2.2 (h.wb w0 h0)
  · obtain ⟨w0, h0, e0⟩ := mem w hw; rw [(cn e0).1]; exact h.txt w0 h0
  · obtain ⟨w0, h0, e0⟩ := mem w hw; rw [fn]; rw [(cn e0).2.1] at hp; exact h.own w0 h0 p hp
  · obtain ⟨r, h1, h2⟩ := h.low
    refine ⟨r, fun w hw => ?_, fun w hw p hp => ?_⟩
    · obtain ⟨w0, h0, e0⟩ := mem w hw; rw [(cn e0).1, fl]; exact h1 w0 h0
    · obtain ⟨w0, h0, e0⟩ := mem w hw; rw [(cn e0).1]; rw [(cn e0).2.1] at hp; exact h2 w0 h0 p hp
structure FillB (l cl wl : Addr) (sz : Int) (rs rs' : List Raw) (sts : List Addr) (us : List Wt) (uv : List V) (H Hx : Hp) : Prop where
  hl : Hx l = some (.lst ((rs.map (·.a)).map V.ref))
  hcl : Hx cl = some (.lst (sts.map V.ref))
  hwl : Hx wl = some (.lst uv)
  huv : RDs Hx (us.map wantD) uv
  uok : WantsOk0 sz ((rs.map (·.w)).map (·.name)) us
  raws : RawsOk Hx rs'
  ma : rs'.map (·.a) = rs.map (·.a)
  mc : rs'.map (·.c) = rs.map (·.c)
  mw : (rs'.map (·.w)).map core = (rs.map (·.w)).map core
  com : ∀ r ∈ rs', ComOk sz r.w.coming
  nw : ∀ r ∈ rs', r.a ≠ wl ∧ r.c ≠ wl ∧ r.q ≠ wl ∧ r.c ≠ l ∧ r.c ≠ cl
  st : ∀ s ∈ sts, StOk2 Hx s
  kp : ∀ b o, b ∉ sts → b ∉ rs.map (·.c) → H b = some o → Hx b = some o
theorem FillB.nx {l cl wl st : Addr} {sz : Int} {rs rs' : List Raw} {sts : List Addr} {us : List Wt} {uv : List V} {H Hx H' : Hp} (h : FillB l cl wl sz rs rs' sts us uv H Hx) (hm : st ∈ sts) (s : StOk2 H' st) (b : But st Hx H') : FillB l cl wl sz rs rs' sts us uv H H' := by
  have s0 := h.st st hm
  exact ⟨b _ _ (s0.ne h.hl (noInt_refs _)) h.hl, b _ _ (s0.ne h.hcl (noInt_refs _)) h.hcl, b _ _ (s0.ne h.hwl (noInt_want h.huv)) h.hwl, RDs.ku (but_ku b s0) _ _ (nl_map wantD nl_want _) h.huv, h.uok, h.raws.but b s0, h.ma, h.mc, h.mw, h.com, h.nw,
    fun x hx => (h.st x hx).but b s, fun x o n1 n2 hb => b x o (fun e => n1 (e ▸ hm)) (h.kp x o n1 n2 hb)⟩
theorem FillB.same {l cl wl : Addr} {sz : Int} {rs rs' : List Raw} {sts : List Addr} {us : List Wt} {uv : List V} {H Hx H' : Hp} (h : FillB l cl wl sz rs rs' sts us uv H Hx) (s : Same Hx H') : FillB l cl wl sz rs rs' sts us uv H H' :=
  ⟨s _ _ h.hl, s _ _ h.hcl, s _ _ h.hwl, RDs.same s _ _ h.huv, h.uok, h.raws.same s, h.ma, h.mc, h.mw, h.com, h.nw, fun x hx => (h.st x hx).same s, fun x o n1 n2 hb => s x o (h.kp x o n1 n2 hb)⟩
theorem FillB.want {l cl wl t : Addr} {sz : Int} {rs rs' : List Raw} {sts : List Addr} {us : List Wt} {uv : List V} {H Hx : Hp} {u : Wt} (h : FillB l cl wl sz rs rs' sts us uv H Hx) (hw : H wl = none) (ht : Hx t = some (.tup [.str u.1, .int u.2.1, .int u.2.2])) (hl : us.length < 20)
    (hu : u.1 ∈ (rs.map (·.w)).map (·.name) ∧ (0 ≤ u.2.1 ∧ u.2.1 < sz) ∧ 0 ≤ u.2.2 ∧ u.2.2 < 10 ^ 32) (nl : wl ≠ l ∧ wl ≠ cl) : FillB l cl wl sz rs rs' sts (us ++ [u]) (uv ++ [.ref t]) H (upd Hx wl (.lst (uv ++ [.ref t]))) := by
  have ku : KeepU Hx (upd Hx wl (.lst (uv ++ [.ref t]))) := ku_set h.hwl (fun _ z => by cases z)
  have ntw : t ≠ wl := fun e => by rw [e, h.hwl] at ht; cases ht
  refine ⟨by rw [upd_ne (Ne.symm nl.1)]; exact h.hl, by rw [upd_ne (Ne.symm nl.2)]; exact h.hcl, upd_same, ?_, ⟨by rw [List.length_append, List.length_singleton]; omega, fun x hx => ?_⟩, ⟨fun r hr => (h.raws.each r hr).mono (fun b xs e hb => ?_) ku, h.raws.nd, h.raws.apart⟩, h.ma, h.mc, h.mw, h.com, h.nw, fun s hs => ?_, fun b o n1 n2 hb => ?_⟩
  · rw [List.map_append]
    exact RDs.app (RDs.ku ku _ _ (nl_map wantD nl_want _) h.huv) (RDs.one (RD.tup_mk (by rw [upd_ne ntw]; exact ht) (RDs.cons RD.str_mk (RDs.cons RD.int_mk (RDs.one RD.int_mk)))))
  · rcases List.mem_append.mp hx with z | z
    · exact h.uok.2 x z
    · rw [List.mem_singleton.mp z]; exact hu
  · obtain ⟨w1, w2, w3, _⟩ := h.nw r hr
    rcases e with rfl | rfl | rfl
    · rw [upd_ne w1]; exact hb
    · rw [upd_ne w2]; exact hb
    · rw [upd_ne w3]; exact hb
  · obtain ⟨x, y, q⟩ := h.st s hs
    exact ⟨x, y, by rw [upd_ne (Ne.symm ((h.st s hs).ne h.hwl (noInt_want h.huv)))]; exact q⟩
  · rw [upd_ne (ne_of_none hb hw)]
    exact h.kp b o n1 n2 hb
theorem FillB.thing {l cl wl t : Addr} {sz : Int} {rs rs' : List Raw} {sts : List Addr} {us : List Wt} {uv cv : List V} {H Hx : Hp} {i : Nat} {r : Raw} {y : Int × Int} (h : FillB l cl wl sz rs rs' sts us uv H Hx) (hi : rs'[i]? = some r) (hc : Hx r.c = some (.lst cv)) (rc : RDs Hx (r.w.coming.map arrD) cv)
    (ht : Hx t = some (.tup [.int y.1, .int y.2])) (hl : r.w.coming.length < 12) (hy : (0 ≤ y.1 ∧ y.1 < sz) ∧ 0 ≤ y.2 ∧ y.2 < 10 ^ 32) :
    FillB l cl wl sz rs (rs'.set i { r with w := { r.w with coming := r.w.coming ++ [y] } }) sts us uv H (upd Hx r.c (.lst (cv ++ [.ref t]))) := by
  have hm := List.mem_of_getElem? hi
  have ku : KeepU Hx (upd Hx r.c (.lst (cv ++ [.ref t]))) := ku_set hc (fun _ z => by cases z)
  have ntc : t ≠ r.c := fun e => by rw [e, hc] at ht; cases ht
  obtain ⟨w1, w2, w3, w4, w5⟩ := h.nw r hm
  have hil : i < rs'.length := (List.getElem?_eq_some_iff.mp hi).1
  have hgi : rs'[i] = r := (List.getElem?_eq_some_iff.mp hi).2
  have setmem : ∀ r' ∈ rs'.set i { r with w := { r.w with coming := r.w.coming ++ [y] } }, r' = { r with w := { r.w with coming := r.w.coming ++ [y] } } ∨ (r' ∈ rs' ∧ r'.c ≠ r.c) := fun r' hr' => by
    obtain ⟨j, hj, e⟩ := List.mem_iff_getElem.mp hr'
    have hj' : j < rs'.length := by simpa using hj
    by_cases hij : i = j
    · subst hij
      rw [List.getElem_set_self] at e
      exact .inl e.symm
    · rw [List.getElem_set_ne hij] at e
      refine .inr ⟨e ▸ List.getElem_mem hj', fun ec => hij ?_⟩
      have e1 : (rs'.map (·.c))[i]? = (rs'.map (·.c))[j]? := by
        rw [List.getElem?_map, List.getElem?_map, hi, List.getElem?_eq_getElem hj', e]
        show some r.c = some r'.c
        rw [ec]
      exact (List.getElem?_inj (by rw [List.length_map]; exact hil) h.raws.nd).mp e1
  have mc : (rs'.set i { r with w := { r.w with coming := r.w.coming ++ [y] } }).map (·.c) = rs'.map (·.c) := map_set_same hi rfl
  refine ⟨by rw [upd_ne (Ne.symm w4)]; exact h.hl, by rw [upd_ne (Ne.symm w5)]; exact h.hcl, by rw [upd_ne (Ne.symm w2)]; exact h.hwl, RDs.ku ku _ _ (nl_map wantD nl_want _) h.huv, h.uok, ⟨fun r' hr' => ?_, by rw [mc]; exact h.raws.nd, fun r1 hr1 r2 hr2 => ?_⟩,
    (map_set_same (x := { r with w := { r.w with coming := r.w.coming ++ [y] } }) hi rfl).trans h.ma, mc.trans h.mc, ?_, fun r' hr' => ?_, fun r' hr' => ?_, fun s hs => ?_, fun b o n1 n2 hb => ?_⟩
  · rcases setmem r' hr' with e | ⟨m, nc⟩
    · subst e
      obtain ⟨h1, _, pv, h4, h5⟩ := h.raws.each r hm
      obtain ⟨a1, a2⟩ := h.raws.apart r hm r hm
      refine ⟨by rw [upd_ne (Ne.symm a1)]; exact h1, ⟨cv ++ [.ref t], upd_same, ?_⟩, pv, by rw [upd_ne (Ne.symm a2)]; exact h4, RDs.ku ku _ _ (nl_map partD nl_part _) h5⟩
      rw [List.map_append]
      exact RDs.app (RDs.ku ku _ _ (nl_map arrD nl_arr _) rc) (RDs.one (RD.tup_mk (by rw [upd_ne ntc]; exact ht) (RDs.cons RD.int_mk (RDs.one RD.int_mk))))
    · refine (h.raws.each r' m).mono (fun b xs e hb => ?_) ku
      obtain ⟨a1, a2⟩ := h.raws.apart r hm r' m
      rcases e with rfl | rfl | rfl
      · rw [upd_ne (Ne.symm a1)]; exact hb
      · rw [upd_ne nc]; exact hb
      · rw [upd_ne (Ne.symm a2)]; exact hb
  · have f : ∀ r1 ∈ rs'.set i { r with w := { r.w with coming := r.w.coming ++ [y] } }, ∃ r0 ∈ rs', r0.a = r1.a ∧ r0.c = r1.c ∧ r0.q = r1.q := fun r1 hr1 => by
      rcases setmem r1 hr1 with e | ⟨m, _⟩
      · subst e; exact ⟨r, hm, rfl, rfl, rfl⟩
      · exact ⟨r1, m, rfl, rfl, rfl⟩
    obtain ⟨r3, m3, e1, e2, e3⟩ := f r1 hr1
    obtain ⟨r4, m4, e4, e5, e6⟩ := f r2 hr2
    have := h.raws.apart r3 m3 r4 m4
    rw [e2, e4, e6] at this
    exact this
  · have e1 := map_set_same (f := K23.core ∘ (·.w)) hi (x := { r with w := { r.w with coming := r.w.coming ++ [y] } }) rfl
    have e2 := h.mw
    rw [List.map_map] at e2 ⊢
    exact e1.trans e2
  · rcases setmem r' hr' with e | ⟨m, _⟩
    · subst e
      obtain ⟨c1, c2⟩ := h.com r hm
      refine ⟨by show (r.w.coming ++ [y]).length ≤ 12; rw [List.length_append, List.length_singleton]; omega, fun p hp => ?_⟩
      rcases List.mem_append.mp hp with z | z
      · exact c2 p z
      · rw [List.mem_singleton.mp z]; exact hy
    · exact h.com r' m
  · rcases setmem r' hr' with e | ⟨m, _⟩
    · subst e; exact h.nw r hm
    · exact h.nw r' m
  · obtain ⟨x, z, q⟩ := h.st s hs
    exact ⟨x, z, by rw [upd_ne (Ne.symm ((h.st s hs).ne hc (noInt_arr rc)))]; exact q⟩
  · have nb : b ≠ r.c := fun e => n2 (by rw [← h.mc, e]; exact List.mem_map.mpr ⟨r, hm, rfl⟩)
    rw [upd_ne nb]
    exact h.kp b o n1 n2 hb
def FillInv (l cl wl : Addr) (sz : Int) (rs : List Raw) (sts : List Addr) (H : Hp) (i : Nat) (σ : St) (H' : Hp) : Prop := ∃ (rs' : List Raw) (us : List Wt) (uv : List V) (o4 o5 o6 o7 : Option V), σ = [some (.ref l), some (.ref cl), some (.int sz), some (.ref wl), o4, o5, o6, o7] ∧ FillB l cl wl sz rs rs' sts us uv H H'
def WareTup (rs : List Raw) (H : Hp) (i : Nat) (acc : List V) (H' : Hp) : Prop := acc.length = i ∧ RDs H' ((rs.take i).map fun r => r.w.d) acc ∧ Same H H'
def sp_law_filled : Sp := fun vs H Q _ => ∃ (l cl : Addr) (sz : Int) (rs : List Raw) (sts : List Addr), vs = [.ref l, .ref cl, .int sz] ∧ 1 ≤ sz ∧ sz ≤ 1000 ∧ H l = some (.lst ((rs.map (·.a)).map V.ref)) ∧ H cl = some (.lst (sts.map V.ref)) ∧ sts.length ≤ 100 ∧ RawsOk H rs ∧ (∀ r ∈ rs, r.w.coming = [] ∧ r.c ≠ l ∧ r.c ≠ cl) ∧
  1 ≤ rs.length ∧ rs.length ≤ 100 ∧ (∀ s ∈ sts, StOk2 H s) ∧ ∀ x (S : Sh) H', RD H' S.d x → S.wares.map core = (rs.map (·.w)).map core → (∀ w ∈ S.wares, ComOk sz w.coming) → WantsOk0 sz ((rs.map (·.w)).map (·.name)) S.wants → (∀ b o, b ∉ sts → b ∉ rs.map (·.c) → H b = some o → H' b = some o) → Q x H'
theorem sc_law_filled : FnScope ["_law_wares_here", "_law_cells", "_law_sized", "_law_wants", "_law_state", "_law_ware", "_law_kind", "_law_thing"] ["_law_wares_here", "_law_cells", "_law_sized"] (defScope s_law_filled) := ⟨rfl, rfl, rfl, by decide +kernel, rfl, by decide +kernel, by decide +kernel⟩
theorem ok_law_filled {f : Addr} {fd : FuncData} (F : Fun K "_law_filled" "_law_filled" s_law_filled f fd) (T : Txt mg) (h_law_next : Has P w K mg base "_law_next" 1 ["_law_state", "_law_many"] sp_law_next) (h_law_amount : Has P w K mg base "_law_amount" 2 ["_law_state"] sp_law_amount) : FnOk P w K mg base CX0 3 f fd ["_law_wares_here", "_law_cells", "_law_sized"] sp_law_filled := by
  refine F.ok sc_law_filled (fun vs H Q E h => ?_) (fun cdv A outer s H vs Q E hr h => ?_)
  · obtain ⟨l, cl, sz, rs, sts, rfl, _⟩ := h
    rfl
  · obtain ⟨l, cl, sz, rs, sts, rfl, z1, z2, hl, hcl, hsl, raws, hr0, hr1, hr2, hst, k⟩ := h
    have hu := hu_of hr
    refine ⟨_, (pss_cons (ps_set (i := 3) sc_law_filled.nd rfl (Or.inl rfl) (pe_lst pa_nil))
 (pss_cons (ps_for PassesOwn.never rfl (pi_lst (pv 1)) (pg_name (i := 4) sc_law_filled.nd rfl (Or.inl rfl))
 (pss_cons (ps_set (i := 5) sc_law_filled.nd rfl (Or.inl rfl) (pe_item hu (pv 0) (pe_callS h_law_next (hr.mono (by decide)) rfl (pa_e (pv 4) (pa_e (pe_callBS call_len_q rfl T.n_len bt_len (pa_e (pv 0) pa_nil)) pa_nil))) (fun _ _ => rfl)))
 (pss_cons (ps_set (i := 6) sc_law_filled.nd rfl (Or.inl rfl) (pe_callS h_law_next (hr.mono (by decide)) rfl (pa_e (pv 4) (pa_e pe_int pa_nil))))
 (pss_cons (ps_set (i := 7) sc_law_filled.nd rfl (Or.inl rfl) (pe_tup (pa_e (pe_callS h_law_next (hr.mono (by decide)) rfl (pa_e (pv 4) (pa_e (pv 2) pa_nil))) (pa_e (pe_callS h_law_amount (hr.mono (by decide)) rfl (pa_e (pv 4) pa_nil)) pa_nil))))
 (pss_one (ps_if (PW.pt (pw_and (pt_cmpR (op_ltA hu) (pv 6) pe_int (nomark _)) (pw_and1 (pt_cmpR (op_ltA hu) (pe_callBS call_len_q rfl T.n_len bt_len (pa_e (pv 3) pa_nil)) pe_int (nomark _))))) (pss_one (ps_expr (pe_bs PySem.F.plainAttrs_list PySem.F.slot_list_append PySem.F.type_list_append mt_append (pv 3) (pa_e (pe_tup (pa_e (pe_item hu (pv 5) pe_int (fun _ _ => rfl)) (pa_e (pe_item hu (pv 7) pe_int (fun _ _ => rfl)) (pa_e (pe_item hu (pv 7) pe_int (fun _ _ => rfl)) pa_nil)))) pa_nil)))) (pss_one (ps_if (pt_cmpR (op_ltA hu) (pe_callBS call_len_q rfl T.n_len bt_len (pa_e (pe_item hu (pv 5) pe_int (fun _ _ => rfl)) pa_nil)) pe_int (nomark _)) (pss_one (ps_expr (pe_bs PySem.F.plainAttrs_list PySem.F.slot_list_append PySem.F.type_list_append mt_append (pe_item hu (pv 5) pe_int (fun _ _ => rfl)) (pa_e (pv 7) pa_nil)))) pss_nil))))))))
 (pss_one (ps_ret (pe_tup (pa_e (pe_callTS call_tupleA rfl T.n_tuple bt_tuple (pa_e (pe_comp (own := ["_law_ware"]) (cap := []) rfl (cp_ok rfl) (gown_name (by decide)) (pi_lst (pv 0))
 (fun _ _ _ _ _ _ => ⟨(pg_name (i := 0) (of_decide_eq_true rfl) rfl (Or.inl rfl) (.inr rfl)), pts_nil, (pe_op op_catTT (pe_callTS call_tupleA rfl T.n_tuple bt_tuple (pa_e (pe_slice sl_lstA (pv 0) po_none (po_some pe_int)) pa_nil)) (pe_tup (pa_e (pe_callTS call_tupleA rfl T.n_tuple bt_tuple (pa_e (pe_item hu (pv 0) pe_int (fun _ _ => rfl)) pa_nil)) (pa_e (pe_callTS call_tupleA rfl T.n_tuple bt_tuple (pa_e (pe_item hu (pv 0) pe_int (fun _ _ => rfl)) pa_nil)) pa_nil))))⟩)) pa_nil)) (pa_e (pe_callTS call_tupleA rfl T.n_tuple bt_tuple (pa_e (pv 3) pa_nil)) pa_nil))))))), ?_⟩
    refine cut2 (fun σ' H' => ∃ wl : Addr, FillInv l cl wl sz rs sts H sts.length σ' H') ?_ (fun KK hK => ?_)
    · rintro σ' H1 ⟨wl, rs', us, uv, o4, o5, o6, o7, rfl, B⟩
      have hlr : rs'.length = rs.length := by have := congrArg List.length B.ma; rw [List.length_map, List.length_map] at this; exact this
      have hl1 : H1 l = some (.lst ((rs'.map (·.a)).map V.ref)) := by rw [B.ma]; exact B.hl
      walk_at "rd"
      refine ⟨_, hl1, ?_⟩
      refine comp_w (goesL l _) (line1000 (by rw [List.length_map, List.length_map]; omega)) (WareTup rs' H1) ⟨rfl, RDs.nil, Same.refl _⟩ (fun i acc H' _ h => h.2.2 _ _ hl1) (fun i acc H' h => Nat.le_of_eq h.1) (fun i x acc H2 hi hx h => ?_) (fun acc H2 h p hp => ?_)
      · obtain ⟨h1, h2, sm⟩ := h
        rw [List.getElem?_map, List.getElem?_map] at hx
        cases er : rs'[i]? with
        | none => rw [er] at hx; cases hx
        | some r =>
        rw [er] at hx
        cases hx
        obtain ⟨ra, ⟨cv, rc, rcv⟩, pv, rq, rpv⟩ := (B.raws.same sm).each r (List.mem_of_getElem? er)
        walk_at "rd"
        refine ⟨_, ra, fun p1 hp1 => ?_⟩
        have e5 : cutV [V.str r.w.name, V.int r.w.lag, V.int r.w.gives, V.int r.w.floor, V.int r.w.stock, V.ref r.c, V.ref r.q] none (some 5) = [V.str r.w.name, V.int r.w.lag, V.int r.w.gives, V.int r.w.floor, V.int r.w.stock] := by rw [cutV_to (by decide)]; rfl
        rw [e5]
        have t1 := same_upd (o := .lst [V.str r.w.name, V.int r.w.lag, V.int r.w.gives, V.int r.w.floor, V.int r.w.stock]) hp1
        refine ⟨_, .inl ⟨upd_same, fun q1 hq1 => ?_⟩⟩
        have t2 := t1.trans (same_upd (o := .tup [V.str r.w.name, V.int r.w.lag, V.int r.w.gives, V.int r.w.floor, V.int r.w.stock]) hq1)
        refine ⟨.ref r.c, item_l (j := 5) (t2 _ _ ra) rfl, r.c, rfl, cv, .inl ⟨t2 _ _ rc, fun q2 hq2 => ?_⟩⟩
        have t3 := t2.trans (same_upd (o := .tup cv) hq2)
        refine ⟨.ref r.q, item_l (j := 6) (t3 _ _ ra) rfl, r.q, rfl, pv, .inl ⟨t3 _ _ rq, fun q3 hq3 => ?_⟩⟩
        have t4 := t3.trans (same_upd (o := .tup pv) hq3)
        refine ⟨by decide, fun q4 hq4 => ?_⟩
        have t5 := t4.trans (same_upd (o := .tup [V.ref q2, V.ref q3]) hq4)
        have g1 := (same_upd (o := .tup cv) hq2).trans ((same_upd (o := .tup pv) hq3).trans (same_upd (o := .tup [V.ref q2, V.ref q3]) hq4))
        have g2 := (same_upd (o := .tup pv) hq3).trans (same_upd (o := .tup [V.ref q2, V.ref q3]) hq4)
        refine ⟨_, g1 q1 _ upd_same, _, upd_same, (show 5 + 2 ≤ sizeLine by decide), fun p H3 hp3 sm3 _ => ?_⟩
        refine ⟨by simp [h1], ?_, sm.trans (t5.trans sm3)⟩
        rw [List.take_add_one, er, List.map_append]
        refine RDs.app (RDs.same (t5.trans sm3) _ _ h2) (RDs.one ?_)
        show RD H3 r.w.d (.ref p)
        unfold Wr.d
        refine RD.tup_mk hp3 ?_
        refine RDs.cons RD.str_mk (RDs.cons RD.int_mk (RDs.cons RD.int_mk (RDs.cons RD.int_mk (RDs.cons RD.int_mk (RDs.cons ?_ (RDs.one ?_))))))
        · exact RD.tup_mk (sm3 _ _ (g2 q2 _ upd_same)) (RDs.same (t5.trans sm3) _ _ rcv)
        · exact RD.tup_mk (sm3 _ _ (same_upd hq4 q3 _ upd_same)) (RDs.same (t5.trans sm3) _ _ rpv)
      · obtain ⟨h1, h2, sm⟩ := h
        rw [List.length_map, List.length_map, List.take_length] at h2
        have u1 := same_upd (o := .lst acc) hp
        refine ⟨p, rfl, acc, .inl ⟨upd_same, fun q1 hq1 => ?_⟩⟩
        have u2 := u1.trans (same_upd (o := .tup acc) hq1)
        refine ⟨uv, .inl ⟨u2 _ _ (sm _ _ B.hwl), fun q2 hq2 => ⟨by decide, fun q3 hq3 => ?_⟩⟩⟩
        have v1 := (same_upd (o := .tup uv) hq2).trans (same_upd (o := .tup [V.ref q1, V.ref q2]) hq3)
        have u4 := u2.trans v1
        refine k _ ⟨rs'.map (·.w), us⟩ _ ?_ B.mw (fun w hw => ?_) B.uok (fun b o n1 n2 hb => u4 _ _ (sm _ _ (B.kp b o n1 n2 hb)))
        · unfold Sh.d
          refine RD.tup_mk upd_same (RDs.cons (RD.tup_mk (v1 q1 _ upd_same) ?_) (RDs.one (RD.tup_mk (same_upd hq3 q2 _ upd_same) (RDs.same (sm.trans u4) _ _ B.huv))))
          rw [List.map_map]
          exact RDs.same u4 _ _ h2
        · obtain ⟨r, hr, rfl⟩ := List.mem_map.mp hw
          exact B.com r hr
    · walk_at "rd"
      refine ⟨Nat.zero_le _, fun wl hwl => ⟨_, by rw [upd_ne (ne_of_none hcl hwl)]; exact hcl, ?_⟩⟩
      have sm0 := same_upd (o := .lst []) hwl
      refine for_w (goesL cl _) (FillInv l cl wl sz rs sts H) ⟨rs, [], [], _, _, _, _, rfl, ⟨sm0 _ _ hl, sm0 _ _ hcl, upd_same, RDs.nil, ⟨Nat.zero_le _, fun _ h => nomatch h⟩, raws.same sm0, rfl, rfl, rfl, fun r hr => by rw [(hr0 r hr).1]; exact ⟨Nat.zero_le _, fun _ h => nomatch h⟩, fun r hr => ⟨(raws.each r hr).fresh hwl (.inl rfl), (raws.each r hr).fresh hwl (.inr (.inl rfl)), (raws.each r hr).fresh hwl (.inr (.inr rfl)), (hr0 r hr).2.1, (hr0 r hr).2.2⟩, fun s hs => (hst s hs).same sm0, fun b o _ _ hb => sm0 b o hb⟩⟩ (fun i σ H' _ h => ?_) (fun i x σ H2 hi hx h => ?_) (fun σ H2 h => ?_)
      · obtain ⟨_, _, _, _, _, _, _, _, B⟩ := h; exact B.hcl
      · obtain ⟨rs', us, uv, o4, o5, o6, o7, rfl, B⟩ := h
        rw [List.getElem?_map] at hx
        cases es : sts[i]? with
        | none => rw [es] at hx; cases hx
        | some st =>
        rw [es] at hx
        cases hx
        have hm := List.mem_of_getElem? es
        have hlr : rs'.length = rs.length := by have := congrArg List.length B.ma; rw [List.length_map, List.length_map] at this; exact this
        have nwl : wl ≠ l ∧ wl ≠ cl := ⟨Ne.symm (ne_of_none hl hwl), Ne.symm (ne_of_none hcl hwl)⟩
        walk_at "rd"
        refine ⟨_, .inl B.hl, st, _, rfl, B.st st hm, ?_, ?_, fun d H3 d0 d1 s3 b3 => ?_⟩
        · rw [List.length_map, List.length_map]; omega
        · rw [List.length_map, List.length_map]
          exact Int.lt_of_le_of_lt (b := 100) (by omega) (by decide +kernel)
        rw [List.length_map, List.length_map] at d1
        have B3 := B.nx hm s3 b3
        have hd : d.toNat < rs'.length := by omega
        obtain ⟨r, hri⟩ : ∃ r, rs'[d.toNat]? = some r := ⟨_, List.getElem?_eq_getElem hd⟩
        have hrm := List.mem_of_getElem? hri
        refine ⟨.ref r.a, item_i (.inl B3.hl) d0 ?_, st, 3, rfl, s3, by decide, by decide +kernel, fun kd H4 k0 k1 s4 b4 => ?_⟩
        · rw [← B.ma, List.getElem?_map, List.getElem?_map, hri]
          rfl
        have B4 := B3.nx hm s4 b4
        refine ⟨st, sz, rfl, s4, by omega, Int.lt_of_le_of_lt z2 (by decide +kernel), fun dy H5 y0 y1 s5 b5 => ?_⟩
        have B5 := B4.nx hm s5 b5
        refine ⟨st, rfl, s5, fun am H6 a0 a1 s6 b6 => ⟨by decide, fun p hp => ?_⟩⟩
        have B6 := B5.nx hm s6 b6
        have B7 := B6.same (same_upd (o := .tup [.int dy, .int am]) hp)
        have ht : upd H6 p (.tup [.int dy, .int am]) p = some (.tup [.int dy, .int am]) := upd_same
        generalize upd H6 p (.tup [.int dy, .int am]) = H7 at B7 ht
        obtain ⟨ra, ⟨cv, rc, rcv⟩, rq⟩ := B7.raws.each r hrm
        have lcv : cv.length = r.w.coming.length := rds_len rcv
        have hcom := B7.com r hrm
        have things : ∃ v_1, Item H7 (V.ref r.a) (V.int 5) v_1 ∧ ∃ p_1, v_1 = V.ref p_1 ∧ ∃ x_4, (H7 p_1 = some (HO.lst x_4) ∨ H7 p_1 = some (HO.tup x_4)) ∧ if decide ((x_4.length : Int) < 12) = true then
            ∃ v_2, Item H7 (V.ref r.a) (V.int 5) v_2 ∧ tyOf H7 v_2 = some "list" ∧ ∃ l_1, v_2 = V.ref l_1 ∧ ∃ x_5, H7 l_1 = some (HO.lst x_5) ∧ x_5.length < sizeLine ∧
              FillInv l cl wl sz rs sts H (i + 1) [some (V.ref l), some (V.ref cl), some (V.int sz), some (V.ref wl), some (V.ref st), some (V.ref r.a), some (V.int kd), some (V.ref p)] (upd H7 l_1 (HO.lst (x_5 ++ [V.ref p])))
            else FillInv l cl wl sz rs sts H (i + 1) [some (V.ref l), some (V.ref cl), some (V.int sz), some (V.ref wl), some (V.ref st), some (V.ref r.a), some (V.int kd), some (V.ref p)] H7 := by
          refine ⟨.ref r.c, item_l (j := 5) ra rfl, r.c, rfl, cv, .inl rc, ite2 (fun hz => ?_) (fun hz => ⟨rs', us, uv, _, _, _, _, rfl, B7⟩)⟩
          have hz := of_decide_eq_true hz
          exact ⟨.ref r.c, item_l (j := 5) ra rfl, ty_lst rc, r.c, rfl, cv, rc, Nat.lt_of_le_of_lt (m := 12) (by omega) (by decide), _, us, uv, _, _, _, _, rfl, B7.thing (y := (dy, am)) hri rc rcv ht (by omega) ⟨⟨y0, y1⟩, a0, a1⟩⟩
        refine ⟨kd, rfl, ite2 (fun _ => ?_) (fun _ => things)⟩
        refine ⟨uv, .inl B7.hwl, ite2 (fun hz => ?_) (fun _ => things)⟩
        have hz := of_decide_eq_true hz
        have luv : uv.length = us.length := rds_len B7.huv
        refine ⟨ty_lst B7.hwl, .str r.w.name, item_l (j := 0) ra rfl, .int dy, item_t (j := 0) ht rfl, .int am, item_t (j := 1) ht rfl, by decide, fun t ht' => ?_⟩
        have B8 := B7.same (same_upd (o := .tup [.str r.w.name, .int dy, .int am]) ht')
        refine ⟨uv, B8.hwl, Nat.lt_of_le_of_lt (m := 20) (by omega) (by decide), rs', us ++ [(r.w.name, dy, am)], _, _, _, _, _, rfl, B8.want (u := (r.w.name, dy, am)) hwl upd_same (by omega) ⟨?_, ⟨y0, y1⟩, a0, a1⟩ nwl⟩
        have en : (rs'.map (·.w)).map (·.name) = (rs.map (·.w)).map (·.name) := by
          have := congrArg (List.map (·.name)) B.mw
          rw [List.map_map (g := fun x => Wr.name x), List.map_map (g := fun x => Wr.name x)] at this
          exact this
        rw [← en]
        exact List.mem_map.mpr ⟨r.w, List.mem_map.mpr ⟨r, hrm, rfl⟩, rfl⟩
      · rw [List.length_map] at h
        exact hK _ _ ⟨wl, h⟩
theorem cut5 {t t2 t3 t4 t5 u : TS} {D : Ends} {σ : St} {H : Hp} (M : St → Hp → Prop) (hrest : ∀ σ' H', M σ' H' → u D σ' H')
    (h : ∀ KK : St → Hp → Prop, (∀ σ' H', M σ' H' → KK σ' H') → tSeq t (tSeq t2 (tSeq t3 (tSeq t4 t5))) { D with nx := KK } σ H) : tSeq t (tSeq t2 (tSeq t3 (tSeq t4 (tSeq t5 u)))) D σ H := h (u D) hrest
theorem same_but2 {H Hx H' : Hp} {st : Addr} (s : Same H Hx) (b : But st Hx H') (h : H st = none) : Same H H' := fun x o hx => b x o (ne_of_none hx h) (s x o hx)
structure Good (sz : Int) (S : Sh) : Prop where
  ws : WsOk S.wares
  len : 1 ≤ S.wares.length ∧ S.wares.length ≤ 12
  com : ∀ w ∈ S.wares, ComOk sz w.coming
  wants : WantsOk sz (S.wares.map (·.name)) S.wants
theorem Good.ok {sz : Int} {S : Sh} (g : Good sz S) : ShOk S := ⟨g.ws.nd, by have := g.len.2; omega, fun w hw => ⟨Nat.le_trans (g.ws.wb w hw).parts (by decide), Nat.le_trans (g.com w hw).1 (by decide)⟩⟩
theorem Good.no {sz : Int} {S : Sh} (g : Good sz S) : NoRing S := ws_noRing g.ws
theorem Good.txt {sz : Int} {S : Sh} (g : Good sz S) : ∀ x ∈ S.wares.map (·.name), PyData.strOk x = true := fun x hx => by
  obtain ⟨w, hw, rfl⟩ := List.mem_map.mp hx
  exact g.ws.txt w hw
end
set_option maxRecDepth 100000
set_option maxHeartbeats 4000000
section
variable {P : Program} {w : World} {K : PySem.W.Frag} {mg : Str → Option Value} {base : Heap} {Pt : Addr}
def CellInv (H H1 : Hp) (i : Nat) (acc : List V) (H' : Hp) : Prop := ∃ sts : List Addr, acc = sts.map V.ref ∧ sts.length = i ∧ (∀ s ∈ sts, StOk2 H' s ∧ H s = none ∧ H1 s = none) ∧ Same H1 H'
theorem cells_fill {H H5 : Hp} {a l : Addr} {ns : List Int} {n : Nat} {sz : Int} {rs : List Raw} {σ : St} {Q : V → VK} (hσ : cpSt [Str.ofString "_law_k"] [0] σ = [none, some (.ref a)]) (hS : SqL K H a (ns.map V.int)) (hlen : ns.length ≤ 63) (hn : n ≤ 63) (z0 : 1 ≤ sz) (z1 : sz ≤ 1000) (hl : H5 l = some (.lst ((rs.map (·.a)).map V.ref))) (hrs : 1 ≤ rs.length ∧ rs.length ≤ 12) (raws : RawsOk H5 rs) (ws : WsOk (rs.map (·.w))) (each : ∀ r ∈ rs, r.w.coming = [] ∧ r.c ≠ l ∧ H r.c = none) (sm5 : Same H H5) (k : ∀ c x (S : Sh) H', RD H' S.d x → Good sz S → S.wants.length ≤ 20 → Same H H' → Q c x H') :
    CompW (Itr 2 n) [Str.ofString "_law_k"] [0] (gName 0) tYes (tCall (sp_law_drawn K) [] E0 (tCons (tVar 1) (tCons (tVar 0) (tCons (tC (V.int 9)) tNil)))) σ H5 fun x H1 => sp_law_filled [V.ref l, x, V.int sz] H1 (Q x) E0 := by
  refine comp_w (goesR 2 _) (line1000 (by omega)) (CellInv H H5) ⟨[], rfl, rfl, (fun _ h => nomatch h), Same.refl _⟩ (fun _ _ _ _ _ => trivial) (fun j acc H' h => by obtain ⟨sts, rfl, e, _⟩ := h; rw [List.length_map]; exact Nat.le_of_eq e) (fun j x acc H6 hj hx h => ?_) (fun acc H6 h q hq => ?_)
  · obtain ⟨sts, rfl, h2, h3, h4⟩ := h
    subst hx
    rw [hσ]
    walk_at "rd"
    refine ⟨a, ns, _, 9, rfl, (sm5.trans h4).seq hS, hlen, by omega, fun s' H7 fs' s7 sm7 => ?_⟩
    refine ⟨sts ++ [s'], by rw [List.map_append]; rfl, by simp [h2], fun z hz => ?_, h4.trans sm7⟩
    rcases List.mem_append.mp hz with w | w
    · exact ⟨(h3 z w).1.same sm7, (h3 z w).2⟩
    · rw [List.mem_singleton.mp w]; exact ⟨s7, Same.free (sm5.trans h4) fs', Same.free h4 fs'⟩
  · obtain ⟨sts, rfl, h2, h3, h4⟩ := h
    have u5 := same_upd (o := .lst (sts.map V.ref)) hq
    have sm6 := h4.trans u5
    refine ⟨l, q, sz, rs, sts, rfl, z0, z1, sm6 _ _ hl, upd_same, by omega, raws.same sm6, fun r hr => ?_, hrs.1, by omega, fun s hs => (h3 s hs).1.same u5, fun x S H7 rx ec com wok kp => ?_⟩
    · obtain ⟨e1, e2, e3⟩ := each r hr
      obtain ⟨_, ⟨cv, hc, _⟩, _⟩ := raws.each r hr
      exact ⟨e1, e2, ne_of_none (h4 _ _ hc) hq⟩
    · have en : S.wares.map (·.name) = (rs.map (·.w)).map (·.name) := by
        have := congrArg (List.map (fun x => Wr.name x)) ec
        rw [List.map_map (g := fun x => Wr.name x), List.map_map (g := fun x => Wr.name x)] at this
        exact this
      have el : S.wares.length = rs.length := by
        have := congrArg List.length en
        rw [List.length_map, List.length_map, List.length_map] at this
        exact this
      refine k _ x S H7 rx ⟨ws.core ec, by omega, com, ⟨Nat.le_succ_of_le wok.1, fun u hu => ?_⟩⟩ wok.1 (fun b o hb => ?_)
      · obtain ⟨q0, q1⟩ := wok.2 u hu
        exact ⟨by rw [en]; exact q0, q1.1, q1.2.1, Int.lt_trans q1.2.2 (by decide +kernel)⟩
      · refine kp b o (fun w => ?_) (fun w => ?_) ((sm5.trans sm6) b o hb)
        · have := (h3 b w).2.1
          rw [hb] at this
          cases this
        · obtain ⟨r, hr, e⟩ := List.mem_map.mp w
          have := (each r hr).2.2
          rw [show r.c = b from e, hb] at this
          cases this
end
set_option maxRecDepth 100000
set_option maxHeartbeats 4000000
section
variable {P : Program} {w : World} {K : PySem.W.Frag} {mg : Str → Option Value} {base : Heap} {Pt : Addr}
def PlanAt (H : Hp) (a : Addr) (S : Sh) (plan : Str → List Int) : Prop := ∃ kvs, Rd H a (.dK kvs) ∧ ∀ nm ∈ S.wares.map (·.name), ∃ l : Addr, valV kvs (.inr nm) = some (.ref l) ∧ H l = some (.lst ((plan nm).map V.int)) ∧ (plan nm).length = daysN S ∧ ∀ x ∈ plan nm, 0 ≤ x ∧ x < 10 ^ 2000
def PlanFor (H : Hp) (a : Addr) (S : Sh) (plan : Str → List Int) (P : Str → Prop) : Prop := ∃ kvs, Rd H a (.dK kvs) ∧ ∀ nm ∈ S.wares.map (·.name), P nm → ∃ l : Addr, valV kvs (.inr nm) = some (.ref l) ∧ H l = some (.lst ((plan nm).map V.int)) ∧ (plan nm).length = daysN S ∧ ∀ x ∈ plan nm, 0 ≤ x ∧ x < 10 ^ 2000
def Takes (S : Sh) (x nm : Str) : Prop := ∃ t ∈ S.wares, t.name = nm ∧ ∃ p ∈ t.parts, p.1 = x
theorem _root_.L2.Rd.same {H H' : Hp} {a : Addr} {u : HO} (h : Rd H a u) (s : Same H H') : Rd H' a u := h.elim (fun e => .inl (s _ _ e)) (fun ⟨o, e⟩ => .inr ⟨o, s _ _ e⟩)
theorem PlanAt.same {H H' : Hp} {a : Addr} {S : Sh} {plan : Str → List Int} (h : PlanAt H a S plan) (s : Same H H') : PlanAt H' a S plan := by
  obtain ⟨kvs, h1, h2⟩ := h
  exact ⟨kvs, h1.same s, fun nm hn => let ⟨l, e1, e2, e3⟩ := h2 nm hn; ⟨l, e1, s _ _ e2, e3⟩⟩
theorem PlanFor.same {H H' : Hp} {a : Addr} {S : Sh} {plan : Str → List Int} {P : Str → Prop} (h : PlanFor H a S plan P) (s : Same H H') : PlanFor H' a S plan P := by
  obtain ⟨kvs, h1, h2⟩ := h
  exact ⟨kvs, h1.same s, fun nm hn hP => let ⟨l, e1, e2, e3⟩ := h2 nm hn hP; ⟨l, e1, s _ _ e2, e3⟩⟩
theorem Good.days {sz : Int} {S : Sh} (g : Good sz S) (hz : 0 < sz) (hz2 : sz ≤ 1000) : 1 ≤ daysN S ∧ daysN S ≤ 1000 ∧ ((daysN S : Nat) : Int) = 1 + max0 (S.wants.map fun u => u.2.1) ∧ ∀ u ∈ S.wants, u.2.1.toNat < daysN S := by
  have h0 : 0 ≤ max0 (S.wants.map fun u => u.2.1) := max0_nn fun x hx => by
    obtain ⟨u, hu, rfl⟩ := List.mem_map.mp hx
    exact (g.wants.2 u hu).2.1.1
  have h1 : max0 (S.wants.map fun u => u.2.1) < sz := max0_lt hz fun x hx => by
    obtain ⟨u, hu, rfl⟩ := List.mem_map.mp hx
    exact (g.wants.2 u hu).2.1.2
  unfold daysN
  refine ⟨by omega, by omega, by omega, fun u hu => ?_⟩
  have h2 : u.2.1 ≤ max0 (S.wants.map fun u => u.2.1) := max0_ge (List.mem_map.mpr ⟨u, hu, rfl⟩)
  have h3 := (g.wants.2 u hu).2.1.1
  omega
def sp_count_days : Sp := fun vs H Q _ => ∃ (v : V) (S : Sh), vs = [v] ∧ RD H S.d v ∧ S.wants.length ≤ 1000 ∧ ∀ H', Same H H' → Q (.int (1 + max0 (S.wants.map fun u => u.2.1))) H'
theorem sc_count_days : FnScope ["shop"] ["shop"] (defScope s_count_days) := ⟨rfl, rfl, rfl, by decide +kernel, rfl, by decide +kernel, by decide +kernel⟩
theorem ok_count_days {f : Addr} {fd : FuncData} (F : Fun K "count_days" "count_days" s_count_days f fd) (T : Txt mg) : FnOk P w K mg base CX0 1 f fd ["shop"] sp_count_days := by
  refine F.ok sc_count_days (fun vs H Q E h => ?_) (fun cdv A outer s H vs Q E hr h => ?_)
  · obtain ⟨v, S, rfl, _⟩ := h
    rfl
  · obtain ⟨v, S, rfl, rs, hw, k⟩ := h
    have hu := hu_of hr
    refine ⟨_, (pss_one (ps_ret (pe_op op_add pe_int (pe_maxd rfl rfl T.n_max (pe_comp (own := ["want"]) (cap := []) rfl (cp_ok rfl) (gown_name (by decide)) (pi_tpl (pe_item hu (pv 0) pe_int (fun _ _ => rfl)))
 (fun _ _ _ _ _ _ => ⟨(pg_name (i := 0) (of_decide_eq_true rfl) rfl (Or.inl rfl) (.inr rfl)), pts_nil, (pe_item hu (pv 0) (pe_globI rfl T.g_WANT_DAY) (fun _ _ => rfl))⟩)))))), ?_⟩
    obtain ⟨a, b, c, ws, us, rfl, ha, hb, hc, rws, rus⟩ := shop_at rs
    have hl := rds_len rus
    walk_at "rd"
    refine ⟨_, item_t (j := 1) ha rfl, c, rfl, us, hc, ?_⟩
    refine comp_map (goesT c _) (line1000 (by omega)) (fun H' s' => s' _ _ hc) ((S.wants.map fun u => u.2.1).map V.int) (by rw [List.length_map, List.length_map, hl]) (fun i x H' hi hx s' N M hN => ?_) (fun H' s' p hp => ?_)
    · obtain ⟨y, hy, ry⟩ := rds_map rus hx
      obtain ⟨e, rfl, he⟩ := want_at ry
      walk_at "rd"
      exact ⟨_, item_t (j := 1) (s' _ _ he) rfl, hN _ _ s' (by rw [List.getElem?_map, List.getElem?_map, hy]; rfl)⟩
    · exact ⟨p, rfl, _, upd_same, k _ (s'.trans (same_upd hp))⟩
def sp_begun_row : Sp := fun vs H Q _ => ∃ (a : Addr) (v : V) (S : Sh) (plan : Str → List Int) (w : Wr) (P : Str → Prop), vs = [.ref a, v] ∧ PlanFor H a S plan P ∧ P w.name ∧ daysN S ≤ 1000 ∧ RD H w.d v ∧ w ∈ S.wares ∧ 0 ≤ w.lag ∧ w.lag ≤ 1000 ∧ ∀ p H', H p = none → H' p = some (.lst ((begunRow (plan w.name) w.lag).map V.int)) → Same H H' → Q (.ref p) H'
theorem sc_begun_row : FnScope ["plan", "ware", "lots"] ["plan", "ware"] (defScope s_begun_row) := ⟨rfl, rfl, rfl, by decide +kernel, rfl, by decide +kernel, by decide +kernel⟩
theorem ok_begun_row {f : Addr} {fd : FuncData} (F : Fun K "begun_row" "begun_row" s_begun_row f fd) (T : Txt mg) : FnOk P w K mg base CX0 1 f fd ["plan", "ware"] sp_begun_row := by
  refine F.ok sc_begun_row (fun vs H Q E h => ?_) (fun cdv A outer s H vs Q E hr h => ?_)
  · obtain ⟨a, v, S, plan, w, P, rfl, _⟩ := h
    rfl
  · obtain ⟨a, v, S, plan, w, P', rfl, ⟨kvs, hk, hpl⟩, hP, hd, rw', hm, l0, l1, k⟩ := h
    have hu := hu_of hr
    refine ⟨_, (pss_cons (ps_set (i := 2) sc_begun_row.nd rfl (Or.inl rfl) (pe_item hu (pv 0) (pe_item hu (pv 1) (pe_globI rfl T.g_NAME) (fun _ _ => rfl)) (fun _ _ => rfl)))
 (pss_one (ps_ret (pe_op op_cat (pe_slice sl_lstA (pv 2) (po_some (pe_item hu (pv 1) (pe_globI rfl T.g_LAG) (fun _ _ => rfl))) po_none) (pe_op op_rep (pe_lst (pa_e pe_int pa_nil)) (pe_callBS (call_minA rfl) rfl T.n_min bt_min (pa_e (pe_item hu (pv 1) (pe_globI rfl T.g_LAG) (fun _ _ => rfl)) (pa_e (pe_callBS call_len_q rfl T.n_len bt_len (pa_e (pv 2) pa_nil)) pa_nil)))))))), ?_⟩
    obtain ⟨e, c1, c2, rfl, he, _⟩ := ware_at rw'
    obtain ⟨l, hv, hl, hlen, _⟩ := hpl w.name (List.mem_map.mpr ⟨w, hm, rfl⟩) hP
    walk_at "rd"
    refine ⟨_, item_t (j := 0) he rfl, .ref l, item_d hk hv, _, item_t (j := 1) he rfl, ?_⟩
    refine ⟨w.lag, rfl, l, rfl, _, hl, fun p1 hp1 => ⟨by decide, fun p2 hp2 => ?_⟩⟩
    have u1 := same_upd (o := .lst (cutV ((plan w.name).map V.int) (some w.lag) none)) hp1
    have u2 := u1.trans (same_upd (o := .lst [V.int 0]) hp2)
    refine ⟨_, item_t (j := 1) (u2 _ _ he) rfl, l, rfl, _, .inl (u2 _ _ hl), w.lag, rfl, [V.int 0], upd_same, ?_, ?_, ?_, fun p3 hp3 => ?_⟩
    · split <;> omega
    · rw [List.length_map]; split <;> omega
    · refine line1000 ?_
      rw [List.length_map, List.length_singleton]
      split <;> omega
    · have emin : (if (((plan w.name).map V.int).length : Int) < w.lag then (((plan w.name).map V.int).length : Int) else w.lag).toNat = min w.lag.toNat (plan w.name).length := by
        rw [List.length_map]
        split <;> omega
      rw [emin, rep_zero, cutV_from l0]
      have u3 := u2.trans (same_upd (o := .lst ((rowOf (min w.lag.toNat (plan w.name).length) fun _ => 0).map V.int)) hp3)
      rw [cutV_from l0] at u3
      have n12 : p1 ≠ p2 := ne_of_none upd_same hp2
      refine ⟨((plan w.name).map V.int).drop w.lag.toNat, ?_, _, upd_same, ?_, fun p4 hp4 => ?_⟩
      · rw [upd_ne (fun e => by rw [← e, upd_ne n12, upd_same] at hp3; cases hp3), upd_ne n12, upd_same]
      · refine line1000 ?_
        rw [List.length_drop, List.length_map, List.length_map, rowOf_len]
        omega
      · refine k p4 _ (Same.free u3 hp4) ?_ (u3.trans (same_upd hp4))
        rw [upd_same, ← List.map_drop, ← List.map_append, begun_eq]
def sp_wants_row : Sp := fun vs H Q _ => ∃ (v x : V) (S : Sh) (w : Wr) (sz : Int), vs = [v, x] ∧ RD H S.d v ∧ RD H w.d x ∧ Good sz S ∧ 0 < sz ∧ sz ≤ 1000 ∧ ∀ p H', H p = none → H' p = some (.lst ((rowOf (daysN S) fun d => sumF (wAt w.name d) S.wants).map V.int)) → Same H H' → Q (.ref p) H'
def WantRInv (v x : V) (p : Addr) (S : Sh) (nm : Str) (H : Hp) (i : Nat) (σ : St) (H' : Hp) : Prop := ∃ o : Option V, σ = [some v, some x, some (.ref p), o] ∧ H' p = some (.lst ((rowOf (daysN S) fun d => sumF (wAt nm d) (S.wants.take i)).map V.int)) ∧ Same H H'
theorem sc_wants_row : FnScope ["shop", "ware", "told", "want"] ["shop", "ware"] (defScope s_wants_row) := ⟨rfl, rfl, rfl, by decide +kernel, rfl, by decide +kernel, by decide +kernel⟩
theorem ok_wants_row {f : Addr} {fd : FuncData} (F : Fun K "wants_row" "wants_row" s_wants_row f fd) (T : Txt mg) (h_count_days : Has P w K mg base "count_days" 1 ["shop"] sp_count_days) : FnOk P w K mg base CX0 2 f fd ["shop", "ware"] sp_wants_row := by
  refine F.ok sc_wants_row (fun vs H Q E h => ?_) (fun cdv A outer s H vs Q E hr h => ?_)
  · obtain ⟨v, x, S, w, sz, rfl, _⟩ := h
    rfl
  · obtain ⟨v, x, S, w, sz, rfl, rs, rx, g, z0, z1, k⟩ := h
    have hu := hu_of hr
    obtain ⟨n1, n2, n3, n4⟩ := g.days z0 z1
    refine ⟨_, (pss_cons (ps_set (i := 2) sc_wants_row.nd rfl (Or.inl rfl) (pe_op op_rep (pe_lst (pa_e pe_int pa_nil)) (pe_callS h_count_days (hr.mono (by decide)) rfl (pa_e (pv 0) pa_nil))))
 (pss_cons (ps_for PassesOwn.never rfl (pi_tpl (pe_item hu (pv 0) pe_int (fun _ _ => rfl))) (pg_name (i := 3) sc_wants_row.nd rfl (Or.inl rfl))
 (pss_one (ps_if (pt_cmpR (op_eqA hu) (pe_item hu (pv 3) (pe_globI rfl T.g_WANT_NAME) (fun _ _ => rfl)) (pe_item hu (pv 1) (pe_globI rfl T.g_NAME) (fun _ _ => rfl)) (nomark _)) (pss_one (ps_augS (pv 2) (pe_item hu (pv 3) (pe_globI rfl T.g_WANT_DAY) (fun _ _ => rfl)) get_lst (pe_item hu (pv 3) (pe_globI rfl T.g_WANT_AMOUNT) (fun _ _ => rfl)) ip_addI set_list)) pss_nil)))
 (pss_one (ps_ret (pv 2))))), ?_⟩
    obtain ⟨a, b, c, ws, us, rfl, ha, hb, hc, rws, rus⟩ := shop_at rs
    obtain ⟨xe, c1, c2, rfl, hxe, _⟩ := ware_at rx
    have hl := rds_len rus
    walk_at "rd"
    refine ⟨by decide, fun p0 hp0 => ?_⟩
    have u0 := same_upd (o := .lst [V.int 0]) hp0
    refine ⟨.ref a, S, rfl, RD.same u0 _ _ rs, by have := g.wants.1; omega, fun H1 sm1 => ?_⟩
    have h01 := sm1 p0 _ upd_same
    have sm01 := u0.trans sm1
    rw [← n3]
    refine ⟨_, rfl, _, h01, by omega, by omega, by rw [List.length_singleton]; exact line1000 (by omega), fun p hp => ?_⟩
    have u1 := sm01.trans (same_upd (o := .lst ((rowOf (daysN S) fun _ => 0).map V.int)) hp)
    have en : ((daysN S : Nat) : Int).toNat = daysN S := by omega
    rw [en, rep_zero]
    refine ⟨_, item_t (j := 1) (u1 _ _ ha) rfl, c, rfl, us, u1 _ _ hc, ?_⟩
    refine for_w (goesT c _) (WantRInv (.ref a) (.ref xe) p S w.name H) ⟨_, rfl, ?_, u1⟩ (fun i σ H' _ h => let ⟨_, _, _, s⟩ := h; s _ _ hc) (fun i y σ H2 hi hy h => ?_) (fun σ H2 h => ?_)
    · rw [upd_same]
      exact congrArg (fun z => some (HO.lst (List.map V.int z))) (rowOf_eq fun d _ => by simp [sumF_nil])
    · obtain ⟨o, rfl, hp2, sm⟩ := h
      obtain ⟨u, hu', ru⟩ := rds_map rus hy
      obtain ⟨e, rfl, he⟩ := want_at ru
      have he' := sm _ _ he
      have hx' := sm _ _ hxe
      have hum := List.mem_of_getElem? hu'
      walk_at "rd"
      refine ⟨_, item_t (j := 0) he' rfl, _, item_t (j := 0) hx' rfl, rfl, ite2 (fun hz => ?_) (fun hz => ?_)⟩
      · have hz := of_decide_eq_true hz
        have hz : u.1 = w.name := V.str.inj hz
        have hd := n4 u hum
        have hd0 := (g.wants.2 u hum).2.1.1
        refine ⟨_, item_t (j := 1) he' rfl, _, u.2.1, rfl, hp2, hd0, _, by rw [List.getElem?_map, rowOf_get hd]; rfl, _, item_t (j := 2) he' rfl, _, rfl, _, rfl, _, _, rfl, hp2, u.2.1.toNat, ?_, ?_⟩
        · rw [List.length_map, rowOf_len]
          unfold ixN
          rw [if_pos hd0, if_pos (by omega)]
        · refine ⟨_, rfl, ?_, fun b' o' hb' => by rw [upd_ne (ne_of_none hb' (Same.free sm01 hp))]; exact sm b' o' hb'⟩
          rw [upd_same, ← List.map_set, rowOf_set]
          refine congrArg (fun z => some (HO.lst (List.map V.int z))) (rowOf_eq fun d _ => ?_)
          rw [sumF_take _ hu']
          unfold wAt
          by_cases e1 : d = u.2.1.toNat
          · subst e1
            rw [if_pos rfl, if_pos ⟨hz, by omega⟩]
          · rw [if_neg e1, if_neg (fun q => e1 (by omega)), Int.add_zero]
      · refine ⟨_, rfl, ?_, sm⟩
        rw [hp2]
        refine congrArg (fun z => some (HO.lst (List.map V.int z))) (rowOf_eq fun d _ => ?_)
        rw [sumF_take _ hu']
        unfold wAt
        rw [if_neg (c := u.1 = w.name ∧ _) (fun q => hz (decide_eq_true (by rw [q.1]))), Int.add_zero]
    · obtain ⟨o, rfl, hp2, sm⟩ := h
      walk_at "rd"
      rw [hl, List.take_length] at hp2
      exact k p H2 (Same.free sm01 hp) hp2 sm
end
set_option maxRecDepth 100000
set_option maxHeartbeats 4000000
section
variable {P : Program} {w : World} {K : PySem.W.Frag} {mg : Str → Option Value} {base : Heap} {Pt : Addr}
def sp_needs_row : Sp := fun vs H Q _ => ∃ (v : V) (a : Addr) (x : V) (S : Sh) (plan : Str → List Int) (w : Wr) (sz : Int), vs = [v, .ref a, x] ∧ RD H S.d v ∧ PlanFor H a S plan (Takes S w.name) ∧ RD H w.d x ∧ Good sz S ∧ 0 < sz ∧ sz ≤ 1000 ∧ ∀ p H', H p = none → H' p = some (.lst ((needsRow S plan w.name).map V.int)) → Same H H' → Q (.ref p) H'
def TakeRInv (v : V) (a : Addr) (x : V) (S : Sh) (plan : Str → List Int) (nm : Str) (H : Hp) (i : Nat) (σ : St) (H' : Hp) : Prop := ∃ (q : Addr) (o1 o2 o3 : Option V), σ = [some v, some (.ref a), some x, some (.ref q), o1, o2, o3] ∧ H q = none ∧
  H' q = some (.lst ((rowOf (daysN S) fun d => sumF (wAt nm d) S.wants + sumF (pAt plan nm d) (S.wares.take i)).map V.int)) ∧ Same H H'
def TakePInv (v : V) (a : Addr) (x t : V) (S : Sh) (plan : Str → List Int) (nm : Str) (w : Wr) (i : Nat) (H : Hp) (j : Nat) (σ : St) (H' : Hp) : Prop := ∃ (q : Addr) (o2 o3 : Option V), σ = [some v, some (.ref a), some x, some (.ref q), some t, o2, o3] ∧ H q = none ∧
  H' q = some (.lst ((rowOf (daysN S) fun d => sumF (wAt nm d) S.wants + sumF (pAt plan nm d) (S.wares.take i) + sumF (fun p : Str × Int => if p.1 = nm then p.2 * bAt (plan w.name) w.lag d else 0) (w.parts.take j)).map V.int)) ∧ Same H H'
def ZipInv (n : Nat) (g : Nat → Int) (H1 : Hp) (i : Nat) (acc : List V) (H' : Hp) : Prop := acc = ((rowOf n g).take i).map V.int ∧ i ≤ n ∧ Same H1 H'
theorem rowOf_take {n i : Nat} {g : Nat → Int} (h : i ≤ n) : (rowOf n g).take i = rowOf i g := by
  unfold rowOf
  rw [← List.map_take, List.take_range, Nat.min_eq_left h]
theorem sc_needs_row : FnScope ["shop", "plan", "ware", "told", "taker", "part", "amount"] ["shop", "plan", "ware"] (defScope s_needs_row) := ⟨rfl, rfl, rfl, by decide +kernel, rfl, by decide +kernel, by decide +kernel⟩
theorem ok_needs_row {f : Addr} {fd : FuncData} (F : Fun K "needs_row" "needs_row" s_needs_row f fd) (T : Txt mg) (h_wants_row : Has P w K mg base "wants_row" 2 ["shop", "ware"] sp_wants_row) (h_begun_row : Has P w K mg base "begun_row" 1 ["plan", "ware"] sp_begun_row) : FnOk P w K mg base CX0 3 f fd ["shop", "plan", "ware"] sp_needs_row := by
  refine F.ok sc_needs_row (fun vs H Q E h => ?_) (fun cdv A outer s H vs Q E hr h => ?_)
  · obtain ⟨v, a, x, S, plan, w, sz, rfl, _⟩ := h
    rfl
  · obtain ⟨v, a, x, S, plan, w, sz, rfl, rs, pl, rx, g, z0, z1, k⟩ := h
    have hu := hu_of hr
    obtain ⟨n1, n2, n3, n4⟩ := g.days z0 z1
    refine ⟨_, (pss_cons (ps_set (i := 3) sc_needs_row.nd rfl (Or.inl rfl) (pe_callS h_wants_row (hr.mono (by decide)) rfl (pa_e (pv 0) (pa_e (pv 2) pa_nil))))
 (pss_cons (ps_for PassesOwn.never rfl (pi_tpl (pe_item hu (pv 0) pe_int (fun _ _ => rfl))) (pg_name (i := 4) sc_needs_row.nd rfl (Or.inl rfl))
 (pss_one (ps_for PassesOwn.never rfl (pi_tpl (pe_item hu (pv 4) (pe_globI rfl T.g_PARTS) (fun _ _ => rfl))) (pg_tup (n := 2) rfl (pgs_cons (pg_name (i := 5) sc_needs_row.nd rfl (Or.inl rfl)) (pgs_cons (pg_name (i := 6) sc_needs_row.nd rfl (Or.inr rfl)) pgs_nil)))
 (pss_one (ps_if (pt_cmpR (op_eqA hu) (pv 5) (pe_item hu (pv 2) (pe_globI rfl T.g_NAME) (fun _ _ => rfl)) (nomark _)) (pss_one (ps_setcomp (own := ["goes", "lots"]) (cap := [6]) (i := 3) rfl (cp_ok rfl) gown_tup2 sc_needs_row.nd rfl rfl (pi_zip2 rfl T.n_zip (pa_e (pv 3) (pa_e (pe_callS h_begun_row (hr.mono (by decide)) rfl (pa_e (pv 1) (pa_e (pv 4) pa_nil))) pa_nil)))
 (fun _ _ _ _ _ _ => ⟨(pg_tup (n := 2) rfl (pgs_cons (pg_name (i := 0) (of_decide_eq_true rfl) rfl (Or.inl rfl) (.inr rfl)) (pgs_cons (pg_name (i := 1) (of_decide_eq_true rfl) rfl (Or.inl rfl) (.inr rfl)) pgs_nil))), pts_nil, (pe_op op_add (pv 0) (pe_op op_mulB (pv 2) (pv 1)))⟩))) pss_nil)))))
 (pss_one (ps_ret (pv 3))))), ?_⟩
    obtain ⟨sa, sb, sc, ws, us, rfl, ha, hb, hc, rws, rus⟩ := shop_at rs
    obtain ⟨xe, c1, c2, rfl, hxe, _⟩ := ware_at rx
    have hl := rds_len rws
    walk_at "rd"
    refine ⟨.ref sa, .ref xe, S, w, sz, rfl, rs, rx, g, z0, z1, fun q0 H1 hq0 hq1 sm1 => ?_⟩
    refine ⟨_, item_t (j := 0) (sm1 _ _ ha) rfl, sb, rfl, ws, sm1 _ _ hb, ?_⟩
    refine for_w (goesT sb _) (TakeRInv (.ref sa) a (.ref xe) S plan w.name H) ⟨q0, _, _, _, rfl, hq0, ?_, sm1⟩ (fun i σ H' _ h => let ⟨_, _, _, _, _, _, _, s⟩ := h; s _ _ hb) (fun i y σ H2 hi hy h => ?_) (fun σ H2 h => ?_)
    · rw [hq1]
      exact congrArg (fun z => some (HO.lst (List.map V.int z))) (rowOf_eq fun d _ => by rw [List.take_zero, sumF_nil, Int.add_zero])
    · obtain ⟨q, o1, o2, o3, rfl, hq, hq2, sm⟩ := h
      obtain ⟨t, ht, rt⟩ := rds_map rws hy
      have htm := List.mem_of_getElem? ht
      have wb := g.ws.wb t htm
      obtain ⟨te, d1, d2, rfl, hte, rc, rp⟩ := ware_at rt
      obtain ⟨pb, pv, rfl, hpb, rpv⟩ := RD.tup_of rp
      have hlp := rds_len rpv
      walk_at "rd"
      refine ⟨_, item_t (j := 6) (sm _ _ hte) rfl, pb, rfl, pv, sm _ _ hpb, ?_⟩
      refine for_w (goesT pb _) (TakePInv (.ref sa) a (.ref xe) (.ref te) S plan w.name t i H) ⟨q, _, _, rfl, hq, ?_, sm⟩ (fun j σ H' _ h => let ⟨_, _, _, _, _, _, s⟩ := h; s _ _ hpb) (fun j y σ H3 hj hy h => ?_) (fun σ H3 h => ?_)
      · rw [hq2]
        exact congrArg (fun z => some (HO.lst (List.map V.int z))) (rowOf_eq fun d _ => by rw [List.take_zero, sumF_nil, Int.add_zero])
      · obtain ⟨q, o2, o3, rfl, hq, hq2, sm⟩ := h
        obtain ⟨pp, hpp, rpp⟩ := rds_map rpv hy
        have hppm := List.mem_of_getElem? hpp
        obtain ⟨pe, rfl, hpe⟩ := part_at rpp
        refine gt2 (sm _ _ hpe) ?_
        walk_at "rd"
        refine ⟨_, item_t (j := 0) (sm _ _ hxe) rfl, rfl, ite2 (fun hz => ?_) (fun hz => ?_)⟩
        · have hz : pp.1 = w.name := V.str.inj (of_decide_eq_true hz)
          have hT : Takes S w.name t.name := ⟨t, htm, rfl, pp, hppm, hz⟩
          refine ⟨a, .ref te, S, plan, t, _, rfl, pl.same sm, hT, n2, RD.same sm _ _ rt, htm, wb.lag.1, by have := wb.lag.2; omega, fun b H4 hb4 hb5 sm4 => ?_⟩
          have hq4 := sm4 _ _ hq2
          have sm04 := sm.trans sm4
          refine ⟨b, rfl, _, hq4, _, hb5, ?_⟩
          obtain ⟨kvs, hkv, hpl⟩ := pl
          obtain ⟨l, hv, hll, hlen, hbd⟩ := hpl t.name (List.mem_map.mpr ⟨t, htm, rfl⟩) hT
          have lb : (begunRow (plan t.name) t.lag).length = daysN S := by unfold begunRow; rw [rowOf_len, hlen]
          have en : min (((rowOf (daysN S) fun d => sumF (wAt w.name d) S.wants + sumF (pAt plan w.name d) (S.wares.take i) + sumF (fun p : Str × Int => if p.1 = w.name then p.2 * bAt (plan t.name) t.lag d else 0) (t.parts.take j)).map V.int).length) (((begunRow (plan t.name) t.lag).map V.int).length) = daysN S := by
            rw [List.length_map, List.length_map, rowOf_len, lb, Nat.min_self]
          have G := goesZ2 q b ((rowOf (daysN S) fun d => sumF (wAt w.name d) S.wants + sumF (pAt plan w.name d) (S.wares.take i) + sumF (fun p : Str × Int => if p.1 = w.name then p.2 * bAt (plan t.name) t.lag d else 0) (t.parts.take j)).map V.int) ((begunRow (plan t.name) t.lag).map V.int)
          rw [en] at G
          refine comp_t G (line1000 n2) (ZipInv (daysN S) (fun d => sumF (wAt w.name d) S.wants + sumF (pAt plan w.name d) (S.wares.take i) + sumF (fun p : Str × Int => if p.1 = w.name then p.2 * bAt (plan t.name) t.lag d else 0) (t.parts.take j) + pp.2 * bAt (plan t.name) t.lag d) H4) ⟨rfl, Nat.zero_le _, Same.refl _⟩ (fun r acc H' _ h => ⟨h.2.2 _ _ hq4, h.2.2 _ _ hb5⟩) (fun r acc H' h => ?_) (fun r ys z acc H5 hr hys h hz5 => ?_) (fun acc H5 h p hp => ?_)
          · rw [h.1, List.length_map, rowOf_take h.2.1, rowOf_len]
            exact Nat.le_refl _
          · obtain ⟨rfl, h2, h3⟩ := h
            obtain ⟨y1, y2, e1, e2, rfl⟩ := hys
            rw [List.getElem?_map, rowOf_get hr] at e1
            cases e1
            have hbg : (begunRow (plan t.name) t.lag)[r]? = some (bAt (plan t.name) t.lag r) := by unfold begunRow; rw [rowOf_get (by rw [hlen]; exact hr)]
            rw [List.getElem?_map, hbg] at e2
            cases e2
            refine gT2 ?_
            walk_at "rd"
            have hamt := wb.amts pp hppm
            refine ⟨.inl (.inl ⟨by omega, by omega⟩), ?_, hr, h3.trans (same_upd hz5)⟩
            rw [rowOf_take (by omega), rowOf_take (by omega), rowOf_succ, List.map_append]
            rfl
          · obtain ⟨rfl, h2, h3⟩ := h
            rw [rowOf_take (Nat.le_refl _)]
            refine ⟨p, _, _, rfl, Same.free (sm04.trans h3) hp, ?_, (sm04.trans h3).trans (same_upd hp)⟩
            rw [upd_same]
            refine congrArg (fun z => some (HO.lst (List.map V.int z))) (rowOf_eq fun d _ => ?_)
            rw [sumF_take _ hpp, if_pos hz]
            omega
        · refine ⟨q, _, _, rfl, hq, ?_, sm⟩
          rw [hq2]
          refine congrArg (fun z => some (HO.lst (List.map V.int z))) (rowOf_eq fun d _ => ?_)
          rw [sumF_take _ hpp, if_neg (c := pp.1 = w.name) (fun e => hz (decide_eq_true (by rw [e]))), Int.add_zero]
      · obtain ⟨q, o2, o3, rfl, hq, hq2, sm⟩ := h
        rw [hlp, List.take_length] at hq2
        refine ⟨q, _, _, _, rfl, hq, ?_, sm⟩
        rw [hq2]
        refine congrArg (fun z => some (HO.lst (List.map V.int z))) (rowOf_eq fun d _ => ?_)
        rw [sumF_take _ ht]
        unfold pAt
        omega
    · obtain ⟨q, o1, o2, o3, rfl, hq, hq2, sm⟩ := h
      walk_at "rd"
      rw [hl, List.take_length] at hq2
      exact k q H2 hq hq2 sm
end
set_option maxRecDepth 100000
set_option maxHeartbeats 4000000
section
variable {P : Program} {w : World} {K : PySem.W.Frag} {mg : Str → Option Value} {base : Heap} {Pt : Addr}
def sp_arrivals_row : Sp := fun vs H Q _ => ∃ (v x : V) (S : Sh) (w : Wr) (sz : Int), vs = [v, x] ∧ RD H S.d v ∧ RD H w.d x ∧ Good sz S ∧ 0 < sz ∧ sz ≤ 1000 ∧ w.coming.length ≤ 1000 ∧ (∀ p ∈ w.coming, 0 ≤ p.1) ∧ ∀ p H', H p = none → H' p = some (.lst ((rowOf (daysN S) (arrAt w)).map V.int)) → Same H H' → Q (.ref p) H'
def ArrInv (v x : V) (p : Addr) (S : Sh) (w : Wr) (H : Hp) (i : Nat) (σ : St) (H' : Hp) : Prop := ∃ o1 o2 : Option V, σ = [some v, some x, some (.ref p), o1, o2] ∧ H' p = some (.lst ((rowOf (daysN S) fun d => (if d = 0 then w.stock else 0) + sumF (cAt d) (w.coming.take i)).map V.int)) ∧ Same H H'
theorem sc_arrivals_row : FnScope ["shop", "ware", "told", "day", "amount"] ["shop", "ware"] (defScope s_arrivals_row) := ⟨rfl, rfl, rfl, by decide +kernel, rfl, by decide +kernel, by decide +kernel⟩
theorem ok_arrivals_row {f : Addr} {fd : FuncData} (F : Fun K "arrivals_row" "arrivals_row" s_arrivals_row f fd) (T : Txt mg) (h_count_days : Has P w K mg base "count_days" 1 ["shop"] sp_count_days) : FnOk P w K mg base CX0 2 f fd ["shop", "ware"] sp_arrivals_row := by
  refine F.ok sc_arrivals_row (fun vs H Q E h => ?_) (fun cdv A outer s H vs Q E hr h => ?_)
  · obtain ⟨v, x, S, w, sz, rfl, _⟩ := h
    rfl
  · obtain ⟨v, x, S, w, sz, rfl, rs, rx, g, z0, z1, hcl, hcd, k⟩ := h
    have hu := hu_of hr
    obtain ⟨n1, n2, n3, n4⟩ := g.days z0 z1
    refine ⟨_, (pss_cons (ps_set (i := 2) sc_arrivals_row.nd rfl (Or.inl rfl) (pe_op op_rep (pe_lst (pa_e pe_int pa_nil)) (pe_callS h_count_days (hr.mono (by decide)) rfl (pa_e (pv 0) pa_nil))))
 (pss_cons (ps_asg (pe_item hu (pv 1) (pe_globI rfl T.g_STOCK) (fun _ _ => rfl)) (pg_sub (pv 2) pe_int set_list))
 (pss_cons (ps_for PassesOwn.never rfl (pi_tpl (pe_item hu (pv 1) (pe_globI rfl T.g_COMING) (fun _ _ => rfl))) (pg_tup (n := 2) rfl (pgs_cons (pg_name (i := 3) sc_arrivals_row.nd rfl (Or.inl rfl)) (pgs_cons (pg_name (i := 4) sc_arrivals_row.nd rfl (Or.inl rfl)) pgs_nil)))
 (pss_one (ps_if (pt_cmpR (op_ltA hu) (pv 3) (pe_callBS call_len_q rfl T.n_len bt_len (pa_e (pv 2) pa_nil)) (nomark _)) (pss_one (ps_augS (pv 2) (pv 3) get_lst (pv 4) ip_addI set_list)) pss_nil)))
 (pss_one (ps_ret (pv 2)))))), ?_⟩
    obtain ⟨xe, c1, c2, rfl, hxe, rc, _⟩ := ware_at rx
    obtain ⟨cb, cv, rfl, hcb, rcv⟩ := RD.tup_of rc
    have hl := rds_len rcv
    walk_at "rd"
    refine ⟨by decide, fun p0 hp0 => ?_⟩
    have u0 := same_upd (o := .lst [V.int 0]) hp0
    refine ⟨v, S, rfl, RD.same u0 _ _ rs, by have := g.wants.1; omega, fun H1 sm1 => ?_⟩
    have h01 := sm1 p0 _ upd_same
    have sm01 := u0.trans sm1
    rw [← n3]
    refine ⟨_, rfl, _, h01, by omega, by omega, by rw [List.length_singleton]; exact line1000 (by omega), fun p hp => ?_⟩
    have u1 := sm01.trans (same_upd (o := .lst ((rowOf (daysN S) fun _ => 0).map V.int)) hp)
    have en : ((daysN S : Nat) : Int).toNat = daysN S := by omega
    rw [en, rep_zero]
    have fp : H p = none := Same.free sm01 hp
    refine ⟨_, item_t (j := 4) (u1 _ _ hxe) rfl, _, upd_same, 0, ?_, ?_⟩
    · rw [List.length_map, rowOf_len]
      unfold ixN
      rw [if_pos (by decide), if_pos (by omega)]
      rfl
    have kx : ∀ {b : Addr} {o o' o2 : HO}, H b = some o → upd (upd H1 p o') p o2 b = some o := fun {b o o' o2} hb => by rw [upd_ne (ne_of_none hb fp), upd_ne (ne_of_none hb fp)]; exact sm01 b o hb
    refine ⟨_, item_t (j := 5) (kx hxe) rfl, cb, rfl, cv, kx hcb, ?_⟩
    refine for_w (goesT cb _) (ArrInv v (.ref xe) p S w H) ⟨_, _, rfl, ?_, fun b o hb => kx hb⟩ (fun i σ H' _ h => let ⟨_, _, _, _, s⟩ := h; s _ _ hcb) (fun i y σ H2 hi hy h => ?_) (fun σ H2 h => ?_)
    · rw [upd_same, ← List.map_set, rowOf_set]
      exact congrArg (fun z => some (HO.lst (List.map V.int z))) (rowOf_eq fun d _ => by rw [List.take_zero, sumF_nil, Int.add_zero])
    · obtain ⟨o1, o2, rfl, hp2, sm⟩ := h
      obtain ⟨u, hu', ru⟩ := rds_map rcv hy
      obtain ⟨e, rfl, he⟩ := arr_at ru
      refine gt2 (sm _ _ he) ?_
      have hd0 := hcd u (List.mem_of_getElem? hu')
      walk_at "rd"
      refine ⟨_, .inl hp2, ite2 (fun hz => ?_) (fun hz => ?_)⟩
      · have hz := of_decide_eq_true hz
        rw [List.length_map, rowOf_len] at hz
        have hd : u.1.toNat < daysN S := by omega
        refine ⟨_, hp2, hd0, _, by rw [List.getElem?_map, rowOf_get hd]; rfl, _, rfl, _, hp2, u.1.toNat, ?_, ?_⟩
        · rw [List.length_map, rowOf_len]
          unfold ixN
          rw [if_pos hd0, if_pos (by omega)]
        · refine ⟨_, _, rfl, ?_, fun b' o' hb' => by rw [upd_ne (ne_of_none hb' fp)]; exact sm b' o' hb'⟩
          rw [upd_same, ← List.map_set, rowOf_set]
          refine congrArg (fun z => some (HO.lst (List.map V.int z))) (rowOf_eq fun d _ => ?_)
          rw [sumF_take _ hu']
          unfold cAt
          by_cases e1 : d = u.1.toNat
          · subst e1
            rw [if_pos rfl, if_pos (c := u.1 = _) (by omega)]
            omega
          · rw [if_neg e1, if_neg (c := u.1 = _) (fun q => e1 (by omega)), Int.add_zero]
      · have hz : ¬ u.1 < (daysN S : Int) := fun q => hz (decide_eq_true (by rw [List.length_map, rowOf_len]; exact q))
        refine ⟨_, _, rfl, ?_, sm⟩
        rw [hp2]
        refine congrArg (fun z => some (HO.lst (List.map V.int z))) (rowOf_eq fun d hd => ?_)
        rw [sumF_take _ hu']
        unfold cAt
        rw [if_neg (c := u.1 = _) (fun q => hz (by omega)), Int.add_zero]
    · obtain ⟨o1, o2, rfl, hp2, sm⟩ := h
      walk_at "rd"
      rw [hl, List.take_length] at hp2
      exact k p H2 fp hp2 sm
end
set_option maxRecDepth 100000
set_option maxHeartbeats 4000000
section
variable {P : Program} {w : World} {K : PySem.W.Frag} {mg : Str → Option Value} {base : Heap} {Pt : Addr}
def sp_lots_for : Sp := fun vs H Q _ => ∃ m g, vs = [.int m, .int g] ∧ 0 < g ∧ g < 10 ^ 200 ∧ Q (.int (lotsOf m g)) H
theorem sc_lots_for : FnScope ["amount", "gives"] ["amount", "gives"] (defScope s_lots_for) := ⟨rfl, rfl, rfl, by decide +kernel, rfl, by decide +kernel, by decide +kernel⟩
theorem ok_lots_for {f : Addr} {fd : FuncData} (F : Fun K "lots_for" "lots_for" s_lots_for f fd) (T : Txt mg) : FnOk P w K mg base CX0 1 f fd ["amount", "gives"] sp_lots_for := by
  refine F.ok sc_lots_for (fun vs H Q E h => ?_) (fun cdv A outer s H vs Q E hr h => ?_)
  · obtain ⟨m, g, rfl, _⟩ := h
    rfl
  · obtain ⟨m, g, rfl, h0, h1, k⟩ := h
    have hu := hu_of hr
    refine ⟨_, (pss_one (ps_ret (pe_callBS (call_maxA rfl) rfl T.n_max bt_max (pa_e pe_int (pa_e (pe_un un_neg (pe_op op_fdivL (pe_un un_neg (pv 0)) (pv 1))) pa_nil))))), ?_⟩
    walk_at "rd"
    exact ⟨h0, h1, k⟩
theorem good_lev {sz : Int} {S : Sh} (g : Good sz S) : LevOk S where
  nd := g.ws.nd
  own := g.ws.own
  low := g.ws.low
  ok := g.ok
  few := by have := g.len.2; omega
theorem good_pl {sz : Int} {S : Sh} (g : Good sz S) : PlOk S where
  wb := fun w hw => by
    have b := g.ws.wb w hw
    exact ⟨⟨b.gives.1, Int.le_trans b.gives.2 (by decide +kernel)⟩, ⟨b.floor.1, Int.le_trans b.floor.2 (by decide +kernel)⟩, b.stock.1, b.parts, fun p hp => ⟨(b.amts p hp).1, Int.le_trans (b.amts p hp).2 (by decide +kernel)⟩⟩
  com := fun w hw p hp => ((g.com w hw).2 p hp).2.1
  few := g.len.2
  wt := ⟨g.wants.1, fun u hu => ⟨(g.wants.2 u hu).2.2.1, Int.le_trans (Int.le_of_lt (g.wants.2 u hu).2.2.2) (by decide +kernel)⟩⟩
theorem ints_at {xs : List Int} {i : Nat} {y : V} (h : (xs.map V.int)[i]? = some y) : y = .int (xs.getD i 0) := by
  rw [List.getElem?_map] at h
  rw [List.getD_eq_getElem?_getD]
  cases e : xs[i]? with
  | none => rw [e] at h; cases h
  | some x => rw [e] at h; cases h; rfl
theorem ware_same {S : Sh} (nd : (S.wares.map (·.name)).Nodup) {a b : Wr} (h1 : a ∈ S.wares) (h2 : b ∈ S.wares) (e : a.name = b.name) : a = b := by
  have := wareN_eq nd h1
  rw [e, wareN_eq nd h2] at this
  exact (Option.some.inj this).symm
def LeastInv (a b p : Addr) (g f : Int) (xs ys : List Int) (H : Hp) (i : Nat) (σ : St) (H' : Hp) : Prop := ∃ c d e : Option V, σ = [some (.ref a), some (.ref b), some (.int g), some (.int f), some (.ref p), some (.int (above f g xs ys i)), c, d, e] ∧
  H' p = some (.lst ((lots f g xs ys i).map V.int)) ∧ Same H H'
def sp_least_lots : Sp := fun vs H Q _ => ∃ (a b : Addr) (g f : Int) (xs ys : List Int), vs = [.ref a, .ref b, .int g, .int f] ∧ H a = some (.lst (xs.map V.int)) ∧ H b = some (.lst (ys.map V.int)) ∧ ys.length = xs.length ∧ xs.length ≤ 1000 ∧
  0 < g ∧ g < 10 ^ 200 ∧ (∀ i, i < xs.length → CMulB g (lotAt f g xs ys i)) ∧ ∀ p H', H p = none → H' p = some (.lst ((lots f g xs ys xs.length).map V.int)) → Same H H' → Q (.ref p) H'
theorem sc_least_lots : FnScope ["have", "need", "gives", "floor", "told", "above_floor", "comes", "goes", "lots"] ["have", "need", "gives", "floor"] (defScope s_least_lots) := ⟨rfl, rfl, rfl, by decide +kernel, rfl, by decide +kernel, by decide +kernel⟩
theorem ok_least_lots {f : Addr} {fd : FuncData} (F : Fun K "least_lots" "least_lots" s_least_lots f fd) (T : Txt mg) (h_lots_for : Has P w K mg base "lots_for" 1 ["amount", "gives"] sp_lots_for) : FnOk P w K mg base CX0 2 f fd ["have", "need", "gives", "floor"] sp_least_lots := by
  refine F.ok sc_least_lots (fun vs H Q E h => ?_) (fun cdv A outer s H vs Q E hr h => ?_)
  · obtain ⟨a, b, g, f, xs, ys, rfl, _⟩ := h
    rfl
  · obtain ⟨a, b, g, fl, xs, ys, rfl, ha, hb, hl, hn, g0, g200, hm, k⟩ := h
    have hu := hu_of hr
    refine ⟨_, (pss_cons (ps_set (i := 4) sc_least_lots.nd rfl (Or.inl rfl) (pe_lst pa_nil))
 (pss_cons (ps_set (i := 5) sc_least_lots.nd rfl (Or.inl rfl) (pe_un un_neg (pv 3)))
 (pss_cons (ps_for PassesOwn.never rfl (pi_zip2 rfl T.n_zip (pa_e (pv 0) (pa_e (pv 1) pa_nil))) (pg_tup (n := 2) rfl (pgs_cons (pg_name (i := 6) sc_least_lots.nd rfl (Or.inl rfl)) (pgs_cons (pg_name (i := 7) sc_least_lots.nd rfl (Or.inl rfl)) pgs_nil)))
 (pss_cons (ps_aug (i := 5) sc_least_lots.nd rfl (Or.inl rfl) (pe_op op_sub (pv 6) (pv 7)) ip_addI)
 (pss_cons (ps_set (i := 8) sc_least_lots.nd rfl (Or.inl rfl) (pe_callS h_lots_for (hr.mono (by decide)) rfl (pa_e (pe_un un_neg (pv 5)) (pa_e (pv 2) pa_nil))))
 (pss_cons (ps_aug (i := 5) sc_least_lots.nd rfl (Or.inl rfl) (pe_op op_mulB (pv 2) (pv 8)) ip_addI)
 (pss_one (ps_expr (pe_bs PySem.F.plainAttrs_list PySem.F.slot_list_append PySem.F.type_list_append mt_append (pv 4) (pa_e (pv 8) pa_nil))))))))
 (pss_one (ps_ret (pv 4)))))), ?_⟩
    walk_at "rd"
    refine ⟨Nat.zero_le _, fun p hp => ⟨_, by rw [upd_ne (ne_of_none ha hp)]; exact ha, _, by rw [upd_ne (ne_of_none hb hp)]; exact hb, ?_⟩⟩
    have en : min (xs.map V.int).length (ys.map V.int).length = xs.length := by rw [List.length_map, List.length_map]; omega
    refine for_t (goesZ2 a b _ _) (LeastInv a b p g fl xs ys H) ⟨_, _, _, rfl, upd_same, same_upd hp⟩ (fun i σ H' _ h => let ⟨_, _, _, _, _, s⟩ := h; ⟨s _ _ ha, s _ _ hb⟩) (fun i us t σ H' hi hy h ht => ?_) (fun σ H' h => ?_)
    · obtain ⟨c, d, e, rfl, h1, sm⟩ := h
      obtain ⟨y, z, ey, ez, rfl⟩ := hy
      have hy := ints_at ey
      have hz := ints_at ez
      subst hy hz
      refine gT2 ?_
      walk_at "rd"
      refine ⟨_, _, rfl, g0, g200, ?_⟩
      have eL : lotsOf (-(above fl g xs ys i + (xs.getD i 0 - ys.getD i 0))) g = lotAt fl g xs ys i := rfl
      rw [eL]
      have hp' : upd H' t (.tup [.int (xs.getD i 0), .int (ys.getD i 0)]) p = some (.lst ((lots fl g xs ys i).map V.int)) := by rw [upd_ne (ne_of_none h1 ht)]; exact h1
      walk_at "rd"
      refine ⟨hm i (by omega), ty_lst hp', _, hp', Nat.lt_of_le_of_lt (m := 1000) (by rw [List.length_map, lots_len]; omega) (by decide), ?_⟩
      refine ⟨_, _, _, rfl, ?_, fun b' o hb' => ?_⟩
      · rw [upd_same, lots_succ, List.map_append]; rfl
      · rw [upd_ne (ne_of_none hb' hp)]
        exact (sm.trans (same_upd ht)) b' o hb'
    · obtain ⟨c, d, e, rfl, h1, sm⟩ := h
      walk_at "rd"
      rw [en] at h1
      exact k p H' hp h1 sm
def dayV : Option Nat → V
  | some d => .int d
  | none => .non
def sp_first_early : Sp := fun vs H Q _ => ∃ (a : Addr) (row : List Int) (lag : Int), vs = [.ref a, .int lag] ∧ H a = some (.lst (row.map V.int)) ∧ row.length ≤ 1000 ∧ ∀ H', Same H H' → Q (dayV (earlyAt row lag)) H'
def EarlyInv (a : Addr) (lag : Int) (row : List Int) (H : Hp) (i : Nat) (σ : St) (H' : Hp) : Prop := ∃ c d : Option V, σ = [some (.ref a), some (.int lag), c, d] ∧ earlyF row lag i = none ∧ Same H H'
theorem sc_first_early : FnScope ["lots", "lag", "day", "count"] ["lots", "lag"] (defScope s_first_early) := ⟨rfl, rfl, rfl, by decide +kernel, rfl, by decide +kernel, by decide +kernel⟩
theorem ok_first_early {f : Addr} {fd : FuncData} (F : Fun K "first_early" "first_early" s_first_early f fd) (T : Txt mg) : FnOk P w K mg base CX0 1 f fd ["lots", "lag"] sp_first_early := by
  refine F.ok sc_first_early (fun vs H Q E h => ?_) (fun cdv A outer s H vs Q E hr h => ?_)
  · obtain ⟨a, row, lag, rfl, _⟩ := h
    rfl
  · obtain ⟨a, row, lag, rfl, ha, hl, k⟩ := h
    have hu := hu_of hr
    refine ⟨_, (pss_cons (ps_for PassesOwn.never rfl (pi_enum rfl T.n_enumerate (pa_e (pv 0) pa_nil)) (pg_tup (n := 2) rfl (pgs_cons (pg_name (i := 2) sc_first_early.nd rfl (Or.inl rfl)) (pgs_cons (pg_name (i := 3) sc_first_early.nd rfl (Or.inl rfl)) pgs_nil)))
 (pss_one (ps_if (PW.pt (pw_and (pt_cmpR (op_ltA hu) (pv 2) (pv 1) (nomark _)) (pw_and1 (pt_cmpR op_gt (pv 3) pe_int (nomark _))))) (pss_one (ps_ret (pv 2))) pss_nil)))
 (pss_one (ps_ret pe_non))), ?_⟩
    walk_at "rd"
    refine ⟨_, ha, ?_⟩
    refine for_t (goesE a _) (EarlyInv a lag row H) ⟨_, _, rfl, rfl, Same.refl _⟩ (fun i σ H' _ h => let ⟨_, _, _, _, s⟩ := h; s _ _ ha) (fun i us t σ H' hi hy h ht => ?_) (fun σ H' h => ?_)
    · obtain ⟨c, d, rfl, hn, sm⟩ := h
      obtain ⟨y, ey, rfl⟩ := hy
      have hy := ints_at ey
      subst hy
      rw [List.length_map] at hi
      have s2 := sm.trans (same_upd (o := .tup [.int i, .int (row.getD i 0)]) ht)
      have es : earlyF row lag (i + 1) = if (i : Int) < lag ∧ 0 < row.getD i 0 then some i else none := by rw [earlyF, hn]
      refine gT2 ?_
      walk_at "rd"
      refine ite2 (fun h1 => ite2 (fun h2 => ?_) (fun h2 => ?_)) (fun h1 => ?_)
      · have h1 := of_decide_eq_true h1
        have h2 := of_decide_eq_true h2
        rw [if_pos ⟨h1, h2⟩] at es
        have e : earlyAt row lag = some i := early_stop es (by omega)
        have := k _ s2
        rw [e] at this
        exact this
      · exact ⟨_, _, rfl, by rw [es, if_neg (fun c => h2 (decide_eq_true c.2))], s2⟩
      · exact ⟨_, _, rfl, by rw [es, if_neg (fun c => h1 (decide_eq_true c.1))], s2⟩
    · obtain ⟨c, d, rfl, hn, sm⟩ := h
      rw [List.length_map] at hn
      walk_at "rd"
      have := k _ sm
      unfold earlyAt at this
      rw [hn] at this
      exact this
def Apart (kvs : List (Key × V)) (l : List Str) : Prop := ∀ nm ∈ l, ∀ nm' ∈ l, ∀ q : Addr, valV kvs (.inr nm) = some (.ref q) → valV kvs (.inr nm') = some (.ref q) → nm = nm'
def RowsAt (H H' : Hp) (a : Addr) (S : Sh) (l : List Str) : Prop := ∃ kvs, H' a = some (.dK kvs) ∧ kvs.map (·.1) = l.map Sum.inr ∧ (∀ nm ∈ l, ∃ q : Addr, H q = none ∧ q ≠ a ∧ valV kvs (.inr nm) = some (.ref q) ∧ H' q = some (.lst ((LR S nm).map V.int))) ∧ Apart kvs l
def sp_planned (Pt : Addr) : Sp := fun vs H Q _ => ∃ (v : V) (S : Sh) (sz : Int), vs = [v] ∧ RD H S.d v ∧ Good sz S ∧ 0 < sz ∧ sz ≤ 1000 ∧ Tb H Pt ∧ ∀ (t p : Addr) (ys : List Str) (i : Nat) (H' : Hp), H t = none → H p = none → t ≠ p → StabK (lv S) (namesS S) ys → RowsAt H H' p S (ys.take i) → (∀ w ∈ S.wares, w.name ∈ ys.take i → earlyAt (LR S w.name) w.lag = none) → Tb H' Pt → But Pt H H' →
  ((i = ys.length ∧ H' t = some (.tup [.str "plan", .ref p])) ∨ ∃ (w : Wr) (d : Nat), w ∈ S.wares ∧ ys[i]? = some w.name ∧ earlyAt (LR S w.name) w.lag = some d ∧ H' t = some (.tup [.str "short", .ref p, .str w.name, .int d, .int ((LR S w.name).getD d 0)])) → Q (.ref t) H'
def PlanInv (v : V) (p : Addr) (S : Sh) (ys : List Str) (H H1 : Hp) (i : Nat) (σ : St) (H' : Hp) : Prop := ∃ o2 o3 o4 o5 : Option V, σ = [some v, some (.ref p), o2, o3, o4, o5] ∧ RowsAt H H' p S (ys.take i) ∧ (∀ w ∈ S.wares, w.name ∈ ys.take i → earlyAt (LR S w.name) w.lag = none) ∧ ∀ b o, b ≠ p → H1 b = some o → H' b = some o
theorem sc_planned : FnScope ["shop", "plan", "name", "ware", "lots", "day"] ["shop"] (defScope s_planned) := ⟨rfl, rfl, rfl, by decide +kernel, rfl, by decide +kernel, by decide +kernel⟩
theorem ok_planned {f : Addr} {fd : FuncData} (F : Fun K "planned" "planned" s_planned f fd) (T : Txt mg) (h_worked : Has P w K mg base "worked" 6 ["shop"] (sp_worked Pt)) (h_ware_of : Has P w K mg base "ware_of" 1 ["shop", "name"] sp_ware_of) (h_least_lots : Has P w K mg base "least_lots" 2 ["have", "need", "gives", "floor"] sp_least_lots) (h_needs_row : Has P w K mg base "needs_row" 3 ["shop", "plan", "ware"] sp_needs_row) (h_arrivals_row : Has P w K mg base "arrivals_row" 2 ["shop", "ware"] sp_arrivals_row) (h_first_early : Has P w K mg base "first_early" 1 ["lots", "lag"] sp_first_early) : FnOk P w K mg base CX0 7 f fd ["shop"] (sp_planned Pt) := by
  refine F.ok sc_planned (fun vs H Q E h => ?_) (fun cdv A outer s H vs Q E hr h => ?_)
  · obtain ⟨v, S, sz, rfl, _⟩ := h
    rfl
  · obtain ⟨v, S, sz, rfl, rs, g, z0, z1, tb, k⟩ := h
    have hu := hu_of hr
    obtain ⟨n1, n2, n3, n4⟩ := g.days z0 z1
    refine ⟨_, (pss_cons (ps_set (i := 1) sc_planned.nd rfl (Or.inl rfl) pe_dnewK)
 (pss_cons (ps_for PassesOwn.never rfl (pi_lst (pe_callS h_worked (hr.mono (by decide)) rfl (pa_e (pv 0) pa_nil))) (pg_name (i := 2) sc_planned.nd rfl (Or.inl rfl))
 (pss_cons (ps_set (i := 3) sc_planned.nd rfl (Or.inl rfl) (pe_callS h_ware_of (hr.mono (by decide)) rfl (pa_e (pv 0) (pa_e (pv 2) pa_nil))))
 (pss_cons (ps_set (i := 4) sc_planned.nd rfl (Or.inl rfl) (pe_callS h_least_lots (hr.mono (by decide)) rfl (pa_e (pe_callS h_arrivals_row (hr.mono (by decide)) rfl (pa_e (pv 0) (pa_e (pv 3) pa_nil))) (pa_e (pe_callS h_needs_row (hr.mono (by decide)) rfl (pa_e (pv 0) (pa_e (pv 1) (pa_e (pv 3) pa_nil)))) (pa_e (pe_item hu (pv 3) (pe_globI rfl T.g_GIVES) (fun _ _ => rfl)) (pa_e (pe_item hu (pv 3) (pe_globI rfl T.g_FLOOR) (fun _ _ => rfl)) pa_nil))))))
 (pss_cons (ps_set (i := 5) sc_planned.nd rfl (Or.inl rfl) (pe_callS h_first_early (hr.mono (by decide)) rfl (pa_e (pv 4) (pa_e (pe_item hu (pv 3) (pe_globI rfl T.g_LAG) (fun _ _ => rfl)) pa_nil))))
 (pss_cons (ps_if (pt_cmpR op_isnotA (pv 5) pe_non (nomark _)) (pss_one (ps_ret (pe_tup (pa_e pe_str (pa_e (pv 1) (pa_e (pv 2) (pa_e (pv 5) (pa_e (pe_item hu (pv 4) (pv 5) (fun _ _ => rfl)) pa_nil)))))))) pss_nil)
 (pss_one (ps_asg (pv 4) (pg_sub (pv 1) (pv 2) (set_dict hu)))))))))
 (pss_one (ps_ret (pe_tup (pa_e pe_str (pa_e (pv 1) pa_nil))))))), ?_⟩
    have L := good_lev g
    have PL := good_pl g
    have hfew := L.few
    walk_at "rd"
    intro p hp
    have u0 := same_upd (o := .dK []) hp
    refine ⟨v, S, rfl, RD.same u0 _ _ rs, L, tb.same u0, fun q ys H1 hq hq1 so sb tb1 bt1 => ⟨q, rfl, _, hq1, ?_⟩⟩
    have tb0 := tb.same u0
    have pPt : p ≠ Pt := fun z => by obtain ⟨u, e⟩ := tb.at; rw [← z, hp] at e; cases e
    have hp1 : H1 p = some (.dK []) := bt1 _ _ pPt upd_same
    have qp : q ≠ p := ne_of hq1 hp1 (fun z => by cases z)
    have hyl : ys.length = S.wares.length := by rw [so.1.length_eq, namesS_len]
    have ndy : ys.Nodup := so.1.nodup_iff.mpr L.nd
    have so' : SortK (lv S) (S.wares.map (·.name)) ys := so
    have rs1 := RD.ku (tb_ku tb0 bt1) _ _ (nl_shop S) (RD.same u0 _ _ rs)
    have fresh : ∀ (H' : Hp) (b : Addr), (∀ b o, b ≠ p → H1 b = some o → H' b = some o) → H' b = none → b ≠ p → H b = none := fun H' b kp hb nb => by
      cases e : H b with
      | none => rfl
      | some o =>
        by_cases z : b = Pt
        · obtain ⟨u, e2⟩ := tb1.at
          rw [z, kp _ _ (Ne.symm pPt) e2] at hb
          cases hb
        · rw [kp _ _ nb (bt1 _ _ z (u0 _ _ e))] at hb
          cases hb
    have keepB : ∀ (H' : Hp), (∀ b o, b ≠ p → H1 b = some o → H' b = some o) → But Pt H H' := fun H' kp b o nb e => kp _ _ (ne_of_none e hp) (bt1 _ _ nb (u0 _ _ e))
    have keepT : ∀ (H' : Hp), (∀ b o, b ≠ p → H1 b = some o → H' b = some o) → Tb H' Pt := fun H' kp => by
      rcases tb1 with e | ⟨c, e, e2⟩
      · exact .inl (kp _ _ (Ne.symm pPt) e)
      · exact .inr ⟨c, kp _ _ (Ne.symm pPt) e, kp _ _ (fun z => by rw [z, hp1] at e2; cases e2) e2⟩
    refine for_w (goesL q _) (PlanInv v p S ys H H1) ⟨_, _, _, _, rfl, ⟨[], hp1, rfl, (fun nm hn => by cases hn), fun nm hn => by cases hn⟩, (fun w _ hn => by cases hn), fun b o _ e => e⟩ (fun i σ H' _ h => let ⟨_, _, _, _, _, _, _, kp⟩ := h; kp _ _ qp hq1) (fun i x σ H2 hi hx h => ?_) (fun σ H2 h => ?_)
    · obtain ⟨o2, o3, o4, o5, rfl, ⟨kvs, hp2, hks, hrow, hap⟩, hne, kp⟩ := h
      rw [List.getElem?_map] at hx
      cases en : ys[i]? with
      | none => rw [en] at hx; cases hx
      | some nm =>
      rw [en] at hx
      have hx : V.str nm = x := Option.some.inj hx
      subst hx
      have hny := List.mem_of_getElem? en
      have hnm : nm ∈ S.wares.map (·.name) := so.1.mem_iff.mp hny
      have hil : i < ys.length := (List.getElem?_eq_some_iff.mp en).1
      have ku2 : KeepU H1 H2 := fun b xs e => kp b _ (ne_of e hp1 (fun z => by cases z)) e
      have rs2 := RD.ku ku2 _ _ (nl_shop S) rs1
      walk_at "rd"
      refine ⟨v, S, nm, rfl, rs2, L.ok, hnm, fun t wt hwt ewt rt => ?_⟩
      subst ewt
      have hcom := g.com wt hwt
      have wb := g.ws.wb wt hwt
      obtain ⟨te, d1, d2, rfl, hte, rc, rp⟩ := ware_at rt
      refine ⟨v, .ref te, S, wt, sz, rfl, rs2, rt, g, z0, z1, by have := hcom.1; omega, fun q hq => (hcom.2 q hq).1.1, fun q1 H3 hq1' hq3 sm3 => ?_⟩
      have pf : PlanFor H3 p S (LR S) (Takes S wt.name) := ⟨kvs, .inl (sm3 _ _ hp2), fun nm' hn' hT => by
        obtain ⟨u, hu', rfl, pp, hpp, e⟩ := hT
        obtain ⟨qr, _, _, hv, hl⟩ := hrow u.name (taker_in L.toLev so' en hu' hpp e)
        exact ⟨qr, hv, sm3 _ _ hl, LR_len L.toLev hu', fun x hx => ⟨(LR_in PL _ x hx).1, Int.lt_trans (LR_in PL _ x hx).2 (by decide +kernel)⟩⟩⟩
      refine ⟨v, p, .ref te, S, LR S, wt, sz, rfl, RD.same sm3 _ _ rs2, pf, RD.same sm3 _ _ rt, g, z0, z1, fun q2 H4 hq4 hq5 sm4 => ?_⟩
      have s24 := sm3.trans sm4
      have hte4 := s24 _ _ hte
      refine ⟨_, item_t (j := 2) hte4 rfl, _, item_t (j := 3) hte4 rfl, ?_⟩
      have lrq : lots wt.floor wt.gives (rowOf (daysN S) (arrAt wt)) (needsRow S (LR S) wt.name) (rowOf (daysN S) (arrAt wt)).length = LR S wt.name := by rw [rowOf_len, ← LR_eq L.toLev hwt]
      refine ⟨q1, q2, wt.gives, wt.floor, rowOf (daysN S) (arrAt wt), needsRow S (LR S) wt.name, rfl, sm4 _ _ hq3, hq5, by unfold needsRow; rw [rowOf_len, rowOf_len], by rw [rowOf_len]; exact n2, by have := wb.gives.1; omega, Int.lt_of_le_of_lt wb.gives.2 (by decide +kernel), fun j hj => .inl (.inl ⟨by have := wb.gives.1; omega, by have := wb.gives.2; omega⟩), fun r H5 hr5 hr6 sm5 => ?_⟩
      rw [lrq] at hr6
      have s25 := s24.trans sm5
      refine ⟨_, item_t (j := 1) (s25 _ _ hte) rfl, r, LR S wt.name, wt.lag, rfl, hr6, by rw [LR_len L.toLev hwt]; exact n2, fun H6 sm6 => ?_⟩
      have s26 := s25.trans sm6
      have hr7 := sm6 _ _ hr6
      have hp6 := s26 _ _ hp2
      have kp6 : ∀ b o, b ≠ p → H1 b = some o → H6 b = some o := fun b o nb e => s26 _ _ (kp b o nb e)
      have rp : r ≠ p := fun z => by rw [z, s24 _ _ hp2] at hr5; cases hr5
      have hr0 : H r = none := by
        have h2r : H2 r = none := Same.free s24 hr5
        exact fresh H2 r kp h2r rp
      have hrow6 : ∀ nm' ∈ ys.take i, ∃ q' : Addr, H q' = none ∧ q' ≠ p ∧ valV kvs (.inr nm') = some (.ref q') ∧ H6 q' = some (.lst ((LR S nm').map V.int)) := fun nm' hn' => let ⟨q', e1, e2, e3, e4⟩ := hrow nm' hn'; ⟨q', e1, e2, e3, s26 _ _ e4⟩
      cases ea : earlyAt (LR S wt.name) wt.lag with
      | some d =>
        have hd := earlyF_some ea
        have hdl : d < (LR S wt.name).length := hd.1
        have eg : (LR S wt.name)[d]? = some ((LR S wt.name).getD d 0) := by rw [List.getD_eq_getElem?_getD, List.getElem?_eq_getElem hdl]; rfl
        show if (!decide (V.int (d : Int) = V.non)) = true then _ else _
        rw [if_pos (by rw [decide_eq_false (fun z => by cases z)]; rfl)]
        refine ⟨.int ((LR S wt.name).getD d 0), item_l hr7 (by rw [List.getElem?_map, eg]; rfl), by decide, fun t ht => ?_⟩
        have tp : t ≠ p := fun z => by rw [z, hp6] at ht; cases ht
        have u7 := same_upd (o := .tup [.str "short", .ref p, .str wt.name, .int d, .int ((LR S wt.name).getD d 0)]) ht
        have kp7 : ∀ b o, b ≠ p → H1 b = some o → upd H6 t (.tup [.str "short", .ref p, .str wt.name, .int d, .int ((LR S wt.name).getD d 0)]) b = some o := fun b o nb e => u7 _ _ (kp6 b o nb e)
        exact k t p ys i _ (fresh H6 t kp6 ht tp) hp tp sb ⟨kvs, u7 _ _ hp6, hks, fun nm' hn' => let ⟨q', e1, e2, e3, e4⟩ := hrow6 nm' hn'; ⟨q', e1, e2, e3, u7 _ _ e4⟩, hap⟩ hne (keepT _ kp7) (keepB _ kp7) (.inr ⟨wt, d, hwt, en, ea, upd_same⟩)
      | none =>
        show if (!decide (V.non = V.non)) = true then _ else _
        rw [if_neg (by decide)]
        have hkl : kvs.length ≤ 64 := by
          have := congrArg List.length hks
          rw [List.length_map, List.length_map, List.length_take] at this
          omega
        refine ⟨kvs, .inr wt.name, rfl, hp6, Nat.lt_of_le_of_lt hkl (by decide), _, _, _, _, rfl, ⟨_, upd_same, ?_, fun nm' hn' => ?_, fun nm1 hn1 nm2 hn2 q1' v1 v2 => ?_⟩, fun w' hw' hn' => ?_, fun b o nb e => by rw [upd_ne nb]; exact kp6 b o nb e⟩
        · have nn : valV kvs (.inr wt.name) = none := by
            cases e : valV kvs (.inr wt.name) with
            | none => rfl
            | some z =>
              have h3 := valV_in e
              rw [hks] at h3
              obtain ⟨y, hy, e2⟩ := List.mem_map.mp h3
              rw [Sum.inr.inj e2] at hy
              exact absurd hy (take_nin' ndy en)
          rw [putK_new _ nn, List.map_append, hks, List.take_add_one, en, List.map_append]
          rfl
        · rw [List.take_add_one, en] at hn'
          rcases List.mem_append.mp hn' with z | z
          · obtain ⟨q', e1, e2, e3, e4⟩ := hrow6 nm' z
            refine ⟨q', e1, e2, by rw [valV_put, if_neg (fun z2 => take_nin' ndy en (by rw [← Sum.inr.inj z2]; exact z))]; exact e3, by rw [upd_ne e2]; exact e4⟩
          · have e : nm' = wt.name := by simpa using z
            subst e
            exact ⟨r, hr0, rp, by rw [valV_put, if_pos rfl], by rw [upd_ne rp]; exact hr7⟩
        · have old : ∀ nm' ∈ ys.take i, ∀ q' : Addr, valV (putK kvs (.inr wt.name) (.ref r)) (.inr nm') = some (.ref q') → valV kvs (.inr nm') = some (.ref q') ∧ q' ≠ r := fun nm' hn' q' e => by
            rw [valV_put, if_neg (fun z2 => take_nin' ndy en (by rw [← Sum.inr.inj z2]; exact hn'))] at e
            refine ⟨e, fun z => ?_⟩
            obtain ⟨q2', _, _, e3, e4⟩ := hrow nm' hn'
            rw [e] at e3
            cases e3
            rw [z, Same.free s24 hr5] at e4
            cases e4
          have new : ∀ nm', nm' ∈ ys.take (i + 1) → nm' ∈ ys.take i ∨ nm' = wt.name := fun nm' hn' => by
            rw [List.take_add_one, en] at hn'
            rcases List.mem_append.mp hn' with z | z
            · exact .inl z
            · exact .inr (by simpa using z)
          rcases new nm1 hn1 with z1 | z1 <;> rcases new nm2 hn2 with z2 | z2
          · exact hap nm1 z1 nm2 z2 q1' (old nm1 z1 q1' v1).1 (old nm2 z2 q1' v2).1
          · rw [z2, valV_put, if_pos rfl] at v2
            cases v2
            exact absurd rfl (old nm1 z1 _ v1).2
          · rw [z1, valV_put, if_pos rfl] at v1
            cases v1
            exact absurd rfl (old nm2 z2 _ v2).2
          · rw [z1, z2]
        · rw [List.take_add_one, en] at hn'
          rcases List.mem_append.mp hn' with z | z
          · exact hne w' hw' z
          · have e : w'.name = wt.name := by simpa using z
            rw [ware_same L.nd hw' hwt e]
            exact ea
    · obtain ⟨o2, o3, o4, o5, rfl, hrow, hne, kp⟩ := h
      rw [List.length_map] at hrow hne
      walk_at "rd"
      refine ⟨by decide, fun t ht => ?_⟩
      obtain ⟨kvs, hp2, hks, hr2, hap⟩ := hrow
      have tp : t ≠ p := fun z => by rw [z, hp2] at ht; cases ht
      have u7 := same_upd (o := .tup [.str "plan", .ref p]) ht
      have kp7 : ∀ b o, b ≠ p → H1 b = some o → upd H2 t (.tup [.str "plan", .ref p]) b = some o := fun b o nb e => u7 _ _ (kp b o nb e)
      exact k t p ys ys.length _ (fresh H2 t kp ht tp) hp tp sb ⟨kvs, u7 _ _ hp2, hks, fun nm' hn' => let ⟨q', e1, e2, e3, e4⟩ := hr2 nm' hn'; ⟨q', e1, e2, e3, u7 _ _ e4⟩, hap⟩ hne (keepT _ kp7) (keepB _ kp7) (.inl ⟨rfl, upd_same⟩)
end
set_option maxRecDepth 100000
set_option maxHeartbeats 4000000
section
variable {P : Program} {w : World} {K : PySem.W.Frag} {mg : Str → Option Value} {base : Heap} {Pt : Addr}
def sp_times (Pt : Addr) : Sp := fun vs H Q _ => ∃ (v : V) (S : Sh), vs = [v] ∧ RD H S.d v ∧ LevOk S ∧ Tb H Pt ∧ ∀ p ys H', H p = none → H' p = some (.dK (fnD ys (tm S))) → ys.Perm (namesS S) → Tb H' Pt → But Pt H H' → Q (.ref p) H'
def TimeInv (v : V) (p : Addr) (S : Sh) (ys : List Str) (Pt : Addr) (H : Hp) (j : Nat) (σ : St) (H' : Hp) : Prop := ∃ o1 o2 : Option V, σ = [some v, some (.ref p), o1, o2] ∧ H' p = some (.dK (fnD (ys.reverse.take j) (tm S))) ∧ Tb H' Pt ∧ But Pt H H'
theorem sc_times : FnScope ["shop", "told", "name", "ware"] ["shop"] (defScope s_times) := ⟨rfl, rfl, rfl, by decide +kernel, rfl, by decide +kernel, by decide +kernel⟩
theorem ok_times {f : Addr} {fd : FuncData} (F : Fun K "times" "times" s_times f fd) (T : Txt mg) (h_worked : Has P w K mg base "worked" 6 ["shop"] (sp_worked Pt)) (h_ware_of : Has P w K mg base "ware_of" 1 ["shop", "name"] sp_ware_of) (h_part_names : Has P w K mg base "part_names" 1 ["ware"] sp_part_names) : FnOk P w K mg base CX0 7 f fd ["shop"] (sp_times Pt) := by
  refine F.ok sc_times (fun vs H Q E h => ?_) (fun cdv A outer s H vs Q E hr h => ?_)
  · obtain ⟨v, S, rfl, _⟩ := h
    rfl
  · obtain ⟨v, S, rfl, rs, L, tb, k⟩ := h
    have hu := hu_of hr
    refine ⟨_, (pss_cons (ps_set (i := 1) sc_times.nd rfl (Or.inr rfl) pe_dnewK)
 (pss_cons (ps_for PassesOwn.never rfl (pi_rev rfl T.n_reversed (pa_e (pe_callS h_worked (hr.mono (by decide)) rfl (pa_e (pv 0) pa_nil)) pa_nil)) (pg_name (i := 2) sc_times.nd rfl (Or.inl rfl))
 (pss_cons (ps_set (i := 3) sc_times.nd rfl (Or.inl rfl) (pe_callS h_ware_of (hr.mono (by decide)) rfl (pa_e (pv 0) (pa_e (pv 2) pa_nil))))
 (pss_one (ps_asg (pe_op op_add (pe_item hu (pv 3) (pe_globI rfl T.g_LAG) (fun _ _ => rfl)) (pe_maxd rfl rfl T.n_max (pe_comp (own := ["part"]) (cap := [1]) rfl (cp_ok rfl) (gown_name (by decide)) (pi_lst (pe_callS h_part_names (hr.mono (by decide)) rfl (pa_e (pv 3) pa_nil)))
 (fun _ _ _ _ _ _ => ⟨(pg_name (i := 0) (of_decide_eq_true rfl) rfl (Or.inl rfl) (.inr rfl)), pts_nil, (pe_item hu (pv 1) (pv 0) (fun _ _ => rfl))⟩)))) (pg_sub (pv 1) (pv 2) (set_dict hu))))))
 (pss_one (ps_ret (pv 1))))), ?_⟩
    have hfew := L.few
    walk_at "rd"
    intro p hp
    have u0 := same_upd (o := .dK []) hp
    refine ⟨v, S, rfl, RD.same u0 _ _ rs, L, tb.same u0, fun q ys H1 hq hq1 so _ tb1 bt => ⟨q, rfl, _, hq1, ?_⟩⟩
    have pPt : p ≠ Pt := fun z => by obtain ⟨u, e⟩ := tb.at; rw [← z, hp] at e; cases e
    have hp1 : H1 p = some (.dK []) := bt _ _ pPt upd_same
    have bt0 : But Pt H H1 := fun b o nb e => bt b o nb (u0 b o e)
    have so' : SortK (lv S) (S.wares.map (·.name)) ys := so
    have hyl : ys.length = S.wares.length := by rw [so.1.length_eq, namesS_len]
    have ndy : ys.reverse.Nodup := ((List.reverse_perm ys).trans so.1).nodup_iff.mpr L.nd
    have qp : q ≠ p := fun z => by rw [z, upd_same] at hq; cases hq
    refine for_w (goesV q _) (fun j σ H' => TimeInv v p S ys Pt H j σ H' ∧ H' q = some (.lst (ys.map V.str))) ⟨⟨_, _, rfl, hp1, tb1, bt0⟩, hq1⟩ (fun j σ H' _ h => h.2) (fun j x σ H2 hj hx h => ?_) (fun σ H2 h => ?_)
    · obtain ⟨⟨o1, o2, rfl, hp2, tb2, bt2⟩, hq2⟩ := h
      rw [List.length_map] at hj
      rw [← List.map_reverse, List.getElem?_map] at hx
      cases en : ys.reverse[j]? with
      | none => rw [en] at hx; cases hx
      | some nm =>
      rw [en] at hx
      have hx : V.str nm = x := Option.some.inj hx
      subst hx
      have hnm : nm ∈ S.wares.map (·.name) := so.1.mem_iff.mp (List.mem_reverse.mp (List.mem_of_getElem? en))
      have rs2 := RD.ku (tb_ku tb bt2) _ _ (nl_shop S) rs
      walk_at "rd"
      refine ⟨v, S, nm, rfl, rs2, L.ok, hnm, fun t wt hwt ewt rt => ?_⟩
      subst ewt
      obtain ⟨te, d1, d2, rfl, hte, _⟩ := ware_at rt
      refine ⟨_, item_t (j := 1) hte rfl, .ref te, wt, rfl, rt, L.ok.wares wt hwt, fun r H3 hr3 hr4 sm3 => ⟨r, rfl, _, hr4, ?_⟩⟩
      have hp3 := sm3 _ _ hp2
      have hpl := (L.ok.wares wt hwt).1
      have ap : ∀ pp ∈ wt.parts, pp.1 ∈ ys.reverse.take j := fun pp hpp => parts_ahead L.toLev so' hwt en hpp
      refine comp_map (goesL r _) (line1000 (by rw [List.length_map, List.length_map]; exact hpl)) (fun H' s' => s' _ _ hr4) ((wt.parts.map fun pp => tm S pp.1).map V.int) (by rw [List.length_map, List.length_map, List.length_map, List.length_map]) (fun i y H' hi hy s' N M hN => ?_) (fun H4 s4 z hz => ?_)
      · rw [List.getElem?_map, List.getElem?_map] at hy
        cases ep : wt.parts[i]? with
        | none => rw [ep] at hy; cases hy
        | some pp =>
        rw [ep] at hy
        have hy : V.str pp.1 = y := Option.some.inj hy
        subst hy
        walk_at "rd"
        exact ⟨_, item_d (.inl (s' _ _ hp3)) (fnD_val (ap pp (List.mem_of_getElem? ep))), hN _ _ s' (by rw [List.getElem?_map, List.getElem?_map, ep]; rfl)⟩
      · have s5 := (sm3.trans s4).trans (same_upd (o := .lst ((wt.parts.map fun pp => tm S pp.1).map V.int)) hz)
        have hp5 := s5 _ _ hp2
        have hq5 := s5 _ _ hq2
        have tb5 := tb2.same s5
        refine ⟨z, rfl, _, upd_same, ?_⟩
        generalize upd H4 z (.lst ((wt.parts.map fun pp => tm S pp.1).map V.int)) = H5 at s5 hp5 hq5 tb5
        refine ⟨_, rfl, _, .inr wt.name, rfl, hp5, ?_, ⟨_, _, rfl, ?_, ?_, fun b o nb e => ?_⟩, by rw [upd_ne qp]; exact hq5⟩
        · rw [fnD_len, List.length_take, List.length_reverse]
          exact Nat.lt_of_le_of_lt (m := 1000) (by omega) (by decide)
        · rw [upd_same, ← tm_eq L.toLev hwt, fnD_new (take_nin' ndy en), List.take_add_one, en]
          exact congrArg (fun z => some (HO.dK z)) (fnD_congr fun x _ => by split <;> rename_i e <;> first | rw [e] | rfl)
        · rcases tb5 with e | ⟨c, e, e2⟩
          · exact .inl (by rw [upd_ne (Ne.symm pPt)]; exact e)
          · exact .inr ⟨c, by rw [upd_ne (Ne.symm pPt)]; exact e, by rw [upd_ne (fun z => by rw [z, hp5] at e2; cases e2)]; exact e2⟩
        · rw [upd_ne (ne_of_none e hp)]
          exact s5 _ _ (bt2 _ _ nb e)
    · obtain ⟨⟨o1, o2, rfl, hp2, tb2, bt2⟩, hq2⟩ := h
      rw [List.length_map, ← List.length_reverse, List.take_length] at hp2
      walk_at "rd"
      exact k p ys.reverse H2 hp hp2 ((List.reverse_perm ys).trans so.1) tb2 bt2
def offW (d : Int) (p : Wt) : Wt := (p.1, p.2.1 + d, p.2.2)
def OffInv (S : Sh) (d : Int) (H : Hp) (i : Nat) (acc : List V) (H' : Hp) : Prop := acc.length = i ∧ RDs H' ((S.wants.take i).map fun p => wantD (offW d p)) acc ∧ Same H H'
def sp_put_off : Sp := fun vs H Q _ => ∃ (v : V) (S : Sh) (d : Int), vs = [v, .int d] ∧ RD H S.d v ∧ ShOk S ∧ NoRing S ∧ S.wants.length ≤ 1000 ∧ ∀ x H', RD H' (Sh.d ⟨S.wares, S.wants.map (offW d)⟩) x → Same H H' → Q x H'
theorem sc_put_off : FnScope ["shop", "days", "later"] ["shop", "days"] (defScope s_put_off) := ⟨rfl, rfl, rfl, by decide +kernel, rfl, by decide +kernel, by decide +kernel⟩
theorem ok_put_off {f : Addr} {fd : FuncData} (F : Fun K "put_off" "put_off" s_put_off f fd) (T : Txt mg) (h_check_rings : Has P w K mg base "check_rings" 4 ["shop"] sp_check_rings) : FnOk P w K mg base CX0 5 f fd ["shop", "days"] sp_put_off := by
  refine F.ok sc_put_off (fun vs H Q E h => ?_) (fun cdv A outer s H vs Q E hr h => ?_)
  · obtain ⟨v, S, d, rfl, _⟩ := h
    rfl
  · obtain ⟨v, S, d, rfl, rs, ok, no, hw, k⟩ := h
    have hu := hu_of hr
    refine ⟨_, (pss_cons (ps_expr (pe_callS h_check_rings (hr.mono (by decide)) rfl (pa_e (pv 0) pa_nil)))
 (pss_cons (ps_setcomp (own := ["want"]) (cap := [1]) (i := 2) rfl (cp_ok rfl) (gown_name (by decide)) sc_put_off.nd rfl rfl (pi_tpl (pe_item hu (pv 0) pe_int (fun _ _ => rfl)))
 (fun _ _ _ _ _ _ => ⟨(pg_name (i := 0) (of_decide_eq_true rfl) rfl (Or.inl rfl) (.inr rfl)), pts_nil, (pe_tup (pa_e (pe_item hu (pv 0) (pe_globI rfl T.g_WANT_NAME) (fun _ _ => rfl)) (pa_e (pe_op op_add (pe_item hu (pv 0) (pe_globI rfl T.g_WANT_DAY) (fun _ _ => rfl)) (pv 1)) (pa_e (pe_item hu (pv 0) (pe_globI rfl T.g_WANT_AMOUNT) (fun _ _ => rfl)) pa_nil))))⟩))
 (pss_one (ps_ret (pe_tup (pa_e (pe_item hu (pv 0) pe_int (fun _ _ => rfl)) (pa_e (pe_callTS call_tupleA rfl T.n_tuple bt_tuple (pa_e (pv 2) pa_nil)) pa_nil))))))), ?_⟩
    refine cut2 (fun σ' H' => ∃ (l : Addr) (acc : List V), σ' = [some v, some (.int d), some (.ref l)] ∧ H' l = some (.lst acc) ∧ RDs H' (S.wants.map fun p => wantD (offW d p)) acc ∧ Same H H') ?_ (fun KK hK => ?_)
    · rintro σ' H1 ⟨l, acc, rfl, hl, racc, sm⟩
      obtain ⟨a, b, c, ws, us, rfl, ha, hb, hc, rws, rus⟩ := shop_at rs
      walk_at "rd"
      refine ⟨_, item_t (j := 0) (sm _ _ ha) rfl, acc, .inl ⟨hl, fun t ht => ?_⟩⟩
      have s1 := same_upd (o := .tup acc) ht
      refine ⟨by show 2 ≤ sizeLine; decide, fun r hr' => ?_⟩
      have s2 := s1.trans (same_upd (o := .tup [.ref b, .ref t]) hr')
      refine k _ _ ?_ (sm.trans s2)
      unfold Sh.d
      refine RD.tup_mk upd_same (RDs.cons (RD.tup_mk (s2 _ _ (sm _ _ hb)) (RDs.same (sm.trans s2) _ _ rws)) (RDs.one (RD.tup_mk (xs := acc) ?_ ?_)))
      · rw [upd_ne (ne_of_none upd_same hr'), upd_same]
      · rw [List.map_map]
        exact RDs.same s2 _ _ racc
    · walk_at "rd"
      refine ⟨v, S, rfl, rs, ok, no, fun H1 sm => ?_⟩
      obtain ⟨a, b, c, ws, us, rfl, ha, hb, hc, rws, rus⟩ := shop_at rs
      have hl := rds_len rus
      refine ⟨_, item_t (j := 1) (sm _ _ ha) rfl, c, rfl, _, sm _ _ hc, ?_⟩
      refine comp_w (goesT c _) (line1000 (by rw [hl]; exact hw)) (OffInv S d H) ⟨rfl, RDs.nil, sm⟩ (fun i acc H' _ h => h.2.2 _ _ hc) (fun i acc H' h => Nat.le_of_eq h.1) (fun i x acc H' hi hx h => ?_) (fun acc H' h p hp => ?_)
      · obtain ⟨h1, h2, h3⟩ := h
        obtain ⟨y, hy, ry⟩ := rds_map rus hx
        obtain ⟨e, rfl, he⟩ := want_at ry
        have he' := h3 _ _ he
        walk_at "rd"
        refine ⟨_, item_t (j := 0) he' rfl, _, item_t (j := 1) he' rfl, _, rfl, _, item_t (j := 2) he' rfl, by show 3 ≤ sizeLine; decide, fun t ht => ?_⟩
        have s1 := same_upd (o := .tup [.str y.1, .int (y.2.1 + d), .int y.2.2]) ht
        refine ⟨by simp [h1], ?_, h3.trans s1⟩
        rw [List.take_add_one, hy, List.map_append]
        refine RDs.app (RDs.same s1 _ _ h2) (RDs.one ?_)
        exact RD.tup_mk upd_same (RDs.cons RD.str_mk (RDs.cons RD.int_mk (RDs.one RD.int_mk)))
      · obtain ⟨h1, h2, h3⟩ := h
        rw [hl, List.take_length] at h2
        exact hK _ _ ⟨p, acc, rfl, upd_same, RDs.same (same_upd hp) _ _ h2, h3.trans (same_upd hp)⟩
theorem early_of {row : List Int} {lag : Int} : ∀ {n : Nat}, (∀ e, e < n → ¬ ((e : Int) < lag ∧ 0 < row.getD e 0)) → earlyF row lag n = none
  | 0, _ => rfl
  | n + 1, h => by
    rw [earlyF, early_of fun e he => h e (by omega)]
    show (if (n : Int) < lag ∧ 0 < row.getD n 0 then some n else none) = none
    rw [if_neg (h n (by omega))]
def noS (S : Sh) : Sh := ⟨S.wares, []⟩
def offS (n : Int) (S : Sh) : Sh := ⟨S.wares, S.wants.map (offW n)⟩
def plansOk (S : Sh) : Prop := ∀ w ∈ S.wares, earlyAt (LR S w.name) w.lag = none
theorem lev_wares {S S' : Sh} (h : Lev S) (e : S'.wares = S.wares) : Lev S' := by
  obtain ⟨ws, us⟩ := S
  obtain ⟨ws', us'⟩ := S'
  obtain rfl : ws' = ws := e
  exact ⟨h.nd, h.own, h.low⟩
theorem max0_le {ns : List Int} {b : Int} (hb : 0 ≤ b) (h : ∀ x ∈ ns, x ≤ b) : max0 ns ≤ b := by
  have := max0_lt (b := b + 1) (by omega) fun x hx => by have := h x hx; omega
  omega
theorem tmF_nn {S : Sh} (hl : ∀ w ∈ S.wares, 0 ≤ w.lag) : ∀ k x, 0 ≤ tmF S k x
  | 0, x => Int.le_refl _
  | k + 1, x => by
    rw [tmF]
    split
    · rename_i w hw
      have h1 := hl w (wareN_mem hw).1
      have h2 := max0_nn (ns := w.parts.map fun p => tmF S k p.1) (fun y hy => by obtain ⟨p, _, rfl⟩ := List.mem_map.mp hy; exact tmF_nn hl k p.1)
      omega
    · exact Int.le_refl _
theorem tmF_le {S : Sh} (hl : ∀ w ∈ S.wares, 0 ≤ w.lag ∧ w.lag ≤ 30) : ∀ (k : Nat) x, tmF S k x ≤ 30 * k
  | 0, x => by rw [tmF]; omega
  | k + 1, x => by
    rw [tmF]
    split
    · rename_i w hw
      have h1 := hl w (wareN_mem hw).1
      have h2 := max0_le (ns := w.parts.map fun p => tmF S k p.1) (b := 30 * k) (by omega) (fun y hy => by obtain ⟨p, _, rfl⟩ := List.mem_map.mp hy; exact tmF_le hl k p.1)
      omega
    · omega
theorem tm_part {S : Sh} (L : Lev S) {t : Wr} (ht : t ∈ S.wares) {p : Str × Int} (hp : p ∈ t.parts) : t.lag + tm S p.1 ≤ tm S t.name := by
  rw [tm_eq L ht]
  have := max0_ge (ns := t.parts.map fun p => tm S p.1) (List.mem_map.mpr ⟨p, hp, rfl⟩)
  omega
theorem tm_lag {S : Sh} (L : Lev S) (hl : ∀ w ∈ S.wares, 0 ≤ w.lag) {t : Wr} (ht : t ∈ S.wares) : t.lag ≤ tm S t.name := by
  rw [tm_eq L ht]
  have := max0_nn (ns := t.parts.map fun p => tm S p.1) (fun y hy => by obtain ⟨p, _, rfl⟩ := List.mem_map.mp hy; exact tmF_nn hl _ p.1)
  omega
theorem days_no (S : Sh) : daysN (noS S) = 1 := rfl
theorem getD_over {xs : List Int} {d : Nat} (h : xs.length ≤ d) : xs.getD d 0 = 0 := by
  rw [List.getD_eq_getElem?_getD, List.getElem?_eq_none h]
  rfl
theorem bAt_get (row : List Int) (lag : Int) (d : Nat) : bAt row lag d = row.getD (d + lag.toNat) 0 := by
  unfold bAt
  split
  · rfl
  · rw [getD_over (by omega)]
theorem need_off {S : Sh} {T : Int} {plan plan0 : Str → List Int} {nm : Str} {d : Nat} (hd : ∀ u ∈ S.wants, (d : Int) < u.2.1 + T) (h : ∀ t ∈ S.wares, ∀ p ∈ t.parts, p.1 = nm → bAt (plan t.name) t.lag d = bAt (plan0 t.name) t.lag d) : needAt (offS T S) plan nm d = needAt (noS S) plan0 nm d := by
  unfold needAt
  have e1 : sumF (wAt nm d) (offS T S).wants = 0 := sumF_zero fun x hx => by
    obtain ⟨u, hu, rfl⟩ := List.mem_map.mp hx
    have := hd u hu
    unfold wAt offW
    rw [if_neg (fun z => by have := z.2; simp only at this; omega)]
  have e2 : sumF (wAt nm d) (noS S).wants = 0 := rfl
  rw [e1, e2]
  congr 1
  refine sumF_congr fun t ht => ?_
  unfold pAt
  refine sumF_congr fun p hp => ?_
  by_cases e : p.1 = nm
  · rw [if_pos e, if_pos e, h t ht p hp e]
  · rw [if_neg e, if_neg e]
theorem off_rows {S : Sh} (L : Lev S) (E : PlOk S) (hl : ∀ w ∈ S.wares, 0 ≤ w.lag) {T : Int} (hT : ∀ w ∈ S.wares, tm S w.name ≤ T) (hw0 : ∀ u ∈ S.wants, 0 ≤ u.2.1) (h1 : 1 ≤ daysN (offS T S)) : ∀ n : Nat, ∀ w ∈ S.wares, lv S w.name ≤ n → 0 < tm S w.name →
    (LR (offS T S) w.name).getD 0 0 = (LR (noS S) w.name).getD 0 0 ∧ ∀ d : Nat, 0 < d → (d : Int) < tm S w.name → (LR (offS T S) w.name).getD d 0 = 0 := by
  intro n
  induction n using Nat.strongRecOn with
  | _ n ih =>
  intro w hw hlv ht
  have L1 : Lev (offS T S) := lev_wares L rfl
  have L0 : Lev (noS S) := lev_wares L rfl
  have hTw := hT w hw
  have user : ∀ t ∈ S.wares, ∀ p ∈ t.parts, p.1 = w.name → ∀ d : Nat, (d : Int) < tm S w.name → bAt (LR (offS T S) t.name) t.lag d = if d + t.lag.toNat = 0 then (LR (noS S) t.name).getD 0 0 else 0 := fun t htm p hp e d hd => by
    have q1 := lv_part L htm hp
    have q2 := tm_part L htm hp
    rw [e] at q1 q2
    have q3 := lv_nn S t.name
    have q4 := hl t htm
    obtain ⟨a1, a2⟩ := ih (lv S t.name).toNat (by omega) t htm (by omega) (by omega)
    rw [bAt_get]
    by_cases z : d + t.lag.toNat = 0
    · rw [if_pos z, z]; exact a1
    · rw [if_neg z]; exact a2 _ (by omega) (by omega)
  have nd0 : needAt (offS T S) (LR (offS T S)) w.name 0 = needAt (noS S) (LR (noS S)) w.name 0 := need_off (fun u hu => by have := hw0 u hu; omega) fun t htm p hp e => by
    rw [user t htm p hp e 0 (by omega), bAt_get]
    by_cases z : 0 + t.lag.toNat = 0
    · rw [if_pos z, z]
    · rw [if_neg z, getD_over (by rw [LR_len L0 htm, days_no]; omega)]
  have ndd : ∀ d : Nat, 0 < d → (d : Int) < tm S w.name → needAt (offS T S) (LR (offS T S)) w.name d = 0 := fun d d0 d1 => by
    rw [need_off (plan0 := fun _ => []) (fun u hu => by have := hw0 u hu; omega) fun t htm p hp e => by
      rw [user t htm p hp e d d1, if_neg (by omega), bAt_get]
      rfl]
    unfold needAt
    rw [show sumF (wAt w.name d) (noS S).wants = 0 from rfl, sumF_zero fun t htm => ?_]
    · rfl
    · unfold pAt
      exact sumF_zero fun p hp => by
        rw [bAt_get]
        split
        · exact Int.mul_zero _
        · rfl
  have E1 := (E.wb w hw).1.1
  refine ⟨?_, fun d d0 d1 => ?_⟩
  · rw [LR_eq L1 (show w ∈ (offS T S).wares from hw), LR_eq L0 (show w ∈ (noS S).wares from hw), lots_getD (by omega), lots_getD (by rw [days_no]; omega)]
    have x1 : (rowOf (daysN (offS T S)) (arrAt w)).getD 0 0 = arrAt w 0 := rowOf_getD (by omega)
    have x0 : (rowOf (daysN (noS S)) (arrAt w)).getD 0 0 = arrAt w 0 := rowOf_getD (by rw [days_no]; omega)
    have y1 : (needsRow (offS T S) (LR (offS T S)) w.name).getD 0 0 = needAt (offS T S) (LR (offS T S)) w.name 0 := rowOf_getD (by omega)
    have y0 : (needsRow (noS S) (LR (noS S)) w.name).getD 0 0 = needAt (noS S) (LR (noS S)) w.name 0 := rowOf_getD (by rw [days_no]; omega)
    show lotsOf (-(-w.floor + ((rowOf (daysN (offS T S)) (arrAt w)).getD 0 0 - (needsRow (offS T S) (LR (offS T S)) w.name).getD 0 0))) w.gives = lotsOf (-(-w.floor + ((rowOf (daysN (noS S)) (arrAt w)).getD 0 0 - (needsRow (noS S) (LR (noS S)) w.name).getD 0 0))) w.gives
    rw [x1, x0, y1, y0, nd0]
  · by_cases hd : d < daysN (offS T S)
    · rw [LR_eq L1 (show w ∈ (offS T S).wares from hw), lots_getD hd]
      obtain ⟨k, rfl⟩ : ∃ k, d = k + 1 := ⟨d - 1, by omega⟩
      have q1 := above_nn (f := w.floor) (g := w.gives) (xs := rowOf (daysN (offS T S)) (arrAt w)) (ys := needsRow (offS T S) (LR (offS T S)) w.name) (by omega) k
      have q2 := arrAt_nn E hw (k + 1)
      unfold lotAt
      refine lotsOf_none (by omega) ?_
      have q3 : (rowOf (daysN (offS T S)) (arrAt w)).getD (k + 1) 0 = arrAt w (k + 1) := rowOf_getD hd
      have q4 : (needsRow (offS T S) (LR (offS T S)) w.name).getD (k + 1) 0 = 0 := by unfold needsRow; rw [rowOf_getD hd, ndd _ d0 d1]
      rw [q3, q4]
      omega
    · exact getD_over (by rw [LR_len L1 (show w ∈ (offS T S).wares from hw)]; omega)
theorem late_enough {S : Sh} (L : Lev S) (E : PlOk S) (hl : ∀ w ∈ S.wares, 0 ≤ w.lag) {T : Int} (hT : ∀ w ∈ S.wares, tm S w.name ≤ T) (hw0 : ∀ u ∈ S.wants, 0 ≤ u.2.1) (h1 : 1 ≤ daysN (offS T S)) (h0 : plansOk (noS S)) : plansOk (offS T S) := fun w hw => by
  have hw : w ∈ S.wares := hw
  have ht := tm_lag L hl hw
  have hlw := hl w hw
  refine (show earlyF (LR (offS T S) w.name) w.lag (LR (offS T S) w.name).length = none from early_of fun e he c => ?_)
  obtain ⟨a1, a2⟩ := off_rows L E hl hT hw0 h1 (lv S w.name).toNat w hw (by have := lv_nn S w.name; omega) (by omega)
  by_cases z : e = 0
  · subst z
    rw [a1] at c
    have L0 : Lev (noS S) := lev_wares L rfl
    have q := earlyF_none (show earlyF (LR (noS S) w.name) w.lag (LR (noS S) w.name).length = none from h0 w hw) 0 (by rw [LR_len L0 hw, days_no]; omega)
    exact q c
  · rw [a2 e (by omega) (by omega)] at c
    omega
def DueInv (S : Sh) (d : Int) (H : Hp) (i : Nat) (acc : List V) (H' : Hp) : Prop := acc.length = i ∧ RDs H' ((S.wants.take i).map fun p => wantD (offW d p)) acc ∧ Same H H'
theorem Good.off {sz n : Int} {S : Sh} (g : Good sz S) (h : 0 ≤ n) : Good (sz + n) ⟨S.wares, S.wants.map (offW n)⟩ := by
  refine ⟨g.ws, g.len, fun w hw => ⟨(g.com w hw).1, fun y hy => ?_⟩, ⟨by rw [List.length_map]; exact g.wants.1, fun u hu => ?_⟩⟩
  · obtain ⟨⟨a, b⟩, c⟩ := (g.com w hw).2 y hy
    exact ⟨⟨a, by omega⟩, c⟩
  · obtain ⟨y, hy, rfl⟩ := List.mem_map.mp hu
    obtain ⟨q0, ⟨q1, q2⟩, q3⟩ := g.wants.2 y hy
    exact ⟨q0, ⟨by show 0 ≤ y.2.1 + n; omega, by show y.2.1 + n < sz + n; omega⟩, q3⟩
theorem Good.none {sz : Int} {S : Sh} (g : Good sz S) : Good sz (noS S) := ⟨g.ws, g.len, g.com, ⟨Nat.zero_le _, fun u hu => by cases hu⟩⟩
def sp_lets_plan (Pt : Addr) : Sp := fun vs H Q _ => ∃ (v : V) (S : Sh) (sz : Int), vs = [v] ∧ RD H S.d v ∧ Good sz S ∧ 0 < sz ∧ sz ≤ 1000 ∧ Tb H Pt ∧ ∀ (b : Bool) H', (b = true ↔ plansOk S) → Tb H' Pt → But Pt H H' → Q (.bl b) H'
theorem sc_lets_plan : FnScope ["shop"] ["shop"] (defScope s_lets_plan) := ⟨rfl, rfl, rfl, by decide +kernel, rfl, by decide +kernel, by decide +kernel⟩
theorem ok_lets_plan {f : Addr} {fd : FuncData} (F : Fun K "lets_plan" "lets_plan" s_lets_plan f fd) (T : Txt mg) (h_planned : Has P w K mg base "planned" 7 ["shop"] (sp_planned Pt)) : FnOk P w K mg base CX0 8 f fd ["shop"] (sp_lets_plan Pt) := by
  refine F.ok sc_lets_plan (fun vs H Q E h => ?_) (fun cdv A outer s H vs Q E hr h => ?_)
  · obtain ⟨v, S, sz, rfl, _⟩ := h
    rfl
  · obtain ⟨v, S, sz, rfl, rs, g, z0, z1, tb, k⟩ := h
    have hu := hu_of hr
    refine ⟨_, (pss_one (ps_ret (pe_cmpR (op_eqA hu) (pe_item hu (pe_callS h_planned (hr.mono (by decide)) rfl (pa_e (pv 0) pa_nil)) pe_int (fun _ _ => rfl)) pe_str (nomark _)))), ?_⟩
    walk_at "rd"
    refine ⟨v, S, sz, rfl, rs, g, z0, z1, tb, fun t p ys i H1 ht hp tp sb ra hne tb1 bt1 hcase => ?_⟩
    have so := stab_sort sb
    rcases hcase with ⟨hi, h1⟩ | ⟨wr, d, hwr, hi, hed, h1⟩
    · refine ⟨_, item_t (j := 0) h1 rfl, rfl, k _ H1 ⟨fun _ w hw => hne w hw ?_, fun _ => by decide⟩ tb1 bt1⟩
      rw [hi, List.take_length]
      exact so.1.mem_iff.mpr (List.mem_map.mpr ⟨w, hw, rfl⟩)
    · refine ⟨_, item_t (j := 0) h1 rfl, rfl, k _ H1 ⟨fun z => absurd z (by decide), fun z => by rw [z wr hwr] at hed; cases hed⟩ tb1 bt1⟩
def LateOk (S : Sh) (n : Int) : Prop := 0 ≤ n ∧ plansOk (noS S) ∧ plansOk (offS n S) ∧ (n = 0 ∨ ¬ plansOk (offS (n - 1) S)) ∧ ∃ w ∈ S.wares, n ≤ tm S w.name
def sp_late (Pt : Addr) : Sp := fun vs H Q _ => ∃ (v : V) (S : Sh) (sz : Int), vs = [v] ∧ RD H S.d v ∧ Good sz S ∧ 0 < sz ∧ sz ≤ 401 ∧ Tb H Pt ∧ (∀ H', ¬ plansOk (noS S) → Tb H' Pt → But Pt H H' → Q .non H') ∧ ∀ (n : Int) H', LateOk S n → Tb H' Pt → But Pt H H' → Q (.int n) H'
def LaInv (v : V) (S : Sh) (Pt : Addr) (M : Int) (H : Hp) (m : Nat) (σ : St) (H' : Hp) : Prop := ∃ (e l : Int) (o3 : Option V), m = (e - l).toNat ∧ σ = [some v, some (.int e), some (.int l), o3] ∧ 0 ≤ l ∧ l ≤ e ∧ e ≤ M ∧ plansOk (offS e S) ∧ (l = 0 ∨ ¬ plansOk (offS (l - 1) S)) ∧ Tb H' Pt ∧ But Pt H H'
theorem sc_late : FnScope ["shop", "enough", "least", "middle"] ["shop"] (defScope s_late) := ⟨rfl, rfl, rfl, by decide +kernel, rfl, by decide +kernel, by decide +kernel⟩
theorem ok_late {f : Addr} {fd : FuncData} (F : Fun K "late" "late" s_late f fd) (T : Txt mg) (h_lets_plan : Has P w K mg base "lets_plan" 8 ["shop"] (sp_lets_plan Pt)) (h_times : Has P w K mg base "times" 7 ["shop"] (sp_times Pt)) (h_put_off : Has P w K mg base "put_off" 5 ["shop", "days"] sp_put_off) : FnOk P w K mg base CX0 9 f fd ["shop"] (sp_late Pt) := by
  refine F.ok sc_late (fun vs H Q E h => ?_) (fun cdv A outer s H vs Q E hr h => ?_)
  · obtain ⟨v, S, sz, rfl, _⟩ := h
    rfl
  · obtain ⟨v, S, sz, rfl, rs, g, z0, z1, tb, k1, k2⟩ := h
    have hu := hu_of hr
    refine ⟨_, (pss_cons (ps_if (pt_not (pt_val (pe_callS h_lets_plan (hr.mono (by decide)) rfl (pa_e (pe_tup (pa_e (pe_item hu (pv 0) pe_int (fun _ _ => rfl)) (pa_e (pe_tup pa_nil) pa_nil))) pa_nil)))) (pss_one (ps_ret pe_non)) pss_nil)
 (pss_cons (ps_set (i := 1) sc_late.nd rfl (Or.inl rfl) (pe_maxVals rfl rfl T.n_max (pe_callS h_times (hr.mono (by decide)) rfl (pa_e (pv 0) pa_nil))))
 (pss_cons (ps_set (i := 2) sc_late.nd rfl (Or.inl rfl) pe_int)
 (pss_cons (ps_while PassesOwn.never (pt_cmpR (op_ltA hu) (pv 2) (pv 1) (nomark _)) (pss_cons (ps_set (i := 3) sc_late.nd rfl (Or.inl rfl) (pe_op op_fdivL (pe_op op_add (pv 2) (pv 1)) pe_int))
 (pss_one (ps_if (pt_val (pe_callS h_lets_plan (hr.mono (by decide)) rfl (pa_e (pe_callS h_put_off (hr.mono (by decide)) rfl (pa_e (pv 0) (pa_e (pv 3) pa_nil))) pa_nil))) (pss_one (ps_set (i := 1) sc_late.nd rfl (Or.inl rfl) (pv 3))) (pss_one (ps_set (i := 2) sc_late.nd rfl (Or.inl rfl) (pe_op op_add (pv 3) pe_int)))))))
 (pss_one (ps_ret (pv 1))))))), ?_⟩
    walk_at "rd"
    obtain ⟨sa, sb, sc, ws, us, ev, ha, hb, hc, rws, rus⟩ := shop_at rs
    have L := good_lev g
    have E := good_pl g
    have hl : ∀ w ∈ S.wares, 0 ≤ w.lag ∧ w.lag ≤ 30 := fun w hw => (g.ws.wb w hw).lag
    have hfew := g.len
    refine ⟨_, by rw [ev]; exact item_t (j := 0) ha rfl, by decide, fun p hp => ⟨by decide, fun q hq => ?_⟩⟩
    have u1 := same_upd (o := .tup []) hp
    have u2 := same_upd (o := .tup [.ref sb, .ref p]) hq
    have s2 := u1.trans u2
    have rs0 : RD (upd (upd H p (.tup [])) q (.tup [.ref sb, .ref p])) (noS S).d (.ref q) := by
      unfold noS Sh.d
      exact RD.tup_mk upd_same (RDs.cons (RD.tup_mk (s2 _ _ hb) (RDs.same s2 _ _ rws)) (RDs.one (RD.tup_mk (xs := []) (u2 _ _ upd_same) RDs.nil)))
    generalize upd (upd H p (.tup [])) q (.tup [.ref sb, .ref p]) = H2 at s2 rs0
    refine ⟨.ref q, noS S, sz, rfl, rs0, g.none, z0, by omega, tb.same s2, fun b H3 hb3 tb3 bt3 => ⟨b, rfl, ?_⟩⟩
    have bt03 : But Pt H H3 := (same_but s2).trans bt3
    have rs3 := RD.ku (tb_ku tb bt03) _ _ (nl_shop S) rs
    refine ite2 (fun c => ?_) (fun c => ?_)
    · exact k1 H3 (fun z => by rw [hb3.mpr z] at c; cases c) tb3 bt03
    have h0 : plansOk (noS S) := hb3.mp (by cases b with | true => rfl | false => exact absurd rfl c)
    refine ⟨v, S, rfl, rs3, L, tb3, fun p4 ys H4 hp4 hd4 pm tb4 bt4 => ⟨p4, rfl, _, hd4, ys.map (tm S), ?_, ?_, ?_⟩⟩
    · unfold fnD
      rw [List.map_map, List.map_map]
      rfl
    · intro z
      have := congrArg List.length z
      rw [List.length_map, pm.length_eq, namesS_len, List.length_nil] at this
      omega
    have bt04 := bt03.trans bt4
    have hne : ys.map (tm S) ≠ [] := fun z => by
      have := congrArg List.length z
      rw [List.length_map, pm.length_eq, namesS_len, List.length_nil] at this
      omega
    have mge : ∀ w ∈ S.wares, tm S w.name ≤ maxL (ys.map (tm S)) := fun w hw => maxL_ge (List.mem_map.mpr ⟨w.name, pm.mem_iff.mpr (List.mem_map.mpr ⟨w, hw, rfl⟩), rfl⟩)
    obtain ⟨nm, hnm, enm⟩ := List.mem_map.mp (maxL_mem hne)
    obtain ⟨wm, hwm, rfl⟩ := List.mem_map.mp (pm.mem_iff.mp hnm)
    have m360 : tm S wm.name ≤ 360 := by
      have := tmF_le hl S.wares.length wm.name
      unfold tm
      omega
    have m0 : 0 ≤ tm S wm.name := tmF_nn (fun w hw => (hl w hw).1) _ _
    rw [← enm] at mge ⊢
    have go : ∀ {n : Int}, 0 ≤ n → n ≤ 360 → Good (sz + n) (offS n S) := fun h _ => g.off h
    have hw0 : ∀ u ∈ S.wants, 0 ≤ u.2.1 := fun u hu => (g.wants.2 u hu).2.1.1
    have he : plansOk (offS (tm S wm.name) S) := late_enough L.toLev E (fun w hw => (hl w hw).1) mge hw0 ((go m0 m360).days (by omega) (by omega)).1 h0
    have hM : ∃ w ∈ S.wares, tm S wm.name ≤ tm S w.name := ⟨wm, hwm, Int.le_refl _⟩
    obtain ⟨M, eM0⟩ : ∃ M, M = tm S wm.name := ⟨_, rfl⟩
    rw [← eM0] at mge m360 m0 he hM ⊢
    refine ⟨LaInv v S Pt M H, ⟨_, M, 0, none, rfl, rfl, Int.le_refl _, m0, Int.le_refl _, he, .inl rfl, tb4, bt04⟩, fun m σ H5 hW => ?_⟩
    obtain ⟨e, l, o3, rfl, rfl, l0, le, eM, pe, pl, tb5, bt5⟩ := hW
    have rs5 := RD.ku (tb_ku tb bt5) _ _ (nl_shop S) rs
    walk_at "rd"
    refine ite2 (fun c => ?_) (fun c => ?_)
    · have c := of_decide_eq_true c
      refine ⟨fun σ' H' => ∃ m', m' < (e - l).toNat ∧ LaInv v S Pt M H m' σ' H', fun σ' H' z => z, ?_⟩
      refine ⟨by decide, by decide +kernel, v, S, (l + e) / 2, rfl, rs5, g.ok, g.no, by have := g.wants.1; omega, fun x H6 rx s6 => ?_⟩
      have d0 : l ≤ (l + e) / 2 := by omega
      have d1 : (l + e) / 2 < e := by omega
      generalize (l + e) / 2 = mid at rx d0 d1
      refine ⟨x, offS mid S, sz + mid, rfl, rx, go (by omega) (by omega), by omega, by omega, tb5.same s6, fun b7 H7 hb7 tb7 bt7 => ⟨b7, rfl, ?_⟩⟩
      have bt07 := bt5.trans ((same_but s6).trans bt7)
      refine ite2 (fun c7 => ?_) (fun c7 => ?_)
      · exact ⟨(mid - l).toNat, by omega, mid, l, _, rfl, rfl, l0, d0, by omega, hb7.mp c7, pl, tb7, bt07⟩
      · refine ⟨(e - (mid + 1)).toNat, by omega, e, mid + 1, _, rfl, rfl, by omega, by omega, eM, pe, .inr (fun z => ?_), tb7, bt07⟩
        rw [show mid + 1 - 1 = mid by omega] at z
        exact c7 (hb7.mpr z)
    · have c : ¬ l < e := fun z => c (decide_eq_true z)
      obtain rfl : l = e := by omega
      obtain ⟨w, hw, hwM⟩ := hM
      exact k2 l H5 ⟨l0, h0, pe, pl, w, hw, by omega⟩ tb5 bt5
end
set_option maxRecDepth 100000
set_option maxHeartbeats 4000000
section
variable {P : Program} {w : World} {K : PySem.W.Frag} {mg : Str → Option Value} {base : Heap} {Pt : Addr}
def OtInv22 (x : Str) (S : Sh) (H : Hp) (i : Nat) (acc : List V) (H' : Hp) : Prop := RDs H' (((S.wares.take i).filter fun t => decide (t.name = x)).map Wr.d) acc ∧ acc.length ≤ i ∧ Same H H'
theorem ware_filter22 {ws : List Wr} (nd : (ws.map (·.name)).Nodup) {w : Wr} (h : w ∈ ws) : ws.filter (fun t => decide (t.name = w.name)) = [w] := by
  induction ws with
  | nil => cases h
  | cons y r ih =>
    rw [List.map_cons, List.nodup_cons] at nd
    rw [List.filter_cons]
    rcases List.mem_cons.mp h with z | z
    · subst z
      rw [if_pos (decide_eq_true rfl)]
      congr 1
      apply List.filter_eq_nil_iff.mpr
      intro t ht e
      have e := of_decide_eq_true e
      exact nd.1 (e ▸ List.mem_map.mpr ⟨t, ht, rfl⟩)
    · rw [if_neg (fun e => by
        have e := of_decide_eq_true e
        exact nd.1 (e ▸ List.mem_map.mpr ⟨w, z, rfl⟩))]
      exact ih nd.2 z
theorem rds_one22 {H : Hp} {d : PyData} {vs : List V} (h : RDs H [d] vs) : ∃ x, vs = [x] ∧ RD H d x := by
  obtain ⟨x, r, rfl, h1, h2⟩ := RDs.cons_of h
  rw [RDs.nil_of h2]
  exact ⟨x, rfl, h1⟩
def sp_law_time : Nat → Sp
  | 0 => fun _ _ _ _ => False
  | n + 1 => fun vs H Q _ => ∃ (v : V) (S : Sh) (x : Str) (r : Str → Nat), vs = [v, .str x] ∧ RD H S.d v ∧ LevOk S ∧ x ∈ namesS S ∧ (∀ w ∈ S.wares, w.parts.length ≤ 12) ∧ (∀ w ∈ S.wares, ∀ p ∈ w.parts, r p.1 < r w.name) ∧ r x ≤ n ∧ (∀ w ∈ S.wares, 0 ≤ w.lag) ∧ ∀ H', Same H H' → Q (.int (tm S x)) H'
theorem sc_law_time : FnScope ["_law_shop", "_law_name", "_law_ware"] ["_law_shop", "_law_name"] (defScope s_law_time) := ⟨rfl, rfl, rfl, by decide +kernel, rfl, by decide +kernel, by decide +kernel⟩
theorem ok_law_time {f : Addr} {fd : FuncData} (F : Fun K "_law_time" "_law_time" s_law_time f fd) (T : Txt mg) (hm : mg "_law_time" = some (.ref f)) (hk : PySem.W.keepIn K (.ref f) = true) (hb : Binds K fd ["_law_shop", "_law_name"] []) : ∀ n, FnOk P w K mg base CX0 n f fd ["_law_shop", "_law_name"] (sp_law_time n) := by
  intro n
  induction n
  · exact ⟨fun _ _ _ _ h => False.elim h, fun _ _ _ _ _ _ _ _ _ _ _ _ _ h => False.elim h⟩
  rename_i n ih
  have h_law_time : Has P w K mg base "_law_time" n ["_law_shop", "_law_name"] (sp_law_time n) := ⟨f, fd, hm, hk, hb, ih⟩
  refine F.ok sc_law_time (fun vs H Q E h => ?_) (fun cdv A outer s H vs Q E hr h => ?_)
  · obtain ⟨v, S, x, r, rfl, _⟩ := h
    rfl
  · obtain ⟨v, S, x, r, rfl, rs, L, hx, hpl, hr2, hrx, hlag, k⟩ := h
    have hu := hu_of hr
    refine ⟨_, (pss_cons (ps_set (i := 2) sc_law_time.nd rfl (Or.inl rfl) (pe_item hu (pe_comp (own := ["_law_one"]) (cap := [1]) rfl (cp_ok rfl) (gown_name (by decide)) (pi_tpl (pe_item hu (pv 0) pe_int (fun _ _ => rfl)))
 (fun _ _ _ _ _ _ => ⟨(pg_name (i := 0) (of_decide_eq_true rfl) rfl (Or.inl rfl) (.inr rfl)), (pts_one (pt_cmpR (op_eqA hu) (pe_item hu (pv 0) pe_int (fun _ _ => rfl)) (pv 1) (nomark _))), (pv 0)⟩)) pe_int (fun _ _ => rfl)))
 (pss_one (ps_ret (pe_op op_add (pe_item hu (pv 2) pe_int (fun _ _ => rfl)) (pe_callBS (call_maxl rfl) rfl T.n_max bt_max (pa_e (pe_op op_cat (pe_lst (pa_e pe_int pa_nil)) (pe_comp (own := ["_law_part", "_law_amount_here"]) (cap := [0]) rfl (cp_ok rfl) gown_tup2 (pi_tpl (pe_item hu (pv 2) pe_int (fun _ _ => rfl)))
 (fun _ _ _ _ _ _ => ⟨(pg_tup (n := 2) rfl (pgs_cons (pg_name (i := 0) (of_decide_eq_true rfl) rfl (Or.inl rfl) (.inr rfl)) (pgs_cons (pg_name (i := 1) (of_decide_eq_true rfl) rfl (Or.inl rfl) (.inr rfl)) pgs_nil))), pts_nil, (pe_callS h_law_time hr rfl (pa_e (pv 2) (pa_e (pv 0) pa_nil)))⟩))) pa_nil)))))), ?_⟩
    obtain ⟨sa, sb, sc, ws, us, ev, hsa, hsb, hsc, rws, rus⟩ := shop_at rs
    have hl := rds_len rws
    have hfew := L.few
    obtain ⟨w, hw, rfl⟩ := List.mem_map.mp hx
    walk_at "rd"
    refine ⟨_, by rw [ev]; exact item_t (j := 0) hsa rfl, sb, rfl, ws, hsb, ?_⟩
    refine comp_w (goesT sb _) (line1000 (by omega)) (OtInv22 w.name S H) ⟨RDs.nil, Nat.le_refl _, Same.refl _⟩ (fun i acc H' _ h => h.2.2 _ _ hsb) (fun i acc H' h => h.2.1) (fun i y acc H1 hi hy h => ?_) (fun acc H1 h p hp => ?_)
    · obtain ⟨h1, h2, s1⟩ := h
      obtain ⟨t, ht, rt⟩ := rds_map rws hy
      obtain ⟨te, c1, c2, rfl, hte, _⟩ := ware_at rt
      walk_at "rd"
      refine ⟨_, item_t (j := 0) (s1 _ _ hte) rfl, rfl, ite2 (fun hz => ?_) (fun hz => ?_)⟩
      · have hz : t.name = w.name := V.str.inj (of_decide_eq_true hz)
        refine ⟨?_, by rw [List.length_append]; show _ + 1 ≤ _; omega, s1⟩
        rw [List.take_add_one, ht, List.filter_append, List.map_append]
        refine RDs.app h1 ?_
        show RDs H1 (List.map Wr.d (List.filter _ [t])) _
        rw [List.filter_cons, if_pos (decide_eq_true hz)]
        exact RDs.one (RD.same s1 _ _ rt)
      · have hz : ¬ t.name = w.name := fun e => hz (decide_eq_true (congrArg V.str e))
        refine ⟨?_, by omega, s1⟩
        rw [List.take_add_one, ht, List.filter_append, List.map_append]
        show RDs H1 (_ ++ List.map Wr.d (List.filter _ [t])) _
        rw [List.filter_cons, if_neg (fun e => hz (of_decide_eq_true e))]
        show RDs H1 (_ ++ []) _
        rw [List.append_nil]
        exact h1
    · obtain ⟨h1, h2, s1⟩ := h
      rw [hl, List.take_length, ware_filter22 L.nd hw] at h1
      obtain ⟨y, rfl, ry⟩ := rds_one22 h1
      obtain ⟨ye, c1, c2, rfl, hye, _, rp⟩ := ware_at ry
      obtain ⟨pb, pv, rfl, hpb, rpv⟩ := RD.tup_of rp
      have hlp := rds_len rpv
      have hp12 := hpl w hw
      have u1 := same_upd (o := .lst [V.ref ye]) hp
      refine ⟨_, item_l (j := 0) upd_same rfl, _, item_t (j := 1) (u1 _ _ hye) rfl, by decide, fun q hq => ?_⟩
      have u2 := same_upd (o := .lst [V.int 0]) hq
      have s2 := s1.trans (u1.trans u2)
      have hq2 : upd (upd H1 p (.lst [V.ref ye])) q (.lst [V.int 0]) q = some (.lst [V.int 0]) := upd_same
      have hye2 := (u1.trans u2) _ _ hye
      have hpb2 := (u1.trans u2) _ _ hpb
      have rpv2 := RDs.same (u1.trans u2) _ _ rpv
      generalize upd (upd H1 p (.lst [V.ref ye])) q (.lst [V.int 0]) = H2 at s2 hq2 hye2 hpb2 rpv2
      refine ⟨_, item_t (j := 6) hye2 rfl, pb, rfl, pv, hpb2, ?_⟩
      refine comp_map (goesT pb _) (line1000 (by omega)) (fun H' s' => s' _ _ hpb2) ((w.parts.map fun p => tm S p.1).map V.int) (by rw [List.length_map, List.length_map, hlp]) (fun j z H3 hj hz s3 N M hN => ?_) (fun H3 s3 r3 hr3 => ?_)
      · obtain ⟨pp, hpp, rpp⟩ := rds_map rpv2 hz
        obtain ⟨pe, rfl, hpe⟩ := part_at rpp
        have hpm := List.mem_of_getElem? hpp
        have hlt := hr2 w hw pp hpm
        refine gt2 (s3 _ _ hpe) ?_
        walk_at "rd"
        cases n with
        | zero => exact absurd hrx (by omega)
        | succ m =>
        exact ⟨v, S, pp.1, r, rfl, RD.same (s2.trans s3) _ _ rs, L, L.own w hw pp hpm, hpl, hr2, by omega, hlag, fun H4 s4 => hN _ _ (s3.trans s4) (by rw [List.getElem?_map, List.getElem?_map, hpp]; rfl)⟩
      · have u4 := same_upd (o := .lst ((w.parts.map fun p => tm S p.1).map V.int)) hr3
        refine ⟨r3, rfl, _, u4 _ _ (s3 _ _ hq2), _, upd_same, ?_, fun q2 hq4 => ?_⟩
        · rw [List.length_map, List.length_map]
          exact Nat.le_trans (show [V.int 0].length + w.parts.length ≤ 1001 by show 1 + _ ≤ _; omega) (by decide)
        · refine ⟨0 :: (w.parts.map fun p => tm S p.1), by rw [upd_same]; rfl, (fun z => by cases z), _, rfl, ?_⟩
          rw [max0_cons _ (fun z hz => by obtain ⟨y, _, rfl⟩ := List.mem_map.mp hz; exact tmF_nn hlag _ _), ← tm_eq L.toLev hw]
          exact k _ (s2.trans (s3.trans (u4.trans (same_upd hq4))))
end
set_option maxRecDepth 100000
set_option maxHeartbeats 4000000
section
variable {P : Program} {w : World} {K : PySem.W.Frag} {mg : Str → Option Value} {base : Heap} {Pt : Addr}
theorem upS_nn {f : Nat → Int} : ∀ d, (∀ i, i < d → 0 ≤ f i) → 0 ≤ upS f d
  | 0, _ => Int.le_refl _
  | d + 1, h => by
    show 0 ≤ upS f d + f d
    have := upS_nn d fun i hi => h i (by omega)
    have := h d (by omega)
    omega
theorem upS_zero {f : Nat → Int} : ∀ d, (∀ i, i < d → f i = 0) → upS f d = 0
  | 0, _ => rfl
  | d + 1, h => by show upS f d + f d = 0; rw [upS_zero d fun i hi => h i (by omega), h d (by omega)]; rfl
theorem upS_shift (f : Nat → Int) (k : Nat) : ∀ d, upS (fun i => f (i + k)) d = upS f (d + k) - upS f k
  | 0 => by show (0 : Int) = upS f (0 + k) - upS f k; rw [Nat.zero_add]; omega
  | d + 1 => by
    show upS (fun i => f (i + k)) d + f (d + k) = upS f (d + 1 + k) - upS f k
    rw [upS_shift f k d, show d + 1 + k = (d + k) + 1 by omega]
    show _ = upS f (d + k) + f (d + k) - upS f k
    omega
theorem sumF_add {α : Type} (f g : α → Int) : ∀ l : List α, sumF (fun x => f x + g x) l = sumF f l + sumF g l
  | [] => rfl
  | x :: r => by rw [sumF_cons, sumF_cons, sumF_cons, sumF_add f g r]; omega
theorem sumF_mono {α : Type} {f g : α → Int} : ∀ {l : List α}, (∀ x ∈ l, f x ≤ g x) → sumF f l ≤ sumF g l
  | [], _ => Int.le_refl _
  | x :: r, h => by
    rw [sumF_cons, sumF_cons]
    have := h x List.mem_cons_self
    have := sumF_mono fun y hy => h y (List.mem_cons_of_mem _ hy)
    omega
theorem users_ind {S : Sh} (L : Lev S) {P : Wr → Prop} (h : ∀ w ∈ S.wares, (∀ t ∈ S.wares, ∀ p ∈ t.parts, p.1 = w.name → P t) → P w) : ∀ w ∈ S.wares, P w := by
  have : ∀ n : Nat, ∀ w ∈ S.wares, lv S w.name ≤ n → P w := by
    intro n
    induction n using Nat.strongRecOn with
    | _ n ih =>
    intro w hw hl
    refine h w hw fun t ht p hp e => ?_
    have h1 := lv_part L ht hp
    rw [e] at h1
    have h0 := lv_nn S t.name
    exact ih (lv S t.name).toNat (by omega) t ht (by omega)
  exact fun w hw => this (lv S w.name).toNat w hw (by have := lv_nn S w.name; omega)
theorem above_same {f g : Int} {xs ys xs' ys' : List Int} : ∀ {i : Nat}, (∀ j, j < i → xs.getD j 0 = xs'.getD j 0 ∧ ys.getD j 0 = ys'.getD j 0) → above f g xs ys i = above f g xs' ys' i
  | 0, _ => rfl
  | i + 1, h => by
    have a := above_same (f := f) (g := g) (i := i) fun j hj => h j (by omega)
    obtain ⟨e1, e2⟩ := h i (by omega)
    rw [above, above, a, e1, e2]
def addS (u : Wt) (S : Sh) : Sh := ⟨S.wares, S.wants ++ [u]⟩
theorem days_more {S : Sh} (u : Wt) (h0 : ∀ x ∈ S.wants, 0 ≤ x.2.1) (hu : 0 ≤ u.2.1) : daysN S ≤ daysN (addS u S) := by
  unfold daysN addS
  have h1 : max0 (S.wants.map fun u => u.2.1) ≤ max0 ((S.wants ++ [u]).map fun u => u.2.1) := by
    refine max0_le (max0_nn fun x hx => ?_) fun x hx => max0_ge ?_
    · obtain ⟨y, hy, rfl⟩ := List.mem_map.mp hx
      rcases List.mem_append.mp hy with z | z
      · exact h0 y z
      · rw [List.mem_singleton.mp z]; exact hu
    · rw [List.map_append]
      exact List.mem_append_left _ hx
  have h2 := max0_nn (ns := S.wants.map fun u => u.2.1) fun x hx => by obtain ⟨y, hy, rfl⟩ := List.mem_map.mp hx; exact h0 y hy
  show (1 + max0 (S.wants.map fun u => u.2.1)).toNat ≤ (1 + max0 ((S.wants ++ [u]).map fun u => u.2.1)).toNat
  omega
theorem day_in {S : Sh} {u : Wt} (hu : u ∈ S.wants) : u.2.1 < ((daysN S : Nat) : Int) := by
  unfold daysN
  have := max0_ge (ns := S.wants.map fun u => u.2.1) (List.mem_map.mpr ⟨u, hu, rfl⟩)
  omega
theorem need_far {S : Sh} (L : Lev S) {nm : Str} {d : Nat} (hd : daysN S ≤ d) : needAt S (LR S) nm d = 0 := by
  unfold needAt
  have z1 : sumF (wAt nm d) S.wants = 0 := sumF_zero fun u hu => by
    have hu1 := day_in hu
    have ne : ¬ (u.1 = nm ∧ u.2.1 = (d : Int)) := fun e => by have := e.2; omega
    unfold wAt
    rw [if_neg ne]
  have z2 : sumF (pAt (LR S) nm d) S.wares = 0 := sumF_zero fun t ht => by
    unfold pAt
    refine sumF_zero fun p hp => ?_
    rw [bAt_get, getD_over (by rw [LR_len L ht]; omega)]
    split
    · exact Int.mul_zero _
    · rfl
  rw [z1, z2]
  rfl
theorem add_rows {S : Sh} {u : Wt} (L : Lev S) (E : PlOk S) (hl : ∀ w ∈ S.wares, 0 ≤ w.lag) (h0 : ∀ x ∈ S.wants, 0 ≤ x.2.1) (hu : 0 ≤ u.2.1) (c : u.2.2 = 0 ∨ tm S u.1 ≤ u.2.1) (h1 : 1 ≤ daysN S) : ∀ w ∈ S.wares, ∀ d : Nat, (u.2.2 = 0 ∨ (d : Int) < tm S w.name) → (LR (addS u S) w.name).getD d 0 = (LR S w.name).getD d 0 := by
  have L1 : Lev (addS u S) := lev_wares L rfl
  have hd := days_more u h0 hu
  refine users_ind L fun w hw ih => ?_
  have hg := (E.wb w hw).1.1
  have nd : ∀ d : Nat, (u.2.2 = 0 ∨ (d : Int) < tm S w.name) → needAt (addS u S) (LR (addS u S)) w.name d = needAt S (LR S) w.name d := fun d hc => by
    unfold needAt
    have z1 : sumF (wAt w.name d) (addS u S).wants = sumF (wAt w.name d) S.wants := by
      show sumF (wAt w.name d) (S.wants ++ [u]) = _
      rw [sumF_app, sumF_one]
      have : wAt w.name d u = 0 := by
        unfold wAt
        split
        · rename_i e
          rcases hc with z | z
          · exact z
          · rcases c with y | y
            · exact y
            · rw [e.1, e.2] at y
              omega
        · rfl
      omega
    rw [z1]
    congr 1
    refine sumF_congr fun t ht => ?_
    unfold pAt
    refine sumF_congr fun p hp => ?_
    by_cases e : p.1 = w.name
    · have q := tm_part L ht hp
      rw [e] at q
      have := hl t ht
      rw [if_pos e, if_pos e, bAt_get, bAt_get, ih t ht p hp e _ (hc.imp id fun z => by omega)]
    · rw [if_neg e, if_neg e]
  intro d hc
  by_cases c1 : d < daysN S
  · rw [LR_eq L1 (show w ∈ (addS u S).wares from hw), LR_eq L hw, lots_getD (by omega), lots_getD c1]
    have sm : ∀ j, j ≤ d → (rowOf (daysN (addS u S)) (arrAt w)).getD j 0 = (rowOf (daysN S) (arrAt w)).getD j 0 ∧ (needsRow (addS u S) (LR (addS u S)) w.name).getD j 0 = (needsRow S (LR S) w.name).getD j 0 := fun j hj => by
      unfold needsRow
      rw [rowOf_getD (by omega), rowOf_getD (by omega), rowOf_getD (by omega), rowOf_getD (by omega), nd j (hc.imp id fun z => by omega)]
      exact ⟨rfl, rfl⟩
    unfold lotAt
    rw [above_same (fun j hj => sm j (by omega)), (sm d (Nat.le_refl _)).1, (sm d (Nat.le_refl _)).2]
  · rw [getD_over (xs := LR S w.name) (by rw [LR_len L hw]; omega)]
    by_cases c2 : d < daysN (addS u S)
    · rw [LR_eq L1 (show w ∈ (addS u S).wares from hw), lots_getD c2]
      obtain ⟨k, rfl⟩ : ∃ k, d = k + 1 := ⟨d - 1, by omega⟩
      have q1 := above_nn (f := w.floor) (g := w.gives) (xs := rowOf (daysN (addS u S)) (arrAt w)) (ys := needsRow (addS u S) (LR (addS u S)) w.name) (by omega) k
      have q2 := arrAt_nn E hw (k + 1)
      unfold lotAt
      refine lotsOf_none (by omega) ?_
      have q3 : (rowOf (daysN (addS u S)) (arrAt w)).getD (k + 1) 0 = arrAt w (k + 1) := rowOf_getD c2
      have q4 : (needsRow (addS u S) (LR (addS u S)) w.name).getD (k + 1) 0 = 0 := by unfold needsRow; rw [rowOf_getD c2, nd _ hc, need_far L (by omega)]
      rw [q3, q4]
      omega
    · exact getD_over (by rw [LR_len L1 (show w ∈ (addS u S).wares from hw)]; omega)
theorem add_plans {S : Sh} {u : Wt} (L : Lev S) (E : PlOk S) (hl : ∀ w ∈ S.wares, 0 ≤ w.lag) (h0 : ∀ x ∈ S.wants, 0 ≤ x.2.1) (hu : 0 ≤ u.2.1) (c : u.2.2 = 0 ∨ tm S u.1 ≤ u.2.1) (h1 : 1 ≤ daysN S) (h : plansOk S) : plansOk (addS u S) := fun w hw => by
  have hw : w ∈ S.wares := hw
  have ht := tm_lag L hl hw
  refine (show earlyF (LR (addS u S) w.name) w.lag (LR (addS u S) w.name).length = none from early_of fun e he z => ?_)
  rw [add_rows L E hl h0 hu c h1 w hw e (.inr (by omega))] at z
  have q := earlyF_none (show earlyF (LR S w.name) w.lag (LR S w.name).length = none from h w hw) e
  by_cases y : e < (LR S w.name).length
  · exact q y z
  · rw [getD_over (by omega)] at z
    omega
def cB (A : Int) : Nat → Int
  | 0 => A
  | k + 1 => A + 100 * cB A k
theorem cB_nn {A : Int} (h : 0 ≤ A) : ∀ k, A ≤ cB A k
  | 0 => Int.le_refl _
  | k + 1 => by rw [cB]; have := cB_nn h k; omega
theorem upS_mono {f g : Nat → Int} : ∀ d, (∀ i, i < d → f i ≤ g i) → upS f d ≤ upS g d
  | 0, _ => Int.le_refl _
  | d + 1, h => by
    show upS f d + f d ≤ upS g d + g d
    have := upS_mono d fun i hi => h i (by omega)
    have := h d (by omega)
    omega
theorem sumF_mem {α : Type} {f : α → Int} : ∀ {l : List α} {x : α}, (∀ y ∈ l, 0 ≤ f y) → x ∈ l → f x ≤ sumF f l
  | y :: r, x, h, hx => by
    rw [sumF_cons]
    have h1 := h y List.mem_cons_self
    have h2 : 0 ≤ sumF f r := sumF_nn fun z hz => h z (List.mem_cons_of_mem _ hz)
    rcases List.mem_cons.mp hx with z | z
    · rw [z]; omega
    · have := sumF_mem (fun z hz => h z (List.mem_cons_of_mem _ hz)) z
      omega
theorem max0_has {ns : List Int} (h : 0 < max0 ns) : max0 ns ∈ ns := by
  unfold max0 at h ⊢
  split at h
  · omega
  · rename_i e
    rw [if_neg e]
    exact maxL_mem e
theorem upS_ch (S : Sh) (plan : Str → List Int) (w : Wr) : ∀ d, upS (chAt S plan w) d = upS (arrAt w) d + w.gives * upS (fun e => (plan w.name).getD e 0) d - upS (needAt S plan w.name) d
  | 0 => by show (0 : Int) = 0 + w.gives * 0 - 0; omega
  | d + 1 => by
    show upS (chAt S plan w) d + chAt S plan w d = upS (arrAt w) d + arrAt w d + w.gives * (upS (fun e => (plan w.name).getD e 0) d + (plan w.name).getD d 0) - (upS (needAt S plan w.name) d + needAt S plan w.name d)
    rw [upS_ch S plan w d, Int.mul_add]
    unfold chAt
    omega
theorem need_step {S : Sh} (L : Lev S) (E : PlOk S) (hl : ∀ w ∈ S.wares, 0 ≤ w.lag) (g100 : ∀ w ∈ S.wares, w.gives ≤ 100) {A : Int} (hA : 0 ≤ A) (arr : ∀ w ∈ S.wares, ∀ n, upS (arrAt w) n ≤ A) (hp : plansOk S) {r : Str → Nat} (r2 : ∀ w ∈ S.wares, ∀ p ∈ w.parts, r p.1 < r w.name) {k : Nat}
    (ih : ∀ k', k = k' + 1 → ∀ w ∈ S.wares, r w.name ≤ k' → ∀ d : Nat, d < daysN S → (d : Int) < tm S w.name → upS (needAt S (LR S) w.name) (d + 1) ≤ cB A k') {w : Wr} (hw : w ∈ S.wares) (hr : r w.name ≤ k) {d : Nat} (hd : d < daysN S) (ht : (d : Int) < tm S w.name) : upS (needAt S (LR S) w.name) (d + 1) ≤ cB A k := by
  have hg := (E.wb w hw).1.1
  have hf := (E.wb w hw).2.1.1
  have hlw := hl w hw
  have row_nn : ∀ t ∈ S.wares, ∀ e, 0 ≤ (LR S t.name).getD e 0 := fun t ht e => by
    rw [List.getD_eq_getElem?_getD]
    cases q : (LR S t.name)[e]? with
    | none => exact Int.le_refl _
    | some x => exact (LR_in E t.name x (List.mem_of_getElem? q)).1
  have early0 : ∀ e : Nat, (e : Int) < w.lag → (LR S w.name).getD e 0 = 0 := fun e he => by
    have q := earlyF_none (show earlyF (LR S w.name) w.lag (LR S w.name).length = none from hp w hw) e
    by_cases y : e < (LR S w.name).length
    · have := q y
      have := row_nn w hw e
      omega
    · exact getD_over (by omega)
  have hab := above_sum (f := w.floor) (g := w.gives) (xs := rowOf (daysN S) (arrAt w)) (ys := needsRow S (LR S) w.name) (n := daysN S) (chAt S (LR S) w) (fun i hi => by
    unfold chAt needsRow
    rw [rowOf_getD hi, rowOf_getD hi, LR_eq L hw, lots_getD hi]
    rfl) (d + 1) (by omega)
  have hnn := above_nn (f := w.floor) (g := w.gives) (xs := rowOf (daysN S) (arrAt w)) (ys := needsRow S (LR S) w.name) (by omega) d
  rw [hab, upS_ch] at hnn
  have ha := arr w hw (d + 1)
  have hA2 := cB_nn hA k
  by_cases c : (d : Int) < w.lag
  · rw [upS_zero (d + 1) (fun i hi => early0 i (by omega)), Int.mul_zero] at hnn
    omega
  · have etm := tm_eq L hw
    have hm := max0_has (ns := w.parts.map fun p => tm S p.1) (by omega)
    obtain ⟨p, hpm, ep⟩ := List.mem_map.mp hm
    obtain ⟨t, htm, et⟩ := List.mem_map.mp (L.own w hw p hpm)
    have hrt := r2 w hw p hpm
    obtain ⟨k', rfl⟩ : ∃ k', k = k' + 1 := ⟨k - 1, by omega⟩
    have hb := ih k' rfl t htm (by rw [et]; omega) (d - w.lag.toNat) (by omega) (by rw [et, ep]; omega)
    have hU : upS (fun e => (LR S w.name).getD e 0) (d + 1) ≤ upS (needAt S (LR S) t.name) (d - w.lag.toNat + 1) := by
      have sh := upS_shift (fun e => (LR S w.name).getD e 0) w.lag.toNat (d - w.lag.toNat + 1)
      rw [upS_zero w.lag.toNat (fun i hi => early0 i (by omega)), show d - w.lag.toNat + 1 + w.lag.toNat = d + 1 by omega, Int.sub_zero] at sh
      rw [← sh]
      refine upS_mono _ fun i _ => ?_
      show (LR S w.name).getD (i + w.lag.toNat) 0 ≤ needAt S (LR S) t.name i
      rw [← bAt_get]
      have bn : ∀ t' ∈ S.wares, 0 ≤ bAt (LR S t'.name) t'.lag i := fun t' ht' => by rw [bAt_get]; exact row_nn t' ht' _
      have pn : ∀ t' ∈ S.wares, ∀ q ∈ t'.parts, 0 ≤ (if q.1 = t.name then q.2 * bAt (LR S t'.name) t'.lag i else 0) := fun t' ht' q hq => by
        split
        · exact Int.mul_nonneg (by have := ((E.wb t' ht').2.2.2.2 q hq).1; omega) (bn t' ht')
        · exact Int.le_refl _
      have w0 : 0 ≤ sumF (wAt t.name i) S.wants := sumF_nn fun u hu => by
        unfold wAt
        split
        · exact (E.wt.2 u hu).1
        · exact Int.le_refl _
      have s1 : pAt (LR S) t.name i w ≤ sumF (pAt (LR S) t.name i) S.wares := sumF_mem (fun t' ht' => sumF_nn fun q hq => pn t' ht' q hq) hw
      have s2 : (if p.1 = t.name then p.2 * bAt (LR S w.name) w.lag i else 0) ≤ pAt (LR S) t.name i w := sumF_mem (f := fun q : Str × Int => if q.1 = t.name then q.2 * bAt (LR S w.name) w.lag i else 0) (fun q hq => pn w hw q hq) hpm
      rw [if_pos et.symm] at s2
      have s3 : 1 * bAt (LR S w.name) w.lag i ≤ p.2 * bAt (LR S w.name) w.lag i := Int.mul_le_mul_of_nonneg_right ((E.wb w hw).2.2.2.2 p hpm).1 (bn w hw)
      unfold needAt
      omega
    have hU0 : 0 ≤ upS (fun e => (LR S w.name).getD e 0) (d + 1) := upS_nn _ fun i _ => row_nn w hw i
    have h100 : w.gives * upS (fun e => (LR S w.name).getD e 0) (d + 1) ≤ 100 * upS (fun e => (LR S w.name).getD e 0) (d + 1) := Int.mul_le_mul_of_nonneg_right (g100 w hw) hU0
    rw [cB]
    omega
theorem need_bound {S : Sh} (L : Lev S) (E : PlOk S) (hl : ∀ w ∈ S.wares, 0 ≤ w.lag) (g100 : ∀ w ∈ S.wares, w.gives ≤ 100) {A : Int} (hA : 0 ≤ A) (arr : ∀ w ∈ S.wares, ∀ n, upS (arrAt w) n ≤ A) (hp : plansOk S) {r : Str → Nat} (r2 : ∀ w ∈ S.wares, ∀ p ∈ w.parts, r p.1 < r w.name) :
    ∀ (k : Nat), ∀ w ∈ S.wares, r w.name ≤ k → ∀ d : Nat, d < daysN S → (d : Int) < tm S w.name → upS (needAt S (LR S) w.name) (d + 1) ≤ cB A k := by
  intro k
  induction k with
  | zero => exact fun w hw hr d hd ht => need_step L E hl g100 hA arr hp r2 (fun k' e => by cases e) hw hr hd ht
  | succ k ih => exact fun w hw hr d hd ht => need_step L E hl g100 hA arr hp r2 (fun k' e => by cases e; exact ih) hw hr hd ht
theorem arr_bound {w : Wr} {A : Int} (h0 : 0 ≤ w.stock) (hc : ∀ p ∈ w.coming, 0 ≤ p.1 ∧ 0 ≤ p.2) (hA : w.stock + sumF (fun p : Int × Int => p.2) w.coming ≤ A) (n : Nat) : upS (arrAt w) n ≤ A := by
  have e : ∀ n, upS (arrAt w) n = (if n = 0 then 0 else w.stock) + sumF (fun p : Int × Int => if p.1 < (n : Int) then p.2 else 0) w.coming := fun n => by
    induction n with
    | zero =>
      rw [if_pos rfl, sumF_zero fun p hp => ?_]
      · rfl
      · have := (hc p hp).1
        rw [if_neg (by omega)]
    | succ n ih =>
      show upS (arrAt w) n + arrAt w n = _
      rw [ih, if_neg (Nat.succ_ne_zero n)]
      unfold arrAt
      have e2 : sumF (fun p : Int × Int => if p.1 < ((n + 1 : Nat) : Int) then p.2 else 0) w.coming = sumF (fun p : Int × Int => if p.1 < (n : Int) then p.2 else 0) w.coming + sumF (cAt n) w.coming := by
        rw [← sumF_add]
        refine sumF_congr fun p hp => ?_
        unfold cAt
        by_cases c1 : p.1 < (n : Int)
        · rw [if_pos (by omega), if_pos c1, if_neg (by omega), Int.add_zero]
        · by_cases c2 : p.1 = (n : Int)
          · rw [if_pos (by omega), if_neg c1, if_pos c2, Int.zero_add]
          · rw [if_neg (by omega), if_neg c1, if_neg c2]
            rfl
      rw [e2]
      by_cases z : n = 0
      · subst z
        rw [if_pos rfl, if_pos rfl]
        omega
      · rw [if_neg z, if_neg z]
        omega
  rw [e]
  have h2 : sumF (fun p : Int × Int => if p.1 < (n : Int) then p.2 else 0) w.coming ≤ sumF (fun p : Int × Int => p.2) w.coming := sumF_mono fun p hp => by
    split
    · exact Int.le_refl _
    · exact (hc p hp).2
  split <;> omega
theorem tmF_add (u : Wt) (S : Sh) : ∀ k x, tmF (addS u S) k x = tmF S k x
  | 0, x => rfl
  | k + 1, x => by
    rw [tmF, tmF, show wareN (addS u S) x = wareN S x from rfl]
    cases wareN S x with
    | none => rfl
    | some w =>
      show w.lag + max0 (w.parts.map fun p => tmF (addS u S) k p.1) = w.lag + max0 (w.parts.map fun p => tmF S k p.1)
      congr 2
      exact List.map_congr_left fun p _ => tmF_add u S k p.1
theorem tm_add (u : Wt) (S : Sh) (x : Str) : tm (addS u S) x = tm S x := tmF_add u S S.wares.length x
theorem add_great {S : Sh} {u : Wt} {sz : Int} (g : Good sz (addS u S)) (hz : 0 < sz) (hz2 : sz ≤ 1000) (hd : u.2.1 < tm S u.1) (ha : 10 ^ 70 ≤ u.2.2) : ¬ plansOk (addS u S) := fun hp => by
  have L := (good_lev g).toLev
  have E := good_pl g
  have hum : u ∈ (addS u S).wants := List.mem_append_right _ (List.mem_singleton.mpr rfl)
  obtain ⟨q0, ⟨q1, q2⟩, _⟩ := g.wants.2 u hum
  obtain ⟨w, hw, ew⟩ := List.mem_map.mp q0
  obtain ⟨r, r1, r2⟩ := L.low
  have hA : (0 : Int) ≤ 10 ^ 35 := by decide +kernel
  have arr : ∀ w ∈ (addS u S).wares, ∀ n, upS (arrAt w) n ≤ 10 ^ 35 := fun w hw n => by
    have b := g.ws.wb w hw
    have c := g.com w hw
    refine arr_bound b.stock.1 (fun p hp => ⟨(c.2 p hp).1.1, (c.2 p hp).2.1⟩) ?_ n
    have : sumF (fun p : Int × Int => p.2) w.coming ≤ (12 : Nat) * (10 : Int) ^ 32 := sumF_le (by decide +kernel) c.1 fun p hp => Int.le_of_lt (c.2 p hp).2.2
    have := b.stock.2
    omega
  have day := day_in hum
  have hb := need_bound L E (fun w hw => (g.ws.wb w hw).lag.1) (fun w hw => (g.ws.wb w hw).gives.2) hA arr hp r2 12 w hw (by have := r1 w hw; have := g.len.2; omega) u.2.1.toNat (by omega) (by
    rw [ew]
    have := tm_add u S u.1
    omega)
  have h1 : needAt (addS u S) (LR (addS u S)) w.name u.2.1.toNat ≤ upS (needAt (addS u S) (LR (addS u S)) w.name) (u.2.1.toNat + 1) := by
    show _ ≤ upS (needAt (addS u S) (LR (addS u S)) w.name) u.2.1.toNat + needAt (addS u S) (LR (addS u S)) w.name u.2.1.toNat
    have : 0 ≤ upS (needAt (addS u S) (LR (addS u S)) w.name) u.2.1.toNat := upS_nn _ fun i _ => (needAt_in E (B := 10 ^ 700) (by decide +kernel) (fun nm x hx => ⟨(LR_in E nm x hx).1, Int.le_of_lt (LR_in E nm x hx).2⟩) w.name i).1
    omega
  have h2 : u.2.2 ≤ needAt (addS u S) (LR (addS u S)) w.name u.2.1.toNat := by
    unfold needAt
    have a1 : wAt w.name u.2.1.toNat u ≤ sumF (wAt w.name u.2.1.toNat) (addS u S).wants := sumF_mem (fun y hy => by
      unfold wAt
      split
      · exact (E.wt.2 y hy).1
      · exact Int.le_refl _) hum
    have a2 : wAt w.name u.2.1.toNat u = u.2.2 := by
      unfold wAt
      rw [if_pos ⟨ew.symm, by omega⟩]
    have a3 : 0 ≤ sumF (pAt (LR (addS u S)) w.name u.2.1.toNat) (addS u S).wares := sumF_nn fun t ht => sumF_nn fun p hp => by
      split
      · exact Int.mul_nonneg (by have := ((E.wb t ht).2.2.2.2 p hp).1; omega) (bAt_in (B := 10 ^ 700) (by decide +kernel) (fun x hx => ⟨(LR_in E t.name x hx).1, Int.le_of_lt (LR_in E t.name x hx).2⟩) t.lag _).1
      · exact Int.le_refl _
    omega
  have h3 : cB (10 ^ 35) 12 < 10 ^ 70 := by decide +kernel
  omega
end
set_option maxRecDepth 100000
set_option maxHeartbeats 4000000
section
variable {P : Program} {w : World} {K : PySem.W.Frag} {mg : Str → Option Value} {base : Heap} {Pt : Addr}
theorem Good.add {sz sz2 : Int} {S : Sh} (g : Good sz S) (hs : sz ≤ sz2) {u : Wt} (h20 : S.wants.length ≤ 20) (hn : u.1 ∈ S.wares.map (·.name)) (hd : 0 ≤ u.2.1 ∧ u.2.1 < sz2) (ha : 0 ≤ u.2.2 ∧ u.2.2 < 10 ^ 100) : Good sz2 (addS u S) := by
  refine ⟨g.ws, g.len, fun w hw => ⟨(g.com w hw).1, fun y hy => ?_⟩, ⟨?_, fun x hx => ?_⟩⟩
  · obtain ⟨⟨a, b⟩, c⟩ := (g.com w hw).2 y hy
    exact ⟨⟨a, by omega⟩, c⟩
  · show (S.wants ++ [u]).length ≤ 21
    rw [List.length_append, List.length_singleton]
    omega
  · rcases List.mem_append.mp hx with z | z
    · obtain ⟨q0, ⟨q1, q2⟩, q3⟩ := g.wants.2 x z
      exact ⟨q0, ⟨q1, by omega⟩, q3⟩
    · rw [List.mem_singleton.mp z]
      exact ⟨hn, hd, ha⟩
def sp_with_want : Sp := fun vs H Q _ => ∃ (v : V) (S : Sh) (nm : Str) (d n : Int), vs = [v, .str nm, .int d, .int n] ∧ RD H S.d v ∧ ShOk S ∧ NoRing S ∧ nm ∈ S.wares.map (·.name) ∧ S.wants.length ≤ 1000 ∧ ∀ x H', RD H' (addS (nm, d, n) S).d x → Same H H' → Q x H'
theorem sc_with_want : FnScope ["shop", "name", "day", "amount"] ["shop", "name", "day", "amount"] (defScope s_with_want) := ⟨rfl, rfl, rfl, by decide +kernel, rfl, by decide +kernel, by decide +kernel⟩
theorem ok_with_want {f : Addr} {fd : FuncData} (F : Fun K "with_want" "with_want" s_with_want f fd) (T : Txt mg) (h_check_rings : Has P w K mg base "check_rings" 4 ["shop"] sp_check_rings) (h_ware_of : Has P w K mg base "ware_of" 1 ["shop", "name"] sp_ware_of) : FnOk P w K mg base CX0 5 f fd ["shop", "name", "day", "amount"] sp_with_want := by
  refine F.ok sc_with_want (fun vs H Q E h => ?_) (fun cdv A outer s H vs Q E hr h => ?_)
  · obtain ⟨v, S, nm, d, n, rfl, _⟩ := h
    rfl
  · obtain ⟨v, S, nm, d, n, rfl, rs, ok, no, hnm, hw, k⟩ := h
    have hu := hu_of hr
    refine ⟨_, (pss_cons (ps_expr (pe_callS h_check_rings (hr.mono (by decide)) rfl (pa_e (pv 0) pa_nil)))
 (pss_cons (ps_expr (pe_callS h_ware_of (hr.mono (by decide)) rfl (pa_e (pv 0) (pa_e (pv 1) pa_nil))))
 (pss_one (ps_ret (pe_tup (pa_e (pe_item hu (pv 0) pe_int (fun _ _ => rfl)) (pa_e (pe_op op_catTT (pe_item hu (pv 0) pe_int (fun _ _ => rfl)) (pe_tup (pa_e (pe_tup (pa_e (pv 1) (pa_e (pv 2) (pa_e (pv 3) pa_nil)))) pa_nil))) pa_nil))))))), ?_⟩
    obtain ⟨a, b, c, ws, us, rfl, ha, hb, hc, rws, rus⟩ := shop_at rs
    have hlu := rds_len rus
    walk_at "rd"
    refine ⟨.ref a, S, rfl, rs, ok, no, fun H1 s1 => ⟨.ref a, S, nm, rfl, RD.same s1 _ _ rs, ok, hnm, fun x w hwm ew rw' => ?_⟩⟩
    refine ⟨_, item_t (j := 0) (s1 _ _ ha) rfl, _, item_t (j := 1) (s1 _ _ ha) rfl, ?_⟩
    refine ⟨by decide, fun p hp => ⟨by decide, fun q hq => ⟨c, rfl, us, ?_⟩⟩⟩
    have u1 := same_upd (o := .tup [.str nm, .int d, .int n]) hp
    have u2 := same_upd (o := .tup [.ref p]) hq
    have s3 := s1.trans (u1.trans u2)
    have hp3 := u2 _ _ (upd_same (H := H1) (a := p) (o := .tup [.str nm, .int d, .int n]))
    have hq3 := upd_same (H := upd H1 p (.tup [.str nm, .int d, .int n])) (a := q) (o := .tup [.ref p])
    generalize upd (upd H1 p (.tup [.str nm, .int d, .int n])) q (.tup [.ref p]) = H3 at s3 hp3 hq3 ⊢
    refine ⟨s3 _ _ hc, _, hq3, Nat.le_trans (m := 1001) (by rw [List.length_singleton]; omega) (by decide), fun r H4 hr4 s4 _ => ⟨by decide, fun t ht => ?_⟩⟩
    have s5 := s4.trans (same_upd (o := .tup [.ref b, .ref r]) ht)
    have s05 := s3.trans s5
    refine k _ _ ?_ s05
    unfold addS Sh.d
    refine RD.tup_mk upd_same (RDs.cons (RD.tup_mk (s05 _ _ hb) (RDs.same s05 _ _ rws)) (RDs.one (RD.tup_mk (same_upd ht _ _ hr4) ?_)))
    rw [List.map_append]
    exact RDs.app (RDs.same s05 _ _ rus) (RDs.one (RD.tup_mk (xs := [.str nm, .int d, .int n]) (s5 _ _ hp3) (RDs.cons RD.str_mk (RDs.cons RD.int_mk (RDs.one RD.int_mk)))))
def DbInv (v : V) (nm : Str) (d : Int) (S : Sh) (Pt : Addr) (H : Hp) (m : Nat) (σ : St) (H' : Hp) : Prop := ∃ (t : Int) (o4 o5 : Option V), m = (10 ^ 71 - t).toNat ∧ σ = [some v, some (.str nm), some (.int d), some (.int t), o4, o5] ∧ 1 ≤ t ∧ t < 2 * 10 ^ 70 ∧ plansOk (addS (nm, d, t / 2) S) ∧ Tb H' Pt ∧ But Pt H H'
def BsInv (v : V) (nm : Str) (d : Int) (S : Sh) (Pt : Addr) (H : Hp) (m : Nat) (σ : St) (H' : Hp) : Prop := ∃ (t a : Int) (o5 : Option V), m = (t - a).toNat ∧ σ = [some v, some (.str nm), some (.int d), some (.int t), some (.int a), o5] ∧ 0 ≤ a ∧ a < t ∧ t < 2 * 10 ^ 70 ∧ plansOk (addS (nm, d, a) S) ∧ ¬ plansOk (addS (nm, d, t) S) ∧ Tb H' Pt ∧ But Pt H H'
def sp_greatest_amount (Pt : Addr) : Sp := fun vs H Q _ => ∃ (v : V) (S : Sh) (nm : Str) (d sz : Int), vs = [v, .str nm, .int d] ∧ RD H S.d v ∧ Good sz S ∧ 0 < sz ∧ sz ≤ 900 ∧ S.wants.length ≤ 20 ∧ nm ∈ S.wares.map (·.name) ∧ 0 ≤ d ∧ d < 20 ∧ d < tm S nm ∧ plansOk S ∧ Tb H Pt ∧
  ∀ n H', 0 ≤ n → n < 10 ^ 99 → plansOk (addS (nm, d, n) S) → ¬ plansOk (addS (nm, d, n + 1) S) → Tb H' Pt → But Pt H H' → Q (.int n) H'
theorem sc_greatest_amount : FnScope ["shop", "name", "day", "too_great", "amount", "middle"] ["shop", "name", "day"] (defScope s_greatest_amount) := ⟨rfl, rfl, rfl, by decide +kernel, rfl, by decide +kernel, by decide +kernel⟩
theorem ok_greatest_amount {f : Addr} {fd : FuncData} (F : Fun K "greatest_amount" "greatest_amount" s_greatest_amount f fd) (T : Txt mg) (h_lets_plan : Has P w K mg base "lets_plan" 8 ["shop"] (sp_lets_plan Pt)) (h_with_want : Has P w K mg base "with_want" 5 ["shop", "name", "day", "amount"] sp_with_want) : FnOk P w K mg base CX0 9 f fd ["shop", "name", "day"] (sp_greatest_amount Pt) := by
  refine F.ok sc_greatest_amount (fun vs H Q E h => ?_) (fun cdv A outer s H vs Q E hr h => ?_)
  · obtain ⟨v, S, nm, d, sz, rfl, _⟩ := h
    rfl
  · obtain ⟨v, S, nm, d, sz, rfl, rs, g, z0, z1, h20, hnm, d0, d1, dt, hp, tb, k⟩ := h
    have hu := hu_of hr
    refine ⟨_, (pss_cons (ps_set (i := 3) sc_greatest_amount.nd rfl (Or.inl rfl) pe_int)
 (pss_cons (ps_while PassesOwn.never (pt_val (pe_callS h_lets_plan (hr.mono (by decide)) rfl (pa_e (pe_callS h_with_want (hr.mono (by decide)) rfl (pa_e (pv 0) (pa_e (pv 1) (pa_e (pv 2) (pa_e (pv 3) pa_nil))))) pa_nil))) (pss_one (ps_aug (i := 3) sc_greatest_amount.nd rfl (Or.inl rfl) pe_int ip_mulI)))
 (pss_cons (ps_set (i := 4) sc_greatest_amount.nd rfl (Or.inl rfl) (pe_op op_fdivL (pv 3) pe_int))
 (pss_cons (ps_while PassesOwn.never (pt_cmpR op_gt (pe_op op_sub (pv 3) (pv 4)) pe_int (nomark _)) (pss_cons (ps_set (i := 5) sc_greatest_amount.nd rfl (Or.inl rfl) (pe_op op_fdivL (pe_op op_add (pv 4) (pv 3)) pe_int))
 (pss_one (ps_if (pt_val (pe_callS h_lets_plan (hr.mono (by decide)) rfl (pa_e (pe_callS h_with_want (hr.mono (by decide)) rfl (pa_e (pv 0) (pa_e (pv 1) (pa_e (pv 2) (pa_e (pv 5) pa_nil))))) pa_nil))) (pss_one (ps_set (i := 4) sc_greatest_amount.nd rfl (Or.inl rfl) (pv 5))) (pss_one (ps_set (i := 3) sc_greatest_amount.nd rfl (Or.inl rfl) (pv 5)))))))
 (pss_one (ps_ret (pv 4))))))), ?_⟩
    walk_at "rd"
    have L := (good_lev g).toLev
    have E := good_pl g
    have hl : ∀ w ∈ S.wares, 0 ≤ w.lag := fun w hw => (g.ws.wb w hw).lag.1
    have h0 : ∀ x ∈ S.wants, 0 ≤ x.2.1 := fun u hu => (g.wants.2 u hu).2.1.1
    have gd := g.days z0 (by omega)
    have go : ∀ {n : Int}, 0 ≤ n → n < 10 ^ 99 → Good (sz + 20) (addS (nm, d, n) S) := fun {n} n0 n1 => g.add (u := (nm, d, n)) (by omega) h20 hnm ⟨d0, show d < sz + 20 by omega⟩ ⟨n0, Int.lt_trans n1 (by decide +kernel)⟩
    have p0 : plansOk (addS (nm, d, 0) S) := add_plans (u := (nm, d, 0)) L E hl h0 d0 (.inl rfl) gd.1 hp
    have hb70 : (2 : Int) * 10 ^ 70 < 10 ^ 99 := by decide +kernel
    refine ⟨DbInv v nm d S Pt H, ⟨_, 1, none, none, rfl, rfl, by decide, by decide +kernel, p0, tb, But.refl _ _⟩, fun m σ H1 hW => ?_⟩
    obtain ⟨t, o4, o5, rfl, rfl, t0, t1, ph, tb1, bt1⟩ := hW
    have rs1 := RD.ku (tb_ku tb bt1) _ _ (nl_shop S) rs
    walk_at "rd"
    refine ⟨v, S, nm, d, t, rfl, rs1, g.ok, g.no, hnm, by omega, fun x H2 rx s2 => ?_⟩
    refine ⟨x, addS (nm, d, t) S, sz + 20, rfl, rx, go (by omega) (by omega), by omega, by omega, tb1.same s2, fun b3 H3 hb3 tb3 bt3 => ⟨b3, rfl, ?_⟩⟩
    have bt03 := bt1.trans ((same_but s2).trans bt3)
    refine ite2 (fun c => ?_) (fun c => ?_)
    · have pt := hb3.mp c
      have tl : t < 10 ^ 70 := by
        by_cases z : t < 10 ^ 70
        · exact z
        · exact absurd pt (add_great (u := (nm, d, t)) (go (by omega) (by omega)) (by omega) (by omega) dt (show (10 : Int) ^ 70 ≤ t by omega))
      refine ⟨_, fun σ' H' z => z, .inr ⟨Nat.lt_of_lt_of_le (m := 10 ^ 72) (by omega) (by decide +kernel), by decide +kernel⟩, (10 ^ 71 - t * 2).toNat, by omega, t * 2, _, _, rfl, rfl, by omega, by omega, ?_, tb3, bt03⟩
      rw [show t * 2 / 2 = t by omega]
      exact pt
    · have pt : ¬ plansOk (addS (nm, d, t) S) := fun z => c (hb3.mpr z)
      refine ⟨by decide, by decide +kernel, BsInv v nm d S Pt H, ⟨_, t, t / 2, o5, rfl, rfl, by omega, by omega, t1, ph, pt, tb3, bt03⟩, fun m σ H4 hW => ?_⟩
      clear ph pt
      obtain ⟨t, a, o5, rfl, rfl, a0, at', t1, pa, pt, tb4, bt4⟩ := hW
      have rs4 := RD.ku (tb_ku tb bt4) _ _ (nl_shop S) rs
      walk_at "rd"
      refine ite2 (fun c => ?_) (fun c => ?_)
      · have c := of_decide_eq_true c
        refine ⟨fun σ' H' => ∃ m', m' < (t - a).toNat ∧ BsInv v nm d S Pt H m' σ' H', fun σ' H' z => z, by decide, by decide +kernel, v, S, nm, d, (a + t) / 2, rfl, rs4, g.ok, g.no, hnm, by omega, fun x H5 rx s5 => ?_⟩
        have m0 : a < (a + t) / 2 := by omega
        have m1 : (a + t) / 2 < t := by omega
        generalize (a + t) / 2 = mid at rx m0 m1 ⊢
        refine ⟨x, addS (nm, d, mid) S, sz + 20, rfl, rx, go (by omega) (by omega), by omega, by omega, tb4.same s5, fun b6 H6 hb6 tb6 bt6 => ⟨b6, rfl, ?_⟩⟩
        have bt06 := bt4.trans ((same_but s5).trans bt6)
        refine ite2 (fun c6 => ?_) (fun c6 => ?_)
        · exact ⟨(t - mid).toNat, by omega, t, mid, _, rfl, rfl, by omega, by omega, t1, hb6.mp c6, pt, tb6, bt06⟩
        · exact ⟨(mid - a).toNat, by omega, mid, a, _, rfl, rfl, a0, by omega, by omega, pa, fun z => c6 (hb6.mpr z), tb6, bt06⟩
      · have c : ¬ 1 < t - a := fun z => c (decide_eq_true z)
        obtain rfl : t = a + 1 := by omega
        exact k a H4 a0 (by omega) pa pt tb4 bt4
def sp_most (Pt : Addr) : Sp := fun vs H Q _ => ∃ (v : V) (S : Sh) (nm : Str) (d sz : Int), vs = [v, .str nm, .int d] ∧ RD H S.d v ∧ Good sz S ∧ 0 < sz ∧ sz ≤ 900 ∧ S.wants.length ≤ 20 ∧ nm ∈ S.wares.map (·.name) ∧ 0 ≤ d ∧ d < 20 ∧ Tb H Pt ∧
  (¬ plansOk S → ∀ p H', H' p = some (.tup [.str "none"]) → Tb H' Pt → But Pt H H' → Q (.ref p) H') ∧ (plansOk S → tm S nm ≤ d → ∀ p H', H' p = some (.tup [.str "any"]) → Tb H' Pt → But Pt H H' → Q (.ref p) H') ∧
  (plansOk S → d < tm S nm → ∀ p n H', 0 ≤ n → n < 10 ^ 99 → plansOk (addS (nm, d, n) S) → ¬ plansOk (addS (nm, d, n + 1) S) → H' p = some (.tup [.str "most", .int n]) → Tb H' Pt → But Pt H H' → Q (.ref p) H')
theorem sc_most : FnScope ["shop", "name", "day"] ["shop", "name", "day"] (defScope s_most) := ⟨rfl, rfl, rfl, by decide +kernel, rfl, by decide +kernel, by decide +kernel⟩
theorem ok_most {f : Addr} {fd : FuncData} (F : Fun K "most" "most" s_most f fd) (T : Txt mg) (h_check_rings : Has P w K mg base "check_rings" 4 ["shop"] sp_check_rings) (h_ware_of : Has P w K mg base "ware_of" 1 ["shop", "name"] sp_ware_of) (h_lets_plan : Has P w K mg base "lets_plan" 8 ["shop"] (sp_lets_plan Pt)) (h_times : Has P w K mg base "times" 7 ["shop"] (sp_times Pt)) (h_greatest_amount : Has P w K mg base "greatest_amount" 9 ["shop", "name", "day"] (sp_greatest_amount Pt)) : FnOk P w K mg base CX0 10 f fd ["shop", "name", "day"] (sp_most Pt) := by
  refine F.ok sc_most (fun vs H Q E h => ?_) (fun cdv A outer s H vs Q E hr h => ?_)
  · obtain ⟨v, S, nm, d, sz, rfl, _⟩ := h
    rfl
  · obtain ⟨v, S, nm, d, sz, rfl, rs, g, z0, z1, h20, hnm, d0, d1, tb, k1, k2, k3⟩ := h
    have hu := hu_of hr
    refine ⟨_, (pss_cons (ps_expr (pe_callS h_check_rings (hr.mono (by decide)) rfl (pa_e (pv 0) pa_nil)))
 (pss_cons (ps_expr (pe_callS h_ware_of (hr.mono (by decide)) rfl (pa_e (pv 0) (pa_e (pv 1) pa_nil))))
 (pss_cons (ps_if (pt_not (pt_val (pe_callS h_lets_plan (hr.mono (by decide)) rfl (pa_e (pv 0) pa_nil)))) (pss_one (ps_ret (pe_tup (pa_e pe_str pa_nil)))) pss_nil)
 (pss_cons (ps_if (pt_cmpR op_ge (pv 2) (pe_item hu (pe_callS h_times (hr.mono (by decide)) rfl (pa_e (pv 0) pa_nil)) (pv 1) (fun _ _ => rfl)) (nomark _)) (pss_one (ps_ret (pe_tup (pa_e pe_str pa_nil)))) pss_nil)
 (pss_one (ps_ret (pe_tup (pa_e pe_str (pa_e (pe_callS h_greatest_amount (hr.mono (by decide)) rfl (pa_e (pv 0) (pa_e (pv 1) (pa_e (pv 2) pa_nil)))) pa_nil))))))))), ?_⟩
    walk_at "rd"
    have L := good_lev g
    refine ⟨v, S, rfl, rs, g.ok, g.no, fun H1 s1 => ⟨v, S, nm, rfl, RD.same s1 _ _ rs, g.ok, hnm, fun x w hwm ew rw' => ?_⟩⟩
    refine ⟨v, S, sz, rfl, RD.same s1 _ _ rs, g, z0, by omega, tb.same s1, fun b2 H2 hb2 tb2 bt2 => ⟨b2, rfl, ?_⟩⟩
    have bt02 := (same_but (st := Pt) s1).trans bt2
    refine ite2 (fun c => ?_) (fun c => ?_)
    · have np : ¬ plansOk S := fun z => by rw [hb2.mpr z] at c; cases c
      exact ⟨by decide, fun p hp => k1 np p _ upd_same (tb2.same (same_upd hp)) (bt02.trans (same_but (same_upd hp)))⟩
    · have ps : plansOk S := hb2.mp (by cases b2 with | true => rfl | false => exact absurd rfl c)
      have rs2 := RD.ku (tb_ku tb bt02) _ _ (nl_shop S) rs
      refine ⟨v, S, rfl, rs2, L, tb2, fun q ys H3 hq hq3 pm tb3 bt3 => ⟨_, item_d (.inl hq3) (fnD_val (pm.mem_iff.mpr hnm)), _, rfl, ?_⟩⟩
      have bt03 := bt02.trans bt3
      refine ite2 (fun c3 => ?_) (fun c3 => ?_)
      · exact ⟨by decide, fun p hp => k2 ps (of_decide_eq_true c3) p _ upd_same (tb3.same (same_upd hp)) (bt03.trans (same_but (same_upd hp)))⟩
      · have c3 : ¬ tm S nm ≤ d := fun z => c3 (decide_eq_true z)
        have rs3 := RD.ku (tb_ku tb bt03) _ _ (nl_shop S) rs
        refine ⟨v, S, nm, d, sz, rfl, rs3, g, z0, z1, h20, hnm, d0, d1, by omega, ps, tb3, fun n H4 n0 n1 pn pn1 tb4 bt4 => ⟨by decide, fun p hp => ?_⟩⟩
        exact k3 ps (by omega) p n _ n0 n1 pn pn1 upd_same (tb4.same (same_upd hp)) ((bt03.trans bt4).trans (same_but (same_upd hp)))
def sp_law_plans (Pt : Addr) : Sp := fun vs H Q _ => ∃ (v : V) (S : Sh) (nm : Str) (d n sz : Int), vs = [v, .str nm, .int d, .int n] ∧ RD H S.d v ∧ Good sz S ∧ 0 < sz ∧ sz ≤ 900 ∧ S.wants.length ≤ 20 ∧ nm ∈ S.wares.map (·.name) ∧ 0 ≤ d ∧ d < 20 ∧ 0 ≤ n ∧ n < 10 ^ 100 ∧ Tb H Pt ∧ ∀ (b : Bool) H', (b = true ↔ plansOk (addS (nm, d, n) S)) → Tb H' Pt → But Pt H H' → Q (.bl b) H'
theorem sc_law_plans : FnScope ["_law_shop", "_law_name", "_law_day", "_law_amount_here"] ["_law_shop", "_law_name", "_law_day", "_law_amount_here"] (defScope s_law_plans) := ⟨rfl, rfl, rfl, by decide +kernel, rfl, by decide +kernel, by decide +kernel⟩
theorem ok_law_plans {f : Addr} {fd : FuncData} (F : Fun K "_law_plans" "_law_plans" s_law_plans f fd) (T : Txt mg) (h_planned : Has P w K mg base "planned" 7 ["shop"] (sp_planned Pt)) (h_with_want : Has P w K mg base "with_want" 5 ["shop", "name", "day", "amount"] sp_with_want) : FnOk P w K mg base CX0 8 f fd ["_law_shop", "_law_name", "_law_day", "_law_amount_here"] (sp_law_plans Pt) := by
  refine F.ok sc_law_plans (fun vs H Q E h => ?_) (fun cdv A outer s H vs Q E hr h => ?_)
  · obtain ⟨v, S, nm, d, n, sz, rfl, _⟩ := h
    rfl
  · obtain ⟨v, S, nm, d, n, sz, rfl, rs, g, z0, z1, h20, hnm, d0, d1, n0, n1, tb, k⟩ := h
    have hu := hu_of hr
    refine ⟨_, (pss_one (ps_ret (pe_cmpR (op_eqA hu) (pe_item hu (pe_callS h_planned (hr.mono (by decide)) rfl (pa_e (pe_callS h_with_want (hr.mono (by decide)) rfl (pa_e (pv 0) (pa_e (pv 1) (pa_e (pv 2) (pa_e (pv 3) pa_nil))))) pa_nil)) pe_int (fun _ _ => rfl)) pe_str (nomark _)))), ?_⟩
    walk_at "rd"
    refine ⟨v, S, nm, d, n, rfl, rs, g.ok, g.no, hnm, by omega, fun x H1 rx s1 => ?_⟩
    refine ⟨x, addS (nm, d, n) S, sz + 20, rfl, rx, g.add (u := (nm, d, n)) (by omega) h20 hnm ⟨d0, show d < sz + 20 by omega⟩ ⟨n0, n1⟩, by omega, by omega, tb.same s1, fun t p5 ys i H5 ht hp5 tp sb5 ra hne tb5 bt5 hcase => ?_⟩
    have so := stab_sort sb5
    have bt05 := (same_but (st := Pt) s1).trans bt5
    rcases hcase with ⟨hi, h5⟩ | ⟨wr, d', hwr, hi, hed, h5⟩
    · refine ⟨_, item_t (j := 0) h5 rfl, rfl, k _ H5 ⟨fun _ w hw => hne w hw ?_, fun _ => by decide⟩ tb5 bt05⟩
      rw [hi, List.take_length]
      exact so.1.mem_iff.mpr (List.mem_map.mpr ⟨w, hw, rfl⟩)
    · exact ⟨_, item_t (j := 0) h5 rfl, rfl, k _ H5 ⟨fun z => absurd z (by decide), fun z => by rw [z wr hwr] at hed; cases hed⟩ tb5 bt05⟩
end
set_option maxRecDepth 100000
set_option maxHeartbeats 4000000
section
variable {P : Program} {w : World} {K : PySem.W.Frag} {mg : Str → Option Value} {base : Heap} {Pt : Addr}
theorem okD_one {x : Str} (h : PyData.strOk x = true) : okD (.tuple [.str x]) = true := by
  unfold okD
  simp [PyData.canLay0, PyData.canLayAll0, PyData.depth, PyData.depthAll, h]
theorem eqv_one (x : Str) : PyData.eqv (.tuple [.str x]) (.tuple [.str x]) = true := by
  simp [PyData.eqv, PyData.eqvAll]
def sp_law_right (Pt : Addr) : Sp := fun vs H Q _ => ∃ (v : V) (S : Sh) (nm : Str) (d n sz : Int), vs = [v, .str nm, .int d, .int n] ∧ RD H S.d v ∧ Good sz S ∧ 0 < sz ∧ sz ≤ 900 ∧ S.wants.length ≤ 20 ∧ nm ∈ S.wares.map (·.name) ∧ 0 ≤ d ∧ d < 20 ∧ 0 ≤ n ∧ n < 10 ^ 100 ∧ Tb H Pt ∧ ∀ H', Tb H' Pt → But Pt H H' → Q (.bl true) H'
theorem sc_law_right : FnScope ["_law_shop", "_law_name", "_law_day", "_law_great", "_law_found"] ["_law_shop", "_law_name", "_law_day", "_law_great"] (defScope s_law_right) := ⟨rfl, rfl, rfl, by decide +kernel, rfl, by decide +kernel, by decide +kernel⟩
theorem ok_law_right {f : Addr} {fd : FuncData} (F : Fun K "_law_right" "_law_right" s_law_right f fd) (T : Txt mg) (h_most : Has P w K mg base "most" 10 ["shop", "name", "day"] (sp_most Pt)) (h_planned : Has P w K mg base "planned" 7 ["shop"] (sp_planned Pt)) (h_law_time : Has P w K mg base "_law_time" 13 ["_law_shop", "_law_name"] (sp_law_time 13)) (h_law_plans : Has P w K mg base "_law_plans" 8 ["_law_shop", "_law_name", "_law_day", "_law_amount_here"] (sp_law_plans Pt)) : FnOk P w K mg base CX0 14 f fd ["_law_shop", "_law_name", "_law_day", "_law_great"] (sp_law_right Pt) := by
  refine F.ok sc_law_right (fun vs H Q E h => ?_) (fun cdv A outer s H vs Q E hr h => ?_)
  · obtain ⟨v, S, nm, d, n, sz, rfl, _⟩ := h
    rfl
  · obtain ⟨v, S, nm, d, n, sz, rfl, rs, g, z0, z1, h20, hnm, d0, d1, n0, n1, tb, k⟩ := h
    have hu := hu_of hr
    have hu4 := hu64_of hr
    refine ⟨_, (pss_cons (ps_set (i := 4) sc_law_right.nd rfl (Or.inl rfl) (pe_callS h_most (hr.mono (by decide)) rfl (pa_e (pv 0) (pa_e (pv 1) (pa_e (pv 2) pa_nil)))))
 (pss_cons (ps_if (pt_cmpR (op_neA hu) (pe_item hu (pe_callS h_planned (hr.mono (by decide)) rfl (pa_e (pv 0) pa_nil)) pe_int (fun _ _ => rfl)) pe_str (nomark _)) (pss_one (ps_ret (pe_cmpR (op_eqD hu4) (pv 4) (pe_tup (pa_e pe_str pa_nil)) (nomark _)))) pss_nil)
 (pss_cons (ps_if (pt_cmpR op_ge (pv 2) (pe_callS h_law_time (hr.mono (by decide)) rfl (pa_e (pv 0) (pa_e (pv 1) pa_nil))) (nomark _)) (pss_one (ps_ret (pe_and (pe_cmpR (op_eqD hu4) (pv 4) (pe_tup (pa_e pe_str pa_nil)) (nomark _)) (pe_and (pe_callS h_law_plans (hr.mono (by decide)) rfl (pa_e (pv 0) (pa_e (pv 1) (pa_e (pv 2) (pa_e (pv 3) pa_nil))))) (pe_one (pe_callS h_law_plans (hr.mono (by decide)) rfl (pa_e (pv 0) (pa_e (pv 1) (pa_e (pv 2) (pa_e (pe_op op_pow pe_int pe_int) pa_nil)))))))))) pss_nil)
 (pss_cons (ps_if (PW.pt (pw_or (pt_not (pt_val (pe_callBS call_isinst rfl T.n_isinstance bt_isinstance (pa_e (pv 4) (pa_e (pe_bltn (v := .ty "tuple") rfl T.n_tuple bt_tuple rfl) pa_nil))))) (pw_or (pt_cmpR (op_neA hu) (pe_callBS call_len_q rfl T.n_len bt_len (pa_e (pv 4) pa_nil)) pe_int (nomark _)) (pw_or1 (pt_cmpR (op_neA hu) (pe_item hu (pv 4) pe_int (fun _ _ => rfl)) pe_str (nomark _)))))) (pss_one (ps_ret pe_bl)) pss_nil)
 (pss_cons (ps_if (PW.pt (pw_or (pt_not (pt_val (pe_callBS call_isinst rfl T.n_isinstance bt_isinstance (pa_e (pe_item hu (pv 4) pe_int (fun _ _ => rfl)) (pa_e (pe_bltn (v := .ty "int") rfl T.n_int bt_int rfl) pa_nil))))) (pw_or (pt_val (pe_callBS call_isinst rfl T.n_isinstance bt_isinstance (pa_e (pe_item hu (pv 4) pe_int (fun _ _ => rfl)) (pa_e (pe_bltn (v := .ty "bool") rfl T.n_bool bt_bool rfl) pa_nil)))) (pw_or1 (pt_cmpR (op_ltA hu) (pe_item hu (pv 4) pe_int (fun _ _ => rfl)) pe_int (nomark _)))))) (pss_one (ps_ret pe_bl)) pss_nil)
 (pss_one (ps_ret (pe_and (pe_callS h_law_plans (hr.mono (by decide)) rfl (pa_e (pv 0) (pa_e (pv 1) (pa_e (pv 2) (pa_e (pe_item hu (pv 4) pe_int (fun _ _ => rfl)) pa_nil))))) (pe_one (pe_not (pe_callS h_law_plans (hr.mono (by decide)) rfl (pa_e (pv 0) (pa_e (pv 1) (pa_e (pv 2) (pa_e (pe_op op_add (pe_item hu (pv 4) pe_int (fun _ _ => rfl)) pe_int) pa_nil))))))))))))))), ?_⟩
    walk_at "rd"
    have L := good_lev g
    refine ⟨v, S, nm, d, sz, rfl, rs, g, z0, z1, h20, hnm, d0, d1, tb, fun np p H1 hp tb1 bt1 => ?_, fun ps ht p H1 hp tb1 bt1 => ?_, fun ps ht p m H1 m0 m1 pm pm1 hp tb1 bt1 => ?_⟩
    · have tpt : p ≠ Pt := tb_ne tb1 hp (fun _ z => by cases z)
      have rs1 := RD.ku (tb_ku tb bt1) _ _ (nl_shop S) rs
      refine ⟨v, S, sz, rfl, rs1, g, z0, by omega, tb1, fun t p5 ys i H5 ht hp5 tp sb5 ra hne tb5 bt5 hcase => ?_⟩
      have so := stab_sort sb5
      rcases hcase with ⟨hi, h5⟩ | ⟨wr, d', hwr, hi, hed, h5⟩
      · exact absurd (fun w hw => hne w hw (by rw [hi, List.take_length]; exact so.1.mem_iff.mpr (List.mem_map.mpr ⟨w, hw, rfl⟩))) np
      · refine ⟨_, item_t (j := 0) h5 rfl, rfl, ?_⟩
        rw [if_pos (by decide)]
        refine ⟨by decide, fun q hq => ⟨_, RD.tup_mk (same_upd hq _ _ (bt5 _ _ tpt hp)) (RDs.one RD.str_mk), _, RD.tup_mk upd_same (RDs.one RD.str_mk), okD_one (by decide +kernel), okD_one (by decide +kernel), ?_⟩⟩
        rw [eqv_one]
        exact k _ (tb5.same (same_upd hq)) ((bt1.trans bt5).trans (same_but (same_upd hq)))
    · have tpt : p ≠ Pt := tb_ne tb1 hp (fun _ z => by cases z)
      have rs1 := RD.ku (tb_ku tb bt1) _ _ (nl_shop S) rs
      refine ⟨v, S, sz, rfl, rs1, g, z0, by omega, tb1, fun t p5 ys i H5 ht5 hp5 tp sb5 ra hne tb5 bt5 hcase => ?_⟩
      rcases hcase with ⟨hi, h5⟩ | ⟨wr, d', hwr, hi, hed, h5⟩
      rotate_left
      · rw [ps wr hwr] at hed
        cases hed
      refine ⟨_, item_t (j := 0) h5 rfl, rfl, ?_⟩
      rw [if_neg (by decide)]
      have bt05 := bt1.trans bt5
      have rs5 := RD.ku (tb_ku tb bt05) _ _ (nl_shop S) rs
      obtain ⟨r, r1, r2⟩ := L.low
      obtain ⟨w, hwm, ew⟩ := List.mem_map.mp hnm
      refine ⟨v, S, nm, r, rfl, rs5, L, hnm, fun w hw => (g.ws.wb w hw).parts, r2, (by have e : w.name = nm := ew; have := r1 w hwm; have := g.len.2; show r nm ≤ 12; rw [← e]; omega), fun w hw => (g.ws.wb w hw).lag.1, fun H6 s6 => ⟨_, rfl, ?_⟩⟩
      rw [if_pos (decide_eq_true ht)]
      refine ⟨by decide, fun q hq => ⟨_, RD.tup_mk (same_upd hq _ _ (s6 _ _ (bt5 _ _ tpt hp))) (RDs.one RD.str_mk), _, RD.tup_mk upd_same (RDs.one RD.str_mk), okD_one (by decide +kernel), okD_one (by decide +kernel), ?_⟩⟩
      rw [eqv_one, if_pos rfl]
      have bt07 := bt05.trans (same_but (s6.trans (same_upd (o := .tup [.str (Str.ofString "any")]) hq)))
      have tb7 := (tb5.same s6).same (same_upd (o := .tup [.str (Str.ofString "any")]) hq)
      have rs7 := RD.ku (tb_ku tb bt07) _ _ (nl_shop S) rs
      have E := good_pl g
      have hl : ∀ w ∈ S.wares, 0 ≤ w.lag := fun w hw => (g.ws.wb w hw).lag.1
      have h0 : ∀ x ∈ S.wants, 0 ≤ x.2.1 := fun u hu => (g.wants.2 u hu).2.1.1
      have gd := g.days z0 (by omega)
      have pa : ∀ a, plansOk (addS (nm, d, a) S) := fun a => add_plans (u := (nm, d, a)) L.toLev E hl h0 d0 (.inr ht) gd.1 ps
      refine ⟨v, S, nm, d, n, sz, rfl, rs7, g, z0, z1, h20, hnm, d0, d1, n0, n1, tb7, fun b8 H8 hb8 tb8 bt8 => ⟨b8, rfl, ?_⟩⟩
      rw [if_pos (hb8.mpr (pa n))]
      have bt08 := bt07.trans bt8
      refine ⟨⟨by decide, by decide, by decide⟩, v, S, nm, d, _, sz, rfl, RD.ku (tb_ku tb bt08) _ _ (nl_shop S) rs, g, z0, z1, h20, hnm, d0, d1, by decide +kernel, by decide +kernel, tb8, fun b9 H9 hb9 tb9 bt9 => ?_⟩
      rw [hb9.mpr (pa _)]
      exact k _ tb9 (bt08.trans bt9)
    · have tpt : p ≠ Pt := tb_ne tb1 hp (fun _ z => by cases z)
      have rs1 := RD.ku (tb_ku tb bt1) _ _ (nl_shop S) rs
      refine ⟨v, S, sz, rfl, rs1, g, z0, by omega, tb1, fun t p5 ys i H5 ht5 hp5 tp sb5 ra hne tb5 bt5 hcase => ?_⟩
      rcases hcase with ⟨hi, h5⟩ | ⟨wr, d', hwr, hi, hed, h5⟩
      rotate_left
      · rw [ps wr hwr] at hed
        cases hed
      refine ⟨_, item_t (j := 0) h5 rfl, rfl, ?_⟩
      rw [if_neg (by decide)]
      have bt05 := bt1.trans bt5
      have rs5 := RD.ku (tb_ku tb bt05) _ _ (nl_shop S) rs
      obtain ⟨r, r1, r2⟩ := L.low
      obtain ⟨w, hwm, ew⟩ := List.mem_map.mp hnm
      refine ⟨v, S, nm, r, rfl, rs5, L, hnm, fun w hw => (g.ws.wb w hw).parts, r2, (by have e : w.name = nm := ew; have := r1 w hwm; have := g.len.2; show r nm ≤ 12; rw [← e]; omega), fun w hw => (g.ws.wb w hw).lag.1, fun H6 s6 => ⟨_, rfl, ?_⟩⟩
      rw [if_neg (by rw [decide_eq_true_eq]; omega)]
      have hp6 := s6 _ _ (bt5 _ _ tpt hp)
      have tb6 := tb5.same s6
      have bt06 := bt05.trans (same_but s6)
      refine ⟨_, ty_tup hp6, ?_⟩
      rw [if_neg (by decide)]
      refine ⟨p, rfl, _, .inr hp6, rfl, ?_⟩
      rw [if_neg (by simp)]
      refine ⟨_, item_t (j := 0) hp6 rfl, rfl, ?_⟩
      rw [if_neg (by decide)]
      refine ⟨_, item_t (j := 1) hp6 rfl, _, rfl, ?_⟩
      rw [if_neg (by decide)]
      refine ⟨_, item_t (j := 1) hp6 rfl, _, rfl, ?_⟩
      rw [if_neg (by decide)]
      refine ⟨_, item_t (j := 1) hp6 rfl, _, rfl, ?_⟩
      rw [if_neg (by rw [decide_eq_true_eq]; omega)]
      have h99 : (10 : Int) ^ 99 < 10 ^ 100 := by decide +kernel
      refine ⟨_, item_t (j := 1) hp6 rfl, v, S, nm, d, m, sz, rfl, RD.ku (tb_ku tb bt06) _ _ (nl_shop S) rs, g, z0, z1, h20, hnm, d0, d1, m0, by omega, tb6, fun b7 H7 hb7 tb7 bt7 => ⟨b7, rfl, ?_⟩⟩
      rw [if_pos (hb7.mpr pm)]
      have bt07 := bt06.trans bt7
      refine ⟨_, item_t (j := 1) (bt7 _ _ tpt hp6) rfl, m, rfl, v, S, nm, d, m + 1, sz, rfl, RD.ku (tb_ku tb bt07) _ _ (nl_shop S) rs, g, z0, z1, h20, hnm, d0, d1, by omega, by omega, tb7, fun b8 H8 hb8 tb8 bt8 => ⟨b8, rfl, ?_⟩⟩
      cases b8 with
      | true => exact absurd (hb8.mp rfl) pm1
      | false => exact k _ tb8 (bt07.trans bt8)
end
set_option maxRecDepth 100000
set_option maxHeartbeats 4000000
section
variable {P : Program} {w : World} {K : PySem.W.Frag} {mg : Str → Option Value} {base : Heap} {Pt : Addr}
theorem tb_but2 {H H' : Hp} {Pt st : Addr} (t : Tb H Pt) (b : But st H H') (s : StOk2 H st) : Tb H' Pt := by
  obtain ⟨x, y, es⟩ := s
  rcases t with e | ⟨c, e, e2⟩
  · exact .inl (b _ _ (fun z => by rw [z, es] at e; cases e) e)
  · exact .inr ⟨c, b _ _ (fun z => by rw [z, es] at e; cases e) e, b _ _ (fun z => by rw [z, es] at e2; cases e2) e2⟩
theorem st_tb {H H' : Hp} {st Pt : Addr} (s : StOk2 H st) (t : Tb H Pt) (b : But Pt H H') : StOk2 H' st := let ⟨x, y, q⟩ := s; ⟨x, y, b _ _ (tb_ne t q (fun _ z => by cases z)) q⟩
def WlInv (a st : Addr) (x : V) (Pt : Addr) (H : Hp) (i : Nat) (σ : St) (H' : Hp) : Prop := ∃ o2 o3 o5 o6 o7 : Option V, σ = [some (.ref a), some (.ref st), o2, o3, some x, o5, o6, o7] ∧ StOk2 H' st ∧ Tb H' Pt ∧ KeepU H H'
theorem sq_tb {K : PySem.W.Frag} {H H' : Hp} {a Pt : Addr} {xs : List V} (h : SqL K H a xs) (t : Tb H Pt) (b : But Pt H H') : SqL K H' a xs := h.elim (fun r => .inl (r.elim (fun e => .inl (b _ _ (tb_ne t e fun u z => by cases z) e)) (fun ⟨o, e⟩ => .inr ⟨o, b _ _ (tb_ne t e fun u z => by cases z) e⟩))) .inr
def Mid1 (K : PySem.W.Frag) (a : Addr) (ns : List Int) (Pt : Addr) (σ : St) (H : Hp) : Prop := ∃ (st l : Addr) (cs x off : V) (o6 o7 : Option V) (S : Sh), σ = [some (.ref a), some (.ref st), some (.ref l), some cs, some x, some off, o6, o7] ∧ RD H S.d x ∧ Good 9 S ∧ S.wants.length ≤ 20 ∧ (off = .non ∨ ∃ n, off = .int n ∧ 0 ≤ n ∧ n ≤ 360) ∧ SqL K H a (ns.map V.int) ∧ Tb H Pt
def Mid2 (K : PySem.W.Frag) (a : Addr) (ns : List Int) (Pt : Addr) (σ : St) (H : Hp) : Prop := ∃ (o1 o2 o3 : Option V) (x : V) (o5 o6 o7 : Option V) (S : Sh) (sz : Int), σ = [some (.ref a), o1, o2, o3, some x, o5, o6, o7] ∧ RD H S.d x ∧ Good sz S ∧ 0 < sz ∧ sz ≤ 500 ∧ S.wants.length ≤ 20 ∧ SqL K H a (ns.map V.int) ∧ Tb H Pt
def sp_law (K : PySem.W.Frag) (Pt : Addr) : Sp := fun vs H Q _ => ∃ (a : Addr) (ns : List Int), vs = [.ref a] ∧ SqL K H a (ns.map V.int) ∧ ns.length ≤ 63 ∧ Tb H Pt ∧ ∀ H', Q (.bl true) H'
theorem sc_law : FnScope ["_law_script", "_law_state", "_law_wares_here", "_law_cells", "_law_shop", "_law_off", "_law_ware", "_law_day"] ["_law_script"] (defScope s_law) := ⟨rfl, rfl, rfl, by decide +kernel, rfl, by decide +kernel, by decide +kernel⟩
theorem ok_law {f : Addr} {fd : FuncData} (F : Fun K "law" "law" s_law f fd) (T : Txt mg) (h_law_drawn : Has P w K mg base "_law_drawn" 2 ["_law_script", "_law_k", "_law_salt"] (sp_law_drawn K)) (h_law_wares : Has P w K mg base "_law_wares" 2 ["_law_state", "_law_many"] sp_law_wares) (h_law_next : Has P w K mg base "_law_next" 1 ["_law_state", "_law_many"] sp_law_next) (h_law_filled : Has P w K mg base "_law_filled" 3 ["_law_wares_here", "_law_cells", "_law_sized"] sp_law_filled) (h_late : Has P w K mg base "late" 9 ["shop"] (sp_late Pt)) (h_law_cell_at : Has P w K mg base "_law_cell_at" 1 ["_law_script", "_law_k"] (sp_law_cell_at K)) (h_law_right : Has P w K mg base "_law_right" 14 ["_law_shop", "_law_name", "_law_day", "_law_great"] (sp_law_right Pt)) : FnOk P w K mg base CX0 15 f fd ["_law_script"] (sp_law K Pt) := by
  refine F.ok sc_law (fun vs H Q E h => ?_) (fun cdv A outer s H vs Q E hr h => ?_)
  · obtain ⟨a, ns, rfl, _⟩ := h
    rfl
  · obtain ⟨a, ns, rfl, hS, hlen, tb, k⟩ := h
    have hu := hu_of hr
    refine ⟨_, (pss_cons (ps_set (i := 1) sc_law.nd rfl (Or.inl rfl) (pe_callS h_law_drawn (hr.mono (by decide)) rfl (pa_e (pv 0) (pa_e pe_int (pa_e pe_int pa_nil)))))
 (pss_cons (ps_set (i := 2) sc_law.nd rfl (Or.inl rfl) (pe_callS h_law_wares (hr.mono (by decide)) rfl (pa_e (pv 1) (pa_e (pe_op op_add pe_int (pe_callS h_law_next (hr.mono (by decide)) rfl (pa_e (pv 1) (pa_e pe_int pa_nil)))) pa_nil))))
 (pss_cons (ps_setcomp (own := ["_law_k"]) (cap := [0]) (i := 3) rfl (cp_ok rfl) (gown_name (by decide)) sc_law.nd rfl rfl (pi_rangeS2 rfl T.n_range (pa_e pe_int (pa_e (pe_callBS (call_minA rfl) rfl T.n_min bt_min (pa_e (pe_callBS call_len_seq rfl T.n_len bt_len (pa_e (pv 0) pa_nil)) (pa_e pe_int pa_nil))) pa_nil)))
 (fun _ _ _ _ _ _ => ⟨(pg_name (i := 0) (of_decide_eq_true rfl) rfl (Or.inl rfl) (.inr rfl)), pts_nil, (pe_callS h_law_drawn (hr.mono (by decide)) rfl (pa_e (pv 1) (pa_e (pv 0) (pa_e pe_int pa_nil))))⟩))
 (pss_cons (ps_set (i := 4) sc_law.nd rfl (Or.inl rfl) (pe_callS h_law_filled (hr.mono (by decide)) rfl (pa_e (pv 2) (pa_e (pv 3) (pa_e pe_int pa_nil)))))
 (pss_cons (ps_set (i := 5) sc_law.nd rfl (Or.inr rfl) (pe_callS h_late (hr.mono (by decide)) rfl (pa_e (pv 4) pa_nil)))
 (pss_cons (ps_if (PW.pt (pw_and (pt_cmpR op_isnotA (pv 5) pe_non (nomark _)) (pw_and1 (pt_cmpR op_gt (pe_op op_mod (pe_op op_fdivL (pe_callS h_law_cell_at (hr.mono (by decide)) rfl (pa_e (pv 0) (pa_e pe_int pa_nil))) pe_int) pe_int) pe_int (nomark _))))) (pss_one (ps_set (i := 4) sc_law.nd rfl (Or.inl rfl) (pe_tup (pa_e (pe_item hu (pv 4) pe_int (fun _ _ => rfl)) (pa_e (pe_callTS call_tupleA rfl T.n_tuple bt_tuple (pa_e (pe_comp (own := ["_law_name", "_law_day", "_law_amount_here"]) (cap := [5]) rfl (cp_ok rfl) gown_tup3 (pi_tpl (pe_item hu (pv 4) pe_int (fun _ _ => rfl)))
 (fun _ _ _ _ _ _ => ⟨(pg_tup (n := 3) rfl (pgs_cons (pg_name (i := 0) (of_decide_eq_true rfl) rfl (Or.inl rfl) (.inr rfl)) (pgs_cons (pg_name (i := 1) (of_decide_eq_true rfl) rfl (Or.inl rfl) (.inr rfl)) (pgs_cons (pg_name (i := 2) (of_decide_eq_true rfl) rfl (Or.inl rfl) (.inr rfl)) pgs_nil)))), pts_nil, (pe_tup (pa_e (pv 0) (pa_e (pe_op op_add (pv 1) (pv 3)) (pa_e (pv 2) pa_nil))))⟩)) pa_nil)) pa_nil))))) pss_nil)
 (pss_cons (ps_set (i := 1) sc_law.nd rfl (Or.inl rfl) (pe_callS h_law_drawn (hr.mono (by decide)) rfl (pa_e (pv 0) (pa_e pe_int (pa_e pe_int pa_nil)))))
 (pss_cons (ps_for PassesOwn.never rfl (pi_tpl (pe_item hu (pv 4) pe_int (fun _ _ => rfl))) (pg_name (i := 6) sc_law.nd rfl (Or.inl rfl))
 (pss_cons (ps_set (i := 7) sc_law.nd rfl (Or.inl rfl) (pe_callS h_law_next (hr.mono (by decide)) rfl (pa_e (pv 1) (pa_e pe_int pa_nil))))
 (pss_one (ps_if (pt_not (pt_val (pe_callS h_law_right (hr.mono (by decide)) rfl (pa_e (pv 4) (pa_e (pe_item hu (pv 6) pe_int (fun _ _ => rfl)) (pa_e (pv 7) (pa_e (pe_op op_add (pe_op op_pow pe_int pe_int) (pe_callS h_law_next (hr.mono (by decide)) rfl (pa_e (pv 1) (pa_e pe_int pa_nil)))) pa_nil))))))) (pss_one (ps_ret pe_bl)) pss_nil))))
 (pss_one (ps_ret pe_bl)))))))))), ?_⟩
    refine cut5 (Mid1 K a ns Pt) (fun σ1 H1 h1 => cut1 (Mid2 K a ns Pt) (fun σ2 H2 h2 => ?_) (fun KK hK => ?_)) (fun KK hK => ?_)
    · obtain ⟨o1, o2, o3, x, o5, o6, o7, S, sz, rfl, rs, g, z0, z1, h20, hS2, tb2⟩ := h2
      obtain ⟨sa, sb, sc, ws, us, ev, ha, hb, hc, rws, rus⟩ := shop_at rs
      walk_at "rd"
      refine ⟨a, ns, 0, 3, rfl, hS2, hlen, by decide, fun st H3 fst s3 sm3 => ?_⟩
      have ha3 := sm3 _ _ ha
      have hb3 := sm3 _ _ hb
      have tb3 := tb2.same sm3
      have rs3 := RD.same sm3 _ _ rs
      have rws3 := RDs.same sm3 _ _ rws
      refine ⟨_, by rw [ev]; exact item_t (j := 0) ha3 rfl, sb, rfl, ws, hb3, ?_⟩
      refine for_w (goesT sb _) (WlInv a st x Pt H3) ⟨_, _, _, _, _, rfl, s3, tb3, KeepU.refl _⟩ (fun i σ H' _ h => let ⟨_, _, _, _, _, _, _, _, ku⟩ := h; ku _ _ hb3) (fun i y σ H4 hi hy h => ?_) (fun σ H4 h => ?_)
      · obtain ⟨o2, o3, o5, o6, o7, rfl, s4, tb4, ku4⟩ := h
        obtain ⟨t, ht, rt⟩ := rds_map rws3 hy
        obtain ⟨te, c1, c2, rfl, hte, _⟩ := ware_at rt
        walk_at "rd"
        refine ⟨st, 12, rfl, s4, by decide, by decide +kernel, fun d H5 d0 d1 s5 b5 => ?_⟩
        have ku5 := ku4.trans (but_ku b5 s4)
        have tb5 := tb_but2 tb4 b5 s4
        refine ⟨_, item_t (j := 0) (ku5 _ _ hte) rfl, ⟨by decide, by decide, by decide⟩, st, 1000, rfl, s5, by decide, by decide +kernel, fun e H6 e0 e1 s6 b6 => ⟨e, rfl, ?_⟩⟩
        have ku6 := ku5.trans (but_ku b6 s5)
        have tb6 := tb_but2 tb5 b6 s5
        have e20 : (10 : Int) ^ Int.toNat 20 + 1000 < 10 ^ 100 ∧ 0 ≤ (10 : Int) ^ Int.toNat 20 := ⟨by decide +kernel, by decide +kernel⟩
        refine ⟨x, S, t.name, d, _, sz, rfl, RD.ku ku6 _ _ (nl_shop S) rs3, g, z0, by omega, h20, List.mem_map.mpr ⟨t, List.mem_of_getElem? ht, rfl⟩, d0, by omega, by omega, by omega, tb6, fun H7 tb7 bt7 => ⟨true, rfl, ?_⟩⟩
        rw [if_neg (by decide)]
        exact ⟨_, _, _, _, _, rfl, st_tb s6 tb6 bt7, tb7, ku6.trans (tb_ku tb6 bt7)⟩
      · obtain ⟨o2, o3, o5, o6, o7, rfl, s4, tb4, ku4⟩ := h
        walk_at "rd"
        exact k _
    · obtain ⟨st, l, cs, x, off, o6, o7, S, rfl, rs, g, h20, hoff, hS1, tb1⟩ := h1
      obtain ⟨sa, sb, sc, ws, us, ev, ha, hb, hc, rws, rus⟩ := shop_at rs
      have hlu := rds_len rus
      have no : KK [some (.ref a), some (.ref st), some (.ref l), some cs, some x, some off, o6, o7] H1 := hK _ _ ⟨_, _, _, x, _, _, _, S, 9, rfl, rs, g, by decide, by decide, h20, hS1, tb1⟩
      walk_at "rd"
      rcases hoff with rfl | ⟨n, rfl, n0, n1⟩
      · show if (!decide (V.non = V.non)) = true then _ else _
        rw [if_neg (by decide)]
        exact no
      · show if (!decide (V.int n = V.non)) = true then _ else _
        rw [if_pos (by simp)]
        refine ⟨a, ns, 0, rfl, hS1, hlen, by decide, fun c c0 c1 => ⟨c, rfl, by decide, by decide +kernel, by decide, ite2 (fun _ => ?_) (fun _ => no)⟩⟩
        refine ⟨_, by rw [ev]; exact item_t (j := 0) ha rfl, _, by rw [ev]; exact item_t (j := 1) ha rfl, sc, rfl, us, hc, ?_⟩
        refine comp_w (goesT sc _) (line1000 (by omega)) (DueInv S n H1) ⟨rfl, RDs.nil, Same.refl _⟩ (fun i acc H' _ h => h.2.2 _ _ hc) (fun i acc H' h => Nat.le_of_eq h.1) (fun i x acc H' hi hx h => ?_) (fun acc H3 h p hp => ?_)
        · obtain ⟨h1, h2, h3⟩ := h
          obtain ⟨y, hy, ry⟩ := rds_map rus hx
          obtain ⟨e, rfl, he⟩ := want_at ry
          refine gt3 (h3 _ _ he) ?_
          walk_at "rd"
          refine ⟨by decide, fun t ht => ?_⟩
          have s1 := same_upd (o := .tup [.str y.1, .int (y.2.1 + n), .int y.2.2]) ht
          refine ⟨by simp [h1], ?_, h3.trans s1⟩
          rw [List.take_add_one, hy, List.map_append]
          refine RDs.app (RDs.same s1 _ _ h2) (RDs.one ?_)
          exact RD.tup_mk upd_same (RDs.cons RD.str_mk (RDs.cons RD.int_mk (RDs.one RD.int_mk)))
        · obtain ⟨h1, h2, h3⟩ := h
          rw [hlu, List.take_length] at h2
          have u1 := same_upd (o := .lst acc) hp
          refine ⟨p, rfl, acc, .inl ⟨upd_same, fun l2 hl2 => ⟨by decide, fun q hq => ?_⟩⟩⟩
          have u2 := u1.trans (same_upd (o := .tup acc) hl2)
          have hl3 : upd (upd H3 p (.lst acc)) l2 (.tup acc) l2 = some (.tup acc) := upd_same
          have u3 := same_upd (o := .tup [.ref sb, .ref l2]) hq
          have sm4 := (h3.trans u2).trans u3
          have rs4 : RD (upd (upd (upd H3 p (.lst acc)) l2 (.tup acc)) q (.tup [.ref sb, .ref l2])) (offS n S).d (.ref q) := by
            unfold offS Sh.d
            refine RD.tup_mk upd_same (RDs.cons (RD.tup_mk (sm4 _ _ hb) (RDs.same sm4 _ _ rws)) (RDs.one (RD.tup_mk (xs := acc) (u3 _ _ hl3) ?_)))
            rw [List.map_map]
            exact RDs.same (u2.trans u3) _ _ h2
          exact hK _ _ ⟨_, _, _, .ref q, _, _, _, offS n S, 9 + n, rfl, rs4, g.off n0, by omega, by omega, by show (S.wants.map (offW n)).length ≤ 20; rw [List.length_map]; exact h20, sm4.seq hS1, tb1.same sm4⟩
    · walk_at "rd"
      refine ⟨a, ns, 1, 5, rfl, hS, hlen, by decide, fun st H1 fst s1 sm1 => ?_⟩
      refine ⟨st, 4, rfl, s1, by decide, by decide +kernel, fun d H2 d0 d1 s2 b2 => ⟨d, rfl, ?_⟩⟩
      have sm2 := same_but2 sm1 b2 fst
      have em : (1 : Int) + d = (((1 + d).toNat : Nat) : Int) := by omega
      rw [em]
      refine ⟨st, (1 + d).toNat, rfl, s2, by omega, Nat.le_trans (m := 8) (by omega) (by decide), fun l rs H5 fl hl hrs raws ws each s5 b5 => ?_⟩
      have sm5 := same_but2 sm2 b5 fst
      refine ⟨_, .inl (sm5.seq hS), by decide, by decide, by split <;> omega, by rw [List.length_map]; split <;> omega, ?_⟩
      rw [List.length_map]
      refine cells_fill rfl hS hlen (by split <;> omega) (by decide) (by decide) hl (by omega) raws ws (fun r hr => ⟨(each r hr).1, (each r hr).2.2.2.2, Same.free sm2 (each r hr).2.2.1⟩) sm5 (fun cs x S H6 rx g h20 sm6 => ?_)
      have tb6 := tb.same sm6
      have hS6 := sm6.seq hS
      have rsx := rx
      refine ⟨x, S, 9, rfl, rx, g, by decide, by decide, tb6, fun H7 _ tb7 bt7 => ?_, fun n H7 hok tb7 bt7 => ?_⟩
      · exact hK _ _ ⟨st, l, cs, x, .non, _, _, S, rfl, RD.ku (tb_ku tb6 bt7) _ _ (nl_shop S) rx, g, h20, .inl rfl, sq_tb hS6 tb6 bt7, tb7⟩
      · obtain ⟨n0, _, _, _, wm, hwm, hnm⟩ := hok
        have hn360 : n ≤ 360 := by
          have := tmF_le (fun w hw => (g.ws.wb w hw).lag) S.wares.length wm.name
          have := g.len.2
          unfold tm at hnm
          omega
        exact hK _ _ ⟨st, l, cs, x, .int n, _, _, S, rfl, RD.ku (tb_ku tb6 bt7) _ _ (nl_shop S) rx, g, h20, .inr ⟨n, rfl, n0, hn360⟩, sq_tb hS6 tb6 bt7, tb7⟩
end
theorem all_mk {l : PySem.W.OpenLaw} {w : World} {K : PySem.W.Frag} {h : Heap} {mg : Str → Option Value} {fa : Addr} (X : K.In h) (G : h.Ns mainGlobals mg) (hfa : mg "law" = some (.ref fa))
    {f1 : Addr} {od1 an1 : Option Addr} {sl1 : Array (Option Value)} {oc1 kV1 dc1 pm1 cd1 ct1 : Value} {f2 : Addr} {od2 an2 : Option Addr} {sl2 : Array (Option Value)} {oc2 kV2 dc2 pm2 cd2 ct2 : Value} {f3 : Addr} {od3 an3 : Option Addr} {sl3 : Array (Option Value)} {oc3 kV3 dc3 pm3 cd3 ct3 : Value} {f4 : Addr} {od4 an4 : Option Addr} {sl4 : Array (Option Value)} {oc4 kV4 dc4 pm4 cd4 ct4 : Value} {f5 : Addr} {od5 an5 : Option Addr} {sl5 : Array (Option Value)} {oc5 kV5 dc5 pm5 cd5 ct5 : Value} {f6 : Addr} {od6 an6 : Option Addr} {sl6 : Array (Option Value)} {oc6 kV6 dc6 pm6 cd6 ct6 : Value} {f7 : Addr} {od7 an7 : Option Addr} {sl7 : Array (Option Value)} {oc7 kV7 dc7 pm7 cd7 ct7 : Value} {f8 : Addr} {od8 an8 : Option Addr} {sl8 : Array (Option Value)} {oc8 kV8 dc8 pm8 cd8 ct8 : Value} {f9 : Addr} {od9 an9 : Option Addr} {sl9 : Array (Option Value)} {oc9 kV9 dc9 pm9 cd9 ct9 : Value} {f10 : Addr} {od10 an10 : Option Addr} {sl10 : Array (Option Value)} {oc10 kV10 dc10 pm10 cd10 ct10 : Value} {f11 : Addr} {od11 an11 : Option Addr} {sl11 : Array (Option Value)} {oc11 kV11 dc11 pm11 cd11 ct11 : Value} {f12 : Addr} {od12 an12 : Option Addr} {sl12 : Array (Option Value)} {oc12 kV12 dc12 pm12 cd12 ct12 : Value} {f13 : Addr} {od13 an13 : Option Addr} {sl13 : Array (Option Value)} {oc13 kV13 dc13 pm13 cd13 ct13 : Value} {f14 : Addr} {od14 an14 : Option Addr} {sl14 : Array (Option Value)} {oc14 kV14 dc14 pm14 cd14 ct14 : Value} {f15 : Addr} {od15 an15 : Option Addr} {sl15 : Array (Option Value)} {oc15 kV15 dc15 pm15 cd15 ct15 : Value} {f16 : Addr} {od16 an16 : Option Addr} {sl16 : Array (Option Value)} {oc16 kV16 dc16 pm16 cd16 ct16 : Value} {f17 : Addr} {od17 an17 : Option Addr} {sl17 : Array (Option Value)} {oc17 kV17 dc17 pm17 cd17 ct17 : Value} {f18 : Addr} {od18 an18 : Option Addr} {sl18 : Array (Option Value)} {oc18 kV18 dc18 pm18 cd18 ct18 : Value} {f19 : Addr} {od19 an19 : Option Addr} {sl19 : Array (Option Value)} {oc19 kV19 dc19 pm19 cd19 ct19 : Value} {f20 : Addr} {od20 an20 : Option Addr} {sl20 : Array (Option Value)} {oc20 kV20 dc20 pm20 cd20 ct20 : Value} {f21 : Addr} {od21 an21 : Option Addr} {sl21 : Array (Option Value)} {oc21 kV21 dc21 pm21 cd21 ct21 : Value} {f22 : Addr} {od22 an22 : Option Addr} {sl22 : Array (Option Value)} {oc22 kV22 dc22 pm22 cd22 ct22 : Value} {f23 : Addr} {od23 an23 : Option Addr} {sl23 : Array (Option Value)} {oc23 kV23 dc23 pm23 cd23 ct23 : Value} {f24 : Addr} {od24 an24 : Option Addr} {sl24 : Array (Option Value)} {oc24 kV24 dc24 pm24 cd24 ct24 : Value} {f25 : Addr} {od25 an25 : Option Addr} {sl25 : Array (Option Value)} {oc25 kV25 dc25 pm25 cd25 ct25 : Value} {f26 : Addr} {od26 an26 : Option Addr} {sl26 : Array (Option Value)} {oc26 kV26 dc26 pm26 cd26 ct26 : Value} {f27 : Addr} {od27 an27 : Option Addr} {sl27 : Array (Option Value)} {oc27 kV27 dc27 pm27 cd27 ct27 : Value} {f28 : Addr} {od28 an28 : Option Addr} {sl28 : Array (Option Value)} {oc28 kV28 dc28 pm28 cd28 ct28 : Value} {f29 : Addr} {od29 an29 : Option Addr} {sl29 : Array (Option Value)} {oc29 kV29 dc29 pm29 cd29 ct29 : Value} {f30 : Addr} {od30 an30 : Option Addr} {sl30 : Array (Option Value)} {oc30 kV30 dc30 pm30 cd30 ct30 : Value} {f31 : Addr} {od31 an31 : Option Addr} {sl31 : Array (Option Value)} {oc31 kV31 dc31 pm31 cd31 ct31 : Value} {f32 : Addr} {od32 an32 : Option Addr} {sl32 : Array (Option Value)} {oc32 kV32 dc32 pm32 cd32 ct32 : Value} {f33 : Addr} {od33 an33 : Option Addr} {sl33 : Array (Option Value)} {oc33 kV33 dc33 pm33 cd33 ct33 : Value} {f34 : Addr} {od34 an34 : Option Addr} {sl34 : Array (Option Value)} {oc34 kV34 dc34 pm34 cd34 ct34 : Value} {f35 : Addr} {od35 an35 : Option Addr} {sl35 : Array (Option Value)} {oc35 kV35 dc35 pm35 cd35 ct35 : Value} {t_COMING : Tok} {t_FLOOR : Tok} {t_GIVES : Tok} {t_LAG : Tok} {t_NAME : Tok} {t_PARTS : Tok} {t_STOCK : Tok} {t_WANT_AMOUNT : Tok} {t_WANT_DAY : Tok} {t_WANT_NAME : Tok} {ct Pt : Addr} {odc : Option Addr} {vsc : Array Value} {slc : Array (Option Value)}
    (a1 : PySem.W.nsIn K mainGlobals "_law_cell_at" = some (some (.ref f1))) (l1 : K.lookup f1 = some ⟨oc1, od1, .func (PySem.W.fnOf "_law_cell_at" "_law_cell_at" (defArgs s_law_cell_at) (defBody s_law_cell_at) (defScope s_law_cell_at) .none kV1 dc1 pm1 an1 cd1 ct1), sl1⟩) (c1 : PySem.W.codeIn K cd1 "_law_cell_at" = true) (k1 : PySem.W.keepIn K (.ref f1) = true)
    (a2 : PySem.W.nsIn K mainGlobals "_law_drawn" = some (some (.ref f2))) (l2 : K.lookup f2 = some ⟨oc2, od2, .func (PySem.W.fnOf "_law_drawn" "_law_drawn" (defArgs s_law_drawn) (defBody s_law_drawn) (defScope s_law_drawn) .none kV2 dc2 pm2 an2 cd2 ct2), sl2⟩) (c2 : PySem.W.codeIn K cd2 "_law_drawn" = true) (k2 : PySem.W.keepIn K (.ref f2) = true)
    (a3 : PySem.W.nsIn K mainGlobals "_law_next" = some (some (.ref f3))) (l3 : K.lookup f3 = some ⟨oc3, od3, .func (PySem.W.fnOf "_law_next" "_law_next" (defArgs s_law_next) (defBody s_law_next) (defScope s_law_next) .none kV3 dc3 pm3 an3 cd3 ct3), sl3⟩) (c3 : PySem.W.codeIn K cd3 "_law_next" = true) (k3 : PySem.W.keepIn K (.ref f3) = true)
    (a4 : PySem.W.nsIn K mainGlobals "_law_wares" = some (some (.ref f4))) (l4 : K.lookup f4 = some ⟨oc4, od4, .func (PySem.W.fnOf "_law_wares" "_law_wares" (defArgs s_law_wares) (defBody s_law_wares) (defScope s_law_wares) .none kV4 dc4 pm4 an4 cd4 ct4), sl4⟩) (c4 : PySem.W.codeIn K cd4 "_law_wares" = true) (k4 : PySem.W.keepIn K (.ref f4) = true)
    (a5 : PySem.W.nsIn K mainGlobals "_law_amount" = some (some (.ref f5))) (l5 : K.lookup f5 = some ⟨oc5, od5, .func (PySem.W.fnOf "_law_amount" "_law_amount" (defArgs s_law_amount) (defBody s_law_amount) (defScope s_law_amount) .none kV5 dc5 pm5 an5 cd5 ct5), sl5⟩) (c5 : PySem.W.codeIn K cd5 "_law_amount" = true) (k5 : PySem.W.keepIn K (.ref f5) = true)
    (a6 : PySem.W.nsIn K mainGlobals "_law_filled" = some (some (.ref f6))) (l6 : K.lookup f6 = some ⟨oc6, od6, .func (PySem.W.fnOf "_law_filled" "_law_filled" (defArgs s_law_filled) (defBody s_law_filled) (defScope s_law_filled) .none kV6 dc6 pm6 an6 cd6 ct6), sl6⟩) (c6 : PySem.W.codeIn K cd6 "_law_filled" = true) (k6 : PySem.W.keepIn K (.ref f6) = true)
    (a7 : PySem.W.nsIn K mainGlobals "part_names" = some (some (.ref f7))) (l7 : K.lookup f7 = some ⟨oc7, od7, .func (PySem.W.fnOf "part_names" "part_names" (defArgs s_part_names) (defBody s_part_names) (defScope s_part_names) .none kV7 dc7 pm7 an7 cd7 ct7), sl7⟩) (c7 : PySem.W.codeIn K cd7 "part_names" = true) (k7 : PySem.W.keepIn K (.ref f7) = true)
    (a8 : PySem.W.nsIn K mainGlobals "without_ends" = some (some (.ref f8))) (l8 : K.lookup f8 = some ⟨oc8, od8, .func (PySem.W.fnOf "without_ends" "without_ends" (defArgs s_without_ends) (defBody s_without_ends) (defScope s_without_ends) .none kV8 dc8 pm8 an8 cd8 ct8), sl8⟩) (c8 : PySem.W.codeIn K cd8 "without_ends" = true) (k8 : PySem.W.keepIn K (.ref f8) = true)
    (a9 : PySem.W.nsIn K mainGlobals "endless_parts" = some (some (.ref f9))) (l9 : K.lookup f9 = some ⟨oc9, od9, .func (PySem.W.fnOf "endless_parts" "endless_parts" (defArgs s_endless_parts) (defBody s_endless_parts) (defScope s_endless_parts) .none kV9 dc9 pm9 an9 cd9 ct9), sl9⟩) (c9 : PySem.W.codeIn K cd9 "endless_parts" = true) (k9 : PySem.W.keepIn K (.ref f9) = true)
    (a10 : PySem.W.nsIn K mainGlobals "ring" = some (some (.ref f10))) (l10 : K.lookup f10 = some ⟨oc10, od10, .func (PySem.W.fnOf "ring" "ring" (defArgs s_ring) (defBody s_ring) (defScope s_ring) .none kV10 dc10 pm10 an10 cd10 ct10), sl10⟩) (c10 : PySem.W.codeIn K cd10 "ring" = true) (k10 : PySem.W.keepIn K (.ref f10) = true)
    (a11 : PySem.W.nsIn K mainGlobals "check_rings" = some (some (.ref f11))) (l11 : K.lookup f11 = some ⟨oc11, od11, .func (PySem.W.fnOf "check_rings" "check_rings" (defArgs s_check_rings) (defBody s_check_rings) (defScope s_check_rings) .none kV11 dc11 pm11 an11 cd11 ct11), sl11⟩) (c11 : PySem.W.codeIn K cd11 "check_rings" = true) (k11 : PySem.W.keepIn K (.ref f11) = true)
    (a12 : PySem.W.nsIn K mainGlobals "names_of" = some (some (.ref f12))) (l12 : K.lookup f12 = some ⟨oc12, od12, .func (PySem.W.fnOf "names_of" "names_of" (defArgs s_names_of) (defBody s_names_of) (defScope s_names_of) .none kV12 dc12 pm12 an12 cd12 ct12), sl12⟩) (c12 : PySem.W.codeIn K cd12 "names_of" = true) (k12 : PySem.W.keepIn K (.ref f12) = true)
    (a13 : PySem.W.nsIn K mainGlobals "levels" = some (some (.ref f13))) (l13 : K.lookup f13 = some ⟨oc13, od13, .func (PySem.W.fnOf "levels" "levels" (defArgs s_levels) (defBody s_levels) (defScope s_levels) .none kV13 dc13 pm13 an13 cd13 ct13), sl13⟩) (c13 : PySem.W.codeIn K cd13 "levels" = true) (k13 : PySem.W.keepIn K (.ref f13) = true)
    (a14 : PySem.W.nsIn K mainGlobals "worked" = some (some (.ref f14))) (l14 : K.lookup f14 = some ⟨oc14, od14, .func (PySem.W.fnOf "worked" "worked" (defArgs s_worked) (defBody s_worked) (defScope s_worked) .none kV14 dc14 pm14 an14 cd14 ct14), sl14⟩) (c14 : PySem.W.codeIn K cd14 "worked" = true) (k14 : PySem.W.keepIn K (.ref f14) = true)
    (a15 : PySem.W.nsIn K mainGlobals "ware_of" = some (some (.ref f15))) (l15 : K.lookup f15 = some ⟨oc15, od15, .func (PySem.W.fnOf "ware_of" "ware_of" (defArgs s_ware_of) (defBody s_ware_of) (defScope s_ware_of) .none kV15 dc15 pm15 an15 cd15 ct15), sl15⟩) (c15 : PySem.W.codeIn K cd15 "ware_of" = true) (k15 : PySem.W.keepIn K (.ref f15) = true)
    (a16 : PySem.W.nsIn K mainGlobals "lots_for" = some (some (.ref f16))) (l16 : K.lookup f16 = some ⟨oc16, od16, .func (PySem.W.fnOf "lots_for" "lots_for" (defArgs s_lots_for) (defBody s_lots_for) (defScope s_lots_for) .none kV16 dc16 pm16 an16 cd16 ct16), sl16⟩) (c16 : PySem.W.codeIn K cd16 "lots_for" = true) (k16 : PySem.W.keepIn K (.ref f16) = true)
    (a17 : PySem.W.nsIn K mainGlobals "least_lots" = some (some (.ref f17))) (l17 : K.lookup f17 = some ⟨oc17, od17, .func (PySem.W.fnOf "least_lots" "least_lots" (defArgs s_least_lots) (defBody s_least_lots) (defScope s_least_lots) .none kV17 dc17 pm17 an17 cd17 ct17), sl17⟩) (c17 : PySem.W.codeIn K cd17 "least_lots" = true) (k17 : PySem.W.keepIn K (.ref f17) = true)
    (a18 : PySem.W.nsIn K mainGlobals "count_days" = some (some (.ref f18))) (l18 : K.lookup f18 = some ⟨oc18, od18, .func (PySem.W.fnOf "count_days" "count_days" (defArgs s_count_days) (defBody s_count_days) (defScope s_count_days) .none kV18 dc18 pm18 an18 cd18 ct18), sl18⟩) (c18 : PySem.W.codeIn K cd18 "count_days" = true) (k18 : PySem.W.keepIn K (.ref f18) = true)
    (a19 : PySem.W.nsIn K mainGlobals "wants_row" = some (some (.ref f19))) (l19 : K.lookup f19 = some ⟨oc19, od19, .func (PySem.W.fnOf "wants_row" "wants_row" (defArgs s_wants_row) (defBody s_wants_row) (defScope s_wants_row) .none kV19 dc19 pm19 an19 cd19 ct19), sl19⟩) (c19 : PySem.W.codeIn K cd19 "wants_row" = true) (k19 : PySem.W.keepIn K (.ref f19) = true)
    (a20 : PySem.W.nsIn K mainGlobals "begun_row" = some (some (.ref f20))) (l20 : K.lookup f20 = some ⟨oc20, od20, .func (PySem.W.fnOf "begun_row" "begun_row" (defArgs s_begun_row) (defBody s_begun_row) (defScope s_begun_row) .none kV20 dc20 pm20 an20 cd20 ct20), sl20⟩) (c20 : PySem.W.codeIn K cd20 "begun_row" = true) (k20 : PySem.W.keepIn K (.ref f20) = true)
    (a21 : PySem.W.nsIn K mainGlobals "needs_row" = some (some (.ref f21))) (l21 : K.lookup f21 = some ⟨oc21, od21, .func (PySem.W.fnOf "needs_row" "needs_row" (defArgs s_needs_row) (defBody s_needs_row) (defScope s_needs_row) .none kV21 dc21 pm21 an21 cd21 ct21), sl21⟩) (c21 : PySem.W.codeIn K cd21 "needs_row" = true) (k21 : PySem.W.keepIn K (.ref f21) = true)
    (a22 : PySem.W.nsIn K mainGlobals "arrivals_row" = some (some (.ref f22))) (l22 : K.lookup f22 = some ⟨oc22, od22, .func (PySem.W.fnOf "arrivals_row" "arrivals_row" (defArgs s_arrivals_row) (defBody s_arrivals_row) (defScope s_arrivals_row) .none kV22 dc22 pm22 an22 cd22 ct22), sl22⟩) (c22 : PySem.W.codeIn K cd22 "arrivals_row" = true) (k22 : PySem.W.keepIn K (.ref f22) = true)
    (a23 : PySem.W.nsIn K mainGlobals "first_early" = some (some (.ref f23))) (l23 : K.lookup f23 = some ⟨oc23, od23, .func (PySem.W.fnOf "first_early" "first_early" (defArgs s_first_early) (defBody s_first_early) (defScope s_first_early) .none kV23 dc23 pm23 an23 cd23 ct23), sl23⟩) (c23 : PySem.W.codeIn K cd23 "first_early" = true) (k23 : PySem.W.keepIn K (.ref f23) = true)
    (a24 : PySem.W.nsIn K mainGlobals "planned" = some (some (.ref f24))) (l24 : K.lookup f24 = some ⟨oc24, od24, .func (PySem.W.fnOf "planned" "planned" (defArgs s_planned) (defBody s_planned) (defScope s_planned) .none kV24 dc24 pm24 an24 cd24 ct24), sl24⟩) (c24 : PySem.W.codeIn K cd24 "planned" = true) (k24 : PySem.W.keepIn K (.ref f24) = true)
    (a25 : PySem.W.nsIn K mainGlobals "lets_plan" = some (some (.ref f25))) (l25 : K.lookup f25 = some ⟨oc25, od25, .func (PySem.W.fnOf "lets_plan" "lets_plan" (defArgs s_lets_plan) (defBody s_lets_plan) (defScope s_lets_plan) .none kV25 dc25 pm25 an25 cd25 ct25), sl25⟩) (c25 : PySem.W.codeIn K cd25 "lets_plan" = true) (k25 : PySem.W.keepIn K (.ref f25) = true)
    (a26 : PySem.W.nsIn K mainGlobals "times" = some (some (.ref f26))) (l26 : K.lookup f26 = some ⟨oc26, od26, .func (PySem.W.fnOf "times" "times" (defArgs s_times) (defBody s_times) (defScope s_times) .none kV26 dc26 pm26 an26 cd26 ct26), sl26⟩) (c26 : PySem.W.codeIn K cd26 "times" = true) (k26 : PySem.W.keepIn K (.ref f26) = true)
    (a27 : PySem.W.nsIn K mainGlobals "put_off" = some (some (.ref f27))) (l27 : K.lookup f27 = some ⟨oc27, od27, .func (PySem.W.fnOf "put_off" "put_off" (defArgs s_put_off) (defBody s_put_off) (defScope s_put_off) .none kV27 dc27 pm27 an27 cd27 ct27), sl27⟩) (c27 : PySem.W.codeIn K cd27 "put_off" = true) (k27 : PySem.W.keepIn K (.ref f27) = true)
    (a28 : PySem.W.nsIn K mainGlobals "late" = some (some (.ref f28))) (l28 : K.lookup f28 = some ⟨oc28, od28, .func (PySem.W.fnOf "late" "late" (defArgs s_late) (defBody s_late) (defScope s_late) .none kV28 dc28 pm28 an28 cd28 ct28), sl28⟩) (c28 : PySem.W.codeIn K cd28 "late" = true) (k28 : PySem.W.keepIn K (.ref f28) = true)
    (a29 : PySem.W.nsIn K mainGlobals "with_want" = some (some (.ref f29))) (l29 : K.lookup f29 = some ⟨oc29, od29, .func (PySem.W.fnOf "with_want" "with_want" (defArgs s_with_want) (defBody s_with_want) (defScope s_with_want) .none kV29 dc29 pm29 an29 cd29 ct29), sl29⟩) (c29 : PySem.W.codeIn K cd29 "with_want" = true) (k29 : PySem.W.keepIn K (.ref f29) = true)
    (a30 : PySem.W.nsIn K mainGlobals "greatest_amount" = some (some (.ref f30))) (l30 : K.lookup f30 = some ⟨oc30, od30, .func (PySem.W.fnOf "greatest_amount" "greatest_amount" (defArgs s_greatest_amount) (defBody s_greatest_amount) (defScope s_greatest_amount) .none kV30 dc30 pm30 an30 cd30 ct30), sl30⟩) (c30 : PySem.W.codeIn K cd30 "greatest_amount" = true) (k30 : PySem.W.keepIn K (.ref f30) = true)
    (a31 : PySem.W.nsIn K mainGlobals "most" = some (some (.ref f31))) (l31 : K.lookup f31 = some ⟨oc31, od31, .func (PySem.W.fnOf "most" "most" (defArgs s_most) (defBody s_most) (defScope s_most) .none kV31 dc31 pm31 an31 cd31 ct31), sl31⟩) (c31 : PySem.W.codeIn K cd31 "most" = true) (k31 : PySem.W.keepIn K (.ref f31) = true)
    (a32 : PySem.W.nsIn K mainGlobals "_law_time" = some (some (.ref f32))) (l32 : K.lookup f32 = some ⟨oc32, od32, .func (PySem.W.fnOf "_law_time" "_law_time" (defArgs s_law_time) (defBody s_law_time) (defScope s_law_time) .none kV32 dc32 pm32 an32 cd32 ct32), sl32⟩) (c32 : PySem.W.codeIn K cd32 "_law_time" = true) (k32 : PySem.W.keepIn K (.ref f32) = true)
    (a33 : PySem.W.nsIn K mainGlobals "_law_plans" = some (some (.ref f33))) (l33 : K.lookup f33 = some ⟨oc33, od33, .func (PySem.W.fnOf "_law_plans" "_law_plans" (defArgs s_law_plans) (defBody s_law_plans) (defScope s_law_plans) .none kV33 dc33 pm33 an33 cd33 ct33), sl33⟩) (c33 : PySem.W.codeIn K cd33 "_law_plans" = true) (k33 : PySem.W.keepIn K (.ref f33) = true)
    (a34 : PySem.W.nsIn K mainGlobals "_law_right" = some (some (.ref f34))) (l34 : K.lookup f34 = some ⟨oc34, od34, .func (PySem.W.fnOf "_law_right" "_law_right" (defArgs s_law_right) (defBody s_law_right) (defScope s_law_right) .none kV34 dc34 pm34 an34 cd34 ct34), sl34⟩) (c34 : PySem.W.codeIn K cd34 "_law_right" = true) (k34 : PySem.W.keepIn K (.ref f34) = true)
    (a35 : PySem.W.nsIn K mainGlobals "law" = some (some (.ref f35))) (l35 : K.lookup f35 = some ⟨oc35, od35, .func (PySem.W.fnOf "law" "law" (defArgs s_law) (defBody s_law) (defScope s_law) .none kV35 dc35 pm35 an35 cd35 ct35), sl35⟩) (c35 : PySem.W.codeIn K cd35 "law" = true) (k35 : PySem.W.keepIn K (.ref f35) = true)
    (z_range : PySem.W.nsIn K mainGlobals "range" = some none)
    (z_len : PySem.W.nsIn K mainGlobals "len" = some none)
    (z_max : PySem.W.nsIn K mainGlobals "max" = some none)
    (z_sorted : PySem.W.nsIn K mainGlobals "sorted" = some none)
    (z_reversed : PySem.W.nsIn K mainGlobals "reversed" = some none)
    (z_zip : PySem.W.nsIn K mainGlobals "zip" = some none)
    (z_min : PySem.W.nsIn K mainGlobals "min" = some none)
    (z_enumerate : PySem.W.nsIn K mainGlobals "enumerate" = some none)
    (z_tuple : PySem.W.nsIn K mainGlobals "tuple" = some none)
    (z_int : PySem.W.nsIn K mainGlobals "int" = some none)
    (z_list : PySem.W.nsIn K mainGlobals "list" = some none)
    (z_isinstance : PySem.W.nsIn K mainGlobals "isinstance" = some none)
    (z_bool : PySem.W.nsIn K mainGlobals "bool" = some none)
    (g_COMING : PySem.W.nsIn K mainGlobals "COMING" = some (some (.int 5 t_COMING)))
    (g_FLOOR : PySem.W.nsIn K mainGlobals "FLOOR" = some (some (.int 3 t_FLOOR)))
    (g_GIVES : PySem.W.nsIn K mainGlobals "GIVES" = some (some (.int 2 t_GIVES)))
    (g_LAG : PySem.W.nsIn K mainGlobals "LAG" = some (some (.int 1 t_LAG)))
    (g_NAME : PySem.W.nsIn K mainGlobals "NAME" = some (some (.int 0 t_NAME)))
    (g_PARTS : PySem.W.nsIn K mainGlobals "PARTS" = some (some (.int 6 t_PARTS)))
    (g_STOCK : PySem.W.nsIn K mainGlobals "STOCK" = some (some (.int 4 t_STOCK)))
    (g_WANT_AMOUNT : PySem.W.nsIn K mainGlobals "WANT_AMOUNT" = some (some (.int 2 t_WANT_AMOUNT)))
    (g_WANT_DAY : PySem.W.nsIn K mainGlobals "WANT_DAY" = some (some (.int 1 t_WANT_DAY)))
    (g_WANT_NAME : PySem.W.nsIn K mainGlobals "WANT_NAME" = some (some (.int 0 t_WANT_NAME)))
    (tq : cd14 = .ref ct) (tl : K.lookup ct = some ⟨.type "code", odc, .fields vsc, slc⟩) (tv : vsc[11]? = some (.ref Pt)) (tw : codeVs vsc ct Pt = true) (tp : K.lookup Pt = none) :
    ∃ (fd : FuncData) (ct Pt : Addr), (∀ (s : Shared) (v : Value), BindsTo s fd ⟨[v], []⟩ [("_law_script", v)]) ∧ PySem.W.tabIn K "worked" = some (ct, Pt) ∧ K.lookup Pt = none ∧ ∀ base : Heap, K.In base → base.Ns mainGlobals mg → BMain mg base → FnOk l.prog w K mg base CX0 15 fa fd ["_law_script"] (sp_law K Pt) := by
  have e := hfa.symm.trans (PySem.W.mg_of X G a35)
  cases e
  have T : Txt mg := ⟨PySem.W.mg_none_of X G z_range, PySem.W.mg_none_of X G z_len, PySem.W.mg_none_of X G z_max, PySem.W.mg_none_of X G z_sorted, PySem.W.mg_none_of X G z_reversed, PySem.W.mg_none_of X G z_zip, PySem.W.mg_none_of X G z_min, PySem.W.mg_none_of X G z_enumerate, PySem.W.mg_none_of X G z_tuple, PySem.W.mg_none_of X G z_int, PySem.W.mg_none_of X G z_list, PySem.W.mg_none_of X G z_isinstance, PySem.W.mg_none_of X G z_bool, ⟨_, PySem.W.mg_of X G g_COMING⟩, ⟨_, PySem.W.mg_of X G g_FLOOR⟩, ⟨_, PySem.W.mg_of X G g_GIVES⟩, ⟨_, PySem.W.mg_of X G g_LAG⟩, ⟨_, PySem.W.mg_of X G g_NAME⟩, ⟨_, PySem.W.mg_of X G g_PARTS⟩, ⟨_, PySem.W.mg_of X G g_STOCK⟩, ⟨_, PySem.W.mg_of X G g_WANT_AMOUNT⟩, ⟨_, PySem.W.mg_of X G g_WANT_DAY⟩, ⟨_, PySem.W.mg_of X G g_WANT_NAME⟩⟩
  have tb := tab_mk a14 l14 tq tl tv
  have tc := codeHd_mk tl tv tw
  have F1 := fun_mk (st := s_law_cell_at) l1 c1 k1
  have b1 := F1.binds (ps := ["_law_script", "_law_k"]) fun _ _ _ _ _ _ us hl => match us, hl with | [_, _], _ => rfl
  have h_law_cell_at : ∀ base : Heap, BMain mg base → Has l.prog w K mg base "_law_cell_at" 1 ["_law_script", "_law_k"] (sp_law_cell_at K) := fun base hB => ⟨_, _, PySem.W.mg_of X G a1, k1, b1, ok_law_cell_at F1 T⟩
  have F2 := fun_mk (st := s_law_drawn) l2 c2 k2
  have b2 := F2.binds (ps := ["_law_script", "_law_k", "_law_salt"]) fun _ _ _ _ _ _ us hl => match us, hl with | [_, _, _], _ => rfl
  have h_law_drawn : ∀ base : Heap, BMain mg base → Has l.prog w K mg base "_law_drawn" 2 ["_law_script", "_law_k", "_law_salt"] (sp_law_drawn K) := fun base hB => ⟨_, _, PySem.W.mg_of X G a2, k2, b2, ok_law_drawn F2 T (h_law_cell_at base hB)⟩
  have F3 := fun_mk (st := s_law_next) l3 c3 k3
  have b3 := F3.binds (ps := ["_law_state", "_law_many"]) fun _ _ _ _ _ _ us hl => match us, hl with | [_, _], _ => rfl
  have h_law_next : ∀ base : Heap, BMain mg base → Has l.prog w K mg base "_law_next" 1 ["_law_state", "_law_many"] sp_law_next := fun base hB => ⟨_, _, PySem.W.mg_of X G a3, k3, b3, ok_law_next F3 T⟩
  have F4 := fun_mk (st := s_law_wares) l4 c4 k4
  have b4 := F4.binds (ps := ["_law_state", "_law_many"]) fun _ _ _ _ _ _ us hl => match us, hl with | [_, _], _ => rfl
  have h_law_wares : ∀ base : Heap, BMain mg base → Has l.prog w K mg base "_law_wares" 2 ["_law_state", "_law_many"] sp_law_wares := fun base hB => ⟨_, _, PySem.W.mg_of X G a4, k4, b4, ok_law_wares F4 T (h_law_next base hB)⟩
  have F5 := fun_mk (st := s_law_amount) l5 c5 k5
  have b5 := F5.binds (ps := ["_law_state"]) fun _ _ _ _ _ _ us hl => match us, hl with | [_], _ => rfl
  have h_law_amount : ∀ base : Heap, BMain mg base → Has l.prog w K mg base "_law_amount" 2 ["_law_state"] sp_law_amount := fun base hB => ⟨_, _, PySem.W.mg_of X G a5, k5, b5, ok_law_amount F5 T (h_law_next base hB)⟩
  have F6 := fun_mk (st := s_law_filled) l6 c6 k6
  have b6 := F6.binds (ps := ["_law_wares_here", "_law_cells", "_law_sized"]) fun _ _ _ _ _ _ us hl => match us, hl with | [_, _, _], _ => rfl
  have h_law_filled : ∀ base : Heap, BMain mg base → Has l.prog w K mg base "_law_filled" 3 ["_law_wares_here", "_law_cells", "_law_sized"] sp_law_filled := fun base hB => ⟨_, _, PySem.W.mg_of X G a6, k6, b6, ok_law_filled F6 T (h_law_next base hB) (h_law_amount base hB)⟩
  have F7 := fun_mk (st := s_part_names) l7 c7 k7
  have b7 := F7.binds (ps := ["ware"]) fun _ _ _ _ _ _ us hl => match us, hl with | [_], _ => rfl
  have h_part_names : ∀ base : Heap, BMain mg base → Has l.prog w K mg base "part_names" 1 ["ware"] sp_part_names := fun base hB => ⟨_, _, PySem.W.mg_of X G a7, k7, b7, ok_part_names F7 T⟩
  have F8 := fun_mk (st := s_without_ends) l8 c8 k8
  have b8 := F8.binds (ps := ["parts"]) fun _ _ _ _ _ _ us hl => match us, hl with | [_], _ => rfl
  have h_without_ends : ∀ base : Heap, BMain mg base → Has l.prog w K mg base "without_ends" 1 ["parts"] sp_without_ends := fun base hB => ⟨_, _, PySem.W.mg_of X G a8, k8, b8, ok_without_ends F8 T⟩
  have F9 := fun_mk (st := s_endless_parts) l9 c9 k9
  have b9 := F9.binds (ps := ["shop"]) fun _ _ _ _ _ _ us hl => match us, hl with | [_], _ => rfl
  have h_endless_parts : ∀ base : Heap, BMain mg base → Has l.prog w K mg base "endless_parts" 2 ["shop"] sp_endless_parts := fun base hB => ⟨_, _, PySem.W.mg_of X G a9, k9, b9, ok_endless_parts F9 T (h_part_names base hB) (h_without_ends base hB)⟩
  have F10 := fun_mk (st := s_ring) l10 c10 k10
  have b10 := F10.binds (ps := ["shop"]) fun _ _ _ _ _ _ us hl => match us, hl with | [_], _ => rfl
  have h_ring : ∀ base : Heap, BMain mg base → Has l.prog w K mg base "ring" 3 ["shop"] sp_ring := fun base hB => ⟨_, _, PySem.W.mg_of X G a10, k10, b10, ok_ring F10 T (h_endless_parts base hB)⟩
  have F11 := fun_mk (st := s_check_rings) l11 c11 k11
  have b11 := F11.binds (ps := ["shop"]) fun _ _ _ _ _ _ us hl => match us, hl with | [_], _ => rfl
  have h_check_rings : ∀ base : Heap, BMain mg base → Has l.prog w K mg base "check_rings" 4 ["shop"] sp_check_rings := fun base hB => ⟨_, _, PySem.W.mg_of X G a11, k11, b11, ok_check_rings F11 T (h_ring base hB)⟩
  have F12 := fun_mk (st := s_names_of) l12 c12 k12
  have b12 := F12.binds (ps := ["shop"]) fun _ _ _ _ _ _ us hl => match us, hl with | [_], _ => rfl
  have h_names_of : ∀ base : Heap, BMain mg base → Has l.prog w K mg base "names_of" 1 ["shop"] sp_names_of := fun base hB => ⟨_, _, PySem.W.mg_of X G a12, k12, b12, ok_names_of F12 T⟩
  have F13 := fun_mk (st := s_levels) l13 c13 k13
  have b13 := F13.binds (ps := ["shop"]) fun _ _ _ _ _ _ us hl => match us, hl with | [_], _ => rfl
  have h_levels : ∀ base : Heap, BMain mg base → Has l.prog w K mg base "levels" 5 ["shop"] sp_levels := fun base hB => ⟨_, _, PySem.W.mg_of X G a13, k13, b13, ok_levels F13 T (h_check_rings base hB) (h_names_of base hB) (h_part_names base hB)⟩
  have F14 := fun_mk (st := s_worked) l14 c14 k14
  have b14 := F14.binds (ps := ["shop"]) fun _ _ _ _ _ _ us hl => match us, hl with | [_], _ => rfl
  have h_worked : ∀ base : Heap, BMain mg base → Has l.prog w K mg base "worked" 6 ["shop"] (sp_worked Pt) := fun base hB => ⟨_, _, PySem.W.mg_of X G a14, k14, b14, ok_worked F14 T (h_levels base hB) (h_names_of base hB) ⟨fun _ _ _ _ e => code_of_tab tb a14 e, tc⟩ hB⟩
  have F15 := fun_mk (st := s_ware_of) l15 c15 k15
  have b15 := F15.binds (ps := ["shop", "name"]) fun _ _ _ _ _ _ us hl => match us, hl with | [_, _], _ => rfl
  have h_ware_of : ∀ base : Heap, BMain mg base → Has l.prog w K mg base "ware_of" 1 ["shop", "name"] sp_ware_of := fun base hB => ⟨_, _, PySem.W.mg_of X G a15, k15, b15, ok_ware_of F15 T⟩
  have F16 := fun_mk (st := s_lots_for) l16 c16 k16
  have b16 := F16.binds (ps := ["amount", "gives"]) fun _ _ _ _ _ _ us hl => match us, hl with | [_, _], _ => rfl
  have h_lots_for : ∀ base : Heap, BMain mg base → Has l.prog w K mg base "lots_for" 1 ["amount", "gives"] sp_lots_for := fun base hB => ⟨_, _, PySem.W.mg_of X G a16, k16, b16, ok_lots_for F16 T⟩
  have F17 := fun_mk (st := s_least_lots) l17 c17 k17
  have b17 := F17.binds (ps := ["have", "need", "gives", "floor"]) fun _ _ _ _ _ _ us hl => match us, hl with | [_, _, _, _], _ => rfl
  have h_least_lots : ∀ base : Heap, BMain mg base → Has l.prog w K mg base "least_lots" 2 ["have", "need", "gives", "floor"] sp_least_lots := fun base hB => ⟨_, _, PySem.W.mg_of X G a17, k17, b17, ok_least_lots F17 T (h_lots_for base hB)⟩
  have F18 := fun_mk (st := s_count_days) l18 c18 k18
  have b18 := F18.binds (ps := ["shop"]) fun _ _ _ _ _ _ us hl => match us, hl with | [_], _ => rfl
  have h_count_days : ∀ base : Heap, BMain mg base → Has l.prog w K mg base "count_days" 1 ["shop"] sp_count_days := fun base hB => ⟨_, _, PySem.W.mg_of X G a18, k18, b18, ok_count_days F18 T⟩
  have F19 := fun_mk (st := s_wants_row) l19 c19 k19
  have b19 := F19.binds (ps := ["shop", "ware"]) fun _ _ _ _ _ _ us hl => match us, hl with | [_, _], _ => rfl
  have h_wants_row : ∀ base : Heap, BMain mg base → Has l.prog w K mg base "wants_row" 2 ["shop", "ware"] sp_wants_row := fun base hB => ⟨_, _, PySem.W.mg_of X G a19, k19, b19, ok_wants_row F19 T (h_count_days base hB)⟩
  have F20 := fun_mk (st := s_begun_row) l20 c20 k20
  have b20 := F20.binds (ps := ["plan", "ware"]) fun _ _ _ _ _ _ us hl => match us, hl with | [_, _], _ => rfl
  have h_begun_row : ∀ base : Heap, BMain mg base → Has l.prog w K mg base "begun_row" 1 ["plan", "ware"] sp_begun_row := fun base hB => ⟨_, _, PySem.W.mg_of X G a20, k20, b20, ok_begun_row F20 T⟩
  have F21 := fun_mk (st := s_needs_row) l21 c21 k21
  have b21 := F21.binds (ps := ["shop", "plan", "ware"]) fun _ _ _ _ _ _ us hl => match us, hl with | [_, _, _], _ => rfl
  have h_needs_row : ∀ base : Heap, BMain mg base → Has l.prog w K mg base "needs_row" 3 ["shop", "plan", "ware"] sp_needs_row := fun base hB => ⟨_, _, PySem.W.mg_of X G a21, k21, b21, ok_needs_row F21 T (h_wants_row base hB) (h_begun_row base hB)⟩
  have F22 := fun_mk (st := s_arrivals_row) l22 c22 k22
  have b22 := F22.binds (ps := ["shop", "ware"]) fun _ _ _ _ _ _ us hl => match us, hl with | [_, _], _ => rfl
  have h_arrivals_row : ∀ base : Heap, BMain mg base → Has l.prog w K mg base "arrivals_row" 2 ["shop", "ware"] sp_arrivals_row := fun base hB => ⟨_, _, PySem.W.mg_of X G a22, k22, b22, ok_arrivals_row F22 T (h_count_days base hB)⟩
  have F23 := fun_mk (st := s_first_early) l23 c23 k23
  have b23 := F23.binds (ps := ["lots", "lag"]) fun _ _ _ _ _ _ us hl => match us, hl with | [_, _], _ => rfl
  have h_first_early : ∀ base : Heap, BMain mg base → Has l.prog w K mg base "first_early" 1 ["lots", "lag"] sp_first_early := fun base hB => ⟨_, _, PySem.W.mg_of X G a23, k23, b23, ok_first_early F23 T⟩
  have F24 := fun_mk (st := s_planned) l24 c24 k24
  have b24 := F24.binds (ps := ["shop"]) fun _ _ _ _ _ _ us hl => match us, hl with | [_], _ => rfl
  have h_planned : ∀ base : Heap, BMain mg base → Has l.prog w K mg base "planned" 7 ["shop"] (sp_planned Pt) := fun base hB => ⟨_, _, PySem.W.mg_of X G a24, k24, b24, ok_planned F24 T (h_worked base hB) (h_ware_of base hB) (h_least_lots base hB) (h_needs_row base hB) (h_arrivals_row base hB) (h_first_early base hB)⟩
  have F25 := fun_mk (st := s_lets_plan) l25 c25 k25
  have b25 := F25.binds (ps := ["shop"]) fun _ _ _ _ _ _ us hl => match us, hl with | [_], _ => rfl
  have h_lets_plan : ∀ base : Heap, BMain mg base → Has l.prog w K mg base "lets_plan" 8 ["shop"] (sp_lets_plan Pt) := fun base hB => ⟨_, _, PySem.W.mg_of X G a25, k25, b25, ok_lets_plan F25 T (h_planned base hB)⟩
  have F26 := fun_mk (st := s_times) l26 c26 k26
  have b26 := F26.binds (ps := ["shop"]) fun _ _ _ _ _ _ us hl => match us, hl with | [_], _ => rfl
  have h_times : ∀ base : Heap, BMain mg base → Has l.prog w K mg base "times" 7 ["shop"] (sp_times Pt) := fun base hB => ⟨_, _, PySem.W.mg_of X G a26, k26, b26, ok_times F26 T (h_worked base hB) (h_ware_of base hB) (h_part_names base hB)⟩
  have F27 := fun_mk (st := s_put_off) l27 c27 k27
  have b27 := F27.binds (ps := ["shop", "days"]) fun _ _ _ _ _ _ us hl => match us, hl with | [_, _], _ => rfl
  have h_put_off : ∀ base : Heap, BMain mg base → Has l.prog w K mg base "put_off" 5 ["shop", "days"] sp_put_off := fun base hB => ⟨_, _, PySem.W.mg_of X G a27, k27, b27, ok_put_off F27 T (h_check_rings base hB)⟩
  have F28 := fun_mk (st := s_late) l28 c28 k28
  have b28 := F28.binds (ps := ["shop"]) fun _ _ _ _ _ _ us hl => match us, hl with | [_], _ => rfl
  have h_late : ∀ base : Heap, BMain mg base → Has l.prog w K mg base "late" 9 ["shop"] (sp_late Pt) := fun base hB => ⟨_, _, PySem.W.mg_of X G a28, k28, b28, ok_late F28 T (h_lets_plan base hB) (h_times base hB) (h_put_off base hB)⟩
  have F29 := fun_mk (st := s_with_want) l29 c29 k29
  have b29 := F29.binds (ps := ["shop", "name", "day", "amount"]) fun _ _ _ _ _ _ us hl => match us, hl with | [_, _, _, _], _ => rfl
  have h_with_want : ∀ base : Heap, BMain mg base → Has l.prog w K mg base "with_want" 5 ["shop", "name", "day", "amount"] sp_with_want := fun base hB => ⟨_, _, PySem.W.mg_of X G a29, k29, b29, ok_with_want F29 T (h_check_rings base hB) (h_ware_of base hB)⟩
  have F30 := fun_mk (st := s_greatest_amount) l30 c30 k30
  have b30 := F30.binds (ps := ["shop", "name", "day"]) fun _ _ _ _ _ _ us hl => match us, hl with | [_, _, _], _ => rfl
  have h_greatest_amount : ∀ base : Heap, BMain mg base → Has l.prog w K mg base "greatest_amount" 9 ["shop", "name", "day"] (sp_greatest_amount Pt) := fun base hB => ⟨_, _, PySem.W.mg_of X G a30, k30, b30, ok_greatest_amount F30 T (h_lets_plan base hB) (h_with_want base hB)⟩
  have F31 := fun_mk (st := s_most) l31 c31 k31
  have b31 := F31.binds (ps := ["shop", "name", "day"]) fun _ _ _ _ _ _ us hl => match us, hl with | [_, _, _], _ => rfl
  have h_most : ∀ base : Heap, BMain mg base → Has l.prog w K mg base "most" 10 ["shop", "name", "day"] (sp_most Pt) := fun base hB => ⟨_, _, PySem.W.mg_of X G a31, k31, b31, ok_most F31 T (h_check_rings base hB) (h_ware_of base hB) (h_lets_plan base hB) (h_times base hB) (h_greatest_amount base hB)⟩
  have F32 := fun_mk (st := s_law_time) l32 c32 k32
  have b32 := F32.binds (ps := ["_law_shop", "_law_name"]) fun _ _ _ _ _ _ us hl => match us, hl with | [_, _], _ => rfl
  have h_law_time : ∀ base : Heap, BMain mg base → Has l.prog w K mg base "_law_time" 13 ["_law_shop", "_law_name"] (sp_law_time 13) := fun base hB => ⟨_, _, PySem.W.mg_of X G a32, k32, b32, ok_law_time F32 T (PySem.W.mg_of X G a32) k32 b32 13⟩
  have F33 := fun_mk (st := s_law_plans) l33 c33 k33
  have b33 := F33.binds (ps := ["_law_shop", "_law_name", "_law_day", "_law_amount_here"]) fun _ _ _ _ _ _ us hl => match us, hl with | [_, _, _, _], _ => rfl
  have h_law_plans : ∀ base : Heap, BMain mg base → Has l.prog w K mg base "_law_plans" 8 ["_law_shop", "_law_name", "_law_day", "_law_amount_here"] (sp_law_plans Pt) := fun base hB => ⟨_, _, PySem.W.mg_of X G a33, k33, b33, ok_law_plans F33 T (h_planned base hB) (h_with_want base hB)⟩
  have F34 := fun_mk (st := s_law_right) l34 c34 k34
  have b34 := F34.binds (ps := ["_law_shop", "_law_name", "_law_day", "_law_great"]) fun _ _ _ _ _ _ us hl => match us, hl with | [_, _, _, _], _ => rfl
  have h_law_right : ∀ base : Heap, BMain mg base → Has l.prog w K mg base "_law_right" 14 ["_law_shop", "_law_name", "_law_day", "_law_great"] (sp_law_right Pt) := fun base hB => ⟨_, _, PySem.W.mg_of X G a34, k34, b34, ok_law_right F34 T (h_most base hB) (h_planned base hB) (h_law_time base hB) (h_law_plans base hB)⟩
  have F35 := fun_mk (st := s_law) l35 c35 k35
  exact ⟨PySem.W.fnOf "law" "law" (defArgs s_law) (defBody s_law) (defScope s_law) .none kV35 dc35 pm35 an35 cd35 ct35, ct, Pt, fun s v => .of_eq rfl, tb, tp, fun base _ _ hB => ok_law F35 T (h_law_drawn base hB) (h_law_wares base hB) (h_law_next base hB) (h_law_filled base hB) (h_late base hB) (h_law_cell_at base hB) (h_law_right base hB)⟩
theorem walk {l : PySem.W.OpenLaw} {q : Program} {loose : List Str} {XP : (Str → Option Value) → Heap → Prop} {YP : World → Heap → Prop} {d dw : DefRec} {K : Params → PySem.W.Frag} (hn : l.most = some 63) (hdf : d.params.defaults = [])
    (hY : ∀ (w : World) (h : Heap), YP w h → (K w.params).In h) (hw : (PyProof.Rows.recsOf q).find? (fun e => e.name == ("worked" : Str)) = some dw)
    (F : ∀ (w : World) (mg : Str → Option Value) (fa : Addr) (h : Heap), (K w.params).In h → h.Ns mainGlobals mg → mg d.name = some (.ref fa) →
      ∃ (fd : FuncData) (ct Pt : Addr), (∀ (s : Shared) (u : Value), BindsTo s fd ⟨[u], []⟩ [("_law_script", u)]) ∧ PySem.W.tabIn (K w.params) "worked" = some (ct, Pt) ∧ (K w.params).lookup Pt = none ∧ ∀ base : Heap, (K w.params).In base → base.Ns mainGlobals mg → BMain mg base → FnOk l.prog w (K w.params) mg base CX0 15 fa fd ["_law_script"] (sp_law (K w.params) Pt)) :
    PySem.W.WalkO q loose XP YP l.row.toRowW d [] (fun f vs => PySem.call f vs) :=
  L2.walk_tab (n := 63) (k := 15) (x := "_law_script") (wk := "worked") (sp := fun w Pt => sp_law (K w.params) Pt) hn (by decide) hdf ⟨rfl, by decide, by decide⟩ hY hw F (fun _ _ a Pt ns hl ht hS => ⟨a, ns, rfl, hS, hl, .inl ht, fun _ => rfl⟩)
end K23
theorem PySem.W.Fast.tw9841967911652685637 : True := trivial
theorem PySem.W.Fast.tw10599974226473242755 : True := trivial
theorem PySem.W.Fast.tw16364333589055938752 : True := trivial
theorem PySem.W.Fast.tw3110001484235591824 : True := trivial
theorem PySem.W.Fast.tw5892074678431881572 : True := trivial
theorem PySem.W.Fast.tw11943253038589448001 : True := trivial
theorem PySem.W.Fast.tw11597841210664356538 : True := trivial
theorem PySem.W.Fast.tw14965209513206553453 : True := trivial
theorem PySem.W.Fast.tw5420471322631822896 : True := trivial
theorem PySem.W.Fast.tw13192075636138946545 : True := trivial
theorem PySem.W.Fast.tw1688046590846625761 : True := trivial
theorem PySem.W.Fast.tw6192411032160074883 : True := trivial
theorem PySem.W.Fast.tw5208597822362497882 : True := trivial
theorem PySem.W.Fast.tw12932107883837675870 : True := trivial
theorem PySem.W.Fast.tw16522871942515493953 : True := trivial
theorem PySem.W.Fast.tw4908712677930706590 : True := trivial
theorem PySem.W.Fast.tw6496144819771642275 : True := trivial
theorem PySem.W.Fast.tw2806927997566250833 : True := trivial
open PySem PySem.W PyProof.Rows
set_option maxRecDepth 100000 in
set_option maxHeartbeats 0 in
theorem PySem.Challenge.cw_needplan_k23_whole_most_holds : PySem.Challenge.rw_needplan_k23_whole_most.Holds := by
  w_on; o_law; k_head; (case hw => w_witness2)
  k_fill
  refine K23.walk (l := PySem.Challenge.rw_needplan_k23_whole_most) rfl rfl (fun w h Y => PySem.W.km_in_of Y) rfl ?F
  case F =>
    intro w mg fa h KX G hmg
    refine' K23.all_mk KX G hmg ?a1 ?l1 ?c1 ?k1 ?a2 ?l2 ?c2 ?k2 ?a3 ?l3 ?c3 ?k3 ?a4 ?l4 ?c4 ?k4 ?a5 ?l5 ?c5 ?k5 ?a6 ?l6 ?c6 ?k6 ?a7 ?l7 ?c7 ?k7 ?a8 ?l8 ?c8 ?k8 ?a9 ?l9 ?c9 ?k9 ?a10 ?l10 ?c10 ?k10 ?a11 ?l11 ?c11 ?k11 ?a12 ?l12 ?c12 ?k12 ?a13 ?l13 ?c13 ?k13 ?a14 ?l14 ?c14 ?k14 ?a15 ?l15 ?c15 ?k15 ?a16 ?l16 ?c16 ?k16 ?a17 ?l17 ?c17 ?k17 ?a18 ?l18 ?c18 ?k18 ?a19 ?l19 ?c19 ?k19 ?a20 ?l20 ?c20 ?k20 ?a21 ?l21 ?c21 ?k21 ?a22 ?l22 ?c22 ?k22 ?a23 ?l23 ?c23 ?k23 ?a24 ?l24 ?c24 ?k24 ?a25 ?l25 ?c25 ?k25 ?a26 ?l26 ?c26 ?k26 ?a27 ?l27 ?c27 ?k27 ?a28 ?l28 ?c28 ?k28 ?a29 ?l29 ?c29 ?k29 ?a30 ?l30 ?c30 ?k30 ?a31 ?l31 ?c31 ?k31 ?a32 ?l32 ?c32 ?k32 ?a33 ?l33 ?c33 ?k33 ?a34 ?l34 ?c34 ?k34 ?a35 ?l35 ?c35 ?k35 ?z_range ?z_len ?z_max ?z_sorted ?z_reversed ?z_zip ?z_min ?z_enumerate ?z_tuple ?z_int ?z_list ?z_isinstance ?z_bool ?g_COMING ?g_FLOOR ?g_GIVES ?g_LAG ?g_NAME ?g_PARTS ?g_STOCK ?g_WANT_AMOUNT ?g_WANT_DAY ?g_WANT_NAME ?tq ?tl ?tv ?tw ?tp
    (case a1 => k_is)
    (case l1 => k_is)
    (case c1 => k_is)
    (case k1 => k_is)
    (case a2 => k_is)
    (case l2 => k_is)
    (case c2 => k_is)
    (case k2 => k_is)
    (case a3 => k_is)
    (case l3 => k_is)
    (case c3 => k_is)
    (case k3 => k_is)
    (case a4 => k_is)
    (case l4 => k_is)
    (case c4 => k_is)
    (case k4 => k_is)
    (case a5 => k_is)
    (case l5 => k_is)
    (case c5 => k_is)
    (case k5 => k_is)
    (case a6 => k_is)
    (case l6 => k_is)
    (case c6 => k_is)
    (case k6 => k_is)
    (case a7 => k_is)
    (case l7 => k_is)
    (case c7 => k_is)
    (case k7 => k_is)
    (case a8 => k_is)
    (case l8 => k_is)
    (case c8 => k_is)
    (case k8 => k_is)
    (case a9 => k_is)
    (case l9 => k_is)
    (case c9 => k_is)
    (case k9 => k_is)
    (case a10 => k_is)
    (case l10 => k_is)
    (case c10 => k_is)
    (case k10 => k_is)
    (case a11 => k_is)
    (case l11 => k_is)
    (case c11 => k_is)
    (case k11 => k_is)
    (case a12 => k_is)
    (case l12 => k_is)
    (case c12 => k_is)
    (case k12 => k_is)
    (case a13 => k_is)
    (case l13 => k_is)
    (case c13 => k_is)
    (case k13 => k_is)
    (case a14 => k_is)
    (case l14 => k_is)
    (case c14 => k_is)
    (case k14 => k_is)
    (case a15 => k_is)
    (case l15 => k_is)
    (case c15 => k_is)
    (case k15 => k_is)
    (case a16 => k_is)
    (case l16 => k_is)
    (case c16 => k_is)
    (case k16 => k_is)
    (case a17 => k_is)
    (case l17 => k_is)
    (case c17 => k_is)
    (case k17 => k_is)
    (case a18 => k_is)
    (case l18 => k_is)
    (case c18 => k_is)
    (case k18 => k_is)
    (case a19 => k_is)
    (case l19 => k_is)
    (case c19 => k_is)
    (case k19 => k_is)
    (case a20 => k_is)
    (case l20 => k_is)
    (case c20 => k_is)
    (case k20 => k_is)
    (case a21 => k_is)
    (case l21 => k_is)
    (case c21 => k_is)
    (case k21 => k_is)
    (case a22 => k_is)
    (case l22 => k_is)
    (case c22 => k_is)
    (case k22 => k_is)
    (case a23 => k_is)
    (case l23 => k_is)
    (case c23 => k_is)
    (case k23 => k_is)
    (case a24 => k_is)
    (case l24 => k_is)
    (case c24 => k_is)
    (case k24 => k_is)
    (case a25 => k_is)
    (case l25 => k_is)
    (case c25 => k_is)
    (case k25 => k_is)
    (case a26 => k_is)
    (case l26 => k_is)
    (case c26 => k_is)
    (case k26 => k_is)
    (case a27 => k_is)
    (case l27 => k_is)
    (case c27 => k_is)
    (case k27 => k_is)
    (case a28 => k_is)
    (case l28 => k_is)
    (case c28 => k_is)
    (case k28 => k_is)
    (case a29 => k_is)
    (case l29 => k_is)
    (case c29 => k_is)
    (case k29 => k_is)
    (case a30 => k_is)
    (case l30 => k_is)
    (case c30 => k_is)
    (case k30 => k_is)
    (case a31 => k_is)
    (case l31 => k_is)
    (case c31 => k_is)
    (case k31 => k_is)
    (case a32 => k_is)
    (case l32 => k_is)
    (case c32 => k_is)
    (case k32 => k_is)
    (case a33 => k_is)
    (case l33 => k_is)
    (case c33 => k_is)
    (case k33 => k_is)
    (case a34 => k_is)
    (case l34 => k_is)
    (case c34 => k_is)
    (case k34 => k_is)
    (case a35 => k_is)
    (case l35 => k_is)
    (case c35 => k_is)
    (case k35 => k_is)
    (case z_range => k_is)
    (case z_len => k_is)
    (case z_max => k_is)
    (case z_sorted => k_is)
    (case z_reversed => k_is)
    (case z_zip => k_is)
    (case z_min => k_is)
    (case z_enumerate => k_is)
    (case z_tuple => k_is)
    (case z_int => k_is)
    (case z_list => k_is)
    (case z_isinstance => k_is)
    (case z_bool => k_is)
    (case g_COMING => k_is)
    (case g_FLOOR => k_is)
    (case g_GIVES => k_is)
    (case g_LAG => k_is)
    (case g_NAME => k_is)
    (case g_PARTS => k_is)
    (case g_STOCK => k_is)
    (case g_WANT_AMOUNT => k_is)
    (case g_WANT_DAY => k_is)
    (case g_WANT_NAME => k_is)
    (case tq => rfl)
    (case tl => k_is)
    (case tv => rfl)
    (case tw => rfl)
    (case tp => rfl)
#print axioms PySem.Challenge.cw_needplan_k23_whole_most_holds
