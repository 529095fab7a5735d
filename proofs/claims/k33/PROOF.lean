import PyProof.Rows.All
import Wide.All
import OpenK.AllK
import Wide.FinOn
import Lean
import PyProof.EqAt
import PyProof.EqKinds
import PyProof.TupleCall
import PySem.Challenge.RW_needplan_k33_serves_walked
open List renaming length_map → Zzz, getElem?_map → Zzx, mem_of_getElem? → Zzw, mem_singleton → Zzu, mem_map → Zzs, getElem?_eq_getElem → Zzr, size_toArray → Zzp, mem_cons → Zzo, map_append → Zzm, mem_cons_of_mem → Zzk, mem_cons_self → Zzj, getElem?_eq_some_iff → Zzh, getD_eq_getElem?_getD → Zzg, length_append → Zze, map_cons → Zzd, mem_append → Zzc, mem_append_right → Zza, range → Zz9, take_add_one → Zz8, not_mem_nil → Zz5, take_length → Zz4, mem_append_left → Zyw, getElem?_eq_none → Zyv, append_nil → Zyu, length_singleton → Zyt, mem_filter → Zys, replicate → Zyq, length_take → Zym, length_cons → Zyl, getElem?_append_right → Zyk, nodup_cons → Zyj, toArray → Zyh, range_succ → Zyg, flatMap_singleton → Zyd, lookup_cons → Zyc, map → Zyb, mem_range → Zy9, getElem?_append_left → Zy6, flatMap_append → Zy5, map_map → Zy1, length → Zxz, append_assoc → Zxx, replicate_succ → Zxw, map_congr_left → Zxv, pairwise_iff_getElem → Zxu, mem_iff_getElem? → Zxt, length_drop → Zxs, mem_flatMap → Zxp, getElem?_set_ne → Zxn, take_zero → Zxk, length_nil → Zxf, map_nil → Zxe, sum_append → Zxd, ext_getElem? → Zxb, cons_append → Zx8, getElem?_set_self → Zx7, length_set → Zx1, length_filter_le → Zx0, all_eq_true → Zwz, any_cons → Zww, mem_filterMap → Zwv, find?_cons → Zwu, filter_cons → Zwp, sum_cons → Zwm, filterMap_cons → Zwl, getElem?_take → Zwi, set_cons_zero → Zwg, set_cons_succ → Zwf, map_set → Zwe, nodup_nil → Zwc, reverse_cons → Zwa, flatten_cons → Zw9, nodup_append → Zw8, all_cons → Zw5, map_take → Zw4, getElem_mem → Zw3, take_append_drop → Zw0, mem_iff_getElem → Zvx, length_reverse → Zvv, length_pos_iff → Zvu, filter_append → Zvp, map_drop → Zvo
open PySem.Heap renaming get?_push_of_some → Zzy, lt_size → Zzl, get?_push_size → Zzi, SameBut → Zyf, get?_update_other → Zy7, size_push → Zxy, get?_update_self → Zxi
open PySem.W renaming Frag → Zzv, mg_none_of → Zyo, kia_one → Zy3, mg_of → Zy0, nsIn → Zxo, fnOf → Zx4, keepIn → Zwd, codeIn → Zvs
open Nat renaming le_refl → Zzt, lt_of_lt_of_le → Zzb, zero_le → Zz3, ne_of_lt → Zyy, le_trans → Zyx, lt_of_le_of_lt → Zyp, le_add_right → Zxr, ne_of_gt → Zxg, lt_succ_of_lt → Zxa, le_of_eq → Zws, succ_ne_self → Zwr, lt_irrefl → Zwo, le_succ → Zw7, add_sub_cancel' → Zvt
open Or renaming inl → Zzq
open Option.some renaming inj → Zzn
open Ne renaming symm → Zzf
open Bool renaming false_ne_true → Zz7, and_eq_true → Zyi, and_true → Zy4, and_eq_true_iff → Zxm, eq_iff_iff → Zvz
open PySem.F renaming plainAttrs_list → Zz6, slot_list_append → Zz2, type_list_append → Zz1, plainAttrs_dict → Zwx, slot_dict_get → Zw1
open Int renaming le_refl → Zz0, lt_of_le_of_lt → Zy8, le_trans → Zxq, add_zero → Zwy, mul_le_mul_of_nonneg_left → Zwt, le_of_lt → Zvw, mul_nonneg → Zvr, emod_lt_of_pos → Zvq
open PySem.NameKind renaming free → Zyz, cell → Zwn
open Array renaming getD_eq_getD_getElem? → Zyr, getElem?_eq_getElem → Zye, length_toList → Zwk, getElem?_eq_none → Zw6, getElem?_toList → Zw2
open PySem.Builtin.SmallTypes renaming nextOf → Zyn, ownedTupleIsFree → Zxl, ownedTupleHandOut → Zwh
open PyProof.Rows renaming callWith_type1 → Zya
open Sum renaming inr → Zy2, inl → Zxc
open PySem renaming mem_of_lookup → Zxj
open Sum.inr renaming inj → Zxh
open PySem.Heap.SameBut renaming update → Zx9
open PySem.Calls renaming callWith_builtin → Zx6, spliced_cons → Zx5, spliced_nil → Zwb, evalArgs_plain → Zvy
open PySem.Builtin.Builtins renaming bindParams → Zx3
open Option renaming map_some → Zx2
open PySem.Around renaming under_plainId → Zwq
open PySem.Builtin.List renaming listTooLong → Zwj
set_option maxRecDepth 100000
set_option maxHeartbeats 4000000
set_option Elab.async false
set_option linter.all false
namespace L2
open PySem PySem.Spec PyProof.Rows
abbrev Key := Sum Int Str
def P1 : Key -> Value -> Bool
 | .inl k, v => Value.isInt k v
 | .inr x, v => Value.isStrOf x v
def keyH (w : World) : Key -> Int
 | .inl k => hashInt k
 | .inr x => hashStr w x
theorem Br : ∀ {k : Key} {v : Value}, P1 k v = true -> (∃ i t, k = Zxc i /\ v = Value.int i t) \/ (∃ x t, k = Zy2 x /\ v = Value.str x t)
 | .inl i, v, h => by
  obtain ⟨t, e⟩ := Value.isInt_shape (k := i) (v := v) h
  exact .inl ⟨i, t, rfl, e⟩
 | .inr x, v, h => by
  obtain ⟨t, e⟩ := Value.isStrOf_shape (x := x) (v := v) h
  exact .inr ⟨x, t, rfl, e⟩
theorem Xh (i : Int) (t : Tok) : P1 (.inl i) (.int i t) = true := by simp [P1, Value.isInt]
theorem Xg (x : Str) (t : Tok) : P1 (.inr x) (.str x t) = true := by simp [P1, Value.isStrOf]
theorem lu (a b : Int) : decide ((Zxc a : Key) = Zxc b) = (a == b) := by
 by_cases e : a = b
 ·subst e; simp
 ·have h : ¬ (Zxc a : Key) = Zxc b := λq => e (Sum.inl.inj q)
  rw [decide_eq_false h]
  exact (beq_eq_false_iff_ne.mpr e).symm
theorem lj (a b : Str) : decide ((Zy2 a : Key) = Zy2 b) = decide (a = b) := by
 by_cases e : a = b
 ·subst e; simp
 ·have h : ¬ (Zy2 a : Key) = Zy2 b := λq => e (Zxh q)
  rw [decide_eq_false h, decide_eq_false e]
theorem lr (a : Int) (b : Str) : decide ((Zxc a : Key) = Zy2 b) = false := decide_eq_false (λq => nomatch q)
theorem lm (a : Str) (b : Int) : decide ((Zy2 a : Key) = Zxc b) = false := decide_eq_false (λq => nomatch q)
def B0 (prog : Program) (w : World) : PySem.KeyKind prog w Key where
 is := P1
 hash := keyH w
 inj := λv a b ha hb => by
  rcases Br ha with ⟨i, t, rfl, rfl⟩ | ⟨x, t, rfl, rfl⟩
  ·rcases Br hb with ⟨j, u, rfl, e⟩ | ⟨y, u, rfl, e⟩
   ·injection e with e1 _; rw [e1]
   ·exact nomatch e
  ·rcases Br hb with ⟨j, u, rfl, e⟩ | ⟨y, u, rfl, e⟩
   ·exact nomatch e
   ·injection e with e1 _; rw [e1]
 byValue := λk v h => by
  rcases Br h with ⟨i, t, rfl, rfl⟩ | ⟨x, t, rfl, rfl⟩ <;> rfl
 pyHash := λhv h => by
  rcases Br hv with ⟨i, t, rfl, rfl⟩ | ⟨x, t, rfl, rfl⟩
  ·exact wpAny_pyHash_int h
  ·exact wpAny_pyHash_str h
 eqBool := λhu hv h => by
  rcases Br hu with ⟨i, t, rfl, rfl⟩ | ⟨x, t, rfl, rfl⟩
  ·rcases Br hv with ⟨j, u, rfl, rfl⟩ | ⟨y, u, rfl, rfl⟩
   ·rw [lu] at h; exact wpAny_eqBool_int h
   ·rw [lr] at h; exact SeqAt.EqAt.int_str i t y u _ _ _ _ h
  ·rcases Br hv with ⟨j, u, rfl, rfl⟩ | ⟨y, u, rfl, rfl⟩
   ·rw [lm] at h; exact SeqAt.EqAt.str_int x t j u _ _ _ _ h
   ·rw [lj] at h; exact wpAny_eqBool_str h
 «strs» := λk x t v h => by
  rcases Br h with ⟨i, u, rfl, e⟩ | ⟨y, u, rfl, e⟩
  ·exact nomatch e
  ·injection e with e1 _
   subst e1
   cases v <;> rfl
theorem Su (prog : Program) (w : World) (i : Int) (t : Tok) : (B0 prog w).is (.inl i) (.int i t) = true := Xh i t
theorem Ss (prog : Program) (w : World) (x : Str) (t : Tok) : (B0 prog w).is (.inr x) (.str x t) = true := Xg x t
inductive V where
 | non | bl (b : Bool) | int (i : Int) | str (x : Str) | byt (b : Array UInt8) | flt (b : UInt64) | ref (a : Addr) | ty (n : String)
 deriving DecidableEq
def RelV : V -> Value -> Prop
 | .non, u => u = Value.none
 | .bl b, u => u = Value.bool b
 | .int i, u => ∃ t, u = Value.int i t
 | .str x, u => ∃ t, u = Value.str x t
 | .byt b, u => ∃ t, u = Value.bytes b t
 | .flt b, u => ∃ t, u = Value.float b t
 | .ref a, u => u = Value.ref a
 | .ty n, u => u = Value.type n
abbrev Vals : List V -> List Value -> Prop := Paired RelV
theorem Vals.length {xs : List V} {us : List Value} (r : Vals xs us) : xs.length = us.length := Paired.length r
theorem Vals.get : ∀ {xs : List V} {us : List Value} {i : Nat} {x : V}, Vals xs us -> xs[i]? = some x -> ∃ u, us[i]? = some u /\ RelV x u
 | _, _, _, _, .nil, e => by simp at e
 | _, _, 0, _, .cons r _, e => by simp at e; subst e; exact ⟨_, rfl, r⟩
 | _, _, i + 1, x, .cons _ t, e => by
  obtain ⟨u, h1, h2⟩ := Vals.get (i := i) (x := x) t (by simpa using e)
  exact ⟨u, by simpa using h1, h2⟩
theorem Vals.set {x : V} {u : Value} (r : RelV x u) : ∀ {xs : List V} {us : List Value} (i : Nat), Vals xs us -> Vals (xs.set i x) (us.set i u)
 | _, _, _, .nil => .nil
 | _, _, 0, .cons _ t => .cons r t
 | _, _, i + 1, .cons q t => .cons q (Vals.set r i t)
theorem Vals.append : ∀ {xs ys : List V} {us ws : List Value}, Vals xs us -> Vals ys ws -> Vals (xs ++ ys) (us ++ ws)
 | _, _, _, _, .nil, s => s
 | _, _, _, _, .cons r t, s => .cons r (Vals.append t s)
theorem Vals.take : ∀ {xs : List V} {us : List Value} (n : Nat), Vals xs us -> Vals (xs.take n) (us.take n)
 | _, _, 0, _ => .nil
 | _, _, _ + 1, .nil => .nil
 | _, _, n + 1, .cons r t => .cons r (Vals.take n t)
theorem Vals.drop : ∀ {xs : List V} {us : List Value} (n : Nat), Vals xs us -> Vals (xs.drop n) (us.drop n)
 | _, _, 0, r => r
 | _, _, _ + 1, .nil => .nil
 | _, _, n + 1, .cons _ t => Vals.drop n t
def RelO : Option V -> Option Value -> Prop
 | some v, some u => RelV v u
 | none, none => True
 | _, _ => False
def KV {κ : Type} : List (κ × V) -> List (κ × Value) -> Prop := Paired λ(p : κ × V) (q : κ × Value) => p.1 = q.1 /\ RelV p.2 q.2
def kV : Key -> V
 | .inl i => .int i
 | .inr x => .str x
inductive HO where
 | lst (xs : List V)
 | tup (xs : List V)
 | dK (kvs : List (Key × V)) | dT (kvs : List (List Key × V))
 | set (S : Int -> Bool) (n : Nat)
 | ins (C dx : Addr) (fs : List (Str × V))
 | own (x : Addr)
 | xd (fs : List (Str × V))
 | met (f x : Addr)
 | rng (lo hi : Int)
 | frz (o : Obj) (u : HO)
 | tbl (ps : Array Value)
 | ext (φ : Heap -> Prop)
abbrev Hp := Addr -> Option HO
def upd (H : Hp) (a : Addr) (o : HO) : Hp := λb => if b = a then some o else H b
theorem A0 {H : Hp} {a : Addr} {o : HO} : upd H a o a = some o := by unfold upd; rw [if_pos rfl]
theorem A5 {H : Hp} {a b : Addr} {o : HO} (h : b ≠ a) : upd H a o b = H b := by unfold upd; rw [if_neg h]
theorem V2 {H : Hp} {a : Addr} {o u : HO} : upd (upd H a o) a u = upd H a u := by
 funext b; unfold upd; split <;> rfl
theorem Eo {H : Hp} {a b : Addr} {o u : HO} (h : H a = some o) (h' : H b = some u) (d : o ≠ u) : a ≠ b := by
 intro e; subst e; rw [h] at h'; exact d (Zzn h')
theorem A6 {H : Hp} {a b : Addr} {o : HO} (h : H a = some o) (h' : H b = none) : a ≠ b := by
 intro e; subst e; rw [h] at h'; cases h'
section
variable (P : Program) (w : World)
def ObjOk (H : Hp) (h : Heap) (a : Addr) : HO -> Prop
 | .lst xs => xs.length <= sizeLine /\ ∃ (its : List Value) (n : Nat), Vals xs its /\ h.get? a = some { cls := .type "list", data := .seq its.toArray n }
 | .tup xs => xs.length <= sizeLine /\ ∃ its : List Value, Vals xs its /\ IsTup h a its.toArray
 | .dK kvs => kvs.length <= sizeLine /\ (a == sysModules) = false /\ ∃ vs, KV kvs vs /\ h.DictOf (B0 P w) a vs
 | .dT kvs => kvs.length <= sizeLine /\ (a == sysModules) = false /\ ∃ xs : List (List Key × Addr × Value),
   Paired (λ(p : List Key × V) (q : List Key × Addr × Value) => p.1 = q.1 /\ H q.2.1 = some (.tup (p.1.map kV)) /\ RelV p.2 q.2.2) kvs xs /\
   ∃ o es ep, h.get? a = some o /\ o.ExactDict /\ o.data = .dict es ep /\ es.toList = xs.map (entryOfKey (tupleKind (B0 P w))) /\ (xs.map (·.1)).Nodup
 | .set S n => h.SetOf (intKind P w) a S n
 | .ins C dx fs => H dx = some (.own a) /\ fs.length <= 1000 /\ dx ≠ a /\ h.get? a = some (PySem.W.instObj C dx) /\
   ∃ mA, h.Ns1 dx mA /\ (∀ f, RelO (fs.lookup f) (mA f)) /\ PySem.Within mA (fs.map (·.1))
 | .own _ => ∃ o, h.get? a = some o
 | .xd fs => ∃ mA, h.Ns1 a mA /\ ∀ f, RelO (fs.lookup f) (mA f)
 | .rng lo hi => ∃ t u v, h.get? a = some { cls := .type "range", data := .fields #[.int lo t, .int hi u, .int 1 v] }
 | .frz o u => h.get? a = some o /\ ObjOk H h a u
 | .tbl ps => h.get? a = some { cls := .none, data := .fields ps }
 | .met f x => h.get? a = some (PySem.W.methodObj (.ref f) (.ref x))
 | .ext φ => φ h /\ (∃ o, h.get? a = some o) /\ ∀ h1 h2 : Heap, φ h1 -> (∀ o, h1.get? a = some o -> h2.get? a = some o) -> φ h2
def HOk (H : Hp) (h : Heap) : Prop := ∀ a o, H a = some o -> ObjOk P w H h a o
end
section
variable {P : Program} {w : World} {H H' : Hp} {h h' : Heap} {a : Addr} {o : HO}
theorem ObjOk.lt (x : ObjOk P w H h a o) : a < h.objs.size := by
 cases o with
 | lst xs => obtain ⟨_, _, _, _, e⟩ := x; exact Zzl e
 | tup xs => obtain ⟨_, _, _, p⟩ := x; exact p.lt
 | dK kvs => obtain ⟨_, _, _, _, o, _, _, e, _⟩ := x; exact Zzl e
 | dT kvs => obtain ⟨_, _, _, _, o, _, _, e, _⟩ := x; exact Zzl e
 | set S n => obtain ⟨o, _, _, _, e, _⟩ := x; exact Zzl e
 | ins C dx fs => obtain ⟨_, _, _, e, _⟩ := x; exact Zzl e
 | own y => obtain ⟨_, e⟩ := x; exact Zzl e
 | xd fs => obtain ⟨_, ⟨_, _, _, e, _⟩, _⟩ := x; exact Zzl e
 | rng lo hi => obtain ⟨_, _, _, e⟩ := x; exact Zzl e
 | frz ob u => obtain ⟨e, _⟩ := x; exact Zzl e
 | tbl ps => exact Zzl (show h.get? a = some _ from x)
 | met f y => exact Zzl (show h.get? a = some _ from x)
 | ext φ => obtain ⟨_, ⟨_, e⟩, _⟩ := x; exact Zzl e
theorem Paired.mapP {α β : Type} {F G : α -> β -> Prop} : ∀ {l₁ : List α} {l₂ : List β}, Paired F l₁ l₂ -> (∀ a b, F a b -> G a b) -> Paired G l₁ l₂
 | _, _, .nil, _ => .nil
 | _, _, .cons r t, f => .cons (f _ _ r) (Paired.mapP t f)
theorem ObjOk.stay (x : ObjOk P w H h a o) (k : ∀ b u, (b = a \/ H b = some (.own a)) -> h.get? b = some u -> h'.get? b = some u)
  (ho : ∀ b, H b = some (.own a) -> H' b = some (.own a)) (ht : ∀ b xs, H b = some (.tup xs) -> H' b = some (.tup xs)) : ObjOk P w H' h' a o := by
 induction o with
 | lst xs => obtain ⟨z, its, n, r, e⟩ := x; exact ⟨z, its, n, r, k _ _ (.inl rfl) e⟩
 | tup xs => obtain ⟨z, its, r, ob, e, c⟩ := x; exact ⟨z, its, r, ob, k _ _ (.inl rfl) e, c⟩
 | dK kvs => obtain ⟨z, y, vs, r, ob, es, ep, e, c⟩ := x; exact ⟨z, y, vs, r, ob, es, ep, k _ _ (.inl rfl) e, c⟩
 | dT kvs =>
  obtain ⟨z, y, xs, r, ob, es, ep, e, c⟩ := x
  exact ⟨z, y, xs, Paired.mapP r λp q z => ⟨z.1, ht _ _ z.2.1, z.2.2⟩, ob, es, ep, k _ _ (.inl rfl) e, c⟩
 | set S n => obtain ⟨ob, es, ep, t, e, c⟩ := x; exact ⟨ob, es, ep, t, k _ _ (.inl rfl) e, c⟩
 | ins C dx fs =>
  obtain ⟨d, z, ne, e, mA, ⟨od, es, ep, e2, c⟩, r⟩ := x
  exact ⟨ho _ d, z, ne, k _ _ (.inl rfl) e, mA, ⟨od, es, ep, k _ _ (.inr d) e2, c⟩, r⟩
 | own y => obtain ⟨ob, e⟩ := x; exact ⟨ob, k _ _ (.inl rfl) e⟩
 | xd fs => obtain ⟨mA, ⟨od, es, ep, e, c⟩, r⟩ := x; exact ⟨mA, ⟨od, es, ep, k _ _ (.inl rfl) e, c⟩, r⟩
 | rng lo hi => obtain ⟨t, u, v, e⟩ := x; exact ⟨t, u, v, k _ _ (.inl rfl) e⟩
 | frz ob u ih => obtain ⟨e, q⟩ := x; exact ⟨k _ _ (.inl rfl) e, ih q⟩
 | tbl ps =>
  have e : h.get? a = some { cls := .none, data := .fields ps } := x
  show h'.get? a = some { cls := .none, data := .fields ps }
  exact k a _ (.inl rfl) e
 | met f y =>
  have e : h.get? a = some (PySem.W.methodObj (.ref f) (.ref y)) := x
  show h'.get? a = some (PySem.W.methodObj (.ref f) (.ref y))
  exact k a _ (.inl rfl) e
 | ext φ => obtain ⟨p, ⟨o, e⟩, st⟩ := x; exact ⟨st _ _ p λo q => k _ _ (.inl rfl) q, ⟨o, k _ _ (.inl rfl) e⟩, st⟩
theorem HOk.lt (x : HOk P w H h) (e : H a = some o) : a < h.objs.size := (x a o e).lt
theorem HOk.fresh (x : HOk P w H h) (e : h.objs.size <= a) : H a = none := by
 cases q : H a with
 | none => rfl
 | some u => exact absurd (Zzb (x.lt q) e) (Zwo _)
theorem HOk.kept (x : HOk P w H h) (k : ∀ b u, h.get? b = some u -> h'.get? b = some u) : HOk P w H h' := λa o e =>
 (x a o e).stay (λb u _ q => k b u q) (λ_ q => q) λ_ _ q => q
theorem HOk.laid (x : HOk P w H h) (k : ∀ b u, h.get? b = some u -> h'.get? b = some u) (hp : h.objs.size <= a) (new : ObjOk P w (upd H a o) h' a o) : HOk P w (upd H a o) h' := λb u e => by
 have hn := x.fresh hp
 by_cases hb : b = a
 ·subst hb; rw [A0] at e; cases e; exact new
 ·rw [A5 hb] at e
  exact (x b u e).stay (λc v _ q => k c v q) (λc q => by rw [A5 (A6 q hn)]; exact q) λc xs q => by rw [A5 (A6 q hn)]; exact q
end
def Rd (H : Hp) (a : Addr) (u : HO) : Prop := H a = some u \/ ∃ o, H a = some (.frz o u)
theorem Rd.ok {P : Program} {w : World} {H : Hp} {h : Heap} {a : Addr} {u : HO} (r : Rd H a u) (x : HOk P w H h) : ObjOk P w H h a u := by
 rcases r with r | ⟨o, r⟩
 ·exact x a u r
 ·obtain ⟨_, q⟩ := x a _ r
  exact q
def Mut : Option HO -> Prop
 | some (.lst _) => True
 | some (.dK _) => True
 | some (.dT _) => True
 | some (.set _ _) => True
 | some (.ins _ _ _) => True
 | some (.ext _) => True
 | _ => False
section
variable {P : Program} {w : World} {H : Hp} {h h' : Heap} {x e : Addr} {o' : HO}
theorem HOk.write (ok : HOk P w H h) (mu : Mut (H x)) (he : e = x \/ H e = some (.own x)) (k : ∀ b u, b ≠ e -> h.get? b = some u -> h'.get? b = some u) (heo : ∃ u, h'.get? e = some u)
  (new : ObjOk P w (upd H x o') h' x o') : HOk P w (upd H x o') h' := λb u q => by
 have nown : ∀ c y, H c = some (.own y) -> c ≠ x := λc y r z => by subst z; rw [r] at mu; exact mu
 have ntup : ∀ c xs, H c = some (.tup xs) -> c ≠ x := λc xs r z => by subst z; rw [r] at mu; exact mu
 by_cases hb : b = x
 ·subst hb; rw [A0] at q; cases q; exact new
 ·rw [A5 hb] at q
  by_cases hbe : b = e
  ·have q' : H b = some (.own x) := by
    rcases he with z | z
    ·exact absurd (hbe.trans z) hb
    ·rw [hbe]; exact z
   rw [q] at q'; cases q'
   obtain ⟨v, hv⟩ := heo
   exact ⟨v, by rw [hbe]; exact hv⟩
  ·refine (ok b u q).stay (λc v hc r => k c v ?_ r) (λc r => by rw [A5 (nown c b r)]; exact r) λc xs r => by rw [A5 (ntup c xs r)]; exact r
   rcases hc with rfl | hc
   ·exact hbe
   ·rintro rfl
    rcases he with z | z
    ·exact nown c b hc z
    ·rw [hc] at z; cases z; exact hb rfl
end
structure Un (fs ex : List Addr) (H H' : Hp) (h h' : Heap) : Prop where
 keep : ∀ b o, h.get? b = some o -> H b = none -> b ∉ fs -> b ∉ ex -> h'.get? b = some o
 slot : ∀ b o, h.get? b = some o -> H b = none -> b ∈ fs -> b ∉ ex -> ∃ sl, h'.get? b = some { o with slots := sl }
 free : ∀ b o, h.get? b = some o -> H b = none -> b ∉ ex -> H' b = none
 there : ∀ b o, h.get? b = some o -> b ∉ ex -> ∃ o', h'.get? b = some o'
 tups : ∀ b xs, H b = some (.tup xs) -> H' b = some (.tup xs)
 frzs : ∀ b o u, H b = some (.frz o u) -> H' b = some (.frz o u)
 tbls : ∀ b ps, H b = some (.tbl ps) -> ∃ more, H' b = some (.tbl (ps ++ more))
section
variable {fs fs' ex ex' : List Addr} {H H1 H2 : Hp} {h h1 h2 h' : Heap} {a x e : Addr} {o : HO}
theorem Un.any (u : Un fs ex H H1 h h1) {b : Addr} {ob : Obj} (q : h.get? b = some ob) (n : H b = none) (hx : b ∉ ex) : ∃ sl, h1.get? b = some { ob with slots := sl } := by
 by_cases hb : b ∈ fs
 ·exact u.slot b ob q n hb hx
 ·exact ⟨ob.slots, u.keep b ob q n hb hx⟩
theorem Un.kept (k : ∀ b u, h.get? b = some u -> h'.get? b = some u) : Un fs ex H H h h' :=
 ⟨λb ob q _ _ _ => k b ob q, λb ob q _ _ _ => ⟨ob.slots, k b ob q⟩, λ_ _ _ n _ => n, λb ob q _ => ⟨ob, k b ob q⟩, λ_ _ q => q, λ_ _ _ q => q, λ_ ps q => ⟨#[], by rw [q]; simp⟩⟩
theorem Un.refl : Un fs ex H H h h := Un.kept λ_ _ q => q
theorem Un.laid (k : ∀ b u, h.get? b = some u -> h'.get? b = some u) (hp : h.objs.size <= a) (hn : H a = none) : Un fs ex H (upd H a o) h h' where
 keep := λb u q _ _ _ => k b u q
 slot := λb u q _ _ _ => ⟨u.slots, k b u q⟩
 free := λb u q n _ => by rw [A5 (Zyy (Zzb (Zzl q) hp))]; exact n
 there := λb u q _ => ⟨u, k b u q⟩
 tups := λb xs q => by rw [A5 (A6 q hn)]; exact q
 frzs := λb u xs q => by rw [A5 (A6 q hn)]; exact q
 tbls := λb ps q => ⟨#[], by rw [A5 (A6 q hn), q]; simp⟩
theorem Un.write (mu : Mut (H x)) (he : e = x \/ H e = some (.own x)) (k : ∀ b u, b ≠ e -> h.get? b = some u -> h'.get? b = some u) (heo : ∃ u, h'.get? e = some u) : Un fs ex H (upd H x o) h h' := by
 have hx : ∀ b, H b = none -> b ≠ x := λb n z => by subst z; rw [n] at mu; exact mu
 have hb : ∀ b, H b = none -> b ≠ e := λb n z => by
  subst z
  rcases he with r | r
  ·exact hx b n r
  ·rw [n] at r; cases r
 have hm : ∀ b u, H b = some u -> ¬ Mut (some u) -> b ≠ x := λb u q nm z => by subst z; rw [q] at mu; exact nm mu
 refine ⟨λb u q n _ _ => k b u (hb b n) q, λb u q n _ _ => ⟨u.slots, k b u (hb b n) q⟩, λb u q n _ => by rw [A5 (hx b n)]; exact n, λb u q _ => ?_,
  λb xs q => by rw [A5 (hm b _ q λz => z)]; exact q, λb u xs q => by rw [A5 (hm b _ q λz => z)]; exact q, λb ps q => ⟨#[], by rw [A5 (hm b _ q λz => z), q]; simp⟩⟩
 by_cases hbe : b = e
 ·subst hbe; exact heo
 ·exact ⟨u, k b u hbe q⟩
end
def trk (h : Heap) (H : Hp) : List Addr := (Zz9 h.objs.size).filter λa => (H a).isSome
def Oi (h : Heap) (H : Hp) : Heap := PySem.W.hideAll h (trk h H)
theorem Xn (h : Heap) (H : Hp) : (Oi h H).objs.size = h.objs.size := PySem.W.hideAll_size _ _
theorem Zs {h : Heap} {H : Hp} {b : Addr} {o : Obj} (e : h.get? b = some o) (n : H b = none) : (Oi h H).get? b = some o :=
 PySem.W.hideAll_get _ e λhm => by
  have q : (H b).isSome = true := (Zys.mp hm).2
  rw [n] at q; simp at q
theorem fm {h : Heap} {H : Hp} {b : Addr} {o : Obj} (e : (Oi h H).get? b = some o) : h.get? b = some o /\ H b = none := by
 have e' : h.get? b = some o := PySem.W.of_hideAll (trk h H) e
 refine ⟨e', ?_⟩
 cases q : H b with
 | none => rfl
 | some x =>
  have hm : b ∈ trk h H := Zys.mpr ⟨Zy9.mpr (Zzl e'), by simp [q]⟩
  have z : (Oi h H).get? b = none := PySem.W.hideAll_none (trk h H) hm
  rw [z] at e; cases e
def D6 (g h : Heap) (L : Addr) : List (Addr × Obj) := (Zz9 h.objs.size).filterMap λa => if a = L \/ (g.get? a).isSome = true then none else (h.get? a).map λo => (a, o)
theorem Ky {g h : Heap} {L a : Addr} {o : Obj} (h1 : a ≠ L) (h2 : g.get? a = none) (h3 : h.get? a = some o) : (a, o) ∈ D6 g h L :=
 Zwv.mpr ⟨a, Zy9.mpr (Zzl h3), by simp [h1, h2, h3]⟩
theorem Mn {g h : Heap} {L : Addr} {p : Addr × Obj} (hp : p ∈ D6 g h L) : p.1 ≠ L /\ g.get? p.1 = none /\ h.get? p.1 = some p.2 := by
 obtain ⟨b, _, e⟩ := Zwv.mp hp
 split at e
 ·cases e
 ·rename_i hn
  cases q : h.get? b with
  | none => rw [q] at e; simp at e
  | some u =>
   rw [q] at e
   simp only [Zx2, Option.some.injEq] at e
   subst e
   refine ⟨λz => hn (.inl z), ?_, q⟩
   show g.get? b = none
   cases r : g.get? b with
   | none => rfl
   | some v => exact (hn (.inr (by simp [r]))).elim
def rest (g h : Heap) (L d : Addr) : List (Addr × Obj) := (D6 g h L).filter λp => decide (p.1 ≠ d)
theorem Sn {g h : Heap} {L : Addr} : News g L h (D6 g h L) := λp hp => by obtain ⟨a, b, c⟩ := Mn hp; exact ⟨c, a, b⟩
structure Mod (K : Zzv) (mg : Str -> Option Value) (base : Heap) : Prop where
 kin : K.In base
 glob : base.Ns mainGlobals mg
 blt : ∃ mb, base.Ns builtinsNs mb /\ ∀ x : Str, x ≠ "__name__" -> mb x = bootBuiltins x
 nolimit : base.NoLimit
structure Cx where
 prog : Program
 w : World
 K : Zzv
 mg : Str -> Option Value
 base : Heap
 A : Around
 N : List Str
 s₀ : Shared
 H₀ : Hp
 env : Env
 outer : List Env
 stack : List Env
 ex : List Addr
 fn : Str -> Bool
 calm : Bool
 pn : List (Addr × Obj)
 xe : Value -> Shared -> Prop
def frs (l : List Env) : List Addr := l.filterMap (·.frame)
abbrev Cx.fs (X : Cx) : List Addr := frs X.outer
def Vis (sc : Scope) (x : Str) : Prop := sc.names.lookup x = some .local \/ sc.names.lookup x = some .cell \/ sc.names.lookup x = some .free
def Loc (sc : Scope) (x : Str) : Prop := sc.names.lookup x = some .local \/ sc.names.lookup x = some .cell
def Look (env : Env) (h : Heap) (m : Str -> Option Value) (x : Str) (u : Value) : Prop :=
 (env.kindOf x = some .local /\ m x = some u) \/ ((env.kindOf x = some .cell \/ env.kindOf x = some .free) /\ ∃ c, env.cells.lookup x = some c /\ h.IsCell c (some u))
structure Cx.Ok (X : Cx) : Prop where
 mod : Mod X.K X.mg X.base
 kind : X.env.scope.kind = .function
 glob : X.env.globals = mainGlobals
 blt : X.env.builtins = builtinsNs
 above : X.s₀.heap.objs.size <= X.env.locals
 inj : ∀ x y c, X.env.cells.lookup x = some c -> X.env.cells.lookup y = some c -> x = y
 has : ∀ x, (X.env.kindOf x = some .cell \/ X.env.kindOf x = some .free) -> ∃ c, X.env.cells.lookup x = some c
 cab : ∀ x c, X.fn x = true -> X.env.cells.lookup x = some c -> X.s₀.heap.objs.size <= c
 hd : X.calm = true -> X.A.handled = none
 frames : X.A.frames = some X.stack
 stk : X.stack = X.outer \/ (X.stack = X.env :: X.outer /\ X.env.frame = some X.env.locals)
 exf : ∀ b ∈ X.ex, b ≠ X.env.locals /\ ∀ x c, X.env.cells.lookup x = some c -> c ≠ b
 bs : ∀ b o, X.base.get? b = some o -> X.s₀.heap.get? b = some o /\ X.H₀ b = none
 bsz : X.base.objs.size <= X.s₀.heap.objs.size
 noex : ∀ b o, X.base.get? b = some o -> b ∉ X.ex
 exfs : ∀ b ∈ X.ex, b ∉ X.fs
 funs : X.s₀.heap.FunFrames X.base X.outer
 frf : ∀ b ∈ X.fs, X.H₀ b = none
structure Inv (X : Cx) (pins : List (Addr × Obj)) (Z : List (Option V)) (H : Hp) (s : Shared) : Prop where
 ok : X.Ok
 os : s.os = X.s₀.os
 bare : AllBare s.gens
 base : Un X.fs X.ex X.H₀ H X.s₀.heap s.heap
 loc : ∃ m, s.heap.Ns X.env.locals m /\ ∀ (i : Nat) (x : Str) (v : V), X.N[i]? = some x -> Z[i]? = some (some v) -> Vis X.env.scope x -> ∃ u, RelV v u /\ Look X.env s.heap m x u
 cell : ∀ x c, X.env.cells.lookup x = some c -> ∃ v, s.heap.IsCell c v
 free : H X.env.locals = none
 freeC : ∀ x c, X.env.cells.lookup x = some c -> H c = none
 pin : ∀ p ∈ X.pn ++ pins, s.heap.get? p.1 = some p.2 /\ H p.1 = none /\ p.1 ≠ X.env.locals /\ p.1 ∉ X.fs /\ ∀ v, p.2.data ≠ .cell v
 hok : HOk X.prog X.w H s.heap
 len : Z.length = X.N.length
section
variable {X : Cx} {pins : List (Addr × Obj)} {Z : List (Option V)} {H H' : Hp} {s : Shared} {h' : Heap}
theorem Cx.Ok.nofr (ok : X.Ok) {b : Addr} {o : Obj} (e : X.base.get? b = some o) : b ∉ X.fs := λhb => by
 have := (ok.funs.mem hb).1
 rw [e] at this; cases this
theorem Inv.bs (I : Inv X pins Z H s) : ∀ b o, X.base.get? b = some o -> s.heap.get? b = some o /\ H b = none := λb o e =>
 ⟨I.base.keep b o (I.ok.bs b o e).1 (I.ok.bs b o e).2 (I.ok.nofr e) (I.ok.noex b o e), I.base.free b o (I.ok.bs b o e).1 (I.ok.bs b o e).2 (I.ok.noex b o e)⟩
theorem Inv.bk (I : Inv X pins Z H s) : ∀ b o, X.base.get? b = some o -> s.heap.get? b = some o := λb o e => (I.bs b o e).1
theorem Inv.mod (I : Inv X pins Z H s) : Mod X.K X.mg X.base := I.ok.mod
theorem Inv.kIn (I : Inv X pins Z H s) : X.K.In s.heap := I.ok.mod.kin.keeps I.bk
theorem Inv.fr (I : Inv X pins Z H s) : ∃ m, Fr X.base X.env.locals s.heap m :=
 let ⟨m, hn, _⟩ := I.loc
 ⟨m, hn, I.bk, Zyx I.ok.bsz I.ok.above⟩
theorem Inv.lt (I : Inv X pins Z H s) : X.env.locals < s.heap.objs.size := by obtain ⟨_, hn, _⟩ := I.loc; exact hn.lt
theorem Inv.sz (I : Inv X pins Z H s) : X.s₀.heap.objs.size <= s.heap.objs.size := Zyx I.ok.above (Nat.le_of_lt I.lt)
theorem Inv.nofs (I : Inv X pins Z H s) {a : Addr} (h : s.heap.objs.size <= a) : a ∉ X.fs := λhb => by
 obtain ⟨_, o, ho, _⟩ := I.ok.funs.mem hb
 exact absurd (Zzb (Zzl ho) (Zyx I.sz h)) (Zwo _)
theorem Inv.cne (I : Inv X pins Z H s) : ∀ x c, X.env.cells.lookup x = some c -> c ≠ X.env.locals := λx c e z => by
 obtain ⟨v, o, ho, hd⟩ := I.cell x c e
 obtain ⟨m, ⟨o', es, ep, ho', hd', _⟩, _⟩ := I.loc
 rw [z, ho'] at ho; cases ho; rw [hd'] at hd; cases hd
theorem Inv.funs (I : Inv X pins Z H s) : s.heap.FunFrames X.base X.outer := by
 have all : ∀ (l : List Env), (∀ b ∈ frs l, b ∈ X.fs) -> X.s₀.heap.FunFrames X.base l -> s.heap.FunFrames X.base l := by
  intro l
  induction l with
  | nil => intro _ _; trivial
  | cons env r ih =>
   intro hs hl
   obtain ⟨hk, ⟨L, o, hf, hn, ho, hd⟩, hr⟩ := hl
   have hL : L ∈ X.fs := hs L (by unfold frs; rw [Zwl, hf]; exact Zzj)
   obtain ⟨sl, e⟩ := I.base.slot L o ho (I.ok.frf L hL) hL λz => I.ok.exfs L z hL
   exact ⟨hk, ⟨L, _, hf, hn, e, hd⟩, ih (λb hb => hs b (by unfold frs; rw [Zwl, hf]; exact Zzk _ hb)) hr⟩
 exact all X.outer (λ_ hb => hb) I.ok.funs
theorem Inv.stack (I : Inv X pins Z H s) : s.heap.FunFrames X.base X.stack := by
 rcases I.ok.stk with e | ⟨e, hf⟩
 ·rw [e]; exact I.funs
 ·rw [e]
  obtain ⟨m, hn, _⟩ := I.loc
  refine .cons (by rw [I.ok.kind]; decide) hf hn ?_ I.funs
  exact Heap.get?_none_of_le (Zyx I.ok.bsz I.ok.above)
theorem Inv.stkSub (I : Inv X pins Z H s) : ∀ b ∈ frs X.stack, b ∈ X.env.locals :: X.fs := λb hb => by
 rcases I.ok.stk with e | ⟨e, hf⟩
 ·rw [e] at hb; exact Zzk _ hb
 ·rw [e] at hb
  unfold frs at hb
  rw [Zwl, hf] at hb
  exact hb
theorem Inv.stkFree (I : Inv X pins Z H s) : ∀ b ∈ frs X.stack, H b = none := λb hb => by
 rcases Zzo.mp (I.stkSub b hb) with e | hb
 ·rw [e]; exact I.free
 ·obtain ⟨_, o, ho, _⟩ := I.ok.funs.mem hb
  exact I.base.free b o ho (I.ok.frf b hb) λz => I.ok.exfs b z hb
theorem Inv.step {g' : Array GenState} {t' : Nat} {d' : Drawn} {ch : List Addr} (I : Inv X pins Z H s)
  (hch : ∀ b ∈ ch, (b ∈ X.ex \/ X.s₀.heap.objs.size <= b) /\ b ≠ X.env.locals /\ (∀ x c, X.env.cells.lookup x = some c -> c ≠ b) /\ ∀ p ∈ X.pn ++ pins, p.1 ≠ b)
  (keep : ∀ b o, b ≠ X.env.locals -> b ∉ X.fs -> b ∉ ch -> s.heap.get? b = some o -> H b = none -> h'.get? b = some o)
  (slot : ∀ b o, b ≠ X.env.locals -> b ∈ X.fs -> b ∉ ch -> s.heap.get? b = some o -> H b = none -> ∃ sl, h'.get? b = some { o with slots := sl }) (free : ∀ b o, b ∉ ch -> s.heap.get? b = some o -> H b = none -> H' b = none)
  (there : ∀ b o, b ∉ ch -> s.heap.get? b = some o -> ∃ o', h'.get? b = some o')
  (tups : ∀ b xs, H b = some (.tup xs) -> H' b = some (.tup xs)) (frzs : ∀ b o u, H b = some (.frz o u) -> H' b = some (.frz o u)) (tbls : ∀ b ps, H b = some (.tbl ps) -> ∃ more, H' b = some (.tbl (ps ++ more)))
  (ns : ∀ m, s.heap.Ns X.env.locals m -> h'.Ns X.env.locals m) (hok : HOk X.prog X.w H' h') (hg : AllBare g') :
  Inv X pins Z H' { s with heap := h', gens := g', drawn := d', toks := t' } := by
 have neL : ∀ b o, X.s₀.heap.get? b = some o -> b ≠ X.env.locals := λb o e => Zyy (Zzb (Zzl e) I.ok.above)
 have neC : ∀ b o, X.s₀.heap.get? b = some o -> b ∉ X.ex -> b ∉ ch := λb o e hx hb => by
  rcases (hch b hb).1 with z | z
  ·exact hx z
  ·exact absurd (Zzb (Zzl e) z) (Zwo _)
 have cellK : ∀ x c, X.env.cells.lookup x = some c -> ∀ v, s.heap.IsCell c v -> h'.IsCell c v := λx c e v ⟨o, ho, hd⟩ => by
  have nch : c ∉ ch := λz => (hch c z).2.2.1 x c e rfl
  by_cases hc : c ∈ X.fs
  ·obtain ⟨sl, q⟩ := slot c o (I.cne x c e) hc nch ho (I.freeC x c e)
   exact ⟨_, q, hd⟩
  ·exact ⟨o, keep c o (I.cne x c e) hc nch ho (I.freeC x c e), hd⟩
 refine ⟨I.ok, I.os, hg, ⟨λb o e n hb hx => ?_, λb o e n hb hx => ?_, λb o e n hx => ?_, λb o e hx => ?_, λb xs e => tups b xs (I.base.tups b xs e), λb o xs e => frzs b o xs (I.base.frzs b o xs e), λb ps e => ?_⟩, ?_, λx c e => ?_, ?_, λx c e => ?_, λp hp => ?_, hok, I.len⟩
 ·exact keep b o (neL b o e) hb (neC b o e hx) (I.base.keep b o e n hb hx) (I.base.free b o e n hx)
 ·obtain ⟨sl, e1⟩ := I.base.slot b o e n hb hx
  obtain ⟨sl', e2⟩ := slot b _ (neL b o e) hb (neC b o e hx) e1 (I.base.free b o e n hx)
  exact ⟨sl', e2⟩
 ·obtain ⟨o', e1⟩ := I.base.there b o e hx
  exact free b o' (neC b o e hx) e1 (I.base.free b o e n hx)
 ·obtain ⟨o', e1⟩ := I.base.there b o e hx
  exact there b o' (neC b o e hx) e1
 ·obtain ⟨m1, e1⟩ := I.base.tbls b ps e
  obtain ⟨m2, e2⟩ := tbls b _ e1
  exact ⟨m1 ++ m2, by rw [e2, Array.append_assoc]⟩
 ·obtain ⟨m, hn, hl⟩ := I.loc
  refine ⟨m, ns m hn, λi x v e1 e2 e3 => ?_⟩
  obtain ⟨u, r, l⟩ := hl i x v e1 e2 e3
  refine ⟨u, r, ?_⟩
  rcases l with l | ⟨k, c, e, z⟩
  ·exact .inl l
  ·exact .inr ⟨k, c, e, cellK x c e _ z⟩
 ·obtain ⟨v, z⟩ := I.cell x c e
  exact ⟨v, cellK x c e v z⟩
 ·obtain ⟨m, ⟨o, _, _, ho, _⟩, _⟩ := I.loc
  exact free _ o (λz => (hch _ z).2.1 rfl) ho I.free
 ·obtain ⟨v, o, ho, hd⟩ := I.cell x c e
  exact free c o (λz => (hch c z).2.2.1 x c e rfl) ho (I.freeC x c e)
 ·obtain ⟨e, n, ne, nf, d⟩ := I.pin p hp
  have nch : p.1 ∉ ch := λz => (hch p.1 z).2.2.2 p hp rfl
  exact ⟨keep p.1 p.2 ne nf nch e n, free p.1 p.2 nch e n, ne, nf, d⟩
theorem Inv.un {t' : Nat} (I : Inv X pins Z H s) (u : Un X.fs [] H H' s.heap h') (hok : HOk X.prog X.w H' h') : Inv X pins Z H' { s with heap := h', toks := t' } := by
 obtain ⟨m, ⟨o, es, ep, ho, r⟩, _⟩ := id I.loc
 obtain ⟨sl, hL⟩ := u.any ho I.free (by simp)
 exact I.step (g' := s.gens) (d' := s.drawn) (ch := []) (λ_ z => nomatch z) (λb o _ hb _ e n => u.keep b o e n hb (by simp)) (λb o _ hb _ e n => u.slot b o e n hb (by simp)) (λb o _ e n => u.free b o e n (by simp)) (λb o _ e => u.there b o e (by simp)) u.tups u.frzs u.tbls (λm' hm => by
  obtain ⟨o', es', ep', ho', r'⟩ := hm
  rw [ho] at ho'; cases ho'
  exact ⟨_, es', ep', hL, r'⟩) hok I.bare
theorem Inv.call {g' : Array GenState} {t' : Nat} {d' : Drawn} {ch : List Addr} (I : Inv X pins Z H s) (u : Un (frs X.stack) ch H H' s.heap h') (hok : HOk X.prog X.w H' h') (hg : AllBare g')
  (hch : ∀ b ∈ ch, (b ∈ X.ex \/ X.s₀.heap.objs.size <= b) /\ b ≠ X.env.locals /\ (∀ x c, X.env.cells.lookup x = some c -> c ≠ b) /\ ∀ p ∈ X.pn ++ pins, p.1 ≠ b) :
  Inv X pins Z H' { s with heap := h', gens := g', drawn := d', toks := t' } := by
 obtain ⟨m, ⟨o, es, ep, ho, r⟩, _⟩ := id I.loc
 obtain ⟨sl, hL⟩ := u.any ho I.free λz => (hch _ z).2.1 rfl
 exact I.step (ch := ch) hch (λb o hL hb hc e n => u.keep b o e n (λz => (Zzo.mp (I.stkSub b z)).elim hL hb) hc) (λb o _ _ hc e n => u.any e n hc) (λb o hc e n => u.free b o e n hc) (λb o hc e => u.there b o e hc) u.tups u.frzs u.tbls (λm' hm => by
  obtain ⟨o', es', ep', ho', r'⟩ := hm
  rw [ho] at ho'; cases ho'
  exact ⟨_, es', ep', hL, r'⟩) hok hg
theorem Inv.turned {t' : Nat} {it : Addr} (I : Inv X pins Z H s) (k : ∀ b o, b ≠ it -> s.heap.get? b = some o -> h'.get? b = some o) (hn : H it = none) (hL : it ≠ X.env.locals)
  (h1 : it ∈ X.ex \/ X.s₀.heap.objs.size <= it) (h2 : ∀ x c, X.env.cells.lookup x = some c -> c ≠ it) (h3 : ∀ p ∈ X.pn ++ pins, p.1 ≠ it) : Inv X pins Z H { s with heap := h', toks := t' } := by
 have nit : ∀ b u, H b = some u -> b ≠ it := λb u e z => by rw [z, hn] at e; cases e
 refine I.step (g' := s.gens) (d' := s.drawn) (ch := [it]) (λb hb => ?_) (λb o _ _ hc e _ => k b o (λz => hc (by simp [z])) e) (λb o _ _ hc e _ => ⟨o.slots, k b o (λz => hc (by simp [z])) e⟩) (λ_ _ _ _ n => n)
  (λb o hc e => ⟨o, k b o (λz => hc (by simp [z])) e⟩) (λ_ _ e => e) (λ_ _ _ e => e) (λb ps e => ⟨#[], by rw [e]; simp⟩) (λm hm => ?_) (λb u e => ?_) I.bare
 ·have e : b = it := by simpa using hb
  subst e
  exact ⟨h1, hL, h2, h3⟩
 ·obtain ⟨o, es, ep, ho, r⟩ := hm
  exact ⟨o, es, ep, k _ o (Zzf hL) ho, r⟩
 ·refine (I.hok b u e).stay (λc v hc q => k c v ?_ q) (λ_ q => q) λ_ _ q => q
  rcases hc with z | z
  ·rw [z]; exact nit b u e
  ·exact nit c _ z
theorem Inv.tok (I : Inv X pins Z H s) (t : Nat) : Inv X pins Z H { s with toks := t } := I.un (h' := s.heap) (t' := t) Un.refl I.hok
theorem Inv.kept {t' : Nat} (I : Inv X pins Z H s) (k : ∀ b u, s.heap.get? b = some u -> h'.get? b = some u) : Inv X pins Z H { s with heap := h', toks := t' } := I.un (Un.kept k) (I.hok.kept k)
theorem Inv.laid {a : Addr} {o : HO} {t' : Nat} (I : Inv X pins Z H s) (k : ∀ b u, s.heap.get? b = some u -> h'.get? b = some u) (hp : s.heap.objs.size <= a) (new : ObjOk X.prog X.w (upd H a o) h' a o) :
  Inv X pins Z (upd H a o) { s with heap := h', toks := t' } := I.un (Un.laid k hp (I.hok.fresh hp)) (I.hok.laid k hp new)
theorem Inv.write {x e : Addr} {o : HO} {t' : Nat} (I : Inv X pins Z H s) (mu : Mut (H x)) (he : e = x \/ H e = some (.own x)) (k : ∀ b u, b ≠ e -> s.heap.get? b = some u -> h'.get? b = some u) (heo : ∃ u, h'.get? e = some u)
  (new : ObjOk X.prog X.w (upd H x o) h' x o) : Inv X pins Z (upd H x o) { s with heap := h', toks := t' } := I.un (Un.write mu he k heo) (I.hok.write mu he k heo new)
theorem Inv.weak {Z' : List (Option V)} (I : Inv X pins Z H s) (hl : Z'.length = Z.length) (w : ∀ (i : Nat) v, Z'[i]? = some (some v) -> Z[i]? = some (some v)) : Inv X pins Z' H s :=
 ⟨I.ok, I.os, I.bare, I.base, by obtain ⟨m, hn, hl'⟩ := I.loc; exact ⟨m, hn, λi x v e1 e2 e3 => hl' i x v e1 (w i v e2) e3⟩, I.cell, I.free, I.freeC, I.pin, I.hok, hl.trans I.len⟩
theorem Inv.pins_of {pins' : List (Addr × Obj)} (I : Inv X pins Z H s) (h : ∀ p ∈ pins', s.heap.get? p.1 = some p.2 /\ H p.1 = none /\ p.1 ≠ X.env.locals /\ p.1 ∉ X.fs /\ ∀ v, p.2.data ≠ .cell v) : Inv X pins' Z H s :=
 ⟨I.ok, I.os, I.bare, I.base, I.loc, I.cell, I.free, I.freeC, λp hp => (Zzc.mp hp).elim (λz => I.pin p (Zyw _ z)) (h p), I.hok, I.len⟩
theorem Sm {N : List Str} (hN : N.Nodup) {i j : Nat} {x : Str} (a : N[i]? = some x) (b : N[j]? = some x) : i = j := by
 obtain ⟨h1, e1⟩ := Zzh.mp a
 obtain ⟨h2, e2⟩ := Zzh.mp b
 exact (List.getElem_inj hN).mp (e1.trans e2.symm)
theorem Op {M : Model} {A : Around} {E : Value -> Shared -> Prop} {i : Nat} {x : Str} {v : V} {u : Value} {Q : Unit -> Shared -> Prop} (I : Inv X pins Z H s) (hN : X.N.Nodup) (hi : X.N[i]? = some x) (hx : Loc X.env.scope x) (r : RelV v u)
  (h : ∀ s', Inv X pins (Z.set i (some v)) H s' -> (∃ a, Zyf a s.heap s'.heap /\ (a = X.env.locals \/ X.env.cells.lookup x = some a)) -> Q () s') (hf : X.fn x = true \/ X.env.scope.names.lookup x = some .local := by first | exact .inl rfl | exact .inr rfl | assumption) : wpAny M A (storeName X.env x u) Q E s := by
 obtain ⟨m, hn, hl⟩ := id I.loc
 have hcls : (X.env.scope.kind == .class || (X.env.scope.kind == .module && X.env.locals != X.env.globals)) = false := by rw [I.ok.kind]; rfl
 have hiσ : i < Z.length := by rw [I.len]; exact (Zzh.mp hi).1
 have cne := I.cne
 have tracked : ∀ {a : Addr} {h' : Heap}, (∃ o, s.heap.get? a = some o /\ H a = none) -> Zyf a s.heap h' -> HOk X.prog X.w H h' := λ{a h'} ha hs b ob e => by
  obtain ⟨_, _, hfree⟩ := ha
  refine (I.hok b ob e).stay (λc w' hc q => (hs.2 c ?_).trans q) (λ_ q => q) λ_ _ q => q
  rintro rfl
  rcases hc with rfl | hc
  ·rw [hfree] at e; cases e
  ·rw [hfree] at hc; cases hc
 rcases hx with hk | hk
 ·refine wpAny_storeName_local hk hn (λh' hn' hs => ?_) hcls
  obtain ⟨oL, _, _, hoL, _⟩ := id hn
  refine h _ ⟨I.ok, I.os, I.bare, ⟨λb o e n hb hx => ?_, λb o e n hb hx => ?_, I.base.free, λb o e hx => ?_, I.base.tups, I.base.frzs, I.base.tbls⟩, ⟨_, hn', λj y v' e1 e2 e3 => ?_⟩, λy c e => ?_, I.free, I.freeC, λp hp => ?_, tracked ⟨oL, hoL, I.free⟩ hs, by simpa using I.len⟩ ⟨_, hs, .inl rfl⟩
  ·exact (hs.2 b (Zyy (Zzb (Zzl e) I.ok.above))).trans (I.base.keep b o e n hb hx)
  ·obtain ⟨sl, e1⟩ := I.base.slot b o e n hb hx
   exact ⟨sl, (hs.2 b (Zyy (Zzb (Zzl e) I.ok.above))).trans e1⟩
  ·obtain ⟨o', e1⟩ := I.base.there b o e hx
   exact ⟨o', (hs.2 b (Zyy (Zzb (Zzl e) I.ok.above))).trans e1⟩
  ·by_cases hj : j = i
   ·subst hj
    rw [hi] at e1; cases e1
    rw [Zx7 hiσ] at e2
    cases e2
    exact ⟨u, r, .inl ⟨hk, by simp⟩⟩
   ·rw [Zxn (Zzf hj)] at e2
    obtain ⟨u', r', q⟩ := hl j y v' e1 e2 e3
    refine ⟨u', r', ?_⟩
    rcases q with ⟨k, e⟩ | ⟨k, c, e, z⟩
    ·refine .inl ⟨k, ?_⟩
     have : y ≠ x := λe => hj (Sm hN e1 (e ▸ hi))
     simp [this, e]
    ·exact .inr ⟨k, c, e, z.sameBut hs (cne y c e)⟩
  ·obtain ⟨w', z⟩ := I.cell y c e
   exact ⟨w', z.sameBut hs (cne y c e)⟩
  ·obtain ⟨e, n, ne, nf, d⟩ := I.pin p hp
   exact ⟨(hs.2 p.1 ne).trans e, n, ne, nf, d⟩
 ·have hfn : X.fn x = true := by
   rcases hf with z | z
   ·exact z
   ·rw [z] at hk; cases hk
  obtain ⟨c, hc⟩ := I.ok.has x (.inl hk)
  obtain ⟨w', z⟩ := I.cell x c hc
  refine wpAny_storeName_cell I.ok.kind hk hc z (λh' hc' hs => ?_)
  obtain ⟨oc, hoc, hocd⟩ := id z
  refine h { s with heap := h' } ⟨I.ok, I.os, I.bare, ⟨λb o e n hb hx => ?_, λb o e n hb hx => ?_, I.base.free, λb o e hx => ?_, I.base.tups, I.base.frzs, I.base.tbls⟩, ⟨m, hn.sameBut hs (Zzf (cne x c hc)), λj y v' e1 e2 e3 => ?_⟩, λy c' e => ?_, I.free, I.freeC, λp hp => ?_, tracked ⟨oc, hoc, I.freeC x c hc⟩ hs, by simpa using I.len⟩ ⟨c, hs, .inr hc⟩
  ·exact (hs.2 b (Zyy (Zzb (Zzl e) (I.ok.cab x c hfn hc)))).trans (I.base.keep b o e n hb hx)
  ·obtain ⟨sl, e1⟩ := I.base.slot b o e n hb hx
   exact ⟨sl, (hs.2 b (Zyy (Zzb (Zzl e) (I.ok.cab x c hfn hc)))).trans e1⟩
  ·obtain ⟨o', e1⟩ := I.base.there b o e hx
   exact ⟨o', (hs.2 b (Zyy (Zzb (Zzl e) (I.ok.cab x c hfn hc)))).trans e1⟩
  ·by_cases hj : j = i
   ·subst hj
    rw [hi] at e1; cases e1
    rw [Zx7 hiσ] at e2
    cases e2
    exact ⟨u, r, .inr ⟨.inl hk, c, hc, hc'⟩⟩
   ·rw [Zxn (Zzf hj)] at e2
    obtain ⟨u', r', q⟩ := hl j y v' e1 e2 e3
    refine ⟨u', r', ?_⟩
    rcases q with q | ⟨k, c', e, z'⟩
    ·exact .inl q
    ·refine .inr ⟨k, c', e, z'.sameBut hs ?_⟩
     rintro rfl
     exact hj (Sm hN e1 (I.ok.inj _ _ _ e hc ▸ hi))
  ·by_cases hcc : c' = c
   ·subst hcc; exact ⟨_, hc'⟩
   ·obtain ⟨w2, z2⟩ := I.cell y c' e
    exact ⟨w2, z2.sameBut hs hcc⟩
  ·obtain ⟨e, n, ne, nf, d⟩ := I.pin p hp
   refine ⟨(hs.2 p.1 ?_).trans e, n, ne, nf, d⟩
   intro q
   rw [q, hoc] at e
   have q' : oc = p.2 := Zzn e
   exact d w' (by rw [<- q']; exact hocd)
theorem M0 {M : Model} {A : Around} {E : Value -> Shared -> Prop} {i : Nat} {x : Str} {v : V} {u : Value} {Q : Unit -> Shared -> Prop} (I : Inv X pins Z H s) (hN : X.N.Nodup) (hi : X.N[i]? = some x) (hx : Loc X.env.scope x) (r : RelV v u)
  (h : ∀ s', Inv X pins (Z.set i (some v)) H s' -> Q () s') (hf : X.fn x = true \/ X.env.scope.names.lookup x = some .local := by first | exact .inl rfl | exact .inr rfl | assumption) : wpAny M A (storeName X.env x u) Q E s :=
 Op I hN hi hx r (λs' I' _ => h s' I') hf
theorem Inv.call' {s' : Shared} {ch : List Addr} (I : Inv X pins Z H s) (ho : s'.os = s.os) (u : Un (frs X.stack) ch H H' s.heap s'.heap) (hok : HOk X.prog X.w H' s'.heap) (hg : AllBare s'.gens)
  (hch : ∀ b ∈ ch, (b ∈ X.ex \/ X.s₀.heap.objs.size <= b) /\ b ≠ X.env.locals /\ (∀ x c, X.env.cells.lookup x = some c -> c ≠ b) /\ ∀ p ∈ X.pn ++ pins, p.1 ≠ b) : Inv X pins Z H' s' := by
 obtain ⟨h', g', d', t', o'⟩ := s'
 have e : o' = s.os := ho
 subst e
 exact I.call (g' := g') (t' := t') (d' := d') u hok hg hch
end
abbrev XK := Value -> Option Addr -> Hp -> Prop
abbrev St := List (Option V)
abbrev VK := V -> Hp -> Prop
abbrev TE := St -> Hp -> VK -> Prop
abbrev TT := St -> Hp -> (Bool -> Hp -> Prop) -> Prop
abbrev TA := St -> Hp -> (List V -> Hp -> Prop) -> Prop
structure Ku where
 nx : St -> Hp -> Prop
 rt : VK
 bk : St -> Hp -> Prop := λ_ _ => False
 ct : St -> Hp -> Prop := λ_ _ => False
abbrev TS := Ku -> St -> Hp -> Prop
def EP (X : Cx) (pins : List (Addr × Obj)) (Z : St) (Q : VK) (u : Value) (s' : Shared) : Prop := ∃ v H', Inv X pins Z H' s' /\ RelV v u /\ Q v H'
def TP (X : Cx) (pins : List (Addr × Obj)) (Z : St) (Q : Bool -> Hp -> Prop) (b : Bool) (s' : Shared) : Prop := ∃ H', Inv X pins Z H' s' /\ Q b H'
def AP (X : Cx) (pins : List (Addr × Obj)) (Z : St) (Q : List V -> Hp -> Prop) (us : List Value) (s' : Shared) : Prop := ∃ vs H', Inv X pins Z H' s' /\ Vals vs us /\ Q vs H'
def SP (X : Cx) (pins : List (Addr × Obj)) (D : Ku) (f : Flow) (s' : Shared) : Prop :=
 match f with
 | .next => ∃ Z' H', Inv X pins Z' H' s' /\ D.nx Z' H'
 | .brk => ∃ Z' H', Inv X pins Z' H' s' /\ D.bk Z' H'
 | .cont => ∃ Z' H', Inv X pins Z' H' s' /\ D.ct Z' H'
 | .ret u => ∃ v Z' H', Inv X pins Z' H' s' /\ RelV v u /\ D.rt v H'
def PE (X : Cx) (e : Expr) (t : TE) : Prop :=
 ∀ (pins : List (Addr × Obj)) (s : Shared) (Z : St) (H : Hp) (Q : VK), Inv X pins Z H s -> t Z H Q -> wpAny (model X.prog X.w) X.A (eval e X.env) (EP X pins Z Q) X.xe s
def PT (X : Cx) (e : Expr) (t : TT) : Prop :=
 ∀ (pins : List (Addr × Obj)) (s : Shared) (Z : St) (H : Hp) (Q : Bool -> Hp -> Prop), Inv X pins Z H s -> t Z H Q -> wpAny (model X.prog X.w) X.A (isTrue e X.env (eval e X.env)) (TP X pins Z Q) X.xe s
def PW (X : Cx) (e : Expr) (t : TT) : Prop :=
 ∀ (whole : Sem Value) (pins : List (Addr × Obj)) (s : Shared) (Z : St) (H : Hp) (Q : Bool -> Hp -> Prop), Inv X pins Z H s -> t Z H Q -> wpAny (model X.prog X.w) X.A (isTrue e X.env whole) (TP X pins Z Q) X.xe s
theorem PW.pt {X : Cx} {e : Expr} {t : TT} (h : PW X e t) : PT X e t := h _
def PA (X : Cx) (es : List Expr) (t : TA) : Prop :=
 ∀ (pos : Pos) (pins : List (Addr × Obj)) (s : Shared) (Z : St) (H : Hp) (Q : List V -> Hp -> Prop), Inv X pins Z H s -> t Z H Q -> wpAny (model X.prog X.w) X.A (spliced (backTo pos (starEach es X.env))) (AP X pins Z Q) X.xe s
def PS (X : Cx) (st : Stmt) (t : TS) : Prop :=
 ∀ (pins : List (Addr × Obj)) (s : Shared) (Z : St) (H : Hp) (D : Ku), Inv X pins Z H s -> t D Z H -> wpAny (model X.prog X.w) X.A (exec st X.env) (SP X pins D) X.xe s
def PSs (X : Cx) (st : List Stmt) (t : TS) : Prop :=
 ∀ (pins : List (Addr × Obj)) (s : Shared) (Z : St) (H : Hp) (D : Ku), Inv X pins Z H s -> t D Z H -> wpAny (model X.prog X.w) X.A (execs st X.env) (SP X pins D) X.xe s
theorem thn {α : Type} {t : Sem α} {Q Q' : α -> Shared -> Prop} {M : Model} {A : Around} {E : Value -> Shared -> Prop} {s : Shared} (h : wpAny M A t Q E s) (hQ : ∀ a s, Q a s -> Q' a s) : wpAny M A t Q' E s := wpAny_mono h hQ λ_ _ x => x
section
variable {X : Cx}
def jr (i : Nat) : TE := λZ H Q => ∃ v, Z[i]? = some (some v) /\ Q v H
def tC (v : V) : TE := λ_ H Q => Q v H
theorem kg {i : Nat} {x : Str} {pos : Pos} (hN : X.N[i]? = some x) (hv : Vis X.env.scope x) (hd : (x == ("__debug__" : Str)) = false := by decide) (hcd : (x == ("__classdict__" : Str)) = false := by decide) : PE X (.Name x pos) (jr i) := by
 intro pins s Z H Q I h
 obtain ⟨v, e, h⟩ := h
 obtain ⟨m, hn, hl⟩ := I.loc
 obtain ⟨u, r, l⟩ := hl i x v hN e hv
 have fin : EP X pins Z Q u s := ⟨v, H, I, r, h⟩
 rcases l with ⟨hk, hm⟩ | ⟨hk, c, hc, hcell⟩
 ·exact wpAny_Name (wpAny_loadName_local I.ok.kind hk hn hm fin) hd
 ·rcases hk with hk | hk
  ·exact wpAny_Name (wpAny_loadName_cell I.ok.kind hk hc hcell fin) hd
  ·exact wpAny_Name (wpAny_loadName_free I.ok.kind hk hc hcell fin hcd) hd
theorem A8 {i j pos} : PE X (.Constant (.int i) j pos) (tC (.int i)) := λ_ _ _ H _ I h => wpAny_Constant_int ⟨.int i, H, I.tok _, ⟨_, rfl⟩, h⟩
theorem Ow {b j pos} : PE X (.Constant (.bool b) j pos) (tC (.bl b)) := λ_ _ _ H _ I h => Constant_bool ⟨.bl b, H, I, rfl, h⟩
theorem Fn {j pos} : PE X (.Constant .none j pos) (tC .non) := λ_ _ _ H _ I h => Constant_none ⟨.non, H, I, rfl, h⟩
theorem Bo {x j pos} : PE X (.Constant (.str x) j pos) (tC (.str x)) := λ_ _ _ H _ I h => Calls.Constant_str ⟨.str x, H, I.tok _, ⟨_, rfl⟩, h⟩
def Gl (X : Cx) (x : Str) : Prop := X.env.kindOf x = some .globalImplicit
theorem Vo {E : Value -> Shared -> Prop} {pins : List (Addr × Obj)} {s : Shared} {Z : St} {H : Hp} {x : Str} {u : Value} {pos : Pos} {Q : Value -> Shared -> Prop} (I : Inv X pins Z H s) (hg : Gl X x) (hm : X.mg x = some u) (h : Q u s)
  (hd : (x == ("__debug__" : Str)) = false := by decide) : wpAny (model X.prog X.w) X.A (eval (.Name x pos) X.env) Q E s :=
 Calls.Name_function_global I.ok.kind hg (Calls.loadGlobal_global (by rw [I.ok.glob]; exact I.mod.glob.keeps I.bk) hm h) hd
theorem E9 {E : Value -> Shared -> Prop} {pins : List (Addr × Obj)} {s : Shared} {Z : St} {H : Hp} {x : Str} {u : Value} {pos : Pos} {Q : Value -> Shared -> Prop} (I : Inv X pins Z H s) (hg : Gl X x) (hm : X.mg x = none) (hv : bootBuiltins x = some u) (h : Q u s)
  (hn : x ≠ "__name__" := by decide) (hd : (x == ("__debug__" : Str)) = false := by decide) : wpAny (model X.prog X.w) X.A (eval (.Name x pos) X.env) Q E s := by
 obtain ⟨mb, h1, h2⟩ := I.mod.blt
 exact Calls.Name_function_global I.ok.kind hg (Calls.loadGlobal_builtin (by rw [I.ok.glob]; exact I.mod.glob.keeps I.bk) hm (by rw [I.ok.blt]; exact h1.keeps I.bk) ((h2 x hn).trans hv) h) hd
theorem dm {x : Str} {v : V} {u : Value} {pos : Pos} (hg : Gl X x) (hm : X.mg x = some u) (r : RelV v u) (hd : (x == ("__debug__" : Str)) = false := by decide) : PE X (.Name x pos) (tC v) :=
 λ_ _ _ H _ I h => Vo I hg hm ⟨v, H, I, r, h⟩ hd
theorem Q8 {x : Str} {v : V} {u : Value} {pos : Pos} (hg : Gl X x) (hm : X.mg x = none) (hv : bootBuiltins x = some u) (r : RelV v u) (hn : x ≠ "__name__" := by decide) (hd : (x == ("__debug__" : Str)) = false := by decide) : PE X (.Name x pos) (tC v) :=
 λ_ _ _ H _ I h => E9 I hg hm hv ⟨v, H, I, r, h⟩ hn hd
variable {a b : Expr} {ta tb : TE} {pos : Pos}
def PC (X : Cx) (op : CmpOp) (a b : Expr) (t : TE) : Prop :=
 ∀ (pins : List (Addr × Obj)) (s : Shared) (Z : St) (H : Hp) (Q : VK), Inv X pins Z H s -> t Z H Q ->
  wpAny (model X.prog X.w) X.A (eval a X.env) (λv s₁ => wpAny (model X.prog X.w) X.A (eval b X.env) (λu s₂ => wpAny (model X.prog X.w) X.A (compareOp op v u) (EP X pins Z Q) X.xe s₂) X.xe s₁) X.xe s
theorem Z3 (b : Expr) {op : CmpOp} (h : op ≠ .In) (h2 : op ≠ .NotIn) : behindInMarks op b = false := by
 have e1 : (op == CmpOp.In) = false := by cases op <;> first | rfl | exact absurd rfl h
 have e2 : (op == CmpOp.NotIn) = false := by cases op <;> first | rfl | exact absurd rfl h2
 cases b <;> simp [behindInMarks, e1, e2]
def tB (t : TE) : TT := λZ H Q => t Z H λx H1 => ∃ c, x = .bl c /\ Q c H1
theorem jy {op : CmpOp} {t : TE} (h : PC X op a b t) (h1 : behindInMarks op b = false := by first | exact Z3 _ (by decide) (by decide) | rfl) : PT X (.Compare a [op] [b] pos) (tB t) := by
 intro pins s Z H Q I hw
 refine wpAny_isTrue_Compare1 (thn (h pins s Z H _ I hw) λv s1 h1 => thn h1 λu s2 h2 => thn h2 λc s3 ⟨x, H1, I1, r1, q1⟩ => ?_) h1
 obtain ⟨d, rfl, q⟩ := q1
 cases r1
 exact wpAny_truthy_bool ⟨H1, I1, q⟩
theorem Q5 {e : Expr} {t : TE} (h : PE X e t) (he : ∀ whole, isTrue e X.env whole = (do let v <- whole; standAt e.pos; holding [v] (truthy v)) := by intro _; rfl) : PT X e (tB t) := by
 intro pins s Z H Q I hw
 refine isTrue_plain (thn (h pins s Z H _ I hw) λv s1 ⟨x, H1, I1, r1, q1⟩ => ?_) (he _)
 obtain ⟨d, rfl, q⟩ := q1
 cases r1
 exact wpAny_truthy_bool ⟨H1, I1, q⟩
variable {tA tB' : TT} {rest : List Expr}
def ox (t u : TT) : TT := λZ H Q => t Z H λc H1 => if c = true then u Z H1 Q else Q false H1
def tOr (t u : TT) : TT := λZ H Q => t Z H λc H1 => if c = true then Q true H1 else u Z H1 Q
def ol (t : TT) : TT := λZ H Q => t Z H λc H1 => Q (!c) H1
theorem Ga (ha : PT X a tA) : PW X (.BoolOp .And [a] pos) tA := by
 intro wh pins s Z H Q I h
 refine isTrue_and (thn (ha pins s Z H Q I h) λc s1 e => ?_)
 cases c with
 | true => exact isTrue_and_nil e
 | false => exact e
theorem jw (ha : PT X a tA) : PW X (.BoolOp .Or [a] pos) tA := by
 intro wh pins s Z H Q I h
 refine isTrue_or (thn (ha pins s Z H Q I h) λc s1 e => ?_)
 cases c with
 | false => exact isTrue_or_nil e
 | true => exact e
theorem Ij (ha : PT X a tA) (hb : PW X (.BoolOp .And (b :: rest) pos) tB') : PW X (.BoolOp .And (a :: b :: rest) pos) (ox tA tB') := by
 intro wh pins s Z H Q I h
 refine isTrue_and (thn (ha pins s Z H _ I h) λc s1 ⟨H1, I1, q1⟩ => ?_)
 cases c with
 | true => exact hb wh pins s1 Z H1 Q I1 q1
 | false => exact ⟨H1, I1, q1⟩
theorem j6 (ha : PT X a tA) (hb : PW X (.BoolOp .Or (b :: rest) pos) tB') : PW X (.BoolOp .Or (a :: b :: rest) pos) (tOr tA tB') := by
 intro wh pins s Z H Q I h
 refine isTrue_or (thn (ha pins s Z H _ I h) λc s1 ⟨H1, I1, q1⟩ => ?_)
 cases c with
 | true => exact ⟨H1, I1, q1⟩
 | false => exact hb wh pins s1 Z H1 Q I1 q1
theorem Q6 (ha : PT X a tA) : PT X (.UnaryOp .Not a pos) (ol tA) := by
 intro pins s Z H Q I h
 exact isTrue_not (ha pins s Z H (λc H1 => Q (!c) H1) I h)
def j4 (ta tb : TE) : TE := λZ H Q => ta Z H λx H1 => ∃ c, x = .bl c /\ if c = true then tb Z H1 Q else Q (.bl false) H1
def ix (ta : TE) : TE := λZ H Q => ta Z H λx H1 => ∃ c, x = .bl c /\ Q (.bl (!c)) H1
theorem kh {op} {t : TE} (h : PE X a t) : PE X (.BoolOp op [a] pos) t := λpins s Z H Q I hw => BoolOp_one (h pins s Z H Q I hw)
theorem kj (ha : PE X a ta) (hb : PE X (.BoolOp .And (b :: rest) pos) tb) : PE X (.BoolOp .And (a :: b :: rest) pos) (j4 ta tb) := by
 intro pins s Z H Q I h
 refine BoolOp_and (thn (ha pins s Z H _ I h) λv s1 ⟨x, H1, I1, r1, q1⟩ => ?_)
 obtain ⟨c, rfl, q1⟩ := q1
 cases r1
 refine wpAny_truthy_bool ?_
 cases c with
 | true => exact hb pins s1 Z H1 Q I1 q1
 | false => exact ⟨.bl false, H1, I1, rfl, q1⟩
theorem ki (ha : PE X a ta) : PE X (.UnaryOp .Not a pos) (ix ta) := by
 intro pins s Z H Q I h
 refine UnaryOp_ (thn (ha pins s Z H _ I h) λv s1 ⟨x, H1, I1, r1, q1⟩ => ?_)
 obtain ⟨c, rfl, q1⟩ := q1
 cases r1
 exact not_of (wpAny_truthy_bool ⟨.bl (!c), H1, I1, rfl, q1⟩)
end
def SqL (K : Zzv) (H : Hp) (a : Addr) (xs : List V) : Prop :=
 Rd H a (.lst xs) \/
  ∃ (o : Obj) (its : Array Value) (n : Nat), K.lookup a = some o /\ o.cls = .type "list" /\ o.dict = none /\ o.data = .seq its n /\ its.size <= sizeLine /\ Vals xs its.toList
def SqT (K : Zzv) (H : Hp) (a : Addr) (xs : List V) : Prop :=
 Rd H a (.tup xs) \/
  ∃ (o : Obj) (its : Array Value) (n : Nat), K.lookup a = some o /\ o.cls = .type "tuple" /\ o.data = .seq its n /\ its.size <= sizeLine /\ Vals xs its.toList
def absV : Value -> Option V
 | .none => some .non
 | .bool b => some (.bl b)
 | .int i _ => some (.int i)
 | .str x _ => some (.str x)
 | .bytes b _ => some (.byt b)
 | .float b _ => some (.flt b)
 | .ref a => some (.ref a)
 | .type n => some (.ty n)
 | _ => none
theorem RelV.abs {x : V} {u : Value} (r : RelV x u) : absV u = some x := by
 cases x with
 | non => cases r; rfl
 | bl _ => cases r; rfl
 | int _ => obtain ⟨t, rfl⟩ := r; rfl
 | str _ => obtain ⟨t, rfl⟩ := r; rfl
 | byt _ => obtain ⟨t, rfl⟩ := r; rfl
 | flt _ => obtain ⟨t, rfl⟩ := r; rfl
 | ref _ => cases r; rfl
 | ty _ => cases r; rfl
theorem RelV.inj {x y : V} {u : Value} (r : RelV x u) (q : RelV y u) : x = y := Zzn (r.abs.symm.trans q.abs)
theorem Vals.inj : ∀ {xs ys : List V} {us : List Value}, Vals xs us -> Vals ys us -> xs = ys
 | _, _, _, .nil, .nil => rfl
 | _, _, _, .cons r t, .cons r' t' => by rw [r.inj r', Vals.inj t t']
section
variable {X : Cx} {pins : List (Addr × Obj)} {Z : St} {H : Hp} {s : Shared} {a : Addr} {xs ys : List V}
theorem SqL.of {K : Zzv} (h : H a = some (.lst xs)) : SqL K H a xs := .inl (.inl h)
theorem SqT.of {K : Zzv} (h : H a = some (.tup xs)) : SqT K H a xs := .inl (.inl h)
theorem Inv.list (I : Inv X pins Z H s) (h : SqL X.K H a xs) : ∃ its : List Value, Vals xs its /\ PlainL s.heap a its.toArray /\ xs.length <= sizeLine := by
 rcases h with h | ⟨o, its, n, hk, hc, hd, hs, hz, r⟩
 ·obtain ⟨z, its, n, r, e⟩ := h.ok I.hok
  exact ⟨its, r, ⟨_, n, e, rfl, rfl, rfl⟩, z⟩
 ·refine ⟨its.toList, r, ⟨o, n, I.kIn a o hk, hc, hd, by simpa using hs⟩, ?_⟩
  have e := r.length
  simp only [Zwk] at e
  omega
theorem Inv.tuple (I : Inv X pins Z H s) (h : SqT X.K H a xs) : ∃ its : List Value, Vals xs its /\ IsTup s.heap a its.toArray /\ xs.length <= sizeLine := by
 rcases h with h | ⟨o, its, n, hk, hc, hs, hz, r⟩
 ·obtain ⟨z, its, r, p⟩ := h.ok I.hok
  exact ⟨its, r, p, z⟩
 ·refine ⟨its.toList, r, ⟨o, I.kIn a o hk, hc, n, by simpa using hs⟩, ?_⟩
  have e := r.length
  simp only [Zwk] at e
  omega
theorem Inv.list_inj (I : Inv X pins Z H s) (h : SqL X.K H a xs) (h' : SqL X.K H a ys) : xs = ys := by
 obtain ⟨its, r, ⟨o, n, e, _, _, d⟩, _⟩ := I.list h
 obtain ⟨its', r', ⟨o', n', e', _, _, d'⟩, _⟩ := I.list h'
 rw [e] at e'; cases e'
 rw [d] at d'
 injection d' with d1 _
 have : its = its' := by simpa using congrArg Array.toList d1
 subst this
 exact r.inj r'
theorem Inv.tuple_inj (I : Inv X pins Z H s) (h : SqT X.K H a xs) (h' : SqT X.K H a ys) : xs = ys := by
 obtain ⟨its, r, ⟨o, e, _, n, d⟩, _⟩ := I.tuple h
 obtain ⟨its', r', ⟨o', e', _, n', d'⟩, _⟩ := I.tuple h'
 rw [e] at e'; cases e'
 rw [d] at d'
 injection d' with d1 _
 have : its = its' := by simpa using congrArg Array.toList d1
 subst this
 exact r.inj r'
end
abbrev Cx.wish (X : Cx) (E : Value -> Shared -> Prop) : Cx := { X with xe := E }
abbrev Cx.nox (X : Cx) : Cx := X.wish λ_ _ => False
theorem Cx.Ok.wish {X : Cx} (ok : X.Ok) (E : Value -> Shared -> Prop) : (X.wish E).Ok :=
 ⟨ok.mod, ok.kind, ok.glob, ok.blt, ok.above, ok.inj, ok.has, ok.cab, ok.hd, ok.frames, ok.stk, ok.exf, ok.bs, ok.bsz, ok.noex, ok.exfs, ok.funs, ok.frf⟩
theorem Cx.Ok.unwish {X : Cx} {E : Value -> Shared -> Prop} (ok : (X.wish E).Ok) : X.Ok :=
 ⟨ok.mod, ok.kind, ok.glob, ok.blt, ok.above, ok.inj, ok.has, ok.cab, ok.hd, ok.frames, ok.stk, ok.exf, ok.bs, ok.bsz, ok.noex, ok.exfs, ok.funs, ok.frf⟩
section
variable {X : Cx} {pins : List (Addr × Obj)} {Z : St} {H : Hp} {s : Shared} {E : Value -> Shared -> Prop}
theorem Inv.wish (I : Inv X pins Z H s) (E : Value -> Shared -> Prop) : Inv (X.wish E) pins Z H s := ⟨I.ok.wish E, I.os, I.bare, I.base, I.loc, I.cell, I.free, I.freeC, I.pin, I.hok, I.len⟩
theorem Inv.unwish (I : Inv (X.wish E) pins Z H s) : Inv X pins Z H s := ⟨I.ok.unwish, I.os, I.bare, I.base, I.loc, I.cell, I.free, I.freeC, I.pin, I.hok, I.len⟩
theorem SP.unwish {D : Ku} {f : Flow} {s' : Shared} (h : SP (X.wish E) pins D f s') : SP X pins D f s' := by
 cases f with
 | next => obtain ⟨Z', H', I, q⟩ := h; exact ⟨Z', H', I.unwish, q⟩
 | brk => obtain ⟨Z', H', I, q⟩ := h; exact ⟨Z', H', I.unwish, q⟩
 | cont => obtain ⟨Z', H', I, q⟩ := h; exact ⟨Z', H', I.unwish, q⟩
 | ret u => obtain ⟨v, Z', H', I, r, q⟩ := h; exact ⟨v, Z', H', I.unwish, r, q⟩
theorem PSs.nox {st : List Stmt} {t : TS} (h : PSs X.nox st t) : PSs X st t := λpins s Z H D I hw =>
 wpAny_mono (h pins s Z H D (I.wish _) hw) (λ_ _ q => q.unwish) λ_ _ z => False.elim z
end
section
variable {X : Cx} {st : Stmt} {rest : List Stmt} {t u : TS} {e : Expr} {te : TE} {pos : Pos}
def tNext : TS := λD Z H => D.nx Z H
def Yc (t u : TS) : TS := λD Z H => t { D with nx := u D } Z H
theorem Ao : PSs X [] tNext := λ_ _ Z H _ I h => wpAny_execs_nil ⟨Z, H, I, h⟩
theorem A2 (h1 : PS X st t) (h2 : PSs X rest u) : PSs X (st :: rest) (Yc t u) := by
 intro pins s Z H D I h
 refine wpAny_execs_cons (thn (h1 pins s Z H { D with nx := u D } I h) λf s1 q => ?_)
 cases f with
 | next =>
  obtain ⟨Z', H', I', q⟩ := q
  exact h2 pins s1 Z' H' D I' q
 | ret v => exact q
 | brk => exact q
 | cont => exact q
theorem A9 (h1 : PS X st t) : PSs X [st] t := by
 intro pins s Z H D I h
 refine wpAny_execs_cons (thn (h1 pins s Z H D I h) λf s1 q => ?_)
 cases f with
 | next => exact wpAny_execs_nil q
 | ret v => exact q
 | brk => exact q
 | cont => exact q
def tCont : TS := λD Z H => D.ct Z H
theorem S7 : PS X (.Continue pos) tCont := λ_ _ Z H _ I h => wpAny_Continue ⟨Z, H, I, h⟩
theorem Inv.quiet {pins : List (Addr × Obj)} {Z : St} {H : Hp} {s : Shared} (I : Inv X pins Z H s) : interactive X.env = false := by simp [interactive, I.ok.kind]
def j0 (te : TE) : TS := λD Z H => te Z H λ_ H1 => D.nx Z H1
theorem Ba (he : PE X e te) (hs : swapsWith e none pos.line X.env = pure false := by rfl) : PS X (.Expr e pos) (j0 te) := by
 intro pins s Z H D I h
 exact wpAny_Expr_any (thn (he pins s Z H _ I h) λv s1 ⟨x, H1, I1, r1, q1⟩ => ⟨Z, H1, I1, q1⟩) I.quiet hs
def oj (te : TE) : TS := λD Z H => te Z H D.rt
theorem Ak (he : PE X e te) : PS X (.Return (some e) pos) (oj te) := by
 intro pins s Z H D I h
 exact wpAny_Return_some (thn (he pins s Z H _ I h) λv s1 ⟨x, H1, I1, r1, q1⟩ => ⟨x, Z, H1, I1, r1, q1⟩)
def oq (c : TT) (t u : TS) : TS := λD Z H => c Z H λb H1 => if b = true then t D Z H1 else u D Z H1
theorem Bd {c : Expr} {a b : List Stmt} {tc : TT} (hc : PT X c tc) (ha : PSs X a t) (hb : PSs X b u) : PS X (.If c a b pos) (oq tc t u) := by
 intro pins s Z H D I h
 refine wpAny_If (thn (hc pins s Z H _ I h) λd s1 ⟨H1, I1, q1⟩ => ?_)
 cases d with
 | true => exact ha pins s1 Z H1 D I1 q1
 | false => exact hb pins s1 Z H1 D I1 q1
def tNever : TS := λ_ _ _ => False
theorem Yp : PS X st tNever := λ_ _ _ _ _ _ h => h.elim
theorem Ov {sts : List Stmt} : PSs X sts tNever := λ_ _ _ _ _ _ h => h.elim
end
abbrev TG := V -> St -> Hp -> (St -> Hp -> Prop) -> Prop
abbrev TGs := List V -> St -> Hp -> (St -> Hp -> Prop) -> Prop
def PG (X : Cx) (target : Expr) (t : TG) : Prop :=
 ∀ (pins : List (Addr × Obj)) (s : Shared) (Z : St) (H : Hp) (v : V) (u : Value) (Q : St -> Hp -> Prop), Inv X pins Z H s -> RelV v u -> t v Z H Q ->
  wpAny (model X.prog X.w) X.A (assign target X.env u) (λ_ s' => ∃ Z' H', Inv X pins Z' H' s' /\ Q Z' H') X.xe s
def PGs (X : Cx) (ts : List Expr) (t : TGs) : Prop :=
 ∀ (pins : List (Addr × Obj)) (s : Shared) (Z : St) (H : Hp) (vs : List V) (us : List Value) (Q : St -> Hp -> Prop), Inv X pins Z H s -> Vals vs us -> t vs Z H Q ->
  wpAny (model X.prog X.w) X.A (assignInOrder ((assignEach ts X.env).map (·.2)) us) (λ_ s' => ∃ Z' H', Inv X pins Z' H' s' /\ Q Z' H') X.xe s
abbrev TSet := V -> V -> V -> Hp -> (Hp -> Prop) -> Prop
def Xz (X : Cx) (t : TSet) : Prop :=
 ∀ (pins : List (Addr × Obj)) (s : Shared) (Z : St) (H : Hp) (o i v : V) (ov iv u : Value) (Q : Hp -> Prop), Inv X pins Z H s -> RelV o ov -> RelV i iv -> RelV v u -> t o i v H Q ->
  wpAny (model X.prog X.w) X.A (setItem ov iv u) (λ_ s' => ∃ H', Inv X pins Z H' s' /\ Q H') X.xe s
abbrev TIp := V -> V -> Hp -> VK -> Prop
def PIp (X : Cx) (op : Operator) (t : TIp) : Prop :=
 ∀ (pins : List (Addr × Obj)) (s : Shared) (Z : St) (H : Hp) (x y : V) (v u : Value) (Q : VK), Inv X pins Z H s -> RelV x v -> RelV y u -> t x y H Q ->
  wpAny (model X.prog X.w) X.A (inplaceOp op v u) (EP X pins Z Q) X.xe s
section
variable {X : Cx} {pos : Pos}
def Dk (i : Nat) : TG := λv Z H Q => Q (Z.set i (some v)) H
theorem Ac {i : Nat} {x : Str} (hN : X.N.Nodup) (hi : X.N[i]? = some x) (hx : Loc X.env.scope x) (hf : X.fn x = true \/ X.env.scope.names.lookup x = some .local := by first | exact .inl rfl | exact .inr rfl | assumption) : PG X (.Name x pos) (Dk i) := by
 intro pins s Z H v u Q I r h
 exact wpAny_assign_Name (M0 I hN hi hx r (λs' I' => ⟨_, H, I', h⟩) hf)
def gNil : TGs := λvs Z H Q => vs = [] /\ Q Z H
def Fz (t : TG) (u : TGs) : TGs := λvs Z H Q => ∃ v r, vs = v :: r /\ t v Z H λZ' H' => u r Z' H' Q
theorem Bn : PGs X [] gNil := by
 intro pins s Z H vs us Q I r h
 obtain ⟨e, h⟩ := h
 subst e
 cases r
 exact assignInOrder_nil ⟨Z, H, I, h⟩
theorem Ai {e : Expr} {es : List Expr} {t : TG} {u : TGs} (h1 : PG X e t) (h2 : PGs X es u)
  (hs : (assignEach (e :: es) X.env).map (·.2) = assign e X.env :: (assignEach es X.env).map (·.2) := by rfl) : PGs X (e :: es) (Fz t u) := by
 intro pins s Z H vs us Q I r h
 obtain ⟨v, vr, e1, h⟩ := h
 subst e1
 cases r with
 | cons r rr =>
  rw [hs]
  refine assignInOrder_cons (thn (h1 pins s Z H _ _ _ I r h) λ_ s1 ⟨σ1, H1, I1, q1⟩ => ?_)
  exact h2 pins s1 σ1 H1 _ _ Q I1 rr q1
def Xq (K : Zzv) (n : Nat) (t : TGs) : TG := λv Z H Q => ∃ a xs, v = .ref a /\ SqT K H a xs /\ xs.length = n /\ t xs Z H Q
theorem Cd {es : List Expr} {k : Nat} {t : TGs} {n : Nat} (hc : X.calm = true) (h : PGs X es t)
  (hn : (assignEach es X.env).length = n := by rfl) (hst : (assignEach es X.env).findIdx? (·.1) = none := by rfl) : PG X (.Tuple es k pos) (Xq X.K n t) := by
 intro pins s Z H v u Q I r hw
 obtain ⟨a, xs, e1, hq, hl, hw⟩ := hw
 subst e1
 cases r
 obtain ⟨its, rv, ht, hz⟩ := I.tuple hq
 refine assign_Tuple_tuple (I.ok.hd hc) ht (by simp [hn, <- hl, rv.length]) hst λh' hx => ?_
 have I1 : Inv X pins Z H { s with heap := h' } := I.kept (t' := s.toks) λb o e => hx b o (Zyy (Zzl e)) e
 exact h pins _ Z H xs _ Q I1 (by simpa using rv) hw
def qm (to ti : TE) (t : TSet) : TG := λv Z H Q => to Z H λo H1 => ti Z H1 λi H2 => t o i v H2 λH3 => Q Z H3
theorem Dr {o i : Expr} {to ti : TE} {t : TSet} (ho : PE X o to) (hi : PE X i ti) (hs : Xz X t)
  (ha : ∀ v, assign (.Subscript o i pos) X.env v = (do
   let ov <- holding [v] (eval o X.env)
   let iv <- holding [v, ov] (eval i X.env)
   standAt pos
   holding [v, ov, iv] (setItem ov iv v)
   release [v, ov, iv] []) := by intro _; rfl) : PG X (.Subscript o i pos) (qm to ti t) := by
 intro pins s Z H v u Q I r h
 rw [ha]
 refine wpAny_bind (wpAny_holding (thn (ho pins s Z H _ I h) λov s1 ⟨x, H1, I1, r1, q1⟩ => ?_))
 refine wpAny_bind (wpAny_holding (thn (hi pins s1 Z H1 _ I1 q1) λiv s2 ⟨y, H2, I2, r2, q2⟩ => ?_))
 refine wpAny_bind (wpAny_standAt (wpAny_bind (wpAny_holding (thn (hs pins s2 Z H2 x y v ov iv u _ I2 r1 r2 r q2) λ_ s3 ⟨H3, I3, q3⟩ => ?_))))
 exact wpAny_release ⟨Z, H3, I3, q3⟩
def ck (te : TE) (g : TG) : TS := λD Z H => te Z H λx H1 => g x Z H1 D.nx
theorem D7 {tg e : Expr} {te : TE} {g : TG} (he : PE X e te) (hg : PG X tg g) (hs : swapsWithSole [tg] e pos.line X.env = pure false := by rfl) (hw : swappedStores [tg] e X.env = pure none := by rfl)
  (h1 : (assignEach [tg] X.env).map (·.2) = [assign tg X.env] := by rfl) : PS X (.Assign [tg] e pos) (ck te g) := by
 intro pins s Z H D I h
 refine wpAny_Assign_stores (thn (he pins s Z H _ I h) λv s1 ⟨x, H1, I1, r1, q1⟩ => ?_) hs hw
 rw [h1]
 exact thn (hg pins s1 Z H1 x v _ I1 r1 q1) λ_ s2 q => q
theorem Ae {i : Nat} {x : Str} {e : Expr} {te : TE} {pos' : Pos} (hN : X.N.Nodup) (hi : X.N[i]? = some x) (hx : Loc X.env.scope x) (he : PE X e te) (hs : swapsWith e (some (.Name x pos')) pos.line X.env = pure false := by rfl) (hf : X.fn x = true \/ X.env.scope.names.lookup x = some .local := by first | exact .inl rfl | exact .inr rfl | assumption) :
  PS X (.Assign [.Name x pos'] e pos) (ck te (Dk i)) := by
 intro pins s Z H D I h
 refine wpAny_Assign_Name (thn (he pins s Z H _ I h) λv s1 ⟨y, H1, I1, r1, q1⟩ => ?_) hs
 exact M0 I1 hN hi hx r1 (λs2 I2 => ⟨_, H1, I2, q1⟩) hf
def ow (i : Nat) (te : TE) (ti : TIp) : TS := λD Z H => ∃ x, Z[i]? = some (some x) /\ te Z H λy H1 => ti x y H1 λz H2 => D.nx (Z.set i (some z)) H2
theorem Mb {i : Nat} {x : Str} {e : Expr} {te : TE} {op : Operator} {ti : TIp} {pos' : Pos} (hN : X.N.Nodup) (hi : X.N[i]? = some x) (hx : Loc X.env.scope x) (he : PE X e te) (ho : PIp X op ti) (hf : X.fn x = true \/ X.env.scope.names.lookup x = some .local := by first | exact .inl rfl | exact .inr rfl | assumption) :
  PS X (.AugAssign (.Name x pos') op e pos) (ow i te ti) := by
 intro pins s Z H D I h
 obtain ⟨v, e1, h⟩ := h
 obtain ⟨m, hn, hl⟩ := I.loc
 have vis : Vis X.env.scope x := by rcases hx with k | k; exact .inl k; exact .inr (.inl k)
 obtain ⟨u, r, l⟩ := hl i x v hi e1 vis
 refine wpAny_AugAssign_Name ?_
 have go : wpAny (model X.prog X.w) X.A (eval e X.env) (λw s₂ => wpAny (model X.prog X.w) X.A (inplaceOp op u w) (λr s₃ => wpAny (model X.prog X.w) X.A (storeName X.env x r) (λ_ => SP X pins D .next) X.xe s₃) X.xe s₂) X.xe s := by
  refine thn (he pins s Z H _ I h) λw s1 ⟨y, H1, I1, r1, q1⟩ => ?_
  refine thn (ho pins s1 Z H1 v y u w _ I1 r r1 q1) λz s2 ⟨zv, H2, I2, r2, q2⟩ => ?_
  exact M0 I2 hN hi hx r2 (λs3 I3 => ⟨_, H2, I3, q2⟩) hf
 rcases l with ⟨hk, hm⟩ | ⟨hk, c, hc, hcell⟩
 ·exact wpAny_loadName_local I.ok.kind hk hn hm go
 ·rcases hk with hk | hk
  ·exact wpAny_loadName_cell I.ok.kind hk hc hcell go
  ·rcases hx with k | k
   ·have : X.env.scope.names.lookup x = some .free := hk
    rw [k] at this; cases this
   ·have : X.env.scope.names.lookup x = some .free := hk
    rw [k] at this; cases this
def j3 (to ti te : TE) (tget : V -> V -> Hp -> VK -> Prop) (tip : TIp) (tset : TSet) : TS := λD Z H => to Z H λo H1 => ti Z H1 λi H2 => tget o i H2 λx H3 => te Z H3 λy H4 => tip x y H4 λz H5 => tset o i z H5 λH6 => D.nx Z H6
def rh (X : Cx) (t : V -> V -> Hp -> VK -> Prop) : Prop :=
 ∀ (pins : List (Addr × Obj)) (s : Shared) (Z : St) (H : Hp) (o i : V) (ov iv : Value) (Q : VK), Inv X pins Z H s -> RelV o ov -> RelV i iv -> t o i H Q ->
  wpAny (model X.prog X.w) X.A (getItem ov iv) (EP X pins Z Q) X.xe s
theorem Jc {o i e : Expr} {to ti te : TE} {tget : V -> V -> Hp -> VK -> Prop} {tip : TIp} {tset : TSet} {op : Operator} {tpos : Pos} (ho : PE X o to) (hi : PE X i ti) (hg : rh X tget) (he : PE X e te) (hp : PIp X op tip) (hs : Xz X tset)
  (ha : ∀ ov iv new, augStore i ov iv new = (do holding [new, ov, iv] (setItem ov iv new); release [new, ov, iv] []; pure .next) := by intros; rfl) : PS X (.AugAssign (.Subscript o i tpos) op e pos) (j3 to ti te tget tip tset) := by
 intro pins s Z H D I h
 refine wpAny_AugAssign_SubscriptAny (thn (ho pins s Z H _ I h) λov s1 ⟨x1, H1, I1, r1, q1⟩ => ?_) ha
 refine thn (hi pins s1 Z H1 _ I1 q1) λiv s2 ⟨x2, H2, I2, r2, q2⟩ => ?_
 refine thn (hg pins s2 Z H2 x1 x2 ov iv _ I2 r1 r2 q2) λold s3 ⟨x3, H3, I3, r3, q3⟩ => ?_
 refine thn (he pins s3 Z H3 _ I3 q3) λv s4 ⟨x4, H4, I4, r4, q4⟩ => ?_
 refine thn (hp pins s4 Z H4 x3 x4 old v _ I4 r3 r4 q4) λnew s5 ⟨x5, H5, I5, r5, q5⟩ => ?_
 exact thn (hs pins s5 Z H5 x1 x2 x5 ov iv new _ I5 r1 r2 r5 q5) λ_ s6 ⟨H6, I6, q6⟩ => ⟨Z, H6, I6, q6⟩
end
section
variable {X : Cx} {pos : Pos}
def jq (c : TT) (tb : TS) : TS := λD Z H => ∃ W : Nat -> St -> Hp -> Prop, (∃ m, W m Z H) /\ ∀ m Z H, W m Z H ->
 c Z H λb H1 => if b = true then ∃ N : St -> Hp -> Prop, (∀ Z' H', N Z' H' -> ∃ m', m' < m /\ W m' Z' H') /\ tb { D with nx := N, ct := N, bk := D.nx } Z H1 else D.nx Z H1
theorem Ma {c : Expr} {body : List Stmt} {tc : TT} {tb : TS} (hp : PassesOwn (model X.prog X.w) X.A X.env X.xe) (hc : PT X c tc) (hb : PSs X body tb) : PS X (.While c body [] pos) (jq tc tb) := by
 intro pins s Z H D I h
 obtain ⟨W, ⟨m0, w0⟩, turn⟩ := h
 refine wpAny_While (codeAny_whileLoop (λn s' => ∃ Z' H', Inv X pins Z' H' s' /\ W n Z' H') ?_ m0 ⟨Z, H, I, w0⟩)
 rintro n s1 ⟨σ1, H1, I1, w1⟩
 refine wpAny_passesOwn hp (thn (hc pins s1 σ1 H1 _ I1 (turn n σ1 H1 w1)) λb s2 ⟨H2, I2, q2⟩ => ?_)
 cases b with
 | true =>
  obtain ⟨N, hN, q2⟩ := q2
  rw [if_pos rfl]
  refine wpAny_passesOwn hp (thn (hb pins s2 σ1 H2 _ I2 q2) λf s3 q3 => ?_)
  cases f with
  | next =>
   obtain ⟨σ3, H3, I3, n3⟩ := q3
   obtain ⟨m', hm, w3⟩ := hN σ3 H3 n3
   exact ⟨m', hm, σ3, H3, I3, w3⟩
  | cont =>
   obtain ⟨σ3, H3, I3, n3⟩ := q3
   obtain ⟨m', hm, w3⟩ := hN σ3 H3 n3
   exact ⟨m', hm, σ3, H3, I3, w3⟩
  | brk => exact q3
  | ret v => exact q3
 | false =>
  rw [if_neg Zz7]
  exact wpAny_execs_nil ⟨σ1, H2, I2, q2⟩
end
structure It where
 go : Nat -> Hp -> Prop
 yld : Nat -> Hp -> V -> Hp -> Prop
 stop : Nat -> Hp -> Prop
def Hg (X : Cx) (pins : List (Addr × Obj)) (H : Hp) (b : Addr) : Prop :=
 H b = none /\ b ≠ X.env.locals /\ b ∉ X.fs /\ (b ∈ X.ex \/ X.s₀.heap.objs.size <= b) /\ (∀ x c, X.env.cells.lookup x = some c -> c ≠ b) /\ ∀ p ∈ X.pn ++ pins, p.1 ≠ b
theorem Inv.fpOk {X : Cx} {pins : List (Addr × Obj)} {Z : St} {H H' : Hp} {s : Shared} {b : Addr} (I : Inv X pins Z H s) (hb : s.heap.objs.size <= b) (hn : H' b = none) : Hg X pins H' b := by
 refine ⟨hn, Zxg (Zzb I.lt hb), I.nofs hb, .inr (Zyx I.sz hb), λx c e z => ?_, λp hp z => ?_⟩
 ·obtain ⟨v, q⟩ := I.cell x c e
  exact absurd (Zzb q.lt (by rw [z]; exact hb)) (Zwo _)
 ·exact absurd (Zzb (Zzl (I.pin p hp).1) (by rw [z]; exact hb)) (Zwo _)
structure Ks (P : Program) (w : World) (K : Zzv) (tg : Expr) (J : It) (fp : List Addr) (it : Addr) (tn : Nat -> Heap -> Prop) : Prop where
 mem : it ∈ fp
 obj : ∀ i h, tn i h -> ∀ b ∈ fp, ∃ o, h.get? b = some o /\ ∀ v, o.data ≠ .cell v
 keep : ∀ i h h', tn i h -> (∀ b ∈ fp, ∀ o, h.get? b = some o -> h'.get? b = some o) -> tn i h'
 item : ∀ (X : Cx), X.prog = P -> X.w = w -> X.K = K -> X.calm = true -> ∀ (i : Nat) (pins : List (Addr × Obj)) (s : Shared) (Z : St) (H : Hp) (E : Value -> Shared -> Prop), Inv X pins Z H s -> (∀ b ∈ fp, Hg X pins H b) -> tn i s.heap -> J.go i H ->
  wpAny (model P w) X.A (pyNext (.ref it)) (λr s1 => ∃ u, r = some u /\
   wpAny (model P w) X.A (letOwnedTupleGo tg (.ref it) u) (λ_ s2 => ∃ x H', Inv X pins Z H' s2 /\ RelV x u /\ J.yld i H x H' /\ tn (i + 1) s2.heap /\ ∀ b ∈ fp, H' b = none) E s1) E s
 done : ∀ (X : Cx), X.prog = P -> X.w = w -> X.K = K -> X.calm = true -> ∀ (i : Nat) (pins : List (Addr × Obj)) (s : Shared) (Z : St) (H : Hp) (E : Value -> Shared -> Prop), Inv X pins Z H s -> (∀ b ∈ fp, Hg X pins H b) -> tn i s.heap -> J.stop i H ->
  wpAny (model P w) X.A (pyNext (.ref it)) (λr s1 => r = none /\ Inv X pins Z H s1) E s
 self : ∀ (A : Around) (i : Nat) (s : Shared) (Q : Value -> Shared -> Prop) (E : Value -> Shared -> Prop), tn i s.heap -> Q (.ref it) s -> wpAny (model P w) A (pyIter (.ref it)) Q E s
abbrev TI := St -> Hp -> (It -> Hp -> Prop) -> Prop
def PIE (X : Cx) (pins : List (Addr × Obj)) (Z : St) (tg : Expr) (R : It -> Hp -> Prop) (itv : Value) (s2 : Shared) : Prop :=
 ∃ (it : Addr) (fp : List Addr) (tn : Nat -> Heap -> Prop) (J : It) (H' : Hp), itv = .ref it /\ Inv X pins Z H' s2 /\ Ks X.prog X.w X.K tg J fp it tn /\ tn 0 s2.heap /\ (∀ b ∈ fp, Hg X pins H' b) /\ R J H'
def PI (X : Cx) (tg iter : Expr) (wi : TI) : Prop :=
 ∀ (pins : List (Addr × Obj)) (s : Shared) (Z : St) (H : Hp) (R : It -> Hp -> Prop), Inv X pins Z H s -> wi Z H R ->
  wpAny (model X.prog X.w) X.A (eval iter X.env) (λv s1 => wpAny (model X.prog X.w) X.A (pyIter v) (PIE X pins Z tg R) X.xe s1) X.xe s
theorem T6 {M : Model} {A : Around} {E : Value -> Shared -> Prop} {s : Shared} {tg : Expr} {it : Addr} {u : Value} {o : Obj} {n : String} {vs : Array Value} {Q : Unit -> Shared -> Prop} (ho : s.heap.get? it = some o) (hc : o.cls = .type n) (hd : o.data = .fields vs)
  (hn : ["enumerate", "zip", "dict_itemiterator", "dict_reverseitemiterator", "odict_iterator", "itertools.zip_longest", "itertools.pairwise"].contains n = false) (hQ : Q () s) : wpAny M A (letOwnedTupleGo tg (.ref it) u) Q E s := by
 unfold letOwnedTupleGo
 cases tg <;> first
  | exact wpAny_pure hQ
  | (cases u <;> first
    | exact wpAny_pure hQ
    | (refine wpAny_bind (wpAny_load ho ?_)
       rw [hc, hd]
       show wpAny M A (if (["enumerate", "zip", "dict_itemiterator", "dict_reverseitemiterator", "odict_iterator", "itertools.zip_longest", "itertools.pairwise"].contains n && vs[0]? == some (rawInt _)) = true then _ else _) Q E s
       rw [if_neg (by intro h; rw [hn, Bool.false_and] at h; cases h)]
       exact wpAny_pure hQ))
def Itl (K : Zzv) (a : Addr) : It :=
 ⟨λi H => ∃ xs x, SqL K H a xs /\ xs[i]? = some x, λi H x H' => H' = H /\ ∀ xs, SqL K H a xs -> xs[i]? = some x, λi H => ∃ xs, SqL K H a xs /\ xs.length <= i⟩
def Itt (K : Zzv) (a : Addr) : It :=
 ⟨λi H => ∃ xs x, SqT K H a xs /\ xs[i]? = some x, λi H x H' => H' = H /\ ∀ xs, SqT K H a xs -> xs[i]? = some x, λi H => ∃ xs, SqT K H a xs /\ xs.length <= i⟩
def Itr (lo : Int) (n : Nat) : It := ⟨λi _ => i < n, λi H x H' => H' = H /\ x = .int (lo + i), λi _ => n <= i⟩
theorem Dp {P : Program} {w : World} {K : Zzv} {tg : Expr} (a it : Addr) : Ks P w K tg (Itl K a) [it] it (λi h => h.IsListIter it a i) where
 mem := by simp
 obj := λi h st b hb => by
  have e : b = it := by simpa using hb
  subst e
  obtain ⟨o, e, c, d⟩ := st
  exact ⟨o, e, λv z => by rw [d] at z; cases z⟩
 keep := λi h h' st k => st.at λo e => k it (by simp) o e
 item := by
  intro X hP hw hK hc i pins s Z H E I hf st hg
  subst hP hw hK
  obtain ⟨xs, x, hq, hx⟩ := hg
  obtain ⟨its, rv, p, hz⟩ := I.list hq
  obtain ⟨u, hu, ru⟩ := rv.get hx
  obtain ⟨f0, f1, f2, f3, f4, f5⟩ := hf it (by simp)
  refine wpAny_pyNext_list_item st p.isList (x := u) (by simpa using hu) λh' st' sb => ?_
  have I1 : Inv X pins Z H { s with heap := h' } := I.turned (t' := s.toks) (λb o hb e => (sb.2 b hb).trans e) f0 f1 f3 f4 f5
  obtain ⟨o, e, c, d⟩ := id st'
  exact ⟨u, rfl, T6 (s := { s with heap := h' }) e c d (by decide) ⟨x, H, I1, ru, ⟨rfl, λys hy => by rw [I.list_inj hy hq]; exact hx⟩, st', λb hb => (hf b hb).1⟩⟩
 done := by
  intro X hP hw hK hc i pins s Z H E I hf st hg
  subst hP hw hK
  obtain ⟨xs, hq, hx⟩ := hg
  obtain ⟨its, rv, p, hz⟩ := I.list hq
  obtain ⟨f0, f1, f2, f3, f4, f5⟩ := hf it (by simp)
  have hl := rv.length
  exact wpAny_pyNext_list_end (I.ok.hd hc) st p.isList (by simp; omega) λh' eb => ⟨rfl, I.turned (t' := s.toks) (λb o hb e => eb b o hb e) f0 f1 f3 f4 f5⟩
 self := λ_ _ _ _ _ st h => wpAny_pyIter_listiter st h
theorem Do {P : Program} {w : World} {K : Zzv} {tg : Expr} (a it : Addr) : Ks P w K tg (Itt K a) [it] it (λi h => h.IsTupleIter it a i) where
 mem := by simp
 obj := λi h st b hb => by
  have e : b = it := by simpa using hb
  subst e
  obtain ⟨o, e, c, d⟩ := st
  exact ⟨o, e, λv z => by rw [d] at z; cases z⟩
 keep := λi h h' st k => st.at λo e => k it (by simp) o e
 item := by
  intro X hP hw hK hc i pins s Z H E I hf st hg
  subst hP hw hK
  obtain ⟨xs, x, hq, hx⟩ := hg
  obtain ⟨its, rv, p, hz⟩ := I.tuple hq
  obtain ⟨u, hu, ru⟩ := rv.get hx
  obtain ⟨f0, f1, f2, f3, f4, f5⟩ := hf it (by simp)
  refine wpAny_pyNext_tuple_item st (show s.heap.IsTuple a its.toArray from p) (x := u) (by simpa using hu) λh' st' sb => ?_
  have I1 : Inv X pins Z H { s with heap := h' } := I.turned (t' := s.toks) (λb o hb e => (sb.2 b hb).trans e) f0 f1 f3 f4 f5
  obtain ⟨o, e, c, d⟩ := id st'
  exact ⟨u, rfl, T6 (s := { s with heap := h' }) e c d (by decide) ⟨x, H, I1, ru, ⟨rfl, λys hy => by rw [I.tuple_inj hy hq]; exact hx⟩, st', λb hb => (hf b hb).1⟩⟩
 done := by
  intro X hP hw hK hc i pins s Z H E I hf st hg
  subst hP hw hK
  obtain ⟨xs, hq, hx⟩ := hg
  obtain ⟨its, rv, p, hz⟩ := I.tuple hq
  obtain ⟨f0, f1, f2, f3, f4, f5⟩ := hf it (by simp)
  have hl := rv.length
  exact wpAny_pyNext_tuple_end (I.ok.hd hc) st (show s.heap.IsTuple a its.toArray from p) (by simp; omega) λh' eb => ⟨rfl, I.turned (t' := s.toks) (λb o hb e => eb b o hb e) f0 f1 f3 f4 f5⟩
 self := λ_ _ _ _ _ st h => wpAny_pyIter_tupleiter st h
theorem Tr {P : Program} {w : World} {K : Zzv} {tg : Expr} (it : Addr) (lo : Int) (n : Nat) : Ks P w K tg (Itr lo n) [it] it (λi h => IsRangeIter h it (lo + (i : Nat) * 1) ((n : Int) - (i : Nat)) 1) where
 mem := by simp
 obj := λi h st b hb => by
  have e : b = it := by simpa using hb
  subst e
  exact ⟨_, st, λv z => by
   have z' : Data.fields _ = Data.cell v := z
   cases z'⟩
 keep := λi h h' st k => k it (by simp) _ st
 item := by
  intro X hP hw hK hc i pins s Z H E I hf st hg
  subst hP hw hK
  obtain ⟨f0, f1, f2, f3, f4, f5⟩ := hf it (by simp)
  have W := Walks.range (prog := X.prog) (w := X.w) (I.ok.hd hc) it lo 1 n
  refine W.item i s _ _ hg st λv h' tk hv st' kk => ?_
  obtain ⟨t, rfl⟩ := hv
  have I1 : Inv X pins Z H { s with heap := h', toks := tk } := I.turned (λb o hb e => kk b o (by simpa using hb) e) f0 f1 f3 f4 f5
  refine ⟨_, rfl, T6 (s := { s with heap := h', toks := tk }) (n := "range_iterator") st' rfl rfl (by decide) ⟨.int (lo + i), H, I1, ⟨t, ?_⟩, ⟨rfl, rfl⟩, st', λb hb => (hf b hb).1⟩⟩
  rw [Int.mul_one]
 done := by
  intro X hP hw hK hc i pins s Z H E I hf st hg
  subst hP hw hK
  obtain ⟨f0, f1, f2, f3, f4, f5⟩ := hf it (by simp)
  exact wpAny_pyNext_range_end (I.ok.hd hc) st (by have : n <= i := hg; omega) λh' eb => ⟨rfl, I.turned (t' := s.toks) (λb o hb e => eb b o hb e) f0 f1 f3 f4 f5⟩
 self := λ_ _ _ _ _ st h => wpAny_pyIter_rangeiter st h
section
variable {X : Cx} {tg : Expr}
def jd (K : Zzv) (tl : TE) : TI := λZ H R => tl Z H λx H1 => ∃ a, x = .ref a /\ (∃ xs, SqL K H1 a xs) /\ R (Itl K a) H1
theorem de {l : Expr} {tl : TE} (hl : PE X l tl) : PI X tg l (jd X.K tl) := by
 intro pins s Z H R I h
 refine thn (hl pins s Z H _ I h) λv s1 ⟨x, H1, I1, r1, q1⟩ => ?_
 obtain ⟨a, e, ⟨xs, hq⟩, q⟩ := q1
 subst e
 cases r1
 obtain ⟨its, rv, p, hz⟩ := I1.list hq
 refine wpAny_pyIter_list p.isList ?_
 refine ⟨s1.heap.objs.size, [s1.heap.objs.size], _, _, H1, rfl, I1.kept (t' := s1.toks) λb o e => Zzy _ e, Dp a _, ⟨_, Zzi _ rfl, rfl, rfl⟩, λb hb => ?_, q⟩
 have e : b = s1.heap.objs.size := by simpa using hb
 subst e
 exact I1.fpOk (Zzt _) (I1.hok.fresh (Zzt _))
theorem Yo {pins : List (Addr × Obj)} {Z : St} {H : Hp} {s : Shared} {R : It -> Hp -> Prop} {E : Value -> Shared -> Prop} {lo hi : Int} {t u v : Tok} {tk : Nat} (I : Inv X pins Z H s) (h1 : -(2 ^ 62) <= lo) (h2 : lo < 2 ^ 62) (h3 : -(2 ^ 62) <= hi) (h4 : hi < 2 ^ 62)
  (q : R (Itr lo (hi - lo).toNat) H) : wpAny (model X.prog X.w) X.A (pyIter (.ref s.heap.objs.size)) (PIE X pins Z tg R) E { s with heap := s.heap.push { cls := .type "range", data := .fields #[.int lo t, .int hi u, .int 1 v] }, toks := tk } := by
 refine wpAny_pyIter_range (IsRange.new ..) (small_one h1 h2 h3 h4) ?_
 have I1 : Inv X pins Z H { s with heap := s.heap.push { cls := .type "range", data := .fields #[.int lo t, .int hi u, .int 1 v] }, toks := tk } := I.kept λb o e => Zzy _ e
 refine ⟨(s.heap.push { cls := .type "range", data := .fields #[.int lo t, .int hi u, .int 1 v] }).objs.size, [(s.heap.push { cls := .type "range", data := .fields #[.int lo t, .int hi u, .int 1 v] }).objs.size], _, _, H, rfl,
  I1.kept (t' := tk) λb o e => Zzy _ e, Tr _ lo (hi - lo).toNat, ?_, λb hb => ?_, q⟩
 ·have e1 : lo + ((0 : Nat) : Int) * 1 = lo := by simp
  have e2 : (((hi - lo).toNat : Nat) : Int) - ((0 : Nat) : Int) = Builtin.Range.rangeSize lo hi 1 := by rw [rangeSize_one]; split <;> omega
  show IsRangeIter _ _ (lo + ((0 : Nat) : Int) * 1) ((((hi - lo).toNat : Nat) : Int) - ((0 : Nat) : Int)) 1
  rw [e1, e2]
  exact Zzi _ rfl
 ·have e : b = (s.heap.push { cls := .type "range", data := .fields #[.int lo t, .int hi u, .int 1 v] }).objs.size := by simpa using hb
  subst e
  exact I1.fpOk (Zzt _) (I1.hok.fresh (Zzt _))
def Zq (ta : TA) : TI := λZ H R => ta Z H λvs H1 => ∃ j : Int, vs = [.int j] /\ -(2 ^ 62) <= j /\ j < 2 ^ 62 /\ R (Itr 0 j.toNat) H1
theorem Wm {a : Expr} {ta : TA} {p pos : Pos} (hg : Gl X "range") (hm : X.mg "range" = none) (ha : PA X [a] ta) (hs : starEach [a] X.env = [(false, eval a X.env)] := by rfl) : PI X tg (.Call (.Name "range" p) [a] [] pos) (Zq ta) := by
 intro pins s Z H R I h
 refine Call_ (E9 I hg hm boot_range (Zya (thn (ha pos pins s Z H _ I h) λus s1 ⟨vs, H1, I1, r1, q1⟩ => ?_) hs rfl))
 obtain ⟨j, e, q1, q2, q⟩ := q1
 subst e
 cases r1 with
 | cons r rr =>
  cases rr
  obtain ⟨t, rfl⟩ := r
  exact call_range_1 (Yo I1 (by omega) (by omega) q1 q2 (by simpa using q))
def ot (wi : TI) (g : TG) (tb : TS) : TS := λD Z H => wi Z H λJ H1 => ∃ W : Nat -> Nat -> St -> Hp -> Prop, (∃ m, W 0 m Z H1) /\ ∀ i m Z H, W i m Z H ->
 (J.stop i H /\ D.nx Z H) \/ (J.go i H /\ ∃ N : St -> Hp -> Prop, (∀ Z' H', N Z' H' -> ∃ m', m' < m /\ W (i + 1) m' Z' H') /\ ∀ x H', J.yld i H x H' -> g x Z H' λσ2 H2 => tb { D with nx := N, ct := N, bk := D.nx } σ2 H2)
def Kb (fp : List Addr) (h : Heap) : List (Addr × Obj) := fp.filterMap λb => (h.get? b).map λo => (b, o)
theorem Ge {fp : List Addr} {h : Heap} {b : Addr} {o : Obj} (hb : b ∈ fp) (e : h.get? b = some o) : (b, o) ∈ Kb fp h := Zwv.mpr ⟨b, hb, by rw [e]; rfl⟩
theorem X1 {fp : List Addr} {h : Heap} {p : Addr × Obj} (hp : p ∈ Kb fp h) : p.1 ∈ fp /\ h.get? p.1 = some p.2 := by
 obtain ⟨b, hb, e⟩ := Zwv.mp hp
 cases q : h.get? b with
 | none => rw [q] at e; cases e
 | some o =>
  rw [q] at e
  have e' : (b, o) = p := Zzn e
  subst e'
  exact ⟨hb, q⟩
theorem Inv.pinned {pins : List (Addr × Obj)} {Z : St} {H : Hp} {s : Shared} {fp : List Addr} (I : Inv X pins Z H s) (hf : ∀ b ∈ fp, Hg X pins H b) (ho : ∀ b ∈ fp, ∃ o, s.heap.get? b = some o /\ ∀ v, o.data ≠ .cell v) : Inv X (pins ++ Kb fp s.heap) Z H s :=
 I.pins_of λp hp => (Zzc.mp hp).elim (λz => I.pin p (Zza _ z)) λz => by
  obtain ⟨hb, e⟩ := X1 z
  obtain ⟨f0, f1, f2, _⟩ := hf p.1 hb
  obtain ⟨o, e', d⟩ := ho p.1 hb
  rw [e] at e'; cases e'
  exact ⟨e, f0, f1, f2, d⟩
theorem Inv.unpinned {pins pl : List (Addr × Obj)} {Z : St} {H : Hp} {s : Shared} (I : Inv X (pins ++ pl) Z H s) : Inv X pins Z H s := I.pins_of λp hp => I.pin p (Zza _ (Zyw _ hp))
theorem Az {iter : Expr} {body : List Stmt} {wi : TI} {g : TG} {tb : TS} {pos : Pos} (hp : PassesOwn (model X.prog X.w) X.A X.env X.xe) (hc : X.calm = true) (hi : PI X tg iter wi) (hg : PG X tg g) (hb : PSs X body tb)
  (hs : ∀ x, foldedSetIterable iter X.env x = pure x := by intro _; rfl) : PS X (.For tg iter body [] pos) (ot wi g tb) := by
 intro pins s Z H D I h
 refine wpAny_For (thn (hi pins s Z H _ I h) λv s1 h1 => thn h1 λitv s2 h2 => ?_) hs
 obtain ⟨it, fp, tn, J, H2, e, I2, T, st2, f2, W, ⟨m0, w0⟩, turn⟩ := h2
 subst e
 have stat : ∀ {H' : Hp}, (∀ b ∈ fp, H' b = none) -> ∀ b ∈ fp, Hg X pins H' b := λhn b hb => ⟨hn b hb, (f2 b hb).2⟩
 refine codeAny_forLoop_any (λn s' => ∃ i Z' H', Inv X pins Z' H' s' /\ tn i s'.heap /\ (∀ b ∈ fp, H' b = none) /\ W i n Z' H') ?_ m0 ⟨0, Z, H2, I2, st2, λb hb => (f2 b hb).1, w0⟩
 rintro n s3 ⟨i, σ3, H3, I3, st3, fr3, w3⟩
 rcases turn i n σ3 H3 w3 with ⟨stop, qn⟩ | ⟨go, N, hN, step⟩
 ·refine wpAny_passesOwn hp (thn (T.done X rfl rfl rfl hc i pins s3 σ3 H3 X.xe I3 (stat fr3) st3 stop) λr s4 ⟨hr, I4⟩ => ?_)
  subst hr
  exact wpAny_execs_nil ⟨σ3, H3, I4, qn⟩
 ·refine wpAny_passesOwn hp (thn (T.item X rfl rfl rfl hc i pins s3 σ3 H3 X.xe I3 (stat fr3) st3 go) λr s4 ⟨u, hr, h4⟩ => ?_)
  subst hr
  refine wpAny_passesOwn hp (thn h4 λ_ s5 ⟨x, H5, I5, r5, y5, st5, fr5⟩ => ?_)
  have I5' := I5.pinned (stat fr5) (T.obj _ _ st5)
  refine wpAny_passesOwn hp (thn (hg _ s5 σ3 H5 x u _ I5' r5 (step x H5 y5)) λ_ s6 ⟨σ6, H6, I6, q6⟩ => ?_)
  refine wpAny_passesOwn hp (thn (hb _ s6 σ6 H6 _ I6 q6) λf s7 q7 => ?_)
  have again : ∀ {σ7 : St} {H7 : Hp}, Inv X (pins ++ Kb fp s5.heap) σ7 H7 s7 -> N σ7 H7 -> ∃ m, m < n /\ ∃ i Z' H', Inv X pins Z' H' s7 /\ tn i s7.heap /\ (∀ b ∈ fp, H' b = none) /\ W i m Z' H' := λ{σ7 H7} I7 n7 => by
   obtain ⟨m', hm, w7⟩ := hN σ7 H7 n7
   refine ⟨m', hm, i + 1, σ7, H7, I7.unpinned, T.keep _ _ _ st5 λb hb o e => (I7.pin (b, o) (Zza _ (Zza _ (Ge hb e)))).1, λb hb => ?_, w7⟩
   obtain ⟨o, e, d⟩ := T.obj _ _ st5 b hb
   exact (I7.pin (b, o) (Zza _ (Zza _ (Ge hb e)))).2.1
  cases f with
  | next => obtain ⟨σ7, H7, I7, n7⟩ := q7; exact again I7 n7
  | cont => obtain ⟨σ7, H7, I7, n7⟩ := q7; exact again I7 n7
  | brk => obtain ⟨σ7, H7, I7, q7⟩ := q7; exact ⟨σ7, H7, I7.unpinned, q7⟩
  | ret v => obtain ⟨x7, σ7, H7, I7, r7, q7⟩ := q7; exact ⟨x7, σ7, H7, I7.unpinned, r7, q7⟩
end
theorem Zx {K : Zzv} {a : Addr} {xs : List V} {g : TG} {tb : TS} {D : Ku} {Z : St} {H : Hp} (Pv : Nat -> St -> Hp -> Prop) (h0 : Pv 0 Z H) (hl : ∀ i Z H, i <= xs.length -> Pv i Z H -> SqL K H a xs)
  (hs : ∀ i x Z H, xs[i]? = some x -> Pv i Z H -> g x Z H λσ2 H2 => tb { D with nx := Pv (i + 1), ct := Pv (i + 1), bk := D.nx } σ2 H2) (hd : ∀ Z H, Pv xs.length Z H -> D.nx Z H) :
  ∃ W : Nat -> Nat -> St -> Hp -> Prop, (∃ m, W 0 m Z H) /\ ∀ i m Z H, W i m Z H ->
   ((Itl K a).stop i H /\ D.nx Z H) \/ ((Itl K a).go i H /\ ∃ N : St -> Hp -> Prop, (∀ Z' H', N Z' H' -> ∃ m', m' < m /\ W (i + 1) m' Z' H') /\ ∀ x H', (Itl K a).yld i H x H' -> g x Z H' λσ2 H2 => tb { D with nx := N, ct := N, bk := D.nx } σ2 H2) := by
 refine ⟨λi m Z H => m = xs.length - i /\ i <= xs.length /\ Pv i Z H, ⟨xs.length, by simp, Zz3 _, h0⟩, ?_⟩
 rintro i m Z H ⟨rfl, hi, p⟩
 have q := hl i Z H hi p
 by_cases hlt : i < xs.length
 ·refine .inr ⟨⟨xs, xs[i], q, by simp [hlt]⟩, Pv (i + 1), λZ' H' p' => ⟨xs.length - (i + 1), by omega, rfl, hlt, p'⟩, λx H' y => ?_⟩
  obtain ⟨e, y⟩ := y
  subst e
  exact hs i x Z _ (y xs q) p
 ·have e : i = xs.length := by omega
  subst e
  exact .inl ⟨⟨xs, q, Zzt _⟩, hd Z H p⟩
abbrev R2 := V -> V -> Hp -> VK -> Prop
def OpR (X : Cx) (f : Value -> Value -> Sem Value) (r : R2) : Prop :=
 ∀ (pins : List (Addr × Obj)) (s : Shared) (Z : St) (H : Hp) (x y : V) (v u : Value) (Q : VK), Inv X pins Z H s -> RelV x v -> RelV y u -> r x y H Q ->
  wpAny (model X.prog X.w) X.A (f v u) (EP X pins Z Q) X.xe s
def UnR (X : Cx) (f : Value -> Sem Value) (r : V -> Hp -> VK -> Prop) : Prop :=
 ∀ (pins : List (Addr × Obj)) (s : Shared) (Z : St) (H : Hp) (x : V) (v : Value) (Q : VK), Inv X pins Z H s -> RelV x v -> r x H Q ->
  wpAny (model X.prog X.w) X.A (f v) (EP X pins Z Q) X.xe s
def CallR (X : Cx) (f : Value) (r : List V -> Hp -> VK -> Prop) : Prop :=
 ∀ (pins : List (Addr × Obj)) (s : Shared) (Z : St) (H : Hp) (xs : List V) (us : List Value) (Q : VK), Inv X pins Z H s -> Vals xs us -> r xs H Q ->
  wpAny (model X.prog X.w) X.A (call f us) (EP X pins Z Q) X.xe s
def TruR (X : Cx) (r : V -> Hp -> (Bool -> Hp -> Prop) -> Prop) : Prop :=
 ∀ (pins : List (Addr × Obj)) (s : Shared) (Z : St) (H : Hp) (x : V) (v : Value) (Q : Bool -> Hp -> Prop), Inv X pins Z H s -> RelV x v -> r x H Q ->
  wpAny (model X.prog X.w) X.A (truthy v) (TP X pins Z Q) X.xe s
def tOp (r : R2) (ta tb : TE) : TE := λZ H Q => ta Z H λx H1 => tb Z H1 λy H2 => r x y H2 Q
def tUn (r : V -> Hp -> VK -> Prop) (ta : TE) : TE := λZ H Q => ta Z H λx H1 => r x H1 Q
def rI (C : Int -> Int -> Prop) (g : Int -> Int -> V) : R2 := λx y H Q => ∃ i j, x = .int i /\ y = .int j /\ C i j /\ Q (g i j) H
def rI0 (g : Int -> Int -> V) : R2 := λx y H Q => ∃ i j, x = .int i /\ y = .int j /\ Q (g i j) H
def rU (g : Int -> V) : V -> Hp -> VK -> Prop := λx H Q => ∃ i, x = .int i /\ Q (g i) H
section
variable {X : Cx} {a b c : Expr} {ta tb tc : TE} {pos : Pos}
theorem mr (ha : PE X a ta) (hb : PE X b tb) {pins : List (Addr × Obj)} {s : Shared} {Z : St} {H : Hp} {R : V -> V -> Hp -> Prop} (I : Inv X pins Z H s)
  (h : ta Z H λx H1 => tb Z H1 λy H2 => R x y H2) {Q : Value -> Shared -> Prop} {f : Value -> Value -> Sem Value}
  (hf : ∀ v u s2 x y H2, Inv X pins Z H2 s2 -> RelV x v -> RelV y u -> R x y H2 -> wpAny (model X.prog X.w) X.A (f v u) Q X.xe s2) :
  wpAny (model X.prog X.w) X.A (eval a X.env) (λv s₁ => wpAny (model X.prog X.w) X.A (eval b X.env) (λu s₂ => wpAny (model X.prog X.w) X.A (f v u) Q X.xe s₂) X.xe s₁) X.xe s := by
 refine thn (ha pins s Z H _ I h) λv s1 ⟨x, H1, I1, r1, q1⟩ => ?_
 refine thn (hb pins s1 Z H1 _ I1 q1) λu s2 ⟨y, H2, I2, r2, q2⟩ => ?_
 exact hf v u s2 x y H2 I2 r1 r2 q2
theorem Ar {op : Operator} {r : R2} (ho : OpR X (binaryOp op) r) (ha : PE X a ta) (hb : PE X b tb) : PE X (.BinOp a op b pos) (tOp r ta tb) := by
 intro pins s Z H Q I h
 exact wpAny_BinOp (mr ha hb I h λv u s2 x y H2 I2 rx ry q => ho pins s2 Z H2 x y v u Q I2 rx ry q)
theorem Sb {op : UnaryOp} {r : V -> Hp -> VK -> Prop} (ho : UnR X (unaryOp op) r) (ha : PE X a ta) : PE X (.UnaryOp op a pos) (tUn r ta) := by
 intro pins s Z H Q I h
 exact UnaryOp_ (thn (ha pins s Z H _ I h) λv s1 ⟨x, H1, I1, r1, q1⟩ => ho pins s1 Z H1 x v Q I1 r1 q1)
theorem opI {f : Value -> Value -> Sem Value} {C : Int -> Int -> Prop} {g : Int -> Int -> Int}
  (rule : ∀ (i j : Int) (t u : Tok) (s : Shared) (Q : Value -> Shared -> Prop) (E : Value -> Shared -> Prop), C i j -> Q (.int (g i j) s.toks) { s with toks := s.toks + 1 } -> wpAny (model X.prog X.w) X.A (f (.int i t) (.int j u)) Q E s) :
  OpR X f (rI C λi j => .int (g i j)) := by
 intro pins s Z H x y v u Q I rx ry h
 obtain ⟨i, j, rfl, rfl, hc, q⟩ := h
 obtain ⟨t, rfl⟩ := rx
 obtain ⟨t', rfl⟩ := ry
 exact rule i j t t' s _ _ hc ⟨.int (g i j), H, I.tok _, ⟨_, rfl⟩, q⟩
theorem ff {f : Value -> Value -> Sem Value} {g : Int -> Int -> Int}
  (rule : ∀ (i j : Int) (t u : Tok) (s : Shared) (Q : Value -> Shared -> Prop) (E : Value -> Shared -> Prop), Q (.int (g i j) s.toks) { s with toks := s.toks + 1 } -> wpAny (model X.prog X.w) X.A (f (.int i t) (.int j u)) Q E s) :
  OpR X f (rI0 λi j => .int (g i j)) := by
 intro pins s Z H x y v u Q I rx ry h
 obtain ⟨i, j, rfl, rfl, q⟩ := h
 obtain ⟨t, rfl⟩ := rx
 obtain ⟨t', rfl⟩ := ry
 exact rule i j t t' s _ _ ⟨.int (g i j), H, I.tok _, ⟨_, rfl⟩, q⟩
theorem pz {f : Value -> Value -> Sem Value} {g : Int -> Int -> Bool}
  (rule : ∀ (i j : Int) (t u : Tok) (s : Shared) (Q : Value -> Shared -> Prop) (E : Value -> Shared -> Prop), Q (.bool (g i j)) s -> wpAny (model X.prog X.w) X.A (f (.int i t) (.int j u)) Q E s) :
  OpR X f (rI0 λi j => .bl (g i j)) := by
 intro pins s Z H x y v u Q I rx ry h
 obtain ⟨i, j, rfl, rfl, q⟩ := h
 obtain ⟨t, rfl⟩ := rx
 obtain ⟨t', rfl⟩ := ry
 exact rule i j t t' s _ _ ⟨.bl (g i j), H, I, rfl, q⟩
def CPow (i j : Int) : Prop := 0 <= j /\ j <= 1000000 /\ i.natAbs < 2 ^ 64
def CMul (i j : Int) : Prop := (-(2 ^ 64) < i /\ i < 2 ^ 64) \/ (-(2 ^ 64) < j /\ j < 2 ^ 64)
theorem CMul.ok {i j : Int} (h : CMul i j) : IntMulOk i j := by
 rcases h with ⟨h1, h2⟩ | ⟨h1, h2⟩
 ·exact .of_left (intBits_le_64 h1 h2)
 ·exact .of_right (intBits_le_64 h1 h2)
theorem Bx : OpR X (binaryOp .Add) (rI0 λi j => .int (i + j)) := ff λ_ _ _ _ _ _ _ q => add_int q
theorem Mh : OpR X (binaryOp .Sub) (rI0 λi j => .int (i - j)) := ff λ_ _ _ _ _ _ _ q => sub_int q
theorem U7 : OpR X (binaryOp .Mult) (rI CMul λi j => .int (i * j)) := opI λ_ _ _ _ _ _ _ hc q => mul_int q hc.ok
theorem Kd : OpR X (binaryOp .Mod) (rI (λ_ j => 0 < j) λi j => .int (i % j)) := opI λi j _ _ _ _ _ hc q => by
 have h1 : (0 : Int) < j := hc
 exact mod_int' (by omega) (by rw [Int.fmod_eq_emod_of_nonneg i (by omega)]; exact q)
theorem Qb : OpR X (binaryOp .Pow) (rI CPow λi j => .int (i ^ j.toNat)) := opI λ_ _ _ _ _ _ _ hc q => pow_int_small hc.1 hc.2.1 hc.2.2 q
theorem gk : OpR X (inplaceOp .Add) (rI0 λi j => .int (i + j)) := ff λ_ _ _ _ _ _ _ q => iadd_int q
theorem gj : OpR X (inplaceOp .Sub) (rI0 λi j => .int (i - j)) := ff λ_ _ _ _ _ _ _ q => isub_int q
theorem unI {f : Value -> Sem Value} {g : Int -> Int}
  (rule : ∀ (i : Int) (t : Tok) (s : Shared) (Q : Value -> Shared -> Prop) (E : Value -> Shared -> Prop), Q (.int (g i) s.toks) { s with toks := s.toks + 1 } -> wpAny (model X.prog X.w) X.A (f (.int i t)) Q E s) :
  UnR X f (rU λi => .int (g i)) := by
 intro pins s Z H x v Q I rx h
 obtain ⟨i, rfl, q⟩ := h
 obtain ⟨t, rfl⟩ := rx
 exact rule i t s _ _ ⟨.int (g i), H, I.tok _, ⟨_, rfl⟩, q⟩
theorem Lx : UnR X (unaryOp .USub) (rU λi => .int (-i)) := unI λ_ _ _ _ _ q => neg_int q
end
def cw : V -> V -> Bool
 | .non, .non => true | .non, .int _ => true | .int _, .non => true | .non, .bl _ => true | .bl _, .non => true | .non, .str _ => true | .str _, .non => true
 | .int _, .int _ => true | .bl _, .bl _ => true | .str _, .str _ => true | .byt _, .byt _ => true
 | .int _, .str _ => true | .str _, .int _ => true | .bl _, .str _ => true | .str _, .bl _ => true
 | _, _ => false
def rEq : R2 := λx y H Q => cw x y = true /\ Q (.bl (decide (x = y))) H
theorem gt {i j : Int} : decide (V.int i = V.int j) = (i == j) := by
 rw [Zvz]
 simp
theorem me {i j : Bool} : decide (V.bl i = V.bl j) = (i == j) := by
 rw [Zvz]
 simp
theorem gs {i j : Str} : decide (V.str i = V.str j) = (i == j) := by
 rw [Zvz]
 simp
theorem gu {i j : Array UInt8} : decide (V.byt i = V.byt j) = (i.toList == j.toList) := by
 rw [Zvz]
 cases i
 cases j
 simp
section
variable {X : Cx} {a b c : Expr} {ta tb tc : TE} {pos : Pos}
theorem Cm {pins : List (Addr × Obj)} {Z : St} {H : Hp} {s : Shared} {Q : VK} {k k' : Bool} (I : Inv X pins Z H s) (q : Q (.bl k) H) (e : k = k') : EP X pins Z Q (.bool k') s := by
 subst e
 exact ⟨.bl k, H, I, rfl, q⟩
theorem py : OpR X (compareOp .Eq) rEq := by
 intro pins s Z H x y v u Q I rx ry h
 obtain ⟨hs, q⟩ := h
 cases x with
 | non =>
  cases rx
  cases y with
  | non => cases ry; exact PySem.EqNone.eq_none_none (Cm I q (by simp))
  | bl j => cases ry; exact PySem.EqNone.eq_none_bool (Cm I q (by simp))
  | int j => obtain ⟨t', rfl⟩ := ry; exact PySem.EqNone.eq_none_int (Cm I q (by simp))
  | str j => obtain ⟨t', rfl⟩ := ry; exact PySem.EqNone.eq_none_str (Cm I q (by simp))
  | _ => exact absurd (show false = true from hs) Zz7
 | bl i =>
  cases rx
  cases y with
  | non => cases ry; exact PySem.EqNone.eq_bool_none (Cm I q (by simp))
  | bl j => cases ry; exact eq_bool (Cm I q me)
  | str j => obtain ⟨t', rfl⟩ := ry; exact PySem.EqMixed.eq_bool_str (Cm I q (by simp))
  | _ => exact absurd (show false = true from hs) Zz7
 | int i =>
  obtain ⟨t, rfl⟩ := rx
  cases y with
  | non => cases ry; exact PySem.EqNone.eq_int_none (Cm I q (by simp))
  | int j => obtain ⟨t', rfl⟩ := ry; exact eq_int (Cm I q gt)
  | str j => obtain ⟨t', rfl⟩ := ry; exact PySem.EqMixed.eq_int_str (Cm I q (by simp))
  | _ => exact absurd (show false = true from hs) Zz7
 | str i =>
  obtain ⟨t, rfl⟩ := rx
  cases y with
  | non => cases ry; exact PySem.EqNone.eq_str_none (Cm I q (by simp))
  | bl j => cases ry; exact PySem.EqMixed.eq_str_bool (Cm I q (by simp))
  | int j => obtain ⟨t', rfl⟩ := ry; exact PySem.EqMixed.eq_str_int (Cm I q (by simp))
  | str j => obtain ⟨t', rfl⟩ := ry; exact eq_str (Cm I q gs)
  | _ => exact absurd (show false = true from hs) Zz7
 | byt i =>
  obtain ⟨t, rfl⟩ := rx
  cases y with
  | byt j => obtain ⟨t', rfl⟩ := ry; exact PySem.W.eq_bytes (Cm I q gu)
  | _ => exact absurd (show false = true from hs) Zz7
 | _ => cases y <;> exact absurd (show false = true from hs) Zz7
theorem px : OpR X (compareOp .Lt) (rI0 λi j => .bl (decide (i < j))) := pz λ_ _ _ _ _ _ _ q => lt_int q
theorem Jg : OpR X (compareOp .Gt) (rI0 λi j => .bl (decide (j < i))) := pz λ_ _ _ _ _ _ _ q => gt_int q
theorem Wp : OpR X (compareOp .In) (λx y H Q => ∃ i j, x = .str i /\ y = .str j /\ Q (.bl (!(Builtin.Str.occurrences j i 0 j.length 1).isEmpty)) H) := by
 intro pins s Z H x y v u Q I rx ry h
 obtain ⟨i, j, rfl, rfl, q⟩ := h
 obtain ⟨t, rfl⟩ := rx
 obtain ⟨t', rfl⟩ := ry
 exact in_str (Cm I q rfl)
theorem kn : OpR X (compareOp .Is) (λx y H Q => y = .non /\ Q (.bl (decide (x = .non))) H) := by
 intro pins s Z H x y v u Q I rx ry h
 obtain ⟨rfl, q⟩ := h
 cases ry
 refine is_none_gen (Cm I q ?_)
 cases x <;> first
  | (cases rx; rfl)
  | (obtain ⟨t, rfl⟩ := rx; rfl)
theorem fe : OpR X (compareOp .IsNot) (λx y H Q => y = .non /\ Q (.bl (!decide (x = .non))) H) := by
 intro pins s Z H x y v u Q I rx ry h
 obtain ⟨rfl, q⟩ := h
 cases ry
 refine isnot_none_gen (Cm I q ?_)
 cases x <;> first
  | (cases rx; rfl)
  | (obtain ⟨t, rfl⟩ := rx; rfl)
theorem OpR.or {f : Value -> Value -> Sem Value} {r r' : R2} (h : OpR X f r) (h' : OpR X f r') : OpR X f (λx y H Q => r x y H Q \/ r' x y H Q) := by
 intro pins s Z H x y v u Q I rx ry q
 rcases q with q | q
 ·exact h pins s Z H x y v u Q I rx ry q
 ·exact h' pins s Z H x y v u Q I rx ry q
theorem Am (b : Expr) {op : CmpOp} (h : op ≠ .In := by decide) (h2 : op ≠ .NotIn := by decide) : behindInMarks op b = false := by
 have e1 : (op == CmpOp.In) = false := by cases op <;> first | rfl | exact absurd rfl h
 have e2 : (op == CmpOp.NotIn) = false := by cases op <;> first | rfl | exact absurd rfl h2
 cases b <;> simp [behindInMarks, e1, e2]
theorem Hm {op : CmpOp} {r : R2} (ho : OpR X (compareOp op) r) (ha : PE X a ta) (hb : PE X b tb) (hm : behindInMarks op b = false) : PE X (.Compare a [op] [b] pos) (tOp r ta tb) := by
 intro pins s Z H Q I h
 exact wpAny_Compare1 (mr ha hb I h λv u s2 x y H2 I2 rx ry q => ho pins s2 Z H2 x y v u Q I2 rx ry q) hm
def ir (t : TE) : TT := λZ H Q => t Z H λx H' => ∃ k, x = .bl k /\ Q k H'
theorem Al {op : CmpOp} {r : R2} (ho : OpR X (compareOp op) r) (ha : PE X a ta) (hb : PE X b tb) (hm : behindInMarks op b = false) : PT X (.Compare a [op] [b] pos) (ir (tOp r ta tb)) := by
 intro pins s Z H Q I h
 refine wpAny_isTrue_Compare1 (thn (ha pins s Z H _ I h) λv s1 ⟨x, H1, I1, r1, q1⟩ => thn (hb pins s1 Z H1 _ I1 q1) λu s2 ⟨y, H2, I2, r2, q2⟩ =>
  thn (ho pins s2 Z H2 x y v u _ I2 r1 r2 q2) λc s3 ⟨z, H3, I3, r3, k, e, q3⟩ => ?_) hm
 subst e
 cases r3
 exact wpAny_truthy_bool ⟨H3, I3, q3⟩
def TruV (K : Zzv) (x : V) (H : Hp) (k : Bool) : Prop :=
 match x with
 | .non => k = false
 | .bl b => k = b
 | .int i => k = (i != 0)
 | .str y => y.length <= sizeLine /\ k = ((y.length : Int) != 0)
 | .byt y => y.size <= sizeLine /\ k = ((y.size : Int) != 0)
 | .ref p => (∃ xs, SqL K H p xs /\ k = !xs.isEmpty) \/ (∃ xs, SqT K H p xs /\ k = !xs.isEmpty) \/ ∃ kvs, H p = some (.dK kvs) /\ k = !kvs.isEmpty
 | _ => False
theorem Uj {κ : Type} {kvs : List (κ × V)} {vs : List (κ × Value)} (r : KV kvs vs) : (!vs.isEmpty) = !kvs.isEmpty := by
 cases r <;> rfl
theorem Mz {xs : List V} {its : List Value} (r : Vals xs its) : (!its.toArray.isEmpty) = !xs.isEmpty := by
 cases r <;> simp
theorem Gy : (sizeLine : Nat) < 2 ^ 63 := by rw [sizeLine_eq]; decide
theorem Y8 : TruR X (λx H Q => ∃ k, TruV X.K x H k /\ Q k H) := by
 intro pins s Z H x v Q I rx h
 obtain ⟨k, e, q⟩ := h
 have hl := Gy
 have hs : sizeLine = 16777216 := sizeLine_eq
 cases x with
 | non =>
  cases rx
  have e' : k = false := e
  subst e'
  exact truthy_none ⟨H, I, q⟩
 | bl b =>
  cases rx
  have e' : k = b := e
  subst e'
  exact wpAny_truthy_bool ⟨H, I, q⟩
 | int i =>
  obtain ⟨t, rfl⟩ := rx
  have e' : k = (i != 0) := e
  subst e'
  exact PySem.P.truthy_int ⟨H, I, q⟩
 | str y =>
  obtain ⟨t, rfl⟩ := rx
  obtain ⟨hy, e'⟩ : y.length <= sizeLine /\ k = ((y.length : Int) != 0) := e
  subst e'
  exact PySem.P.truthy_str (by omega) ⟨H, I.tok _, q⟩
 | byt y =>
  obtain ⟨t, rfl⟩ := rx
  obtain ⟨hy, e'⟩ : y.size <= sizeLine /\ k = ((y.size : Int) != 0) := e
  subst e'
  exact PySem.W.truthy_bytes (by omega) ⟨H, I.tok _, q⟩
 | ref p =>
  cases rx
  have e' : (∃ xs, SqL X.K H p xs /\ k = !xs.isEmpty) \/ (∃ xs, SqT X.K H p xs /\ k = !xs.isEmpty) \/ ∃ kvs, H p = some (.dK kvs) /\ k = !kvs.isEmpty := e
  rcases e' with ⟨xs, hx, e'⟩ | ⟨xs, hx, e'⟩ | ⟨kvs, hx, e'⟩
  ·subst e'
   obtain ⟨its, r, pl, hz⟩ := I.list hx
   have hlen := r.length
   exact wpAny_truthy_list pl.isList (by simp only [Zzp]; omega) ⟨H, I.tok _, by rw [Mz r]; exact q⟩
  ·subst e'
   obtain ⟨its, r, pl, hz⟩ := I.tuple hx
   have hlen := r.length
   exact truthy_tuple pl (by simp only [Zzp]; omega) ⟨H, I.tok _, by rw [Mz r]; exact q⟩
  ·subst e'
   obtain ⟨hz, hS, vs, r, m⟩ : kvs.length <= sizeLine /\ (p == sysModules) = false /\ ∃ vs, KV kvs vs /\ s.heap.DictOf (B0 X.prog X.w) p vs := I.hok p _ hx
   have hlen : kvs.length = vs.length := Paired.length r
   exact wpAny_truthy_dict hS m (by omega) ⟨H, I.tok _, by rw [Uj r]; exact q⟩
 | _ => exact (show False from e).elim
theorem U9 : OpR X (binaryOp .Add) (λx y H Q => ∃ i j, x = .str i /\ y = .str j /\ i.length + j.length <= sizeLine /\ Q (.str (i ++ j)) H) := by
 intro pins s Z H x y v u Q I rx ry h
 obtain ⟨i, j, rfl, rfl, hz, q⟩ := h
 obtain ⟨t, rfl⟩ := rx
 obtain ⟨t', rfl⟩ := ry
 exact add_str (λt' tk => ⟨.str (i ++ j), H, I.tok _, ⟨_, rfl⟩, q⟩) hz
theorem Eu {x : V} {us : List Value} (r : Vals [x] us) : ∃ u, us = [u] /\ RelV x u := by
 cases r with
 | cons r1 r2 => cases r2; exact ⟨_, rfl, r1⟩
theorem Rp {x y : V} {us : List Value} (r : Vals [x, y] us) : ∃ u w', us = [u, w'] /\ RelV x u /\ RelV y w' := by
 cases r with
 | cons r1 r2 =>
  cases r2 with
  | cons r3 r4 => cases r4; exact ⟨_, _, rfl, r1, r3⟩
theorem Xw (hc : X.calm = true) : CallR X (.builtin "max") (λxs H Q => ∃ i j, xs = [.int i, .int j] /\ Q (.int (if j > i then j else i)) H) := by
 intro pins s Z H xs us Q I r h
 obtain ⟨i, j, rfl, q⟩ := h
 obtain ⟨u, w', rfl, ⟨t, rfl⟩, ⟨t', rfl⟩⟩ := Rp r
 refine max_two_ints (I.ok.hd hc) λh' tk k => ⟨_, H, I.kept k, ?_, q⟩
 by_cases hj : j > i
 ·rw [if_pos hj, if_pos hj]; exact ⟨_, rfl⟩
 ·rw [if_neg hj, if_neg hj]; exact ⟨_, rfl⟩
theorem Xv (hc : X.calm = true) : CallR X (.builtin "min") (λxs H Q => ∃ i j, xs = [.int i, .int j] /\ Q (.int (if j < i then j else i)) H) := by
 intro pins s Z H xs us Q I r h
 obtain ⟨i, j, rfl, q⟩ := h
 obtain ⟨u, w', rfl, ⟨t, rfl⟩, ⟨t', rfl⟩⟩ := Rp r
 refine min_two_ints (I.ok.hd hc) λh' tk k => ⟨_, H, I.kept k, ?_, q⟩
 by_cases hj : j < i
 ·rw [if_pos hj, if_pos hj]; exact ⟨_, rfl⟩
 ·rw [if_neg hj, if_neg hj]; exact ⟨_, rfl⟩
theorem Hr : CallR X (.type "int") (λxs H Q => (∃ i, xs = [.int i] /\ Q (.int i) H) \/ ∃ k, xs = [.bl k] /\ Q (.int (if k then 1 else 0)) H) := by
 intro pins s Z H xs us Q I r h
 rcases h with ⟨i, rfl, q⟩ | ⟨k, rfl, q⟩
 ·obtain ⟨u, rfl, t, rfl⟩ := Eu r
  exact call_int_int ⟨.int i, H, I, ⟨_, rfl⟩, q⟩
 ·obtain ⟨u, rfl, r1⟩ := Eu r
  cases r1
  exact call_int_bool ⟨.int (if k then 1 else 0), H, I.tok _, ⟨_, rfl⟩, q⟩
end
structure ObjM (h : Heap) (x dx C : Addr) (mA : Str -> Option Value) : Prop where
 obj : h.get? x = some (PySem.W.instObj C dx)
 ns : h.Ns1 dx mA
 ne : dx ≠ x
theorem Xe {h : Heap} {dx : Addr} {mA : Str -> Option Value} (n : h.Ns1 dx mA) : ∃ od, h.get? dx = some od /\ ∀ name, PySem.W.lookIn name od = some (mA name) := by
 obtain ⟨o, es, ep, ho, hd, hk, _, hm⟩ := n
 refine ⟨o, ho, λname => ?_⟩
 have e := hm name
 unfold nsFind findBy at e
 rw [<- Array.find?_toList] at e
 unfold PySem.W.lookIn
 rw [hd]
 dsimp only
 split
 ·rename_i y q
  rw [q] at e
  exact congrArg some e
 ·rename_i q
  rw [q] at e
  have a : es.toList.any (·.refKey) = false := by
   rw [List.any_eq_false]
   intro y hy
   obtain ⟨z, t, hkey⟩ := hk y (Array.mem_toList_iff.mp hy)
   simp [DictEntry.refKey, hkey]
  have a' : ¬ es.toList.any (·.refKey) = true := by rw [a]; exact Zz7
  rw [if_neg a']
  exact congrArg some e
theorem ObjM.look {h : Heap} {x dx C : Addr} {mA : Str -> Option Value} (I : ObjM h x dx C mA) : ∃ od, PySem.W.InstAt h x (PySem.W.instObj C dx) C (some od) /\ ∀ name, PySem.W.lookIn name od = some (mA name) :=
 let ⟨od, ho, hl⟩ := Xe I.ns
 ⟨od, ⟨I.obj, rfl, rfl, ho⟩, hl⟩
section
variable {prog : Program} {w : World} {A : Around} {E : Value -> Shared -> Prop} {s : Shared} {K : Zzv} {x dx C f : Addr} {mA : Str -> Option Value} {name : Str} {v : Value}
end
theorem RelO.some_of {v : V} {o : Option Value} (r : RelO (some v) o) : ∃ u, o = some u /\ RelV v u := by
 cases o with
 | none => exact (show False from r).elim
 | some u => exact ⟨u, rfl, r⟩
section
variable {P : Program} {w : World} {H H' : Hp} {h h' : Heap} {a C dx : Addr} {fs fs' : List (Str × V)}
theorem gl (hok : HOk P w H h) (e : H a = some (.ins C dx fs)) : ∃ mA, ObjM h a dx C mA /\ (∀ f, RelO (fs.lookup f) (mA f)) /\ PySem.Within mA (fs.map (·.1)) /\ fs.length <= 1000 /\ H dx = some (.own a) := by
 obtain ⟨d, z, ne, ob, mA, n, r, q⟩ := (show ObjOk P w H h a (.ins C dx fs) from hok a _ e)
 exact ⟨mA, ⟨ob, n, ne⟩, r, q, z, d⟩
end
structure Cls (K : Zzv) (C : Addr) : Prop where
 pg : PySem.W.plainGet K C Str.empty = true
 hd : PySem.W.hasDictIn K C = true
 po : PySem.W.plainOver K C = true
 sa : PySem.W.findIn K (.ref C) "__setattr__" = some (some (.builtin "object.__setattr__"))
theorem Cls.get {K : Zzv} {C : Addr} (c : Cls K C) (f : Str) : PySem.W.plainGet K C f = true := c.pg
section
variable {X : Cx} {pins : List (Addr × Obj)} {Z : St} {H : Hp} {s : Shared} {a C dx : Addr} {fs : List (Str × V)} {f : Str} {v : V} {A : Around} {E : Value -> Shared -> Prop}
end
section
variable {X : Cx} {o e value : Expr} {f : Str} {pos pos' tpos : Pos} {ta tv : TE}
end
section
variable {X : Cx} {pins : List (Addr × Obj)} {Z : St} {H : Hp} {s : Shared} {A : Around} {E : Value -> Shared -> Prop} {Q : Value -> Shared -> Prop} {c : Value} {b : Bool}
inductive Kr (K : Zzv) (H : Hp) : V -> Value -> Prop where
 | non : Kr K H .non (.type "NoneType")
 | bl (x : Bool) : Kr K H (.bl x) (.type "bool")
 | int (i : Int) : Kr K H (.int i) (.type "int")
 | str (x : Str) : Kr K H (.str x) (.type "str")
 | flt (x : UInt64) : Kr K H (.flt x) (.type "float")
 | lst {a : Addr} {xs : List V} (e : H a = some (.lst xs)) : Kr K H (.ref a) (.type "list")
 | frz {a : Addr} {o : Obj} {xs : List V} (e : H a = some (.frz o (.lst xs))) : Kr K H (.ref a) (.type "list")
 | tup {a : Addr} {xs : List V} (e : H a = some (.tup xs)) : Kr K H (.ref a) (.type "tuple")
 | dK {a : Addr} {kvs : List (Key × V)} (e : H a = some (.dK kvs)) : Kr K H (.ref a) (.type "dict")
 | dT {a : Addr} {kvs : List (List Key × V)} (e : H a = some (.dT kvs)) : Kr K H (.ref a) (.type "dict")
 | ins {a C dx : Addr} {fs : List (Str × V)} (e : H a = some (.ins C dx fs)) (cl : Cls K C) (ha : PySem.W.findIn K (.ref C) "__class__" = some (some (.builtin "object.__class__")))
   (hn : PySem.W.specialIn K (.builtin "object.__class__") "__get__" = some (some (.builtin "getset_descriptor.__get__"))) (htk : PySem.W.takesIn K (.builtin "object.__class__") = some true)
   (hm : PySem.W.mroIn K C (.type "object") = some true) : Kr K H (.ref a) (.ref C)
theorem Xj {x : V} {u t : Value} (I : Inv X pins Z H s) (rx : RelV x u) (ty : Kr X.K H x t) (e : PySem.W.kitOne X.K t c = some b) (h : ∀ tk, Q (.bool b) { s with toks := tk }) :
  wpAny (model X.prog X.w) A (call (.builtin "isinstance") [u, c]) Q E s := by
 cases ty with
 | non => cases (show u = Value.none from rx); exact Zy3 PySem.W.kitx_none I.kIn True.intro e (λz => nomatch z) h
 | bl y => cases (show u = Value.bool y from rx); exact Zy3 PySem.W.kitx_bool I.kIn True.intro e (λz => nomatch z) h
 | int i => obtain ⟨t, q⟩ := (show ∃ t, u = Value.int i t from rx); cases q; exact Zy3 PySem.W.kitx_int I.kIn True.intro e (λz => nomatch z) h
 | str y => obtain ⟨t, q⟩ := (show ∃ t, u = Value.str y t from rx); cases q; exact Zy3 PySem.W.kitx_str I.kIn True.intro e (λz => nomatch z) h
 | flt y => obtain ⟨t, q⟩ := (show ∃ t, u = Value.float y t from rx); cases q; exact Zy3 PySem.W.kitx_float I.kIn True.intro e (λz => nomatch z) h
 | @lst a xs ea =>
  cases (show u = Value.ref a from rx)
  obtain ⟨_, _, n, _, h1⟩ := (show ObjOk X.prog X.w H s.heap a (.lst xs) from I.hok a _ ea)
  exact Zy3 PySem.W.kitx_list I.kIn ⟨_, h1, rfl⟩ e (λz => nomatch z) h
 | @frz a ob xs ea =>
  cases (show u = Value.ref a from rx)
  obtain ⟨_, _, _, n, _, h1⟩ := (show ObjOk X.prog X.w H s.heap a (.frz ob (.lst xs)) from I.hok a _ ea)
  exact Zy3 PySem.W.kitx_list I.kIn ⟨_, h1, rfl⟩ e (λz => nomatch z) h
 | @tup a xs ea =>
  cases (show u = Value.ref a from rx)
  obtain ⟨_, _, _, p⟩ := (show ObjOk X.prog X.w H s.heap a (.tup xs) from I.hok a _ ea)
  obtain ⟨o, h1, h2, _⟩ := p
  exact Zy3 PySem.W.kitx_tuple I.kIn ⟨o, h1, h2⟩ e (λz => nomatch z) h
 | @dK a kvs ea =>
  cases (show u = Value.ref a from rx)
  obtain ⟨_, _, vs, _, p⟩ := (show ObjOk X.prog X.w H s.heap a (.dK kvs) from I.hok a _ ea)
  obtain ⟨o, es, ep, h1, h2, _⟩ := p
  exact Zy3 PySem.W.kitx_dict I.kIn ⟨o, h1, h2.1⟩ e (λz => nomatch z) h
 | @dT a kvs ea =>
  cases (show u = Value.ref a from rx)
  obtain ⟨_, _, xs, _, o, es, ep, h1, h2, _⟩ := (show ObjOk X.prog X.w H s.heap a (.dT kvs) from I.hok a _ ea)
  exact Zy3 PySem.W.kitx_dict I.kIn ⟨o, h1, h2.1⟩ e (λz => nomatch z) h
 | @ins a C dx fs ea cl ha hn htk hm =>
  cases (show u = Value.ref a from rx)
  obtain ⟨mA, O, _⟩ := gl I.hok ea
  obtain ⟨od, J, _⟩ := O.look
  exact Zy3 (PySem.W.kitx_own (cl.get _) cl.hd ha hn htk hm) I.kIn J e (λz => nomatch z) h
end
structure Room (k : Nat) (A : Around) : Prop where
 hd : A.handled = none
 dp : A.depth + 3 * k + 5 < recursionLimit
 un : A.units + 16 * k + 200 < cLine
theorem Room.mono {j k : Nat} {A : Around} (r : Room k A) (h : j <= k) : Room j A := ⟨r.hd, by have := r.dp; omega, by have := r.un; omega⟩
theorem Room.deeper {k : Nat} {A : Around} (r : Room (k + 1) A) (env : Env) : Room k (A.deeper env) :=
 ⟨r.hd, by have := r.dp; show A.depth + 1 + 3 * k + 5 < _; omega, by have := r.un; show A.units + 3 + 16 * k + 200 < _; omega⟩
theorem Room.depth {k : Nat} {A : Around} (r : Room k A) : A.depth < recursionLimit := by have := r.dp; omega
theorem Room.units {k : Nat} {A : Around} (r : Room k A) : A.units + 64 < cLine := by have := r.un; omega
def tNil : TA := λ_ H Q => Q [] H
def Yf (ta : TE) (tr : TA) : TA := λZ H Q => ta Z H λx H1 => tr Z H1 λxs H2 => Q (x :: xs) H2
section
variable {X : Cx} {e : Expr} {es : List Expr} {te : TE} {t : TA} {pos : Pos}
theorem A1 : PA X [] tNil := λ_ _ _ _ H Q I h => Zwb ⟨[], H, I, .nil, h⟩
theorem eh (ha : PE X e te) (hr : PA X es t) (hs : starEach (e :: es) X.env = (false, eval e X.env) :: starEach es X.env := by rfl) : PA X (e :: es) (Yf te t) := by
 intro pos pins s Z H Q I h
 rw [hs]
 show wpAny _ _ (spliced ((false, eval e X.env) :: backTo pos (starEach es X.env))) _ _ s
 refine Zx5 (thn (ha pins s Z H _ I h) λu s1 ⟨x, H1, I1, r1, q1⟩ => ?_)
 exact thn (hr pos pins s1 Z H1 _ I1 q1) λus s2 ⟨xs, H2, I2, r2, q2⟩ => ⟨x :: xs, H2, I2, .cons r1 r2, q2⟩
def oh (t : TA) : TE := λZ H Q => t Z H λxs H1 => xs.length <= sizeLine /\ ∀ p, H1 p = none -> Q (.ref p) (upd H1 p (.tup xs))
def om (t : TA) : TE := λZ H Q => t Z H λxs H1 => xs.length <= sizeLine /\ ∀ p, H1 p = none -> Q (.ref p) (upd H1 p (.lst xs))
theorem Aq {x1} (h : PA X es t) : PE X (.Tuple es x1 pos) (oh t) := by
 intro pins s Z H Q I hq
 refine wpAny_Tuple_spliced (thn (h pos pins s Z H _ I hq) λus s1 ⟨xs, H1, I1, r, z, q⟩ => ⟨by rw [<- r.length]; exact z, ?_⟩)
 have hf : H1 s1.heap.objs.size = none := I1.hok.fresh (Zzt _)
 refine ⟨.ref s1.heap.objs.size, upd H1 s1.heap.objs.size (.tup xs), I1.laid (t' := s1.toks) (λb u e => Zzy _ e) (Zzt _) ?_, rfl, q _ hf⟩
 exact ⟨z, us, r, ⟨_, Zzi _ rfl, rfl, _, rfl⟩⟩
theorem Bp (h : PA X es t) : PE X (.List es pos) (om t) := by
 intro pins s Z H Q I hq
 refine wpAny_List_spliced (thn (h pos pins s Z H _ I hq) λus s1 ⟨xs, H1, I1, r, z, q⟩ => ⟨by rw [<- r.length]; exact z, ?_⟩)
 have hf : H1 s1.heap.objs.size = none := I1.hok.fresh (Zzt _)
 refine ⟨.ref s1.heap.objs.size, upd H1 s1.heap.objs.size (.lst xs), I1.laid (t' := s1.toks) (λb u e => Zzy _ e) (Zzt _) ?_, rfl, q _ hf⟩
 exact ⟨z, us, 0, r, Zzi _ rfl⟩
end
abbrev Sp := List V -> Hp -> VK -> XK -> Prop
abbrev CXT := List Env -> Hp -> Shared -> XK -> Value -> Shared -> Prop
structure ii (P : Program) (w : World) (K : Zzv) (mg : Str -> Option Value) (base : Heap) (A : Around) (outer : List Env) (s : Shared) (H : Hp) : Prop where
 frames : A.frames = some outer
 mod : Mod K mg base
 bs : ∀ b o, base.get? b = some o -> s.heap.get? b = some o /\ H b = none
 bsz : base.objs.size <= s.heap.objs.size
 funs : s.heap.FunFrames base outer
 frf : ∀ b ∈ frs outer, H b = none
 hok : HOk P w H s.heap
 bare : AllBare s.gens
def CE (outer : List Env) (P : Program) (w : World) (H : Hp) (s : Shared) (Q : VK) (u : Value) (s' : Shared) : Prop :=
 ∃ v H', s'.os = s.os /\ AllBare s'.gens /\ Un (frs outer) [] H H' s.heap s'.heap /\ HOk P w H' s'.heap /\ RelV v u /\ Q v H'
def CR (CX : CXT) (outer : List Env) (P : Program) (w : World) (H : Hp) (s : Shared) (Q : VK) (E : XK) (r : Result) (s' : Shared) : Prop :=
 match r with
 | .ok (.ret u) => CE outer P w H s Q u s'
 | .ok _ => False
 | .error e => CX outer H s E e s'
structure Bh (P : Program) (w : World) (K : Zzv) (mg : Str -> Option Value) (base : Heap) (CX : CXT) (k : Nat) (f : Addr) (fd : FuncData) (ps : List Str) (sp : Sp) : Prop where
 len : ∀ vs H Q E, sp vs H Q E -> vs.length = ps.length
 run : ∀ (A : Around) (outer : List Env) (s : Shared) (H : Hp) (args : Args) (us : List Value) (vs : List V) (Q : VK) (E : XK), Room k A -> ii P w K mg base A outer s H -> BindsTo s fd args (ps.zip us) -> Vals vs us -> sp vs H Q E ->
  codeAny (model P w) A (.call (.ref f) args) (CR CX outer P w H s Q E) s
section
variable {X : Cx} {pins : List (Addr × Obj)} {Z : St} {H : Hp} {s s' : Shared}
theorem Inv.env0 (I : Inv X pins Z H s) : ii X.prog X.w X.K X.mg X.base X.A X.stack s H :=
 ⟨I.ok.frames, I.ok.mod, I.bs, Zyx I.ok.bsz I.sz, I.stack, I.stkFree, I.hok, I.bare⟩
theorem Inv.after {Q : VK} {u : Value} (I : Inv X pins Z H s) (h : CE X.stack X.prog X.w H s Q u s') : EP X pins Z Q u s' := by
 obtain ⟨v, H', os, bare, un, hok, r, q⟩ := h
 obtain ⟨hh, g, d, t, os'⟩ := s'
 obtain rfl : os' = s.os := os
 exact ⟨v, H', I.call (h' := hh) (g' := g) (d' := d) (t' := t) (ch := []) un hok bare (λb z => absurd z (by simp)), r, q⟩
end
def V5 (sp : Sp) (dvs : List V) (E : XK) (t : TA) : TE := λZ H Q => t Z H λvs H1 => sp (vs ++ dvs) H1 Q E
def Binds (K : Zzv) (fd : FuncData) (ps : List Str) (ds : List Value) : Prop :=
 ∀ (s : Shared) (us : List Value), K.In s.heap -> (us ++ ds).length = ps.length -> BindsTo s fd ⟨us, []⟩ (ps.zip (us ++ ds))
theorem Binds.all {K : Zzv} {fd : FuncData} {ps : List Str} (h : ∀ us : List Value, us.length = ps.length -> bindArgs fd ⟨us, []⟩ = pure (ps.zip us)) : Binds K fd ps [] := λs us _ hl => by
 rw [Zyu] at hl ⊢
 exact .of_eq (h us hl)
def Uz (CX : CXT) (X : Cx) (E : XK) : Prop := ∀ (pins : List (Addr × Obj)) (Z : St) (H : Hp) (s : Shared) (e : Value) (s' : Shared), Inv X pins Z H s -> CX X.stack H s E e s' -> X.xe e s'
section
variable {X : Cx} {CX : CXT} {k : Nat} {f C : Addr} {fd : FuncData} {ps : List Str} {sp : Sp} {dvs : List V} {ds : List Value} {E : XK} {x m : Str} {p pos apos : Pos} {e o : Expr} {es : List Expr} {ta : TE} {t : TA}
theorem ju {pins : List (Addr × Obj)} {Z : St} {H : Hp} {s : Shared} {Q : VK} {us : List Value} {vs : List V} (F : Bh X.prog X.w X.K X.mg X.base CX k f fd ps sp) (hr : Room k X.A) (hb : Binds X.K fd ps ds) (hd : Vals dvs ds) (hx : Uz CX X E)
  (I : Inv X pins Z H s) (r : Vals vs us) (h : sp (vs ++ dvs) H Q E) : wpAny (model X.prog X.w) X.A (call (.ref f) us) (EP X pins Z Q) X.xe s := by
 have r2 : Vals (vs ++ dvs) (us ++ ds) := r.append hd
 have hl : (us ++ ds).length = ps.length := by rw [<- r2.length]; exact F.len _ _ _ _ h
 refine wpAny_call (codeAny_mono (F.run X.A X.stack s H ⟨us, []⟩ (us ++ ds) (vs ++ dvs) Q E hr I.env0 (hb s us I.kIn hl) r2 h) λr s' hq => ?_)
 cases r with
 | error e => exact hx pins Z H s e s' I hq
 | ok fl =>
  cases fl with
  | ret u => exact I.after hq
  | next => exact False.elim hq
  | brk => exact False.elim hq
  | cont => exact False.elim hq
theorem dy (F : Bh X.prog X.w X.K X.mg X.base CX k f fd ps sp) (hr : Room k X.A) (hg : Gl X x) (hm : X.mg x = some (.ref f)) (hk : Zwd X.K (.ref f) = true) (hb : Binds X.K fd ps ds) (hd : Vals dvs ds) (hx : Uz CX X E)
  (ha : PA X (e :: es) t) (hdb : (x == ("__debug__" : Str)) = false := by decide) (he : starEach (e :: es) X.env = (false, eval e X.env) :: starEach es X.env := by rfl) (hpl : (backTo pos (starEach es X.env)).any (·.1) = false := by rfl) :
  PE X (.Call (.Name x p) (e :: es) [] pos) (V5 sp dvs E t) := by
 intro pins s Z H Q I h
 refine wpAny_Call_Name_kw (Vo I hg hm ?_ hdb)
 refine PySem.W.callWith_K (h₀ := X.base) I.ok.mod.kin hk (thn (ha pos pins s Z H _ I h) λus s1 ⟨vs, H1, I1, r, q⟩ => ⟨I1.kIn, ?_⟩) he hpl
 exact ju F hr hb hd hx I1 r q
end
section
variable {X : Cx} {CX : CXT} {k : Nat} {f C : Addr} {fd : FuncData} {ps ks : List Str} {sp : Sp} {E : XK} {x m : Str} {p pos apos kpos : Pos} {e o : Expr} {es : List Expr} {kws : List Keyword} {te ta : TE} {t tk : TA} {nm : Option Str}
variable {g : List Value -> List Value -> List Value} {gV : List V -> List V -> List V}
end
structure Aj (N P : List Str) (sc : Scope) : Prop where
 kind : sc.kind = .function
 co : sc.isCoroutine = false
 gen : sc.isGenerator = false
 nd : N.Nodup
 pre : N.take P.length = P
 par : ∀ x ∈ P, sc.names.lookup x = some .local \/ sc.names.lookup x = some .cell
 nofree : ∀ y ∈ sc.names, y.2 ≠ .free
theorem Pf {kindOf : Str -> Option NameKind} {x : Str} : ∀ {binds : List (Str × Value)} {m : Str -> Option Value}, (∀ v, (x, v) ∉ binds) -> bindL kindOf binds m x = m x
 | [], _, _ => rfl
 | (n, v) :: r, m, h => by
  unfold bindL
  rw [Pf λw hw => h w (Zzk _ hw)]
  split
  ·have : x ≠ n := by rintro rfl; exact h v Zzj
   simp [this]
  ·rfl
theorem Ph {kindOf : Str -> Option NameKind} {x : Str} : ∀ {binds : List (Str × Value)} {m : Str -> Option Value}, (∀ v, (x, v) ∉ binds) -> bindC kindOf binds m x = m x
 | [], _, _ => rfl
 | (n, v) :: r, m, h => by
  unfold bindC
  rw [Ph λw hw => h w (Zzk _ hw)]
  split
  ·rfl
  ·have : x ≠ n := by rintro rfl; exact h v Zzj
   simp [this]
theorem Pg {kindOf : Str -> Option NameKind} {x : Str} {v : Value} : ∀ {P : List Str} {vs : List Value} {i : Nat} {m : Str -> Option Value}, P.Nodup -> P[i]? = some x -> vs[i]? = some v -> kindOf x = some .local ->
  bindL kindOf (P.zip vs) m x = some v
 | [], _, _, _, _, h, _, _ => by simp at h
 | _ :: _, [], _, _, _, _, h, _ => by simp at h
 | p :: P, w :: vs, 0, m, nd, h1, h2, hk => by
  simp at h1 h2; subst h1; subst h2
  show bindL kindOf ((p, w) :: P.zip vs) m p = _
  unfold bindL
  rw [Pf λv hv => (Zyj.mp nd).1 (List.of_mem_zip hv).1, if_pos hk]
  simp
 | p :: P, w :: vs, i + 1, m, nd, h1, h2, hk => by
  show bindL kindOf ((p, w) :: P.zip vs) m x = _
  unfold bindL
  exact Pg (i := i) (Zyj.mp nd).2 (by simpa using h1) (by simpa using h2) hk
theorem Pi {kindOf : Str -> Option NameKind} {x : Str} {v : Value} : ∀ {P : List Str} {vs : List Value} {i : Nat} {m : Str -> Option Value}, P.Nodup -> P[i]? = some x -> vs[i]? = some v -> kindOf x ≠ some .local ->
  bindC kindOf (P.zip vs) m x = some v
 | [], _, _, _, _, h, _, _ => by simp at h
 | _ :: _, [], _, _, _, _, h, _ => by simp at h
 | p :: P, w :: vs, 0, m, nd, h1, h2, hk => by
  simp at h1 h2; subst h1; subst h2
  show bindC kindOf ((p, w) :: P.zip vs) m p = _
  unfold bindC
  rw [Ph λv hv => (Zyj.mp nd).1 (List.of_mem_zip hv).1, if_neg hk]
  simp
 | p :: P, w :: vs, i + 1, m, nd, h1, h2, hk => by
  show bindC kindOf ((p, w) :: P.zip vs) m x = _
  unfold bindC
  exact Pi (i := i) (Zyj.mp nd).2 (by simpa using h1) (by simpa using h2) hk
def Hz (N : List Str) (vs : List V) : St := vs.map some ++ Zyq (N.length - vs.length) none
def Uq (CX : CXT) (P : Program) (w : World) (K : Zzv) (mg : Str -> Option Value) (base : Heap) (N : List Str) (qual : Str) (scope : Scope) (f : Addr) (cd : Value) (A : Around) (outer : List Env) (s : Shared) (H : Hp) (E : XK) : Cx where
 prog := P
 w := w
 K := K
 mg := mg
 base := base
 A := A.deeper (envOfC qual scope s.heap.objs.size f cd)
 N := N
 s₀ := s
 H₀ := H
 env := envOfC qual scope s.heap.objs.size f cd
 outer := outer
 stack := envOfC qual scope s.heap.objs.size f cd :: outer
 ex := []
 calm := true
 fn := λ_ => true
 pn := []
 xe := λe s' => wpAny (model P w) (A.deeper (envOfC qual scope s.heap.objs.size f cd)) (leaving (envOfC qual scope s.heap.objs.size f cd) e) (λ_ s'' => CX outer H s E e s'') (λe' s'' => CX outer H s E e' s'') s'
theorem Tg {sc : Scope} {n : Nat} {x : Str} (h : sc.names.lookup x = some .cell) : ∃ c, (cellsFrom n sc.names []).lookup x = some c := by
 have q := PySem.W.cellsFrom_some sc.names n [] (.inl h)
 exact Option.isSome_iff_exists.mp q
theorem Xk {CX : CXT} {P : Program} {w : World} {K : Zzv} {mg : Str -> Option Value} {base : Heap} {N ps : List Str} {qual : Str} {scope : Scope} {f : Addr} {cd : Value} {A : Around} {outer : List Env} {s s1 : Shared} {H : Hp} {E : XK} {us : List Value} {vs : List V}
  (S : Aj N ps scope) (hd : A.handled = none) (e0 : ii P w K mg base A outer s H) (hl : vs.length = ps.length) (r : Vals vs us)
  (x : InCallC s s.heap.objs.size (bindL (envOfC qual scope s.heap.objs.size f cd).kindOf (ps.zip us) λ_ => none) (cellsFrom (s.heap.objs.size + 1) scope.names []) (bindC (envOfC qual scope s.heap.objs.size f cd).kindOf (ps.zip us) λ_ => none) s1) :
  Inv (Uq CX P w K mg base N qual scope f cd A outer s H E) [] (Hz N vs) H s1 := by
 have hpl : ps.length <= N.length := by have := congrArg Zxz S.pre; rw [Zym] at this; omega
 obtain ⟨h1, tk, rfl, hk⟩ := x.done
 have noA : ∀ b : Addr, b ∉ (Uq CX P w K mg base N qual scope f cd A outer s H E).ex := λb z => absurd (show b ∈ ([] : List Addr) from z) (by simp)
 refine ⟨⟨e0.mod, S.kind, rfl, rfl, Zzt _, λy z c h1 h2 => ?_, λy hy => ?_, λy c _ h => ?_, λ_ => hd, Around.frames_deeper e0.frames, .inr ⟨rfl, rfl⟩, λb z => absurd z (noA b), e0.bs, e0.bsz, λb _ _ => noA b, λb z => absurd z (noA b), e0.funs, e0.frf⟩,
  rfl, e0.bare, Un.kept hk, ⟨_, x.toInCall.ns, λi y v h1 h2 h3 => ?_⟩, λy c h => ⟨_, x.cell y c h⟩, e0.hok.fresh (Zzt _), λy c h => ?_, λp hp => absurd (show p ∈ ([] : List (Addr × Obj)) from hp) (by simp), e0.hok.kept hk, ?_⟩
 ·exact name_of_addr x.apart (Zxj h1) (Zxj h2)
 ·have hy : scope.names.lookup y = some .cell \/ scope.names.lookup y = some .free := hy
  rcases hy with hy | hy
  ·exact Tg hy
  ·exact absurd rfl (S.nofree _ (Zxj hy))
 ·exact Nat.le_of_lt (x.above y c (Zxj h))
 ·have hi : i < vs.length := by
   unfold Hz at h2
   by_cases hi : i < vs.length
   ·exact hi
   ·rw [Zyk (by simpa using hi)] at h2
    rw [List.getElem?_replicate] at h2
    split at h2 <;> cases h2
  have ha : vs[i]? = some v := by
   unfold Hz at h2
   rw [Zy6 (by simpa using hi), Zzx] at h2
   cases e : vs[i]? with
   | none => rw [e] at h2; cases h2
   | some a => rw [e] at h2; cases h2; rfl
  obtain ⟨u, hu, rv⟩ := r.get ha
  have hp : ps[i]? = some y := by
   rw [<- S.pre, List.getElem?_take_of_lt (by omega)]; exact h1
  have ndP : ps.Nodup := by rw [<- S.pre]; exact S.nd.sublist (List.take_sublist _ _)
  refine ⟨u, rv, ?_⟩
  rcases S.par y (Zzw hp) with k | k
  ·exact .inl ⟨k, Pg ndP hp hu k⟩
  ·obtain ⟨c, e⟩ := Tg (n := s.heap.objs.size + 1) k
   refine .inr ⟨.inl k, c, e, ?_⟩
   have q := x.cell y c e
   rw [Pi ndP hp hu (by show scope.names.lookup y ≠ _; rw [k]; decide)] at q
   exact q
 ·exact e0.hok.fresh (Nat.le_of_lt (x.above y c (Zxj h)))
 ·unfold Hz
  show _ = N.length
  rw [Zze, Zzz, List.length_replicate]
  omega
theorem jf {CX : CXT} {P : Program} {w : World} {K : Zzv} {mg : Str -> Option Value} {base : Heap} {k : Nat} {f : Addr} {name qual : Str} {params : Arguments} {body : List Stmt} {scope : Scope} {dV kV doc pm cdv ct oc : Value} {an od : Option Addr}
  {osl : Array (Option Value)} {N ps : List Str} {sp : Sp} (lk : K.lookup f = some ⟨oc, od, .func (Zx4 name qual params body scope dV kV doc pm an cdv ct), osl⟩) (hcd : Zvs K cdv qual = true) (S : Aj N ps scope)
  (len : ∀ vs H Q E, sp vs H Q E -> vs.length = ps.length)
  (hbody : ∀ (A : Around) (outer : List Env) (s : Shared) (H : Hp) (vs : List V) (Q : VK) (E : XK), Room k (A.deeper (envOfC qual scope s.heap.objs.size f cdv)) -> sp vs H Q E ->
   ∃ t, PSs (Uq CX P w K mg base N qual scope f cdv A outer s H E) body t /\ t { nx := λ_ H' => Q .non H', rt := Q } (Hz N vs) H) :
  Bh P w K mg base CX (k + 1) f (Zx4 name qual params body scope dV kV doc pm an cdv ct) ps sp := by
 refine ⟨len, λA outer s H args us vs Q E hr e0 hb r hsp => ?_⟩
 have hl := len _ _ _ _ hsp
 have KX : K.In s.heap := e0.mod.kin.keeps λb o e => (e0.bs b o e).1
 have lim : s.heap.NoLimit := e0.mod.nolimit.keeps λb o e => (e0.bs b o e).1
 have hkind : ∀ y ∈ ps.zip us, scope.names.lookup y.1 = some .local \/ (scope.names.lookup y.1 = some .cell /\ ((cellsFrom (s.heap.objs.size + 1) scope.names []).lookup y.1).isSome = true) := λ⟨n, v⟩ hy => by
  rcases S.par n (List.of_mem_zip hy).1 with q | q
  ·exact .inl q
  ·exact .inr ⟨q, PySem.W.cellsFrom_some _ _ _ (.inl q)⟩
 refine codeAny_call_function hr.depth (KX _ _ lk) rfl S.co S.gen rfl (PySem.W.codeRec_of KX hcd) (hb _ _ _ _ ?_)
 refine wpAny_newFunctionEnv_cells S.kind hkind λenv he s1 x => ?_
 subst he
 refine ⟨lim.keeps x.toInCall.keep, codeAny_func ?_⟩
 obtain ⟨t, ht, hq⟩ := hbody A outer s H vs Q E (hr.deeper _) hsp
 have I : Inv (Uq CX P w K mg base N qual scope f cdv A outer s H E) [] (Hz N vs) H s1 := Xk S hr.hd e0 hl r x
 refine wpAny_mono (ht [] s1 (Hz N vs) H _ I hq) (λfl s' hs => ?_) λe s' hs => hs
 have fin : ∀ {Z' : St} {H' : Hp} {v : V} {u : Value}, Inv (Uq CX P w K mg base N qual scope f cdv A outer s H E) [] Z' H' s' -> RelV v u -> Q v H' -> CE outer P w H s Q u s' :=
  λ{Z' H' v u} J rv q => ⟨v, H', J.os, J.bare, J.base, J.hok, rv, q⟩
 cases fl with
 | ret u =>
  obtain ⟨v, Z', H', J, rv, q⟩ := hs
  exact fin J rv q
 | next =>
  obtain ⟨Z', H', J, q⟩ := hs
  exact fin (v := V.non) (u := Value.none) J rfl q
 | brk =>
  obtain ⟨_, _, _, q⟩ := hs
  exact False.elim q
 | cont =>
  obtain ⟨_, _, _, q⟩ := hs
  exact False.elim q
section
variable {X : Cx} {x : Str} {p pos : Pos} {e : Expr} {es : List Expr} {t : TA} {id T : String} {r : List V -> Hp -> VK -> Prop}
def tCB (r : List V -> Hp -> VK -> Prop) (t : TA) : TE := λZ H Q => t Z H λvs H1 => r vs H1 Q
theorem Yw (hc : CallR X (.builtin id) r) (hg : Gl X x) (hm : X.mg x = none) (hv : bootBuiltins x = some (.builtin id)) (ha : PA X (e :: es) t) (hn : x ≠ "__name__" := by decide) (hdb : (x == ("__debug__" : Str)) = false := by decide)
  (he : starEach (e :: es) X.env = (false, eval e X.env) :: starEach es X.env := by rfl) (hpl : (backTo pos (starEach es X.env)).any (·.1) = false := by rfl) : PE X (.Call (.Name x p) (e :: es) [] pos) (tCB r t) := by
 intro pins s Z H Q I h
 refine wpAny_Call_Name_kw (E9 I hg hm hv ?_ hn hdb)
 exact PyProof.Rows.callWith_builtin1 (thn (ha pos pins s Z H _ I h) λus s1 ⟨vs, H1, I1, r1, q1⟩ => hc pins s1 Z H1 vs us Q I1 r1 q1) he hpl
theorem Wn (hc : CallR X (.type T) r) (hg : Gl X x) (hm : X.mg x = none) (hv : bootBuiltins x = some (.type T)) (ha : PA X (e :: es) t) (hn : x ≠ "__name__" := by decide) (hdb : (x == ("__debug__" : Str)) = false := by decide)
  (he : starEach (e :: es) X.env = (false, eval e X.env) :: starEach es X.env := by rfl) (hpl : (backTo pos (starEach es X.env)).any (·.1) = false := by rfl) : PE X (.Call (.Name x p) (e :: es) [] pos) (tCB r t) := by
 intro pins s Z H Q I h
 refine wpAny_Call_Name_kw (E9 I hg hm hv ?_ hn hdb)
 exact Zya (thn (ha pos pins s Z H _ I h) λus s1 ⟨vs, H1, I1, r1, q1⟩ => hc pins s1 Z H1 vs us Q I1 r1 q1) he hpl
end
end L2
namespace HT
open PySem PyProof.Rows
section
open PySem.SeqAt
open PySem.AutoSeq1 (wpAny_loadPart')
open PySem.MeetsSeq PySem.MeetsSeq2 PySem.MeetsSeq3
end
section
variable {prog : Program} {w : World} {A : Around} {E : Value -> Shared -> Prop} {s : Shared}
def sIx (n d : Nat) : Option Int -> Nat
 | none => d
 | some v => if v < 0 then (v + (n : Int)).toNat else min v.toNat n
end
end HT
namespace L2
open PySem PySem.Spec PyProof.Rows
abbrev TO := St -> Hp -> (Option Int -> Hp -> Prop) -> Prop
def PO (X : Cx) (e : Option Expr) (t : TO) : Prop :=
 ∀ (pins : List (Addr × Obj)) (s : Shared) (Z : St) (H : Hp) (Q : Option Int -> Hp -> Prop), Inv X pins Z H s -> t Z H Q ->
  wpAny (model X.prog X.w) X.A (evalPart e X.env) (λu s' => ∃ o H', Inv X pins Z H' s' /\ IsPart u o /\ Q o H') X.xe s
def tNoPart : TO := λ_ H Q => Q none H
def iw (t : TE) : TO := λZ H Q => t Z H λx H1 => ∃ i, x = .int i /\ Q (some i) H1
section
variable {X : Cx} {e : Expr} {te : TE} {lo hi : Option Expr} {tl th : TO} {pos p2 : Pos}
theorem Jd : PO X none tNoPart := by
 intro pins s Z H Q I h
 rw [evalPart_none]
 exact wpAny_pure ⟨none, H, I, .none, h⟩
theorem Gb (h : PE X e te) : PO X (some e) (iw te) := by
 intro pins s Z H Q I hw
 rw [evalPart_some]
 refine thn (h pins s Z H _ I hw) λu s1 ⟨x, H1, I1, r1, q1⟩ => ?_
 obtain ⟨i, rfl, q⟩ := q1
 obtain ⟨t, rfl⟩ := r1
 exact ⟨some i, H1, I1, .int i t, q⟩
def SlR (X : Cx) (r : V -> Option Int -> Option Int -> Hp -> VK -> Prop) : Prop :=
 ∀ (pins : List (Addr × Obj)) (s : Shared) (Z : St) (H : Hp) (x : V) (v vl vu : Value) (lo hi : Option Int) (sl : Addr) (Q : VK), Inv X pins Z H s -> RelV x v -> s.heap.IsSliceOf sl vl vu .none -> IsPart vl lo -> IsPart vu hi -> r x lo hi H Q ->
  ∃ T id, typeLookup (.type T) "__getitem__" = pure (some (.builtin id)) /\ s.TypeIs v T /\ wpAny (model X.prog X.w) X.A (getItem v (.ref sl)) (EP X pins Z Q) X.xe s
def tSl (r : V -> Option Int -> Option Int -> Hp -> VK -> Prop) (te : TE) (tl th : TO) : TE := λZ H Q => te Z H λx H1 => tl Z H1 λl H2 => th Z H2 λu H3 => r x l u H3 Q
theorem Fw {r : V -> Option Int -> Option Int -> Hp -> VK -> Prop} (hr : SlR X r) (he : PE X e te) (hl : PO X lo tl) (hu : PO X hi th) : PE X (.Subscript e (.Slice lo hi none p2) pos) (tSl r te tl th) := by
 intro pins s Z H Q I h
 refine Subscript_ (thn (he pins s Z H _ I h) λv s1 ⟨x, H1, I1, r1, q1⟩ => ?_)
 refine wpAny_Slice (thn (hl pins s1 Z H1 _ I1 q1) λvl s2 ⟨l, H2, I2, pl, q2⟩ => thn (hu pins s2 Z H2 _ I2 q2) λvu s3 ⟨u, H3, I3, pu, q3⟩ => ?_)
 rw [evalPart_none]
 refine wpAny_pure ?_
 have I4 : Inv X pins Z H3 { s3 with heap := s3.heap.push { cls := .type "slice", data := .fields #[vl, vu, .none] } } := I3.kept (t' := s3.toks) λb ob q => Zzy _ q
 obtain ⟨T, id, hT, ht, hg⟩ := hr pins { s3 with heap := s3.heap.push { cls := .type "slice", data := .fields #[vl, vu, .none] } } Z H3 x v vl vu l u s3.heap.objs.size Q I4 r1 (Heap.IsSliceOf.new ..) pl pu q3
 show wpAny (model X.prog X.w) X.A (subscriptTail e (.Slice lo hi none p2) v (.ref s3.heap.objs.size)) (EP X pins Z Q) X.xe { s3 with heap := s3.heap.push { cls := .type "slice", data := .fields #[vl, vu, .none] } }
 exact tail_any (ops := [.ref s3.heap.objs.size, v]) ht hT hg (by with_unfolding_all rfl)
def Hv (xs : List V) (lo hi : Option Int) : List V := (xs.drop (HT.sIx xs.length 0 lo)).take (HT.sIx xs.length xs.length hi - HT.sIx xs.length 0 lo)
theorem Lb (xs : List V) (lo hi : Option Int) : (Hv xs lo hi).length <= xs.length := by
 unfold Hv
 rw [Zym, Zxs]
 omega
end
def ixN (n : Nat) (i : Int) : Option Nat := if 0 <= i then (if i < n then some i.toNat else none) else if -(n : Int) <= i then some (i + n).toNat else none
def atI {α : Type} (xs : List α) (i : Int) : Option α := (ixN xs.length i).bind λj => xs[j]?
theorem Vr {n : Nat} {i : Int} {j : Nat} (h : ixN n i = some j) : seqIndex? i n = some j /\ j < n /\ -(n : Int) <= i /\ i < n := by
 unfold ixN at h
 by_cases h0 : 0 <= i
 ·rw [if_pos h0] at h
  by_cases h1 : i < n
  ·rw [if_pos h1] at h
   have e : i.toNat = j := Zzn h
   exact ⟨by rw [seqIndex_of h0 h1, e], by omega, by omega, h1⟩
  ·rw [if_neg h1] at h; cases h
 ·rw [if_neg h0] at h
  by_cases h1 : -(n : Int) <= i
  ·rw [if_pos h1] at h
   have e : (i + n).toNat = j := Zzn h
   exact ⟨by rw [seqIndex_neg (by omega) h1, e], by omega, h1, by omega⟩
  ·rw [if_neg h1] at h; cases h
theorem Rk {α : Type} {xs : List α} {i : Int} {v : α} (h : atI xs i = some v) : ∃ j, seqIndex? i xs.length = some j /\ xs[j]? = some v /\ j < xs.length /\ -(xs.length : Int) <= i /\ i < xs.length := by
 unfold atI at h
 cases e : ixN xs.length i with
 | none => rw [e] at h; cases h
 | some j =>
  rw [e] at h
  obtain ⟨h1, h2, h3, h4⟩ := Vr e
  exact ⟨j, h1, h, h2, h3, h4⟩
theorem Hs {α : Type} {xs : List α} {j : Nat} {v : α} (h : xs[j]? = some v) : atI xs (j : Int) = some v := by
 have hj : j < xs.length := (Zzh.mp h).1
 have e : ixN xs.length (j : Int) = some j := by
  unfold ixN
  rw [if_pos (by omega), if_pos (by omega)]; simp
 unfold atI; rw [e]; exact h
def W2 (b : Expr) : Prop := ∀ o i, subscripted b false o i = operate [o, i] (getItem o i)
def IxR (X : Cx) (r : R2) : Prop :=
 ∀ (value slice : Expr) (pins : List (Addr × Obj)) (s : Shared) (Z : St) (H : Hp) (x y : V) (v u : Value) (Q : VK), Inv X pins Z H s -> RelV x v -> RelV y u -> r x y H Q ->
  subscripted slice false v u = operate [v, u] (getItem v u) -> wpAny (model X.prog X.w) X.A (subscriptTail value slice v u) (EP X pins Z Q) X.xe s
def MtR (X : Cx) (id : String) (r : V -> List V -> Hp -> VK -> Prop) : Prop :=
 ∀ (pins : List (Addr × Obj)) (s : Shared) (Z : St) (H : Hp) (x : V) (xs : List V) (v : Value) (us : List Value) (Q : VK), Inv X pins Z H s -> RelV x v -> Vals xs us -> r x xs H Q ->
  wpAny (model X.prog X.w) X.A (call (.builtin id) (v :: us)) (EP X pins Z Q) X.xe s
section
variable {X : Cx} {a b : Expr} {ta tb : TE} {pos : Pos}
theorem Ys {r : R2} (hr : IxR X r) (ha : PE X a ta) (hb : PE X b tb) (hs : W2 b) : PE X (.Subscript a b pos) (tOp r ta tb) := by
 intro pins s Z H Q I h
 exact Subscript_ (mr ha hb I h λv u s2 x y H2 I2 rx ry q => hr a b pins s2 Z H2 x y v u Q I2 rx ry q (hs _ _))
def pc (K : Zzv) : R2 := λx y H Q => ∃ p xs i v, x = .ref p /\ y = .int i /\ SqL K H p xs /\ atI xs i = some v /\ Q v H
def rIxT (K : Zzv) : R2 := λx y H Q => ∃ p xs i v, x = .ref p /\ y = .int i /\ SqT K H p xs /\ atI xs i = some v /\ Q v H
def rIxS : R2 := λx y H Q => ∃ z i c, x = .str z /\ y = .int i /\ z.length <= sizeLine /\ atI z.cps.toList i = some c /\ Q (.str ⟨#[c]⟩) H
theorem Qv : IxR X (pc X.K) := by
 intro value slice pins s Z H x y v u Q I rx ry h hs
 obtain ⟨p, xs, i, z, rfl, rfl, hq, he, q⟩ := h
 cases rx
 obtain ⟨t, rfl⟩ := ry
 obtain ⟨its, r, pl, hz⟩ := I.list hq
 obtain ⟨j, h1, h2, h3, h4, h5⟩ := Rk he
 obtain ⟨w, ew, rw'⟩ := r.get h2
 have hl := r.length
 have hn := Gy
 have fin : EP X pins Z Q w s := ⟨z, H, I, rw', q⟩
 by_cases h0 : 0 <= i
 ·have hj : i.toNat = j := by
   rw [seqIndex_of h0 h5] at h1
   exact Zzn h1
  exact item_listR pl.isList h0 (by omega) (by rw [hj]; simpa using ew) fin hs
 ·have hj : (i + (its.toArray.size : Int)).toNat = j := by
   rw [seqIndex_neg (by omega) h4] at h1
   rw [Zzp, <- hl]
   exact Zzn h1
  exact subscriptTail_builtinR (x := w) pl.isList.typeIs slot_list_getitem.lookup
   (wpAny_getItem_list_neg (Q := λr s' => r = w /\ EP X pins Z Q r s') pl.isList (by omega) (by rw [Zzp] <;> omega) (by omega) (by rw [hj]; simpa using ew) ⟨rfl, fin⟩) hs
theorem lx : IxR X (rIxT X.K) := by
 intro value slice pins s Z H x y v u Q I rx ry h hs
 obtain ⟨p, xs, i, z, rfl, rfl, hq, he, q⟩ := h
 cases rx
 obtain ⟨t, rfl⟩ := ry
 obtain ⟨its, r, pl, hz⟩ := I.tuple hq
 obtain ⟨j, h1, h2, h3, h4, h5⟩ := Rk he
 obtain ⟨w, ew, rw'⟩ := r.get h2
 have hl := r.length
 have hn := Gy
 have fin : EP X pins Z Q w s := ⟨z, H, I, rw', q⟩
 exact subscriptTail_builtinR (x := w) pl.typeIs slot_tuple_getitem.lookup
  (getItem_tuple (j := j) (Q := λr s' => r = w /\ EP X pins Z Q r s') pl (by omega) (by omega) (by rw [Zzp, <- hl]; exact h1) (by simpa using ew) ⟨rfl, fin⟩) hs
theorem ly : IxR X rIxS := by
 intro value slice pins s Z H x y v u Q I rx ry h hs
 obtain ⟨z, i, c, rfl, rfl, hz, he, q⟩ := h
 obtain ⟨t, rfl⟩ := rx
 obtain ⟨t', rfl⟩ := ry
 obtain ⟨j, h1, h2, h3, h4, h5⟩ := Rk he
 have hl : z.cps.toList.length = z.length := by simp [Str.length]
 rw [hl] at h1 h4 h5
 have hn := Gy
 exact tail_any (typeIs_str s z t) slot_str_getitem.lookup (getItem_str (c := c) (by
  have e1 : decide (i < -(2 ^ 63 : Int)) = false := decide_eq_false (by omega)
  have e2 : decide (i ≥ 2 ^ 63) = false := decide_eq_false (by omega)
  rw [e1, e2, Bool.or_false]) (by rw [h1]; simpa using h2) ⟨.str ⟨#[c]⟩, H, I.tok _, ⟨_, rfl⟩, q⟩) hs
theorem Uh (its : List Value) (n j : Nat) (u : Value) : Obj.mapSeq (·.setIfInBounds j u) { cls := .type "list", data := .seq its.toArray n } = { cls := .type "list", data := .seq (its.set j u).toArray n } := by
 simp [Obj.mapSeq]
theorem Inv.lst {pins : List (Addr × Obj)} {Z : St} {H : Hp} {s : Shared} {p : Addr} {xs : List V} (I : Inv X pins Z H s) (h : H p = some (.lst xs)) :
  ∃ (its : List Value) (n : Nat), Vals xs its /\ s.heap.get? p = some { cls := .type "list", data := .seq its.toArray n } /\ xs.length <= sizeLine := by
 obtain ⟨z, its, n, r, e⟩ := I.hok p _ h
 exact ⟨its, n, r, e, z⟩
theorem Inv.lstUpd {pins : List (Addr × Obj)} {Z : St} {H : Hp} {s : Shared} {p : Addr} {xs ys : List V} {its its' : List Value} {n n' : Nat} {f : Obj -> Obj} (I : Inv X pins Z H s) (h : H p = some (.lst xs))
  (ho : s.heap.get? p = some { cls := .type "list", data := .seq its.toArray n }) (hf : f { cls := .type "list", data := .seq its.toArray n } = { cls := .type "list", data := .seq its'.toArray n' }) (r : Vals ys its') (hz : ys.length <= sizeLine) (t : Nat) :
  Inv X pins Z (upd H p (.lst ys)) { s with heap := s.heap.update p f, toks := t } := by
 have e : (s.heap.update p f).get? p = some { cls := .type "list", data := .seq its'.toArray n' } := by
  rw [Zxi f ho (by rw [hf] <;> rfl), hf]
 refine I.write (x := p) (e := p) (by rw [h]; trivial) (.inl rfl) (λb u hb q => (Zy7 _ _ (Zzf hb)).trans q) ⟨_, e⟩ ?_
 exact ⟨hz, its', n', r, e⟩
def rSetL : V -> V -> V -> Hp -> (Hp -> Prop) -> Prop := λo i v H Q => ∃ p xs k j, o = .ref p /\ i = .int k /\ H p = some (.lst xs) /\ ixN xs.length k = some j /\ Q (upd H p (.lst (xs.set j v)))
theorem Da : Xz X rSetL := by
 intro pins s Z H o i v ov iv u Q I ro ri rv h
 obtain ⟨p, xs, k, j, rfl, rfl, hp, hj, q⟩ := h
 cases ro
 obtain ⟨t, rfl⟩ := ri
 obtain ⟨its, n, r, ho, hz⟩ := I.lst hp
 obtain ⟨h1, h2, h3, h4⟩ := Vr hj
 have hl := r.length
 have hn := Gy
 have I' : Inv X pins Z (upd H p (.lst (xs.set j v))) { s with heap := s.heap.update p (Obj.mapSeq (·.setIfInBounds j u)) } :=
  I.lstUpd hp ho (Uh its n j u) (r.set rv j) (by rw [Zx1]; exact hz) s.toks
 by_cases h0 : 0 <= k
 ·have hk : k.toNat = j := by
   rw [seqIndex_of h0 h4] at h1
   exact Zzn h1
  exact PySem.W.ki_setAt ho h0 (by omega) (by rw [Zzp, <- hl]; exact h4) (by rw [hk]; exact ⟨_, I', q⟩)
 ·have hk : (k + (its.toArray.size : Int)).toNat = j := by
   rw [seqIndex_neg (by omega) h3] at h1
   rw [Zzp, <- hl]
   exact Zzn h1
  exact PySem.W.ki_setBack ho (by omega) (by rw [Zzp, <- hl]; exact h3) (by omega) (by rw [hk]; exact ⟨_, I', q⟩)
theorem Px (lo hi : Option Int) (n : Nat) : (sliceBounds lo hi none n).1 = ((HT.sIx n 0 lo : Nat) : Int) /\ (sliceBounds lo hi none n).2.1 = ((HT.sIx n n hi : Nat) : Int) /\ (sliceBounds lo hi none n).2.2 = 1 := by
 refine ⟨?_, ?_, rfl⟩
 ·cases lo with
  | none => simp [sliceBounds, HT.sIx]
  | some i =>
   simp only [sliceBounds, HT.sIx, Option.getD_none, show (1 : Int) > 0 by decide, if_true]
   by_cases h : i < 0
   ·simp only [h, if_true] <;> omega
   ·simp only [h, if_false] <;> omega
 ·cases hi with
  | none => simp [sliceBounds, HT.sIx]
  | some i =>
   simp only [sliceBounds, HT.sIx, Option.getD_none, show (1 : Int) > 0 by decide, if_true]
   by_cases h : i < 0
   ·simp only [h, if_true] <;> omega
   ·simp only [h, if_false] <;> omega
theorem No (its : List Value) (lo hi : Option Int) : slicePick its.toArray lo hi none = ((its.drop (HT.sIx its.length 0 lo)).take (HT.sIx its.length its.length hi - HT.sIx its.length 0 lo)).toArray := by
 obtain ⟨h1, h2, h3⟩ := Px lo hi its.toArray.size
 unfold slicePick
 rw [h1, h2, h3]
 simp only [sliceRange_one, pick_run, Zzp] <;> rfl
def oz (K : Zzv) : V -> Option Int -> Option Int -> Hp -> VK -> Prop := λx lo hi H Q => ∃ a xs, x = .ref a /\ SqL K H a xs /\ ∀ p, H p = none -> Q (.ref p) (upd H p (.lst (Hv xs lo hi)))
theorem V7 : SlR X (oz X.K) := by
 intro pins s Z H x v vl vu lo hi sl Q I rx hs pl pu h
 obtain ⟨a, xs, rfl, hx, q⟩ := h
 cases rx
 obtain ⟨its, r, ht, hz⟩ := I.list hx
 have hlen := r.length
 refine ⟨"list", _, slot_list_getitem.lookup, ht.isList.typeIs, ?_⟩
 refine wpAny_getItem_list_slice ht.isList hs pl pu .none (by simp) ?_ (by rw [Zzp] <;> omega)
 rw [No, <- hlen]
 refine ⟨.ref s.heap.objs.size, _, I.laid (t' := s.toks) (o := .lst (Hv xs lo hi)) (λb ob q => Zzy _ q) (Zzt _) ?_, rfl, q _ (I.hok.fresh (Zzt _))⟩
 exact ⟨Zyx (Lb xs lo hi) hz, _, 0, (r.drop (HT.sIx xs.length 0 lo)).take (HT.sIx xs.length xs.length hi - HT.sIx xs.length 0 lo), Zzi _ rfl⟩
def Ia : V -> Bool
 | .non => true
 | .bl _ => true
 | .int _ => true
 | .str _ => true
 | _ => false
def eqV : V -> V -> Bool
 | .non, .non => true
 | .bl a, .bl b => a == b
 | .bl a, .int b => (if a then 1 else 0) == b
 | .int a, .bl b => a == (if b then 1 else 0)
 | .int a, .int b => a == b
 | .str a, .str b => a == b
 | _, _ => false
theorem m8 {A : Around} {s : Shared} {y x : V} {u v : Value} (ry : RelV y u) (rx : RelV x v) (fy : Ia y = true) (fx : Ia x = true) : SeqAt.EqAt A s u v (eqV y x) := by
 cases y with
 | non =>
  cases ry
  cases x with
  | non => cases rx; exact SeqAt.EqAt.same _
  | bl b => cases rx; exact SeqAt.EqAt.none_bool b
  | int b => obtain ⟨t, rfl⟩ := rx; exact SeqAt.EqAt.none_int b t
  | str b => obtain ⟨t, rfl⟩ := rx; exact SeqAt.EqAt.none_str b t
  | _ => exact absurd (show false = true from fx) Zz7
 | bl a =>
  cases ry
  cases x with
  | non => cases rx; exact SeqAt.EqAt.bool_none a
  | bl b => cases rx; exact SeqAt.EqAt.bool_bool a b
  | int b => obtain ⟨t, rfl⟩ := rx; exact SeqAt.EqAt.bool_int a b t
  | str b => obtain ⟨t, rfl⟩ := rx; exact SeqAt.EqAt.bool_str a b t
  | _ => exact absurd (show false = true from fx) Zz7
 | int a =>
  obtain ⟨t', rfl⟩ := ry
  cases x with
  | non => cases rx; exact SeqAt.EqAt.int_none a t'
  | bl b => cases rx; exact SeqAt.EqAt.int_bool a t' b
  | int b => obtain ⟨t, rfl⟩ := rx; exact SeqAt.EqAt.int_int a t' b t
  | str b => obtain ⟨t, rfl⟩ := rx; exact SeqAt.EqAt.int_str a t' b t
  | _ => exact absurd (show false = true from fx) Zz7
 | str a =>
  obtain ⟨t', rfl⟩ := ry
  cases x with
  | non => cases rx; exact SeqAt.EqAt.str_none a t'
  | bl b => cases rx; exact SeqAt.EqAt.str_bool a t' b
  | int b => obtain ⟨t, rfl⟩ := rx; exact SeqAt.EqAt.str_int a t' b t
  | str b => obtain ⟨t, rfl⟩ := rx; exact SeqAt.EqAt.str_str a t' b t
  | _ => exact absurd (show false = true from fx) Zz7
 | _ => exact absurd (show false = true from fy) Zz7
def eqU (x : V) (u : Value) : Bool := match u with
 | .none => eqV .non x
 | .bool b => eqV (.bl b) x
 | .int i _ => eqV (.int i) x
 | .str z _ => eqV (.str z) x
 | _ => false
theorem ab {x y : V} {u : Value} (r : RelV y u) (f : Ia y = true) : eqU x u = eqV y x := by
 cases y with
 | non => cases r; rfl
 | bl b => cases r; rfl
 | int i => obtain ⟨t, rfl⟩ := r; rfl
 | str z => obtain ⟨t, rfl⟩ := r; rfl
 | _ => exact absurd (show false = true from f) Zz7
theorem Rl {x : V} : ∀ {xs : List V} {us : List Value}, Vals xs us -> xs.all Ia = true -> us.any (eqU x) = xs.any λy => eqV y x
 | _, _, .nil, _ => rfl
 | y :: xs, u :: us, .cons r t, f => by
  rw [Zw5, Zyi] at f
  rw [Zww, Zww, ab r f.1, Rl t f.2]
theorem Mq {A : Around} {s : Shared} {x : V} {v : Value} (rx : RelV x v) (fx : Ia x = true) : ∀ {xs : List V} {us : List Value}, Vals xs us -> xs.all Ia = true -> ∀ u ∈ us, SeqAt.EqAt A s u v (eqU x u)
 | _, _, .nil, _ => λu hu => by cases hu
 | y :: xs, u :: us, .cons r t, f => λu' hu => by
  rw [Zw5, Zyi] at f
  rcases Zzo.mp hu with rfl | hu
  ·rw [ab r f.1]; exact m8 r rx f.1 fx
  ·exact Mq rx fx t f.2 u' hu
def inV (x : V) (xs : List V) : Bool := xs.any λy => eqV y x
def rIn (K : Zzv) (neg : Bool) : R2 := λx y H Q => ∃ p xs, y = .ref p /\ (SqL K H p xs \/ SqT K H p xs) /\ Ia x = true /\ xs.all Ia = true /\ Q (.bl (if neg then !inV x xs else inV x xs)) H
theorem Wq : OpR X (compareOp .In) (rIn X.K false) := by
 intro pins s Z H x y v u Q I rx ry h
 obtain ⟨p, xs, rfl, hq, fx, fs, q⟩ := h
 cases ry
 rcases hq with hq | hq
 ·obtain ⟨its, r, pl, hz⟩ := I.list hq
  refine SeqAt.in_listAt (eqU x) pl.isList (λw hw => Mq rx fx r fs w (by simpa using hw)) ⟨.bl _, H, I, rfl, ?_⟩
  rw [show its.toArray.any (eqU x) = its.any (eqU x) by simp, Rl r fs]
  exact q
 ·obtain ⟨its, r, pl, hz⟩ := I.tuple hq
  refine SeqAt.in_tupleAt (eqU x) pl (λw hw => Mq rx fx r fs w (by simpa using hw)) ⟨.bl _, H, I, rfl, ?_⟩
  rw [show its.toArray.any (eqU x) = its.any (eqU x) by simp, Rl r fs]
  exact q
theorem Jt : CallR X (.builtin "len") (λxs H Q => ∃ p ys, xs = [.ref p] /\ (SqL X.K H p ys \/ SqT X.K H p ys) /\ Q (.int ys.length) H) := by
 intro pins s Z H xs us Q I r h
 obtain ⟨p, ys, rfl, hq, q⟩ := h
 obtain ⟨u, rfl, rx⟩ := Eu r
 cases rx
 have hn := Gy
 rcases hq with hq | hq
 ·obtain ⟨its, r', pl, hz⟩ := I.list hq
  have hlen := r'.length
  exact Calls.call_len_list pl.isList (by simp only [Zzp] <;> omega) ⟨.int ys.length, H, I.tok _, ⟨s.toks + 1, by rw [Zzp, hlen]⟩, q⟩
 ·obtain ⟨its, r', pl, hz⟩ := I.tuple hq
  have hlen := r'.length
  exact len_tuple pl (by simp only [Zzp] <;> omega) ⟨.int ys.length, H, I.tok _, ⟨s.toks + 1, by rw [Zzp, hlen]⟩, q⟩
theorem Ri : CallR X (.builtin "len") (λxs H Q => ∃ z, xs = [.str z] /\ z.length <= sizeLine /\ Q (.int z.length) H) := by
 intro pins s Z H xs us Q I r h
 obtain ⟨z, rfl, hz, q⟩ := h
 obtain ⟨u, rfl, t, rfl⟩ := Eu r
 have hn := Gy
 exact len_str (by omega) ⟨.int z.length, H, I.tok _, ⟨_, rfl⟩, q⟩
theorem Rh : CallR X (.type "list") (λxs H Q => ∃ p ys, xs = [.ref p] /\ (SqL X.K H p ys \/ SqT X.K H p ys) /\ ∀ l, H l = none -> Q (.ref l) (upd H l (.lst ys))) := by
 intro pins s Z H xs us Q I r h
 obtain ⟨p, ys, rfl, hq, q⟩ := h
 obtain ⟨u, rfl, rx⟩ := Eu r
 cases rx
 have fin : ∀ (its : List Value), Vals ys its -> ys.length <= sizeLine -> ∀ (h' : Heap) (c' : Nat), (∀ b o', s.heap.get? b = some o' -> h'.get? b = some o') ->
   h'.get? s.heap.objs.size = some { cls := .type "list", dict := none, data := .seq its.toArray c', slots := #[] } -> EP X pins Z Q (.ref s.heap.objs.size) { s with heap := h' } := λits r' hz h' c' kp e =>
  ⟨.ref s.heap.objs.size, _, I.laid (t' := s.toks) kp (Zzt _) (show ObjOk X.prog X.w _ h' _ (.lst ys) from ⟨hz, its, c', r', e⟩), rfl, q _ (I.hok.fresh (Zzt _))⟩
 rcases hq with hq | hq
 ·obtain ⟨its, r', pl, hz⟩ := I.list hq
  have hlen := r'.length
  obtain ⟨o, ho, hc, n, hd⟩ := pl.isList
  exact call_list_seq p (.inl rfl) ho hc hd (λh' c' kp e => fin its r' hz h' c' kp e) (by simp only [Zzp] <;> omega)
 ·obtain ⟨its, r', pl, hz⟩ := I.tuple hq
  have hlen := r'.length
  obtain ⟨o, ho, hc, n, hd⟩ := pl
  exact call_list_seq p (.inr rfl) ho hc hd (λh' c' kp e => fin its r' hz h' c' kp e) (by simp only [Zzp] <;> omega)
theorem Ol : CallR X (.type "tuple") (λxs H Q => ∃ p ys, xs = [.ref p] /\ ((SqL X.K H p ys /\ ∀ l, H l = none -> Q (.ref l) (upd H l (.tup ys))) \/ (SqT X.K H p ys /\ Q (.ref p) H))) := by
 intro pins s Z H xs us Q I r h
 obtain ⟨p, ys, rfl, h⟩ := h
 obtain ⟨u, rfl, rx⟩ := Eu r
 cases rx
 rcases h with ⟨hq, q⟩ | ⟨hq, q⟩
 ·obtain ⟨its, r', pl, hz⟩ := I.list hq
  have hlen := r'.length
  refine call_tuple_list pl.isList (λh' kp => ?_) (by simp only [Zzp] <;> omega)
  have I1 : Inv X pins Z H { s with heap := h' } := I.kept (t' := s.toks) kp
  have I2 : Inv X pins Z (upd H h'.objs.size (.tup ys)) { s with heap := h'.push { cls := .type "tuple", data := .seq its.toArray } } :=
   I1.laid (t' := s.toks) (λb o e => Zzy _ e) (Zzt _) (show ObjOk X.prog X.w _ _ _ (.tup ys) from ⟨hz, its, r', IsTup.new _ _⟩)
  exact ⟨.ref h'.objs.size, _, I2, rfl, q _ (I1.hok.fresh (Zzt _))⟩
 ·obtain ⟨its, r', pl, hz⟩ := I.tuple hq
  exact call_tuple_same pl ⟨.ref p, H, I, rfl, q⟩
def tyV (K : Zzv) (T : String) (x : V) (H : Hp) : Prop := match x with
 | .str _ => T = "str"
 | .int _ => T = "int"
 | .ref p => (T = "list" /\ ∃ xs, SqL K H p xs) \/ (T = "tuple" /\ ∃ o, K.lookup p = some o /\ o.cls = .type "tuple" /\ o.dict = none) \/
   (T = "dict" /\ ((∃ kvs, H p = some (.dK kvs)) \/ ∃ kvs, H p = some (.dT kvs))) \/ (T = "set" /\ ∃ S n, H p = some (.set S n))
 | _ => False
theorem Y6 {pins : List (Addr × Obj)} {Z : St} {H : Hp} {s : Shared} {T : String} {x : V} {v : Value} (I : Inv X pins Z H s) (r : RelV x v) (ty : tyV X.K T x H) :
  s.TypeIs v T /\ ∀ a, v = .ref a -> ∃ ob, s.heap.get? a = some ob /\ ob.dict = none := by
 cases x with
 | str z =>
  obtain ⟨t, rfl⟩ := r
  cases (show T = "str" from ty)
  exact ⟨typeIs_str s z t, λ_ e => nomatch e⟩
 | int i =>
  obtain ⟨t, rfl⟩ := r
  cases (show T = "int" from ty)
  exact ⟨typeIs_int s i t, λ_ e => nomatch e⟩
 | ref p =>
  cases r
  rcases ty with ⟨rfl, xs, hq⟩ | ⟨rfl, o, hk, hc, hd⟩ | ⟨rfl, hk⟩ | ⟨rfl, S, n, hk⟩
  ·obtain ⟨its, _, pl, _⟩ := I.list hq
   refine ⟨pl.isList.typeIs, λa e => ?_⟩
   cases e
   obtain ⟨o, n, e, c, hd, _⟩ := pl
   exact ⟨o, e, hd⟩
  ·refine ⟨⟨o, I.kIn p o hk, hc⟩, λa e => ?_⟩
   cases e
   exact ⟨o, I.kIn _ o hk, hd⟩
  ·have z : ∃ o, s.heap.get? p = some o /\ o.ExactDict := by
    rcases hk with ⟨kvs, hk⟩ | ⟨kvs, hk⟩
    ·obtain ⟨_, _, _, _, o, _, _, e, ex, _⟩ := I.hok p _ hk
     exact ⟨o, e, ex⟩
    ·obtain ⟨_, _, _, _, o, _, _, e, ex, _⟩ := I.hok p _ hk
     exact ⟨o, e, ex⟩
   obtain ⟨o, e, ex⟩ := z
   refine ⟨⟨o, e, ex.1⟩, λa e2 => ?_⟩
   cases e2
   exact ⟨o, e, ex.2.1⟩
  ·obtain ⟨o, _, _, _, e, ex, _⟩ := I.hok p _ hk
   refine ⟨⟨o, e, ex.1⟩, λa e2 => ?_⟩
   cases e2
   exact ⟨o, e, ex.2.1⟩
 | _ => exact False.elim ty
variable {o e : Expr} {es : List Expr} {to : TE} {t : TA} {name : Str} {apos cpos : Pos} {T id : String} {r : V -> List V -> Hp -> VK -> Prop}
end
def MtM (X : Cx) (id : String) (r : V -> List V -> Hp -> VK -> Prop) : Prop :=
 ∀ (pins : List (Addr × Obj)) (s : Shared) (Z : St) (H : Hp) (x : V) (xs : List V) (v : Value) (us : List Value) (Q : VK), Inv X pins Z H s -> RelV x v -> Vals xs us -> r x xs H Q ->
  wpAny (model X.prog X.w) X.A (call (.builtin id) (v :: us)) (EP X pins Z Q) X.xe s
theorem Vals.one : ∀ {x : V} {us : List Value}, Vals [x] us -> ∃ u, us = [u] /\ RelV x u
 | _, _, .cons r .nil => ⟨_, rfl, r⟩
theorem Vals.zero : ∀ {us : List Value}, Vals [] us -> us = []
 | _, .nil => rfl
theorem Vals.dropLast {xs : List V} {us : List Value} (h : Vals xs us) : Vals xs.dropLast us.dropLast := by
 induction h with
 | nil => exact .nil
 | cons r t ih =>
  cases t with
  | nil => exact .nil
  | cons q t' => exact .cons r ih
theorem Vals.eraseIdx : ∀ {xs : List V} {us : List Value} (i : Nat), Vals xs us -> Vals (xs.eraseIdx i) (us.eraseIdx i)
 | _, _, _, .nil => .nil
 | _, _, 0, .cons _ t => t
 | _, _, i + 1, .cons r t => .cons r (Vals.eraseIdx i t)
theorem Vals.reverse {xs : List V} {us : List Value} (h : Vals xs us) : Vals xs.reverse us.reverse := by
 induction h with
 | nil => exact .nil
 | cons r t ih => rw [Zwa, Zwa]; exact Vals.append ih (.cons r .nil)
theorem Vals.rep {xs : List V} {us : List Value} (h : Vals xs us) : ∀ k : Nat, Vals (Zyq k xs).flatten (Zyq k us).flatten
 | 0 => .nil
 | k + 1 => by
  rw [Zxw, Zxw, Zw9, Zw9]
  exact Vals.append h (Vals.rep h k)
theorem Um {α : Type} (l : List α) : l.eraseIdx (l.length - 1) = l.dropLast := by
 induction l with
 | nil => rfl
 | cons a r ih =>
  cases r with
  | nil => rfl
  | cons b r =>
   have e : (a :: b :: r).length - 1 = ((b :: r).length - 1) + 1 := by
    have h1 : (a :: b :: r).length = r.length + 2 := rfl
    have h2 : (b :: r).length = r.length + 1 := rfl
    omega
   rw [e, List.eraseIdx_cons_succ, ih]
   all_goals rfl
theorem Oz {α : Type} : ∀ (l : List α) (i : Nat), (l.eraseIdx i).length <= l.length
 | [], _ => Zzt _
 | _ :: _, 0 => Zw7 _
 | _ :: r, i + 1 => Nat.succ_le_succ (Oz r i)
theorem P6 (its : List Value) : ∀ (k : Nat) (acc : List Value),
  List.foldl (λx1 x2 => x1 ++ x2) acc.toArray (Zyq k its.toArray) = (acc ++ (Zyq k its).flatten).toArray
 | 0, acc => by simp
 | k + 1, acc => by
  have e : acc.toArray ++ its.toArray = (acc ++ its).toArray := by simp
  have e2 : (acc ++ its) ++ (Zyq k its).flatten = acc ++ (Zyq (k + 1) its).flatten := by
   rw [Zxw, Zw9, Zxx]
  rw [<- e2, <- P6 its k (acc ++ its), <- e, Zxw, List.foldl_cons]
section
variable {X : Cx} {pins : List (Addr × Obj)} {Z : St} {H : Hp} {s : Shared} {l b : Addr} {xs ys zs : List V}
theorem Inv.lset {its its' : List Value} {n : Nat} {f : Array Value -> Array Value} {t' : Nat} (I : Inv X pins Z H s) (hH : H l = some (.lst xs))
  (e : s.heap.get? l = some { cls := .type "list", data := .seq its.toArray n }) (hf : f its.toArray = its'.toArray) (hv : Vals ys its') (hz : ys.length <= sizeLine) :
  Inv X pins Z (upd H l (.lst ys)) { s with heap := s.heap.update l (Obj.mapSeq f), toks := t' } := by
 have q := PySem.IsL.update e f
 rw [hf] at q
 refine I.write (x := l) (e := l) (by rw [hH]; exact trivial) (.inl rfl) (λb' u hb hu => (Zy7 s.heap (Obj.mapSeq f) (Zzf hb)).trans hu) ⟨_, q⟩ ?_
 exact ⟨hz, its', _, hv, q⟩
theorem Inv.lnew {its : List Value} {t' : Nat} (I : Inv X pins Z H s) (hv : Vals ys its) (hz : ys.length <= sizeLine) :
  Inv X pins Z (upd H s.heap.objs.size (.lst ys)) { s with heap := s.heap.push { cls := .type "list", data := .seq its.toArray }, toks := t' } :=
 I.laid (λ_ _ q => Zzy _ q) (Zzt _) ⟨hz, its, 0, hv, Zzi _ rfl⟩
theorem Inv.fresh (I : Inv X pins Z H s) : H s.heap.objs.size = none := I.hok.fresh (Zzt _)
theorem Inv.lstM (I : Inv X pins Z H s) (hH : H l = some (.lst xs)) : xs.length <= sizeLine /\ ∃ (its : List Value) (n : Nat), Vals xs its /\ xs.length = its.length /\ s.heap.get? l = some { cls := .type "list", data := .seq its.toArray n } := by
 obtain ⟨z, its, n, r, e⟩ := I.hok l _ hH
 exact ⟨z, its, n, r, r.length, e⟩
theorem Z2 {n : Nat} (h : n <= sizeLine) : Zwj n = false := by
 unfold Zwj
 exact decide_eq_false (by omega)
end
section
variable {X : Cx}
def rAppend : V -> List V -> Hp -> VK -> Prop := λx vs H Q => ∃ l xs y, x = .ref l /\ vs = [y] /\ H l = some (.lst xs) /\ xs.length < sizeLine /\ Q .non (upd H l (.lst (xs ++ [y])))
theorem Bj : MtM X "list.append" rAppend := by
 intro pins s Z H x vs v us Q I rx rv h
 obtain ⟨l, xs, y, rfl, rfl, hH, hz, q⟩ := h
 cases rx
 obtain ⟨u, rfl, ru⟩ := rv.one
 obtain ⟨z, its, n, r, hl, e⟩ := I.lstM hH
 refine call_meets F.slot_list_append ⟨_, e, rfl⟩ F.entry_list_append (F.args_list_append_2 _ _) (PySem.list_append l its.toArray n u (by rw [Zzp]; omega)) ⟨e, ?_⟩
 refine ⟨.non, _, I.lset (its' := its ++ [u]) hH e (by simp) (r.append (.cons ru .nil)) ?_, rfl, q⟩
 rw [Zze, Zyt]
 omega
def rPop : V -> List V -> Hp -> VK -> Prop := λx vs H Q => ∃ l xs y, x = .ref l /\ vs = [] /\ H l = some (.lst xs) /\ xs[xs.length - 1]? = some y /\ Q y (upd H l (.lst xs.dropLast))
theorem ky : MtM X "list.pop" rPop := by
 intro pins s Z H x vs v us Q I rx rv h
 obtain ⟨l, xs, y, rfl, rfl, hH, hy, q⟩ := h
 cases rx
 have hus := rv.zero
 subst hus
 obtain ⟨z, its, n, r, hl, e⟩ := I.lstM hH
 obtain ⟨u, hu, ru⟩ := r.get hy
 have hy' : its.toArray[its.toArray.size - 1]? = some u := by
  show its.toArray[its.length - 1]? = some u
  rw [<- Zw2, <- hl]
  exact hu
 refine call_meets F.slot_list_pop ⟨_, e, rfl⟩ F.entry_list_pop (F.args_list_pop_1 _) (MeetsSeq.list_pop_last l its.toArray n u hy' (by rw [Zzp]; omega)) ⟨e, ?_⟩
 refine ⟨y, _, I.lset (its' := its.dropLast) hH e ?_ r.dropLast ?_, ru, q⟩
 ·show its.toArray.eraseIdxIfInBounds (its.toArray.size - 1) = its.dropLast.toArray
  rw [Zzp, List.eraseIdxIfInBounds_toArray, Um]
 ·rw [List.length_dropLast]
  omega
def rPopAt : V -> List V -> Hp -> VK -> Prop := λx vs H Q => ∃ l xs i k y, x = .ref l /\ vs = [.int i] /\ H l = some (.lst xs) /\ -(2 ^ 63) <= i /\ i < 2 ^ 63 /\ seqIndex? i xs.length = some k /\ xs[k]? = some y /\ Q y (upd H l (.lst (xs.eraseIdx k)))
theorem Z8 : MtM X "list.pop" rPopAt := by
 intro pins s Z H x vs v us Q I rx rv h
 obtain ⟨l, xs, i, k, y, rfl, rfl, hH, h1, h2, hk, hy, q⟩ := h
 cases rx
 obtain ⟨u, rfl, ru⟩ := rv.one
 obtain ⟨t, rfl⟩ := ru
 obtain ⟨z, its, n, r, hl, e⟩ := I.lstM hH
 obtain ⟨w, hw, rw'⟩ := r.get hy
 refine call_meets F.slot_list_pop ⟨_, e, rfl⟩ F.entry_list_pop (F.args_list_pop_2 _ _)
  (MeetsSeq.list_pop_at l its.toArray n i t k w (fitsIndex_both h1 h2) (by rw [Zzp, <- hl]; exact hk) (by rw [<- Zw2]; exact hw) (by rw [Zzp]; omega)) ⟨e, ?_⟩
 refine ⟨y, _, I.lset (its' := its.eraseIdx k) hH e ?_ (r.eraseIdx k) ?_, rw', q⟩
 ·show its.toArray.eraseIdxIfInBounds k = (its.eraseIdx k).toArray
  rw [List.eraseIdxIfInBounds_toArray]
 ·have := Oz xs k
  omega
def rReverse : V -> List V -> Hp -> VK -> Prop := λx vs H Q => ∃ l xs, x = .ref l /\ vs = [] /\ H l = some (.lst xs) /\ Q .non (upd H l (.lst xs.reverse))
theorem Ug : MtM X "list.reverse" rReverse := by
 intro pins s Z H x vs v us Q I rx rv h
 obtain ⟨l, xs, rfl, rfl, hH, q⟩ := h
 cases rx
 have hus := rv.zero
 subst hus
 obtain ⟨z, its, n, r, hl, e⟩ := I.lstM hH
 refine call_meets F.slot_list_reverse ⟨_, e, rfl⟩ F.entry_list_reverse (F.args_list_reverse_1 _) (AutoSeq1.list_reverse_list_0 l its.toArray n (by rw [Zzp]; omega)) ⟨e, ?_⟩
 refine ⟨.non, _, I.lset (its' := its.reverse) hH e (by simp) r.reverse ?_, rfl, q⟩
 rw [Zvv]
 omega
def rCat : R2 := λx y H Q => ∃ l b xs zs, x = .ref l /\ y = .ref b /\ H l = some (.lst xs) /\ H b = some (.lst zs) /\ xs.length + zs.length <= sizeLine /\ ∀ p, H p = none -> Q (.ref p) (upd H p (.lst (xs ++ zs)))
theorem Qc : OpR X (binaryOp .Add) rCat := by
 intro pins s Z H x y v u Q I rx ry h
 obtain ⟨l, b, xs, zs, rfl, rfl, hH, hB, hz, q⟩ := h
 cases rx
 cases ry
 obtain ⟨z, its, n, r, hl, e⟩ := I.lstM hH
 obtain ⟨z2, its2, n2, r2, hl2, e2⟩ := I.lstM hB
 refine PySem.P.add_list e e2 ?_ (by rw [Zzp, Zzp]; omega)
 have ea : its.toArray ++ its2.toArray = (its ++ its2).toArray := by simp
 rw [ea]
 exact ⟨.ref _, _, I.lnew (t' := s.toks) (r.append r2) (by rw [Zze]; omega), rfl, q _ I.fresh⟩
def rRep : R2 := λx y H Q => ∃ l k xs, x = .ref l /\ y = .int k /\ H l = some (.lst xs) /\ -(2 ^ 63) <= k /\ k < 2 ^ 63 /\ xs.length * k.toNat <= sizeLine /\
 ∀ p, H p = none -> Q (.ref p) (upd H p (.lst (Zyq k.toNat xs).flatten))
theorem gc {α : Type} (xs : List α) (k : Nat) : (Zyq k xs).flatten.length = k * xs.length := by
 induction k with
 | zero => simp
 | succ k ih => rw [Zxw, Zw9, Zze, ih, Nat.succ_mul, Nat.add_comm]
theorem U5 : OpR X (binaryOp .Mult) rRep := by
 intro pins s Z H x y v u Q I rx ry h
 obtain ⟨l, k, xs, rfl, rfl, hH, h1, h2, hz, q⟩ := h
 cases rx
 obtain ⟨t, rfl⟩ := ry
 obtain ⟨z, its, n, r, hl, e⟩ := I.lstM hH
 have hlen : its.toArray.size * k.toNat <= sizeLine := by rw [Zzp, <- hl]; exact hz
 have hcap : ¬ its.toArray.size * k.toNat > (2 ^ 63 - 1) / 8 := by
  have : (sizeLine : Nat) <= (2 ^ 63 - 1) / 8 := by decide
  omega
 have hfit : ¬ (!Builtin.List.listFitsIndex k) = true := by
  rw [fitsIndex_both h1 h2]
  exact Zz7
 have hlong : ¬ Zwj (its.toArray.size * k.toNat) = true := by
  rw [Z2 hlen]
  exact Zz7
 have hnew : List.foldl (λx1 x2 => x1 ++ x2) #[] (Zyq (if its.toArray.isEmpty = true then 0 else k.toNat) its.toArray) = (Zyq k.toNat its).flatten.toArray := by
  have f0 : ∀ m : Nat, List.foldl (λx1 x2 => x1 ++ x2) #[] (Zyq m its.toArray) = (Zyq m its).flatten.toArray := λm => by
   have := P6 its m []
   rw [List.nil_append] at this
   exact this
  rw [f0]
  cases its with
  | nil => simp
  | cons a r' => rw [if_neg (by simp)]
 refine wpAny_binaryOp_repeat_ref (T := "list") (U := "int") (by decide) ⟨_, e, rfl⟩ (λs' => typeIs_int s' k t) noFill_list_mul F.fills_int_mul F.slot_int_rmul repeat_list F.slot_int_index.lookup
  (call_meets F.slot_int_rmul (typeIs_int s k t) F.entry_int_rmul (F.args_int_rmul_2 _ _) (int___rmul___int_list k t l its.toArray n)
   ⟨e, rfl, ⟨_, e, rfl⟩, call_meets F.slot_list_mul ⟨_, e, rfl⟩ F.entry_list_mul (F.args_list_mul_2 _ _) (AutoListH.list___mul___list_int_3 l its.toArray n k t hfit hcap hlong) ⟨e, ?_⟩⟩)
 rw [hnew]
 exact ⟨.ref _, _, I.lnew (t' := s.toks) (r.rep k.toNat) (by rw [gc, Nat.mul_comm]; exact hz), rfl, q _ I.fresh⟩
end
section
variable {prog : Program} {w : World} {A : Around} {E : Value -> Shared -> Prop} {s : Shared}
end
section
variable {X : Cx}
end
section
variable {κ : Type} [DecidableEq κ]
def B1 (kvs : List (κ × V)) (k : κ) : Option V := (kvs.find? λkv => decide (kv.1 = k)).map (·.2)
def B8 (kvs : List (κ × V)) (k : κ) (v : V) : List (κ × V) :=
 if (kvs.any λkv => decide (kv.1 = k)) = true then kvs.map (λkv => if kv.1 = k then (kv.1, v) else kv) else kvs ++ [(k, v)]
theorem C6 {p : κ × V} {r : List (κ × V)} {k : κ} (e : p.1 = k) : B1 (p :: r) k = some p.2 := by simp [B1, Zwu, e]
theorem C1 {p : κ × V} {r : List (κ × V)} {k : κ} (e : ¬ p.1 = k) : B1 (p :: r) k = B1 r k := by simp [B1, Zwu, e]
theorem D1 (k : κ) : ∀ kvs : List (κ × V), (kvs.any λkv => decide (kv.1 = k)) = (B1 kvs k).isSome
 | [] => rfl
 | p :: r => by
  rw [Zww]
  by_cases e : p.1 = k
  ·simp only [C6 e, decide_eq_true e, Bool.true_or, Option.isSome_some]
  ·rw [C1 e, decide_eq_false e, Bool.false_or]; exact D1 k r
theorem Rq (k j : κ) (y : V) : ∀ kvs : List (κ × V), B1 (kvs.map λkv => if kv.1 = k then (kv.1, y) else kv) j = (B1 kvs j).map λx => if j = k then y else x
 | [] => rfl
 | p :: r => by
  have ih := Rq k j y r
  rw [Zzd]
  by_cases h : p.1 = k
  ·rw [if_pos h]
   by_cases e : p.1 = j
   ·rw [C6 (p := (p.1, y)) e, C6 e, Zx2, if_pos (e.symm.trans h)]
   ·rw [C1 (p := (p.1, y)) e, C1 e, ih]
  ·rw [if_neg h]
   by_cases e : p.1 = j
   ·rw [C6 (p := p) e, C6 e, Zx2, if_neg (λz => h (e.trans z))]
   ·rw [C1 (p := p) e, C1 e, ih]
theorem Oo (k j : κ) (y : V) : ∀ kvs : List (κ × V), B1 kvs k = none -> B1 (kvs ++ [(k, y)]) j = if j = k then some y else B1 kvs j
 | [], _ => by
  by_cases e : k = j
  ·rw [if_pos e.symm]; exact C6 (p := (k, y)) e
  ·rw [if_neg (λz => e z.symm)]; exact C1 (p := (k, y)) e
 | p :: r, hn => by
  rw [Zx8]
  have hk : ¬ p.1 = k := λz => by rw [C6 z] at hn; cases hn
  rw [C1 hk] at hn
  have ih := Oo k j y r hn
  by_cases e : p.1 = j
  ·rw [C6 e, C6 e, if_neg (λz => hk (e.trans z))]
  ·rw [C1 e, C1 e, ih]
theorem Cg (kvs : List (κ × V)) (k j : κ) (y : V) : B1 (B8 kvs k y) j = if j = k then some y else B1 kvs j := by
 unfold B8
 by_cases a : (kvs.any λkv => decide (kv.1 = k)) = true
 ·rw [if_pos a, Rq]
  rw [D1] at a
  by_cases e : j = k
  ·obtain ⟨x, hx⟩ := Option.isSome_iff_exists.mp a
   rw [if_pos e, e, hx, Zx2, if_pos rfl]
  ·rw [if_neg e]
   cases B1 kvs j with
   | none => rfl
   | some x => rw [Zx2, if_neg e]
 ·rw [if_neg a]
  refine Oo k j y kvs ?_
  rw [D1] at a
  cases q : B1 kvs k with
  | none => rfl
  | some x => rw [q] at a; exact (a rfl).elim
theorem Cu (kvs : List (κ × V)) (k : κ) (v : V) : (B8 kvs k v).length <= kvs.length + 1 := by
 unfold B8
 split
 ·rw [Zzz]; omega
 ·rw [Zze, Zyl, Zxf]; omega
theorem Gv {kvs : List (κ × V)} {k : κ} (v : V) (h : B1 kvs k = none) : B8 kvs k v = kvs ++ [(k, v)] := by
 unfold B8
 rw [D1, h]
 exact if_neg (by decide)
theorem RelO.isSome_eq {o : Option V} {u : Option Value} (r : RelO o u) : o.isSome = u.isSome := by
 cases o with
 | none => cases u with
  | none => rfl
  | some _ => exact (show False from r).elim
 | some _ => cases u with
  | none => exact (show False from r).elim
  | some _ => rfl
theorem RelO.getD {o : Option V} {u : Option Value} {d : V} {d' : Value} (r : RelO o u) (rd : RelV d d') : RelV (o.getD d) (u.getD d') := by
 cases o with
 | none => cases u with
  | none => exact rd
  | some _ => exact (show False from r).elim
 | some _ => cases u with
  | none => exact (show False from r).elim
  | some _ => exact r
theorem KV.val {kvs : List (κ × V)} {vs : List (κ × Value)} (r : KV kvs vs) (k : κ) : RelO (B1 kvs k) (valueAt vs k) := by
 unfold KV at r
 induction r with
 | nil => exact True.intro
 | @cons p q ps qs h t ih =>
  obtain ⟨h1, h2⟩ := h
  by_cases e : p.1 = k
  ·have e' : q.1 = k := h1.symm.trans e
   have b : valueAt (q :: qs) k = some q.2 := by simp [valueAt, Zwu, e']
   rw [C6 e, b]; exact h2
  ·have e' : ¬ q.1 = k := λz => e (h1.trans z)
   have b : valueAt (q :: qs) k = valueAt qs k := by simp [valueAt, Zwu, e']
   rw [C1 e, b]; exact ih
theorem KV.any {kvs : List (κ × V)} {vs : List (κ × Value)} (r : KV kvs vs) (k : κ) : (kvs.any λkv => decide (kv.1 = k)) = vs.any λkv => decide (kv.1 = k) := by
 unfold KV at r
 induction r with
 | nil => rfl
 | cons h t ih => rw [Zww, Zww, ih, h.1]
theorem KV.repl {kvs : List (κ × V)} {vs : List (κ × Value)} (r : KV kvs vs) (k : κ) {y : V} {u : Value} (ry : RelV y u) :
  KV (kvs.map λkv => if kv.1 = k then (kv.1, y) else kv) (vs.map λkv => if kv.1 = k then (kv.1, u) else kv) := by
 unfold KV at r ⊢
 induction r with
 | nil => exact .nil
 | @cons p q ps qs h t ih =>
  rw [Zzd, Zzd]
  refine .cons ?_ ih
  obtain ⟨h1, h2⟩ := h
  by_cases e : p.1 = k
  ·rw [if_pos e, if_pos (h1.symm.trans e)]; exact ⟨h1, ry⟩
  ·rw [if_neg e, if_neg (λz => e (h1.trans z))]; exact ⟨h1, h2⟩
theorem KV.put {kvs : List (κ × V)} {vs : List (κ × Value)} (r : KV kvs vs) (k : κ) {y : V} {u : Value} (ry : RelV y u) : KV (B8 kvs k y) (stored vs k u) := by
 unfold B8 stored
 rw [r.any k]
 by_cases e : (vs.any λkv => decide (kv.1 = k)) = true
 ·rw [if_pos e, if_pos e]; exact r.repl k ry
 ·rw [if_neg e, if_neg e]; exact Paired.snoc r ⟨rfl, ry⟩
theorem KV.length {kvs : List (κ × V)} {vs : List (κ × Value)} (r : KV kvs vs) : kvs.length = vs.length := Paired.length r
end
theorem L4 {P : Program} {w : World} {k : Key} {u : Value} (r : RelV (kV k) u) : (B0 P w).is k u = true := by
 cases k with
 | inl i => obtain ⟨t, e⟩ := (show ∃ t, u = Value.int i t from r); subst e; exact Su P w i t
 | inr x => obtain ⟨t, e⟩ := (show ∃ t, u = Value.str x t from r); subst e; exact Ss P w x t
theorem P3 {P : Program} {w : World} : ∀ {ks : List Key} {us : List Value}, Vals (ks.map kV) us -> ItemsAre (B0 P w) ks us
 | [], _, r => by rw [Zxe] at r; cases r; exact .nil
 | k :: ks, _, r => by
  rw [Zzd] at r
  cases r with
  | cons h t => exact .cons (L4 h) (P3 t)
abbrev KT (H : Hp) : List (List Key × V) -> List (List Key × Addr × Value) -> Prop := Paired λp q => p.1 = q.1 /\ H q.2.1 = some (.tup (p.1.map kV)) /\ RelV p.2 q.2.2
theorem KT.val {H : Hp} {kvs : List (List Key × V)} {xs : List (List Key × Addr × Value)} (r : KT H kvs xs) (k : List Key) : RelO (B1 kvs k) ((atKey xs k).map (·.2)) := by
 induction r with
 | nil => exact True.intro
 | @cons p q ps qs h t ih =>
  obtain ⟨h1, _, h2⟩ := h
  by_cases e : p.1 = k
  ·have e' : q.1 = k := h1.symm.trans e
   have b : atKey (q :: qs) k = some q.2 := by simp [atKey, Zwu, e']
   rw [C6 e, b]; exact h2
  ·have e' : ¬ q.1 = k := λz => e (h1.trans z)
   have b : atKey (q :: qs) k = atKey qs k := by simp [atKey, Zwu, e']
   rw [C1 e, b]; exact ih
theorem KT.repl {H : Hp} {kvs : List (List Key × V)} {xs : List (List Key × Addr × Value)} (r : KT H kvs xs) (k : List Key) {y : V} {u : Value} (ry : RelV y u) :
  KT H (kvs.map λkv => if kv.1 = k then (kv.1, y) else kv) (xs.map (putAt k u)) := by
 induction r with
 | nil => exact .nil
 | @cons p q ps qs h t ih =>
  rw [Zzd, Zzd]
  refine .cons ?_ ih
  obtain ⟨h1, h2, h3⟩ := h
  unfold putAt
  by_cases e : p.1 = k
  ·rw [if_pos e, if_pos (h1.symm.trans e)]; exact ⟨h1, h2, ry⟩
  ·rw [if_neg e, if_neg (λz => e (h1.trans z))]; exact ⟨h1, h2, h3⟩
theorem KT.put {H : Hp} {kvs : List (List Key × V)} {xs : List (List Key × Addr × Value)} (r : KT H kvs xs) (k : List Key) {b : Addr} {y : V} {u : Value} (hb : H b = some (.tup (k.map kV))) (ry : RelV y u) :
  KT H (B8 kvs k y) (storedH xs k b u) := by
 have e : (kvs.any λkv => decide (kv.1 = k)) = (atKey xs k).isSome := by
  rw [D1, (r.val k).isSome_eq, Option.isSome_map]
 unfold B8 storedH
 rw [e]
 by_cases q : (atKey xs k).isSome = true
 ·rw [if_pos q, if_pos q]; exact r.repl k ry
 ·rw [if_neg q, if_neg q]; exact Paired.snoc r ⟨rfl, hb, ry⟩
theorem KT.keeps {H H' : Hp} {kvs : List (List Key × V)} {xs : List (List Key × Addr × Value)} (r : KT H kvs xs) (ht : ∀ b ys, H b = some (.tup ys) -> H' b = some (.tup ys)) : KT H' kvs xs :=
 Paired.mapP r λ_ _ z => ⟨z.1, ht _ _ z.2.1, z.2.2⟩
section
variable {P : Program} {w : World} {H : Hp} {h : Heap} {a : Addr}
theorem j5 {u : HO} (ok : HOk P w H h) (e : Rd H a u) : ObjOk P w H h a u := e.ok ok
theorem Gp {kvs : List (Key × V)} (ok : HOk P w H h) (e : Rd H a (.dK kvs)) : kvs.length <= sizeLine /\ (a == sysModules) = false /\ ∃ vs, KV kvs vs /\ h.DictOf (B0 P w) a vs :=
 show ObjOk P w H h a (.dK kvs) from j5 ok e
theorem ag {kvs : List (Key × V)} (ok : HOk P w H h) (e : H a = some (.dK kvs)) : kvs.length <= sizeLine /\ (a == sysModules) = false /\ ∃ vs, KV kvs vs /\ h.DictOf (B0 P w) a vs := Gp ok (.inl e)
theorem Im {ks : List Key} (ok : HOk P w H h) (e : H a = some (.tup (ks.map kV))) : (tupleKind (B0 P w)).is h ks a := by
 obtain ⟨_, its, r, o, h1, h2, n, h3⟩ := (show ObjOk P w H h a (.tup (ks.map kV)) from ok a _ e)
 exact ⟨o, its.toArray, n, h1, h2, h3, by simpa using P3 r⟩
theorem N9 {kvs : List (List Key × V)} (ok : HOk P w H h) (e : Rd H a (.dT kvs)) : kvs.length <= sizeLine /\ (a == sysModules) = false /\
  ∃ xs, KT H kvs xs /\ h.DictOfH (tupleKind (B0 P w)) a xs := by
 obtain ⟨z, y, xs, r, o, es, ep, h1, h2, h3, h4, h5⟩ := (show ObjOk P w H h a (.dT kvs) from j5 ok e)
 refine ⟨z, y, xs, r, o, es, ep, h1, h2, h3, h4, λx hx => ?_, h5⟩
 have all : ∀ {l : List (List Key × V)} {m : List (List Key × Addr × Value)}, KT H l m -> ∀ x ∈ m, (tupleKind (B0 P w)).is h x.1 x.2.1 := by
  intro l m q
  induction q with
  | nil => intro x hx; exact nomatch hx
  | @cons p q ps qs hq t ih =>
   intro x hx
   rcases Zzo.mp hx with e | hx
   ·subst e
    exact Im ok (by rw [<- hq.1]; exact hq.2.1)
   ·exact ih x hx
 exact all r x hx
theorem jg {kvs : List (List Key × V)} (ok : HOk P w H h) (e : H a = some (.dT kvs)) : kvs.length <= sizeLine /\ (a == sysModules) = false /\
  ∃ xs, KT H kvs xs /\ h.DictOfH (tupleKind (B0 P w)) a xs := N9 ok (.inl e)
end
def DGet (H : Hp) (a : Addr) (y : V) (r : Option V) : Prop :=
 (∃ kvs k, Rd H a (.dK kvs) /\ y = kV k /\ r = B1 kvs k) \/ ∃ kvs k b, Rd H a (.dT kvs) /\ y = .ref b /\ H b = some (.tup (k.map kV)) /\ r = B1 kvs k
def DPut (H : Hp) (a : Addr) (y v : V) (H' : Hp) : Prop :=
 (∃ kvs k, H a = some (.dK kvs) /\ y = kV k /\ kvs.length < sizeLine /\ H' = upd H a (.dK (B8 kvs k v))) \/
 ∃ kvs k b, H a = some (.dT kvs) /\ y = .ref b /\ H b = some (.tup (k.map kV)) /\ kvs.length < sizeLine /\ H' = upd H a (.dT (B8 kvs k v))
theorem DGet.t {H : Hp} {a b : Addr} {kvs : List (List Key × V)} {k : List Key} (e : H a = some (.dT kvs)) (eb : H b = some (.tup (k.map kV))) : DGet H a (.ref b) (B1 kvs k) := .inr ⟨kvs, k, b, .inl e, rfl, eb, rfl⟩
theorem DPut.k {H : Hp} {a : Addr} {kvs : List (Key × V)} {k : Key} {v : V} (e : H a = some (.dK kvs)) (hl : kvs.length < sizeLine) : DPut H a (kV k) v (upd H a (.dK (B8 kvs k v))) := .inl ⟨kvs, k, e, rfl, hl, rfl⟩
theorem DPut.t {H : Hp} {a b : Addr} {kvs : List (List Key × V)} {k : List Key} {v : V} (e : H a = some (.dT kvs)) (eb : H b = some (.tup (k.map kV))) (hl : kvs.length < sizeLine) :
  DPut H a (.ref b) v (upd H a (.dT (B8 kvs k v))) := .inr ⟨kvs, k, b, e, rfl, eb, hl, rfl⟩
section
variable {X : Cx} {pins : List (Addr × Obj)} {Z : St} {H : Hp} {s : Shared} {a : Addr} {y v : V} {u r : Value} {o : Option V} {A : Around} {E : Value -> Shared -> Prop}
theorem Inv.big (I : Inv X pins Z H s) : sysModules < s.heap.objs.size := by
 have h : mainGlobals < s.heap.objs.size := (I.mod.glob.keeps I.bk).lt
 exact Nat.lt_trans (by decide) h
theorem Pa {Q : Value -> Shared -> Prop} (hu : A.units + 1 < cLine) (I : Inv X pins Z H s) (g : DGet H a y (some v)) (ry : RelV y u) (h : ∀ w' s', Inv X pins Z H s' -> RelV v w' -> Q w' s') :
  wpAny (model X.prog X.w) A (getItem (.ref a) u) Q E s := by
 rcases g with ⟨kvs, k, e, ey, l⟩ | ⟨kvs, k, b, e, ey, eb, l⟩
 ·subst ey
  obtain ⟨z, hd, vs, rel, dd⟩ := Gp I.hok e
  obtain ⟨w', hw, rw'⟩ := RelO.some_of (v := v) (o := valueAt vs k) (by rw [l]; exact rel.val k)
  exact wpAny_getItem_of (L4 ry) dd.mapOf hw (h w' _ (I.tok _) rw')
 ·subst ey
  cases (show u = Value.ref b from ry)
  obtain ⟨z, hd, xs, rel, dd⟩ := N9 I.hok e
  obtain ⟨w', hw, rw'⟩ := RelO.some_of (v := v) (o := (atKey xs k).map (·.2)) (by rw [l]; exact rel.val k)
  obtain ⟨p, hp, hp2⟩ := Option.map_eq_some_iff.mp hw
  refine wpAny_getItem_heap (tupleKind_room_in1 hu) (Im I.hok eb) dd hp ?_
  rw [hp2]
  exact h w' _ (I.tok _) rw'
theorem d_in {Q : Value -> Shared -> Prop} (hu : A.units + 1 < cLine) (I : Inv X pins Z H s) (g : DGet H a y o) (ry : RelV y u) (h : ∀ s', Inv X pins Z H s' -> Q (.bool o.isSome) s') :
  wpAny (model X.prog X.w) A (compareOp .In u (.ref a)) Q E s := by
 rcases g with ⟨kvs, k, e, ey, l⟩ | ⟨kvs, k, b, e, ey, eb, l⟩
 ·subst ey
  obtain ⟨z, hd, vs, rel, dd⟩ := Gp I.hok e
  refine wpAny_in_of (L4 ry) hd dd.mapOf ?_
  rw [<- (rel.val k).isSome_eq, <- l]
  exact h _ (I.tok _)
 ·subst ey
  cases (show u = Value.ref b from ry)
  obtain ⟨z, hd, xs, rel, dd⟩ := N9 I.hok e
  refine wpAny_in_heap (tupleKind_room_in1 hu) (Im I.hok eb) hd dd ?_
  have q := (rel.val k).isSome_eq
  rw [Option.isSome_map] at q
  rw [<- q, <- l]
  exact h _ (I.tok _)
theorem gw {Q : Value -> Shared -> Prop} (hu : A.units + 1 < cLine) (I : Inv X pins Z H s) (g : DGet H a y o) (ry : RelV y u) (h : ∀ s', Inv X pins Z H s' -> Q (.bool (!o.isSome)) s') :
  wpAny (model X.prog X.w) A (compareOp .NotIn u (.ref a)) Q E s := by
 rcases g with ⟨kvs, k, e, ey, l⟩ | ⟨kvs, k, b, e, ey, eb, l⟩
 ·subst ey
  obtain ⟨z, hd, vs, rel, dd⟩ := Gp I.hok e
  refine wpAny_notIn_of (L4 ry) hd dd.mapOf ?_
  rw [<- (rel.val k).isSome_eq, <- l]
  exact h _ (I.tok _)
 ·subst ey
  cases (show u = Value.ref b from ry)
  obtain ⟨z, hd, xs, rel, dd⟩ := N9 I.hok e
  refine wpAny_notIn_heap (tupleKind_room_in1 hu) (Im I.hok eb) hd dd ?_
  have q := (rel.val k).isSome_eq
  rw [Option.isSome_map] at q
  rw [<- q, <- l]
  exact h _ (I.tok _)
theorem Js {h' : Heap} {t' : Nat} {ob : HO} (I : Inv X pins Z H s) (mu : Mut (H a)) (hs : Zyf a s.heap h') (he : ∃ q, h'.get? a = some q) (new : ObjOk X.prog X.w (upd H a ob) h' a ob) :
  Inv X pins Z (upd H a ob) { s with heap := h', toks := t' } :=
 I.write (x := a) (e := a) mu (.inl rfl) (λb q hb z => (hs.2 b hb).trans z) he new
theorem Up {P : Program} {w : World} {H' : Hp} {h' : Heap} {kvs : List (Key × V)} {vs : List (Key × Value)} (z : kvs.length <= sizeLine) (hd : (a == sysModules) = false) (rel : KV kvs vs) (dd : h'.DictOf (B0 P w) a vs) :
  ObjOk P w H' h' a (.dK kvs) := ⟨z, hd, vs, rel, dd⟩
theorem P9 {H' : Hp} {Q : Unit -> Shared -> Prop} (hu : A.units + 1 < cLine) (I : Inv X pins Z H s) (g : DPut H a y v H') (ry : RelV y u) (rv : RelV v r) (h : ∀ s', Inv X pins Z H' s' -> Q () s') :
  wpAny (model X.prog X.w) A (setItem (.ref a) u r) Q E s := by
 rcases g with ⟨kvs, k, e, ey, l, eH⟩ | ⟨kvs, k, b, e, ey, eb, l, eH⟩
 ·subst ey eH
  obtain ⟨z, hd, vs, rel, dd⟩ := ag I.hok e
  have hz : vs.length <= sizeLine := by rw [<- rel.length]; exact z
  have hl : (B8 kvs k v).length <= sizeLine := by have := Cu kvs k v; omega
  refine wpAny_setItem_pairs (hsz := hz) (L4 ry) dd λh' dd' hs => h _ ?_
  have he : ∃ q, h'.get? a = some q := by obtain ⟨q, _, _, hq, _⟩ := dd'; exact ⟨q, hq⟩
  exact Js I (by rw [e]; exact True.intro) hs he (Up hl hd (rel.put k rv) dd')
 ·subst ey eH
  cases (show u = Value.ref b from ry)
  obtain ⟨z, hd, xs, rel, dd⟩ := jg I.hok e
  have hz : xs.length <= sizeLine := by rw [<- Paired.length rel]; exact z
  have hl : (B8 kvs k v).length <= sizeLine := by have := Cu kvs k v; omega
  refine wpAny_setItem_heap (hsz := hz) (tupleKind_room_in1 hu) (Im I.hok eb) dd λh' dd' hs => h _ ?_
  obtain ⟨q, es, ep, hq, h2, h3, h4, _, h5⟩ := dd'
  refine Js I (by rw [e]; exact True.intro) hs ⟨q, hq⟩ ⟨hl, hd, _, (rel.put k eb rv).keeps λc ys ec => ?_, q, es, ep, hq, h2, h3, h4, h5⟩
  rw [A5 (Eo ec e (λz => nomatch z))]
  exact ec
end
section
variable {X : Cx} {pins : List (Addr × Obj)} {Z : St} {H : Hp} {s : Shared} {a : Addr} {kvs : List (Key × V)} {k : Key} {u : Value} {A : Around} {E : Value -> Shared -> Prop}
theorem qq {Q : Value -> Shared -> Prop} (I : Inv X pins Z H s) (e : Rd H a (.dK kvs)) (h : ∀ t s', Inv X pins Z H s' -> Q (.int kvs.length t) s') : wpAny (model X.prog X.w) A (call (.builtin "len") [.ref a]) Q E s := by
 obtain ⟨z, hd, vs, rel, dd⟩ := Gp I.hok e
 refine call_len_dict hd dd (by rw [<- rel.length]; rw [sizeLine_eq] at z; omega) ?_
 rw [<- rel.length]
 exact h _ _ (I.tok _)
end
def rj (i : Expr) : Prop := ∀ ov iv, subscripted i false ov iv = operate [ov, iv] (getItem ov iv)
theorem cn {prog : Program} {w : World} {A : Around} {E : Value -> Shared -> Prop} {s : Shared} {env : Env} {value slice : Expr} {pos : Pos} {T id : String} {Q : Value -> Shared -> Prop}
  (hl : typeLookup (.type T) "__getitem__" = pure (some (.builtin id))) (hs : rj slice)
  (h : wpAny (model prog w) A (eval value env) (λo s₁ => wpAny (model prog w) A (eval slice env) (λi s₂ => s₂.TypeIs o T /\ wpAny (model prog w) A (getItem o i) Q E s₂) E s₁) E s) :
  wpAny (model prog w) A (eval (.Subscript value slice pos) env) Q E s := by
 refine Subscript_ (wpAny_mono h (λo s₁ h₁ => wpAny_mono h₁ (λi s₂ h₂ => ?_) λ_ _ x => x) λ_ _ x => x)
 obtain ⟨hT, h₂⟩ := h₂
 unfold subscriptTail
 refine wpAny_bind ?_
 rw [getitemInPython_of_ne hT.not_modules]
 refine wpAny_bind (wpAny_specialOf hT hl ?_)
 have fin : wpAny (model prog w) A (subscripted slice false o i) (λr s₃ => wpAny (model prog w) A (letTemporaryGo value o r >>= λ_ => pure r) Q E s₃) E s₂ := by
  rw [hs o i]
  exact wpAny_operating (wpAny_mono h₂ (λr s₃ h₃ => wpAny_bind (wpAny_letTemporaryGo (wpAny_pure h₃))) λ_ _ x => x)
 first
  | exact wpAny_pure (wpAny_bind fin)
  | exact wpAny_bind (wpAny_pure (wpAny_bind fin))
  | exact wpAny_bind fin
theorem La {X : Cx} {pins : List (Addr × Obj)} {Z : St} {H : Hp} {s : Shared} {a : Addr} {y : V} {o : Option V} (I : Inv X pins Z H s) (g : DGet H a y o) : s.TypeIs (.ref a) "dict" := by
 rcases g with ⟨kvs, k, e, _, _⟩ | ⟨kvs, k, b, e, _, _, _⟩
 ·obtain ⟨_, _, vs, _, dd⟩ := Gp I.hok e
  exact dd.typeIs
 ·obtain ⟨_, _, xs, _, dd⟩ := N9 I.hok e
  exact dd.typeIs
def j2 (td ty : TE) : TE := λZ H Q => td Z H λx H1 => ty Z H1 λy H2 => ∃ a v, x = .ref a /\ DGet H2 a y (some v) /\ Q v H2
def V4 (ty td : TE) : TE := λZ H Q => ty Z H λy H1 => td Z H1 λx H2 => ∃ a o, x = .ref a /\ DGet H2 a y o /\ Q (.bl (!o.isSome)) H2
section
variable {X : Cx} {o i e value : Expr} {pos pos' tpos : Pos} {td ty tv : TE}
theorem du (hu : X.A.units + 1 < cLine) (ho : PE X o td) (hi : PE X i ty) (hs : rj i) : PE X (.Subscript o i pos) (j2 td ty) := by
 intro pins s Z H Q I h
 refine cn PySem.F.slot_dict_getitem.lookup hs (thn (ho pins s Z H _ I h) λu s1 ⟨x, H1, I1, rx, q1⟩ => thn (hi pins s1 Z H1 _ I1 q1) λiv s2 ⟨y, H2, I2, ry, a, v, ex, g, q2⟩ => ?_)
 subst ex
 obtain rfl : u = Value.ref a := rx
 exact ⟨La I2 g, Pa hu I2 g ry λw' s3 I3 rw' => ⟨v, H2, I3, rw', q2⟩⟩
theorem Wo (hu : X.A.units + 1 < cLine) (hi : PE X i ty) (ho : PE X o td) : PC X .NotIn i o (V4 ty td) := by
 intro pins s Z H Q I h
 refine thn (hi pins s Z H _ I h) λiv s1 ⟨y, H1, I1, ry, q1⟩ => thn (ho pins s1 Z H1 _ I1 q1) λu s2 ⟨x, H2, I2, rx, a, ov, ex, g, q2⟩ => ?_
 subst ex
 obtain rfl : u = Value.ref a := rx
 exact gw hu I2 g ry λs3 I3 => ⟨.bl (!ov.isSome), H2, I3, rfl, q2⟩
end
theorem Ta {P : Program} {w : World} {H : Hp} (h : Heap) (hb : sysModules < h.objs.size) : ObjOk P w H (h.push { cls := .type "dict", data := .dict #[] }) h.objs.size (.dK []) :=
 ⟨Zz3 _, beq_eq_false_iff_ne.mpr (Zzf (Zyy hb)), [], .nil, Heap.DictOf.new h⟩
theorem ae {P : Program} {w : World} {H : Hp} (h : Heap) (hb : sysModules < h.objs.size) : ObjOk P w H (h.push { cls := .type "dict", data := .dict #[] }) h.objs.size (.dT []) :=
 ⟨Zz3 _, beq_eq_false_iff_ne.mpr (Zzf (Zyy hb)), [], .nil, _, #[], 0, Zzi _ rfl, ⟨rfl, rfl, rfl⟩, rfl, rfl, Zwc⟩
def tDNewK : TE := λ_ H Q => ∀ p, H p = none -> Q (.ref p) (upd H p (.dK []))
def tDNewT : TE := λ_ H Q => ∀ p, H p = none -> Q (.ref p) (upd H p (.dT []))
section
variable {X : Cx} {pos : Pos}
theorem Ct : PE X (.Dict [] [] pos) tDNewK := λpins s Z H Q I h =>
 wpAny_Dict_empty ⟨.ref s.heap.objs.size, _, I.laid (a := s.heap.objs.size) (o := .dK []) (t' := s.toks) (λ_ _ q => Zzy _ q) (Zzt _) (Ta s.heap I.big), rfl, h _ (I.hok.fresh (Zzt _))⟩
theorem Sc : PE X (.Dict [] [] pos) tDNewT := λpins s Z H Q I h =>
 wpAny_Dict_empty ⟨.ref s.heap.objs.size, _, I.laid (a := s.heap.objs.size) (o := .dT []) (t' := s.toks) (λ_ _ q => Zzy _ q) (Zzt _) (ae s.heap I.big), rfl, h _ (I.hok.fresh (Zzt _))⟩
end
def Pp : List (TE × TE) -> St -> Hp -> (List (V × V) -> Hp -> Prop) -> Prop
 | [], _, H, Q => Q [] H
 | (tk, tv) :: r, Z, H, Q => tk Z H λx H1 => tv Z H1 λy H2 => Pp r Z H2 λps H3 => Q ((x, y) :: ps) H3
abbrev VV : List (V × V) -> List (Value × Value) -> Prop := Paired λp q => RelV p.1 q.1 /\ RelV p.2 q.2
def PPs (X : Cx) (pos : Pos) (keys : List (Option Expr)) (values : List Expr) (trs : List (TE × TE)) : Prop :=
 ∀ (pins : List (Addr × Obj)) (s : Shared) (Z : St) (H : Hp) (Q : List (V × V) -> Hp -> Prop), Inv X pins Z H s -> Pp trs Z H Q ->
  wpAny (model X.prog X.w) X.A (evalPairs (pairTrees keys values X.env pos)) (λvs s' => ∃ ps H', Inv X pins Z H' s' /\ VV ps vs /\ Q ps H') X.xe s
theorem cz {X : Cx} {pos : Pos} : PPs X pos [] [] [] := λpins s Z H Q I h => pairTrees_nil_walk ⟨[], H, I, .nil, h⟩
theorem Yq {X : Cx} {pos : Pos} {k v : Expr} {ks : List (Option Expr)} {vs : List Expr} {tk tv : TE} {trs : List (TE × TE)} (hk : PE X k tk) (hv : PE X v tv) (hr : PPs X pos ks vs trs) :
  PPs X pos (some k :: ks) (v :: vs) ((tk, tv) :: trs) := λpins s Z H Q I h =>
 pairTrees_cons_walk (thn (hk pins s Z H _ I h) λu s1 ⟨x, H1, I1, rx, q1⟩ => thn (hv pins s1 Z H1 _ I1 q1) λw2 s2 ⟨y, H2, I2, ry, q2⟩ =>
  thn (hr pins s2 Z H2 _ I2 q2) λws s3 ⟨ps, H3, I3, rel, q3⟩ => ⟨(x, y) :: ps, H3, I3, .cons ⟨rx, ry⟩ rel, q3⟩)
def E8 (kvs more : List (Key × V)) : List (Key × V) := more.foldl (λacc kv => B8 acc kv.1 kv.2) kvs
theorem KV.merge : ∀ {more : List (Key × V)} {rs : List (Key × Value)} {kvs : List (Key × V)} {vs : List (Key × Value)}, KV more rs -> KV kvs vs -> KV (E8 kvs more) (merged vs rs) := by
 intro more rs kvs vs r
 unfold KV at r
 induction r generalizing kvs vs with
 | nil => intro q; exact q
 | @cons p q ps qs h t ih =>
  intro r0
  have e : KV (B8 kvs p.1 p.2) (stored vs q.1 q.2) := by
   have := r0.put p.1 h.2
   rw [<- h.1]; exact this
  exact ih e
theorem Fo : ∀ (more kvs : List (Key × V)), (E8 kvs more).length <= kvs.length + more.length
 | [], kvs => by show kvs.length <= kvs.length + 0; omega
 | p :: r, kvs => by
  have h1 := Fo r (B8 kvs p.1 p.2)
  have h2 := Cu kvs p.1 p.2
  show (E8 (B8 kvs p.1 p.2) r).length <= _
  rw [Zyl]; omega
theorem Nj {P : Program} {w : World} : ∀ {kvs : List (Key × V)} {ws : List (Value × Value)}, VV (kvs.map λkv => (kV kv.1, kv.2)) ws -> ∃ rs, Carries (B0 P w) ws rs /\ KV kvs rs
 | [], _, r => by rw [Zxe] at r; cases r; exact ⟨[], True.intro, .nil⟩
 | p :: kvs, _, r => by
  rw [Zzd] at r
  cases r with
  | @cons a b as bs h t =>
   obtain ⟨rs, c, q⟩ := Nj (P := P) (w := w) t
   obtain ⟨b1, b2⟩ := b
   exact ⟨(p.1, b2) :: rs, ⟨L4 h.1, rfl, c⟩, .cons ⟨rfl, h.2⟩ q⟩
def j1 (trs : List (TE × TE)) : TE := λZ H Q => ∀ p, H p = none -> Pp trs Z (upd H p (.dK [])) λps H2 => H2 p = some (.dK []) /\ ∃ kvs : List (Key × V), ps = kvs.map (λkv => (kV kv.1, kv.2)) /\ kvs.length <= 15 /\ Q (.ref p) (upd H2 p (.dK (E8 [] kvs)))
theorem dq {X : Cx} {pos : Pos} {keys : List (Option Expr)} {values : List Expr} {trs : List (TE × TE)} (h : PPs X pos keys values trs) (hall : keys.all (·.isSome) = true) (hl : keys.length = values.length) (h0 : keys ≠ [])
  (h15 : keys.length <= 15) : PE X (.Dict keys values pos) (j1 trs) := by
 intro pins s Z H Q I q
 have hn := I.hok.fresh (Zzt s.heap.objs.size)
 have I1 := I.laid (a := s.heap.objs.size) (o := .dK []) (h' := s.heap.push { cls := .type "dict", data := .dict #[] }) (t' := s.toks) (λ_ _ q => Zzy _ q) (Zzt _) (Ta s.heap I.big)
 refine wpAny_Dict_walk (knd := B0 X.prog X.w) hall hl h0 h15 (thn (h pins _ Z _ _ I1 (q _ hn)) λws s2 ⟨ps, H2, I2, rel, e, kvs, ep, lk, q2⟩ => ?_)
 subst ep
 obtain ⟨rs, c, rk⟩ := Nj (P := X.prog) (w := X.w) rel
 obtain ⟨z, hd, vs0, r0, dd⟩ := ag I2.hok e
 cases r0
 refine ⟨rs, c, dd, λh' dd' hs => ⟨.ref s.heap.objs.size, _, ?_, rfl, q2⟩⟩
 have hz : (E8 [] kvs).length <= sizeLine := by
  have h1 := Fo kvs []
  rw [Zxf] at h1
  rw [sizeLine_eq]; omega
 have he : ∃ q, h'.get? s.heap.objs.size = some q := by obtain ⟨q, _, _, hq, _⟩ := dd'; exact ⟨q, hq⟩
 exact Js I2 (by rw [e]; exact True.intro) hs he (Up hz hd (rk.merge .nil) dd')
structure M2 (X : Cx) (o : Expr) (m : Str) (apos : Pos) (e f : Expr) (cpos : Pos) : Prop where
 base : attributeBase o m X.env (eval o X.env) = eval o X.env
 few : ((backTo cpos (starEach [e, f] X.env)).all (λx => !x.1) && (backToKw cpos (keywordEach [] X.env)).all (λx => x.1.isSome)
  && decide (([e, f] : List Expr).length + ([] : List Keyword).length + (if ([] : List Keyword).isEmpty then 0 else 1) < 30)) = true
 line : (apos.endLine == cpos.line) = true
 trees : backTo cpos (starEach [e, f] X.env) = [(false, eval e X.env), (false, eval f X.env)]
def IsD (H : Hp) (a : Addr) : Prop := (∃ kvs, Rd H a (.dK kvs)) \/ ∃ kvs, Rd H a (.dT kvs)
theorem Uk {X : Cx} {pins : List (Addr × Obj)} {Z : St} {H : Hp} {s : Shared} {a : Addr} (I : Inv X pins Z H s) (d : IsD H a) :
  s.TypeIs (.ref a) "dict" /\ (∀ b, Value.ref a = .ref b -> ∃ ob, s.heap.get? b = some ob /\ ob.dict = none) /\ (a == sysModules) = false := by
 rcases d with ⟨kvs, e⟩ | ⟨kvs, e⟩
 ·obtain ⟨_, hd, vs, _, dd⟩ := Gp I.hok e
  refine ⟨dd.typeIs, λb q => ?_, hd⟩
  cases q
  obtain ⟨ob, _, _, h1, h2, _⟩ := dd
  exact ⟨ob, h1, h2.2.1⟩
 ·obtain ⟨_, hd, xs, _, dd⟩ := N9 I.hok e
  refine ⟨dd.typeIs, λb q => ?_, hd⟩
  cases q
  obtain ⟨ob, _, _, h1, h2, _⟩ := dd
  exact ⟨ob, h1, h2.2.1⟩
section
variable {X : Cx} {pins : List (Addr × Obj)} {Z : St} {H : Hp} {s : Shared} {a : Addr} {y d : V} {u r : Value} {o : Option V} {A : Around} {E : Value -> Shared -> Prop}
theorem mi {Q : Value -> Shared -> Prop} (hu : A.units + 1 < cLine) (I : Inv X pins Z H s) (g : DGet H a y o) (ry : RelV y u) (rd : RelV d r) (h : ∀ w' s', Inv X pins Z H s' -> RelV (o.getD d) w' -> Q w' s') :
  wpAny (model X.prog X.w) A (call (.builtin "dict.get") [.ref a, u, r]) Q E s := by
 rcases g with ⟨kvs, k, e, ey, l⟩ | ⟨kvs, k, b, e, ey, eb, l⟩
 ·subst ey
  obtain ⟨z, hd, vs, rel, dd⟩ := Gp I.hok e
  refine call_meetsIn Zw1 dd.typeIs PySem.F.entry_dict_get (PySem.F.args_dict_get_3 _ _ _) (meets_dict_get_default (B0 X.prog X.w) a (L4 ry) hd r) ⟨_, dd.mapOf, h _ _ (I.tok _) ?_⟩
  rw [l]
  exact (rel.val k).getD rd
 ·subst ey
  cases (show u = Value.ref b from ry)
  obtain ⟨z, hd, xs, rel, dd⟩ := N9 I.hok e
  refine call_meetsIn Zw1 dd.typeIs PySem.F.entry_dict_get (PySem.F.args_dict_get_3 _ _ _) (meetsH_dict_get_default (tupleKind (B0 X.prog X.w)) a b hd r) ⟨tupleKind_room_in1 hu, k, xs, Im I.hok eb, dd, h _ _ (I.tok _) ?_⟩
  rw [l]
  exact (rel.val k).getD rd
end
def Ye (td ty tx : TE) : TE := λZ H Q => td Z H λx H1 => ∃ a, x = .ref a /\ IsD H1 a /\ ty Z H1 λy H2 => tx Z H2 λz H3 => ∃ o, DGet H3 a y o /\ Q (o.getD z) H3
section
variable {X : Cx} {o e f : Expr} {apos cpos : Pos} {td ty tx : TE}
theorem Yu (hu : X.A.units + 1 < cLine) (ho : PE X o td) (he : PE X e ty) (hf : PE X f tx) (m : M2 X o "get" apos e f cpos) : PE X (.Call (.Attribute o "get" apos) [e, f] [] cpos) (Ye td ty tx) := by
 intro pins s Z H Q I h
 refine wpAny_Call_method m.base m.few m.line Zwx Zw1 PySem.F.type_dict_get (thn (ho pins s Z H _ I h) λu s1 ⟨x, H1, I1, rx, a, ex, d, q1⟩ => ?_)
 subst ex
 obtain rfl : u = Value.ref a := rx
 obtain ⟨t1, t2, _⟩ := Uk I1 d
 refine ⟨t1, t2, ?_⟩
 rw [m.trees]
 refine Zx6 rfl (Zvy (Zx5 (thn (he pins s1 Z H1 _ I1 q1) λiv s2 ⟨y, H2, I2, ry, q2⟩ =>
  Zx5 (thn (hf pins s2 Z H2 _ I2 q2) λfv s3 ⟨z, H3, I3, rz, ov, g, q3⟩ => Zwb ?_))))
 exact mi hu I3 g ry rz λw' s4 I4 rw' => ⟨_, H3, I4, rw', q3⟩
end
section
variable {X : Cx} {pins : List (Addr × Obj)} {Z : St} {H : Hp} {s : Shared} {a : Addr} {kvs : List (Key × V)} {A : Around} {E : Value -> Shared -> Prop}
end
section
variable {X : Cx} {pins : List (Addr × Obj)} {Z : St} {H : Hp} {s : Shared} {a : Addr} {y : V} {u : Value} {A : Around} {E : Value -> Shared -> Prop}
end
end L2
namespace Att
open PySem PySem.W PySem.Calls PyProof.Rows
theorem Li {P : Params} {h : Heap} : ∀ (ns : List Int) (vs : List Value), WellAll P h vs (ns.map WData.int) -> IntsAre vs ns := by
 intro ns
 induction ns with
 | nil =>
  intro vs w
  rw [Zxe] at w
  cases w
  exact .nil
 | cons n ns ih =>
  intro vs w
  rw [Zzd] at w
  cases w with
  | cons a b =>
   cases a
   exact .cons _ _ (ih _ b)
theorem Wj {l : OpenLaw} {n : Nat} (hn : l.most = some n) {P : Params} {h : Heap} {args : List WData} {vals : List Value}
  (hpre : l.row.toRowW.claim.pre args = true) (hwl : WellAll P h vals args) :
  ∃ a vs ns, vals = [Value.ref a] /\ args = [WData.list (ns.map WData.int)] /\ h.get? a = some { cls := .type "list", data := .seq vs.toArray } /\ IntsAre vs ns /\ ns.length <= n := by
 have hsh : WShape.hasAll [] args [.list .int] = true := (pre_splitW hpre).1
 have hc : l.pre.holds [] { args := args } = true := (pre_splitW hpre).2
 obtain ⟨d, r, rfl, h1, h2⟩ := hasAllW_cons hsh
 obtain rfl := hasAllW_nil h2
 obtain ⟨xs, rfl, h3⟩ := hasW_list h1
 obtain ⟨ns, rfl⟩ := items_int h3
 have hlen : ns.length <= n := by
  unfold OpenLaw.pre at hc
  have h4 : (WTm.not (.lt (.lit (.int (n : Int))) (.len (.arg 0)))).holds [] { args := [.list (ns.map .int)] } = true := by
   have h4 := (holds_andW hc).1
   rw [hn] at h4
   exact h4
  have h5 := condW_of h4 (w_not (w_lt w_lit (w_len_list (w_arg rfl))))
  rw [Zzz] at h5
  refine Nat.le_of_not_lt λq => ?_
  have q' : (n : Int) < ((ns.length : Nat) : Int) := by omega
  first
   | (rw [decide_eq_true q'] at h5; exact absurd h5 (by decide))
   | (simp at h5; omega)
 cases hwl with
 | cons w1 w2 =>
  cases w2
  cases w1 with
  | list ho hall => exact ⟨_, _, ns, rfl, rfl, ho, Li ns _ hall, hlen⟩
theorem Wk (l : OpenLaw) (args : List WData) : l.row.toRowW.claim.post args (.bool true) args = true :=
 postW_of (r := l.row.toRowW) (X := (true == true))
  (show WShape.has [] (.bool true) .bool = true by first | rfl | decide | simp [WShape.has, WShape.arms, WShape.armsAll])
  (show (WTm.eq .res (.lit (.bool true))).value [] { args := args, res := some (.bool true), after := args } = some (.bool (true == true)) from w_eq_bool (w_res rfl) w_lit) rfl
theorem attach_call {l : OpenLaw} {n : Nat} {q : Program} {loose : List Str} {XP : (Str -> Option Value) -> Heap -> Prop} {YP : World -> Heap -> Prop} {d : DefRec}
  (hn : l.most = some n) (hdf : d.params.defaults = [])
  (call : ∀ (w : World) (s₀ s₁ : Shared) (mg mb : Str -> Option Value) (fa : Addr) (o : Obj) (pm cd doc : Value) (a : Addr) (vs : List Value) (ns : List Int),
   Ground q loose [] XP w s₀ mg mb s₁.heap -> YP w s₁.heap ->
   s₁.heap.get? fa = some o -> o.data = .func (docDef d.name d.params d.body d.scope pm cd doc) -> s₁.heap.CodeRec cd d.name -> mg d.name = some (.ref fa) ->
   s₁.heap.get? a = some { cls := .type "list", data := .seq vs.toArray } -> IntsAre vs ns -> ns.length <= n -> s₁.gens = #[] ->
   codeAny (model l.prog w) callerA (.call (.ref fa) ⟨[.ref a], []⟩) (λr s' => r = .ok (.ret (.bool true)) /\ OldK s₁.heap s'.heap /\ s'.os = s₁.os /\ AllBare s'.gens) s₁) :
  WalkO q loose XP YP l.row.toRowW d [] (λf vs => PySem.call f vs) := by
 intro w s₀ s₁ mg mb G Y fa o pm cd doc dV kV ho hd hcd hD hmg hg args vals as hpre hlay hrd hwl hlo
 obtain rfl : dV = .none := Dflts.none hD hdf
 obtain rfl : kV = .none := Dflts.noKw hD
 obtain ⟨a, vs, ns, rfl, rfl, hobj, hints, hlen⟩ := Wj hn hpre hwl
 refine enter_call (codeAny_mono (call w s₀ s₁ mg mb fa o pm cd doc a vs ns G Y ho (fd_plain hd) hcd hmg hobj hints hlen hg) λr s' hq => ?_)
 obtain ⟨rfl, h2, h3, h4⟩ := hq
 exact ⟨.inl ⟨.bool true, .bool true, [], rfl, λ_ => rfl, .bool true, Wk l _, λ_ => ⟨List.Pairwise.nil, λ_ hm => (nomatch hm)⟩⟩, h2, h3, h4⟩
section
variable {prog : Program} {w : World} {A : Around} {E : Value -> Shared -> Prop} {s : Shared} {K : Frag}
end
end Att
namespace L2
open PySem PySem.Spec PyProof.Rows
theorem Jz : ∀ {vs : List Value} {ns : List Int}, IntsAre vs ns -> Vals (ns.map V.int) vs
 | _, _, .nil => .nil
 | _, _, .cons n t h => .cons ⟨t, rfl⟩ (Jz h)
def Gj (s : Stmt) : Arguments := match s with
 | .FunctionDef _ a _ _ _ _ _ _ _ _ => a
 | _ => { posonlyargs := [], args := [], vararg := none, kwonlyargs := [], kw_defaults := [], kwarg := none, defaults := [] }
def Ej (s : Stmt) : List Stmt := match s with
 | .FunctionDef _ _ b _ _ _ _ _ _ _ => b
 | _ => []
def Ad (s : Stmt) : Scope := match s with
 | .FunctionDef _ _ _ _ _ _ sc _ _ _ => sc
 | _ => { kind := .function, names := [], isGenerator := false, isCoroutine := false }
abbrev CX0 : CXT := λ_ _ _ _ _ _ => False
abbrev E0 : XK := λ_ _ _ => False
theorem pj {X : Cx} : Uz CX0 X E0 := λ_ _ _ _ _ _ _ h => h.elim
structure Fun (K : Zzv) (x qual : Str) (st : Stmt) (f : Addr) (fd : FuncData) : Prop where
 ex : ∃ (oc : Value) (od : Option Addr) (kV doc pm : Value) (an : Option Addr) (cdv ct : Value) (osl : Array (Option Value)),
  fd = Zx4 x qual (Gj st) (Ej st) (Ad st) .none kV doc pm an cdv ct /\ K.lookup f = some ⟨oc, od, .func fd, osl⟩ /\ Zvs K cdv qual = true
 kp : Zwd K (.ref f) = true
section
variable {P : Program} {w : World} {K : Zzv} {mg : Str -> Option Value} {base : Heap}
theorem Fun.ok {x qual : Str} {st : Stmt} {f : Addr} {fd : FuncData} {N ps : List Str} {k : Nat} {sp : Sp} (F : Fun K x qual st f fd) (S : Aj N ps (Ad st)) (len : ∀ vs H Q E, sp vs H Q E -> vs.length = ps.length)
  (hbody : ∀ (cdv : Value) (A : Around) (outer : List Env) (s : Shared) (H : Hp) (vs : List V) (Q : VK) (E : XK), Room k (A.deeper (envOfC qual (Ad st) s.heap.objs.size f cdv)) -> sp vs H Q E ->
   ∃ t, PSs (Uq CX0 P w K mg base N qual (Ad st) f cdv A outer s H E).nox (Ej st) t /\ t { nx := λ_ H' => Q .non H', rt := Q } (Hz N vs) H) : Bh P w K mg base CX0 (k + 1) f fd ps sp := by
 obtain ⟨oc, od, kV, doc, pm, an, cdv, ct, osl, rfl, lk, hcd⟩ := F.ex
 refine jf lk hcd S len λA outer s H vs Q E hr hsp => ?_
 obtain ⟨t, h, q⟩ := hbody cdv A outer s H vs Q E hr hsp
 exact ⟨t, h.nox, q⟩
theorem Fun.binds {x qual : Str} {st : Stmt} {f : Addr} {fd : FuncData} {ps : List Str} (F : Fun K x qual st f fd)
  (h : ∀ (kV doc pm : Value) (an : Option Addr) (cdv ct : Value) (us : List Value), us.length = ps.length -> bindArgs (Zx4 x qual (Gj st) (Ej st) (Ad st) .none kV doc pm an cdv ct) ⟨us, []⟩ = pure (ps.zip us)) : Binds K fd ps [] := by
 obtain ⟨oc, od, kV, doc, pm, an, cdv, ct, osl, rfl, lk, hcd⟩ := F.ex
 exact .all (h kV doc pm an cdv ct)
theorem As {x qual : Str} {st : Stmt} {f : Addr} {oc : Value} {od an : Option Addr} {osl : Array (Option Value)} {kV doc pm cdv ct : Value} (l : K.lookup f = some ⟨oc, od, .func (Zx4 x qual (Gj st) (Ej st) (Ad st) .none kV doc pm an cdv ct), osl⟩)
  (c : Zvs K cdv qual = true) (k : Zwd K (.ref f) = true) : Fun K x qual st f (Zx4 x qual (Gj st) (Ej st) (Ad st) .none kV doc pm an cdv ct) := ⟨⟨oc, od, kV, doc, pm, an, cdv, ct, osl, rfl, l, c⟩, k⟩
end
theorem B5 {A : Around} {k : Nat} (hr : Room k A) : A.units + 1 < cLine := Zyp (Nat.add_le_add_left (by decide : 1 <= 64) _) hr.units
section
variable {X : Cx}
theorem pv (i : Nat) {x : Str} {pos : Pos} (hN : X.N[i]? = some x := by rfl) (hv : Vis X.env.scope x := by first | exact Zzq rfl | exact Or.inr (Zzq rfl) | exact Or.inr (Or.inr rfl)) (hd : (x == ("__debug__" : Str)) = false := by decide)
  (hcd : (x == ("__classdict__" : Str)) = false := by decide) : PE X (.Name x pos) (jr i) := kg hN hv hd hcd
theorem Xx : CallR X (.builtin "len") (λxs H Q => ∃ a kvs, xs = [V.ref a] /\ H a = some (.dK kvs) /\ Q (.int kvs.length) H) := by
 intro pins s Z H xs us Q I r h
 obtain ⟨a, kvs, rfl, ha, q⟩ := h
 obtain ⟨u, rfl, ru⟩ := Eu r
 cases ru
 exact qq I (.inl ha) λt s' I' => ⟨.int kvs.length, H, I', ⟨t, rfl⟩, q⟩
end
theorem iteF {A B : Prop} (h : B) : if false = true then A else B := by
 rw [if_neg Zz7]
 exact h
theorem iteT {A B : Prop} (h : A) : if true = true then A else B := by
 rw [if_pos rfl]
 exact h
theorem Cr {c A B : Prop} [Decidable c] (h1 : c -> A) (h2 : ¬ c -> B) : if c then A else B := by
 by_cases h : c
 ·rw [if_pos h]
  exact h1 h
 ·rw [if_neg h]
  exact h2 h
theorem qf {c A B : Prop} [Decidable c] (hc : c) (h : B) : if (!decide c) = true then A else B := by
 rw [decide_eq_true hc]
 exact iteF h
def Same (H H' : Hp) : Prop := ∀ b o, H b = some o -> H' b = some o
theorem Same.refl (H : Hp) : Same H H := λ_ _ h => h
theorem Same.trans {H H1 H2 : Hp} (a : Same H H1) (b : Same H1 H2) : Same H H2 := λc o h => b c o (a c o h)
theorem Same.free {H H' : Hp} (e : Same H H') {l : Addr} (h : H' l = Option.none) : H l = Option.none := by
 cases q : H l with
 | none => rfl
 | some o =>
  rw [e l o q] at h
  cases h
theorem Same.seq {K : Zzv} {H H' : Hp} {a : Addr} {xs : List V} (e : Same H H') (h : SqL K H a xs) : SqL K H' a xs := by
 rcases h with (h | ⟨o, h⟩) | h
 ·exact .inl (.inl (e _ _ h))
 ·exact .inl (.inr ⟨o, e _ _ h⟩)
 ·exact .inr h
section
variable {κ : Type} [DecidableEq κ]
theorem Y3 {kvs : List (κ × V)} {k : κ} (h : B1 kvs k = none) : ¬ k ∈ kvs.map (·.1) := by
 intro m
 obtain ⟨p, hp, e⟩ := Zzs.mp m
 have q : (kvs.any λkv => decide (kv.1 = k)) = true := List.any_eq_true.mpr ⟨p, hp, decide_eq_true e⟩
 rw [D1, h] at q
 exact absurd q (by simp)
theorem Pm {kvs : List (κ × V)} {k : κ} {v : V} (h : B1 kvs k = some v) : k ∈ kvs.map (·.1) := by
 have q : (kvs.any λkv => decide (kv.1 = k)) = true := by
  rw [D1, h]
  all_goals rfl
 obtain ⟨p, hp, e⟩ := List.any_eq_true.mp q
 exact Zzs.mpr ⟨p, hp, of_decide_eq_true e⟩
end
theorem Oj {env : Env} : ∀ (names : List (Str × NameKind)) (acc : List (Str × Addr)), (∀ y ∈ names, y.2 = .free -> ∃ c, env.cells.lookup y.1 = some c) -> (∀ x c, acc.lookup x = some c -> env.cells.lookup x = some c) ->
  ∃ cl, (forIn names acc (λx r => if (x.2 == Zyz) = true then do let c <- cellOf env x.1; pure (ForInStep.yield ((x.1, c) :: r)) else pure (ForInStep.yield r)) : Sem _) = pure cl /\
   (∀ x c, cl.lookup x = some c -> env.cells.lookup x = some c) /\ (∀ x, ((x, Zyz) ∈ names \/ ∃ c, acc.lookup x = some c) -> ∃ c, cl.lookup x = some c) := by
 intro names
 induction names with
 | nil => intro acc h ha; exact ⟨acc, rfl, ha, λx hx => by simpa using hx⟩
 | cons y r ih =>
  intro acc h ha
  obtain ⟨n, k⟩ := y
  have hr : ∀ y ∈ r, y.2 = .free -> ∃ c, env.cells.lookup y.1 = some c := λy hy => h y (Zzk _ hy)
  rw [List.forIn_cons]
  by_cases hk : k = .free
  ·subst hk
   obtain ⟨c, hc⟩ := h (n, .free) Zzj rfl
   have e : cellOf env n = pure c := by unfold cellOf; rw [hc]
   obtain ⟨cl, e1, a, b⟩ := ih ((n, c) :: acc) hr (λx c' hx => by
    rw [Zyc] at hx
    cases hxn : x == n with
    | true =>
     rw [hxn] at hx
     cases hx
     rw [eq_of_beq hxn]
     exact hc
    | false =>
     rw [hxn] at hx
     exact ha x c' hx)
   refine ⟨cl, ?_, a, λx hx => b x ?_⟩
   ·rw [<- e1]
    show (if (Zyz == Zyz) = true then (cellOf env n >>= _) else _) >>= _ = _
    rw [if_pos (show (Zyz == Zyz) = true from rfl), e]
    rfl
   ·rcases hx with hx | ⟨c', hx⟩
    ·rcases Zzo.mp hx with e2 | hx
     ·have e3 : x = n := congrArg Prod.fst e2
      exact .inr ⟨c, by rw [Zyc, e3]; simp⟩
     ·exact .inl hx
    ·refine .inr ?_
     rw [Zyc]
     cases x == n with
     | true => exact ⟨c, rfl⟩
     | false => exact ⟨c', hx⟩
  ·obtain ⟨cl, e1, a, b⟩ := ih acc hr ha
   refine ⟨cl, ?_, a, λx hx => b x ?_⟩
   ·rw [<- e1]
    have hb : (k == Zyz) = false := by simpa using hk
    show (if (k == Zyz) = true then _ else _) >>= _ = _
    rw [if_neg (by rw [hb]; simp)]
    rfl
   ·rcases hx with hx | hx
    ·rcases Zzo.mp hx with e2 | hx
     ·exact absurd (congrArg Prod.snd e2).symm hk
     ·exact .inl hx
    ·exact .inr hx
theorem Gq {scope : Scope} {env : Env} (h : ∀ y ∈ scope.names, y.2 = .free -> ∃ c, env.cells.lookup y.1 = some c) :
  ∃ cl, closureFor scope env = pure cl /\ (∀ x c, cl.lookup x = some c -> env.cells.lookup x = some c) /\ (∀ x, (x, Zyz) ∈ scope.names -> ∃ c, cl.lookup x = some c) := by
 obtain ⟨cl, e, a, b⟩ := Oj scope.names [] h (by intro x c e; cases e)
 refine ⟨cl, ?_, a, λx hx => b x (.inl hx)⟩
 unfold closureFor
 exact congrArg (λm => m >>= λx => pure x) e
def cpN (N own : List Str) (cap : List Nat) : List Str := own ++ cap.map λj => N.getD j ""
def Hw (own : List Str) (cap : List Nat) (Z : St) : St := own.map (λ_ => none) ++ cap.map λj => Z.getD j none
structure Ht (N : List Str) (osc sc : Scope) (own : List Str) (cap : List Nat) : Prop where
 kind : sc.kind = .function
 names : ∀ x ∈ sc.names, x.2 = .local -> sc.names.lookup x.1 = some .local
 nocell : ∀ y ∈ sc.names, y.2 ≠ .cell
 free : ∀ y ∈ sc.names, y.2 = .free -> osc.names.lookup y.1 = some .cell \/ osc.names.lookup y.1 = some .free
 cap : ∀ j ∈ cap, j < N.length /\ sc.names.lookup (N.getD j "") = some .free
def C0 (X : Cx) (sc : Scope) (own : List Str) (cap : List Nat) (cl : List (Str × Addr)) (C : Addr) (s : Shared) (H : Hp) (fp : List Addr) (pins : List (Addr × Obj)) : Cx :=
 { X with N := cpN X.N own cap, s₀ := s, H₀ := H, env := compEnvC sc cl C X.env, outer := X.stack, ex := fp, fn := λ_ => false, pn := X.pn ++ pins, xe := λ_ _ => False }
def PTs (X : Cx) (ifs : List Expr) (tt : TT) : Prop :=
 ∀ (pins : List (Addr × Obj)) (s : Shared) (Z : St) (H : Hp) (Q : Bool -> Hp -> Prop), Inv X pins Z H s -> tt Z H Q ->
  wpAny (model X.prog X.w) X.A (forIn ifs true λc r => if r = true then do let ok <- isTrue c X.env (eval c X.env); pure (ForInStep.yield ok) else pure (ForInStep.yield r)) (TP X pins Z Q) X.xe s
def tYes : TT := λ_ H Q => Q true H
theorem De {X : Cx} : PTs X [] tYes := λ_ _ _ H _ I h => wpAny_tests_nil ⟨H, I, h⟩
theorem Vc {X : Cx} {c : Expr} {tt : TT} (h : PT X c tt) : PTs X [c] tt := λpins s Z H Q I hq => wpAny_tests_one (h pins s Z H Q I hq)
def bq (n : Nat) (g : TG) : Prop := ∀ v Z H Q, g v Z H Q -> g v Z H λZ' H' => (Z'.length = Z.length /\ ∀ j, n <= j -> Z'[j]? = Z[j]?) /\ Q Z' H'
theorem C9 {n i : Nat} (h : i < n) : bq n (Dk i) := λv Z H Q q => ⟨⟨by simp, λj hj => by rw [Zxn (by omega)]⟩, q⟩
def Yh (own : List Str) (cap : List Nat) (wi : TI) (g : TG) (tt : TT) (te : TE) : TE := λZ H Q => wi Z H λJ H1 => ∃ W : Nat -> Nat -> List V -> Hp -> Prop, (∃ m, W 0 m [] H1) /\ ∀ i m acc H, W i m acc H -> acc.length <= sizeLine /\
 ((J.stop i H /\ ∀ p, H p = none -> Q (.ref p) (upd H p (.lst acc))) \/
  (J.go i H /\ acc.length < sizeLine /\ ∃ N : List V -> Hp -> Prop, (∀ acc' H', N acc' H' -> ∃ m', m' < m /\ W (i + 1) m' acc' H') /\ ∀ x H', J.yld i H x H' -> g x (Hw own cap Z) H' λσ2 H2 => tt σ2 H2 λb H3 => if b = true then te σ2 H3 λy H4 => N (acc ++ [y]) H4 else N acc H3))
section
variable {prog : Program} {w : World} {A : Around} {R : Result -> Shared -> Prop} {s : Shared}
theorem Hx {elt target iter : Expr} {ifs : List Expr} {scope : Scope} {pos : Pos} {it acc : Value} {env : Env} (I : Nat -> Shared -> Prop)
  (turn : ∀ n s, I n s -> wpAny (model prog w) A (pyNext it) (λr s₁ => match r with
   | none => R (.ok .next) s₁
   | some v => wpAny (model prog w) A (letOwnedTupleGo target it v) (λ_ s₁' => wpAny (model prog w) A (assign target env v) (λ_ s₂ =>
     wpAny (model prog w) A (forIn ifs true λc r => if r = true then do let ok <- isTrue c env (eval c env); pure (ForInStep.yield ok) else pure (ForInStep.yield r)) (λok s₃ =>
      if ok = true then wpAny (model prog w) A (eval elt env) (λx s₄ =>
       wpAny (model prog w) A (call (.builtin "list.append") [acc, x]) (λ_ s₅ => ∃ m, m < n /\ I m s₅) (λ_ _ => False) s₄) (λ_ _ => False) s₃
      else ∃ m, m < n /\ I m s₃) (λ_ _ => False) s₂) (λ_ _ => False) s₁') (λ_ _ => False) s₁) (λ_ _ => False) s)
  (n : Nat) (h : I n s) :
  codeAny (model prog w) A (.compLoop (.ListComp elt [⟨target, iter, ifs, 0⟩] scope pos) 0 it acc env) R s := by
 refine codeAny_loop rfl I (λn s hI => ?_) n h
 show wpAny _ A ((compTurn (.ListComp elt [⟨target, iter, ifs, 0⟩] scope pos) 0 it acc env).onRaise (λx => do noteFrame x env; theTreesLotGoes x)) _ _ s
 refine wpAny_noted ?_
 rw [compTurn_list]
 refine wpAny_bind (wpAny_standAt (wpAny_bind (wpAny_mono (turn n s hI) (λr s₁ h₁ => ?_) λ_ _ h' => h'.elim)))
 cases r with
 | none => exact wpAny_pure h₁
 | some v =>
  refine wpAny_bind (wpAny_mono h₁ (λ_ s₁' h₁' => ?_) λ_ _ h' => h'.elim)
  refine wpAny_bind (wpAny_mono h₁' (λ_ s₂ h₂ => wpAny_bind (wpAny_mono h₂ (λok s₃ h₃ => ?_) λ_ _ h' => h'.elim)) λ_ _ h' => h'.elim)
  cases ok with
  | false => exact wpAny_pure ⟨rfl, h₃⟩
  | true =>
   exact wpAny_bind (wpAny_bind (wpAny_mono h₃ (λx s₄ h₄ => wpAny_bind (wpAny_mono h₄ (λ_ s₅ h₅ => wpAny_pure (wpAny_pure ⟨rfl, h₅⟩)) λ_ _ h' => h'.elim)) λ_ _ h' => h'.elim))
end
section
variable {X : Cx}
theorem Pb {own : List Str} {cap : List Nat} {Z : St} {i : Nat} {v : V} (h : (Hw own cap Z)[i]? = some (some v)) : own.length <= i /\ ∃ j, cap[i - own.length]? = some j /\ Z[j]? = some (some v) := by
 unfold Hw at h
 by_cases hi : i < own.length
 ·rw [Zy6 (by simpa using hi), Zzx] at h
  cases e : own[i]? with
  | none => rw [e] at h; cases h
  | some a => rw [e] at h; cases h
 ·have hi' : own.length <= i := by omega
  rw [Zyk (by simpa using hi'), Zzz, Zzx] at h
  refine ⟨hi', ?_⟩
  cases e : cap[i - own.length]? with
  | none => rw [e] at h; cases h
  | some j =>
   rw [e] at h
   have h2 : Z.getD j none = some v := Zzn h
   refine ⟨j, rfl, ?_⟩
   rw [Zzg] at h2
   cases e2 : Z[j]? with
   | none => rw [e2] at h2; cases h2
   | some o => rw [e2] at h2; simp at h2; rw [h2]
theorem Gx {env : Env} {x : Str} {k : NameKind} : ∀ {names : List (Str × NameKind)}, names.lookup x = some k ->
  (names.map λ(n, k) => if (k == Zyz && env.scope.kind == .function && env.kindOf n == some .cell) then (n, Zwn) else (n, k)).lookup x = some (if (k == Zyz && env.scope.kind == .function && env.kindOf x == some .cell) = true then .cell else k)
 | [], h => by simp at h
 | (n, k') :: r, h => by
  have ih := @Gx env x k r
  show List.lookup x ((if (k' == Zyz && env.scope.kind == .function && env.kindOf n == some .cell) = true then (n, Zwn) else (n, k')) :: _) = _
  cases hx : x == n with
  | true =>
   simp only [Zyc, hx] at h
   cases h
   have e := eq_of_beq hx
   subst e
   by_cases hc : (k == Zyz && env.scope.kind == .function && env.kindOf x == some .cell) = true
   ·rw [if_pos hc, if_pos hc]; simp [Zyc]
   ·rw [if_neg hc, if_neg hc]; simp [Zyc]
  | false =>
   simp only [Zyc, hx] at h
   by_cases hc : (k' == Zyz && env.scope.kind == .function && env.kindOf n == some .cell) = true
   ·rw [if_pos hc]; simp only [Zyc, hx]; exact ih h
   ·rw [if_neg hc]; simp only [Zyc, hx]; exact ih h
theorem Ea {env : Env} {x : Str} : ∀ {names : List (Str × NameKind)}, (∀ y ∈ names, y.2 ≠ .cell) ->
  ((names.map λ(n, k) => if (k == Zyz && env.scope.kind == .function && env.kindOf n == some .cell) then (n, Zwn) else (n, k)).lookup x = some .cell \/
   (names.map λ(n, k) => if (k == Zyz && env.scope.kind == .function && env.kindOf n == some .cell) then (n, Zwn) else (n, k)).lookup x = some .free) -> (x, Zyz) ∈ names
 | [], _, h => by simp at h
 | (n, k') :: r, hn, h => by
  have ih := @Ea env x r λy hy => hn y (Zzk _ hy)
  have hk' : k' ≠ .cell := hn (n, k') Zzj
  have h : List.lookup x ((if (k' == Zyz && env.scope.kind == .function && env.kindOf n == some .cell) = true then (n, Zwn) else (n, k')) :: _) = some .cell \/
   List.lookup x ((if (k' == Zyz && env.scope.kind == .function && env.kindOf n == some .cell) = true then (n, Zwn) else (n, k')) :: _) = some .free := h
  cases hx : x == n with
  | true =>
   have e := eq_of_beq hx
   subst e
   by_cases hc : (k' == Zyz && env.scope.kind == .function && env.kindOf x == some .cell) = true
   ·have : k' = .free := by
     rw [Zyi, Zyi] at hc
     exact eq_of_beq hc.1.1
    rw [this]
    exact Zzj
   ·rw [if_neg hc] at h
    simp [Zyc] at h
    rcases h with h | h
    ·exact absurd h hk'
    ·rw [h]; exact Zzj
  | false =>
   by_cases hc : (k' == Zyz && env.scope.kind == .function && env.kindOf n == some .cell) = true
   ·rw [if_pos hc] at h; simp only [Zyc, hx] at h; exact Zzk _ (ih h)
   ·rw [if_neg hc] at h; simp only [Zyc, hx] at h; exact Zzk _ (ih h)
end
theorem Bt {a b : Addr} {n : Nat} (h1 : a < n) (h2 : n <= b) : a ≠ b := Zyy (Zzb h1 h2)
section
variable {X : Cx} {pins : List (Addr × Obj)} {Z : St} {H : Hp} {s : Shared} {sc : Scope} {own : List Str} {cap : List Nat} {cl : List (Str × Addr)} {C : Addr} {fp : List Addr}
theorem qt (S : Ht X.N X.env.scope sc own cap) (cl1 : ∀ x c, cl.lookup x = some c -> X.env.cells.lookup x = some c) (cl2 : ∀ x, (x, Zyz) ∈ sc.names -> ∃ c, cl.lookup x = some c)
  (I : Inv X pins Z H s) (f : ∀ b ∈ fp, Hg X pins H b) (live : ∀ b ∈ fp, b < s.heap.objs.size) (hC : s.heap.objs.size <= C) : (C0 X sc own cap cl C s H fp pins).Ok where
 mod := I.ok.mod
 kind := S.kind
 glob := I.ok.glob
 blt := I.ok.blt
 above := hC
 inj := λx y c h1 h2 => I.ok.inj x y c (cl1 x c h1) (cl1 y c h2)
 has := λx hx => cl2 x (Ea S.nocell hx)
 cab := λx c h => by cases h
 hd := I.ok.hd
 frames := I.ok.frames
 stk := .inl rfl
 exf := λb hb => ⟨λz => Bt (live b hb) hC z, λx c e => (f b hb).2.2.2.2.1 x c (cl1 x c e)⟩
 bs := I.bs
 bsz := Zyx I.ok.bsz I.sz
 noex := λb o e hb => by
  rcases (f b hb).2.2.2.1 with z | z
  ·exact I.ok.noex b o e z
  ·exact Bt (Zzb (Zzl e) I.ok.bsz) z rfl
 exfs := λb hb z => by
  rcases Zzo.mp (I.stkSub b z) with q | q
  ·exact (f b hb).2.1 q
  ·exact (f b hb).2.2.1 q
 funs := I.stack
 frf := I.stkFree
theorem mj (S : Ht X.N X.env.scope sc own cap) (cl1 : ∀ x c, cl.lookup x = some c -> X.env.cells.lookup x = some c) (cl2 : ∀ x, (x, Zyz) ∈ sc.names -> ∃ c, cl.lookup x = some c)
  (I : Inv X pins Z H s) (ok : (C0 X sc own cap cl C s H fp pins).Ok) (hC : s.heap.objs.size <= C) {h₁ : Heap} {tk : Nat} {m : Str -> Option Value} (hns : h₁.Ns C m) (old : ∀ b o, s.heap.get? b = some o -> h₁.get? b = some o) :
  Inv (C0 X sc own cap cl C s H fp pins) [] (Hw own cap Z) H { s with heap := h₁, toks := tk } := by
 have cellK : ∀ x c v, X.env.cells.lookup x = some c -> s.heap.IsCell c v -> h₁.IsCell c v := λx c v _ z => by
  obtain ⟨o, ho, hd⟩ := z
  exact ⟨o, old c o ho, hd⟩
 refine ⟨ok, rfl, I.bare, Un.kept old, ⟨m, hns, λi x v e1 e2 e3 => ?_⟩, λx c e => ?_, I.hok.fresh hC, λx c e => I.freeC x c (cl1 x c e), λp hp => ?_, I.hok.kept old, ?_⟩
 ·have e1 : (cpN X.N own cap)[i]? = some x := e1
  obtain ⟨hi, j, hj, hσ⟩ := Pb e2
  unfold cpN at e1
  rw [Zyk hi, Zzx, hj] at e1
  have e1 : X.N.getD j "" = x := Zzn e1
  obtain ⟨hjl, hfr⟩ := S.cap j (Zzw hj)
  have hx : X.N[j]? = some x := by rw [<- e1, Zzg]; simp [hjl]
  rw [e1] at hfr
  have hfree := S.free (x, .free) (Zxj hfr) rfl
  obtain ⟨m0, _, hl⟩ := I.loc
  obtain ⟨u, r, l⟩ := hl j x v hx hσ (.inr hfree)
  refine ⟨u, r, ?_⟩
  rcases l with ⟨k, _⟩ | ⟨k, c, hc, z⟩
  ·have k : X.env.scope.names.lookup x = some .local := k
   rcases hfree with q | q <;> (rw [q] at k; cases k)
  ·obtain ⟨c', hc'⟩ := cl2 x (Zxj hfr)
   have e4 := cl1 x c' hc'
   rw [hc] at e4
   cases e4
   refine .inr ⟨?_, c, hc', cellK x c _ hc z⟩
   have q := Gx (env := X.env) hfr
   show (relabel sc X.env).names.lookup x = some .cell \/ (relabel sc X.env).names.lookup x = some .free
   have q' : (relabel sc X.env).names.lookup x = some (if (Zyz == Zyz && X.env.scope.kind == .function && X.env.kindOf x == some .cell) = true then .cell else .free) := q
   rw [q']
   split
   ·exact .inl rfl
   ·exact .inr rfl
 ·obtain ⟨v, z⟩ := I.cell x c (cl1 x c e)
  exact ⟨v, cellK x c v (cl1 x c e) z⟩
 ·have hp : p ∈ (X.pn ++ pins) ++ [] := hp
  rw [Zyu] at hp
  obtain ⟨e, n, ne, nf, d⟩ := I.pin p hp
  refine ⟨old _ _ e, n, λz => ?_, λz => ?_, d⟩
  ·exact Bt (Zzl e) hC z
  ·rcases Zzo.mp (I.stkSub p.1 z) with q | q
   ·exact ne q
   ·exact nf q
 ·show (Hw own cap Z).length = (cpN X.N own cap).length
  unfold Hw cpN
  simp
theorem gx (I : Inv X pins Z H s) (f : ∀ b ∈ fp, Hg X pins H b) (hC : s.heap.objs.size <= C) {D : Addr} (hD : s.heap.objs.size <= D) (hDC : D ≠ C) {Z' : St} {pl : List (Addr × Obj)} {H' : Hp} {s' : Shared} {acc : List V} {its : List Value} {nn : Nat}
  (J : Inv (C0 X sc own cap cl C s H fp pins) pl Z' H' s') (hDn : H' D = none) (hDo : s'.heap.get? D = some { cls := .type "list", data := .seq its.toArray nn }) (hv : Vals acc its) (hz : acc.length <= sizeLine) :
  Inv X pins Z (upd H' D (.lst acc)) s' /\ (∃ m, s'.heap.Ns C m) /\ Hg X pins (upd H' D (.lst acc)) C := by
 have u : Un (frs X.stack) fp H H' s.heap s'.heap := J.base
 have lt : ∀ b o, s.heap.get? b = some o -> b ≠ D := λb o e z => Bt (Zzl e) hD z
 have trk : ∀ b o, H b = some o -> b ≠ D := λb o e z => Bt (I.hok.lt e) hD z
 have CH : H' C = none := J.free
 refine ⟨I.call' (ch := fp) J.os ⟨u.keep, u.slot, λb o e n hx => by rw [A5 (lt b o e)]; exact u.free b o e n hx, u.there, λb xs e => by rw [A5 (trk b _ e)]; exact u.tups b xs e, λb o xs e => by rw [A5 (trk b _ e)]; exact u.frzs b o xs e, λb ps e => by rw [A5 (trk b _ e)]; exact u.tbls b ps e⟩ (λb o e => ?_) J.bare λb hb => ?_, ?_, ?_⟩
 ·by_cases hb : b = D
  ·subst hb
   rw [A0] at e
   cases e
   exact ⟨hz, its, nn, hv, hDo⟩
  ·rw [A5 hb] at e
   refine (J.hok b o e).stay (λc v _ q => q) (λc q => ?_) λc xs q => ?_
   ·rw [A5 (A6 q hDn)]; exact q
   ·rw [A5 (A6 q hDn)]; exact q
 ·obtain ⟨f0, f1, f2, f3, f4, f5⟩ := f b hb
  exact ⟨f3, f1, f4, f5⟩
 ·obtain ⟨m, hn, _⟩ := J.loc
  exact ⟨m, hn⟩
 ·refine I.fpOk hC ?_
  rw [A5 (Zzf hDC)]
  exact CH
theorem Ng {elt tg iter : Expr} {ifs : List Expr} {pos : Pos} {g : TG} {tt : TT} {te : TE} {E : Value -> Shared -> Prop}
  {it : Addr} {tn : Nat -> Heap -> Prop} {J : It} {Q : VK} {RR : Value -> Addr -> Result -> Shared -> Prop}
  (hc : X.calm = true) (S : Ht X.N X.env.scope sc own cap) (hown : bq own.length g)
  (cl1 : ∀ x c, cl.lookup x = some c -> X.env.cells.lookup x = some c) (cl2 : ∀ x, (x, Zyz) ∈ sc.names -> ∃ c, cl.lookup x = some c)
  (hb : ∀ cl C s H fp pins, PG (C0 X sc own cap cl C s H fp pins) tg g /\ PTs (C0 X sc own cap cl C s H fp pins) ifs tt /\ PE (C0 X sc own cap cl C s H fp pins) elt te)
  (I : Inv X pins Z H s) (T : Ks X.prog X.w X.K tg J fp it tn) (st : tn 0 s.heap) (f : ∀ b ∈ fp, Hg X pins H b)
  (W : Nat -> Nat -> List V -> Hp -> Prop) (w0 : ∃ m, W 0 m [] H)
  (turn : ∀ i m acc H, W i m acc H -> acc.length <= sizeLine /\ ((J.stop i H /\ ∀ p, H p = none -> Q (.ref p) (upd H p (.lst acc))) \/ (J.go i H /\ acc.length < sizeLine /\ ∃ N : List V -> Hp -> Prop, (∀ acc' H', N acc' H' -> ∃ m', m' < m /\ W (i + 1) m' acc' H') /\ ∀ x H', J.yld i H x H' -> g x (Hw own cap Z) H' λσ2 H2 => tt σ2 H2 λb H3 => if b = true then te σ2 H3 λy H4 => N (acc ++ [y]) H4 else N acc H3)))
  (hRR : ∀ D C H' s', Inv X pins Z H' s' -> (∃ m, s'.heap.Ns C m) -> Hg X pins H' C -> Q (.ref D) H' -> RR (.ref D) C (.ok .next) s') :
  wpAny (model X.prog X.w) X.A (newList []) (λacc s₃ => wpAny (model X.prog X.w) X.A (newFunctionEnv sc X.env.globals cl [] X.env.qual none .none (some X.env)) (λcenv s₄ =>
   codeAny (model X.prog X.w) X.A (.compStart (.ListComp elt [⟨tg, iter, ifs, 0⟩] sc pos) 0 (.ref it) acc { cenv with scope := relabel sc X.env }) (RR acc cenv.locals) s₄) E s₃) E s := by
 refine wpAny_newObj_type (wpAny_newFunctionEnv S.nocell (by intro y hy; simp at hy) (λh₁ hns₁ hsb₁ => ?_) S.kind)
 dsimp only at hns₁ hsb₁ ⊢
 generalize hH2 : s.heap.push { cls := .type "list", dict := none, data := .seq ([] : List Value).toArray } = H2 at hns₁ hsb₁ ⊢
 have hCs : H2.objs.size = s.heap.objs.size + 1 := by rw [<- hH2, Zxy]
 have hDC : s.heap.objs.size ≠ H2.objs.size := by omega
 have hCle : s.heap.objs.size <= H2.objs.size := by omega
 have old : ∀ b o, s.heap.get? b = some o -> h₁.get? b = some o := λb o e => by
  exact hsb₁.extBut b o (Bt (Zzl e) hCle) (Zzy _ (hH2 ▸ Zzy _ e))
 have hacc : h₁.get? s.heap.objs.size = some { cls := .type "list", data := .seq ([] : List Value).toArray 0 } := hsb₁.extBut _ _ hDC (Zzy _ (hH2 ▸ Zzi _ rfl))
 have live : ∀ b ∈ fp, b < s.heap.objs.size := λb hb => by
  obtain ⟨o, e, _⟩ := T.obj _ _ st b hb
  exact Zzl e
 have ok := qt (C := H2.objs.size) S cl1 cl2 I f live hCle
 have hDst : s.heap.objs.size ∉ frs X.stack := λz => by
  rcases Zzo.mp (I.stkSub _ z) with q | q
  ·exact Bt I.lt (Zzt _) q.symm
  ·exact I.nofs (Zzt _) q
 have fpX : ∀ (H' : Hp) (pl : List (Addr × Obj)), (∀ b ∈ fp, H' b = none) -> (∀ p ∈ pl, ∀ b ∈ fp, p.1 ≠ b) -> ∀ b ∈ fp, Hg (C0 X sc own cap cl H2.objs.size s H fp pins) pl H' b := λH' pl hn hp b hb => by
  obtain ⟨f0, f1, f2, f3, f4, f5⟩ := f b hb
  refine ⟨hn b hb, λz => ?_, λz => ?_, .inl hb, λx c e => f4 x c (cl1 x c e), λp hpp => ?_⟩
  ·exact Bt (live b hb) hCle z
  ·rcases Zzo.mp (I.stkSub b z) with q | q
   ·exact f1 q
   ·exact f2 q
  ·rcases Zzc.mp hpp with q | q
   ·exact f5 p q
   ·exact hp p q b hb
 have loop : ∀ s₃ : Shared, s₃ = { s with heap := h₁, toks := s.toks + ([] : List (Str × Value)).length } ->
   codeAny (model X.prog X.w) X.A (.compLoop (.ListComp elt [⟨tg, iter, ifs, 0⟩] sc pos) 0 (.ref it) (.ref s.heap.objs.size) (compEnvC sc cl H2.objs.size X.env))
    (RR (.ref s.heap.objs.size) H2.objs.size) s₃ := by
  rintro s₃ rfl
  obtain ⟨m0, w0⟩ := w0
  obtain ⟨hg, ht, he⟩ := hb cl H2.objs.size s H fp pins
  have I0 : Inv (C0 X sc own cap cl H2.objs.size s H fp pins) [] (Hw own cap Z) H { s with heap := h₁, toks := s.toks + ([] : List (Str × Value)).length } := mj S cl1 cl2 I ok hCle hns₁ old
  refine Hx (λn s' => ∃ i acc its nn H', Inv (C0 X sc own cap cl H2.objs.size s H fp pins) [] (Hw own cap Z) H' s' /\ tn i s'.heap /\ (∀ b ∈ fp, H' b = none) /\
   s'.heap.get? s.heap.objs.size = some { cls := .type "list", data := .seq its.toArray nn } /\ Vals acc its /\ H' s.heap.objs.size = none /\ W i n acc H') ?_ m0
   ⟨0, [], [], 0, H, I0, T.keep _ _ _ st (λb _ o e => old b o e), λb hb => (f b hb).1, hacc, .nil, I.hok.fresh (Zzt _), w0⟩
  rintro n s3 ⟨i, acc, its, nn, H3, I3, st3, fr3, hD3, rv3, hDn, w3⟩
  obtain ⟨hz, hcase⟩ := turn i n acc H3 w3
  have hpl : ∀ p ∈ [((s.heap.objs.size : Addr), ({ cls := .type "list", data := .seq its.toArray nn } : Obj))], ∀ b ∈ fp, p.1 ≠ b := λp hp b hb z => by
   have e : p = _ := Zzu.mp hp
   rw [e] at z
   exact Bt (live b hb) (Zzt _) z.symm
  have I3' : Inv (C0 X sc own cap cl H2.objs.size s H fp pins) [((s.heap.objs.size : Addr), ({ cls := .type "list", data := .seq its.toArray nn } : Obj))] (Hw own cap Z) H3 s3 := I3.pins_of λp hp => by
   have e : p = _ := Zzu.mp hp
   subst e
   exact ⟨hD3, hDn, hDC, hDst, λv z => by cases z⟩
  rcases hcase with ⟨stop, fin⟩ | ⟨go, hlt, N, hN, step⟩
  ·refine thn (T.done (C0 X sc own cap cl H2.objs.size s H fp pins) rfl rfl rfl hc i _ s3 _ H3 _ I3' (fpX H3 _ fr3 hpl) st3 stop) λr s4 ⟨hr, I4⟩ => ?_
   subst hr
   have hD4 := (I4.pin (_, _) (Zza _ (Zzu.mpr rfl))).1
   obtain ⟨J1, J2, J3⟩ := gx I f hCle (Zzt _) hDC I4 hDn hD4 rv3 hz
   exact hRR _ _ _ _ J1 J2 J3 (fin _ hDn)
  ·refine thn (T.item (C0 X sc own cap cl H2.objs.size s H fp pins) rfl rfl rfl hc i _ s3 _ H3 _ I3' (fpX H3 _ fr3 hpl) st3 go) λr s4 ⟨u, hr, h4⟩ => ?_
   subst hr
   refine thn h4 λ_ s5 ⟨x, H5, I5, r5, y5, st5, fr5⟩ => ?_
   have I5' := I5.pinned (fpX H5 _ fr5 hpl) (T.obj _ _ st5)
   refine thn (hg _ s5 _ H5 x u _ I5' r5 (hown _ _ _ _ (step x H5 y5))) λ_ s6 ⟨σ6, H6, I6, ⟨hx1, hx2⟩, q6⟩ => ?_
   refine thn (ht _ s6 σ6 H6 _ I6 q6) λb s7 ⟨H7, I7, q7⟩ => ?_
   have wk : ∀ {H7 : Hp} {s7 : Shared} {pl : List (Addr × Obj)}, Inv (C0 X sc own cap cl H2.objs.size s H fp pins) pl σ6 H7 s7 -> Inv (C0 X sc own cap cl H2.objs.size s H fp pins) pl (Hw own cap Z) H7 s7 := λI => I.weak hx1.symm λj v e => by
    rw [hx2 j (Pb e).1]
    exact e
   have stay : ∀ {H7 : Hp} {s7 : Shared} {σ7 : St}, Inv (C0 X sc own cap cl H2.objs.size s H fp pins) ([((s.heap.objs.size : Addr), ({ cls := .type "list", data := .seq its.toArray nn } : Obj))] ++ Kb fp s5.heap) σ7 H7 s7 ->
     tn (i + 1) s7.heap /\ (∀ b ∈ fp, H7 b = none) /\ s7.heap.get? s.heap.objs.size = some { cls := .type "list", data := .seq its.toArray nn } /\ H7 s.heap.objs.size = none := λ{H7 s7 σ7} I7 => by
    refine ⟨T.keep _ _ _ st5 λb hb o e => (I7.pin (b, o) (Zza _ (Zza _ (Ge hb e)))).1, λb hb => ?_, ?_, ?_⟩
    ·obtain ⟨o, e, d⟩ := T.obj _ _ st5 b hb
     exact (I7.pin (b, o) (Zza _ (Zza _ (Ge hb e)))).2.1
    ·exact (I7.pin (_, _) (Zza _ (Zyw _ (Zzu.mpr rfl)))).1
    ·exact (I7.pin (_, _) (Zza _ (Zyw _ (Zzu.mpr rfl)))).2.1
   cases b with
   | false =>
    rw [if_neg Zz7] at q7 ⊢
    obtain ⟨m', hm, w7⟩ := hN _ _ q7
    obtain ⟨a1, a2, a3, a4⟩ := stay I7
    exact ⟨m', hm, i + 1, acc, its, nn, H7, (wk I7).pins_of (λp hp => absurd hp (by simp)), a1, a2, a3, rv3, a4, w7⟩
   | true =>
    rw [if_pos rfl] at q7 ⊢
    refine thn (he _ s7 σ6 H7 _ I7 q7) λy s8 ⟨v, H8, I8, r8, n8⟩ => ?_
    obtain ⟨m', hm, w8⟩ := hN _ _ n8
    obtain ⟨a1, a2, a3, a4⟩ := stay I8
    have hlen := rv3.length
    refine call_meets F.slot_list_append ⟨_, a3, rfl⟩ F.entry_list_append (F.args_list_append_2 _ _) (PySem.list_append s.heap.objs.size its.toArray nn y (by rw [Zzp]; omega)) ⟨a3, ?_⟩
    obtain ⟨n', q⟩ : ∃ n', (s8.heap.update s.heap.objs.size (Obj.mapSeq (·.push y))).get? s.heap.objs.size = some { cls := .type "list", data := .seq (its ++ [y]).toArray n' } := by
     have q := PySem.IsL.update a3 (·.push y)
     have e : (its.toArray.push y) = (its ++ [y]).toArray := by simp
     rw [<- e]
     exact ⟨_, q⟩
    have I9 := (wk I8).pins_of (pins' := Kb fp s5.heap) λp hp => (wk I8).pin p (Zza _ (Zza _ hp))
    have kk : ∀ b o, b ≠ s.heap.objs.size -> s8.heap.get? b = some o -> (s8.heap.update s.heap.objs.size (Obj.mapSeq (·.push y))).get? b = some o := λb o hb e => (Zy7 s8.heap (Obj.mapSeq (·.push y)) (Zzf hb)).trans e
    refine ⟨m', hm, i + 1, acc ++ [v], its ++ [y], n', H8, (I9.pins_of (pins' := []) λp hp => absurd hp (by simp)).turned (it := s.heap.objs.size) kk a4 hDC (.inr (Zzt _)) (λx c e z => ?_) (λp hp z => ?_), T.keep _ _ _ a1 λb hb o e => kk b o (λz => ?_) e, a2, q, rv3.append (.cons r8 .nil), a4, w8⟩
    ·have e := cl1 x c e
     obtain ⟨w', o, ho, _⟩ := I.cell x c e
     exact Bt (Zzl ho) (Zzt _) z
    ·have hp : p ∈ (X.pn ++ pins) ++ [] := hp
     rw [Zyu] at hp
     exact Bt (Zzl (I.pin p hp).1) (Zzt _) z
    ·exact Bt (live b hb) (Zzt _) z
 exact codeAny_compStart_list (loop _ rfl) (T.self _ 0 _ _ _ (T.keep _ _ _ st λb _ o e => old b o e) (loop _ rfl))
theorem Ff {elt tg iter : Expr} {ifs : List Expr} {pos : Pos} {wi : TI} {g : TG} {tt : TT} {te : TE} (hc : X.calm = true) (S : Ht X.N X.env.scope sc own cap) (hown : bq own.length g) (hi : PI X tg iter wi)
  (hb : ∀ cl C s H fp pins, PG (C0 X sc own cap cl C s H fp pins) tg g /\ PTs (C0 X sc own cap cl C s H fp pins) ifs tt /\ PE (C0 X sc own cap cl C s H fp pins) elt te)
  (hs : ∀ x, foldedSetIterable iter X.env x = pure x := by intro _; rfl) : PE X (.ListComp elt [⟨tg, iter, ifs, 0⟩] sc pos) (Yh own cap wi g tt te) := by
 intro pins s Z H Q I h
 obtain ⟨cl, hcl, cl1, cl2⟩ := Gq (env := X.env) (scope := sc) λy hy hf => I.ok.has y.1 (S.free y hy hf)
 rw [eval_ListComp]
 refine wpAny_comprehension_free (use := none) rfl hs hcl S.kind S.names (thn (hi pins s Z H _ I h) λxv s1 h1 => thn h1 λitv s2 h2 => ?_)
 obtain ⟨it, fp, tn, J, H2, e, I2, T, st2, f2, W, w0, turn⟩ := h2
 subst e
 refine Ng (RR := λacc C => compPost (model X.prog X.w) X.A X.xe none (EP X pins Z Q) acc C) hc S hown cl1 cl2 hb I2 T st2 f2 W w0 turn ?_
 intro D C H' s' J1 ⟨m, J2⟩ ⟨c0, c1, c2, c3, c4, c5⟩ q
 exact ⟨m, J2, λh' sb => ⟨.ref D, H', J1.turned (t' := s'.toks) (λb o hb e => (sb.2 b hb).trans e) c0 c1 c3 c4 c5, rfl, q⟩⟩
theorem En {elt tg iter : Expr} {ifs : List Expr} {pos pos' spos : Pos} {wi : TI} {g : TG} {tt : TT} {te : TE} {i : Nat} {x : Str} (hc : X.calm = true) (S : Ht X.N X.env.scope sc own cap) (hown : bq own.length g) (hN : X.N.Nodup) (hx : X.N[i]? = some x) (hl : X.env.scope.names.lookup x = some .local) (hi : PI X tg iter wi)
  (hb : ∀ cl C s H fp pins, PG (C0 X sc own cap cl C s H fp pins) tg g /\ PTs (C0 X sc own cap cl C s H fp pins) ifs tt /\ PE (C0 X sc own cap cl C s H fp pins) elt te)
  (hsw : swapsWith (.ListComp elt [⟨tg, iter, ifs, 0⟩] sc pos) (some (.Name x pos')) spos.line X.env = pure true := by rfl)
  (hs : ∀ x, foldedSetIterable iter X.env x = pure x := by intro _; rfl) : PS X (.Assign [.Name x pos'] (.ListComp elt [⟨tg, iter, ifs, 0⟩] sc pos) spos) (ck (Yh own cap wi g tt te) (Dk i)) := by
 intro pins s Z H D I h
 obtain ⟨cl, hcl, cl1, cl2⟩ := Gq (env := X.env) (scope := sc) λy hy hf => I.ok.has y.1 (S.free y hy hf)
 rw [exec_Assign_Name_used _ _ _ _ hsw]
 refine wpAny_bind (wpAny_standAt (wpAny_bind ?_))
 show wpAny _ _ (do let _ <- comprehension (.ListComp elt [⟨tg, iter, ifs, 0⟩] sc pos) sc X.env _ (newList []) false (eval iter X.env) (some (assign (.Name x pos') X.env))) _ _ s
 refine wpAny_bind (wpAny_mono (wpAny_comprehension_free (use := some (assign (.Name x pos') X.env)) (Q := λ_ s' => SP X pins D .next s') rfl hs hcl S.kind S.names (thn (hi pins s Z H _ I h) λxv s1 h1 => thn h1 λitv s2 h2 => ?_)) (λ_ s' hq => wpAny_pure (wpAny_pure hq)) λ_ _ e => e)
 obtain ⟨it, fp, tn, J, H2, e, I2, T, st2, f2, W, w0, turn⟩ := h2
 subst e
 refine Ng (Q := λx H1 => Dk i x Z H1 D.nx) (RR := λacc C => compPost (model X.prog X.w) X.A X.xe (some (assign (.Name x pos') X.env)) (λ_ s' => SP X pins D .next s') acc C) hc S hown cl1 cl2 hb I2 T st2 f2 W w0 turn ?_
 intro L C H' s' J1 ⟨m, J2⟩ ⟨c0, c1, c2, c3, c4, c5⟩ q
 show wpAny _ _ (assign (.Name x pos') X.env (.ref L)) _ _ s'
 refine wpAny_assign_Name (Op (v := .ref L) J1 hN hx (.inl hl) rfl (λs'' J3 ⟨a, sb, ha⟩ => ?_) (.inr hl))
 have hCa : C ≠ a := by
  rcases ha with z | z
  ·rw [z]; exact c1
  ·exact Zzf (c4 _ _ z)
 refine ⟨m, J2.sameBut sb hCa, λh' sb' => ⟨_, H', J3.turned (t' := s''.toks) (λb o hb e => (sb'.2 b hb).trans e) c0 c1 c3 c4 c5, q⟩⟩
end
def Le (H : Hp) : V -> Option String
 | .non => some "NoneType"
 | .bl _ => some "bool"
 | .int _ => some "int"
 | .str _ => some "str"
 | .ref a => match H a with
  | some (.lst _) => some "list"
  | some (.tup _) => some "tuple"
  | some (.dK _) => some "dict"
  | _ => none
 | _ => none
def Bv (t T : String) : Bool := t == T || (t == "bool" && T == "int")
theorem ge (K : Zzv) {t T : String} (ht : t ∈ ["NoneType", "bool", "int", "str", "list", "tuple", "dict"]) (hT : T ∈ ["bool", "int", "str", "list", "tuple", "dict"]) : PySem.W.kitOne K (.type t) (.type T) = some (Bv t T) := by
 simp only [Zzo, Zz5, or_false] at ht hT
 rcases ht with rfl | rfl | rfl | rfl | rfl | rfl | rfl <;> rcases hT with rfl | rfl | rfl | rfl | rfl | rfl <;> first | rfl | decide +kernel
section
variable {X : Cx}
theorem Hd : CallR X (.builtin "isinstance") (λxs H Q => ∃ x T t, xs = [x, .ty T] /\ Le H x = some t /\ T ∈ ["bool", "int", "str", "list", "tuple", "dict"] /\ Q (.bl (Bv t T)) H) := by
 intro pins s Z H xs us Q I r h
 obtain ⟨x, T, t, rfl, ht, hT, q⟩ := h
 obtain ⟨u, w', rfl, ru, rw'⟩ := Rp r
 have rw' : w' = Value.type T := rw'
 subst rw'
 have key : ∀ {t' : String}, Kr X.K H x (.type t') -> t' = t -> t ∈ ["NoneType", "bool", "int", "str", "list", "tuple", "dict"] -> wpAny (model X.prog X.w) X.A (call (.builtin "isinstance") [u, .type T]) (EP X pins Z Q) X.xe s := λ{t'} ty e hm => by
  subst e
  exact Xj I ru ty (ge X.K hm hT) λtk => ⟨.bl (Bv t' T), H, I.tok tk, rfl, q⟩
 cases x with
 | non => cases ht; exact key .non rfl (by decide)
 | bl b => cases ht; exact key (.bl b) rfl (by decide)
 | int i => cases ht; exact key (.int i) rfl (by decide)
 | str z => cases ht; exact key (.str z) rfl (by decide)
 | ref a =>
  unfold Le at ht
  simp only at ht
  cases e : H a with
  | none => rw [e] at ht; cases ht
  | some o =>
   rw [e] at ht
   cases o with
   | lst xs => cases ht; exact key (.lst e) rfl (by decide)
   | tup xs => cases ht; exact key (.tup e) rfl (by decide)
   | dK kvs => cases ht; exact key (.dK e) rfl (by decide)
   | _ => cases ht
 | _ => cases ht
theorem Inv.walked {pins : List (Addr × Obj)} {Z : St} {H : Hp} {s : Shared} {o : Obj} {h' : Heap} {tk : Nat} (I : Inv X pins Z H s) (k : ∀ b ob, b ∉ [s.heap.objs.size] -> (s.heap.push o).get? b = some ob -> h'.get? b = some ob) : Inv X pins Z H { s with heap := h', toks := tk } :=
 I.kept λb u e => k b u (by
  intro z
  exact Bt (Zzl e) (Zzt _) (Zzu.mp z)) (Zzy _ e)
theorem V1 : ∀ {bs : List Bool} {us : List Value}, Vals (bs.map V.bl) us -> us = bs.map Value.bool
 | [], _, .nil => rfl
 | b :: r, _, .cons h t => by
  have h : _ = Value.bool b := h
  rw [h, V1 t]
  rfl
theorem U1 (bs : List Bool) : ((Zz9 bs.length).all λi => (bs[i]?).getD true) = bs.all id := by
 induction bs with
 | nil => rfl
 | cons b r ih =>
  rw [Zyl, List.range_succ_eq_map, Zw5, Zw5, List.all_map]
  show ((b :: r)[0]?.getD true && _) = _
  congr 1
theorem Av {pins : List (Addr × Obj)} {Z : St} {H : Hp} {s : Shared} {a : Addr} {xs : List V} (I : Inv X pins Z H s) (h : H a = some (.lst xs)) : ∃ its : List Value, Vals xs its /\ s.heap.IsList a its.toArray /\ a < s.heap.objs.size := by
 obtain ⟨hz, its, n, r, e⟩ := I.hok a _ h
 exact ⟨its, r, ⟨_, e, rfl, n, rfl⟩, Zzl e⟩
theorem au (hc : X.calm = true) : CallR X (.builtin "all") (λxs H Q => ∃ (a : Addr) (bs : List Bool), xs = [.ref a] /\ H a = some (.lst (bs.map V.bl)) /\ Q (.bl (bs.all id)) H) := by
 intro pins s Z H xs us Q I r h
 obtain ⟨a, bs, rfl, ha, q⟩ := h
 obtain ⟨u, rfl, ru⟩ := Eu r
 cases ru
 obtain ⟨its, rv, hl, hlt⟩ := Av I ha
 have e := V1 rv
 subst e
 refine call_all_walk (wpAny_pyIter_list hl ?_)
 refine ⟨s.heap.objs.size, [s.heap.objs.size, a], [s.heap.objs.size], (bs.map Value.bool).toArray.size, _, _, λi => (bs[i]?).getD true, rfl, Walks.list (A := X.A.in1) (I.ok.hd hc) _ a (Zyy hlt) (bs.map Value.bool).toArray,
  ⟨⟨_, Zzi _ rfl, rfl, rfl⟩, hl.push _⟩, λi v s' Q' E' hP hQ => ?_, λh' tk hk => ?_⟩
 ·have hP : (bs.map Value.bool)[i]? = some v := by simpa using hP
  rw [Zzx] at hP
  cases e : bs[i]? with
  | none => rw [e] at hP; cases hP
  | some b =>
   rw [e] at hP
   cases hP
   simp only [e, Option.getD_some] at hQ
   exact wpAny_truthy_bool hQ
 ·have e : ((Zz9 (bs.map Value.bool).toArray.size).all λi => (bs[i]?).getD true) = bs.all id := by
   rw [Zzp, Zzz]; exact U1 bs
  rw [e]
  exact ⟨.bl (bs.all id), H, I.walked hk, rfl, q⟩
theorem op_isB : OpR X (compareOp .Is) (λx y H Q => ∃ i j, x = .bl i /\ y = .bl j /\ Q (.bl (i == j)) H) := by
 intro pins s Z H x y v u Q I rx ry h
 obtain ⟨i, j, rfl, rfl, q⟩ := h
 cases rx
 cases ry
 exact is_bool ⟨.bl (i == j), H, I, rfl, q⟩
theorem op_isnotB : OpR X (compareOp .IsNot) (λx y H Q => ∃ i j, x = .bl i /\ y = .bl j /\ Q (.bl (i != j)) H) := by
 intro pins s Z H x y v u Q I rx ry h
 obtain ⟨i, j, rfl, rfl, q⟩ := h
 cases rx
 cases ry
 exact isnot_bool ⟨.bl (i != j), H, I, rfl, q⟩
theorem Wc {P : Program} {w : World} {K : Zzv} {tg : Expr} (a it : Addr) (xs : List V) : Ks P w K tg ⟨λi H => H a = some (.lst xs) /\ i < xs.length, λi H x H' => H' = H /\ xs[i]? = some x, λi H => H a = some (.lst xs) /\ xs.length <= i⟩ [it] it (λi h => h.IsListIter it a i) where
 mem := (Dp (P := P) (w := w) (K := K) (tg := tg) a it).mem
 obj := (Dp (P := P) (w := w) (K := K) (tg := tg) a it).obj
 keep := (Dp (P := P) (w := w) (K := K) (tg := tg) a it).keep
 item := by
  intro X hP hw hK hc i pins s Z H E I hf st hg
  obtain ⟨h1, h2⟩ := hg
  refine thn ((Dp (P := P) (w := w) (K := K) (tg := tg) a it).item X hP hw hK hc i pins s Z H E I hf st ⟨xs, xs[i], SqL.of h1, by simp [h2]⟩) λr s1 ⟨u, hr, h3⟩ => ⟨u, hr, thn h3 λ_ s2 ⟨x, H', I2, rx, ⟨y1, y2⟩, st2, f2⟩ => ⟨x, H', I2, rx, ⟨y1, y2 xs (SqL.of h1)⟩, st2, f2⟩⟩
 done := by
  intro X hP hw hK hc i pins s Z H E I hf st hg
  obtain ⟨h1, h2⟩ := hg
  exact (Dp (P := P) (w := w) (K := K) (tg := tg) a it).done X hP hw hK hc i pins s Z H E I hf st ⟨xs, SqL.of h1, h2⟩
 self := (Dp (P := P) (w := w) (K := K) (tg := tg) a it).self
theorem Wb {P : Program} {w : World} {K : Zzv} {tg : Expr} (a it : Addr) (xs : List V) : Ks P w K tg ⟨λi H => H a = some (.tup xs) /\ i < xs.length, λi H x H' => H' = H /\ xs[i]? = some x, λi H => H a = some (.tup xs) /\ xs.length <= i⟩ [it] it (λi h => h.IsTupleIter it a i) where
 mem := (Do (P := P) (w := w) (K := K) (tg := tg) a it).mem
 obj := (Do (P := P) (w := w) (K := K) (tg := tg) a it).obj
 keep := (Do (P := P) (w := w) (K := K) (tg := tg) a it).keep
 item := by
  intro X hP hw hK hc i pins s Z H E I hf st hg
  obtain ⟨h1, h2⟩ := hg
  refine thn ((Do (P := P) (w := w) (K := K) (tg := tg) a it).item X hP hw hK hc i pins s Z H E I hf st ⟨xs, xs[i], SqT.of h1, by simp [h2]⟩) λr s1 ⟨u, hr, h3⟩ => ⟨u, hr, thn h3 λ_ s2 ⟨x, H', I2, rx, ⟨y1, y2⟩, st2, f2⟩ => ⟨x, H', I2, rx, ⟨y1, y2 xs (SqT.of h1)⟩, st2, f2⟩⟩
 done := by
  intro X hP hw hK hc i pins s Z H E I hf st hg
  obtain ⟨h1, h2⟩ := hg
  exact (Do (P := P) (w := w) (K := K) (tg := tg) a it).done X hP hw hK hc i pins s Z H E I hf st ⟨xs, SqT.of h1, h2⟩
 self := (Do (P := P) (w := w) (K := K) (tg := tg) a it).self
def ItL (a : Addr) (xs : List V) : It := ⟨λi H => H a = some (.lst xs) /\ i < xs.length, λi H x H' => H' = H /\ xs[i]? = some x, λi H => H a = some (.lst xs) /\ xs.length <= i⟩
def ItT (a : Addr) (xs : List V) : It := ⟨λi H => H a = some (.tup xs) /\ i < xs.length, λi H x H' => H' = H /\ xs[i]? = some x, λi H => H a = some (.tup xs) /\ xs.length <= i⟩
end
structure On (J : It) (n : Nat) (yl : Nat -> V -> Prop) (ok : Hp -> Prop) : Prop where
 go : ∀ i H, i < n -> ok H -> J.go i H
 yld : ∀ i H x H', i < n -> ok H -> J.yld i H x H' -> H' = H /\ yl i x
 stop : ∀ H, ok H -> J.stop n H
theorem Dl (a : Addr) (xs : List V) : On (ItL a xs) xs.length (λi x => xs[i]? = some x) (λH => H a = some (.lst xs)) := ⟨λ_ _ h o => ⟨o, h⟩, λ_ _ _ _ _ _ y => y, λ_ o => ⟨o, Zzt _⟩⟩
theorem Fj (a : Addr) (xs : List V) : On (ItT a xs) xs.length (λi x => xs[i]? = some x) (λH => H a = some (.tup xs)) := ⟨λ_ _ h o => ⟨o, h⟩, λ_ _ _ _ _ _ y => y, λ_ o => ⟨o, Zzt _⟩⟩
theorem L5 (lo : Int) (n : Nat) : On (Itr lo n) n (λi x => x = .int (lo + i)) (λ_ => True) := ⟨λ_ _ h _ => h, λ_ _ _ _ _ _ y => y, λ_ _ => Zzt _⟩
theorem Zy {J : It} {n : Nat} {yl : Nat -> V -> Prop} {ok : Hp -> Prop} {g : TG} {tb : TS} {D : Ku} {Z : St} {H : Hp} (G : On J n yl ok) (Pv : Nat -> St -> Hp -> Prop) (h0 : Pv 0 Z H) (hok : ∀ i Z H, i <= n -> Pv i Z H -> ok H)
  (hs : ∀ i x Z H, i < n -> yl i x -> Pv i Z H -> g x Z H λσ2 H2 => tb { D with nx := Pv (i + 1), ct := Pv (i + 1), bk := D.nx } σ2 H2) (hd : ∀ Z H, Pv n Z H -> D.nx Z H) :
  ∃ W : Nat -> Nat -> St -> Hp -> Prop, (∃ m, W 0 m Z H) /\ ∀ i m Z H, W i m Z H ->
   (J.stop i H /\ D.nx Z H) \/ (J.go i H /\ ∃ N : St -> Hp -> Prop, (∀ Z' H', N Z' H' -> ∃ m', m' < m /\ W (i + 1) m' Z' H') /\ ∀ x H', J.yld i H x H' -> g x Z H' λσ2 H2 => tb { D with nx := N, ct := N, bk := D.nx } σ2 H2) := by
 refine ⟨λi m Z H => m = n - i /\ i <= n /\ Pv i Z H, ⟨n, by simp, Zz3 _, h0⟩, ?_⟩
 rintro i m Z H ⟨rfl, hi, p⟩
 have q := hok i Z H hi p
 by_cases hlt : i < n
 ·refine .inr ⟨G.go i H hlt q, Pv (i + 1), λZ' H' p' => ⟨n - (i + 1), by omega, rfl, hlt, p'⟩, λx H' y => ?_⟩
  obtain ⟨e, y'⟩ := G.yld i H x H' hlt q y
  subst e
  exact hs i x Z _ hlt y' p
 ·have e : i = n := by omega
  subst e
  exact .inl ⟨G.stop H q, hd Z H p⟩
theorem Pc {J : It} {n : Nat} {yl : Nat -> V -> Prop} {ok : Hp -> Prop} {g : TG} {tt : TT} {te : TE} {σ0 : St} {H : Hp} {Q : VK} (G : On J n yl ok) (hn : n <= sizeLine) (Pv : Nat -> List V -> Hp -> Prop) (h0 : Pv 0 [] H) (hok : ∀ i acc H, i <= n -> Pv i acc H -> ok H)
  (hlen : ∀ i acc H, Pv i acc H -> acc.length <= i)
  (hs : ∀ i x acc H, i < n -> yl i x -> Pv i acc H -> g x σ0 H λσ2 H2 => tt σ2 H2 λb H3 => if b = true then te σ2 H3 λy H4 => Pv (i + 1) (acc ++ [y]) H4 else Pv (i + 1) acc H3)
  (hd : ∀ acc H, Pv n acc H -> ∀ p, H p = none -> Q (.ref p) (upd H p (.lst acc))) :
  ∃ W : Nat -> Nat -> List V -> Hp -> Prop, (∃ m, W 0 m [] H) /\ ∀ i m acc H, W i m acc H -> acc.length <= sizeLine /\
   ((J.stop i H /\ ∀ p, H p = none -> Q (.ref p) (upd H p (.lst acc))) \/
    (J.go i H /\ acc.length < sizeLine /\ ∃ N : List V -> Hp -> Prop, (∀ acc' H', N acc' H' -> ∃ m', m' < m /\ W (i + 1) m' acc' H') /\ ∀ x H', J.yld i H x H' -> g x σ0 H' λσ2 H2 => tt σ2 H2 λb H3 => if b = true then te σ2 H3 λy H4 => N (acc ++ [y]) H4 else N acc H3)) := by
 refine ⟨λi m acc H => m = n - i /\ i <= n /\ Pv i acc H, ⟨n, by simp, Zz3 _, h0⟩, ?_⟩
 rintro i m acc H ⟨rfl, hi, p⟩
 have q := hok i acc H hi p
 have hl := hlen i acc H p
 refine ⟨by omega, ?_⟩
 by_cases hlt : i < n
 ·refine .inr ⟨G.go i H hlt q, by omega, Pv (i + 1), λacc' H' p' => ⟨n - (i + 1), by omega, rfl, hlt, p'⟩, λx H' y => ?_⟩
  obtain ⟨e, y'⟩ := G.yld i H x H' hlt q y
  subst e
  exact hs i x acc _ hlt y' p
 ·have e : i = n := by omega
  subst e
  exact .inl ⟨G.stop H q, hd acc H p⟩
section
variable {X : Cx} {a b c e o : Expr} {ta tb tc te to : TE} {pos p apos cpos : Pos} {es : List Expr} {t : TA}
theorem Fx : OpR X (binaryOp .FloorDiv) (rI (λ_ j => 0 < j /\ j < 10 ^ 200) λi j => .int (i / j)) := opI λi j _ _ _ _ _ hc q => by
 have h : j.natAbs.log2 < 9000 := by
  have h1 : j.natAbs ≠ 0 := by omega
  rw [Nat.log2_lt h1]
  have h2 : j.natAbs < 10 ^ 200 := by have := hc.2; omega
  exact Zzb h2 (by decide +kernel)
 refine floordiv_int (by omega) ?_ (.inl (PyProof.noPylong_of_log2 h))
 rw [Int.fdiv_eq_ediv_of_nonneg i (by omega)]
 exact q
def Jw (H : Hp) (x y v : V) : Prop :=
 (∃ p xs i, x = .ref p /\ y = .int i /\ (H p = some (.lst xs) \/ H p = some (.tup xs)) /\ atI xs i = some v) \/
 (∃ z i c, x = .str z /\ y = .int i /\ z.length <= sizeLine /\ atI z.cps.toList i = some c /\ v = .str ⟨#[c]⟩) \/
 (∃ p kvs k, x = .ref p /\ y = kV k /\ Rd H p (.dK kvs) /\ B1 kvs k = some v)
def rItem : R2 := λx y H Q => ∃ v, Jw H x y v /\ Q v H
theorem gi (hu : X.A.units + 1 < cLine) : IxR X (λx y H Q => ∃ a v, x = .ref a /\ DGet H a y (some v) /\ Q v H) := by
 intro value slice pins s Z H x y v u Q I rx ry h hs
 obtain ⟨a, z, rfl, g, q⟩ := h
 cases rx
 exact tail_any (La I g) PySem.F.slot_dict_getitem.lookup (Pa hu I g ry λw' s3 I3 rw' => ⟨z, H, I3, rw', q⟩) hs
theorem gh (hu : X.A.units + 1 < cLine) : IxR X rItem := by
 intro value slice pins s Z H x y v u Q I rx ry h hs
 obtain ⟨z, h, q⟩ := h
 rcases h with ⟨p, xs, i, rfl, rfl, h | h, he⟩ | ⟨z', i, c, rfl, rfl, hz, he, rfl⟩ | ⟨p, kvs, k, rfl, rfl, h, he⟩
 ·exact Qv value slice pins s Z H _ _ v u Q I rx ry ⟨p, xs, i, z, rfl, rfl, SqL.of h, he, q⟩ hs
 ·exact lx value slice pins s Z H _ _ v u Q I rx ry ⟨p, xs, i, z, rfl, rfl, SqT.of h, he, q⟩ hs
 ·exact ly value slice pins s Z H _ _ v u Q I rx ry ⟨z', i, c, rfl, rfl, hz, he, q⟩ hs
 ·refine gi hu value slice pins s Z H _ _ v u Q I rx ry ⟨p, z, rfl, ?_, q⟩ hs
  have g : DGet H p (kV k) (B1 kvs k) := .inl ⟨kvs, k, h, rfl, rfl⟩
  rw [he] at g
  exact g
theorem A7 (hu : X.A.units + 1 < cLine) (ha : PE X a ta) (hb : PE X b tb) (hs : W2 b) : PE X (.Subscript a b pos) (tOp rItem ta tb) := Ys (gh hu) ha hb hs
theorem Ab {H : Hp} {p : Addr} {xs : List V} {j : Nat} {v : V} (h : H p = some (.tup xs)) (e : xs[j]? = some v) : Jw H (.ref p) (.int j) v := .inl ⟨p, xs, j, rfl, rfl, .inr h, Hs e⟩
theorem Ip {H : Hp} {p : Addr} {xs : List V} {j : Nat} {v : V} (h : H p = some (.lst xs)) (e : xs[j]? = some v) : Jw H (.ref p) (.int j) v := .inl ⟨p, xs, j, rfl, rfl, .inl h, Hs e⟩
theorem Kk {H : Hp} {p : Addr} {xs : List V} {i : Int} {v : V} (h : H p = some (.lst xs) \/ H p = some (.tup xs)) (h0 : 0 <= i) (e : xs[i.toNat]? = some v) : Jw H (.ref p) (.int i) v := by
 refine .inl ⟨p, xs, i, rfl, rfl, h, ?_⟩
 have q := Hs e
 rw [Int.toNat_of_nonneg h0] at q
 exact q
theorem Zp {H : Hp} {z : Str} {i : Int} {c : Nat} (hz : z.length <= sizeLine) (h0 : 0 <= i) (e : z.cps.toList[i.toNat]? = some c) : Jw H (.str z) (.int i) (.str ⟨#[c]⟩) := by
 refine .inr (.inl ⟨z, i, c, rfl, rfl, hz, ?_, rfl⟩)
 have q := Hs e
 rw [Int.toNat_of_nonneg h0] at q
 exact q
theorem Dj {H : Hp} {p : Addr} {kvs : List (Key × V)} {k : Str} {v : V} (h : Rd H p (.dK kvs)) (e : B1 kvs (Zy2 k) = some v) : Jw H (.ref p) (.str k) v := .inr (.inr ⟨p, kvs, Zy2 k, rfl, rfl, h, e⟩)
def lenA : List V -> Hp -> VK -> Prop := λxs H Q => (∃ p ys, xs = [.ref p] /\ (H p = some (.lst ys) \/ H p = some (.tup ys)) /\ Q (.int ys.length) H) \/ (∃ z, xs = [.str z] /\ z.length <= sizeLine /\ Q (.int z.length) H) \/ (∃ p kvs, xs = [.ref p] /\ H p = some (.dK kvs) /\ Q (.int kvs.length) H)
theorem call_lenA : CallR X (.builtin "len") lenA := by
 intro pins s Z H xs us Q I r h
 rcases h with ⟨p, ys, rfl, h, q⟩ | ⟨z, rfl, hz, q⟩ | ⟨p, kvs, rfl, h, q⟩
 ·exact Jt pins s Z H _ us Q I r ⟨p, ys, rfl, h.imp SqL.of SqT.of, q⟩
 ·exact Ri pins s Z H _ us Q I r ⟨z, rfl, hz, q⟩
 ·exact Xx pins s Z H _ us Q I r ⟨p, kvs, rfl, h, q⟩
def InA (H : Hp) (x y : V) (b : Bool) : Prop :=
 (∃ p xs, y = .ref p /\ (H p = some (.lst xs) \/ H p = some (.tup xs)) /\ Ia x = true /\ xs.all Ia = true /\ b = inV x xs) \/
 (∃ i j, x = .str i /\ y = .str j /\ b = !(Builtin.Str.occurrences j i 0 j.length 1).isEmpty) \/
 (∃ p kvs k, y = .ref p /\ x = kV k /\ Rd H p (.dK kvs) /\ b = (B1 kvs k).isSome)
theorem Yz (hu : X.A.units + 1 < cLine) : OpR X (compareOp .In) (λx y H Q => ∃ b, InA H x y b /\ Q (.bl b) H) := by
 intro pins s Z H x y v u Q I rx ry h
 obtain ⟨b, h, q⟩ := h
 rcases h with ⟨p, xs, rfl, hp, fx, fxs, rfl⟩ | ⟨i, j, rfl, rfl, rfl⟩ | ⟨p, kvs, k, rfl, rfl, hp, rfl⟩
 ·exact Wq pins s Z H _ _ v u Q I rx ry ⟨p, xs, rfl, hp.imp SqL.of SqT.of, fx, fxs, q⟩
 ·exact Wp pins s Z H _ _ v u Q I rx ry ⟨i, j, rfl, rfl, q⟩
 ·cases ry
  exact d_in hu I (.inl ⟨kvs, k, hp, rfl, rfl⟩) rx λs' I' => ⟨.bl _, H, I', rfl, q⟩
def rSetA : V -> V -> V -> Hp -> (Hp -> Prop) -> Prop := λo i v H Q => rSetL o i v H Q \/ (∃ p kvs k, o = .ref p /\ i = kV k /\ H p = some (.dK kvs) /\ kvs.length < sizeLine /\ Q (upd H p (.dK (B8 kvs k v))))
theorem cq (hu : X.A.units + 1 < cLine) : Xz X rSetA := by
 intro pins s Z H o i v ov iv u Q I ro ri rv h
 rcases h with h | ⟨p, kvs, k, rfl, rfl, hp, hl, q⟩
 ·exact Da pins s Z H o i v ov iv u Q I ro ri rv h
 ·cases ro
  exact P9 hu I (DPut.k hp hl) ri rv λs' I' => ⟨_, I', q⟩
theorem Y5 {K : Zzv} {H : Hp} {x : V} {T : String} (h : Le H x = some T) (hT : T = "list" \/ T = "dict" \/ T = "str") : tyV K T x H := by
 cases x with
 | str z => cases h; rfl
 | ref a =>
  unfold Le at h
  simp only at h
  cases e : H a with
  | none => rw [e] at h; cases h
  | some o =>
   rw [e] at h
   cases o with
   | lst xs => cases h; exact .inl ⟨rfl, xs, SqL.of e⟩
   | tup xs => cases h; exact absurd hT (by decide)
   | dK kvs => cases h; exact .inr (.inr (.inl ⟨rfl, .inl ⟨kvs, e⟩⟩))
   | _ => cases h
 | int i => cases h; exact absurd hT (by decide)
 | bl i => cases h; exact absurd hT (by decide)
 | non => cases h; exact absurd hT (by decide)
 | _ => cases h
def ou (T : String) (r : V -> List V -> Hp -> VK -> Prop) (to : TE) : TE := λZ H Q => to Z H λx H1 => Le H1 x = some T /\ r x [] H1 Q
def tBA (T : String) (r : V -> List V -> Hp -> VK -> Prop) (to : TE) (t : TA) : TE := λZ H Q => to Z H λx H1 => Le H1 x = some T /\ t Z H1 λxs H2 => r x xs H2 Q
variable {name : Str} {T id : String} {r : V -> List V -> Hp -> VK -> Prop}
theorem Yx (pa : PlainAttrs T) (slot : Slot T name id) (hty : typeOf (.builtin id) = pure (.type "method_descriptor")) (hm : MtR X id r) (ho : PE X o to) (hT : T = "list" \/ T = "dict" \/ T = "str" := by decide)
  (hbase : attributeBase o name X.env (eval o X.env) = eval o X.env := by rfl) (hline : (apos.endLine == cpos.line) = true := by rfl) : PE X (.Call (.Attribute o name apos) [] [] cpos) (ou T r to) := by
 intro pins s Z H Q I h
 refine wpAny_Call_method0_late hbase hline (thn (ho pins s Z H _ I h) λv s1 ⟨x, H1, I1, r1, ty, q1⟩ => ?_)
 obtain ⟨h1, h2⟩ := Y6 I1 r1 (Y5 ty hT)
 exact ⟨T, id, pa, slot, hty, h1, h2, Zx6 rfl (PySem.evalArgs_none (hm pins s1 Z H1 x [] v [] Q I1 r1 .nil q1))⟩
theorem pi (pa : PlainAttrs T) (slot : Slot T name id) (hty : typeOf (.builtin id) = pure (.type "method_descriptor")) (hm : MtR X id r) (ho : PE X o to) (ha : PA X (e :: es) t) (hT : T = "list" \/ T = "dict" \/ T = "str" := by decide)
  (hbase : attributeBase o name X.env (eval o X.env) = eval o X.env := by rfl)
  (hfew : ((backTo cpos (starEach (e :: es) X.env)).all (λx => !x.1) && (backToKw cpos (keywordEach [] X.env)).all (λx => x.1.isSome)
   && decide ((e :: es).length + ([] : List Keyword).length + (if ([] : List Keyword).isEmpty then 0 else 1) < 30)) = true := by rfl)
  (hline : (apos.endLine == cpos.line) = true := by rfl) (hs : starEach (e :: es) X.env = (false, eval e X.env) :: starEach es X.env := by rfl) (hplain : (backTo cpos (starEach es X.env)).any (·.1) = false := by rfl) :
  PE X (.Call (.Attribute o name apos) (e :: es) [] cpos) (tBA T r to t) := by
 intro pins s Z H Q I h
 refine wpAny_Call_method_late hbase hfew hline rfl (thn (ho pins s Z H _ I h) λv s1 ⟨x, H1, I1, r1, ty, q1⟩ => ?_)
 obtain ⟨h1, h2⟩ := Y6 I1 r1 (Y5 ty hT)
 refine ⟨T, id, pa, slot, hty, h1, h2, ?_⟩
 have hA := ha cpos pins s1 Z H1 _ I1 q1
 rw [hs] at hA ⊢
 refine Zx6 (by show (false || (backTo cpos (starEach es X.env)).any (·.1)) = false; rw [hplain] <;> rfl) (Zvy ?_)
 exact thn hA λus s2 ⟨vs, H2, I2, r2, q2⟩ => hm pins s2 Z H2 x vs v us Q I2 r1 r2 q2
end
def Has (P : Program) (w : World) (K : Zzv) (mg : Str -> Option Value) (base : Heap) (x : Str) (k : Nat) (ps : List Str) (sp : Sp) : Prop :=
 ∃ f fd, mg x = some (.ref f) /\ Zwd K (.ref f) = true /\ Binds K fd ps [] /\ Bh P w K mg base CX0 k f fd ps sp
theorem Yv {X : Cx} {x : Str} {k : Nat} {ps : List Str} {sp : Sp} {e : Expr} {es : List Expr} {t : TA} {p pos : Pos} (h : Has X.prog X.w X.K X.mg X.base x k ps sp) (hr : Room k X.A) (hg : Gl X x) (ha : PA X (e :: es) t)
  (hdb : (x == ("__debug__" : Str)) = false := by decide) (he : starEach (e :: es) X.env = (false, eval e X.env) :: starEach es X.env := by rfl) (hpl : (backTo pos (starEach es X.env)).any (·.1) = false := by rfl) :
  PE X (.Call (.Name x p) (e :: es) [] pos) (V5 sp [] E0 t) := by
 obtain ⟨f, fd, hm, hk, hb, F⟩ := h
 exact dy F hr hg hm hk hb .nil pj ha hdb he hpl
end L2
namespace HT
open PySem PyProof.Rows
section
variable {prog : Program} {w : World} {A : Around} {E : Value -> Shared -> Prop} {s : Shared}
end
end HT
namespace L2
open PySem PySem.Spec PyProof.Rows
section
variable {X : Cx} {a b c e o : Expr} {ta tb tc te to : TE} {pos p apos cpos : Pos} {es : List Expr} {t : TA}
theorem J0 : SlR X (λx lo hi H Q => ∃ a xs, x = .ref a /\ H a = some (.lst xs) /\ ∀ p, H p = none -> Q (.ref p) (upd H p (.lst (Hv xs lo hi)))) := by
 intro pins s Z H x v vl vu lo hi sl Q I rx hs pl pu h
 obtain ⟨a, xs, rfl, hx, q⟩ := h
 exact V7 pins s Z H _ v vl vu lo hi sl Q I rx hs pl pu ⟨a, xs, rfl, SqL.of hx, q⟩
theorem Ah {x : Str} {i : Int} {pos : Pos} (hg : Gl X x) (hm : ∃ t, X.mg x = some (.int i t)) (hd : (x == ("__debug__" : Str)) = false := by decide) : PE X (.Name x pos) (tC (.int i)) := by
 obtain ⟨t, hm⟩ := hm
 exact dm hg hm ⟨t, rfl⟩ hd
theorem Bq (hu : X.A.units + 1 < cLine) : OpR X (compareOp .Eq) rEq := py
theorem Mi (hu : X.A.units + 1 < cLine) : OpR X (compareOp .Lt) (rI0 λi j => .bl (decide (i < j))) := px
def rIsA : R2 := λx y H Q => (∃ i j, x = .bl i /\ y = .bl j /\ Q (.bl (i == j)) H) \/ (y = .non /\ Q (.bl (decide (x = .non))) H)
theorem Yy : OpR X (compareOp .Is) rIsA := op_isB.or kn
def rIsnotA : R2 := λx y H Q => (∃ i j, x = .bl i /\ y = .bl j /\ Q (.bl (i != j)) H) \/ (y = .non /\ Q (.bl (!decide (x = .non))) H)
theorem Ke : OpR X (compareOp .IsNot) rIsnotA := op_isnotB.or fe
theorem Pd (hc : X.calm = true) : CallR X (.builtin "min") (λxs H Q => ∃ i j, xs = [.int i, .int j] /\ Q (.int (if j < i then j else i)) H) := Xv hc
def tupleA : List V -> Hp -> VK -> Prop := λxs H Q => ∃ p ys, xs = [.ref p] /\ ((H p = some (.lst ys) /\ ∀ l, H l = none -> Q (.ref l) (upd H l (.tup ys))) \/ (H p = some (.tup ys) /\ Q (.ref p) H))
theorem E7 : CallR X (.type "tuple") tupleA := by
 intro pins s Z H xs us Q I r h
 obtain ⟨p, ys, rfl, h⟩ := h
 exact Ol pins s Z H _ us Q I r ⟨p, ys, rfl, h.imp (λh => ⟨SqL.of h.1, h.2⟩) λh => ⟨SqT.of h.1, h.2⟩⟩
def listA : List V -> Hp -> VK -> Prop := λxs H Q => ∃ p ys, xs = [.ref p] /\ (H p = some (.lst ys) \/ H p = some (.tup ys)) /\ ∀ l, H l = none -> Q (.ref l) (upd H l (.lst ys))
theorem Us : CallR X (.type "list") listA := by
 intro pins s Z H xs us Q I r h
 obtain ⟨p, ys, rfl, h, q⟩ := h
 exact Rh pins s Z H _ us Q I r ⟨p, ys, rfl, h.imp SqL.of SqT.of, q⟩
def cpB (N : List Str) (osc sc : Scope) (own : List Str) (cap : List Nat) : Bool :=
 decide (sc.kind = .function) && sc.names.all (λx => x.2 != .local || decide (sc.names.lookup x.1 = some .local)) && sc.names.all (λy => y.2 != .cell) &&
 sc.names.all (λy => y.2 != .free || decide (osc.names.lookup y.1 = some .cell) || decide (osc.names.lookup y.1 = some .free)) && cap.all λj => decide (j < N.length) && decide (sc.names.lookup (N.getD j "") = some .free)
theorem G0 {N : List Str} {osc sc : Scope} {own : List Str} {cap : List Nat} (h : cpB N osc sc own cap = true) : Ht N osc sc own cap := by
 unfold cpB at h
 rw [Zyi, Zyi, Zyi, Zyi] at h
 obtain ⟨⟨⟨⟨h1, h2⟩, h3⟩, h4⟩, h5⟩ := h
 refine ⟨of_decide_eq_true h1, λx hx hl => ?_, λy hy hc => ?_, λy hy hf => ?_, λj hj => ?_⟩
 ·have q := Zwz.mp h2 x hx
  rw [hl] at q
  exact of_decide_eq_true (by simpa using q)
 ·have q := Zwz.mp h3 y hy
  rw [hc] at q
  exact absurd q (by decide)
 ·have q := Zwz.mp h4 y hy
  rw [hf] at q
  rw [Bool.or_eq_true, Bool.or_eq_true] at q
  rcases q with (q | q) | q
  ·exact absurd q (by decide)
  ·exact .inl (of_decide_eq_true q)
  ·exact .inr (of_decide_eq_true q)
 ·have q := Zwz.mp h5 j hj
  rw [Zyi] at q
  exact ⟨of_decide_eq_true q.1, of_decide_eq_true q.2⟩
end
section
variable {X : Cx}
theorem CallR.weak {f : Value} {r r' : List V -> Hp -> VK -> Prop} (h : CallR X f r) (w : ∀ xs H Q, r' xs H Q -> r xs H Q) : CallR X f r' := λpins s Z H xs us Q I rv q => h pins s Z H xs us Q I rv (w _ _ _ q)
def lenQ : List V -> Hp -> VK -> Prop := λxs H Q => ∃ p ys, xs = [.ref p] /\ (H p = some (.lst ys) \/ H p = some (.tup ys)) /\ Q (.int ys.length) H
theorem B9 : CallR X (.builtin "len") lenQ := call_lenA.weak λ_ _ _ h => .inl h
def rSetD : V -> V -> V -> Hp -> (Hp -> Prop) -> Prop := λo i v H Q => ∃ p kvs k, o = .ref p /\ i = kV k /\ H p = some (.dK kvs) /\ kvs.length < sizeLine /\ Q (upd H p (.dK (B8 kvs k v)))
theorem Db (hu : X.A.units + 1 < cLine) : Xz X rSetD := λpins s Z H o i v ov iv u Q I ro ri rv h => cq hu pins s Z H o i v ov iv u Q I ro ri rv (.inr h)
theorem Gf : PIp X .Add (rI0 λi j => .int (i + j)) := λpins s Z H x y v u Q I rx ry q => gk pins s Z H x y v u Q I rx ry q
def qi (te : TE) : TI := λZ H R => te Z H λx H1 => ∃ a xs, x = .ref a /\ H1 a = some (.lst xs) /\ R (ItL a xs) H1
def qg (te : TE) : TI := λZ H R => te Z H λx H1 => ∃ a xs, x = .ref a /\ H1 a = some (.tup xs) /\ R (ItT a xs) H1
theorem Cl {tg l : Expr} {te : TE} (hl : PE X l te) : PI X tg l (qi te) := by
 intro pins s Z H R I h
 refine thn (hl pins s Z H _ I h) λv s1 ⟨x, H1, I1, r1, q1⟩ => ?_
 obtain ⟨a, xs, e, ha, q⟩ := q1
 subst e
 cases r1
 obtain ⟨its, rv, hli, hlt⟩ := Av I1 ha
 refine wpAny_pyIter_list hli ?_
 refine ⟨s1.heap.objs.size, [s1.heap.objs.size], _, _, H1, rfl, I1.kept (t' := s1.toks) λb o e => Zzy _ e, Wc a _ xs, ⟨_, Zzi _ rfl, rfl, rfl⟩, λb hb => ?_, q⟩
 have e : b = s1.heap.objs.size := by simpa using hb
 subst e
 exact I1.fpOk (Zzt _) (I1.hok.fresh (Zzt _))
theorem Dg {tg l : Expr} {te : TE} (hl : PE X l te) : PI X tg l (qg te) := by
 intro pins s Z H R I h
 refine thn (hl pins s Z H _ I h) λv s1 ⟨x, H1, I1, r1, q1⟩ => ?_
 obtain ⟨a, xs, e, ha, q⟩ := q1
 subst e
 cases r1
 obtain ⟨hz, its, rv, p⟩ := I1.hok a _ ha
 refine wpAny_pyIter_tuple (show s1.heap.IsTuple a its.toArray from p) ?_
 refine ⟨s1.heap.objs.size, [s1.heap.objs.size], _, _, H1, rfl, I1.kept (t' := s1.toks) λb o e => Zzy _ e, Wb a _ xs, ⟨_, Zzi _ rfl, rfl, rfl⟩, λb hb => ?_, q⟩
 have e : b = s1.heap.objs.size := by simpa using hb
 subst e
 exact I1.fpOk (Zzt _) (I1.hok.fresh (Zzt _))
end
end L2
namespace NP
open PySem L2
theorem Fp : bootBuiltins "isinstance" = some (.builtin "isinstance") := by decide +kernel
theorem mq : bootBuiltins "all" = some (.builtin "all") := by decide +kernel
theorem aw : bootBuiltins "min" = some (.builtin "min") := by decide +kernel
theorem Rj : bootBuiltins "max" = some (.builtin "max") := by decide +kernel
theorem D0 : bootBuiltins "len" = some (.builtin "len") := by decide +kernel
theorem Kq : bootBuiltins "sorted" = some (.builtin "sorted") := by decide +kernel
theorem Nl : bootBuiltins "int" = some (.type "int") := by decide +kernel
theorem i5 : bootBuiltins "bool" = some (.type "bool") := by decide +kernel
theorem He : bootBuiltins "tuple" = some (.type "tuple") := by decide +kernel
theorem Vx : bootBuiltins "list" = some (.type "list") := by decide +kernel
theorem Ti : bootBuiltins "reversed" = some (.type "reversed") := by decide +kernel
theorem Jv : bootBuiltins "enumerate" = some (.type "enumerate") := by decide +kernel
theorem av : bootBuiltins "zip" = some (.type "zip") := by decide +kernel
def But (st : Addr) (H H' : Hp) : Prop := ∀ b o, b ≠ st -> H b = some o -> H' b = some o
theorem But.refl (st : Addr) (H : Hp) : But st H H := λ_ _ _ h => h
theorem But.trans {st : Addr} {H H1 H2 : Hp} (a : But st H H1) (b : But st H1 H2) : But st H H2 := λc o n h => b c o n (a c o n h)
theorem Bb {st : Addr} {H H' : Hp} (s : Same H H') : But st H H' := λb o _ h => s b o h
theorem A3 {H : Hp} {p : Addr} {o : HO} (hp : H p = none) : Same H (upd H p o) := λb u h => by rw [A5 (A6 h hp)]; exact h
theorem Ju {st : Addr} {H : Hp} {p : Addr} {o : HO} (hp : H p = none) : But st H (upd H p o) := Bb (A3 hp)
theorem but_set {st : Addr} {H : Hp} {o : HO} : But st H (upd H st o) := λb u n h => by rw [A5 n]; exact h
def StOk (H : Hp) (st : Addr) : Prop := ∃ ns : List Int, ns ≠ [] /\ H st = some (.lst (ns.map V.int))
theorem StOk.same {H H' : Hp} {st : Addr} (h : StOk H st) (s : Same H H') : StOk H' st := by obtain ⟨ns, n, e⟩ := h; exact ⟨ns, n, s _ _ e⟩
inductive D where
 | non | bl (b : Bool) | int (i : Int) | str (x : Str) | tup (ds : List D) | lst | dct
mutual
def Rep (H : Hp) : D -> V -> Prop
 | .non, v => v = .non
 | .bl b, v => v = .bl b
 | .int i, v => v = .int i
 | .str x, v => v = .str x /\ x.length <= 1000
 | .tup ds, v => ∃ a xs, v = .ref a /\ H a = some (.tup xs) /\ ds.length <= 1000 /\ Reps H ds xs
 | .lst, v => ∃ a xs, v = .ref a /\ H a = some (.lst xs)
 | .dct, v => ∃ a kvs, v = .ref a /\ H a = some (.dK kvs)
def Reps (H : Hp) : List D -> List V -> Prop
 | [], xs => xs = []
 | d :: ds, xs => ∃ x r, xs = x :: r /\ Rep H d x /\ Reps H ds r
end
def jk (H H' : Hp) : Prop := (∀ a xs, H a = some (.tup xs) -> H' a = some (.tup xs)) /\ (∀ a xs, H a = some (.lst xs) -> ∃ ys, H' a = some (.lst ys)) /\ ∀ a kvs, H a = some (.dK kvs) -> ∃ kvs', H' a = some (.dK kvs')
mutual
theorem Rep.keep {H H' : Hp} (k : jk H H') : ∀ (d : D) (v : V), Rep H d v -> Rep H' d v
 | .non, v, h => by rw [Rep] at h ⊢; exact h
 | .bl b, v, h => by rw [Rep] at h ⊢; exact h
 | .int i, v, h => by rw [Rep] at h ⊢; exact h
 | .str x, v, h => by rw [Rep] at h ⊢; exact h
 | .tup ds, v, h => by
  rw [Rep] at h ⊢
  obtain ⟨a, xs, e, h, z, r⟩ := h
  exact ⟨a, xs, e, k.1 a xs h, z, Reps.keep k ds xs r⟩
 | .lst, v, h => by
  rw [Rep] at h ⊢
  obtain ⟨a, xs, e, h⟩ := h
  obtain ⟨ys, h'⟩ := k.2.1 a xs h
  exact ⟨a, ys, e, h'⟩
 | .dct, v, h => by
  rw [Rep] at h ⊢
  obtain ⟨a, kvs, e, h⟩ := h
  obtain ⟨ys, h'⟩ := k.2.2 a kvs h
  exact ⟨a, ys, e, h'⟩
theorem Reps.keep {H H' : Hp} (k : jk H H') : ∀ (ds : List D) (xs : List V), Reps H ds xs -> Reps H' ds xs
 | [], xs, h => by rw [Reps] at h ⊢; exact h
 | d :: ds, xs, h => by
  rw [Reps] at h ⊢
  obtain ⟨x, r, e, h1, h2⟩ := h
  exact ⟨x, r, e, Rep.keep k d x h1, Reps.keep k ds r h2⟩
end
def W6 (J : It) (own : List Str) (cap : List Nat) (g : TG) (tt : TT) (te : TE) (Z : St) (H1 : Hp) (Q : VK) : Prop := ∃ W : Nat -> Nat -> List V -> Hp -> Prop, (∃ m, W 0 m [] H1) /\ ∀ i m acc H, W i m acc H -> acc.length <= sizeLine /\
 ((J.stop i H /\ ∀ p, H p = none -> Q (.ref p) (upd H p (.lst acc))) \/
  (J.go i H /\ acc.length < sizeLine /\ ∃ N : List V -> Hp -> Prop, (∀ acc' H', N acc' H' -> ∃ m', m' < m /\ W (i + 1) m' acc' H') /\ ∀ x H', J.yld i H x H' -> g x (Hw own cap Z) H' λσ2 H2 => tt σ2 H2 λb H3 => if b = true then te σ2 H3 λy H4 => N (acc ++ [y]) H4 else N acc H3))
theorem Yg (own : List Str) (cap : List Nat) (wi : TI) (g : TG) (tt : TT) (te : TE) (Z : St) (H : Hp) (Q : VK) : Yh own cap wi g tt te Z H Q = wi Z H λJ H1 => W6 J own cap g tt te Z H1 Q := rfl
def nj (J : It) (g : TG) (tb : TS) (D : Ku) (Z : St) (H1 : Hp) : Prop := ∃ W : Nat -> Nat -> St -> Hp -> Prop, (∃ m, W 0 m Z H1) /\ ∀ i m Z H, W i m Z H ->
 (J.stop i H /\ D.nx Z H) \/ (J.go i H /\ ∃ N : St -> Hp -> Prop, (∀ Z' H', N Z' H' -> ∃ m', m' < m /\ W (i + 1) m' Z' H') /\ ∀ x H', J.yld i H x H' -> g x Z H' λσ2 H2 => tb { D with nx := N, ct := N, bk := D.nx } σ2 H2)
theorem cj (wi : TI) (g : TG) (tb : TS) (D : Ku) (Z : St) (H : Hp) : ot wi g tb D Z H = wi Z H λJ H1 => nj J g tb D Z H1 := rfl
theorem fu : ("int" ∈ ["bool", "int", "str", "list", "tuple", "dict"]) = True := eq_true (by decide)
theorem Zb : ("bool" ∈ ["bool", "int", "str", "list", "tuple", "dict"]) = True := eq_true (by decide)
theorem fq : ("str" ∈ ["bool", "int", "str", "list", "tuple", "dict"]) = True := eq_true (by decide)
theorem Z9 : ("list" ∈ ["bool", "int", "str", "list", "tuple", "dict"]) = True := eq_true (by decide)
theorem X6 : ("tuple" ∈ ["bool", "int", "str", "list", "tuple", "dict"]) = True := eq_true (by decide)
theorem Za : ("dict" ∈ ["bool", "int", "str", "list", "tuple", "dict"]) = True := eq_true (by decide)
theorem Jn : Bv "NoneType" "bool" = false := by decide
theorem Km : Bv "NoneType" "int" = false := by decide
theorem Kl : Bv "NoneType" "str" = false := by decide
theorem Jl : Bv "NoneType" "list" = false := by decide
theorem Iq : Bv "NoneType" "tuple" = false := by decide
theorem Jm : Bv "NoneType" "dict" = false := by decide
theorem Oh : Bv "bool" "bool" = true := by decide
theorem Rb : Bv "bool" "int" = true := by decide
theorem Ra : Bv "bool" "str" = false := by decide
theorem Of : Bv "bool" "list" = false := by decide
theorem My : Bv "bool" "tuple" = false := by decide
theorem Og : Bv "bool" "dict" = false := by decide
theorem R7 : Bv "int" "bool" = false := by decide
theorem T4 : Bv "int" "int" = true := by decide
theorem T3 : Bv "int" "str" = false := by decide
theorem R5 : Bv "int" "list" = false := by decide
theorem Ob : Bv "int" "tuple" = false := by decide
theorem R6 : Bv "int" "dict" = false := by decide
theorem R1 : Bv "str" "bool" = false := by decide
theorem T2 : Bv "str" "int" = false := by decide
theorem T1 : Bv "str" "str" = true := by decide
theorem Qz : Bv "str" "list" = false := by decide
theorem O7 : Bv "str" "tuple" = false := by decide
theorem R0 : Bv "str" "dict" = false := by decide
theorem Oa : Bv "list" "bool" = false := by decide
theorem R4 : Bv "list" "int" = false := by decide
theorem R3 : Bv "list" "str" = false := by decide
theorem O8 : Bv "list" "list" = true := by decide
theorem Mw : Bv "list" "tuple" = false := by decide
theorem O9 : Bv "list" "dict" = false := by decide
theorem Mv : Bv "tuple" "bool" = false := by decide
theorem O6 : Bv "tuple" "int" = false := by decide
theorem O5 : Bv "tuple" "str" = false := by decide
theorem Mt : Bv "tuple" "list" = false := by decide
theorem Lh : Bv "tuple" "tuple" = true := by decide
theorem Mu : Bv "tuple" "dict" = false := by decide
theorem Oe : Bv "dict" "bool" = false := by decide
theorem R9 : Bv "dict" "int" = false := by decide
theorem R8 : Bv "dict" "str" = false := by decide
theorem Oc : Bv "dict" "list" = false := by decide
theorem Mx : Bv "dict" "tuple" = false := by decide
theorem Od : Bv "dict" "dict" = true := by decide
theorem Et {J : It} {n : Nat} {yl : Nat -> V -> Prop} {ok : Hp -> Prop} {own : List Str} {cap : List Nat} {g : TG} {tt : TT} {te : TE} {Z : St} {H : Hp} {Q : VK} (G : On J n yl ok) (hn : n <= sizeLine) (hok : ∀ H', Same H H' -> ok H') (ys : List V) (hl : ys.length = n)
  (hs : ∀ i x H', i < n -> yl i x -> Same H H' -> ∀ (N : V -> Hp -> Prop) (M : Hp -> Prop), (∀ y H4, Same H H4 -> ys[i]? = some y -> N y H4) -> g x (Hw own cap Z) H' λσ2 H2 => tt σ2 H2 λb H3 => if b = true then te σ2 H3 N else M H3)
  (hd : ∀ H', Same H H' -> ∀ p, H' p = none -> Q (.ref p) (upd H' p (.lst ys))) : W6 J own cap g tt te Z H Q := by
 refine Pc G hn (λi acc H' => Same H H' /\ acc = ys.take i) ⟨Same.refl H, by simp⟩ (λi acc H' _ h => hok H' h.1) (λi acc H' h => by rw [h.2, Zym]; omega) (λi x acc H' hi hx h => ?_) (λacc H' h p hp => ?_)
 ·obtain ⟨s', rfl⟩ := h
  refine hs i x H' hi hx s' _ _ λy H4 s4 hy => ⟨s4, ?_⟩
  rw [Zz8, hy]
  rfl
 ·obtain ⟨s', e⟩ := h
  rw [e, List.take_of_length_le (by omega)]
  exact hd H' s' p hp
theorem Bw {J : It} {n : Nat} {yl : Nat -> V -> Prop} {ok : Hp -> Prop} {g : TG} {tb : TS} {D : Ku} {Z : St} {H : Hp} (G : On J n yl ok) (Pv : Nat -> St -> Hp -> Prop) (h0 : Pv 0 Z H) (hok : ∀ i Z H, i <= n -> Pv i Z H -> ok H)
  (hs : ∀ i x Z H, i < n -> yl i x -> Pv i Z H -> g x Z H λσ2 H2 => tb { D with nx := Pv (i + 1), ct := Pv (i + 1), bk := D.nx } σ2 H2) (hd : ∀ Z H, Pv n Z H -> D.nx Z H) : nj J g tb D Z H := Zy G Pv h0 hok hs hd
theorem StOk.upd {H : Hp} {st l : Addr} {o : HO} (h : StOk H st) (n : st ≠ l) : StOk (upd H l o) st := by obtain ⟨ns, hn, e⟩ := h; exact ⟨ns, hn, by rw [A5 n]; exact e⟩
theorem StOk.ne {H : Hp} {st l : Addr} (h : StOk H st) (n : H l = none) : st ≠ l := by obtain ⟨_, _, e⟩ := h; exact A6 e n
theorem StOk.neT {H : Hp} {st l : Addr} {xs : List V} (h : StOk H st) (n : H l = some (.tup xs)) : l ≠ st := by
 obtain ⟨_, _, e⟩ := h
 exact Eo n e (λz => by cases z)
theorem But.upd {H H1 : Hp} {st l : Addr} {o : HO} (h : But st H H1) (hl : H l = none) : But st H (L2.upd H1 l o) := λb u n e => by rw [A5 (A6 e hl)]; exact h b u n e
theorem But.new {H H1 : Hp} {st l : Addr} {o : HO} (h : But st H H1) (hl : H1 l = none) : But st H (L2.upd H1 l o) := h.trans (Ju hl)
theorem But.none {H H1 : Hp} {st l : Addr} (h : But st H H1) (n : l ≠ st) (hl : H1 l = none) : H l = none := by
 cases e : H l with
 | none => rfl
 | some o => rw [h l o n e] at hl; cases hl
theorem Aw {n : Nat} (h : n <= 1000) : n <= sizeLine := Zyx h (by decide)
end NP
namespace L2
open PySem PySem.Spec PyProof.Rows
def By : List Expr -> Bool
 | [] => true
 | .Starred .. :: _ => false
 | _ :: r => By r
theorem C2 {env : Env} : ∀ {es : List Expr}, By es = true -> starEach es env = es.map λe => (false, eval e env)
 | [], _ => rfl
 | e :: r, h => by
  cases e <;> first
   | (exact absurd h Zz7)
   | (rw [Zzd, <- C2 (env := env) (es := r) h]; rfl)
theorem Bk {env : Env} {e : Expr} {es : List Expr} (h : By [e] = true) : starEach (e :: es) env = (false, eval e env) :: starEach es env := by
 cases e <;> first
  | (exact absurd h Zz7)
  | rfl
theorem B3 {e : Expr} {es : List Expr} (h : By (e :: es) = true) : By [e] = true /\ By es = true := by
 cases e <;> first
  | (exact absurd h Zz7)
  | exact ⟨rfl, h⟩
theorem Cf {env : Env} {pos : Pos} {es : List Expr} (h : By es = true) : (backTo pos (starEach es env)).any (·.1) = false := by
 rw [C2 h]
 unfold backTo
 rw [Zy1, List.any_map]
 induction es with
 | nil => rfl
 | cons e r ih =>
  rw [Zww]
  exact ih (B3 h).2
theorem Uu {env : Env} {pos : Pos} {es : List Expr} (h : By es = true) : (backTo pos (starEach es env)).all (λx => !x.1) = true := by
 rw [C2 h]
 unfold backTo
 rw [Zy1, List.all_map]
 induction es with
 | nil => rfl
 | cons e r ih =>
  rw [Zw5]
  exact ih (B3 h).2
section
variable {X : Cx} {x : Str} {p pos apos cpos : Pos} {e o tg : Expr} {es : List Expr} {te to : TE} {t : TA} {id T : String} {r : List V -> Hp -> VK -> Prop} {rm : V -> List V -> Hp -> VK -> Prop} {k : Nat} {ps : List Str} {sp : Sp} {name : Str}
theorem A4 (ha : PE X e te) (hr : PA X es t) (hn : By [e] = true := by rfl) : PA X (e :: es) (Yf te t) := eh ha hr (Bk hn)
theorem Aa (h : Has X.prog X.w X.K X.mg X.base x k ps sp) (hr : Room k X.A) (hg : Gl X x) (ha : PA X (e :: es) t) (hn : By (e :: es) = true := by rfl) (hdb : (x == ("__debug__" : Str)) = false := by decide) :
  PE X (.Call (.Name x p) (e :: es) [] pos) (V5 sp [] E0 t) := Yv h hr hg ha hdb (Bk (B3 hn).1) (Cf (B3 hn).2)
theorem Ap (hc : CallR X (.builtin id) r) (hg : Gl X x) (hm : X.mg x = none) (hv : bootBuiltins x = some (.builtin id)) (ha : PA X (e :: es) t) (hn : By (e :: es) = true := by rfl) (hnm : x ≠ "__name__" := by decide) (hdb : (x == ("__debug__" : Str)) = false := by decide) :
  PE X (.Call (.Name x p) (e :: es) [] pos) (tCB r t) := Yw hc hg hm hv ha hnm hdb (Bk (B3 hn).1) (Cf (B3 hn).2)
theorem Ck (hc : CallR X (.type T) r) (hg : Gl X x) (hm : X.mg x = none) (hv : bootBuiltins x = some (.type T)) (ha : PA X (e :: es) t) (hn : By (e :: es) = true := by rfl) (hnm : x ≠ "__name__" := by decide) (hdb : (x == ("__debug__" : Str)) = false := by decide) :
  PE X (.Call (.Name x p) (e :: es) [] pos) (tCB r t) := Wn hc hg hm hv ha hnm hdb (Bk (B3 hn).1) (Cf (B3 hn).2)
theorem E5 (pa : PlainAttrs T) (slot : Slot T name id) (hty : typeOf (.builtin id) = pure (.type "method_descriptor")) (hm : MtR X id rm) (ho : PE X o to) (ha : PA X (e :: es) t) (hT : T = "list" \/ T = "dict" \/ T = "str" := by decide)
  (hbase : attributeBase o name X.env (eval o X.env) = eval o X.env := by rfl) (hn : By (e :: es) = true := by rfl) (hlen : (e :: es).length < 20 := by decide) (hline : (apos.endLine == cpos.line) = true := by rfl) :
  PE X (.Call (.Attribute o name apos) (e :: es) [] cpos) (tBA T rm to t) := by
 refine pi pa slot hty hm ho ha hT hbase ?_ hline (Bk (B3 hn).1) (Cf (B3 hn).2)
 rw [Uu hn, Bool.true_and]
 have e1 : (backToKw cpos (keywordEach [] X.env)).all (λx => x.1.isSome) = true := rfl
 rw [e1, Bool.true_and]
 refine decide_eq_true ?_
 show (e :: es).length + 0 + 0 < 30
 omega
theorem Cs {ta : TA} (hg : Gl X "range") (hm : X.mg "range" = none) (ha : PA X [e] ta) (hn : By [e] = true := by rfl) : PI X tg (.Call (.Name "range" p) [e] [] pos) (Zq ta) := Wm hg hm ha (C2 hn)
end
mutual
def RD (H : Hp) : PyData -> V -> Prop
 | .none, v => v = .non
 | .bool b, v => v = .bl b
 | .int i, v => v = .int i
 | .str x, v => v = .str x
 | .list ds, v => ∃ a xs, v = .ref a /\ H a = some (.lst xs) /\ RDs H ds xs
 | .tuple ds, v => ∃ a xs, v = .ref a /\ H a = some (.tup xs) /\ RDs H ds xs
 | .dict _, _ => False
def RDs (H : Hp) : List PyData -> List V -> Prop
 | [], xs => xs = []
 | d :: ds, xs => ∃ x r, xs = x :: r /\ RD H d x /\ RDs H ds r
end
mutual
theorem RD.reads {P : Program} {w : World} {H : Hp} {h : Heap} (ok : HOk P w H h) : ∀ (d : PyData) (v : V) (u : Value), RD H d v -> RelV v u -> ∃ as, Reads h u d as
 | .none, v, u, r, e => by
  rw [RD] at r; subst r; cases e; exact ⟨_, .none⟩
 | .bool b, v, u, r, e => by
  rw [RD] at r; subst r; cases e; exact ⟨_, .bool b⟩
 | .int i, v, u, r, e => by
  rw [RD] at r; subst r; obtain ⟨t, rfl⟩ := e; exact ⟨_, .int i t⟩
 | .str x, v, u, r, e => by
  rw [RD] at r; subst r; obtain ⟨t, rfl⟩ := e; exact ⟨_, .str x t⟩
 | .list ds, v, u, r, e => by
  rw [RD] at r
  obtain ⟨a, xs, rfl, ha, r⟩ := r
  cases e
  obtain ⟨hz, its, n, rv, eo⟩ := ok a _ ha
  obtain ⟨as, q⟩ := RDs.reads ok ds xs its r rv
  exact ⟨_, .list (vs := its.toArray) eo rfl rfl q⟩
 | .tuple ds, v, u, r, e => by
  rw [RD] at r
  obtain ⟨a, xs, rfl, ha, r⟩ := r
  cases e
  obtain ⟨hz, its, rv, o, ho, hc, n, hd⟩ := ok a _ ha
  obtain ⟨as, q⟩ := RDs.reads ok ds xs its r rv
  exact ⟨_, .tuple (vs := its.toArray) ho hc hd q⟩
 | .dict _, v, u, r, e => by
  rw [RD] at r; exact r.elim
theorem RDs.reads {P : Program} {w : World} {H : Hp} {h : Heap} (ok : HOk P w H h) : ∀ (ds : List PyData) (xs : List V) (us : List Value), RDs H ds xs -> Vals xs us -> ∃ as, ReadsAll h us ds as
 | [], xs, us, r, e => by
  rw [RDs] at r; subst r; cases e; exact ⟨_, .nil⟩
 | d :: ds, xs, us, r, e => by
  rw [RDs] at r
  obtain ⟨x, r', rfl, h1, h2⟩ := r
  cases e with
  | cons r1 r2 =>
   obtain ⟨as, q1⟩ := RD.reads ok d x _ h1 r1
   obtain ⟨bs, q2⟩ := RDs.reads ok ds r' _ h2 r2
   exact ⟨_, .cons q1 q2⟩
end
def okD (d : PyData) : Bool := d.canLay0 && decide (d.depth <= 50)
def rEqD : R2 := λx y H Q => ∃ d e, RD H d x /\ RD H e y /\ okD d = true /\ okD e = true /\ Q (.bl (PyData.eqv d e)) H
def rNeD : R2 := λx y H Q => ∃ d e, RD H d x /\ RD H e y /\ okD d = true /\ okD e = true /\ Q (.bl (!PyData.eqv d e)) H
theorem Mm {A : Around} {d e : PyData} (h : okD d = true) (hu : A.units + 64 < cLine) : A.units + min d.depth e.depth < cLine := by
 have h1 : d.depth <= 50 := of_decide_eq_true (Zxm.mp h).2
 have h2 : min d.depth e.depth <= d.depth := Nat.min_le_left _ _
 omega
section
variable {X : Cx}
theorem U8 (hu : X.A.units + 64 < cLine) : OpR X (compareOp .Eq) rEqD := by
 intro pins s Z H x y v u Q I rx ry h
 obtain ⟨d, e, rd, re, hd, he, q⟩ := h
 obtain ⟨as, r1⟩ := RD.reads I.hok d x v rd rx
 obtain ⟨bs, r2⟩ := RD.reads I.hok e y u re ry
 exact SeqAt.compareEq_reads r1 r2 (Zxm.mp hd).1 (Zxm.mp he).1 (Mm hd hu) ⟨.bl _, H, I, rfl, q⟩
theorem U6 (hu : X.A.units + 64 < cLine) : OpR X (compareOp .NotEq) rNeD := by
 intro pins s Z H x y v u Q I rx ry h
 obtain ⟨d, e, rd, re, hd, he, q⟩ := h
 obtain ⟨as, r1⟩ := RD.reads I.hok d x v rd rx
 obtain ⟨bs, r2⟩ := RD.reads I.hok e y u re ry
 exact SeqAt.compareNe_reads r1 r2 (Zxm.mp hd).1 (Zxm.mp he).1 (Mm hd hu) ⟨.bl _, H, I, rfl, q⟩
end
theorem Re {A : Around} {k : Nat} (hr : Room k A) : A.units + 64 < cLine := by
 have := hr.un
 omega
def Q3 (ns : List Int) : PyData := .list (ns.map .int)
theorem S6 {H : Hp} : ∀ ns : List Int, RDs H (ns.map .int) (ns.map V.int)
 | [] => by rw [Zxe, Zxe, RDs]
 | n :: r => by
  rw [Zzd, Zzd, RDs]
  exact ⟨_, _, rfl, by rw [RD], S6 r⟩
theorem K8 {H : Hp} {a : Addr} {ns : List Int} (h : H a = some (.lst (ns.map V.int))) : RD H (Q3 ns) (.ref a) := by
 unfold Q3
 rw [RD]
 exact ⟨a, _, rfl, h, S6 ns⟩
theorem Lc : ∀ ns : List Int, PyData.canLayAll0 (ns.map .int) = true
 | [] => rfl
 | n :: r => by
  rw [Zzd, PyData.canLayAll0, PyData.canLay0, Lc r]
  rfl
theorem Na : ∀ ns : List Int, PyData.depthAll (ns.map .int) = 0
 | [] => rfl
 | n :: r => by
  rw [Zzd, PyData.depthAll, PyData.depth, Na r]
  rfl
theorem Hn (ns : List Int) : okD (Q3 ns) = true := by
 unfold okD Q3
 rw [PyData.canLay0, Lc, PyData.depth, Na]
 rfl
theorem L7 : ∀ ns ms : List Int, PyData.eqvAll (ns.map .int) (ms.map .int) = decide (ns = ms)
 | [], [] => by simp [PyData.eqvAll]
 | [], m :: s => by simp [PyData.eqvAll]
 | n :: r, [] => by simp [PyData.eqvAll]
 | n :: r, m :: s => by
  rw [Zzd, Zzd, PyData.eqvAll, PyData.eqv, L7 r s]
  by_cases h : n = m
  ·subst h; simp
  ·simp [h]
theorem N7 (ns ms : List Int) : PyData.eqv (Q3 ns) (Q3 ms) = decide (ns = ms) := by
 unfold Q3
 rw [PyData.eqv]
 exact L7 ns ms
section
variable {X : Cx} {pins : List (Addr × Obj)} {Z : St} {H : Hp} {s : Shared} {h' : Heap}
theorem HOk.but {P : Program} {w : World} {h : Heap} {wr : List Addr} (x : HOk P w H h) (k : ∀ b o, b ∉ wr -> h.get? b = some o -> h'.get? b = some o) (n : ∀ b ∈ wr, H b = none) : HOk P w H h' := λa o e =>
 (x a o e).stay (λb u hb q => k b u (λz => by
  rcases hb with hb | hb
  ·rw [hb] at z; rw [n a z] at e; cases e
  ·rw [n b z] at hb; cases hb) q) (λ_ q => q) λ_ _ q => q
theorem Inv.turnedL {t' : Nat} {wr : List Addr} (I : Inv X pins Z H s) (k : ∀ b o, b ∉ wr -> s.heap.get? b = some o -> h'.get? b = some o) (f : ∀ b ∈ wr, Hg X pins H b) : Inv X pins Z H { s with heap := h', toks := t' } := by
 refine I.step (g' := s.gens) (d' := s.drawn) (ch := wr) (λb hb => ?_) (λb o _ _ hc e _ => k b o hc e) (λb o _ _ hc e _ => ⟨o.slots, k b o hc e⟩) (λ_ _ _ _ n => n)
  (λb o hc e => ⟨o, k b o hc e⟩) (λ_ _ e => e) (λ_ _ _ e => e) (λb ps e => ⟨#[], by rw [e]; simp⟩) (λm hm => ?_) (I.hok.but k λb hb => (f b hb).1) I.bare
 ·obtain ⟨f0, f1, f2, f3, f4, f5⟩ := f b hb
  exact ⟨f3, f1, f4, f5⟩
 ·obtain ⟨o, es, ep, ho, r⟩ := hm
  exact ⟨o, es, ep, k _ o (λz => (f _ z).2.1 rfl) ho, r⟩
theorem Inv.turnedT {t' : Nat} {wr : List Addr} {p : Addr} {xs : List V} {its : List Value} (I : Inv X pins Z H s) (k : ∀ b o, b ∉ wr -> s.heap.get? b = some o -> h'.get? b = some o) (f : ∀ b ∈ wr, Hg X pins H b) (hp : s.heap.objs.size <= p)
  (ht : IsTup h' p its.toArray) (rv : Vals xs its) (hz : xs.length <= sizeLine) : Inv X pins Z (upd H p (.tup xs)) { s with heap := h', toks := t' } := by
 have hn : H p = none := I.hok.fresh hp
 have ne : ∀ b o, s.heap.get? b = some o -> b ≠ p := λb o e => Bt (Zzl e) hp
 refine I.step (g' := s.gens) (d' := s.drawn) (ch := wr) (λb hb => ?_) (λb o _ _ hc e _ => k b o hc e) (λb o _ _ hc e _ => ⟨o.slots, k b o hc e⟩) (λb o _ e n => by rw [A5 (ne b o e)]; exact n)
  (λb o hc e => ⟨o, k b o hc e⟩) (λb ys e => by rw [A5 (A6 e hn)]; exact e) (λb o u e => by rw [A5 (A6 e hn)]; exact e) (λb ps e => ⟨#[], by rw [A5 (A6 e hn), e]; simp⟩) (λm hm => ?_) (λb u e => ?_) I.bare
 ·obtain ⟨f0, f1, f2, f3, f4, f5⟩ := f b hb
  exact ⟨f3, f1, f4, f5⟩
 ·obtain ⟨o, es, ep, ho, r⟩ := hm
  exact ⟨o, es, ep, k _ o (λz => (f _ z).2.1 rfl) ho, r⟩
 ·by_cases hb : b = p
  ·subst hb
   rw [A0] at e
   cases e
   exact ⟨hz, its, rv, ht⟩
  ·rw [A5 hb] at e
   refine (I.hok.but k (λb hb => (f b hb).1) b u e).stay (λ_ _ _ q => q) (λc q => ?_) λc ys q => ?_
   ·rw [A5 (A6 q hn)]; exact q
   ·rw [A5 (A6 q hn)]; exact q
theorem Qw {P : Program} {w : World} {it : Addr} {fp wr : List Addr} {n i : Nat} {Pt : Nat -> Array Value -> Prop} {St : Nat -> Heap -> Prop} {Mid : Nat -> Addr -> Heap -> Prop} {elts : List Expr} {k : Nat} {pos : Pos} {E : Value -> Shared -> Prop} {Y : List V -> Prop}
  (W : WalksT P w X.A it fp wr n Pt St Mid) (hi : i < n) (I : Inv X pins Z H s) (st : St i s.heap) (hf : ∀ b ∈ wr, Hg X pins H b) (hv : ∀ vals, Pt i vals -> ∃ xs, Vals xs vals.toList /\ xs.length <= 100 /\ Y xs) :
  wpAny (model P w) X.A (pyNext (.ref it)) (λr s1 => ∃ u, r = some u /\ wpAny (model P w) X.A (letOwnedTupleGo (.Tuple elts k pos) (.ref it) u) (λ_ s2 =>
   ∃ p xs, u = .ref p /\ s.heap.objs.size <= p /\ H p = none /\ Inv X pins Z (upd H p (.tup xs)) s2 /\ Y xs /\ St (i + 1) s2.heap) E s1) E s := by
 refine W.item i s _ E hi st λT vals h1 tk hP hT ht hm hk => ⟨.ref T, rfl, ?_⟩
 obtain ⟨xs, rv, hz, hY⟩ := hv vals hP
 refine W.go elts k pos i T { s with heap := h1, toks := tk } _ E hm λh2 st2 hk2 => ?_
 have hTw : T ∉ wr := W.apart i T h1 hm
 have ht2 : IsTup h2 T vals.toList.toArray := by
  obtain ⟨o, ho, hc, m, hd⟩ := ht
  exact ⟨o, hk2 T o hTw ho, hc, m, by simpa using hd⟩
 exact ⟨T, xs, rfl, hT, I.hok.fresh hT, I.turnedT (t' := tk) (λb o hb e => hk2 b o hb (hk b o hb e)) hf hT ht2 rv (Zyx hz (by decide)), hY, st2⟩
end
structure Pl (J : It) (n : Nat) (yl : Nat -> List V -> Prop) (ok : Hp -> Prop) : Prop where
 go : ∀ i H, i < n -> ok H -> J.go i H
 yld : ∀ i H x H', i < n -> ok H -> J.yld i H x H' -> ∃ p ys, x = .ref p /\ H p = none /\ H' = upd H p (.tup ys) /\ yl i ys
 stop : ∀ H, ok H -> J.stop n H
theorem L6 {J : It} {n : Nat} {yl : Nat -> List V -> Prop} {ok : Hp -> Prop} {g : TG} {tb : TS} {D : Ku} {Z : St} {H : Hp} (G : Pl J n yl ok) (Pv : Nat -> St -> Hp -> Prop) (h0 : Pv 0 Z H) (hok : ∀ i Z H, i <= n -> Pv i Z H -> ok H)
  (hs : ∀ i ys p Z H, i < n -> yl i ys -> Pv i Z H -> H p = none -> g (.ref p) Z (upd H p (.tup ys)) λσ2 H2 => tb { D with nx := Pv (i + 1), ct := Pv (i + 1), bk := D.nx } σ2 H2) (hd : ∀ Z H, Pv n Z H -> D.nx Z H) : NP.nj J g tb D Z H := by
 refine ⟨λi m Z H => m = n - i /\ i <= n /\ Pv i Z H, ⟨n, by simp, Zz3 _, h0⟩, ?_⟩
 rintro i m Z H ⟨rfl, hi, p⟩
 have q := hok i Z H hi p
 by_cases hlt : i < n
 ·refine .inr ⟨G.go i H hlt q, Pv (i + 1), λZ' H' p' => ⟨n - (i + 1), by omega, rfl, hlt, p'⟩, λx H' y => ?_⟩
  obtain ⟨a, ys, e1, e2, e3, y'⟩ := G.yld i H x H' hlt q y
  subst e1 e3
  exact hs i ys a Z H hlt y' p e2
 ·have e : i = n := by omega
  subst e
  exact .inl ⟨G.stop H q, hd Z H p⟩
theorem gT2 {K : Zzv} {i j : Nat} {p : Addr} {x y : V} {Z : St} {H : Hp} {Q : St -> Hp -> Prop} (h : Q ((Z.set i (some x)).set j (some y)) (upd H p (.tup [x, y]))) : Xq K 2 (Fz (Dk i) (Fz (Dk j) gNil)) (.ref p) Z (upd H p (.tup [x, y])) Q :=
 ⟨p, _, rfl, SqT.of A0, rfl, _, _, rfl, _, _, rfl, rfl, h⟩
theorem gT3 {K : Zzv} {i j k : Nat} {p : Addr} {x y z : V} {Z : St} {H : Hp} {Q : St -> Hp -> Prop} (h : Q (((Z.set i (some x)).set j (some y)).set k (some z)) (upd H p (.tup [x, y, z]))) :
  Xq K 3 (Fz (Dk i) (Fz (Dk j) (Fz (Dk k) gNil))) (.ref p) Z (upd H p (.tup [x, y, z])) Q :=
 ⟨p, _, rfl, SqT.of A0, rfl, _, _, rfl, _, _, rfl, _, _, rfl, rfl, h⟩
def ItE (a : Addr) (xs : List V) : It := ⟨λi H => H a = some (.lst xs) /\ i < xs.length, λi H x H' => ∃ p y, x = .ref p /\ H p = none /\ xs[i]? = some y /\ H' = upd H p (.tup [.int i, y]), λi H => H a = some (.lst xs) /\ i = xs.length⟩
theorem Vs (a : Addr) (xs : List V) : Pl (ItE a xs) xs.length (λi ys => ∃ y, xs[i]? = some y /\ ys = [.int i, y]) (λH => H a = some (.lst xs)) :=
 ⟨λi H h o => ⟨o, h⟩, λi H x H' h o y => by obtain ⟨p, z, e1, e2, e3, e4⟩ := y; exact ⟨p, _, e1, e2, e4, z, e3, rfl⟩, λH o => ⟨o, rfl⟩⟩
theorem Wd {P : Program} {w : World} {K : Zzv} {elts : List Expr} {k : Nat} {pos : Pos} (e it a : Addr) (xs : List V) (hei : e ≠ it) : Ks P w K (.Tuple elts k pos) (ItE a xs) [e, it] e (λi h => (∃ old, IsEnum h e it i old) /\ h.IsListIter it a i) where
 mem := by simp
 obj := λi h st b hb => by
  obtain ⟨⟨old, he⟩, o, ho, c, d⟩ := st
  rcases Zzo.mp hb with q | q
  ·rw [q]; exact ⟨_, he, λv z => by cases z⟩
  ·rw [Zzu.mp q]; exact ⟨o, ho, λv z => by rw [d] at z; cases z⟩
 keep := λi h h' st k => by
  obtain ⟨⟨old, he⟩, hi⟩ := st
  exact ⟨⟨old, k e (by simp) _ he⟩, hi.at λo q => k it (by simp) o q⟩
 item := by
  intro X hP hw hK hc i pins s Z H E I hf st hg
  subst hP hw hK
  obtain ⟨hq, hlt⟩ := hg
  obtain ⟨its, rv, hl, hal⟩ := Av I hq
  have f1 := hf e (by simp)
  have f2 := hf it (by simp)
  have hae : a ≠ e := A6 hq f1.1
  have hai : a ≠ it := A6 hq f2.1
  have hlen := rv.length
  have hv : ∀ vals : Array Value, (∃ t x, its.toArray[i]? = some x /\ vals = #[.int i t, x]) -> ∃ ys, Vals ys vals.toList /\ ys.length <= 100 /\ ∃ y, xs[i]? = some y /\ ys = [V.int i, y] := by
   rintro vals ⟨t, x, hx, rfl⟩
   obtain ⟨u, hu, ru⟩ := rv.get (x := xs[i]) (i := i) (by simp [hlt])
   have hx : its[i]? = some x := by simpa using hx
   rw [hx] at hu
   cases hu
   exact ⟨[.int i, xs[i]], .cons ⟨t, rfl⟩ (.cons ru .nil), by simp, xs[i], by simp [hlt], rfl⟩
  refine thn (Qw (E := E) (WalksT.enumerate (I.ok.hd hc) e it a hei hae hai its.toArray) (by rw [Zzp]; omega) I ⟨st.1, st.2, hl⟩ hf hv) λr s1 ⟨u, hr, h3⟩ => ⟨u, hr, thn h3 λ_ s2 ⟨p, ys, hu, hp, hn, I2, ⟨y, hy, e2⟩, st2⟩ => ?_⟩
  subst hu e2
  refine ⟨.ref p, _, I2, rfl, ⟨p, y, rfl, hn, hy, rfl⟩, ⟨st2.1, st2.2.1⟩, λb hb => ?_⟩
  have hbl : b < s.heap.objs.size := by
   obtain ⟨⟨old, he⟩, o, ho, c, d⟩ := st
   rcases Zzo.mp hb with q | q
   ·rw [q]; exact Zzl he
   ·rw [Zzu.mp q]; exact Zzl ho
  rw [A5 (Bt hbl hp)]
  exact (hf b hb).1
 done := by
  intro X hP hw hK hc i pins s Z H E I hf st hg
  subst hP hw hK
  obtain ⟨hq, hlt⟩ := hg
  obtain ⟨its, rv, hl, hal⟩ := Av I hq
  have f1 := hf e (by simp)
  have f2 := hf it (by simp)
  have hlen := rv.length
  have hi : its.toArray.size = i := by rw [Zzp]; omega
  refine (WalksT.enumerate (I.ok.hd hc) e it a hei (A6 hq f1.1) (A6 hq f2.1) its.toArray).done s _ E ?_ λh' tk hk => ⟨rfl, I.turnedL hk hf⟩
  rw [hi]
  exact ⟨st.1, st.2, hl⟩
 self := λ_ _ _ _ _ st h => by
  obtain ⟨⟨old, he⟩, _⟩ := st
  exact wpAny_pyIter_enum he h
section
variable {X : Cx}
def je (ta : TA) : TI := λZ H R => ta Z H λvs H1 => ∃ a xs, vs = [.ref a] /\ H1 a = some (.lst xs) /\ R (ItE a xs) H1
theorem Lm {elts : List Expr} {k : Nat} {pt p pos : Pos} {e : Expr} {ta : TA} (hg : Gl X "enumerate") (hm : X.mg "enumerate" = none) (ha : PA X [e] ta) (hn : By [e] = true := by rfl) : PI X (.Tuple elts k pt) (.Call (.Name "enumerate" p) [e] [] pos) (je ta) := by
 intro pins s Z H R I h
 refine Call_ (E9 I hg hm NP.Jv (Zya (thn (ha pos pins s Z H _ I h) λus s1 ⟨vs, H1, I1, r1, q1⟩ => ?_) (C2 hn) rfl))
 obtain ⟨a, xs, e, hq, q⟩ := q1
 subst e
 obtain ⟨u, rfl, ru⟩ := Eu r1
 cases ru
 obtain ⟨its, rv, hl, hal⟩ := Av I1 hq
 refine call_enumerate_list hl λh' he hi hz hk => wpAny_pyIter_enum he ?_
 have I2 : Inv X pins Z H1 { s1 with heap := h' } := I1.kept (t' := s1.toks) hk
 refine ⟨s1.heap.objs.size + 1, [s1.heap.objs.size + 1, s1.heap.objs.size], _, _, H1, rfl, I2, Wd _ _ a xs (Zwr _), ⟨⟨_, he⟩, hi⟩, λb hb => ?_, q⟩
 have hb' : s1.heap.objs.size <= b := by
  rcases Zzo.mp hb with z | z
  ·rw [z]; exact Zw7 _
  ·rw [Zzu.mp z]; exact Zzt _
 exact I1.fpOk hb' (I1.hok.fresh hb')
end
theorem Ro : ∀ {ns : List Int} {us : List Value} {i : Nat} {u : Value}, Vals (ns.map V.int) us -> us[i]? = some u -> ∃ t, u = .int ((ns[i]?).getD 0) t
 | [], _, i, u, .nil, e => by simp at e
 | n :: r, _, 0, u, .cons h t, e => by
  obtain ⟨t', h⟩ := h
  simp at e
  subst e
  exact ⟨t', by rw [h]; rfl⟩
 | n :: r, _, i + 1, u, .cons h t, e => by
  obtain ⟨t', q⟩ := Ro (ns := r) (i := i) (u := u) t (by simpa using e)
  exact ⟨t', by rw [q]; simp⟩
section
variable {X : Cx}
def rMax2 : List V -> Hp -> VK -> Prop := λxs H Q => ∃ i j, xs = [.int i, .int j] /\ Q (.int (if j > i then j else i)) H
theorem Pe (hc : X.calm = true) : CallR X (.builtin "max") rMax2 := Xw hc
end
theorem Yl {n d : Nat} {k : Int} (h : 0 <= k) : HT.sIx n d (some k) = min k.toNat n := by
 unfold HT.sIx
 simp only
 split <;> omega
theorem Vw {xs : List V} {j : Int} (hj : 0 <= j) : Hv xs none (some j) = xs.take j.toNat := by
 unfold Hv
 rw [Yl hj]
 have e : HT.sIx xs.length 0 none = 0 := rfl
 rw [e, List.drop_zero, Nat.sub_zero]
 apply Zxb
 intro k
 simp only [Zwi]
 by_cases h : k < xs.length
 ·by_cases h2 : k < j.toNat
  ·rw [if_pos (by omega), if_pos h2]
  ·rw [if_neg (by omega), if_neg h2]
 ·rw [Zyv (by omega)]
  split <;> split <;> rfl
def CMulB (i j : Int) : Prop := CMul i j \/ (i.natAbs < 10 ^ 3000 /\ j.natAbs < 10 ^ 3000)
theorem Vy {i : Int} (h : i.natAbs < 10 ^ 3000) : Builtin.Int.intBits i <= 2 ^ 20 := by
 unfold Builtin.Int.intBits
 split
 ·exact Zz3 _
 ·rename_i h0
  have h1 : i.natAbs ≠ 0 := by
   intro e
   exact h0 (by simpa using e)
  have h2 : i.natAbs.log2 < 2 ^ 19 := by
   rw [Nat.log2_lt h1]
   refine Zzb h (Zyx (Nat.pow_le_pow_left (by decide : (10 : Nat) <= 2 ^ 4) 3000) ?_)
   rw [<- Nat.pow_mul]
   exact Nat.pow_le_pow_right (by decide) (by decide)
  have : (2 : Nat) ^ 20 = 2 ^ 19 + 2 ^ 19 := by decide
  have : (1 : Nat) <= 2 ^ 19 := by decide
  omega
theorem CMulB.ok {i j : Int} (h : CMulB i j) : IntMulOk i j := h.elim CMul.ok λh => .of_bits (Vy h.1) (Vy h.2)
section
variable {X : Cx}
theorem Jf : OpR X (binaryOp .Mult) (rI CMulB λi j => .int (i * j)) := opI λ_ _ _ _ _ _ _ hc q => mul_int q hc.ok
end
def ng (a b : Addr) (xs ys : List V) : It := ⟨λi H => H a = some (.lst xs) /\ H b = some (.lst ys) /\ i < min xs.length ys.length,
 λi H x H' => ∃ p y z, x = .ref p /\ H p = none /\ xs[i]? = some y /\ ys[i]? = some z /\ H' = upd H p (.tup [y, z]), λi H => H a = some (.lst xs) /\ H b = some (.lst ys) /\ i = min xs.length ys.length⟩
theorem Zu (a b : Addr) (xs ys : List V) : Pl (ng a b xs ys) (min xs.length ys.length) (λi us => ∃ y z, xs[i]? = some y /\ ys[i]? = some z /\ us = [y, z]) (λH => H a = some (.lst xs) /\ H b = some (.lst ys)) :=
 ⟨λi H h o => ⟨o.1, o.2, h⟩, λi H x H' h o y => by obtain ⟨p, u, v, e1, e2, e3, e4, e5⟩ := y; exact ⟨p, _, e1, e2, e5, u, v, e3, e4, rfl⟩, λH o => ⟨o.1, o.2, rfl⟩⟩
theorem Wa {P : Program} {w : World} {K : Zzv} {elts : List Expr} {k : Nat} {pos : Pos} (z TI TO i1 i2 a b : Addr) (xs ys : List V) (nd : [z, TI, TO, i1, i2].Nodup) :
  Ks P w K (.Tuple elts k pos) (ng a b xs ys) [z, TI, TO, i1, i2] z (λi h => IsZip h z TI TO .none /\ IsPair h TI (.ref i1) (.ref i2) /\ (∃ u v, IsPair h TO u v) /\ h.IsListIter i1 a i /\ h.IsListIter i2 b i) := by
 have nd' := nd
 simp only [Zyj, Zzo, Zz5, or_false, not_or] at nd'
 obtain ⟨⟨n1, n2, n3, n4⟩, ⟨n5, n6, n7⟩, ⟨n8, n9⟩, n10, _⟩ := nd'
 have objs : ∀ (i : Nat) (h : Heap), (IsZip h z TI TO .none /\ IsPair h TI (.ref i1) (.ref i2) /\ (∃ u v, IsPair h TO u v) /\ h.IsListIter i1 a i /\ h.IsListIter i2 b i) -> ∀ c ∈ [z, TI, TO, i1, i2], ∃ o, h.get? c = some o /\ ∀ v, o.data ≠ .cell v := by
  rintro i h ⟨hz, hT, ⟨u, v, hO⟩, ⟨o1, g1, c1, d1⟩, ⟨o2, g2, c2, d2⟩⟩ c hc
  simp only [Zzo, Zz5, or_false] at hc
  rcases hc with q | q | q | q | q <;> subst q
  ·exact ⟨_, hz, λ_ y => by cases y⟩
  ·exact ⟨_, hT, λ_ y => by cases y⟩
  ·exact ⟨_, hO, λ_ y => by cases y⟩
  ·exact ⟨o1, g1, λ_ y => by rw [d1] at y; cases y⟩
  ·exact ⟨o2, g2, λ_ y => by rw [d2] at y; cases y⟩
 have apart : ∀ {X : Cx} {pins : List (Addr × Obj)} {H : Hp}, (∀ c ∈ [z, TI, TO, i1, i2], Hg X pins H c) -> ∀ {us vs : List V}, H a = some (.lst us) -> H b = some (.lst vs) -> ZipApart z TI TO i1 i2 a b := by
  intro X pins H hf us vs ha hb
  have fr : ∀ c ∈ [z, TI, TO, i1, i2], a ≠ c /\ b ≠ c := λc hc => ⟨A6 ha (hf c hc).1, A6 hb (hf c hc).1⟩
  exact ⟨λe => n1 e.symm, λe => n2 e.symm, λe => n3 e.symm, λe => n4 e.symm, n5, n6, n7, n8, n9, n10, (fr z (by simp)).1, (fr TO (by simp)).1, (fr i1 (by simp)).1, (fr i2 (by simp)).1, (fr z (by simp)).2, (fr TO (by simp)).2, (fr i1 (by simp)).2, (fr i2 (by simp)).2⟩
 refine ⟨by simp, objs, ?_, ?_, ?_, ?_⟩
 ·rintro i h h' ⟨hz, hT, ⟨u, v, hO⟩, g1, g2⟩ kp
  exact ⟨kp z (by simp) _ hz, kp TI (by simp) _ hT, ⟨u, v, kp TO (by simp) _ hO⟩, g1.at λo e => kp i1 (by simp) o e, g2.at λo e => kp i2 (by simp) o e⟩
 ·intro X hP hw hK hc i pins s Z H E I hf st hg
  subst hP hw hK
  obtain ⟨ha, hb, hlt⟩ := hg
  obtain ⟨its, rv, hl, hal⟩ := Av I ha
  obtain ⟨its2, rv2, hl2, hal2⟩ := Av I hb
  have len1 := rv.length
  have len2 := rv2.length
  obtain ⟨s1, s2, s3, s4, s5⟩ := id st
  have hv : ∀ vals : Array Value, (∃ x y, its.toArray[i]? = some x /\ its2.toArray[i]? = some y /\ vals = #[x, y]) -> ∃ us, Vals us vals.toList /\ us.length <= 100 /\ ∃ y z, xs[i]? = some y /\ ys[i]? = some z /\ us = [y, z] := by
   rintro vals ⟨x, y, hx, hy, rfl⟩
   have l1 : i < xs.length := by omega
   have l2 : i < ys.length := by omega
   obtain ⟨u, hu, ru⟩ := rv.get (x := xs[i]) (i := i) (by simp [l1])
   obtain ⟨u', hu', ru'⟩ := rv2.get (x := ys[i]) (i := i) (by simp [l2])
   have hx : its[i]? = some x := by simpa using hx
   have hy : its2[i]? = some y := by simpa using hy
   rw [hx] at hu
   rw [hy] at hu'
   cases hu
   cases hu'
   exact ⟨[xs[i], ys[i]], .cons ru (.cons ru' .nil), by simp, xs[i], ys[i], by simp [l1], by simp [l2], rfl⟩
  have sub : ∀ c ∈ [z, TO, i1, i2], c ∈ [z, TI, TO, i1, i2] := λc hc => by simp at hc ⊢; rcases hc with h | h | h | h <;> simp [h]
  refine thn (Qw (E := E) (WalksT.zip2 (I.ok.hd hc) z TI TO i1 i2 a b (apart hf ha hb) its.toArray its2.toArray) (by rw [Zzp, Zzp]; omega) I ⟨s1, s2, s3, s4, s5, hl, hl2⟩ (λc hc => hf c (sub c hc)) hv) λr t1 ⟨u, hr, h3⟩ =>
   ⟨u, hr, thn h3 λ_ t2 ⟨p, us, hu, hp, hn, I2, ⟨y, y', hy, hy', e2⟩, st2⟩ => ?_⟩
  subst hu e2
  refine ⟨.ref p, _, I2, rfl, ⟨p, y, y', rfl, hn, hy, hy', rfl⟩, ⟨st2.1, st2.2.1, st2.2.2.1, st2.2.2.2.1, st2.2.2.2.2.1⟩, λc hc => ?_⟩
  obtain ⟨o, ho, _⟩ := objs i _ st c hc
  rw [A5 (Bt (Zzl ho) hp)]
  exact (hf c hc).1
 ·intro X hP hw hK hc i pins s Z H E I hf st hg
  subst hP hw hK
  obtain ⟨ha, hb, hlt⟩ := hg
  obtain ⟨its, rv, hl, hal⟩ := Av I ha
  obtain ⟨its2, rv2, hl2, hal2⟩ := Av I hb
  have len1 := rv.length
  have len2 := rv2.length
  obtain ⟨s1, s2, s3, s4, s5⟩ := id st
  have sub : ∀ c ∈ [z, TO, i1, i2], c ∈ [z, TI, TO, i1, i2] := λc hc => by simp at hc ⊢; rcases hc with h | h | h | h <;> simp [h]
  have hi : min its.toArray.size its2.toArray.size = i := by rw [Zzp, Zzp]; omega
  refine (WalksT.zip2 (I.ok.hd hc) z TI TO i1 i2 a b (apart hf ha hb) its.toArray its2.toArray).done s _ E ?_ λh' tk hk => ⟨rfl, I.turnedL hk λc hc => hf c (sub c hc)⟩
  rw [hi]
  exact ⟨s1, s2, s3, s4, s5, hl, hl2⟩
 ·intro A i s Q E st h
  exact wpAny_pyIter_zip st.1 h
section
variable {X : Cx}
def jc (ta : TA) : TI := λZ H R => ta Z H λvs H1 => ∃ a b xs ys, vs = [.ref a, .ref b] /\ H1 a = some (.lst xs) /\ H1 b = some (.lst ys) /\ R (ng a b xs ys) H1
theorem Vd {elts : List Expr} {k : Nat} {pt p pos : Pos} {e e2 : Expr} {ta : TA} (hg : Gl X "zip") (hm : X.mg "zip" = none) (ha : PA X [e, e2] ta) (hn : By [e, e2] = true := by rfl) : PI X (.Tuple elts k pt) (.Call (.Name "zip" p) [e, e2] [] pos) (jc ta) := by
 intro pins s Z H R I h
 refine Call_ (E9 I hg hm NP.av (Zya (thn (ha pos pins s Z H _ I h) λus s1 ⟨vs, H1, I1, r1, q1⟩ => ?_) (Bk (B3 hn).1) (Cf (B3 hn).2)))
 obtain ⟨a, b, xs, ys, e, ha, hb, q⟩ := q1
 subst e
 obtain ⟨u, u', rfl, ru, ru'⟩ := Rp r1
 cases ru
 cases ru'
 obtain ⟨its, rv, hl, hal⟩ := Av I1 ha
 obtain ⟨its2, rv2, hl2, hal2⟩ := Av I1 hb
 refine call_zip_2 hl hl2 λh' g1 g2 g3 g4 g5 hz hk => wpAny_pyIter_zip g1 ?_
 have I2 : Inv X pins Z H1 { s1 with heap := h' } := I1.kept (t' := s1.toks) hk
 have nd : [s1.heap.objs.size + 4, s1.heap.objs.size + 2, s1.heap.objs.size + 3, s1.heap.objs.size, s1.heap.objs.size + 1].Nodup := by
  simp only [Zyj, Zzo, Zz5, or_false, not_or, Zwc, and_true, not_false_eq_true]
  refine ⟨⟨?_, ?_, ?_, ?_⟩, ⟨?_, ?_, ?_⟩, ⟨?_, ?_⟩, ?_⟩ <;> (intro z; have z' : (_ : Nat) = _ := z; omega)
 refine ⟨s1.heap.objs.size + 4, [s1.heap.objs.size + 4, s1.heap.objs.size + 2, s1.heap.objs.size + 3, s1.heap.objs.size, s1.heap.objs.size + 1], _, _, H1, rfl, I2, Wa _ _ _ _ _ a b xs ys nd, ⟨g1, g2, ⟨_, _, g3⟩, g4, g5⟩, λc hc => ?_, q⟩
 have hb' : s1.heap.objs.size <= c := by
  simp only [Zzo, Zz5, or_false] at hc
  rcases hc with q | q | q | q | q <;> rw [q] <;> first | exact Zxr _ _ | exact Zzt _
 exact I1.fpOk hb' (I1.hok.fresh hb')
end
abbrev Ca (h : Heap) (T : Addr) (a b c : Value) : Prop := h.get? T = some { cls := .type "tuple", data := .seq #[a, b, c] }
section
variable {prog : Program} {w : World} {A : Around} {E : Value -> Shared -> Prop} {s : Shared}
theorem Iv {T : Addr} {a b c x : Value} {k : Nat} {Q : Unit -> Shared -> Prop} (hT : Ca s.heap T a b c)
  (h : ∀ h', h'.get? T = some { cls := .type "tuple", data := .seq ((#[a, b, c] : Array Value).setIfInBounds k x) } -> Zyf T s.heap h' -> Q () { s with heap := h' }) :
  wpAny (model prog w) A (updateSeq T (·.setIfInBounds k x)) Q E s := wpAny_updateSeq hT rfl (h _ (by rw [Zxi _ hT rfl]; simp [Obj.mapSeq]) (Zx9 ..))
structure Rn (z TI TO i1 i2 i3 : Addr) (ls : List Addr) : Prop where
 nd : [z, TI, TO, i1, i2, i3].Nodup
 ls : ∀ l ∈ ls, l ∉ [z, TI, TO, i1, i2, i3]
theorem W7 {z TI TO i1 i2 i3 l1 l2 l3 : Addr} {k : Nat} {xs ys zs : Array Value} {x y v a b c : Value} {Q : Value -> Shared -> Prop} (D : Rn z TI TO i1 i2 i3 [l1, l2, l3])
  (hZ : IsZip s.heap z TI TO .none) (hI : Ca s.heap TI (.ref i1) (.ref i2) (.ref i3)) (hO : Ca s.heap TO a b c)
  (g1 : s.heap.IsListIter i1 l1 k) (g2 : s.heap.IsListIter i2 l2 k) (g3 : s.heap.IsListIter i3 l3 k) (m1 : s.heap.IsList l1 xs) (m2 : s.heap.IsList l2 ys) (m3 : s.heap.IsList l3 zs) (e1 : xs[k]? = some x) (e2 : ys[k]? = some y) (e3 : zs[k]? = some v)
  (hQ : ∀ h', IsZip h' z TI TO (rawInt s.heap.objs.size) -> Ca h' TO x y v -> h'.IsListIter i1 l1 (k + 1) -> h'.IsListIter i2 l2 (k + 1) -> h'.IsListIter i3 l3 (k + 1) -> Ca h' s.heap.objs.size x y v -> h'.objs.size = s.heap.objs.size + 1 ->
   (∀ c o, c ∉ [z, TO, i1, i2, i3] -> s.heap.get? c = some o -> h'.get? c = some o) -> Q (.ref s.heap.objs.size) { s with heap := h' }) :
  wpAny (model prog w) A (Builtin.«zip.__next__» ⟨[.ref z], []⟩) (λfin s' => ∃ v, fin = .done (.ret v) /\ Q v s') E s := by
 obtain ⟨nd, ls⟩ := D
 have a1 := ls l1 (by simp)
 have a2 := ls l2 (by simp)
 have a3 := ls l3 (by simp)
 simp only [Zyj, Zzo, Zz5, or_false, not_or] at nd a1 a2 a3
 obtain ⟨⟨zI, zO, z1, z2, z3⟩, ⟨IO, I1, I2, I3⟩, ⟨O1, O2, O3⟩, ⟨n12, n13⟩, n23, _⟩ := nd
 obtain ⟨a1z, a1I, a1O, a11, a12, a13⟩ := a1
 obtain ⟨a2z, a2I, a2O, a21, a22, a23⟩ := a2
 obtain ⟨a3z, a3I, a3O, a31, a32, a33⟩ := a3
 show wpAny _ _ (field (.ref z) 2 >>= _) _ _ _
 refine wpAny_bind (wpAny_field hZ rfl (x := .bool false) rfl (show wpAny _ _ (field (.ref z) 3 >>= _) _ _ _ from ?_))
 refine wpAny_bind (wpAny_field hZ rfl (x := .ref TI) rfl (wpAny_bind (wpAny_seqItems hI rfl ?_)))
 refine wpAny_bind (m := Zxl (.ref z)) ?_
 unfold Zxl
 refine wpAny_bind (wpAny_field hZ rfl (x := .none) rfl (wpAny_pure ?_))
 simp only [if_true]
 refine wpAny_bind (wpAny_rule (wpAny_bind (wpAny_field hZ rfl (x := .ref TO) rfl (wpAny_bind (wpAny_setField_rec hZ (by simp) λh₁ w₁ s₁ => ?_)))))
 replace w₁ : IsZip h₁ z TI TO .ellipsis := w₁
 have K1 : ∀ c o, c ≠ z -> s.heap.get? c = some o -> h₁.get? c = some o := λc o n e => s₁.extBut c o n e
 refine wpAny_bind ?_
 simp only [List.zipIdx_cons, List.zipIdx_nil, List.forIn_cons, List.forIn_nil]
 refine wpAny_bind (wpAny_bind (wpAny_onRaise (show wpAny _ _ (Zyn (.ref i1) >>= _) _ _ _ from ?_)))
 refine wpAny_bind (wpAny_nextOf_list_item (g1.at λo e => K1 _ o (Zzf z1) e) (m1.at λo e => K1 _ o a1z e) e1 λh₂ q₂ s₂ => wpAny_pure ?_)
 replace s₂ : Zyf i1 h₁ h₂ := s₂
 have K2 : ∀ c o, c ≠ z -> c ≠ i1 -> s.heap.get? c = some o -> h₂.get? c = some o := λc o n n' e => s₂.extBut c o n' (K1 c o n e)
 have O₂ : Ca h₂ TO a b c := K2 _ _ (Zzf zO) O1 hO
 refine wpAny_bind (wpAny_seqItems O₂ rfl (wpAny_bind (Iv O₂ λh₃ O₃ s₃ => wpAny_bind (wpAny_letGo (wpAny_pure ?_)))))
 replace O₃ : Ca h₃ TO x b c := O₃
 replace s₃ : Zyf TO h₂ h₃ := s₃
 have K3 : ∀ c o, c ≠ z -> c ≠ i1 -> c ≠ TO -> s.heap.get? c = some o -> h₃.get? c = some o := λc o n n' n2 e => s₃.extBut c o n2 (K2 c o n n' e)
 refine wpAny_bind (wpAny_bind (wpAny_onRaise (show wpAny _ _ (Zyn (.ref i2) >>= _) _ _ _ from ?_)))
 refine wpAny_bind (wpAny_nextOf_list_item (g2.at λo e => K3 _ o (Zzf z2) (Zzf n12) (Zzf O2) e) (m2.at λo e => K3 _ o a2z a21 a2O e) e2 λh₄ q₄ s₄ => wpAny_pure ?_)
 replace s₄ : Zyf i2 h₃ h₄ := s₄
 have O₄ : Ca h₄ TO x b c := s₄.extBut _ _ O2 O₃
 refine wpAny_bind (wpAny_seqItems O₄ rfl (wpAny_bind (Iv O₄ λh₅ O₅ s₅ => wpAny_bind (wpAny_letGo (wpAny_pure ?_)))))
 replace O₅ : Ca h₅ TO x y c := O₅
 replace s₅ : Zyf TO h₄ h₅ := s₅
 have K5 : ∀ c o, c ≠ z -> c ≠ i1 -> c ≠ TO -> c ≠ i2 -> s.heap.get? c = some o -> h₅.get? c = some o := λc o n n' n2 n3 e => s₅.extBut c o n2 (s₄.extBut c o n3 (K3 c o n n' n2 e))
 refine wpAny_bind (wpAny_bind (wpAny_onRaise (show wpAny _ _ (Zyn (.ref i3) >>= _) _ _ _ from ?_)))
 refine wpAny_bind (wpAny_nextOf_list_item (g3.at λo e => K5 _ o (Zzf z3) (Zzf n13) (Zzf O3) (Zzf n23) e) (m3.at λo e => K5 _ o a3z a31 a3O a32 e) e3 λh₆ q₆ s₆ => wpAny_pure ?_)
 replace s₆ : Zyf i3 h₅ h₆ := s₆
 have O₆ : Ca h₆ TO x y c := s₆.extBut _ _ O3 O₅
 refine wpAny_bind (wpAny_seqItems O₆ rfl (wpAny_bind (Iv O₆ λh₇ O₇ s₇ => wpAny_bind (wpAny_letGo (wpAny_pure (wpAny_pure ?_))))))
 replace O₇ : Ca h₇ TO x y v := O₇
 replace s₇ : Zyf TO h₆ h₇ := s₇
 have K7 : ∀ c o, c ∉ [z, TO, i1, i2, i3] -> s.heap.get? c = some o -> h₇.get? c = some o := λc o n e => by
  simp only [Zzo, Zz5, or_false, not_or] at n
  exact s₇.extBut c o n.2.1 (s₆.extBut c o n.2.2.2.2 (K5 c o n.1 n.2.2.1 n.2.1 n.2.2.2.1 e))
 refine wpAny_bind (wpAny_seqItems O₇ rfl (wpAny_bind (wpAny_newTuple ?_)))
 have sz : h₇.objs.size = s.heap.objs.size := by rw [s₇.1, s₆.1, s₅.1, s₄.1, s₃.1, s₂.1, s₁.1]
 have Z₇ : IsZip h₇ z TI TO .ellipsis := s₇.extBut _ _ zO (s₆.extBut _ _ z3 (s₅.extBut _ _ zO (s₄.extBut _ _ z2 (s₃.extBut _ _ zO (s₂.extBut _ _ z1 w₁)))))
 have r1 : h₇.IsListIter i1 l1 (k + 1) := ((((q₂.extBut s₃.extBut (Zzf O1)).extBut s₄.extBut n12).extBut s₅.extBut (Zzf O1)).extBut s₆.extBut n13).extBut s₇.extBut (Zzf O1)
 have r2 : h₇.IsListIter i2 l2 (k + 1) := ((q₄.extBut s₅.extBut (Zzf O2)).extBut s₆.extBut n23).extBut s₇.extBut (Zzf O2)
 have r3 : h₇.IsListIter i3 l3 (k + 1) := q₆.extBut s₇.extBut (Zzf O3)
 have zl : z < h₇.objs.size := Zzl Z₇
 refine wpAny_bind (m := Zwh (.ref z) (.ref h₇.objs.size)) ?_
 unfold Zwh
 have Z₈ : IsZip (h₇.push { cls := .type "tuple", data := .seq #[x, y, v] }) z TI TO .ellipsis := Zzy _ Z₇
 refine wpAny_bind (wpAny_setField_rec Z₈ (by simp) λh₈ w₈ s₈ => ?_)
 replace w₈ : IsZip h₈ z TI TO (rawInt h₇.objs.size) := w₈
 refine wpAny_setField_rec w₈ (by simp) λh₉ w₉ s₉ => ?_
 replace w₉ : IsZip h₉ z TI TO (rawInt h₇.objs.size) := w₉
 have K9 : ∀ c o, c ≠ z -> h₇.get? c = some o -> h₉.get? c = some o := λc o n e => s₉.extBut _ _ n (s₈.extBut _ _ n (Zzy _ e))
 have T₉ : Ca h₉ h₇.objs.size x y v := s₉.extBut _ _ (Zxg zl) (s₈.extBut _ _ (Zxg zl) (Zzi _ rfl))
 have sz9 : h₉.objs.size = h₇.objs.size + 1 := by rw [s₉.1, s₈.1, Zxy]
 rw [sz] at w₉ T₉ sz9
 refine wpAny_pure ⟨_, rfl, (show Q (.ref h₇.objs.size) _ from ?_)⟩
 rw [sz]
 refine hQ h₉ w₉ (K9 _ _ (Zzf zO) O₇) (r1.at λo e => K9 _ o (Zzf z1) e) (r2.at λo e => K9 _ o (Zzf z2) e) (r3.at λo e => K9 _ o (Zzf z3) e) T₉ sz9 λc o n e => K9 c o (λq => n (by simp [q])) (K7 c o n e)
theorem Y0 {z TI TO i1 i2 i3 l1 l2 l3 : Addr} {k : Nat} {xs ys zs : Array Value} {a b c : Value} {Q : Fin -> Shared -> Prop} (hh : A.handled = none) (D : Rn z TI TO i1 i2 i3 [l1, l2, l3])
  (hZ : IsZip s.heap z TI TO .none) (hI : Ca s.heap TI (.ref i1) (.ref i2) (.ref i3)) (hO : Ca s.heap TO a b c)
  (g1 : s.heap.IsListIter i1 l1 k) (g2 : s.heap.IsListIter i2 l2 k) (g3 : s.heap.IsListIter i3 l3 k) (m1 : s.heap.IsList l1 xs) (m2 : s.heap.IsList l2 ys) (m3 : s.heap.IsList l3 zs) (he : xs[k]? = none \/ ys[k]? = none \/ zs[k]? = none)
  (hE : ∀ h' e, (∀ c o, c ∉ [z, TO, i1, i2, i3] -> s.heap.get? c = some o -> h'.get? c = some o) -> (∃ o, h'.get? e = some o /\ o.cls = .type "StopIteration") -> E (.ref e) { s with heap := h' }) :
  wpAny (model prog w) A (Builtin.«zip.__next__» ⟨[.ref z], []⟩) Q E s := by
 obtain ⟨nd, ls⟩ := D
 have a1 := ls l1 (by simp)
 have a2 := ls l2 (by simp)
 have a3 := ls l3 (by simp)
 simp only [Zyj, Zzo, Zz5, or_false, not_or] at nd a1 a2 a3
 obtain ⟨⟨zI, zO, z1, z2, z3⟩, ⟨IO, I1, I2, I3⟩, ⟨O1, O2, O3⟩, ⟨n12, n13⟩, n23, _⟩ := nd
 obtain ⟨a1z, a1I, a1O, a11, a12, a13⟩ := a1
 obtain ⟨a2z, a2I, a2O, a21, a22, a23⟩ := a2
 obtain ⟨a3z, a3I, a3O, a31, a32, a33⟩ := a3
 show wpAny _ _ (field (.ref z) 2 >>= _) _ _ _
 refine wpAny_bind (wpAny_field hZ rfl (x := .bool false) rfl (show wpAny _ _ (field (.ref z) 3 >>= _) _ _ _ from ?_))
 refine wpAny_bind (wpAny_field hZ rfl (x := .ref TI) rfl (wpAny_bind (wpAny_seqItems hI rfl ?_)))
 refine wpAny_bind (m := Zxl (.ref z)) ?_
 unfold Zxl
 refine wpAny_bind (wpAny_field hZ rfl (x := .none) rfl (wpAny_pure ?_))
 simp only [if_true]
 refine wpAny_bind (wpAny_rule (wpAny_bind (wpAny_field hZ rfl (x := .ref TO) rfl (wpAny_bind (wpAny_setField_rec hZ (by simp) λh₁ w₁ s₁ => ?_)))))
 replace w₁ : IsZip h₁ z TI TO .ellipsis := w₁
 have K1 : ∀ c o, c ≠ z -> s.heap.get? c = some o -> h₁.get? c = some o := λc o n e => s₁.extBut c o n e
 refine wpAny_bind ?_
 simp only [List.zipIdx_cons, List.zipIdx_nil, List.forIn_cons, List.forIn_nil]
 have fin : ∀ {h : Heap} {e : Addr} {Q' : Unit -> Shared -> Prop}, IsZip h z TI TO .ellipsis -> (∃ o, h.get? e = some o /\ o.cls = .type "StopIteration") -> (∀ c o, c ∉ [z, TO, i1, i2, i3] -> s.heap.get? c = some o -> h.get? c = some o) ->
   wpAny (model prog w) A (setField (.ref z) 0 .none) (λ_ s' => E (.ref e) s') E { s with heap := h } := λ{h e Q'} w ⟨o, ho, hc⟩ kk => by
  have ne : e ≠ z := λq => by subst q; rw [w] at ho; cases ho; simp at hc
  refine wpAny_setField_rec w (by simp) λh' _ s' => hE h' e (λc o n q => s'.extBut _ _ (λq => n (by simp [q])) (kk c o n q)) ⟨o, s'.extBut _ _ ne ho, hc⟩
 refine wpAny_bind (wpAny_bind (wpAny_onRaise (show wpAny _ _ (Zyn (.ref i1) >>= _) _ _ _ from ?_)))
 cases e1 : xs[k]? with
 | none =>
  refine wpAny_bind (wpAny_nextOf_list_end hh (g1.at λo e => K1 _ o (Zzf z1) e) (m1.at λo e => K1 _ o a1z e) e1 λh₂ e s₂ he => ?_)
  replace s₂ : Heap.ExtBut i1 h₁ h₂ := s₂
  refine fin (Q' := λ_ _ => True) (s₂ _ _ z1 w₁) he λc o n q => ?_
  simp only [Zzo, Zz5, or_false, not_or] at n
  exact s₂ _ _ n.2.2.1 (K1 _ _ n.1 q)
 | some x =>
 refine wpAny_bind (wpAny_nextOf_list_item (g1.at λo e => K1 _ o (Zzf z1) e) (m1.at λo e => K1 _ o a1z e) e1 λh₂ q₂ s₂ => wpAny_pure ?_)
 replace s₂ : Zyf i1 h₁ h₂ := s₂
 have K2 : ∀ c o, c ≠ z -> c ≠ i1 -> s.heap.get? c = some o -> h₂.get? c = some o := λc o n n' e => s₂.extBut c o n' (K1 c o n e)
 have O₂ : Ca h₂ TO a b c := K2 _ _ (Zzf zO) O1 hO
 refine wpAny_bind (wpAny_seqItems O₂ rfl (wpAny_bind (Iv O₂ λh₃ O₃ s₃ => wpAny_bind (wpAny_letGo (wpAny_pure ?_)))))
 replace O₃ : Ca h₃ TO x b c := O₃
 replace s₃ : Zyf TO h₂ h₃ := s₃
 have K3 : ∀ c o, c ≠ z -> c ≠ i1 -> c ≠ TO -> s.heap.get? c = some o -> h₃.get? c = some o := λc o n n' n2 e => s₃.extBut c o n2 (K2 c o n n' e)
 have Z₃ : IsZip h₃ z TI TO .ellipsis := s₃.extBut _ _ zO (s₂.extBut _ _ z1 w₁)
 refine wpAny_bind (wpAny_bind (wpAny_onRaise (show wpAny _ _ (Zyn (.ref i2) >>= _) _ _ _ from ?_)))
 cases e2 : ys[k]? with
 | none =>
  refine wpAny_bind (wpAny_nextOf_list_end hh (g2.at λo e => K3 _ o (Zzf z2) (Zzf n12) (Zzf O2) e) (m2.at λo e => K3 _ o a2z a21 a2O e) e2 λh₄ e s₄ he => ?_)
  replace s₄ : Heap.ExtBut i2 h₃ h₄ := s₄
  refine fin (Q' := λ_ _ => True) (s₄ _ _ z2 Z₃) he λc o n q => ?_
  simp only [Zzo, Zz5, or_false, not_or] at n
  exact s₄ _ _ n.2.2.2.1 (K3 _ _ n.1 n.2.2.1 n.2.1 q)
 | some y =>
 refine wpAny_bind (wpAny_nextOf_list_item (g2.at λo e => K3 _ o (Zzf z2) (Zzf n12) (Zzf O2) e) (m2.at λo e => K3 _ o a2z a21 a2O e) e2 λh₄ q₄ s₄ => wpAny_pure ?_)
 replace s₄ : Zyf i2 h₃ h₄ := s₄
 have O₄ : Ca h₄ TO x b c := s₄.extBut _ _ O2 O₃
 refine wpAny_bind (wpAny_seqItems O₄ rfl (wpAny_bind (Iv O₄ λh₅ O₅ s₅ => wpAny_bind (wpAny_letGo (wpAny_pure ?_)))))
 replace s₅ : Zyf TO h₄ h₅ := s₅
 have K5 : ∀ c o, c ≠ z -> c ≠ i1 -> c ≠ TO -> c ≠ i2 -> s.heap.get? c = some o -> h₅.get? c = some o := λc o n n' n2 n3 e => s₅.extBut c o n2 (s₄.extBut c o n3 (K3 c o n n' n2 e))
 have Z₅ : IsZip h₅ z TI TO .ellipsis := s₅.extBut _ _ zO (s₄.extBut _ _ z2 Z₃)
 refine wpAny_bind (wpAny_bind (wpAny_onRaise (show wpAny _ _ (Zyn (.ref i3) >>= _) _ _ _ from ?_)))
 have e3 : zs[k]? = none := by
  rcases he with h | h | h
  ·rw [e1] at h; cases h
  ·rw [e2] at h; cases h
  ·exact h
 refine wpAny_bind (wpAny_nextOf_list_end hh (g3.at λo e => K5 _ o (Zzf z3) (Zzf n13) (Zzf O3) (Zzf n23) e) (m3.at λo e => K5 _ o a3z a31 a3O a32 e) e3 λh₆ e s₆ he => ?_)
 replace s₆ : Heap.ExtBut i3 h₅ h₆ := s₆
 refine fin (Q' := λ_ _ => True) (s₆ _ _ z3 Z₅) he λc o n q => ?_
 simp only [Zzo, Zz5, or_false, not_or] at n
 exact s₆ _ _ n.2.2.2.2 (K5 _ _ n.1 n.2.2.1 n.2.1 n.2.2.2.1 q)
end
theorem Tv (a b c : Value) : checkTypeCall "zip" ⟨[a, b, c], []⟩ = pure () := by kernel_rfl
theorem Uf (a b c : Value) : checkBuiltinCall "zip.__new__" ⟨[.type "zip", a, b, c], []⟩ = pure () := by kernel_rfl
theorem Xm (a b c d : Value) : argsOk "object.__init__" ⟨[a, b, c, d], []⟩ := by
 unfold argsOk
 rw [signature?_of (id := "object.__init__") (n := ['_', '_', 't', 'i', 'n', 'i', '_', '_']) (o := ['t', 'c', 'e', 'j', 'b', 'o']) (by kernel_rfl) F.owner_object]
 kernel_rfl
abbrev z3a (h : Heap) (l : Addr) : Heap := h.push { cls := .type "list_iterator", data := .fields #[.ref l, .int 0 0] }
abbrev z3t (h : Heap) (x y z : Value) : Heap := h.push { cls := .type "tuple", data := .seq #[x, y, z] }
abbrev z3i (h : Heap) (l1 l2 l3 : Addr) : Heap := z3t (z3a (z3a (z3a h l1) l2) l3) (.ref h.objs.size) (.ref (z3a h l1).objs.size) (.ref (z3a (z3a h l1) l2).objs.size)
abbrev z3o (h : Heap) (l1 l2 l3 : Addr) : Heap := z3t (z3i h l1 l2 l3) .none .none .none
abbrev z3z (h : Heap) (l1 l2 l3 : Addr) : Heap := (z3o h l1 l2 l3).push { cls := .type "zip", data := .fields #[.none, .bool false, .bool false, .ref (z3a (z3a (z3a h l1) l2) l3).objs.size, .ref (z3i h l1 l2 l3).objs.size] }
theorem Z5 (l1 l2 l3 : Addr) (xs ys zs : Array Value) :
  Meets (Builtin.«zip.__new__» ⟨[.type "zip", .ref l1, .ref l2, .ref l3], []⟩) (λ_ R s => s.heap.IsList l1 xs /\ s.heap.IsList l2 ys /\ s.heap.IsList l3 zs /\ R (.ok (.ret (.ref (z3o s.heap l1 l2 l3).objs.size))) { s with heap := z3z s.heap l1 l2 l3 }) :=
 .of_wp λprog w A R s h => by
  obtain ⟨hp, g, d, tk, os⟩ := s
  obtain ⟨m1, m2, m3, h⟩ := h
  have hsub := sub_zip
  have q1 : Heap.IsList (Shared.heap ⟨hp, g, d, tk, os⟩) l1 xs := m1
  have q2 : Heap.IsList (Shared.heap ⟨z3a hp l1, g, d, tk, os⟩) l2 ys := m2.push _
  have q3 : Heap.IsList (Shared.heap ⟨z3a (z3a hp l1) l2, g, d, tk, os⟩) l3 zs := (m3.push _).push _
  wp_walk using wpAny_pyIter_list q1, wpAny_pyIter_list q2, wpAny_pyIter_list q3
  exact ⟨_, rfl, h⟩
section
variable {prog : Program} {w : World} {A : Around} {E : Value -> Shared -> Prop} {s : Shared}
theorem Xu {l1 l2 l3 : Addr} {xs ys zs : Array Value} {Q : Value -> Shared -> Prop} (m1 : s.heap.IsList l1 xs) (m2 : s.heap.IsList l2 ys) (m3 : s.heap.IsList l3 zs)
  (h : ∀ h' n, n = s.heap.objs.size -> IsZip h' (n + 5) (n + 3) (n + 4) .none -> Ca h' (n + 3) (.ref n) (.ref (n + 1)) (.ref (n + 2)) -> Ca h' (n + 4) .none .none .none -> h'.IsListIter n l1 0 -> h'.IsListIter (n + 1) l2 0 -> h'.IsListIter (n + 2) l3 0 ->
   (∀ c o, s.heap.get? c = some o -> h'.get? c = some o) -> Q (.ref (n + 5)) { s with heap := h' }) :
  wpAny (model prog w) A (call (.type "zip") [.ref l1, .ref l2, .ref l3]) Q E s := by
 refine callType_new F.called_zip (by decide) (Tv _ _ _) (Uf _ _ _) (λobj => Xm obj _ _ _) F.entry_zip_new (Z5 l1 l2 l3 xs ys zs) ⟨m1, m2, m3, ?_⟩
 have y1 : (z3a s.heap l1).objs.size = s.heap.objs.size + 1 := Zxy ..
 have y2 : (z3a (z3a s.heap l1) l2).objs.size = s.heap.objs.size + 2 := by rw [Zxy, y1]
 have y3 : (z3a (z3a (z3a s.heap l1) l2) l3).objs.size = s.heap.objs.size + 3 := by rw [Zxy, y2]
 have y4 : (z3i s.heap l1 l2 l3).objs.size = s.heap.objs.size + 4 := by rw [Zxy, y3]
 have y5 : (z3o s.heap l1 l2 l3).objs.size = s.heap.objs.size + 5 := by rw [Zxy, y4]
 have k5 : (z3z s.heap l1 l2 l3).get? (z3o s.heap l1 l2 l3).objs.size = some _ := Zzi _ rfl
 have k4 : (z3z s.heap l1 l2 l3).get? (z3i s.heap l1 l2 l3).objs.size = some _ := Zzy _ (Zzi _ rfl)
 have k3 : (z3z s.heap l1 l2 l3).get? (z3a (z3a (z3a s.heap l1) l2) l3).objs.size = some _ := Zzy _ (Zzy _ (Zzi _ rfl))
 have k2 : (z3z s.heap l1 l2 l3).get? (z3a (z3a s.heap l1) l2).objs.size = some _ := Zzy _ (Zzy _ (Zzy _ (Zzi _ rfl)))
 have k1 : (z3z s.heap l1 l2 l3).get? (z3a s.heap l1).objs.size = some _ := Zzy _ (Zzy _ (Zzy _ (Zzy _ (Zzi _ rfl))))
 have k0 : (z3z s.heap l1 l2 l3).get? s.heap.objs.size = some _ := Zzy _ (Zzy _ (Zzy _ (Zzy _ (Zzy _ (Zzi _ rfl)))))
 show _ /\ _
 rw [y5, y3, y4] at k5
 rw [y4] at k4
 rw [y3, y1, y2] at k3
 rw [y2] at k2
 rw [y1] at k1
 rw [y5]
 exact ⟨⟨_, k5, rfl⟩, h _ _ rfl k5 k3 k4 ⟨_, k0, rfl, rfl⟩ ⟨_, k1, rfl, rfl⟩ ⟨_, k2, rfl, rfl⟩ λc o e =>
  Zzy _ (Zzy _ (Zzy _ (Zzy _ (Zzy _ (Zzy _ e)))))⟩
end
theorem Lv {prog : Program} {w : World} {A : Around} (hh : A.handled = none) (z TI TO i1 i2 i3 l1 l2 l3 : Addr) (D : Rn z TI TO i1 i2 i3 [l1, l2, l3]) (xs ys zs : Array Value) :
  WalksT prog w A z [z, TI, TO, i1, i2, i3, l1, l2, l3] [z, TO, i1, i2, i3] (min xs.size (min ys.size zs.size))
   (λi vals => ∃ x y v, xs[i]? = some x /\ ys[i]? = some y /\ zs[i]? = some v /\ vals = #[x, y, v])
   (λi h => IsZip h z TI TO .none /\ Ca h TI (.ref i1) (.ref i2) (.ref i3) /\ (∃ a b c, Ca h TO a b c) /\ h.IsListIter i1 l1 i /\ h.IsListIter i2 l2 i /\ h.IsListIter i3 l3 i /\ h.IsList l1 xs /\ h.IsList l2 ys /\ h.IsList l3 zs)
   (λi T h => (IsZip h z TI TO (rawInt T) /\ Ca h TI (.ref i1) (.ref i2) (.ref i3) /\ (∃ a b c, Ca h TO a b c) /\ h.IsListIter i1 l1 (i + 1) /\ h.IsListIter i2 l2 (i + 1) /\ h.IsListIter i3 l3 (i + 1) /\ h.IsList l1 xs /\ h.IsList l2 ys /\ h.IsList l3 zs) /\ T ∉ [z, TO, i1, i2, i3]) := by
 have hTI : TI ∉ [z, TO, i1, i2, i3] := by
  have nd := D.nd
  simp only [Zyj, Zzo, Zz5, or_false, not_or] at nd ⊢
  exact ⟨λe => nd.1.1 e.symm, nd.2.1⟩
 have hls : ∀ l ∈ [l1, l2, l3], l ∉ [z, TO, i1, i2, i3] := λl hl hm => D.ls l hl (by
  simp only [Zzo, Zz5, or_false] at hm ⊢
  rcases hm with e | e | e | e | e <;> simp [e])
 have nz : ∀ c ∈ [TI, TO, i1, i2, i3], c ≠ z := λc hc e => by
  have nd := D.nd
  rw [Zyj] at nd
  exact nd.1 (e ▸ hc)
 have nzl : ∀ c ∈ [l1, l2, l3], c ≠ z := λc hc e => hls c hc (by simp [e])
 refine ⟨λb hb => ?_, λi h h' st kp => ?_, λi s Q E hi st hQ => ?_, λelts k pos i T s Q E hm hQ => ?_, λi T h hm => hm.2, λs Q E st hQ => ?_, λi s Q E st hQ => wpAny_pyIter_zip st.1 hQ⟩
 ·simp only [Zzo, Zz5, or_false] at hb ⊢
  rcases hb with e | e | e | e | e <;> simp [e]
 ·obtain ⟨p1, p2, ⟨a, b, c, p3⟩, p4, p5, p6, p7, p8, p9⟩ := st
  exact ⟨kp z (by simp) _ p1, kp TI (by simp) _ p2, ⟨a, b, c, kp TO (by simp) _ p3⟩, p4.at λo e => kp i1 (by simp) o e, p5.at λo e => kp i2 (by simp) o e, p6.at λo e => kp i3 (by simp) o e,
   p7.at λo e => kp l1 (by simp) o e, p8.at λo e => kp l2 (by simp) o e, p9.at λo e => kp l3 (by simp) o e⟩
 ·obtain ⟨p1, p2, ⟨a, b, c, p3⟩, p4, p5, p6, p7, p8, p9⟩ := st
  have b1 : i < xs.size := by omega
  have b2 : i < ys.size := by omega
  have b3 : i < zs.size := by omega
  have hT : s.TypeIs (.ref z) "zip" := ⟨_, p1, rfl⟩
  unfold pyNext
  refine wpAny_bind (wpAny_attempt (wpAny_callSpecial?_slot (name := Str.ofString "__next__") hT F.slot_zip_next (wpAny_call_entry F.slot_zip_next hT F.entry_zip_next
   (W7 D p1 p2 p3 p4 p5 p6 p7 p8 p9 (Zye b1) (Zye b2) (Zye b3) λh' r1 r2 r3 r4 r5 r6 r7 r8 => wpAny_pure ?_) (F.args_zip_next_1 _))))
  have lt : ∀ {c o}, s.heap.get? c = some o -> s.heap.objs.size ≠ c := λe => Zxg (Zzl e)
  refine hQ s.heap.objs.size #[xs[i], ys[i], zs[i]] h' s.toks ⟨_, _, _, Zye b1, Zye b2, Zye b3, rfl⟩ (Zzt _) ⟨_, r6, rfl, _, rfl⟩
   ⟨⟨r1, r8 _ _ hTI p2, ⟨_, _, _, r2⟩, r3, r4, r5, p7.at λo e => r8 _ o (hls l1 (by simp)) e, p8.at λo e => r8 _ o (hls l2 (by simp)) e, p9.at λo e => r8 _ o (hls l3 (by simp)) e⟩, λhm => ?_⟩ r8
  simp only [Zzo, Zz5, or_false] at hm
  obtain ⟨o4, q4, _⟩ := p4
  obtain ⟨o5, q5, _⟩ := p5
  obtain ⟨o6, q6, _⟩ := p6
  rcases hm with e | e | e | e | e
  ·exact lt p1 e
  ·exact lt p3 e
  ·exact lt q4 e
  ·exact lt q5 e
  ·exact lt q6 e
 ·obtain ⟨⟨p1, p2, ⟨a, b, c, p3⟩, p4, p5, p6, p7, p8, p9⟩, _⟩ := hm
  refine wpAny_letOwnedTupleGo_zip p1 λh' z' s' => hQ h' ⟨z', s'.extBut _ _ (nz TI (by simp)) p2, ⟨a, b, c, s'.extBut _ _ (nz TO (by simp)) p3⟩, p4.extBut s'.extBut (nz i1 (by simp)), p5.extBut s'.extBut (nz i2 (by simp)), p6.extBut s'.extBut (nz i3 (by simp)),
   p7.extBut s'.extBut (nzl l1 (by simp)), p8.extBut s'.extBut (nzl l2 (by simp)), p9.extBut s'.extBut (nzl l3 (by simp))⟩ λc o hc e => s'.extBut _ _ (λq => hc (by simp [q])) e
 ·obtain ⟨p1, p2, ⟨a, b, c, p3⟩, p4, p5, p6, p7, p8, p9⟩ := st
  have hT : s.TypeIs (.ref z) "zip" := ⟨_, p1, rfl⟩
  have fin : xs[min xs.size (min ys.size zs.size)]? = none \/ ys[min xs.size (min ys.size zs.size)]? = none \/ zs[min xs.size (min ys.size zs.size)]? = none := by
   have : min xs.size (min ys.size zs.size) = xs.size \/ min xs.size (min ys.size zs.size) = ys.size \/ min xs.size (min ys.size zs.size) = zs.size := by omega
   rcases this with e | e | e
   ·exact .inl (Zw6 (Zws e.symm))
   ·exact .inr (.inl (Zw6 (Zws e.symm)))
   ·exact .inr (.inr (Zw6 (Zws e.symm)))
  unfold pyNext
  refine wpAny_bind (wpAny_attempt (wpAny_callSpecial?_slot (name := Str.ofString "__next__") hT F.slot_zip_next (wpAny_call_entry F.slot_zip_next hT F.entry_zip_next
   (Y0 hh D p1 p2 p3 p4 p5 p6 p7 p8 p9 fin λh' e kp ⟨o, ho, hc⟩ => ?_) (F.args_zip_next_1 _))))
  exact wpAny_bind (wpAny_isInstance (T := "StopIteration") (b := true) ⟨o, ho, hc⟩ isSubtype_stop (wpAny_pure (hQ _ s.toks kp)))
def nc (a b c : Addr) (xs ys zs : List V) : It := ⟨λi H => (H a = some (.lst xs) /\ H b = some (.lst ys) /\ H c = some (.lst zs)) /\ i < min xs.length (min ys.length zs.length),
 λi H x H' => ∃ p y z v, x = .ref p /\ H p = none /\ xs[i]? = some y /\ ys[i]? = some z /\ zs[i]? = some v /\ H' = upd H p (.tup [y, z, v]), λi H => (H a = some (.lst xs) /\ H b = some (.lst ys) /\ H c = some (.lst zs)) /\ i = min xs.length (min ys.length zs.length)⟩
theorem m6 (a b c : Addr) (xs ys zs : List V) : Pl (nc a b c xs ys zs) (min xs.length (min ys.length zs.length)) (λi us => ∃ y z v, xs[i]? = some y /\ ys[i]? = some z /\ zs[i]? = some v /\ us = [y, z, v]) (λH => H a = some (.lst xs) /\ H b = some (.lst ys) /\ H c = some (.lst zs)) :=
 ⟨λi H h o => ⟨o, h⟩, λi H x H' h o y => by obtain ⟨p, u, v, w, e1, e2, e3, e4, e5, e6⟩ := y; exact ⟨p, _, e1, e2, e6, u, v, w, e3, e4, e5, rfl⟩, λH o => ⟨o, rfl⟩⟩
theorem W9 {P : Program} {w : World} {K : Zzv} {elts : List Expr} {k : Nat} {pos : Pos} (z TI TO i1 i2 i3 a b c : Addr) (xs ys zs : List V) (nd : [z, TI, TO, i1, i2, i3].Nodup) :
  Ks P w K (.Tuple elts k pos) (nc a b c xs ys zs) [z, TI, TO, i1, i2, i3] z (λi h => IsZip h z TI TO .none /\ Ca h TI (.ref i1) (.ref i2) (.ref i3) /\ (∃ u v t, Ca h TO u v t) /\ h.IsListIter i1 a i /\ h.IsListIter i2 b i /\ h.IsListIter i3 c i) := by
 have objs : ∀ (i : Nat) (h : Heap), (IsZip h z TI TO .none /\ Ca h TI (.ref i1) (.ref i2) (.ref i3) /\ (∃ u v t, Ca h TO u v t) /\ h.IsListIter i1 a i /\ h.IsListIter i2 b i /\ h.IsListIter i3 c i) -> ∀ d ∈ [z, TI, TO, i1, i2, i3], ∃ o, h.get? d = some o /\ ∀ v, o.data ≠ .cell v := by
  rintro i h ⟨hz, hT, ⟨u, v, t, hO⟩, ⟨o1, g1, c1, d1⟩, ⟨o2, g2, c2, d2⟩, ⟨o3, g3, c3, d3⟩⟩ d hd
  simp only [Zzo, Zz5, or_false] at hd
  rcases hd with q | q | q | q | q | q <;> subst q
  ·exact ⟨_, hz, λ_ y => by cases y⟩
  ·exact ⟨_, hT, λ_ y => by cases y⟩
  ·exact ⟨_, hO, λ_ y => by cases y⟩
  ·exact ⟨o1, g1, λ_ y => by rw [d1] at y; cases y⟩
  ·exact ⟨o2, g2, λ_ y => by rw [d2] at y; cases y⟩
  ·exact ⟨o3, g3, λ_ y => by rw [d3] at y; cases y⟩
 have apart : ∀ {X : Cx} {pins : List (Addr × Obj)} {H : Hp}, (∀ d ∈ [z, TI, TO, i1, i2, i3], Hg X pins H d) -> ∀ {us vs ws : List V}, H a = some (.lst us) -> H b = some (.lst vs) -> H c = some (.lst ws) -> Rn z TI TO i1 i2 i3 [a, b, c] := by
  intro X pins H hf us vs ws ha hb hc
  refine ⟨nd, λl hl hm => ?_⟩
  have hn := (hf l hm).1
  simp only [Zzo, Zz5, or_false] at hl
  rcases hl with e | e | e <;> rw [e] at hn
  ·rw [hn] at ha; cases ha
  ·rw [hn] at hb; cases hb
  ·rw [hn] at hc; cases hc
 have sub : ∀ d ∈ [z, TO, i1, i2, i3], d ∈ [z, TI, TO, i1, i2, i3] := λd hd => by simp at hd ⊢; rcases hd with h | h | h | h | h <;> simp [h]
 refine ⟨by simp, objs, ?_, ?_, ?_, ?_⟩
 ·rintro i h h' ⟨hz, hT, ⟨u, v, t, hO⟩, g1, g2, g3⟩ kp
  exact ⟨kp z (by simp) _ hz, kp TI (by simp) _ hT, ⟨u, v, t, kp TO (by simp) _ hO⟩, g1.at λo e => kp i1 (by simp) o e, g2.at λo e => kp i2 (by simp) o e, g3.at λo e => kp i3 (by simp) o e⟩
 ·intro X hP hw hK hc i pins s Z H E I hf st hg
  subst hP hw hK
  obtain ⟨⟨ha, hb, hd⟩, hlt⟩ := hg
  obtain ⟨its, rv, hl, _⟩ := Av I ha
  obtain ⟨its2, rv2, hl2, _⟩ := Av I hb
  obtain ⟨its3, rv3, hl3, _⟩ := Av I hd
  have len1 := rv.length
  have len2 := rv2.length
  have len3 := rv3.length
  obtain ⟨s1, s2, s3, s4, s5, s6⟩ := id st
  have hv : ∀ vals : Array Value, (∃ x y v, its.toArray[i]? = some x /\ its2.toArray[i]? = some y /\ its3.toArray[i]? = some v /\ vals = #[x, y, v]) -> ∃ us, Vals us vals.toList /\ us.length <= 100 /\ ∃ y z v, xs[i]? = some y /\ ys[i]? = some z /\ zs[i]? = some v /\ us = [y, z, v] := by
   rintro vals ⟨x, y, v, hx, hy, hv, rfl⟩
   have l1 : i < xs.length := by omega
   have l2 : i < ys.length := by omega
   have l3 : i < zs.length := by omega
   obtain ⟨u, hu, ru⟩ := rv.get (x := xs[i]) (i := i) (by simp [l1])
   obtain ⟨u', hu', ru'⟩ := rv2.get (x := ys[i]) (i := i) (by simp [l2])
   obtain ⟨u'', hu'', ru''⟩ := rv3.get (x := zs[i]) (i := i) (by simp [l3])
   have hx : its[i]? = some x := by simpa using hx
   have hy : its2[i]? = some y := by simpa using hy
   have hv : its3[i]? = some v := by simpa using hv
   rw [hx] at hu
   rw [hy] at hu'
   rw [hv] at hu''
   cases hu
   cases hu'
   cases hu''
   exact ⟨[xs[i], ys[i], zs[i]], .cons ru (.cons ru' (.cons ru'' .nil)), by simp, xs[i], ys[i], zs[i], by simp [l1], by simp [l2], by simp [l3], rfl⟩
  refine thn (Qw (E := E) (Lv (I.ok.hd hc) z TI TO i1 i2 i3 a b c (apart hf ha hb hd) its.toArray its2.toArray its3.toArray) (by rw [Zzp, Zzp, Zzp]; omega) I ⟨s1, s2, s3, s4, s5, s6, hl, hl2, hl3⟩ (λc hc => hf c (sub c hc)) hv) λr t1 ⟨u, hr, h3⟩ =>
   ⟨u, hr, thn h3 λ_ t2 ⟨p, us, hu, hp, hn, I2, ⟨y, y', y'', hy, hy', hy'', e2⟩, st2⟩ => ?_⟩
  subst hu e2
  refine ⟨.ref p, _, I2, rfl, ⟨p, y, y', y'', rfl, hn, hy, hy', hy'', rfl⟩, ⟨st2.1, st2.2.1, st2.2.2.1, st2.2.2.2.1, st2.2.2.2.2.1, st2.2.2.2.2.2.1⟩, λc hc => ?_⟩
  obtain ⟨o, ho, _⟩ := objs i _ st c hc
  rw [A5 (Bt (Zzl ho) hp)]
  exact (hf c hc).1
 ·intro X hP hw hK hc i pins s Z H E I hf st hg
  subst hP hw hK
  obtain ⟨⟨ha, hb, hd⟩, hlt⟩ := hg
  obtain ⟨its, rv, hl, _⟩ := Av I ha
  obtain ⟨its2, rv2, hl2, _⟩ := Av I hb
  obtain ⟨its3, rv3, hl3, _⟩ := Av I hd
  have len1 := rv.length
  have len2 := rv2.length
  have len3 := rv3.length
  obtain ⟨s1, s2, s3, s4, s5, s6⟩ := id st
  have hi : min its.toArray.size (min its2.toArray.size its3.toArray.size) = i := by rw [Zzp, Zzp, Zzp]; omega
  refine (Lv (I.ok.hd hc) z TI TO i1 i2 i3 a b c (apart hf ha hb hd) its.toArray its2.toArray its3.toArray).done s _ E ?_ λh' tk hk => ⟨rfl, I.turnedL hk λc hc => hf c (sub c hc)⟩
  rw [hi]
  exact ⟨s1, s2, s3, s4, s5, s6, hl, hl2, hl3⟩
 ·intro A i s Q E st h
  exact wpAny_pyIter_zip st.1 h
section
variable {X : Cx}
def jb (ta : TA) : TI := λZ H R => ta Z H λvs H1 => ∃ a b c xs ys zs, vs = [.ref a, .ref b, .ref c] /\ H1 a = some (.lst xs) /\ H1 b = some (.lst ys) /\ H1 c = some (.lst zs) /\ R (nc a b c xs ys zs) H1
theorem dc {elts : List Expr} {k : Nat} {pt p pos : Pos} {e e2 e3 : Expr} {ta : TA} (hg : Gl X "zip") (hm : X.mg "zip" = none) (ha : PA X [e, e2, e3] ta) (hn : By [e, e2, e3] = true := by rfl) : PI X (.Tuple elts k pt) (.Call (.Name "zip" p) [e, e2, e3] [] pos) (jb ta) := by
 intro pins s Z H R I h
 refine Call_ (E9 I hg hm NP.av (Zya (thn (ha pos pins s Z H _ I h) λus s1 ⟨vs, H1, I1, r1, q1⟩ => ?_) (Bk (B3 hn).1) (Cf (B3 hn).2)))
 obtain ⟨a, b, c, xs, ys, zs, e, ha, hb, hc, q⟩ := q1
 subst e
 cases r1 with
 | cons ru r2 =>
 obtain ⟨u', u'', rfl, ru', ru''⟩ := Rp r2
 cases ru
 cases ru'
 cases ru''
 obtain ⟨its, rv, hl, _⟩ := Av I1 ha
 obtain ⟨its2, rv2, hl2, _⟩ := Av I1 hb
 obtain ⟨its3, rv3, hl3, _⟩ := Av I1 hc
 refine Xu hl hl2 hl3 λh' n hn g1 g2 g3 g4 g5 g6 hk => wpAny_pyIter_zip g1 ?_
 have I2 : Inv X pins Z H1 { s1 with heap := h' } := I1.kept (t' := s1.toks) hk
 have nd : [n + 5, n + 3, n + 4, n, n + 1, n + 2].Nodup := by
  simp only [Zyj, Zzo, Zz5, or_false, not_or, Zwc, and_true, not_false_eq_true]
  refine ⟨⟨?_, ?_, ?_, ?_, ?_⟩, ⟨?_, ?_, ?_, ?_⟩, ⟨?_, ?_, ?_⟩, ⟨?_, ?_⟩, ?_⟩ <;> (intro z; have z' : (_ : Nat) = _ := z; omega)
 refine ⟨n + 5, [n + 5, n + 3, n + 4, n, n + 1, n + 2], _, _, H1, rfl, I2, W9 _ _ _ _ _ _ a b c xs ys zs nd, ⟨g1, g2, ⟨_, _, _, g3⟩, g4, g5, g6⟩, λd hd => ?_, q⟩
 have hb' : s1.heap.objs.size <= d := by
  rw [<- hn]
  simp only [Zzo, Zz5, or_false] at hd
  rcases hd with q | q | q | q | q | q <;> rw [q] <;> first | exact Zxr _ _ | exact Zzt _
 exact I1.fpOk hb' (I1.hok.fresh hb')
end
theorem mk {t u : TS} {D : Ku} {Z : St} {H : Hp} (M : St -> Hp -> Prop) (hrest : ∀ Z' H', M Z' H' -> u D Z' H') (h : ∀ KK : St -> Hp -> Prop, (∀ Z' H', M Z' H' -> KK Z' H') -> t { D with nx := KK } Z H) : Yc t u D Z H := h (u D) hrest
theorem gy {t t2 u : TS} {D : Ku} {Z : St} {H : Hp} (M : St -> Hp -> Prop) (hrest : ∀ Z' H', M Z' H' -> u D Z' H') (h : ∀ KK : St -> Hp -> Prop, (∀ Z' H', M Z' H' -> KK Z' H') -> t { D with nx := λZ H => t2 { D with nx := KK } Z H } Z H) : Yc t (Yc t2 u) D Z H := h (u D) hrest
theorem Dn {H : Hp} {a : Addr} {xs : List V} (h : H a = some (.lst xs)) : Le H (.ref a) = some "list" := by unfold Le; simp only [h]
theorem gt2 {K : Zzv} {i j : Nat} {p : Addr} {x y : V} {Z : St} {H : Hp} {Q : St -> Hp -> Prop} (e : H p = some (.tup [x, y])) (h : Q ((Z.set i (some x)).set j (some y)) H) : Xq K 2 (Fz (Dk i) (Fz (Dk j) gNil)) (.ref p) Z H Q :=
 ⟨p, _, rfl, SqT.of e, rfl, _, _, rfl, _, _, rfl, rfl, h⟩
section
variable {X : Cx} {pins : List (Addr × Obj)} {Z : St} {H : Hp} {s : Shared}
theorem Inv.freeze {a : Addr} {kvs : List (Key × V)} (I : Inv X pins Z H s) (h : H a = some (.dK kvs)) : ∃ o, s.heap.get? a = some o /\ Inv X pins Z (upd H a (.frz o (.dK kvs))) s := by
 obtain ⟨hz, hS, vs, r, o, es, ep, ho, rest⟩ := I.hok a _ h
 have ne : ∀ b u, H b = some u -> u ≠ .dK kvs -> b ≠ a := λb u e n z => by rw [z, h] at e; exact n (Zzn e).symm
 refine ⟨o, ho, I.un (t' := s.toks) ⟨λb ob e n _ _ => e, λb ob e n _ _ => ⟨ob.slots, e⟩, λb ob e n _ => ?_, λb ob e _ => ⟨ob, e⟩, λb xs e => ?_, λb ob u e => ?_, λb ps e => ⟨#[], ?_⟩⟩ λb u e => ?_⟩
 ·rw [A5 (λz => by rw [z, h] at n; cases n)]; exact n
 ·rw [A5 (ne b _ e (λz => by cases z))]; exact e
 ·rw [A5 (ne b _ e (λz => by cases z))]; exact e
 ·rw [A5 (ne b _ e (λz => by cases z)), e]; simp
 ·by_cases hb : b = a
  ·subst hb
   rw [A0] at e
   cases e
   exact ⟨ho, hz, hS, vs, r, o, es, ep, ho, rest⟩
  ·rw [A5 hb] at e
   refine (I.hok b u e).stay (λ_ _ _ q => q) (λc q => ?_) λc ys q => ?_
   ·rw [A5 (ne c _ q (λz => by cases z))]; exact q
   ·rw [A5 (ne c _ q (λz => by cases z))]; exact q
end
def ItD (a : Addr) (o : Obj) (kvs : List (Key × V)) : It := ⟨λi H => H a = some (.frz o (.dK kvs)) /\ i < kvs.length, λi H x H' => H' = H /\ ∃ k v, kvs[i]? = some (k, v) /\ x = kV k, λi H => H a = some (.frz o (.dK kvs)) /\ kvs.length <= i⟩
theorem ql (a : Addr) (o : Obj) (kvs : List (Key × V)) : On (ItD a o kvs) kvs.length (λi x => ∃ k v, kvs[i]? = some (k, v) /\ x = kV k) (λH => H a = some (.frz o (.dK kvs))) :=
 ⟨λ_ _ h o => ⟨o, h⟩, λ_ _ _ _ _ _ y => y, λ_ o => ⟨o, Zzt _⟩⟩
theorem Zm {κ : Type} : ∀ {kvs : List (κ × V)} {vs : List (κ × Value)} {i : Nat} {k : κ} {v : V}, KV kvs vs -> kvs[i]? = some (k, v) -> ∃ u, vs[i]? = some (k, u)
 | _, _, _, _, _, .nil, e => by simp at e
 | _, (k', u') :: _, 0, k, v, .cons r _, e => by
  simp at e
  subst e
  exact ⟨u', by simp; exact r.1.symm⟩
 | _, _ :: _, i + 1, k, v, .cons _ t, e => by
  obtain ⟨u, h⟩ := Zm (i := i) t (by simpa using e)
  exact ⟨u, by simpa using h⟩
theorem ja {P : Program} {w : World} {k : Key} {u : Value} (h : (B0 P w).is k u = true) : RelV (kV k) u := by
 rcases Br h with ⟨i, t, rfl, rfl⟩ | ⟨x, t, rfl, rfl⟩
 ·exact ⟨t, rfl⟩
 ·exact ⟨t, rfl⟩
theorem We {P : Program} {w : World} {K : Zzv} {tg : Expr} (a it : Addr) (o : Obj) (kvs : List (Key × V)) (es : Array DictEntry) (ep : Nat) (hd : o.data = .dict es ep) :
  Ks P w K tg (ItD a o kvs) [it] it (λi h => h.IsKeyIter it a i kvs.length ep) where
 mem := by simp
 obj := λi h st b hb => by
  have e : b = it := by simpa using hb
  subst e
  obtain ⟨o, e, c, d⟩ := st
  exact ⟨o, e, λv z => by rw [d] at z; cases z⟩
 keep := λi h h' st k => st.at λo e => k it (by simp) o e
 item := by
  intro X hP hw hK hc i pins s Z H E I hf st hg
  subst hP hw hK
  obtain ⟨hq, hlt⟩ := hg
  obtain ⟨ho, hz, hS, vs, rel, o', es', ep', ho', c', d', kk, pp, nn⟩ := I.hok a _ hq
  rw [ho] at ho'
  cases ho'
  rw [hd] at d'
  cases d'
  have hm : s.heap.DictAt (B0 X.prog X.w) a vs ep := ⟨o, es, ho, c', hd, kk, pp, nn⟩
  obtain ⟨f0, f1, f2, f3, f4, f5⟩ := hf it (by simp)
  have hlen : kvs.length = vs.length := rel.length
  obtain ⟨u, hu⟩ := Zm (k := kvs[i].1) (v := kvs[i].2) (i := i) rel (by simp [hlt])
  have st' : s.heap.IsKeyIter it a i vs.length ep := by rw [<- hlen]; exact st
  refine wpAny_pyNext_dict_item st' hm hu λkey h' hk hit sb => ?_
  have I1 : Inv X pins Z H { s with heap := h' } := I.turned (t' := s.toks) (λb o hb e => (sb.2 b hb).trans e) f0 f1 f3 f4 f5
  obtain ⟨oi, ei, ci, di⟩ := id hit
  refine ⟨key, rfl, T6 (s := { s with heap := h' }) ei ci di (by decide) ⟨kV kvs[i].1, H, I1, ja hk, ⟨rfl, kvs[i].1, kvs[i].2, by simp [hlt], rfl⟩, ?_, λb hb => (hf b hb).1⟩⟩
  rw [hlen]
  exact hit
 done := by
  intro X hP hw hK hc i pins s Z H E I hf st hg
  subst hP hw hK
  obtain ⟨hq, hlt⟩ := hg
  obtain ⟨ho, hz, hS, vs, rel, o', es', ep', ho', c', d', kk, pp, nn⟩ := I.hok a _ hq
  rw [ho] at ho'
  cases ho'
  rw [hd] at d'
  cases d'
  have hm : s.heap.DictAt (B0 X.prog X.w) a vs ep := ⟨o, es, ho, c', hd, kk, pp, nn⟩
  obtain ⟨f0, f1, f2, f3, f4, f5⟩ := hf it (by simp)
  have hlen : kvs.length = vs.length := rel.length
  have st' : s.heap.IsKeyIter it a i vs.length ep := by rw [<- hlen]; exact st
  exact wpAny_pyNext_dict_end (I.ok.hd hc) st' hm (by simp; omega) λh' eb => ⟨rfl, I.turned (t' := s.toks) (λb o hb e => eb b o hb e) f0 f1 f3 f4 f5⟩
 self := λ_ _ _ _ _ st h => wpAny_pyIter_keyiter st h
section
variable {X : Cx}
def qj (te : TE) : TI := λZ H R => te Z H λx H1 => ∃ a kvs, x = .ref a /\ H1 a = some (.dK kvs) /\ ∀ o, R (ItD a o kvs) (upd H1 a (.frz o (.dK kvs)))
theorem ke {tg l : Expr} {te : TE} (hl : PE X l te) : PI X tg l (qj te) := by
 intro pins s Z H R I h
 refine thn (hl pins s Z H _ I h) λv s1 ⟨x, H1, I1, r1, q1⟩ => ?_
 obtain ⟨a, kvs, e, ha, q⟩ := q1
 subst e
 cases r1
 obtain ⟨o, ho, I2⟩ := I1.freeze ha
 obtain ⟨hz, hS, vs, rel, o', es, ep, ho', c', d', kk, pp, nn⟩ := I1.hok a _ ha
 rw [ho] at ho'
 cases ho'
 have hm : s1.heap.DictAt (B0 X.prog X.w) a vs ep := ⟨o, es, ho, c', d', kk, pp, nn⟩
 have hlen : kvs.length = vs.length := rel.length
 refine wpAny_pyIter_dict hS hm ?_
 refine ⟨s1.heap.objs.size, [s1.heap.objs.size], _, _, _, rfl, I2.kept (t' := s1.toks) λb o e => Zzy _ e, We a _ o kvs es ep d', ?_, λb hb => ?_, q o⟩
 ·rw [hlen]
  exact ⟨_, Zzi _ rfl, rfl, rfl⟩
 ·have e : b = s1.heap.objs.size := by simpa using hb
  subst e
  exact I2.fpOk (Zzt _) (I2.hok.fresh (Zzt _))
def io (ta : TE) : TT := λZ H Q => ta Z H λx H' => ∃ a xs, x = .ref a /\ H' a = some (.lst xs) /\ Q (!xs.isEmpty) H'
def iq (ta : TE) : TT := λZ H Q => ta Z H λx H' => ∃ a kvs, x = .ref a /\ H' a = some (.dK kvs) /\ Q (!kvs.isEmpty) H'
theorem cx {a : Expr} {ta : TE} (ha : PE X a ta) (he : ∀ whole, isTrue a X.env whole = (do let v <- whole; standAt a.pos; holding [v] (truthy v)) := by intro _; rfl) : PT X a (io ta) := by
 intro pins s Z H Q I h
 refine isTrue_plain (thn (ha pins s Z H _ I h) λv s1 ⟨x, H1, I1, r1, q1⟩ => ?_) (he _)
 obtain ⟨a, xs, e, hx, q⟩ := q1
 exact Y8 pins s1 Z H1 x v Q I1 r1 ⟨_, by subst e; exact .inl ⟨xs, SqL.of hx, rfl⟩, q⟩
theorem cy {a : Expr} {ta : TE} (ha : PE X a ta) (he : ∀ whole, isTrue a X.env whole = (do let v <- whole; standAt a.pos; holding [v] (truthy v)) := by intro _; rfl) : PT X a (iq ta) := by
 intro pins s Z H Q I h
 refine isTrue_plain (thn (ha pins s Z H _ I h) λv s1 ⟨x, H1, I1, r1, q1⟩ => ?_) (he _)
 obtain ⟨a, xs, e, hx, q⟩ := q1
 exact Y8 pins s1 Z H1 x v Q I1 r1 ⟨_, by subst e; exact .inr (.inr ⟨xs, hx, rfl⟩), q⟩
end
mutual
def Ci : PyData -> Bool
 | .none | .bool _ | .int _ | .str _ => true
 | .list _ => false
 | .tuple ds => Be ds
 | .dict _ => false
def Be : List PyData -> Bool
 | [] => true
 | d :: ds => Ci d && Be ds
end
def KeepU (H H' : Hp) : Prop := ∀ a xs, H a = some (.tup xs) -> H' a = some (.tup xs)
theorem KeepU.trans {H H1 H2 : Hp} (a : KeepU H H1) (b : KeepU H1 H2) : KeepU H H2 := λc xs h => b c xs (a c xs h)
theorem Same.ku {H H' : Hp} (s : Same H H') : KeepU H H' := λa xs h => s a _ h
theorem li {H : Hp} {p : Addr} {o u : HO} (h : H p = some u) (n : ∀ xs, u ≠ .tup xs) : KeepU H (upd H p o) := λa xs e => by
 rw [A5 (λz => by rw [z, h] at e; exact n xs (Zzn e))]; exact e
mutual
theorem RD.ku {H H' : Hp} (k : KeepU H H') : ∀ (d : PyData) (v : V), Ci d = true -> RD H d v -> RD H' d v
 | .none, v, _, h => by rw [RD] at h ⊢; exact h
 | .bool b, v, _, h => by rw [RD] at h ⊢; exact h
 | .int i, v, _, h => by rw [RD] at h ⊢; exact h
 | .str x, v, _, h => by rw [RD] at h ⊢; exact h
 | .list ds, v, n, h => by rw [Ci] at n; cases n
 | .tuple ds, v, n, h => by
  rw [Ci] at n
  rw [RD] at h ⊢
  obtain ⟨a, xs, e, ha, r⟩ := h
  exact ⟨a, xs, e, k a xs ha, RDs.ku k ds xs n r⟩
 | .dict _, v, n, h => by rw [Ci] at n; cases n
theorem RDs.ku {H H' : Hp} (k : KeepU H H') : ∀ (ds : List PyData) (xs : List V), Be ds = true -> RDs H ds xs -> RDs H' ds xs
 | [], xs, _, h => by rw [RDs] at h ⊢; exact h
 | d :: ds, xs, n, h => by
  rw [Be, Zyi] at n
  rw [RDs] at h ⊢
  obtain ⟨x, r, e, h1, h2⟩ := h
  exact ⟨x, r, e, RD.ku k d x n.1 h1, RDs.ku k ds r n.2 h2⟩
end
mutual
theorem RD.same {H H' : Hp} (k : Same H H') : ∀ (d : PyData) (v : V), RD H d v -> RD H' d v
 | .none, v, h => by rw [RD] at h ⊢; exact h
 | .bool b, v, h => by rw [RD] at h ⊢; exact h
 | .int i, v, h => by rw [RD] at h ⊢; exact h
 | .str x, v, h => by rw [RD] at h ⊢; exact h
 | .list ds, v, h => by
  rw [RD] at h ⊢
  obtain ⟨a, xs, e, ha, r⟩ := h
  exact ⟨a, xs, e, k a _ ha, RDs.same k ds xs r⟩
 | .tuple ds, v, h => by
  rw [RD] at h ⊢
  obtain ⟨a, xs, e, ha, r⟩ := h
  exact ⟨a, xs, e, k a _ ha, RDs.same k ds xs r⟩
 | .dict _, v, h => by rw [RD] at h; exact h.elim
theorem RDs.same {H H' : Hp} (k : Same H H') : ∀ (ds : List PyData) (xs : List V), RDs H ds xs -> RDs H' ds xs
 | [], xs, h => by rw [RDs] at h ⊢; exact h
 | d :: ds, xs, h => by
  rw [RDs] at h ⊢
  obtain ⟨x, r, e, h1, h2⟩ := h
  exact ⟨x, r, e, RD.same k d x h1, RDs.same k ds r h2⟩
end
theorem RDs.len {H : Hp} : ∀ {ds : List PyData} {xs : List V}, RDs H ds xs -> xs.length = ds.length
 | [], xs, h => by rw [RDs] at h; rw [h]; rfl
 | d :: ds, xs, h => by
  rw [RDs] at h
  obtain ⟨x, r, e, _, h2⟩ := h
  rw [e, Zyl, Zyl, RDs.len h2]
theorem RDs.get {H : Hp} : ∀ {ds : List PyData} {xs : List V} {i : Nat} {d : PyData}, RDs H ds xs -> ds[i]? = some d -> ∃ x, xs[i]? = some x /\ RD H d x
 | [], xs, i, d, h, e => by cases e
 | d0 :: ds, xs, i, d, h, e => by
  rw [RDs] at h
  obtain ⟨y, r, ey, h1, h2⟩ := h
  rw [ey]
  cases i with
  | zero => cases e; exact ⟨y, rfl, h1⟩
  | succ i =>
   obtain ⟨x, h3, h4⟩ := RDs.get (ds := ds) (xs := r) (i := i) (d := d) h2 (by simpa using e)
   exact ⟨x, by simpa using h3, h4⟩
theorem RDs.get' {H : Hp} : ∀ {ds : List PyData} {xs : List V} {i : Nat} {x : V}, RDs H ds xs -> xs[i]? = some x -> ∃ d, ds[i]? = some d /\ RD H d x
 | [], xs, i, x, h, e => by rw [RDs] at h; rw [h] at e; cases e
 | d :: ds, xs, i, x, h, e => by
  rw [RDs] at h
  obtain ⟨y, r, ey, h1, h2⟩ := h
  rw [ey] at e
  cases i with
  | zero => cases e; exact ⟨d, rfl, h1⟩
  | succ i => exact RDs.get' (ds := ds) (xs := r) (i := i) h2 (by simpa using e)
theorem RDs.app {H : Hp} : ∀ {ds es : List PyData} {xs ys : List V}, RDs H ds xs -> RDs H es ys -> RDs H (ds ++ es) (xs ++ ys)
 | [], es, xs, ys, h, h' => by rw [RDs] at h; rw [h]; exact h'
 | d :: ds, es, xs, ys, h, h' => by
  rw [RDs] at h
  obtain ⟨x, r, e, h1, h2⟩ := h
  rw [e, Zx8, Zx8, RDs]
  exact ⟨x, _, rfl, h1, RDs.app h2 h'⟩
theorem RDs.one {H : Hp} {d : PyData} {x : V} (h : RD H d x) : RDs H [d] [x] := by
 rw [RDs]
 refine ⟨x, _, rfl, h, ?_⟩
 rw [RDs]
theorem RDs.nil {H : Hp} : RDs H [] [] := by rw [RDs]
theorem RDs.cons {H : Hp} {d : PyData} {x : V} {ds : List PyData} {xs : List V} (h : RD H d x) (t : RDs H ds xs) : RDs H (d :: ds) (x :: xs) := by
 rw [RDs]
 exact ⟨x, _, rfl, h, t⟩
theorem RD.str_mk {H : Hp} {x : Str} : RD H (.str x) (.str x) := by rw [RD]
theorem RD.int_mk {H : Hp} {i : Int} : RD H (.int i) (.int i) := by rw [RD]
theorem RD.tup_mk {H : Hp} {a : Addr} {xs : List V} {ds : List PyData} (h : H a = some (.tup xs)) (r : RDs H ds xs) : RD H (.tuple ds) (.ref a) := by
 rw [RD]
 exact ⟨a, xs, rfl, h, r⟩
theorem RD.tup_of {H : Hp} {v : V} {ds : List PyData} (h : RD H (.tuple ds) v) : ∃ a xs, v = .ref a /\ H a = some (.tup xs) /\ RDs H ds xs := by rw [RD] at h; exact h
theorem RD.str_of {H : Hp} {v : V} {x : Str} (h : RD H (.str x) v) : v = .str x := by rw [RD] at h; exact h
theorem RD.int_of {H : Hp} {v : V} {x : Int} (h : RD H (.int x) v) : v = .int x := by rw [RD] at h; exact h
theorem RDs.nil_of {H : Hp} {xs : List V} (h : RDs H [] xs) : xs = [] := by rw [RDs] at h; exact h
theorem RDs.cons_of {H : Hp} {d : PyData} {ds : List PyData} {xs : List V} (h : RDs H (d :: ds) xs) : ∃ x r, xs = x :: r /\ RD H d x /\ RDs H ds r := by rw [RDs] at h; exact h
end L2
namespace NP
open PySem L2
structure Wr where
 name : Str
 lag : Int
 gives : Int
 floor : Int
 stock : Int
 coming : List (Int × Int)
 parts : List (Str × Int)
def Om (p : Int × Int) : PyData := .tuple [.int p.1, .int p.2]
def Fg (p : Str × Int) : PyData := .tuple [.str p.1, .int p.2]
def Wr.d (w : Wr) : PyData := .tuple [.str w.name, .int w.lag, .int w.gives, .int w.floor, .int w.stock, .tuple (w.coming.map Om), .tuple (w.parts.map Fg)]
abbrev Wt := Str × Int × Int
def Fs (p : Wt) : PyData := .tuple [.str p.1, .int p.2.1, .int p.2.2]
structure Sh where
 wares : List Wr
 wants : List Wt
def Sh.d (S : Sh) : PyData := .tuple [.tuple (S.wares.map Wr.d), .tuple (S.wants.map Fs)]
theorem Bf {α : Type} (f : α -> PyData) (h : ∀ x, Ci (f x) = true) : ∀ xs : List α, Be (xs.map f) = true
 | [] => by rw [Zxe, Be]
 | x :: r => by rw [Zzd, Be, h x, Bf f h r]; rfl
theorem Ud (p : Int × Int) : Ci (Om p) = true := by unfold Om; simp only [Ci, Be, Zy4]
theorem Jh (p : Str × Int) : Ci (Fg p) = true := by unfold Fg; simp only [Ci, Be, Zy4]
theorem Ln (p : Wt) : Ci (Fs p) = true := by unfold Fs; simp only [Ci, Be, Zy4]
theorem Fi (w : Wr) : Ci w.d = true := by
 unfold Wr.d
 simp only [Ci, Be, Bf Om Ud, Bf Fg Jh, Zy4]
theorem C3 (S : Sh) : Ci S.d = true := by
 unfold Sh.d
 simp only [Ci, Be, Bf Wr.d Fi, Bf Fs Ln, Zy4]
theorem Bg {H : Hp} {w : Wr} {v : V} (h : RD H w.d v) : ∃ (a : Addr) (c p : V), v = .ref a /\ H a = some (.tup [.str w.name, .int w.lag, .int w.gives, .int w.floor, .int w.stock, c, p]) /\ RD H (.tuple (w.coming.map Om)) c /\ RD H (.tuple (w.parts.map Fg)) p := by
 unfold Wr.d at h
 obtain ⟨a, xs, rfl, ha, r⟩ := RD.tup_of h
 obtain ⟨x1, r1, rfl, h1, r⟩ := RDs.cons_of r
 obtain ⟨x2, r2, rfl, h2, r⟩ := RDs.cons_of r
 obtain ⟨x3, r3, rfl, h3, r⟩ := RDs.cons_of r
 obtain ⟨x4, r4, rfl, h4, r⟩ := RDs.cons_of r
 obtain ⟨x5, r5, rfl, h5, r⟩ := RDs.cons_of r
 obtain ⟨x6, r6, rfl, h6, r⟩ := RDs.cons_of r
 obtain ⟨x7, r7, rfl, h7, r⟩ := RDs.cons_of r
 have := RDs.nil_of r
 subst this
 rw [RD.str_of h1, RD.int_of h2, RD.int_of h3, RD.int_of h4, RD.int_of h5] at ha
 exact ⟨a, x6, x7, rfl, ha, h6, h7⟩
theorem Cy {H : Hp} {S : Sh} {v : V} (h : RD H S.d v) : ∃ (a b c : Addr) (ws us : List V), v = .ref a /\ H a = some (.tup [.ref b, .ref c]) /\ H b = some (.tup ws) /\ H c = some (.tup us) /\ RDs H (S.wares.map Wr.d) ws /\ RDs H (S.wants.map Fs) us := by
 unfold Sh.d at h
 obtain ⟨a, xs, rfl, ha, r⟩ := RD.tup_of h
 obtain ⟨x1, r1, rfl, h1, r⟩ := RDs.cons_of r
 obtain ⟨x2, r2, rfl, h2, r⟩ := RDs.cons_of r
 have := RDs.nil_of r
 subst this
 obtain ⟨b, ws, rfl, hb, rb⟩ := RD.tup_of h1
 obtain ⟨c, us, rfl, hc, rc⟩ := RD.tup_of h2
 exact ⟨a, b, c, ws, us, rfl, ha, hb, hc, rb, rc⟩
theorem Lj {H : Hp} {p : Wt} {v : V} (h : RD H (Fs p) v) : ∃ a : Addr, v = .ref a /\ H a = some (.tup [.str p.1, .int p.2.1, .int p.2.2]) := by
 unfold Fs at h
 obtain ⟨a, xs, rfl, ha, r⟩ := RD.tup_of h
 obtain ⟨x1, r1, rfl, h1, r⟩ := RDs.cons_of r
 obtain ⟨x2, r2, rfl, h2, r⟩ := RDs.cons_of r
 obtain ⟨x3, r3, rfl, h3, r⟩ := RDs.cons_of r
 have := RDs.nil_of r
 subst this
 rw [RD.str_of h1, RD.int_of h2, RD.int_of h3] at ha
 exact ⟨a, rfl, ha⟩
theorem Qa {H : Hp} {p : Str × Int} {v : V} (h : RD H (Fg p) v) : ∃ a : Addr, v = .ref a /\ H a = some (.tup [.str p.1, .int p.2]) := by
 unfold Fg at h
 obtain ⟨a, xs, rfl, ha, r⟩ := RD.tup_of h
 obtain ⟨x1, r1, rfl, h1, r⟩ := RDs.cons_of r
 obtain ⟨x2, r2, rfl, h2, r⟩ := RDs.cons_of r
 have := RDs.nil_of r
 subst this
 rw [RD.str_of h1, RD.int_of h2] at ha
 exact ⟨a, rfl, ha⟩
theorem az {H : Hp} {p : Int × Int} {v : V} (h : RD H (Om p) v) : ∃ a : Addr, v = .ref a /\ H a = some (.tup [.int p.1, .int p.2]) := by
 unfold Om at h
 obtain ⟨a, xs, rfl, ha, r⟩ := RD.tup_of h
 obtain ⟨x1, r1, rfl, h1, r⟩ := RDs.cons_of r
 obtain ⟨x2, r2, rfl, h2, r⟩ := RDs.cons_of r
 have := RDs.nil_of r
 subst this
 rw [RD.int_of h1, RD.int_of h2] at ha
 exact ⟨a, rfl, ha⟩
theorem Bc {α : Type} {H : Hp} {f : α -> PyData} {xs : List α} {vs : List V} {i : Nat} {v : V} (h : RDs H (xs.map f) vs) (e : vs[i]? = some v) : ∃ x, xs[i]? = some x /\ RD H (f x) v := by
 obtain ⟨d, hd, r⟩ := RDs.get' h e
 rw [Zzx] at hd
 cases ex : xs[i]? with
 | none => rw [ex] at hd; cases hd
 | some x => rw [ex] at hd; cases hd; exact ⟨x, rfl, r⟩
theorem Ym {α : Type} {H : Hp} {f : α -> PyData} {xs : List α} {vs : List V} {i : Nat} {x : α} (h : RDs H (xs.map f) vs) (e : xs[i]? = some x) : ∃ v, vs[i]? = some v /\ RD H (f x) v := RDs.get h (by rw [Zzx, e]; rfl)
theorem B2 {α : Type} {H : Hp} {f : α -> PyData} {xs : List α} {vs : List V} (h : RDs H (xs.map f) vs) : vs.length = xs.length := by have := RDs.len h; rw [Zzz] at this; exact this
abbrev Gr := List (Str × List Str)
def At (G : Gr) : List Str := G.map (·.1)
def N0 (ks : List Str) (ps : List Str) : List Str := ps.filter λx => decide (x ∈ ks)
def Ce (ks : List Str) (e : Str × List Str) : Option (Str × List Str) := if N0 ks e.2 = [] then none else some (e.1, N0 ks e.2)
def Xs (G : Gr) : Gr := G.filterMap (Ce (At G))
def Nc : Nat -> Gr -> Gr
 | 0, G => G
 | n + 1, G => Xs (Nc n G)
def Es (S : Sh) : Gr := S.wares.map λw => (w.name, w.parts.map (·.1))
theorem keys_filter {ks : List Str} : ∀ {G : Gr}, (At (G.filterMap (Ce ks))).Sublist (At G)
 | [] => .slnil
 | e :: r => by
  unfold At
  rw [Zwl]
  cases h : Ce ks e with
  | none => exact .cons _ (keys_filter (G := r))
  | some q =>
   have e1 : q.1 = e.1 := by
    unfold Ce at h
    split at h
    ·cases h
    ·cases h; rfl
   show (q.1 :: At (r.filterMap (Ce ks))).Sublist (e.1 :: At r)
   rw [e1]
   exact .cons₂ _ (keys_filter (G := r))
theorem Ur {G : Gr} (h : (At G).Nodup) : (At (Xs G)).Nodup := keys_filter.nodup h
theorem Nb {G : Gr} (h : (At G).Nodup) : ∀ n, (At (Nc n G)).Nodup
 | 0 => h
 | n + 1 => Ur (Nb h n)
theorem ai (G : Gr) : (Xs G).length <= G.length := List.length_filterMap_le _ _
theorem Td (G : Gr) : ∀ n, (Nc n G).length <= G.length
 | 0 => Zzt _
 | n + 1 => Zyx (ai _) (Td G n)
theorem Nd {G : Gr} {e : Str × List Str} (h : e ∈ Xs G) : ∃ ps, (e.1, ps) ∈ G /\ (∀ x ∈ e.2, x ∈ ps /\ x ∈ At G) /\ e.2 ≠ [] /\ e.2.length <= ps.length := by
 unfold Xs at h
 obtain ⟨q, hq, hc⟩ := Zwv.mp h
 unfold Ce at hc
 split at hc
 ·cases hc
 ·rename_i hn
  cases hc
  refine ⟨q.2, hq, λx hx => ?_, hn, Zx0 _ _⟩
  have := Zys.mp hx
  exact ⟨this.1, of_decide_eq_true this.2⟩
theorem Gk {G : Gr} : ∀ (n : Nat) {e : Str × List Str}, e ∈ Nc n G -> ∃ ps, (e.1, ps) ∈ G /\ (∀ x ∈ e.2, x ∈ ps) /\ e.2.length <= ps.length
 | 0, e, h => ⟨e.2, h, λx hx => hx, Zzt _⟩
 | n + 1, e, h => by
  obtain ⟨ps, h1, h2, _, h3⟩ := Nd h
  obtain ⟨qs, q1, q2, q3⟩ := Gk n h1
  exact ⟨qs, q1, λx hx => q2 x (h2 x hx).1, by have h3' : e.2.length <= ps.length := h3; have q3' : ps.length <= qs.length := q3; omega⟩
def Low (G : Gr) (r : Str -> Nat) : Prop := ∀ e ∈ G, ∀ x ∈ e.2, r x < r e.1
theorem Vn {G : Gr} {r : Str -> Nat} (h : Low G r) : ∀ (n : Nat) (e : Str × List Str), e ∈ Nc n G -> n <= r e.1
 | 0, e, _ => Zz3 _
 | n + 1, e, he => by
  obtain ⟨ps, h1, h2, h3, _⟩ := Nd he
  obtain ⟨qs, q1, q2, _⟩ := Gk n h1
  cases hx : e.2 with
  | nil => exact absurd hx h3
  | cons x t =>
   have hm : x ∈ e.2 := by rw [hx]; exact Zzj
   obtain ⟨m1, m2⟩ := h2 x hm
   obtain ⟨y, hy, ey⟩ := Zzs.mp m2
   have lo := Vn h n y hy
   have lt := h _ q1 x (q2 x m1)
   rw [ey] at lo
   have lt : r x < r e.1 := lt
   omega
theorem Tc {G : Gr} {r : Str -> Nat} {n : Nat} (h : Low G r) (hr : ∀ e ∈ G, r e.1 < n) : Nc n G = [] := by
 cases hc : Nc n G with
 | nil => rfl
 | cons e t =>
  have he : e ∈ Nc n G := by rw [hc]; exact Zzj
  have h1 := Vn h n e he
  obtain ⟨ps, h2, _⟩ := Gk n he
  have h3 := hr _ h2
  have h3 : r e.1 < n := h3
  omega
def PDk (H : Hp) (kvs : List (Key × V)) (G : Gr) : Prop := Paired (λ(e : Str × List Str) (kv : Key × V) => kv.1 = .inr e.1 /\ ∃ l, kv.2 = .ref l /\ H l = some (.lst (e.2.map V.str))) G kvs
theorem PDk.mono {H H' : Hp} {kvs : List (Key × V)} {G : Gr} (h : PDk H kvs G) (k : ∀ l xs, H l = some (.lst xs) -> H' l = some (.lst xs)) : PDk H' kvs G :=
 Paired.mapP h λe kv ⟨h1, l, h2, h3⟩ => ⟨h1, l, h2, k l _ h3⟩
theorem PDk.keys : ∀ {H : Hp} {kvs : List (Key × V)} {G : Gr}, PDk H kvs G -> kvs.map (·.1) = (At G).map Zy2
 | _, _, _, .nil => rfl
 | _, _, _, .cons r t => by
  unfold At
  rw [Zzd, Zzd, Zzd, r.1]
  exact congrArg _ (PDk.keys t)
theorem PDk.get : ∀ {H : Hp} {kvs : List (Key × V)} {G : Gr} {i : Nat} {e : Str × List Str}, PDk H kvs G -> G[i]? = some e -> ∃ l, kvs[i]? = some (.inr e.1, .ref l) /\ H l = some (.lst (e.2.map V.str))
 | _, _, _, _, _, .nil, h => by simp at h
 | _, (k, v) :: _, _, 0, e, .cons r _, h => by
  simp at h
  subst h
  obtain ⟨h1, l, h2, h3⟩ := r
  have h1 : k = _ := h1
  have h2 : v = _ := h2
  exact ⟨l, by rw [h1, h2]; rfl, h3⟩
 | _, _ :: _, _, i + 1, e, .cons _ t, h => by
  obtain ⟨l, q⟩ := PDk.get (i := i) (e := e) t (by simpa using h)
  exact ⟨l, by simpa using q.1, q.2⟩
theorem PDk.get' : ∀ {H : Hp} {kvs : List (Key × V)} {G : Gr} {i : Nat} {k : Key} {v : V}, PDk H kvs G -> kvs[i]? = some (k, v) -> ∃ e l, G[i]? = some e /\ k = .inr e.1 /\ v = .ref l /\ H l = some (.lst (e.2.map V.str))
 | _, _, _, _, _, _, .nil, h => by simp at h
 | _, _, e :: _, 0, k, v, .cons r _, h => by
  simp at h
  subst h
  obtain ⟨h1, l, h2, h3⟩ := r
  exact ⟨e, l, rfl, h1, h2, h3⟩
 | _, _, _ :: _, i + 1, k, v, .cons _ t, h => by
  obtain ⟨e, l, q⟩ := PDk.get' (i := i) t (by simpa using h)
  exact ⟨e, l, by simpa using q.1, q.2⟩
theorem Ic {κ : Type} [DecidableEq κ] : ∀ {kvs : List (κ × V)} {i : Nat} {k : κ} {v : V}, (kvs.map (·.1)).Nodup -> kvs[i]? = some (k, v) -> B1 kvs k = some v
 | [], _, _, _, _, h => by simp at h
 | p :: r, 0, k, v, hn, h => by
  simp at h
  subst h
  exact C6 rfl
 | p :: r, i + 1, k, v, hn, h => by
  have h' : r[i]? = some (k, v) := by simpa using h
  have hn' : (p.1 :: r.map (·.1)).Nodup := hn
  obtain ⟨h1, h2⟩ := Zyj.mp hn'
  have hm : k ∈ r.map (·.1) := Zzs.mpr ⟨(k, v), Zzw h', rfl⟩
  rw [C1 (λe => h1 (e ▸ hm))]
  exact Ic h2 h'
theorem Y4 {κ : Type} [DecidableEq κ] (kvs : List (κ × V)) (k : κ) : (B1 kvs k).isSome = decide (k ∈ kvs.map (·.1)) := by
 rw [<- D1]
 induction kvs with
 | nil => rfl
 | cons p r ih =>
  rw [Zww, ih, Zzd]
  by_cases h : p.1 = k
  ·subst h; simp
  ·have h' : ¬ k = p.1 := λe => h e.symm
   simp [h, h']
theorem Xl {xs : List Str} (h : xs.Nodup) : (xs.map (Zy2 : Str -> Key)).Nodup := by
 induction xs with
 | nil => exact Zwc
 | cons x r ih =>
  obtain ⟨h1, h2⟩ := Zyj.mp h
  rw [Zzd]
  refine Zyj.mpr ⟨λm => ?_, ih h2⟩
  obtain ⟨y, hy, e⟩ := Zzs.mp m
  cases e
  exact h1 hy
theorem PDk.has {H : Hp} {kvs : List (Key × V)} {G : Gr} (h : PDk H kvs G) (x : Str) : (B1 kvs (.inr x)).isSome = decide (x ∈ At G) := by
 rw [Y4, h.keys]
 congr 1
 apply propext
 constructor
 ·intro m
  obtain ⟨y, hy, e⟩ := Zzs.mp m
  cases e
  exact hy
 ·exact λm => Zzs.mpr ⟨x, m, rfl⟩
theorem Mf {α β : Type} {F : α -> β -> Prop} : ∀ {a c : List α} {b d : List β}, Paired F a b -> Paired F c d -> Paired F (a ++ c) (b ++ d)
 | _, _, _, _, .nil, s => s
 | _, _, _, _, .cons r t, s => .cons r (Mf t s)
theorem PDk.snoc {H : Hp} {kvs : List (Key × V)} {G : Gr} {n : Str} {l : Addr} {ps : List Str} (h : PDk H kvs G) (hn : n ∉ At G) (hl : H l = some (.lst (ps.map V.str))) : PDk H (B8 kvs (.inr n) (.ref l)) (G ++ [(n, ps)]) := by
 have hv : B1 kvs (.inr n) = none := by
  have := h.has n
  rw [decide_eq_false hn] at this
  cases e : B1 kvs (.inr n) with
  | none => rfl
  | some v => rw [e] at this; cases this
 rw [Gv _ hv]
 exact Mf h (.cons ⟨rfl, l, rfl, hl⟩ .nil)
theorem PDk.len {H : Hp} {kvs : List (Key × V)} {G : Gr} (h : PDk H kvs G) : kvs.length = G.length := (Paired.length h).symm
end NP
namespace L2
open PySem PySem.Spec PyProof.Rows
section
variable {prog : Program} {w : World} {A : Around} {E : Value -> Shared -> Prop} {s : Shared}
end
section
variable {X : Cx}
end
theorem P4 {K : Zzv} : bq 2 (Xq K 2 (Fz (Dk 0) (Fz (Dk 1) gNil))) := λv Z H Q h => by
 obtain ⟨a, xs, e, hq, hl, v1, r1, e1, v2, r2, e2, e3, q⟩ := h
 exact ⟨a, xs, e, hq, hl, v1, r1, e1, v2, r2, e2, e3, ⟨⟨by simp, λj hj => by rw [Zxn (by omega), Zxn (by omega)]⟩, q⟩⟩
theorem gt3 {K : Zzv} {i j k : Nat} {p : Addr} {x y z : V} {Z : St} {H : Hp} {Q : St -> Hp -> Prop} (e : H p = some (.tup [x, y, z])) (h : Q (((Z.set i (some x)).set j (some y)).set k (some z)) H) :
  Xq K 3 (Fz (Dk i) (Fz (Dk j) (Fz (Dk k) gNil))) (.ref p) Z H Q := ⟨p, _, rfl, SqT.of e, rfl, _, _, rfl, _, _, rfl, _, _, rfl, rfl, h⟩
theorem mo {J : It} {n : Nat} {yl : Nat -> List V -> Prop} {ok : Hp -> Prop} {own : List Str} {cap : List Nat} {g : TG} {tt : TT} {te : TE} {Z : St} {H : Hp} {Q : VK} (G : Pl J n yl ok) (hn : n <= sizeLine) (Pv : Nat -> List V -> Hp -> Prop) (h0 : Pv 0 [] H) (hok : ∀ i acc H, i <= n -> Pv i acc H -> ok H)
  (hlen : ∀ i acc H, Pv i acc H -> acc.length <= i)
  (hs : ∀ i ys p acc H, i < n -> yl i ys -> Pv i acc H -> H p = none -> g (.ref p) (Hw own cap Z) (upd H p (.tup ys)) λσ2 H2 => tt σ2 H2 λb H3 => if b = true then te σ2 H3 λy H4 => Pv (i + 1) (acc ++ [y]) H4 else Pv (i + 1) acc H3)
  (hd : ∀ acc H, Pv n acc H -> ∀ p, H p = none -> Q (.ref p) (upd H p (.lst acc))) : NP.W6 J own cap g tt te Z H Q := by
 refine ⟨λi m acc H => m = n - i /\ i <= n /\ Pv i acc H, ⟨n, by simp, Zz3 _, h0⟩, ?_⟩
 rintro i m acc H ⟨rfl, hi, p⟩
 have q := hok i acc H hi p
 have hl := hlen i acc H p
 refine ⟨by omega, ?_⟩
 by_cases hlt : i < n
 ·refine .inr ⟨G.go i H hlt q, by omega, Pv (i + 1), λacc' H' p' => ⟨n - (i + 1), by omega, rfl, hlt, p'⟩, λx H' y => ?_⟩
  obtain ⟨a, ys, e1, e2, e3, y'⟩ := G.yld i H x H' hlt q y
  subst e1 e3
  exact hs i ys a acc H hlt y' p e2
 ·have e : i = n := by omega
  subst e
  exact .inl ⟨G.stop H q, hd acc H p⟩
theorem Nf {J : It} {n : Nat} {yl : Nat -> V -> Prop} {ok : Hp -> Prop} {own : List Str} {cap : List Nat} {g : TG} {tt : TT} {te : TE} {Z : St} {H : Hp} {Q : VK} (G : On J n yl ok) (hn : n <= sizeLine) (Pv : Nat -> List V -> Hp -> Prop) (h0 : Pv 0 [] H) (hok : ∀ i acc H, i <= n -> Pv i acc H -> ok H)
  (hlen : ∀ i acc H, Pv i acc H -> acc.length <= i)
  (hs : ∀ i x acc H, i < n -> yl i x -> Pv i acc H -> g x (Hw own cap Z) H λσ2 H2 => tt σ2 H2 λb H3 => if b = true then te σ2 H3 λy H4 => Pv (i + 1) (acc ++ [y]) H4 else Pv (i + 1) acc H3)
  (hd : ∀ acc H, Pv n acc H -> ∀ p, H p = none -> Q (.ref p) (upd H p (.lst acc))) : NP.W6 J own cap g tt te Z H Q := Pc G hn Pv h0 hok hlen hs hd
def Ir (ns : Nat -> Int) : Nat -> Int
 | 0 => ns 0
 | k + 1 => if ns (k + 1) > Ir ns k then ns (k + 1) else Ir ns k
section
variable {prog : Program} {w : World} {A : Around} {R : Result -> Shared -> Prop} {I : Addr} {fp wr : List Addr} {n : Nat} {P : Nat -> Value -> Prop} {St : Nat -> Heap -> Prop}
theorem gn {a b : Int} {t u : Tok} {Q : Value -> Shared -> Prop} {E : Value -> Shared -> Prop} {s : Shared} (h : Q (.bool (decide (b < a))) s) : wpAny (model prog w) A (richCompare .Gt (.int a t) (.int b u)) Q E s := show wpAny _ _ (compareOp .Gt _ _) _ _ _ from gt_int h
theorem Xa (kw : List (Str × Value)) (W : Walks prog w A.in1 I fp wr n P St) (ns : Nat -> Int) (hv : ∀ i v, P i v -> ∃ t, v = .int (ns i) t) (S : Addr) (hSf : S ∉ fp) :
  ∀ (k j : Nat) (s : Shared) (t : Tok) (c : Nat), n - (j + 1) = k -> j + 1 <= n -> St (j + 1) s.heap -> s.heap.get? S = some { cls := .type "list", dict := none, data := .seq #[.int (Ir ns j) t, .int (Ir ns j) t] c, slots := #[] } ->
  (∀ t' h' tk, (∀ b o, b ∉ wr -> b ≠ S -> s.heap.get? b = some o -> h'.get? b = some o) -> R (.ok (.ret (.int (Ir ns (n - 1)) t'))) { s with heap := h', toks := tk }) ->
  codeAny (model prog w) A (.builtin "max.loop" ⟨[.ref I, .none, .ref S], kw⟩) R s := by
 have nSw : S ∉ wr := λh => hSf (W.sub _ h)
 have nm : (toString "max" ++ toString ".loop" : String) = "max.loop" := by decide
 intro k
 induction k with
 | zero =>
  intro j s t c hk hj hst hS hR
  have hin : j + 1 = n := by omega
  refine codeAny_builtin F.entry_max_loop ?_
  rw [Zwq F.plain_max_loop _]
  refine wpAny_bind (m := seqItems? (.ref S)) (wpAny_seqItems hS rfl (wpAny_bind (m := tryCatch (pyNext (.ref I)) _) (wpAny_tryCatch (W.done s _ _ (hin ▸ hst) λh' tk hk' => ?_))))
  refine wpAny_bind (m := updateSeq S (λ_ => #[])) (wpAny_updateSeq (hk' S _ nSw hS) rfl (wpAny_bind (wpAny_letGo (wpAny_pure ?_))))
  have e : n - 1 = j := by omega
  rw [e] at hR
  exact hR t _ tk λb o n1 n2 q => (Zy7 _ _ (Zzf n2)).trans (hk' b o n1 q)
 | succ k ih =>
  intro j s t c hk hj hst hS hR
  have hlt : j + 1 < n := by omega
  refine codeAny_builtin F.entry_max_loop ?_
  rw [Zwq F.plain_max_loop _]
  refine wpAny_bind (m := seqItems? (.ref S)) (wpAny_seqItems hS rfl (wpAny_bind (m := tryCatch (pyNext (.ref I)) _) (wpAny_tryCatch (W.item (j + 1) s _ _ hlt hst λv h' tk hP hst' hk' => ?_))))
  obtain ⟨u, rfl⟩ := hv _ _ hP
  have hS' := hk' S _ nSw hS
  refine wpAny_bind (m := tryCatch (holding _ (richCompare .Gt _ _ >>= _)) _) (wpAny_tryCatch (wpAny_holding (wpAny_bind (gn (wpAny_bind (wpAny_holding (wpAny_truthy_bool (wpAny_bind (wpAny_letGo (wpAny_pure ?_))))))))))
  by_cases hb : Ir ns j < ns (j + 1)
  ·rw [decide_eq_true hb]
   simp only [if_true]
   refine wpAny_bind (wpAny_updateSeq hS' rfl (wpAny_bind (wpAny_letGo ?_)))
   rw [nm]
   have eb : Ir ns (j + 1) = ns (j + 1) := if_pos hb
   refine wpAny_pure ⟨plainId_quiet F.plain_max_loop _, ih (j + 1) _ u _ (by omega) hlt (W.frame _ _ _ hst' λb hbf o e => ?_) (by rw [eb]; exact Zxi _ hS' rfl) λt' h'' tk' hk2 => ?_⟩
   ·exact (Zy7 _ _ (λh : S = b => hSf (by rw [h]; exact hbf))).trans e
   ·exact hR t' h'' tk' λb o n1 n2 e => hk2 b o n1 n2 ((Zy7 _ _ (Zzf n2)).trans (hk' b o n1 e))
  ·rw [decide_eq_false hb]
   simp only [Bool.false_eq_true, if_false]
   refine wpAny_bind (wpAny_letGo ?_)
   rw [nm]
   have eb : Ir ns (j + 1) = Ir ns j := if_neg hb
   refine wpAny_pure ⟨plainId_quiet F.plain_max_loop _, ih (j + 1) _ t c (by omega) hlt hst' (by rw [eb]; exact hS') λt' h'' tk' hk2 => ?_⟩
   exact hR t' h'' tk' λb o n1 n2 e => hk2 b o n1 n2 (hk' b o n1 e)
theorem Mr (kw : List (Str × Value)) (W : Walks prog w A.in1 I fp wr n P St) (ns : Nat -> Int) (hv : ∀ i v, P i v -> ∃ t, v = .int (ns i) t) (S : Addr) (hSf : S ∉ fp) (hn : 0 < n) {s : Shared} {c : Nat} (hst : St 0 s.heap)
  (hS : s.heap.get? S = some { cls := .type "list", dict := none, data := .seq #[] c, slots := #[] })
  (hR : ∀ t' h' tk, (∀ b o, b ∉ wr -> b ≠ S -> s.heap.get? b = some o -> h'.get? b = some o) -> R (.ok (.ret (.int (Ir ns (n - 1)) t'))) { s with heap := h', toks := tk }) :
  codeAny (model prog w) A (.builtin "max.loop" ⟨[.ref I, .none, .ref S], kw⟩) R s := by
 have nSw : S ∉ wr := λh => hSf (W.sub _ h)
 have nm : (toString "max" ++ toString ".loop" : String) = "max.loop" := by decide
 refine codeAny_builtin F.entry_max_loop ?_
 rw [Zwq F.plain_max_loop _]
 refine wpAny_bind (m := seqItems? (.ref S)) (wpAny_seqItems hS rfl (wpAny_bind (m := tryCatch (pyNext (.ref I)) _) (wpAny_tryCatch (W.item 0 s _ _ hn hst λv h' tk hP hst' hk' => ?_))))
 obtain ⟨u, rfl⟩ := hv _ _ hP
 have hS' := hk' S _ nSw hS
 refine wpAny_bind (m := updateSeq S _) (wpAny_updateSeq hS' rfl ?_)
 rw [nm]
 refine wpAny_pure ⟨plainId_quiet F.plain_max_loop _, Xa kw W ns hv S hSf _ 0 _ u _ rfl hn (W.frame _ _ _ hst' λb hbf o e => ?_) (Zxi _ hS' rfl) λt' h'' tk' hk2 => ?_⟩
 ·exact (Zy7 _ _ (λh : S = b => hSf (by rw [h]; exact hbf))).trans e
 ·exact hR t' h'' tk' λb o n1 n2 e => hk2 b o n1 n2 ((Zy7 _ _ (Zzf n2)).trans (hk' b o n1 e))
theorem X9 {d : Value} (W : Walks prog w A.in1 I fp wr 0 P St) (S : Addr) (hSf : S ∉ fp) {s : Shared} {c : Nat} (hst : St 0 s.heap)
  (hS : s.heap.get? S = some { cls := .type "list", dict := none, data := .seq #[] c, slots := #[] })
  (hR : ∀ h' tk, (∀ b o, b ∉ wr -> b ≠ S -> s.heap.get? b = some o -> h'.get? b = some o) -> R (.ok (.ret d)) { s with heap := h', toks := tk }) :
  codeAny (model prog w) A (.builtin "max.loop" ⟨[.ref I, .none, .ref S], [("default", d)]⟩) R s := by
 refine codeAny_builtin F.entry_max_loop ?_
 rw [Zwq F.plain_max_loop _]
 refine wpAny_bind (m := seqItems? (.ref S)) (wpAny_seqItems hS rfl (wpAny_bind (m := tryCatch (pyNext (.ref I)) _) (wpAny_tryCatch (W.done s _ _ hst λh' tk hk' => ?_))))
 exact wpAny_bind (wpAny_rule (wpAny_pure (hR h' tk λb o n1 _ e => hk' b o n1 e)))
end
def O0 (ns : List Int) : Int := Ir (λi => (ns[i]?).getD 0) (ns.length - 1)
def E6 (ns : List Int) : Int := if ns = [] then 0 else O0 ns
theorem Tj (f : Nat -> Int) : ∀ k, ∃ i, i <= k /\ Ir f k = f i
 | 0 => ⟨0, Zzt _, rfl⟩
 | k + 1 => by
  rw [Ir]
  split
  ·exact ⟨k + 1, Zzt _, rfl⟩
  ·obtain ⟨i, h1, h2⟩ := Tj f k
   exact ⟨i, by omega, h2⟩
theorem W0 (f : Nat -> Int) : ∀ k i, i <= k -> f i <= Ir f k
 | 0, i, h => by
  have : i = 0 := by omega
  subst this
  exact Zz0 _
 | k + 1, i, h => by
  rw [Ir]
  by_cases hi : i = k + 1
  ·subst hi
   split <;> omega
  ·have := W0 f k i (by omega)
   split <;> omega
theorem Jj {ns : List Int} (h : ns ≠ []) : O0 ns ∈ ns := by
 have hl : 0 < ns.length := Zvu.mpr h
 obtain ⟨i, h1, h2⟩ := Tj (λi => (ns[i]?).getD 0) (ns.length - 1)
 unfold O0
 rw [h2]
 have hi : i < ns.length := by omega
 simp only [Zzr hi, Option.getD_some]
 exact Zw3 hi
theorem Vl {ns : List Int} {x : Int} (h : x ∈ ns) : x <= O0 ns := by
 obtain ⟨i, hi, e⟩ := Zvx.mp h
 have := W0 (λi => (ns[i]?).getD 0) (ns.length - 1) i (by omega)
 simp only [Zzr hi, Option.getD_some, e] at this
 exact this
theorem Xy (a d : Value) : argsOk "max" ⟨[a], [(Str.ofString "default", d)]⟩ := by unfold argsOk; kernel_rfl
section
variable {X : Cx}
theorem Zc {pins : List (Addr × Obj)} {Z : St} {H : Hp} {s : Shared} {a : Addr} {ns : List Int} {Q : VK} {E : Value -> Shared -> Prop} {kw : List (Str × Value)} (hc : X.calm = true) (I : Inv X pins Z H s) (ha : H a = some (.lst (ns.map V.int))) (hn : ns ≠ []) (q : Q (.int (O0 ns)) H) :
  codeAny (model X.prog X.w) X.A (.builtin "max.loop" ⟨[.ref s.heap.objs.size, .none, .ref (s.heap.objs.size + 1)], kw⟩) (λr s' => match r with | .ok (.ret v) => EP X pins Z Q v s' | .ok _ => False | .error e => E e s')
   { s with heap := (s.heap.push { cls := .type "list_iterator", data := .fields #[.ref a, .int 0 0] }).push { cls := .type "list", data := .seq #[] } } := by
 obtain ⟨its, rv, hl, hlt⟩ := Av I ha
 have hlen : its.length = ns.length := by have := rv.length; rw [Zzz] at this; exact this.symm
 have sz : (s.heap.push { cls := .type "list_iterator", data := .fields #[.ref a, .int 0 0] }).objs.size = s.heap.objs.size + 1 := Zxy ..
 have gI : ((s.heap.push { cls := .type "list_iterator", data := .fields #[.ref a, .int 0 0] }).push { cls := .type "list", data := .seq #[] }).get? s.heap.objs.size = some { cls := .type "list_iterator", data := .fields #[.ref a, .int 0 0] } := Zzy _ (Zzi _ rfl)
 have gS : ((s.heap.push { cls := .type "list_iterator", data := .fields #[.ref a, .int 0 0] }).push { cls := .type "list", data := .seq #[] }).get? (s.heap.objs.size + 1) = some { cls := .type "list", data := .seq #[] } := by
  have := Zzi (s.heap.push { cls := .type "list_iterator", data := .fields #[.ref a, .int 0 0] }) (o := { cls := .type "list", data := .seq #[] }) rfl
  rw [sz] at this
  exact this
 have hpos : 0 < its.toArray.size := by rw [Zzp, hlen]; exact Zvu.mpr hn
 have nS : (s.heap.objs.size + 1 : Addr) ∉ [s.heap.objs.size, a] := by
  simp only [Zzo, Zz5, or_false, not_or]
  exact ⟨Zwr _, Zxg (Zxa hlt)⟩
 refine Mr kw (Walks.list (prog := X.prog) (w := X.w) (A := X.A.in1) (I.ok.hd hc) s.heap.objs.size a (Zyy hlt) its.toArray) (λi => (ns[i]?).getD 0) (λi v hP => Ro rv (by simpa using hP)) (s.heap.objs.size + 1) nS hpos ⟨⟨_, gI, rfl, rfl⟩, (hl.push _).push _⟩ gS λt' h' tk hk => ?_
 rw [Zzp, hlen]
 refine ⟨.int (O0 ns), H, I.kept λb o e => hk b o ?_ ?_ (Zzy _ (Zzy _ e)), ⟨_, rfl⟩, q⟩
 ·simp only [Zzo, Zz5, or_false]
  exact Zyy (Zzl e)
 ·exact Zyy (Zxa (Zzl e))
def iy (te : TE) : TE := λZ H Q => te Z H λx H1 => ∃ a ns, x = .ref a /\ H1 a = some (.lst (ns.map V.int)) /\ Q (.int (E6 ns)) H1
theorem Ve {e : Expr} {te : TE} {p1 p2 p3 kp : Pos} {j} (hc : X.calm = true) (hg : Gl X "max") (hm : X.mg "max" = none) (he : PE X e te) (hn : By [e] = true := by rfl) :
  PE X (.Call (.Name "max" p1) [e] [⟨some "default", .Constant (.int 0) j p3, kp⟩] p2) (iy te) := by
 intro pins s Z H Q I h
 refine wpAny_Call_Name_kw (E9 I hg hm NP.Rj ?_ (by decide) (by decide))
 refine callWith_kw (thn ((A4 he A1 hn) p2 pins s Z H (λvs H1 => match vs with | [x] => ∃ a ns, x = .ref a /\ H1 a = some (.lst (ns.map V.int)) /\ Q (.int (E6 ns)) H1 | _ => False) I h) λus s1 ⟨vs, H1, I1, r1, hv⟩ => kws_cons (wpAny_Constant_int (kws_nil ?_))) ?_ ?_ rfl rfl
 ·match vs, hv, r1 with
  | [x], ⟨a, ns, ea, ha, q⟩, r1 =>
  subst ea
  obtain ⟨u, rfl, ru⟩ := Eu r1
  cases ru
  have I2 := I1.tok (s1.toks + 1)
  obtain ⟨its, rv, hl, hlt⟩ := Av I2 ha
  have nm : (toString "max" ++ toString ".loop" : String) = "max.loop" := by decide
  have sz : (s1.heap.push { cls := .type "list_iterator", data := .fields #[.ref a, .int 0 0] }).objs.size = s1.heap.objs.size + 1 := Zxy ..
  refine kmk_tree F.kind_max F.plain_max F.entry_max (Xy _ _) ?_
  refine wpAny_bind (m := Zx3 "max" ["key", "default"] 0 ⟨[], [(Str.ofString "default", .int 0 s1.toks)]⟩) (wpAny_of_eq (show Zx3 "max" ["key", "default"] 0 ⟨[], [(Str.ofString "default", .int 0 s1.toks)]⟩ = pure [none, some (.int 0 s1.toks)] from rfl) (wpAny_bind (wpAny_pure (wpAny_bind (wpAny_pyIter_list hl (wpAny_bind (wpAny_newObj_type ?_)))))))
  rw [nm]
  refine wpAny_pure ⟨plainId_quiet F.plain_max_loop _, ?_⟩
  by_cases hz : ns = []
  ·subst hz
   have gI : ((s1.heap.push { cls := .type "list_iterator", data := .fields #[.ref a, .int 0 0] }).push { cls := .type "list", data := .seq #[] }).get? s1.heap.objs.size = some { cls := .type "list_iterator", data := .fields #[.ref a, .int 0 0] } := Zzy _ (Zzi _ rfl)
   have gS : ((s1.heap.push { cls := .type "list_iterator", data := .fields #[.ref a, .int 0 0] }).push { cls := .type "list", data := .seq #[] }).get? (s1.heap.push { cls := .type "list_iterator", data := .fields #[.ref a, .int 0 0] }).objs.size = some { cls := .type "list", data := .seq #[] } := Zzi _ rfl
   have e0 : its = [] := by cases rv; rfl
   subst e0
   have nS : (s1.heap.push { cls := .type "list_iterator", data := .fields #[.ref a, .int 0 0] }).objs.size ∉ [s1.heap.objs.size, a] := by
    rw [sz]
    simp only [Zzo, Zz5, or_false, not_or]
    exact ⟨Zwr _, Zxg (Zxa hlt)⟩
   refine X9 (Walks.list (prog := X.prog) (w := X.w) (A := X.A.in1) (I.ok.hd hc) s1.heap.objs.size a (Zyy hlt) ([] : List Value).toArray) _ nS ⟨⟨_, gI, rfl, rfl⟩, (hl.push _).push _⟩ gS λh' tk hk => ?_
   refine ⟨.int 0, H1, I1.kept λb o e => hk b o ?_ ?_ (Zzy _ (Zzy _ e)), ⟨_, rfl⟩, q⟩
   ·simp only [Zzo, Zz5, or_false]
    exact Zyy (Zzl e)
   ·rw [sz]
    exact Zyy (Zxa (Zzl e))
  ·have q' : Q (.int (O0 ns)) H1 := by unfold E6 at q; rw [if_neg hz] at q; exact q
   have := Zc (E := X.xe) (kw := [("default", .int 0 s1.toks)]) hc I2 ha hz q'
   rw [<- sz] at this
   exact this
 ·rw [C2 hn]; rfl
 ·exact Cf hn
end
section
variable {X : Cx}
def rGetL : V -> V -> Hp -> VK -> Prop := λo i H Q => ∃ p xs k v, o = .ref p /\ i = .int k /\ H p = some (.lst xs) /\ 0 <= k /\ xs[k.toNat]? = some v /\ Q v H
theorem Jo : rh X rGetL := by
 intro pins s Z H o i ov iv Q I ro ri h
 obtain ⟨p, xs, k, v, rfl, rfl, hp, h0, hv, q⟩ := h
 cases ro
 obtain ⟨t, rfl⟩ := ri
 obtain ⟨its, rv, hl, hlt⟩ := Av I hp
 obtain ⟨u, hu, ru⟩ := rv.get hv
 have hlen := rv.length
 obtain ⟨hz, _⟩ := I.hok p _ hp
 have hk : k.toNat < xs.length := (Zzh.mp hv).1
 have h63 := Gy
 exact wpAny_getItem_list hl h0 (by omega) (by simpa using hu) ⟨v, H, I, ru, q⟩
end
end L2
namespace NP
open PySem L2
def Au (n : Nat) (f : Nat -> Int) : List Int := (Zz9 n).map f
theorem An (n : Nat) (f : Nat -> Int) : (Au n f).length = n := by simp [Au]
theorem Bi {n : Nat} {f : Nat -> Int} {i : Nat} (h : i < n) : (Au n f)[i]? = some (f i) := by simp [Au, h]
theorem Cc {n : Nat} {f : Nat -> Int} {i : Nat} (h : i < n) : (Au n f).getD i 0 = f i := by rw [Zzg, Bi h]; rfl
theorem Ch {n : Nat} {f g : Nat -> Int} (h : ∀ i, i < n -> f i = g i) : Au n f = Au n g := by
 apply Zxb
 intro i
 by_cases hi : i < n
 ·rw [Bi hi, Bi hi, h i hi]
 ·rw [Zyv (by rw [An]; omega), Zyv (by rw [An]; omega)]
theorem K6 {n : Nat} {f : Nat -> Int} {j : Nat} {v : Int} : (Au n f).set j v = Au n λd => if d = j then v else f d := by
 apply Zxb
 intro i
 by_cases hi : i < n
 ·rw [Bi hi]
  by_cases hj : j = i
  ·subst hj
   rw [Zx7 (by rw [An]; exact hi), if_pos rfl]
  ·rw [Zxn hj, Bi hi, if_neg (λe => hj e.symm)]
 ·rw [Zyv (by rw [Zx1, An]; omega), Zyv (by rw [An]; omega)]
theorem Ii (n : Nat) (f : Nat -> Int) : Au (n + 1) f = Au n f ++ [f n] := by
 unfold Au
 rw [Zyg, Zzm]
 rfl
theorem M6 (k : Nat) : (Zyq k [V.int 0]).flatten = (Au k λ_ => 0).map V.int := by
 induction k with
 | zero => rfl
 | succ k ih =>
  rw [List.replicate_succ', List.flatten_append, ih, Ii, Zzm]
  rfl
def Bu {α : Type} (f : α -> Int) (xs : List α) : Int := (xs.map f).sum
theorem Iw {α : Type} (f : α -> Int) : Bu f [] = 0 := rfl
theorem Yj {α : Type} (f : α -> Int) (xs ys : List α) : Bu f (xs ++ ys) = Bu f xs + Bu f ys := by unfold Bu; rw [Zzm, Zxd]
theorem Yi {α : Type} (f : α -> Int) (x : α) : Bu f [x] = f x := by simp [Bu]
theorem Ft {α : Type} (f : α -> Int) (x : α) (xs : List α) : Bu f (x :: xs) = f x + Bu f xs := by simp [Bu]
theorem Dq {α : Type} (f : α -> Int) {xs : List α} {i : Nat} {x : α} (h : xs[i]? = some x) : Bu f (xs.take (i + 1)) = Bu f (xs.take i) + f x := by
 rw [Zz8, h, Yj]
 rw [show (some x).toList = [x] from rfl, Yi]
theorem K4 {α : Type} {f : α -> Int} {xs : List α} (h : ∀ x ∈ xs, f x = 0) : Bu f xs = 0 := by
 induction xs with
 | nil => rfl
 | cons x r ih => rw [Ft, h x Zzj, ih λy hy => h y (Zzk _ hy)]; rfl
theorem G2 {α : Type} {f g : α -> Int} {xs : List α} (h : ∀ x ∈ xs, f x = g x) : Bu f xs = Bu g xs := by
 induction xs with
 | nil => rfl
 | cons x r ih => rw [Ft, Ft, h x Zzj, ih λy hy => h y (Zzk _ hy)]
def daysN (S : Sh) : Nat := (1 + E6 (S.wants.map λu => u.2.1)).toNat
theorem Lo {ns : List Int} (h : ∀ x ∈ ns, 0 <= x) : 0 <= E6 ns := by
 unfold E6
 split
 ·exact Zz0 _
 ·rename_i hn
  exact h _ (Jj hn)
theorem Qs {ns : List Int} {x : Int} (h : x ∈ ns) : x <= E6 ns := by
 unfold E6
 rw [if_neg (List.ne_nil_of_mem h)]
 exact Vl h
theorem Qr {ns : List Int} {b : Int} (hb : 0 < b) (h : ∀ x ∈ ns, x < b) : E6 ns < b := by
 unfold E6
 split
 ·exact hb
 ·rename_i hn
  exact h _ (Jj hn)
def wAt (nm : Str) (d : Nat) (u : Wt) : Int := if u.1 = nm /\ u.2.1 = (d : Int) then u.2.2 else 0
def cAt (d : Nat) (p : Int × Int) : Int := if p.1 = (d : Int) then p.2 else 0
def bAt (lots : List Int) (lag : Int) (d : Nat) : Int := if d + lag.toNat < lots.length then lots.getD (d + lag.toNat) 0 else 0
def Ax (lots : List Int) (lag : Int) : List Int := Au lots.length (bAt lots lag)
theorem ay (lots : List Int) (lag : Int) : lots.drop lag.toNat ++ Au (min lag.toNat lots.length) (λ_ => 0) = Ax lots lag := by
 unfold Ax bAt
 apply Zxb
 intro i
 by_cases hi : i < lots.length
 ·rw [Bi hi]
  by_cases h : i + lag.toNat < lots.length
  ·rw [if_pos h, Zy6 (by rw [Zxs]; omega), List.getElem?_drop, Nat.add_comm lag.toNat i, Zzr h, Zzg, Zzr h]
   rfl
  ·rw [if_neg h, Zyk (by rw [Zxs]; omega), Zxs, Bi (by omega)]
 ·rw [Zyv (by rw [Zze, Zxs, An]; omega), Zyv (by rw [An]; omega)]
def pAt (plan : Str -> List Int) (nm : Str) (d : Nat) (w : Wr) : Int := Bu (λp : Str × Int => if p.1 = nm then p.2 * bAt (plan w.name) w.lag d else 0) w.parts
def C8 (S : Sh) (plan : Str -> List Int) (nm : Str) (d : Nat) : Int := Bu (wAt nm d) S.wants + Bu (pAt plan nm d) S.wares
def B4 (S : Sh) (plan : Str -> List Int) (nm : Str) : List Int := Au (daysN S) (C8 S plan nm)
def Cb (w : Wr) (d : Nat) : Int := (if d = 0 then w.stock else 0) + Bu (cAt d) w.coming
def i0 (S : Sh) (plan : Str -> List Int) (w : Wr) (d : Nat) : Int := Cb w d + w.gives * (plan w.name).getD d 0 - C8 S plan w.name d
def upS (f : Nat -> Int) : Nat -> Int
 | 0 => 0
 | d + 1 => upS f d + f d
def E2 (S : Sh) (plan : Str -> List Int) (w : Wr) : List Int := Au (daysN S) λd => upS (i0 S plan w) (d + 1)
end NP
namespace L2
open PySem PySem.Spec PyProof.Rows
theorem j9 {κ : Type} : ∀ {kvs : List (κ × V)} {vs : List (κ × Value)} {i : Nat} {k : κ} {v : V}, KV kvs vs -> kvs[i]? = some (k, v) -> ∃ u, vs[i]? = some (k, u) /\ RelV v u
 | _, _, _, _, _, .nil, e => by simp at e
 | _, (k', u') :: _, 0, k, v, .cons r _, e => by
  simp at e
  subst e
  exact ⟨u', by simp; exact r.1.symm, r.2⟩
 | _, _ :: _, i + 1, k, v, .cons _ t, e => by
  obtain ⟨u, h, q⟩ := j9 (i := i) t (by simpa using e)
  exact ⟨u, by simpa using h, q⟩
section
variable {X : Cx}
def bj (H : Hp) (ka kb : List (Key × V)) : Prop := ∀ p ∈ ka, ∃ y d e, B1 kb p.1 = some y /\ RD H d p.2 /\ RD H e y /\ okD d = true /\ okD e = true /\ PyData.eqv d e = true
def rNeK : R2 := λx y H Q => ∃ a b ka kb, x = .ref a /\ y = .ref b /\ Rd H a (.dK ka) /\ Rd H b (.dK kb) /\ ka.length = kb.length /\ bj H ka kb /\ Q (.bl false) H
theorem Oy {A : Around} {s : Shared} {P : Program} {w : World} {H : Hp} (ok : HOk P w H s.heap) (hu : A.units + 64 < cLine) {kb : List (Key × V)} {vb : List (Key × Value)} (rb : KV kb vb) : ∀ {ka : List (Key × V)} {va : List (Key × Value)}, KV ka va -> bj H ka kb -> PySem.W.KeqHits A s vb va true
 | _, _, .nil, _ => .nil
 | (k, v) :: ka, (k', v') :: va, .cons r t, h => by
  obtain ⟨y, d, e, hy, rd, re, od, oe, q⟩ := h (k, v) Zzj
  obtain ⟨ek, rv⟩ := r
  have ek : k = k' := ek
  subst ek
  have hval := rb.val k
  rw [hy] at hval
  cases hx : valueAt vb k with
  | none => rw [hx] at hval; exact hval.elim
  | some u =>
   rw [hx] at hval
   obtain ⟨as, r1⟩ := RD.reads ok d v v' rd rv
   obtain ⟨bs, r2⟩ := RD.reads ok e y u re hval
   have E := SeqAt.eqAt_reads d e A s v' u as bs r1 r2 (Zxm.mp od).1 (Zxm.mp oe).1 (Mm od hu)
   rw [q] at E
   exact PySem.W.KeqHits.hit (e := true) (b := true) hx E (Oy ok hu rb t λp hp => h p (Zzk _ hp))
theorem km (hu : X.A.units + 70 < cLine) : OpR X (compareOp .NotEq) rNeK := by
 intro pins s Z H x y v u Q I rx ry h
 obtain ⟨a, b, ka, kb, rfl, rfl, ha, hb, hl, lk, q⟩ := h
 cases rx
 cases ry
 obtain ⟨za, na, va, ra, da⟩ := Gp I.hok ha
 obtain ⟨zb, nb, vb, rb, db⟩ := Gp I.hok hb
 have l2 : va.length = vb.length := by rw [<- ra.length, <- rb.length]; exact hl
 refine PySem.W.keq_ne (r := true) na nb da db (by omega) (λ_ => Oy I.hok (by show X.A.units + 1 + 64 < cLine; omega) rb ra lk) ?_
 rw [l2]
 simp only [BEq.rfl, Bool.and_self, Bool.not_true]
 exact ⟨.bl false, H, I, rfl, q⟩
end
theorem gm {A : Around} {k : Nat} (hr : Room k A) : A.units + 70 < cLine := by
 have := hr.un
 omega
end L2
namespace L2
open PySem PySem.Spec PyProof.Rows PySem.W NP
def D2 (n : Nat) (key : Nat -> Int) {α : Type} : KasT α -> (α -> Prop) -> Prop
 | .ret a, Q => Q a
 | .ask i j k, Q => i < n /\ j < n /\ D2 n key (k (decide (key i < key j))) Q
theorem Ds {n : Nat} {key : Nat -> Int} {α β : Type} {f : α -> KasT β} {Q : β -> Prop} : ∀ {t : KasT α}, D2 n key t (λa => D2 n key (f a) Q) -> D2 n key (t.bind f) Q
 | .ret _, h => h
 | .ask _ _ _, ⟨h1, h2, h3⟩ => ⟨h1, h2, Ds h3⟩
theorem D8 {n : Nat} {key : Nat -> Int} {α : Type} {Q Q' : α -> Prop} (hq : ∀ a, Q a -> Q' a) : ∀ {t : KasT α}, D2 n key t Q -> D2 n key t Q'
 | .ret _, h => hq _ h
 | .ask _ _ _, ⟨h1, h2, h3⟩ => ⟨h1, h2, D8 hq h3⟩
def klt (key : Nat -> Int) (a b : Nat) : Prop := key a < key b \/ (key a = key b /\ a < b)
theorem Xf {key : Nat -> Int} {a b c : Nat} (h1 : klt key a b) (h2 : klt key b c) : klt key a c := by unfold klt at *; omega
theorem Qu {key : Nat -> Int} {a b : Nat} (h : klt key a b) : key a <= key b := by unfold klt at h; omega
section
variable {n : Nat} {key : Nat -> Int}
abbrev pat (p : Array Nat) (k : Nat) : Nat := p.getD k 0
theorem Q9 {p : Array Nat} {i j : Nat} (hj : j <= p.size) (k : Nat) : pat (kas_rev p i j) k = if i <= k /\ k < j then pat p (i + j - 1 - k) else pat p k := by
 have e := getElem?_mirror_all (i := i) hj k
 unfold pat kas_rev
 rw [Zyr, e]
 by_cases h1 : i <= k /\ k < j
 ·rw [if_pos h1, if_pos h1, Zyr]
 ·rw [if_neg h1, if_neg h1, Zyr]
theorem dz {p : Array Nat} {src d : Nat} (hs : src < p.size) (hd : d <= src) (k : Nat) : pat (bubble p src d) k = if k = src - d then pat p src else if src - d < k /\ k <= src then pat p (k - 1) else pat p k := by
 have e := getElem?_bubble hs d hd k
 unfold pat
 rw [Zyr, e]
 by_cases h1 : k = src - d
 ·rw [if_pos h1, if_pos h1, Zyr]
 ·rw [if_neg h1, if_neg h1]
  by_cases h2 : src - d < k /\ k <= src
  ·rw [if_pos h2, if_pos h2, Zyr]
  ·rw [if_neg h2, if_neg h2, Zyr]
theorem M4 (p : Array Nat) (i j : Nat) : (kas_rev p i j).size = p.size := mirror_size _ _ _ _
theorem M5 (p : Array Nat) (i j : Nat) : (kas_rev p i j).toList.Perm p.toList := Array.perm_iff_toList_perm.mp (mirror_perm _ _ _ _)
structure Srt (n : Nat) (key : Nat -> Int) (p : Array Nat) (m : Nat) : Prop where
 sz : p.size = n
 pm : p.toList.Perm (Zz9 n)
 up : ∀ i j, i < j -> j < m -> klt key (pat p i) (pat p j)
 fix : ∀ k, m <= k -> k < n -> pat p k = k
 low : ∀ k, k < m -> pat p k < m
theorem Srt.lt {p : Array Nat} {m : Nat} (h : Srt n key p m) {k : Nat} (hm : m <= n) (hk : k < n) : pat p k < n := by
 by_cases z : k < m
 ·have := h.low k z; omega
 ·rw [h.fix k (by omega) hk]; exact hk
theorem Uw : ∀ (f : Nat) {p : Array Nat} {m : Nat}, Srt n key p m -> 1 <= m -> m + f = n -> D2 n key (kas_asc p f m) λm' => m <= m' /\ m' <= n /\ Srt n key p m' /\ (m' < n -> key (pat p m') < key (pat p (m' - 1)))
 | 0, p, m, h, h1, h2 => ⟨Zzt _, by omega, h, λz => by omega⟩
 | f + 1, p, m, h, h1, h2 => by
  refine ⟨h.lt (by omega) (by omega), h.lt (by omega) (by omega), ?_⟩
  show D2 n key (if decide (key (pat p m) < key (pat p (m - 1))) = true then _ else _) _
  by_cases c : key (pat p m) < key (pat p (m - 1))
  ·rw [decide_eq_true c, if_pos rfl]
   exact ⟨Zzt _, by omega, h, λ_ => c⟩
  ·rw [decide_eq_false c, if_neg (by decide)]
   have e := h.fix m (Zzt _) (by omega)
   have h' : Srt n key p (m + 1) := ⟨h.sz, h.pm, λi j hij hj => by
     by_cases z : j < m
     ·exact h.up i j hij z
     ·have ej : j = m := by omega
      subst ej
      have l1 : klt key (pat p (j - 1)) (pat p j) := by
       have := h.low (j - 1) (by omega)
       unfold klt
       rw [e] at c ⊢
       omega
      by_cases y : i = j - 1
      ·rw [y]; exact l1
      ·exact Xf (h.up i (j - 1) (by omega) (by omega)) l1, λk hk hkn => h.fix k (by omega) hkn, λk hk => by
     by_cases z : k < m
     ·have := h.low k z; omega
     ·have ek : k = m := by omega
      rw [ek, e]; omega⟩
   exact D8 (λa ⟨a1, a2, a3, a4⟩ => ⟨by omega, a2, a3, a4⟩) (Uw f h' (by omega) (by omega))
structure Fal (n : Nat) (key : Nat -> Int) (p : Array Nat) (m q : Nat) : Prop where
 sz : p.size = n
 pm : p.toList.Perm (Zz9 n)
 q1 : q + 1 <= m
 m1 : m <= n
 dn : ∀ i j, i < j -> j < m - (q + 1) -> klt key (pat p j) (pat p i)
 fix : ∀ k, m - (q + 1) <= k -> k < n -> pat p k = k
 low : ∀ k, k < m - (q + 1) -> pat p k < m - (q + 1)
 cr : ∀ i, i < m - (q + 1) -> key (m - 1) < key (pat p i)
 eq : ∀ k, m - (q + 1) <= k -> k < m -> key k = key (m - 1)
structure Dwn (n : Nat) (key : Nat -> Int) (p : Array Nat) (m : Nat) : Prop where
 sz : p.size = n
 pm : p.toList.Perm (Zz9 n)
 dn : ∀ i j, i < j -> j < m -> klt key (pat p j) (pat p i)
 fix : ∀ k, m <= k -> k < n -> pat p k = k
 low : ∀ k, k < m -> pat p k < m
 last : ∀ i, i < m -> key (m - 1) <= key (pat p i)
theorem Fal.turn {p : Array Nat} {m q : Nat} (h : Fal n key p m q) : Dwn n key (kas_rev p (m - (q + 1)) m) m := by
 have hm := h.m1
 have h1 := h.q1
 have pr := λk => Q9 (p := p) (i := m - (q + 1)) (j := m) (by rw [h.sz]; exact hm) k
 refine ⟨by rw [M4, h.sz], (M5 _ _ _).trans h.pm, λi j hij hj => ?_, λk hk hkn => ?_, λk hk => ?_, λi hi => ?_⟩
 ·have vi1 : m - (q + 1) <= i -> pat (kas_rev p (m - (q + 1)) m) i = m - (q + 1) + m - 1 - i := λa => by rw [pr i, if_pos ⟨a, by omega⟩]; exact h.fix _ (by omega) (by omega)
  have vi2 : ¬ m - (q + 1) <= i -> pat (kas_rev p (m - (q + 1)) m) i = pat p i := λa => by rw [pr i, if_neg (λz => a z.1)]
  have vj1 : m - (q + 1) <= j -> pat (kas_rev p (m - (q + 1)) m) j = m - (q + 1) + m - 1 - j := λa => by rw [pr j, if_pos ⟨a, hj⟩]; exact h.fix _ (by omega) (by omega)
  have vj2 : ¬ m - (q + 1) <= j -> pat (kas_rev p (m - (q + 1)) m) j = pat p j := λa => by rw [pr j, if_neg (λz => a z.1)]
  by_cases a : m - (q + 1) <= i
  ·rw [vi1 a, vj1 (by omega)]
   have e1 := h.eq (m - (q + 1) + m - 1 - i) (by omega) (by omega)
   have e2 := h.eq (m - (q + 1) + m - 1 - j) (by omega) (by omega)
   unfold klt
   omega
  ·rw [vi2 a]
   by_cases b : m - (q + 1) <= j
   ·rw [vj1 b]
    have e2 := h.eq (m - (q + 1) + m - 1 - j) (by omega) (by omega)
    have e3 := h.cr i (by omega)
    unfold klt
    omega
   ·rw [vj2 b]
    exact h.dn i j hij (by omega)
 ·rw [pr k, if_neg (by omega)]
  exact h.fix k (by omega) hkn
 ·rw [pr k]
  split
  ·rw [h.fix _ (by omega) (by omega)]; omega
  ·have := h.low k (by omega); omega
 ·rw [pr i]
  split
  ·rw [h.fix _ (by omega) (by omega)]
   have := h.eq (m - (q + 1) + m - 1 - i) (by omega) (by omega)
   omega
  ·have := h.cr i (by omega); omega
theorem Fal.one {p : Array Nat} {m : Nat} (h : Fal n key p m 0) : Dwn n key p m := by
 have hm := h.m1
 have h1 := h.q1
 have e := h.fix (m - 1) (by omega) (by omega)
 refine ⟨h.sz, h.pm, λi j hij hj => ?_, λk hk hkn => h.fix k (by omega) hkn, λk hk => ?_, λi hi => ?_⟩
 ·by_cases z : j = m - 1
  ·rw [z, e]
   have := h.cr i (by omega)
   exact .inl this
  ·exact h.dn i j hij (by omega)
 ·by_cases z : k = m - 1
  ·rw [z, e]; omega
  ·have := h.low k (by omega); omega
 ·by_cases z : i = m - 1
  ·rw [z, e]; exact Zz0 _
  ·have := h.cr i (by omega); omega
theorem Dwn.next {p : Array Nat} {m : Nat} (h : Dwn n key p m) (h1 : 1 <= m) (hm : m < n) (c : key m < key (m - 1)) : Fal n key p (m + 1) 0 :=
 ⟨h.sz, h.pm, by omega, by omega, λi j hij hj => h.dn i j hij (by omega), λk hk hkn => h.fix k (by omega) hkn, λk hk => by have := h.low k (by omega); omega, λi hi => by
  have := h.last i (by omega)
  show key m < _
  omega, λk hk hk2 => by
  have : k = m := by omega
  subst this
  rfl⟩
theorem Lr : ∀ (f : Nat) {p : Array Nat} {m q : Nat}, Fal n key p m q -> m + f = n -> D2 n key (kas_desc f p m q) λr => Fal n key r.1 r.2.1 r.2.2
 | 0, p, m, q, h, _ => h
 | f + 1, p, m, q, h, hf => by
  have h1 := h.q1
  have e1 := h.fix m (by omega) (by omega)
  have e2 := h.fix (m - 1) (by omega) (by omega)
  refine ⟨by show pat p m < n; omega, by show pat p (m - 1) < n; omega, ?_⟩
  show D2 n key (if decide (key (pat p m) < key (pat p (m - 1))) = true then _ else _) _
  rw [e1, e2]
  by_cases c : key m < key (m - 1)
  ·rw [decide_eq_true c, if_pos rfl]
   by_cases hq : q > 0
   ·rw [if_pos hq]
    exact Lr f (h.turn.next (by omega) (by omega) c) (by omega)
   ·rw [if_neg hq]
    have q0 : q = 0 := by omega
    subst q0
    exact Lr f (h.one.next (by omega) (by omega) c) (by omega)
  ·rw [decide_eq_false c, if_neg (by decide)]
   refine ⟨by show pat p (m - 1) < n; omega, by show pat p m < n; omega, ?_⟩
   show D2 n key (if decide (key (pat p (m - 1)) < key (pat p m)) = true then _ else _) _
   rw [e1, e2]
   by_cases d : key (m - 1) < key m
   ·rw [decide_eq_true d, if_pos rfl]
    exact h
   ·rw [decide_eq_false d, if_neg (by decide)]
    have ek : key m = key (m - 1) := by omega
    refine Lr f ⟨h.sz, h.pm, by omega, by omega, λi j hij hj => h.dn i j hij (by omega), λk hk hkn => h.fix k (by omega) hkn, λk hk => by have := h.low k (by omega); omega, λi hi => by have := h.cr i (by omega); show key m < _; omega, λk hk hk2 => ?_⟩ (by omega)
    show key k = key m
    by_cases z : k = m
    ·rw [z]
    ·rw [ek]; exact h.eq k (by omega) (by omega)
theorem V3 {p : Array Nat} {m : Nat} (h : Dwn n key p m) (h1 : 1 <= m) (hm : m <= n) : D2 n key (kas_tail3 m n p) λr => 1 <= r.1 /\ r.1 <= n /\ Srt n key r.2 r.1 := by
 have pr := λk => Q9 (p := p) (i := 0) (j := m) (by rw [h.sz]; exact hm) k
 have hs : Srt n key (kas_rev p 0 m) m := by
  refine ⟨by rw [M4, h.sz], (M5 _ _ _).trans h.pm, λi j hij hj => ?_, λk hk hkn => ?_, λk hk => ?_⟩
  ·rw [pr i, pr j, if_pos ⟨by omega, by omega⟩, if_pos ⟨by omega, by omega⟩]
   exact h.dn _ _ (by omega) (by omega)
  ·rw [pr k, if_neg (by omega)]
   exact h.fix k hk hkn
  ·rw [pr k, if_pos ⟨by omega, hk⟩]
   exact h.low _ (by omega)
 exact Ds (D8 (λa ⟨a1, a2, a3, _⟩ => ⟨by show 1 <= a; omega, a2, a3⟩) (Uw (n - m) hs h1 (by omega)))
theorem Vf {p : Array Nat} {m : Nat} (h : Fal n key p (m + 1) 0) : D2 n key (kas_descPart m n p) λr => 1 <= r.1 /\ r.1 <= n /\ Srt n key r.2 r.1 := by
 have := h.m1
 refine Ds (D8 (λr hr => ?_) (Lr (n - (m + 1)) h (by omega)))
 have r1 := hr.q1
 have r2 := hr.m1
 by_cases z : r.2.2 > 0
 ·rw [if_pos z]
  exact V3 hr.turn (by omega) r2
 ·rw [if_neg z]
  have q0 : r.2.2 = 0 := by omega
  rw [q0] at hr
  exact V3 hr.one (by omega) r2
theorem B7 {k : Nat} (h : k < n) : pat (Zyh (Zz9 n)) k = k := by
 unfold pat
 rw [Zyr]
 simp [h]
theorem ak (h2 : 2 <= n) : D2 n key (kas_count n (Zyh (Zz9 n))) λr => 1 <= r.1 /\ r.1 <= n /\ Srt n key r.2 r.1 := by
 have s0 : Srt n key (Zyh (Zz9 n)) 1 := ⟨by simp, by simp, λi j hij hj => by omega, λk _ hk => B7 hk, λk hk => by rw [B7 (by omega)]; exact hk⟩
 refine Ds (D8 (λm hm => ?_) (Uw (n - 1) s0 (Zzt _) (by omega)))
 obtain ⟨a1, a2, a3, a4⟩ := hm
 by_cases z : m = n
 ·rw [if_pos (by rw [z]; simp)]
  exact ⟨a1, a2, a3⟩
 ·rw [if_neg (by simpa using z)]
  have c := a4 (by omega)
  rw [B7 (by omega), B7 (by omega)] at c
  by_cases y : m > 1
  ·rw [if_pos y]
   have g0 : pat (Zyh (Zz9 n)) 0 = 0 := B7 (by omega)
   have g1 : pat (Zyh (Zz9 n)) (m - 1) = m - 1 := B7 (by omega)
   refine ⟨by show pat (Zyh (Zz9 n)) 0 < n; omega, by show pat (Zyh (Zz9 n)) (m - 1) < n; omega, ?_⟩
   show D2 n key (if decide (key (pat (Zyh (Zz9 n)) 0) < key (pat (Zyh (Zz9 n)) (m - 1))) = true then _ else _) _
   rw [g0, g1]
   by_cases d : key 0 < key (m - 1)
   ·rw [decide_eq_true d, if_pos rfl]
    exact ⟨a1, a2, a3⟩
   ·rw [decide_eq_false d, if_neg (by decide)]
    have up : ∀ i, i < m -> key 0 <= key i /\ key i <= key (m - 1) := λi hi => by
     constructor
     ·by_cases w : i = 0
      ·rw [w]; exact Zz0 _
      ·have := Qu (a3.up 0 i (by omega) hi)
       rw [B7 (by omega), B7 (by omega)] at this
       exact this
     ·by_cases w : i = m - 1
      ·rw [w]; exact Zz0 _
      ·have := Qu (a3.up i (m - 1) (by omega) (by omega))
       rw [B7 (by omega), B7 (by omega)] at this
       exact this
    have al : ∀ i, i < m -> key i = key (m - 1) := λi hi => by have := up i hi; omega
    have pr := λk => Q9 (p := Zyh (Zz9 n)) (i := 0) (j := m) (by simp; omega) k
    have dw : Dwn n key (kas_rev (Zyh (Zz9 n)) 0 m) m := by
     refine ⟨by rw [M4]; simp, (M5 _ _ _).trans (by simp), λi j hij hj => ?_, λk hk hkn => ?_, λk hk => ?_, λi hi => ?_⟩
     ·rw [pr i, pr j, if_pos ⟨by omega, by omega⟩, if_pos ⟨by omega, by omega⟩, B7 (by omega), B7 (by omega)]
      have e1 := al (0 + m - 1 - i) (by omega)
      have e2 := al (0 + m - 1 - j) (by omega)
      unfold klt
      omega
     ·rw [pr k, if_neg (by omega), B7 hkn]
     ·rw [pr k, if_pos ⟨by omega, hk⟩, B7 (by omega)]; omega
     ·rw [pr i, if_pos ⟨by omega, hi⟩, B7 (by omega)]
      have := al (0 + m - 1 - i) (by omega)
      omega
    exact Vf (dw.next (by omega) (by omega) c)
  ·rw [if_neg y]
   have m1 : m = 1 := by omega
   subst m1
   have dw : Dwn n key (Zyh (Zz9 n)) 1 := ⟨by simp, by simp, λi j hij hj => by omega, λk _ hk => B7 hk, λk hk => by rw [B7 (by omega)]; exact hk, λi hi => by
    rw [B7 (by omega)]
    have : i = 0 := by omega
    rw [this]
    exact Zz0 _⟩
   exact Vf (dw.next (by omega) (by omega) c)
theorem Mc {p : Array Nat} {k : Nat} (h : Srt n key p k) (hk : k < n) : ∀ (f l r : Nat), l <= r -> r <= k -> r - l <= f -> (∀ i, i < l -> key (pat p i) <= key k) -> (∀ i, r <= i -> i < k -> key k < key (pat p i)) -> D2 n key (kas_place p k f l r) λl' => l' <= k /\ (∀ i, i < l' -> key (pat p i) <= key k) /\ ∀ i, l' <= i -> i < k -> key k < key (pat p i)
 | 0, l, r, h1, h2, h3, h4, h5 => ⟨by omega, h4, λi hi => h5 i (by omega)⟩
 | f + 1, l, r, h1, h2, h3, h4, h5 => by
  show D2 n key (if l ≥ r then _ else _) _
  by_cases z : l ≥ r
  ·rw [if_pos z]
   exact ⟨by omega, h4, λi hi => h5 i (by omega)⟩
  ·rw [if_neg z]
   have e := h.fix k (Zzt _) hk
   refine ⟨by show pat p k < n; omega, by have := h.low ((l + r) / 2) (by omega); show pat p ((l + r) / 2) < n; omega, ?_⟩
   show D2 n key (if decide (key (pat p k) < key (pat p ((l + r) / 2))) = true then _ else _) _
   rw [e]
   have mono : ∀ i j, i <= j -> j < k -> key (pat p i) <= key (pat p j) := λi j hij hj => by
    by_cases y : i = j
    ·rw [y]; exact Zz0 _
    ·exact Qu (h.up i j (by omega) hj)
   by_cases c : key k < key (pat p ((l + r) / 2))
   ·rw [decide_eq_true c, if_pos rfl]
    exact Mc h hk f l ((l + r) / 2) (by omega) (by omega) (by omega) h4 λi hi hik => by have := mono _ i hi hik; omega
   ·rw [decide_eq_false c, if_neg (by decide)]
    exact Mc h hk f ((l + r) / 2 + 1) r (by omega) h2 (by omega) (λi hi => by have := mono i ((l + r) / 2) (by omega) (by omega); omega) h5
theorem ax : ∀ (f : Nat) {p : Array Nat} {k : Nat}, Srt n key p k -> k + f = n -> D2 n key (kas_bin f p k) λp' => Srt n key p' n
 | 0, p, k, h, hf => by
  have : k = n := by omega
  subst this
  exact h
 | f + 1, p, k, h, hf => by
  refine Ds (D8 (λl hl => ?_) (Mc h (by omega) k 0 k (Zz3 _) (Zzt _) (by omega) (λi hi => by omega) (λi hi hik => by omega)))
  obtain ⟨l1, l2, l3⟩ := hl
  have hs := h.sz
  have pb := λi => dz (p := p) (src := k) (d := k - l) (by omega) (by omega) i
  have ed : k - (k - l) = l := by omega
  rw [ed] at pb
  have ek := h.fix k (Zzt _) (by omega)
  refine ax f ⟨by rw [bubble_size, hs], (Array.perm_iff_toList_perm.mp (bubble_perm _ _ _)).trans h.pm, λi j hij hj => ?_, λi hi hin => ?_, λi hi => ?_⟩ (by omega)
  ·rw [pb i, pb j]
   by_cases a : i = l
   ·rw [if_pos a, if_neg (by omega), if_pos ⟨by omega, by omega⟩, ek]
    have := l3 (j - 1) (by omega) (by omega)
    exact .inl this
   ·rw [if_neg a]
    by_cases b : j = l
    ·rw [if_pos b, if_neg (by omega), ek]
     have h1 := l2 i (by omega)
     have h2 := h.low i (by omega)
     unfold klt
     omega
    ·rw [if_neg b]
     by_cases c : l < i
     ·rw [if_pos ⟨c, by omega⟩, if_pos ⟨by omega, by omega⟩]
      exact h.up (i - 1) (j - 1) (by omega) (by omega)
     ·rw [if_neg (λz => c z.1)]
      by_cases d : l < j
      ·rw [if_pos ⟨d, by omega⟩]
       exact h.up i (j - 1) (by omega) (by omega)
      ·rw [if_neg (λz => d z.1)]
       exact h.up i j hij (by omega)
  ·rw [pb i, if_neg (by omega), if_neg (by omega)]
   exact h.fix i (by omega) hin
  ·rw [pb i]
   split
   ·rw [ek]; omega
   ·split
    ·have := h.low (i - 1) (by omega); omega
    ·have := h.low i (by omega); omega
theorem cp (h2 : 2 <= n) : D2 n key (kas_sort n) λp => Srt n key p n := by
 refine Ds (D8 (λr hr => ?_) (ak h2))
 obtain ⟨r1, r2, r3⟩ := hr
 by_cases z : r.1 < n
 ·rw [if_pos z]
  have e : max r.1 1 = r.1 := by omega
  rw [e]
  exact ax _ r3 (by omega)
 ·rw [if_neg z]
  have e : r.1 = n := by omega
  rw [e] at r3
  exact r3
end
theorem Sz {n : Nat} {key : Nat -> Int} {α : Type} {cmp : Nat -> Nat -> (Bool -> Shared -> Prop) -> Shared -> Prop} {Qp : α -> Prop} {Q : α -> Shared -> Prop} {s : Shared} (hc : ∀ i j (C : Bool -> Shared -> Prop), i < n -> j < n -> C (decide (key i < key j)) s -> cmp i j C s) (hq : ∀ a, Qp a -> Q a s) : ∀ {t : KasT α}, D2 n key t Qp -> t.kasWp cmp Q s
 | .ret _, h => hq _ h
 | .ask i j k, ⟨h1, h2, h3⟩ => hc i j _ h1 h2 (Sz hc hq h3)
def Ld (kz : Str -> Int) (xs ys : List Str) : Prop := ys.Perm xs /\ ys.Pairwise λa b => kz a <= kz b
def G1 (kz : Str -> Int) (xs ys : List Str) : Prop := ∃ ps : List Nat, ps.Perm (Zz9 xs.length) /\ ys = ps.map (λi => xs.getD i "") /\ ps.Pairwise (klt λi => kz (xs.getD i ""))
theorem M9 (xs : List Str) : (Zz9 xs.length).map (λi => xs.getD i "") = xs := by
 apply Zxb
 intro i
 by_cases hi : i < xs.length
 ·rw [Zzx, List.getElem?_range hi, Zzr hi]
  simp [Zzg, hi]
 ·rw [Zyv (by simp; omega), Zyv (by omega)]
theorem Cw {kz : Str -> Int} {xs ys : List Str} (h : G1 kz xs ys) : Ld kz xs ys := by
 obtain ⟨ps, h1, rfl, h2⟩ := h
 refine ⟨?_, ?_⟩
 ·have := h1.map (λi => xs.getD i "")
  rw [M9] at this
  exact this
 ·rw [List.pairwise_map]
  exact h2.imp λ{a b} hab => Qu hab
theorem Ty {kz : Str -> Int} {xs ys : List Str} (h : ys.Perm xs) (hl : xs.length < 2) : G1 kz xs ys := by
 refine ⟨Zz9 xs.length, List.Perm.refl _, ?_, ?_⟩
 ·rw [M9]
  match xs, hl with
  | [], _ => exact List.perm_nil.mp h
  | [x], _ => exact List.perm_singleton.mp h
 ·rw [Zxu]
  intro i j hi hj hij
  rw [List.length_range] at hi hj
  omega
theorem jt {n : Nat} {key : Nat -> Int} {p : Array Nat} (h : Srt n key p n) : p.toList.Pairwise (klt key) := by
 rw [Zxu]
 intro i j hi hj hij
 rw [Zwk, h.sz] at hi hj
 have := h.up i j hij hj
 unfold pat at this
 rw [Zyr, Zyr, Zye (by rw [h.sz]; exact hi), Zye (by rw [h.sz]; exact hj)] at this
 simpa using this
theorem Vh {P : Program} {w : World} {H : Hp} {h : Heap} {a : Addr} {o : HO} (x : ObjOk P w H h a o) : ∃ ob, h.get? a = some ob := by
 cases o with
 | lst xs => obtain ⟨_, _, _, _, e⟩ := x; exact ⟨_, e⟩
 | tup xs => obtain ⟨_, _, _, o, e, _⟩ := x; exact ⟨_, e⟩
 | dK kvs => obtain ⟨_, _, _, _, o, _, _, e, _⟩ := x; exact ⟨_, e⟩
 | dT kvs => obtain ⟨_, _, _, _, o, _, _, e, _⟩ := x; exact ⟨_, e⟩
 | set S n => obtain ⟨o, _, _, _, e, _⟩ := x; exact ⟨_, e⟩
 | ins C dx fs => obtain ⟨_, _, _, e, _⟩ := x; exact ⟨_, e⟩
 | own y => exact x
 | xd fs => obtain ⟨_, ⟨_, _, _, e, _⟩, _⟩ := x; exact ⟨_, e⟩
 | rng lo hi => obtain ⟨_, _, _, e⟩ := x; exact ⟨_, e⟩
 | frz o u => obtain ⟨e, _⟩ := x; exact ⟨_, e⟩
 | tbl ps => exact ⟨_, x⟩
 | met f y => exact ⟨_, x⟩
 | ext φ => obtain ⟨_, e, _⟩ := x; exact e
def Tq (c : Addr) (q : Str) : HO := .ext λh => h.CodeRec (.ref c) q
theorem aq {P : Program} {w : World} {H : Hp} {h : Heap} {c : Addr} {q : Str} (x : h.CodeRec (.ref c) q) : ObjOk P w H h c (Tq c q) := by
 obtain ⟨c', o, vs, t, e, ho, r⟩ := id x
 cases e
 refine ⟨x, ⟨o, ho⟩, λh1 h2 y k => ?_⟩
 obtain ⟨c2, o2, vs2, t2, e2, g2, r2⟩ := y
 cases e2
 exact ⟨c, o2, vs2, t2, rfl, k _ g2, r2⟩
theorem ar {P : Program} {w : World} {H : Hp} {h : Heap} {c : Addr} {q : Str} (ok : HOk P w H h) (e : H c = some (Tq c q)) : h.CodeRec (.ref c) q := (ok c _ e).1
def TblAt (H : Hp) (P : Addr) (pos : Pos) (q : Str) : Prop := H P = some (.tbl #[]) \/ ∃ c, H P = some (.tbl #[rawInt pos.line, rawInt pos.col, .ref c]) /\ H c = some (Tq c q)
theorem TblAt.same {H H' : Hp} {P : Addr} {pos : Pos} {q : Str} (t : TblAt H P pos q) (s : Same H H') : TblAt H' P pos q := t.elim (λe => .inl (s _ _ e)) (λ⟨c, e, e2⟩ => .inr ⟨c, s _ _ e, s _ _ e2⟩)
def Ib (mg : Str -> Option Value) (base : Heap) : Prop := ∃ bm ob, mg "__builtins__" = some (.ref bm) /\ bm ≠ builtinsNs /\ bm ≠ mainGlobals /\ base.get? bm = some ob /\ ob.cls = .type "module" /\ ob.dict = some builtinsNs /\ ob.data = .plain
section
variable {X : Cx} {pins : List (Addr × Obj)} {Z : St} {H : Hp} {s : Shared}
theorem Zk {P c : Addr} {params : Arguments} {body : Expr} {scope : Scope} {pos : Pos} {clos : List (Str × Addr)} {Q : Value -> Shared -> Prop}
  (I : Inv X pins Z H s) (hcd : X.env.code = .ref c) (hC : codeHdIn X.K c P = true) (hB : Ib X.mg X.base) (t : TblAt H P pos (X.env.qual ++ "<lambda>")) (hdef : defaultsOf params X.env = ([], [])) (hcl : closureFor scope X.env = pure clos)
  (h : ∀ f c' ctv H' s', Inv X pins Z H' s' -> s'.heap.get? f = some (kla_obj "<lambda>" (X.env.qual ++ "<lambda>") params body scope clos ((X.mg "__name__").getD .none) c' ctv) -> H' f = none -> H' c' = some (Tq c' (X.env.qual ++ "<lambda>")) -> TblAt H' P pos (X.env.qual ++ "<lambda>") -> But P H H' -> Q (.ref f) s') :
  wpAny (model X.prog X.w) X.A (eval (.Lambda params body scope pos) X.env) Q X.xe s := by
 refine kla_eval hdef ?_
 have hHP : ∃ u, H P = some u := t.elim (λe => ⟨_, e⟩) (λ⟨c, e, _⟩ => ⟨_, e⟩)
 obtain ⟨u, hu⟩ := hHP
 have neP : ∀ b o, X.base.get? b = some o -> b ≠ P := λb o e z => by rw [z] at e; rw [(I.bs P o e).2] at hu; cases hu
 have C : CodeHd s.heap c P := codeHd_of_K I.kIn hC
 have hg : s.heap.Ns mainGlobals X.mg := I.ok.mod.glob.keeps I.bk
 have hgP : mainGlobals ≠ P := by obtain ⟨o, es, ep, e, _⟩ := I.ok.mod.glob; exact neP _ _ e
 have hb : s.heap.BuiltinsAt X.mg P := by
  obtain ⟨bm, ob, b1, b2, b3, b4, b5⟩ := hB
  exact ⟨bm, ob, b1, b2, b3, neP _ _ b4, I.bk _ _ b4, b5⟩
 rcases t with e | ⟨c', e, ec⟩
 ·have hP : s.heap.get? P = some (tabObj #[]) := I.hok P _ e
  refine kla_makeFunction (ps := #[]) hcl I.ok.glob hg hcd C hP trivial rfl hgP hb λc' ctv h' tk hx hge hlt hrec htb => ?_
  have hc0 : H c' = none := I.hok.fresh hge
  have cP : c' ≠ P := λz => by rw [z, hu] at hc0; cases hc0
  have k : ∀ b o, b ≠ P -> s.heap.get? b = some o -> (h'.push (kla_obj "<lambda>" (X.env.qual ++ "<lambda>") params body scope clos ((X.mg "__name__").getD .none) c' ctv)).get? b = some o := λb o nb eb => Zzy _ (hx b o nb eb)
  have hsz : s.heap.objs.size <= h'.objs.size := by omega
  have hf : H h'.objs.size = none := I.hok.fresh hsz
  have cf : h'.objs.size ≠ c' := Zxg hlt
  have fP : h'.objs.size ≠ P := λz => by rw [z, hu] at hf; cases hf
  refine h h'.objs.size c' ctv (upd (upd H P (.tbl #[rawInt pos.line, rawInt pos.col, .ref c'])) c' (Tq c' (X.env.qual ++ "<lambda>"))) _ (I.un (t' := tk) ⟨λb o eb n _ _ => k b o (λz => by rw [z, hu] at n; cases n) eb, λb o eb n _ _ => ⟨o.slots, k b o (λz => by rw [z, hu] at n; cases n) eb⟩, λb o eb n _ => ?_, λb o eb _ => ?_, λb xs eb => ?_, λb o u' eb => ?_, λb ps eb => ?_⟩ λb v eb => ?_) (Zzi _ rfl) ?_ A0 ?_ ?_
  ·rw [A5 (Zyy (Zzb (Zzl eb) hge)), A5 (λz => by rw [z, hu] at n; cases n)]
   exact n
  ·by_cases z : b = P
   ·rw [z]
    exact ⟨_, Zzy _ htb⟩
   ·exact ⟨o, k b o z eb⟩
  ·rw [A5 (A6 eb hc0), A5 (λz => by rw [z, e] at eb; cases eb)]
   exact eb
  ·rw [A5 (A6 eb hc0), A5 (λz => by rw [z, e] at eb; cases eb)]
   exact eb
  ·by_cases z : b = P
   ·subst z
    rw [e] at eb
    cases eb
    exact ⟨#[rawInt pos.line, rawInt pos.col, .ref c'], by rw [A5 (Zzf cP), A0]; simp⟩
   ·exact ⟨#[], by rw [A5 (A6 eb hc0), A5 z, eb]; simp⟩
  ·by_cases z : b = c'
   ·subst z
    rw [A0] at eb
    cases eb
    exact aq (hrec.push _)
   ·rw [A5 z] at eb
    by_cases z2 : b = P
    ·subst z2
     rw [A0] at eb
     cases eb
     exact Zzy _ htb
    ·rw [A5 z2] at eb
     refine (I.hok b v eb).stay (λb' u' hb' q => k b' u' (λz3 => ?_) q) (λb' q => ?_) λb' xs q => ?_
     ·rcases hb' with r | r
      ·exact z2 (r.symm.trans z3)
      ·rw [z3, e] at r; cases r
     ·rw [A5 (A6 q hc0), A5 (λz3 => by rw [z3, e] at q; cases q)]; exact q
     ·rw [A5 (A6 q hc0), A5 (λz3 => by rw [z3, e] at q; cases q)]; exact q
  ·rw [A5 cf, A5 fP]
   exact hf
  ·exact .inr ⟨c', by rw [A5 (Zzf cP), A0], A0⟩
  ·exact λb o nb eb => by rw [A5 (A6 eb hc0), A5 nb]; exact eb
 ·have hP : s.heap.get? P = some (tabObj #[rawInt pos.line, rawInt pos.col, .ref c']) := I.hok P _ e
  refine kla_makeFunctionHit (cv := .ref c') hcl I.ok.glob hg hcd C hP trivial (by simp [codeAmong, rawInt]) hb λctv h' tk hk hsz => ?_
  have k : ∀ b o, s.heap.get? b = some o -> (h'.push (kla_obj "<lambda>" (X.env.qual ++ "<lambda>") params body scope clos ((X.mg "__name__").getD .none) c' ctv)).get? b = some o := λb o eb => Zzy _ (hk b o eb)
  exact h h'.objs.size c' ctv H _ (I.kept (t' := tk) k) (Zzi _ rfl) (I.hok.fresh hsz) ec (.inr ⟨c', e, ec⟩) (But.refl _ _)
end
section
variable {prog : Program} {w : World} {A : Around} {s : Shared}
theorem gd {f c' d cc : Addr} {q nm lv x : Str} {params : Arguments} {scope : Scope} {p1 p2 p3 : Pos} {pm ctv : Value} {k : Int} {t t0 : Tok} {vs : List (Key × Value)}
  (hf : s.heap.get? f = some (kla_obj "<lambda>" q params (.Subscript (.Name lv p1) (.Name nm p2) p3) scope [(lv, cc)] pm c' ctv)) (hrec : s.heap.CodeRec (.ref c') q) (hcell : s.heap.IsCell cc (some (.ref d))) (hd : s.heap.DictOf (B0 prog w) d vs) (hv : valueAt vs (.inr x) = some (.int k t))
  (hroom : A.depth < recursionLimit) (hlim : s.heap.NoLimit) (hsc : scope.kind = .function /\ scope.isCoroutine = false /\ scope.isGenerator = false /\ scope.names.lookup nm = some .local /\ scope.names.lookup lv = some .free /\ ∀ x ∈ scope.names, x.2 ≠ .cell)
  (hbind : bindArgs (kla_fn "<lambda>" q params (.Subscript (.Name lv p1) (.Name nm p2) p3) scope [(lv, cc)] pm (.ref c') ctv) ⟨[.str x t0], []⟩ = pure [(nm, .str x t0)]) (hn1 : (nm == ("__debug__" : Str)) = false := by decide) (hn2 : (lv == ("__debug__" : Str)) = false := by decide) (hn3 : (lv == ("__classdict__" : Str)) = false := by decide) :
  wpAny (model prog w) A (call (.ref f) [.str x t0]) (λv s' => ∃ h' tk t', s' = { s with heap := h', toks := tk } /\ v = .int k t' /\ ∀ b o, s.heap.get? b = some o -> h'.get? b = some o) (λ_ _ => False) s := by
 obtain ⟨k1, k2, k3, k4, k5, k6⟩ := hsc
 refine wpAny_call (kla_callFunE hroom hf rfl k2 k3 rfl hrec ?_)
 rw [hbind]
 refine wpAny_pure (wpAny_newFunctionEnv k6 (λy hy => ?_) (λh₁ hns hsb => ?_) k1)
 ·rw [Zzu.mp hy]
  exact k4
 have hk : ∀ b o, s.heap.get? b = some o -> h₁.get? b = some o := λb o e => hsb.extBut b o (Zyy (Zzl e)) (Zzy _ e)
 refine ⟨hlim.fresh _ hsb, kla_codeExpr ?_⟩
 have hd1 : h₁.DictOf (B0 prog w) d vs := by
  obtain ⟨o, es, ep, ho, r⟩ := hd
  exact ⟨o, es, ep, hk _ _ ho, r⟩
 have hc1 : h₁.IsCell cc (some (.ref d)) := by
  obtain ⟨o, ho, r⟩ := hcell
  exact ⟨o, hk _ _ ho, r⟩
 refine wpAny_Subscript_Name (T := "dict") F.slot_dict_getitem.lookup (wpAny_Name (wpAny_loadName_free k1 k5 (c := cc) (by simp [newEnv]) hc1 (wpAny_Name (wpAny_loadName_local k1 k4 hns (v := .str x t0) (by simp) ⟨hd1.typeIs, ?_⟩) hn1) hn3) hn2)
 refine wpAny_getItem_of (knd := B0 prog w) (k := .inr x) ?_ hd1.mapOf hv ?_
 ·exact L4 (k := .inr x) ⟨t0, rfl⟩
 ·exact ⟨_, _, _, rfl, rfl, hk⟩
end
def strV : Value -> Str
 | .str x _ => x
 | _ => ""
theorem Y2 {xs : List Str} {us : List Value} (r : Vals (xs.map V.str) us) : us.map strV = xs /\ ∀ u ∈ us, ∃ t, u = .str (strV u) t := by
 induction xs generalizing us with
 | nil => cases r; exact ⟨rfl, λ_ h => nomatch h⟩
 | cons x xs ih =>
  cases r with
  | cons r1 r2 =>
   obtain ⟨t, rfl⟩ := r1
   obtain ⟨e, h⟩ := ih r2
   refine ⟨by rw [Zzd, e]; rfl, λu hu => ?_⟩
   rcases Zzo.mp hu with z | z
   ·rw [z]; exact ⟨t, rfl⟩
   ·exact h u z
theorem Kw : ∀ {us : List Value}, (∀ u ∈ us, ∃ t, u = .str (strV u) t) -> Vals ((us.map strV).map V.str) us
 | [], _ => .nil
 | u :: us, h => by
  obtain ⟨t, e⟩ := h u Zzj
  exact .cons ⟨t, e⟩ (Kw λv hv => h v (Zzk _ hv))
theorem Ei : ∀ {vs : List Value} {ns : List Int} {i : Nat} {n : Int}, IntsAre vs ns -> ns[i]? = some n -> ∃ t, vs[i]? = some (.int n t)
 | _, _, i, n, .nil, e => by simp at e
 | _, _, 0, n, .cons k t _, e => by
  have : k = n := by simpa using e
  subst this
  exact ⟨t, rfl⟩
 | _, _, i + 1, n, .cons _ _ r, e => by
  obtain ⟨t, h⟩ := Ei (i := i) r (by simpa using e)
  exact ⟨t, by simpa using h⟩
theorem V0 {kz : Str -> Int} : ∀ {us : List Value} {p : Int × Value}, p ∈ ((us.map strV).map kz).zip us -> p.2 ∈ us /\ p.1 = kz (strV p.2)
 | [], p, h => by simp at h
 | u :: us, p, h => by
  rw [Zzd, Zzd, List.zip_cons_cons] at h
  rcases Zzo.mp h with z | z
  ·rw [z]; exact ⟨Zzj, rfl⟩
  ·obtain ⟨h1, h2⟩ := V0 z
   exact ⟨Zzk _ h1, h2⟩
theorem Wf {kz : Str -> Int} {us out : List Value} (h : KskOut false ((us.map strV).map kz) us out) : (∀ u ∈ out, u ∈ us) /\ Ld kz (us.map strV) (out.map strV) := by
 obtain ⟨ps, hp, rfl, hs⟩ := h
 have hz : ∀ p ∈ ps, p.2 ∈ us /\ p.1 = kz (strV p.2) := λp hm => V0 (hp.mem_iff.mp hm)
 refine ⟨λu hu => ?_, ?_, ?_⟩
 ·obtain ⟨p, hm, rfl⟩ := Zzs.mp hu
  exact (hz p hm).1
 ·have e : (((us.map strV).map kz).zip us).map (λp => strV p.2) = us.map strV := by
   have : (((us.map strV).map kz).zip us).map Prod.snd = us := List.map_snd_zip (by simp)
   have h2 := congrArg (Zyb strV) this
   rw [Zy1] at h2
   exact h2
  rw [Zy1, <- e]
  exact hp.map _
 ·rw [Zy1, List.pairwise_map]
  refine hs.imp_of_mem λ{a b} ha hb hab => ?_
  have hab : a.1 <= b.1 := hab
  rw [(hz a ha).2, (hz b hb).2] at hab
  exact hab
section
variable {X : Cx}
def Lu (P : Addr) (pos : Pos) (q : Str) (i : Nat) (Z : St) (Q : VK) (x : V) (H1 : Hp) : Prop := ∃ (l : Addr) (xs : List Str) (d : Addr) (kvs : List (Key × V)) (kz : Str -> Int), x = .ref l /\ H1 l = some (.lst (xs.map V.str)) /\ xs.length < 64 /\ Z[i]? = some (some (.ref d)) /\ H1 d = some (.dK kvs) /\
 (∀ x ∈ xs, B1 kvs (.inr x) = some (.int (kz x))) /\ TblAt H1 P pos q /\ ∀ r ys H2, H1 r = none -> H2 r = some (.lst (ys.map V.str)) -> Ld kz xs ys -> G1 kz xs ys -> TblAt H2 P pos q -> But P H1 H2 -> Q (.ref r) H2
def Yb (P : Addr) (pos : Pos) (q : Str) (i : Nat) (te : TE) : TE := λZ H Q => te Z H (Lu P pos q i Z Q)
theorem Yr {e : Expr} {te : TE} {p1 p2 kp lp q1 q2 q3 : Pos} {params : Arguments} {scope : Scope} {i k : Nat} {nm lv : Str} {P c : Addr} (hg : Gl X "sorted") (hm : X.mg "sorted" = none) (he : PE X e te) (hr : Room k X.A)
  (hcd : X.env.code = .ref c) (hC : codeHdIn X.K c P = true) (hB : Ib X.mg X.base) (hdef : defaultsOf params X.env = ([], [])) (hN : X.N[i]? = some lv) (hlv : X.env.scope.names.lookup lv = some .cell) (hcl : ∀ cc, X.env.cells.lookup lv = some cc -> closureFor scope X.env = pure [(lv, cc)])
  (hsc : scope.kind = .function /\ scope.isCoroutine = false /\ scope.isGenerator = false /\ scope.names.lookup nm = some .local /\ scope.names.lookup lv = some .free /\ ∀ x ∈ scope.names, x.2 ≠ .cell)
  (hbind : ∀ (cc c' : Addr) (pm ctv v : Value), bindArgs (kla_fn "<lambda>" (X.env.qual ++ "<lambda>") params (.Subscript (.Name lv q1) (.Name nm q2) q3) scope [(lv, cc)] pm (.ref c') ctv) ⟨[v], []⟩ = pure [(nm, v)])
  (hn1 : (nm == ("__debug__" : Str)) = false := by decide) (hn2 : (lv == ("__debug__" : Str)) = false := by decide) (hn3 : (lv == ("__classdict__" : Str)) = false := by decide) (hn : By [e] = true := by rfl) :
  PE X (.Call (.Name "sorted" p1) [e] [⟨some "key", .Lambda params (.Subscript (.Name lv q1) (.Name nm q2) q3) scope lp, kp⟩] p2) (Yb P lp (X.env.qual ++ "<lambda>") i te) := by
 intro pins s Z H Q I h
 refine wpAny_Call_Name_kw (E9 I hg hm NP.Kq ?_ (by decide) (by decide))
 have hx : ∃ cc, X.env.cells.lookup lv = some cc := I.ok.has lv (.inl hlv)
 obtain ⟨cc, hcc⟩ := hx
 refine callWith_kw (thn ((A4 he A1 hn) p2 pins s Z H (λvs H1 => match vs with | [x] => Lu P lp (X.env.qual ++ "<lambda>") i Z Q x H1 | _ => False) I h) λus s1 ⟨vs, H1, I1, r1, hv⟩ => ?_) ?_ ?_ rfl rfl
 ·match vs, hv, r1 with
  | [x], ⟨l, xs, d, kvs, kz, ex, hl, h64, hσ, hd, hval, tb, q⟩, r1 =>
  subst ex
  obtain ⟨u, rfl, ru⟩ := Eu r1
  cases ru
  refine kws_cons (Zk I1 hcd hC hB tb hdef (hcl cc hcc) λf c' ctv H' s2 I2 hf Hf hc' tb' bt => kws_nil ?_)
  have hPs : ∃ u, H1 P = some (.tbl u) := tb.elim (λe => ⟨_, e⟩) (λ⟨c, e, _⟩ => ⟨_, e⟩)
  obtain ⟨pt, hPt⟩ := hPs
  have hl2 : H' l = some (.lst (xs.map V.str)) := bt _ _ (λz => by rw [z, hPt] at hl; cases hl) hl
  have hd2 : H' d = some (.dK kvs) := bt _ _ (λz => by rw [z, hPt] at hd; cases hd) hd
  obtain ⟨its, rv, hil, hlt⟩ := Av I2 hl2
  obtain ⟨eit, hit⟩ := Y2 rv
  obtain ⟨m, F⟩ := I2.fr
  obtain ⟨zd, nd, dv, rel, hdd⟩ := I2.hok d _ hd2
  have hcell : s2.heap.IsCell cc (some (.ref d)) := by
   obtain ⟨m', hn', hl'⟩ := I2.loc
   obtain ⟨u, ru, lk⟩ := hl' i lv (.ref d) hN hσ (.inr (.inl hlv))
   cases ru
   rcases lk with ⟨hk, _⟩ | ⟨_, c2, e2, e3⟩
   ·have hk : X.env.scope.names.lookup lv = some .local := hk
    rw [hlv] at hk; cases hk
   ·rw [hcc] at e2; cases e2; exact e3
  have hrec : s2.heap.CodeRec (.ref c') (X.env.qual ++ "<lambda>") := ar I2.hok hc'
  have nL : ∀ b o, s2.heap.get? b = some o -> (∀ es ep, o.data ≠ .dict es ep) -> b ≠ X.env.locals := λb o e n z => by
   obtain ⟨oL, es, ep, e2, d2, _⟩ := F.ns
   rw [<- z, e] at e2; cases e2; exact n _ _ d2
  have keepA : ∀ (h : Heap) (own : List (Addr × Obj)), Fr X.base X.env.locals h m -> News X.base X.env.locals h (D6 X.base s2.heap X.env.locals ++ own) -> ∀ b o, b ≠ X.env.locals -> s2.heap.get? b = some o -> h.get? b = some o := λh own F' N' b o nb e => by
   cases z : X.base.get? b with
   | some u =>
    have := I2.bk b u z
    rw [e] at this; cases this
    exact F'.keep b _ z
   | none => exact (N' (b, o) (Zyw _ (Ky nb z e))).1
  have hil2 : its.length = xs.length := by have := rv.length; rw [Zzz] at this; exact this.symm
  have step : ∀ (v : Value), v ∈ its -> ∀ (h : Heap) (tk : Nat) (own : List (Addr × Obj)), Fr X.base X.env.locals h m -> News X.base X.env.locals h (D6 X.base s2.heap X.env.locals ++ own) ->
    wpAny (model X.prog X.w) X.A.in1.in1 (call (.ref f) [v]) (λv' s' => ∃ h' tk' t', s' = { s2 with heap := h', toks := tk' } /\ v' = .int (kz (strV v)) t' /\ ∀ b o, h.get? b = some o -> h'.get? b = some o) (λ_ _ => False) { s2 with heap := h, toks := tk } := by
   intro v hvm h tk own F' N'
   obtain ⟨t, ev⟩ := hit v hvm
   have hmem : strV v ∈ xs := by rw [<- eit]; exact Zzs.mpr ⟨v, hvm, rfl⟩
   have kp := keepA h own F' N'
   obtain ⟨w', hw, rw'⟩ := RelO.some_of (v := .int (kz (strV v))) (o := valueAt dv (.inr (strV v))) (by have := rel.val (.inr (strV v)); rw [hval _ hmem] at this; exact this)
   obtain ⟨tk', ew⟩ := rw'
   subst ew
   have dL : d ≠ X.env.locals := λz => by rw [z, I2.free] at hd2; cases hd2
   have cL : cc ≠ X.env.locals := I2.cne lv cc hcc
   have fL : f ≠ X.env.locals := nL f _ hf (λes ep z => by cases z)
   have c'L : c' ≠ X.env.locals := λz => by rw [z, I2.free] at hc'; cases hc'
   have hroom : X.A.depth < recursionLimit := by have := hr.dp; omega
   have hk1 := gd (prog := X.prog) (w := X.w) (A := X.A.in1.in1) (s := { s2 with heap := h, toks := tk }) (nm := nm) (lv := lv) (x := strV v) (k := kz (strV v)) (t := tk') (t0 := t) (vs := dv) (kp f _ fL hf) (by
    obtain ⟨c2, o, vs, t2, e1, e2, r⟩ := hrec
    cases e1
    exact ⟨c', o, vs, t2, rfl, kp _ _ c'L e2, r⟩) (by
    obtain ⟨o, e1, r⟩ := hcell
    exact ⟨o, kp _ _ cL e1, r⟩) (by
    obtain ⟨o, es, ep, e1, r⟩ := hdd
    exact ⟨o, es, ep, kp _ _ dL e1, r⟩) hw hroom (I2.ok.mod.nolimit.keeps F'.keep) hsc (hbind cc c' _ ctv _) hn1 hn2 hn3
   rw [<- ev] at hk1
   exact hk1
  have fin : ∀ (D : Addr) (h' : Heap) (tk : Nat) (out : Array Value) (c : Nat), Fr X.base X.env.locals h' m -> News X.base X.env.locals h' ((D, seqObj "list" out c) :: D6 X.base s2.heap X.env.locals) -> (∀ q ∈ D6 X.base s2.heap X.env.locals, q.1 < D) -> (∀ u ∈ out.toList, u ∈ its) -> G1 kz xs (out.toList.map strV) -> EP X pins Z Q (.ref D) { s2 with heap := h', toks := tk } := by
   intro D h' tk out c F' N' hlt2 hsub hstab
   have hsort := Cw hstab
   have hD := N' (D, seqObj "list" out c) Zzj
   have N2 : News X.base X.env.locals h' (D6 X.base s2.heap X.env.locals ++ []) := λp hp => N' p (Zzk _ (by rw [Zyu] at hp; exact hp))
   have kp := keepA h' [] F' N2
   have tL : ∀ b u, H' b = some u -> b ≠ X.env.locals := λb u e z => by rw [z, I2.free] at e; cases e
   have neD : ∀ b o, s2.heap.get? b = some o -> b ≠ D := λb o e z => by
    by_cases hb : b = X.env.locals
    ·exact hD.2.1 (z.symm.trans hb)
    ·cases y : X.base.get? b with
     | some u => rw [z] at y; rw [hD.2.2] at y; cases y
     | none => exact absurd (hlt2 (b, o) (Ky hb y e)) (by rw [z]; exact Zwo _)
   have HD : H' D = none := by
    cases y : H' D with
    | none => rfl
    | some u =>
     obtain ⟨o, e⟩ := (show ∃ o, s2.heap.get? D = some o from Vh (I2.hok D u y))
     exact absurd rfl (neD D o e)
   have vs2 : Vals ((out.toList.map strV).map V.str) out.toList := Kw λu hu => hit u (hsub u hu)
   have hlen : (out.toList.map strV).length = xs.length := hsort.1.length_eq
   have I3 : Inv X pins Z (upd H' D (.lst ((out.toList.map strV).map V.str))) { s2 with heap := h', gens := s2.gens, drawn := s2.drawn, toks := tk } := by
    refine I2.step (g' := s2.gens) (d' := s2.drawn) (ch := []) (λ_ z => nomatch z) (λb o nb _ _ e _ => kp b o nb e) (λb o nb _ _ e _ => ⟨o.slots, kp b o nb e⟩) (λb o _ e n => by rw [A5 (neD b o e)]; exact n) (λb o _ e => ?_)
     (λb ys e => by rw [A5 (A6 e HD)]; exact e) (λb o u e => by rw [A5 (A6 e HD)]; exact e) (λb ps e => ⟨#[], by rw [A5 (A6 e HD), e]; simp⟩) (λm' hm' => ?_) (λb u e => ?_) I2.bare
    ·by_cases hb : b = X.env.locals
     ·obtain ⟨oL, _, _, e2, _⟩ := F'.ns
      exact ⟨oL, by rw [hb]; exact e2⟩
     ·exact ⟨o, kp b o hb e⟩
    ·have em : m' = m := funext λx => hm'.agree F.ns x
     rw [em]
     exact F'.ns
    ·by_cases hb : b = D
     ·subst hb
      rw [A0] at e
      cases e
      refine ⟨by rw [Zzz, hlen]; exact Aw (by omega), out.toList, c, vs2, ?_⟩
      rw [Array.toArray_toList]
      exact hD.1
     ·rw [A5 hb] at e
      refine (I2.hok b u e).stay (λb' u' hb' q' => kp b' u' ?_ q') (λb' q' => by rw [A5 (A6 q' HD)]; exact q') λb' ys q' => by rw [A5 (A6 q' HD)]; exact q'
      rcases hb' with r | r
      ·rw [r]; exact tL b u e
      ·exact tL b' _ r
   have H1D : H1 D = none := by
    cases y : H1 D with
    | none => rfl
    | some u =>
     have hDP : D ≠ P := λz => by
      have : H' P = none := by rw [<- z]; exact HD
      rcases tb' with e | ⟨_, e, _⟩ <;> · rw [this] at e; cases e
     rw [bt _ _ hDP y] at HD; cases HD
   exact ⟨.ref D, _, I3, rfl, q D _ _ H1D A0 hsort hstab (tb'.same (A3 HD)) (bt.new HD)⟩
  by_cases h2 : 2 <= its.length
  ·refine kat_sortedK (f := .ref f) (b := false) F Sn hil h2 (by omega) (ksk_s1 _ _) (λx => ksk_l1 _ _) (λx => ksk_t1 _ _) λD kS e1 h' F' N' hDk hlt2 => ?_
   have keys : ∀ (rest ks don : List Value) (e : Nat) (h : Heap) (tk : Nat), its = don ++ rest -> IntsAre ks ((don.map strV).map kz) -> Fr X.base X.env.locals h m -> News X.base X.env.locals h ((kS, seqObj "list" (Zyh ks) e) :: (D, seqObj "list" #[] e1) :: D6 X.base s2.heap X.env.locals) ->
     KatKeys X.prog X.w X.A.in1.in1 X.base X.env.locals m kS (.ref f) (λks e s' => wpAny (model X.prog X.w) X.A.in1.in1 (keyKind' (Zyh ks)) (λκ s'' => (kas_sort its.length).kasWp (kas_ask X.prog X.w X.A.in1.in1 κ (katRev false ks)) (λp s3 => KatFin X.base X.env.locals m kS D ks e e1 (katRev false (p.toList.map λi => (katRev false its).getD i Value.none)) (λs4 => EP X pins Z Q (.ref D) s4) s3) s'') (λ_ _ => False) s') rest ks e { s2 with heap := h, toks := tk } := by
    intro rest
    induction rest with
    | nil =>
     intro ks don e h tk eq hi Fh Nh
     rw [Zyu] at eq
     subst eq
     have hkl : ks.length = its.length := by have := hi.length; rw [Zzz, Zzz] at this; exact this
     show wpAny (model X.prog X.w) X.A.in1.in1 (keyKind' (Zyh ks)) _ _ _
     rw [ksk_kind (keys := Zyh ks) (kz := (its.map strV).map kz) (by simpa using hi) (by simp; omega)]
     refine wpAny_pure ?_
     have kat : ∀ i, i < its.length -> ∃ t, ks.getD i Value.none = .int (kz (strV (its.getD i Value.none))) t := λi hi2 => by
      have h1 : ((its.map strV).map kz)[i]? = some (kz (strV (its.getD i Value.none))) := by
       rw [Zzx, Zzx, Zzr hi2, Zzg, Zzr hi2]; rfl
      obtain ⟨t, ht⟩ := Ei hi h1
      exact ⟨t, by rw [Zzg, ht]; rfl⟩
     refine Sz (n := its.length) (key := λi => kz (strV (its.getD i Value.none))) (Qp := λp => Srt its.length (λi => kz (strV (its.getD i Value.none))) p its.length) (λi j C hi2 hj2 hC => ?_) (λp hp => ?_) (cp h2)
     ·obtain ⟨t1, e1'⟩ := kat i hi2
      obtain ⟨t2, e2'⟩ := kat j hj2
      show wpAny _ _ (keyLt' oneType' (ks.getD i Value.none) (ks.getD j Value.none)) C _ _
      rw [e1', e2']
      exact kat_lt_int hC
     ·have nkD : kS ≠ D := Zxg hDk
      have nall : ∀ q ∈ D6 X.base s2.heap X.env.locals, q.1 ≠ kS /\ q.1 ≠ D := λq hq => by have := hlt2 q hq; exact ⟨Zyy (Nat.lt_trans this hDk), Zyy this⟩
      refine KatFin.intro Fh Nh (.head λq hq => ?_) λh3 c3 F3 N3 => KasFin.intro F3 N3 (.tail nkD (.head λq hq => (nall q hq).2)) λh4 c4 F4 N4 => ?_
      ·rcases Zzo.mp hq with z | z
       ·rw [z]; exact Zzf nkD
       ·exact (nall q z).1
      ·refine fin D h4 tk (Zyh (p.toList.map λi => its.getD i Value.none)) c4 F4 (λq hq => N4 q (Zzk _ hq)) hlt2 (λu hu => ?_) ?_
       ·have hu : u ∈ p.toList.map λi => its.getD i Value.none := by simpa using hu
        obtain ⟨i, hi2, rfl⟩ := Zzs.mp hu
        have hi3 : i < its.length := Zy9.mp (hp.pm.mem_iff.mp hi2)
        rw [Zzg, Zzr hi3]
        exact Zw3 hi3
       ·have exs : ∀ i, xs.getD i "" = strV (its.getD i Value.none) := λi => by
         rw [<- eit, Zzg, Zzg, Zzx]
         cases its[i]? <;> rfl
        refine ⟨p.toList, by rw [<- hil2]; exact hp.pm, ?_, ?_⟩
        ·rw [Zy1]
         exact Zxv λi _ => (exs i).symm
        ·have : (λi => kz (xs.getD i "")) = λi => kz (strV (its.getD i Value.none)) := funext λi => by rw [exs]
         rw [this]
         exact jt hp
    | cons v r ih =>
     intro ks don e h tk eq hi Fh Nh
     have hvm : v ∈ its := by rw [eq]; simp
     have Nh2 : News X.base X.env.locals h (D6 X.base s2.heap X.env.locals ++ [(kS, seqObj "list" (Zyh ks) e), (D, seqObj "list" #[] e1)]) := λq hq => by
      rcases Zzc.mp hq with z | z
      ·exact Nh q (Zzk _ (Zzk _ z))
      ·rcases Zzo.mp z with y | y
       ·rw [y]; exact Nh _ Zzj
       ·rw [Zzu.mp y]; exact Nh _ (Zzk _ Zzj)
     refine KatKeys.cons (wpAny_mono (step v hvm h tk _ Fh Nh2) (λv' s' hh => ?_) (λ_ _ z => z))
     obtain ⟨h3, tk3, t3, e1', e2', k3⟩ := hh
     subst e1' e2'
     have nkD : kS ≠ D := Zxg hDk
     refine KatBack.intro (F := Fh.kept k3) (N := Nh.grown k3) (U := .head λq hq => ?_) λh4 c4 F4 N4 => ?_
     ·rcases Zzo.mp hq with z | z
      ·rw [z]; exact Zzf nkD
      ·have := hlt2 q z; exact Zyy (Nat.lt_trans this hDk)
     ·exact ih (ks ++ [.int (kz (strV v)) t3]) (don ++ [v]) c4 h4 tk3 (by rw [eq]; simp) (by rw [Zzm, Zzm]; exact ksk_snoc hi) F4 N4
   exact keys its [] [] 0 h' s2.toks rfl .nil F' N'
  ·refine ksk_sorted (kz := (its.map strV).map kz) (f := .ref f) (b := false) F Sn hil (by simp) (by omega) (ksk_s1 _ _) (λx => ksk_l1 _ _) (λx => ksk_t1 _ _) (λj v kk hv hk h tk own F' N' => ?_) (λD h' tk out c F' N' hlt2 hout => ?_)
   ·have ek : kk = kz (strV v) := by
     rw [Zzx, Zzx, hv] at hk
     exact (Zzn hk).symm
    subst ek
    refine wpAny_mono (step v (Zzw hv) h tk own F' N') (λv' s' hh => ?_) (λ_ _ z => z)
    obtain ⟨h3, tk3, t3, e1, e2, k3⟩ := hh
    subst e1 e2
    exact ⟨h3, tk3, t3, rfl, rfl, F'.kept k3, N'.grown k3⟩
   ·obtain ⟨hsub, hsort⟩ := Wf hout
    rw [eit] at hsort
    exact fin D h' tk out c F' N' hlt2 hsub (Ty hsort.1 (by omega))
 ·rw [C2 hn]; rfl
 ·exact Cf hn
end
def rg (H : Hp) (a Pt : Addr) : Prop := ∀ b u, H b = some u -> (b = Pt /\ u = .tbl #[]) \/ (b = a /\ ∃ o xs, u = .frz o (.lst xs))
theorem T5 {P : Program} {w : World} {K : Frag} {mg mb : Str -> Option Value} {k : Nat} {fa a Pt ct : Addr} {fd : FuncData} {x : Str} {sp : Sp} {s₁ : Shared} {H : Hp}
  (KX : K.In s₁.heap) (hns : s₁.heap.Ns mainGlobals mg) (hb : s₁.heap.Ns builtinsNs mb) (hbb : ∀ x : Str, x ≠ "__name__" -> mb x = bootBuiltins x) (hlim : s₁.heap.NoLimit) (hg : s₁.gens = #[]) (hr : Room k callerA)
  (hT : s₁.heap.TableAt ct Pt #[]) (hBM : Ib mg s₁.heap) (hO : rg H a Pt) (hHK : ∀ b u, H b = some u -> K.lookup b = none) (ok : HOk P w H s₁.heap)
  (F : ∀ base : Heap, K.In base -> base.Ns mainGlobals mg -> Ib mg base -> Bh P w K mg base CX0 k fa fd [x] sp) (hbind : ∀ (s : Shared) (u : Value), BindsTo s fd ⟨[u], []⟩ [(x, u)])
  (hsp : sp [.ref a] H (λv _ => v = .bl true) λ_ _ _ => False) :
  codeAny (model P w) callerA (.call (.ref fa) ⟨[.ref a], []⟩) (λr s' => r = .ok (.ret (.bool true)) /\ OldK s₁.heap s'.heap /\ s'.os = s₁.os /\ AllBare s'.gens) s₁ := by
 have noD : ∀ {b : Addr} {o : Obj}, s₁.heap.get? b = some o -> (∀ vs : Array Value, o.data ≠ .fields vs) -> (∀ vs n, o.data ≠ .seq vs n) -> H b = none := λ{b o} e n1 n2 => by
  cases q : H b with
  | none => rfl
  | some u =>
   have y := ok b u q
   rcases hO b u q with ⟨_, rfl⟩ | ⟨_, ob, xs, rfl⟩
   ·have y : s₁.heap.get? b = some { cls := .none, data := .fields #[] } := y
    rw [e] at y; cases y; exact absurd rfl (n1 _)
   ·obtain ⟨_, _, its, m, _, y3⟩ := y
    rw [e] at y3; cases y3; exact absurd rfl (n2 _ _)
 have baseG : ∀ {b : Addr} {o : Obj}, s₁.heap.get? b = some o -> H b = none -> (Oi s₁.heap H).get? b = some o := λe n => Zs e n
 have nsB : ∀ {b : Addr} {m : Str -> Option Value}, s₁.heap.Ns b m -> (Oi s₁.heap H).Ns b m := λ{b m} ⟨o, es, ep, e, d, r⟩ => ⟨o, es, ep, baseG e (noD e (λ_ z => by rw [d] at z; cases z) (λ_ _ z => by rw [d] at z; cases z)), d, r⟩
 have kB : K.In (Oi s₁.heap H) := λb o e => baseG (KX b o e) (by
  cases q : H b with
  | none => rfl
  | some u => rw [hHK b u q] at e; cases e)
 have bB : Ib mg (Oi s₁.heap H) := by
  obtain ⟨bm, ob, b1, b2, b3, b4, b5, b6, b7⟩ := hBM
  exact ⟨bm, ob, b1, b2, b3, baseG b4 (noD b4 (λ_ z => by rw [b7] at z; cases z) (λ_ _ z => by rw [b7] at z; cases z)), b5, b6, b7⟩
 have mB : Mod K mg (Oi s₁.heap H) := ⟨kB, nsB hns, ⟨mb, nsB hb, hbb⟩, by obtain ⟨mc, h1, h2⟩ := hlim; exact ⟨mc, nsB h1, h2⟩⟩
 have e0 : ii P w K mg (Oi s₁.heap H) callerA [] s₁ H := ⟨rfl, mB, λb o e => fm e, Zws (Xn _ _), trivial, (λb hb => nomatch (show b ∈ ([] : List Addr) from hb)), ok, .of_eq hg⟩
 refine codeAny_mono ((F _ kB (nsB hns) bB).run callerA [] s₁ H ⟨[.ref a], []⟩ [.ref a] [.ref a] _ _ hr e0 (hbind s₁ (.ref a)) (.cons rfl .nil) hsp) λr s' h => ?_
 cases r with
 | error e => exact h.elim
 | ok fl =>
  cases fl with
  | next => exact h.elim
  | brk => exact h.elim
  | cont => exact h.elim
  | ret u =>
   obtain ⟨v, H', os, bare, un, ok', r', q⟩ := h
   have q : v = .bl true := q
   subst q
   obtain rfl : u = Value.bool true := r'
   have old : ∀ b o, s₁.heap.get? b = some o -> asItWas s₁.heap s'.heap b o := λb o e => by
    cases y : H b with
    | none => exact .inl (un.keep b o e y (by intro z; cases z) (by simp))
    | some u =>
     have ob := ok b u y
     rcases hO b u y with ⟨rfl, rfl⟩ | ⟨_, oo, xs, rfl⟩
     ·obtain ⟨more, e2⟩ := un.tbls b #[] y
      have ob : s₁.heap.get? b = some { cls := .none, data := .fields #[] } := ob
      rw [e] at ob
      cases ob
      have e3 : s'.heap.get? b = some { cls := .none, data := .fields (#[] ++ more) } := ok' b _ e2
      exact .inr (.inl ⟨hT.isCodeTable, rfl, #[], more, rfl, e3⟩)
     ·have e2 := un.frzs b oo _ y
      have e3 := (ok' b _ e2).1
      have e4 := ob.1
      rw [e] at e4
      cases e4
      exact .inl e3
   exact ⟨rfl, ⟨old, λb o e => un.there b o e (by simp)⟩, os, bare⟩
theorem Y1 {l : OpenLaw} {n k : Nat} {q : Program} {loose : List Str} {XP : (Str -> Option Value) -> Heap -> Prop} {YP : World -> Heap -> Prop} {d dw : DefRec} {K : Params -> Frag} {sp : World -> Addr -> Sp} {x wk : Str}
  (hn : l.most = some n) (hn2 : n <= sizeLine) (hdf : d.params.defaults = []) (hr : Room k callerA) (hY : ∀ (w : World) (h : Heap), YP w h -> (K w.params).In h) (hw : (recsOf q).find? (λe => e.name == wk) = some dw)
  (F : ∀ (w : World) (mg : Str -> Option Value) (fa : Addr) (h : Heap), (K w.params).In h -> h.Ns mainGlobals mg -> mg d.name = some (.ref fa) ->
   ∃ (fd : FuncData) (ct Pt : Addr), (∀ (s : Shared) (u : Value), BindsTo s fd ⟨[u], []⟩ [(x, u)]) /\ tabIn (K w.params) wk = some (ct, Pt) /\ (K w.params).lookup Pt = none /\
    ∀ base : Heap, (K w.params).In base -> base.Ns mainGlobals mg -> Ib mg base -> Bh l.prog w (K w.params) mg base CX0 k fa fd [x] (sp w Pt))
  (hsp : ∀ (w : World) (H : Hp) (a Pt : Addr) (ns : List Int), ns.length <= n -> H Pt = some (.tbl #[]) -> SqL (K w.params) H a (ns.map V.int) -> sp w Pt [.ref a] H (λv _ => v = .bl true) λ_ _ _ => False) :
  WalkO q loose XP YP l.row.toRowW d [] (λf vs => PySem.call f vs) := by
 refine Att.attach_call hn hdf λw s₀ s₁ mg mb fa o pm cd doc a vs ns G Y ho hd hcd hmg hobj hints hlen hg => ?_
 have KX := hY w _ Y
 obtain ⟨fd, ct, Pt, hbd, htab, hKP, hF⟩ := F w mg fa _ KX G.T.g hmg
 obtain ⟨hC, hP⟩ := tab_of G.T KX hw htab
 have hT := hC.tab hP
 have aP : a ≠ Pt := λz => by rw [z, hP] at hobj; cases hobj
 have hBM : Ib mg s₁.heap := by
  obtain ⟨bm, ob, b1, b2, b3, b4, b5, b6⟩ := G.T.bmain
  refine ⟨bm, ob, b1, b2, λz => ?_, b3, b4, b5, b6⟩
  obtain ⟨og, es, ep, e, dg, _⟩ := G.T.g
  rw [<- z, b3] at e
  cases e
  rw [b6] at dg
  cases dg
 have rv := Jz hints
 have lenV := hints.length
 have okP : ∀ H : Hp, ObjOk l.prog w H s₁.heap Pt (.tbl #[]) := λ_ => hP
 cases hk : (K w.params).lookup a with
 | some oa =>
  have e := KX a oa hk
  rw [hobj] at e
  cases e
  refine T5 (H := upd (λ_ => none) Pt (.tbl #[])) KX G.T.g G.T.b G.T.builtins G.T.nolimit hg hr hT hBM (λb u y => ?_) (λb u y => ?_) (λb u y => ?_) hF hbd (hsp w _ a Pt ns hlen A0 (.inr ⟨_, vs.toArray, _, hk, rfl, rfl, rfl, by rw [Zzp, lenV]; exact Zyx hlen hn2, by simpa using rv⟩))
  ·by_cases z : b = Pt
   ·subst z; rw [A0] at y; cases y; exact .inl ⟨rfl, rfl⟩
   ·rw [A5 z] at y; cases y
  ·by_cases z : b = Pt
   ·rw [z]; exact hKP
   ·rw [A5 z] at y; cases y
  ·by_cases z : b = Pt
   ·subst z; rw [A0] at y; cases y; exact okP _
   ·rw [A5 z] at y; cases y
 | none =>
  refine T5 (H := upd (upd (λ_ => none) Pt (.tbl #[])) a (.frz { cls := .type "list", data := .seq vs.toArray } (.lst (ns.map V.int)))) KX G.T.g G.T.b G.T.builtins G.T.nolimit hg hr hT hBM (λb u y => ?_) (λb u y => ?_) (λb u y => ?_) hF hbd (hsp w _ a Pt ns hlen (by rw [A5 (Zzf aP), A0]) (.inl (.inr ⟨_, A0⟩)))
  ·by_cases z2 : b = a
   ·subst z2; rw [A0] at y; cases y; exact .inr ⟨rfl, _, _, rfl⟩
   ·rw [A5 z2] at y
    by_cases z : b = Pt
    ·subst z; rw [A0] at y; cases y; exact .inl ⟨rfl, rfl⟩
    ·rw [A5 z] at y; cases y
  ·by_cases z2 : b = a
   ·rw [z2]; exact hk
   ·rw [A5 z2] at y
    by_cases z : b = Pt
    ·rw [z]; exact hKP
    ·rw [A5 z] at y; cases y
  ·by_cases z2 : b = a
   ·subst z2; rw [A0] at y; cases y
    exact ⟨hobj, by rw [Zzz]; exact Zyx hlen hn2, vs, _, rv, hobj⟩
   ·rw [A5 z2] at y
    by_cases z : b = Pt
    ·subst z; rw [A0] at y; cases y; exact okP _
    ·rw [A5 z] at y; cases y
def ao (vs : Array Value) (c P : Addr) : Bool := (match vs.getD 18 .none with | .str _ _ => true | _ => false) && (match vs.getD 7 .none with | .int _ _ => true | _ => false) && (match vs.getD 9 .none with | .bool _ => true | _ => false) && (match vs.getD 10 .none with | .int _ _ => true | _ => false) && c != P
theorem Xt {K : Frag} {c P : Addr} {od : Option Addr} {vs : Array Value} {sl : Array (Option Value)} (tl : K.lookup c = some ⟨.type "code", od, .fields vs, sl⟩) (h11 : vs[11]? = some (.ref P)) (h : ao vs c P = true) : codeHdIn K c P = true := by
 unfold codeHdIn
 rw [tl]
 simp only [h11, BEq.rfl, Bool.true_and]
 exact h
theorem Ya {K : Frag} {x : Str} {f c P : Addr} {oc : Value} {od odc : Option Addr} {fd : FuncData} {sl slc : Array (Option Value)} {vs : Array Value} (hn : nsIn K mainGlobals x = some (some (.ref f))) (hl : K.lookup f = some ⟨oc, od, .func fd, sl⟩) (hc : fd.code = .ref c) (tl : K.lookup c = some ⟨.type "code", odc, .fields vs, slc⟩) (h11 : vs[11]? = some (.ref P)) : tabIn K x = some (c, P) := by
 unfold tabIn
 simp only [hn, hl, hc, tl, h11]
theorem Te {K : Frag} {x : Str} {f c P : Addr} {oc : Value} {od : Option Addr} {fd : FuncData} {sl : Array (Option Value)} (h : tabIn K x = some (c, P)) (hn : nsIn K mainGlobals x = some (some (.ref f))) (hl : K.lookup f = some ⟨oc, od, .func fd, sl⟩) : fd.code = .ref c := by
 unfold tabIn at h
 simp only [hn, hl] at h
 split at h
 ·rename_i c' hc
  split at h
  ·split at h
   ·cases h
    exact hc
   ·cases h
  ·cases h
 ·cases h
theorem Tf {nm lv : Str} {scope : Scope} {env : Env} {cc : Addr} (hs : scope.names = [(nm, .local), (lv, .free)]) (h : env.cells.lookup lv = some cc) : closureFor scope env = pure [(lv, cc)] := by
 unfold closureFor
 rw [hs]
 simp [cellOf, h]
structure bv (K : Frag) (f c P : Addr) : Prop where
 code : ∀ oc od fd sl, K.lookup f = some ⟨oc, od, .func fd, sl⟩ -> fd.code = .ref c
 hd : codeHdIn K c P = true
theorem Fun.okC {P : Program} {w : World} {K : Frag} {mg : Str -> Option Value} {base : Heap} {x qual : Str} {st : Stmt} {f c Pt : Addr} {fd : FuncData} {N ps : List Str} {k : Nat} {sp : Sp} (F : Fun K x qual st f fd) (C : bv K f c Pt) (S : Aj N ps (Ad st)) (len : ∀ vs H Q E, sp vs H Q E -> vs.length = ps.length)
  (hbody : ∀ (A : Around) (outer : List Env) (s : Shared) (H : Hp) (vs : List V) (Q : VK) (E : XK), Room k (A.deeper (envOfC qual (Ad st) s.heap.objs.size f (.ref c))) -> sp vs H Q E ->
   ∃ t, PSs (Uq CX0 P w K mg base N qual (Ad st) f (.ref c) A outer s H E).nox (Ej st) t /\ t { nx := λ_ H' => Q .non H', rt := Q } (Hz N vs) H) : Bh P w K mg base CX0 (k + 1) f fd ps sp := by
 obtain ⟨oc, od, kV, doc, pm, an, cdv, ct, osl, rfl, lk, hcd⟩ := F.ex
 have e : cdv = .ref c := C.code _ _ _ _ lk
 subst e
 refine jf lk hcd S len λA outer s H vs Q E hr hsp => ?_
 obtain ⟨t, h, q⟩ := hbody A outer s H vs Q E hr hsp
 exact ⟨t, h.nox, q⟩
end L2
namespace NP
open PySem L2
def Ev (S : Sh) (x : Str) : List Wr := S.wares.filter λw => decide (x ∈ w.parts.map (·.1))
def lvF (S : Sh) : Nat -> Str -> Int
 | 0, _ => 0
 | k + 1, x => E6 ((Ev S x).map λu => 1 + lvF S k u.name)
def lv (S : Sh) (x : Str) : Int := lvF S S.wares.length x
structure Lev (S : Sh) : Prop where
 nd : (S.wares.map (·.name)).Nodup
 own : ∀ w ∈ S.wares, ∀ p ∈ w.parts, p.1 ∈ S.wares.map (·.name)
 low : ∃ r : Str -> Nat, (∀ w ∈ S.wares, r w.name < S.wares.length) /\ ∀ w ∈ S.wares, ∀ p ∈ w.parts, r p.1 < r w.name
theorem mem_users {S : Sh} {x : Str} {w : Wr} : w ∈ Ev S x ↔ w ∈ S.wares /\ x ∈ w.parts.map (·.1) := by
 unfold Ev
 rw [Zys]
 exact ⟨λ⟨a, b⟩ => ⟨a, of_decide_eq_true b⟩, λ⟨a, b⟩ => ⟨a, decide_eq_true b⟩⟩
theorem Ze (S : Sh) : ∀ k x, 0 <= lvF S k x
 | 0, _ => Zz0 _
 | k + 1, x => Lo λy hy => by
  obtain ⟨u, _, rfl⟩ := Zzs.mp hy
  have := Ze S k u.name
  show 0 <= 1 + lvF S k u.name
  omega
theorem Sv {S : Sh} {r : Str -> Nat} (hr : ∀ w ∈ S.wares, r w.name < S.wares.length) (hp : ∀ w ∈ S.wares, ∀ p ∈ w.parts, r p.1 < r w.name) : ∀ k w, w ∈ S.wares -> S.wares.length - r w.name <= k -> lvF S (k + 1) w.name = lvF S k w.name
 | 0, w, hw, h => by have := hr w hw; omega
 | k + 1, w, hw, h => by
  show E6 ((Ev S w.name).map λu => 1 + lvF S (k + 1) u.name) = E6 ((Ev S w.name).map λu => 1 + lvF S k u.name)
  congr 1
  apply Zxv
  intro u hu
  obtain ⟨h1, h2⟩ := mem_users.mp hu
  obtain ⟨p, hp1, hp2⟩ := Zzs.mp h2
  have h3 := hp u h1 p hp1
  rw [hp2] at h3
  have := hr u h1
  rw [Sv hr hp k u h1 (by omega)]
theorem qa {S : Sh} (L : Lev S) {w : Wr} (hw : w ∈ S.wares) : lv S w.name = E6 ((Ev S w.name).map λu => 1 + lv S u.name) := by
 obtain ⟨r, h1, h2⟩ := L.low
 have := Sv h1 h2 S.wares.length w hw (by omega)
 exact this.symm
theorem Vm (S : Sh) (x : Str) : 0 <= lv S x := Ze S _ x
theorem Lp {S : Sh} (L : Lev S) {w : Wr} (hw : w ∈ S.wares) {p : Str × Int} (hp : p ∈ w.parts) : lv S w.name + 1 <= lv S p.1 := by
 obtain ⟨v, hv, e⟩ := Zzs.mp (L.own w hw p hp)
 rw [<- e, qa L hv]
 have : 1 + lv S w.name <= E6 ((Ev S v.name).map λu => 1 + lv S u.name) := Qs (Zzs.mpr ⟨w, mem_users.mpr ⟨hw, Zzs.mpr ⟨p, hp, e.symm⟩⟩, rfl⟩)
 omega
theorem Zd {S : Sh} {k : Nat} {g : Str -> Int} (h0 : ∀ x, 0 <= g x) (h : ∀ w ∈ S.wares, ∀ p ∈ w.parts, 1 + lvF S k w.name <= g p.1) (x : Str) : lvF S (k + 1) x <= g x := by
 show E6 ((Ev S x).map λu => 1 + lvF S k u.name) <= g x
 unfold E6
 split
 ·exact h0 x
 ·rename_i hn
  obtain ⟨u, hu, e⟩ := Zzs.mp (Jj hn)
  rw [<- e]
  obtain ⟨h1, h2⟩ := mem_users.mp hu
  obtain ⟨p, hp1, hp2⟩ := Zzs.mp h2
  rw [<- hp2]
  exact h u h1 p hp1
def fnD (names : List Str) (g : Str -> Int) : List (Key × V) := names.map λx => (Zy2 x, V.int (g x))
theorem Rf (names : List Str) (g : Str -> Int) : (fnD names g).length = names.length := by unfold fnD; rw [Zzz]
theorem Jq {names : List Str} {g : Str -> Int} {x : Str} (h : x ∈ names) : B1 (fnD names g) (.inr x) = some (.int (g x)) := by
 induction names with
 | nil => cases h
 | cons y r ih =>
  unfold fnD
  rw [Zzd]
  by_cases e : y = x
  ·rw [C6 (by rw [e])]
   rw [e]
  ·rw [C1 (λz => e (Zxh z))]
   exact ih ((Zzo.mp h).resolve_left λz => e z.symm)
theorem Zz {names : List Str} {g : Str -> Int} {x : Str} (h : x ∉ names) : B1 (fnD names g) (.inr x) = none := by
 induction names with
 | nil => rfl
 | cons y r ih =>
  unfold fnD
  rw [Zzd, C1 (λz => h (by rw [<- Zxh z]; exact Zzj))]
  exact ih λm => h (Zzk _ m)
theorem gp {names : List Str} {g : Str -> Int} {y : Str} {v : Int} (h : y ∈ names) : B8 (fnD names g) (.inr y) (.int v) = fnD names λx => if x = y then v else g x := by
 unfold B8
 rw [if_pos (by rw [D1, Jq h]; rfl)]
 unfold fnD
 rw [Zy1]
 apply Zxv
 intro x _
 show (if Zy2 x = (Zy2 y : Key) then (Zy2 x, V.int v) else (Zy2 x, V.int (g x))) = (Zy2 x, V.int (if x = y then v else g x))
 by_cases e : x = y
 ·rw [if_pos (by rw [e]), if_pos e]
 ·rw [if_neg (λz => e (Zxh z)), if_neg e]
theorem Ko {names : List Str} {g g' : Str -> Int} (h : ∀ x ∈ names, g x = g' x) : fnD names g = fnD names g' := by
 unfold fnD
 exact Zxv λx hx => by rw [h x hx]
theorem Vu {names : List Str} {g : Str -> Int} {y : Str} {v : Int} (h : y ∉ names) : B8 (fnD names g) (.inr y) (.int v) = fnD (names ++ [y]) λx => if x = y then v else g x := by
 rw [Gv _ (Zz h)]
 unfold fnD
 rw [Zzm]
 congr 1
 ·refine Zxv λx hx => ?_
  show (Zy2 x, V.int (g x)) = (Zy2 x, V.int (if x = y then v else g x))
  rw [if_neg (λe : x = y => h (e ▸ hx))]
 ·show [(Zy2 y, V.int v)] = [(Zy2 y, V.int (if y = y then v else g y))]
  rw [if_pos rfl]
theorem Cv {xs : List Str} (nd : xs.Nodup) {i : Nat} {x : Str} (h : xs[i]? = some x) : x ∉ xs.take i := by
 intro m
 obtain ⟨j, hj⟩ := Zxt.mp m
 rw [Zwi] at hj
 split at hj
 ·rename_i hlt
  have hj2 : j < xs.length := (Zzh.mp hj).1
  have := (List.getElem?_inj hj2 nd).mp (hj.trans h.symm)
  omega
 ·cases hj
end NP
namespace L2
open PySem PySem.Spec PyProof.Rows
def ItV (a : Addr) (xs : List V) : It := ⟨λi H => H a = some (.lst xs) /\ i < xs.length, λi H x H' => H' = H /\ xs.reverse[i]? = some x, λi H => H a = some (.lst xs) /\ i = xs.length⟩
theorem qk (a : Addr) (xs : List V) : On (ItV a xs) xs.length (λi x => xs.reverse[i]? = some x) (λH => H a = some (.lst xs)) :=
 ⟨λ_ _ h o => ⟨o, h⟩, λ_ _ _ _ _ _ y => y, λ_ o => ⟨o, rfl⟩⟩
theorem Y7 {P : Program} {w : World} {K : Zzv} {tg : Expr} (a it : Addr) (xs : List V) : Ks P w K tg (ItV a xs) [it] it (λi h => i <= xs.length /\ h.IsRevIter it a ((xs.length : Int) - 1 - (i : Int))) where
 mem := by simp
 obj := λi h st b hb => by
  have e : b = it := by simpa using hb
  subst e
  obtain ⟨_, o, e, c, d⟩ := st
  exact ⟨o, e, λv z => by rw [d] at z; cases z⟩
 keep := λi h h' st k => ⟨st.1, st.2.at λo e => k it (by simp) o e⟩
 item := by
  intro X hP hw hK hc i pins s Z H E I hf st hg
  subst hP hw hK
  obtain ⟨hq, hlt⟩ := hg
  obtain ⟨its, rv, hl, hal⟩ := Av I hq
  obtain ⟨f0, f1, f2, f3, f4, f5⟩ := hf it (by simp)
  have hai : a ≠ it := A6 hq f0
  have hlen := rv.length
  have hsz : its.toArray.size = xs.length := by rw [Zzp]; exact hlen.symm
  have st2 : s.heap.IsRevIter it a ((its.toArray.size : Int) - 1 - (i : Int)) := by rw [hsz]; exact st.2
  refine (Walks.listRev (prog := X.prog) (w := X.w) (A := X.A) (I.ok.hd hc) it a hai its.toArray).item i s _ E (by omega) ⟨by omega, st2, hl⟩ λv h' tk hx st3 hk => ?_
  have I1 : Inv X pins Z H { s with heap := h', toks := tk } := I.turned (t' := tk) (λb o hb e => hk b o (by simpa using hb) e) f0 f1 f3 f4 f5
  obtain ⟨_, ⟨oi, ei, ci, di⟩, _⟩ := id st3
  have hlt2 : its.length - 1 - i < its.length := by omega
  have hx : its[its.length - 1 - i]? = some v := by rw [hsz, hlen] at hx; simpa using hx
  obtain ⟨u, hu, ru⟩ := rv.get (x := xs[xs.length - 1 - i]) (i := xs.length - 1 - i) (by simp [show xs.length - 1 - i < xs.length by omega])
  have eu : u = v := by rw [hlen, hx] at hu; exact (Zzn hu).symm
  subst eu
  refine ⟨u, rfl, T6 (s := { s with heap := h', toks := tk }) ei ci di (by decide) ⟨xs[xs.length - 1 - i], H, I1, ru, ⟨rfl, ?_⟩, ?_, λb hb => (hf b hb).1⟩⟩
  ·rw [List.getElem?_reverse hlt]
   simp [show xs.length - 1 - i < xs.length by omega]
  ·have := st3.2.1
   rw [hsz] at this
   exact ⟨hlt, this⟩
 done := by
  intro X hP hw hK hc i pins s Z H E I hf st hg
  subst hP hw hK
  obtain ⟨hq, hlt⟩ := hg
  obtain ⟨its, rv, hl, hal⟩ := Av I hq
  obtain ⟨f0, f1, f2, f3, f4, f5⟩ := hf it (by simp)
  have hai : a ≠ it := A6 hq f0
  have hlen := rv.length
  have hsz : its.toArray.size = xs.length := by rw [Zzp]; exact hlen.symm
  subst hlt
  have st2 : s.heap.IsRevIter it a ((its.toArray.size : Int) - 1 - ((its.toArray.size : Nat) : Int)) := by rw [hsz]; exact st.2
  exact (Walks.listRev (prog := X.prog) (w := X.w) (A := X.A) (I.ok.hd hc) it a hai its.toArray).done s _ E ⟨Zzt _, st2, hl⟩ λh' tk hk => ⟨rfl, I.turned (t' := tk) (λb o hb e => hk b o (by simpa using hb) e) f0 f1 f3 f4 f5⟩
 self := λ_ _ _ _ _ st h => wpAny_pyIter_revIter st.2 h
section
variable {X : Cx}
def qh (ta : TA) : TI := λZ H R => ta Z H λvs H1 => ∃ a xs, vs = [.ref a] /\ H1 a = some (.lst xs) /\ R (ItV a xs) H1
theorem jz {tg : Expr} {p pos : Pos} {e : Expr} {ta : TA} (hg : Gl X "reversed") (hm : X.mg "reversed" = none) (ha : PA X [e] ta) (hn : By [e] = true := by rfl) : PI X tg (.Call (.Name "reversed" p) [e] [] pos) (qh ta) := by
 intro pins s Z H R I h
 refine Call_ (E9 I hg hm NP.Ti (Zya (thn (ha pos pins s Z H _ I h) λus s1 ⟨vs, H1, I1, r1, q1⟩ => ?_) (C2 hn) rfl))
 obtain ⟨a, xs, e, hq, q⟩ := q1
 subst e
 obtain ⟨u, rfl, ru⟩ := Eu r1
 cases ru
 obtain ⟨its, rv, hl, hal⟩ := Av I1 hq
 have hlen := rv.length
 refine call_reversed_list hl ?_
 have hrv : (s1.heap.push (revObj a ((its.toArray.size : Int) - 1))).IsRevIter s1.heap.objs.size a ((xs.length : Int) - 1 - ((0 : Nat) : Int)) := by
  refine ⟨_, Zzi _ rfl, rfl, ?_⟩
  rw [Zzp, <- hlen]
  simp [revObj]
 have I2 : Inv X pins Z H1 { s1 with heap := s1.heap.push (revObj a ((its.toArray.size : Int) - 1)) } := I1.kept (t' := s1.toks) λb o e => Zzy _ e
 refine wpAny_pyIter_revIter (s := { s1 with heap := s1.heap.push (revObj a ((its.toArray.size : Int) - 1)) }) hrv ⟨_, [_], _, _, H1, rfl, I2, Y7 a _ xs, ⟨Zz3 _, hrv⟩, λb hb => ?_, q⟩
 have e := Zzu.mp hb
 subst e
 exact I1.fpOk (Zzt _) (I1.hok.fresh (Zzt _))
end
end L2
namespace NP
open PySem L2
def Gm (S : Sh) (x : Str) : Option Wr := S.wares.find? λw => decide (w.name = x)
theorem Fq {S : Sh} (nd : (S.wares.map (·.name)).Nodup) {w : Wr} (hw : w ∈ S.wares) : Gm S w.name = some w := by
 unfold Gm
 cases e : S.wares.find? (λv => decide (v.name = w.name)) with
 | none =>
  have := List.find?_eq_none.mp e w hw
  simp at this
 | some v =>
  have h1 : v.name = w.name := of_decide_eq_true (by simpa using List.find?_some e)
  have h2 := List.mem_of_find?_eq_some e
  obtain ⟨i, hi, ei⟩ := Zvx.mp hw
  obtain ⟨j, hj, ej⟩ := Zvx.mp h2
  have : (S.wares.map (·.name))[i]? = (S.wares.map (·.name))[j]? := by
   rw [Zzx, Zzx, Zzr hi, Zzr hj, ei, ej]
   show some w.name = some v.name
   rw [h1]
  have e2 := (List.getElem?_inj (by rw [Zzz]; exact hi) nd).mp this
  subst e2
  rw [<- ei, <- ej]
def tmF (S : Sh) : Nat -> Str -> Int
 | 0, _ => 0
 | k + 1, x => match Gm S x with
  | some w => w.lag + E6 (w.parts.map λp => tmF S k p.1)
  | none => 0
def tm (S : Sh) (x : Str) : Int := tmF S S.wares.length x
theorem Ly {S : Sh} (L : Lev S) (k : Nat) {w : Wr} (hw : w ∈ S.wares) : tmF S (k + 1) w.name = w.lag + E6 (w.parts.map λp => tmF S k p.1) := by
 rw [tmF, Fq L.nd hw]
theorem Rt {S : Sh} (L : Lev S) {r : Str -> Nat} (hp : ∀ w ∈ S.wares, ∀ p ∈ w.parts, r p.1 < r w.name) : ∀ k w, w ∈ S.wares -> r w.name < k -> tmF S (k + 1) w.name = tmF S k w.name
 | 0, w, _, h => by omega
 | k + 1, w, hw, h => by
  rw [Ly L _ hw, Ly L _ hw]
  congr 2
  apply Zxv
  intro p hpm
  obtain ⟨v, hv, e⟩ := Zzs.mp (L.own w hw p hpm)
  have h3 := hp w hw p hpm
  rw [<- e] at h3 ⊢
  exact Rt L hp k v hv (by omega)
theorem Y9 {S : Sh} (L : Lev S) {w : Wr} (hw : w ∈ S.wares) : tm S w.name = w.lag + E6 (w.parts.map λp => tm S p.1) := by
 obtain ⟨r, h1, h2⟩ := L.low
 have h3 := Rt L h2 S.wares.length w hw (h1 w hw)
 rw [Ly L _ hw] at h3
 exact h3.symm
theorem Sd {S : Sh} (L : Lev S) {ys : List Str} (so : Ld (lv S) (S.wares.map (·.name)) ys) {j : Nat} {w : Wr} (hw : w ∈ S.wares) (hj : ys.reverse[j]? = some w.name) {p : Str × Int} (hp : p ∈ w.parts) : p.1 ∈ ys.reverse.take j := by
 have hlv := Lp L hw hp
 have hm : p.1 ∈ ys.reverse := by rw [List.mem_reverse]; exact so.1.mem_iff.mpr (L.own w hw p hp)
 have pw : ys.reverse.Pairwise λa b => lv S b <= lv S a := by rw [List.pairwise_reverse]; exact so.2
 obtain ⟨i, hi⟩ := Zxt.mp hm
 obtain ⟨hil, ei⟩ := Zzh.mp hi
 obtain ⟨hjl, ej⟩ := Zzh.mp hj
 have hlt : i < j := by
  rcases Nat.lt_trichotomy i j with z | z | z
  ·exact z
  ·subst z
   rw [ei] at ej
   rw [ej] at hlv
   omega
  ·have := Zxu.mp pw j i hjl hil z
   rw [ei, ej] at this
   omega
 exact Zzw (i := i) (by rw [Zwi, if_pos hlt]; exact hi)
end NP
namespace L2
open PySem PySem.Spec PyProof.Rows PySem.W NP
section
variable {X : Cx} {pins : List (Addr × Obj)} {Z : St} {H : Hp} {s : Shared} {h' : Heap}
theorem Inv.laidF {a : Addr} {o : HO} {t' : Nat} (I : Inv X pins Z H s) (k : ∀ b u, s.heap.get? b = some u -> h'.get? b = some u) (fr : ∀ b u, s.heap.get? b = some u -> b ≠ a) (hn : H a = none) (new : ObjOk X.prog X.w (upd H a o) h' a o) :
  Inv X pins Z (upd H a o) { s with heap := h', toks := t' } := by
 refine I.un ⟨λb u e _ _ _ => k b u e, λb u e _ _ _ => ⟨u.slots, k b u e⟩, λb u e n _ => by rw [A5 (fr b u e)]; exact n, λb u e _ => ⟨u, k b u e⟩, λb xs e => by rw [A5 (A6 e hn)]; exact e, λb u v e => by rw [A5 (A6 e hn)]; exact e, λb ps e => ⟨#[], by rw [A5 (A6 e hn), e]; simp⟩⟩ λb u e => ?_
 by_cases hb : b = a
 ·subst hb
  rw [A0] at e
  cases e
  exact new
 ·rw [A5 hb] at e
  exact (I.hok b u e).stay (λb' u' _ q => k b' u' q) (λb' q => by rw [A5 (A6 q hn)]; exact q) λb' xs q => by rw [A5 (A6 q hn)]; exact q
end
section
variable {X : Cx}
end
end L2
set_option maxHeartbeats 4000000
namespace L2
open PySem PyProof.Rows
theorem Oq {kz : Str -> Int} {xs ys zs : List Str} (h : G1 kz xs ys) (h' : G1 kz xs zs) : ys = zs := by
 obtain ⟨ps, p1, rfl, p2⟩ := h
 obtain ⟨qs, q1, rfl, q2⟩ := h'
 have e : ps = qs := List.Perm.eq_of_pairwise (λa b _ _ h1 h2 => by unfold klt at h1 h2; omega) p2 q2 (p1.trans q1.symm)
 rw [e]
end L2
set_option exponentiation.threshold 4000
namespace L2
open PySem PySem.Spec PyProof.Rows
end L2
namespace NP
open PySem L2
def Bl (m g : Int) : Int := if -(-m / g) > 0 then -(-m / g) else 0
theorem Xc (m g : Int) : 0 <= Bl m g := by unfold Bl; split <;> omega
theorem O4 {m g : Int} (h : 0 < g) : m <= g * Bl m g := by
 have h1 := Int.mul_ediv_add_emod (-m) g
 have h2 := Int.emod_nonneg (-m) (b := g) (by omega)
 have h3 : g * (-(-m / g)) = -(g * (-m / g)) := Int.mul_neg ..
 unfold Bl
 split
 ·rw [h3]; omega
 ·rename_i q
  have h4 : 0 <= -m / g := by omega
  have h5 : 0 <= g * (-m / g) := Zvr (by omega) h4
  omega
theorem Qt {m g : Int} (h : 0 < g) (hl : 0 < Bl m g) : g * Bl m g < m + g := by
 have h1 := Int.mul_ediv_add_emod (-m) g
 have h2 := Zvq (-m) h
 have h3 : g * (-(-m / g)) = -(g * (-m / g)) := Int.mul_neg ..
 unfold Bl at hl ⊢
 split
 ·rw [h3]; omega
 ·rename_i q
  rw [if_neg q] at hl
  omega
theorem Xd {m g : Int} (h : 0 < g) (hm : 0 <= m) : Bl m g <= m := by
 by_cases hz : 0 < Bl m g
 ·have h1 := Qt h hz
  have h2 : Bl m g * 1 <= Bl m g * g := Zwt (by omega) (by omega)
  have h3 : g * Bl m g = Bl m g * g := Int.mul_comm ..
  have h4 : (g - 1) * 1 <= (g - 1) * Bl m g := Zwt (by omega) (by omega)
  have h5 : (g - 1) * Bl m g = g * Bl m g - Bl m g := by rw [Int.sub_mul, Int.one_mul]
  omega
 ·omega
def cm : List Int -> Int
 | [] => 0
 | x :: r => x + cm r
def bw (us : List Wt) (x : Str) : Int := cm (us.map λu => if u.1 = x then u.2.2 else 0)
def jp (L : Str -> Int) (w : Wr) (x : Str) : Int := cm (w.parts.map λp => if p.1 = x then L w.name * p.2 else 0)
def cg (ws : List Wr) (L : Str -> Int) (x : Str) : Int := cm (ws.map λw => jp L w x)
def kt (S : Sh) (L : Str -> Int) (x : Str) : Int := bw S.wants x + cg S.wares L x
def exF (S : Sh) : Nat -> Str -> Int
 | 0, _ => 0
 | k + 1, x => match Gm S x with
  | some w => Bl (kt S (exF S k) x) w.gives
  | none => 0
def ex (S : Sh) (x : Str) : Int := exF S S.wares.length x
theorem Ek {S : Sh} {x : Str} {w : Wr} (h : Gm S x = some w) : w ∈ S.wares /\ w.name = x := ⟨List.mem_of_find?_eq_some h, of_decide_eq_true (by simpa using List.find?_some h)⟩
theorem Kz {m g : Int} (h : 0 < g) (hm : m <= 0) : Bl m g = 0 := by
 unfold Bl
 have : 0 <= -m / g := Int.ediv_nonneg (by omega) (by omega)
 rw [if_neg (by omega)]
def above (f g : Int) (xs ys : List Int) : Nat -> Int
 | 0 => -f
 | i + 1 => above f g xs ys i + (xs.getD i 0 - ys.getD i 0) + g * Bl (-(above f g xs ys i + (xs.getD i 0 - ys.getD i 0))) g
def Gn (f g : Int) (xs ys : List Int) (i : Nat) : Int := Bl (-(above f g xs ys i + (xs.getD i 0 - ys.getD i 0))) g
def lots (f g : Int) (xs ys : List Int) (n : Nat) : List Int := (Zz9 n).map (Gn f g xs ys)
theorem Sw (f g : Int) (xs ys : List Int) (n : Nat) : (lots f g xs ys n).length = n := by simp [lots]
theorem Xb (f g : Int) (xs ys : List Int) (n : Nat) : lots f g xs ys (n + 1) = lots f g xs ys n ++ [Gn f g xs ys n] := by
 unfold lots
 rw [Zyg, Zzm]
 rfl
theorem Zf {f g : Int} {xs ys : List Int} {n i : Nat} (h : i < n) : (lots f g xs ys n)[i]? = some (Gn f g xs ys i) := by simp [lots, h]
theorem Ki {f g : Int} {xs ys : List Int} {n i : Nat} (h : i < n) : (lots f g xs ys n).getD i 0 = Gn f g xs ys i := by rw [Zzg, Zf h]; rfl
theorem Ux (f g : Int) (xs ys : List Int) (i : Nat) : above f g xs ys (i + 1) = above f g xs ys i + (xs.getD i 0 - ys.getD i 0) + g * Gn f g xs ys i := rfl
theorem Tm {f g : Int} {xs ys : List Int} (hg : 0 < g) (i : Nat) : 0 <= above f g xs ys (i + 1) := by
 have := O4 (m := -(above f g xs ys i + (xs.getD i 0 - ys.getD i 0))) hg
 rw [Ux]
 unfold Gn
 omega
theorem Zg (f g : Int) (xs ys : List Int) (i : Nat) : 0 <= Gn f g xs ys i := Xc _ _
theorem ba {f g : Int} {xs ys : List Int} (hg : 0 < g) (hf : 0 <= f) (i : Nat) : -f <= above f g xs ys i := by
 cases i with
 | zero => exact Zz0 _
 | succ i => have := Tm (f := f) (xs := xs) (ys := ys) hg i; omega
theorem Zh {f g : Int} {xs ys : List Int} (hg : 0 < g) (hf : 0 <= f) {i : Nat} (hx : 0 <= xs.getD i 0) (hy : 0 <= ys.getD i 0) : Gn f g xs ys i <= f + ys.getD i 0 := by
 have h1 := ba (f := f) (xs := xs) (ys := ys) hg hf i
 unfold Gn
 by_cases h : 0 <= -(above f g xs ys i + (xs.getD i 0 - ys.getD i 0))
 ·have := Xd hg h
  omega
 ·rw [Kz hg (by omega)]
  omega
def LRF (S : Sh) : Nat -> Str -> List Int
 | 0, _ => []
 | k + 1, x => match Gm S x with
  | some w => lots w.floor w.gives (Au (daysN S) (Cb w)) (B4 S (LRF S k) x) (daysN S)
  | none => []
def LR (S : Sh) (x : Str) : List Int := LRF S S.wares.length x
theorem Qo {S : Sh} {plan plan' : Str -> List Int} {nm : Str} (h : ∀ t ∈ S.wares, ∀ p ∈ t.parts, p.1 = nm -> plan t.name = plan' t.name) (d : Nat) : C8 S plan nm d = C8 S plan' nm d := by
 unfold C8
 congr 1
 refine G2 λt ht => ?_
 unfold pAt
 refine G2 λp hp => ?_
 by_cases e : p.1 = nm
 ·rw [if_pos e, if_pos e, h t ht p hp e]
 ·rw [if_neg e, if_neg e]
theorem Mo {S : Sh} {plan plan' : Str -> List Int} {nm : Str} (h : ∀ t ∈ S.wares, ∀ p ∈ t.parts, p.1 = nm -> plan t.name = plan' t.name) : B4 S plan nm = B4 S plan' nm := Ch λd _ => Qo h d
theorem Nm {S : Sh} (L : Lev S) (k : Nat) {w : Wr} (hw : w ∈ S.wares) : LRF S (k + 1) w.name = lots w.floor w.gives (Au (daysN S) (Cb w)) (B4 S (LRF S k) w.name) (daysN S) := by rw [LRF, Fq L.nd hw]
theorem Tp {S : Sh} (L : Lev S) {r : Str -> Nat} (hr : ∀ w ∈ S.wares, r w.name < S.wares.length) (hp : ∀ w ∈ S.wares, ∀ p ∈ w.parts, r p.1 < r w.name) : ∀ k w, w ∈ S.wares -> S.wares.length - r w.name <= k -> LRF S (k + 1) w.name = LRF S k w.name
 | 0, w, hw, h => by have := hr w hw; omega
 | k + 1, w, hw, h => by
  rw [Nm L _ hw, Nm L _ hw]
  congr 1
  refine Mo λu hu p hpm e => ?_
  have h3 := hp u hu p hpm
  rw [e] at h3
  have := hr u hu
  exact Tp L hr hp k u hu (by omega)
theorem To {S : Sh} (L : Lev S) {w : Wr} (hw : w ∈ S.wares) : LR S w.name = lots w.floor w.gives (Au (daysN S) (Cb w)) (B4 S (LR S) w.name) (daysN S) := by
 obtain ⟨r, h1, h2⟩ := L.low
 have h3 := Tp L h1 h2 S.wares.length w hw (by omega)
 rw [Nm L _ hw] at h3
 exact h3.symm
theorem Kt {S : Sh} (L : Lev S) {w : Wr} (hw : w ∈ S.wares) : (LR S w.name).length = daysN S := by rw [To L hw, Sw]
theorem Rx {S : Sh} (L : Lev S) {ys : List Str} (so : Ld (lv S) (S.wares.map (·.name)) ys) {i : Nat} {nm : Str} (hi : ys[i]? = some nm) {t : Wr} (ht : t ∈ S.wares) {p : Str × Int} (hp : p ∈ t.parts) (e : p.1 = nm) : t.name ∈ ys.take i := by
 have h1 := Lp L ht hp
 rw [e] at h1
 obtain ⟨j, hj⟩ := Zxt.mp (so.1.mem_iff.mpr (Zzs.mpr ⟨t, ht, rfl⟩))
 obtain ⟨hil, ei⟩ := Zzh.mp hi
 obtain ⟨hjl, ej⟩ := Zzh.mp hj
 have hlt : j < i := by
  rcases Nat.lt_trichotomy j i with z | z | z
  ·exact z
  ·subst z
   rw [ei] at ej
   rw [ej] at h1
   omega
  ·have := Zxu.mp so.2 i j hil hjl z
   rw [ei, ej] at this
   omega
 exact Zzw (i := j) (by rw [Zwi, if_pos hlt]; exact hj)
structure Uy (S : Sh) : Prop where
 wb : ∀ w ∈ S.wares, (1 <= w.gives /\ w.gives <= 10 ^ 41) /\ (0 <= w.floor /\ w.floor <= 10 ^ 41) /\ 0 <= w.stock /\ w.parts.length <= 12 /\ ∀ p ∈ w.parts, 1 <= p.2 /\ p.2 <= 10 ^ 41
 com : ∀ w ∈ S.wares, ∀ p ∈ w.coming, 0 <= p.2
 few : S.wares.length <= 12
 wt : S.wants.length <= 20 /\ ∀ u ∈ S.wants, 0 <= u.2.2 /\ u.2.2 <= 10 ^ 41
theorem Lk {α : Type} {l : List α} {f : α -> Int} (h : ∀ x ∈ l, 0 <= f x) : 0 <= Bu f l := by
 induction l with
 | nil => exact Zz0 _
 | cons x r ih =>
  rw [Ft]
  have h1 := h x Zzj
  have h2 := ih λy hy => h y (Zzk _ hy)
  omega
theorem Pq {α : Type} {l : List α} {f : α -> Int} {c : Int} {n : Nat} (hc : 0 <= c) (hl : l.length <= n) (h : ∀ x ∈ l, f x <= c) : Bu f l <= n * c := by
 induction l generalizing n with
 | nil => exact Zvr (Int.natCast_nonneg n) hc
 | cons x r ih =>
  cases n with
  | zero => cases hl
  | succ n =>
   rw [Ft]
   have h1 := h x Zzj
   have h2 := ih (n := n) (Nat.le_of_succ_le_succ hl) λy hy => h y (Zzk _ hy)
   have e : ((n + 1 : Nat) : Int) * c = n * c + c := by rw [Int.natCast_add, Int.add_mul]; simp
   omega
theorem Vt {xs : List Int} {B : Int} (hB : 0 <= B) (h : ∀ x ∈ xs, 0 <= x /\ x <= B) (i : Nat) : 0 <= xs.getD i 0 /\ xs.getD i 0 <= B := by
 rw [Zzg]
 cases e : xs[i]? with
 | none => exact ⟨Zz0 _, hB⟩
 | some x => exact h x (Zzw e)
theorem Uv {xs : List Int} {B : Int} (hB : 0 <= B) (h : ∀ x ∈ xs, 0 <= x /\ x <= B) (lag : Int) (d : Nat) : 0 <= bAt xs lag d /\ bAt xs lag d <= B := by
 unfold bAt
 split
 ·exact Vt hB h _
 ·exact ⟨Zz0 _, hB⟩
theorem X4 {S : Sh} (E : Uy S) {plan : Str -> List Int} {B : Int} (hB : 0 <= B) (h : ∀ nm, ∀ x ∈ plan nm, 0 <= x /\ x <= B) (nm : Str) (d : Nat) : 0 <= C8 S plan nm d /\ C8 S plan nm d <= 20 * 10 ^ 41 + 12 * (12 * (10 ^ 41 * B)) := by
 have hB2 : 0 <= 10 ^ 41 * B := Zvr (by decide +kernel) hB
 have w0 : 0 <= Bu (wAt nm d) S.wants := Lk λu hu => by
  unfold wAt
  split
  ·exact (E.wt.2 u hu).1
  ·exact Zz0 _
 have w1 : Bu (wAt nm d) S.wants <= (20 : Nat) * (10 : Int) ^ 41 := Pq (by decide +kernel) E.wt.1 λu hu => by
  unfold wAt
  split
  ·exact (E.wt.2 u hu).2
  ·decide +kernel
 have p0 : 0 <= Bu (pAt plan nm d) S.wares := Lk λt ht => Lk λp hp => by
  split
  ·exact Zvr (by have := ((E.wb t ht).2.2.2.2 p hp).1; omega) (Uv hB (h t.name) t.lag d).1
  ·exact Zz0 _
 have p1 : Bu (pAt plan nm d) S.wares <= (12 : Nat) * (12 * (10 ^ 41 * B)) := Pq (by omega) E.few λt ht => by
  have : pAt plan nm d t <= (12 : Nat) * (10 ^ 41 * B) := Pq hB2 (E.wb t ht).2.2.2.1 λp hp => by
   split
   ·have h3 := (E.wb t ht).2.2.2.2 p hp
    have h4 := Uv hB (h t.name) t.lag d
    exact Int.mul_le_mul h3.2 h4.2 h4.1 (by decide +kernel)
   ·exact hB2
  exact this
 unfold C8
 exact ⟨by omega, Int.add_le_add w1 p1⟩
theorem Tl {S : Sh} (E : Uy S) {w : Wr} (hw : w ∈ S.wares) (d : Nat) : 0 <= Cb w d := by
 unfold Cb
 have h1 : 0 <= (if d = 0 then w.stock else 0) := by
  split
  ·exact (E.wb w hw).2.2.1
  ·exact Zz0 _
 have h2 : 0 <= Bu (cAt d) w.coming := Lk λp hp => by
  unfold cAt
  split
  ·exact E.com w hw p hp
  ·exact Zz0 _
 omega
theorem bo {S : Sh} (E : Uy S) : ∀ (k : Nat) (nm : Str), ∀ x ∈ LRF S k nm, 0 <= x /\ x <= 10 ^ (45 * k)
 | 0, nm, x, h => by cases h
 | k + 1, nm, x, h => by
  have hB : (0 : Int) <= 10 ^ (45 * k) := Int.pow_nonneg (by decide)
  have h1 : (1 : Int) <= 10 ^ (45 * k) := Int.pow_pos (by decide)
  have e : (10 : Int) ^ (45 * (k + 1)) = 10 ^ (45 * k) * 10 ^ 45 := by rw [<- Int.pow_add]; rfl
  rw [LRF] at h
  split at h
  ·rename_i w hw
   have hw2 := (Ek hw).1
   unfold lots at h
   obtain ⟨i, hi, rfl⟩ := Zzs.mp h
   have hi := Zy9.mp hi
   have hwb := E.wb w hw2
   have hn := X4 E hB (λy => bo E k y) nm i
   have e1 : (Au (daysN S) (Cb w)).getD i 0 = Cb w i := Cc hi
   have e2 : (B4 S (LRF S k) nm).getD i 0 = C8 S (LRF S k) nm i := Cc hi
   have h2 := Zh (f := w.floor) (g := w.gives) (xs := Au (daysN S) (Cb w)) (ys := B4 S (LRF S k) nm) (i := i) (by omega) hwb.2.1.1 (by rw [e1]; exact Tl E hw2 i) (by rw [e2]; exact hn.1)
   rw [e2] at h2
   refine ⟨Zg _ _ _ _ _, ?_⟩
   rw [e]
   have hn2 := hn.2
   have hf := hwb.2.1.2
   generalize (10 : Int) ^ (45 * k) = B at hB h1 hn2 ⊢
   omega
  ·cases h
theorem W5 {S : Sh} (E : Uy S) (nm : Str) : ∀ x ∈ LR S nm, 0 <= x /\ x < 10 ^ 600 := λx hx => by
 have h1 := bo E S.wares.length nm x hx
 have h2 : (10 : Int) ^ (45 * S.wares.length) <= 10 ^ (45 * 12) := by
  have : (10 : Nat) ^ (45 * S.wares.length) <= 10 ^ (45 * 12) := Nat.pow_le_pow_right (by decide) (Nat.mul_le_mul_left _ E.few)
  exact_mod_cast this
 exact ⟨h1.1, Zy8 (Zxq h1.2 h2) (by decide +kernel)⟩
def Cn (row : List Int) (lag : Int) : Nat -> Option Nat
 | 0 => none
 | n + 1 => match Cn row lag n with
  | some d => some d
  | none => if (n : Int) < lag /\ 0 < row.getD n 0 then some n else none
def Cp (row : List Int) (lag : Int) : Option Nat := Cn row lag row.length
theorem Ha {row : List Int} {lag : Int} : ∀ {n : Nat}, Cn row lag n = none -> ∀ e, e < n -> ¬ ((e : Int) < lag /\ 0 < row.getD e 0)
 | 0, _, e, he => absurd he (Nat.not_lt_zero _)
 | n + 1, h, e, he => by
  rw [Cn] at h
  split at h
  ·cases h
  ·rename_i q
   split at h
   ·cases h
   ·rename_i c
    by_cases z : e = n
    ·subst z
     exact c
    ·exact Ha q e (by omega)
theorem N8 {row : List Int} {lag : Int} {n d : Nat} (h : Cn row lag n = some d) : ∀ k, Cn row lag (n + k) = some d
 | 0 => h
 | k + 1 => by
  show Cn row lag ((n + k) + 1) = some d
  rw [Cn, N8 h k]
theorem Uo {row : List Int} {lag : Int} {n d : Nat} (h : Cn row lag n = some d) (hn : n <= row.length) : Cp row lag = some d := by
 have := N8 h (row.length - n)
 rw [Zvt hn] at this
 exact this
theorem L8 {row : List Int} {lag : Int} : ∀ {n d : Nat}, Cn row lag n = some d -> d < n /\ (d : Int) < lag /\ 0 < row.getD d 0 /\ ∀ e, e < d -> ¬ ((e : Int) < lag /\ 0 < row.getD e 0)
 | 0, d, h => by cases h
 | n + 1, d, h => by
  rw [Cn] at h
  split at h
  ·rename_i d' e
   obtain rfl := Zzn h
   obtain ⟨h1, h2, h3, h4⟩ := L8 e
   exact ⟨by omega, h2, h3, h4⟩
  ·rename_i e
   split at h
   ·rename_i c
    obtain rfl := Zzn h
    exact ⟨by omega, c.1, c.2, λi hi => Ha e i hi⟩
   ·cases h
def Dt (S : Sh) (plan : Str -> List Int) (w : Wr) : Nat -> Option (Str × Nat)
 | 0 => none
 | n + 1 => match Dt S plan w n with
  | some x => some x
  | none => if Cp (plan w.name) w.lag = some n then some ("early", n) else if (E2 S plan w).getD n 0 < w.floor then some ("below", n) else none
def Gg (S : Sh) (plan : Str -> List Int) (w : Wr) : Option (Str × Nat) := Dt S plan w (daysN S)
theorem N6 {S : Sh} {plan : Str -> List Int} {w : Wr} {n : Nat} {x : Str × Nat} (h : Dt S plan w n = some x) : ∀ k, Dt S plan w (n + k) = some x
 | 0 => h
 | k + 1 => by
  show Dt S plan w ((n + k) + 1) = some x
  rw [Dt, N6 h k]
theorem N5 {S : Sh} {plan : Str -> List Int} {w : Wr} {n : Nat} {x : Str × Nat} (h : Dt S plan w n = some x) (hn : n <= daysN S) : Gg S plan w = some x := by
 have := N6 h (daysN S - n)
 rw [Zvt hn] at this
 exact this
def Io (S : Sh) (plan : Str -> List Int) (ys : List Str) : Nat -> Option (Str × Str × Nat)
 | 0 => none
 | n + 1 => match Io S plan ys n with
  | some x => some x
  | none => match ys[n]? with
   | none => none
   | some y => match Gm S y with
    | none => none
    | some w => (Gg S plan w).map λx => (x.1, y, x.2)
def P2 (S : Sh) (plan : Str -> List Int) (ys : List Str) : Option (Str × Str × Nat) := Io S plan ys ys.length
theorem T0 {S : Sh} {plan : Str -> List Int} {ys : List Str} {n : Nat} {x : Str × Str × Nat} (h : Io S plan ys n = some x) : ∀ k, Io S plan ys (n + k) = some x
 | 0 => h
 | k + 1 => by
  show Io S plan ys ((n + k) + 1) = some x
  rw [Io, T0 h k]
theorem Zn {S : Sh} {plan : Str -> List Int} {ys : List Str} {n : Nat} {x : Str × Str × Nat} (h : Io S plan ys n = some x) (hn : n <= ys.length) : P2 S plan ys = some x := by
 have := T0 h (ys.length - n)
 rw [Zvt hn] at this
 exact this
theorem Xi {S : Sh} {plan : Str -> List Int} {ys : List Str} {n : Nat} {w : Wr} (nd : (S.wares.map (·.name)).Nodup) (h : Io S plan ys n = none) (hy : ys[n]? = some w.name) (hw : w ∈ S.wares) : Io S plan ys (n + 1) = (Gg S plan w).map λx => (x.1, w.name, x.2) := by
 rw [Io, h, hy]
 show (match Gm S w.name with | none => none | some w' => (Gg S plan w').map λx : Str × Nat => (x.1, w.name, x.2)) = _
 rw [Fq nd hw]
def gg : Option (Str × Str × Nat) -> List V
 | none => [.str "good"]
 | some (k, nm, d) => [.str k, .str nm, .int d]
end NP
set_option maxHeartbeats 400000
namespace L2
open PySem PySem.Spec PyProof.Rows PySem.W NP
section
variable {prog : Program} {w : World} {A : Around} {E : Value -> Shared -> Prop} {s : Shared}
end
end L2
namespace L2
open PySem PySem.Spec PyProof.Rows
section
variable {prog : Program} {w : World} {A : Around} {R : Result -> Shared -> Prop} {I : Addr} {fp wr : List Addr} {n : Nat} {P : Nat -> Value -> Prop} {St : Nat -> Heap -> Prop}
end
section
variable {X : Cx}
end
end L2
namespace L2
open PySem PySem.Spec PyProof.Rows PySem.W NP
section
variable {X : Cx}
end
end L2
namespace L2
open PySem PySem.Spec PyProof.Rows
section
variable {X : Cx}
theorem Rc : PIp X .Sub (rI0 λi j => .int (i - j)) := λpins s Z H x y v u Q I rx ry q => gj pins s Z H x y v u Q I rx ry q
end
end L2
set_option maxHeartbeats 4000000
namespace L2
open PySem PySem.Spec PyProof.Rows PySem.W
section
variable {P : Program} {w : World} {fs : List Addr} {H H' H0 : Hp} {h h0 h1 h2 B : Heap} {a L : Addr}
end
section
variable {P : Program} {w : World} {K : Zzv} {mg : Str -> Option Value} {base : Heap} {N : List Str} {qual : Str} {scope : Scope} {f : Addr} {cd : Value} {A : Around} {outer : List Env} {s : Shared} {H : Hp} {E : XK}
end
section
variable {X : Cx} {pins : List (Addr × Obj)} {Z : St} {H H' : Hp} {s s' : Shared} {W : Value -> Shared -> Prop} {a : Addr} {cls : Value} {B : Heap}
end
abbrev TF := Nat -> St -> Hp -> (Hp -> Prop) -> Prop
section
variable {X : Cx} {e : Expr} {es : List Expr} {te : TE} {t : TF} {x : Str} {j : Nat} {p q : Pos}
theorem Vk {n : Nat} (h : n <= 1000000) : n <= sizeLine := Zyx h (by decide)
end
end L2
set_option maxHeartbeats 1000000
namespace L2
open PySem PySem.Spec PySem.Calls PyProof.Rows PySem.W Builtin Builtin.ObjectAttr Builtin.Getset_descriptor
section
variable {prog : Program} {w : World} {A : Around} {E : Value -> Shared -> Prop} {s : Shared} {K : Frag} {x D : Addr}
end
end L2
namespace L2
open PySem PySem.Spec PyProof.Rows PySem.W
section
variable {X : Cx}
theorem S5 (c : Array Nat) : ∀ (n : Nat) (acc : Array Nat), ((Zyq n c).foldl (· ++ ·) acc).size = acc.size + n * c.size
 | 0, acc => by simp
 | n + 1, acc => by
  rw [Zxw, List.foldl_cons, S5 c n, Array.size_append, Nat.succ_mul]
  omega
end
section
variable {X : Cx}
def rRepC : R2 := λx y H Q => ∃ (z : Str) (n : Int), x = .str z /\ y = .int n /\ z.length <= 1000 /\ 0 <= n /\ n <= 1000 /\ ∀ z' : Str, z'.length <= z.length * n.toNat + z.length -> (∀ c ∈ z'.cps.toList, c ∈ z.cps.toList) -> Q (.str z') H
theorem V9 (c : Array Nat) : ∀ (n : Nat) (acc : Array Nat) (x : Nat), x ∈ ((Zyq n c).foldl (· ++ ·) acc).toList -> x ∈ acc.toList \/ x ∈ c.toList
 | 0, acc, x, h => .inl h
 | n + 1, acc, x, h => by
  rw [Zxw, List.foldl_cons] at h
  rcases V9 c n (acc ++ c) x h with z | z
  ·rw [Array.toList_append] at z
   exact Zzc.mp z
  ·exact .inr z
theorem fc : OpR X (binaryOp .Mult) rRepC := by
 intro pins s Z H x y v u Q I rx ry h
 obtain ⟨z, n, rfl, rfl, hz, h0, h1, q⟩ := h
 obtain ⟨t, rfl⟩ := rx
 obtain ⟨t', rfl⟩ := ry
 have hb : z.length * n.toNat <= 1000000 := by
  have : z.length * n.toNat <= 1000 * 1000 := Nat.mul_le_mul hz (by omega)
  omega
 refine P.mul_str (by rw [decide_eq_false (by omega), decide_eq_false (by omega)]; rfl) (λhn _ hc => ?_) (λ_ _ => ?_) ?_
 ·have : (2 ^ 63 - 1) / n ≥ (2 ^ 63 - 1) / 1000 := by
   have a1 : (2 ^ 63 - 1 : Int) / 1000 * n <= 2 ^ 63 - 1 := by
    have : (2 ^ 63 - 1 : Int) / 1000 * n <= (2 ^ 63 - 1) / 1000 * 1000 := Zwt h1 (by decide)
    exact Zxq this (by decide)
   exact (Int.le_ediv_iff_mul_le (by omega)).mpr a1
  have : ((2 : Int) ^ 63 - 1) / 1000 ≥ 1000 := by decide
  omega
 ·unfold Builtin.Str.tooLong
  simp
  exact Vk hb
 ·split
  ·exact ⟨by decide, .str _, H, I.tok _, ⟨_, rfl⟩, q _ (Zz3 _) (λc hc => by cases hc)⟩
  ·split
   ·exact ⟨.str z, H, I, ⟨_, rfl⟩, q _ (Nat.le_add_left _ _) (λc hc => hc)⟩
   ·have hl : (⟨(Zyq n.toNat z.cps).foldl (· ++ ·) #[]⟩ : Str).length = z.length * n.toNat := by
     show ((Zyq n.toNat z.cps).foldl (· ++ ·) #[]).size = z.length * n.toNat
     rw [S5]
     have : n.toNat * z.cps.size = z.length * n.toNat := Nat.mul_comm ..
     simp
     omega
    exact ⟨by rw [hl]; exact Vk hb, .str _, H, I.tok _, ⟨_, rfl⟩, q _ (by rw [hl]; exact Zxr _ _) (λc hc => V9 z.cps n.toNat #[] c hc |>.resolve_left (by simp))⟩
end
end L2
namespace L2
open PySem PySem.Spec PyProof.Rows PySem.W NP
section
variable {X : Cx}
def iz (te : TE) : TE := λZ H Q => te Z H λx H1 => ∃ (a : Addr) (kvs : List (Key × V)) (ns : List Int), x = .ref a /\ H1 a = some (.dK kvs) /\ kvs.map (·.2) = ns.map V.int /\ ns ≠ [] /\ Q (.int (O0 ns)) H1
theorem U4 {l : Expr} {te : TE} {p apos cpos pos : Pos} (hc : X.calm = true) (hg : Gl X "max") (hm : X.mg "max" = none) (hl : PE X l te) (hbase : attributeBase l "values" X.env (eval l X.env) = eval l X.env := by rfl) (hline : (apos.endLine == cpos.line) = true := by rfl)
  (hn : By [.Call (.Attribute l "values" apos) [] [] cpos] = true := by rfl) :
  PE X (.Call (.Name "max" p) [.Call (.Attribute l "values" apos) [] [] cpos] [] pos) (iz te) := by
 intro pins s Z H Q I h
 refine wpAny_Call_Name_kw (E9 I hg hm NP.Rj ?_ (by decide) (by decide))
 refine PyProof.Rows.callWith_builtin1 ?_ (Bk hn) (Cf (B3 hn).2)
 rw [Bk hn]
 show wpAny _ _ (spliced ((false, eval (.Call (.Attribute l "values" apos) [] [] cpos) X.env) :: backTo pos (starEach [] X.env))) _ _ s
 refine Zx5 (wpAny_Call_method0_late hbase hline (thn (hl pins s Z H _ I h) λv s1 ⟨x, H1, I1, r1, q1⟩ => ?_))
 obtain ⟨a, kvs, ns, e, ha, hk, hns, q⟩ := q1
 subst e
 cases r1
 obtain ⟨hz, hS, vs, rel, hdd⟩ := I1.hok a _ ha
 obtain ⟨ep, hat⟩ := hdd.dictAt
 obtain ⟨t1, t2, _⟩ := Uk I1 (.inl ⟨kvs, .inl ha⟩)
 refine ⟨"dict", "dict.values", Zwx, PySem.F.slot_dict_values, PySem.F.type_dict_values, t1, t2, Zx6 rfl (PySem.evalArgs_none ?_)⟩
 refine call_meetsIn PySem.F.slot_dict_values t1 PySem.F.entry_dict_values (PySem.F.args_dict_values_1 _) (meets_dict_values (B0 X.prog X.w) a hS) ⟨⟨vs, hat.dictOf⟩, ?_⟩
 have I3 : Inv X pins Z H1 { s1 with heap := s1.heap.push { cls := .type "dict_values", data := .fields #[.ref a] } } := I1.kept (t' := s1.toks) λb o e => Zzy _ e
 refine Zwb ?_
 have K := PySem.W.kdl_values (prog := X.prog) (w := X.w) (knd := B0 X.prog X.w) (r := s1.heap.objs.size) (d := a) (kvs := vs) (ep := ep)
 have hok : (s1.heap.push { cls := .type "dict_values", data := .fields #[.ref a] }).IsValuesView s1.heap.objs.size a /\ (s1.heap.push { cls := .type "dict_values", data := .fields #[.ref a] }).DictAt (B0 X.prog X.w) a vs ep := ⟨⟨_, Zzi _ rfl, rfl, rfl⟩, hat.push _⟩
 have hlv : vs.length = ns.length := by
  have := congrArg Zxz hk
  rw [Zzz, Zzz] at this
  rw [<- rel.length]
  exact this
 have hval : ∀ (i : Nat) (v : Value), (∃ k, vs[i]? = some (k, v)) -> ∃ t, v = .int ((ns[i]?).getD 0) t := λi v ⟨k, e⟩ => by
  have hi : i < kvs.length := by rw [rel.length]; exact (Zzh.mp e).1
  obtain ⟨u, hu, ru⟩ := j9 (k := kvs[i].1) (v := kvs[i].2) (i := i) rel (by simp [hi])
  rw [hu] at e
  have e := Zzn e
  have eu : u = v := congrArg Prod.snd e
  subst eu
  have e1 := congrArg (λz => z[i]?) hk
  simp only [Zzx, Zzr hi, Zx2] at e1
  cases en : ns[i]? with
  | none => rw [en] at e1; cases e1
  | some n =>
   rw [en] at e1
   have e1 : kvs[i].2 = .int n := Zzn e1
   rw [e1] at ru
   exact ru
 generalize hh3 : s1.heap.push { cls := .type "dict_values", data := .fields #[.ref a] } = h3 at I3 hok
 have hsz : ∀ b o, s1.heap.get? b = some o -> h3.get? b = some o := λb o e => by rw [<- hh3]; exact Zzy _ e
 obtain ⟨oI, St, hit, W, st⟩ := K.iter X.A.in1 { s1 with heap := h3 } (I3.ok.hd hc) hok
 have nm : (toString "max" ++ toString ".loop" : String) = "max.loop" := by decide
 refine call_function_tree F.kind_max F.plain_max F.entry_max (F.args_max1 _) ?_
 refine wpAny_bind (m := Zx3 "max" ["key", "default"] 0 ⟨[], []⟩) (wpAny_of_eq (show Zx3 "max" ["key", "default"] 0 ⟨[], []⟩ = pure [none, none] from rfl) (wpAny_bind (wpAny_pure (wpAny_bind (hit _ _ (wpAny_bind (wpAny_newObj_type ?_)))))))
 rw [nm]
 refine wpAny_pure ⟨plainId_quiet F.plain_max_loop _, ?_⟩
 have sz : (h3.push oI).objs.size = h3.objs.size + 1 := Zxy ..
 have hlt := K.there h3 hok
 have nS : (h3.push oI).objs.size ∉ [h3.objs.size, a] := by
  rw [sz]
  simp only [Zzo, Zz5, or_false, not_or]
  exact ⟨Zwr _, Zxg (Zxa hlt.2)⟩
 have gS : ((h3.push oI).push { cls := .type "list", data := .seq #[] }).get? (h3.push oI).objs.size = some { cls := .type "list", data := .seq #[] } := Zzi _ rfl
 have st2 : St 0 ((h3.push oI).push { cls := .type "list", data := .seq #[] }) := W.frame 0 _ _ st λb _ o e => Zzy _ e
 have hpos : 0 < vs.length := by rw [hlv]; exact Zvu.mpr hns
 refine Mr [] W (λi => (ns[i]?).getD 0) hval _ nS hpos st2 gS λt' h' tk hk' => ?_
 rw [hlv]
 refine ⟨.int (O0 ns), H1, I3.kept λb o e => hk' b o ?_ ?_ (Zzy _ (Zzy _ e)), ⟨_, rfl⟩, q⟩
 ·simp only [Zzo, Zz5, or_false]
  exact Zyy (Zzl e)
 ·rw [sz]
  exact Zyy (Zxa (Zzl e))
end
end L2
set_option maxHeartbeats 4000000
namespace L2
open PySem PySem.Spec PyProof.Rows PySem.W NP
open Builtin Builtin.Str
section
variable {prog : Program} {w : World} {A : Around} {E : Value -> Shared -> Prop} {s : Shared}
theorem Ue {it t : Addr} {i : Nat} {vs : Array Value} {x : Value} {Q : Value -> Shared -> Prop} (g : s.heap.IsTupleIter it t i) (ht : s.heap.IsTuple t vs) (hx : vs[i]? = some x)
  (q : ∀ h', h'.IsTupleIter it t (i + 1) -> Zyf it s.heap h' -> Q x { s with heap := h' }) : wpAny (model prog w) A (Zyn (.ref it)) Q E s := by
 have g0 := g
 obtain ⟨o, ho, hc, hd⟩ := g0
 obtain ⟨u, hu, _, k, hk⟩ := ht
 unfold Zyn
 refine wpAny_bind (wpAny_callSpecial?_slot (name := Str.ofString "__next__") g.typeIs F.slot_tuple_iterator_next (wpAny_call_entry F.slot_tuple_iterator_next g.typeIs F.entry_tuple_iterator_next ?_ (F.args_tuple_iterator_next_1 _)))
 refine (show wpAny _ _ (field (.ref it) 0 >>= _) _ _ s from wpAny_bind (wpAny_field ho hd (x := .ref t) rfl ?_))
 refine (show wpAny _ _ (if (Value.ref t == Value.none) = true then _ else _) _ _ s from ?_)
 rw [if_neg (by exact Zz7)]
 refine (show wpAny _ _ (field (.ref it) 1 >>= _) _ _ s from wpAny_bind (wpAny_field ho hd (x := .int i 0) rfl ?_))
 refine (show wpAny _ _ (seqItems? (.ref t) >>= _) _ _ s from wpAny_bind (wpAny_seqItems hu hk ?_))
 simp only [hx, Int.toNat_natCast]
 refine wpAny_bind (wpAny_setField ho hd (by simp) (wpAny_pure ⟨x, rfl, wpAny_pure (q _ ⟨_, Zxi _ ho (Obj.isFreed_of_fields (Obj.data_mapFields hd _)), (Obj.cls_mapFields ..).trans hc, ?_⟩ (Zx9 ..))⟩))
 rw [Obj.data_mapFields hd]
 simp [rawInt]
theorem X3 {it t : Addr} {i : Nat} {vs : Array Value} {Q : Value -> Shared -> Prop} (hh : A.handled = none) (g : s.heap.IsTupleIter it t i) (ht : s.heap.IsTuple t vs) (hx : vs[i]? = none)
  (q : ∀ h' e, Heap.ExtBut it s.heap h' -> (∃ o, h'.get? e = some o /\ o.cls = .type "StopIteration") -> E (.ref e) { s with heap := h' }) : wpAny (model prog w) A (Zyn (.ref it)) Q E s := by
 have g0 := g
 obtain ⟨o, ho, hc, hd⟩ := g0
 obtain ⟨u, hu, _, k, hk⟩ := ht
 unfold Zyn
 refine wpAny_bind (wpAny_callSpecial?_slot (name := Str.ofString "__next__") g.typeIs F.slot_tuple_iterator_next (wpAny_call_entry F.slot_tuple_iterator_next g.typeIs F.entry_tuple_iterator_next ?_ (F.args_tuple_iterator_next_1 _)))
 refine (show wpAny _ _ (field (.ref it) 0 >>= _) _ _ s from wpAny_bind (wpAny_field ho hd (x := .ref t) rfl ?_))
 refine (show wpAny _ _ (if (Value.ref t == Value.none) = true then _ else _) _ _ s from ?_)
 rw [if_neg (by exact Zz7)]
 refine (show wpAny _ _ (field (.ref it) 1 >>= _) _ _ s from wpAny_bind (wpAny_field ho hd (x := .int i 0) rfl ?_))
 refine (show wpAny _ _ (seqItems? (.ref t) >>= _) _ _ s from wpAny_bind (wpAny_seqItems hu hk ?_))
 simp only [hx, Int.toNat_natCast]
 refine wpAny_bind (wpAny_rule (wpAny_bind (wpAny_setField ho hd (by simp) (show wpAny _ _ (newExc (.type "StopIteration") [] >>= _) _ _ _ from wpAny_bind ?_))))
 simp only [newTuple, newExc]
 refine wpAny_bind (wpAny_newObj_type (wpAny_bind (m := firstArgMember _ _) (wpAny_of_eq (a := Value.none) (by first | rfl | (simp only [firstArgMember]; rfl)) (wpAny_newObj_type ?_ (by size_fits)))) (by size_fits))
 rw [raiseNew]
 refine wpAny_bind (wpAny_handled ?_)
 first
  | rw [show A.in1.handled = none from hh]
  | rw [hh]
 refine wpAny_bind (wpAny_pure (wpAny_throw (q _ _ (((Zx9 ..).extBut.push _).push _) ⟨_, Zzi _ rfl, rfl⟩)))
theorem af (hh : A.handled = none) (it t : Addr) (hne : t ≠ it) (vs : Array Value) : Draws prog w A it [it, t] vs.size (λi v => vs[i]? = some v) (λi h => h.IsTupleIter it t i /\ h.IsTuple t vs) where
 live := λ_ _ st => by obtain ⟨⟨o, ho, _⟩, _⟩ := st; exact ⟨o, ho⟩
 frame := λ_ _ _ st hk => by
  obtain ⟨g, o, ho, r⟩ := st
  exact ⟨g.at λo e => hk it (by simp) o e, o, hk t (by simp) o ho, r⟩
 item := λi s Q E hi st q => Ue st.1 st.2 (x := vs[i]) (by simp [hi]) λh' g' hs' => q _ h' s.toks (by simp [hi]) ⟨g', st.2.extBut hs'.extBut hne⟩ hs'
 done := λs Q E st q => X3 hh st.1 st.2 (by simp) q
theorem ld (l : Addr) (vs : Array Value) (n : Nat) (dct : Option Addr) (sl : Array (Option Value)) : Meets (Builtin.«enumerate.__new__» ⟨[.type "enumerate", .ref l], []⟩) (λ_ R s => s.heap.get? l = some { cls := .type "tuple", dict := dct, data := .seq vs n, slots := sl } /\
   R (.ok (.ret (.ref (s.heap.push { cls := .type "tuple_iterator", data := .fields #[.ref l, .int 0 0] }).objs.size))) { s with heap := (s.heap.push { cls := .type "tuple_iterator", data := .fields #[.ref l, .int 0 0] }).push { cls := .type "enumerate", data := .fields #[.none, .bool false, .ref s.heap.objs.size, rawInt 0, .none, .none] } }) := by
 refine .of_wp λprog w A R s h => ?_
 obtain ⟨hp, g, d, tk, os⟩ := s
 obtain ⟨hl, h⟩ := h
 have hsub := sub_enumerate
 have hT : Heap.IsTuple (Shared.heap ⟨hp, g, d, tk, os⟩) l vs := ⟨_, hl, rfl, n, rfl⟩
 wp_walk using AutoSeq1.wpAny_loadPart' hl
 refine wpAny_stack_any λst => wpAny_pure ?_
 split
 ·rename_i c _ _ _ _ _
  cases (c == Value.type "enumerate")
  ·wp_walk using AutoSeq1.wpAny_loadPart' hl, wpAny_pyIter_tuple hT
   exact ⟨_, rfl, h⟩
  ·wp_walk using AutoSeq1.wpAny_loadPart' hl, wpAny_pyIter_tuple hT
   exact ⟨_, rfl, h⟩
 ·wp_walk using AutoSeq1.wpAny_loadPart' hl, wpAny_pyIter_tuple hT
  exact ⟨_, rfl, h⟩
theorem Ut {l : Addr} {vs : Array Value} {Q : Value -> Shared -> Prop} (hL : s.heap.IsTuple l vs)
  (h : ∀ h', IsEnum h' (s.heap.objs.size + 1) s.heap.objs.size 0 .none -> h'.IsTupleIter s.heap.objs.size l 0 -> (∀ b o, s.heap.get? b = some o -> h'.get? b = some o) -> Q (.ref (s.heap.objs.size + 1)) { s with heap := h' }) :
  wpAny (model prog w) A (call (.type "enumerate") [.ref l]) Q E s := by
 obtain ⟨⟨c, dct, dt, sl⟩, hl, hc, n, hd⟩ := hL
 have hc : c = .type "tuple" := hc
 have hd : dt = .seq vs n := hd
 subst hc hd
 refine callType_new F.called_enumerate (by decide) (F.typeCall_enumerate_1 _) (F.newCall_enumerate_1 _) (λobj => F.args_object_init_2 obj _) F.entry_enumerate_new (ld l vs n dct sl) ⟨hl, ?_⟩
 have hz : (s.heap.push { cls := .type "tuple_iterator", data := .fields #[.ref l, .int 0 0] }).objs.size = s.heap.objs.size + 1 := Zxy ..
 show _ /\ _
 rw [hz]
 have he : IsEnum ((s.heap.push { cls := .type "tuple_iterator", data := .fields #[.ref l, .int 0 0] }).push { cls := .type "enumerate", data := .fields #[.none, .bool false, .ref s.heap.objs.size, rawInt 0, .none, .none] }) (s.heap.objs.size + 1) s.heap.objs.size 0 .none := by
  have q := Zzi (s.heap.push { cls := .type "tuple_iterator", data := .fields #[.ref l, .int 0 0] }) (o := { cls := .type "enumerate", data := .fields #[.none, .bool false, .ref s.heap.objs.size, rawInt 0, .none, .none] }) rfl
  rw [hz] at q
  exact q
 exact ⟨⟨_, he, rfl⟩, h _ he ⟨_, Zzy _ (Zzi _ rfl), rfl, rfl⟩ λb o x => Zzy _ (Zzy _ x)⟩
end
def nh (a : Addr) (xs : List V) : It := ⟨λi H => H a = some (.tup xs) /\ i < xs.length, λi H x H' => ∃ p y, x = .ref p /\ H p = none /\ xs[i]? = some y /\ H' = upd H p (.tup [.int i, y]), λi H => H a = some (.tup xs) /\ i = xs.length⟩
theorem Zv (a : Addr) (xs : List V) : Pl (nh a xs) xs.length (λi ys => ∃ y, xs[i]? = some y /\ ys = [.int i, y]) (λH => H a = some (.tup xs)) :=
 ⟨λi H h o => ⟨o, h⟩, λi H x H' h o y => by obtain ⟨p, z, e1, e2, e3, e4⟩ := y; exact ⟨p, _, e1, e2, e4, z, e3, rfl⟩, λH o => ⟨o, rfl⟩⟩
theorem Ts {P : Program} {w : World} {K : Zzv} {elts : List Expr} {k : Nat} {pos : Pos} (e it a : Addr) (xs : List V) (hei : e ≠ it) : Ks P w K (.Tuple elts k pos) (nh a xs) [e, it] e (λi h => (∃ old, IsEnum h e it i old) /\ h.IsTupleIter it a i) where
 mem := by simp
 obj := λi h st b hb => by
  obtain ⟨⟨old, he⟩, o, ho, c, d⟩ := st
  rcases Zzo.mp hb with q | q
  ·rw [q]; exact ⟨_, he, λv z => by cases z⟩
  ·rw [Zzu.mp q]; exact ⟨o, ho, λv z => by rw [d] at z; cases z⟩
 keep := λi h h' st k => by
  obtain ⟨⟨old, he⟩, hi⟩ := st
  exact ⟨⟨old, k e (by simp) _ he⟩, hi.at λo q => k it (by simp) o q⟩
 item := by
  intro X hP hw hK hc i pins s Z H E I hf st hg
  subst hP hw hK
  obtain ⟨hq, hlt⟩ := hg
  obtain ⟨_, its, rv, hl⟩ := I.hok a _ hq
  have hl : s.heap.IsTuple a its.toArray := hl
  have f1 := hf e (by simp)
  have f2 := hf it (by simp)
  have hae : a ≠ e := A6 hq f1.1
  have hai : a ≠ it := A6 hq f2.1
  have hlen := rv.length
  have hv : ∀ vals : Array Value, (∃ t x, its.toArray[i]? = some x /\ vals = #[.int i t, x]) -> ∃ ys, Vals ys vals.toList /\ ys.length <= 100 /\ ∃ y, xs[i]? = some y /\ ys = [V.int i, y] := by
   rintro vals ⟨t, x, hx, rfl⟩
   obtain ⟨u, hu, ru⟩ := rv.get (x := xs[i]) (i := i) (by simp [hlt])
   have hx : its[i]? = some x := by simpa using hx
   rw [hx] at hu
   cases hu
   exact ⟨[.int i, xs[i]], .cons ⟨t, rfl⟩ (.cons ru .nil), by simp, xs[i], by simp [hlt], rfl⟩
  have W := WalksT.enumerateD (A := X.A) (af (prog := X.prog) (w := X.w) (A := X.A.in1) (show X.A.in1.handled = none from I.ok.hd hc) it a hai its.toArray) e hei (by simp [hei, Zzf hae]) (by simp)
  refine thn (Qw (E := E) W (by rw [Zzp]; omega) I ⟨st.1, st.2, hl⟩ (λb hb => hf b hb) hv) λr s1 ⟨u, hr, h3⟩ => ⟨u, hr, thn h3 λ_ s2 ⟨p, ys, hu, hp, hn, I2, ⟨y, hy, e2⟩, st2⟩ => ?_⟩
  subst hu e2
  refine ⟨.ref p, _, I2, rfl, ⟨p, y, rfl, hn, hy, rfl⟩, ⟨st2.1, st2.2.1⟩, λb hb => ?_⟩
  have hbl : b < s.heap.objs.size := by
   obtain ⟨⟨old, he⟩, o, ho, c, d⟩ := st
   rcases Zzo.mp hb with q | q
   ·rw [q]; exact Zzl he
   ·rw [Zzu.mp q]; exact Zzl ho
  rw [A5 (Bt hbl hp)]
  exact (hf b hb).1
 done := by
  intro X hP hw hK hc i pins s Z H E I hf st hg
  subst hP hw hK
  obtain ⟨hq, hlt⟩ := hg
  obtain ⟨_, its, rv, hl⟩ := I.hok a _ hq
  have hl : s.heap.IsTuple a its.toArray := hl
  have f1 := hf e (by simp)
  have f2 := hf it (by simp)
  have hlen := rv.length
  have hi : its.toArray.size = i := by rw [Zzp]; omega
  have hae : a ≠ e := A6 hq f1.1
  refine (WalksT.enumerateD (A := X.A) (af (prog := X.prog) (w := X.w) (A := X.A.in1) (show X.A.in1.handled = none from I.ok.hd hc) it a (A6 hq f2.1) its.toArray) e hei (by simp [hei, Zzf hae]) (by simp)).done s _ E ?_ λh' tk hk => ⟨rfl, I.turnedL hk hf⟩
  rw [hi]
  exact ⟨st.1, st.2, hl⟩
 self := λ_ _ _ _ _ st h => by
  obtain ⟨⟨old, he⟩, _⟩ := st
  exact wpAny_pyIter_enum he h
section
variable {X : Cx}
def Zr (ta : TA) : TI := λZ H R => ta Z H λvs H1 => ∃ a xs, vs = [.ref a] /\ H1 a = some (.tup xs) /\ R (nh a xs) H1
theorem S9 {elts : List Expr} {k : Nat} {pt p pos : Pos} {e : Expr} {ta : TA} (hg : Gl X "enumerate") (hm : X.mg "enumerate" = none) (ha : PA X [e] ta) (hn : By [e] = true := by rfl) : PI X (.Tuple elts k pt) (.Call (.Name "enumerate" p) [e] [] pos) (Zr ta) := by
 intro pins s Z H R I h
 refine Call_ (E9 I hg hm NP.Jv (Zya (thn (ha pos pins s Z H _ I h) λus s1 ⟨vs, H1, I1, r1, q1⟩ => ?_) (C2 hn) rfl))
 obtain ⟨a, xs, e, hq, q⟩ := q1
 subst e
 obtain ⟨u, rfl, ru⟩ := Eu r1
 cases ru
 obtain ⟨_, its, rv, hl⟩ := I1.hok a _ hq
 refine Ut (show s1.heap.IsTuple a its.toArray from hl) λh' he hi hk => wpAny_pyIter_enum he ?_
 have I2 : Inv X pins Z H1 { s1 with heap := h' } := I1.kept (t' := s1.toks) hk
 refine ⟨s1.heap.objs.size + 1, [s1.heap.objs.size + 1, s1.heap.objs.size], _, _, H1, rfl, I2, Ts _ _ a xs (Zwr _), ⟨⟨_, he⟩, hi⟩, λb hb => ?_, q⟩
 have hb' : s1.heap.objs.size <= b := by
  rcases Zzo.mp hb with z | z
  ·rw [z]; exact Zw7 _
  ·rw [Zzu.mp z]; exact Zzt _
 exact I1.fpOk hb' (I1.hok.fresh hb')
end
end L2
namespace L2
open PySem PySem.Spec PyProof.Rows PySem.W
theorem Room.z {k j : Nat} {A : Around} (h : Room k A) (e : j <= k := by decide) : Room j A := h.mono e
theorem Has.of {P : Program} {w : World} {K : Frag} {mg : Str -> Option Value} {base : Heap} {x : Str} {k : Nat} {f : Addr} {fd : FuncData} {ps : List Str} {sp : Sp} (m : mg x = some (.ref f)) (h : keepIn K (.ref f) = true) (b : Binds K fd ps []) (o : Bh P w K mg base CX0 k f fd ps sp) : Has P w K mg base x k ps sp := ⟨f, fd, m, h, b, o⟩
section
variable {X : Cx}
def rSetT : V -> V -> V -> Hp -> (Hp -> Prop) -> Prop := λo i v H Q => ∃ p b kvs k, o = .ref p /\ i = .ref b /\ H p = some (.dT kvs) /\ H b = some (.tup (k.map kV)) /\ kvs.length < sizeLine /\ Q (upd H p (.dT (B8 kvs k v)))
theorem Wg (hu : X.A.units + 1 < cLine) : Xz X rSetT := by
 intro pins s Z H o i v ov iv u Q I ro ri rv h
 obtain ⟨p, b, kvs, k, rfl, rfl, hp, hb, hl, q⟩ := h
 cases ro
 exact P9 hu I (DPut.t hp hb hl) ri rv λs' I' => ⟨_, I', q⟩
end
end L2
namespace L2
open PySem PySem.Spec PyProof.Rows PySem.W NP
section
variable {prog : Program} {w : World} {K : Type} [DecidableEq K] {knd : HeapKind prog w K} {A : Around} {E : Value -> Shared -> Prop} {s : Shared}
theorem S0 {d a : Addr} {xs : List (K × Addr × Value)} {k : K} {v : Value} {Q : Value -> Shared -> Prop} (hu : knd.room A) (hkey : knd.is s.heap k a) (hm : s.heap.DictOfH knd d xs)
  (q1 : ∀ p, atKey xs k = some p -> Q p.2 { s with toks := s.toks + knd.draws k })
  (q2 : atKey xs k = none -> ∀ h', h'.DictOfH knd d (storedH xs k a v) -> Zyf d s.heap h' -> Q v { s with heap := h', toks := s.toks + knd.draws k })
  (hsz : xs.length <= sizeLine) : wpAny (model prog w) A (dictSetDefault d (.ref a) v) Q E s := by
 obtain ⟨o, es, ep, ho, hc, hd, he, his, hn⟩ := hm
 unfold dictSetDefault
 try with_reducible refine wpAny_holding ?_
 refine wpAny_bind (knd.pyHash hu hkey (wpAny_bind (wpAny_dictFind_heap (s := { s with toks := s.toks + knd.draws k }) hu hkey ho hd he his hn (λhno => ?_) (λj p hj => ?_))))
 ·have hk0 := atKey_none_of_get hno
  have hnot : k ∉ xs.map (·.1) := not_mem_keys_of_get hno
  refine wpAny_bind (wpAny_rule (wpAny_bind (wpAny_updateDictKeys (hz := by have e := size_of_entries he; omega) (s := { s with toks := s.toks + knd.draws k }) ho hd (wpAny_pure (q2 hk0 _ ⟨_, _, ep + 1, Zxi _ ho (Obj.isFreed_of_dict (Obj.data_mapDictKeys hd _)), hc.mapDictKeys _, Obj.data_mapDictKeys hd _, ?_, ?_, ?_⟩ (Zx9 ..))))))
  ·rw [storedH_new hk0]
   simp [he, entryOfKey]
  ·rw [storedH_new hk0]
   intro x hx
   rcases Zzc.mp hx with y | y
   ·exact knd.keeps (his x y) ho hd (Zx9 ..)
   ·rw [Zzu.mp y]
    exact knd.keeps hkey ho hd (Zx9 ..)
  ·rw [storedH_new hk0, Zzm, Zw8]
   refine ⟨hn, by simp, λx hx y hy e => ?_⟩
   have hy : y = k := by simpa using hy
   rw [hy] at e
   exact hnot (e ▸ hx)
 ·refine wpAny_bind (wpAny_dictEntries (s := { s with toks := s.toks + knd.draws k }) ho hd ?_)
  rw [entry_at he j, hj]
  exact wpAny_bind (wpAny_rule (wpAny_pure (q1 p (atKey_of_get hn hj))))
theorem Nz {d a : Addr} (hd : (d == sysModules) = false) (dflt : Value) : MeetsIn prog w (Builtin.«dict.setdefault» ⟨[.ref d, .ref a, dflt], []⟩) (λA R s => knd.room A.in1 /\ ∃ k xs, knd.is s.heap k a /\ s.heap.DictOfH knd d xs /\ xs.length <= sizeLine /\
   (∀ p, atKey xs k = some p -> R (.ok (.ret p.2)) { s with toks := s.toks + knd.draws k }) /\
   (atKey xs k = none -> ∀ h', h'.DictOfH knd d (storedH xs k a dflt) -> Zyf d s.heap h' -> R (.ok (.ret dflt)) { s with heap := h', toks := s.toks + knd.draws k })) := by
 refine .of_wp λA R s ⟨hu, k, xs, hkey, hm, hz, h1, h2⟩ => ?_
 unfold Builtin.«dict.setdefault»
 refine wpAny_bind ?_
 unfold Builtin.Dict.keyAndDefault
 refine wpAny_bind (wpAny_notOrdered_dict hm.typeIs ?_)
 refine (show wpAny _ _ (pure (d, Value.ref a, some dflt)) _ _ s from wpAny_pure ?_)
 refine (show wpAny _ _ (if (d == sysModules) = true then _ else (dictSetDefault d (.ref a) dflt >>= _)) _ _ s from ?_)
 rw [if_neg (by rw [hd]; exact Zz7)]
 exact wpAny_bind (S0 hu hkey hm (λp hp => wpAny_pure ⟨p.2, rfl, h1 p hp⟩) (λhn h' hm' hs' => wpAny_pure ⟨dflt, rfl, h2 hn h' hm' hs'⟩) hz)
end
def Yd (td ty tx : TE) : TE := λZ H Q => td Z H λx H1 => ∃ a, x = .ref a /\ IsD H1 a /\ ty Z H1 λy H2 => tx Z H2 λz H3 => ∃ kvs k b, H3 a = some (.dT kvs) /\ y = .ref b /\ H3 b = some (.tup (k.map kV)) /\ kvs.length < sizeLine /\ (∀ v, B1 kvs k = some v -> Q v H3) /\ (B1 kvs k = none -> Q z (upd H3 a (.dT (B8 kvs k z))))
section
variable {X : Cx} {o e f : Expr} {apos cpos : Pos} {td ty tx : TE}
theorem Yt (hu : X.A.units + 1 < cLine) (ho : PE X o td) (he : PE X e ty) (hf : PE X f tx) (m : M2 X o "setdefault" apos e f cpos) : PE X (.Call (.Attribute o "setdefault" apos) [e, f] [] cpos) (Yd td ty tx) := by
 intro pins s Z H Q I h
 refine wpAny_Call_method m.base m.few m.line Zwx PySem.F.slot_dict_setdefault PySem.F.type_dict_setdefault (thn (ho pins s Z H _ I h) λu s1 ⟨x, H1, I1, rx, a, ex, d, q1⟩ => ?_)
 subst ex
 obtain rfl : u = Value.ref a := rx
 obtain ⟨t1, t2, _⟩ := Uk I1 d
 refine ⟨t1, t2, ?_⟩
 rw [m.trees]
 refine Zx6 rfl (Zvy (Zx5 (thn (he pins s1 Z H1 _ I1 q1) λiv s2 ⟨y, H2, I2, ry, q2⟩ => Zx5 (thn (hf pins s2 Z H2 _ I2 q2) λfv s3 ⟨z, H3, I3, rz, kvs, k, b, e3, ey, eb, hl, qs, qn⟩ => Zwb ?_))))
 subst ey
 cases (show iv = Value.ref b from ry)
 obtain ⟨zz, hd, xs, rel, dd⟩ := jg I3.hok e3
 have hz : xs.length <= sizeLine := by rw [<- Paired.length rel]; exact zz
 refine call_meetsIn PySem.F.slot_dict_setdefault dd.typeIs PySem.F.entry_dict_setdefault (PySem.F.args_dict_setdefault_3 _ _ _) (Nz (knd := tupleKind (B0 X.prog X.w)) (d := a) (a := b) hd fv) ⟨tupleKind_room_in1 hu, k, xs, Im I3.hok eb, dd, hz, λp hp => ?_, λhn h' dd' hs => ?_⟩
 ·have hv := rel.val k
  rw [hp] at hv
  cases ev : B1 kvs k with
  | none => rw [ev] at hv; cases hv
  | some v =>
   rw [ev] at hv
   exact ⟨v, H3, I3.tok _, hv, qs v ev⟩
 ·have hv := rel.val k
  rw [hn] at hv
  cases ev : B1 kvs k with
  | some v => rw [ev] at hv; cases hv
  | none =>
   refine ⟨z, _, ?_, rz, qn ev⟩
   have hl' : (B8 kvs k z).length <= sizeLine := by have := Cu kvs k z; omega
   obtain ⟨q, es, ep, hq, h2, h3, h4, _, h5⟩ := dd'
   refine Js I3 (by rw [e3]; exact True.intro) hs ⟨q, hq⟩ ⟨hl', hd, _, (rel.put k eb rz).keeps λc ys ec => ?_, q, es, ep, hq, h2, h3, h4, h5⟩
   rw [A5 (Eo ec e3 (λz => nomatch z))]
   exact ec
def rUpdK : V -> List V -> Hp -> VK -> Prop := λx vs H Q => ∃ a b ka kb, x = .ref a /\ vs = [.ref b] /\ a ≠ b /\ H a = some (.dK ka) /\ Rd H b (.dK kb) /\ ka.length + kb.length <= sizeLine /\ Q .non (upd H a (.dK (E8 ka kb)))
theorem fo : MtM X "dict.update" rUpdK := by
 intro pins s Z H x vs v us Q I rx rv h
 obtain ⟨a, b, ka, kb, rfl, rfl, hab, hA, hB, hz, q⟩ := h
 cases rx
 obtain ⟨u, rfl, ru⟩ := rv.one
 cases ru
 obtain ⟨za, da, va, ra, ha⟩ := ag I.hok hA
 obtain ⟨zb, db, vb, rb, hb⟩ := Gp I.hok hB
 refine call_meetsIn PySem.F.slot_dict_update ha.typeIs PySem.F.entry_dict_update (PySem.F.args_dict_update_2 _ _) (meets_dict_update (B0 X.prog X.w) a b hab db) ⟨va, vb, ha, hb, by rw [<- ra.length, <- rb.length]; exact hz, λh' ha' _ hs => ?_⟩
 have hl : (E8 ka kb).length <= sizeLine := Zyx (Fo kb ka) hz
 have he : ∃ q, h'.get? a = some q := by obtain ⟨q, _, _, hq, _⟩ := ha'; exact ⟨q, hq⟩
 exact ⟨.non, _, Js I (by rw [hA]; exact True.intro) hs he (Up hl da (rb.merge ra) ha'), rfl, q⟩
end
section
variable {X : Cx}
def rSortI : List V -> Hp -> VK -> Prop := λvs H Q => ∃ (a : Addr) (kvs : List (Key × V)) (ns : List Int), vs = [.ref a] /\ Rd H a (.dK kvs) /\ kvs.map (·.1) = ns.map Zxc /\ ns.length < 64 /\ ∀ (p : Addr) (ms : List Int), H p = none -> ms.Perm ns -> ms.Pairwise (· <= ·) -> Q (.ref p) (upd H p (.lst (ms.map V.int)))
theorem Nk (hc : X.calm = true) : CallR X (.builtin "sorted") rSortI := by
 intro pins s Z H vs us Q I r h
 obtain ⟨a, kvs, ns, rfl, ha, hk, h64, q⟩ := h
 obtain ⟨u, rfl, ru⟩ := Eu r
 cases ru
 obtain ⟨hz, hS, dv, rel, hdd⟩ := Gp I.hok ha
 obtain ⟨ep, hat⟩ := hdd.dictAt
 have hkl : kvs.length = ns.length := by have := congrArg Zxz hk; rw [Zzz, Zzz] at this; exact this
 have hdl : dv.length = ns.length := by rw [<- rel.length, hkl]
 have hks : dv.map (·.1) = ns.map Zxc := by
  rw [<- hk]
  have : ∀ {kvs : List (Key × V)} {dv : List (Key × Value)}, KV kvs dv -> dv.map (·.1) = kvs.map (·.1) := λ{kvs dv} r => by
   induction r with
   | nil => rfl
   | cons r1 _ ih => rw [Zzd, Zzd, ih, r1.1]
  exact this rel
 refine Calls.call_function_entry kind_sorted plain_sorted entry_sorted (args_sorted1 _) ?_
 unfold Builtin.«sorted»
 refine wpAny_bind (m := checkCount "sorted" 1 1 _) (wpAny_pure ?_)
 refine wpAny_bind (kdu_collect (A := X.A.in1) (kdl_dict (knd := B0 X.prog X.w) (kvs := dv) (ep := ep) hS) (I.ok.hd hc) hat (by rw [hdl]; exact Aw (by omega)) λh' tk acc hkp hacc => ?_)
 have hal : acc.toList.length = ns.length := by rw [Zwk, hacc.1, hdl]
 have hst : IntsAre acc.toList ns := by
  have key : ∀ (us : List Value) (ys : List Int), us.length = ys.length -> (∀ (j : Nat) (v : Value), us[j]? = some v -> ∃ y t, ys[j]? = some y /\ v = .int y t) -> IntsAre us ys := λus => by
   induction us with
   | nil => intro ys e _; cases ys with | nil => exact .nil | cons => simp at e
   | cons u us ih =>
    intro ys e h
    cases ys with
    | nil => simp at e
    | cons y ys =>
     obtain ⟨y', t, e1, e2⟩ := h 0 u rfl
     have e1 : y = y' := by simpa using e1
     subst e1 e2
     exact .cons _ _ (ih ys (by simpa using e) λj v hv => h (j + 1) v hv)
  refine key _ _ hal λj v hv => ?_
  obtain ⟨k, x, hx, hkv⟩ := hacc.2 j v (by rw [<- Zw2]; exact hv)
  have e1 := congrArg (λz => z[j]?) hks
  simp only [Zzx, hx, Zx2] at e1
  cases ex : ns[j]? with
  | none => rw [ex] at e1; cases e1
  | some y =>
   rw [ex] at e1
   have e2 : k = Zxc y := Zzn e1
   subst e2
   obtain ⟨t, et⟩ : ∃ t, v = .int y t := ja hkv
   exact ⟨y, t, rfl, et⟩
 refine wpAny_bind (wpAny_newList ?_ (by rw [hal]; exact Aw (by omega)))
 have hoL : (h'.push (seqObj "list" acc.toList.toArray 0)).get? h'.objs.size = some (seqObj "list" acc.toList.toArray 0) := Zzi _ rfl
 show wpAny _ _ _ _ _ { s with heap := h'.push (seqObj "list" acc.toList.toArray 0), toks := tk }
 refine wpAny_bind (wpAny_holding (wpAny_call_entry (s := { s with heap := h'.push (seqObj "list" acc.toList.toArray 0), toks := tk }) slot_list_sort ⟨_, hoL, rfl⟩ entry_list_sort (list_sort_tree (s := { s with heap := h'.push (seqObj "list" acc.toList.toArray 0), toks := tk }) hoL hst (by omega) λout ms h1 h2 h3 => ⟨_, rfl, ?_⟩) (args_list_sort _)))
 obtain ⟨e, he⟩ := sortedHeap_at (out := out) hoL
 have fr : ∀ b o, s.heap.get? b = some o -> b ≠ h'.objs.size := λb o eb => Zyy (Zzl (hkp b o eb))
 have hn : H h'.objs.size = none := by
  cases y : H h'.objs.size with
  | none => rfl
  | some u =>
   obtain ⟨o, eo⟩ := Vh (I.hok _ u y)
   exact absurd rfl (fr _ o eo)
 refine wpAny_pure ⟨_, rfl, .ref h'.objs.size, _, I.laidF (t' := tk) (o := .lst (ms.map V.int)) (λb o eb => ?_) fr hn ⟨?_, out.toList, e, Jz h1, ?_⟩, rfl, q _ ms hn h2 h3⟩
 ·have hb := hkp b o eb
  have hlt := Zzl hb
  rw [sortedHeap_old (Zyy hlt) (by rw [size_push']; exact Zxa hlt)]
  exact Zzy _ hb
 ·rw [Zzz, h2.length_eq]
  exact Aw (by omega)
 ·rw [Array.toArray_toList]
  exact he
end
end L2
namespace K33
open PySem L2 NP
seal PE PA PT PS PSs PI PO PC PW
local macro_rules | `(tactic| walk_at "rd") => `(tactic| simp only [Yc, tNext, oj, ck, oq, j0, ow, Dk, qm, jr, tC, tCB, Yf, tNil, V5, tOp, tUn, ir, tB, ox, tOr, ol, j4, ix, oh, om, tSl, iw, tNoPart, tBA, ou, tDNewK, tYes, rI, rI0, rU, rEq, rIsA, rIsnotA, rItem, lenA, listA, tupleA, lenQ, rSetD, qi, qg, rCat, Zq, qj, io, iq, je, qh, jc, jb, rEqD, rNeD, rNeK, Yb, Lu, iy, rGetL, j3, rRep, rMax2, rAppend, rPopAt, rReverse, rSetA, rSetL, L2.Hz, Hw, Yg, cj, iz, rRepC, Zr, tDNewT, rSetT, j2, Ye, Yd, V4, rUpdK, rSortI, j1, Pp, rPop, Jn, Km, Kl, Jl, Iq, Jm, Oh, Rb, Ra, Of, My, Og, R7, T4, T3, R5, Ob, R6, R1, T2, T1, Qz, O7, R0, Oa, R4, R3, O8, Mw, O9, Mv, O6, O5, Mt, Lh, Mu, Oe, R9, R8, Oc, Mx, Od, fu, Zb, fq, Z9, X6, Za, Nat.reduceAdd, Nat.reduceSub, Nat.zero_add, Nat.sub_self, List.replicate_zero, Zxw, List.getD_cons_zero, List.getD_cons_succ, ↓reduceIte, Zzd, Zxe, Zyu, List.nil_append, Zx8, Zyl, Zxf, Zwg, Zwf, List.set_nil, List.getElem?_cons_zero, List.getElem?_cons_succ, Option.some.injEq, exists_eq_left', exists_eq_left, V.int.injEq, V.bl.injEq, V.str.injEq, V.ref.injEq, V.ty.injEq, List.cons.injEq, and_true, true_and, and_assoc, exists_and_left, exists_eq_right, reduceCtorEq, false_and, and_false, exists_false, or_false, false_or])
local macro_rules | `(tactic| walk_at "sc") => `(tactic| (constructor <;> first | rfl | decide +kernel))
def top (i : Nat) : Stmt := PySem.Challenge.pw_needplan_k33_serves_walked.main.body.getD i (.Pass ⟨0, 0, 0, 0⟩)
abbrev G4 : Stmt := top 15
abbrev Ec : Stmt := top 16
abbrev Hj : Stmt := top 17
abbrev Dc : Stmt := top 19
abbrev D5 : Stmt := top 20
abbrev Q0 : Stmt := top 21
abbrev Dw : Stmt := top 22
abbrev J9 : Stmt := top 23
abbrev J5 : Stmt := top 24
abbrev Ll : Stmt := top 25
abbrev J6 : Stmt := top 27
abbrev G5 : Stmt := top 28
abbrev Ed : Stmt := top 29
abbrev Ja : Stmt := top 31
abbrev Hl : Stmt := top 32
abbrev Eg : Stmt := top 33
abbrev Fe : Stmt := top 34
abbrev F0 : Stmt := top 35
abbrev Ex : Stmt := top 36
abbrev Dd : Stmt := top 37
abbrev Eb : Stmt := top 38
abbrev Du : Stmt := top 39
abbrev Dv : Stmt := top 40
abbrev Q1 : Stmt := top 42
abbrev J7 : Stmt := top 43
abbrev Ez : Stmt := top 44
abbrev G3 : Stmt := top 45
abbrev D3 : Stmt := top 46
abbrev Ey : Stmt := top 47
abbrev Co : Stmt := top 48
abbrev J8 : Stmt := top 49
abbrev Hk : Stmt := top 51
abbrev Fa : Stmt := top 52
abbrev Q2 : Stmt := top 53
abbrev G7 : Stmt := top 55
abbrev Fd : Stmt := top 56
abbrev Ef : Stmt := top 57
abbrev Fc : Stmt := top 58
abbrev Fb : Stmt := top 59
abbrev G6 : Stmt := top 60
abbrev G8 : Stmt := top 61
abbrev Ee : Stmt := top 62
abbrev D4 : Stmt := top 63
abbrev M3 : Stmt := top 64
structure Txt (mg : Str -> Option Value) : Prop where
 Zv3 : mg "range" = none
 Zvb : mg "len" = none
 Zu3 : mg "max" = none
 Zu8 : mg "sorted" = none
 Zty : mg "reversed" = none
 Ztx : mg "zip" = none
 Ztv : mg "min" = none
 Zv8 : mg "enumerate" = none
 Zuf : mg "tuple" = none
 Zu2 : mg "int" = none
 Ztw : mg "list" = none
 Zuo : mg "isinstance" = none
 Ztt : mg "all" = none
 Ztu : mg "bool" = none
 Zux : ∃ t, mg "COMING" = some (.int 5 t)
 Zuw : ∃ t, mg "FLOOR" = some (.int 3 t)
 Zuv : ∃ t, mg "GIVES" = some (.int 2 t)
 Zus : ∃ t, mg "LAG" = some (.int 1 t)
 Zvj : ∃ t, mg "NAME" = some (.int 0 t)
 Zuu : ∃ t, mg "PARTS" = some (.int 6 t)
 Zup : ∃ t, mg "STOCK" = some (.int 4 t)
 Zvg : ∃ t, mg "WANT_AMOUNT" = some (.int 2 t)
 Zvd : ∃ t, mg "WANT_DAY" = some (.int 1 t)
 Zvc : ∃ t, mg "WANT_NAME" = some (.int 0 t)
def lamP : Pos := ⟨70, 38, 70, 65⟩
def lamQ : Str := ("worked" : Str) ++ ".<locals>." ++ "<lambda>"
def Tb (H : L2.Hp) (Pt : Addr) : Prop := L2.TblAt H Pt lamP lamQ
section
variable {P : Program} {w : World} {K : Zzv} {mg : Str -> Option Value} {base : Heap} {f : Addr} {fd : FuncData}
def qv (w : Wr) : Prop := w.parts.length <= 1000 /\ w.coming.length <= 1000
structure Tn (S : Sh) : Prop where
 names : (S.wares.map (·.name)).Nodup
 len : S.wares.length <= 1000
 wares : ∀ w ∈ S.wares, qv w
def sp_part_names : Sp := λvs H Q _ => ∃ (v : V) (w : Wr), vs = [v] /\ RD H w.d v /\ qv w /\ ∀ p H', H p = none -> H' p = some (.lst ((w.parts.map (·.1)).map V.str)) -> Same H H' -> Q (.ref p) H'
theorem Np : Aj ["ware"] ["ware"] (Ad Ec) := by walk_at "sc"
theorem Nu (F : Fun K "part_names" "part_names" Ec f fd) (T : Txt mg) : Bh P w K mg base CX0 1 f fd ["ware"] sp_part_names := by
 refine F.ok Np (λvs H Q E h => ?_) (λcdv A outer s H vs Q E hr h => ?_)
 ·obtain ⟨v, w, rfl, _⟩ := h
  rfl
 ·obtain ⟨v, w, rfl, rw', ok, k⟩ := h
  have hu := B5 hr
  refine ⟨_, (A9 (Ak (Ff (own := ["part"]) (cap := []) rfl (G0 rfl) (C9 (by decide)) (Dg (A7 hu (pv 0) (Ah rfl T.Zuu) (λ_ _ => rfl)))
 (λ_ _ _ _ _ _ => ⟨(Ac (i := 0) (of_decide_eq_true rfl) rfl (Zzq rfl) (.inr rfl)), De, (A7 hu (pv 0) A8 (λ_ _ => rfl))⟩)))), ?_⟩
  obtain ⟨a, c, p, rfl, ha, rc, rp⟩ := Bg rw'
  obtain ⟨b, ps, rfl, hb, rps⟩ := RD.tup_of rp
  have hl := B2 rps
  walk_at "rd"
  refine ⟨_, Ab (j := 6) ha rfl, b, rfl, _, hb, ?_⟩
  refine Et (Fj b _) (Aw (by rw [hl]; exact ok.1)) (λH' s' => s' _ _ hb) ((w.parts.map (·.1)).map V.str) (by rw [Zzz, Zzz, hl]) (λi x H' hi hx s' N M hN => ?_) (λH' s' p hp => ?_)
  ·obtain ⟨y, hy, ry⟩ := Bc rps hx
   obtain ⟨e, rfl, he⟩ := Qa ry
   walk_at "rd"
   exact ⟨_, Ab (j := 0) (s' _ _ he) rfl, hN _ _ s' (by rw [Zzx, Zzx, hy]; rfl)⟩
  ·exact k p _ (Same.free s' hp) A0 (s'.trans (A3 hp))
def sp_ware_of : Sp := λvs H Q _ => ∃ (v : V) (S : Sh) (n : Str), vs = [v, .str n] /\ RD H S.d v /\ Tn S /\ n ∈ S.wares.map (·.name) /\ ∀ x w, w ∈ S.wares -> w.name = n -> RD H w.d x -> Q x H
def i7 (b : V) (n : Str) (ws : List Wr) (H : Hp) (i : Nat) (Z : St) (H' : Hp) : Prop := ∃ c : Option V, Z = [some b, some (.str n), c] /\ H' = H /\ ∀ w ∈ ws.take i, w.name ≠ n
theorem sc_ware_of : Aj ["shop", "name", "ware"] ["shop", "name"] (Ad Hj) := by walk_at "sc"
theorem Ua (F : Fun K "ware_of" "ware_of" Hj f fd) (T : Txt mg) : Bh P w K mg base CX0 1 f fd ["shop", "name"] sp_ware_of := by
 refine F.ok sc_ware_of (λvs H Q E h => ?_) (λcdv A outer s H vs Q E hr h => ?_)
 ·obtain ⟨v, S, n, rfl, _⟩ := h
  rfl
 ·obtain ⟨v, S, n, rfl, rs, ok, hn, k⟩ := h
  have hu := B5 hr
  refine ⟨_, (A2 (Az PassesOwn.never rfl (Dg (A7 hu (pv 0) A8 (λ_ _ => rfl))) (Ac (i := 2) sc_ware_of.nd rfl (Zzq rfl))
 (A9 (Bd (Al (Bq hu) (A7 hu (pv 2) (Ah rfl T.Zvj) (λ_ _ => rfl)) (pv 1) (Am _)) (A9 (Ak (pv 2))) Ao)))
 (A9 Yp)), ?_⟩
  obtain ⟨a, b, c, ws, us, rfl, ha, hb, hc, rws, rus⟩ := Cy rs
  have hl := B2 rws
  walk_at "rd"
  refine ⟨_, Ab (j := 0) ha rfl, b, rfl, _, hb, ?_⟩
  refine Bw (Fj b _) (i7 (.ref a) n S.wares H) ⟨_, rfl, rfl, by simp⟩ (λi Z H' _ h => by obtain ⟨_, _, rfl, _⟩ := h; exact hb) (λi x Z H' hi hx h => ?_) (λZ H' h => ?_)
  ·obtain ⟨c, rfl, rfl, hno⟩ := h
   obtain ⟨w, hw, rw'⟩ := Bc rws hx
   obtain ⟨e, c1, c2, rfl, he, _⟩ := Bg rw'
   walk_at "rd"
   refine ⟨_, Ab (j := 0) he rfl, rfl, Cr (λh => ?_) (λh => ?_)⟩
   ·exact k _ w (Zzw hw) (by have := of_decide_eq_true h; cases this; rfl) rw'
   ·refine ⟨_, rfl, rfl, λw' hw' => ?_⟩
    rw [Zz8, hw] at hw'
    rcases Zzc.mp hw' with z | z
    ·exact hno w' z
    ·have e : w' = w := by simpa using z
     subst e
     intro e
     exact h (decide_eq_true (by rw [e]))
  ·obtain ⟨c, rfl, rfl, hno⟩ := h
   rw [hl, Zz4] at hno
   obtain ⟨w, hw, e⟩ := Zzs.mp hn
   exact absurd e (hno w hw)
def sp_without_ends : Sp := λvs H Q _ => ∃ (a : Addr) (kvs : List (Key × V)) (G : Gr), vs = [.ref a] /\ H a = some (.dK kvs) /\ PDk H kvs G /\ (At G).Nodup /\ G.length <= 1000 /\ (∀ e ∈ G, e.2.length <= 1000) /\
 ∀ p kvs' H', H p = none -> H' p = some (.dK kvs') -> PDk H' kvs' (Xs G) -> But a H H' -> Q (.ref p) H'
def ik (a p : Addr) (o : Obj) (kvs : List (Key × V)) (G : Gr) (H : Hp) (i : Nat) (Z : St) (H' : Hp) : Prop := ∃ (n g : Option V) (kvs' : List (Key × V)), Z = [some (.ref a), some (.ref p), n, g] /\ H' a = some (.frz o (.dK kvs)) /\ H' p = some (.dK kvs') /\ PDk H' kvs' ((G.take i).filterMap (Ce (At G))) /\ But a H H'
def sj (a p : Addr) (o : Obj) (kvs kvs' : List (Key × V)) (G G' : Gr) (ps : List Str) (H : Hp) (i : Nat) (acc : List V) (H' : Hp) : Prop := acc = (N0 (At G) (ps.take i)).map V.str /\ H' a = some (.frz o (.dK kvs)) /\ H' p = some (.dK kvs') /\ PDk H' kvs' G' /\ But a H H' /\ PDk H' kvs G
theorem P5 {ks ps : List Str} {i : Nat} {x : Str} (h : ps[i]? = some x) : N0 ks (ps.take (i + 1)) = N0 ks (ps.take i) ++ if decide (x ∈ ks) = true then [x] else [] := by
 unfold N0
 rw [Zz8, h, Zvp]
 by_cases hx : x ∈ ks
 ·simp [hx]
 ·simp [hx]
theorem sc_without_ends : Aj ["parts", "left", "name", "going_on"] ["parts"] (Ad Dc) := by walk_at "sc"
theorem Lf (F : Fun K "without_ends" "without_ends" Dc f fd) (T : Txt mg) : Bh P w K mg base CX0 1 f fd ["parts"] sp_without_ends := by
 refine F.ok sc_without_ends (λvs H Q E h => ?_) (λcdv A outer s H vs Q E hr h => ?_)
 ·obtain ⟨a, kvs, G, rfl, _⟩ := h
  rfl
 ·obtain ⟨a, kvs, G, rfl, ha, pd, nd, hG, hps, k⟩ := h
  have hu := B5 hr
  have hkl := pd.len
  have ndk : (kvs.map (·.1)).Nodup := by rw [pd.keys]; exact Xl nd
  refine ⟨_, (A2 (Ae (i := 1) sc_without_ends.nd rfl (Zzq rfl) Ct)
 (A2 (Az PassesOwn.never rfl (ke (pv 0)) (Ac (i := 2) sc_without_ends.nd rfl (Zzq rfl))
 (A2 (En (own := ["part"]) (cap := [0]) (i := 3) rfl (G0 rfl) (C9 (by decide)) sc_without_ends.nd rfl rfl (Cl (A7 hu (pv 0) (pv 2) (λ_ _ => rfl)))
 (λ_ _ _ _ _ _ => ⟨(Ac (i := 0) (of_decide_eq_true rfl) rfl (Zzq rfl) (.inr rfl)), (Vc (Al (Yz hu) (pv 0) (pv 1) rfl)), (pv 0)⟩))
 (A9 (Bd (cx (pv 3)) (A9 (D7 (pv 3) (Dr (pv 1) (pv 2) (Db hu)))) Ao))))
 (A9 (Ak (pv 1))))), ?_⟩
  walk_at "rd"
  refine λp hp => ⟨_, by rw [A5 (A6 ha hp)]; exact ha, λo => ?_⟩
  have nap : a ≠ p := A6 ha hp
  have b0 : But a H (upd (upd H p (.dK [])) a (.frz o (.dK kvs))) := (Ju hp).trans but_set
  have pl : ∀ {H' : Hp}, But a H H' -> PDk H' kvs G := λ{H'} bt => pd.mono λl xs h => bt l _ (λz => by rw [z, ha] at h; cases h) h
  refine Bw (ql a o kvs) (ik a p o kvs G H) ⟨_, _, [], rfl, A0, by rw [A5 (Zzf nap), A0], .nil, b0⟩ (λi Z H' _ h => by obtain ⟨_, _, _, _, h, _⟩ := h; exact h) (λi x Z H' hi hx h => ?_) (λZ H' h => ?_)
  ·obtain ⟨n, g, kvs', rfl, h1, h2, h3, bt⟩ := h
   obtain ⟨key, val, hk, rfl⟩ := hx
   obtain ⟨e, l, he, rfl, rfl, hl⟩ := PDk.get' (pl bt) hk
   have hv := Ic ndk hk
   have hmem := Zzw he
   refine mk (λZ' H'' => ∃ q : Addr, Z' = [some (.ref a), some (.ref p), some (.str e.1), some (.ref q)] /\ H'' q = some (.lst ((N0 (At G) e.2).map V.str)) /\ H'' a = some (.frz o (.dK kvs)) /\ H'' p = some (.dK kvs') /\ PDk H'' kvs' ((G.take i).filterMap (Ce (At G))) /\ But a H H'') ?_ (λKK hK => ?_)
   ·rintro Z' H'' ⟨q, rfl, hq, g1, g2, g3, gb⟩
    walk_at "rd"
    refine ⟨_, hq, ?_⟩
    have et : (G.take (i + 1)).filterMap (Ce (At G)) = (G.take i).filterMap (Ce (At G)) ++ (Ce (At G) e).toList := by
     rw [Zz8, he, List.filterMap_append]
     cases hc : Ce (At G) e <;> simp [hc]
    refine Cr (λhz => ?_) (λhz => ?_)
    ·have hne : N0 (At G) e.2 ≠ [] := λz => by rw [z] at hz; exact absurd hz (by decide)
     have hc : Ce (At G) e = some (e.1, N0 (At G) e.2) := by unfold Ce; rw [if_neg hne]
     have nin : e.1 ∉ At ((G.take i).filterMap (Ce (At G))) := λm => by
      have m' : e.1 ∈ At (G.take i) := (keys_filter (ks := At G) (G := G.take i)).subset m
      have nd' : (At (G.take i) ++ At (G.drop i)).Nodup := by
       have : At (G.take i) ++ At (G.drop i) = At G := by unfold At; rw [<- Zzm, Zw0]
       rw [this]; exact nd
      have hlt : i < G.length := (Zzh.mp he).1
      have md : e.1 ∈ At (G.drop i) := by
       unfold At
       rw [List.drop_eq_getElem_cons hlt]
       have : G[i] = e := (Zzh.mp he).2
       rw [this, Zzd]
       exact Zzj
      exact (Zw8.mp nd').2.2 _ m' _ md rfl
     have hlen' : kvs'.length < sizeLine := by
      have := g3.len
      have h5 : ((G.take i).filterMap (Ce (At G))).length <= (G.take i).length := List.length_filterMap_le _ _
      rw [Zym] at h5
      exact Zyp (m := 1000) (by omega) (by decide)
     refine ⟨kvs', .inr e.1, rfl, g2, hlen', ?_⟩
     have ku : ∀ l xs, H'' l = some (.lst xs) -> upd H'' p (.dK (B8 kvs' (.inr e.1) (.ref q))) l = some (.lst xs) := λl xs h => by rw [A5 (λz => by rw [z, g2] at h; cases h)]; exact h
     refine ⟨_, _, _, rfl, by rw [A5 nap]; exact g1, A0, ?_, ?_⟩
     ·rw [et, hc]
      exact (g3.mono ku).snoc nin (ku _ _ hq)
     ·exact λb o' nb hb => by rw [A5 (A6 hb hp)]; exact gb b o' nb hb
    ·have hne : N0 (At G) e.2 = [] := by
      cases hx : N0 (At G) e.2 with
      | nil => rfl
      | cons y r => rw [hx] at hz; exact absurd rfl hz
     have hc : Ce (At G) e = none := by unfold Ce; rw [if_pos hne]
     exact ⟨_, _, _, rfl, g1, g2, by rw [et, hc]; simpa using g3, gb⟩
   ·walk_at "rd"
    refine ⟨_, Dj (.inr ⟨o, h1⟩) hv, l, rfl, _, hl, ?_⟩
    refine Nf (Dl l _) (Aw (by rw [Zzz]; exact hps e hmem)) (sj a p o kvs kvs' G ((G.take i).filterMap (Ce (At G))) e.2 H) ⟨rfl, h1, h2, h3, bt, pl bt⟩ (λj acc H2 _ h => ?_) (λj acc H2 h => ?_) (λj x acc H2 hj hx h => ?_) (λacc H2 h q hq => ?_)
    ·obtain ⟨_, _, _, _, hb, hpd⟩ := h
     obtain ⟨l2, hl2, hl3⟩ := PDk.get hpd he
     rw [hk] at hl2
     cases hl2
     exact hl3
    ·rw [h.1, Zzz]
     refine Zyx (Zx0 _ _) ?_
     rw [Zym]
     exact Nat.min_le_left _ _
    ·obtain ⟨rfl, w1, w2, w3, w4, w5⟩ := h
     rw [Zzx] at hx
     cases ex : e.2[j]? with
     | none => rw [ex] at hx; cases hx
     | some y =>
     rw [ex] at hx
     cases hx
     walk_at "rd"
     refine ⟨_, .inr (.inr ⟨a, kvs, .inr y, rfl, rfl, .inr ⟨o, w1⟩, rfl⟩), ?_⟩
     rw [w5.has y]
     refine Cr (λhy => ?_) (λhy => ?_)
     ·exact ⟨by rw [P5 ex, if_pos hy, Zzm]; rfl, w1, w2, w3, w4, w5⟩
     ·exact ⟨by rw [P5 ex, if_neg hy, Zyu], w1, w2, w3, w4, w5⟩
    ·obtain ⟨rfl, w1, w2, w3, w4, w5⟩ := h
     rw [Zzz, Zz4]
     have nq : ∀ {b : Addr} {o' : HO} (o'' : HO), H2 b = some o' -> upd H2 q o'' b = some o' := λ{b o'} o'' hb => by rw [A5 (A6 hb hq)]; exact hb
     exact hK _ _ ⟨q, rfl, A0, nq _ w1, nq _ w2, w3.mono λl xs h => nq _ h, w4.trans (Ju hq)⟩
  ·obtain ⟨n, g, kvs', rfl, h1, h2, h3, bt⟩ := h
   walk_at "rd"
   rw [hkl, Zz4] at h3
   exact k p kvs' H' hp h2 h3 bt
def sp_endless_parts : Sp := λvs H Q _ => ∃ (v : V) (S : Sh), vs = [v] /\ RD H S.d v /\ Tn S /\ ∀ p kvs' H', H p = none -> H' p = some (.dK kvs') -> PDk H' kvs' (Nc S.wares.length (Es S)) -> Same H H' -> Q (.ref p) H'
def o0 (v : V) (p : Addr) (S : Sh) (H : Hp) (i : Nat) (Z : St) (H' : Hp) : Prop := ∃ (n g : Option V) (kvs' : List (Key × V)), Z = [some v, some (.ref p), n, g] /\ H' p = some (.dK kvs') /\ PDk H' kvs' ((Es S).take i) /\ Same H H'
def nt (v : V) (S : Sh) (H : Hp) (i : Nat) (Z : St) (H' : Hp) : Prop := ∃ (q : Addr) (n g : Option V) (kvs' : List (Key × V)), Z = [some v, some (.ref q), n, g] /\ H q = none /\ H' q = some (.dK kvs') /\ PDk H' kvs' (Nc i (Es S)) /\ Same H H'
theorem gf (S : Sh) : At (Es S) = S.wares.map (·.name) := by unfold At Es; rw [Zy1]; rfl
theorem Ul (S : Sh) : (Es S).length = S.wares.length := by unfold Es; rw [Zzz]
theorem Zt {S : Sh} (ok : Tn S) : ∀ e ∈ Es S, e.2.length <= 1000 := λe he => by
 obtain ⟨w, hw, rfl⟩ := Zzs.mp he
 show (w.parts.map (·.1)).length <= 1000
 rw [Zzz]
 exact (ok.wares w hw).1
theorem sc_endless_parts : Aj ["shop", "parts", "ware", "turn"] ["shop"] (Ad D5) := by walk_at "sc"
theorem Kh (F : Fun K "endless_parts" "endless_parts" D5 f fd) (T : Txt mg) (Zvi : Has P w K mg base "part_names" 1 ["ware"] sp_part_names) (Zut : Has P w K mg base "without_ends" 1 ["parts"] sp_without_ends) : Bh P w K mg base CX0 2 f fd ["shop"] sp_endless_parts := by
 refine F.ok sc_endless_parts (λvs H Q E h => ?_) (λcdv A outer s H vs Q E hr h => ?_)
 ·obtain ⟨v, S, rfl, _⟩ := h
  rfl
 ·obtain ⟨v, S, rfl, rs, ok, k⟩ := h
  have hu := B5 hr
  have nd : (At (Es S)).Nodup := by rw [gf]; exact ok.names
  refine ⟨_, (A2 (Ae (i := 1) sc_endless_parts.nd rfl (Zzq rfl) Ct)
 (A2 (Az PassesOwn.never rfl (Dg (A7 hu (pv 0) A8 (λ_ _ => rfl))) (Ac (i := 2) sc_endless_parts.nd rfl (Zzq rfl))
 (A9 (D7 (Aa Zvi hr.z rfl (A4 (pv 2) A1)) (Dr (pv 1) (A7 hu (pv 2) (Ah rfl T.Zvj) (λ_ _ => rfl)) (Db hu)))))
 (A2 (Az PassesOwn.never rfl (Cs rfl T.Zv3 (A4 (Ap B9 rfl T.Zvb D0 (A4 (A7 hu (pv 0) A8 (λ_ _ => rfl)) A1)) A1)) (Ac (i := 3) sc_endless_parts.nd rfl (Zzq rfl))
 (A9 (Ae (i := 1) sc_endless_parts.nd rfl (Zzq rfl) (Aa Zut hr.z rfl (A4 (pv 1) A1)))))
 (A9 (Ak (pv 1)))))), ?_⟩
  obtain ⟨a, b, c, ws, us, rfl, ha, hb, hc, rws, rus⟩ := Cy rs
  have hl := B2 rws
  refine gy (λZ' H' => ∃ (p : Addr) (n g : Option V) (kvs' : List (Key × V)), Z' = [some (.ref a), some (.ref p), n, g] /\ H p = none /\ H' p = some (.dK kvs') /\ PDk H' kvs' (Es S) /\ Same H H') ?_ (λKK hK => ?_)
  ·rintro Z' H1 ⟨p, n, g, kvs', rfl, hp, hp1, pd, sm⟩
   walk_at "rd"
   refine ⟨_, Ab (j := 0) (sm _ _ ha) rfl, b, rfl, _, .inr (sm _ _ hb), by omega, by have := ok.len; omega, ?_⟩
   have en : ((ws.length : Nat) : Int).toNat = S.wares.length := by omega
   rw [en]
   refine Bw (L5 0 _) (nt (.ref a) S H) ⟨p, _, _, _, rfl, hp, hp1, pd, sm⟩ (λ_ _ _ _ _ => trivial) (λi x Z H2 hi hx h => ?_) (λZ H2 h => ?_)
   ·obtain ⟨q, n, g, kvs', rfl, hq, hq1, pd, sm⟩ := h
    walk_at "rd"
    refine ⟨q, kvs', _, rfl, hq1, pd, Nb nd i, by have := Td (Es S) i; rw [Ul] at this; have := ok.len; omega, λe he => ?_, λp2 kvs2 H3 hp2 hp3 pd3 bt => ?_⟩
    ·obtain ⟨ps, h1, _, h3⟩ := Gk i he
     have := Zt ok _ h1
     have : ps.length <= 1000 := this
     omega
    ·exact ⟨p2, _, _, kvs2, rfl, Same.free sm hp2, hp3, pd3, λb' o hb' => bt b' o (A6 hb' hq) (sm b' o hb')⟩
   ·obtain ⟨q, n, g, kvs', rfl, hq, hq1, pd, sm⟩ := h
    walk_at "rd"
    exact k q kvs' H2 hq hq1 pd sm
  ·walk_at "rd"
   refine λp hp => ?_
   refine ⟨_, Ab (j := 0) (by rw [A5 (A6 ha hp)]; exact ha) rfl, b, rfl, _, by rw [A5 (A6 hb hp)]; exact hb, ?_⟩
   refine Bw (Fj b _) (o0 (.ref a) p S H) ⟨_, _, [], rfl, A0, .nil, A3 hp⟩ (λi Z H' _ h => by obtain ⟨_, _, _, _, _, _, s⟩ := h; exact s _ _ hb) (λi x Z H' hi hx h => ?_) (λZ H' h => ?_)
   ·obtain ⟨n, g, kvs', rfl, h1, h2, sm⟩ := h
    obtain ⟨w, hw, rw'⟩ := Bc rws hx
    have hg : (Es S)[i]? = some (w.name, w.parts.map (·.1)) := by unfold Es; rw [Zzx, hw]; rfl
    walk_at "rd"
    refine ⟨x, w, rfl, RD.same sm _ _ rw', ok.wares w (Zzw hw), λq H2 hq hq2 sm2 => ?_⟩
    obtain ⟨e, c1, c2, rfl, he, _⟩ := Bg rw'
    have sm02 := sm.trans sm2
    have nin : w.name ∉ At ((Es S).take i) := λm => by
     have nd' : (At ((Es S).take i) ++ At ((Es S).drop i)).Nodup := by
      have : At ((Es S).take i) ++ At ((Es S).drop i) = At (Es S) := by unfold At; rw [<- Zzm, Zw0]
      rw [this]; exact nd
     have hlt : i < (Es S).length := (Zzh.mp hg).1
     have md : w.name ∈ At ((Es S).drop i) := by
      unfold At
      rw [List.drop_eq_getElem_cons hlt]
      have : (Es S)[i] = (w.name, w.parts.map (·.1)) := (Zzh.mp hg).2
      rw [this, Zzd]
      exact Zzj
     exact (Zw8.mp nd').2.2 _ m _ md rfl
    have hp2 := sm2 p _ h1
    refine ⟨_, Ab (j := 0) (sm02 _ _ he) rfl, kvs', .inr w.name, rfl, hp2, ?_, ?_⟩
    ·have := h2.len
     rw [Zym, Ul] at this
     have := ok.len
     exact Zyp (m := 1000) (by omega) (by decide)
    ·have ku : ∀ l xs, H2 l = some (.lst xs) -> upd H2 p (.dK (B8 kvs' (.inr w.name) (.ref q))) l = some (.lst xs) := λl xs h => by rw [A5 (λz => by rw [z, hp2] at h; cases h)]; exact h
     refine ⟨_, _, _, rfl, A0, ?_, λb' o hb' => by rw [A5 (A6 hb' hp)]; exact sm02 b' o hb'⟩
     rw [Zz8, hg]
     exact ((h2.mono λl xs h => sm2 l _ h).mono ku).snoc nin (ku _ _ hq2)
   ·obtain ⟨n, g, kvs', rfl, h1, h2, sm⟩ := h
    rw [hl, <- Ul, Zz4] at h2
    exact hK _ _ ⟨p, _, _, kvs', rfl, hp, h1, h2, sm⟩
def Iu (S : Sh) : Prop := Nc S.wares.length (Es S) = []
def sp_ring : Sp := λvs H Q _ => ∃ (v : V) (S : Sh), vs = [v] /\ RD H S.d v /\ Tn S /\ Iu S /\ ∀ H', Same H H' -> Q .non H'
theorem sc_ring : Aj ["shop", "parts", "way", "name"] ["shop"] (Ad Q0) := by walk_at "sc"
theorem fg (F : Fun K "ring" "ring" Q0 f fd) (T : Txt mg) (Zv1 : Has P w K mg base "endless_parts" 2 ["shop"] sp_endless_parts) : Bh P w K mg base CX0 3 f fd ["shop"] sp_ring := by
 refine F.ok sc_ring (λvs H Q E h => ?_) (λcdv A outer s H vs Q E hr h => ?_)
 ·obtain ⟨v, S, rfl, _⟩ := h
  rfl
 ·obtain ⟨v, S, rfl, rs, ok, no, k⟩ := h
  have hu := B5 hr
  refine ⟨_, (A2 (Ae (i := 1) sc_ring.nd rfl (Zzq rfl) (Aa Zv1 hr.z rfl (A4 (pv 0) A1)))
 (A2 (Bd (Q6 (cy (pv 1))) (A9 (Ak Fn)) Ao)
 Ov)), ?_⟩
  walk_at "rd"
  refine ⟨v, S, rfl, rs, ok, λp kvs H' hp hp' pd sm => ?_⟩
  rw [no] at pd
  cases pd
  exact ⟨p, rfl, [], hp', iteT (k H' sm)⟩
def sp_check_rings : Sp := λvs H Q _ => ∃ (v : V) (S : Sh), vs = [v] /\ RD H S.d v /\ Tn S /\ Iu S /\ ∀ H', Same H H' -> Q .non H'
theorem sc_check_rings : Aj ["shop", "found", "names"] ["shop"] (Ad Dw) := by walk_at "sc"
theorem Ml (F : Fun K "check_rings" "check_rings" Dw f fd) (T : Txt mg) (Zu0 : Has P w K mg base "ring" 3 ["shop"] sp_ring) : Bh P w K mg base CX0 4 f fd ["shop"] sp_check_rings := by
 refine F.ok sc_check_rings (λvs H Q E h => ?_) (λcdv A outer s H vs Q E hr h => ?_)
 ·obtain ⟨v, S, rfl, _⟩ := h
  rfl
 ·obtain ⟨v, S, rfl, rs, ok, no, k⟩ := h
  have hu := B5 hr
  refine ⟨_, (A2 (Ae (i := 1) sc_check_rings.nd rfl (Zzq rfl) (Aa Zu0 hr.z rfl (A4 (pv 0) A1)))
 (A9 (Bd (Al Ke (pv 1) Fn (Am _)) Ov Ao))), ?_⟩
  walk_at "rd"
  refine ⟨v, S, rfl, rs, ok, no, λH' sm => ?_⟩
  walk_at "rd"
  exact qf trivial (k H' sm)
end
set_option maxHeartbeats 4000000
section
variable {P : Program} {w : World} {K : Zzv} {mg : Str -> Option Value} {base : Heap} {f : Addr} {fd : FuncData} {Pt : Addr}
structure W3 (S : Sh) : Prop extends Lev S where
 ok : Tn S
 few : S.wares.length < 64
theorem Ui {S : Sh} (h : Lev S) : Iu S := by
 obtain ⟨r, h1, h2⟩ := h.low
 unfold Iu
 refine Tc (r := r) (λe he x hx => ?_) (λe he => ?_)
 ·obtain ⟨w, hw, rfl⟩ := Zzs.mp he
  obtain ⟨p, hp, rfl⟩ := Zzs.mp hx
  exact h2 w hw p hp
 ·obtain ⟨w, hw, rfl⟩ := Zzs.mp he
  exact h1 w hw
def Ag (S : Sh) : List Str := S.wares.map (·.name)
theorem Bs (S : Sh) : (Ag S).length = S.wares.length := by unfold Ag; rw [Zzz]
def sp_names_of : Sp := λvs H Q _ => ∃ (v : V) (S : Sh), vs = [v] /\ RD H S.d v /\ S.wares.length <= 1000 /\ ∀ p H', H p = none -> H' p = some (.lst ((Ag S).map V.str)) -> Same H H' -> Q (.ref p) H'
theorem S1 : Aj ["shop"] ["shop"] (Ad G4) := by walk_at "sc"
theorem Sg (F : Fun K "names_of" "names_of" G4 f fd) (T : Txt mg) : Bh P w K mg base CX0 1 f fd ["shop"] sp_names_of := by
 refine F.ok S1 (λvs H Q E h => ?_) (λcdv A outer s H vs Q E hr h => ?_)
 ·obtain ⟨v, S, rfl, _⟩ := h
  rfl
 ·obtain ⟨v, S, rfl, rs, hlen, k⟩ := h
  have hu := B5 hr
  refine ⟨_, (A9 (Ak (Ff (own := ["ware"]) (cap := []) rfl (G0 rfl) (C9 (by decide)) (Dg (A7 hu (pv 0) A8 (λ_ _ => rfl)))
 (λ_ _ _ _ _ _ => ⟨(Ac (i := 0) (of_decide_eq_true rfl) rfl (Zzq rfl) (.inr rfl)), De, (A7 hu (pv 0) (Ah rfl T.Zvj) (λ_ _ => rfl))⟩)))), ?_⟩
  obtain ⟨a, b, c, ws, us, rfl, ha, hb, hc, rws, rus⟩ := Cy rs
  have hl := B2 rws
  walk_at "rd"
  refine ⟨_, Ab (j := 0) ha rfl, b, rfl, _, hb, ?_⟩
  refine Et (Fj b _) (Aw (by omega)) (λH' s' => s' _ _ hb) ((Ag S).map V.str) (by rw [Zzz, Bs, hl]) (λi x H' hi hx s' N M hN => ?_) (λH' s' p hp => ?_)
  ·obtain ⟨y, hy, ry⟩ := Bc rws hx
   obtain ⟨e, c1, c2, rfl, he, _⟩ := Bg ry
   walk_at "rd"
   refine ⟨_, Ab (j := 0) (s' _ _ he) rfl, hN _ _ s' ?_⟩
   unfold Ag
   rw [Zzx, Zzx, hy]
   rfl
  ·exact k p _ (Same.free s' hp) A0 (s'.trans (A3 hp))
def sp_levels : Sp := λvs H Q _ => ∃ (v : V) (S : Sh), vs = [v] /\ RD H S.d v /\ W3 S /\ ∀ p H', H p = none -> H' p = some (.dK (fnD (Ag S) (lv S))) -> Same H H' -> Q (.ref p) H'
def i6 (v : V) (p : Addr) (S : Sh) (H : Hp) (i : Nat) (Z : St) (H' : Hp) : Prop := ∃ o1 o2 o3 o4 : Option V, Z = [some v, some (.ref p), o1, o2, o3, o4] /\ H' p = some (.dK (fnD ((Ag S).take i) λ_ => 0)) /\ Same H H'
def ji (S : Sh) (k i j : Nat) (g : Str -> Int) : Prop := (∀ x, 0 <= g x /\ lvF S k x <= g x /\ (x ∈ Ag S -> g x <= lv S x)) /\ (∀ w ∈ S.wares.take i, ∀ p ∈ w.parts, 1 + lvF S k w.name <= g p.1) /\ ∀ w, S.wares[i]? = some w -> ∀ p ∈ w.parts.take j, 1 + lvF S k w.name <= g p.1
def i9 (v : V) (p : Addr) (S : Sh) (H : Hp) (k : Nat) (Z : St) (H' : Hp) : Prop := ∃ (o1 o2 o3 o4 : Option V) (g : Str -> Int), Z = [some v, some (.ref p), o1, o2, o3, o4] /\ H' p = some (.dK (fnD (Ag S) g)) /\ (∀ x, 0 <= g x /\ lvF S k x <= g x /\ (x ∈ Ag S -> g x <= lv S x)) /\ Same H H'
def ic (v : V) (p : Addr) (S : Sh) (k : Nat) (H : Hp) (i : Nat) (Z : St) (H' : Hp) : Prop := ∃ (o1 o2 o3 o4 : Option V) (g : Str -> Int), Z = [some v, some (.ref p), o1, o2, o3, o4] /\ H' p = some (.dK (fnD (Ag S) g)) /\ ji S k i 0 g /\ Same H H'
def bg (v : V) (p : Addr) (t : V) (S : Sh) (k i : Nat) (H : Hp) (j : Nat) (Z : St) (H' : Hp) : Prop := ∃ (o1 o2 o4 : Option V) (g : Str -> Int), Z = [some v, some (.ref p), o1, o2, some t, o4] /\ H' p = some (.dK (fnD (Ag S) g)) /\ ji S k i j g /\ Same H H'
theorem sc_levels : Aj ["shop", "told", "name", "turn", "ware", "part"] ["shop"] (Ad J9) := by walk_at "sc"
theorem Wx (F : Fun K "levels" "levels" J9 f fd) (T : Txt mg) (Zvl : Has P w K mg base "check_rings" 4 ["shop"] sp_check_rings) (Zv4 : Has P w K mg base "names_of" 1 ["shop"] sp_names_of) (Zvi : Has P w K mg base "part_names" 1 ["ware"] sp_part_names) : Bh P w K mg base CX0 5 f fd ["shop"] sp_levels := by
 refine F.ok sc_levels (λvs H Q E h => ?_) (λcdv A outer s H vs Q E hr h => ?_)
 ·obtain ⟨v, S, rfl, _⟩ := h
  rfl
 ·obtain ⟨v, S, rfl, rs, L, k⟩ := h
  have hu := B5 hr
  refine ⟨_, (A2 (Ba (Aa Zvl hr.z rfl (A4 (pv 0) A1)))
 (A2 (Ae (i := 1) sc_levels.nd rfl (Zzq rfl) Ct)
 (A2 (Az PassesOwn.never rfl (Cl (Aa Zv4 hr.z rfl (A4 (pv 0) A1))) (Ac (i := 2) sc_levels.nd rfl (Zzq rfl))
 (A9 (D7 A8 (Dr (pv 1) (pv 2) (Db hu)))))
 (A2 (Az PassesOwn.never rfl (Cs rfl T.Zv3 (A4 (Ap B9 rfl T.Zvb D0 (A4 (A7 hu (pv 0) A8 (λ_ _ => rfl)) A1)) A1)) (Ac (i := 3) sc_levels.nd rfl (Zzq rfl))
 (A9 (Az PassesOwn.never rfl (Dg (A7 hu (pv 0) A8 (λ_ _ => rfl))) (Ac (i := 4) sc_levels.nd rfl (Zzq rfl))
 (A9 (Az PassesOwn.never rfl (Cl (Aa Zvi hr.z rfl (A4 (pv 4) A1))) (Ac (i := 5) sc_levels.nd rfl (Zzq rfl))
 (A9 (D7 (Ap (Pe rfl) rfl T.Zu3 Rj (A4 (A7 hu (pv 1) (pv 5) (λ_ _ => rfl)) (A4 (Ar Bx (A7 hu (pv 1) (A7 hu (pv 4) (Ah rfl T.Zvj) (λ_ _ => rfl)) (λ_ _ => rfl)) A8) A1))) (Dr (pv 1) (pv 5) (Db hu)))))))))
 (A9 (Ak (pv 1))))))), ?_⟩
  have hfew := L.few
  walk_at "rd"
  refine ⟨v, S, rfl, rs, L.ok, Ui L.toLev, λH1 sm1 => ?_⟩
  obtain ⟨a, b, c, ws, us, rfl, ha, hb, hc, rws, rus⟩ := Cy rs
  have hl := B2 rws
  intro p hp
  have u1 := sm1.trans (A3 (o := .dK []) hp)
  have fp : H p = none := Same.free sm1 hp
  have hnl := Bs S
  refine ⟨.ref a, S, rfl, RD.same u1 _ _ rs, by omega, λq H2 hq hq2 sm2 => ⟨q, rfl, _, hq2, ?_⟩⟩
  have hp2 := sm2 p _ A0
  have s2 := u1.trans sm2
  have qp : q ≠ p := λz => by rw [z, A0] at hq; cases hq
  refine Bw (Dl q _) (λi Z H' => i6 (.ref a) p S H i Z H' /\ H' q = some (.lst ((Ag S).map V.str))) ⟨⟨_, _, _, _, rfl, hp2, s2⟩, hq2⟩ (λi Z H' _ h => h.2) (λi x Z H3 hi hx h => ?_) (λZ H3 h => ?_)
  ·obtain ⟨⟨o1, o2, o3, o4, rfl, hp3, s3⟩, hq3⟩ := h
   rw [Zzz] at hi
   rw [Zzx] at hx
   cases en : (Ag S)[i]? with
   | none => rw [en] at hx; cases hx
   | some nm =>
   rw [en] at hx
   have hx : V.str nm = x := Zzn hx
   subst hx
   walk_at "rd"
   refine ⟨_, .inr nm, rfl, hp3, ?_, ⟨_, _, _, _, rfl, ?_, λb' o' hb' => by rw [A5 (A6 hb' fp)]; exact s3 b' o' hb'⟩, by rw [A5 qp]; exact hq3⟩
   ·rw [Rf, Zym]
    exact Zyp (m := 1000) (by omega) (by decide)
   ·have nin : nm ∉ (Ag S).take i := Cv L.nd en
    rw [A0, Vu nin, Zz8, en]
    exact congrArg (λz => some (HO.dK z)) (Ko λx _ => by split <;> rfl)
  ·obtain ⟨⟨o1, o2, o3, o4, rfl, hp3, s3⟩, _⟩ := h
   rw [Zzz, Zz4] at hp3
   walk_at "rd"
   refine ⟨_, Ab (j := 0) (s3 _ _ ha) rfl, b, rfl, _, .inr (s3 _ _ hb), by omega, by omega, ?_⟩
   have en : ((ws.length : Nat) : Int).toNat = S.wares.length := by omega
   rw [en]
   refine Bw (L5 0 _) (i9 (.ref a) p S H) ⟨_, _, _, _, λ_ => 0, rfl, hp3, λx => ⟨Zz0 _, Zz0 _, λ_ => Vm S x⟩, s3⟩ (λ_ _ _ _ _ => trivial) (λk' x Z H4 hi hx h => ?_) (λZ H4 h => ?_)
   ·obtain ⟨o1, o2, o3, o4, g, rfl, hp4, hg, s4⟩ := h
    walk_at "rd"
    refine ⟨_, Ab (j := 0) (s4 _ _ ha) rfl, b, rfl, _, s4 _ _ hb, ?_⟩
    refine Bw (Fj b _) (ic (.ref a) p S k' H) ⟨_, _, _, _, g, rfl, hp4, ⟨hg, (λw hw => by cases hw), λw _ p hp => by cases hp⟩, s4⟩ (λi Z H' _ h => by obtain ⟨_, _, _, _, _, _, _, _, s⟩ := h; exact s _ _ hb) (λi y Z H5 hi2 hy h => ?_) (λZ H5 h => ?_)
    ·obtain ⟨o1, o2, o3, o4, g, rfl, hp5, hg, s5⟩ := h
     obtain ⟨t, ht, rt⟩ := Bc rws hy
     have htm := Zzw ht
     obtain ⟨te, d1, d2, rfl, hte, _⟩ := Bg rt
     walk_at "rd"
     refine ⟨.ref te, t, rfl, RD.same s5 _ _ rt, L.ok.wares t htm, λq2 H6 hq6 hq7 sm6 => ⟨q2, rfl, _, hq7, ?_⟩⟩
     have hp6 := sm6 p _ hp5
     have s6 := s5.trans sm6
     have q2p : q2 ≠ p := λz => by rw [z, hp5] at hq6; cases hq6
     refine Bw (Dl q2 _) (λj Z H' => bg (.ref a) p (.ref te) S k' i H j Z H' /\ H' q2 = some (.lst ((t.parts.map (·.1)).map V.str))) ⟨⟨_, _, _, g, rfl, hp6, hg, s6⟩, hq7⟩ (λj Z H' _ h => h.2) (λj z Z H7 hj hz h => ?_) (λZ H7 h => ?_)
     ·obtain ⟨⟨o1, o2, o4, g, rfl, hp7, hg, s7⟩, hq8⟩ := h
      rw [Zzz, Zzz] at hj
      obtain ⟨pp, hpp⟩ : ∃ pp, t.parts[j]? = some pp := ⟨_, Zzr hj⟩
      rw [Zzx, Zzx, hpp] at hz
      have hz : V.str pp.1 = z := Zzn hz
      subst hz
      have hpm := Zzw hpp
      have hown : pp.1 ∈ Ag S := L.own t htm pp hpm
      have htn : t.name ∈ Ag S := Zzs.mpr ⟨t, htm, rfl⟩
      walk_at "rd"
      have hg1 := (hg.1 pp.1)
      have hgt := (hg.1 t.name)
      have hup : g t.name + 1 <= lv S pp.1 := by have h1 := hgt.2.2 htn; have h2 := Lp L.toLev htm hpm; omega
      refine ⟨.int (g pp.1), Dj (.inl hp7) (Jq hown), _, Ab (j := 0) (s7 _ _ hte) rfl, .int (g t.name), Dj (.inl hp7) (Jq htn), _, rfl, _, rfl, _, .inr pp.1, rfl, hp7, by rw [Rf, hnl]; exact Zyp (m := 1000) (by omega) (by decide), ?_, by rw [A5 q2p]; exact hq8⟩
      rw [gp hown]
      refine ⟨_, _, _, λx => if x = pp.1 then (if g t.name + 1 > g pp.1 then g t.name + 1 else g pp.1) else g x, rfl, A0, ?_, λb' o' hb' => by rw [A5 (A6 hb' fp)]; exact s7 b' o' hb'⟩
      have gr : ∀ x, g x <= (if x = pp.1 then (if g t.name + 1 > g pp.1 then g t.name + 1 else g pp.1) else g x) := λx => by
       split
       ·rename_i e; rw [e]; split <;> omega
       ·exact Zz0 _
      refine ⟨λx => ⟨Zxq (hg.1 x).1 (gr x), Zxq (hg.1 x).2.1 (gr x), λhx => ?_⟩, λw hw p hp => Zxq (hg.2.1 w hw p hp) (gr p.1), λw hw p hp => ?_⟩
      ·show (if x = pp.1 then (if g t.name + 1 > g pp.1 then g t.name + 1 else g pp.1) else g x) <= lv S x
       split
       ·rename_i e; rw [e]; have := hg1.2.2 hown; split <;> omega
       ·exact (hg.1 x).2.2 hx
      ·rw [ht] at hw
       have e : t = w := Zzn hw
       subst e
       rw [Zz8, hpp] at hp
       rcases Zzc.mp hp with m | m
       ·exact Zxq (hg.2.2 t ht p m) (gr p.1)
       ·have e : p = pp := by simpa using m
        subst e
        show 1 + lvF S k' t.name <= (if p.1 = p.1 then (if g t.name + 1 > g p.1 then g t.name + 1 else g p.1) else g p.1)
        rw [if_pos rfl]
        have := hgt.2.1
        split <;> omega
     ·obtain ⟨⟨o1, o2, o4, g, rfl, hp7, hg, s7⟩, _⟩ := h
      rw [Zzz, Zzz] at hg
      refine ⟨_, _, _, _, g, rfl, hp7, ⟨hg.1, λw hw p hp => ?_, λw _ p hp => by cases hp⟩, s7⟩
      rw [Zz8, ht] at hw
      rcases Zzc.mp hw with m | m
      ·exact hg.2.1 w m p hp
      ·have e : w = t := by simpa using m
       subst e
       exact hg.2.2 w ht p (by rw [Zz4]; exact hp)
    ·obtain ⟨o1, o2, o3, o4, g, rfl, hp5, hg, s5⟩ := h
     rw [hl] at hg
     exact ⟨_, _, _, _, g, rfl, hp5, λx => ⟨(hg.1 x).1, Zd (λx => (hg.1 x).1) (λw hw p hp => hg.2.1 w (by rw [Zz4]; exact hw) p hp) x, (hg.1 x).2.2⟩, s5⟩
   ·obtain ⟨o1, o2, o3, o4, g, rfl, hp4, hg, s4⟩ := h
    walk_at "rd"
    refine k p H4 fp ?_ s4
    rw [hp4]
    exact congrArg (λz => some (HO.dK z)) (Ko λx hx => Int.le_antisymm ((hg x).2.2 hx) (hg x).2.1)
def El (Pt : Addr) : Sp := λvs H Q _ => ∃ (v : V) (S : Sh), vs = [v] /\ RD H S.d v /\ W3 S /\ Tb H Pt /\ ∀ p ys H', H p = none -> H' p = some (.lst (ys.map V.str)) -> Ld (lv S) (Ag S) ys -> G1 (lv S) (Ag S) ys -> Tb H' Pt -> But Pt H H' -> Q (.ref p) H'
theorem sc_worked : Aj ["shop", "level_of"] ["shop"] (Ad J5) := by walk_at "sc"
theorem Ws {ct : Addr} (F : Fun K "worked" "worked" J5 f fd) (T : Txt mg) (Zu7 : Has P w K mg base "levels" 5 ["shop"] sp_levels) (Zv4 : Has P w K mg base "names_of" 1 ["shop"] sp_names_of) (C : bv K f ct Pt) (hB : Ib mg base) : Bh P w K mg base CX0 6 f fd ["shop"] (El Pt) := by
 refine F.okC C sc_worked (λvs H Q E h => ?_) (λA outer s H vs Q E hr h => ?_)
 ·obtain ⟨v, S, rfl, _⟩ := h
  rfl
 ·obtain ⟨v, S, rfl, rs, L, tb, k⟩ := h
  have hu := B5 hr
  refine ⟨_, (A2 (Ae (i := 1) sc_worked.nd rfl (Or.inr rfl) (Aa Zu7 hr.z rfl (A4 (pv 0) A1)))
 (A9 (Ak (Yr (i := 1) (nm := "name") (lv := "level_of") rfl T.Zu8 (Aa Zv4 hr.z rfl (A4 (pv 0) A1)) hr rfl C.hd hB rfl rfl rfl (λ_ h => Tf rfl h) ⟨rfl, rfl, rfl, rfl, rfl, by decide⟩ (λ_ _ _ _ _ => rfl))))), ?_⟩
  have hfew := L.few
  walk_at "rd"
  refine ⟨v, S, rfl, rs, L, λp H1 hp hp1 sm1 => ?_⟩
  refine ⟨v, S, rfl, RD.same sm1 _ _ rs, by omega, λq H2 hq hq2 sm2 => ?_⟩
  have s2 := sm1.trans sm2
  unfold Lu
  refine ⟨q, Ag S, p, fnD (Ag S) (lv S), lv S, rfl, hq2, by rw [Bs]; exact hfew, rfl, sm2 _ _ hp1, λx hx => Jq hx, TblAt.same tb s2, λr ys H3 hr3 hr4 so sb tb3 bt => ?_⟩
  exact k r ys H3 (Same.free s2 hr3) hr4 so sb tb3 (λb o nb hb => bt b o nb (s2 b o hb))
theorem Tb.same {H H' : Hp} {Pt : Addr} (t : Tb H Pt) (s : Same H H') : Tb H' Pt := TblAt.same t s
theorem Tb.at {H : Hp} {Pt : Addr} (t : Tb H Pt) : ∃ u, H Pt = some (.tbl u) := t.elim (λe => ⟨_, e⟩) (λ⟨_, e, _⟩ => ⟨_, e⟩)
theorem Dy {H H' : Hp} {Pt : Addr} (t : Tb H Pt) (b : But Pt H H') : KeepU H H' := λa xs e => b a _ (λz => by obtain ⟨u, hu⟩ := t.at; rw [z, hu] at e; cases e) e
theorem im {H : Hp} {a : Addr} {kvs : List (Key × V)} (h : H a = some (.dK kvs)) : Le H (.ref a) = some "dict" := by unfold Le; simp only [h]
theorem Tw {H : Hp} {Pt p : Addr} {kvs : List (Key × V)} {o : HO} (t : Tb H Pt) (h : H p = some (.dK kvs)) : Tb (upd H p o) Pt := by
 rcases t with e | ⟨c, e, e2⟩
 ·exact .inl (by rw [A5 (λz => by rw [z, h] at e; cases e)]; exact e)
 ·exact .inr ⟨c, by rw [A5 (λz => by rw [z, h] at e; cases e)]; exact e, by rw [A5 (λz => by rw [z, h] at e2; cases e2)]; exact e2⟩
theorem Po {H : Hp} {Pt p : Addr} {xs : List V} {o : HO} (t : Tb H Pt) (h : H p = some (.lst xs)) : Tb (upd H p o) Pt := by
 rcases t with e | ⟨c, e, e2⟩
 ·exact .inl (by rw [A5 (λz => by rw [z, h] at e; cases e)]; exact e)
 ·exact .inr ⟨c, by rw [A5 (λz => by rw [z, h] at e; cases e)]; exact e, by rw [A5 (λz => by rw [z, h] at e2; cases e2)]; exact e2⟩
theorem Ie {H H' : Hp} {Pt st : Addr} (t : Tb H Pt) (b : But st H H') (s : StOk H st) : Tb H' Pt := by
 obtain ⟨ns, _, es⟩ := s
 rcases t with e | ⟨c, e, e2⟩
 ·exact .inl (b _ _ (λz => by rw [z, es] at e; cases e) e)
 ·exact .inr ⟨c, b _ _ (λz => by rw [z, es] at e; cases e) e, b _ _ (λz => by rw [z, es] at e2; cases e2) e2⟩
theorem Dx {H : Hp} {Pt p : Addr} {o : HO} (t : Tb H Pt) (h : H p = some o) (hn : ∀ u, o ≠ .tbl u) : p ≠ Pt := λz => by
 obtain ⟨u, e⟩ := t.at
 rw [<- z, h] at e
 exact hn u (Zzn e)
theorem M1 {H H' : Hp} {Pt st : Addr} (s : StOk H st) (t : Tb H Pt) (b : But Pt H H') : StOk H' st := by
 obtain ⟨ms, e1, e2⟩ := s
 exact ⟨ms, e1, b _ _ (Dx t e2 λu z => by cases z) e2⟩
end
set_option maxHeartbeats 4000000
section
variable {P : Program} {w : World} {K : Zzv} {mg : Str -> Option Value} {base : Heap} {f : Addr} {fd : FuncData} {Pt : Addr}
def letters : List Nat := ("abcdefghijklmnopqrstuvwxyz" : Str).cps.toList
theorem Cq {H H' : Hp} {st : Addr} (s : But st H H') (h : StOk H st) : KeepU H H' := λa xs e => s a _ (h.neT e) e
theorem Ep {H : Hp} {l : Addr} {xs ys : List V} (h : H l = some (.lst xs)) : KeepU H (upd H l (.lst ys)) := li h (λ_ z => by cases z)
def sp_law_next : Sp := λvs H Q _ => ∃ st m, vs = [.ref st, .int m] /\ StOk H st /\ 0 < m /\ m < 10 ^ 200 /\ ∀ d H', 0 <= d -> d < m -> StOk H' st -> But st H H' -> Q (.int d) H'
theorem sc_law_next : Aj ["_law_state", "_law_many", "_law_digit"] ["_law_state", "_law_many"] (Ad G7) := by walk_at "sc"
theorem Sk (F : Fun K "_law_next" "_law_next" G7 f fd) (T : Txt mg) : Bh P w K mg base CX0 1 f fd ["_law_state", "_law_many"] sp_law_next := by
 refine F.ok sc_law_next (λvs H Q E h => ?_) (λcdv A outer s H vs Q E hr h => ?_)
 ·obtain ⟨st, m, rfl, _⟩ := h
  rfl
 ·obtain ⟨st, m, rfl, ⟨ns, hne, hs⟩, h0, hm, k⟩ := h
  have hu := B5 hr
  refine ⟨_, (A2 (Bd (Al Jg (Ap B9 rfl T.Zvb D0 (A4 (pv 0) A1)) A8 (Am _)) (A2 (Ae (i := 2) sc_law_next.nd rfl (Zzq rfl) (Ar Kd (A7 hu (pv 0) A8 (λ_ _ => rfl)) (pv 1)))
 (A2 (D7 (Ar Fx (A7 hu (pv 0) A8 (λ_ _ => rfl)) (pv 1)) (Dr (pv 0) A8 Da))
 (A2 (Bd (Al (Yz hu) (A7 hu (pv 0) A8 (λ_ _ => rfl)) (Aq (A4 A8 (A4 (Sb Lx A8) A1))) rfl) (A9 (Ba (E5 Zz6 PySem.F.slot_list_pop PySem.F.type_list_pop Z8 (pv 0) (A4 A8 A1)))) Ao)
 (A9 (Ak (pv 2)))))) Ao)
 (A2 (D7 (Ar Kd (Ar Bx (Ar U7 (A7 hu (pv 0) A8 (λ_ _ => rfl)) A8) A8) (Ar Mh (Ar Qb A8 A8) A8)) (Dr (pv 0) A8 Da))
 (A9 (Ak (Ar Kd (Ar Fx (A7 hu (pv 0) A8 (λ_ _ => rfl)) A8) (pv 1)))))), ?_⟩
  walk_at "rd"
  cases ns with
  | nil => exact absurd rfl hne
  | cons n0 rest =>
  have hit : ∀ (H' : Hp) (n : Int) (r : List Int), H' st = some (.lst (V.int n :: r.map V.int)) -> Jw H' (.ref st) (.int 0) (.int n) := λH' n r e => Ip (j := 0) e rfl
  have h0i := hit H n0 rest hs
  refine ⟨_, .inl hs, ?_⟩
  refine Cr (λhl => ?_) (λhl => ?_)
  ·refine ⟨_, h0i, _, rfl, h0, _, h0i, _, rfl, h0, hm, _, hs, 0, by simp [ixN], ?_⟩
   have e1 : upd H st (.lst ((Zyb V.int (n0 :: rest)).set 0 (V.int (n0 / m)))) st = some (.lst (V.int (n0 / m) :: rest.map V.int)) := by rw [A0]; rfl
   refine ⟨_, hit _ _ _ e1, by decide, λp hp => ?_⟩
   have npst : st ≠ p := A6 e1 hp
   refine ⟨_, .inl ⟨p, _, rfl, .inr A0, rfl, rfl, rfl⟩, ?_⟩
   have d0 : 0 <= n0 % m := Int.emod_nonneg _ (by omega)
   have d1 : n0 % m < m := Zvq _ h0
   have e2 : ∀ o, upd (upd H st (.lst ((Zyb V.int (n0 :: rest)).set 0 (V.int (n0 / m))))) p o st = some (.lst (V.int (n0 / m) :: rest.map V.int)) := λo => by rw [A5 npst]; exact e1
   have hrest : rest ≠ [] := λe => by
    have hl := of_decide_eq_true hl
    rw [e] at hl
    simp at hl
   have bt : But st H (upd (upd H st (.lst ((Zyb V.int (n0 :: rest)).set 0 (V.int (n0 / m))))) p (.tup [V.int 0, V.int (-1)])) := but_set.trans (Ju hp)
   refine Cr (λhb => ?_) (λhb => ?_)
   ·refine ⟨by unfold Le; simp only [e2], _, e2 _, by decide, by decide, 0, by simp [seqIndex?], _, rfl, ?_⟩
    exact k _ _ d0 d1 ⟨rest, hrest, by rw [A0]; rfl⟩ (bt.trans but_set)
   ·exact k _ _ d0 d1 ⟨(n0 / m) :: rest, by simp, e2 _⟩ bt
  ·have e1 : ∀ z : Int, upd H st (.lst ((Zyb V.int (n0 :: rest)).set 0 (V.int z))) st = some (.lst (V.int z :: rest.map V.int)) := λz => by rw [A0]; rfl
   refine ⟨_, h0i, _, rfl, .inr ⟨by decide, by decide⟩, ⟨by decide, by decide, by decide⟩, by decide, _, hs, 0, by simp [ixN], _, hit _ _ _ (e1 _), _, rfl, by decide, by decide +kernel, h0, ?_⟩
   exact k _ _ (Int.emod_nonneg _ (by omega)) (Zvq _ h0) ⟨_ :: rest, by simp, e1 _⟩ but_set
def Iz (K : Zzv) : Sp := λvs H Q _ => ∃ (a : Addr) (ns : List Int), vs = [.ref a] /\ SqL K H a (ns.map V.int) /\ ns.length <= 63 /\ ∀ st H', StOk H' st -> Same H H' -> Q (.ref st) H'
theorem Xr (ns : List Int) (lo hi : Option Int) : ∃ ms : List Int, Hv (ns.map V.int) lo hi = ms.map V.int := by
 unfold Hv
 exact ⟨_, by rw [<- Zvo, <- Zw4]⟩
theorem sc_law_drawn : Aj ["_law_script", "_law_seed", "_law_cell"] ["_law_script"] (Ad Fd) := by walk_at "sc"
theorem Qk {f : Addr} {fd : FuncData} (F : Fun K "_law_drawn" "_law_drawn" Fd f fd) (T : Txt mg) : Bh P w K mg base CX0 1 f fd ["_law_script"] (Iz K) := by
 refine F.ok sc_law_drawn (λvs H Q E h => ?_) (λcdv A outer s H vs Q E hr h => ?_)
 ·obtain ⟨a, ns, rfl, _⟩ := h
  rfl
 ·obtain ⟨a, ns, rfl, hS, hlen, k⟩ := h
  have hu := B5 hr
  refine ⟨_, (A2 (Ae (i := 1) sc_law_drawn.nd rfl (Zzq rfl) A8)
 (A2 (Az PassesOwn.never rfl (de (pv 0)) (Ac (i := 2) sc_law_drawn.nd rfl (Zzq rfl))
 (A9 (Ae (i := 1) sc_law_drawn.nd rfl (Zzq rfl) (Ar Kd (Ar Bx (Ar Bx (Ar U7 (pv 1) A8) (Ar Kd (pv 2) (Ar Qb A8 A8))) A8) (Ar Mh (Ar Qb A8 A8) A8)))))
 (A2 (Bd (PW.pt (Ij (Al Jg (Ap Jt rfl T.Zvb D0 (A4 (pv 0) A1)) A8 (Am _)) (Ga (Al (Bq hu) (Ar Kd (Ys Qv (pv 0) A8 (λ_ _ => rfl)) A8) A8 (Am _))))) (A9 (Ak (Ar Qc (Ar Qc (Bp (A4 (Ar Fx (Ys Qv (pv 0) A8 (λ_ _ => rfl)) A8) A1)) (Fw V7 (pv 0) (Gb A8) (Gb A8))) (Bp (A4 (pv 1) A1))))) Ao)
 (A9 (Ak (Bp (A4 (pv 1) A1))))))), ?_⟩
  walk_at "rd"
  simp only [jd]
  walk_at "rd"
  refine ⟨⟨_, hS⟩, Zx (K := K) (a := a) (xs := ns.map V.int) (λi Z H' => H' = H /\ ∃ (z : Int) (c : Option V), Z = [some (.ref a), some (.int z), c]) ⟨rfl, _, _, rfl⟩ (λi Z H' _ p => by rw [p.1]; exact hS) ?_ ?_⟩
  ·rintro i y Z H' hy ⟨rfl, z, c, rfl⟩
   obtain ⟨u, rfl⟩ : ∃ u, y = V.int u := by
    rw [Zzx] at hy
    cases e : ns[i]? with
    | none => rw [e] at hy; cases hy
    | some u => rw [e] at hy; exact ⟨u, (Zzn hy).symm⟩
   walk_at "rd"
   refine ⟨.inr ⟨by decide, by decide⟩, ⟨by decide, by decide, by decide⟩, by decide, ⟨by decide, by decide, by decide⟩, by decide, _, rfl⟩
  ·rintro Z H' ⟨rfl, z, c, rfl⟩
   walk_at "rd"
   simp only [pc, oz]
   walk_at "rd"
   refine ⟨_, .inl hS, Cr (λh0 => ?_) (λh0 => ?_)⟩
   ·have hne : ns ≠ [] := λe => by
     rw [e] at h0
     simp at h0
    obtain ⟨n0, r, rfl⟩ : ∃ n0 r, ns = n0 :: r := by
     cases ns with
     | nil => exact absurd rfl hne
     | cons a b => exact ⟨a, b, rfl⟩
    refine ⟨_, hS, _, Hs (j := 0) rfl, _, rfl, by decide, rfl, Cr (λh1 => ?_) (λh1 => ?_)⟩
    ·refine ⟨_, hS, _, Hs (j := 0) rfl, _, rfl, by decide, by decide +kernel, by decide, λp hp => ?_⟩
     obtain ⟨ms, ems⟩ := Xr (n0 :: r) (some 1) (some 63)
     have hml : ms.length <= 63 := by
      have h1 := Lb (Zyb V.int (n0 :: r)) (some 1) (some 63)
      rw [ems, Zzz, Zzz] at h1
      omega
     refine ⟨_, (A3 hp).seq hS, λp1 hp1 => ?_⟩
     rw [ems]
     have e1 := A3 (o := .lst (ms.map V.int)) hp1 p _ A0
     refine ⟨_, e1, _, A0, Zyx (by rw [Zzz]; simp; omega : _ <= 1000) (Aw (Zzt _)), λp2 hp2 => ⟨by decide, λp3 hp3 => ?_⟩⟩
     refine ⟨_, A3 hp3 p2 _ A0, _, A0, Zyx (by simp; omega : _ <= 1000) (Aw (Zzt _)), λp4 hp4 => ?_⟩
     refine k p4 _ ⟨n0 / 2 :: (ms ++ [z]), by simp, ?_⟩ ((((A3 hp).trans (A3 hp1)).trans (A3 hp2)).trans ((A3 hp3).trans (A3 hp4)))
     rw [A0]
     simp
    ·exact ⟨by decide, λp hp => k p _ ⟨[z], by simp, A0⟩ (A3 hp)⟩
   ·exact ⟨by decide, λp hp => k p _ ⟨[z], by simp, A0⟩ (A3 hp)⟩
end
set_option maxHeartbeats 4000000
section
variable {P : Program} {w : World} {K : Zzv} {mg : Str -> Option Value} {base : Heap} {f : Addr} {fd : FuncData} {Pt : Addr}
theorem Hq {xs : List V} {i : Int} (hi : 0 <= i) : Hv xs (some i) none = xs.drop i.toNat := by
 unfold Hv
 rw [Yl hi]
 have e : HT.sIx xs.length xs.length none = xs.length := rfl
 rw [e]
 by_cases h : i.toNat <= xs.length
 ·rw [Nat.min_eq_left h, List.take_of_length_le (by rw [Zxs]; exact Zzt _)]
 ·have h : xs.length <= i.toNat := by omega
  rw [Nat.min_eq_right h, List.drop_length, List.drop_of_length_le h, List.take_nil]
structure WB (w : Wr) : Prop where
 lag : 0 <= w.lag /\ w.lag <= 30
 gives : 1 <= w.gives /\ w.gives <= 100
 floor : 0 <= w.floor /\ w.floor <= 100
 stock : 0 <= w.stock /\ w.stock <= 10 ^ 42
 parts : w.parts.length <= 12
 amts : ∀ p ∈ w.parts, 1 <= p.2 /\ p.2 <= 100
 nds : (w.parts.map (·.1)).Nodup
structure qu (ws : List Wr) : Prop where
 nd : (ws.map (·.name)).Nodup
 wb : ∀ w ∈ ws, WB w
 txt : ∀ w ∈ ws, PyData.strOk w.name = true
 own : ∀ w ∈ ws, ∀ p ∈ w.parts, p.1 ∈ ws.map (·.name)
 low : ∃ r : Str -> Nat, (∀ w ∈ ws, r w.name < ws.length) /\ ∀ w ∈ ws, ∀ p ∈ w.parts, r p.1 < r w.name
def jl (sz : Int) (cs : List (Int × Int)) : Prop := cs.length <= 12 /\ ∀ p ∈ cs, (0 <= p.1 /\ p.1 < sz) /\ 0 <= p.2 /\ p.2 < 10 ^ 41
def W1 (sz : Int) (names : List Str) (us : List Wt) : Prop := us.length <= 20 /\ ∀ u ∈ us, u.1 ∈ names /\ (0 <= u.2.1 /\ u.2.1 < sz) /\ 0 <= u.2.2 /\ u.2.2 < 10 ^ 41
theorem W8 {S : Sh} (h : qu S.wares) : Iu S := by
 obtain ⟨r, h1, h2⟩ := h.low
 refine Tc (r := r) (λe he x hx => ?_) (λe he => ?_)
 ·obtain ⟨w, hw, rfl⟩ := Zzs.mp he
  obtain ⟨p, hp, rfl⟩ := Zzs.mp hx
  exact h2 w hw p hp
 ·obtain ⟨w, hw, rfl⟩ := Zzs.mp he
  exact h1 w hw
structure Good (sz : Int) (S : Sh) : Prop where
 ws : qu S.wares
 len : 1 <= S.wares.length /\ S.wares.length <= 12
 com : ∀ w ∈ S.wares, jl sz w.coming
 wants : W1 sz (S.wares.map (·.name)) S.wants
theorem Good.ok {sz : Int} {S : Sh} (g : Good sz S) : Tn S := ⟨g.ws.nd, by have := g.len.2; omega, λw hw => ⟨Zyx (g.ws.wb w hw).parts (by decide), Zyx (g.com w hw).1 (by decide)⟩⟩
theorem Good.no {sz : Int} {S : Sh} (g : Good sz S) : Iu S := W8 g.ws
theorem Vp {α : Type} (f : α -> PyData) : ∀ xs : List α, (∀ x ∈ xs, (f x).canLay0 = true) -> PyData.canLayAll0 (xs.map f) = true
 | [], _ => by rw [Zxe, PyData.canLayAll0]
 | x :: r, h => by
  rw [Zzd, PyData.canLayAll0, h x Zzj, Vp f r λy hy => h y (Zzk _ hy)]
  rfl
theorem P8 {α : Type} (f : α -> PyData) (n : Nat) : ∀ xs : List α, (∀ x ∈ xs, (f x).depth <= n) -> PyData.depthAll (xs.map f) <= n
 | [], _ => by rw [Zxe, PyData.depthAll]; exact Zz3 _
 | x :: r, h => by
  rw [Zzd, PyData.depthAll]
  exact Nat.max_le.mpr ⟨h x Zzj, P8 f n r λy hy => h y (Zzk _ hy)⟩
theorem Good.txt {sz : Int} {S : Sh} (g : Good sz S) : ∀ x ∈ S.wares.map (·.name), PyData.strOk x = true := λx hx => by
 obtain ⟨w, hw, rfl⟩ := Zzs.mp hx
 exact g.ws.txt w hw
end
set_option maxHeartbeats 4000000
section
variable {P : Program} {w : World} {K : Zzv} {mg : Str -> Option Value} {base : Heap} {f : Addr} {fd : FuncData} {Pt : Addr}
def PlanAt (H : Hp) (a : Addr) (S : Sh) (plan : Str -> List Int) : Prop := ∃ kvs, Rd H a (.dK kvs) /\ ∀ nm ∈ S.wares.map (·.name), ∃ l : Addr, B1 kvs (.inr nm) = some (.ref l) /\ H l = some (.lst ((plan nm).map V.int)) /\ (plan nm).length = daysN S /\ ∀ x ∈ plan nm, 0 <= x /\ x < 10 ^ 2000
def PlanFor (H : Hp) (a : Addr) (S : Sh) (plan : Str -> List Int) (P : Str -> Prop) : Prop := ∃ kvs, Rd H a (.dK kvs) /\ ∀ nm ∈ S.wares.map (·.name), P nm -> ∃ l : Addr, B1 kvs (.inr nm) = some (.ref l) /\ H l = some (.lst ((plan nm).map V.int)) /\ (plan nm).length = daysN S /\ ∀ x ∈ plan nm, 0 <= x /\ x < 10 ^ 2000
theorem PlanAt.for {H : Hp} {a : Addr} {S : Sh} {plan : Str -> List Int} (h : PlanAt H a S plan) (P : Str -> Prop) : PlanFor H a S plan P := by obtain ⟨kvs, h1, h2⟩ := h; exact ⟨kvs, h1, λnm hn _ => h2 nm hn⟩
def bc (S : Sh) (x nm : Str) : Prop := ∃ t ∈ S.wares, t.name = nm /\ ∃ p ∈ t.parts, p.1 = x
theorem _root_.L2.Rd.same {H H' : Hp} {a : Addr} {u : HO} (h : Rd H a u) (s : Same H H') : Rd H' a u := h.elim (λe => .inl (s _ _ e)) (λ⟨o, e⟩ => .inr ⟨o, s _ _ e⟩)
theorem PlanAt.same {H H' : Hp} {a : Addr} {S : Sh} {plan : Str -> List Int} (h : PlanAt H a S plan) (s : Same H H') : PlanAt H' a S plan := by
 obtain ⟨kvs, h1, h2⟩ := h
 exact ⟨kvs, h1.same s, λnm hn => by obtain ⟨l, e1, e2, e3⟩ := h2 nm hn; exact ⟨l, e1, s _ _ e2, e3⟩⟩
theorem PlanFor.same {H H' : Hp} {a : Addr} {S : Sh} {plan : Str -> List Int} {P : Str -> Prop} (h : PlanFor H a S plan P) (s : Same H H') : PlanFor H' a S plan P := by
 obtain ⟨kvs, h1, h2⟩ := h
 exact ⟨kvs, h1.same s, λnm hn hP => by obtain ⟨l, e1, e2, e3⟩ := h2 nm hn hP; exact ⟨l, e1, s _ _ e2, e3⟩⟩
theorem Good.days {sz : Int} {S : Sh} (g : Good sz S) (hz : 0 < sz) (hz2 : sz <= 1000) : 1 <= daysN S /\ daysN S <= 1000 /\ ((daysN S : Nat) : Int) = 1 + E6 (S.wants.map λu => u.2.1) /\ ∀ u ∈ S.wants, u.2.1.toNat < daysN S := by
 have h0 : 0 <= E6 (S.wants.map λu => u.2.1) := Lo λx hx => by
  obtain ⟨u, hu, rfl⟩ := Zzs.mp hx
  exact (g.wants.2 u hu).2.1.1
 have h1 : E6 (S.wants.map λu => u.2.1) < sz := Qr hz λx hx => by
  obtain ⟨u, hu, rfl⟩ := Zzs.mp hx
  exact (g.wants.2 u hu).2.1.2
 unfold daysN
 refine ⟨by omega, by omega, by omega, λu hu => ?_⟩
 have h2 : u.2.1 <= E6 (S.wants.map λu => u.2.1) := Qs (Zzs.mpr ⟨u, hu, rfl⟩)
 have h3 := (g.wants.2 u hu).2.1.1
 omega
def sp_count_days : Sp := λvs H Q _ => ∃ (v : V) (S : Sh), vs = [v] /\ RD H S.d v /\ S.wants.length <= 1000 /\ ∀ H', Same H H' -> Q (.int (1 + E6 (S.wants.map λu => u.2.1))) H'
theorem Nq : Aj ["shop"] ["shop"] (Ad Eg) := by walk_at "sc"
theorem Ny (F : Fun K "count_days" "count_days" Eg f fd) (T : Txt mg) : Bh P w K mg base CX0 1 f fd ["shop"] sp_count_days := by
 refine F.ok Nq (λvs H Q E h => ?_) (λcdv A outer s H vs Q E hr h => ?_)
 ·obtain ⟨v, S, rfl, _⟩ := h
  rfl
 ·obtain ⟨v, S, rfl, rs, hw, k⟩ := h
  have hu := B5 hr
  refine ⟨_, (A9 (Ak (Ar Bx A8 (Ve rfl rfl T.Zu3 (Ff (own := ["want"]) (cap := []) rfl (G0 rfl) (C9 (by decide)) (Dg (A7 hu (pv 0) A8 (λ_ _ => rfl)))
 (λ_ _ _ _ _ _ => ⟨(Ac (i := 0) (of_decide_eq_true rfl) rfl (Zzq rfl) (.inr rfl)), De, (A7 hu (pv 0) (Ah rfl T.Zvd) (λ_ _ => rfl))⟩)))))), ?_⟩
  obtain ⟨a, b, c, ws, us, rfl, ha, hb, hc, rws, rus⟩ := Cy rs
  have hl := B2 rus
  walk_at "rd"
  refine ⟨_, Ab (j := 1) ha rfl, c, rfl, us, hc, ?_⟩
  refine Et (Fj c _) (Aw (by omega)) (λH' s' => s' _ _ hc) ((S.wants.map λu => u.2.1).map V.int) (by rw [Zzz, Zzz, hl]) (λi x H' hi hx s' N M hN => ?_) (λH' s' p hp => ?_)
  ·obtain ⟨y, hy, ry⟩ := Bc rus hx
   obtain ⟨e, rfl, he⟩ := Lj ry
   walk_at "rd"
   exact ⟨_, Ab (j := 1) (s' _ _ he) rfl, hN _ _ s' (by rw [Zzx, Zzx, hy]; rfl)⟩
  ·exact ⟨p, rfl, _, A0, k _ (s'.trans (A3 hp))⟩
def sp_begun_row : Sp := λvs H Q _ => ∃ (a : Addr) (v : V) (S : Sh) (plan : Str -> List Int) (w : Wr) (P : Str -> Prop), vs = [.ref a, v] /\ PlanFor H a S plan P /\ P w.name /\ daysN S <= 1000 /\ RD H w.d v /\ w ∈ S.wares /\ 0 <= w.lag /\ w.lag <= 1000 /\ ∀ p H', H p = none -> H' p = some (.lst ((Ax (plan w.name) w.lag).map V.int)) -> Same H H' -> Q (.ref p) H'
theorem sc_begun_row : Aj ["plan", "ware", "lots"] ["plan", "ware"] (Ad Fe) := by walk_at "sc"
theorem Ql (F : Fun K "begun_row" "begun_row" Fe f fd) (T : Txt mg) : Bh P w K mg base CX0 1 f fd ["plan", "ware"] sp_begun_row := by
 refine F.ok sc_begun_row (λvs H Q E h => ?_) (λcdv A outer s H vs Q E hr h => ?_)
 ·obtain ⟨a, v, S, plan, w, P, rfl, _⟩ := h
  rfl
 ·obtain ⟨a, v, S, plan, w, P', rfl, ⟨kvs, hk, hpl⟩, hP, hd, rw', hm, l0, l1, k⟩ := h
  have hu := B5 hr
  refine ⟨_, (A2 (Ae (i := 2) sc_begun_row.nd rfl (Zzq rfl) (A7 hu (pv 0) (A7 hu (pv 1) (Ah rfl T.Zvj) (λ_ _ => rfl)) (λ_ _ => rfl)))
 (A9 (Ak (Ar Qc (Fw J0 (pv 2) (Gb (A7 hu (pv 1) (Ah rfl T.Zus) (λ_ _ => rfl))) Jd) (Ar U5 (Bp (A4 A8 A1)) (Ap (Pd rfl) rfl T.Ztv aw (A4 (A7 hu (pv 1) (Ah rfl T.Zus) (λ_ _ => rfl)) (A4 (Ap B9 rfl T.Zvb D0 (A4 (pv 2) A1)) A1)))))))), ?_⟩
  obtain ⟨e, c1, c2, rfl, he, _⟩ := Bg rw'
  obtain ⟨l, hv, hl, hlen, _⟩ := hpl w.name (Zzs.mpr ⟨w, hm, rfl⟩) hP
  walk_at "rd"
  refine ⟨_, Ab (j := 0) he rfl, .ref l, Dj hk hv, _, Ab (j := 1) he rfl, ?_⟩
  refine ⟨w.lag, rfl, l, rfl, _, hl, λp1 hp1 => ⟨by decide, λp2 hp2 => ?_⟩⟩
  have u1 := A3 (o := .lst (Hv ((plan w.name).map V.int) (some w.lag) none)) hp1
  have u2 := u1.trans (A3 (o := .lst [V.int 0]) hp2)
  refine ⟨_, Ab (j := 1) (u2 _ _ he) rfl, l, rfl, _, .inl (u2 _ _ hl), w.lag, rfl, [V.int 0], A0, ?_, ?_, ?_, λp3 hp3 => ?_⟩
  ·split <;> omega
  ·rw [Zzz]; split <;> omega
  ·refine Aw ?_
   rw [Zzz, Zyt]
   split <;> omega
  ·have emin : (if (((plan w.name).map V.int).length : Int) < w.lag then (((plan w.name).map V.int).length : Int) else w.lag).toNat = min w.lag.toNat (plan w.name).length := by
    rw [Zzz]
    split <;> omega
   rw [emin, M6, Hq l0]
   have u3 := u2.trans (A3 (o := .lst ((Au (min w.lag.toNat (plan w.name).length) λ_ => 0).map V.int)) hp3)
   rw [Hq l0] at u3
   have n12 : p1 ≠ p2 := A6 A0 hp2
   refine ⟨((plan w.name).map V.int).drop w.lag.toNat, ?_, _, A0, ?_, λp4 hp4 => ?_⟩
   ·rw [A5 (λe => by rw [<- e, A5 n12, A0] at hp3; cases hp3), A5 n12, A0]
   ·refine Aw ?_
    rw [Zxs, Zzz, Zzz, An]
    omega
   ·refine k p4 _ (Same.free u3 hp4) ?_ (u3.trans (A3 hp4))
    rw [A0, <- Zvo, <- Zzm, ay]
def sp_wants_row : Sp := λvs H Q _ => ∃ (v x : V) (S : Sh) (w : Wr) (sz : Int), vs = [v, x] /\ RD H S.d v /\ RD H w.d x /\ Good sz S /\ 0 < sz /\ sz <= 1000 /\ ∀ p H', H p = none -> H' p = some (.lst ((Au (daysN S) λd => Bu (wAt w.name d) S.wants).map V.int)) -> Same H H' -> Q (.ref p) H'
def bb (v x : V) (p : Addr) (S : Sh) (nm : Str) (H : Hp) (i : Nat) (Z : St) (H' : Hp) : Prop := ∃ o : Option V, Z = [some v, some x, some (.ref p), o] /\ H' p = some (.lst ((Au (daysN S) λd => Bu (wAt nm d) (S.wants.take i)).map V.int)) /\ Same H H'
theorem sc_wants_row : Aj ["shop", "ware", "told", "want"] ["shop", "ware"] (Ad Ex) := by walk_at "sc"
theorem Qd (F : Fun K "wants_row" "wants_row" Ex f fd) (T : Txt mg) (Zva : Has P w K mg base "count_days" 1 ["shop"] sp_count_days) : Bh P w K mg base CX0 2 f fd ["shop", "ware"] sp_wants_row := by
 refine F.ok sc_wants_row (λvs H Q E h => ?_) (λcdv A outer s H vs Q E hr h => ?_)
 ·obtain ⟨v, x, S, w, sz, rfl, _⟩ := h
  rfl
 ·obtain ⟨v, x, S, w, sz, rfl, rs, rx, g, z0, z1, k⟩ := h
  have hu := B5 hr
  obtain ⟨n1, n2, n3, n4⟩ := g.days z0 z1
  refine ⟨_, (A2 (Ae (i := 2) sc_wants_row.nd rfl (Zzq rfl) (Ar U5 (Bp (A4 A8 A1)) (Aa Zva hr.z rfl (A4 (pv 0) A1))))
 (A2 (Az PassesOwn.never rfl (Dg (A7 hu (pv 0) A8 (λ_ _ => rfl))) (Ac (i := 3) sc_wants_row.nd rfl (Zzq rfl))
 (A9 (Bd (Al (Bq hu) (A7 hu (pv 3) (Ah rfl T.Zvc) (λ_ _ => rfl)) (A7 hu (pv 1) (Ah rfl T.Zvj) (λ_ _ => rfl)) (Am _)) (A9 (Jc (pv 2) (A7 hu (pv 3) (Ah rfl T.Zvd) (λ_ _ => rfl)) Jo (A7 hu (pv 3) (Ah rfl T.Zvg) (λ_ _ => rfl)) Gf Da)) Ao)))
 (A9 (Ak (pv 2))))), ?_⟩
  obtain ⟨a, b, c, ws, us, rfl, ha, hb, hc, rws, rus⟩ := Cy rs
  obtain ⟨xe, c1, c2, rfl, hxe, _⟩ := Bg rx
  have hl := B2 rus
  walk_at "rd"
  refine ⟨by decide, λp0 hp0 => ?_⟩
  have u0 := A3 (o := .lst [V.int 0]) hp0
  refine ⟨.ref a, S, rfl, RD.same u0 _ _ rs, by have := g.wants.1; omega, λH1 sm1 => ?_⟩
  have h01 := sm1 p0 _ A0
  have sm01 := u0.trans sm1
  rw [<- n3]
  refine ⟨_, rfl, _, h01, by omega, by omega, by rw [Zyt]; exact Aw (by omega), λp hp => ?_⟩
  have u1 := sm01.trans (A3 (o := .lst ((Au (daysN S) λ_ => 0).map V.int)) hp)
  have en : ((daysN S : Nat) : Int).toNat = daysN S := by omega
  rw [en, M6]
  refine ⟨_, Ab (j := 1) (u1 _ _ ha) rfl, c, rfl, us, u1 _ _ hc, ?_⟩
  refine Bw (Fj c _) (bb (.ref a) (.ref xe) p S w.name H) ⟨_, rfl, ?_, u1⟩ (λi Z H' _ h => by obtain ⟨_, _, _, s⟩ := h; exact s _ _ hc) (λi y Z H2 hi hy h => ?_) (λZ H2 h => ?_)
  ·rw [A0]
   exact congrArg (λz => some (HO.lst (Zyb V.int z))) (Ch λd _ => by simp [Iw])
  ·obtain ⟨o, rfl, hp2, sm⟩ := h
   obtain ⟨u, hu', ru⟩ := Bc rus hy
   obtain ⟨e, rfl, he⟩ := Lj ru
   have he' := sm _ _ he
   have hx' := sm _ _ hxe
   have hum := Zzw hu'
   walk_at "rd"
   refine ⟨_, Ab (j := 0) he' rfl, _, Ab (j := 0) hx' rfl, rfl, Cr (λhz => ?_) (λhz => ?_)⟩
   ·have hz := of_decide_eq_true hz
    have hz : u.1 = w.name := V.str.inj hz
    have hd := n4 u hum
    have hd0 := (g.wants.2 u hum).2.1.1
    refine ⟨_, Ab (j := 1) he' rfl, _, u.2.1, rfl, hp2, hd0, _, by rw [Zzx, Bi hd]; rfl, _, Ab (j := 2) he' rfl, _, rfl, _, rfl, _, _, rfl, hp2, u.2.1.toNat, ?_, ?_⟩
    ·rw [Zzz, An]
     unfold ixN
     rw [if_pos hd0, if_pos (by omega)]
    ·refine ⟨_, rfl, ?_, λb' o' hb' => by rw [A5 (A6 hb' (Same.free sm01 hp))]; exact sm b' o' hb'⟩
     rw [A0, <- Zwe, K6]
     refine congrArg (λz => some (HO.lst (Zyb V.int z))) (Ch λd _ => ?_)
     rw [Dq _ hu']
     unfold wAt
     by_cases e1 : d = u.2.1.toNat
     ·subst e1
      rw [if_pos rfl, if_pos ⟨hz, by omega⟩]
     ·rw [if_neg e1, if_neg (λq => e1 (by omega)), Zwy]
   ·refine ⟨_, rfl, ?_, sm⟩
    rw [hp2]
    refine congrArg (λz => some (HO.lst (Zyb V.int z))) (Ch λd _ => ?_)
    rw [Dq _ hu']
    unfold wAt
    rw [if_neg (c := u.1 = w.name /\ _) (λq => hz (decide_eq_true (by rw [q.1]))), Zwy]
  ·obtain ⟨o, rfl, hp2, sm⟩ := h
   walk_at "rd"
   rw [hl, Zz4] at hp2
   exact k p H2 (Same.free sm01 hp) hp2 sm
end
set_option maxHeartbeats 4000000
section
variable {P : Program} {w : World} {K : Zzv} {mg : Str -> Option Value} {base : Heap} {f : Addr} {fd : FuncData} {Pt : Addr}
def sp_needs_row : Sp := λvs H Q _ => ∃ (v : V) (a : Addr) (x : V) (S : Sh) (plan : Str -> List Int) (w : Wr) (sz : Int), vs = [v, .ref a, x] /\ RD H S.d v /\ PlanFor H a S plan (bc S w.name) /\ RD H w.d x /\ Good sz S /\ 0 < sz /\ sz <= 1000 /\ ∀ p H', H p = none -> H' p = some (.lst ((B4 S plan w.name).map V.int)) -> Same H H' -> Q (.ref p) H'
def bd (v : V) (a : Addr) (x : V) (S : Sh) (plan : Str -> List Int) (nm : Str) (H : Hp) (i : Nat) (Z : St) (H' : Hp) : Prop := ∃ (q : Addr) (o1 o2 o3 : Option V), Z = [some v, some (.ref a), some x, some (.ref q), o1, o2, o3] /\ H q = none /\
 H' q = some (.lst ((Au (daysN S) λd => Bu (wAt nm d) S.wants + Bu (pAt plan nm d) (S.wares.take i)).map V.int)) /\ Same H H'
def be (v : V) (a : Addr) (x t : V) (S : Sh) (plan : Str -> List Int) (nm : Str) (w : Wr) (i : Nat) (H : Hp) (j : Nat) (Z : St) (H' : Hp) : Prop := ∃ (q : Addr) (o2 o3 : Option V), Z = [some v, some (.ref a), some x, some (.ref q), some t, o2, o3] /\ H q = none /\
 H' q = some (.lst ((Au (daysN S) λd => Bu (wAt nm d) S.wants + Bu (pAt plan nm d) (S.wares.take i) + Bu (λp : Str × Int => if p.1 = nm then p.2 * bAt (plan w.name) w.lag d else 0) (w.parts.take j)).map V.int)) /\ Same H H'
def mt (n : Nat) (g : Nat -> Int) (H1 : Hp) (i : Nat) (acc : List V) (H' : Hp) : Prop := acc = ((Au n g).take i).map V.int /\ i <= n /\ Same H1 H'
theorem G9 {n i : Nat} {g : Nat -> Int} (h : i <= n) : (Au n g).take i = Au i g := by
 unfold Au
 rw [<- Zw4, List.take_range, Nat.min_eq_left h]
theorem sc_needs_row : Aj ["shop", "plan", "ware", "told", "taker", "part", "amount"] ["shop", "plan", "ware"] (Ad F0) := by walk_at "sc"
theorem Qg (F : Fun K "needs_row" "needs_row" F0 f fd) (T : Txt mg) (Zul : Has P w K mg base "wants_row" 2 ["shop", "ware"] sp_wants_row) (Zv7 : Has P w K mg base "begun_row" 1 ["plan", "ware"] sp_begun_row) : Bh P w K mg base CX0 3 f fd ["shop", "plan", "ware"] sp_needs_row := by
 refine F.ok sc_needs_row (λvs H Q E h => ?_) (λcdv A outer s H vs Q E hr h => ?_)
 ·obtain ⟨v, a, x, S, plan, w, sz, rfl, _⟩ := h
  rfl
 ·obtain ⟨v, a, x, S, plan, w, sz, rfl, rs, pl, rx, g, z0, z1, k⟩ := h
  have hu := B5 hr
  obtain ⟨n1, n2, n3, n4⟩ := g.days z0 z1
  refine ⟨_, (A2 (Ae (i := 3) sc_needs_row.nd rfl (Zzq rfl) (Aa Zul hr.z rfl (A4 (pv 0) (A4 (pv 2) A1))))
 (A2 (Az PassesOwn.never rfl (Dg (A7 hu (pv 0) A8 (λ_ _ => rfl))) (Ac (i := 4) sc_needs_row.nd rfl (Zzq rfl))
 (A9 (Az PassesOwn.never rfl (Dg (A7 hu (pv 4) (Ah rfl T.Zuu) (λ_ _ => rfl))) (Cd (n := 2) rfl (Ai (Ac (i := 5) sc_needs_row.nd rfl (Zzq rfl)) (Ai (Ac (i := 6) sc_needs_row.nd rfl (Or.inr rfl)) Bn)))
 (A9 (Bd (Al (Bq hu) (pv 5) (A7 hu (pv 2) (Ah rfl T.Zvj) (λ_ _ => rfl)) (Am _)) (A9 (En (own := ["goes", "lots"]) (cap := [6]) (i := 3) rfl (G0 rfl) P4 sc_needs_row.nd rfl rfl (Vd rfl T.Ztx (A4 (pv 3) (A4 (Aa Zv7 hr.z rfl (A4 (pv 1) (A4 (pv 4) A1))) A1)))
 (λ_ _ _ _ _ _ => ⟨(Cd (n := 2) rfl (Ai (Ac (i := 0) (of_decide_eq_true rfl) rfl (Zzq rfl) (.inr rfl)) (Ai (Ac (i := 1) (of_decide_eq_true rfl) rfl (Zzq rfl) (.inr rfl)) Bn))), De, (Ar Bx (pv 0) (Ar Jf (pv 2) (pv 1)))⟩))) Ao)))))
 (A9 (Ak (pv 3))))), ?_⟩
  obtain ⟨sa, sb, sc, ws, us, rfl, ha, hb, hc, rws, rus⟩ := Cy rs
  obtain ⟨xe, c1, c2, rfl, hxe, _⟩ := Bg rx
  have hl := B2 rws
  walk_at "rd"
  refine ⟨.ref sa, .ref xe, S, w, sz, rfl, rs, rx, g, z0, z1, λq0 H1 hq0 hq1 sm1 => ?_⟩
  refine ⟨_, Ab (j := 0) (sm1 _ _ ha) rfl, sb, rfl, ws, sm1 _ _ hb, ?_⟩
  refine Bw (Fj sb _) (bd (.ref sa) a (.ref xe) S plan w.name H) ⟨q0, _, _, _, rfl, hq0, ?_, sm1⟩ (λi Z H' _ h => by obtain ⟨_, _, _, _, _, _, _, s⟩ := h; exact s _ _ hb) (λi y Z H2 hi hy h => ?_) (λZ H2 h => ?_)
  ·rw [hq1]
   exact congrArg (λz => some (HO.lst (Zyb V.int z))) (Ch λd _ => by rw [Zxk, Iw, Zwy])
  ·obtain ⟨q, o1, o2, o3, rfl, hq, hq2, sm⟩ := h
   obtain ⟨t, ht, rt⟩ := Bc rws hy
   have htm := Zzw ht
   have wb := g.ws.wb t htm
   obtain ⟨te, d1, d2, rfl, hte, rc, rp⟩ := Bg rt
   obtain ⟨pb, pv, rfl, hpb, rpv⟩ := RD.tup_of rp
   have hlp := B2 rpv
   walk_at "rd"
   refine ⟨_, Ab (j := 6) (sm _ _ hte) rfl, pb, rfl, pv, sm _ _ hpb, ?_⟩
   refine Bw (Fj pb _) (be (.ref sa) a (.ref xe) (.ref te) S plan w.name t i H) ⟨q, _, _, rfl, hq, ?_, sm⟩ (λj Z H' _ h => by obtain ⟨_, _, _, _, _, _, s⟩ := h; exact s _ _ hpb) (λj y Z H3 hj hy h => ?_) (λZ H3 h => ?_)
   ·rw [hq2]
    exact congrArg (λz => some (HO.lst (Zyb V.int z))) (Ch λd _ => by rw [Zxk, Iw, Zwy])
   ·obtain ⟨q, o2, o3, rfl, hq, hq2, sm⟩ := h
    obtain ⟨pp, hpp, rpp⟩ := Bc rpv hy
    have hppm := Zzw hpp
    obtain ⟨pe, rfl, hpe⟩ := Qa rpp
    refine gt2 (sm _ _ hpe) ?_
    walk_at "rd"
    refine ⟨_, Ab (j := 0) (sm _ _ hxe) rfl, rfl, Cr (λhz => ?_) (λhz => ?_)⟩
    ·have hz : pp.1 = w.name := V.str.inj (of_decide_eq_true hz)
     have hT : bc S w.name t.name := ⟨t, htm, rfl, pp, hppm, hz⟩
     refine ⟨a, .ref te, S, plan, t, _, rfl, pl.same sm, hT, n2, RD.same sm _ _ rt, htm, wb.lag.1, by have := wb.lag.2; omega, λb H4 hb4 hb5 sm4 => ?_⟩
     have hq4 := sm4 _ _ hq2
     have sm04 := sm.trans sm4
     refine ⟨b, rfl, _, hq4, _, hb5, ?_⟩
     obtain ⟨kvs, hkv, hpl⟩ := pl
     obtain ⟨l, hv, hll, hlen, hbd⟩ := hpl t.name (Zzs.mpr ⟨t, htm, rfl⟩) hT
     have lb : (Ax (plan t.name) t.lag).length = daysN S := by unfold Ax; rw [An, hlen]
     have en : min (((Au (daysN S) λd => Bu (wAt w.name d) S.wants + Bu (pAt plan w.name d) (S.wares.take i) + Bu (λp : Str × Int => if p.1 = w.name then p.2 * bAt (plan t.name) t.lag d else 0) (t.parts.take j)).map V.int).length) (((Ax (plan t.name) t.lag).map V.int).length) = daysN S := by
      rw [Zzz, Zzz, An, lb, Nat.min_self]
     have G := Zu q b ((Au (daysN S) λd => Bu (wAt w.name d) S.wants + Bu (pAt plan w.name d) (S.wares.take i) + Bu (λp : Str × Int => if p.1 = w.name then p.2 * bAt (plan t.name) t.lag d else 0) (t.parts.take j)).map V.int) ((Ax (plan t.name) t.lag).map V.int)
     rw [en] at G
     refine mo G (Aw n2) (mt (daysN S) (λd => Bu (wAt w.name d) S.wants + Bu (pAt plan w.name d) (S.wares.take i) + Bu (λp : Str × Int => if p.1 = w.name then p.2 * bAt (plan t.name) t.lag d else 0) (t.parts.take j) + pp.2 * bAt (plan t.name) t.lag d) H4) ⟨rfl, Zz3 _, Same.refl _⟩ (λr acc H' _ h => ⟨h.2.2 _ _ hq4, h.2.2 _ _ hb5⟩) (λr acc H' h => ?_) (λr ys z acc H5 hr hys h hz5 => ?_) (λacc H5 h p hp => ?_)
     ·rw [h.1, Zzz, G9 h.2.1, An]
      exact Zzt _
     ·obtain ⟨rfl, h2, h3⟩ := h
      obtain ⟨y1, y2, e1, e2, rfl⟩ := hys
      rw [Zzx, Bi hr] at e1
      cases e1
      have hbg : (Ax (plan t.name) t.lag)[r]? = some (bAt (plan t.name) t.lag r) := by unfold Ax; rw [Bi (by rw [hlen]; exact hr)]
      rw [Zzx, hbg] at e2
      cases e2
      refine gT2 ?_
      walk_at "rd"
      have hamt := wb.amts pp hppm
      refine ⟨.inl (.inl ⟨by omega, by omega⟩), ?_, hr, h3.trans (A3 hz5)⟩
      rw [G9 (by omega), G9 (by omega), Ii, Zzm]
      rfl
     ·obtain ⟨rfl, h2, h3⟩ := h
      rw [G9 (Zzt _)]
      refine ⟨p, _, _, rfl, Same.free (sm04.trans h3) hp, ?_, (sm04.trans h3).trans (A3 hp)⟩
      rw [A0]
      refine congrArg (λz => some (HO.lst (Zyb V.int z))) (Ch λd _ => ?_)
      rw [Dq _ hpp, if_pos hz]
      omega
    ·refine ⟨q, _, _, rfl, hq, ?_, sm⟩
     rw [hq2]
     refine congrArg (λz => some (HO.lst (Zyb V.int z))) (Ch λd _ => ?_)
     rw [Dq _ hpp, if_neg (c := pp.1 = w.name) (λe => hz (decide_eq_true (by rw [e]))), Zwy]
   ·obtain ⟨q, o2, o3, rfl, hq, hq2, sm⟩ := h
    rw [hlp, Zz4] at hq2
    refine ⟨q, _, _, _, rfl, hq, ?_, sm⟩
    rw [hq2]
    refine congrArg (λz => some (HO.lst (Zyb V.int z))) (Ch λd _ => ?_)
    rw [Dq _ ht]
    unfold pAt
    omega
  ·obtain ⟨q, o1, o2, o3, rfl, hq, hq2, sm⟩ := h
   walk_at "rd"
   rw [hl, Zz4] at hq2
   exact k q H2 hq hq2 sm
end
set_option maxHeartbeats 4000000
section
variable {P : Program} {w : World} {K : Zzv} {mg : Str -> Option Value} {base : Heap} {f : Addr} {fd : FuncData} {Pt : Addr}
def Rs (ns : List Int) (j : Nat) : Int := (ns.take j).sum
def cum (ns : List Int) (n : Nat) : List Int := (Zz9 n).map λj => Rs ns (j + 1)
theorem K0 {ns : List Int} {i : Nat} {c : Int} (h : ns[i]? = some c) : Rs ns (i + 1) = Rs ns i + c := by
 unfold Rs
 rw [Zz8, h, Zxd]
 simp
theorem aj (ns : List Int) (n : Nat) : cum ns (n + 1) = cum ns n ++ [Rs ns (n + 1)] := by
 unfold cum
 rw [Zyg, Zzm]
 rfl
theorem h8 (ns : List Int) (n : Nat) : (cum ns n).length = n := by simp [cum]
def nr (r p : Addr) (ns : List Int) (H : Hp) (i : Nat) (Z : St) (H' : Hp) : Prop := ∃ c : Option V, Z = [some (.ref r), some (.ref p), some (.int (Rs ns i)), c] /\ H' p = some (.lst ((cum ns i).map V.int)) /\ Same H H'
def sp_so_far : Sp := λvs H Q _ => ∃ (r : Addr) (ns : List Int), vs = [.ref r] /\ H r = some (.lst (ns.map V.int)) /\ ns.length <= 1000 /\ ∀ p H', H p = none -> H' p = some (.lst ((cum ns ns.length).map V.int)) -> Same H H' -> Q (.ref p) H'
theorem sc_so_far : Aj ["row", "told", "total", "number"] ["row"] (Ad J6) := by walk_at "sc"
theorem Wu (F : Fun K "so_far" "so_far" J6 f fd) (T : Txt mg) : Bh P w K mg base CX0 1 f fd ["row"] sp_so_far := by
 refine F.ok sc_so_far (λvs H Q E h => ?_) (λcdv A outer s H vs Q E hr h => ?_)
 ·obtain ⟨r, ns, rfl, _⟩ := h
  rfl
 ·obtain ⟨r, ns, rfl, hr0, hl, k⟩ := h
  have hu := B5 hr
  refine ⟨_, (A2 (Ae (i := 1) sc_so_far.nd rfl (Zzq rfl) (Bp A1))
 (A2 (Ae (i := 2) sc_so_far.nd rfl (Zzq rfl) A8)
 (A2 (Az PassesOwn.never rfl (Cl (pv 0)) (Ac (i := 3) sc_so_far.nd rfl (Zzq rfl))
 (A2 (Mb (i := 2) sc_so_far.nd rfl (Zzq rfl) (pv 3) Gf)
 (A9 (Ba (E5 Zz6 Zz2 Zz1 Bj (pv 1) (A4 (pv 2) A1))))))
 (A9 (Ak (pv 1)))))), ?_⟩
  walk_at "rd"
  refine ⟨Zz3 _, λp hp => ⟨_, by rw [A5 (A6 hr0 hp)]; exact hr0, ?_⟩⟩
  refine Bw (Dl r _) (nr r p ns H) ⟨_, rfl, A0, A3 hp⟩ (λi Z H' _ h => by obtain ⟨_, _, _, s⟩ := h; exact s _ _ hr0) (λi x Z H' hi hx h => ?_) (λZ H' h => ?_)
  ·obtain ⟨c, rfl, h1, sm⟩ := h
   have hi' : i < ns.length := by simpa using hi
   rw [Zzx] at hx
   cases ec : ns[i]? with
   | none => rw [ec] at hx; cases hx
   | some c =>
   rw [ec] at hx
   cases hx
   walk_at "rd"
   refine ⟨Dn h1, _, h1, Zyp (m := 1000) (by rw [Zzz, h8]; omega) (by decide), ?_⟩
   refine ⟨_, by rw [K0 ec], ?_, λb o hb => ?_⟩
   ·rw [A0, aj, Zzm, K0 ec]; rfl
   ·rw [A5 (A6 hb hp)]; exact sm b o hb
  ·obtain ⟨c, rfl, h1, sm⟩ := h
   walk_at "rd"
   rw [Zzz] at h1
   exact k p H' hp h1 sm
theorem Rr {n : Nat} {f : Nat -> Int} : ∀ {d : Nat}, d <= n -> Rs (Au n f) d = upS f d
 | 0, _ => by simp [Rs, upS]
 | d + 1, h => by rw [K0 (Bi (by omega)), Rr (by omega), upS]
theorem gz {n : Nat} {f : Nat -> Int} : cum (Au n f) (Au n f).length = Au n λd => upS f (d + 1) := by
 rw [An]
 unfold cum
 show _ = (Zz9 n).map _
 apply Zxv
 intro d hd
 exact Rr (by have := Zy9.mp hd; omega)
def sp_arrivals_row : Sp := λvs H Q _ => ∃ (v x : V) (S : Sh) (w : Wr) (sz : Int), vs = [v, x] /\ RD H S.d v /\ RD H w.d x /\ Good sz S /\ 0 < sz /\ sz <= 1000 /\ w.coming.length <= 1000 /\ (∀ p ∈ w.coming, 0 <= p.1) /\ ∀ p H', H p = none -> H' p = some (.lst ((Au (daysN S) (Cb w)).map V.int)) -> Same H H' -> Q (.ref p) H'
def ny (v x : V) (p : Addr) (S : Sh) (w : Wr) (H : Hp) (i : Nat) (Z : St) (H' : Hp) : Prop := ∃ o1 o2 : Option V, Z = [some v, some x, some (.ref p), o1, o2] /\ H' p = some (.lst ((Au (daysN S) λd => (if d = 0 then w.stock else 0) + Bu (cAt d) (w.coming.take i)).map V.int)) /\ Same H H'
theorem sc_arrivals_row : Aj ["shop", "ware", "told", "day", "amount"] ["shop", "ware"] (Ad Dd) := by walk_at "sc"
theorem Lg (F : Fun K "arrivals_row" "arrivals_row" Dd f fd) (T : Txt mg) (Zva : Has P w K mg base "count_days" 1 ["shop"] sp_count_days) : Bh P w K mg base CX0 2 f fd ["shop", "ware"] sp_arrivals_row := by
 refine F.ok sc_arrivals_row (λvs H Q E h => ?_) (λcdv A outer s H vs Q E hr h => ?_)
 ·obtain ⟨v, x, S, w, sz, rfl, _⟩ := h
  rfl
 ·obtain ⟨v, x, S, w, sz, rfl, rs, rx, g, z0, z1, hcl, hcd, k⟩ := h
  have hu := B5 hr
  obtain ⟨n1, n2, n3, n4⟩ := g.days z0 z1
  refine ⟨_, (A2 (Ae (i := 2) sc_arrivals_row.nd rfl (Zzq rfl) (Ar U5 (Bp (A4 A8 A1)) (Aa Zva hr.z rfl (A4 (pv 0) A1))))
 (A2 (D7 (A7 hu (pv 1) (Ah rfl T.Zup) (λ_ _ => rfl)) (Dr (pv 2) A8 Da))
 (A2 (Az PassesOwn.never rfl (Dg (A7 hu (pv 1) (Ah rfl T.Zux) (λ_ _ => rfl))) (Cd (n := 2) rfl (Ai (Ac (i := 3) sc_arrivals_row.nd rfl (Zzq rfl)) (Ai (Ac (i := 4) sc_arrivals_row.nd rfl (Zzq rfl)) Bn)))
 (A9 (Bd (Al (Mi hu) (pv 3) (Ap B9 rfl T.Zvb D0 (A4 (pv 2) A1)) (Am _)) (A9 (Jc (pv 2) (pv 3) Jo (pv 4) Gf Da)) Ao)))
 (A9 (Ak (pv 2)))))), ?_⟩
  obtain ⟨xe, c1, c2, rfl, hxe, rc, _⟩ := Bg rx
  obtain ⟨cb, cv, rfl, hcb, rcv⟩ := RD.tup_of rc
  have hl := B2 rcv
  walk_at "rd"
  refine ⟨by decide, λp0 hp0 => ?_⟩
  have u0 := A3 (o := .lst [V.int 0]) hp0
  refine ⟨v, S, rfl, RD.same u0 _ _ rs, by have := g.wants.1; omega, λH1 sm1 => ?_⟩
  have h01 := sm1 p0 _ A0
  have sm01 := u0.trans sm1
  rw [<- n3]
  refine ⟨_, rfl, _, h01, by omega, by omega, by rw [Zyt]; exact Aw (by omega), λp hp => ?_⟩
  have u1 := sm01.trans (A3 (o := .lst ((Au (daysN S) λ_ => 0).map V.int)) hp)
  have en : ((daysN S : Nat) : Int).toNat = daysN S := by omega
  rw [en, M6]
  have fp : H p = none := Same.free sm01 hp
  refine ⟨_, Ab (j := 4) (u1 _ _ hxe) rfl, _, A0, 0, ?_, ?_⟩
  ·rw [Zzz, An]
   unfold ixN
   rw [if_pos (by decide), if_pos (by omega)]
   rfl
  have kx : ∀ {b : Addr} {o o' o2 : HO}, H b = some o -> upd (upd H1 p o') p o2 b = some o := λ{b o o' o2} hb => by rw [A5 (A6 hb fp), A5 (A6 hb fp)]; exact sm01 b o hb
  refine ⟨_, Ab (j := 5) (kx hxe) rfl, cb, rfl, cv, kx hcb, ?_⟩
  refine Bw (Fj cb _) (ny v (.ref xe) p S w H) ⟨_, _, rfl, ?_, λb o hb => kx hb⟩ (λi Z H' _ h => by obtain ⟨_, _, _, _, s⟩ := h; exact s _ _ hcb) (λi y Z H2 hi hy h => ?_) (λZ H2 h => ?_)
  ·rw [A0, <- Zwe, K6]
   exact congrArg (λz => some (HO.lst (Zyb V.int z))) (Ch λd _ => by rw [Zxk, Iw, Zwy])
  ·obtain ⟨o1, o2, rfl, hp2, sm⟩ := h
   obtain ⟨u, hu', ru⟩ := Bc rcv hy
   obtain ⟨e, rfl, he⟩ := az ru
   refine gt2 (sm _ _ he) ?_
   have hd0 := hcd u (Zzw hu')
   walk_at "rd"
   refine ⟨_, .inl hp2, Cr (λhz => ?_) (λhz => ?_)⟩
   ·have hz := of_decide_eq_true hz
    rw [Zzz, An] at hz
    have hd : u.1.toNat < daysN S := by omega
    refine ⟨_, hp2, hd0, _, by rw [Zzx, Bi hd]; rfl, _, rfl, _, hp2, u.1.toNat, ?_, ?_⟩
    ·rw [Zzz, An]
     unfold ixN
     rw [if_pos hd0, if_pos (by omega)]
    ·refine ⟨_, _, rfl, ?_, λb' o' hb' => by rw [A5 (A6 hb' fp)]; exact sm b' o' hb'⟩
     rw [A0, <- Zwe, K6]
     refine congrArg (λz => some (HO.lst (Zyb V.int z))) (Ch λd _ => ?_)
     rw [Dq _ hu']
     unfold cAt
     by_cases e1 : d = u.1.toNat
     ·subst e1
      rw [if_pos rfl, if_pos (c := u.1 = _) (by omega)]
      omega
     ·rw [if_neg e1, if_neg (c := u.1 = _) (λq => e1 (by omega)), Zwy]
   ·have hz : ¬ u.1 < (daysN S : Int) := λq => hz (decide_eq_true (by rw [Zzz, An]; exact q))
    refine ⟨_, _, rfl, ?_, sm⟩
    rw [hp2]
    refine congrArg (λz => some (HO.lst (Zyb V.int z))) (Ch λd hd => ?_)
    rw [Dq _ hu']
    unfold cAt
    rw [if_neg (c := u.1 = _) (λq => hz (by omega)), Zwy]
  ·obtain ⟨o1, o2, rfl, hp2, sm⟩ := h
   walk_at "rd"
   rw [hl, Zz4] at hp2
   exact k p H2 fp hp2 sm
def sp_stocks_row : Sp := λvs H Q _ => ∃ (v : V) (a : Addr) (x : V) (S : Sh) (plan : Str -> List Int) (w : Wr) (sz : Int), vs = [v, .ref a, x] /\ RD H S.d v /\ PlanAt H a S plan /\ RD H w.d x /\ w ∈ S.wares /\ Good sz S /\ 0 < sz /\ sz <= 1000 /\ ∀ p H', H p = none -> H' p = some (.lst ((E2 S plan w).map V.int)) -> Same H H' -> Q (.ref p) H'
def nu (v : V) (a : Addr) (x : V) (p : Addr) (S : Sh) (plan : Str -> List Int) (w : Wr) (H1 : Hp) (i : Nat) (Z : St) (H' : Hp) : Prop := ∃ o1 o2 o3 : Option V, Z = [some v, some (.ref a), some x, some (.ref p), o1, o2, o3] /\ i <= daysN S /\ H' p = some (.lst ((Au i (i0 S plan w)).map V.int)) /\ ∀ b o, b ≠ p -> H1 b = some o -> H' b = some o
theorem sc_stocks_row : Aj ["shop", "plan", "ware", "changes", "comes", "lots", "goes"] ["shop", "plan", "ware"] (Ad Eb) := by walk_at "sc"
theorem Nt (F : Fun K "stocks_row" "stocks_row" Eb f fd) (T : Txt mg) (Zv6 : Has P w K mg base "needs_row" 3 ["shop", "plan", "ware"] sp_needs_row) (Zvf : Has P w K mg base "arrivals_row" 2 ["shop", "ware"] sp_arrivals_row) (Zu6 : Has P w K mg base "so_far" 1 ["row"] sp_so_far) : Bh P w K mg base CX0 4 f fd ["shop", "plan", "ware"] sp_stocks_row := by
 refine F.ok sc_stocks_row (λvs H Q E h => ?_) (λcdv A outer s H vs Q E hr h => ?_)
 ·obtain ⟨v, a, x, S, plan, w, sz, rfl, _⟩ := h
  rfl
 ·obtain ⟨v, a, x, S, plan, w, sz, rfl, rs, pl, rx, hm, g, z0, z1, k⟩ := h
  have hu := B5 hr
  obtain ⟨n1, n2, n3, n4⟩ := g.days z0 z1
  have wb := g.ws.wb w hm
  refine ⟨_, (A2 (Ae (i := 3) sc_stocks_row.nd rfl (Zzq rfl) (Bp A1))
 (A2 (Az PassesOwn.never rfl (dc rfl T.Ztx (A4 (Aa Zvf hr.z rfl (A4 (pv 0) (A4 (pv 2) A1))) (A4 (A7 hu (pv 1) (A7 hu (pv 2) (Ah rfl T.Zvj) (λ_ _ => rfl)) (λ_ _ => rfl)) (A4 (Aa Zv6 hr.z rfl (A4 (pv 0) (A4 (pv 1) (A4 (pv 2) A1)))) A1)))) (Cd (n := 3) rfl (Ai (Ac (i := 4) sc_stocks_row.nd rfl (Zzq rfl)) (Ai (Ac (i := 5) sc_stocks_row.nd rfl (Zzq rfl)) (Ai (Ac (i := 6) sc_stocks_row.nd rfl (Zzq rfl)) Bn))))
 (A9 (Ba (E5 Zz6 Zz2 Zz1 Bj (pv 3) (A4 (Ar Mh (Ar Bx (pv 4) (Ar Jf (A7 hu (pv 2) (Ah rfl T.Zuv) (λ_ _ => rfl)) (pv 5))) (pv 6)) A1)))))
 (A9 (Ak (Aa Zu6 hr.z rfl (A4 (pv 3) A1)))))), ?_⟩
  obtain ⟨xe, c1, c2, rfl, hxe, _⟩ := Bg rx
  obtain ⟨kvs, hkv, hpl⟩ := id pl
  obtain ⟨l, hv, hll, hlen, hbd⟩ := hpl w.name (Zzs.mpr ⟨w, hm, rfl⟩)
  walk_at "rd"
  refine ⟨Zz3 _, λp hp => ?_⟩
  have u0 := A3 (o := .lst []) hp
  have hcom := g.com w hm
  refine ⟨v, .ref xe, S, w, sz, rfl, RD.same u0 _ _ rs, RD.same u0 _ _ rx, g, z0, z1, by have := hcom.1; omega, λq hq => (hcom.2 q hq).1.1, λq1 H1 hq1 hq2 sm1 => ?_⟩
  have s01 := u0.trans sm1
  refine ⟨_, Ab (j := 0) (s01 _ _ hxe) rfl, _, Dj (hkv.same s01) hv, ?_⟩
  refine ⟨v, a, .ref xe, S, plan, w, sz, rfl, RD.same s01 _ _ rs, (pl.same s01).for _, RD.same s01 _ _ rx, g, z0, z1, λq2 H2 hq3 hq4 sm2 => ?_⟩
  have s02 := s01.trans sm2
  have hp2 : H2 p = some (.lst []) := sm2 _ _ (sm1 _ _ A0)
  refine ⟨q1, rfl, l, rfl, q2, rfl, _, sm2 _ _ hq2, _, s02 _ _ hll, _, hq4, ?_⟩
  have lz : min ((Au (daysN S) (Cb w)).map V.int).length (min ((plan w.name).map V.int).length ((B4 S plan w.name).map V.int).length) = daysN S := by
   rw [Zzz, Zzz, Zzz, An, hlen]
   unfold B4
   rw [An, Nat.min_self, Nat.min_self]
  have G := m6 q1 l q2 ((Au (daysN S) (Cb w)).map V.int) ((plan w.name).map V.int) ((B4 S plan w.name).map V.int)
  rw [lz] at G
  have q1p : q1 ≠ p := λe => by rw [e, A0] at hq1; cases hq1
  have lp : l ≠ p := A6 hll hp
  have q2p : q2 ≠ p := λe => by rw [e, sm1 _ _ A0] at hq3; cases hq3
  have xp : xe ≠ p := A6 hxe hp
  refine L6 G (nu v a (.ref xe) p S plan w H2) ⟨_, _, _, rfl, Zz3 _, hp2, λb o _ h => h⟩ (λi Z H' _ h => by obtain ⟨_, _, _, _, _, _, s⟩ := h; exact ⟨s _ _ q1p (sm2 _ _ hq2), s _ _ lp (s02 _ _ hll), s _ _ q2p hq4⟩) (λi ys pt Z H3 hi hys h hpt => ?_) (λZ H3 h => ?_)
  ·obtain ⟨o1, o2, o3, rfl, hi', hp3, kp⟩ := h
   obtain ⟨y1, y2, y3, e1, e2, e3, rfl⟩ := hys
   have ep : (plan w.name)[i]? = some ((plan w.name).getD i 0) := by
    rw [Zzg, Zzr (by omega)]
    rfl
   rw [Zzx, Bi hi] at e1
   cases e1
   rw [Zzx, ep] at e2
   cases e2
   unfold B4 at e3
   rw [Zzx, Bi hi] at e3
   cases e3
   have hb := hbd _ (Zzw ep)
   have hg := wb.gives
   refine gT3 ?_
   walk_at "rd"
   have pp : p ≠ pt := A6 hp3 hpt
   have kx : upd H3 pt (.tup [V.int (Cb w i), V.int ((plan w.name).getD i 0), V.int (C8 S plan w.name i)]) xe = some (.tup [V.str w.name, V.int w.lag, V.int w.gives, V.int w.floor, V.int w.stock, c1, c2]) := by
    rw [A5 (A6 (kp _ _ xp (s02 _ _ hxe)) hpt)]
    exact kp _ _ xp (s02 _ _ hxe)
   have hp4 : upd H3 pt (.tup [V.int (Cb w i), V.int ((plan w.name).getD i 0), V.int (C8 S plan w.name i)]) p = some (.lst ((Au i (i0 S plan w)).map V.int)) := by
    rw [A5 pp]
    exact hp3
   refine ⟨Dn hp4, _, Ab (j := 2) kx rfl, _, rfl, .inl (.inl ⟨by omega, by omega⟩), _, hp4, ?_, _, _, _, rfl, hi, ?_, λb o nb hb => ?_⟩
   ·rw [Zzz, An]
    exact Zyp (m := 1000) (by omega) (by decide)
   ·rw [A0, Ii, Zzm]
    rfl
   ·rw [A5 nb, A5 (A6 (kp _ _ nb hb) hpt)]
    exact kp _ _ nb hb
  ·obtain ⟨o1, o2, o3, rfl, hi', hp3, kp⟩ := h
   walk_at "rd"
   refine ⟨p, Au (daysN S) (i0 S plan w), rfl, hp3, by rw [An]; exact n2, λr H4 hr hr4 sm4 => ?_⟩
   have sm04 : Same H H4 := λb o hb => sm4 _ _ (kp _ _ (A6 hb hp) (s02 _ _ hb))
   refine k r H4 ?_ ?_ sm04
   ·cases e : H r with
    | none => rfl
    | some o =>
     rw [kp _ _ (A6 e hp) (s02 _ _ e)] at hr
     cases hr
   ·rw [hr4, gz]
    rfl
end
set_option maxHeartbeats 4000000
section
variable {P : Program} {w : World} {K : Zzv} {mg : Str -> Option Value} {base : Heap} {f : Addr} {fd : FuncData} {Pt : Addr}
def sp_lots_for : Sp := λvs H Q _ => ∃ m g, vs = [.int m, .int g] /\ 0 < g /\ g < 10 ^ 200 /\ Q (.int (Bl m g)) H
theorem S2 : Aj ["amount", "gives"] ["amount", "gives"] (Ad G5) := by walk_at "sc"
theorem Si (F : Fun K "lots_for" "lots_for" G5 f fd) (T : Txt mg) : Bh P w K mg base CX0 1 f fd ["amount", "gives"] sp_lots_for := by
 refine F.ok S2 (λvs H Q E h => ?_) (λcdv A outer s H vs Q E hr h => ?_)
 ·obtain ⟨m, g, rfl, _⟩ := h
  rfl
 ·obtain ⟨m, g, rfl, h0, h1, k⟩ := h
  have hu := B5 hr
  refine ⟨_, (A9 (Ak (Ap (Pe rfl) rfl T.Zu3 Rj (A4 A8 (A4 (Sb Lx (Ar Fx (Sb Lx (pv 0)) (pv 1))) A1))))), ?_⟩
  walk_at "rd"
  exact ⟨h0, h1, k⟩
theorem Fy {sz : Int} {S : Sh} (g : Good sz S) : W3 S where
 nd := g.ws.nd
 own := g.ws.own
 low := g.ws.low
 ok := g.ok
 few := by have := g.len.2; omega
theorem Lq {sz : Int} {S : Sh} (g : Good sz S) : Uy S where
 wb := λw hw => by
  have b := g.ws.wb w hw
  exact ⟨⟨b.gives.1, Zxq b.gives.2 (by decide +kernel)⟩, ⟨b.floor.1, Zxq b.floor.2 (by decide +kernel)⟩, b.stock.1, b.parts, λp hp => ⟨(b.amts p hp).1, Zxq (b.amts p hp).2 (by decide +kernel)⟩⟩
 com := λw hw p hp => ((g.com w hw).2 p hp).2.1
 few := g.len.2
 wt := ⟨g.wants.1, λu hu => ⟨(g.wants.2 u hu).2.2.1, Zxq (Zvw (g.wants.2 u hu).2.2.2) (by decide +kernel)⟩⟩
theorem Ei {xs : List Int} {i : Nat} {y : V} (h : (xs.map V.int)[i]? = some y) : y = .int (xs.getD i 0) := by
 rw [Zzx] at h
 rw [Zzg]
 cases e : xs[i]? with
 | none => rw [e] at h; cases h
 | some x => rw [e] at h; cases h; rfl
theorem Jx {S : Sh} (nd : (S.wares.map (·.name)).Nodup) {a b : Wr} (h1 : a ∈ S.wares) (h2 : b ∈ S.wares) (e : a.name = b.name) : a = b := by
 have := Fq nd h1
 rw [e, Fq nd h2] at this
 exact (Zzn this).symm
def bn (a b p : Addr) (g f : Int) (xs ys : List Int) (H : Hp) (i : Nat) (Z : St) (H' : Hp) : Prop := ∃ c d e : Option V, Z = [some (.ref a), some (.ref b), some (.int g), some (.int f), some (.ref p), some (.int (above f g xs ys i)), c, d, e] /\
 H' p = some (.lst ((lots f g xs ys i).map V.int)) /\ Same H H'
def sp_least_lots : Sp := λvs H Q _ => ∃ (a b : Addr) (g f : Int) (xs ys : List Int), vs = [.ref a, .ref b, .int g, .int f] /\ H a = some (.lst (xs.map V.int)) /\ H b = some (.lst (ys.map V.int)) /\ ys.length = xs.length /\ xs.length <= 1000 /\
 0 < g /\ g < 10 ^ 200 /\ (∀ i, i < xs.length -> CMulB g (Gn f g xs ys i)) /\ ∀ p H', H p = none -> H' p = some (.lst ((lots f g xs ys xs.length).map V.int)) -> Same H H' -> Q (.ref p) H'
theorem sc_least_lots : Aj ["have", "need", "gives", "floor", "told", "above_floor", "comes", "goes", "lots"] ["have", "need", "gives", "floor"] (Ad Ed) := by walk_at "sc"
theorem Nv (F : Fun K "least_lots" "least_lots" Ed f fd) (T : Txt mg) (Zud : Has P w K mg base "lots_for" 1 ["amount", "gives"] sp_lots_for) : Bh P w K mg base CX0 2 f fd ["have", "need", "gives", "floor"] sp_least_lots := by
 refine F.ok sc_least_lots (λvs H Q E h => ?_) (λcdv A outer s H vs Q E hr h => ?_)
 ·obtain ⟨a, b, g, f, xs, ys, rfl, _⟩ := h
  rfl
 ·obtain ⟨a, b, g, fl, xs, ys, rfl, ha, hb, hl, hn, g0, g200, hm, k⟩ := h
  have hu := B5 hr
  refine ⟨_, (A2 (Ae (i := 4) sc_least_lots.nd rfl (Zzq rfl) (Bp A1))
 (A2 (Ae (i := 5) sc_least_lots.nd rfl (Zzq rfl) (Sb Lx (pv 3)))
 (A2 (Az PassesOwn.never rfl (Vd rfl T.Ztx (A4 (pv 0) (A4 (pv 1) A1))) (Cd (n := 2) rfl (Ai (Ac (i := 6) sc_least_lots.nd rfl (Zzq rfl)) (Ai (Ac (i := 7) sc_least_lots.nd rfl (Zzq rfl)) Bn)))
 (A2 (Mb (i := 5) sc_least_lots.nd rfl (Zzq rfl) (Ar Mh (pv 6) (pv 7)) Gf)
 (A2 (Ae (i := 8) sc_least_lots.nd rfl (Zzq rfl) (Aa Zud hr.z rfl (A4 (Sb Lx (pv 5)) (A4 (pv 2) A1))))
 (A2 (Mb (i := 5) sc_least_lots.nd rfl (Zzq rfl) (Ar Jf (pv 2) (pv 8)) Gf)
 (A9 (Ba (E5 Zz6 Zz2 Zz1 Bj (pv 4) (A4 (pv 8) A1))))))))
 (A9 (Ak (pv 4)))))), ?_⟩
  walk_at "rd"
  refine ⟨Zz3 _, λp hp => ⟨_, by rw [A5 (A6 ha hp)]; exact ha, _, by rw [A5 (A6 hb hp)]; exact hb, ?_⟩⟩
  have en : min (xs.map V.int).length (ys.map V.int).length = xs.length := by rw [Zzz, Zzz]; omega
  refine L6 (Zu a b _ _) (bn a b p g fl xs ys H) ⟨_, _, _, rfl, A0, A3 hp⟩ (λi Z H' _ h => by obtain ⟨_, _, _, _, _, s⟩ := h; exact ⟨s _ _ ha, s _ _ hb⟩) (λi us t Z H' hi hy h ht => ?_) (λZ H' h => ?_)
  ·obtain ⟨c, d, e, rfl, h1, sm⟩ := h
   obtain ⟨y, z, ey, ez, rfl⟩ := hy
   have hy := Ei ey
   have hz := Ei ez
   subst hy hz
   refine gT2 ?_
   walk_at "rd"
   refine ⟨_, _, rfl, g0, g200, ?_⟩
   have eL : Bl (-(above fl g xs ys i + (xs.getD i 0 - ys.getD i 0))) g = Gn fl g xs ys i := rfl
   rw [eL]
   have hp' : upd H' t (.tup [.int (xs.getD i 0), .int (ys.getD i 0)]) p = some (.lst ((lots fl g xs ys i).map V.int)) := by rw [A5 (A6 h1 ht)]; exact h1
   walk_at "rd"
   refine ⟨hm i (by omega), Dn hp', _, hp', Zyp (m := 1000) (by rw [Zzz, Sw]; omega) (by decide), ?_⟩
   refine ⟨_, _, _, rfl, ?_, λb' o hb' => ?_⟩
   ·rw [A0, Xb, Zzm]; rfl
   ·rw [A5 (A6 hb' hp)]
    exact (sm.trans (A3 ht)) b' o hb'
  ·obtain ⟨c, d, e, rfl, h1, sm⟩ := h
   walk_at "rd"
   rw [en] at h1
   exact k p H' hp h1 sm
def gv : Option Nat -> V
 | some d => .int d
 | none => .non
def sp_first_early : Sp := λvs H Q _ => ∃ (a : Addr) (row : List Int) (lag : Int), vs = [.ref a, .int lag] /\ H a = some (.lst (row.map V.int)) /\ row.length <= 1000 /\ ∀ H', Same H H' -> Q (gv (Cp row lag)) H'
def bu (a : Addr) (lag : Int) (row : List Int) (H : Hp) (i : Nat) (Z : St) (H' : Hp) : Prop := ∃ c d : Option V, Z = [some (.ref a), some (.int lag), c, d] /\ Cn row lag i = none /\ Same H H'
theorem sc_first_early : Aj ["lots", "lag", "day", "count"] ["lots", "lag"] (Ad Dv) := by walk_at "sc"
theorem Mk (F : Fun K "first_early" "first_early" Dv f fd) (T : Txt mg) : Bh P w K mg base CX0 1 f fd ["lots", "lag"] sp_first_early := by
 refine F.ok sc_first_early (λvs H Q E h => ?_) (λcdv A outer s H vs Q E hr h => ?_)
 ·obtain ⟨a, row, lag, rfl, _⟩ := h
  rfl
 ·obtain ⟨a, row, lag, rfl, ha, hl, k⟩ := h
  have hu := B5 hr
  refine ⟨_, (A2 (Az PassesOwn.never rfl (Lm rfl T.Zv8 (A4 (pv 0) A1)) (Cd (n := 2) rfl (Ai (Ac (i := 2) sc_first_early.nd rfl (Zzq rfl)) (Ai (Ac (i := 3) sc_first_early.nd rfl (Zzq rfl)) Bn)))
 (A9 (Bd (PW.pt (Ij (Al (Mi hu) (pv 2) (pv 1) (Am _)) (Ga (Al Jg (pv 3) A8 (Am _))))) (A9 (Ak (pv 2))) Ao)))
 (A9 (Ak Fn))), ?_⟩
  walk_at "rd"
  refine ⟨_, ha, ?_⟩
  refine L6 (Vs a _) (bu a lag row H) ⟨_, _, rfl, rfl, Same.refl _⟩ (λi Z H' _ h => by obtain ⟨_, _, _, _, s⟩ := h; exact s _ _ ha) (λi us t Z H' hi hy h ht => ?_) (λZ H' h => ?_)
  ·obtain ⟨c, d, rfl, hn, sm⟩ := h
   obtain ⟨y, ey, rfl⟩ := hy
   have hy := Ei ey
   subst hy
   rw [Zzz] at hi
   have s2 := sm.trans (A3 (o := .tup [.int i, .int (row.getD i 0)]) ht)
   have es : Cn row lag (i + 1) = if (i : Int) < lag /\ 0 < row.getD i 0 then some i else none := by rw [Cn, hn]
   refine gT2 ?_
   walk_at "rd"
   refine Cr (λh1 => Cr (λh2 => ?_) (λh2 => ?_)) (λh1 => ?_)
   ·have h1 := of_decide_eq_true h1
    have h2 := of_decide_eq_true h2
    rw [if_pos ⟨h1, h2⟩] at es
    have e : Cp row lag = some i := Uo es (by omega)
    have := k _ s2
    rw [e] at this
    exact this
   ·exact ⟨_, _, rfl, by rw [es, if_neg (λc => h2 (decide_eq_true c.2))], s2⟩
   ·exact ⟨_, _, rfl, by rw [es, if_neg (λc => h1 (decide_eq_true c.1))], s2⟩
  ·obtain ⟨c, d, rfl, hn, sm⟩ := h
   rw [Zzz] at hn
   walk_at "rd"
   have := k _ sm
   unfold Cp at this
   rw [hn] at this
   exact this
def jm (kvs : List (Key × V)) (l : List Str) : Prop := ∀ nm ∈ l, ∀ nm' ∈ l, ∀ q : Addr, B1 kvs (.inr nm) = some (.ref q) -> B1 kvs (.inr nm') = some (.ref q) -> nm = nm'
def RowsAt (H H' : Hp) (a : Addr) (S : Sh) (l : List Str) : Prop := ∃ kvs, H' a = some (.dK kvs) /\ kvs.map (·.1) = l.map Zy2 /\ (∀ nm ∈ l, ∃ q : Addr, H q = none /\ q ≠ a /\ B1 kvs (.inr nm) = some (.ref q) /\ H' q = some (.lst ((LR S nm).map V.int))) /\ jm kvs l
def Ig (Pt : Addr) : Sp := λvs H Q _ => ∃ (v : V) (S : Sh) (sz : Int), vs = [v] /\ RD H S.d v /\ Good sz S /\ 0 < sz /\ sz <= 1000 /\ Tb H Pt /\ ∀ (t p : Addr) (ys : List Str) (i : Nat) (H' : Hp), H t = none -> H p = none -> t ≠ p -> G1 (lv S) (Ag S) ys -> RowsAt H H' p S (ys.take i) -> (∀ w ∈ S.wares, w.name ∈ ys.take i -> Cp (LR S w.name) w.lag = none) -> Tb H' Pt -> But Pt H H' ->
 ((i = ys.length /\ H' t = some (.tup [.str "plan", .ref p])) \/ ∃ (w : Wr) (d : Nat), w ∈ S.wares /\ ys[i]? = some w.name /\ Cp (LR S w.name) w.lag = some d /\ H' t = some (.tup [.str "short", .ref p, .str w.name, .int d, .int ((LR S w.name).getD d 0)])) -> Q (.ref t) H'
def ig (v : V) (p : Addr) (S : Sh) (ys : List Str) (H H1 : Hp) (i : Nat) (Z : St) (H' : Hp) : Prop := ∃ o2 o3 o4 o5 : Option V, Z = [some v, some (.ref p), o2, o3, o4, o5] /\ RowsAt H H' p S (ys.take i) /\ (∀ w ∈ S.wares, w.name ∈ ys.take i -> Cp (LR S w.name) w.lag = none) /\ ∀ b o, b ≠ p -> H1 b = some o -> H' b = some o
theorem sc_planned : Aj ["shop", "plan", "name", "ware", "lots", "day"] ["shop"] (Ad Hl) := by walk_at "sc"
theorem Uc (F : Fun K "planned" "planned" Hl f fd) (T : Txt mg) (Zvk : Has P w K mg base "worked" 6 ["shop"] (El Pt)) (Zvm : Has P w K mg base "ware_of" 1 ["shop", "name"] sp_ware_of) (Zun : Has P w K mg base "least_lots" 2 ["have", "need", "gives", "floor"] sp_least_lots) (Zv6 : Has P w K mg base "needs_row" 3 ["shop", "plan", "ware"] sp_needs_row) (Zvf : Has P w K mg base "arrivals_row" 2 ["shop", "ware"] sp_arrivals_row) (Zve : Has P w K mg base "first_early" 1 ["lots", "lag"] sp_first_early) : Bh P w K mg base CX0 7 f fd ["shop"] (Ig Pt) := by
 refine F.ok sc_planned (λvs H Q E h => ?_) (λcdv A outer s H vs Q E hr h => ?_)
 ·obtain ⟨v, S, sz, rfl, _⟩ := h
  rfl
 ·obtain ⟨v, S, sz, rfl, rs, g, z0, z1, tb, k⟩ := h
  have hu := B5 hr
  obtain ⟨n1, n2, n3, n4⟩ := g.days z0 z1
  refine ⟨_, (A2 (Ae (i := 1) sc_planned.nd rfl (Zzq rfl) Ct)
 (A2 (Az PassesOwn.never rfl (Cl (Aa Zvk hr.z rfl (A4 (pv 0) A1))) (Ac (i := 2) sc_planned.nd rfl (Zzq rfl))
 (A2 (Ae (i := 3) sc_planned.nd rfl (Zzq rfl) (Aa Zvm hr.z rfl (A4 (pv 0) (A4 (pv 2) A1))))
 (A2 (Ae (i := 4) sc_planned.nd rfl (Zzq rfl) (Aa Zun hr.z rfl (A4 (Aa Zvf hr.z rfl (A4 (pv 0) (A4 (pv 3) A1))) (A4 (Aa Zv6 hr.z rfl (A4 (pv 0) (A4 (pv 1) (A4 (pv 3) A1)))) (A4 (A7 hu (pv 3) (Ah rfl T.Zuv) (λ_ _ => rfl)) (A4 (A7 hu (pv 3) (Ah rfl T.Zuw) (λ_ _ => rfl)) A1))))))
 (A2 (Ae (i := 5) sc_planned.nd rfl (Zzq rfl) (Aa Zve hr.z rfl (A4 (pv 4) (A4 (A7 hu (pv 3) (Ah rfl T.Zus) (λ_ _ => rfl)) A1))))
 (A2 (Bd (Al Ke (pv 5) Fn (Am _)) (A9 (Ak (Aq (A4 Bo (A4 (pv 1) (A4 (pv 2) (A4 (pv 5) (A4 (A7 hu (pv 4) (pv 5) (λ_ _ => rfl)) A1)))))))) Ao)
 (A9 (D7 (pv 4) (Dr (pv 1) (pv 2) (Db hu)))))))))
 (A9 (Ak (Aq (A4 Bo (A4 (pv 1) A1))))))), ?_⟩
  have L := Fy g
  have PL := Lq g
  have hfew := L.few
  walk_at "rd"
  intro p hp
  have u0 := A3 (o := .dK []) hp
  refine ⟨v, S, rfl, RD.same u0 _ _ rs, L, tb.same u0, λq ys H1 hq hq1 so sb tb1 bt1 => ⟨q, rfl, _, hq1, ?_⟩⟩
  have tb0 := tb.same u0
  have pPt : p ≠ Pt := λz => by obtain ⟨u, e⟩ := tb.at; rw [<- z, hp] at e; cases e
  have hp1 : H1 p = some (.dK []) := bt1 _ _ pPt A0
  have qp : q ≠ p := Eo hq1 hp1 (λz => by cases z)
  have hyl : ys.length = S.wares.length := by rw [so.1.length_eq, Bs]
  have ndy : ys.Nodup := so.1.nodup_iff.mpr L.nd
  have so' : Ld (lv S) (S.wares.map (·.name)) ys := so
  have rs1 := RD.ku (Dy tb0 bt1) _ _ (C3 S) (RD.same u0 _ _ rs)
  have fresh : ∀ (H' : Hp) (b : Addr), (∀ b o, b ≠ p -> H1 b = some o -> H' b = some o) -> H' b = none -> b ≠ p -> H b = none := λH' b kp hb nb => by
   cases e : H b with
   | none => rfl
   | some o =>
    by_cases z : b = Pt
    ·obtain ⟨u, e2⟩ := tb1.at
     rw [z, kp _ _ (Zzf pPt) e2] at hb
     cases hb
    ·rw [kp _ _ nb (bt1 _ _ z (u0 _ _ e))] at hb
     cases hb
  have keepB : ∀ (H' : Hp), (∀ b o, b ≠ p -> H1 b = some o -> H' b = some o) -> But Pt H H' := λH' kp b o nb e => kp _ _ (A6 e hp) (bt1 _ _ nb (u0 _ _ e))
  have keepT : ∀ (H' : Hp), (∀ b o, b ≠ p -> H1 b = some o -> H' b = some o) -> Tb H' Pt := λH' kp => by
   rcases tb1 with e | ⟨c, e, e2⟩
   ·exact .inl (kp _ _ (Zzf pPt) e)
   ·exact .inr ⟨c, kp _ _ (Zzf pPt) e, kp _ _ (λz => by rw [z, hp1] at e2; cases e2) e2⟩
  refine Bw (Dl q _) (ig v p S ys H H1) ⟨_, _, _, _, rfl, ⟨[], hp1, rfl, (λnm hn => by cases hn), λnm hn => by cases hn⟩, (λw _ hn => by cases hn), λb o _ e => e⟩ (λi Z H' _ h => by obtain ⟨_, _, _, _, _, _, _, kp⟩ := h; exact kp _ _ qp hq1) (λi x Z H2 hi hx h => ?_) (λZ H2 h => ?_)
  ·obtain ⟨o2, o3, o4, o5, rfl, ⟨kvs, hp2, hks, hrow, hap⟩, hne, kp⟩ := h
   rw [Zzx] at hx
   cases en : ys[i]? with
   | none => rw [en] at hx; cases hx
   | some nm =>
   rw [en] at hx
   have hx : V.str nm = x := Zzn hx
   subst hx
   have hny := Zzw en
   have hnm : nm ∈ S.wares.map (·.name) := so.1.mem_iff.mp hny
   have hil : i < ys.length := (Zzh.mp en).1
   have ku2 : KeepU H1 H2 := λb xs e => kp b _ (Eo e hp1 (λz => by cases z)) e
   have rs2 := RD.ku ku2 _ _ (C3 S) rs1
   walk_at "rd"
   refine ⟨v, S, nm, rfl, rs2, L.ok, hnm, λt wt hwt ewt rt => ?_⟩
   subst ewt
   have hcom := g.com wt hwt
   have wb := g.ws.wb wt hwt
   obtain ⟨te, d1, d2, rfl, hte, rc, rp⟩ := Bg rt
   refine ⟨v, .ref te, S, wt, sz, rfl, rs2, rt, g, z0, z1, by have := hcom.1; omega, λq hq => (hcom.2 q hq).1.1, λq1 H3 hq1' hq3 sm3 => ?_⟩
   have pf : PlanFor H3 p S (LR S) (bc S wt.name) := ⟨kvs, .inl (sm3 _ _ hp2), λnm' hn' hT => by
    obtain ⟨u, hu', rfl, pp, hpp, e⟩ := hT
    obtain ⟨qr, _, _, hv, hl⟩ := hrow u.name (Rx L.toLev so' en hu' hpp e)
    exact ⟨qr, hv, sm3 _ _ hl, Kt L.toLev hu', λx hx => ⟨(W5 PL _ x hx).1, Int.lt_trans (W5 PL _ x hx).2 (by decide +kernel)⟩⟩⟩
   refine ⟨v, p, .ref te, S, LR S, wt, sz, rfl, RD.same sm3 _ _ rs2, pf, RD.same sm3 _ _ rt, g, z0, z1, λq2 H4 hq4 hq5 sm4 => ?_⟩
   have s24 := sm3.trans sm4
   have hte4 := s24 _ _ hte
   refine ⟨_, Ab (j := 2) hte4 rfl, _, Ab (j := 3) hte4 rfl, ?_⟩
   have lrq : lots wt.floor wt.gives (Au (daysN S) (Cb wt)) (B4 S (LR S) wt.name) (Au (daysN S) (Cb wt)).length = LR S wt.name := by rw [An, <- To L.toLev hwt]
   refine ⟨q1, q2, wt.gives, wt.floor, Au (daysN S) (Cb wt), B4 S (LR S) wt.name, rfl, sm4 _ _ hq3, hq5, by unfold B4; rw [An, An], by rw [An]; exact n2, by have := wb.gives.1; omega, Zy8 wb.gives.2 (by decide +kernel), λj hj => .inl (.inl ⟨by have := wb.gives.1; omega, by have := wb.gives.2; omega⟩), λr H5 hr5 hr6 sm5 => ?_⟩
   rw [lrq] at hr6
   have s25 := s24.trans sm5
   refine ⟨_, Ab (j := 1) (s25 _ _ hte) rfl, r, LR S wt.name, wt.lag, rfl, hr6, by rw [Kt L.toLev hwt]; exact n2, λH6 sm6 => ?_⟩
   have s26 := s25.trans sm6
   have hr7 := sm6 _ _ hr6
   have hp6 := s26 _ _ hp2
   have kp6 : ∀ b o, b ≠ p -> H1 b = some o -> H6 b = some o := λb o nb e => s26 _ _ (kp b o nb e)
   have rp : r ≠ p := λz => by rw [z, s24 _ _ hp2] at hr5; cases hr5
   have hr0 : H r = none := by
    have h2r : H2 r = none := Same.free s24 hr5
    exact fresh H2 r kp h2r rp
   have hrow6 : ∀ nm' ∈ ys.take i, ∃ q' : Addr, H q' = none /\ q' ≠ p /\ B1 kvs (.inr nm') = some (.ref q') /\ H6 q' = some (.lst ((LR S nm').map V.int)) := λnm' hn' => by obtain ⟨q', e1, e2, e3, e4⟩ := hrow nm' hn'; exact ⟨q', e1, e2, e3, s26 _ _ e4⟩
   cases ea : Cp (LR S wt.name) wt.lag with
   | some d =>
    have hd := L8 ea
    have hdl : d < (LR S wt.name).length := hd.1
    have eg : (LR S wt.name)[d]? = some ((LR S wt.name).getD d 0) := by rw [Zzg, Zzr hdl]; rfl
    show if (!decide (V.int (d : Int) = V.non)) = true then _ else _
    rw [if_pos (by rw [decide_eq_false (λz => by cases z)]; rfl)]
    refine ⟨.int ((LR S wt.name).getD d 0), Ip hr7 (by rw [Zzx, eg]; rfl), by decide, λt ht => ?_⟩
    have tp : t ≠ p := λz => by rw [z, hp6] at ht; cases ht
    have u7 := A3 (o := .tup [.str "short", .ref p, .str wt.name, .int d, .int ((LR S wt.name).getD d 0)]) ht
    have kp7 : ∀ b o, b ≠ p -> H1 b = some o -> upd H6 t (.tup [.str "short", .ref p, .str wt.name, .int d, .int ((LR S wt.name).getD d 0)]) b = some o := λb o nb e => u7 _ _ (kp6 b o nb e)
    exact k t p ys i _ (fresh H6 t kp6 ht tp) hp tp sb ⟨kvs, u7 _ _ hp6, hks, λnm' hn' => by obtain ⟨q', e1, e2, e3, e4⟩ := hrow6 nm' hn'; exact ⟨q', e1, e2, e3, u7 _ _ e4⟩, hap⟩ hne (keepT _ kp7) (keepB _ kp7) (.inr ⟨wt, d, hwt, en, ea, A0⟩)
   | none =>
    show if (!decide (V.non = V.non)) = true then _ else _
    rw [if_neg (by decide)]
    have hkl : kvs.length <= 64 := by
     have := congrArg Zxz hks
     rw [Zzz, Zzz, Zym] at this
     omega
    refine ⟨kvs, .inr wt.name, rfl, hp6, Zyp hkl (by decide), _, _, _, _, rfl, ⟨_, A0, ?_, λnm' hn' => ?_, λnm1 hn1 nm2 hn2 q1' v1 v2 => ?_⟩, λw' hw' hn' => ?_, λb o nb e => by rw [A5 nb]; exact kp6 b o nb e⟩
    ·have nn : B1 kvs (.inr wt.name) = none := by
      cases e : B1 kvs (.inr wt.name) with
      | none => rfl
      | some z =>
       have h3 := Pm e
       rw [hks] at h3
       obtain ⟨y, hy, e2⟩ := Zzs.mp h3
       rw [Zxh e2] at hy
       exact absurd hy (Cv ndy en)
     rw [Gv _ nn, Zzm, hks, Zz8, en, Zzm]
     rfl
    ·rw [Zz8, en] at hn'
     rcases Zzc.mp hn' with z | z
     ·obtain ⟨q', e1, e2, e3, e4⟩ := hrow6 nm' z
      refine ⟨q', e1, e2, by rw [Cg, if_neg (λz2 => Cv ndy en (by rw [<- Zxh z2]; exact z))]; exact e3, by rw [A5 e2]; exact e4⟩
     ·have e : nm' = wt.name := by simpa using z
      subst e
      exact ⟨r, hr0, rp, by rw [Cg, if_pos rfl], by rw [A5 rp]; exact hr7⟩
    ·have old : ∀ nm' ∈ ys.take i, ∀ q' : Addr, B1 (B8 kvs (.inr wt.name) (.ref r)) (.inr nm') = some (.ref q') -> B1 kvs (.inr nm') = some (.ref q') /\ q' ≠ r := λnm' hn' q' e => by
      rw [Cg, if_neg (λz2 => Cv ndy en (by rw [<- Zxh z2]; exact hn'))] at e
      refine ⟨e, λz => ?_⟩
      obtain ⟨q2', _, _, e3, e4⟩ := hrow nm' hn'
      rw [e] at e3
      cases e3
      rw [z, Same.free s24 hr5] at e4
      cases e4
     have new : ∀ nm', nm' ∈ ys.take (i + 1) -> nm' ∈ ys.take i \/ nm' = wt.name := λnm' hn' => by
      rw [Zz8, en] at hn'
      rcases Zzc.mp hn' with z | z
      ·exact .inl z
      ·exact .inr (by simpa using z)
     rcases new nm1 hn1 with z1 | z1 <;> rcases new nm2 hn2 with z2 | z2
     ·exact hap nm1 z1 nm2 z2 q1' (old nm1 z1 q1' v1).1 (old nm2 z2 q1' v2).1
     ·rw [z2, Cg, if_pos rfl] at v2
      cases v2
      exact absurd rfl (old nm1 z1 _ v1).2
     ·rw [z1, Cg, if_pos rfl] at v1
      cases v1
      exact absurd rfl (old nm2 z2 _ v2).2
     ·rw [z1, z2]
    ·rw [Zz8, en] at hn'
     rcases Zzc.mp hn' with z | z
     ·exact hne w' hw' z
     ·have e : w'.name = wt.name := by simpa using z
      rw [Jx L.nd hw' hwt e]
      exact ea
  ·obtain ⟨o2, o3, o4, o5, rfl, hrow, hne, kp⟩ := h
   rw [Zzz] at hrow hne
   walk_at "rd"
   refine ⟨by decide, λt ht => ?_⟩
   obtain ⟨kvs, hp2, hks, hr2, hap⟩ := hrow
   have tp : t ≠ p := λz => by rw [z, hp2] at ht; cases ht
   have u7 := A3 (o := .tup [.str "plan", .ref p]) ht
   have kp7 : ∀ b o, b ≠ p -> H1 b = some o -> upd H2 t (.tup [.str "plan", .ref p]) b = some o := λb o nb e => u7 _ _ (kp b o nb e)
   exact k t p ys ys.length _ (fresh H2 t kp ht tp) hp tp sb ⟨kvs, u7 _ _ hp2, hks, λnm' hn' => by obtain ⟨q', e1, e2, e3, e4⟩ := hr2 nm' hn'; exact ⟨q', e1, e2, e3, u7 _ _ e4⟩, hap⟩ hne (keepT _ kp7) (keepB _ kp7) (.inl ⟨rfl, A0⟩)
end
set_option maxHeartbeats 4000000
section
variable {P : Program} {w : World} {K : Zzv} {mg : Str -> Option Value} {base : Heap} {f : Addr} {fd : FuncData} {Pt : Addr}
theorem PlanAt.tb {H H' : Hp} {a Pt : Addr} {S : Sh} {plan : Str -> List Int} (h : PlanAt H a S plan) (tb : Tb H Pt) (bt : But Pt H H') : PlanAt H' a S plan := by
 obtain ⟨kvs, h1, h2⟩ := h
 refine ⟨kvs, ?_, λnm hn => by obtain ⟨l, e1, e2, e3⟩ := h2 nm hn; exact ⟨l, e1, bt _ _ (Dx tb e2 λu z => by cases z) e2, e3⟩⟩
 rcases h1 with e | ⟨o, e⟩
 ·exact .inl (bt _ _ (Dx tb e λu z => by cases z) e)
 ·exact .inr ⟨o, bt _ _ (Dx tb e λu z => by cases z) e⟩
theorem Yk (i : Int) (o : Option Nat) : cw (.int i) (gv o) = true := by cases o <;> rfl
theorem mh {i : Nat} {o : Option Nat} (h : V.int i = gv o) : o = some i := by
 cases o with
 | none => cases h
 | some d =>
  have : (i : Int) = d := V.int.inj h
  rw [Int.ofNat.inj this]
def sp_first_fault : Sp := λvs H Q _ => ∃ (v : V) (a : Addr) (x : V) (S : Sh) (plan : Str -> List Int) (w : Wr) (sz : Int), vs = [v, .ref a, x] /\ RD H S.d v /\ PlanAt H a S plan /\ RD H w.d x /\ w ∈ S.wares /\ Good sz S /\ 0 < sz /\ sz <= 1000 /\
 (∀ H', Same H H' -> Gg S plan w = none -> Q .non H') /\ ∀ t H' y, H t = none -> Same H H' -> Gg S plan w = some y -> H' t = some (.tup [.str y.1, .str w.name, .int y.2]) -> Q (.ref t) H'
def br (v : V) (a : Addr) (x : V) (S : Sh) (plan : Str -> List Int) (w : Wr) (H : Hp) (i : Nat) (Z : St) (H' : Hp) : Prop := ∃ o4 o5 : Option V, Z = [some v, some (.ref a), some x, some (gv (Cp (plan w.name) w.lag)), o4, o5] /\ Dt S plan w i = none /\ Same H H'
theorem sc_first_fault : Aj ["shop", "plan", "ware", "early", "day", "left"] ["shop", "plan", "ware"] (Ad Du) := by walk_at "sc"
theorem Mj (F : Fun K "first_fault" "first_fault" Du f fd) (T : Txt mg) (Zve : Has P w K mg base "first_early" 1 ["lots", "lag"] sp_first_early) (Zum : Has P w K mg base "stocks_row" 4 ["shop", "plan", "ware"] sp_stocks_row) : Bh P w K mg base CX0 5 f fd ["shop", "plan", "ware"] sp_first_fault := by
 refine F.ok sc_first_fault (λvs H Q E h => ?_) (λcdv A outer s H vs Q E hr h => ?_)
 ·obtain ⟨v, a, x, S, plan, w, sz, rfl, _⟩ := h
  rfl
 ·obtain ⟨v, a, x, S, plan, w, sz, rfl, rs, pl, rx, hm, g, z0, z1, kN, kS⟩ := h
  have hu := B5 hr
  obtain ⟨n1, n2, n3, n4⟩ := g.days z0 z1
  refine ⟨_, (A2 (Ae (i := 3) sc_first_fault.nd rfl (Zzq rfl) (Aa Zve hr.z rfl (A4 (A7 hu (pv 1) (A7 hu (pv 2) (Ah rfl T.Zvj) (λ_ _ => rfl)) (λ_ _ => rfl)) (A4 (A7 hu (pv 2) (Ah rfl T.Zus) (λ_ _ => rfl)) A1))))
 (A2 (Az PassesOwn.never rfl (Lm rfl T.Zv8 (A4 (Aa Zum hr.z rfl (A4 (pv 0) (A4 (pv 1) (A4 (pv 2) A1)))) A1)) (Cd (n := 2) rfl (Ai (Ac (i := 4) sc_first_fault.nd rfl (Zzq rfl)) (Ai (Ac (i := 5) sc_first_fault.nd rfl (Zzq rfl)) Bn)))
 (A2 (Bd (Al (Bq hu) (pv 4) (pv 3) (Am _)) (A9 (Ak (Aq (A4 Bo (A4 (A7 hu (pv 2) (Ah rfl T.Zvj) (λ_ _ => rfl)) (A4 (pv 4) A1)))))) Ao)
 (A9 (Bd (Al (Mi hu) (pv 5) (A7 hu (pv 2) (Ah rfl T.Zuw) (λ_ _ => rfl)) (Am _)) (A9 (Ak (Aq (A4 Bo (A4 (A7 hu (pv 2) (Ah rfl T.Zvj) (λ_ _ => rfl)) (A4 (pv 4) A1)))))) Ao))))
 (A9 (Ak Fn)))), ?_⟩
  obtain ⟨xe, c1, c2, rfl, hxe, _⟩ := Bg rx
  obtain ⟨kvs, hkv, hpl⟩ := id pl
  obtain ⟨l, hv, hll, hlen, hbd⟩ := hpl w.name (Zzs.mpr ⟨w, hm, rfl⟩)
  walk_at "rd"
  refine ⟨_, Ab (j := 0) hxe rfl, _, Dj hkv hv, _, Ab (j := 1) hxe rfl, l, plan w.name, w.lag, rfl, hll, by rw [hlen]; exact n2, λH1 sm1 => ?_⟩
  refine ⟨v, a, .ref xe, S, plan, w, sz, rfl, RD.same sm1 _ _ rs, pl.same sm1, RD.same sm1 _ _ rx, hm, g, z0, z1, λq H2 hq hq2 sm2 => ?_⟩
  have s02 := sm1.trans sm2
  have slen : (E2 S plan w).length = daysN S := by unfold E2; rw [An]
  refine ⟨q, rfl, _, hq2, ?_⟩
  refine L6 (Vs q _) (br v a (.ref xe) S plan w H2) ⟨_, _, rfl, rfl, Same.refl _⟩ (λi Z H' _ h => by obtain ⟨_, _, _, _, s⟩ := h; exact s _ _ hq2) (λi us t Z H3 hi hy h ht => ?_) (λZ H3 h => ?_)
  ·obtain ⟨o4, o5, rfl, hn, sm⟩ := h
   obtain ⟨y, ey, rfl⟩ := hy
   have hy := Ei ey
   subst hy
   rw [Zzz, slen] at hi
   have s4 := s02.trans (sm.trans (A3 (o := .tup [.int i, .int ((E2 S plan w).getD i 0)]) ht))
   have s24 := sm.trans (A3 (o := .tup [.int i, .int ((E2 S plan w).getD i 0)]) ht)
   have es : Dt S plan w (i + 1) = if Cp (plan w.name) w.lag = some i then some (("early" : Str), i) else if (E2 S plan w).getD i 0 < w.floor then some (("below" : Str), i) else none := by rw [Dt, hn]
   refine gT2 ?_
   generalize upd H3 t (.tup [.int i, .int ((E2 S plan w).getD i 0)]) = H4 at s4 s24
   walk_at "rd"
   have hxe4 := s4 _ _ hxe
   refine ⟨Yk _ _, Cr (λh1 => ?_) (λh1 => ?_)⟩
   ·have h1 := mh (of_decide_eq_true h1)
    rw [if_pos h1] at es
    refine ⟨_, Ab (j := 0) hxe4 rfl, by decide, λt2 ht2 => ?_⟩
    exact kS t2 _ ("early", i) (Same.free s4 ht2) (s4.trans (A3 ht2)) (N5 es (by omega)) A0
   ·have h1 : ¬ Cp (plan w.name) w.lag = some i := λe => h1 (decide_eq_true (by rw [e]; rfl))
    rw [if_neg h1] at es
    refine ⟨_, Ab (j := 3) hxe4 rfl, _, rfl, Cr (λh2 => ?_) (λh2 => ?_)⟩
    ·rw [if_pos (of_decide_eq_true h2)] at es
     refine ⟨_, Ab (j := 0) hxe4 rfl, by decide, λt2 ht2 => ?_⟩
     exact kS t2 _ ("below", i) (Same.free s4 ht2) (s4.trans (A3 ht2)) (N5 es (by omega)) A0
    ·exact ⟨_, _, rfl, by rw [es, if_neg (λz => h2 (decide_eq_true z))], s24⟩
  ·obtain ⟨o4, o5, rfl, hn, sm⟩ := h
   rw [Zzz, slen] at hn
   walk_at "rd"
   exact kN _ (s02.trans sm) hn
def Ot (Pt : Addr) : Sp := λvs H Q _ => ∃ (v : V) (a : Addr) (S : Sh) (plan : Str -> List Int) (sz : Int), vs = [v, .ref a] /\ RD H S.d v /\ PlanAt H a S plan /\ Good sz S /\ 0 < sz /\ sz <= 1000 /\ Tb H Pt /\ ∀ (t : Addr) (ys : List Str) (H' : Hp), H t = none -> G1 (lv S) (Ag S) ys -> H' t = some (.tup (gg (P2 S plan ys))) -> Tb H' Pt -> But Pt H H' -> Q (.ref t) H'
def mz (v : V) (a : Addr) (S : Sh) (plan : Str -> List Int) (ys : List Str) (H1 : Hp) (i : Nat) (Z : St) (H' : Hp) : Prop := ∃ o2 o3 : Option V, Z = [some v, some (.ref a), o2, o3] /\ Io S plan ys i = none /\ Same H1 H'
theorem sc_judged : Aj ["shop", "plan", "name", "fault"] ["shop", "plan"] (Ad Ja) := by walk_at "sc"
theorem Wy (F : Fun K "judged" "judged" Ja f fd) (T : Txt mg) (Zvk : Has P w K mg base "worked" 6 ["shop"] (El Pt)) (Zuq : Has P w K mg base "first_fault" 5 ["shop", "plan", "ware"] sp_first_fault) (Zvm : Has P w K mg base "ware_of" 1 ["shop", "name"] sp_ware_of) : Bh P w K mg base CX0 7 f fd ["shop", "plan"] (Ot Pt) := by
 refine F.ok sc_judged (λvs H Q E h => ?_) (λcdv A outer s H vs Q E hr h => ?_)
 ·obtain ⟨v, a, S, plan, sz, rfl, _⟩ := h
  rfl
 ·obtain ⟨v, a, S, plan, sz, rfl, rs, pl, g, z0, z1, tb, k⟩ := h
  have hu := B5 hr
  refine ⟨_, (A2 (Az PassesOwn.never rfl (Cl (Aa Zvk hr.z rfl (A4 (pv 0) A1))) (Ac (i := 2) sc_judged.nd rfl (Zzq rfl))
 (A2 (Ae (i := 3) sc_judged.nd rfl (Zzq rfl) (Aa Zuq hr.z rfl (A4 (pv 0) (A4 (pv 1) (A4 (Aa Zvm hr.z rfl (A4 (pv 0) (A4 (pv 2) A1))) A1)))))
 (A9 (Bd (Al Ke (pv 3) Fn (Am _)) (A9 (Ak (pv 3))) Ao))))
 (A9 (Ak (Aq (A4 Bo A1))))), ?_⟩
  have L := Fy g
  walk_at "rd"
  refine ⟨v, S, rfl, rs, L, tb, λq ys H1 hq hq1 so sb tb1 bt1 => ⟨q, rfl, _, hq1, ?_⟩⟩
  have rs1 := RD.ku (Dy tb bt1) _ _ (C3 S) rs
  have pl1 := pl.tb tb bt1
  have fresh : ∀ (H' : Hp) (b : Addr), Same H1 H' -> H' b = none -> H b = none := λH' b s hb => by
   cases e : H b with
   | none => rfl
   | some o =>
    by_cases z : b = Pt
    ·obtain ⟨u, e2⟩ := tb1.at
     rw [z, s _ _ e2] at hb
     cases hb
    ·rw [s _ _ (bt1 _ _ z e)] at hb
     cases hb
  refine Bw (Dl q _) (mz v a S plan ys H1) ⟨_, _, rfl, rfl, Same.refl _⟩ (λi Z H' _ h => by obtain ⟨_, _, _, _, s⟩ := h; exact s _ _ hq1) (λi x Z H2 hi hx h => ?_) (λZ H2 h => ?_)
  ·obtain ⟨o2, o3, rfl, hn, s2⟩ := h
   rw [Zzx] at hx
   cases en : ys[i]? with
   | none => rw [en] at hx; cases hx
   | some nm =>
   rw [en] at hx
   have hx : V.str nm = x := Zzn hx
   subst hx
   have hnm : nm ∈ S.wares.map (·.name) := so.1.mem_iff.mp (Zzw en)
   have hil : i < ys.length := (Zzh.mp en).1
   walk_at "rd"
   refine ⟨v, S, nm, rfl, RD.same s2 _ _ rs1, L.ok, hnm, λt wt hwt ewt rt => ?_⟩
   subst ewt
   have st := Xi L.nd hn en hwt
   refine ⟨v, a, t, S, plan, wt, sz, rfl, RD.same s2 _ _ rs1, pl1.same s2, rt, hwt, g, z0, z1, λH3 s3 ef => ?_, λt2 H3 y ht2 s3 ef e2 => ?_⟩
   ·rw [ef] at st
    rw [if_neg (by decide)]
    exact ⟨_, _, rfl, st, s2.trans s3⟩
   ·rw [ef] at st
    rw [if_pos (by rw [decide_eq_false (λz => by cases z)]; rfl)]
    have ej : P2 S plan ys = some (y.1, wt.name, y.2) := Zn st (by omega)
    refine k t2 ys H3 (fresh H2 t2 s2 ht2) sb ?_ (tb1.same (s2.trans s3)) (λb o nb e => (s2.trans s3) _ _ (bt1 b o nb e))
    rw [ej]
    exact e2
  ·obtain ⟨o2, o3, rfl, hn, s2⟩ := h
   rw [Zzz] at hn
   walk_at "rd"
   refine ⟨by decide, λt ht => ?_⟩
   have u3 := A3 (o := .tup [.str "good"]) ht
   refine k t ys _ (fresh H2 t s2 ht) sb ?_ (tb1.same (s2.trans u3)) (λb o nb e => (s2.trans u3) _ _ (bt1 b o nb e))
   have : P2 S plan ys = none := hn
   rw [this]
   exact A0
end
set_option maxHeartbeats 4000000
section
variable {P : Program} {w : World} {K : Zzv} {mg : Str -> Option Value} {base : Heap} {f : Addr} {fd : FuncData} {Pt : Addr}
def Rz (Pt : Addr) : Sp := λvs H Q _ => ∃ (v : V) (S : Sh), vs = [v] /\ RD H S.d v /\ W3 S /\ Tb H Pt /\ ∀ p ys H', H p = none -> H' p = some (.dK (fnD ys (tm S))) -> ys.Perm (Ag S) -> Tb H' Pt -> But Pt H H' -> Q (.ref p) H'
def ia (v : V) (p : Addr) (S : Sh) (ys : List Str) (Pt : Addr) (H : Hp) (j : Nat) (Z : St) (H' : Hp) : Prop := ∃ o1 o2 : Option V, Z = [some v, some (.ref p), o1, o2] /\ H' p = some (.dK (fnD (ys.reverse.take j) (tm S))) /\ Tb H' Pt /\ But Pt H H'
theorem sc_times : Aj ["shop", "told", "name", "ware"] ["shop"] (Ad Ll) := by walk_at "sc"
theorem Z0 (F : Fun K "times" "times" Ll f fd) (T : Txt mg) (Zvk : Has P w K mg base "worked" 6 ["shop"] (El Pt)) (Zvm : Has P w K mg base "ware_of" 1 ["shop", "name"] sp_ware_of) (Zvi : Has P w K mg base "part_names" 1 ["ware"] sp_part_names) : Bh P w K mg base CX0 7 f fd ["shop"] (Rz Pt) := by
 refine F.ok sc_times (λvs H Q E h => ?_) (λcdv A outer s H vs Q E hr h => ?_)
 ·obtain ⟨v, S, rfl, _⟩ := h
  rfl
 ·obtain ⟨v, S, rfl, rs, L, tb, k⟩ := h
  have hu := B5 hr
  refine ⟨_, (A2 (Ae (i := 1) sc_times.nd rfl (Or.inr rfl) Ct)
 (A2 (Az PassesOwn.never rfl (jz rfl T.Zty (A4 (Aa Zvk hr.z rfl (A4 (pv 0) A1)) A1)) (Ac (i := 2) sc_times.nd rfl (Zzq rfl))
 (A2 (Ae (i := 3) sc_times.nd rfl (Zzq rfl) (Aa Zvm hr.z rfl (A4 (pv 0) (A4 (pv 2) A1))))
 (A9 (D7 (Ar Bx (A7 hu (pv 3) (Ah rfl T.Zus) (λ_ _ => rfl)) (Ve rfl rfl T.Zu3 (Ff (own := ["part"]) (cap := [1]) rfl (G0 rfl) (C9 (by decide)) (Cl (Aa Zvi hr.z rfl (A4 (pv 3) A1)))
 (λ_ _ _ _ _ _ => ⟨(Ac (i := 0) (of_decide_eq_true rfl) rfl (Zzq rfl) (.inr rfl)), De, (A7 hu (pv 1) (pv 0) (λ_ _ => rfl))⟩)))) (Dr (pv 1) (pv 2) (Db hu))))))
 (A9 (Ak (pv 1))))), ?_⟩
  have hfew := L.few
  walk_at "rd"
  intro p hp
  have u0 := A3 (o := .dK []) hp
  refine ⟨v, S, rfl, RD.same u0 _ _ rs, L, tb.same u0, λq ys H1 hq hq1 so _ tb1 bt => ⟨q, rfl, _, hq1, ?_⟩⟩
  have pPt : p ≠ Pt := λz => by obtain ⟨u, e⟩ := tb.at; rw [<- z, hp] at e; cases e
  have hp1 : H1 p = some (.dK []) := bt _ _ pPt A0
  have bt0 : But Pt H H1 := λb o nb e => bt b o nb (u0 b o e)
  have so' : Ld (lv S) (S.wares.map (·.name)) ys := so
  have hyl : ys.length = S.wares.length := by rw [so.1.length_eq, Bs]
  have ndy : ys.reverse.Nodup := ((List.reverse_perm ys).trans so.1).nodup_iff.mpr L.nd
  have qp : q ≠ p := λz => by rw [z, A0] at hq; cases hq
  refine Bw (qk q _) (λj Z H' => ia v p S ys Pt H j Z H' /\ H' q = some (.lst (ys.map V.str))) ⟨⟨_, _, rfl, hp1, tb1, bt0⟩, hq1⟩ (λj Z H' _ h => h.2) (λj x Z H2 hj hx h => ?_) (λZ H2 h => ?_)
  ·obtain ⟨⟨o1, o2, rfl, hp2, tb2, bt2⟩, hq2⟩ := h
   rw [Zzz] at hj
   rw [<- List.map_reverse, Zzx] at hx
   cases en : ys.reverse[j]? with
   | none => rw [en] at hx; cases hx
   | some nm =>
   rw [en] at hx
   have hx : V.str nm = x := Zzn hx
   subst hx
   have hnm : nm ∈ S.wares.map (·.name) := so.1.mem_iff.mp (List.mem_reverse.mp (Zzw en))
   have rs2 := RD.ku (Dy tb bt2) _ _ (C3 S) rs
   walk_at "rd"
   refine ⟨v, S, nm, rfl, rs2, L.ok, hnm, λt wt hwt ewt rt => ?_⟩
   subst ewt
   obtain ⟨te, d1, d2, rfl, hte, _⟩ := Bg rt
   refine ⟨_, Ab (j := 1) hte rfl, .ref te, wt, rfl, rt, L.ok.wares wt hwt, λr H3 hr3 hr4 sm3 => ⟨r, rfl, _, hr4, ?_⟩⟩
   have hp3 := sm3 _ _ hp2
   have hpl := (L.ok.wares wt hwt).1
   have ap : ∀ pp ∈ wt.parts, pp.1 ∈ ys.reverse.take j := λpp hpp => Sd L.toLev so' hwt en hpp
   refine Et (Dl r _) (Aw (by rw [Zzz, Zzz]; exact hpl)) (λH' s' => s' _ _ hr4) ((wt.parts.map λpp => tm S pp.1).map V.int) (by rw [Zzz, Zzz, Zzz, Zzz]) (λi y H' hi hy s' N M hN => ?_) (λH4 s4 z hz => ?_)
   ·rw [Zzx, Zzx] at hy
    cases ep : wt.parts[i]? with
    | none => rw [ep] at hy; cases hy
    | some pp =>
    rw [ep] at hy
    have hy : V.str pp.1 = y := Zzn hy
    subst hy
    walk_at "rd"
    exact ⟨_, Dj (.inl (s' _ _ hp3)) (Jq (ap pp (Zzw ep))), hN _ _ s' (by rw [Zzx, Zzx, ep]; rfl)⟩
   ·have s5 := (sm3.trans s4).trans (A3 (o := .lst ((wt.parts.map λpp => tm S pp.1).map V.int)) hz)
    have hp5 := s5 _ _ hp2
    have hq5 := s5 _ _ hq2
    have tb5 := tb2.same s5
    refine ⟨z, rfl, _, A0, ?_⟩
    generalize upd H4 z (.lst ((wt.parts.map λpp => tm S pp.1).map V.int)) = H5 at s5 hp5 hq5 tb5
    refine ⟨_, rfl, _, .inr wt.name, rfl, hp5, ?_, ⟨_, _, rfl, ?_, ?_, λb o nb e => ?_⟩, by rw [A5 qp]; exact hq5⟩
    ·rw [Rf, Zym, Zvv]
     exact Zyp (m := 1000) (by omega) (by decide)
    ·rw [A0, <- Y9 L.toLev hwt, Vu (Cv ndy en), Zz8, en]
     exact congrArg (λz => some (HO.dK z)) (Ko λx _ => by split <;> rename_i e <;> first | rw [e] | rfl)
    ·rcases tb5 with e | ⟨c, e, e2⟩
     ·exact .inl (by rw [A5 (Zzf pPt)]; exact e)
     ·exact .inr ⟨c, by rw [A5 (Zzf pPt)]; exact e, by rw [A5 (λz => by rw [z, hp5] at e2; cases e2)]; exact e2⟩
    ·rw [A5 (A6 e hp)]
     exact s5 _ _ (bt2 _ _ nb e)
  ·obtain ⟨⟨o1, o2, rfl, hp2, tb2, bt2⟩, hq2⟩ := h
   rw [Zzz, <- Zvv, Zz4] at hp2
   walk_at "rd"
   exact k p ys.reverse H2 hp hp2 ((List.reverse_perm ys).trans so.1) tb2 bt2
def X0 (d : Int) (p : Wt) : Wt := (p.1, p.2.1 + d, p.2.2)
def mw (S : Sh) (d : Int) (H : Hp) (i : Nat) (acc : List V) (H' : Hp) : Prop := acc.length = i /\ RDs H' ((S.wants.take i).map λp => Fs (X0 d p)) acc /\ Same H H'
def sp_put_off : Sp := λvs H Q _ => ∃ (v : V) (S : Sh) (d : Int), vs = [v, .int d] /\ RD H S.d v /\ Tn S /\ Iu S /\ S.wants.length <= 1000 /\ ∀ x H', RD H' (Sh.d ⟨S.wares, S.wants.map (X0 d)⟩) x -> Same H H' -> Q x H'
theorem sc_put_off : Aj ["shop", "days", "later"] ["shop", "days"] (Ad Hk) := by walk_at "sc"
theorem Ub (F : Fun K "put_off" "put_off" Hk f fd) (T : Txt mg) (Zvl : Has P w K mg base "check_rings" 4 ["shop"] sp_check_rings) : Bh P w K mg base CX0 5 f fd ["shop", "days"] sp_put_off := by
 refine F.ok sc_put_off (λvs H Q E h => ?_) (λcdv A outer s H vs Q E hr h => ?_)
 ·obtain ⟨v, S, d, rfl, _⟩ := h
  rfl
 ·obtain ⟨v, S, d, rfl, rs, ok, no, hw, k⟩ := h
  have hu := B5 hr
  refine ⟨_, (A2 (Ba (Aa Zvl hr.z rfl (A4 (pv 0) A1)))
 (A2 (En (own := ["want"]) (cap := [1]) (i := 2) rfl (G0 rfl) (C9 (by decide)) sc_put_off.nd rfl rfl (Dg (A7 hu (pv 0) A8 (λ_ _ => rfl)))
 (λ_ _ _ _ _ _ => ⟨(Ac (i := 0) (of_decide_eq_true rfl) rfl (Zzq rfl) (.inr rfl)), De, (Aq (A4 (A7 hu (pv 0) (Ah rfl T.Zvc) (λ_ _ => rfl)) (A4 (Ar Bx (A7 hu (pv 0) (Ah rfl T.Zvd) (λ_ _ => rfl)) (pv 1)) (A4 (A7 hu (pv 0) (Ah rfl T.Zvg) (λ_ _ => rfl)) A1))))⟩))
 (A9 (Ak (Aq (A4 (A7 hu (pv 0) A8 (λ_ _ => rfl)) (A4 (Ck E7 rfl T.Zuf He (A4 (pv 2) A1)) A1))))))), ?_⟩
  refine gy (λZ' H' => ∃ (l : Addr) (acc : List V), Z' = [some v, some (.int d), some (.ref l)] /\ H' l = some (.lst acc) /\ RDs H' (S.wants.map λp => Fs (X0 d p)) acc /\ Same H H') ?_ (λKK hK => ?_)
  ·rintro Z' H1 ⟨l, acc, rfl, hl, racc, sm⟩
   obtain ⟨a, b, c, ws, us, rfl, ha, hb, hc, rws, rus⟩ := Cy rs
   walk_at "rd"
   refine ⟨_, Ab (j := 0) (sm _ _ ha) rfl, acc, .inl ⟨hl, λt ht => ?_⟩⟩
   have s1 := A3 (o := .tup acc) ht
   refine ⟨by show 2 <= sizeLine; decide, λr hr' => ?_⟩
   have s2 := s1.trans (A3 (o := .tup [.ref b, .ref t]) hr')
   refine k _ _ ?_ (sm.trans s2)
   unfold Sh.d
   refine RD.tup_mk A0 (RDs.cons (RD.tup_mk (s2 _ _ (sm _ _ hb)) (RDs.same (sm.trans s2) _ _ rws)) (RDs.one (RD.tup_mk (xs := acc) ?_ ?_)))
   ·rw [A5 (A6 A0 hr'), A0]
   ·rw [Zy1]
    exact RDs.same s2 _ _ racc
  ·walk_at "rd"
   refine ⟨v, S, rfl, rs, ok, no, λH1 sm => ?_⟩
   obtain ⟨a, b, c, ws, us, rfl, ha, hb, hc, rws, rus⟩ := Cy rs
   have hl := B2 rus
   refine ⟨_, Ab (j := 1) (sm _ _ ha) rfl, c, rfl, _, sm _ _ hc, ?_⟩
   refine Nf (Fj c _) (Aw (by rw [hl]; exact hw)) (mw S d H) ⟨rfl, RDs.nil, sm⟩ (λi acc H' _ h => h.2.2 _ _ hc) (λi acc H' h => Zws h.1) (λi x acc H' hi hx h => ?_) (λacc H' h p hp => ?_)
   ·obtain ⟨h1, h2, h3⟩ := h
    obtain ⟨y, hy, ry⟩ := Bc rus hx
    obtain ⟨e, rfl, he⟩ := Lj ry
    have he' := h3 _ _ he
    walk_at "rd"
    refine ⟨_, Ab (j := 0) he' rfl, _, Ab (j := 1) he' rfl, _, rfl, _, Ab (j := 2) he' rfl, by show 3 <= sizeLine; decide, λt ht => ?_⟩
    have s1 := A3 (o := .tup [.str y.1, .int (y.2.1 + d), .int y.2.2]) ht
    refine ⟨by simp [h1], ?_, h3.trans s1⟩
    rw [Zz8, hy, Zzm]
    refine RDs.app (RDs.same s1 _ _ h2) (RDs.one ?_)
    exact RD.tup_mk A0 (RDs.cons RD.str_mk (RDs.cons RD.int_mk (RDs.one RD.int_mk)))
   ·obtain ⟨h1, h2, h3⟩ := h
    rw [hl, Zz4] at h2
    exact hK _ _ ⟨p, acc, rfl, A0, RDs.same (A3 hp) _ _ h2, h3.trans (A3 hp)⟩
theorem T8 {row : List Int} {lag : Int} : ∀ {n : Nat}, (∀ e, e < n -> ¬ ((e : Int) < lag /\ 0 < row.getD e 0)) -> Cn row lag n = none
 | 0, _ => rfl
 | n + 1, h => by
  rw [Cn, T8 λe he => h e (by omega)]
  show (if (n : Int) < lag /\ 0 < row.getD n 0 then some n else none) = none
  rw [if_neg (h n (by omega))]
def noS (S : Sh) : Sh := ⟨S.wares, []⟩
def C5 (n : Int) (S : Sh) : Sh := ⟨S.wares, S.wants.map (X0 n)⟩
def Cz (S : Sh) : Prop := ∀ w ∈ S.wares, Cp (LR S w.name) w.lag = none
theorem Kj {S S' : Sh} (h : Lev S) (e : S'.wares = S.wares) : Lev S' := by
 obtain ⟨ws, us⟩ := S
 obtain ⟨ws', us'⟩ := S'
 obtain rfl : ws' = ws := e
 exact ⟨h.nd, h.own, h.low⟩
theorem fz {ns : List Int} {b : Int} (hb : 0 <= b) (h : ∀ x ∈ ns, x <= b) : E6 ns <= b := by
 have := Qr (b := b + 1) (by omega) λx hx => by have := h x hx; omega
 omega
theorem Tt {S : Sh} (hl : ∀ w ∈ S.wares, 0 <= w.lag) : ∀ k x, 0 <= tmF S k x
 | 0, x => Zz0 _
 | k + 1, x => by
  rw [tmF]
  split
  ·rename_i w hw
   have h1 := hl w (Ek hw).1
   have h2 := Lo (ns := w.parts.map λp => tmF S k p.1) (λy hy => by obtain ⟨p, _, rfl⟩ := Zzs.mp hy; exact Tt hl k p.1)
   omega
  ·exact Zz0 _
theorem Tu {S : Sh} (hl : ∀ w ∈ S.wares, 0 <= w.lag /\ w.lag <= 30) : ∀ (k : Nat) x, tmF S k x <= 30 * k
 | 0, x => by rw [tmF]; omega
 | k + 1, x => by
  rw [tmF]
  split
  ·rename_i w hw
   have h1 := hl w (Ek hw).1
   have h2 := fz (ns := w.parts.map λp => tmF S k p.1) (b := 30 * k) (by omega) (λy hy => by obtain ⟨p, _, rfl⟩ := Zzs.mp hy; exact Tu hl k p.1)
   omega
  ·omega
theorem bx {S : Sh} (L : Lev S) {t : Wr} (ht : t ∈ S.wares) {p : Str × Int} (hp : p ∈ t.parts) : t.lag + tm S p.1 <= tm S t.name := by
 rw [Y9 L ht]
 have := Qs (ns := t.parts.map λp => tm S p.1) (Zzs.mpr ⟨p, hp, rfl⟩)
 omega
theorem jo {S : Sh} (L : Lev S) (hl : ∀ w ∈ S.wares, 0 <= w.lag) {t : Wr} (ht : t ∈ S.wares) : t.lag <= tm S t.name := by
 rw [Y9 L ht]
 have := Lo (ns := t.parts.map λp => tm S p.1) (λy hy => by obtain ⟨p, _, rfl⟩ := Zzs.mp hy; exact Tt hl _ p.1)
 omega
theorem Jr (S : Sh) : daysN (noS S) = 1 := rfl
theorem Kn {xs : List Int} {d : Nat} (h : xs.length <= d) : xs.getD d 0 = 0 := by
 rw [Zzg, Zyv h]
 rfl
theorem Ls (row : List Int) (lag : Int) (d : Nat) : bAt row lag d = row.getD (d + lag.toNat) 0 := by
 unfold bAt
 split
 ·rfl
 ·rw [Kn (by omega)]
theorem So {S : Sh} {T : Int} {plan plan0 : Str -> List Int} {nm : Str} {d : Nat} (hd : ∀ u ∈ S.wants, (d : Int) < u.2.1 + T) (h : ∀ t ∈ S.wares, ∀ p ∈ t.parts, p.1 = nm -> bAt (plan t.name) t.lag d = bAt (plan0 t.name) t.lag d) : C8 (C5 T S) plan nm d = C8 (noS S) plan0 nm d := by
 unfold C8
 have e1 : Bu (wAt nm d) (C5 T S).wants = 0 := K4 λx hx => by
  obtain ⟨u, hu, rfl⟩ := Zzs.mp hx
  have := hd u hu
  unfold wAt X0
  rw [if_neg (λz => by have := z.2; simp only at this; omega)]
 have e2 : Bu (wAt nm d) (noS S).wants = 0 := rfl
 rw [e1, e2]
 congr 1
 refine G2 λt ht => ?_
 unfold pAt
 refine G2 λp hp => ?_
 by_cases e : p.1 = nm
 ·rw [if_pos e, if_pos e, h t ht p hp e]
 ·rw [if_neg e, if_neg e]
theorem Z1 {S : Sh} (L : Lev S) (E : Uy S) (hl : ∀ w ∈ S.wares, 0 <= w.lag) {T : Int} (hT : ∀ w ∈ S.wares, tm S w.name <= T) (hw0 : ∀ u ∈ S.wants, 0 <= u.2.1) (h1 : 1 <= daysN (C5 T S)) : ∀ n : Nat, ∀ w ∈ S.wares, lv S w.name <= n -> 0 < tm S w.name ->
  (LR (C5 T S) w.name).getD 0 0 = (LR (noS S) w.name).getD 0 0 /\ ∀ d : Nat, 0 < d -> (d : Int) < tm S w.name -> (LR (C5 T S) w.name).getD d 0 = 0 := by
 intro n
 induction n using Nat.strongRecOn with
 | _ n ih =>
 intro w hw hlv ht
 have L1 : Lev (C5 T S) := Kj L rfl
 have L0 : Lev (noS S) := Kj L rfl
 have hTw := hT w hw
 have user : ∀ t ∈ S.wares, ∀ p ∈ t.parts, p.1 = w.name -> ∀ d : Nat, (d : Int) < tm S w.name -> bAt (LR (C5 T S) t.name) t.lag d = if d + t.lag.toNat = 0 then (LR (noS S) t.name).getD 0 0 else 0 := λt htm p hp e d hd => by
  have q1 := Lp L htm hp
  have q2 := bx L htm hp
  rw [e] at q1 q2
  have q3 := Vm S t.name
  have q4 := hl t htm
  obtain ⟨a1, a2⟩ := ih (lv S t.name).toNat (by omega) t htm (by omega) (by omega)
  rw [Ls]
  by_cases z : d + t.lag.toNat = 0
  ·rw [if_pos z, z]; exact a1
  ·rw [if_neg z]; exact a2 _ (by omega) (by omega)
 have nd0 : C8 (C5 T S) (LR (C5 T S)) w.name 0 = C8 (noS S) (LR (noS S)) w.name 0 := So (λu hu => by have := hw0 u hu; omega) λt htm p hp e => by
  rw [user t htm p hp e 0 (by omega), Ls]
  by_cases z : 0 + t.lag.toNat = 0
  ·rw [if_pos z, z]
  ·rw [if_neg z, Kn (by rw [Kt L0 htm, Jr]; omega)]
 have ndd : ∀ d : Nat, 0 < d -> (d : Int) < tm S w.name -> C8 (C5 T S) (LR (C5 T S)) w.name d = 0 := λd d0 d1 => by
  rw [So (plan0 := λ_ => []) (λu hu => by have := hw0 u hu; omega) λt htm p hp e => by
   rw [user t htm p hp e d d1, if_neg (by omega), Ls]
   rfl]
  unfold C8
  rw [show Bu (wAt w.name d) (noS S).wants = 0 from rfl, K4 λt htm => ?_]
  ·rfl
  ·unfold pAt
   exact K4 λp hp => by
    rw [Ls]
    split
    ·exact Int.mul_zero _
    ·rfl
 have E1 := (E.wb w hw).1.1
 refine ⟨?_, λd d0 d1 => ?_⟩
 ·rw [To L1 (show w ∈ (C5 T S).wares from hw), To L0 (show w ∈ (noS S).wares from hw), Ki (by omega), Ki (by rw [Jr]; omega)]
  have x1 : (Au (daysN (C5 T S)) (Cb w)).getD 0 0 = Cb w 0 := Cc (by omega)
  have x0 : (Au (daysN (noS S)) (Cb w)).getD 0 0 = Cb w 0 := Cc (by rw [Jr]; omega)
  have y1 : (B4 (C5 T S) (LR (C5 T S)) w.name).getD 0 0 = C8 (C5 T S) (LR (C5 T S)) w.name 0 := Cc (by omega)
  have y0 : (B4 (noS S) (LR (noS S)) w.name).getD 0 0 = C8 (noS S) (LR (noS S)) w.name 0 := Cc (by rw [Jr]; omega)
  show Bl (-(-w.floor + ((Au (daysN (C5 T S)) (Cb w)).getD 0 0 - (B4 (C5 T S) (LR (C5 T S)) w.name).getD 0 0))) w.gives = Bl (-(-w.floor + ((Au (daysN (noS S)) (Cb w)).getD 0 0 - (B4 (noS S) (LR (noS S)) w.name).getD 0 0))) w.gives
  rw [x1, x0, y1, y0, nd0]
 ·by_cases hd : d < daysN (C5 T S)
  ·rw [To L1 (show w ∈ (C5 T S).wares from hw), Ki hd]
   obtain ⟨k, rfl⟩ : ∃ k, d = k + 1 := ⟨d - 1, by omega⟩
   have q1 := Tm (f := w.floor) (g := w.gives) (xs := Au (daysN (C5 T S)) (Cb w)) (ys := B4 (C5 T S) (LR (C5 T S)) w.name) (by omega) k
   have q2 := Tl E hw (k + 1)
   unfold Gn
   refine Kz (by omega) ?_
   have q3 : (Au (daysN (C5 T S)) (Cb w)).getD (k + 1) 0 = Cb w (k + 1) := Cc hd
   have q4 : (B4 (C5 T S) (LR (C5 T S)) w.name).getD (k + 1) 0 = 0 := by unfold B4; rw [Cc hd, ndd _ d0 d1]
   rw [q3, q4]
   omega
  ·exact Kn (by rw [Kt L1 (show w ∈ (C5 T S).wares from hw)]; omega)
theorem Sx {S : Sh} (L : Lev S) (E : Uy S) (hl : ∀ w ∈ S.wares, 0 <= w.lag) {T : Int} (hT : ∀ w ∈ S.wares, tm S w.name <= T) (hw0 : ∀ u ∈ S.wants, 0 <= u.2.1) (h1 : 1 <= daysN (C5 T S)) (h0 : Cz (noS S)) : Cz (C5 T S) := λw hw => by
 have hw : w ∈ S.wares := hw
 have ht := jo L hl hw
 have hlw := hl w hw
 refine (show Cn (LR (C5 T S) w.name) w.lag (LR (C5 T S) w.name).length = none from T8 λe he c => ?_)
 obtain ⟨a1, a2⟩ := Z1 L E hl hT hw0 h1 (lv S w.name).toNat w hw (by have := Vm S w.name; omega) (by omega)
 by_cases z : e = 0
 ·subst z
  rw [a1] at c
  have L0 : Lev (noS S) := Kj L rfl
  have q := Ha (show Cn (LR (noS S) w.name) w.lag (LR (noS S) w.name).length = none from h0 w hw) 0 (by rw [Kt L0 hw, Jr]; omega)
  exact q c
 ·rw [a2 e (by omega) (by omega)] at c
  omega
theorem Good.off {sz n : Int} {S : Sh} (g : Good sz S) (h : 0 <= n) : Good (sz + n) ⟨S.wares, S.wants.map (X0 n)⟩ := by
 refine ⟨g.ws, g.len, λw hw => ⟨(g.com w hw).1, λy hy => ?_⟩, ⟨by rw [Zzz]; exact g.wants.1, λu hu => ?_⟩⟩
 ·obtain ⟨⟨a, b⟩, c⟩ := (g.com w hw).2 y hy
  exact ⟨⟨a, by omega⟩, c⟩
 ·obtain ⟨y, hy, rfl⟩ := Zzs.mp hu
  obtain ⟨q0, ⟨q1, q2⟩, q3⟩ := g.wants.2 y hy
  exact ⟨q0, ⟨by show 0 <= y.2.1 + n; omega, by show y.2.1 + n < sz + n; omega⟩, q3⟩
theorem Good.none {sz : Int} {S : Sh} (g : Good sz S) : Good sz (noS S) := ⟨g.ws, g.len, g.com, ⟨Zz3 _, λu hu => by cases hu⟩⟩
def Iy (Pt : Addr) : Sp := λvs H Q _ => ∃ (v : V) (S : Sh) (sz : Int), vs = [v] /\ RD H S.d v /\ Good sz S /\ 0 < sz /\ sz <= 1000 /\ Tb H Pt /\ ∀ (b : Bool) H', (b = true ↔ Cz S) -> Tb H' Pt -> But Pt H H' -> Q (.bl b) H'
theorem Pz : Aj ["shop"] ["shop"] (Ad Fa) := by walk_at "sc"
theorem Qh (F : Fun K "lets_plan" "lets_plan" Fa f fd) (T : Txt mg) (Zv5 : Has P w K mg base "planned" 7 ["shop"] (Ig Pt)) : Bh P w K mg base CX0 8 f fd ["shop"] (Iy Pt) := by
 refine F.ok Pz (λvs H Q E h => ?_) (λcdv A outer s H vs Q E hr h => ?_)
 ·obtain ⟨v, S, sz, rfl, _⟩ := h
  rfl
 ·obtain ⟨v, S, sz, rfl, rs, g, z0, z1, tb, k⟩ := h
  have hu := B5 hr
  refine ⟨_, (A9 (Ak (Hm (Bq hu) (A7 hu (Aa Zv5 hr.z rfl (A4 (pv 0) A1)) A8 (λ_ _ => rfl)) Bo (Am _)))), ?_⟩
  walk_at "rd"
  refine ⟨v, S, sz, rfl, rs, g, z0, z1, tb, λt p ys i H1 ht hp tp sb ra hne tb1 bt1 hcase => ?_⟩
  have so := Cw sb
  rcases hcase with ⟨hi, h1⟩ | ⟨wr, d, hwr, hi, hed, h1⟩
  ·refine ⟨_, Ab (j := 0) h1 rfl, rfl, k _ H1 ⟨λ_ w hw => hne w hw ?_, λ_ => by decide⟩ tb1 bt1⟩
   rw [hi, Zz4]
   exact so.1.mem_iff.mpr (Zzs.mpr ⟨w, hw, rfl⟩)
  ·refine ⟨_, Ab (j := 0) h1 rfl, rfl, k _ H1 ⟨λz => absurd z (by decide), λz => by rw [z wr hwr] at hed; cases hed⟩ tb1 bt1⟩
def my (S : Sh) (n : Int) : Prop := 0 <= n /\ Cz (noS S) /\ Cz (C5 n S) /\ (n = 0 \/ ¬ Cz (C5 (n - 1) S)) /\ ∃ w ∈ S.wares, n <= tm S w.name
def V6 (Pt : Addr) : Sp := λvs H Q _ => ∃ (v : V) (S : Sh) (sz : Int), vs = [v] /\ RD H S.d v /\ Good sz S /\ 0 < sz /\ sz <= 401 /\ Tb H Pt /\ (∀ H', ¬ Cz (noS S) -> Tb H' Pt -> But Pt H H' -> Q .non H') /\ ∀ (n : Int) H', my S n -> Tb H' Pt -> But Pt H H' -> Q (.int n) H'
def jj (v : V) (S : Sh) (Pt : Addr) (M : Int) (H : Hp) (m : Nat) (Z : St) (H' : Hp) : Prop := ∃ (e l : Int) (o3 : Option V), m = (e - l).toNat /\ Z = [some v, some (.int e), some (.int l), o3] /\ 0 <= l /\ l <= e /\ e <= M /\ Cz (C5 e S) /\ (l = 0 \/ ¬ Cz (C5 (l - 1) S)) /\ Tb H' Pt /\ But Pt H H'
theorem sc_late : Aj ["shop", "enough", "least", "middle"] ["shop"] (Ad Q2) := by walk_at "sc"
theorem fj (F : Fun K "late" "late" Q2 f fd) (T : Txt mg) (Zur : Has P w K mg base "lets_plan" 8 ["shop"] (Iy Pt)) (Zu1 : Has P w K mg base "times" 7 ["shop"] (Rz Pt)) (Zv2 : Has P w K mg base "put_off" 5 ["shop", "days"] sp_put_off) : Bh P w K mg base CX0 9 f fd ["shop"] (V6 Pt) := by
 refine F.ok sc_late (λvs H Q E h => ?_) (λcdv A outer s H vs Q E hr h => ?_)
 ·obtain ⟨v, S, sz, rfl, _⟩ := h
  rfl
 ·obtain ⟨v, S, sz, rfl, rs, g, z0, z1, tb, k1, k2⟩ := h
  have hu := B5 hr
  refine ⟨_, (A2 (Bd (Q6 (Q5 (Aa Zur hr.z rfl (A4 (Aq (A4 (A7 hu (pv 0) A8 (λ_ _ => rfl)) (A4 (Aq A1) A1))) A1)))) (A9 (Ak Fn)) Ao)
 (A2 (Ae (i := 1) sc_late.nd rfl (Zzq rfl) (U4 rfl rfl T.Zu3 (Aa Zu1 hr.z rfl (A4 (pv 0) A1))))
 (A2 (Ae (i := 2) sc_late.nd rfl (Zzq rfl) A8)
 (A2 (Ma PassesOwn.never (Al (Mi hu) (pv 2) (pv 1) (Am _)) (A2 (Ae (i := 3) sc_late.nd rfl (Zzq rfl) (Ar Fx (Ar Bx (pv 2) (pv 1)) A8))
 (A9 (Bd (Q5 (Aa Zur hr.z rfl (A4 (Aa Zv2 hr.z rfl (A4 (pv 0) (A4 (pv 3) A1))) A1))) (A9 (Ae (i := 1) sc_late.nd rfl (Zzq rfl) (pv 3))) (A9 (Ae (i := 2) sc_late.nd rfl (Zzq rfl) (Ar Bx (pv 3) A8)))))))
 (A9 (Ak (pv 1))))))), ?_⟩
  walk_at "rd"
  obtain ⟨sa, sb, sc, ws, us, ev, ha, hb, hc, rws, rus⟩ := Cy rs
  have L := Fy g
  have E := Lq g
  have hl : ∀ w ∈ S.wares, 0 <= w.lag /\ w.lag <= 30 := λw hw => (g.ws.wb w hw).lag
  have hfew := g.len
  refine ⟨_, by rw [ev]; exact Ab (j := 0) ha rfl, by decide, λp hp => ⟨by decide, λq hq => ?_⟩⟩
  have u1 := A3 (o := .tup []) hp
  have u2 := A3 (o := .tup [.ref sb, .ref p]) hq
  have s2 := u1.trans u2
  have rs0 : RD (upd (upd H p (.tup [])) q (.tup [.ref sb, .ref p])) (noS S).d (.ref q) := by
   unfold noS Sh.d
   exact RD.tup_mk A0 (RDs.cons (RD.tup_mk (s2 _ _ hb) (RDs.same s2 _ _ rws)) (RDs.one (RD.tup_mk (xs := []) (u2 _ _ A0) RDs.nil)))
  generalize upd (upd H p (.tup [])) q (.tup [.ref sb, .ref p]) = H2 at s2 rs0
  refine ⟨.ref q, noS S, sz, rfl, rs0, g.none, z0, by omega, tb.same s2, λb H3 hb3 tb3 bt3 => ⟨b, rfl, ?_⟩⟩
  have bt03 : But Pt H H3 := (Bb s2).trans bt3
  have rs3 := RD.ku (Dy tb bt03) _ _ (C3 S) rs
  refine Cr (λc => ?_) (λc => ?_)
  ·exact k1 H3 (λz => by rw [hb3.mpr z] at c; cases c) tb3 bt03
  have h0 : Cz (noS S) := hb3.mp (by cases b with | true => rfl | false => exact absurd rfl c)
  refine ⟨v, S, rfl, rs3, L, tb3, λp4 ys H4 hp4 hd4 pm tb4 bt4 => ⟨p4, rfl, _, hd4, ys.map (tm S), ?_, ?_, ?_⟩⟩
  ·unfold fnD
   rw [Zy1, Zy1]
   rfl
  ·intro z
   have := congrArg Zxz z
   rw [Zzz, pm.length_eq, Bs, Zxf] at this
   omega
  have bt04 := bt03.trans bt4
  have hne : ys.map (tm S) ≠ [] := λz => by
   have := congrArg Zxz z
   rw [Zzz, pm.length_eq, Bs, Zxf] at this
   omega
  have mge : ∀ w ∈ S.wares, tm S w.name <= O0 (ys.map (tm S)) := λw hw => Vl (Zzs.mpr ⟨w.name, pm.mem_iff.mpr (Zzs.mpr ⟨w, hw, rfl⟩), rfl⟩)
  obtain ⟨nm, hnm, enm⟩ := Zzs.mp (Jj hne)
  obtain ⟨wm, hwm, rfl⟩ := Zzs.mp (pm.mem_iff.mp hnm)
  have m360 : tm S wm.name <= 360 := by
   have := Tu hl S.wares.length wm.name
   unfold tm
   omega
  have m0 : 0 <= tm S wm.name := Tt (λw hw => (hl w hw).1) _ _
  rw [<- enm] at mge ⊢
  have go : ∀ {n : Int}, 0 <= n -> n <= 360 -> Good (sz + n) (C5 n S) := λh _ => g.off h
  have hw0 : ∀ u ∈ S.wants, 0 <= u.2.1 := λu hu => (g.wants.2 u hu).2.1.1
  have he : Cz (C5 (tm S wm.name) S) := Sx L.toLev E (λw hw => (hl w hw).1) mge hw0 ((go m0 m360).days (by omega) (by omega)).1 h0
  have hM : ∃ w ∈ S.wares, tm S wm.name <= tm S w.name := ⟨wm, hwm, Zz0 _⟩
  obtain ⟨M, eM0⟩ : ∃ M, M = tm S wm.name := ⟨_, rfl⟩
  rw [<- eM0] at mge m360 m0 he hM ⊢
  refine ⟨jj v S Pt M H, ⟨_, M, 0, none, rfl, rfl, Zz0 _, m0, Zz0 _, he, .inl rfl, tb4, bt04⟩, λm Z H5 hW => ?_⟩
  obtain ⟨e, l, o3, rfl, rfl, l0, le, eM, pe, pl, tb5, bt5⟩ := hW
  have rs5 := RD.ku (Dy tb bt5) _ _ (C3 S) rs
  walk_at "rd"
  refine Cr (λc => ?_) (λc => ?_)
  ·have c := of_decide_eq_true c
   refine ⟨λZ' H' => ∃ m', m' < (e - l).toNat /\ jj v S Pt M H m' Z' H', λZ' H' z => z, ?_⟩
   refine ⟨by decide, by decide +kernel, v, S, (l + e) / 2, rfl, rs5, g.ok, g.no, by have := g.wants.1; omega, λx H6 rx s6 => ?_⟩
   have d0 : l <= (l + e) / 2 := by omega
   have d1 : (l + e) / 2 < e := by omega
   generalize (l + e) / 2 = mid at rx d0 d1
   refine ⟨x, C5 mid S, sz + mid, rfl, rx, go (by omega) (by omega), by omega, by omega, tb5.same s6, λb7 H7 hb7 tb7 bt7 => ⟨b7, rfl, ?_⟩⟩
   have bt07 := bt5.trans ((Bb s6).trans bt7)
   refine Cr (λc7 => ?_) (λc7 => ?_)
   ·exact ⟨(mid - l).toNat, by omega, mid, l, _, rfl, rfl, l0, d0, by omega, hb7.mp c7, pl, tb7, bt07⟩
   ·refine ⟨(e - (mid + 1)).toNat, by omega, e, mid + 1, _, rfl, rfl, by omega, by omega, eM, pe, .inr (λz => ?_), tb7, bt07⟩
    rw [show mid + 1 - 1 = mid by omega] at z
    exact c7 (hb7.mpr z)
  ·have c : ¬ l < e := λz => c (decide_eq_true z)
   obtain rfl : l = e := by omega
   obtain ⟨w, hw, hwM⟩ := hM
   exact k2 l H5 ⟨l0, h0, pe, pl, w, hw, by omega⟩ tb5 bt5
end
set_option maxHeartbeats 4000000
section
variable {P : Program} {w : World} {K : Zzv} {mg : Str -> Option Value} {base : Heap} {f : Addr} {fd : FuncData} {Pt : Addr}
def sp_law_amount : Sp := λvs H Q _ => ∃ st, vs = [.ref st] /\ StOk H st /\ ∀ n H', 0 <= n -> n < 10 ^ 41 -> StOk H' st -> But st H H' -> Q (.int n) H'
theorem sc_law_amount : Aj ["_law_state", "_law_number"] ["_law_state"] (Ad Ef) := by walk_at "sc"
theorem Nx (F : Fun K "_law_amount" "_law_amount" Ef f fd) (T : Txt mg) (Zvn : Has P w K mg base "_law_next" 1 ["_law_state", "_law_many"] sp_law_next) : Bh P w K mg base CX0 2 f fd ["_law_state"] sp_law_amount := by
 refine F.ok sc_law_amount (λvs H Q E h => ?_) (λcdv A outer s H vs Q E hr h => ?_)
 ·obtain ⟨st, rfl, _⟩ := h
  rfl
 ·obtain ⟨st, rfl, hs, k⟩ := h
  have hu := B5 hr
  refine ⟨_, (A2 (Ae (i := 1) sc_law_amount.nd rfl (Zzq rfl) (Aa Zvn hr.z rfl (A4 (pv 0) (A4 A8 A1))))
 (A2 (Bd (Al (Bq hu) (Aa Zvn hr.z rfl (A4 (pv 0) (A4 A8 A1))) A8 (Am _)) (A9 (Ak (Ar Bx (Ar U7 (pv 1) (Ar Qb A8 A8)) (Aa Zvn hr.z rfl (A4 (pv 0) (A4 A8 A1)))))) Ao)
 (A9 (Ak (pv 1))))), ?_⟩
  walk_at "rd"
  refine ⟨st, 10, rfl, hs, by decide, by decide +kernel, λd H1 d0 d1 s1 b1 => ?_⟩
  walk_at "rd"
  refine ⟨st, 8, rfl, s1, by decide, by decide +kernel, λe H2 e0 e1 s2 b2 => ?_⟩
  walk_at "rd"
  have b02 := b1.trans b2
  refine ⟨rfl, Cr (λ_ => ?_) (λ_ => k d H2 d0 (Int.lt_trans d1 (by decide +kernel)) s2 b02)⟩
  refine ⟨⟨by decide, by decide, by decide⟩, .inl ⟨by omega, by omega⟩, ?_⟩
  refine ⟨st, 10, rfl, s2, by decide, by decide +kernel, λx H3 x0 x1 s3 b3 => ⟨x, rfl, ?_⟩⟩
  have q : (0 : Int) <= d * 10 ^ Int.toNat 40 + x /\ d * 10 ^ Int.toNat 40 + x < 10 ^ 41 := by
   have : (10 : Int) ^ Int.toNat 40 = 10000000000000000000000000000000000000000 := by decide +kernel
   rw [this]
   omega
  exact k _ H3 q.1 q.2 s3 (b02.trans b3)
def qb (x : Str) : Prop := ∀ c ∈ x.cps.toList, c ∈ letters
theorem lt26 {d : Int} (h0 : 0 <= d) (h1 : d < 26) : ∃ c, ("abcdefghijklmnopqrstuvwxyz" : Str).cps.toList[d.toNat]? = some c /\ c ∈ letters := by
 have hl : ("abcdefghijklmnopqrstuvwxyz" : Str).cps.toList.length = 26 := by decide +kernel
 have h : d.toNat < ("abcdefghijklmnopqrstuvwxyz" : Str).cps.toList.length := by rw [hl]; omega
 exact ⟨_, Zzr h, Zw3 h⟩
def lastC : List Nat := ("bcdfghjklmnp" : Str).cps.toList
theorem Zj : ∀ k : Nat, k < 12 -> ∃ c, lastC[k]? = some c /\ c ∈ letters := by decide +kernel
theorem Zi : lastC.Nodup := by decide +kernel
def Qq (i : Nat) (x : Str) : Prop := (qb x /\ x.length <= 100) /\ x.cps.toList.getLast? = lastC[i]?
theorem Sr {xs : List Str} (hl : xs.length <= 12) (h : ∀ (i : Nat) (x : Str), xs[i]? = some x -> Qq i x) : xs.Nodup := by
 refine Zxu.mpr λi j hi hj hij e => ?_
 have h1 := (h i _ (Zzr hi)).2
 have h2 := (h j _ (Zzr hj)).2
 rw [e, h2] at h1
 have l12 : lastC.length = 12 := by decide +kernel
 have e1 := Zzr (l := lastC) (i := i) (by omega)
 have e2 := Zzr (l := lastC) (i := j) (by omega)
 rw [e1, e2] at h1
 have := Zxu.mp Zi i j (by omega) (by omega) hij
 exact this (Zzn h1).symm
def sp_law_names : Sp := λvs H Q _ => ∃ st m, vs = [.ref st, .int m] /\ StOk H st /\ 0 <= m /\ m <= 12 /\
 ∀ (a : Addr) (xs : List Str) (H' : Hp), xs.length = m.toNat -> (∀ (i : Nat) (x : Str), xs[i]? = some x -> Qq i x) -> H' a = some (.lst (xs.map V.str)) -> H a = none -> StOk H' st -> But st H H' -> Q (.ref a) H'
def rn (st : Addr) (H : Hp) (i : Nat) (acc : List V) (H' : Hp) : Prop := ∃ xs : List Str, acc = xs.map V.str /\ xs.length = i /\ (∀ (j : Nat) (x : Str), xs[j]? = some x -> Qq j x) /\ StOk H' st /\ But st H H'
theorem sc_law_names : Aj ["_law_state", "_law_many", "_law_letters"] ["_law_state", "_law_many"] (Ad Fc) := by walk_at "sc"
theorem Qj (F : Fun K "_law_names" "_law_names" Fc f fd) (T : Txt mg) (Zvn : Has P w K mg base "_law_next" 1 ["_law_state", "_law_many"] sp_law_next) : Bh P w K mg base CX0 2 f fd ["_law_state", "_law_many"] sp_law_names := by
 refine F.ok sc_law_names (λvs H Q E h => ?_) (λcdv A outer s H vs Q E hr h => ?_)
 ·obtain ⟨st, m, rfl, _⟩ := h
  rfl
 ·obtain ⟨st, m, rfl, hs, m0, m1, k⟩ := h
  have hu := B5 hr
  refine ⟨_, (A2 (Ae (i := 2) sc_law_names.nd rfl (Or.inr rfl) Bo)
 (A9 (Ak (Ff (own := ["_law_k"]) (cap := [2, 0]) rfl (G0 rfl) (C9 (by decide)) (Cs rfl T.Zv3 (A4 (pv 1) A1))
 (λ_ _ _ _ _ _ => ⟨(Ac (i := 0) (of_decide_eq_true rfl) rfl (Zzq rfl) (.inr rfl)), De, (Ar U9 (Ar fc (A7 hu (pv 1) (Aa Zvn hr.z rfl (A4 (pv 2) (A4 A8 A1))) (λ_ _ => rfl)) (Aa Zvn hr.z rfl (A4 (pv 2) (A4 A8 A1)))) (A7 hu Bo (pv 0) (λ_ _ => rfl)))⟩))))), ?_⟩
  walk_at "rd"
  refine ⟨by omega, by omega, ?_⟩
  refine Nf (L5 0 _) (Aw (by omega)) (rn st H) ⟨[], rfl, rfl, (λj x e => by simp at e), hs, But.refl _ _⟩ (λ_ _ _ _ _ => trivial) (λj acc H' h => by obtain ⟨xs, rfl, e, _⟩ := h; rw [Zzz]; exact Zws e) (λj y acc H1 hj hy h => ?_) (λacc H1 h p hp => ?_)
  ·obtain ⟨xs, rfl, hl, hn, s1, b1⟩ := h
   subst hy
   walk_at "rd"
   refine ⟨st, 26, rfl, s1, by decide, by decide +kernel, λd H2 d0 d1 s2 b2 => ?_⟩
   obtain ⟨cc, ec, hcc⟩ := lt26 d0 d1
   refine ⟨_, Zp (by decide +kernel) d0 ec, st, 8, rfl, s2, by decide, by decide +kernel, λe H3 e0 e1 s3 b3 => ?_⟩
   refine ⟨⟨#[cc]⟩, rfl, e, rfl, by show 1 <= 1000; decide, e0, by omega, λz hz hzc => ?_⟩
   have hz : z.length <= 1 * e.toNat + 1 := hz
   obtain ⟨lc, el, hlc⟩ := Zj j (by omega)
   have ij : (0 + (j : Int)).toNat = j := by omega
   refine ⟨_, Zp (by decide +kernel) (by omega) (by rw [ij]; exact el), _, rfl, Zyx (m := 1000) (by show z.length + 1 <= 1000; omega) (Aw (Zzt _)), xs ++ [z ++ ⟨#[lc]⟩], by rw [Zzm]; rfl, by rw [Zze, Zyt, hl], λq y hq => ?_, s3, (b1.trans b2).trans b3⟩
   by_cases hqj : q < xs.length
   ·rw [Zy6 hqj] at hq
    exact hn q y hq
   ·rw [Zyk (by omega)] at hq
    have hq0 : q - xs.length = 0 := by
     cases e : q - xs.length with
     | zero => rfl
     | succ n => rw [e] at hq; simp at hq
    rw [hq0] at hq
    have hq : z ++ ⟨#[lc]⟩ = y := by simpa using hq
    have hqe : q = j := by omega
    subst hq hqe
    have ecp : (z ++ (⟨#[lc]⟩ : Str)).cps.toList = z.cps.toList ++ [lc] := by
     show (z.cps ++ #[lc]).toList = _
     simp
    refine ⟨⟨λc hc => ?_, ?_⟩, ?_⟩
    ·rw [ecp] at hc
     rcases Zzc.mp hc with y | y
     ·have := hzc c y
      have : c ∈ [cc] := this
      rw [Zzu.mp this]
      exact hcc
     ·rw [Zzu.mp y]
      exact hlc
    ·have : (z ++ (⟨#[lc]⟩ : Str)).length = z.length + 1 := by show (z.cps ++ #[lc]).size = z.cps.size + 1; simp
     omega
    ·rw [ecp, List.getLast?_append, el]
     rfl
  ·obtain ⟨xs, rfl, hl, hn, s1, b1⟩ := h
   have pst : p ≠ st := Zzf (s1.ne hp)
   exact k p xs _ hl hn A0 (b1.none pst hp) (s1.upd (s1.ne hp)) (b1.new hp)
end
set_option maxHeartbeats 4000000
section
variable {P : Program} {w : World} {K : Zzv} {mg : Str -> Option Value} {base : Heap} {f : Addr} {fd : FuncData} {Pt : Addr}
structure ie (xs : List Str) (ps : List (Str × Int)) : Prop where
 sub : ∀ p ∈ ps, p.1 ∈ xs /\ 1 <= p.2 /\ p.2 <= 4
 nd : (ps.map (·.1)).Nodup
theorem M7 {H : Hp} : ∀ {ds : List PyData} {xs : List V} (n : Nat), RDs H ds xs -> RDs H (ds.take n) (xs.take n)
 | _, _, 0, _ => by rw [Zxk, Zxk]; exact RDs.nil
 | [], xs, n + 1, h => by rw [RDs.nil_of h]; exact RDs.nil
 | d :: ds, xs, n + 1, h => by
  obtain ⟨x, r, rfl, h1, h2⟩ := RDs.cons_of h
  rw [List.take_succ_cons, List.take_succ_cons]
  exact RDs.cons h1 (M7 n h2)
theorem Va {H : Hp} : ∀ {ds : List PyData} {xs : List V}, RDs H ds xs -> RDs H ds.reverse xs.reverse
 | [], xs, h => by rw [RDs.nil_of h]; exact RDs.nil
 | d :: ds, xs, h => by
  obtain ⟨x, r, rfl, h1, h2⟩ := RDs.cons_of h
  rw [Zwa, Zwa]
  exact RDs.app (Va h2) (RDs.one h1)
def sp_law_parts : Sp := λvs H Q _ => ∃ (st l : Addr) (xs : List Str), vs = [.ref st, .ref l] /\ StOk H st /\ H l = some (.lst (xs.map V.str)) /\ l ≠ st /\ xs.length <= 12 /\ xs.Nodup /\ ∀ v (ps : List (Str × Int)) H', RD H' (.tuple (ps.map Fg)) v -> ps.length <= 6 -> ie xs ps -> StOk H' st -> But st H H' -> Q v H'
def bh (st l q : Addr) (xs : List Str) (H : Hp) (i : Nat) (Z : St) (H' : Hp) : Prop := ∃ (ps : List (Str × Int)) (vs : List V) (o : Option V), Z = [some (.ref st), some (.ref l), some (.ref q), o] /\ H' q = some (.lst vs) /\ RDs H' (ps.map Fg) vs /\ (ps.map (·.1)).Sublist (xs.take i) /\ (∀ p ∈ ps, 1 <= p.2 /\ p.2 <= 4) /\ H' l = some (.lst (xs.map V.str)) /\ StOk H' st /\ But st H H'
theorem sc_law_parts : Aj ["_law_state", "_law_names_here", "_law_parts_here", "_law_name"] ["_law_state", "_law_names_here"] (Ad Fb) := by walk_at "sc"
theorem Qi (F : Fun K "_law_parts" "_law_parts" Fb f fd) (T : Txt mg) (Zvn : Has P w K mg base "_law_next" 1 ["_law_state", "_law_many"] sp_law_next) : Bh P w K mg base CX0 2 f fd ["_law_state", "_law_names_here"] sp_law_parts := by
 refine F.ok sc_law_parts (λvs H Q E h => ?_) (λcdv A outer s H vs Q E hr h => ?_)
 ·obtain ⟨st, l, xs, rfl, _⟩ := h
  rfl
 ·obtain ⟨st, l, xs, rfl, hs, hl, lst', hx, nd, k⟩ := h
  have hu := B5 hr
  refine ⟨_, (A2 (Ae (i := 2) sc_law_parts.nd rfl (Zzq rfl) (Bp A1))
 (A2 (Az PassesOwn.never rfl (Cl (pv 1)) (Ac (i := 3) sc_law_parts.nd rfl (Zzq rfl))
 (A9 (Bd (Al (Bq hu) (Aa Zvn hr.z rfl (A4 (pv 0) (A4 A8 A1))) A8 (Am _)) (A9 (Ba (E5 Zz6 Zz2 Zz1 Bj (pv 2) (A4 (Aq (A4 (pv 3) (A4 (Ar Bx A8 (Aa Zvn hr.z rfl (A4 (pv 0) (A4 A8 A1)))) A1))) A1)))) Ao)))
 (A2 (Bd (Al (Bq hu) (Aa Zvn hr.z rfl (A4 (pv 0) (A4 A8 A1))) A8 (Am _)) (A9 (Ba (Yx Zz6 PySem.F.slot_list_reverse PySem.F.type_list_reverse Ug (pv 2)))) Ao)
 (A9 (Ak (Ck E7 rfl T.Zuf He (A4 (Fw J0 (pv 2) Jd (Gb A8)) A1))))))), ?_⟩
  walk_at "rd"
  refine ⟨by decide, λq hq => ⟨_, by rw [A5 (A6 hl hq)]; exact hl, ?_⟩⟩
  have qst : q ≠ st := Zzf (hs.ne hq)
  have lq : l ≠ q := A6 hl hq
  refine Bw (Dl l _) (bh st l q xs H) ⟨[], [], _, rfl, A0, RDs.nil, List.nil_sublist _, (λp hp => nomatch hp), by rw [A5 lq]; exact hl, hs.upd (Zzf qst), Ju hq⟩ (λi Z H' _ h => by obtain ⟨_, _, _, _, _, _, _, _, h, _⟩ := h; exact h) (λi x Z H1 hi hx h => ?_) (λZ H1 h => ?_)
  ·obtain ⟨ps, vs, o, rfl, hq1, r1, sb, am, hl1, s1, b1⟩ := h
   rw [Zzz] at hi
   rw [Zzx] at hx
   cases en : xs[i]? with
   | none => rw [en] at hx; cases hx
   | some nm =>
   rw [en] at hx
   have hx : V.str nm = x := Zzn hx
   subst hx
   have et : xs.take (i + 1) = xs.take i ++ [nm] := by rw [Zz8, en]; rfl
   have no : ∀ {H2 : Hp}, StOk H2 st -> But st H1 H2 -> bh st l q xs H (i + 1) [some (.ref st), some (.ref l), some (.ref q), some (.str nm)] H2 := λ{H2} s2 b2 => ⟨ps, vs, _, rfl, b2 _ _ qst hq1, RDs.ku (Cq b2 s1) _ _ (Bf Fg Jh _) r1, by rw [et]; exact sb.trans (List.sublist_append_left _ _), am, b2 _ _ lst' hl1, s2, b1.trans b2⟩
   walk_at "rd"
   refine ⟨st, 2, rfl, s1, by decide, by decide +kernel, λd H2 d0 d1 s2 b2 => ?_⟩
   walk_at "rd"
   refine ⟨rfl, Cr (λ_ => ?_) (λ_ => no s2 b2)⟩
   have hq2 := b2 _ _ qst hq1
   refine ⟨Dn hq2, st, 4, rfl, s2, by decide, by decide +kernel, λe H3 e0 e1 s3 b3 => ⟨e, rfl, by decide, λt ht => ?_⟩⟩
   have b23 := b2.trans b3
   have hq3 := b23 _ _ qst hq1
   have hlv := B2 r1
   have hlp := sb.length_le
   rw [Zzz, Zym] at hlp
   have u := A3 (o := .tup [V.str nm, V.int (1 + e)]) ht
   have hq4 := u _ _ hq3
   refine ⟨vs, hq4, Zzb (show vs.length < 1000 by omega) (Aw (Zzt _)), ps ++ [(nm, 1 + e)], _, _, rfl, A0, ?_, ?_, λp hp => ?_, ?_, (s3.same u).upd (Zzf qst), ?_⟩
   ·have kk := ((Cq b23 s1).trans u.ku).trans (Ep (ys := vs ++ [V.ref t]) hq4)
    rw [Zzm]
    refine RDs.app (RDs.ku kk _ _ (Bf Fg Jh _) r1) (RDs.one (RD.tup_mk (xs := [V.str nm, V.int (1 + e)]) ?_ (RDs.cons RD.str_mk (RDs.one RD.int_mk))))
    rw [A5 (Zzf (A6 hq3 ht)), A0]
   ·rw [Zzm, et]
    exact sb.append (List.Sublist.refl _)
   ·rcases Zzc.mp hp with z | z
    ·exact am p z
    ·rw [Zzu.mp z]
     exact ⟨show 1 <= 1 + e by omega, show 1 + e <= 4 by omega⟩
   ·rw [A5 lq]
    exact u _ _ (b23 _ _ lst' hl1)
   ·exact ((b1.trans b23).trans (Bb u)).upd hq
  ·obtain ⟨ps, vs, o, rfl, hq1, r1, sb, am, hl1, s1, b1⟩ := h
   rw [Zzz, Zz4] at sb
   have fin : ∀ (ps2 : List (Str × Int)) (vs2 : List V) (H2 : Hp), H2 q = some (.lst vs2) -> RDs H2 (ps2.map Fg) vs2 -> ie xs ps2 -> StOk H2 st -> But st H H2 -> ∀ p, H2 p = none -> ∀ t, upd H2 p (.lst (Hv vs2 none (some 6))) t = none -> Q (.ref t) (upd (upd H2 p (.lst (Hv vs2 none (some 6)))) t (.tup (Hv vs2 none (some 6)))) := λps2 vs2 H2 hq2 r2 po s2 b2 p hp t ht => by
    have e6 : Hv vs2 none (some 6) = vs2.take 6 := by rw [Vw (by decide)]; rfl
    rw [e6] at ht ⊢
    have u := (A3 (o := .lst (vs2.take 6)) hp).trans (A3 (o := .tup (vs2.take 6)) ht)
    refine k (.ref t) (ps2.take 6) _ (RD.tup_mk A0 (by rw [Zw4]; exact M7 6 (RDs.same u _ _ r2))) (by rw [Zym]; omega) ⟨λp hp => po.sub p (List.mem_of_mem_take hp), by rw [Zw4]; exact (List.take_sublist _ _).nodup po.nd⟩ (s2.same u) (b2.trans (Bb u))
   have po : ie xs ps := ⟨λp hp => ⟨sb.subset (Zzs.mpr ⟨p, hp, rfl⟩), am p hp⟩, sb.nodup nd⟩
   have po2 : ie xs ps.reverse := ⟨λp hp => po.sub p (List.mem_reverse.mp hp), by rw [List.map_reverse]; exact (List.reverse_perm _).nodup_iff.mpr po.nd⟩
   walk_at "rd"
   refine ⟨st, 2, rfl, s1, by decide, by decide +kernel, λd H2 d0 d1 s2 b2 => ?_⟩
   walk_at "rd"
   have hq2 := b2 _ _ qst hq1
   have r2 := RDs.ku (Cq b2 s1) _ _ (Bf Fg Jh _) r1
   have b02 := b1.trans b2
   refine ⟨rfl, Cr (λ_ => ?_) (λ_ => ?_)⟩
   ·have kk : KeepU H2 (upd H2 q (.lst vs.reverse)) := Ep hq2
    refine ⟨Dn hq2, vs, hq2, _, A0, λp hp => ⟨_, .inl ⟨A0, λt ht => ?_⟩⟩⟩
    exact fin ps.reverse vs.reverse _ A0 (by rw [List.map_reverse]; exact Va (RDs.ku kk _ _ (Bf Fg Jh _) r2)) po2 (s2.upd (Zzf qst)) (b02.upd hq) p hp t ht
   ·exact ⟨vs, hq2, λp hp => ⟨_, .inl ⟨A0, λt ht => fin ps vs H2 hq2 r2 po s2 b02 p hp t ht⟩⟩⟩
end
set_option maxHeartbeats 4000000
section
variable {P : Program} {w : World} {K : Zzv} {mg : Str -> Option Value} {base : Heap} {f : Addr} {fd : FuncData} {Pt : Addr}
def bp (xs : List Str) (j : Nat) (w : Wr) : Prop := xs[j]? = some w.name /\ WB w /\ (∀ p ∈ w.parts, p.1 ∈ xs.drop (j + 1)) /\ jl 9 w.coming
theorem Z7 {x : Str} (h : qb x) : PyData.strOk x = true := by
 unfold PyData.strOk
 rw [<- Array.all_toList, Zwz]
 intro c hc
 have h4 : ∀ c ∈ letters, c < 0x110000 := by decide +kernel
 exact decide_eq_true (h4 c (h c hc))
theorem m4 {xs : List Str} {ws ws' : List Wr} {us : List Wt} (hx : ∀ (i : Nat) (x : Str), xs[i]? = some x -> Qq i x) (hl : 1 <= xs.length /\ xs.length <= 12) (hw : ws.length = xs.length) (hk : ∀ j w, ws[j]? = some w -> bp xs j w) (hp : ws'.Perm ws) (hu : W1 9 xs us) : Good 9 ⟨ws', us⟩ := by
 have nd := Sr hl.2 hx
 have en : ws.map (·.name) = xs := by
  apply Zxb
  intro i
  rw [Zzx]
  by_cases hi : i < ws.length
  ·rw [Zzr hi]
   exact (hk i _ (Zzr hi)).1.symm
  ·rw [Zyv (by omega), Zyv (by omega)]
   rfl
 have hat : ∀ w ∈ ws', ∃ j, j < xs.length /\ bp xs j w := λw hm => by
  obtain ⟨j, hj⟩ := Zxt.mp (hp.mem_iff.mp hm)
  have := (Zzh.mp hj).1
  exact ⟨j, by omega, hk j w hj⟩
 have pn : (ws'.map (·.name)).Perm xs := by rw [<- en]; exact hp.map _
 have hlen : ws'.length = xs.length := by rw [hp.length_eq, hw]
 have own : ∀ w ∈ ws', ∀ p ∈ w.parts, ∃ i j, i < j /\ xs[i]? = some w.name /\ xs[j]? = some p.1 := λw hm p hpm => by
  obtain ⟨j, hj, k1, k2, k3, _⟩ := hat w hm
  obtain ⟨i, hi⟩ := Zxt.mp (k3 p hpm)
  rw [List.getElem?_drop] at hi
  exact ⟨j, j + 1 + i, by omega, k1, hi⟩
 refine ⟨⟨pn.nodup_iff.mpr nd, λw hm => ?_, λw hm => ?_, λw hm p hpm => ?_, λx => xs.length - 1 - xs.idxOf x, λw hm => ?_, λw hm p hpm => ?_⟩, by show 1 <= ws'.length /\ ws'.length <= 12; omega, λw hm => ?_, hu.1, λu hum => ?_⟩
 ·obtain ⟨j, _, k⟩ := hat w hm; exact k.2.1
 ·obtain ⟨j, _, k⟩ := hat w hm; exact Z7 (hx j _ k.1).1.1
 ·obtain ⟨i, j, _, _, h3⟩ := own w hm p hpm
  exact pn.mem_iff.mpr (Zzw h3)
 ·show xs.length - 1 - xs.idxOf w.name < ws'.length
  omega
 ·obtain ⟨i, j, h1, h2, h3⟩ := own w hm p hpm
  obtain ⟨hi, ei⟩ := Zzh.mp h2
  obtain ⟨hj, ej⟩ := Zzh.mp h3
  have e1 : xs.idxOf w.name = i := by rw [<- ei]; exact nd.idxOf_getElem i hi
  have e2 : xs.idxOf p.1 = j := by rw [<- ej]; exact nd.idxOf_getElem j hj
  show xs.length - 1 - xs.idxOf p.1 < xs.length - 1 - xs.idxOf w.name
  omega
 ·obtain ⟨j, _, k⟩ := hat w hm; exact k.2.2.2
 ·obtain ⟨h1, h2⟩ := hu.2 u hum
  exact ⟨pn.mem_iff.mpr h1, h2⟩
def sp_law_shop : Sp := λvs H Q _ => ∃ (st : Addr) (top : Int), vs = [.ref st, .int top] /\ StOk H st /\ 0 < top /\ top <= 8 /\ ∀ (v : V) (S : Sh) (H' : Hp), RD H' S.d v -> Good 9 S -> StOk H' st -> But st H H' -> Q v H'
end
set_option maxHeartbeats 4000000
section
variable {P : Program} {w : World} {K : Zzv} {mg : Str -> Option Value} {base : Heap} {f : Addr} {fd : FuncData} {Pt : Addr}
structure Cx31 (st l p : Addr) (xs : List Str) (ws : List Wr) (vs : List V) (H0 H : Hp) : Prop where
 hp : H p = some (.lst vs)
 rd : RDs H (ws.map Wr.d) vs
 hl : H l = some (.lst (xs.map V.str))
 s : StOk H st
 b : But st H0 H
 pst : p ≠ st
 lst : l ≠ st
theorem Cx31.draw {st l p : Addr} {xs : List Str} {ws : List Wr} {vs : List V} {H0 H H' : Hp} (h : Cx31 st l p xs ws vs H0 H) (s : StOk H' st) (b : But st H H') : Cx31 st l p xs ws vs H0 H' :=
 ⟨b _ _ h.pst h.hp, RDs.ku (Cq b h.s) _ _ (Bf Wr.d Fi _) h.rd, b _ _ h.lst h.hl, s, h.b.trans b, h.pst, h.lst⟩
theorem Cx31.same {st l p : Addr} {xs : List Str} {ws : List Wr} {vs : List V} {H0 H H' : Hp} (h : Cx31 st l p xs ws vs H0 H) (s : Same H H') : Cx31 st l p xs ws vs H0 H' :=
 ⟨s _ _ h.hp, RDs.same s _ _ h.rd, s _ _ h.hl, h.s.same s, h.b.trans (Bb s), h.pst, h.lst⟩
theorem j7 {H : Hp} {q : Addr} {a b c : Int} {d lo hi : Int} (h : H q = some (.lst [.int a, .int b, .int c])) (d0 : 0 <= d) (d1 : d < 3) (ha : lo <= a /\ a <= hi) (hb : lo <= b /\ b <= hi) (hc : lo <= c /\ c <= hi) : ∃ n, lo <= n /\ n <= hi /\ Jw H (.ref q) (.int d) (.int n) := by
 have : d = 0 \/ d = 1 \/ d = 2 := by omega
 rcases this with rfl | rfl | rfl
 ·exact ⟨a, ha.1, ha.2, Ip (j := 0) h rfl⟩
 ·exact ⟨b, hb.1, hb.2, Ip (j := 1) h rfl⟩
 ·exact ⟨c, hc.1, hc.2, Ip (j := 2) h rfl⟩
theorem Jk {H : Hp} {q : Addr} {a b : Int} {c : Bool} (h : H q = some (.lst [.int a, .int b])) : Jw H (.ref q) (.int (if c = true then 1 else 0)) (.int (if c = true then b else a)) := by
 cases c with
 | true => exact Ip (j := 1) h rfl
 | false => exact Ip (j := 0) h rfl
theorem Ou {H : Hp} : ∀ {ps : List (Wr × V)}, (∀ q ∈ ps, RD H q.1.d q.2) -> RDs H ((ps.map (·.1)).map Wr.d) (ps.map (·.2))
 | [], _ => RDs.nil
 | q :: r, h => RDs.cons (h q Zzj) (Ou λz hz => h z (Zzk _ hz))
theorem Se {H : Hp} : ∀ {ws : List Wr} {vs : List V}, RDs H (ws.map Wr.d) vs -> ∃ ps : List (Wr × V), ps.map (·.1) = ws /\ ps.map (·.2) = vs /\ ∀ q ∈ ps, RD H q.1.d q.2
 | [], vs, h => ⟨[], rfl, (RDs.nil_of h).symm, λ_ h => nomatch h⟩
 | w :: ws, vs, h => by
  obtain ⟨x, r, rfl, h1, h2⟩ := RDs.cons_of h
  obtain ⟨ps, e1, e2, h3⟩ := Se h2
  refine ⟨(w, x) :: ps, by rw [Zzd, e1], by rw [Zzd, e2], λq hq => ?_⟩
  rcases Zzo.mp hq with z | z
  ·rw [z]; exact h1
  ·exact h3 q z
def ib (st l p : Addr) (top slow : V) (xs : List Str) (H : Hp) (i : Nat) (Z : St) (H' : Hp) : Prop := ∃ (ws : List Wr) (vs : List V) (o5 o6 o7 o8 o9 o10 o11 o12 o13 o14 : Option V), Z = [some (.ref st), some top, some (.ref l), some (.ref p), some slow, o5, o6, o7, o8, o9, o10, o11, o12, o13, o14] /\ ws.length = i /\ (∀ j w, ws[j]? = some w -> bp xs j w) /\ Cx31 st l p xs ws vs H H'
def il (st l p : Addr) (xs : List Str) (ws : List Wr) (vs : List V) (H0 : Hp) (j : Nat) (acc : List V) (H' : Hp) : Prop := ∃ cs : List (Int × Int), RDs H' (cs.map Om) acc /\ cs.length = j /\ (∀ c ∈ cs, (0 <= c.1 /\ c.1 < 9) /\ 0 <= c.2 /\ c.2 < 10 ^ 41) /\ Cx31 st l p xs ws vs H0 H'
def i8 (st l p wl : Addr) (top slow : V) (xs : List Str) (ws : List Wr) (vs : List V) (H0 : Hp) (i : Nat) (Z : St) (H' : Hp) : Prop := ∃ (us : List Wt) (uv : List V) (o5 o6 o7 o8 o9 o10 o11 o12 o14 : Option V), Z = [some (.ref st), some top, some (.ref l), some (.ref p), some slow, o5, o6, o7, o8, o9, o10, o11, o12, some (.ref wl), o14] /\ us.length = i /\ (∀ u ∈ us, u.1 ∈ xs /\ (0 <= u.2.1 /\ u.2.1 < 9) /\ 0 <= u.2.2 /\ u.2.2 < 10 ^ 41) /\ H' wl = some (.lst uv) /\ RDs H' (us.map Fs) uv /\ Cx31 st l p xs ws vs H0 H'
theorem sc_law_shop : Aj ["_law_state", "_law_top", "_law_names_here", "_law_wares", "_law_slow", "_law_k", "_law_name", "_law_lag", "_law_gives", "_law_floor", "_law_stock", "_law_many", "_law_coming", "_law_wants", "_law_shift"] ["_law_state", "_law_top"] (Ad G6) := by walk_at "sc"
theorem Sj (F : Fun K "_law_shop" "_law_shop" G6 f fd) (T : Txt mg) (Zuk : Has P w K mg base "_law_names" 2 ["_law_state", "_law_many"] sp_law_names) (Zvn : Has P w K mg base "_law_next" 1 ["_law_state", "_law_many"] sp_law_next) (Zv9 : Has P w K mg base "_law_amount" 2 ["_law_state"] sp_law_amount) (Zuj : Has P w K mg base "_law_parts" 2 ["_law_state", "_law_names_here"] sp_law_parts) : Bh P w K mg base CX0 3 f fd ["_law_state", "_law_top"] sp_law_shop := by
 refine F.ok sc_law_shop (λvs H Q E h => ?_) (λcdv A outer s H vs Q E hr h => ?_)
 ·obtain ⟨st, top, rfl, _⟩ := h
  rfl
 ·obtain ⟨st, top, rfl, hs, t0, t1, k⟩ := h
  have hu := B5 hr
  refine ⟨_, (A2 (Ae (i := 2) sc_law_shop.nd rfl (Zzq rfl) (Aa Zuk hr.z rfl (A4 (pv 0) (A4 (Ar Bx A8 (Aa Zvn hr.z rfl (A4 (pv 0) (A4 (pv 1) A1)))) A1))))
 (A2 (Ae (i := 3) sc_law_shop.nd rfl (Zzq rfl) (Bp A1))
 (A2 (Ae (i := 4) sc_law_shop.nd rfl (Zzq rfl) (Aa Zvn hr.z rfl (A4 (pv 0) (A4 A8 A1))))
 (A2 (Az PassesOwn.never rfl (Lm rfl T.Zv8 (A4 (pv 2) A1)) (Cd (n := 2) rfl (Ai (Ac (i := 5) sc_law_shop.nd rfl (Zzq rfl)) (Ai (Ac (i := 6) sc_law_shop.nd rfl (Zzq rfl)) Bn)))
 (A2 (Ae (i := 7) sc_law_shop.nd rfl (Zzq rfl) (Aa Zvn hr.z rfl (A4 (pv 0) (A4 (A7 hu (Bp (A4 A8 (A4 A8 A1))) (Ck Hr rfl T.Zu2 Nl (A4 (Hm (Bq hu) (pv 5) (pv 4) (Am _)) A1)) (λ_ _ => rfl)) A1))))
 (A2 (Ae (i := 8) sc_law_shop.nd rfl (Zzq rfl) (Ar Bx A8 (Aa Zvn hr.z rfl (A4 (pv 0) (A4 A8 A1)))))
 (A2 (Ae (i := 9) sc_law_shop.nd rfl (Zzq rfl) (A7 hu (Bp (A4 A8 (A4 A8 (A4 (Aa Zvn hr.z rfl (A4 (pv 0) (A4 A8 A1))) A1)))) (Aa Zvn hr.z rfl (A4 (pv 0) (A4 A8 A1))) (λ_ _ => rfl)))
 (A2 (Ae (i := 10) sc_law_shop.nd rfl (Zzq rfl) (A7 hu (Bp (A4 (pv 9) (A4 (Ar Bx (pv 9) (Aa Zv9 hr.z rfl (A4 (pv 0) A1))) (A4 (Aa Zv9 hr.z rfl (A4 (pv 0) A1)) A1)))) (Aa Zvn hr.z rfl (A4 (pv 0) (A4 A8 A1))) (λ_ _ => rfl)))
 (A2 (Ae (i := 11) sc_law_shop.nd rfl (Zzq rfl) (Aa Zvn hr.z rfl (A4 (pv 0) (A4 (A7 hu (Bp (A4 A8 (A4 A8 A1))) (Ck Hr rfl T.Zu2 Nl (A4 (Hm (Bq hu) (Aa Zvn hr.z rfl (A4 (pv 0) (A4 A8 A1))) A8 (Am _)) A1)) (λ_ _ => rfl)) A1))))
 (A2 (Ae (i := 12) sc_law_shop.nd rfl (Zzq rfl) (Ck E7 rfl T.Zuf He (A4 (Ff (own := ["_law_place"]) (cap := [0]) rfl (G0 rfl) (C9 (by decide)) (Cs rfl T.Zv3 (A4 (pv 11) A1))
 (λ_ _ _ _ _ _ => ⟨(Ac (i := 0) (of_decide_eq_true rfl) rfl (Zzq rfl) (.inr rfl)), De, (Aq (A4 (Aa Zvn hr.z rfl (A4 (pv 1) (A4 A8 A1))) (A4 (Aa Zv9 hr.z rfl (A4 (pv 1) A1)) A1)))⟩)) A1)))
 (A9 (Ba (E5 Zz6 Zz2 Zz1 Bj (pv 3) (A4 (Aq (A4 (pv 6) (A4 (pv 7) (A4 (pv 8) (A4 (pv 9) (A4 (pv 10) (A4 (pv 12) (A4 (Aa Zuj hr.z rfl (A4 (pv 0) (A4 (Fw J0 (pv 2) (Gb (Ar Bx (pv 5) A8)) Jd) A1))) A1)))))))) A1)))))))))))
 (A2 (Ae (i := 13) sc_law_shop.nd rfl (Zzq rfl) (Bp A1))
 (A2 (Az PassesOwn.never rfl (Cs rfl T.Zv3 (A4 (Aa Zvn hr.z rfl (A4 (pv 0) (A4 (A7 hu (Bp (A4 A8 (A4 A8 A1))) (Ck Hr rfl T.Zu2 Nl (A4 (Hm (Bq hu) (Aa Zvn hr.z rfl (A4 (pv 0) (A4 A8 A1))) A8 (Am _)) A1)) (λ_ _ => rfl)) A1))) A1)) (Ac (i := 5) sc_law_shop.nd rfl (Zzq rfl))
 (A9 (Ba (E5 Zz6 Zz2 Zz1 Bj (pv 13) (A4 (Aq (A4 (A7 hu (pv 2) (Aa Zvn hr.z rfl (A4 (pv 0) (A4 (Ap B9 rfl T.Zvb D0 (A4 (pv 2) A1)) A1))) (λ_ _ => rfl)) (A4 (Aa Zvn hr.z rfl (A4 (pv 0) (A4 A8 A1))) (A4 (Aa Zv9 hr.z rfl (A4 (pv 0) A1)) A1)))) A1)))))
 (A2 (Ae (i := 14) sc_law_shop.nd rfl (Zzq rfl) (Aa Zvn hr.z rfl (A4 (pv 0) (A4 (Ap B9 rfl T.Zvb D0 (A4 (pv 2) A1)) A1))))
 (A9 (Ak (Aq (A4 (Ck E7 rfl T.Zuf He (A4 (Ar Qc (Fw J0 (pv 3) (Gb (pv 14)) Jd) (Fw J0 (pv 3) Jd (Gb (pv 14)))) A1)) (A4 (Ck E7 rfl T.Zuf He (A4 (pv 13) A1)) A1)))))))))))), ?_⟩
  walk_at "rd"
  refine ⟨st, top, rfl, hs, t0, Zy8 (b := 8) t1 (by decide +kernel), λd H1 d0 d1 s1 b1 => ⟨d, rfl, ?_⟩⟩
  refine ⟨st, 1 + d, rfl, s1, by omega, by omega, λl xs H2 hxl hxn hl fl s2 b2 => ?_⟩
  walk_at "rd"
  have lst' : l ≠ st := λz => by
   obtain ⟨ns1, _, e1⟩ := s1
   rw [z, e1] at fl
   cases fl
  refine ⟨by decide, λp hp => ?_⟩
  have pst : p ≠ st := Zzf (s2.ne hp)
  have b02 := b1.trans b2
  have fp : H p = none := b02.none pst hp
  have u2 := A3 (o := .lst []) hp
  refine ⟨st, 9, rfl, s2.upd (s2.ne hp), by decide, by decide +kernel, λslow H3 _ _ s3 b3 => ?_⟩
  have c3 : Cx31 st l p xs [] [] H H3 := ⟨b3 _ _ pst A0, RDs.nil, b3 _ _ lst' (u2 _ _ hl), s3, (b02.new hp).trans b3, pst, lst'⟩
  refine ⟨_, c3.hl, ?_⟩
  refine L6 (Vs l _) (ib st l p (.int top) (.int slow) xs H) ⟨[], [], _, _, _, _, _, _, _, _, _, _, rfl, rfl, (λj w e => by simp at e), c3⟩ (λi Z H' _ h => by obtain ⟨_, _, _, _, _, _, _, _, _, _, _, _, _, _, _, c⟩ := h; exact c.hl) (λi us t Z H4 hi hy h ht => ?_) (λZ H4 h => ?_)
  ·obtain ⟨ws, vs, o5, o6, o7, o8, o9, o10, o11, o12, o13, o14, rfl, hwl, hk, c4⟩ := h
   obtain ⟨y, ey, rfl⟩ := hy
   rw [Zzz] at hi
   rw [Zzx] at ey
   cases en : xs[i]? with
   | none => rw [en] at ey; cases ey
   | some nm =>
   rw [en] at ey
   have ey : V.str nm = y := Zzn ey
   subst ey
   have c5 := c4.same (A3 (o := .tup [.int i, .str nm]) ht)
   refine gT2 ?_
   generalize upd H4 t (.tup [.int i, .str nm]) = H5 at c5 ⊢
   simp only [Zwf, Zwg]
   refine gy (λZ' H' => ∃ lag ga : Int, (0 <= lag /\ lag <= 30) /\ (0 <= ga /\ ga < 5) /\ Z' = [some (.ref st), some (.int top), some (.ref l), some (.ref p), some (.int slow), some (.int i), some (.str nm), some (.int lag), some (.int (1 + ga)), o9, o10, o11, o12, o13, o14] /\ Cx31 st l p xs ws vs H H') (λZ' H8 hM => ?_) (λKK hK => ?_)
   rotate_left
   ·walk_at "rd"
    refine ⟨by decide, λq1 hq1 => ⟨rfl, ?_⟩⟩
    have c6 := c5.same (A3 (o := .lst [V.int 4, V.int 31]) hq1)
    refine ⟨_, Jk A0, ?_⟩
    generalize upd H5 q1 (.lst [V.int 4, V.int 31]) = H6 at c6 ⊢
    refine ⟨st, _, rfl, c6.s, by split <;> decide, by split <;> decide +kernel, λlag H7 g0 g1 s7 b7 => ?_⟩
    have c7 := c6.draw s7 b7
    have lag30 : 0 <= lag /\ lag <= 30 := ⟨g0, by split at g1 <;> omega⟩
    refine ⟨st, 5, rfl, c7.s, by decide, by decide +kernel, λga H8 ga0 ga1 s8 b8 => ⟨ga, rfl, hK _ _ ⟨lag, ga, lag30, ⟨ga0, ga1⟩, rfl, c7.draw s8 b8⟩⟩⟩
   obtain ⟨lag, ga, lag30, ⟨ga0, ga1⟩, rfl, c8⟩ := hM
   refine gy (λZ' H' => ∃ flo sto : Int, (0 <= flo /\ flo <= 6) /\ (0 <= sto /\ sto <= 10 ^ 42) /\ Z' = [some (.ref st), some (.int top), some (.ref l), some (.ref p), some (.int slow), some (.int i), some (.str nm), some (.int lag), some (.int (1 + ga)), some (.int flo), some (.int sto), o11, o12, o13, o14] /\ Cx31 st l p xs ws vs H H') (λZ' H15 hM => ?_) (λKK hK => ?_)
   rotate_left
   ·walk_at "rd"
    refine ⟨st, 7, rfl, c8.s, by decide, by decide +kernel, λfl H9 fl0 fl1 s9 b9 => ⟨by decide, λq2 hq2 => ?_⟩⟩
    have c9 := (c8.draw s9 b9).same (A3 (o := .lst [V.int 0, V.int 0, V.int fl]) hq2)
    have x2 := A0 (H := H9) (a := q2) (o := .lst [V.int 0, V.int 0, V.int fl])
    have q2st : q2 ≠ st := Zzf ((c8.draw s9 b9).s.ne hq2)
    generalize upd H9 q2 (.lst [V.int 0, V.int 0, V.int fl]) = H10 at c9 x2 ⊢
    refine ⟨st, 3, rfl, c9.s, by decide, by decide +kernel, λe H11 e0 e1 s11 b11 => ?_⟩
    have c11 := c9.draw s11 b11
    obtain ⟨flo, f0, f1, fi⟩ := j7 (lo := 0) (hi := 6) (b11 _ _ q2st x2) e0 e1 ⟨by decide, by decide⟩ ⟨by decide, by decide⟩ ⟨fl0, by omega⟩
    refine ⟨_, fi, st, rfl, c11.s, λa1 H12 a10 a11 s12 b12 => ⟨flo, rfl, a1, rfl, ?_⟩⟩
    have c12 := c11.draw s12 b12
    refine ⟨st, rfl, c12.s, λa2 H13 a20 a21 s13 b13 => ⟨by decide, λq3 hq3 => ?_⟩⟩
    have c13 := (c12.draw s13 b13).same (A3 (o := .lst [V.int flo, V.int (flo + a1), V.int a2]) hq3)
    have x3 := A0 (H := H13) (a := q3) (o := .lst [V.int flo, V.int (flo + a1), V.int a2])
    have q3st : q3 ≠ st := Zzf ((c12.draw s13 b13).s.ne hq3)
    generalize upd H13 q3 (.lst [V.int flo, V.int (flo + a1), V.int a2]) = H14 at c13 x3 ⊢
    refine ⟨st, 3, rfl, c13.s, by decide, by decide +kernel, λe2 H15 e20 e21 s15 b15 => ?_⟩
    have c15 := c13.draw s15 b15
    obtain ⟨sto, st0, st1, si⟩ := j7 (lo := 0) (hi := 10 ^ 42) (b15 _ _ q3st x3) e20 e21 ⟨by omega, by omega⟩ ⟨by omega, by omega⟩ ⟨by omega, by omega⟩
    exact ⟨_, si, hK _ _ ⟨flo, sto, ⟨f0, f1⟩, ⟨st0, st1⟩, rfl, c15⟩⟩
   obtain ⟨flo, sto, ⟨f0, f1⟩, ⟨st0, st1⟩, rfl, c15⟩ := hM
   walk_at "rd"
   refine ⟨by decide, λq4 hq4 => ?_⟩
   have c16 := c15.same (A3 (o := .lst [V.int 3, V.int 6]) hq4)
   have x4 := A0 (H := H15) (a := q4) (o := .lst [V.int 3, V.int 6])
   have q4st : q4 ≠ st := Zzf (c15.s.ne hq4)
   generalize upd H15 q4 (.lst [V.int 3, V.int 6]) = H16 at c16 x4 ⊢
   refine ⟨st, 6, rfl, c16.s, by decide, by decide +kernel, λe3 H17 _ _ s17 b17 => ⟨rfl, _, Jk (b17 _ _ q4st x4), ?_⟩⟩
   have c17 := c16.draw s17 b17
   refine ⟨st, _, rfl, c17.s, by split <;> decide, by split <;> decide +kernel, λmany H18 m0 m1 s18 b18 => ?_⟩
   have c18 := c17.draw s18 b18
   have m5 : 0 <= many /\ many <= 5 := ⟨m0, by split at m1 <;> omega⟩
   refine ⟨many, rfl, by omega, by omega, ?_⟩
   refine Nf (L5 0 _) (Aw (by omega)) (il st l p xs ws vs H) ⟨[], RDs.nil, rfl, (λc hc => nomatch hc), c18⟩ (λ_ _ _ _ _ => trivial) (λj acc H' h => by obtain ⟨cs, r, e, _⟩ := h; rw [B2 r]; exact Zws e) (λj y acc H19 hj hy h => ?_) (λacc H19 h r hr19 => ?_)
   ·obtain ⟨cs, rc, hcl, hcs, c19⟩ := h
    walk_at "rd"
    refine ⟨st, 9, rfl, c19.s, by decide, by decide +kernel, λda H20 da0 da1 s20 b20 => ?_⟩
    have c20 := c19.draw s20 b20
    refine ⟨st, rfl, c20.s, λam H21 am0 am1 s21 b21 => ⟨by decide, λt2 ht2 => ?_⟩⟩
    have c21 := c20.draw s21 b21
    have u := A3 (o := .tup [V.int da, V.int am]) ht2
    have kk := ((Cq b20 c19.s).trans (Cq b21 c20.s)).trans u.ku
    refine ⟨cs ++ [(da, am)], ?_, by rw [Zze, Zyt, hcl], λc hc => ?_, c21.same u⟩
    ·rw [Zzm]
     exact RDs.app (RDs.ku kk _ _ (Bf Om Ud _) rc) (RDs.one (RD.tup_mk (xs := [V.int da, V.int am]) A0 (RDs.cons RD.int_mk (RDs.one RD.int_mk))))
    ·rcases Zzc.mp hc with z | z
     ·exact hcs c z
     ·rw [Zzu.mp z]
      exact ⟨⟨da0, da1⟩, am0, am1⟩
   ·obtain ⟨cs, rc, hcl, hcs, c19⟩ := h
    refine ⟨r, rfl, acc, .inl ⟨A0, λcu hcu => ?_⟩⟩
    have u := (A3 (o := .lst acc) hr19).trans (A3 (o := .tup acc) hcu)
    have c20 := c19.same u
    have rc20 := RDs.same u _ _ rc
    have hcu20 := A0 (H := upd H19 r (.lst acc)) (a := cu) (o := .tup acc)
    generalize upd (upd H19 r (.lst acc)) cu (.tup acc) = H20 at c20 rc20 hcu20 ⊢
    refine ⟨Dn c20.hp, _, c20.hl, λz hz => ?_⟩
    rw [Hq (by omega), show ((i : Int) + 1).toNat = i + 1 by omega, <- Zvo]
    have u2 := A3 (o := .lst ((xs.drop (i + 1)).map V.str)) hz
    have c21 := c20.same u2
    have zst : z ≠ st := Zzf (c20.s.ne hz)
    have hx12 : xs.length <= 12 := by omega
    refine ⟨st, z, xs.drop (i + 1), rfl, c21.s, A0, zst, by rw [Zxs]; omega, (List.drop_sublist _ _).nodup (Sr hx12 hxn), λpv ps H22 rpv p6 po s22 b22 => ⟨by decide, λwt hwt => ?_⟩⟩
    have c22 := c21.draw s22 b22
    have u3 := A3 (o := .tup [V.str nm, V.int lag, V.int (1 + ga), V.int flo, V.int sto, V.ref cu, pv]) hwt
    have c23 := c22.same u3
    have rpv23 := RD.same u3 _ _ rpv
    have k2023 : KeepU H20 (upd H22 wt (.tup [V.str nm, V.int lag, V.int (1 + ga), V.int flo, V.int sto, V.ref cu, pv])) := (u2.ku.trans (Cq b22 c21.s)).trans u3.ku
    have rc23 := RDs.ku k2023 _ _ (Bf Om Ud _) rc20
    have hcu23 := k2023 _ _ hcu20
    have x23 := A0 (H := H22) (a := wt) (o := .tup [V.str nm, V.int lag, V.int (1 + ga), V.int flo, V.int sto, V.ref cu, pv])
    generalize upd H22 wt (.tup [V.str nm, V.int lag, V.int (1 + ga), V.int flo, V.int sto, V.ref cu, pv]) = H23 at c23 rpv23 rc23 hcu23 x23 ⊢
    have hvl := B2 c23.rd
    have kk : KeepU H23 (upd H23 p (.lst (vs ++ [.ref wt]))) := Ep c23.hp
    have lp : l ≠ p := λz => by
     have h1 := c23.hl
     have h2 := c3.hp
     have h3 := c3.hl
     rw [z] at h3
     rw [h3] at h2
     have : xs.map V.str = [] := by injection h2 with h2; injection h2
     have hl0 := congrArg Zxz this
     rw [Zzz, Zxf] at hl0
     omega
    refine ⟨vs, c23.hp, Zzb (show vs.length < 1000 by omega) (Aw (Zzt _)), ws ++ [⟨nm, lag, 1 + ga, flo, sto, cs, ps⟩], _, _, _, _, _, _, _, _, _, _, _, rfl, by rw [Zze, Zyt, hwl], λj w' hw' => ?_, ⟨A0, ?_, by rw [A5 lp]; exact c23.hl, c23.s.upd (Zzf c23.pst), c23.b.upd fp, c23.pst, c23.lst⟩⟩
    ·by_cases hj : j < ws.length
     ·rw [Zy6 hj] at hw'
      exact hk j w' hw'
     ·rw [Zyk (by omega)] at hw'
      have hj0 : j - ws.length = 0 := by
       cases e : j - ws.length with
       | zero => rfl
       | succ n => rw [e] at hw'; simp at hw'
      rw [hj0] at hw'
      have ew : (⟨nm, lag, 1 + ga, flo, sto, cs, ps⟩ : Wr) = w' := by simpa using hw'
      have ej : j = i := by omega
      subst ew ej
      exact ⟨en, ⟨lag30, ⟨show 1 <= 1 + ga by omega, show 1 + ga <= 100 by omega⟩, ⟨f0, show flo <= 100 by omega⟩, ⟨st0, st1⟩, show ps.length <= 12 by omega, λp hp => ⟨(po.sub p hp).2.1, show p.2 <= 100 by have := (po.sub p hp).2.2; omega⟩, po.nd⟩, λp hp => (po.sub p hp).1, ⟨show cs.length <= 12 by omega, hcs⟩⟩
    ·rw [Zzm]
     refine RDs.app (RDs.ku kk _ _ (Bf Wr.d Fi _) c23.rd) (RDs.one (RD.ku kk _ _ (Fi _) ?_))
     unfold Wr.d
     exact RD.tup_mk x23 (RDs.cons RD.str_mk (RDs.cons RD.int_mk (RDs.cons RD.int_mk (RDs.cons RD.int_mk (RDs.cons RD.int_mk (RDs.cons (RD.tup_mk hcu23 rc23) (RDs.one rpv23)))))))
  ·obtain ⟨ws, vs, o5, o6, o7, o8, o9, o10, o11, o12, o13, o14, rfl, hwl, hk, c4⟩ := h
   rw [Zzz] at hwl
   walk_at "rd"
   refine ⟨by decide, λwl hw4 => ⟨by decide, λq5 hq5 => ?_⟩⟩
   have u5 := (A3 (o := .lst []) hw4).trans (A3 (o := .lst [V.int 6, V.int 14]) hq5)
   have c5 := c4.same u5
   have hw5 := A3 (o := .lst [V.int 6, V.int 14]) hq5 _ _ (A0 (H := H4) (a := wl) (o := .lst []))
   have x5 := A0 (H := upd H4 wl (.lst [])) (a := q5) (o := .lst [V.int 6, V.int 14])
   have wst : wl ≠ st := Zzf (c4.s.ne hw4)
   have fw : H wl = none := c4.b.none wst hw4
   have wp : wl ≠ p := λz => by have := c4.hp; rw [<- z, hw4] at this; cases this
   have wl' : wl ≠ l := λz => by have := c4.hl; rw [<- z, hw4] at this; cases this
   have q5st : q5 ≠ st := λz => by obtain ⟨_, _, e⟩ := c4.s.same (A3 (o := .lst []) hw4); rw [<- z, hq5] at e; cases e
   generalize upd (upd H4 wl (.lst [])) q5 (.lst [V.int 6, V.int 14]) = H5 at c5 hw5 x5 ⊢
   refine ⟨st, 6, rfl, c5.s, by decide, by decide +kernel, λe H6 _ _ s6 b6 => ⟨rfl, _, Jk (b6 _ _ q5st x5), ?_⟩⟩
   have c6 := c5.draw s6 b6
   refine ⟨st, _, rfl, c6.s, by split <;> decide, by split <;> decide +kernel, λm H7 m0 m1 s7 b7 => ?_⟩
   have c7 := c6.draw s7 b7
   have m13 : 0 <= m /\ m <= 13 := ⟨m0, by split at m1 <;> omega⟩
   refine ⟨m, rfl, by omega, by omega, ?_⟩
   have hw7 := b7 _ _ wst (b6 _ _ wst hw5)
   refine Bw (L5 0 _) (i8 st l p wl (.int top) (.int slow) xs ws vs H) ⟨[], [], _, _, _, _, _, _, _, _, _, rfl, rfl, (λu hu => nomatch hu), hw7, RDs.nil, c7⟩ (λ_ _ _ _ _ => trivial) (λi x Z H8 hi hx h => ?_) (λZ H8 h => ?_)
   ·obtain ⟨us, uv, o5, o6, o7, o8, o9, o10, o11, o12, o14, rfl, hul, hus, hw8, ru, c8⟩ := h
    walk_at "rd"
    have e1 : (xs.map V.str).length = xs.length := Zzz ..
    refine ⟨Dn hw8, _, .inl c8.hl, st, xs.length, by rw [e1], c8.s, by omega, Zy8 (b := 12) (by omega) (by decide +kernel), λni H9 n0 n1 s9 b9 => ?_⟩
    have c9 := c8.draw s9 b9
    obtain ⟨nm, hnm⟩ : ∃ nm, xs[ni.toNat]? = some nm := ⟨_, Zzr (by omega)⟩
    refine ⟨.str nm, Kk (.inl c9.hl) n0 (by rw [Zzx, hnm]; rfl), st, 9, rfl, c9.s, by decide, by decide +kernel, λda H10 da0 da1 s10 b10 => ?_⟩
    have c10 := c9.draw s10 b10
    refine ⟨st, rfl, c10.s, λam H11 am0 am1 s11 b11 => ⟨by decide, λt ht => ?_⟩⟩
    have c11 := c10.draw s11 b11
    have b811 := (b9.trans b10).trans b11
    have u := A3 (o := .tup [V.str nm, V.int da, V.int am]) ht
    have c12 := c11.same u
    have hw12 := u _ _ (b811 _ _ wst hw8)
    have ru12 := RDs.ku ((Cq b811 c8.s).trans u.ku) _ _ (Bf Fs Ln _) ru
    have x12 := A0 (H := H11) (a := t) (o := .tup [V.str nm, V.int da, V.int am])
    generalize upd H11 t (.tup [V.str nm, V.int da, V.int am]) = H12 at c12 hw12 ru12 x12 ⊢
    have hvl := B2 ru12
    have hi : i < m.toNat := hi
    have kk : KeepU H12 (upd H12 wl (.lst (uv ++ [.ref t]))) := Ep hw12
    refine ⟨uv, hw12, Zzb (show uv.length < 1000 by omega) (Aw (Zzt _)), us ++ [(nm, da, am)], _, _, _, _, _, _, _, _, _, _, rfl, by rw [Zze, Zyt, hul], λy hy => ?_, A0, ?_, ⟨by rw [A5 (Zzf wp)]; exact c12.hp, RDs.ku kk _ _ (Bf Wr.d Fi _) c12.rd, by rw [A5 (Zzf wl')]; exact c12.hl, c12.s.upd (Zzf wst), c12.b.upd fw, c12.pst, c12.lst⟩⟩
    ·rcases Zzc.mp hy with z | z
     ·exact hus y z
     ·rw [Zzu.mp z]
      exact ⟨Zzw hnm, ⟨da0, da1⟩, am0, am1⟩
    ·rw [Zzm]
     exact RDs.app (RDs.ku kk _ _ (Bf Fs Ln _) ru12) (RDs.one (RD.tup_mk (xs := [V.str nm, V.int da, V.int am]) (kk _ _ x12) (RDs.cons RD.str_mk (RDs.cons RD.int_mk (RDs.one RD.int_mk)))))
   ·obtain ⟨us, uv, o5, o6, o7, o8, o9, o10, o11, o12, o14, rfl, hul, hus, hw8, ru, c8⟩ := h
    walk_at "rd"
    have e1 : (xs.map V.str).length = xs.length := Zzz ..
    refine ⟨_, .inl c8.hl, st, xs.length, by rw [e1], c8.s, by omega, Zy8 (b := 12) (by omega) (by decide +kernel), λsh H9 h0 h1 s9 b9 => ⟨sh, rfl, ?_⟩⟩
    have c9 := c8.draw s9 b9
    have hw9 := b9 _ _ wst hw8
    have ru9 := RDs.ku (Cq b9 c8.s) _ _ (Bf Fs Ln _) ru
    refine ⟨vs, c9.hp, λr1 hr1 => ⟨sh, rfl, vs, A3 hr1 _ _ c9.hp, λr2 hr2 => ?_⟩⟩
    rw [Hq h0, Vw h0] at *
    have v1 := A3 (o := .lst (vs.drop sh.toNat)) hr1
    have v2 := A3 (o := .lst (vs.take sh.toNat)) hr2
    have y1 := v2 _ _ (A0 (H := H9) (a := r1) (o := .lst (vs.drop sh.toNat)))
    have y2 := A0 (H := upd H9 r1 (.lst (vs.drop sh.toNat))) (a := r2) (o := .lst (vs.take sh.toNat))
    have s11 := v1.trans v2
    generalize upd (upd H9 r1 (.lst (vs.drop sh.toNat))) r2 (.lst (vs.take sh.toNat)) = H11 at y1 y2 s11 ⊢
    have hvl := B2 c9.rd
    refine ⟨_, y1, _, y2, Zyx (m := 1000) (by rw [Zxs, Zym]; omega) (Aw (Zzt _)), λr3 hr3 => ⟨_, .inl ⟨A0, λr4 hr4 => ?_⟩⟩⟩
    have v34 := (A3 (o := .lst (vs.drop sh.toNat ++ vs.take sh.toNat)) hr3).trans (A3 (o := .tup (vs.drop sh.toNat ++ vs.take sh.toNat)) hr4)
    have y4 := A0 (H := upd H11 r3 (.lst (vs.drop sh.toNat ++ vs.take sh.toNat))) (a := r4) (o := .tup (vs.drop sh.toNat ++ vs.take sh.toNat))
    have s13 := s11.trans v34
    generalize upd (upd H11 r3 (.lst (vs.drop sh.toNat ++ vs.take sh.toNat))) r4 (.tup (vs.drop sh.toNat ++ vs.take sh.toNat)) = H13 at y4 s13 ⊢
    refine ⟨uv, .inl ⟨s13 _ _ hw9, λr5 hr5 => ⟨by decide, λr6 hr6 => ?_⟩⟩⟩
    have v56 := (A3 (o := .tup uv) hr5).trans (A3 (o := .tup [V.ref r4, V.ref r5]) hr6)
    have s15 := s13.trans v56
    have c15 := c9.same s15
    obtain ⟨ps, e3, e4, h3⟩ := Se c15.rd
    have pm : (ps.drop sh.toNat ++ ps.take sh.toNat).Perm ps := List.perm_append_comm.trans (by rw [Zw0])
    refine k (.ref r6) ⟨(ps.drop sh.toNat ++ ps.take sh.toNat).map (·.1), us⟩ _ ?_ (m4 hxn ⟨by omega, by omega⟩ hwl hk (by rw [<- e3]; exact pm.map _) ⟨by omega, hus⟩) c15.s c15.b
    unfold Sh.d
    refine RD.tup_mk A0 (RDs.cons (RD.tup_mk (v56 _ _ y4) ?_) (RDs.one (RD.tup_mk (A3 hr6 _ _ A0) (RDs.same s15 _ _ ru9))))
    rw [<- e4, <- Zvo, <- Zw4, <- Zzm]
    exact Ou λq hq => h3 q (pm.mem_iff.mp hq)
end
set_option maxHeartbeats 4000000
section
variable {P : Program} {w : World} {K : Zzv} {mg : Str -> Option Value} {base : Heap} {f : Addr} {fd : FuncData} {Pt : Addr}
def mn (i j : Int) : Int := if j < i then j else i
def mx (i j : Int) : Int := if j > i then j else i
def Af {α : Type} (q : List (α × Int)) (i : Nat) : Int := ((q.take i).map (·.2)).sum
theorem D9 {α : Type} {q : List (α × Int)} {i : Nat} {x : α × Int} (h : q[i]? = some x) : Af q (i + 1) = Af q i + x.2 := by
 unfold Af
 rw [Zz8, h]
 simp
theorem Em {α : Type} {q : List (α × Int)} (h : ∀ x ∈ q, 0 < x.2) {i : Nat} : ∀ {j : Nat}, i <= j -> Af q i <= Af q j
 | 0, hij => by rw [Nat.le_zero.mp hij]; exact Zz0 _
 | j + 1, hij => by
  by_cases e : i = j + 1
  ·rw [e]; exact Zz0 _
  ·have h1 := Em h (i := i) (j := j) (by omega)
   cases eq : q[j]? with
   | none =>
    have h2 : Af q (j + 1) = Af q j := by unfold Af; rw [Zz8, eq]; simp
    omega
   | some x =>
    have h2 := D9 eq
    have h3 := h x (Zzw eq)
    omega
def Gi {α β : Type} (s : α) (lo hi b e : Int) (n : β) : List (α × β × Int) := if 0 < mn hi e - mx lo b then [(s, n, mn hi e - mx lo b)] else []
def Fm {α β : Type} (f : Nat -> α -> List β) (xs : List α) (i : Nat) : List β := (Zz9 i).flatMap λk => match xs[k]? with
 | some x => f k x
 | none => []
theorem Cj {α β : Type} {f : Nat -> α -> List β} {xs : List α} {i : Nat} {x : α} (h : xs[i]? = some x) : Fm f xs (i + 1) = Fm f xs i ++ f i x := by
 unfold Fm
 rw [Zyg, Zy5, Zyd, h]
theorem Gw {α β : Type} {f : Nat -> α -> List β} {xs : List α} {b : Nat} (h : ∀ k x, (f k x).length <= b) : ∀ i, (Fm f xs i).length <= i * b
 | 0 => Zz3 _
 | i + 1 => by
  have ih := Gw (xs := xs) h i
  unfold Fm at ih ⊢
  rw [Zyg, Zy5, Zyd, Zze, Nat.succ_mul]
  cases e : xs[i]? with
  | none => show _ + 0 <= _; omega
  | some x =>
   have := h i x
   show _ + (f i x).length <= _
   omega
theorem U3 {α β : Type} {f g : Nat -> α -> List β} {xs : List α} {i : Nat} (h : ∀ k x, k < i -> xs[k]? = some x -> f k x = g k x) : Fm f xs i = Fm g xs i := by
 induction i with
 | zero => rfl
 | succ i ih =>
  have ih := ih λk x hk => h k x (by omega)
  cases e : xs[i]? with
  | none =>
   unfold Fm at ih ⊢
   rw [Zyg, Zy5, Zy5, ih, Zyd, Zyd, e]
  | some x => rw [Cj e, Cj e, ih, h i x (by omega) e]
theorem C7 {α β : Type} {f : Nat -> α -> List β} {xs : List α} {i : Nat} {C : β -> Prop} (h : ∀ k x, xs[k]? = some x -> ∀ y ∈ f k x, C y) : ∀ y ∈ Fm f xs i, C y := λy hy => by
 unfold Fm at hy
 obtain ⟨k, _, hy⟩ := Zxp.mp hy
 cases e : xs[k]? with
 | none => rw [e] at hy; cases hy
 | some x => rw [e] at hy; exact h k x e y hy
def Bz {α β : Type} (s : α) (lo hi : Int) (ns : List (β × Int)) (m : Nat) : List (α × β × Int) := Fm (λj n => Gi s lo hi (Af ns j) (Af ns (j + 1)) n.1) ns m
theorem Hb {α β : Type} {s : α} {lo hi : Int} {ns : List (β × Int)} {m : Nat} {n : β × Int} (h : ns[m]? = some n) : Bz s lo hi ns (m + 1) = Bz s lo hi ns m ++ Gi s lo hi (Af ns m) (Af ns (m + 1)) n.1 := Cj h
theorem Fk {α β : Type} {s : α} {lo hi : Int} {ns : List (β × Int)} : ∀ {m k : Nat}, k <= m -> (∀ j, k <= j -> j < m -> ∀ n, ns[j]? = some n -> ¬ 0 < mn hi (Af ns (j + 1)) - mx lo (Af ns j)) -> Bz s lo hi ns m = Bz s lo hi ns k
 | 0, k, hk, _ => by rw [Nat.le_zero.mp hk]
 | m + 1, k, hk, h => by
  by_cases e : k = m + 1
  ·rw [e]
  ·have ih := Fk (s := s) (m := m) (k := k) (by omega) (λj h1 h2 => h j h1 (by omega))
   rw [<- ih]
   cases eq : ns[m]? with
   | none =>
    unfold Bz Fm
    rw [Zyg, Zy5, Zyd, eq, Zyu]
   | some n =>
    rw [Hb eq]
    unfold Gi
    rw [if_neg (h m (by omega) (by omega) n eq), Zyu]
structure Pk {β : Type} (ns : List (β × Int)) (lo hi x : Int) (pl m : Nat) : Prop where
 lox : lo <= x
 xhi : x <= hi
 le : pl <= ns.length
 at_ : Af ns pl <= x
 more : pl < ns.length -> x < Af ns (pl + 1)
 on : x < hi -> x = mx lo (Af ns pl) /\ m = pl
 lst : pl = ns.length -> x = mx lo (Af ns pl)
 off : x = hi -> m = ns.length \/ hi <= Af ns m
 ml : m <= ns.length
theorem Sa {α β : Type} {ns : List (β × Int)} (hn : ∀ x ∈ ns, 0 < x.2) {s : α} {lo hi : Int} {pl : Nat} (h : lo < hi) (hl : pl <= ns.length) (h1 : Af ns pl <= lo) (h2 : pl < ns.length -> lo < Af ns (pl + 1)) : Pk ns lo hi lo pl pl /\ Bz s lo hi ns pl = [] := by
 refine ⟨⟨Zz0 _, by omega, hl, h1, h2, λ_ => ⟨by unfold mx; split <;> omega, rfl⟩, λ_ => by unfold mx; split <;> omega, λe => by omega, hl⟩, ?_⟩
 rw [Fk (k := 0) (Zz3 _) (λj _ hj n _ => ?_)]
 ·rfl
 ·have := Em hn (i := j + 1) (j := pl) (by omega)
  unfold mn mx
  split <;> split <;> omega
theorem dj {α β : Type} {ns : List (β × Int)} (hn : ∀ x ∈ ns, 0 < x.2) {s : α} {lo hi x : Int} {pl m : Nat} {n : β × Int} (I : Pk ns lo hi x pl m) (hx : x < hi) (he : ns[pl]? = some n) :
  0 < mn (hi - x) (Af ns (pl + 1) - x) /\ Bz s lo hi ns (pl + 1) = Bz s lo hi ns m ++ [(s, n.1, mn (hi - x) (Af ns (pl + 1) - x))] /\
  (Af ns (pl + 1) - x - mn (hi - x) (Af ns (pl + 1) - x) = 0 -> Pk ns lo hi (x + mn (hi - x) (Af ns (pl + 1) - x)) (pl + 1) (pl + 1)) /\
  (¬ Af ns (pl + 1) - x - mn (hi - x) (Af ns (pl + 1) - x) = 0 -> Pk ns lo hi (x + mn (hi - x) (Af ns (pl + 1) - x)) pl (pl + 1)) := by
 have hlt := (Zzh.mp he).1
 obtain ⟨xm, rfl⟩ := I.on hx
 have hm := I.more hlt
 have hlo := I.lox
 have ha := I.at_
 have e1 : mn hi (Af ns (m + 1)) - mx lo (Af ns m) = mn (hi - x) (Af ns (m + 1) - x) := by
  rw [<- xm]
  unfold mn
  split <;> split <;> omega
 have p : 0 < mn (hi - x) (Af ns (m + 1) - x) := by unfold mn; split <;> omega
 refine ⟨p, ?_, λz => ?_, λz => ?_⟩
 ·rw [Hb he]
  unfold Gi
  rw [e1, if_pos p]
 ·have e2 : x + mn (hi - x) (Af ns (m + 1) - x) = Af ns (m + 1) := by omega
  have h3 : mn (hi - x) (Af ns (m + 1) - x) <= hi - x := by unfold mn; split <;> omega
  rw [e2]
  refine ⟨by omega, by omega, by omega, Zz0 _, λz2 => ?_, λz2 => ⟨by unfold mx; split <;> omega, rfl⟩, λ_ => by unfold mx; split <;> omega, λz2 => .inr (by omega), by omega⟩
  obtain ⟨n2, h4⟩ : ∃ n2, ns[m + 1]? = some n2 := ⟨_, Zzr z2⟩
  have := D9 h4
  have := hn n2 (Zzw h4)
  omega
 ·have e2 : x + mn (hi - x) (Af ns (m + 1) - x) = hi := by
   unfold mn at z ⊢
   split at z <;> (try split) <;> omega
  have h4 : hi < Af ns (m + 1) := by
   unfold mn at z
   split at z <;> omega
  rw [e2]
  exact ⟨by omega, Zz0 _, by omega, by omega, λ_ => h4, λz => by omega, λz => by omega, λ_ => .inr (by omega), by omega⟩
theorem kf {α β : Type} {ns : List (β × Int)} (hn : ∀ x ∈ ns, 0 < x.2) {s : α} {lo hi x : Int} {pl m : Nat} (I : Pk ns lo hi x pl m) (hlh : lo < hi) (h : ¬ (x < hi /\ pl < ns.length)) :
  Bz s lo hi ns m = Bz s lo hi ns ns.length /\ (x < hi -> hi > Af ns ns.length /\ hi - x = hi - mx lo (Af ns ns.length)) /\ (¬ x < hi -> ¬ hi > Af ns ns.length) /\ Af ns pl <= hi /\ (pl < ns.length -> hi < Af ns (pl + 1)) := by
 have h1 := I.at_
 have h2 := I.xhi
 have h3 := I.le
 refine ⟨?_, λz => ?_, λz => ?_, by omega, λz => ?_⟩
 ·by_cases z : x < hi
  ·have : pl = ns.length := by omega
   rw [(I.on z).2, this]
  ·rcases I.off (by omega) with e | e
   ·rw [e]
   ·refine (Fk I.ml λj hj _ n _ => ?_).symm
    have := Em hn (i := m) (j := j) hj
    unfold mn mx
    split <;> split <;> omega
 ·have e : pl = ns.length := by omega
  subst e
  have := (I.on z).1
  have hm : Af ns ns.length <= mx lo (Af ns ns.length) := by unfold mx; split <;> omega
  exact ⟨by omega, by omega⟩
 ·have hx : x = hi := by omega
  by_cases z2 : pl < ns.length
  ·have := I.more z2
   have := Em hn (i := pl + 1) (j := ns.length) (by omega)
   omega
  ·have e : pl = ns.length := by omega
   subst e
   have := I.lst rfl
   unfold mx at this
   split at this <;> omega
 ·have := I.more z
  omega
theorem Gh {α β : Type} {s : α} {lo hi : Int} {ns : List (β × Int)} {k : Nat} : ∀ {m : Nat}, k <= m -> (Bz s lo hi ns k).length <= (Bz s lo hi ns m).length /\ (Bz s lo hi ns m).length <= (Bz s lo hi ns k).length + (m - k)
 | 0, h => by rw [Nat.le_zero.mp h]; exact ⟨Zzt _, Zxr _ _⟩
 | m + 1, h => by
  by_cases e : k = m + 1
  ·rw [e]; exact ⟨Zzt _, Zxr _ _⟩
  ·have ih := Gh (s := s) (lo := lo) (hi := hi) (ns := ns) (k := k) (m := m) (by omega)
   cases eq : ns[m]? with
   | none =>
    have : Bz s lo hi ns (m + 1) = Bz s lo hi ns m := by
     unfold Bz Fm
     rw [Zyg, Zy5, Zyd, eq, Zyu]
    rw [this]
    omega
   | some n =>
    have h1 : (Gi s lo hi (Af ns m) (Af ns (m + 1)) n.1).length <= 1 := by unfold Gi; split <;> simp
    rw [Hb eq, Zze]
    omega
theorem Je {β : Type} {ns : List (β × Int)} {x : Int} : ∀ (k pl : Nat), ns.length - pl = k -> pl <= ns.length -> Af ns pl <= x -> ∃ pl', pl <= pl' /\ pl' <= ns.length /\ Af ns pl' <= x /\ (pl' < ns.length -> x < Af ns (pl' + 1))
 | 0, pl, h, hl, hc => ⟨pl, Zzt _, hl, hc, λz => by omega⟩
 | k + 1, pl, h, hl, hc => by
  by_cases c : x < Af ns (pl + 1)
  ·exact ⟨pl, Zzt _, hl, hc, λ_ => c⟩
  ·obtain ⟨pl', h1, h2, h3, h4⟩ := Je (ns := ns) (x := x) k (pl + 1) (by omega) (by omega) (by omega)
   exact ⟨pl', by omega, h2, h3, h4⟩
def Hc {α β : Type} (lf : β) (ss : List (α × Int)) (ns : List (β × Int)) (i : Nat) (s : α × Int) : List (α × β × Int) := Bz s.1 (Af ss i) (Af ss (i + 1)) ns ns.length ++ if Af ss (i + 1) > Af ns ns.length then [(s.1, lf, Af ss (i + 1) - mx (Af ss i) (Af ns ns.length))] else []
def Gs {α β : Type} (lf : β) (ss : List (α × Int)) (ns : List (β × Int)) (i : Nat) : List (α × β × Int) := Fm (λi s => Hc lf ss ns i s) ss i
theorem Vv {α β : Type} {lf : β} {ss : List (α × Int)} {ns : List (β × Int)} (hn : ∀ x ∈ ns, 0 < x.2) (hs : ∀ x ∈ ss, 0 < x.2) (i : Nat) (hi : i <= ss.length) : (Gs lf ss ns i).length <= 2 * i + ns.length := by
 have key : ∀ i, i <= ss.length -> ∃ pl, pl <= ns.length /\ Af ns pl <= Af ss i /\ (pl < ns.length -> Af ss i < Af ns (pl + 1)) /\ (Gs lf ss ns i).length <= 2 * i + pl := λi => by
  induction i with
  | zero =>
   intro _
   obtain ⟨pl', h1, h2, h3, h4⟩ := Je (ns := ns) (x := Af ss 0) ns.length 0 (by omega) (by omega) (by unfold Af; simp)
   exact ⟨pl', h2, h3, h4, Zz3 _⟩
  | succ i ih =>
   intro hi
   obtain ⟨pl, h1, h2, h3, h4⟩ := ih (by omega)
   obtain ⟨s, es⟩ : ∃ s, ss[i]? = some s := ⟨_, Zzr hi⟩
   have e1 := D9 es
   have e2 := hs s (Zzw es)
   obtain ⟨pl', g1, g2, g3, g4⟩ := Je (ns := ns) (x := Af ss (i + 1)) (ns.length - pl) pl rfl h1 (by omega)
   refine ⟨pl', g2, g3, g4, ?_⟩
   have r0 := (Sa (s := s.1) hn (lo := Af ss i) (hi := Af ss (i + 1)) (by omega) h1 h2 h3).2
   unfold Gs
   rw [Cj es, Zze]
   unfold Gs at h4
   have hd : (Bz s.1 (Af ss i) (Af ss (i + 1)) ns ns.length).length <= pl' + 1 - pl := by
    by_cases z : pl' < ns.length
    ·rw [Fk (k := pl' + 1) (by omega) (λj hj _ n _ => ?_)]
     ·have := (Gh (s := s.1) (lo := Af ss i) (hi := Af ss (i + 1)) (ns := ns) (k := pl) (m := pl' + 1) (by omega)).2
      rw [r0] at this
      simpa using this
     ·have := g4 z
      have := Em hn (i := pl' + 1) (j := j) hj
      unfold mn mx
      split <;> split <;> omega
    ·have e : pl' = ns.length := by omega
     have := (Gh (s := s.1) (lo := Af ss i) (hi := Af ss (i + 1)) (ns := ns) (k := pl) (m := ns.length) h1).2
     rw [r0] at this
     simp at this
     omega
   have hl : (Hc lf ss ns i s).length <= (pl' + 1 - pl) + 1 := by
    unfold Hc
    rw [Zze]
    split
    ·rw [Zyt]; omega
    ·rw [Zxf]; omega
   omega
 obtain ⟨pl, h1, _, _, h4⟩ := key i hi
 omega
inductive Th where
 | stock | coming (k : Nat) | lots (d : Nat) | floor | want (k : Nat) | part (x : Str) (c : Int) | left
def Th.ds : Th -> List PyData
 | .stock => [.str "stock"]
 | .coming k => [.str "coming", .int k]
 | .lots d => [.str "lots", .int d]
 | .floor => [.str "floor"]
 | .want k => [.str "want", .int k]
 | .part x c => [.str "part", .str x, .int c]
 | .left => [.str "left"]
def Th.d (t : Th) : PyData := .tuple t.ds
abbrev It3 := Th × Int × Int
instance : Inhabited It3 := ⟨(.left, 0, 0)⟩
def it2 (q : Th × Int) : PyData := .tuple [q.1.d, .int q.2]
def pgD (q : Th × Th × Int) : PyData := .tuple [q.1.d, q.2.1.d, .int q.2.2]
def dr (q : It3) : Th × Int := (q.1, q.2.2)
theorem Z4 (t : Th) : Ci t.d = true := by
 unfold Th.d
 cases t <;> simp only [Th.ds, Ci, Be, Zy4]
theorem Qn (q : Th × Int) : Ci (it2 q) = true := by unfold it2; simp only [Ci, Be, Z4, Zy4]
theorem Ox (q : Th × Th × Int) : Ci (pgD q) = true := by unfold pgD; simp only [Ci, Be, Z4, Zy4]
theorem Qy {H : Hp} {q : Th × Int} {v : V} (h : RD H (it2 q) v) : ∃ (a : Addr) (x : V), v = .ref a /\ H a = some (.tup [x, .int q.2]) /\ RD H q.1.d x := by
 unfold it2 at h
 obtain ⟨a, xs, rfl, ha, r⟩ := RD.tup_of h
 obtain ⟨x1, r1, rfl, h1, r⟩ := RDs.cons_of r
 obtain ⟨x2, r2, rfl, h2, r⟩ := RDs.cons_of r
 have := RDs.nil_of r
 subst this
 rw [RD.int_of h2] at ha
 exact ⟨a, x1, rfl, ha, h1⟩
theorem j8 {H : Hp} {q : Th × Th × Int} {v : V} (h : RD H (pgD q) v) : ∃ (a : Addr) (x y : V), v = .ref a /\ H a = some (.tup [x, y, .int q.2.2]) /\ RD H q.1.d x /\ RD H q.2.1.d y := by
 unfold pgD at h
 obtain ⟨a, xs, rfl, ha, r⟩ := RD.tup_of h
 obtain ⟨x1, r1, rfl, h1, r⟩ := RDs.cons_of r
 obtain ⟨x2, r2, rfl, h2, r⟩ := RDs.cons_of r
 obtain ⟨x3, r3, rfl, h3, r⟩ := RDs.cons_of r
 have := RDs.nil_of r
 subst this
 rw [RD.int_of h3] at ha
 exact ⟨a, x1, x2, rfl, ha, h1, h2⟩
theorem Vb {H : Hp} {t : Th} {a : Addr} {xs : List V} (h : H a = some (.tup xs)) (r : RDs H t.ds xs) : RD H t.d (.ref a) := by
 unfold Th.d
 exact RD.tup_mk h r
theorem U0 {H : Hp} {t : Th} {n : Int} {a : Addr} {x : V} (h : H a = some (.tup [x, .int n])) (r : RD H t.d x) : RD H (it2 (t, n)) (.ref a) := by
 unfold it2
 exact RD.tup_mk h (RDs.cons r (RDs.one RD.int_mk))
theorem oy {H : Hp} {t u : Th} {n : Int} {a : Addr} {x y : V} (h : H a = some (.tup [x, y, .int n])) (r : RD H t.d x) (r2 : RD H u.d y) : RD H (pgD (t, u, n)) (.ref a) := by
 unfold pgD
 exact RD.tup_mk h (RDs.cons r (RDs.cons r2 (RDs.one RD.int_mk)))
theorem Fl {H : Hp} {ds : List PyData} {a : Addr} {vs : List V} (h : H a = some (.lst vs)) (r : RDs H ds vs) : RD H (.list ds) (.ref a) := by
 rw [RD]
 exact ⟨a, vs, rfl, h, r⟩
theorem Di {H : Hp} {ds : List PyData} {a : Addr} (h : RD H (.list ds) (.ref a)) : ∃ vs, H a = some (.lst vs) /\ RDs H ds vs := by
 rw [RD] at h
 obtain ⟨b, xs, e, h1, h2⟩ := h
 cases e
 exact ⟨xs, h1, h2⟩
structure Acc (H0 H : Hp) (q : Addr) (l : List PyData) : Prop where
 new : H0 q = none
 same : Same H0 H
 rd : RD H (.list l) (.ref q)
 nl : Be l = true
theorem Vi : ∀ {l m : List PyData}, Be l = true -> Be m = true -> Be (l ++ m) = true
 | [], m, _, h => h
 | d :: l, m, h, h' => by
  rw [Be, Zyi] at h
  rw [Zx8, Be, h.1, Vi h.2 h']
  rfl
theorem Acc.step {H0 H H2 : Hp} {q : Addr} {l : List PyData} (a : Acc H0 H q l) (s : Same H H2) : Acc H0 H2 q l := ⟨a.new, a.same.trans s, RD.same s _ _ a.rd, a.nl⟩
theorem Acc.put {H0 H : Hp} {q : Addr} {l : List PyData} {d : PyData} {v : V} (a : Acc H0 H q l) (r : RD H d v) (n : Ci d = true) : ∃ vs, H q = some (.lst vs) /\ vs.length = l.length /\ Acc H0 (upd H q (.lst (vs ++ [v]))) q (l ++ [d]) := by
 obtain ⟨vs, h1, h2⟩ := Di a.rd
 have kk : KeepU H (upd H q (.lst (vs ++ [v]))) := Ep h1
 refine ⟨vs, h1, RDs.len h2, a.new, λb o e => by rw [A5 (A6 e a.new)]; exact a.same b o e, ?_, Vi a.nl (by rw [Be, n]; rfl)⟩
 exact Fl A0 (RDs.app (RDs.ku kk _ _ a.nl h2) (RDs.one (RD.ku kk _ _ n r)))
theorem Acc.made {H0 H : Hp} {q : Addr} {l : List PyData} {vs : List V} (s : Same H0 H) (hq : H q = none) (r : RDs H l vs) (n : Be l = true) : Acc H0 (upd H q (.lst vs)) q l :=
 ⟨Same.free s hq, s.trans (A3 hq), Fl A0 (RDs.same (A3 hq) _ _ r), n⟩
theorem qc {n : Nat} (h : n < 1000000) : n < sizeLine := Zzb h (by decide)
theorem qd {n : Nat} (h : n <= 1000000) : n <= sizeLine := Zyx h (by decide)
def Ni (w : Wr) (d : Nat) (i : Nat) : List It3 := Fm (λk (c : Int × Int) => if c.1 = (d : Int) then [(Th.coming k, (d : Int), c.2)] else []) w.coming i
def Lz (plan : Str -> List Int) (w : Wr) (d : Nat) : List It3 := Ni w d w.coming.length ++ [(Th.lots d, (d : Int), (plan w.name).getD d 0 * w.gives)]
def Dz (plan : Str -> List Int) (w : Wr) (n : Nat) : List It3 := (Th.stock, 0, w.stock) :: (Zz9 n).flatMap (Lz plan w)
theorem Tx (plan : Str -> List Int) (w : Wr) (n : Nat) : Dz plan w (n + 1) = Dz plan w n ++ Lz plan w n := by
 unfold Dz
 rw [Zyg, Zy5, Zyd, Zx8]
theorem N1 {α : Type} {f : Nat -> List α} {b : Nat} (h : ∀ k, (f k).length <= b) : ∀ n, ((Zz9 n).flatMap f).length <= n * b
 | 0 => Zz3 _
 | n + 1 => by
  have ih := N1 h n
  rw [Zyg, Zy5, Zyd, Zze, Nat.succ_mul]
  have := h n
  omega
theorem Qx {α : Type} {c : Prop} [Decidable c] (x : α) : (if c then [x] else []).length <= 1 := by split <;> simp
theorem Kp (w : Wr) (d i : Nat) : (Ni w d i).length <= i := by
 have := Gw (f := λk (c : Int × Int) => if c.1 = (d : Int) then [(Th.coming k, (d : Int), c.2)] else []) (xs := w.coming) (b := 1) (λk x => Qx _) i
 unfold Ni
 omega
theorem Hi {plan : Str -> List Int} {w : Wr} (h : w.coming.length <= 12) (n : Nat) : (Dz plan w n).length <= 1 + n * 13 := by
 have := N1 (f := Lz plan w) (b := 13) (λd => by
  unfold Lz
  rw [Zze, Zyt]
  have := Kp w d w.coming.length
  omega) n
 unfold Dz
 rw [Zyl]
 omega
def Nr (l : List It3) : List It3 := l.filter λq => decide (0 < q.2.2)
def Ik (l : List (Th × Int)) : List (Th × Int) := l.filter λq => decide (0 < q.2)
theorem U2 (l : List It3) : Ik (l.map dr) = (Nr l).map dr := by
 unfold Ik Nr
 rw [List.filter_map]
 rfl
theorem S8 {l : List (Th × Int)} : ∀ x ∈ Ik l, 0 < x.2 := λx hx => of_decide_eq_true (Zys.mp hx).2
def Kv (us : List Wt) (x : Str) (d i : Nat) : List It3 := Fm (λk (u : Wt) => if u.1 = x /\ u.2.1 = (d : Int) then [(Th.want k, (d : Int), u.2.2)] else []) us i
abbrev Tk := Str × Int × List Int
def Nn (plan : Str -> List Int) (x : Str) (t : Wr) (j : Nat) : List Tk := Fm (λ_ (p : Str × Int) => if p.1 = x then [(t.name, t.lag, (Ax (plan t.name) t.lag).map (· * p.2))] else []) t.parts j
def tkL (plan : Str -> List Int) (x : Str) (ws : List Wr) (i : Nat) : List Tk := Fm (λ_ (t : Wr) => Nn plan x t t.parts.length) ws i
def Me (d : Nat) (k : Tk) : It3 := (Th.part k.1 (d + k.2.1), (d : Int), k.2.2.getD d 0)
def Sq (S : Sh) (plan : Str -> List Int) (x : Str) (ws : List Wr) (d : Nat) : List It3 := Kv S.wants x d S.wants.length ++ (tkL plan x ws ws.length).map (Me d)
def Gc (S : Sh) (plan : Str -> List Int) (w : Wr) (ws : List Wr) (n : Nat) : List It3 := (Th.floor, 0, w.floor) :: (Zz9 n).flatMap (Sq S plan w.name ws)
theorem X5 (S : Sh) (plan : Str -> List Int) (w : Wr) (ws : List Wr) (n : Nat) : Gc S plan w ws (n + 1) = Gc S plan w ws n ++ Sq S plan w.name ws n := by
 unfold Gc
 rw [Zyg, Zy5, Zyd, Zx8]
theorem Jy (us : List Wt) (x : Str) (d i : Nat) : (Kv us x d i).length <= i := by
 have := Gw (f := λk (u : Wt) => if u.1 = x /\ u.2.1 = (d : Int) then [(Th.want k, (d : Int), u.2.2)] else []) (xs := us) (b := 1) (λk x => Qx _) i
 unfold Kv
 omega
theorem Ru (plan : Str -> List Int) (x : Str) (t : Wr) (j : Nat) : (Nn plan x t j).length <= j := by
 have := Gw (f := λ_ (p : Str × Int) => if p.1 = x then [((t.name, t.lag, (Ax (plan t.name) t.lag).map (· * p.2)) : Tk)] else []) (xs := t.parts) (b := 1) (λk x => Qx _) j
 unfold Nn
 omega
theorem Pn {plan : Str -> List Int} {x : Str} {ws : List Wr} (h : ∀ t ∈ ws, t.parts.length <= 12) (i : Nat) : (tkL plan x ws i).length <= i * 12 := by
 have e : tkL plan x ws i = Fm (λ_ (t : Wr) => if t.parts.length <= 12 then Nn plan x t t.parts.length else []) ws i := by
  unfold tkL
  exact U3 λk t _ ht => by rw [if_pos (h t (Zzw ht))]
 rw [e]
 exact Gw (λk t => by split; exact Zyx (Ru _ _ _ _) (by assumption); exact Zz3 _) i
theorem Z6 {S : Sh} {plan : Str -> List Int} {x : Str} {ws : List Wr} (h : ∀ t ∈ ws, t.parts.length <= 12) (h1 : ws.length <= 12) (h2 : S.wants.length <= 20) (d : Nat) : (Sq S plan x ws d).length <= 164 := by
 unfold Sq
 rw [Zze, Zzz]
 have a1 := Jy S.wants x d S.wants.length
 have a2 := Pn (plan := plan) (x := x) h ws.length
 omega
theorem Ji {S : Sh} {plan : Str -> List Int} {w : Wr} {ws : List Wr} (h : ∀ t ∈ ws, t.parts.length <= 12) (h1 : ws.length <= 12) (h2 : S.wants.length <= 20) (n : Nat) : (Gc S plan w ws n).length <= 1 + n * 164 := by
 have := N1 (f := Sq S plan w.name ws) (b := 164) (λd => Z6 h h1 h2 d) n
 unfold Gc
 rw [Zyl]
 omega
def OrdOk (S : Sh) (ws : List Wr) : Prop := (∀ t ∈ ws, t ∈ S.wares) /\ G1 (lv S) (Ag S) (ws.map (·.name))
theorem OrdOk.len {S : Sh} {ws : List Wr} (h : OrdOk S ws) : ws.length = S.wares.length := by
 have := (Cw h.2).1.length_eq
 rw [Zzz, Bs] at this
 exact this
end
set_option maxHeartbeats 4000000
section
variable {P : Program} {w : World} {K : Zzv} {mg : Str -> Option Value} {base : Heap} {f : Addr} {fd : FuncData} {Pt : Addr}
theorem Acc.ty {H0 H : Hp} {q : Addr} {l : List PyData} (a : Acc H0 H q l) : Le H (.ref q) = some "list" := by obtain ⟨_, h, _⟩ := Di a.rd; exact Dn h
theorem Acc.pair {H0 H : Hp} {q : Addr} {l : List (Th × Int)} {t1 t2 : Addr} {xs : List V} {n : Int} (th : Th) (a : Acc H0 H q (l.map it2)) (h1 : H t1 = none) (h2 : upd H t1 (.tup xs) t2 = none) (r : RDs H th.ds xs) (hl : l.length < 1000000) :
  ∃ vs, upd (upd H t1 (.tup xs)) t2 (.tup [.ref t1, .int n]) q = some (.lst vs) /\ vs.length < sizeLine /\ Acc H0 (upd (upd (upd H t1 (.tup xs)) t2 (.tup [.ref t1, .int n])) q (.lst (vs ++ [.ref t2]))) q ((l ++ [(th, n)]).map it2) := by
 have u1 := A3 (o := .tup xs) h1
 have u2 := A3 (o := .tup [.ref t1, .int n]) h2
 have rt : RD (upd H t1 (.tup xs)) th.d (.ref t1) := Vb A0 (RDs.same u1 _ _ r)
 obtain ⟨vs, hv, hvl, a'⟩ := ((a.step u1).step u2).put (U0 (n := n) A0 (RD.same u2 _ _ rt)) (Qn _)
 rw [Zzz] at hvl
 refine ⟨vs, hv, qc (by omega), ?_⟩
 rw [Zzm]
 exact a'
theorem Acc.peg {H0 H : Hp} {q : Addr} {l : List (Th × Th × Int)} {t : Addr} {x y : V} {n : Int} {u v : Th} (a : Acc H0 H q (l.map pgD)) (h : H t = none) (r : RD H u.d x) (r2 : RD H v.d y) (hl : l.length < 10000000) :
  ∃ vs, upd H t (.tup [x, y, .int n]) q = some (.lst vs) /\ vs.length < sizeLine /\ Acc H0 (upd (upd H t (.tup [x, y, .int n])) q (.lst (vs ++ [.ref t]))) q ((l ++ [(u, v, n)]).map pgD) := by
 have u1 := A3 (o := .tup [x, y, .int n]) h
 obtain ⟨vs, hv, hvl, a'⟩ := (a.step u1).put (oy (n := n) A0 (RD.same u1 _ _ r) (RD.same u1 _ _ r2)) (Ox _)
 rw [Zzz] at hvl
 refine ⟨vs, hv, by rw [hvl]; exact Zzb hl (by decide), ?_⟩
 rw [Zzm]
 exact a'
theorem jv {H H' : Hp} {l : List PyData} {q Pt : Addr} (h : RD H (.list l) (.ref q)) (n : Be l = true) (tb : Tb H Pt) (bt : But Pt H H') : RD H' (.list l) (.ref q) := by
 obtain ⟨vs, h1, h2⟩ := Di h
 exact Fl (bt _ _ (Dx tb h1 λu z => by cases z) h1) (RDs.ku (Dy tb bt) _ _ n h2)
theorem Hh {H H' : Hp} {q Pt : Addr} (tb' : Tb H' Pt) (bt : But Pt H H') (h : H' q = none) : H q = none := bt.none (λz => by obtain ⟨u, e⟩ := tb'.at; rw [z, e] at h; cases h) h
def sp_without_nothing : Sp := λvs H Q _ => ∃ (a : Addr) (l : List (Th × Int)), vs = [.ref a] /\ RD H (.list (l.map it2)) (.ref a) /\ l.length <= 1000000 /\ ∀ q H', Acc H H' q ((Ik l).map it2) -> Q (.ref q) H'
def qw (l : List (Th × Int)) (H : Hp) (i : Nat) (acc : List V) (H' : Hp) : Prop := RDs H' ((Ik (l.take i)).map it2) acc /\ Same H H'
theorem Ih : Aj ["amounts"] ["amounts"] (Ad Co) := by walk_at "sc"
theorem Il (F : Fun K "without_nothing" "without_nothing" Co f fd) (T : Txt mg) : Bh P w K mg base CX0 1 f fd ["amounts"] sp_without_nothing := by
 refine F.ok Ih (λvs H Q E h => ?_) (λcdv A outer s H vs Q E hr h => ?_)
 ·obtain ⟨a, l, rfl, _⟩ := h
  rfl
 ·obtain ⟨a, l, rfl, rd, hlen, k⟩ := h
  have hu := B5 hr
  refine ⟨_, (A9 (Ak (Ff (own := ["entry"]) (cap := []) rfl (G0 rfl) (C9 (by decide)) (Cl (pv 0))
 (λ_ _ _ _ _ _ => ⟨(Ac (i := 0) (of_decide_eq_true rfl) rfl (Zzq rfl) (.inr rfl)), (Vc (Al Jg (A7 hu (pv 0) A8 (λ_ _ => rfl)) A8 (Am _))), (pv 0)⟩)))), ?_⟩
  obtain ⟨vs, ha, rv⟩ := Di rd
  have hl := B2 rv
  walk_at "rd"
  refine ⟨vs, ha, ?_⟩
  refine Nf (Dl a _) (qd (by omega)) (qw l H) ⟨RDs.nil, Same.refl _⟩ (λi acc H' _ h => h.2 _ _ ha) (λi acc H' h => ?_) (λi y acc H1 hi hy h => ?_) (λacc H1 h p hp => ?_)
  ·rw [B2 h.1]
   exact Zyx (Zx0 _ _) (by rw [Zym]; exact Nat.min_le_left _ _)
  ·obtain ⟨r, s1⟩ := h
   obtain ⟨z, hz, rz⟩ := Bc rv hy
   have et : Ik (l.take (i + 1)) = Ik (l.take i) ++ Ik [z] := by
    unfold Ik
    rw [Zz8, hz, Zvp]
    rfl
   have rz1 := RD.same s1 _ _ rz
   obtain ⟨b, x, rfl, hb, rx⟩ := Qy rz1
   walk_at "rd"
   refine ⟨_, Ab (j := 1) hb rfl, _, rfl, Cr (λc => ⟨?_, s1⟩) (λc => ⟨?_, s1⟩)⟩
   ·have c := of_decide_eq_true c
    have e1 : Ik [z] = [z] := by unfold Ik; rw [Zwp, if_pos (decide_eq_true c)]; rfl
    rw [et, e1, Zzm]
    exact RDs.app r (RDs.one rz1)
   ·have c : ¬ 0 < z.2 := λh => c (decide_eq_true h)
    have e1 : Ik [z] = [] := by unfold Ik; rw [Zwp, if_neg (λh => c (of_decide_eq_true h))]; rfl
    rw [et, e1, Zyu]
    exact r
  ·obtain ⟨r, s1⟩ := h
   rw [hl, Zz4] at r
   exact k p _ (Acc.made s1 hp r (Bf it2 Qn _))
def sp_supplies : Sp := λvs H Q _ => ∃ (a : Addr) (x : V) (S : Sh) (plan : Str -> List Int) (w : Wr) (sz : Int), vs = [.ref a, x] /\ PlanAt H a S plan /\ RD H w.d x /\ w ∈ S.wares /\ Good sz S /\ 0 < sz /\ sz <= 1000 /\ ∀ q H', Acc H H' q ((Ik ((Dz plan w (daysN S)).map dr)).map it2) -> Q (.ref q) H'
def r9 (a : Addr) (x : V) (q : Addr) (plan : Str -> List Int) (w : Wr) (H : Hp) (i : Nat) (Z : St) (H' : Hp) : Prop := ∃ o3 o4 o5 o6 : Option V, Z = [some (.ref a), some x, some (.ref q), o3, o4, o5, o6] /\ Acc H H' q (((Dz plan w i).map dr).map it2)
def SuIn (a : Addr) (x : V) (q : Addr) (d : Nat) (n : Int) (plan : Str -> List Int) (w : Wr) (H : Hp) (j : Nat) (Z : St) (H' : Hp) : Prop := ∃ o5 o6 : Option V, Z = [some (.ref a), some x, some (.ref q), some (.int d), some (.int n), o5, o6] /\ Acc H H' q (((Dz plan w d ++ Ni w d j).map dr).map it2)
theorem sc_supplies : Aj ["plan", "ware", "told", "day", "lots", "number", "arrival"] ["plan", "ware"] (Ad G3) := by walk_at "sc"
theorem Sf (F : Fun K "supplies" "supplies" G3 f fd) (T : Txt mg) (Zvh : Has P w K mg base "without_nothing" 1 ["amounts"] sp_without_nothing) : Bh P w K mg base CX0 2 f fd ["plan", "ware"] sp_supplies := by
 refine F.ok sc_supplies (λvs H Q E h => ?_) (λcdv A outer s H vs Q E hr h => ?_)
 ·obtain ⟨a, x, S, plan, w, sz, rfl, _⟩ := h
  rfl
 ·obtain ⟨a, x, S, plan, w, sz, rfl, pl, rx, hm, g, z0, z1, k⟩ := h
  have hu := B5 hr
  obtain ⟨n1, n2, n3, n4⟩ := g.days z0 z1
  refine ⟨_, (A2 (Ae (i := 2) sc_supplies.nd rfl (Zzq rfl) (Bp (A4 (Aq (A4 (Aq (A4 Bo A1)) (A4 (A7 hu (pv 1) (Ah rfl T.Zup) (λ_ _ => rfl)) A1))) A1)))
 (A2 (Az PassesOwn.never rfl (Lm rfl T.Zv8 (A4 (A7 hu (pv 0) (A7 hu (pv 1) (Ah rfl T.Zvj) (λ_ _ => rfl)) (λ_ _ => rfl)) A1)) (Cd (n := 2) rfl (Ai (Ac (i := 3) sc_supplies.nd rfl (Zzq rfl)) (Ai (Ac (i := 4) sc_supplies.nd rfl (Zzq rfl)) Bn)))
 (A2 (Az PassesOwn.never rfl (S9 rfl T.Zv8 (A4 (A7 hu (pv 1) (Ah rfl T.Zux) (λ_ _ => rfl)) A1)) (Cd (n := 2) rfl (Ai (Ac (i := 5) sc_supplies.nd rfl (Zzq rfl)) (Ai (Ac (i := 6) sc_supplies.nd rfl (Zzq rfl)) Bn)))
 (A9 (Bd (Al (Bq hu) (A7 hu (pv 6) A8 (λ_ _ => rfl)) (pv 3) (Am _)) (A9 (Ba (E5 Zz6 Zz2 Zz1 Bj (pv 2) (A4 (Aq (A4 (Aq (A4 Bo (A4 (pv 5) A1))) (A4 (A7 hu (pv 6) A8 (λ_ _ => rfl)) A1))) A1)))) Ao)))
 (A9 (Ba (E5 Zz6 Zz2 Zz1 Bj (pv 2) (A4 (Aq (A4 (Aq (A4 Bo (A4 (pv 3) A1))) (A4 (Ar Jf (pv 4) (A7 hu (pv 1) (Ah rfl T.Zuv) (λ_ _ => rfl))) A1))) A1))))))
 (A9 (Ak (Aa Zvh hr.z rfl (A4 (pv 2) A1)))))), ?_⟩
  obtain ⟨xe, c1, c2, rfl, hxe, rc, rp⟩ := Bg rx
  obtain ⟨cb, cv, rfl, hcb, rcv⟩ := RD.tup_of rc
  have hlc := B2 rcv
  have hc12 := (g.com w hm).1
  have wb := g.ws.wb w hm
  obtain ⟨kvs, hkv, hpl⟩ := id pl
  obtain ⟨l, hv, hll, hlen, hbd⟩ := hpl w.name (Zzs.mpr ⟨w, hm, rfl⟩)
  walk_at "rd"
  refine ⟨by decide, λt1 ht1 => ⟨_, Ab (j := 4) (A3 ht1 _ _ hxe) rfl, by decide, λt2 ht2 => ⟨by decide, λq hq => ?_⟩⟩⟩
  have s2 := (A3 (o := .tup [V.str "stock"]) ht1).trans (A3 (o := .tup [V.ref t1, V.int w.stock]) ht2)
  have s3 := s2.trans (A3 (o := .lst [V.ref t2]) hq)
  have a0 : Acc H (upd (upd (upd H t1 (.tup [V.str "stock"])) t2 (.tup [V.ref t1, V.int w.stock])) q (.lst [V.ref t2])) q (((Dz plan w 0).map dr).map it2) := by
   refine Acc.made s2 hq (RDs.one (U0 (t := .stock) A0 (Vb ?_ (RDs.one RD.str_mk)))) (Bf it2 Qn _)
   exact A3 ht2 _ _ A0
  refine ⟨_, Ab (j := 0) (s3 _ _ hxe) rfl, _, Dj (hkv.same s3) hv, l, rfl, _, s3 _ _ hll, ?_⟩
  generalize upd (upd (upd H t1 (.tup [V.str "stock"])) t2 (.tup [V.ref t1, V.int w.stock])) q (.lst [V.ref t2]) = H3 at a0 s3 ⊢
  refine L6 (Vs l _) (r9 a (.ref xe) q plan w H) ⟨_, _, _, _, rfl, a0⟩ (λi Z H' _ h => by obtain ⟨_, _, _, _, _, ac⟩ := h; exact ac.same _ _ hll) (λi us t Z H4 hi hy h ht => ?_) (λZ H4 h => ?_)
  ·obtain ⟨o3, o4, o5, o6, rfl, ac⟩ := h
   obtain ⟨y, ey, rfl⟩ := hy
   have hy := Ei ey
   subst hy
   rw [Zzz, hlen] at hi
   refine gT2 ?_
   have ac5 := ac.step (A3 (o := .tup [.int i, .int ((plan w.name).getD i 0)]) ht)
   generalize upd H4 t (.tup [.int i, .int ((plan w.name).getD i 0)]) = H5 at ac5 ⊢
   have sl := Hi (plan := plan) hc12 i
   walk_at "rd"
   refine ⟨_, Ab (j := 5) (ac5.same _ _ hxe) rfl, cb, rfl, cv, ac5.same _ _ hcb, ?_⟩
   refine L6 (Zv cb _) (SuIn a (.ref xe) q i ((plan w.name).getD i 0) plan w H) ⟨_, _, rfl, by rw [show Ni w i 0 = [] from rfl, Zyu]; exact ac5⟩ (λj Z H' _ h => by obtain ⟨_, _, _, ac⟩ := h; exact ac.same _ _ hcb) (λj us t' Z H6 hj hy h ht' => ?_) (λZ H6 h => ?_)
   ·obtain ⟨o5, o6, rfl, ac6⟩ := h
    obtain ⟨y, ey, rfl⟩ := hy
    obtain ⟨c, hc, ry⟩ := Bc rcv ey
    obtain ⟨e, rfl, he⟩ := az ry
    refine gT2 ?_
    have ac7 := ac6.step (A3 (o := .tup [.int j, .ref e]) ht')
    generalize upd H6 t' (.tup [.int j, .ref e]) = H7 at ac7 ⊢
    have he7 := ac7.same _ _ he
    have cl := Kp w i j
    have es : Ni w i (j + 1) = Ni w i j ++ if c.1 = (i : Int) then [(Th.coming j, (i : Int), c.2)] else [] := Cj hc
    walk_at "rd"
    refine ⟨_, Ab (j := 0) he7 rfl, rfl, Cr (λhz => ?_) (λhz => ?_)⟩
    ·have hz : c.1 = (i : Int) := V.int.inj (of_decide_eq_true hz)
     refine ⟨ac7.ty, by decide, λp1 hp1 => ⟨_, Ab (j := 1) (A3 hp1 _ _ he7) rfl, by decide, λp2 hp2 => ?_⟩⟩
     obtain ⟨vs, hvs, hvl, ac8⟩ := ac7.pair (n := c.2) (.coming j) hp1 hp2 (RDs.cons RD.str_mk (RDs.one RD.int_mk)) (by rw [Zzz, Zze]; omega)
     refine ⟨vs, hvs, hvl, _, _, rfl, ?_⟩
     rw [es, if_pos hz, <- Zxx, Zzm]
     exact ac8
    ·have hz : ¬ c.1 = (i : Int) := λe => hz (decide_eq_true (by rw [e]))
     refine ⟨_, _, rfl, ?_⟩
     rw [es, if_neg hz, Zyu]
     exact ac7
   ·obtain ⟨o5, o6, rfl, ac6⟩ := h
    rw [hlc] at ac6
    have cl := Kp w i w.coming.length
    walk_at "rd"
    refine ⟨ac6.ty, by decide, λp1 hp1 => ⟨_, Ab (j := 2) (A3 hp1 _ _ (ac6.same _ _ hxe)) rfl, _, rfl, ?_, by decide, λp2 hp2 => ?_⟩⟩
    ·exact .inr ⟨by have := Vt (B := 10 ^ 2000) (by decide +kernel) (λx hx => ⟨(hbd x hx).1, Zvw (hbd x hx).2⟩) i; omega, by have := wb.gives; omega⟩
    ·obtain ⟨vs, hvs, hvl, ac8⟩ := ac6.pair (n := (plan w.name).getD i 0 * w.gives) (.lots i) hp1 hp2 (RDs.cons RD.str_mk (RDs.one RD.int_mk)) (by rw [Zzz, Zze]; omega)
     refine ⟨vs, hvs, hvl, _, _, _, _, rfl, ?_⟩
     rw [Tx]
     unfold Lz
     rw [<- Zxx, Zzm]
     exact ac8
  ·obtain ⟨o3, o4, o5, o6, rfl, ac⟩ := h
   rw [Zzz, hlen] at ac
   have sl := Hi (plan := plan) hc12 (daysN S)
   walk_at "rd"
   refine ⟨q, (Dz plan w (daysN S)).map dr, rfl, ac.rd, by rw [Zzz]; omega, λq2 H5 a5 => k q2 H5 ⟨Same.free ac.same a5.new, ac.same.trans a5.same, a5.rd, a5.nl⟩⟩
end
set_option maxHeartbeats 4000000
section
variable {P : Program} {w : World} {K : Zzv} {mg : Str -> Option Value} {base : Heap} {f : Addr} {fd : FuncData} {Pt : Addr}
def TkAt (H : Hp) (q : Addr) (tk : List Tk) : Prop := ∃ vs : List V, H q = some (.lst vs) /\ vs.length = tk.length /\ ∀ (i : Nat) (k : Tk), tk[i]? = some k -> ∃ t r : Addr, vs[i]? = some (.ref t) /\ r ≠ q /\ H t = some (.tup [.str k.1, .int k.2.1, .ref r]) /\ H r = some (.lst (k.2.2.map V.int))
theorem TkAt.same {H H' : Hp} {q : Addr} {tk : List Tk} (h : TkAt H q tk) (s : Same H H') : TkAt H' q tk := by
 obtain ⟨vs, h1, h2, h3⟩ := h
 exact ⟨vs, s _ _ h1, h2, λi k e => by obtain ⟨t, r, e1, e2, e3, e4⟩ := h3 i k e; exact ⟨t, r, e1, e2, s _ _ e3, s _ _ e4⟩⟩
theorem TkAt.put {H : Hp} {q t r : Addr} {tk : List Tk} {k : Tk} (h : TkAt H q tk) (rq : r ≠ q) (ht : H t = some (.tup [.str k.1, .int k.2.1, .ref r])) (hr : H r = some (.lst (k.2.2.map V.int))) : ∃ vs, H q = some (.lst vs) /\ vs.length = tk.length /\ TkAt (upd H q (.lst (vs ++ [.ref t]))) q (tk ++ [k]) := by
 obtain ⟨vs, h1, h2, h3⟩ := h
 have tq : ∀ {t : Addr} {xs : List V}, H t = some (.tup xs) -> t ≠ q := λe => Eo e h1 (λz => by cases z)
 refine ⟨vs, h1, h2, vs ++ [.ref t], A0, by rw [Zze, Zze, h2]; rfl, λi k' e => ?_⟩
 by_cases hi : i < tk.length
 ·rw [Zy6 hi] at e
  obtain ⟨t', r', e1, e2, e3, e4⟩ := h3 i k' e
  exact ⟨t', r', by rw [Zy6 (by omega)]; exact e1, e2, by rw [A5 (tq e3)]; exact e3, by rw [A5 e2]; exact e4⟩
 ·rw [Zyk (by omega)] at e
  have hi0 : i - tk.length = 0 := by
   cases e' : i - tk.length with
   | zero => rfl
   | succ n => rw [e'] at e; simp at e
  rw [hi0] at e
  have e : k = k' := by simpa using e
  subst e
  exact ⟨t, r, by rw [Zyk (by omega), h2, hi0]; rfl, rq, by rw [A5 (tq ht)]; exact ht, by rw [A5 rq]; exact hr⟩
def Ix (Pt : Addr) : Sp := λvs H Q _ => ∃ (v : V) (a : Addr) (x : V) (S : Sh) (plan : Str -> List Int) (w : Wr) (ws : List Wr) (sz : Int), vs = [v, .ref a, x] /\ RD H S.d v /\ PlanAt H a S plan /\ RD H w.d x /\ Good sz S /\ 0 < sz /\ sz <= 1000 /\ OrdOk S ws /\ Tb H Pt /\
 ∀ q H', H q = none -> TkAt H' q (tkL plan w.name ws ws.length) -> Tb H' Pt -> But Pt H H' -> Q (.ref q) H'
def qx (v : V) (a : Addr) (x : V) (q : Addr) (plan : Str -> List Int) (nm : Str) (ws : List Wr) (H1 : Hp) (i : Nat) (Z : St) (H' : Hp) : Prop := ∃ o4 o5 o6 o7 o8 : Option V, Z = [some v, some (.ref a), some x, some (.ref q), o4, o5, o6, o7, o8] /\ TkAt H' q (tkL plan nm ws i) /\ ∀ b o, b ≠ q -> H1 b = some o -> H' b = some o
def TkIn (v : V) (a : Addr) (x : V) (q : Addr) (plan : Str -> List Int) (nm : Str) (ws : List Wr) (t : Wr) (te : Addr) (i : Nat) (H1 : Hp) (j : Nat) (Z : St) (H' : Hp) : Prop := ∃ o6 o7 o8 : Option V, Z = [some v, some (.ref a), some x, some (.ref q), some (.str t.name), some (.ref te), o6, o7, o8] /\ TkAt H' q (tkL plan nm ws i ++ Nn plan nm t j) /\ ∀ b o, b ≠ q -> H1 b = some o -> H' b = some o
theorem sc_takers_of : Aj ["shop", "plan", "ware", "told", "name", "taker", "part", "amount", "takes"] ["shop", "plan", "ware"] (Ad Ey) := by walk_at "sc"
theorem Qe (F : Fun K "takers_of" "takers_of" Ey f fd) (T : Txt mg) (Zvk : Has P w K mg base "worked" 6 ["shop"] (El Pt)) (Zvm : Has P w K mg base "ware_of" 1 ["shop", "name"] sp_ware_of) (Zv7 : Has P w K mg base "begun_row" 1 ["plan", "ware"] sp_begun_row) : Bh P w K mg base CX0 7 f fd ["shop", "plan", "ware"] (Ix Pt) := by
 refine F.ok sc_takers_of (λvs H Q E h => ?_) (λcdv A outer s H vs Q E hr h => ?_)
 ·obtain ⟨v, a, x, S, plan, w, ws, sz, rfl, _⟩ := h
  rfl
 ·obtain ⟨v, a, x, S, plan, w, ws, sz, rfl, rs, pl, rx, g, z0, z1, od, tb, k⟩ := h
  have hu := B5 hr
  obtain ⟨n1, n2, n3, n4⟩ := g.days z0 z1
  refine ⟨_, (A2 (Ae (i := 3) sc_takers_of.nd rfl (Zzq rfl) (Bp A1))
 (A2 (Az PassesOwn.never rfl (Cl (Aa Zvk hr.z rfl (A4 (pv 0) A1))) (Ac (i := 4) sc_takers_of.nd rfl (Zzq rfl))
 (A2 (Ae (i := 5) sc_takers_of.nd rfl (Zzq rfl) (Aa Zvm hr.z rfl (A4 (pv 0) (A4 (pv 4) A1))))
 (A9 (Az PassesOwn.never rfl (Dg (A7 hu (pv 5) (Ah rfl T.Zuu) (λ_ _ => rfl))) (Cd (n := 2) rfl (Ai (Ac (i := 6) sc_takers_of.nd rfl (Zzq rfl)) (Ai (Ac (i := 7) sc_takers_of.nd rfl (Or.inr rfl)) Bn)))
 (A9 (Bd (Al (Bq hu) (pv 6) (A7 hu (pv 2) (Ah rfl T.Zvj) (λ_ _ => rfl)) (Am _)) (A2 (En (own := ["lots"]) (cap := [7]) (i := 8) rfl (G0 rfl) (C9 (by decide)) sc_takers_of.nd rfl rfl (Cl (Aa Zv7 hr.z rfl (A4 (pv 1) (A4 (pv 5) A1))))
 (λ_ _ _ _ _ _ => ⟨(Ac (i := 0) (of_decide_eq_true rfl) rfl (Zzq rfl) (.inr rfl)), De, (Ar Jf (pv 0) (pv 1))⟩))
 (A9 (Ba (E5 Zz6 Zz2 Zz1 Bj (pv 3) (A4 (Aq (A4 (pv 4) (A4 (A7 hu (pv 5) (Ah rfl T.Zus) (λ_ _ => rfl)) (A4 (pv 8) A1)))) A1))))) Ao))))))
 (A9 (Ak (pv 3))))), ?_⟩
  obtain ⟨xe, c1, c2, rfl, hxe, _⟩ := Bg rx
  have L := Fy g
  have wlen := od.len
  have w12 := g.len.2
  walk_at "rd"
  refine ⟨by decide, λq hq => ?_⟩
  have u0 := A3 (o := .lst []) hq
  refine ⟨v, S, rfl, RD.same u0 _ _ rs, L, tb.same u0, λr ys H1 hr1 hr2 so sb tb1 bt1 => ⟨r, rfl, _, hr2, ?_⟩⟩
  have ey : ys = ws.map (·.name) := Oq sb od.2
  subst ey
  have tb0 := tb.same u0
  have hq1 : H1 q = some (.lst []) := bt1 _ _ (Dx tb0 A0 λu z => by cases z) A0
  have rq : r ≠ q := λz => by rw [z, A0] at hr1; cases hr1
  have keepB : ∀ (H' : Hp), (∀ b o, b ≠ q -> H1 b = some o -> H' b = some o) -> But Pt H H' := λH' kp b o nb e => kp _ _ (A6 e hq) (bt1 _ _ nb (u0 _ _ e))
  have keepT : ∀ (H' : Hp), (∀ b o, b ≠ q -> H1 b = some o -> H' b = some o) -> Tb H' Pt := λH' kp => by
   rcases tb1 with e | ⟨c, e, e2⟩
   ·exact .inl (kp _ _ (λz => by rw [z, hq1] at e; cases e) e)
   ·exact .inr ⟨c, kp _ _ (λz => by rw [z, hq1] at e; cases e) e, kp _ _ (λz => by rw [z, hq1] at e2; cases e2) e2⟩
  have emp : TkAt H1 q (tkL plan w.name ws 0) := ⟨[], hq1, rfl, λi k e => by cases e⟩
  refine Bw (Dl r _) (qx v a (.ref xe) q plan w.name ws H1) ⟨_, _, _, _, _, rfl, emp, λb o _ e => e⟩ (λi Z H' _ h => by obtain ⟨_, _, _, _, _, _, _, kp⟩ := h; exact kp _ _ rq hr2) (λi y Z H2 hi hy h => ?_) (λZ H2 h => ?_)
  ·obtain ⟨o4, o5, o6, o7, o8, rfl, ta, kp⟩ := h
   rw [Zzz, Zzz] at hi
   obtain ⟨t0, ht0⟩ : ∃ t0, ws[i]? = some t0 := ⟨_, Zzr hi⟩
   rw [Zzx, Zzx, ht0] at hy
   have hy : V.str t0.name = y := Zzn hy
   subst hy
   have ht0m := od.1 t0 (Zzw ht0)
   have bt2 := keepB H2 kp
   have rs2 := RD.ku (Dy tb bt2) _ _ (C3 S) rs
   walk_at "rd"
   refine ⟨v, S, t0.name, rfl, rs2, L.ok, Zzs.mpr ⟨t0, ht0m, rfl⟩, λtv t htm etn rt => ?_⟩
   have ett : t = t0 := Jx L.nd htm ht0m etn
   subst ett
   have wb := g.ws.wb t htm
   obtain ⟨te, d1, d2, rfl, hte, rc, rp⟩ := Bg rt
   obtain ⟨pb, pv, rfl, hpb, rpv⟩ := RD.tup_of rp
   have hlp := B2 rpv
   have tq : ∀ {b : Addr} {xs : List V}, H2 b = some (.tup xs) -> b ≠ q := λ{b xs} e => by
    obtain ⟨vs, h1, _⟩ := ta
    exact Eo e h1 (λz => by cases z)
   refine ⟨_, Ab (j := 6) hte rfl, pb, rfl, pv, hpb, ?_⟩
   have tl1 := Pn (plan := plan) (x := w.name) (ws := ws) (λt ht => (g.ws.wb t (od.1 t ht)).parts) i
   refine Bw (Fj pb _) (λj Z H' => TkIn v a (.ref xe) q plan w.name ws t te i H1 j Z H' /\ KeepU H2 H') ⟨⟨_, _, _, rfl, by rw [show Nn plan w.name t 0 = [] from rfl, Zyu]; exact ta, kp⟩, λ_ _ e => e⟩ (λj Z H' _ h => h.2 _ _ hpb) (λj y Z H3 hj hy h => ?_) (λZ H3 h => ?_)
   ·obtain ⟨⟨o6, o7, o8, rfl, ta3, kp3⟩, ku3⟩ := h
    obtain ⟨pp, hpp, rpp⟩ := Bc rpv hy
    have hppm := Zzw hpp
    obtain ⟨pe, rfl, hpe⟩ := Qa rpp
    have es : Nn plan w.name t (j + 1) = Nn plan w.name t j ++ if pp.1 = w.name then [(t.name, t.lag, (Ax (plan t.name) t.lag).map (· * pp.2))] else [] := Cj hpp
    have bt3 := keepB H3 kp3
    have hxe3 := Dy tb bt3 _ _ hxe
    have pl3 := pl.tb tb bt3
    refine gt2 (ku3 _ _ hpe) ?_
    walk_at "rd"
    refine ⟨_, Ab (j := 0) hxe3 rfl, rfl, Cr (λhz => ?_) (λhz => ?_)⟩
    ·have hz : pp.1 = w.name := V.str.inj (of_decide_eq_true hz)
     refine ⟨a, .ref te, S, plan, t, λ_ => True, rfl, pl3.for _, trivial, n2, RD.ku ku3 _ _ (Fi t) rt, htm, wb.lag.1, by have := wb.lag.2; omega, λb H4 hb4 hb5 sm4 => ⟨b, rfl, _, hb5, ?_⟩⟩
     obtain ⟨kvs, hkv, hpl⟩ := pl3
     obtain ⟨l, hv, hll, hlen, hbd⟩ := hpl t.name (Zzs.mpr ⟨t, htm, rfl⟩)
     have lb : (Ax (plan t.name) t.lag).length = daysN S := by unfold Ax; rw [An, hlen]
     refine Et (Dl b _) (Aw (by rw [Zzz, lb]; exact n2)) (λH' s' => s' _ _ hb5) (((Ax (plan t.name) t.lag).map (· * pp.2)).map V.int) (by rw [Zzz, Zzz, Zzz]) (λe y H5 he hy s' N M hN => ?_) (λH5 s5 p hp => ?_)
     ·have hy := Ei hy
      subst hy
      walk_at "rd"
      rw [Zzz] at he
      have amt := wb.amts pp hppm
      refine ⟨.inr ⟨?_, by omega⟩, hN _ _ s' ?_⟩
      ·have bi := Uv (B := 10 ^ 2000) (by decide +kernel) (λx hx => ⟨(hbd x hx).1, Zvw (hbd x hx).2⟩) t.lag e
       have : (Ax (plan t.name) t.lag).getD e 0 = bAt (plan t.name) t.lag e := by unfold Ax; rw [Cc (by rw [hlen, <- lb]; exact he)]
       rw [this]
       omega
      ·rw [Zzx, Zzx, Zzr he, Zzg, Zzr he]
       rfl
     ·have s35 := sm4.trans s5
      have u6 := A3 (o := .lst (((Ax (plan t.name) t.lag).map (· * pp.2)).map V.int)) hp
      have ta6 := (ta3.same s35).same u6
      have p6 := A0 (H := H5) (a := p) (o := .lst (((Ax (plan t.name) t.lag).map (· * pp.2)).map V.int))
      have s36 := s35.trans u6
      have pq : p ≠ q := λz => by obtain ⟨vs, h1, _⟩ := ta3; rw [z, s35 _ _ h1] at hp; cases hp
      generalize upd H5 p (.lst (((Ax (plan t.name) t.lag).map (· * pp.2)).map V.int)) = H6 at ta6 p6 s36 ⊢
      refine ⟨Dn ta6.choose_spec.1, _, Ab (j := 1) (s36 _ _ (ku3 _ _ hte)) rfl, by decide, λp2 hp2 => ?_⟩
      have u7 := A3 (o := .tup [V.str t.name, V.int t.lag, V.ref p]) hp2
      obtain ⟨vs, hvs, hvl, ta8⟩ := (ta6.same u7).put (k := (t.name, t.lag, (Ax (plan t.name) t.lag).map (· * pp.2))) pq A0 (u7 _ _ p6)
      have tl2 := Ru plan w.name t j
      have w12p := wb.parts
      refine ⟨vs, hvs, qc (by rw [hvl, Zze]; omega), ⟨_, _, _, rfl, ?_, λb o nb e => ?_⟩, λb xs e => ?_⟩
      ·rw [es, if_pos hz, <- Zxx]
       exact ta8
      ·rw [A5 nb]
       exact u7 _ _ (s36 _ _ (kp3 b o nb e))
      ·have e3 := ku3 _ _ e
       rw [A5 (λz => by obtain ⟨vs, h1, _⟩ := ta3; rw [z, h1] at e3; cases e3)]
       exact u7 _ _ (s36 _ _ e3)
    ·have hz : ¬ pp.1 = w.name := λe => hz (decide_eq_true (by rw [e]))
     refine ⟨⟨_, _, _, rfl, ?_, kp3⟩, ku3⟩
     rw [es, if_neg hz, Zyu]
     exact ta3
   ·obtain ⟨⟨o6, o7, o8, rfl, ta3, kp3⟩, ku3⟩ := h
    rw [hlp] at ta3
    refine ⟨_, _, _, _, _, rfl, ?_, kp3⟩
    rw [show tkL plan w.name ws (i + 1) = tkL plan w.name ws i ++ Nn plan w.name t t.parts.length from Cj ht0]
    exact ta3
  ·obtain ⟨o4, o5, o6, o7, o8, rfl, ta, kp⟩ := h
   rw [Zzz, Zzz] at ta
   walk_at "rd"
   exact k q H2 hq ta (keepT H2 kp) (keepB H2 kp)
def Fu (Pt : Addr) : Sp := λvs H Q _ => ∃ (v : V) (a : Addr) (x : V) (S : Sh) (plan : Str -> List Int) (w : Wr) (ws : List Wr) (sz : Int), vs = [v, .ref a, x] /\ RD H S.d v /\ PlanAt H a S plan /\ RD H w.d x /\ w ∈ S.wares /\ Good sz S /\ 0 < sz /\ sz <= 1000 /\ OrdOk S ws /\ Tb H Pt /\
 ∀ q H', H q = none -> RD H' (.list ((Ik ((Gc S plan w ws (daysN S)).map dr)).map it2)) (.ref q) -> Tb H' Pt -> But Pt H H' -> Q (.ref q) H'
def sg (v : V) (a : Addr) (x : V) (tk q : Addr) (S : Sh) (plan : Str -> List Int) (w : Wr) (ws : List Wr) (H1 : Hp) (i : Nat) (Z : St) (H' : Hp) : Prop := ∃ o5 o6 o7 o8 o9 o10 : Option V, Z = [some v, some (.ref a), some x, some (.ref tk), some (.ref q), o5, o6, o7, o8, o9, o10] /\ Acc H1 H' q (((Gc S plan w ws i).map dr).map it2)
def sf (v : V) (a : Addr) (x : V) (tk q : Addr) (S : Sh) (plan : Str -> List Int) (w : Wr) (ws : List Wr) (d : Nat) (dv : V) (H1 : Hp) (j : Nat) (Z : St) (H' : Hp) : Prop := ∃ o6 o7 o8 o9 o10 : Option V, Z = [some v, some (.ref a), some x, some (.ref tk), some (.ref q), some dv, o6, o7, o8, o9, o10] /\ Acc H1 H' q (((Gc S plan w ws d ++ Kv S.wants w.name d j).map dr).map it2)
def NbTk (v : V) (a : Addr) (x : V) (tk q : Addr) (S : Sh) (plan : Str -> List Int) (w : Wr) (ws : List Wr) (d : Nat) (dv : V) (H1 : Hp) (j : Nat) (Z : St) (H' : Hp) : Prop := ∃ o6 o7 o8 o9 o10 : Option V, Z = [some v, some (.ref a), some x, some (.ref tk), some (.ref q), some dv, o6, o7, o8, o9, o10] /\ Acc H1 H' q (((Gc S plan w ws d ++ Kv S.wants w.name d S.wants.length ++ ((tkL plan w.name ws ws.length).take j).map (Me d)).map dr).map it2)
theorem sc_needs_by_days : Aj ["shop", "plan", "ware", "takers", "told", "day", "number", "want", "name", "lag", "takes"] ["shop", "plan", "ware"] (Ad D3) := by walk_at "sc"
theorem Kf (F : Fun K "needs_by_days" "needs_by_days" D3 f fd) (T : Txt mg) (Zui : Has P w K mg base "takers_of" 7 ["shop", "plan", "ware"] (Ix Pt)) (Zvh : Has P w K mg base "without_nothing" 1 ["amounts"] sp_without_nothing) : Bh P w K mg base CX0 8 f fd ["shop", "plan", "ware"] (Fu Pt) := by
 refine F.ok sc_needs_by_days (λvs H Q E h => ?_) (λcdv A outer s H vs Q E hr h => ?_)
 ·obtain ⟨v, a, x, S, plan, w, ws, sz, rfl, _⟩ := h
  rfl
 ·obtain ⟨v, a, x, S, plan, w, ws, sz, rfl, rs, pl, rx, hm, g, z0, z1, od, tb, k⟩ := h
  have hu := B5 hr
  obtain ⟨n1, n2, n3, n4⟩ := g.days z0 z1
  refine ⟨_, (A2 (Ae (i := 3) sc_needs_by_days.nd rfl (Zzq rfl) (Aa Zui hr.z rfl (A4 (pv 0) (A4 (pv 1) (A4 (pv 2) A1)))))
 (A2 (Ae (i := 4) sc_needs_by_days.nd rfl (Zzq rfl) (Bp (A4 (Aq (A4 (Aq (A4 Bo A1)) (A4 (A7 hu (pv 2) (Ah rfl T.Zuw) (λ_ _ => rfl)) A1))) A1)))
 (A2 (Az PassesOwn.never rfl (Cs rfl T.Zv3 (A4 (Ap B9 rfl T.Zvb D0 (A4 (A7 hu (pv 1) (A7 hu (pv 2) (Ah rfl T.Zvj) (λ_ _ => rfl)) (λ_ _ => rfl)) A1)) A1)) (Ac (i := 5) sc_needs_by_days.nd rfl (Zzq rfl))
 (A2 (Az PassesOwn.never rfl (S9 rfl T.Zv8 (A4 (A7 hu (pv 0) A8 (λ_ _ => rfl)) A1)) (Cd (n := 2) rfl (Ai (Ac (i := 6) sc_needs_by_days.nd rfl (Zzq rfl)) (Ai (Ac (i := 7) sc_needs_by_days.nd rfl (Zzq rfl)) Bn)))
 (A9 (Bd (PW.pt (Ij (Al (Bq hu) (A7 hu (pv 7) (Ah rfl T.Zvc) (λ_ _ => rfl)) (A7 hu (pv 2) (Ah rfl T.Zvj) (λ_ _ => rfl)) (Am _)) (Ga (Al (Bq hu) (A7 hu (pv 7) (Ah rfl T.Zvd) (λ_ _ => rfl)) (pv 5) (Am _))))) (A9 (Ba (E5 Zz6 Zz2 Zz1 Bj (pv 4) (A4 (Aq (A4 (Aq (A4 Bo (A4 (pv 6) A1))) (A4 (A7 hu (pv 7) (Ah rfl T.Zvg) (λ_ _ => rfl)) A1))) A1)))) Ao)))
 (A9 (Az PassesOwn.never rfl (Cl (pv 3)) (Cd (n := 3) rfl (Ai (Ac (i := 8) sc_needs_by_days.nd rfl (Zzq rfl)) (Ai (Ac (i := 9) sc_needs_by_days.nd rfl (Zzq rfl)) (Ai (Ac (i := 10) sc_needs_by_days.nd rfl (Zzq rfl)) Bn))))
 (A9 (Ba (E5 Zz6 Zz2 Zz1 Bj (pv 4) (A4 (Aq (A4 (Aq (A4 Bo (A4 (pv 8) (A4 (Ar Bx (pv 5) (pv 9)) A1)))) (A4 (A7 hu (pv 10) (pv 5) (λ_ _ => rfl)) A1))) A1))))))))
 (A9 (Ak (Aa Zvh hr.z rfl (A4 (pv 4) A1))))))), ?_⟩
  have wlen := od.len
  have w12 := g.len.2
  have us20 := g.wants.1
  have wsp : ∀ t ∈ ws, t.parts.length <= 12 := λt ht => (g.ws.wb t (od.1 t ht)).parts
  walk_at "rd"
  refine ⟨v, a, x, S, plan, w, ws, sz, rfl, rs, pl, rx, g, z0, z1, od, tb, λtk H1 htk ta tb1 bt1 => ?_⟩
  have rs1 := RD.ku (Dy tb bt1) _ _ (C3 S) rs
  have rx1 := RD.ku (Dy tb bt1) _ _ (Fi w) rx
  have pl1 := pl.tb tb bt1
  obtain ⟨xe, c1, c2, rfl, hxe, _⟩ := Bg rx1
  obtain ⟨sa, sb, sc, wv, us, rfl, ha, hb, hc, rws, rus⟩ := Cy rs1
  have hlu := B2 rus
  obtain ⟨kvs, hkv, hpl⟩ := id pl1
  obtain ⟨l, hv, hll, hlen, hbd⟩ := hpl w.name (Zzs.mpr ⟨w, hm, rfl⟩)
  refine ⟨by decide, λt1 ht1 => ⟨_, Ab (j := 3) (A3 ht1 _ _ hxe) rfl, by decide, λt2 ht2 => ⟨by decide, λq hq => ?_⟩⟩⟩
  have s2 := (A3 (o := .tup [V.str "floor"]) ht1).trans (A3 (o := .tup [V.ref t1, V.int w.floor]) ht2)
  have s3 := s2.trans (A3 (o := .lst [V.ref t2]) hq)
  have a0 : Acc H1 (upd (upd (upd H1 t1 (.tup [V.str "floor"])) t2 (.tup [V.ref t1, V.int w.floor])) q (.lst [V.ref t2])) q (((Gc S plan w ws 0).map dr).map it2) := by
   refine Acc.made s2 hq (RDs.one (U0 (t := .floor) A0 (Vb ?_ (RDs.one RD.str_mk)))) (Bf it2 Qn _)
   exact A3 ht2 _ _ A0
  refine ⟨_, Ab (j := 0) (s3 _ _ hxe) rfl, _, Dj (hkv.same s3) hv, l, rfl, _, .inl (s3 _ _ hll), by rw [Zzz, hlen]; omega, by rw [Zzz, hlen]; omega, ?_⟩
  rw [Zzz, hlen, show ((daysN S : Nat) : Int).toNat = daysN S by omega]
  generalize upd (upd (upd H1 t1 (.tup [V.str "floor"])) t2 (.tup [V.ref t1, V.int w.floor])) q (.lst [V.ref t2]) = H3 at a0 s3 ⊢
  refine Bw (L5 0 _) (sg (.ref sa) a (.ref xe) tk q S plan w ws H1) ⟨_, _, _, _, _, _, rfl, a0⟩ (λ_ _ _ _ _ => trivial) (λi y Z H4 hi hy h => ?_) (λZ H4 h => ?_)
  ·obtain ⟨o5, o6, o7, o8, o9, o10, rfl, ac⟩ := h
   have hy : y = .int (i : Int) := by rw [hy, Int.zero_add]
   subst hy
   have nl := Ji (plan := plan) (w := w) wsp (by omega) us20 i
   walk_at "rd"
   refine ⟨_, Ab (j := 1) (ac.same _ _ ha) rfl, sc, rfl, us, ac.same _ _ hc, ?_⟩
   refine L6 (Zv sc _) (sf (.ref sa) a (.ref xe) tk q S plan w ws i (.int i) H1) ⟨_, _, _, _, _, rfl, by rw [show Kv S.wants w.name i 0 = [] from rfl, Zyu]; exact ac⟩ (λj Z H' _ h => by obtain ⟨_, _, _, _, _, _, ac⟩ := h; exact ac.same _ _ hc) (λj ys t' Z H6 hj hy h ht' => ?_) (λZ H6 h => ?_)
   ·obtain ⟨o6, o7, o8, o9, o10, rfl, ac6⟩ := h
    obtain ⟨y, ey, rfl⟩ := hy
    obtain ⟨u, hu', ry⟩ := Bc rus ey
    obtain ⟨e, rfl, he⟩ := Lj ry
    refine gT2 ?_
    have ac7 := ac6.step (A3 (o := .tup [.int j, .ref e]) ht')
    generalize upd H6 t' (.tup [.int j, .ref e]) = H7 at ac7 ⊢
    have he7 := ac7.same _ _ he
    have cl := Jy S.wants w.name i j
    have es : Kv S.wants w.name i (j + 1) = Kv S.wants w.name i j ++ if u.1 = w.name /\ u.2.1 = (i : Int) then [(Th.want j, (i : Int), u.2.2)] else [] := Cj hu'
    have no : ¬ (u.1 = w.name /\ u.2.1 = (i : Int)) -> sf (.ref sa) a (.ref xe) tk q S plan w ws i (.int i) H1 (j + 1) [some (.ref sa), some (.ref a), some (.ref xe), some (.ref tk), some (.ref q), some (.int i), some (.int j), some (.ref e), o8, o9, o10] H7 := λc => by
     refine ⟨_, _, _, _, _, rfl, ?_⟩
     rw [es, if_neg c, Zyu]
     exact ac7
    walk_at "rd"
    refine ⟨_, Ab (j := 0) he7 rfl, _, Ab (j := 0) (ac7.same _ _ hxe) rfl, rfl, Cr (λhz => ?_) (λhz => no λc => hz (decide_eq_true (by rw [c.1])))⟩
    have hz : u.1 = w.name := V.str.inj (of_decide_eq_true hz)
    refine ⟨_, Ab (j := 1) he7 rfl, rfl, Cr (λhz2 => ?_) (λhz2 => no λc => hz2 (decide_eq_true (by rw [c.2])))⟩
    have hz2 : u.2.1 = (i : Int) := V.int.inj (of_decide_eq_true hz2)
    refine ⟨ac7.ty, by decide, λp1 hp1 => ⟨_, Ab (j := 2) (A3 hp1 _ _ he7) rfl, by decide, λp2 hp2 => ?_⟩⟩
    have hjl : j < us.length := hj
    obtain ⟨vs, hvs, hvl, ac8⟩ := ac7.pair (n := u.2.2) (.want j) hp1 hp2 (RDs.cons RD.str_mk (RDs.one RD.int_mk)) (by rw [Zzz, Zze]; omega)
    refine ⟨vs, hvs, hvl, _, _, _, _, _, rfl, ?_⟩
    rw [es, if_pos ⟨hz, hz2⟩, <- Zxx, Zzm]
    exact ac8
   ·obtain ⟨o6, o7, o8, o9, o10, rfl, ac6⟩ := h
    rw [hlu] at ac6
    have cl := Jy S.wants w.name i S.wants.length
    have tl := Pn (plan := plan) (x := w.name) wsp ws.length
    obtain ⟨tv, htv, htl, hta⟩ := id ta
    walk_at "rd"
    refine ⟨tv, ac6.same _ _ htv, ?_⟩
    refine Bw (Dl tk _) (NbTk (.ref sa) a (.ref xe) tk q S plan w ws i (.int i) H1) ⟨_, _, _, _, _, rfl, by rw [Zxk, Zxe, Zyu]; exact ac6⟩ (λj Z H' _ h => by obtain ⟨_, _, _, _, _, _, ac⟩ := h; exact ac.same _ _ htv) (λj y Z H7 hj hy h => ?_) (λZ H7 h => ?_)
    ·obtain ⟨o6, o7, o8, o9, o10, rfl, ac7⟩ := h
     obtain ⟨kk, hkk⟩ : ∃ kk, (tkL plan w.name ws ws.length)[j]? = some kk := ⟨_, Zzr (by omega)⟩
     obtain ⟨te, r, e1, e2, e3, e4⟩ := hta j kk hkk
     rw [e1] at hy
     have hy : V.ref te = y := Zzn hy
     subst hy
     have e3' := ac7.same _ _ e3
     have e4' := ac7.same _ _ e4
     have rl : kk.2.2.length = daysN S := by
      have := C7 (f := λ_ (t : Wr) => Nn plan w.name t t.parts.length) (xs := ws) (i := ws.length) (C := λk : Tk => k.2.2.length = daysN S) (λ_ t ht => C7 λ_ p hp y hy => by
       split at hy
       ·rw [Zzu.mp hy]
        show ((Ax (plan t.name) t.lag).map (· * p.2)).length = daysN S
        obtain ⟨l', _, _, h3, _⟩ := hpl t.name (Zzs.mpr ⟨t, od.1 t (Zzw ht), rfl⟩)
        unfold Ax
        rw [Zzz, An, h3]
       ·cases hy)
      exact this kk (Zzw hkk)
     refine gt3 e3' ?_
     walk_at "rd"
     refine ⟨ac7.ty, by decide, λp1 hp1 => ⟨.int (kk.2.2.getD i 0), Kk (.inl (A3 hp1 _ _ e4')) (by omega) ?_, by decide, λp2 hp2 => ?_⟩⟩
     ·rw [show ((i : Nat) : Int).toNat = i by omega, Zzx, Zzg, Zzr (by omega)]
      rfl
     ·obtain ⟨vs, hvs, hvl, ac8⟩ := ac7.pair (n := kk.2.2.getD i 0) (.part kk.1 (i + kk.2.1)) hp1 hp2 (RDs.cons RD.str_mk (RDs.cons RD.str_mk (RDs.one RD.int_mk))) (by rw [Zzz, Zze, Zze, Zzz, Zym]; omega)
      refine ⟨vs, hvs, hvl, _, _, _, _, _, rfl, ?_⟩
      rw [Zz8, hkk]
      show Acc _ _ _ (Zyb it2 (Zyb dr (_ ++ Zyb (Me i) (_ ++ [kk]))))
      rw [Zzm (f := Me i), <- Zxx, Zzm (f := dr)]
      exact ac8
    ·obtain ⟨o6, o7, o8, o9, o10, rfl, ac7⟩ := h
     rw [htl, Zz4] at ac7
     refine ⟨_, _, _, _, _, _, rfl, ?_⟩
     rw [X5]
     unfold Sq
     rw [<- Zxx]
     exact ac7
  ·obtain ⟨o5, o6, o7, o8, o9, o10, rfl, ac⟩ := h
   have nl := Ji (plan := plan) (w := w) wsp (by omega) us20 (daysN S)
   walk_at "rd"
   refine ⟨q, (Gc S plan w ws (daysN S)).map dr, rfl, ac.rd, by rw [Zzz]; omega, λq2 H5 a5 => ?_⟩
   have s5 := ac.same.trans a5.same
   exact k q2 H5 (Hh tb1 bt1 (Same.free ac.same a5.new)) a5.rd (tb1.same s5) (bt1.trans (Bb s5))
end
set_option maxHeartbeats 4000000
section
variable {P : Program} {w : World} {K : Zzv} {mg : Str -> Option Value} {base : Heap} {f : Addr} {fd : FuncData} {Pt : Addr}
theorem Acc.other {H0 H : Hp} {q p : Addr} {l : List PyData} {xs ys : List V} (a : Acc H0 H q l) (h0 : H0 p = none) (n : p ≠ q) (h : H p = some (.lst xs)) : Acc H0 (upd H p (.lst ys)) q l := by
 obtain ⟨vs, h1, h2⟩ := Di a.rd
 exact ⟨a.new, λb o e => by rw [A5 (A6 e h0)]; exact a.same b o e, Fl (by rw [A5 (Zzf n)]; exact h1) (RDs.ku (Ep h) _ _ a.nl h2), a.nl⟩
def W4 (ns : List (Th × Int)) (lac : List Int) (pl : Nat) (x : Int) : Prop := lac.length = ns.length /\ (pl < ns.length -> lac[pl]? = some (Af ns (pl + 1) - x)) /\ ∀ j n, pl < j -> ns[j]? = some n -> lac[j]? = some n.2
def sp_pegged : Sp := λvs H Q _ => ∃ (a b : Addr) (ss ns : List (Th × Int)), vs = [.ref a, .ref b] /\ RD H (.list (ss.map it2)) (.ref a) /\ RD H (.list (ns.map it2)) (.ref b) /\ (∀ x ∈ ss, 0 < x.2) /\ (∀ x ∈ ns, 0 < x.2) /\ ss.length <= 1000000 /\ ns.length <= 1000000 /\ ∀ q H', Acc H H' q ((Gs Th.left ss ns ss.length).map pgD) -> Q (.ref q) H'
def mv (a b q lk : Addr) (ss ns : List (Th × Int)) (H : Hp) (i : Nat) (Z : St) (H' : Hp) : Prop := ∃ (pl : Nat) (lac : List Int) (o5 o6 o7 o8 : Option V), Z = [some (.ref a), some (.ref b), some (.ref q), some (.ref lk), some (.int pl), o5, o6, o7, o8] /\ Acc H H' q ((Gs Th.left ss ns i).map pgD) /\ H' lk = some (.lst (lac.map V.int)) /\ pl <= ns.length /\ Af ns pl <= Af ss i /\ (pl < ns.length -> Af ss i < Af ns (pl + 1)) /\ W4 ns lac pl (Af ss i)
def PgW (a b q lk : Addr) (ss ns : List (Th × Int)) (i : Nat) (sv : V) (s : Th × Int) (H : Hp) (m : Nat) (Z : St) (H' : Hp) : Prop := ∃ (x : Int) (pl mm : Nat) (lac : List Int) (o8 : Option V), m = (Af ss (i + 1) - x).toNat /\ Z = [some (.ref a), some (.ref b), some (.ref q), some (.ref lk), some (.int pl), some sv, some (.int s.2), some (.int (Af ss (i + 1) - x)), o8] /\
 Pk ns (Af ss i) (Af ss (i + 1)) x pl mm /\ Acc H H' q ((Gs Th.left ss ns i ++ Bz s.1 (Af ss i) (Af ss (i + 1)) ns mm).map pgD) /\ H' lk = some (.lst (lac.map V.int)) /\ W4 ns lac pl x
theorem sc_pegged : Aj ["supplied", "needed", "told", "lacking", "place", "supply", "amount", "free", "share"] ["supplied", "needed"] (Ad J8) := by walk_at "sc"
theorem Ww (F : Fun K "pegged" "pegged" J8 f fd) (T : Txt mg) : Bh P w K mg base CX0 1 f fd ["supplied", "needed"] sp_pegged := by
 refine F.ok sc_pegged (λvs H Q E h => ?_) (λcdv A outer s H vs Q E hr h => ?_)
 ·obtain ⟨a, b, ss, ns, rfl, _⟩ := h
  rfl
 ·obtain ⟨a, b, ss, ns, rfl, ra, rb, ps, pn, ls, ln, k⟩ := h
  have hu := B5 hr
  refine ⟨_, (A2 (Ae (i := 2) sc_pegged.nd rfl (Zzq rfl) (Bp A1))
 (A2 (En (own := ["need", "amount"]) (cap := []) (i := 3) rfl (G0 rfl) P4 sc_pegged.nd rfl rfl (Cl (pv 1))
 (λ_ _ _ _ _ _ => ⟨(Cd (n := 2) rfl (Ai (Ac (i := 0) (of_decide_eq_true rfl) rfl (Zzq rfl) (.inr rfl)) (Ai (Ac (i := 1) (of_decide_eq_true rfl) rfl (Zzq rfl) (.inr rfl)) Bn))), De, (pv 1)⟩))
 (A2 (Ae (i := 4) sc_pegged.nd rfl (Zzq rfl) A8)
 (A2 (Az PassesOwn.never rfl (Cl (pv 0)) (Cd (n := 2) rfl (Ai (Ac (i := 5) sc_pegged.nd rfl (Zzq rfl)) (Ai (Ac (i := 6) sc_pegged.nd rfl (Zzq rfl)) Bn)))
 (A2 (Ae (i := 7) sc_pegged.nd rfl (Zzq rfl) (pv 6))
 (A2 (Ma PassesOwn.never (PW.pt (Ij (Al Jg (pv 7) A8 (Am _)) (Ga (Al (Mi hu) (pv 4) (Ap B9 rfl T.Zvb D0 (A4 (pv 1) A1)) (Am _))))) (A2 (Ae (i := 8) sc_pegged.nd rfl (Zzq rfl) (Ap (Pd rfl) rfl T.Ztv aw (A4 (pv 7) (A4 (A7 hu (pv 3) (pv 4) (λ_ _ => rfl)) A1))))
 (A2 (Ba (E5 Zz6 Zz2 Zz1 Bj (pv 2) (A4 (Aq (A4 (pv 5) (A4 (A7 hu (A7 hu (pv 1) (pv 4) (λ_ _ => rfl)) A8 (λ_ _ => rfl)) (A4 (pv 8) A1)))) A1)))
 (A2 (Mb (i := 7) sc_pegged.nd rfl (Zzq rfl) (pv 8) Rc)
 (A2 (Jc (pv 3) (pv 4) Jo (pv 8) Rc Da)
 (A9 (Bd (Al (Bq hu) (A7 hu (pv 3) (pv 4) (λ_ _ => rfl)) A8 (Am _)) (A9 (Mb (i := 4) sc_pegged.nd rfl (Zzq rfl) A8 Gf)) Ao)))))))
 (A9 (Bd (Al Jg (pv 7) A8 (Am _)) (A9 (Ba (E5 Zz6 Zz2 Zz1 Bj (pv 2) (A4 (Aq (A4 (pv 5) (A4 (Aq (A4 Bo A1)) (A4 (pv 7) A1)))) A1)))) Ao)))))
 (A9 (Ak (pv 2))))))), ?_⟩
  obtain ⟨va, ha, rva⟩ := Di ra
  obtain ⟨vb, hb, rvb⟩ := Di rb
  have hla := B2 rva
  have hlb := B2 rvb
  walk_at "rd"
  refine ⟨by decide, λq hq => ?_⟩
  have u0 := A3 (o := .lst []) hq
  refine ⟨vb, u0 _ _ hb, ?_⟩
  refine Et (Dl b _) (qd (by omega)) (λH' s' => s' _ _ (u0 _ _ hb)) ((ns.map (·.2)).map V.int) (by rw [Zzz, Zzz, hlb]) (λj y H1 hj hy s1 N M hN => ?_) (λH1 s1 lk hlk => ?_)
  ·obtain ⟨z, hz, rz⟩ := Bc rvb hy
   obtain ⟨e, x, rfl, he, rx⟩ := Qy rz
   refine gt2 (s1 _ _ (u0 _ _ he)) ?_
   walk_at "rd"
   exact hN _ _ s1 (by rw [Zzx, Zzx, hz]; rfl)
  have s01 := u0.trans s1
  have u2 := A3 (o := .lst ((ns.map (·.2)).map V.int)) hlk
  have s02 := s01.trans u2
  have lkf : H lk = none := Same.free s01 hlk
  have lkq : lk ≠ q := λz => by rw [z, s1 _ _ A0] at hlk; cases hlk
  have a0 : Acc H (upd H1 lk (.lst ((ns.map (·.2)).map V.int))) q ((Gs Th.left ss ns 0).map pgD) := ⟨hq, s02, Fl (u2 _ _ (s1 _ _ A0)) RDs.nil, by show Be [] = true; rw [Be]⟩
  have hlk2 := A0 (H := H1) (a := lk) (o := .lst ((ns.map (·.2)).map V.int))
  generalize upd H1 lk (.lst ((ns.map (·.2)).map V.int)) = H2 at a0 hlk2 s02 ⊢
  have lac0 : W4 ns (ns.map (·.2)) 0 (Af ss 0) := by
   have hat : ∀ (j : Nat) (n : Th × Int), ns[j]? = some n -> (ns.map (·.2))[j]? = some n.2 := λj n e => by rw [Zzx, e]; rfl
   refine ⟨Zzz .., λh => ?_, λj n _ e => hat j n e⟩
   have e0 := Zzr h
   rw [hat 0 _ e0, D9 e0, show Af ns 0 = 0 from rfl, show Af ss 0 = 0 from rfl]
   congr 1
   omega
  refine ⟨va, a0.same _ _ ha, ?_⟩
  refine Bw (Dl a _) (mv a b q lk ss ns H) ⟨0, _, _, _, _, _, rfl, a0, hlk2, Zz3 _, Zz0 _, (λh => by
   have e0 := Zzr h
   have := pn _ (Zzw e0)
   rw [D9 e0, show Af ns 0 = 0 from rfl, show Af ss 0 = 0 from rfl]
   omega), lac0⟩ (λi Z H' _ h => by obtain ⟨_, _, _, _, _, _, _, ac, _⟩ := h; exact ac.same _ _ ha) (λi y Z H3 hi hy h => ?_) (λZ H3 h => ?_)
  ·obtain ⟨pl, lac, o5, o6, o7, o8, rfl, ac, hlk3, h1, h2, h3, lo3⟩ := h
   obtain ⟨s, es, rsd⟩ := Bc rva hy
   have hsp := ps s (Zzw es)
   have ecs := D9 es
   obtain ⟨se, sv, rfl, hse, rsv⟩ := Qy rsd
   refine gt2 (ac.same _ _ hse) ?_
   walk_at "rd"
   obtain ⟨I0, row0⟩ := Sa (s := s.1) pn (lo := Af ss i) (hi := Af ss (i + 1)) (by omega) h1 h2 h3
   have hil : i < ss.length := (Zzh.mp es).1
   have dl := Vv (lf := Th.left) pn ps (i + 1) hil
   have edl : (Gs Th.left ss ns (i + 1)).length = (Gs Th.left ss ns i).length + (Hc Th.left ss ns i s).length := by
    unfold Gs
    rw [Cj es, Zze]
   have edl2 : (Bz s.1 (Af ss i) (Af ss (i + 1)) ns ns.length).length <= (Hc Th.left ss ns i s).length := by
    unfold Hc
    rw [Zze]
    omega
   have enn : Af ss (i + 1) - Af ss i = s.2 := by omega
   refine ⟨PgW a b q lk ss ns i sv s H, ⟨_, Af ss i, pl, pl, lac, _, rfl, by rw [enn], I0, by rw [row0, Zyu]; exact ac, hlk3, lo3⟩, λm Z H4 hW => ?_⟩
   obtain ⟨x, pl, mm, lac, o8, rfl, rfl, I, ac4, hlk4, lo4⟩ := hW
   have hb4 := ac4.same _ _ hb
   have rsv4 := RD.same ac4.same _ _ rsv
   have rowl : ∀ m, m <= ns.length -> (Gs Th.left ss ns i ++ Bz s.1 (Af ss i) (Af ss (i + 1)) ns m).length < 10000000 := λm hm => by
    have := (Gh (s := s.1) (lo := Af ss i) (hi := Af ss (i + 1)) (ns := ns) hm).1
    rw [Zze]
    omega
   walk_at "rd"
   refine Cr (λc1 => ⟨vb, .inl hb4, Cr (λc2 => ?_) (λc2 => ?_)⟩) (λc1 => ?_)
   ·have c1 : x < Af ss (i + 1) := by have := of_decide_eq_true c1; omega
    have c2 : pl < ns.length := by have := of_decide_eq_true c2; rw [hlb] at this; omega
    obtain ⟨n, en⟩ : ∃ n, ns[pl]? = some n := ⟨_, Zzr c2⟩
    obtain ⟨p0, p1, p2, p3⟩ := dj (s := s.1) pn I c1 en
    have elac := lo4.2.1 c2
    obtain ⟨vn, evn, rvn⟩ := Ym rvb en
    obtain ⟨ne, nv, rfl, hne, rnv⟩ := Qy rvn
    refine ⟨λZ' H' => ∃ m', m' < (Af ss (i + 1) - x).toNat /\ PgW a b q lk ss ns i sv s H m' Z' H', λZ' H' z => z, ?_⟩
    refine ⟨_, Kk (.inl hlk4) (by omega) (by rw [show ((pl : Nat) : Int).toNat = pl by omega, Zzx, elac]; rfl), _, rfl, ?_⟩
    have hmn : (if Af ns (pl + 1) - x < Af ss (i + 1) - x then Af ns (pl + 1) - x else Af ss (i + 1) - x) = mn (Af ss (i + 1) - x) (Af ns (pl + 1) - x) := rfl
    rw [hmn]
    generalize mn (Af ss (i + 1) - x) (Af ns (pl + 1) - x) = sh at p0 p1 p2 p3 ⊢
    have hne4 := ac4.same _ _ hne
    refine ⟨ac4.ty, _, Kk (.inl hb4) (by omega) (by rw [show ((pl : Nat) : Int).toNat = pl by omega]; exact evn), _, Ab (j := 0) hne4 rfl, by decide, λt ht => ?_⟩
    obtain ⟨vs, hvs, hvl, ac5⟩ := ac4.peg (n := sh) ht rsv4 (RD.same ac4.same _ _ rnv) (rowl mm I.ml)
    rw [Zxx, <- p1] at ac5
    have hlk5 : upd (upd H4 t (.tup [sv, nv, .int sh])) q (.lst (vs ++ [.ref t])) lk = some (.lst (lac.map V.int)) := by
     rw [A5 lkq]
     exact A3 ht _ _ hlk4
    refine ⟨vs, hvs, hvl, ?_⟩
    generalize upd (upd H4 t (.tup [sv, nv, .int sh])) q (.lst (vs ++ [.ref t])) = H5 at ac5 hlk5 ⊢
    have hpl : pl < lac.length := by have := lo4.1; omega
    refine ⟨_, hlk5, by omega, .int (Af ns (pl + 1) - x), by rw [show ((pl : Nat) : Int).toNat = pl by omega, Zzx, elac]; rfl, _, rfl, _, hlk5, pl, by unfold ixN; rw [Zzz, if_pos (by omega), if_pos (by omega)]; rfl, ?_⟩
    have lo5 : (lac.set pl (Af ns (pl + 1) - x - sh)).length = ns.length /\ (lac.set pl (Af ns (pl + 1) - x - sh))[pl]? = some (Af ns (pl + 1) - x - sh) /\ ∀ j n, pl < j -> ns[j]? = some n -> (lac.set pl (Af ns (pl + 1) - x - sh))[j]? = some n.2 := ⟨by rw [Zx1]; exact lo4.1, by rw [Zx7 hpl], λj n hj e => by rw [Zxn (by omega)]; exact lo4.2.2 j n hj e⟩
    rw [<- Zwe]
    have ac6 := ac5.other (ys := (lac.set pl (Af ns (pl + 1) - x - sh)).map V.int) lkf lkq hlk5
    have hlk6 := A0 (H := H5) (a := lk) (o := .lst ((lac.set pl (Af ns (pl + 1) - x - sh)).map V.int))
    generalize upd H5 lk (.lst ((lac.set pl (Af ns (pl + 1) - x - sh)).map V.int)) = H6 at ac6 hlk6 ⊢
    generalize lac.set pl (Af ns (pl + 1) - x - sh) = lac6 at lo5 hlk6 ⊢
    refine ⟨_, Kk (.inl hlk6) (by omega) (by rw [show ((pl : Nat) : Int).toNat = pl by omega, Zzx, lo5.2.1]; rfl), rfl, Cr (λc => ?_) (λc => ?_)⟩
    ·have c : Af ns (pl + 1) - x - sh = 0 := V.int.inj (of_decide_eq_true c)
     have I6 := p2 c
     refine ⟨(Af ss (i + 1) - (x + sh)).toNat, by omega, x + sh, pl + 1, pl + 1, lac6, some (.int sh), rfl, ?_, I6, ac6, hlk6, lo5.1, λh => ?_, λj n hj e => lo5.2.2 j n (by omega) e⟩
     ·rw [show Af ss (i + 1) - (x + sh) = Af ss (i + 1) - x - sh by omega]
      rfl
     ·have e1 := Zzr h
      rw [lo5.2.2 _ _ (Nat.lt_succ_self _) e1, D9 e1]
      congr 1
      omega
    ·have c : ¬ Af ns (pl + 1) - x - sh = 0 := λe => c (decide_eq_true (by rw [e]))
     have I6 := p3 c
     refine ⟨(Af ss (i + 1) - (x + sh)).toNat, by omega, x + sh, pl, pl + 1, lac6, some (.int sh), rfl, ?_, I6, ac6, hlk6, lo5.1, λh => ?_, lo5.2.2⟩
     ·rw [show Af ss (i + 1) - (x + sh) = Af ss (i + 1) - x - sh by omega]
     ·rw [lo5.2.1, show Af ns (pl + 1) - (x + sh) = Af ns (pl + 1) - x - sh by omega]
   all_goals
    have hc : ¬ (x < Af ss (i + 1) /\ pl < ns.length) := λz => by
     first
     | exact c1 (decide_eq_true (by omega))
     | exact c2 (decide_eq_true (by rw [hlb]; omega))
    obtain ⟨d1, d2, d3, d4, d5⟩ := kf (s := s.1) pn I (by omega) hc
    have lo7 : W4 ns lac pl (Af ss (i + 1)) := ⟨lo4.1, λh => by
     rw [lo4.2.1 h]
     have : x = Af ss (i + 1) := by have := I.xhi; omega
     rw [this], lo4.2.2⟩
    have eat : Gs Th.left ss ns (i + 1) = Gs Th.left ss ns i ++ Hc Th.left ss ns i s := Cj es
    rw [d1] at ac4
    refine Cr (λc => ?_) (λc => ?_)
    ·have c : x < Af ss (i + 1) := by have := of_decide_eq_true c; omega
     obtain ⟨e1, e2⟩ := d2 c
     refine ⟨ac4.ty, by decide, λt1 ht1 => ⟨by decide, λt ht => ?_⟩⟩
     have u1 := A3 (o := .tup [V.str "left"]) ht1
     have rl : RD (upd H4 t1 (.tup [V.str "left"])) Th.left.d (.ref t1) := Vb A0 (RDs.one RD.str_mk)
     obtain ⟨vs, hvs, hvl, ac7⟩ := (ac4.step u1).peg (n := Af ss (i + 1) - x) ht (RD.same u1 _ _ rsv4) rl (rowl ns.length (Zzt _))
     refine ⟨vs, hvs, hvl, pl, lac, _, _, _, _, rfl, ?_, ?_, I.le, d4, d5, lo7⟩
     ·rw [eat]
      unfold Hc
      rw [if_pos e1, <- Zxx, <- e2]
      exact ac7
     ·rw [A5 lkq]
      exact A3 ht _ _ (u1 _ _ hlk4)
    ·have c : ¬ x < Af ss (i + 1) := λh => c (decide_eq_true (by omega))
     refine ⟨pl, lac, _, _, _, _, rfl, ?_, hlk4, I.le, d4, d5, lo7⟩
     rw [eat]
     unfold Hc
     rw [if_neg (d3 c), Zyu]
     exact ac4
  ·obtain ⟨pl, lac, o5, o6, o7, o8, rfl, ac, hlk3, h1, h2, h3, lo3⟩ := h
   walk_at "rd"
   rw [hla] at ac
   exact k q H3 ac
def Ry (S : Sh) (plan : Str -> List Int) (w : Wr) : List (Th × Int) := (Nr (Dz plan w (daysN S))).map dr
def X2 (S : Sh) (plan : Str -> List Int) (w : Wr) (ws : List Wr) : List (Th × Int) := (Nr (Gc S plan w ws (daysN S))).map dr
def L9 (S : Sh) (plan : Str -> List Int) (w : Wr) (ws : List Wr) : List (Th × Th × Int) := Gs Th.left (Ry S plan w) (X2 S plan w ws) (Ry S plan w).length
def Pu (Pt : Addr) : Sp := λvs H Q _ => ∃ (v : V) (a : Addr) (S : Sh) (plan : Str -> List Int) (w : Wr) (ws : List Wr) (sz : Int), vs = [v, .ref a, .str w.name] /\ RD H S.d v /\ PlanAt H a S plan /\ w ∈ S.wares /\ Good sz S /\ 0 < sz /\ sz <= 1000 /\ OrdOk S ws /\ Tb H Pt /\
 ∀ q H', H q = none -> RD H' (.list ((L9 S plan w ws).map pgD)) (.ref q) -> Tb H' Pt -> But Pt H H' -> Q (.ref q) H'
theorem sc_pegs : Aj ["shop", "plan", "name", "ware"] ["shop", "plan", "name"] (Ad Q1) := by walk_at "sc"
theorem fh (F : Fun K "pegs" "pegs" Q1 f fd) (T : Txt mg) (Zvl : Has P w K mg base "check_rings" 4 ["shop"] sp_check_rings) (Zvm : Has P w K mg base "ware_of" 1 ["shop", "name"] sp_ware_of) (Zu5 : Has P w K mg base "pegged" 1 ["supplied", "needed"] sp_pegged) (Zv0 : Has P w K mg base "needs_by_days" 8 ["shop", "plan", "ware"] (Fu Pt)) (Zuc : Has P w K mg base "supplies" 2 ["plan", "ware"] sp_supplies) : Bh P w K mg base CX0 9 f fd ["shop", "plan", "name"] (Pu Pt) := by
 refine F.ok sc_pegs (λvs H Q E h => ?_) (λcdv A outer s H vs Q E hr h => ?_)
 ·obtain ⟨v, a, S, plan, w, ws, sz, rfl, _⟩ := h
  rfl
 ·obtain ⟨v, a, S, plan, w, ws, sz, rfl, rs, pl, hm, g, z0, z1, od, tb, k⟩ := h
  have hu := B5 hr
  obtain ⟨n1, n2, n3, n4⟩ := g.days z0 z1
  refine ⟨_, (A2 (Ba (Aa Zvl hr.z rfl (A4 (pv 0) A1)))
 (A2 (Ae (i := 3) sc_pegs.nd rfl (Zzq rfl) (Aa Zvm hr.z rfl (A4 (pv 0) (A4 (pv 2) A1))))
 (A9 (Ak (Aa Zu5 hr.z rfl (A4 (Aa Zuc hr.z rfl (A4 (pv 1) (A4 (pv 3) A1))) (A4 (Aa Zv0 hr.z rfl (A4 (pv 0) (A4 (pv 1) (A4 (pv 3) A1)))) A1))))))), ?_⟩
  have sl := Hi (plan := plan) (g.com w hm).1 (daysN S)
  have nl := Ji (S := S) (plan := plan) (w := w) (λt ht => (g.ws.wb t (od.1 t ht)).parts) (by have := od.len; have := g.len.2; omega) g.wants.1 (daysN S)
  have fl : ∀ l : List It3, (Nr l).length <= l.length := λl => Zx0 _ _
  have ls := fl (Dz plan w (daysN S))
  have ln := fl (Gc S plan w ws (daysN S))
  walk_at "rd"
  refine ⟨v, S, rfl, rs, g.ok, g.no, λH1 sm1 => ?_⟩
  have rs1 := RD.same sm1 _ _ rs
  refine ⟨v, S, w.name, rfl, rs1, g.ok, Zzs.mpr ⟨w, hm, rfl⟩, λx w' hw' ew rx => ?_⟩
  have ew := Jx g.ws.nd hw' hm ew
  subst ew
  have pl1 := pl.same sm1
  refine ⟨a, x, S, plan, w', sz, rfl, pl1, rx, hm, g, z0, z1, λq1 H2 ac2 => ?_⟩
  have s2 := sm1.trans ac2.same
  have tb2 := tb.same s2
  refine ⟨v, a, x, S, plan, w', ws, sz, rfl, RD.same s2 _ _ rs, pl.same s2, RD.same ac2.same _ _ rx, hm, g, z0, z1, od, tb2, λq2 H3 hq2 rd2 tb3 bt3 => ?_⟩
  have rd1 := jv ac2.rd ac2.nl tb2 bt3
  rw [U2] at rd1 rd2
  refine ⟨q1, q2, Ry S plan w', X2 S plan w' ws, rfl, rd1, rd2, ?_, ?_, ?_, ?_, λq H4 ac4 => ?_⟩
  ·intro y hy
   unfold Ry at hy
   rw [<- U2] at hy
   exact S8 y hy
  ·intro y hy
   unfold X2 at hy
   rw [<- U2] at hy
   exact S8 y hy
  ·unfold Ry
   rw [Zzz]
   omega
  ·unfold X2
   rw [Zzz]
   omega
  ·have bt03 : But Pt H H3 := (Bb s2).trans bt3
   exact k q H4 (Hh tb3 bt03 ac4.new) ac4.rd (tb3.same ac4.same) (bt03.trans (Bb ac4.same))
end
set_option maxHeartbeats 4000000
section
variable {P : Program} {w : World} {K : Zzv} {mg : Str -> Option Value} {base : Heap} {f : Addr} {fd : FuncData} {Pt : Addr}
def Hy (t : Th) : Prop := ∀ x c, t = .part x c -> PyData.strOk x = true
theorem lg {t : Th} (h : Hy t) : t.d.canLay0 = true := by
 unfold Th.d
 cases t with
 | part x c => simp only [Th.ds, PyData.canLay0, PyData.canLayAll0, h x c rfl, Zy4]; decide +kernel
 | _ => simp only [Th.ds, PyData.canLay0, PyData.canLayAll0, Zy4] <;> decide +kernel
theorem ah (t : Th) : t.d.depth <= 1 := by
 unfold Th.d
 cases t <;> simp [Th.ds, PyData.depth, PyData.depthAll]
theorem js {plan : Str -> List Int} {w : Wr} {n : Nat} : ∀ q ∈ Dz plan w n, Hy q.1 := λq hq => by
 unfold Dz at hq
 rcases Zzo.mp hq with z | z
 ·rw [z]; intro x c e; cases e
 ·obtain ⟨d, _, hd⟩ := Zxp.mp z
  unfold Lz at hd
  rcases Zzc.mp hd with y | y
  ·refine C7 (C := λq : It3 => Hy q.1) (λk c _ q hq => ?_) q y
   split at hq
   ·rw [Zzu.mp hq]; intro x c e; cases e
   ·cases hq
  ·rw [Zzu.mp y]; intro x c e; cases e
theorem q8 {S : Sh} {plan : Str -> List Int} {w : Wr} {ws : List Wr} {n : Nat} (h : ∀ t ∈ ws, PyData.strOk t.name = true) : ∀ q ∈ Gc S plan w ws n, Hy q.1 := λq hq => by
 unfold Gc at hq
 rcases Zzo.mp hq with z | z
 ·rw [z]; intro x c e; cases e
 ·obtain ⟨d, _, hd⟩ := Zxp.mp z
  unfold Sq at hd
  rcases Zzc.mp hd with y | y
  ·refine C7 (C := λq : It3 => Hy q.1) (λk c _ q hq => ?_) q y
   split at hq
   ·rw [Zzu.mp hq]; intro x c e; cases e
   ·cases hq
  ·obtain ⟨k, hk, rfl⟩ := Zzs.mp y
   have : PyData.strOk k.1 = true := C7 (C := λk : Tk => PyData.strOk k.1 = true) (λ_ t ht => C7 λ_ p _ y hy => by
    split at hy
    ·rw [Zzu.mp hy]; exact h t (Zzw ht)
    ·cases hy) k hk
   intro x c e
   unfold Me at e
   injection e with e1 e2
   rw [<- e1]
   exact this
theorem m9 {ss ns : List (Th × Int)} (hs : ∀ q ∈ ss, Hy q.1) (hn : ∀ q ∈ ns, Hy q.1) (i : Nat) : ∀ q ∈ Gs Th.left ss ns i, Hy q.1 /\ Hy q.2.1 := by
 refine C7 (C := λq : Th × Th × Int => Hy q.1 /\ Hy q.2.1) λk s es q hq => ?_
 have h1 := hs s (Zzw es)
 unfold Hc at hq
 rcases Zzc.mp hq with y | y
 ·refine C7 (C := λq : Th × Th × Int => Hy q.1 /\ Hy q.2.1) (λj n en q hq => ?_) q y
  unfold Gi at hq
  split at hq
  ·rw [Zzu.mp hq]; exact ⟨h1, hn n (Zzw en)⟩
  ·cases hq
 ·split at y
  ·rw [Zzu.mp y]; exact ⟨h1, λx c e => by cases e⟩
  ·cases y
theorem Ps {kz : Str -> Int} {xs : List Str} {m : Nat} (h : ∀ x ∈ xs, 0 <= kz x /\ kz x < m) : G1 kz xs ((Zz9 m).flatMap λ(l : Nat) => xs.filter λx => decide (kz x = (l : Int))) := by
 have hx : ∀ i, i < xs.length -> xs.getD i "" ∈ xs := λi hi => by rw [Zzg, Zzr hi]; exact Zw3 hi
 have pw : ((Zz9 m).flatMap λ(l : Nat) => (Zz9 xs.length).filter λi => decide (kz (xs.getD i "") = (l : Int))).Pairwise (klt λi => kz (xs.getD i "")) := by
  rw [List.pairwise_flatMap]
  refine ⟨λl _ => ?_, ?_⟩
  ·refine List.Pairwise.imp_of_mem (R := λa b => a < b) ?_ (List.pairwise_lt_range.filter _)
   intro a b ha hb hab
   have h1 := of_decide_eq_true (Zys.mp ha).2
   have h2 := of_decide_eq_true (Zys.mp hb).2
   exact .inr ⟨by show kz _ = kz _; rw [h1, h2], hab⟩
  ·refine List.pairwise_lt_range.imp λ{l1 l2} hl a ha b hb => ?_
   have h1 := of_decide_eq_true (Zys.mp ha).2
   have h2 := of_decide_eq_true (Zys.mp hb).2
   exact .inl (by show kz _ < kz _; rw [h1, h2]; omega)
 refine ⟨_, ?_, ?_, pw⟩
 ·refine (List.perm_ext_iff_of_nodup (pw.imp λ{a b} hab => ?_) List.nodup_range).mpr λi => ?_
  ·rintro rfl
   unfold klt at hab
   omega
  ·rw [Zxp, Zy9]
   constructor
   ·rintro ⟨l, _, h2⟩
    exact Zy9.mp (Zys.mp h2).1
   ·intro hi
    have := h _ (hx i hi)
    exact ⟨(kz (xs.getD i "")).toNat, Zy9.mpr (by omega), Zys.mpr ⟨Zy9.mpr hi, decide_eq_true (by omega)⟩⟩
 ·rw [List.map_flatMap]
  congr 1
  funext l
  have e : xs = (Zz9 xs.length).map λi => xs.getD i "" := by
   apply Zxb
   intro i
   rw [Zzx]
   by_cases hi : i < xs.length
   ·rw [List.getElem?_range hi, Zzr hi]
    simp [Zzg, Zzr hi]
   ·rw [Zyv (by omega), Zyv (by simp; omega)]
    rfl
  conv => lhs; rw [e]
  rw [List.filter_map]
  rfl
theorem q9 {S : Sh} (L : Lev S) {w : Wr} (hw : w ∈ S.wares) : lv S w.name < S.wares.length := by
 obtain ⟨r, h1, h2⟩ := L.low
 have key : ∀ k w, w ∈ S.wares -> lvF S k w.name < (S.wares.length : Int) - r w.name := λk => by
  induction k with
  | zero =>
   intro w hw
   have := h1 w hw
   show (0 : Int) < _
   omega
  | succ k ih =>
   intro w hw
   have := h1 w hw
   refine Qr (by omega) λy hy => ?_
   obtain ⟨u, hu, rfl⟩ := Zzs.mp hy
   obtain ⟨h3, h4⟩ := mem_users.mp hu
   obtain ⟨p, hp1, hp2⟩ := Zzs.mp h4
   have h5 := h2 u h3 p hp1
   rw [hp2] at h5
   have := ih u h3
   show 1 + lvF S k u.name < _
   omega
 have := key S.wares.length w hw
 unfold lv
 omega
def Mg (S : Sh) (n : Nat) : List Wr := (Zz9 n).flatMap λ(l : Nat) => S.wares.filter λw => decide (lv S w.name = (l : Int))
theorem fb {S : Sh} (L : Lev S) : OrdOk S (Mg S S.wares.length) := by
 refine ⟨λt ht => ?_, ?_⟩
 ·unfold Mg at ht
  obtain ⟨l, _, h⟩ := Zxp.mp ht
  exact (Zys.mp h).1
 ·have := Ps (kz := lv S) (xs := Ag S) (m := S.wares.length) λx hx => by
   obtain ⟨w, hw, rfl⟩ := Zzs.mp hx
   exact ⟨Vm S _, q9 L hw⟩
  have e : (Mg S S.wares.length).map (·.name) = (Zz9 S.wares.length).flatMap λ(l : Nat) => (Ag S).filter λx => decide (lv S x = (l : Int)) := by
   unfold Mg Ag
   rw [List.map_flatMap]
   congr 1
   funext l
   rw [List.filter_map]
   rfl
  rw [e]
  exact this
def Kx (Pt : Addr) : Sp := λvs H Q _ => ∃ (v : V) (S : Sh), vs = [v] /\ RD H S.d v /\ Good 9 S /\ Tb H Pt /\
 (∀ t v' H', H' t = some (.tup [v', .non]) -> Tb H' Pt -> But Pt H H' -> Q (.ref t) H') /\
 ∀ t (v' : V) (p : Addr) (S' : Sh) (sz : Int) (ys : List Str) H', H' t = some (.tup [v', .ref p]) -> RD H' S'.d v' -> Good sz S' -> 0 < sz -> sz <= 500 -> Cz S' -> G1 (lv S') (Ag S') ys -> RowsAt H H' p S' ys -> H p = none -> Tb H' Pt -> But Pt H H' -> Q (.ref t) H'
theorem RowsAt.same {H H1 H2 : Hp} {a : Addr} {S : Sh} {l : List Str} (h : RowsAt H H1 a S l) (s : Same H1 H2) : RowsAt H H2 a S l := by
 obtain ⟨kvs, h1, h2, h3, h4⟩ := h
 exact ⟨kvs, s _ _ h1, h2, λnm hn => by obtain ⟨q, e1, e2, e3, e4⟩ := h3 nm hn; exact ⟨q, e1, e2, e3, s _ _ e4⟩, h4⟩
theorem RowsAt.back {H H1 H2 : Hp} {a : Addr} {S : Sh} {l : List Str} (h : RowsAt H1 H2 a S l) (f : ∀ q, H1 q = none -> H q = none) : RowsAt H H2 a S l := by
 obtain ⟨kvs, h1, h2, h3, h4⟩ := h
 exact ⟨kvs, h1, h2, λnm hn => by obtain ⟨q, e1, e2, e3, e4⟩ := h3 nm hn; exact ⟨q, f q e1, e2, e3, e4⟩, h4⟩
theorem Wl {S : Sh} {ys : List Str} (so : G1 (lv S) (Ag S) ys) (h : ∀ w ∈ S.wares, w.name ∈ ys -> Cp (LR S w.name) w.lag = none) : Cz S := λw hw => h w hw ((Cw so).1.mem_iff.mpr (Zzs.mpr ⟨w, hw, rfl⟩))
theorem sc_law_kept : Aj ["_law_shop_here", "_law_told", "_law_days"] ["_law_shop_here"] (Ad G8) := by walk_at "sc"
theorem Sl (F : Fun K "_law_kept" "_law_kept" G8 f fd) (T : Txt mg) (Zv5 : Has P w K mg base "planned" 7 ["shop"] (Ig Pt)) (Ztz : Has P w K mg base "late" 9 ["shop"] (V6 Pt)) (Zv2 : Has P w K mg base "put_off" 5 ["shop", "days"] sp_put_off) : Bh P w K mg base CX0 10 f fd ["_law_shop_here"] (Kx Pt) := by
 refine F.ok sc_law_kept (λvs H Q E h => ?_) (λcdv A outer s H vs Q E hr h => ?_)
 ·obtain ⟨v, S, rfl, _⟩ := h
  rfl
 ·obtain ⟨v, S, rfl, rs, g, tb, k1, k2⟩ := h
  have hu := B5 hr
  refine ⟨_, (A2 (Ae (i := 1) sc_law_kept.nd rfl (Zzq rfl) (Aa Zv5 hr.z rfl (A4 (pv 0) A1)))
 (A2 (Bd (Al (Bq hu) (A7 hu (pv 1) A8 (λ_ _ => rfl)) Bo (Am _)) (A9 (Ak (Aq (A4 (pv 0) (A4 (A7 hu (pv 1) A8 (λ_ _ => rfl)) A1))))) Ao)
 (A2 (Ae (i := 2) sc_law_kept.nd rfl (Zzq rfl) (Aa Ztz hr.z rfl (A4 (pv 0) A1)))
 (A2 (Bd (Al Yy (pv 2) Fn (Am _)) (A9 (Ak (Aq (A4 (pv 0) (A4 Fn A1))))) Ao)
 (A2 (Ae (i := 0) sc_law_kept.nd rfl (Zzq rfl) (Aa Zv2 hr.z rfl (A4 (pv 0) (A4 (pv 2) A1))))
 (A9 (Ak (Aq (A4 (pv 0) (A4 (A7 hu (Aa Zv5 hr.z rfl (A4 (pv 0) A1)) A8 (λ_ _ => rfl)) A1)))))))))), ?_⟩
  walk_at "rd"
  refine ⟨v, S, 9, rfl, rs, g, by decide, by decide, tb, λt p ys i H1 ht hp tp so ra hne tb1 bt1 hcase => ?_⟩
  have rs1 := RD.ku (Dy tb bt1) _ _ (C3 S) rs
  rcases hcase with ⟨hi, h1⟩ | ⟨wr, d, hwr, hi, hed, h1⟩
  ·subst hi
   rw [Zz4] at ra hne
   refine ⟨_, Ab (j := 0) h1 rfl, rfl, ?_⟩
   rw [if_pos (by decide)]
   refine ⟨_, Ab (j := 1) h1 rfl, by decide, λr hr' => ?_⟩
   have u := A3 (o := .tup [v, .ref p]) hr'
   exact k2 r v p S 9 ys _ A0 (RD.same u _ _ rs1) g (by decide) (by decide) (Wl so hne) so (ra.same u) hp (tb1.same u) (bt1.trans (Bb u))
  ·refine ⟨_, Ab (j := 0) h1 rfl, rfl, ?_⟩
   rw [if_neg (by decide)]
   refine ⟨v, S, 9, rfl, rs1, g, by decide, by decide, tb1, λH2 hno tb2 bt2 => ?_, λn H2 lok tb2 bt2 => ?_⟩
   ·show if decide (V.non = V.non) = true then _ else _
    rw [if_pos (by decide)]
    refine ⟨by decide, λr hr' => ?_⟩
    have u := A3 (o := .tup [v, .non]) hr'
    exact k1 r v _ A0 (tb2.same u) ((bt1.trans bt2).trans (Bb u))
   ·show if decide (V.int n = V.non) = true then _ else _
    rw [if_neg (by rw [decide_eq_false (λz => by cases z)]; decide)]
    obtain ⟨l0, l1, l2, l3, w, hw, hwM⟩ := lok
    have m360 : tm S w.name <= 360 := by
     have := Tu (S := S) (λw hw => (g.ws.wb w hw).lag) S.wares.length w.name
     have := g.len.2
     unfold tm
     omega
    have bt02 := bt1.trans bt2
    have rs2 := RD.ku (Dy tb bt02) _ _ (C3 S) rs
    refine ⟨v, S, n, rfl, rs2, g.ok, g.no, by have := g.wants.1; omega, λx H3 rx s3 => ?_⟩
    have bt03 := bt02.trans (Bb (st := Pt) s3)
    have tb3 := tb2.same s3
    refine ⟨x, C5 n S, 9 + n, rfl, rx, g.off l0, by omega, by omega, tb3, λt4 p4 ys4 i4 H4 ht4 hp4 tp4 so4 ra4 hne4 tb4 bt4 hcase4 => ?_⟩
    rcases hcase4 with ⟨hi4, h4⟩ | ⟨wr4, d4, hwr4, hi4, hed4, h4⟩
    ·subst hi4
     rw [Zz4] at ra4 hne4
     refine ⟨_, Ab (j := 1) h4 rfl, by decide, λr hr' => ?_⟩
     have u := A3 (o := .tup [x, .ref p4]) hr'
     have rx4 := RD.ku (Dy tb3 bt4) _ _ (C3 _) rx
     exact k2 r x p4 (C5 n S) (9 + n) ys4 _ A0 (RD.same u _ _ rx4) (g.off l0) (by omega) (by omega) l2 so4 ((ra4.back λq hq => Hh tb3 bt03 hq).same u) (Hh tb3 bt03 hp4) (tb4.same u) ((bt03.trans bt4).trans (Bb u))
    ·rw [l2 wr4 hwr4] at hed4
     cases hed4
def PlanK (H : Hp) (a st : Addr) (S : Sh) (kvs : List (Key × V)) (plan : Str -> List Int) (B : Int) : Prop := H a = some (.dK kvs) /\ jm kvs (Ag S) /\ ∀ nm ∈ Ag S, ∃ l : Addr, B1 kvs (.inr nm) = some (.ref l) /\ l ≠ st /\ H l = some (.lst ((plan nm).map V.int)) /\ (plan nm).length = daysN S /\ ∀ x ∈ plan nm, 0 <= x /\ x <= B
theorem PlanK.set {H : Hp} {a st : Addr} {S : Sh} {kvs : List (Key × V)} {plan : Str -> List Int} {B B' : Int} (h : PlanK H a st S kvs plan B) {nm : Str} (hn : nm ∈ Ag S) {l : Addr} (hv : B1 kvs (.inr nm) = some (.ref l)) {xs : List Int} (hl : xs.length = daysN S) (hx : ∀ x ∈ xs, 0 <= x /\ x <= B') (hB : B <= B') :
  PlanK (upd H l (.lst (xs.map V.int))) a st S kvs (λy => if y = nm then xs else plan y) B' := by
 obtain ⟨h1, h2, h3⟩ := h
 obtain ⟨l0, e1, e2, e3, _⟩ := h3 nm hn
 rw [hv] at e1
 cases e1
 have al : a ≠ l := Eo h1 e3 (λz => by cases z)
 refine ⟨by rw [A5 al]; exact h1, h2, λnm' hn' => ?_⟩
 obtain ⟨l', f1, f2, f3, f4, f5⟩ := h3 nm' hn'
 by_cases e : nm' = nm
 ·subst e
  rw [hv] at f1
  cases f1
  refine ⟨l, hv, f2, ?_, ?_, ?_⟩
  ·show upd H l (.lst (xs.map V.int)) l = some (.lst ((if nm' = nm' then xs else plan nm').map V.int))
   rw [if_pos rfl, A0]
  ·show (if nm' = nm' then xs else plan nm').length = daysN S
   rw [if_pos rfl]; exact hl
  ·show ∀ x ∈ (if nm' = nm' then xs else plan nm'), 0 <= x /\ x <= B'
   rw [if_pos rfl]; exact hx
 ·have ll : l' ≠ l := λz => by rw [z] at f1; exact e (h2 nm' hn' nm hn l f1 hv)
  refine ⟨l', f1, f2, ?_, ?_, ?_⟩
  ·show upd H l (.lst (xs.map V.int)) l' = some (.lst ((if nm' = nm then xs else plan nm').map V.int))
   rw [if_neg e, A5 ll]; exact f3
  ·show (if nm' = nm then xs else plan nm').length = daysN S
   rw [if_neg e]; exact f4
  ·show ∀ x ∈ (if nm' = nm then xs else plan nm'), 0 <= x /\ x <= B'
   rw [if_neg e]; exact λx hx' => ⟨(f5 x hx').1, Zxq (f5 x hx').2 hB⟩
theorem PlanK.but {H H' : Hp} {a st : Addr} {S : Sh} {kvs : List (Key × V)} {plan : Str -> List Int} {B : Int} (h : PlanK H a st S kvs plan B) (b : But st H H') (ast : a ≠ st) : PlanK H' a st S kvs plan B :=
 ⟨b _ _ ast h.1, h.2.1, λnm hn => by obtain ⟨l, e1, e2, e3, e4⟩ := h.2.2 nm hn; exact ⟨l, e1, e2, b _ _ e2 e3, e4⟩⟩
theorem Tz {xs : List Int} {B : Int} {i : Nat} {v : Int} (h : ∀ x ∈ xs, 0 <= x /\ x <= B) (hv : 0 <= v /\ v <= B) : ∀ x ∈ xs.set i v, 0 <= x /\ x <= B := λx hx => by
 rcases List.mem_or_eq_of_mem_set hx with z | z
 ·exact h x z
 ·rw [z]; exact hv
theorem PlanK.at {H : Hp} {a st : Addr} {S : Sh} {kvs : List (Key × V)} {plan : Str -> List Int} {B : Int} (h : PlanK H a st S kvs plan B) (hB : B < 10 ^ 2000) : PlanAt H a S plan :=
 ⟨kvs, .inl h.1, λnm hn => by obtain ⟨l, e1, _, e3, e4, e5⟩ := h.2.2 nm hn; exact ⟨l, e1, e3, e4, λx hx => ⟨(e5 x hx).1, Zy8 (e5 x hx).2 hB⟩⟩⟩
theorem PlanK.tb {H H' : Hp} {a st Pt : Addr} {S : Sh} {kvs : List (Key × V)} {plan : Str -> List Int} {B : Int} (h : PlanK H a st S kvs plan B) (tb : Tb H Pt) (bt : But Pt H H') : PlanK H' a st S kvs plan B :=
 ⟨bt _ _ (Dx tb h.1 λu z => by cases z) h.1, h.2.1, λnm hn => by obtain ⟨l, e1, e2, e3, e4⟩ := h.2.2 nm hn; exact ⟨l, e1, e2, bt _ _ (Dx tb e3 λu z => by cases z) e3, e4⟩⟩
theorem PlanK.same {H H' : Hp} {a st : Addr} {S : Sh} {kvs : List (Key × V)} {plan : Str -> List Int} {B : Int} (h : PlanK H a st S kvs plan B) (s : Same H H') : PlanK H' a st S kvs plan B :=
 ⟨s _ _ h.1, h.2.1, λnm hn => by obtain ⟨l, e1, e2, e3, e4⟩ := h.2.2 nm hn; exact ⟨l, e1, e2, s _ _ e3, e4⟩⟩
theorem P7 {S : Sh} {plan : Str -> List Int} {w : Wr} : ∀ {n : Nat} {x : Str × Nat}, Dt S plan w n = some x -> PyData.strOk x.1 = true
 | 0, x, h => by rw [Dt] at h; cases h
 | n + 1, x, h => by
  rw [Dt] at h
  split at h
  ·rename_i y e
   rw [<- Zzn h]
   exact P7 e
  ·split at h
   ·rw [<- Zzn h]; exact (by decide +kernel : PyData.strOk ("early" : Str) = true)
   ·split at h
    ·rw [<- Zzn h]; exact (by decide +kernel : PyData.strOk ("below" : Str) = true)
    ·cases h
theorem Vq {S : Sh} {plan : Str -> List Int} {ys : List Str} : ∀ {n : Nat} {x : Str × Str × Nat}, Io S plan ys n = some x -> PyData.strOk x.1 = true /\ x.2.1 ∈ ys
 | 0, x, h => by rw [Io] at h; cases h
 | n + 1, x, h => by
  rw [Io] at h
  split at h
  ·rename_i y e
   rw [<- Zzn h]
   exact Vq e
  ·split at h
   ·cases h
   ·rename_i y e
    split at h
    ·cases h
    ·rename_i w e2
     cases e3 : Gg S plan w with
     | none => rw [e3] at h; cases h
     | some z =>
      rw [e3] at h
      rw [<- Zzn h]
      exact ⟨P7 e3, Zzw e⟩
def Zo : Option (Str × Str × Nat) -> PyData
 | none => .tuple [.str "good"]
 | some (k, nm, d) => .tuple [.str k, .str nm, .int d]
theorem Yn {H : Hp} {t : Addr} : ∀ {o : Option (Str × Str × Nat)}, H t = some (.tup (gg o)) -> RD H (Zo o) (.ref t)
 | none, h => by
  rw [Zo, RD]
  exact ⟨t, _, rfl, h, by simp [gg, RDs, RD]⟩
 | some (k, nm, d), h => by
  rw [Zo, RD]
  exact ⟨t, _, rfl, h, by simp [gg, RDs, RD]⟩
theorem kr {S : Sh} {plan : Str -> List Int} {ys : List Str} (ht : ∀ x ∈ ys, PyData.strOk x = true) : okD (Zo (P2 S plan ys)) = true := by
 cases e : P2 S plan ys with
 | none => decide +kernel
 | some x =>
  obtain ⟨k, nm, d⟩ := x
  obtain ⟨h1, h2⟩ := Vq (show Io S plan ys ys.length = some (k, nm, d) from e)
  have h3 := ht _ h2
  unfold okD
  simp [Zo, PyData.canLay0, PyData.canLayAll0, PyData.depth, PyData.depthAll]
  exact ⟨h1, h3⟩
abbrev Pegs := Str -> List (Th × Th × Int)
inductive Rch (pg : Pegs) : Str -> Int -> Int -> Prop
 | want {x : Str} {d : Nat} {k : Nat} {a : Int} (h : (Th.lots d, Th.want k, a) ∈ pg x) : Rch pg x d k
 | part {x y : Str} {d : Nat} {c k a : Int} (h : (Th.lots d, Th.part y c, a) ∈ pg x) (r : Rch pg y c k) : Rch pg x d k
def Gz (pg : Pegs) (t : Th) (k : Int) : Prop := match t with
 | .want j => k = (j : Int)
 | .part y c => Rch pg y c k
 | _ => False
theorem rch_iff {pg : Pegs} {x : Str} {e k : Int} : Rch pg x e k ↔ ∃ q ∈ pg x, ∃ d : Nat, q.1 = Th.lots d /\ (d : Int) = e /\ Gz pg q.2.1 k := by
 constructor
 ·intro h
  cases h with
  | want h => exact ⟨_, h, _, rfl, rfl, rfl⟩
  | part h r => exact ⟨_, h, _, rfl, rfl, r⟩
 ·rintro ⟨⟨s, n, a⟩, hq, d, e1, rfl, h⟩
  have e1 : s = Th.lots d := e1
  subst e1
  cases n with
  | want j =>
   have h : k = (j : Int) := h
   subst h
   exact .want hq
  | part y c => exact .part hq h
  | _ => exact h.elim
def Pj (pg : Pegs) (x : Str) (e : Int) (ms : List Int) : Prop := ms.Pairwise (· < ·) /\ ∀ k, k ∈ ms ↔ Rch pg x e k
theorem Rw {pg : Pegs} {x : Str} {e : Int} {ms ns : List Int} (h : Pj pg x e ms) (h' : Pj pg x e ns) : ms = ns := by
 have key : ∀ (ms ns : List Int), ms.Pairwise (· < ·) -> ns.Pairwise (· < ·) -> (∀ k, k ∈ ms ↔ k ∈ ns) -> ms = ns := λms => by
  induction ms with
  | nil => intro ns _ _ h; cases ns with | nil => rfl | cons y r => exact absurd ((h y).mpr Zzj) (by simp)
  | cons x r ih =>
   intro ns h1 h2 h
   cases ns with
   | nil => exact absurd ((h x).mp Zzj) (by simp)
   | cons y q =>
    obtain ⟨a1, a2⟩ := List.pairwise_cons.mp h1
    obtain ⟨b1, b2⟩ := List.pairwise_cons.mp h2
    have exy : x = y := by
     rcases Zzo.mp ((h x).mp Zzj) with z | z
     ·exact z
     ·rcases Zzo.mp ((h y).mpr Zzj) with z' | z'
      ·exact z'.symm
      ·have := b1 x z; have := a1 y z'; omega
    subst exy
    rw [ih q a2 b2 λk => ⟨λhk => ?_, λhk => ?_⟩]
    ·rcases Zzo.mp ((h k).mp (Zzk _ hk)) with z | z
     ·have := a1 k hk; omega
     ·exact z
    ·rcases Zzo.mp ((h k).mpr (Zzk _ hk)) with z | z
     ·have := b1 k hk; omega
     ·exact z
 exact key ms ns h.1 h'.1 λk => (h.2 k).trans (h'.2 k).symm
theorem Rv {pg : Pegs} {x : Str} {e : Int} {ms ns : List Int} (pm : ms.Perm ns) (so : ms.Pairwise (· <= ·)) (nd : ns.Nodup) (h : ∀ k, k ∈ ns ↔ Rch pg x e k) : Pj pg x e ms := by
 have nm : ms.Nodup := pm.nodup_iff.mpr nd
 refine ⟨?_, λk => pm.mem_iff.trans (h k)⟩
 have := List.Pairwise.and so nm
 exact this.imp λ{a b} hab => by have h1 := hab.1; have h2 : a ≠ b := hab.2; omega
def Go (kvs : List (Key × V)) (ns : List Int) : Prop := kvs.map (·.1) = ns.map Zxc /\ ns.Nodup
theorem Ho : Go [] [] := ⟨rfl, Zwc⟩
theorem P0 {kvs : List (Key × V)} {ns : List Int} (h : Go kvs ns) (k : Int) (v : V) : ∃ ms, Go (B8 kvs (.inl k) v) ms /\ (∀ j, j ∈ ms ↔ j ∈ ns \/ j = k) /\ ms.length <= ns.length + 1 := by
 cases e : B1 kvs (.inl k) with
 | none =>
  have nk : k ∉ ns := λhk => Y3 e (by rw [h.1]; exact Zzs.mpr ⟨k, hk, rfl⟩)
  refine ⟨ns ++ [k], ⟨by rw [Gv _ e, Zzm, Zzm, h.1]; rfl, ?_⟩, λj => by simp, by simp⟩
  rw [Zw8]
  exact ⟨h.2, by simp, λa ha b hb e => nk (by rw [<- Zzu.mp hb, <- e]; exact ha)⟩
 | some y =>
  have hk : k ∈ ns := by
   have h1 := Pm e
   rw [h.1] at h1
   obtain ⟨j, hj, e2⟩ := Zzs.mp h1
   rw [<- Sum.inl.inj e2]
   exact hj
  refine ⟨ns, ⟨?_, h.2⟩, λj => ⟨.inl, λz => z.elim id λz => by rw [z]; exact hk⟩, Zw7 _⟩
  rw [<- h.1]
  unfold B8
  rw [if_pos (by rw [D1, e]; rfl), Zy1]
  apply Zxv
  intro kv _
  show (if kv.1 = Zxc k then (kv.1, v) else kv).1 = kv.1
  split <;> rfl
theorem L3 : ∀ {kb : List (Key × V)} {mb : List Int} {ka : List (Key × V)} {ma : List Int}, Go ka ma -> kb.map (·.1) = mb.map Zxc -> ∃ ms, Go (E8 ka kb) ms /\ (∀ j, j ∈ ms ↔ j ∈ ma \/ j ∈ mb) /\ ms.length <= ma.length + mb.length
 | [], mb, ka, ma, ha, hb => by
  cases mb with
  | nil => exact ⟨ma, ha, λj => by simp, Zzt _⟩
  | cons y r => cases hb
 | kv :: kb, mb, ka, ma, ha, hb => by
  cases mb with
  | nil => cases hb
  | cons y mb =>
   rw [Zzd, Zzd] at hb
   obtain ⟨h1, h2⟩ := List.cons.inj hb
   obtain ⟨m1, k1, i1, l1⟩ := P0 ha y kv.2
   obtain ⟨m2, k2, i2, l2⟩ := L3 k1 h2
   refine ⟨m2, ?_, λj => ?_, by rw [Zyl]; omega⟩
   ·show Go (E8 (B8 ka kv.1 kv.2) kb) m2
    rw [h1]
    exact k2
   ·rw [i2, i1, Zzo]
    constructor
    ·rintro ((h | h) | h)
     ·exact .inl h
     ·exact .inr (.inl h)
     ·exact .inr (.inr h)
    ·rintro (h | h | h)
     ·exact .inl (.inl h)
     ·exact .inl (.inr h)
     ·exact .inr h
end
set_option maxHeartbeats 4000000
section
variable {P : Program} {w : World} {K : Zzv} {mg : Str -> Option Value} {base : Heap} {f : Addr} {fd : FuncData} {Pt : Addr}
def Kc (S : Sh) (plan : Str -> List Int) (ws : List Wr) : Pegs := λx => match Gm S x with
 | some w => L9 S plan w ws
 | none => []
theorem Q7 {S : Sh} {plan : Str -> List Int} {ws : List Wr} (nd : (S.wares.map (·.name)).Nodup) {w : Wr} (hw : w ∈ S.wares) : Kc S plan ws w.name = L9 S plan w ws := by
 unfold Kc
 rw [Fq nd hw]
theorem Md {α β : Type} {f : Nat -> α -> List β} {xs : List α} {i k : Nat} {x : α} {y : β} (hk : k < i) (e : xs[k]? = some x) (hy : y ∈ f k x) : y ∈ Fm f xs i := by
 unfold Fm
 refine Zxp.mpr ⟨k, Zy9.mpr hk, ?_⟩
 rw [e]
 exact hy
theorem ad {ss ns : List (Th × Int)} (hs : ∀ x ∈ ss, 0 < x.2) (hn : ∀ x ∈ ns, 0 < x.2) {i : Nat} {s : Th × Int} (es : ss[i]? = some s) : ∃ t a, (s.1, t, a) ∈ Gs Th.left ss ns ss.length := by
 have e1 := D9 es
 have e2 := hs s (Zzw es)
 have hi := (Zzh.mp es).1
 by_cases c : Af ss (i + 1) > Af ns ns.length
 ·refine ⟨Th.left, Af ss (i + 1) - mx (Af ss i) (Af ns ns.length), Md hi es (Zza _ ?_)⟩
  rw [if_pos c]
  exact Zzu.mpr rfl
 ·have h0 : Af ns 0 <= Af ss i := by
   have h1 := Em hs (i := 0) (j := i) (Zz3 _)
   exact h1
  obtain ⟨pl, h1, h2, h3, h4⟩ := Je (ns := ns) (x := Af ss i) ns.length 0 (by omega) (by omega) h0
  have hlt : pl < ns.length := Decidable.byContradiction λz => by
   have : pl = ns.length := by omega
   rw [this] at h3
   omega
  have h5 := h4 hlt
  obtain ⟨n, en⟩ : ∃ n, ns[pl]? = some n := ⟨_, Zzr hlt⟩
  refine ⟨n.1, mn (Af ss (i + 1)) (Af ns (pl + 1)) - mx (Af ss i) (Af ns pl), Md hi es (Zyw _ (Md hlt en ?_))⟩
  unfold Gi
  rw [if_pos (by unfold mn mx; split <;> split <;> omega)]
  exact Zzu.mpr rfl
theorem T9 {ss ns : List (Th × Int)} {i : Nat} : ∀ q ∈ Gs Th.left ss ns i, (∃ s ∈ ss, q.1 = s.1) /\ (q.2.1 = Th.left \/ ∃ n ∈ ns, q.2.1 = n.1) := by
 refine C7 λk s es q hq => ?_
 unfold Hc at hq
 rcases Zzc.mp hq with y | y
 ·refine C7 (C := λq : Th × Th × Int => (∃ s ∈ ss, q.1 = s.1) /\ (q.2.1 = Th.left \/ ∃ n ∈ ns, q.2.1 = n.1)) (λj n en q hq => ?_) q y
  unfold Gi at hq
  split at hq
  ·rw [Zzu.mp hq]
   exact ⟨⟨s, Zzw es, rfl⟩, .inr ⟨n, Zzw en, rfl⟩⟩
  ·cases hq
 ·split at y
  ·rw [Zzu.mp y]
   exact ⟨⟨s, Zzw es, rfl⟩, .inl rfl⟩
  ·cases y
theorem Vj {S : Sh} {plan : Str -> List Int} {w : Wr} {ws : List Wr} {n : Nat} (hl : ∀ t ∈ ws, (plan t.name).length = n /\ 0 <= t.lag) : ∀ z ∈ Nr (Gc S plan w ws n), z.1 = Th.floor \/ (∃ k, z.1 = Th.want k /\ k < S.wants.length) \/ ∃ t ∈ ws, ∃ c : Nat, z.1 = Th.part t.name c /\ (∃ p ∈ t.parts, p.1 = w.name) /\ c < n /\ (plan t.name).getD c 0 ≠ 0 := λz hz => by
 obtain ⟨h1, h2⟩ := Zys.mp hz
 have h2 := of_decide_eq_true h2
 unfold Gc at h1
 rcases Zzo.mp h1 with y | y
 ·exact .inl (by rw [y])
 ·obtain ⟨d, hd, hz⟩ := Zxp.mp y
  have hd := Zy9.mp hd
  unfold Sq at hz
  rcases Zzc.mp hz with y | y
  ·refine .inr (.inl ?_)
   refine C7 (C := λz : It3 => ∃ k, z.1 = Th.want k /\ k < S.wants.length) (λk u eu q hq => ?_) z y
   split at hq
   ·rw [Zzu.mp hq]; exact ⟨k, rfl, (Zzh.mp eu).1⟩
   ·cases hq
  ·obtain ⟨k, hk, rfl⟩ := Zzs.mp y
   refine .inr (.inr ?_)
   revert h2
   refine C7 (C := λk : Tk => 0 < (Me d k).2.2 -> ∃ t ∈ ws, ∃ c : Nat, (Me d k).1 = Th.part t.name c /\ (∃ p ∈ t.parts, p.1 = w.name) /\ c < n /\ (plan t.name).getD c 0 ≠ 0) (λ_ t et => C7 λ_ p ep k hk => ?_) k hk
   split at hk
   ·rename_i c
    rw [Zzu.mp hk]
    intro h2
    obtain ⟨e1, e2⟩ := hl t (Zzw et)
    have eb : ((Ax (plan t.name) t.lag).map (· * p.2)).getD d 0 = bAt (plan t.name) t.lag d * p.2 := by
     rw [Zzg, Zzx]
     unfold Ax
     rw [Bi (by omega)]
     rfl
    have h2 : 0 < ((Ax (plan t.name) t.lag).map (· * p.2)).getD d 0 := h2
    rw [eb] at h2
    have hb : bAt (plan t.name) t.lag d ≠ 0 := λz => by rw [z, Int.zero_mul] at h2; omega
    have hc : d + t.lag.toNat < n := Decidable.byContradiction λz => hb (by unfold bAt; rw [if_neg (by omega)])
    refine ⟨t, Zzw et, d + t.lag.toNat, ?_, ⟨p, Zzw ep, c⟩, hc, λz => hb (by unfold bAt; rw [if_pos (by omega)]; exact z)⟩
    show Th.part t.name (d + t.lag) = Th.part t.name ((d + t.lag.toNat : Nat) : Int)
    congr 1
    omega
   ·cases hk
structure bf (S : Sh) (n : Nat) (pg : Pegs) : Prop where
 off : ∀ x, x ∉ Ag S -> pg x = []
 want : ∀ x, ∀ q ∈ pg x, ∀ k, q.2.1 = Th.want k -> k < S.wants.length
 part : ∀ x, ∀ q ∈ pg x, ∀ y c, q.2.1 = Th.part y c -> (∃ t ∈ S.wares, t.name = y /\ ∃ p ∈ t.parts, p.1 = x) /\ (0 <= c /\ c < (n : Int)) /\ ∃ d : Nat, (d : Int) = c /\ ∃ t a, (Th.lots d, t, a) ∈ pg y
 len : ∀ x, (pg x).length <= 1000000
 ok : ∀ x, ∀ q ∈ pg x, Hy q.1 /\ Hy q.2.1
theorem ph {sz : Int} {S : Sh} {plan : Str -> List Int} {ws : List Wr} (g : Good sz S) (z0 : 0 < sz) (z1 : sz <= 1000) (od : OrdOk S ws) (hp : ∀ t ∈ S.wares, (plan t.name).length = daysN S /\ ∀ x ∈ plan t.name, 0 <= x) : bf S (daysN S) (Kc S plan ws) := by
 obtain ⟨n1, n2, n3, n4⟩ := g.days z0 z1
 have at' : ∀ x, ∀ q ∈ Kc S plan ws x, ∃ w ∈ S.wares, w.name = x /\ q ∈ L9 S plan w ws := λx q hq => by
  unfold Kc at hq
  cases e : Gm S x with
  | none => rw [e] at hq; cases hq
  | some w =>
   rw [e] at hq
   obtain ⟨hw, ew⟩ := Ek e
   exact ⟨w, hw, ew, hq⟩
 have fpos : ∀ l : List It3, ∀ x ∈ Nr l, 0 < x.2.2 := λl x hx => of_decide_eq_true (Zys.mp hx).2
 have plen : ∀ l : List It3, (Nr l).length <= l.length := λl => Zx0 _ _
 have hl : ∀ t ∈ ws, (plan t.name).length = daysN S /\ 0 <= t.lag := λt ht => ⟨(hp t (od.1 t ht)).1, (g.ws.wb t (od.1 t ht)).lag.1⟩
 have sp : ∀ w, ∀ x ∈ Ry S plan w, 0 < x.2 := λw x hx => by obtain ⟨z, hz, rfl⟩ := Zzs.mp hx; exact fpos _ z hz
 have np : ∀ w, ∀ x ∈ X2 S plan w ws, 0 < x.2 := λw x hx => by obtain ⟨z, hz, rfl⟩ := Zzs.mp hx; exact fpos _ z hz
 refine ⟨λx hx => ?_, λx q hq k e => ?_, λx q hq y c e => ?_, λx => ?_, λx q hq => ?_⟩
 ·unfold Kc
  cases e : Gm S x with
  | none => rfl
  | some w =>
   obtain ⟨hw, ew⟩ := Ek e
   exact absurd (Zzs.mpr ⟨w, hw, ew⟩) hx
 ·obtain ⟨w, hw, _, hq⟩ := at' x q hq
  rcases (T9 q hq).2 with h | ⟨n, hn, h⟩
  ·rw [h] at e; cases e
  ·obtain ⟨z, hz, rfl⟩ := Zzs.mp hn
   have h : q.2.1 = z.1 := h
   rw [h] at e
   rcases Vj hl z hz with h' | ⟨k', h', hk⟩ | ⟨t, _, c, h', _⟩
   ·rw [h'] at e; cases e
   ·rw [h'] at e; cases e; exact hk
   ·rw [h'] at e; cases e
 ·obtain ⟨w, hw, ew, hq⟩ := at' x q hq
  rcases (T9 q hq).2 with h | ⟨n, hn, h⟩
  ·rw [h] at e; cases e
  ·obtain ⟨z, hz, rfl⟩ := Zzs.mp hn
   have h : q.2.1 = z.1 := h
   rw [h] at e
   rcases Vj hl z hz with h' | ⟨k', h', hk⟩ | ⟨t, ht, c', h', hpp, hc, hne⟩
   ·rw [h'] at e; cases e
   ·rw [h'] at e; cases e
   ·rw [h'] at e
    cases e
    have htm := od.1 t ht
    rw [ew] at hpp
    refine ⟨⟨t, htm, rfl, hpp⟩, ⟨by omega, by omega⟩, c', rfl, ?_⟩
    rw [Q7 g.ws.nd htm]
    have pos : 0 < (plan t.name).getD c' 0 * t.gives := by
     have h0 : 0 <= (plan t.name).getD c' 0 := by
      rw [Zzg]
      cases e : (plan t.name)[c']? with
      | none => exact Zz0 _
      | some y => exact (hp t htm).2 y (Zzw e)
     exact Int.mul_pos (by omega) (by have := (g.ws.wb t htm).gives.1; omega)
    have hin : (Th.lots c', (plan t.name).getD c' 0 * t.gives) ∈ Ry S plan t := by
     refine Zzs.mpr ⟨(Th.lots c', (c' : Int), (plan t.name).getD c' 0 * t.gives), Zys.mpr ⟨?_, decide_eq_true pos⟩, rfl⟩
     unfold Dz
     refine Zzk _ (Zxp.mpr ⟨c', Zy9.mpr hc, ?_⟩)
     unfold Lz
     exact Zza _ (Zzu.mpr rfl)
    obtain ⟨i, hi⟩ := Zxt.mp hin
    exact ad (sp t) (np t) hi
 ·unfold Kc
  cases e : Gm S x with
  | none => exact Zz3 _
  | some w =>
   obtain ⟨hw, ew⟩ := Ek e
   have d1 := Vv (lf := Th.left) (np w) (sp w) _ (Zzt _)
   have s1 := Hi (plan := plan) (g.com w hw).1 (daysN S)
   have s2 := Ji (S := S) (plan := plan) (w := w) (λt ht => (g.ws.wb t (od.1 t ht)).parts) (by have := od.len; have := g.len.2; omega) g.wants.1 (daysN S)
   have s3 := plen (Dz plan w (daysN S))
   have s4 := plen (Gc S plan w ws (daysN S))
   have e1 : (Ry S plan w).length = (Nr (Dz plan w (daysN S))).length := Zzz ..
   have e2 : (X2 S plan w ws).length = (Nr (Gc S plan w ws (daysN S))).length := Zzz ..
   show (L9 S plan w ws).length <= 1000000
   unfold L9
   omega
 ·obtain ⟨w, hw, ew, hq⟩ := at' x q hq
  exact m9 (λq hq => by obtain ⟨z, hz, rfl⟩ := Zzs.mp hq; exact js z (Zys.mp hz).1) (λq hq => by obtain ⟨z, hz, rfl⟩ := Zzs.mp hq; exact q8 (λt ht => g.ws.txt t (od.1 t ht)) z (Zys.mp hz).1) _ q hq
theorem Jb {S : Sh} {n : Nat} {pg : Pegs} (h : bf S n pg) {x : Str} {e k : Int} (r : Rch pg x e k) : 0 <= k /\ k < (S.wants.length : Int) := by
 induction r with
 | want hq => have := h.want _ _ hq _ rfl; omega
 | part _ _ ih => exact ih
theorem Mp : ∀ (n : Nat) {l : List Int}, l.Nodup -> (∀ k ∈ l, 0 <= k /\ k < (n : Int)) -> l.length <= n
 | 0, l, _, h => by
  cases l with
  | nil => exact Zzt _
  | cons x r => have := h x Zzj; omega
 | n + 1, l, nd, h => by
  have key : ∀ {l : List Int} (a : Int), l.Nodup -> l.length <= (l.filter λk => decide (k ≠ a)).length + 1 := λ{l} a => by
   induction l with
   | nil => intro _; exact Zz3 _
   | cons x r ih =>
    intro nd
    obtain ⟨h1, h2⟩ := Zyj.mp nd
    rw [Zwp]
    by_cases e : x = a
    ·rw [if_neg (by simp [e])]
     have : (r.filter λk => decide (k ≠ a)) = r := List.filter_eq_self.mpr λy hy => decide_eq_true λz => h1 (by rw [e, <- z]; exact hy)
     rw [this, Zyl]
     exact Zzt _
    ·rw [if_pos (decide_eq_true e), Zyl, Zyl]
     have := ih h2
     omega
  have h1 := key (n : Int) nd
  have h2 := Mp n (l := l.filter λk => decide (k ≠ (n : Int))) (nd.filter _) λk hk => by
   obtain ⟨a, b⟩ := Zys.mp hk
   have b := of_decide_eq_true b
   have := h k a
   omega
  omega
end
set_option maxHeartbeats 4000000
section
variable {P : Program} {w : World} {K : Zzv} {mg : Str -> Option Value} {base : Heap} {f : Addr} {fd : FuncData} {Pt : Addr}
def pk (x : Str) (e : Int) : List Key := [.inr x, .inl e]
theorem Ka {x y : Str} {e f : Int} (h : pk x e = pk y f) : x = y /\ e = f := by
 unfold pk at h
 simp at h
 exact h
def Er (pd : Pegs) (y : Str) (e : Int) : Prop := ∃ q ∈ pd y, ∃ d : Nat, q.1 = Th.lots d /\ (d : Int) = e
def Hu (pg pd : Pegs) (y : Str) (e k : Int) : Prop := ∃ q ∈ pd y, ∃ d : Nat, q.1 = Th.lots d /\ (d : Int) = e /\ Gz pg q.2.1 k
structure SvG (H0 H : Hp) (sd : Addr) (kvs : List (List Key × V)) (has : Str -> Int -> Prop) (mem : Str -> Int -> Int -> Prop) : Prop where
 dict : H sd = some (.dT kvs)
 yes : ∀ y e, has y e -> ∃ (q : Addr) (kq : List (Key × V)) (ns : List Int), B1 kvs (pk y e) = some (.ref q) /\ H0 q = none /\ H q = some (.dK kq) /\ Go kq ns /\ ns.length <= 20 /\ ∀ k, k ∈ ns ↔ mem y e k
 no : ∀ y e, ¬ has y e -> B1 kvs (pk y e) = none
 apart : ∀ y e y' e' (q : Addr), B1 kvs (pk y e) = some (.ref q) -> B1 kvs (pk y' e') = some (.ref q) -> y = y' /\ e = e'
section
variable {H0 H H' : Hp} {sd Pt : Addr} {kvs : List (List Key × V)} {has : Str -> Int -> Prop} {mem : Str -> Int -> Int -> Prop}
theorem SvG.same (h : SvG H0 H sd kvs has mem) (s : Same H H') : SvG H0 H' sd kvs has mem :=
 ⟨s _ _ h.dict, λy e hy => by obtain ⟨q, kq, ns, e1, e2, e3, e4⟩ := h.yes y e hy; exact ⟨q, kq, ns, e1, e2, s _ _ e3, e4⟩, h.no, h.apart⟩
theorem SvG.tb (h : SvG H0 H sd kvs has mem) (tb : Tb H Pt) (bt : But Pt H H') : SvG H0 H' sd kvs has mem :=
 ⟨bt _ _ (Dx tb h.dict λu z => by cases z) h.dict, λy e hy => by obtain ⟨q, kq, ns, e1, e2, e3, e4⟩ := h.yes y e hy; exact ⟨q, kq, ns, e1, e2, bt _ _ (Dx tb e3 λu z => by cases z) e3, e4⟩, h.no, h.apart⟩
theorem SvG.iff (h : SvG H0 H sd kvs has mem) {has2 : Str -> Int -> Prop} {mem2 : Str -> Int -> Int -> Prop} (h1 : ∀ y e, has y e ↔ has2 y e) (h2 : ∀ y e k, mem y e k ↔ mem2 y e k) : SvG H0 H sd kvs has2 mem2 :=
 ⟨h.dict, λy e hy => by obtain ⟨q, kq, ns, e1, e2, e3, e4, e5, e6⟩ := h.yes y e ((h1 y e).mpr hy); exact ⟨q, kq, ns, e1, e2, e3, e4, e5, λk => (e6 k).trans (h2 y e k)⟩, λy e hy => h.no y e λz => hy ((h1 y e).mp z), h.apart⟩
theorem SvG.new (h : SvG H0 H sd kvs has mem) {x : Str} {d : Int} {q : Addr} (hn : B1 kvs (pk x d) = none) (hq0 : H0 q = none) (hq : H q = some (.dK [])) (hm : ∀ k, ¬ mem x d k) (fr : ∀ y e, B1 kvs (pk y e) ≠ some (.ref q)) : SvG H0 (upd H sd (.dT (B8 kvs (pk x d) (.ref q)))) sd (B8 kvs (pk x d) (.ref q)) (λy e => has y e \/ (y = x /\ d = e)) mem := by
 have nq : ∀ {b : Addr} {kq : List (Key × V)}, H b = some (.dK kq) -> b ≠ sd := λe => Eo e h.dict (λz => by cases z)
 have vp : ∀ y e, B1 (B8 kvs (pk x d) (.ref q)) (pk y e) = if pk y e = pk x d then some (.ref q) else B1 kvs (pk y e) := λy e => Cg _ _ _ _
 refine ⟨A0, λy e hy => ?_, λy e hy => ?_, λy e y' e' b h1 h2 => ?_⟩
 ·rw [vp]
  by_cases c : pk y e = pk x d
  ·rw [if_pos c]
   obtain ⟨rfl, rfl⟩ := Ka c
   exact ⟨q, [], [], rfl, hq0, by rw [A5 (nq hq)]; exact hq, Ho, Zz3 _, λk => ⟨λz => (by cases z), λz => absurd z (hm k)⟩⟩
  ·rw [if_neg c]
   rcases hy with hy | ⟨rfl, rfl⟩
   ·obtain ⟨q', kq, ns, e1, e2, e3, e4⟩ := h.yes y e hy
    exact ⟨q', kq, ns, e1, e2, by rw [A5 (nq e3)]; exact e3, e4⟩
   ·exact absurd rfl c
 ·rw [vp, if_neg (λc => hy (.inr ⟨(Ka c).1, (Ka c).2.symm⟩))]
  exact h.no y e λz => hy (.inl z)
 ·rw [vp] at h1 h2
  by_cases c1 : pk y e = pk x d
  ·by_cases c2 : pk y' e' = pk x d
   ·exact Ka (c1.trans c2.symm)
   ·rw [if_pos c1] at h1
    rw [if_neg c2] at h2
    rw [<- Zzn h1] at h2
    exact absurd h2 (fr y' e')
  ·rw [if_neg c1] at h1
   by_cases c2 : pk y' e' = pk x d
   ·rw [if_pos c2] at h2
    rw [<- Zzn h2] at h1
    exact absurd h1 (fr y e)
   ·rw [if_neg c2] at h2
    exact h.apart y e y' e' b h1 h2
theorem SvG.more (h : SvG H0 H sd kvs has mem) {x : Str} {d : Int} {q : Addr} {kq kb : List (Key × V)} {ns mb : List Int} {L : Int -> Prop} (hv : B1 kvs (pk x d) = some (.ref q)) (hq0 : H0 q = none) (hq : H q = some (.dK kq)) (hk : Go kq ns) (hm : ∀ k, k ∈ ns ↔ mem x d k) (hb : kb.map (·.1) = mb.map Zxc) (hL : ∀ k, k ∈ mb ↔ L k)
  (few : ∀ k, mem x d k \/ L k -> 0 <= k /\ k < 20) : SvG H0 (upd H q (.dK (E8 kq kb))) sd kvs has (λy e k => mem y e k \/ (y = x /\ d = e /\ L k)) := by
 obtain ⟨ms, k1, k2, _⟩ := L3 hk hb
 have sq : sd ≠ q := Eo h.dict hq (λz => by cases z)
 refine ⟨by rw [A5 sq]; exact h.dict, λy e hy => ?_, h.no, h.apart⟩
 by_cases c : pk y e = pk x d
 ·obtain ⟨rfl, rfl⟩ := Ka c
  refine ⟨q, _, ms, hv, hq0, A0, k1, ?_, λk => ?_⟩
  ·exact Mp 20 k1.2 λk hk => few k (by rcases (k2 k).mp hk with z | z; exact .inl ((hm k).mp z); exact .inr ((hL k).mp z))
  ·rw [k2, hm, hL]
   exact ⟨λz => z.elim .inl λz => .inr ⟨rfl, rfl, z⟩, λz => z.elim .inl λz => .inr z.2.2⟩
 ·obtain ⟨q', kq', ns', e1, e2, e3, e4, e5, e6⟩ := h.yes y e hy
  have nq : q' ≠ q := λz => by rw [z] at e1; obtain ⟨a, b⟩ := h.apart y e x d q e1 hv; exact c (by rw [a, b])
  refine ⟨q', kq', ns', e1, e2, by rw [A5 nq]; exact e3, e4, e5, λk => ?_⟩
  rw [e6]
  exact ⟨.inl, λz => z.elim id λz => absurd (by rw [z.1, z.2.1]) c⟩
end
theorem V2 {H : Hp} {p : Addr} {o u : HO} : upd (upd H p o) p u = upd H p u := by
 funext b
 by_cases e : b = p
 ·rw [e, A0, A0]
 ·rw [A5 e, A5 e, A5 e]
theorem E3 {H : Hp} {a sd : Addr} {x : Str} {ds : List PyData} {xs : List V} {Q : VK} (ha : H a = some (.tup xs)) (r : RDs H (.str x :: ds) xs) (h1 : ("want" : Str) ≠ x) (h2 : ("part" : Str) ≠ x) (k : ∀ p, H p = none -> Q (.ref p) (upd H p (.dK []))) :
  ∃ v, Jw H (V.ref a) (V.int 0) v /\ cw v (V.str "want") = true /\ if decide (v = V.str "want") = true then ∀ (p : Addr), H p = none -> ∃ v, Jw (upd H p (HO.dK [])) (V.ref a) (V.int 1) v /\ upd H p (HO.dK []) p = some (HO.dK []) /\ ∃ kvs, [(v, V.bl true)] = Zyb (λkv : Key × V => (kV kv.fst, kv.snd)) kvs /\ kvs.length <= 15 /\ Q (V.ref p) (upd (upd H p (HO.dK [])) p (HO.dK (E8 [] kvs)))
   else ∃ v, Jw H (V.ref a) (V.int 0) v /\ cw v (V.str "part") = true /\ if decide (v = V.str "part") = true then ∃ v, Jw H (V.ref a) (V.int 1) v /\ ∃ v_1, Jw H (V.ref a) (V.int 2) v_1 /\ 2 <= sizeLine /\ ∀ (p : Addr), H p = none -> ∃ x, DGet (upd H p (HO.tup [v, v_1])) sd (V.ref p) (some x) /\ Q x (upd H p (HO.tup [v, v_1]))
    else ∀ (p : Addr), H p = none -> Q (V.ref p) (upd H p (HO.dK [])) := by
 obtain ⟨x1, r1, rfl, h3, _⟩ := RDs.cons_of r
 rw [RD.str_of h3] at ha
 refine ⟨_, Ab (j := 0) ha rfl, rfl, ?_⟩
 rw [if_neg (λz => h1 (V.str.inj (of_decide_eq_true z)).symm)]
 refine ⟨_, Ab (j := 0) ha rfl, rfl, ?_⟩
 rw [if_neg (λz => h2 (V.str.inj (of_decide_eq_true z)).symm)]
 exact k
def sp_served_by : Sp := λvs H Q _ => ∃ (H0 : Hp) (sd : Addr) (v : V) (t : Th) (kvs : List (List Key × V)) (pg : Pegs) (has : Str -> Int -> Prop) (mem : Str -> Int -> Int -> Prop), vs = [.ref sd, v] /\ RD H t.d v /\ SvG H0 H sd kvs has mem /\ (∀ y c, t = Th.part y c -> has y c /\ ∀ k, mem y c k ↔ Rch pg y c k) /\
 ∀ (b : Addr) (kb : List (Key × V)) (mb : List Int) H', H' b = some (.dK kb) -> kb.map (·.1) = mb.map Zxc -> mb.length <= 20 -> (∀ k, k ∈ mb ↔ Gz pg t k) -> Same H H' -> (H b = none \/ ∃ y c, t = Th.part y c /\ B1 kvs (pk y c) = some (.ref b)) -> Q (.ref b) H'
theorem Py : Aj ["served", "need"] ["served", "need"] (Ad Ez) := by walk_at "sc"
theorem Qf (F : Fun K "served_by" "served_by" Ez f fd) (T : Txt mg) : Bh P w K mg base CX0 1 f fd ["served", "need"] sp_served_by := by
 refine F.ok Py (λvs H Q E h => ?_) (λcdv A outer s H vs Q E hr h => ?_)
 ·obtain ⟨H0, sd, v, t, kvs, pg, has, mem, rfl, _⟩ := h
  rfl
 ·obtain ⟨H0, sd, v, t, kvs, pg, has, mem, rfl, rt, sv, hpt, k⟩ := h
  have hu := B5 hr
  refine ⟨_, (A2 (Bd (Al (Bq hu) (A7 hu (pv 1) A8 (λ_ _ => rfl)) Bo (Am _)) (A9 (Ak (dq (Yq (A7 hu (pv 1) A8 (λ_ _ => rfl)) Ow cz) rfl rfl (by decide) (by decide)))) Ao)
 (A2 (Bd (Al (Bq hu) (A7 hu (pv 1) A8 (λ_ _ => rfl)) Bo (Am _)) (A9 (Ak (du hu (pv 0) (Aq (A4 (A7 hu (pv 1) A8 (λ_ _ => rfl)) (A4 (A7 hu (pv 1) A8 (λ_ _ => rfl)) A1))) (λ_ _ => rfl)))) Ao)
 (A9 (Ak Ct)))), ?_⟩
  obtain ⟨a, xs, rfl, ha, rxs⟩ := RD.tup_of (show RD H (.tuple t.ds) v from rt)
  have empty : ∀ {H' : Hp} (p : Addr), Same H H' -> H' p = none -> (∀ k, ¬ Gz pg t k) -> Q (.ref p) (upd H' p (.dK [])) := λ{H'} p s hp hn =>
   k p [] [] _ A0 rfl (Zz3 _) (λj => ⟨λh => (by cases h), λh => absurd h (hn j)⟩) (s.trans (A3 hp)) (.inl (Same.free s hp))
  have w1 : ("want" : Str) ≠ "floor" /\ ("want" : Str) ≠ "left" /\ ("want" : Str) ≠ "part" /\ ("want" : Str) ≠ "stock" /\ ("want" : Str) ≠ "coming" /\ ("want" : Str) ≠ "lots" := by decide +kernel
  have w2 : ("part" : Str) ≠ "floor" /\ ("part" : Str) ≠ "left" /\ ("part" : Str) ≠ "stock" /\ ("part" : Str) ≠ "coming" /\ ("part" : Str) ≠ "lots" := by decide +kernel
  walk_at "rd"
  cases t with
  | want j =>
   have rxs : RDs H [.str "want", .int j] xs := rxs
   obtain ⟨x1, r1, rfl, h1, rxs⟩ := RDs.cons_of rxs
   obtain ⟨x2, r2, rfl, h2, rxs⟩ := RDs.cons_of rxs
   have := RDs.nil_of rxs
   subst this
   rw [RD.str_of h1, RD.int_of h2] at ha
   refine ⟨_, Ab (j := 0) ha rfl, rfl, ?_⟩
   rw [if_pos (by decide)]
   intro p hp
   refine ⟨_, Ab (j := 1) (A3 hp _ _ ha) rfl, A0, [(.inl j, .bl true)], rfl, by show 1 <= 15; decide, ?_⟩
   rw [V2]
   exact k p _ [(j : Int)] _ A0 rfl (by show 1 <= 20; decide) (λi => by rw [Zzu]; exact Iff.rfl) (A3 hp) (.inl hp)
  | part y c =>
   have rxs : RDs H [.str "part", .str y, .int c] xs := rxs
   obtain ⟨x1, r1, rfl, h1, rxs⟩ := RDs.cons_of rxs
   obtain ⟨x2, r2, rfl, h2, rxs⟩ := RDs.cons_of rxs
   obtain ⟨x3, r3, rfl, h3, rxs⟩ := RDs.cons_of rxs
   have := RDs.nil_of rxs
   subst this
   rw [RD.str_of h1, RD.str_of h2, RD.int_of h3] at ha
   refine ⟨_, Ab (j := 0) ha rfl, rfl, ?_⟩
   rw [if_neg (by decide +kernel)]
   refine ⟨_, Ab (j := 0) ha rfl, rfl, ?_⟩
   rw [if_pos (by decide)]
   refine ⟨_, Ab (j := 1) ha rfl, _, Ab (j := 2) ha rfl, by decide, λp hp => ?_⟩
   have u := A3 (o := .tup [.str y, .int c]) hp
   obtain ⟨hh, hpd⟩ := hpt y c rfl
   obtain ⟨q, kq, ns, e1, e2, e3, e4, e5, e6⟩ := sv.yes y c hh
   have g1 := DGet.t (k := pk y c) (u _ _ sv.dict) (A0 (H := H) (a := p) (o := .tup [.str y, .int c]))
   rw [e1] at g1
   refine ⟨_, g1, k q kq ns _ (u _ _ e3) e4.1 e5 (λi => ?_) u (.inr ⟨y, c, rfl, e1⟩)⟩
   rw [e6]
   exact hpd i
  | stock => exact E3 (Q := Q) (x := "stock") ha rxs w1.2.2.2.1 w2.2.2.1 λp hp => empty p (Same.refl _) hp λ_ h => h
  | floor => exact E3 (Q := Q) (x := "floor") ha rxs w1.1 w2.1 λp hp => empty p (Same.refl _) hp λ_ h => h
  | left => exact E3 (Q := Q) (x := "left") ha rxs w1.2.1 w2.2.1 λp hp => empty p (Same.refl _) hp λ_ h => h
  | coming n => exact E3 (Q := Q) (x := "coming") ha rxs w1.2.2.2.2.1 w2.2.2.2.1 λp hp => empty p (Same.refl _) hp λ_ h => h
  | lots n => exact E3 (Q := Q) (x := "lots") ha rxs w1.2.2.2.2.2 w2.2.2.2.2 λp hp => empty p (Same.refl _) hp λ_ h => h
def Gd (pd : Pegs) (x : Str) (q : Th × Th × Int) : Pegs := λy => if y = x then pd y ++ [q] else pd y
theorem Xp {pd : Pegs} {x : Str} {q : Th × Th × Int} {d : Nat} (hq : q.1 = Th.lots d) {y : Str} {e : Int} : Er (Gd pd x q) y e ↔ Er pd y e \/ (y = x /\ (d : Int) = e) := by
 unfold Er Gd
 by_cases c : y = x
 ·rw [if_pos c]
  constructor
  ·rintro ⟨p, hp, d', e1, e2⟩
   rcases Zzc.mp hp with z | z
   ·exact .inl ⟨p, z, d', e1, e2⟩
   ·rw [Zzu.mp z, hq] at e1
    cases e1
    exact .inr ⟨c, e2⟩
  ·rintro (⟨p, hp, r⟩ | ⟨_, h⟩)
   ·exact ⟨p, Zyw _ hp, r⟩
   ·exact ⟨q, Zza _ (Zzu.mpr rfl), d, hq, h⟩
 ·rw [if_neg c]
  exact ⟨.inl, λh => h.elim id λh => absurd h.1 c⟩
theorem X8 {pg pd : Pegs} {x : Str} {q : Th × Th × Int} {d : Nat} (hq : q.1 = Th.lots d) {y : Str} {e k : Int} : Hu pg (Gd pd x q) y e k ↔ Hu pg pd y e k \/ (y = x /\ (d : Int) = e /\ Gz pg q.2.1 k) := by
 unfold Hu Gd
 by_cases c : y = x
 ·rw [if_pos c]
  constructor
  ·rintro ⟨p, hp, d', e1, e2, e3⟩
   rcases Zzc.mp hp with z | z
   ·exact .inl ⟨p, z, d', e1, e2, e3⟩
   ·have z := Zzu.mp z
    subst z
    rw [hq] at e1
    cases e1
    exact .inr ⟨c, e2, e3⟩
  ·rintro (⟨p, hp, r⟩ | ⟨_, h⟩)
   ·exact ⟨p, Zyw _ hp, r⟩
   ·exact ⟨q, Zza _ (Zzu.mpr rfl), d, hq, h⟩
 ·rw [if_neg c]
  exact ⟨.inl, λh => h.elim id λh => absurd h.1 c⟩
theorem Xo {pd : Pegs} {x : Str} {q : Th × Th × Int} (hq : ∀ d, q.1 ≠ Th.lots d) {y : Str} {e : Int} : Er (Gd pd x q) y e ↔ Er pd y e := by
 unfold Er Gd
 by_cases c : y = x
 ·rw [if_pos c]
  constructor
  ·rintro ⟨p, hp, d', e1, e2⟩
   rcases Zzc.mp hp with z | z
   ·exact ⟨p, z, d', e1, e2⟩
   ·rw [Zzu.mp z] at e1
    exact absurd e1 (hq d')
  ·rintro ⟨p, hp, r⟩
   exact ⟨p, Zyw _ hp, r⟩
 ·rw [if_neg c]
theorem X7 {pg pd : Pegs} {x : Str} {q : Th × Th × Int} (hq : ∀ d, q.1 ≠ Th.lots d) {y : Str} {e k : Int} : Hu pg (Gd pd x q) y e k ↔ Hu pg pd y e k := by
 unfold Hu Gd
 by_cases c : y = x
 ·rw [if_pos c]
  constructor
  ·rintro ⟨p, hp, d', e1, e2⟩
   rcases Zzc.mp hp with z | z
   ·exact ⟨p, z, d', e1, e2⟩
   ·have z := Zzu.mp z
    subst z
    exact absurd e1 (hq d')
  ·rintro ⟨p, hp, r⟩
   exact ⟨p, Zyw _ hp, r⟩
 ·rw [if_neg c]
def Ay (pg : Pegs) (ys : List Str) (i j : Nat) : Pegs := λy => if y ∈ ys.take i then pg y else if ys[i]? = some y then (pg y).take j else []
theorem Ew {pg : Pegs} {ys : List Str} {i j : Nat} {y : Str} (h : y ∈ ys.take i) : Ay pg ys i j y = pg y := by unfold Ay; rw [if_pos h]
theorem J4 {pg : Pegs} {ys : List Str} {i j : Nat} {y : Str} (h : y ∉ ys.take i) (h2 : ys[i]? = some y) : Ay pg ys i j y = (pg y).take j := by unfold Ay; rw [if_neg h, if_pos h2]
theorem Gu {pg : Pegs} {ys : List Str} {i j : Nat} {y : Str} (h : y ∉ ys.take i) (h2 : ¬ ys[i]? = some y) : Ay pg ys i j y = [] := by unfold Ay; rw [if_neg h, if_neg h2]
theorem Wi {pg : Pegs} {ys : List Str} (nd : ys.Nodup) {i j : Nat} {x : Str} {q : Th × Th × Int} (hx : ys[i]? = some x) (hq : (pg x)[j]? = some q) : Ay pg ys i (j + 1) = Gd (Ay pg ys i j) x q := by
 funext y
 by_cases c : y = x
 ·subst c
  show _ = if y = y then Ay pg ys i j y ++ [q] else _
  rw [if_pos rfl, J4 (Cv nd hx) hx, J4 (Cv nd hx) hx, Zz8, hq]
  rfl
 ·show _ = if y = x then _ else Ay pg ys i j y
  rw [if_neg c]
  have nx : ¬ ys[i]? = some y := λz => c (Zzn (z.symm.trans hx))
  by_cases c2 : y ∈ ys.take i
  ·rw [Ew c2, Ew c2]
  ·rw [Gu c2 nx, Gu c2 nx]
theorem Wh {pg : Pegs} {ys : List Str} {i : Nat} {x : Str} (hx : ys[i]? = some x) : Ay pg ys (i + 1) 0 = Ay pg ys i (pg x).length := by
 have et : ys.take (i + 1) = ys.take i ++ [x] := by rw [Zz8, hx]; rfl
 funext y
 by_cases c : y ∈ ys.take i
 ·rw [Ew (by rw [et]; exact Zyw _ c), Ew c]
 ·by_cases c2 : y = x
  ·subst c2
   rw [Ew (by rw [et]; exact Zza _ (Zzu.mpr rfl)), J4 c hx, Zz4]
  ·have nx : ¬ ys[i]? = some y := λz => c2 (Zzn (z.symm.trans hx))
   have n1 : y ∉ ys.take (i + 1) := by rw [et]; exact λz => (Zzc.mp z).elim c λz => c2 (Zzu.mp z)
   rw [Gu c nx]
   by_cases c3 : ys[i + 1]? = some y
   ·rw [J4 n1 c3, Zxk]
   ·rw [Gu n1 c3]
theorem ca {H : Hp} {t : Th} {v : V} (h : RD H t.d v) : ∃ (a : Addr) (x : Str) (r : List V), v = .ref a /\ H a = some (.tup (.str x :: r)) /\ ((∃ d, t = Th.lots d /\ r = [.int d]) /\ x = "lots" \/ (∀ d, t ≠ Th.lots d) /\ x ≠ "lots") := by
 have w : ("stock" : Str) ≠ "lots" /\ ("coming" : Str) ≠ "lots" /\ ("floor" : Str) ≠ "lots" /\ ("want" : Str) ≠ "lots" /\ ("part" : Str) ≠ "lots" /\ ("left" : Str) ≠ "lots" := by decide +kernel
 obtain ⟨a, rfl, ha⟩ : ∃ a : Addr, v = .ref a /\ ∃ xs, H a = some (.tup xs) /\ RDs H t.ds xs := by
  unfold Th.d at h
  obtain ⟨a, xs, rfl, ha, r⟩ := RD.tup_of h
  exact ⟨a, rfl, xs, ha, r⟩
 obtain ⟨xs, ha, r⟩ := ha
 have key : ∀ {x : Str} {ds : List PyData}, RDs H (.str x :: ds) xs -> ∃ r, xs = .str x :: r /\ RDs H ds r := λ{x ds} r => by
  obtain ⟨x1, r1, rfl, h1, r⟩ := RDs.cons_of r
  rw [RD.str_of h1]
  exact ⟨r1, rfl, r⟩
 cases t with
 | lots d =>
  obtain ⟨r1, rfl, r'⟩ := key (x := "lots") r
  obtain ⟨x2, r2, rfl, h2, r'⟩ := RDs.cons_of r'
  have := RDs.nil_of r'
  subst this
  rw [RD.int_of h2] at ha
  exact ⟨a, _, _, rfl, ha, .inl ⟨⟨d, rfl, rfl⟩, rfl⟩⟩
 | stock => obtain ⟨r1, rfl, _⟩ := key (x := "stock") r; exact ⟨a, _, _, rfl, ha, .inr ⟨(λd z => by cases z), w.1⟩⟩
 | coming k => obtain ⟨r1, rfl, _⟩ := key (x := "coming") r; exact ⟨a, _, _, rfl, ha, .inr ⟨(λd z => by cases z), w.2.1⟩⟩
 | floor => obtain ⟨r1, rfl, _⟩ := key (x := "floor") r; exact ⟨a, _, _, rfl, ha, .inr ⟨(λd z => by cases z), w.2.2.1⟩⟩
 | want k => obtain ⟨r1, rfl, _⟩ := key (x := "want") r; exact ⟨a, _, _, rfl, ha, .inr ⟨(λd z => by cases z), w.2.2.2.1⟩⟩
 | part x c => obtain ⟨r1, rfl, _⟩ := key (x := "part") r; exact ⟨a, _, _, rfl, ha, .inr ⟨(λd z => by cases z), w.2.2.2.2.1⟩⟩
 | left => obtain ⟨r1, rfl, _⟩ := key (x := "left") r; exact ⟨a, _, _, rfl, ha, .inr ⟨(λd z => by cases z), w.2.2.2.2.2⟩⟩
theorem ce {H : Hp} {Pt p : Addr} {kvs : List (List Key × V)} {o : HO} (t : Tb H Pt) (h : H p = some (.dT kvs)) : Tb (upd H p o) Pt := by
 rcases t with e | ⟨c, e, e2⟩
 ·exact .inl (by rw [A5 (λz => by rw [z, h] at e; cases e)]; exact e)
 ·exact .inr ⟨c, by rw [A5 (λz => by rw [z, h] at e; cases e)]; exact e, by rw [A5 (λz => by rw [z, h] at e2; cases e2)]; exact e2⟩
def KeepLT (H H' : Hp) : Prop := ∀ b xs, (H b = some (.lst xs) -> H' b = some (.lst xs)) /\ (H b = some (.tup xs) -> H' b = some (.tup xs))
theorem KeepLT.refl (H : Hp) : KeepLT H H := λ_ _ => ⟨id, id⟩
theorem KeepLT.trans {H H1 H2 : Hp} (a : KeepLT H H1) (b : KeepLT H1 H2) : KeepLT H H2 := λc xs => ⟨λh => (b c xs).1 ((a c xs).1 h), λh => (b c xs).2 ((a c xs).2 h)⟩
theorem Ms {H H' : Hp} (s : Same H H') : KeepLT H H' := λb xs => ⟨λh => s _ _ h, λh => s _ _ h⟩
theorem Eh {H : Hp} {p : Addr} {o u : HO} (h : H p = some u) (n1 : ∀ xs, u ≠ .lst xs) (n2 : ∀ xs, u ≠ .tup xs) : KeepLT H (upd H p o) := λb xs => ⟨λe => by rw [A5 (λz => by rw [z, h] at e; exact n1 xs (Zzn e))]; exact e, λe => by rw [A5 (λz => by rw [z, h] at e; exact n2 xs (Zzn e))]; exact e⟩
def Os (Pt : Addr) : Sp := λvs H Q _ => ∃ (v : V) (a : Addr) (S : Sh) (plan : Str -> List Int) (w : Wr) (ws : List Wr) (sz e : Int), vs = [v, .ref a, .str w.name, .int e] /\ RD H S.d v /\ PlanAt H a S plan /\ w ∈ S.wares /\ Good sz S /\ 0 < sz /\ sz <= 1000 /\ OrdOk S ws /\ bf S (daysN S) (Kc S plan ws) /\ Tb H Pt /\
 ∀ (p : Addr) (ms : List Int) H', H p = none -> H' p = some (.lst (ms.map V.int)) -> Pj (Kc S plan ws) w.name e ms -> Tb H' Pt -> But Pt H H' -> Q (.ref p) H'
def bigB : Nat := 1000000
theorem Vz : bigB = 1000000 := rfl
def KvL (kvs : List (List Key × V)) (i j : Nat) : Prop := kvs.length <= i * bigB + j
theorem Zl {kvs : List (List Key × V)} {i n : Nat} (h : KvL kvs i n) (hn : n <= 1000000) : KvL kvs (i + 1) 0 := by
 unfold KvL at *
 rw [Nat.add_mul]
 have := Vz
 omega
theorem lh {kvs : List (List Key × V)} {i j : Nat} (h : KvL kvs i j) (hi : i < 12) (hj : j <= 1000000) : kvs.length < sizeLine := by
 unfold KvL at h
 have h1 : i * bigB <= 12 * bigB := Nat.mul_le_mul_right _ (by omega)
 have := Vz
 exact Zzb (m := 16000000) (by omega) (by decide)
theorem Sy {kvs kvs' : List (List Key × V)} {i j : Nat} (h : KvL kvs i j) (hl : kvs'.length <= kvs.length + 1) : KvL kvs' i (j + 1) := by
 unfold KvL at *
 omega
def qy (v : V) (a : Addr) (nm : Str) (e : Int) (sd r : Addr) (ys : List Str) (pg : Pegs) (Pt : Addr) (H : Hp) (i : Nat) (Z : St) (H' : Hp) : Prop := ∃ (o5 o6 o7 o8 o9 : Option V) (kvs : List (List Key × V)), Z = [some v, some (.ref a), some (.str nm), some (.int e), some (.ref sd), o5, o6, o7, o8, o9] /\ SvG H H' sd kvs (Er (Ay pg ys i 0)) (Hu pg (Ay pg ys i 0)) /\ KvL kvs i 0 /\ H' r = some (.lst (ys.map V.str)) /\ Tb H' Pt /\ But Pt H H'
def qz (v : V) (a : Addr) (nm : Str) (e : Int) (sd : Addr) (x : Str) (ys : List Str) (pg : Pegs) (Pt : Addr) (H H5 : Hp) (i j : Nat) (Z : St) (H' : Hp) : Prop := ∃ (o6 o7 o8 o9 : Option V) (kvs : List (List Key × V)), Z = [some v, some (.ref a), some (.str nm), some (.int e), some (.ref sd), some (.str x), o6, o7, o8, o9] /\ SvG H H' sd kvs (Er (Ay pg ys i j)) (Hu pg (Ay pg ys i j)) /\ KvL kvs i j /\ KeepLT H5 H' /\ Tb H' Pt /\ But Pt H H'
theorem sc_serves : Aj ["shop", "plan", "name", "day", "served", "met", "supply", "need", "amount", "numbers"] ["shop", "plan", "name", "day"] (Ad J7) := by walk_at "sc"
theorem Wv (F : Fun K "serves" "serves" J7 f fd) (T : Txt mg) (Zvl : Has P w K mg base "check_rings" 4 ["shop"] sp_check_rings) (Zvm : Has P w K mg base "ware_of" 1 ["shop", "name"] sp_ware_of) (Zvk : Has P w K mg base "worked" 6 ["shop"] (El Pt)) (Zue : Has P w K mg base "pegs" 9 ["shop", "plan", "name"] (Pu Pt)) (Zuh : Has P w K mg base "served_by" 1 ["served", "need"] sp_served_by) : Bh P w K mg base CX0 10 f fd ["shop", "plan", "name", "day"] (Os Pt) := by
 refine F.ok sc_serves (λvs H Q E h => ?_) (λcdv A outer s H vs Q E hr h => ?_)
 ·obtain ⟨v, a, S, plan, w, ws, sz, e, rfl, _⟩ := h
  rfl
 ·obtain ⟨v, a, S, plan, w, ws, sz, e, rfl, rs, pl, hm, g, z0, z1, od, po, tb, k⟩ := h
  have hu := B5 hr
  obtain ⟨n1, n2, n3, n4⟩ := g.days z0 z1
  refine ⟨_, (A2 (Ba (Aa Zvl hr.z rfl (A4 (pv 0) A1)))
 (A2 (Ba (Aa Zvm hr.z rfl (A4 (pv 0) (A4 (pv 2) A1))))
 (A2 (Ae (i := 4) sc_serves.nd rfl (Zzq rfl) Sc)
 (A2 (Az PassesOwn.never rfl (Cl (Aa Zvk hr.z rfl (A4 (pv 0) A1))) (Ac (i := 5) sc_serves.nd rfl (Zzq rfl))
 (A9 (Az PassesOwn.never rfl (Cl (Aa Zue hr.z rfl (A4 (pv 0) (A4 (pv 1) (A4 (pv 5) A1))))) (Cd (n := 3) rfl (Ai (Ac (i := 6) sc_serves.nd rfl (Zzq rfl)) (Ai (Ac (i := 7) sc_serves.nd rfl (Zzq rfl)) (Ai (Ac (i := 8) sc_serves.nd rfl (Zzq rfl)) Bn))))
 (A9 (Bd (Al (Bq hu) (A7 hu (pv 6) A8 (λ_ _ => rfl)) Bo (Am _)) (A2 (Ae (i := 9) sc_serves.nd rfl (Zzq rfl) (Yt hu (pv 4) (Aq (A4 (pv 5) (A4 (A7 hu (pv 6) A8 (λ_ _ => rfl)) A1))) Ct ⟨rfl, rfl, rfl, rfl⟩))
 (A9 (Ba (E5 Zwx PySem.F.slot_dict_update PySem.F.type_dict_update fo (pv 9) (A4 (Aa Zuh hr.z rfl (A4 (pv 4) (A4 (pv 7) A1))) A1))))) Ao)))))
 (A9 (Ak (Ap (Nk rfl) rfl T.Zu8 Kq (A4 (Yu hu (pv 4) (Aq (A4 (pv 2) (A4 (pv 3) A1))) Ct ⟨rfl, rfl, rfl, rfl⟩) A1)))))))), ?_⟩
  have L := Fy g
  have wlen := od.len
  have w12 := g.len.2
  walk_at "rd"
  refine ⟨v, S, rfl, rs, g.ok, g.no, λH1 sm1 => ?_⟩
  have rs1 := RD.same sm1 _ _ rs
  refine ⟨v, S, w.name, rfl, rs1, g.ok, Zzs.mpr ⟨w, hm, rfl⟩, λ_ _ _ _ _ => ?_⟩
  intro sd hsd1
  have hsd : H sd = none := Same.free sm1 hsd1
  have u2 := A3 (o := .dT []) hsd1
  have s2 := sm1.trans u2
  have tb2 := tb.same s2
  refine ⟨v, S, rfl, RD.same s2 _ _ rs, L, tb2, λr ys H3 hr3 hr4 so sb tb3 bt3 => ⟨r, rfl, _, hr4, ?_⟩⟩
  have ey : ys = ws.map (·.name) := Oq sb od.2
  have ndy : ys.Nodup := so.1.nodup_iff.mpr L.nd
  have hsd3 := bt3 _ _ (Dx tb2 A0 λu z => by cases z) A0
  have bt03 : But Pt H H3 := (Bb s2).trans bt3
  obtain ⟨pg, epg⟩ : ∃ pg, pg = Kc S plan ws := ⟨_, rfl⟩
  rw [<- epg] at po k
  have nohas : ∀ y e, ¬ Er (Ay pg ys 0 0) y e := λy e ⟨q, hq, _⟩ => by
   unfold Ay at hq
   rw [Zxk] at hq
   rw [if_neg (by simp)] at hq
   split at hq
   ·rw [Zxk] at hq; cases hq
   ·cases hq
  have sv0 : SvG H H3 sd [] (Er (Ay pg ys 0 0)) (Hu pg (Ay pg ys 0 0)) := ⟨hsd3, λy e h => absurd h (nohas y e), λy e _ => rfl, λy e y' e' q h => by cases h⟩
  refine Bw (Dl r _) (qy v a w.name e sd r ys pg Pt H) ⟨_, _, _, _, _, [], rfl, sv0, Zz3 _, hr4, tb3, bt03⟩ (λi Z H' _ h => by obtain ⟨_, _, _, _, _, _, _, _, _, h, _⟩ := h; exact h) (λi y Z H4 hi hy h => ?_) (λZ H4 h => ?_)
  ·obtain ⟨o5, o6, o7, o8, o9, kvs, rfl, sv, kl, hr5, tb4, bt4⟩ := h
   rw [Zzz] at hi
   obtain ⟨x, hx⟩ : ∃ x, ys[i]? = some x := ⟨_, Zzr hi⟩
   rw [Zzx, hx] at hy
   have hy : V.str x = y := Zzn hy
   subst hy
   have hxn : x ∈ Ag S := so.1.mem_iff.mp (Zzw hx)
   obtain ⟨wx, hwx, rfl⟩ := Zzs.mp hxn
   have epx : pg wx.name = L9 S plan wx ws := by rw [epg]; exact Q7 g.ws.nd hwx
   walk_at "rd"
   refine ⟨v, a, S, plan, wx, ws, sz, rfl, RD.ku (Dy tb bt4) _ _ (C3 S) rs, pl.tb tb bt4, hwx, g, z0, z1, od, tb4, λl H5 hl rd5 tb5 bt5 => ⟨l, rfl, ?_⟩⟩
   rw [<- epx] at rd5
   obtain ⟨lv', hl5, rlv⟩ := Di rd5
   have hll := B2 rlv
   have sv5 := sv.tb tb4 bt5
   have bt05 := bt4.trans bt5
   have hr6 := bt5 _ _ (Dx tb4 hr5 λu z => by cases z) hr5
   have i12 : i < 12 := by
    have := so.1.length_eq
    rw [Bs] at this
    omega
   have plx := po.len wx.name
   refine ⟨lv', hl5, ?_⟩
   refine Bw (Dl l _) (qz v a w.name e sd wx.name ys pg Pt H H5 i) ⟨_, _, _, _, kvs, rfl, sv5, kl, KeepLT.refl _, tb5, bt05⟩ (λj Z H' _ h => by obtain ⟨_, _, _, _, _, _, _, _, kk, _⟩ := h; exact (kk _ _).1 hl5) (λj y Z H6 hj hy h => ?_) (λZ H6 h => ?_)
   ·obtain ⟨o6, o7, o8, o9, kvs, rfl, sv, kl, kk, tb6, bt6⟩ := h
    obtain ⟨q, hq, rq⟩ := Bc rlv hy
    have hqm := Zzw hq
    have ku6 : KeepU H5 H6 := λb xs h => (kk b xs).2 h
    obtain ⟨ea, sx, nx, rfl, hea, rsx, rnx⟩ := j8 (RD.ku ku6 _ _ (Ox _) rq)
    obtain ⟨sa, hd, rest, rfl, hsa, hcase⟩ := ca rsx
    have esn := Wi ndy hx hq
    refine gt3 hea ?_
    walk_at "rd"
    refine ⟨_, Ab (j := 0) hsa rfl, rfl, ?_⟩
    rcases hcase with ⟨⟨d, ed, rfl⟩, rfl⟩ | ⟨nl, hne⟩
    ·rw [if_pos (by decide)]
     refine ⟨.inr ⟨kvs, .inl sv.dict⟩, ?_⟩
     have hxt : wx.name ∉ ys.take i := Cv ndy hx
     have kle : kvs.length < sizeLine := lh kl i12 (by rw [hll] at hj; omega)
     refine ⟨_, Ab (j := 1) hsa rfl, by decide, λp1 hp1 p2 hp2 => ?_⟩
     have u1 := A3 (o := .tup [V.str wx.name, V.int d]) hp1
     have u2 := A3 (o := .dK []) hp2
     have s7 := u1.trans u2
     have hp1' := u2 _ _ (A0 (H := H6) (a := p1) (o := .tup [V.str wx.name, V.int d]))
     have hp2' := A0 (H := upd H6 p1 (.tup [V.str wx.name, V.int d])) (a := p2) (o := .dK [])
     have hp20 : H6 p2 = none := Same.free u1 hp2
     have sv7 := sv.same s7
     have tb7 := tb6.same s7
     have bt7 : But Pt H _ := bt6.trans (Bb s7)
     have kk7 := kk.trans (Ms s7)
     have rnx7 := RD.same s7 _ _ rnx
     have fr7 : ∀ b, H6 b = none -> H b = none := λb hb => Hh tb6 bt6 hb
     generalize upd (upd H6 p1 (.tup [V.str wx.name, V.int d])) p2 (.dK []) = H7 at s7 hp1' hp2' sv7 tb7 bt7 kk7 rnx7 ⊢
     have hfew : ∀ k, Hu pg (Ay pg ys i j) wx.name d k \/ Gz pg q.2.1 k -> 0 <= k /\ k < 20 := λk hk => by
      have us := g.wants.1
      have lw : ∀ t, (∃ x, ∃ q ∈ pg x, q.2.1 = t) -> Gz pg t k -> 0 <= k /\ k < (S.wants.length : Int) := λt ⟨x, q, hq, et⟩ hk => by
       cases t with
       | want n => have h1 := po.want x q hq n et; have h2 : k = (n : Int) := hk; omega
       | part y c => exact Jb po hk
       | _ => exact hk.elim
      have : 0 <= k /\ k < (S.wants.length : Int) := by
       rcases hk with ⟨q', hq', _, _, _, hk⟩ | hk
       ·rw [J4 hxt hx] at hq'
        exact lw _ ⟨_, q', List.mem_of_mem_take hq', rfl⟩ hk
       ·exact lw _ ⟨_, q, hqm, rfl⟩ hk
      omega
     have hpt : ∀ (has : Str -> Int -> Prop), (∀ y e, Er (Ay pg ys i j) y e -> has y e) -> ∀ y c, q.2.1 = Th.part y c -> (has y c /\ ∀ k, Hu pg (Ay pg ys i j) y c k ↔ Rch pg y c k) /\ y ∈ ys.take i := λhas hh y c et => by
      obtain ⟨⟨t, ht, en, p, hp, ep⟩, _, d', ed', t', a', hin⟩ := po.part _ q hqm y c et
      have hyt : y ∈ ys.take i := by rw [<- en]; exact Rx L.toLev so hx ht hp ep
      refine ⟨⟨hh y c ⟨_, by rw [Ew hyt]; exact hin, d', rfl, ed'⟩, λk => ?_⟩, hyt⟩
      unfold Hu
      rw [Ew hyt]
      exact rch_iff.symm
     have done : ∀ (b : Addr) (kb : List (Key × V)) (mb : List Int) (H8 : Hp) (kvs' : List (List Key × V)) (q0 : Addr) (ka : List (Key × V)) (ns : List Int), SvG H H8 sd kvs' (λy e => Er (Ay pg ys i j) y e \/ (y = wx.name /\ (d : Int) = e)) (Hu pg (Ay pg ys i j)) -> kvs'.length <= kvs.length + 1 -> B1 kvs' (pk wx.name d) = some (.ref q0) -> H q0 = none -> H8 q0 = some (.dK ka) -> Go ka ns -> (∀ k, k ∈ ns ↔ Hu pg (Ay pg ys i j) wx.name d k) -> kb.map (·.1) = mb.map Zxc -> (∀ k, k ∈ mb ↔ Gz pg q.2.1 k) -> KeepLT H5 H8 -> Tb H8 Pt -> But Pt H H8 -> ∀ (o6 o7 o8 o9 : Option V), qz v a w.name e sd wx.name ys pg Pt H H5 i (j + 1) [some v, some (V.ref a), some (V.str w.name), some (V.int e), some (V.ref sd), some (V.str wx.name), o6, o7, o8, o9] (upd H8 q0 (.dK (E8 ka kb))) := λb kb mb H8 kvs' q0 ka ns sv8 kl8 hv hq0 hq8 hk hm8 hb hL kk8 tb8 bt8 o6 o7 o8 o9 => by
      refine ⟨_, _, _, _, kvs', rfl, ?_, Sy kl kl8, kk8.trans (Eh hq8 (λ_ z => by cases z) λ_ z => by cases z), Tw tb8 hq8, bt8.upd hq0⟩
      rw [esn]
      exact (sv8.more hv hq0 hq8 hk hm8 hb hL hfew).iff (λy e => (Xp ed).symm) λy e k => (X8 ed).symm
     refine ⟨kvs, sv7.dict, pk wx.name d, hp1', kle, λv2 hv2 => ?_, λhv2 => ?_⟩
     ·have hh : Er (Ay pg ys i j) wx.name d := Classical.byContradiction λz => by rw [sv7.no _ _ z] at hv2; cases hv2
      obtain ⟨q0, ka, ns, e1, e2, e3, e4, e5, e6⟩ := sv7.yes _ _ hh
      rw [e1] at hv2
      have hv2 := Zzn hv2
      subst hv2
      have sv8 := sv7.iff (has2 := λy e => Er (Ay pg ys i j) y e \/ (y = wx.name /\ (d : Int) = e)) (λy e => ⟨.inl, λz => z.elim id λz => by rw [z.1, <- z.2]; exact hh⟩) λy e k => Iff.rfl
      refine ⟨im e3, H, sd, nx, q.2.1, kvs, pg, _, _, rfl, rnx7, sv8, λy c et => ⟨.inl (hpt (Er (Ay pg ys i j)) (λ_ _ z => z) y c et).1.1, (hpt (Er (Ay pg ys i j)) (λ_ _ z => z) y c et).1.2⟩, λb kb mb H8 hb8 hkb hmb hL s8 hor => ⟨q0, rfl, b, rfl, λz => ?_, ka, s8 _ _ e3, kb, .inl hb8, ?_, ?_⟩⟩
      ·rcases hor with h | ⟨y, c, et, h⟩
       ·rw [<- z, e3] at h; cases h
       ·rw [<- z] at h
        have := (sv7.apart _ _ _ _ q0 e1 h).1
        exact hxt (by rw [this]; exact (hpt (Er (Ay pg ys i j)) (λ_ _ z => z) y c et).2)
      ·have h1 := congrArg Zxz e4.1
       have h2 := congrArg Zxz hkb
       rw [Zzz, Zzz] at h1 h2
       exact Zyx (m := 1000) (by omega) (by decide)
      ·exact done b kb mb H8 kvs q0 ka ns (sv8.same s8) (Zw7 _) e1 e2 (s8 _ _ e3) e4 e6 hkb hL (kk7.trans (Ms s8)) (tb7.same s8) (bt7.trans (Bb s8)) _ _ _ _
     ·have hnh : ¬ Er (Ay pg ys i j) wx.name d := λz => by obtain ⟨_, _, _, e1, _⟩ := sv7.yes _ _ z; rw [hv2] at e1; cases e1
      have hnm : ∀ k, ¬ Hu pg (Ay pg ys i j) wx.name d k := λk ⟨q', hq', d', e1, e2, _⟩ => hnh ⟨q', hq', d', e1, e2⟩
      have fr2 : ∀ y e, B1 kvs (pk y e) ≠ some (.ref p2) := λy e z => by
       by_cases c : Er (Ay pg ys i j) y e
       ·obtain ⟨_, _, _, e1, _, e3, _⟩ := sv.yes y e c
        rw [z] at e1
        cases e1
        rw [hp20] at e3
        cases e3
       ·rw [sv.no y e c] at z; cases z
      have sv8 := sv7.new hv2 (fr7 p2 hp20) hp2' hnm fr2
      have sp2 : p2 ≠ sd := Eo hp2' sv7.dict (λz => by cases z)
      have hp28 : upd H7 sd (.dT (B8 kvs (pk wx.name d) (.ref p2))) p2 = some (.dK []) := by rw [A5 sp2]; exact hp2'
      have kk8 := kk7.trans (Eh (o := .dT (B8 kvs (pk wx.name d) (.ref p2))) sv7.dict (λ_ z => by cases z) λ_ z => by cases z)
      have tb8 := ce (o := .dT (B8 kvs (pk wx.name d) (.ref p2))) tb7 sv7.dict
      have bt8 : But Pt H (upd H7 sd (.dT (B8 kvs (pk wx.name d) (.ref p2)))) := bt7.upd hsd
      have rnx8 : RD (upd H7 sd (.dT (B8 kvs (pk wx.name d) (.ref p2)))) q.2.1.d nx := RD.ku (λb xs h => (Eh (o := .dT (B8 kvs (pk wx.name d) (.ref p2))) sv7.dict (λ_ z => by cases z) (λ_ z => by cases z) b xs).2 h) _ _ (Z4 _) rnx7
      have hvp : B1 (B8 kvs (pk wx.name d) (V.ref p2)) (pk wx.name d) = some (.ref p2) := by rw [Cg, if_pos rfl]
      have pl8 := Cu kvs (pk wx.name d) (.ref p2)
      generalize B8 kvs (pk wx.name d) (V.ref p2) = kvs' at sv8 hp28 kk8 tb8 bt8 rnx8 hvp pl8 ⊢
      generalize upd H7 sd (.dT kvs') = H8 at sv8 hp28 kk8 tb8 bt8 rnx8 ⊢
      refine ⟨im hp28, H, sd, nx, q.2.1, kvs', pg, _, _, rfl, rnx8, sv8, λy c et => ⟨.inl (hpt (Er (Ay pg ys i j)) (λ_ _ z => z) y c et).1.1, (hpt (Er (Ay pg ys i j)) (λ_ _ z => z) y c et).1.2⟩, λb kb mb H9 hb9 hkb hmb hL s9 hor => ⟨b, rfl, λz => ?_, [], s9 _ _ hp28, kb, .inl hb9, ?_, ?_⟩⟩
      ·rcases hor with h | ⟨y, c, et, h⟩
       ·rw [<- z, hp28] at h; cases h
       ·rw [<- z] at h
        have := (sv8.apart _ _ _ _ p2 hvp h).1
        exact hxt (by rw [this]; exact (hpt (Er (Ay pg ys i j)) (λ_ _ z => z) y c et).2)
      ·have h2 := congrArg Zxz hkb
       rw [Zzz, Zzz] at h2
       exact Zyx (m := 1000) (by rw [Zxf]; omega) (by decide)
      ·exact done b kb mb H9 kvs' p2 [] [] (sv8.same s9) pl8 hvp (fr7 p2 hp20) (s9 _ _ hp28) Ho (λk => ⟨λz => (by cases z), λz => absurd z (hnm k)⟩) hkb hL (kk8.trans (Ms s9)) (tb8.same s9) (bt8.trans (Bb s9)) _ _ _ _
    ·rw [if_neg (λz => hne (V.str.inj (of_decide_eq_true z)))]
     refine ⟨_, _, _, _, kvs, rfl, ?_, Sy kl (Zw7 _), kk, tb6, bt6⟩
     rw [esn]
     exact sv.iff (λy e => (Xo nl).symm) λy e k => (X7 nl).symm
   ·obtain ⟨o6, o7, o8, o9, kvs, rfl, sv, kl, kk, tb6, bt6⟩ := h
    rw [hll] at sv kl
    refine ⟨_, _, _, _, _, kvs, rfl, ?_, Zl kl plx, (kk _ _).1 hr6, tb6, bt6⟩
    rw [Wh hx]
    exact sv
  ·obtain ⟨o5, o6, o7, o8, o9, kvs, rfl, sv, kl, hr5, tb4, bt4⟩ := h
   walk_at "rd"
   rw [Zzz] at sv
   have spd : ∀ y, Ay pg ys ys.length 0 y = pg y := λy => by
    by_cases c : y ∈ ys
    ·exact Ew (by rw [Zz4]; exact c)
    ·rw [Gu (by rw [Zz4]; exact c) (by rw [Zyv (Zzt _)]; exact λz => nomatch z)]
     exact (po.off y λz => c (so.1.mem_iff.mpr z)).symm
   refine ⟨.inr ⟨kvs, .inl sv.dict⟩, by decide, λp1 hp1 p2 hp2 => ?_⟩
   have u1 := A3 (o := .tup [V.str w.name, V.int e]) hp1
   have u2 := A3 (o := .dK []) hp2
   have s12 := u1.trans u2
   have hp1' := u2 _ _ (A0 (H := H4) (a := p1) (o := .tup [V.str w.name, V.int e]))
   have g1 := DGet.t (k := pk w.name e) (s12 _ _ sv.dict) hp1'
   have fin : ∀ (b : Addr) (kq : List (Key × V)) (ns : List Int), Rd (upd (upd H4 p1 (.tup [V.str w.name, V.int e])) p2 (.dK [])) b (.dK kq) -> Go kq ns -> ns.length <= 20 -> (∀ k, k ∈ ns ↔ Rch pg w.name e k) -> (B1 kvs (pk w.name e)).getD (V.ref p2) = .ref b -> ∃ o, DGet (upd (upd H4 p1 (HO.tup [V.str w.name, V.int e])) p2 (HO.dK [])) sd (V.ref p1) o /\ ∃ a, o.getD (V.ref p2) = V.ref a /\ ∃ x, Rd (upd (upd H4 p1 (HO.tup [V.str w.name, V.int e])) p2 (HO.dK [])) a (HO.dK x) /\ ∃ x_1, Zyb (λx => x.fst) x = Zyb Zxc x_1 /\ x_1.length < 64 /\ ∀ (p_2 : Addr) (ms : List Int), upd (upd H4 p1 (HO.tup [V.str w.name, V.int e])) p2 (HO.dK []) p_2 = none -> ms.Perm x_1 -> List.Pairwise (λx1 x2 => x1 <= x2) ms -> Q (V.ref p_2) (upd (upd (upd H4 p1 (HO.tup [V.str w.name, V.int e])) p2 (HO.dK [])) p_2 (HO.lst (Zyb V.int ms))) := λb kq ns hb hk hl hn eb => by
    refine ⟨_, g1, b, eb, kq, hb, ns, hk.1, by omega, λp3 ms hp3 pm so' => ?_⟩
    have u3 := A3 (o := .lst (ms.map V.int)) hp3
    exact k p3 ms _ (Hh tb4 bt4 (Same.free s12 hp3)) A0 (Rv pm so' hk.2 hn) ((tb4.same s12).same u3) ((bt4.trans (Bb s12)).trans (Bb u3))
   by_cases hh : Er (Ay pg ys ys.length 0) w.name e
   ·obtain ⟨q, kq, ns, e1, e2, e3, e4, e5, e6⟩ := sv.yes w.name e hh
    refine fin q kq ns (.inl (s12 _ _ e3)) e4 e5 (λk => ?_) (by rw [e1]; rfl)
    rw [e6]
    unfold Hu
    rw [spd]
    exact rch_iff.symm
   ·refine fin p2 [] [] (.inl A0) Ho (Zz3 _) (λk => ⟨λz => (by cases z), λz => ?_⟩) (by rw [sv.no w.name e hh]; rfl)
    obtain ⟨q, hq, d, e1, e2, _⟩ := rch_iff.mp z
    exact absurd ⟨q, by rw [spd]; exact hq, d, e1, e2⟩ hh
end
set_option maxHeartbeats 4000000
section
variable {P : Program} {w : World} {K : Zzv} {mg : Str -> Option Value} {base : Heap} {f : Addr} {fd : FuncData} {Pt : Addr}
def Bm : Th -> Int -> Bool
 | .lots d, e => decide ((d : Int) = e)
 | _, _ => false
theorem isLot_iff {t : Th} {e : Int} : Bm t e = true ↔ ∃ d : Nat, t = Th.lots d /\ (d : Int) = e := by
 cases t with
 | lots d => exact ⟨λh => ⟨d, rfl, of_decide_eq_true h⟩, λ⟨d', e1, e2⟩ => by cases e1; exact decide_eq_true e2⟩
 | _ => exact ⟨λh => (by cases h), λ⟨d', e1, _⟩ => (by cases e1)⟩
abbrev Pr := Str × Int
structure Df (pg : Pegs) (U : Pr -> Prop) (p0 : Pr) (ns : List Int) (sn wl : List Pr) (cl : Pr -> Th × Th × Int -> Prop) : Prop where
 snd : ∀ k ∈ ns, Rch pg p0.1 p0.2 k
 inU : ∀ p ∈ wl, U p
 way : ∀ p, p ∈ wl \/ p ∈ sn -> ∀ k, Rch pg p.1 p.2 k -> Rch pg p0.1 p0.2 k
 st : p0 ∈ sn \/ p0 ∈ wl
 cls : ∀ p ∈ sn, ∀ q ∈ pg p.1, Bm q.1 p.2 = true -> cl p q -> (∀ k : Nat, q.2.1 = Th.want k -> (k : Int) ∈ ns) /\ ∀ y c, q.2.1 = Th.part y c -> (y, c) ∈ sn \/ (y, c) ∈ wl
section
variable {pg : Pegs} {U : Pr -> Prop} {p0 p : Pr} {ns ns' : List Int} {sn wl wl' : List Pr}
def allC : Pr -> Th × Th × Int -> Prop := λ_ _ => True
def upC (pg : Pegs) (p : Pr) (j : Nat) : Pr -> Th × Th × Int -> Prop := λp' q => p' ≠ p \/ q ∈ (pg p.1).take j
theorem Df.first (h : U p0) : Df pg U p0 [] [] [p0] allC := by
 refine ⟨λ_ h => (by cases h), λp hp => (by rw [Zzu.mp hp]; exact h), λp hp k r => ?_, .inr (Zzu.mpr rfl), λp hp => (by cases hp)⟩
 rcases hp with z | z
 ·rw [Zzu.mp z] at r; exact r
 ·cases z
theorem Df.drop (h : Df pg U p0 ns sn (wl ++ [p]) allC) (hp : p ∈ sn) : Df pg U p0 ns sn wl allC :=
 ⟨h.snd, λq hq => h.inU q (Zyw _ hq), λq hq => h.way q (hq.imp (Zyw _) id), h.st.elim .inl λz => (Zzc.mp z).elim .inr λz => .inl (by rw [Zzu.mp z]; exact hp), λq hq t ht hl hc => by
  obtain ⟨h1, h2⟩ := h.cls q hq t ht hl hc
  exact ⟨h1, λy c e => (h2 y c e).elim .inl λz => (Zzc.mp z).elim .inr λz => .inl (by rw [Zzu.mp z]; exact hp)⟩⟩
theorem Df.take (h : Df pg U p0 ns sn (wl ++ [p]) allC) (hp : p ∉ sn) : Df pg U p0 ns (p :: sn) wl (upC pg p 0) :=
 ⟨h.snd, λq hq => h.inU q (Zyw _ hq), λq hq => h.way q (hq.elim (λz => .inl (Zyw _ z)) λz => (Zzo.mp z).elim (λz => .inl (by rw [z]; exact Zza _ (Zzu.mpr rfl))) .inr), h.st.elim (λz => .inl (Zzk _ z)) λz => (Zzc.mp z).elim .inr λz => .inl (by rw [Zzu.mp z]; exact Zzj), λq hq t ht hl hc => by
  rcases hc with hc | hc
  ·have hq : q ∈ sn := (Zzo.mp hq).resolve_left hc
   obtain ⟨h1, h2⟩ := h.cls q hq t ht hl trivial
   exact ⟨h1, λy c e => (h2 y c e).elim (λz => .inl (Zzk _ z)) λz => (Zzc.mp z).elim .inr λz => .inl (by rw [Zzu.mp z]; exact Zzj)⟩
  ·rw [Zxk] at hc; cases hc⟩
theorem Df.step {j : Nat} {q : Th × Th × Int} (h : Df pg U p0 ns sn wl (upC pg p j)) (hps : p ∈ sn) (hq : (pg p.1)[j]? = some q) (h1 : ∀ k ∈ ns, k ∈ ns') (h2 : ∀ k ∈ ns', k ∈ ns \/ (Bm q.1 p.2 = true /\ Gz pg q.2.1 k)) (h3 : ∀ x ∈ wl, x ∈ wl') (h4 : ∀ x ∈ wl', x ∈ wl \/ (Bm q.1 p.2 = true /\ q.2.1 = Th.part x.1 x.2 /\ U x))
  (h5 : Bm q.1 p.2 = true -> (∀ k : Nat, q.2.1 = Th.want k -> (k : Int) ∈ ns') /\ ∀ y c, q.2.1 = Th.part y c -> (y, c) ∈ wl') : Df pg U p0 ns' sn wl' (upC pg p (j + 1)) := by
 have hqm := Zzw hq
 have lead : Bm q.1 p.2 = true -> ∀ k, Gz pg q.2.1 k -> Rch pg p0.1 p0.2 k := λhl k hk => by
  obtain ⟨d, e1, e2⟩ := isLot_iff.mp hl
  exact h.way p (.inr hps) k (rch_iff.mpr ⟨q, hqm, d, e1, e2, hk⟩)
 refine ⟨λk hk => (h2 k hk).elim (h.snd k) λz => lead z.1 k z.2, λx hx => (h4 x hx).elim (h.inU x) λz => z.2.2, λx hx k r => ?_, h.st.elim .inl λz => .inr (h3 _ z), λx hx t ht hl hc => ?_⟩
 ·rcases hx with hx | hx
  ·rcases h4 x hx with z | ⟨z1, z2, _⟩
   ·exact h.way x (.inl z) k r
   ·exact lead z1 k (by rw [z2]; exact r)
  ·exact h.way x (.inr hx) k r
 ·by_cases c : upC pg p j x t
  ·obtain ⟨a1, a2⟩ := h.cls x hx t ht hl c
   exact ⟨λk e => h1 _ (a1 k e), λy c e => (a2 y c e).imp id (h3 _)⟩
  ·have et : t = q /\ x = p := by
    rcases hc with hc | hc
    ·exact absurd (.inl hc) c
    ·rw [Zz8, hq] at hc
     rcases Zzc.mp hc with z | z
     ·exact absurd (.inr z) c
     ·refine ⟨by simpa using z, Classical.byContradiction λz => c (.inl z)⟩
   obtain ⟨rfl, rfl⟩ := et
   obtain ⟨b1, b2⟩ := h5 hl
   exact ⟨b1, λy c e => .inr (b2 y c e)⟩
theorem Df.close (h : Df pg U p0 ns sn wl (upC pg p (pg p.1).length)) : Df pg U p0 ns sn wl allC :=
 ⟨h.snd, h.inU, h.way, h.st, λq hq t ht hl _ => h.cls q hq t ht hl (by
  by_cases c : q = p
  ·subst c; exact .inr (by rw [Zz4]; exact ht)
  ·exact .inl c)⟩
theorem Df.all (h : Df pg U p0 ns sn [] allC) (k : Int) : k ∈ ns ↔ Rch pg p0.1 p0.2 k := by
 refine ⟨h.snd k, λr => ?_⟩
 have key : ∀ {x : Str} {e k : Int}, Rch pg x e k -> (x, e) ∈ sn -> k ∈ ns := λ{x e k} r => by
  induction r with
  | want hq => intro hs; exact (h.cls _ hs _ hq (isLot_iff.mpr ⟨_, rfl, rfl⟩) trivial).1 _ rfl
  | part hq _ ih => intro hs; exact ih (((h.cls _ hs _ hq (isLot_iff.mpr ⟨_, rfl, rfl⟩) trivial).2 _ _ rfl).resolve_right λz => by cases z)
 exact key r (h.st.resolve_right λz => by cases z)
end
def Rg (pg : Pegs) (p : Pr) : Nat := ((pg p.1).filter λq => Bm q.1 p.2).length
def E4 (pg : Pegs) (us sn : List Pr) : Nat := (us.map λp => if p ∈ sn then 0 else Rg pg p + 1).sum
theorem V8 {pg : Pegs} {p : Pr} {sn : List Pr} : ∀ us : List Pr, E4 pg us (p :: sn) <= E4 pg us sn
 | [] => Zzt _
 | x :: us => by
  have ih := V8 (pg := pg) (p := p) (sn := sn) us
  unfold E4 at ih ⊢
  rw [Zzd, Zzd, Zwm, Zwm]
  have : (if x ∈ p :: sn then 0 else Rg pg x + 1) <= if x ∈ sn then 0 else Rg pg x + 1 := by
   by_cases c : x ∈ sn
   ·rw [if_pos (Zzk _ c)]; exact Zz3 _
   ·rw [if_neg c]; split <;> omega
  omega
theorem S4 {pg : Pegs} {p : Pr} {sn : List Pr} (hn : p ∉ sn) : ∀ {us : List Pr}, p ∈ us -> E4 pg us (p :: sn) + (Rg pg p + 1) <= E4 pg us sn
 | [], h => by cases h
 | x :: us, h => by
  by_cases c : p = x
  ·subst c
   have := V8 (pg := pg) (p := p) (sn := sn) us
   unfold E4 at this ⊢
   rw [Zzd, Zzd, Zwm, Zwm, if_pos Zzj, if_neg hn]
   omega
  ·have ih := S4 (pg := pg) hn ((Zzo.mp h).resolve_left c)
   unfold E4 at ih ⊢
   rw [Zzd, Zzd, Zwm, Zwm]
   have : (if x ∈ p :: sn then 0 else Rg pg x + 1) = if x ∈ sn then 0 else Rg pg x + 1 := by
    by_cases c2 : x ∈ sn
    ·rw [if_pos c2, if_pos (Zzk _ c2)]
    ·rw [if_neg c2, if_neg (λz => (Zzo.mp z).elim (λz => c z.symm) c2)]
   omega
def Lw (xs : List Str) (n : Nat) : List Pr := xs.flatMap λx => (Zz9 (n + 1)).map λ(d : Nat) => (x, (d : Int))
theorem la {xs : List Str} {n : Nat} {p : Pr} (h1 : p.1 ∈ xs) (h2 : 0 <= p.2) (h3 : p.2 <= (n : Int)) : p ∈ Lw xs n := by
 refine Zxp.mpr ⟨p.1, h1, Zzs.mpr ⟨p.2.toNat, Zy9.mpr (by omega), ?_⟩⟩
 show (p.1, ((p.2.toNat : Nat) : Int)) = p
 rw [show ((p.2.toNat : Nat) : Int) = p.2 by omega]
theorem h9 {l : List (Th × Th × Int)} : ∀ n : Nat, ((Zz9 n).map λ(d : Nat) => (l.filter λq => Bm q.1 (d : Int)).length + 1).sum <= n + l.length := λn => by
 have key : ∀ l : List (Th × Th × Int), ((Zz9 n).map λ(d : Nat) => (l.filter λq => Bm q.1 (d : Int)).length).sum <= l.length := λl => by
  induction l with
  | nil =>
   have : ∀ m : Nat, ((Zz9 m).map λ(d : Nat) => (([] : List (Th × Th × Int)).filter λq => Bm q.1 (d : Int)).length).sum = 0 := λm => by
    induction m with
    | zero => rfl
    | succ m ih => rw [Zyg, Zzm, Zxd, ih]; rfl
   rw [this]
   exact Zzt _
  | cons q l ih =>
   have h1 : ∀ m : Nat, ((Zz9 m).map λ(d : Nat) => ((q :: l).filter λq => Bm q.1 (d : Int)).length).sum <= ((Zz9 m).map λ(d : Nat) => (l.filter λq => Bm q.1 (d : Int)).length).sum + (if ∃ d : Nat, d < m /\ Bm q.1 d = true then 1 else 0) := λm => by
    induction m with
    | zero => simp
    | succ m ih =>
     rw [Zyg, Zzm, Zzm, Zxd, Zxd, List.map_singleton, List.map_singleton, List.sum_singleton, List.sum_singleton, Zwp]
     by_cases c : Bm q.1 (m : Int) = true
     ·rw [if_pos c, Zyl, if_pos ⟨m, by omega, c⟩]
      have no : ¬ ∃ d : Nat, d < m /\ Bm q.1 d = true := λ⟨d, hd, hl⟩ => by
       obtain ⟨d1, e1, e2⟩ := isLot_iff.mp c
       obtain ⟨d2, e3, e4⟩ := isLot_iff.mp hl
       rw [e1] at e3
       cases e3
       omega
      rw [if_neg no] at ih
      omega
     ·rw [if_neg c]
      have : (if ∃ d : Nat, d < m /\ Bm q.1 d = true then 1 else 0) <= (if ∃ d : Nat, d < m + 1 /\ Bm q.1 d = true then 1 else 0) := by
       by_cases c2 : ∃ d : Nat, d < m /\ Bm q.1 d = true
       ·obtain ⟨d, hd, hl⟩ := c2
        rw [if_pos ⟨d, hd, hl⟩, if_pos ⟨d, by omega, hl⟩]
        exact Zzt _
       ·rw [if_neg c2]; exact Zz3 _
      omega
   have h2 := h1 n
   rw [Zyl]
   split at h2 <;> omega
 have h3 : ∀ m : Nat, ((Zz9 m).map λ(d : Nat) => (l.filter λq => Bm q.1 (d : Int)).length + 1).sum = ((Zz9 m).map λ(d : Nat) => (l.filter λq => Bm q.1 (d : Int)).length).sum + m := λm => by
  induction m with
  | zero => rfl
  | succ m ih =>
   rw [Zyg, Zzm, Zzm, Zxd, Zxd, ih]
   simp
   omega
 have := key l
 have := h3 n
 omega
theorem S3 {pg : Pegs} {n b : Nat} (hb : ∀ x, (pg x).length <= b) : ∀ xs : List Str, E4 pg (Lw xs n) [] <= xs.length * (n + 1 + b)
 | [] => Zz3 _
 | x :: xs => by
  have ih := S3 (n := n) hb xs
  have h1 := h9 (l := pg x) (n + 1)
  have h2 := hb x
  have e : E4 pg (Lw (x :: xs) n) [] = ((Zz9 (n + 1)).map λ(d : Nat) => ((pg x).filter λq => Bm q.1 (d : Int)).length + 1).sum + E4 pg (Lw xs n) [] := by
   unfold Lw E4
   rw [List.flatMap_cons, Zzm, Zxd, Zy1]
   congr 2
  rw [e, Zyl, Nat.add_mul]
  omega
end
set_option maxHeartbeats 4000000
section
variable {P : Program} {w : World} {K : Zzv} {mg : Str -> Option Value} {base : Heap} {f : Addr} {fd : FuncData} {Pt : Addr}
def Dh (p : Pr) : PyData := .tuple [.str p.1, .int p.2]
theorem Qm (p : Pr) : Ci (Dh p) = true := by unfold Dh; simp only [Ci, Be, Zy4]
theorem ee {H : Hp} {p : Pr} {v : V} (h : RD H (Dh p) v) : ∃ a : Addr, v = .ref a /\ H a = some (.tup [.str p.1, .int p.2]) := by
 unfold Dh at h
 obtain ⟨a, xs, rfl, ha, r⟩ := RD.tup_of h
 obtain ⟨x1, r1, rfl, h1, r⟩ := RDs.cons_of r
 obtain ⟨x2, r2, rfl, h2, r⟩ := RDs.cons_of r
 have := RDs.nil_of r
 subst this
 rw [RD.str_of h1, RD.int_of h2] at ha
 exact ⟨a, rfl, ha⟩
theorem Wz {l : List Pr} (h : ∀ p ∈ l, PyData.strOk p.1 = true) : okD (.list (l.map Dh)) = true := by
 unfold okD
 rw [Zyi]
 constructor
 ·rw [PyData.canLay0]
  refine Vp Dh _ λq hq => ?_
  unfold Dh
  simp only [PyData.canLay0, PyData.canLayAll0, h q hq, Zy4]
 ·have := P8 Dh 1 l λq _ => by unfold Dh; simp [PyData.depth, PyData.depthAll]
  refine decide_eq_true ?_
  rw [PyData.depth]
  omega
theorem gq {l : List Pr} : PyData.eqv (.list (l.map Dh)) (.list []) = decide (l = []) := by
 cases l with
 | nil => simp [PyData.eqv, PyData.eqvAll]
 | cons p r => simp [PyData.eqv, PyData.eqvAll]
theorem T7 {t : Th} {d : Int} : PyData.eqv t.d (.tuple [.str "lots", .int d]) = Bm t d := by
 have s1 : ("stock" : Str) ≠ "lots" /\ ("coming" : Str) ≠ "lots" /\ ("floor" : Str) ≠ "lots" /\ ("want" : Str) ≠ "lots" /\ ("part" : Str) ≠ "lots" /\ ("left" : Str) ≠ "lots" := by decide +kernel
 unfold Th.d
 cases t <;> simp [Th.ds, PyData.eqv, PyData.eqvAll, s1, Bm] <;> rfl
theorem bz {H : Hp} {t : Th} {v : V} (h : RD H t.d v) : ∃ (a : Addr) (x : Str) (r : List V), v = .ref a /\ H a = some (.tup (.str x :: r)) /\ ((∃ k : Nat, t = Th.want k /\ r = [.int k] /\ x = "want") \/ (∃ y c, t = Th.part y c /\ r = [.str y, .int c] /\ x = "part") \/ ((∀ k, t ≠ Th.want k) /\ (∀ y c, t ≠ Th.part y c) /\ x ≠ "want" /\ x ≠ "part")) := by
 have w : ("stock" : Str) ≠ "want" /\ ("coming" : Str) ≠ "want" /\ ("floor" : Str) ≠ "want" /\ ("lots" : Str) ≠ "want" /\ ("left" : Str) ≠ "want" := by decide +kernel
 have p : ("stock" : Str) ≠ "part" /\ ("coming" : Str) ≠ "part" /\ ("floor" : Str) ≠ "part" /\ ("lots" : Str) ≠ "part" /\ ("left" : Str) ≠ "part" := by decide +kernel
 unfold Th.d at h
 obtain ⟨a, xs, rfl, ha, r⟩ := RD.tup_of h
 have key : ∀ {x : Str} {ds : List PyData}, RDs H (.str x :: ds) xs -> ∃ r, xs = .str x :: r /\ RDs H ds r := λ{x ds} r => by
  obtain ⟨x1, r1, rfl, h1, r⟩ := RDs.cons_of r
  rw [RD.str_of h1]
  exact ⟨r1, rfl, r⟩
 cases t with
 | want k =>
  obtain ⟨r1, rfl, r'⟩ := key (x := "want") r
  obtain ⟨x2, r2, rfl, h2, r'⟩ := RDs.cons_of r'
  have := RDs.nil_of r'
  subst this
  rw [RD.int_of h2] at ha
  exact ⟨a, _, _, rfl, ha, .inl ⟨k, rfl, rfl, rfl⟩⟩
 | part y c =>
  obtain ⟨r1, rfl, r'⟩ := key (x := "part") r
  obtain ⟨x2, r2, rfl, h2, r'⟩ := RDs.cons_of r'
  obtain ⟨x3, r3, rfl, h3, r'⟩ := RDs.cons_of r'
  have := RDs.nil_of r'
  subst this
  rw [RD.str_of h2, RD.int_of h3] at ha
  exact ⟨a, _, _, rfl, ha, .inr (.inl ⟨y, c, rfl, rfl, rfl⟩)⟩
 | stock => obtain ⟨r1, rfl, _⟩ := key (x := "stock") r; exact ⟨a, _, _, rfl, ha, .inr (.inr ⟨(λd z => by cases z), (λ_ _ z => by cases z), w.1, p.1⟩)⟩
 | coming k => obtain ⟨r1, rfl, _⟩ := key (x := "coming") r; exact ⟨a, _, _, rfl, ha, .inr (.inr ⟨(λd z => by cases z), (λ_ _ z => by cases z), w.2.1, p.2.1⟩)⟩
 | floor => obtain ⟨r1, rfl, _⟩ := key (x := "floor") r; exact ⟨a, _, _, rfl, ha, .inr (.inr ⟨(λd z => by cases z), (λ_ _ z => by cases z), w.2.2.1, p.2.2.1⟩)⟩
 | lots k => obtain ⟨r1, rfl, _⟩ := key (x := "lots") r; exact ⟨a, _, _, rfl, ha, .inr (.inr ⟨(λd z => by cases z), (λ_ _ z => by cases z), w.2.2.2.1, p.2.2.2.1⟩)⟩
 | left => obtain ⟨r1, rfl, _⟩ := key (x := "left") r; exact ⟨a, _, _, rfl, ha, .inr (.inr ⟨(λd z => by cases z), (λ_ _ z => by cases z), w.2.2.2.2, p.2.2.2.2⟩)⟩
theorem Vg {t : Th} (h : Hy t) : okD t.d = true := by
 unfold okD
 rw [Zyi]
 exact ⟨lg h, decide_eq_true (by have := ah t; omega)⟩
theorem fk (d : Int) : okD (.tuple [.str "lots", .int d]) = true := by
 unfold okD
 rw [Zyi]
 refine ⟨?_, decide_eq_true ?_⟩
 ·have : PyData.strOk "lots" = true := by decide +kernel
  simp only [PyData.canLay0, PyData.canLayAll0, this, Zy4]
 ·simp only [PyData.depth, PyData.depthAll]
  decide
def jn (H : Hp) (a : Addr) (xs : List Str) (pg : Pegs) : Prop := ∃ kvs, H a = some (.dK kvs) /\ ∀ x ∈ xs, ∃ l : Addr, B1 kvs (.inr x) = some (.ref l) /\ RD H (.list ((pg x).map pgD)) (.ref l)
structure DfH (H0 H : Hp) (wa se wt : Addr) (ns : List Int) (sn wl : List Pr) (kvs : List (List Key × V)) : Prop where
 same : Same H0 H
 fw : H0 wa = none
 fs : H0 se = none
 ft : H0 wt = none
 wd : ∃ kw, H wa = some (.dK kw) /\ Go kw ns
 sd : H se = some (.dT kvs)
 si : ∀ x e, (B1 kvs (pk x e)).isSome = true ↔ (x, e) ∈ sn
 tl : RD H (.list (wl.map Dh)) (.ref wt)
theorem DfH.step {H0 H H' : Hp} {wa se wt : Addr} {ns : List Int} {sn wl : List Pr} {kvs : List (List Key × V)} (h : DfH H0 H wa se wt ns sn wl kvs) (s : Same H H') : DfH H0 H' wa se wt ns sn wl kvs :=
 ⟨h.same.trans s, h.fw, h.fs, h.ft, by obtain ⟨kw, e1, e2⟩ := h.wd; exact ⟨kw, s _ _ e1, e2⟩, s _ _ h.sd, h.si, RD.same s _ _ h.tl⟩
theorem DfH.list {H0 H : Hp} {wa se wt : Addr} {ns : List Int} {sn wl wl' : List Pr} {kvs : List (List Key × V)} {vs vs' : List V} (h : DfH H0 H wa se wt ns sn wl kvs) (hv : H wt = some (.lst vs)) (r : RDs H (wl'.map Dh) vs') : DfH H0 (upd H wt (.lst vs')) wa se wt ns sn wl' kvs := by
 obtain ⟨kw, e1, e2⟩ := h.wd
 exact ⟨λb o e => by rw [A5 (A6 e h.ft)]; exact h.same b o e, h.fw, h.fs, h.ft, ⟨kw, by rw [A5 (Eo e1 hv (λz => by cases z))]; exact e1, e2⟩, by rw [A5 (Eo h.sd hv (λz => by cases z))]; exact h.sd, h.si, Fl A0 (RDs.ku (Ep hv) _ _ (Bf Dh Qm _) r)⟩
theorem M8 {H H' : Hp} {l : List PyData} {a : Addr} (h : RD H (.list l) (.ref a)) (n : Be l = true) (k : KeepLT H H') : RD H' (.list l) (.ref a) := by
 obtain ⟨vs, h1, h2⟩ := Di h
 exact Fl ((k _ _).1 h1) (RDs.ku (λb xs e => (k b xs).2 e) _ _ n h2)
theorem DfH.want {H0 H : Hp} {wa se wt : Addr} {ns : List Int} {sn wl : List Pr} {kvs : List (List Key × V)} {kw : List (Key × V)} (h : DfH H0 H wa se wt ns sn wl kvs) (hw : H wa = some (.dK kw)) (hk : Go kw ns) (k : Int) (v : V) : ∃ ms, DfH H0 (upd H wa (.dK (B8 kw (.inl k) v))) wa se wt ms sn wl kvs /\ ∀ j, j ∈ ms ↔ j ∈ ns \/ j = k := by
 obtain ⟨ms, k1, k2, _⟩ := P0 hk k v
 have kl := Eh (o := .dK (B8 kw (.inl k) v)) hw (λ_ z => by cases z) λ_ z => by cases z
 exact ⟨ms, ⟨λb o e => by rw [A5 (A6 e h.fw)]; exact h.same b o e, h.fw, h.fs, h.ft, ⟨_, A0, k1⟩, by rw [A5 (Eo h.sd hw (λz => by cases z))]; exact h.sd, h.si, M8 h.tl (Bf Dh Qm _) kl⟩, k2⟩
theorem DfH.seen {H0 H : Hp} {wa se wt : Addr} {ns : List Int} {sn wl : List Pr} {kvs : List (List Key × V)} (h : DfH H0 H wa se wt ns sn wl kvs) (x : Str) (e : Int) (v : V) : DfH H0 (upd H se (.dT (B8 kvs (pk x e) v))) wa se wt ns ((x, e) :: sn) wl (B8 kvs (pk x e) v) := by
 obtain ⟨kw, e1, e2⟩ := h.wd
 have kl := Eh (o := .dT (B8 kvs (pk x e) v)) h.sd (λ_ z => by cases z) λ_ z => by cases z
 refine ⟨λb o e => by rw [A5 (A6 e h.fs)]; exact h.same b o e, h.fw, h.fs, h.ft, ⟨kw, by rw [A5 (Eo e1 h.sd (λz => by cases z))]; exact e1, e2⟩, A0, λy f => ?_, M8 h.tl (Bf Dh Qm _) kl⟩
 rw [Cg]
 by_cases c : pk y f = pk x e
 ·obtain ⟨rfl, rfl⟩ := Ka c
  rw [if_pos rfl]
  exact ⟨λ_ => Zzj, λ_ => rfl⟩
 ·rw [if_neg c, h.si]
  exact ⟨Zzk _, λz => (Zzo.mp z).resolve_left λz => c (by cases z; rfl)⟩
def sp_law_serves : Sp := λvs H Q _ => ∃ (ap : Addr) (v : V) (S : Sh) (n : Nat) (pg : Pegs) (p0 : Pr), vs = [.ref ap, v] /\ jn H ap (Ag S) pg /\ RD H (Dh p0) v /\ p0.1 ∈ Ag S /\ (0 <= p0.2 /\ p0.2 <= (n : Int)) /\ n <= 1000 /\ S.wares.length <= 12 /\ S.wants.length <= 20 /\ (∀ x ∈ Ag S, PyData.strOk x = true) /\ bf S n pg /\
 ∀ (p : Addr) (ms : List Int) H', H p = none -> H' p = some (.lst (ms.map V.int)) -> Pj pg p0.1 p0.2 ms -> Same H H' -> Q (.ref p) H'
def InU (S : Sh) (n : Nat) (p : Pr) : Prop := p.1 ∈ Ag S /\ 0 <= p.2 /\ p.2 <= (n : Int)
def DfW (ap wa se wt : Addr) (v : V) (S : Sh) (n : Nat) (pg : Pegs) (p0 : Pr) (H : Hp) (m : Nat) (Z : St) (H' : Hp) : Prop := ∃ (o5 o6 o7 o8 o9 : Option V) (ns : List Int) (sn wl : List Pr) (kvs : List (List Key × V)), Z = [some (.ref ap), some v, some (.ref wa), some (.ref se), some (.ref wt), o5, o6, o7, o8, o9] /\ DfH H H' wa se wt ns sn wl kvs /\ Df pg (InU S n) p0 ns sn wl allC /\ m = wl.length + E4 pg (Lw (Ag S) n) sn /\ m + kvs.length <= 1 + E4 pg (Lw (Ag S) n) []
def DfI (ap wa se wt : Addr) (v : V) (S : Sh) (n : Nat) (pg : Pegs) (p0 p : Pr) (W : Nat) (sn : List Pr) (kvs : List (List Key × V)) (H : Hp) (j : Nat) (Z : St) (H' : Hp) : Prop := ∃ (o7 o8 o9 : Option V) (ns : List Int) (wl : List Pr), Z = [some (.ref ap), some v, some (.ref wa), some (.ref se), some (.ref wt), some (.str p.1), some (.int p.2), o7, o8, o9] /\ DfH H H' wa se wt ns sn wl kvs /\ Df pg (InU S n) p0 ns sn wl (upC pg p j) /\ wl.length <= W + (((pg p.1).take j).filter λq => Bm q.1 p.2).length
theorem Q4 {H : Hp} {ds : List PyData} {d : PyData} {vs : List V} (h : RDs H (ds ++ [d]) vs) : ∃ x, vs[vs.length - 1]? = some x /\ RD H d x /\ RDs H ds vs.dropLast := by
 have hl := RDs.len h
 rw [Zze, Zyt] at hl
 obtain ⟨x, hx, rx⟩ := RDs.get h (i := ds.length) (d := d) (by rw [Zyk (Zzt _), Nat.sub_self]; rfl)
 refine ⟨x, by rw [show vs.length - 1 = ds.length by omega]; exact hx, rx, ?_⟩
 have := M7 ds.length h
 rw [List.take_left'] at this
 ·rw [List.dropLast_eq_take, show vs.length - 1 = ds.length by omega]
  exact this
 ·rfl
theorem sc_law_serves : Aj ["_law_all_pegs", "_law_lots", "_law_wants", "_law_seen", "_law_waiting", "_law_name", "_law_day", "_law_supply", "_law_need", "_law_amount_here"] ["_law_all_pegs", "_law_lots"] (Ad Ee) := by walk_at "sc"
theorem Nw (F : Fun K "_law_serves" "_law_serves" Ee f fd) (T : Txt mg) : Bh P w K mg base CX0 1 f fd ["_law_all_pegs", "_law_lots"] sp_law_serves := by
 refine F.ok sc_law_serves (λvs H Q E h => ?_) (λcdv A outer s H vs Q E hr h => ?_)
 ·obtain ⟨ap, v, S, n, pg, p0, rfl, _⟩ := h
  rfl
 ·obtain ⟨ap, v, S, n, pg, p0, rfl, aa, rv, x0, e0, n1, w12, us20, stx, po, k⟩ := h
  have hu := B5 hr
  have hu4 := Re hr
  refine ⟨_, (A2 (Ae (i := 2) sc_law_serves.nd rfl (Zzq rfl) Ct)
 (A2 (Ae (i := 3) sc_law_serves.nd rfl (Zzq rfl) Sc)
 (A2 (Ae (i := 4) sc_law_serves.nd rfl (Zzq rfl) (Bp (A4 (pv 1) A1)))
 (A2 (Ma PassesOwn.never (Al (U6 hu4) (pv 4) (Bp A1) (Am _)) (A2 (D7 (Yx Zz6 PySem.F.slot_list_pop PySem.F.type_list_pop ky (pv 4)) (Cd (n := 2) rfl (Ai (Ac (i := 5) sc_law_serves.nd rfl (Zzq rfl)) (Ai (Ac (i := 6) sc_law_serves.nd rfl (Zzq rfl)) Bn))))
 (A9 (Bd (jy (Wo hu (Aq (A4 (pv 5) (A4 (pv 6) A1))) (pv 3))) (A2 (D7 Ow (Dr (pv 3) (Aq (A4 (pv 5) (A4 (pv 6) A1))) (Wg hu)))
 (A9 (Az PassesOwn.never rfl (Cl (A7 hu (pv 0) (pv 5) (λ_ _ => rfl))) (Cd (n := 3) rfl (Ai (Ac (i := 7) sc_law_serves.nd rfl (Zzq rfl)) (Ai (Ac (i := 8) sc_law_serves.nd rfl (Zzq rfl)) (Ai (Ac (i := 9) sc_law_serves.nd rfl (Zzq rfl)) Bn))))
 (A2 (Bd (PW.pt (Ij (Al (U8 hu4) (pv 7) (Aq (A4 Bo (A4 (pv 6) A1))) (Am _)) (Ga (Al (Bq hu) (A7 hu (pv 8) A8 (λ_ _ => rfl)) Bo (Am _))))) (A9 (D7 Ow (Dr (pv 2) (A7 hu (pv 8) A8 (λ_ _ => rfl)) (Db hu)))) Ao)
 (A9 (Bd (PW.pt (Ij (Al (U8 hu4) (pv 7) (Aq (A4 Bo (A4 (pv 6) A1))) (Am _)) (Ga (Al (Bq hu) (A7 hu (pv 8) A8 (λ_ _ => rfl)) Bo (Am _))))) (A9 (Ba (E5 Zz6 Zz2 Zz1 Bj (pv 4) (A4 (Aq (A4 (A7 hu (pv 8) A8 (λ_ _ => rfl)) (A4 (A7 hu (pv 8) A8 (λ_ _ => rfl)) A1))) A1)))) Ao)))))) Ao))))
 (A9 (Ak (Ap (Nk rfl) rfl T.Zu8 Kq (A4 (pv 2) A1)))))))), ?_⟩
  have rf := S3 (n := n) po.len (Ag S)
  have big : E4 pg (Lw (Ag S) n) [] <= 13000000 := by
   have h1 : (Ag S).length * (n + 1 + 1000000) <= 12 * 1001001 := Nat.mul_le_mul (by rw [Bs]; exact w12) (by omega)
   omega
  walk_at "rd"
  intro wa hwa se hse
  have u1 := A3 (o := .dK []) hwa
  have u2 := A3 (o := .dT []) hse
  refine ⟨by decide, λwt hwt => ?_⟩
  have u3 := A3 (o := .lst [v]) hwt
  have s3 := (u1.trans u2).trans u3
  have d0 : DfH H (upd (upd (upd H wa (.dK [])) se (.dT [])) wt (.lst [v])) wa se wt [] [] [p0] [] := by
   refine ⟨s3, hwa, Same.free u1 hse, Same.free (u1.trans u2) hwt, ⟨[], u3 _ _ (u2 _ _ A0), Ho⟩, u3 _ _ A0, λx e => ⟨λz => (by cases z), λz => (by cases z)⟩, Fl A0 (RDs.one (RD.same s3 _ _ rv))⟩
  have iu : InU S n p0 := ⟨x0, e0.1, e0.2⟩
  refine ⟨DfW ap wa se wt v S n pg p0 H, ⟨_, _, _, _, _, _, [], [], [p0], [], rfl, d0, Df.first iu, rfl, by simp⟩, λm Z H1 hW => ?_⟩
  obtain ⟨o5, o6, o7, o8, o9, ns, sn, wl, kvs, rfl, dh, df, rfl, hb⟩ := hW
  walk_at "rd"
  refine ⟨by decide, λt0 ht0 => ?_⟩
  have v1 := A3 (o := .lst []) ht0
  refine ⟨_, RD.same v1 _ _ dh.tl, .list [], Fl A0 RDs.nil, Wz (λp hp => stx p.1 (df.inU p hp).1), by decide +kernel, ?_⟩
  have dh1 := dh.step v1
  generalize upd H1 t0 (.lst []) = H2 at dh1 ⊢
  rw [gq]
  refine Cr (λc => ?_) (λc => ?_)
  ·have hne : wl ≠ [] := λz => by rw [z] at c; cases c
   obtain ⟨l, p, rfl⟩ : ∃ l p, wl = l ++ [p] := ⟨wl.dropLast, wl.getLast hne, (List.dropLast_concat_getLast hne).symm⟩
   refine ⟨λZ' H' => ∃ m', m' < (l ++ [p]).length + E4 pg (Lw (Ag S) n) sn /\ DfW ap wa se wt v S n pg p0 H m' Z' H', λZ' H' z => z, ?_⟩
   obtain ⟨vs, hvs, rvs⟩ := Di dh1.tl
   rw [Zzm] at rvs
   obtain ⟨y, hy, ry, rvs'⟩ := Q4 rvs
   obtain ⟨ea, rfl, hea⟩ := ee ry
   have dh3 := dh1.list (wl' := l) hvs rvs'
   have hea3 : upd H2 wt (.lst vs.dropLast) ea = some (.tup [.str p.1, .int p.2]) := Ep hvs _ _ hea
   refine ⟨Dn hvs, vs, hvs, _, hy, ?_⟩
   generalize upd H2 wt (.lst vs.dropLast) = H3 at dh3 hea3 ⊢
   refine gt2 hea3 ?_
   walk_at "rd"
   refine ⟨by decide, λt1 ht1 => ?_⟩
   have dh4 := dh3.step (A3 (o := .tup [V.str p.1, V.int p.2]) ht1)
   have k4 := A0 (H := H3) (a := t1) (o := .tup [V.str p.1, V.int p.2])
   generalize upd H3 t1 (.tup [V.str p.1, V.int p.2]) = H4 at dh4 k4 ⊢
   refine ⟨_, DGet.t (k := pk p.1 p.2) dh4.sd k4, ?_⟩
   rw [Zze, Zyt] at hb ⊢
   by_cases hs : p ∈ sn
   ·rw [if_neg (by rw [(dh4.si p.1 p.2).mpr hs]; decide)]
    exact ⟨l.length + E4 pg (Lw (Ag S) n) sn, by omega, _, _, _, _, _, ns, sn, l, kvs, rfl, dh4, df.drop hs, rfl, by omega⟩
   ·rw [if_pos (by cases e : (B1 kvs (pk p.1 p.2)).isSome with | true => exact absurd ((dh4.si p.1 p.2).mp e) hs | false => rfl)]
    have ip := df.inU p (Zza _ (Zzu.mpr rfl))
    have ra := S4 (pg := pg) hs (la ip.1 ip.2.1 ip.2.2)
    refine ⟨by decide, λt2 ht2 => ?_⟩
    have dh5 := dh4.step (A3 (o := .tup [V.str p.1, V.int p.2]) ht2)
    have k5 := A0 (H := H4) (a := t2) (o := .tup [V.str p.1, V.int p.2])
    generalize upd H4 t2 (.tup [V.str p.1, V.int p.2]) = H5 at dh5 k5 ⊢
    refine ⟨kvs, dh5.sd, pk p.1 p.2, k5, Zzb (m := 16000000) (by omega) (by decide), ?_⟩
    have dh6 := dh5.seen p.1 p.2 (.bl true)
    have kl6 := Cu kvs (pk p.1 p.2) (.bl true)
    generalize B8 kvs (pk p.1 p.2) (V.bl true) = kvs6 at dh6 kl6 ⊢
    generalize upd H5 se (.dT kvs6) = H6 at dh6 ⊢
    obtain ⟨kvA, hA, hAx⟩ := aa
    obtain ⟨l', e1, rdl⟩ := hAx p.1 ip.1
    obtain ⟨lv', hl', rlv⟩ := Di rdl
    have hll := B2 rlv
    refine ⟨_, Dj (.inl (dh6.same _ _ hA)) e1, l', rfl, lv', dh6.same _ _ hl', ?_⟩
    refine Bw (Dl l' _) (DfI ap wa se wt v S n pg p0 p l.length (p :: sn) kvs6 H) ⟨_, _, _, ns, l, rfl, dh6, df.take hs, Zxr _ _⟩ (λj Z H' _ h => by obtain ⟨_, _, _, _, _, _, d, _⟩ := h; exact d.same _ _ hl') (λj y Z H7 hj hy h => ?_) (λZ H7 h => ?_)
    ·obtain ⟨o7, o8, o9, ns, wl, rfl, dh7, df7, wl7⟩ := h
     obtain ⟨q, hq, rq⟩ := Bc rlv hy
     have hqm := Zzw hq
     obtain ⟨ea7, sx, nx, rfl, hea7, rsx, rnx⟩ := j8 rq
     obtain ⟨na, hd, rest, rfl, hna, hcase⟩ := bz rnx
     have qok := po.ok _ q hqm
     have et : (((pg p.1).take (j + 1)).filter λq => Bm q.1 p.2).length = (((pg p.1).take j).filter λq => Bm q.1 p.2).length + if Bm q.1 p.2 = true then 1 else 0 := by
      rw [Zz8, hq, Zvp, Zze]
      congr 1
      show (List.filter _ [q]).length = _
      rw [Zwp]
      split <;> rfl
     have ecnt : (((pg p.1).take (j + 1)).filter λq => Bm q.1 p.2).length <= Rg pg p := by
      unfold Rg
      exact ((List.take_sublist _ _).filter _).length_le
     have okl := fk p.2
     have lot : ∀ {H' : Hp} {t : Addr}, Same H H' -> H' t = none -> RD (upd H' t (.tup [V.str "lots", V.int p.2])) (.tuple [.str "lots", .int p.2]) (.ref t) /\ RD (upd H' t (.tup [V.str "lots", V.int p.2])) q.1.d sx := λ{H' t} s ht => ⟨RD.tup_mk A0 (RDs.cons RD.str_mk (RDs.one RD.int_mk)), RD.same (s.trans (A3 ht)) _ _ rsx⟩
     refine gt3 (dh7.same _ _ hea7) ?_
     simp only [Zwf, Zwg]
     refine mk (λZ' H' => ∃ ns', Z' = [some (.ref ap), some v, some (.ref wa), some (.ref se), some (.ref wt), some (.str p.1), some (.int p.2), some sx, some (.ref na), some (.int q.2.2)] /\ DfH H H' wa se wt ns' (p :: sn) wl kvs6 /\ (∀ k ∈ ns, k ∈ ns') /\ (∀ k ∈ ns', k ∈ ns \/ (Bm q.1 p.2 = true /\ Gz pg q.2.1 k)) /\ (Bm q.1 p.2 = true -> ∀ k : Nat, q.2.1 = Th.want k -> (k : Int) ∈ ns')) (λZ' H8 hM => ?_) (λKK hK => ?_)
     ·obtain ⟨ns', rfl, dh8, m1, m2, m3⟩ := hM
      have fin : ∀ (wl' : List Pr) (H' : Hp), DfH H H' wa se wt ns' (p :: sn) wl' kvs6 -> (∀ x ∈ wl, x ∈ wl') -> (∀ x ∈ wl', x ∈ wl \/ (Bm q.1 p.2 = true /\ q.2.1 = Th.part x.1 x.2 /\ InU S n x)) -> (Bm q.1 p.2 = true -> ∀ y c, q.2.1 = Th.part y c -> (y, c) ∈ wl') -> wl'.length <= wl.length + (if Bm q.1 p.2 = true then 1 else 0) -> DfI ap wa se wt v S n pg p0 p l.length (p :: sn) kvs6 H (j + 1) [some (.ref ap), some v, some (.ref wa), some (.ref se), some (.ref wt), some (.str p.1), some (.int p.2), some sx, some (.ref na), some (.int q.2.2)] H' := λwl' H' d a1 a2 a3 a4 => ⟨_, _, _, ns', wl', rfl, d, df7.step Zzj hq m1 m2 a1 a2 (λhl => ⟨m3 hl, a3 hl⟩), by rw [et]; omega⟩
      walk_at "rd"
      refine ⟨by decide, λt3 ht3 => ?_⟩
      have dh9 := dh8.step (A3 (o := .tup [V.str "lots", V.int p.2]) ht3)
      obtain ⟨r1, r2⟩ := lot dh8.same ht3
      generalize upd H8 t3 (.tup [V.str "lots", V.int p.2]) = H9 at dh9 r1 r2 ⊢
      refine ⟨_, r2, _, r1, Vg qok.1, okl, ?_⟩
      rw [T7]
      refine Cr (λhl => ?_) (λhl => fin wl H9 dh9 (λ_ z => z) (λ_ z => .inl z) (λz => absurd z hl) (Zxr _ _))
      have hna9 := dh9.same _ _ hna
      refine ⟨_, Ab (j := 0) hna9 rfl, rfl, ?_⟩
      rcases hcase with ⟨k', et', er, ex⟩ | ⟨y, c, et', er, ex⟩ | ⟨nw, np, _, ex⟩
      ·subst ex
       rw [if_neg (by decide +kernel)]
       exact fin wl H9 dh9 (λ_ z => z) (λ_ z => .inl z) (λ_ y c e => by rw [et'] at e; cases e) (Zxr _ _)
      ·subst ex er
       rw [if_pos (by decide)]
       obtain ⟨⟨tw, htw, etw, _⟩, hc, _⟩ := po.part _ q hqm y c et'
       refine ⟨Dn (Di dh9.tl).choose_spec.1, _, Ab (j := 1) hna9 rfl, _, Ab (j := 2) hna9 rfl, by decide, λt4 ht4 => ?_⟩
       have dh10 := dh9.step (A3 (o := .tup [V.str y, V.int c]) ht4)
       have r4 : RD (upd H9 t4 (.tup [V.str y, V.int c])) (Dh (y, c)) (.ref t4) := RD.tup_mk A0 (RDs.cons RD.str_mk (RDs.one RD.int_mk))
       generalize upd H9 t4 (.tup [V.str y, V.int c]) = H10 at dh10 r4 ⊢
       obtain ⟨vs', hvs', rvs'⟩ := Di dh10.tl
       have vl := B2 rvs'
       have elt : (if Bm q.1 p.2 = true then 1 else 0) = 1 := if_pos hl
       refine ⟨vs', hvs', Zzb (m := 16000000) (by rw [et, elt] at ecnt; omega) (by decide), ?_⟩
       refine fin (wl ++ [(y, c)]) _ (dh10.list hvs' (by rw [Zzm]; exact RDs.app rvs' (RDs.one r4))) (λ_ z => Zyw _ z) (λx z => (Zzc.mp z).elim .inl λz => .inr ?_) (λ_ y' c' e => ?_) (by rw [Zze, Zyt, elt]; exact Zzt _)
       ·rw [Zzu.mp z]
        exact ⟨hl, et', Zzs.mpr ⟨tw, htw, etw⟩, hc.1, Zvw hc.2⟩
       ·rw [et'] at e
        cases e
        exact Zza _ (Zzu.mpr rfl)
      ·rw [if_neg (λz => ex (V.str.inj (of_decide_eq_true z)))]
       exact fin wl H9 dh9 (λ_ z => z) (λ_ z => .inl z) (λ_ y c e => absurd e (np y c)) (Zxr _ _)
     ·walk_at "rd"
      refine ⟨by decide, λt3 ht3 => ?_⟩
      have dh8 := dh7.step (A3 (o := .tup [V.str "lots", V.int p.2]) ht3)
      obtain ⟨r1, r2⟩ := lot dh7.same ht3
      generalize upd H7 t3 (.tup [V.str "lots", V.int p.2]) = H8 at dh8 r1 r2 ⊢
      refine ⟨_, r2, _, r1, Vg qok.1, okl, ?_⟩
      rw [T7]
      refine Cr (λhl => ?_) (λhl => hK _ _ ⟨ns, rfl, dh8, λ_ z => z, λ_ z => .inl z, λz => absurd z hl⟩)
      have hna8 := dh8.same _ _ hna
      refine ⟨_, Ab (j := 0) hna8 rfl, rfl, ?_⟩
      rcases hcase with ⟨k', et', er, ex⟩ | ⟨y, c, et', er, ex⟩ | ⟨nw, np, ex, _⟩
      ·subst ex er
       rw [if_pos (by decide)]
       obtain ⟨kw, hw, hk⟩ := dh8.wd
       obtain ⟨ms, dh9, hms⟩ := dh8.want hw hk k' (.bl true)
       have nsf : ns.length <= 20 := Mp 20 hk.2 λi hi => by have := Jb po (df7.snd i hi); omega
       have kwl : kw.length = ns.length := by have := congrArg Zxz hk.1; rw [Zzz, Zzz] at this; exact this
       refine ⟨_, Ab (j := 1) hna8 rfl, kw, .inl k', rfl, hw, Zyp (m := 1000) (by omega) (by decide), hK _ _ ⟨ms, rfl, dh9, λi hi => (hms i).mpr (.inl hi), λi hi => ((hms i).mp hi).imp id λz => ⟨hl, by rw [et']; exact z⟩, λ_ i e => ?_⟩⟩
       rw [et'] at e
       cases e
       exact (hms _).mpr (.inr rfl)
      ·subst ex
       rw [if_neg (by decide +kernel)]
       exact hK _ _ ⟨ns, rfl, dh8, λ_ z => z, λ_ z => .inl z, λ_ i e => by rw [et'] at e; cases e⟩
      ·rw [if_neg (λz => ex (V.str.inj (of_decide_eq_true z)))]
       exact hK _ _ ⟨ns, rfl, dh8, λ_ z => z, λ_ z => .inl z, λ_ i e => absurd e (nw i)⟩
    ·obtain ⟨o7, o8, o9, ns, wl, rfl, dh7, df7, wl7⟩ := h
     rw [hll] at df7 wl7
     rw [Zz4] at wl7
     have wl7 : wl.length <= l.length + Rg pg p := wl7
     exact ⟨wl.length + E4 pg (Lw (Ag S) n) (p :: sn), by omega, _, _, _, _, _, ns, p :: sn, wl, kvs6, rfl, dh7, df7.close, rfl, by omega⟩
  ·have hnil : wl = [] := Classical.byContradiction λz => c (by rw [decide_eq_false z]; rfl)
   subst hnil
   obtain ⟨kw, e1, e2⟩ := dh1.wd
   have hall := df.all
   have few : ns.length <= 20 := Mp 20 e2.2 λj hj => by have := Jb po ((hall j).mp hj); omega
   refine ⟨kw, .inl e1, ns, e2.1, by omega, λp ms hp pm so => ?_⟩
   exact k p ms _ (Same.free dh1.same hp) A0 (Rv pm so e2.2 hall) (dh1.same.trans (A3 hp))
end
set_option maxHeartbeats 4000000
section
variable {P : Program} {w : World} {K : Zzv} {mg : Str -> Option Value} {base : Heap} {f : Addr} {fd : FuncData} {Pt : Addr}
def Fv (Pt : Addr) : Sp := λvs H Q _ => ∃ (st p : Addr) (v : V) (S : Sh) (kvs : List (Key × V)) (plan : Str -> List Int) (B sz : Int), vs = [.ref st, v, .ref p] /\ RD H S.d v /\ Good sz S /\ 0 < sz /\ sz <= 1000 /\ PlanK H p st S kvs plan B /\ B + 100 < 10 ^ 2000 /\ p ≠ st /\ StOk H st /\ Tb H Pt /\
 ∀ (plan' : Str -> List Int) H', PlanK H' p st S kvs plan' (B + 100) -> KeepU H H' -> StOk H' st -> Tb H' Pt -> Q .non H'
def jh (st p : Addr) (v : V) (S : Sh) (kvs : List (Key × V)) (B : Int) (Pt : Addr) (H : Hp) (i : Nat) (Z : St) (H' : Hp) : Prop := ∃ (o3 o4 o5 o6 o7 : Option V) (plan : Str -> List Int) (B' : Int), Z = [some (.ref st), some v, some (.ref p), o3, o4, o5, o6, o7] /\ PlanK H' p st S kvs plan B' /\ B' <= B + 20 * i /\ KeepU H H' /\ StOk H' st /\ Tb H' Pt
theorem PlanK.up {H : Hp} {a st : Addr} {S : Sh} {kvs : List (Key × V)} {plan : Str -> List Int} {B B' : Int} (h : PlanK H a st S kvs plan B) (hB : B <= B') : PlanK H a st S kvs plan B' :=
 ⟨h.1, h.2.1, λnm hn => by obtain ⟨l, e1, e2, e3, e4, e5⟩ := h.2.2 nm hn; exact ⟨l, e1, e2, e3, e4, λx hx => ⟨(e5 x hx).1, Zxq (e5 x hx).2 hB⟩⟩⟩
theorem sc_law_with_more : Aj ["_law_state", "_law_shop_here", "_law_plan", "_law_turn", "_law_ware", "_law_row", "_law_day", "_law_many"] ["_law_state", "_law_shop_here", "_law_plan"] (Ad D4) := by walk_at "sc"
theorem Kg (F : Fun K "_law_with_more" "_law_with_more" D4 f fd) (T : Txt mg) (Zvn : Has P w K mg base "_law_next" 1 ["_law_state", "_law_many"] sp_law_next) (Zu4 : Has P w K mg base "judged" 7 ["shop", "plan"] (Ot Pt)) : Bh P w K mg base CX0 8 f fd ["_law_state", "_law_shop_here", "_law_plan"] (Fv Pt) := by
 refine F.ok sc_law_with_more (λvs H Q E h => ?_) (λcdv A outer s H vs Q E hr h => ?_)
 ·obtain ⟨st, p, v, S, kvs, plan, B, sz, rfl, _⟩ := h
  rfl
 ·obtain ⟨st, p, v, S, kvs, plan, B, sz, rfl, rs, g, z0, z1, pk, hB, pst, st0, tb, k⟩ := h
  have hu := B5 hr
  have hu4 := Re hr
  refine ⟨_, (A9 (Az PassesOwn.never rfl (Cs rfl T.Zv3 (A4 (Aa Zvn hr.z rfl (A4 (pv 0) (A4 A8 A1))) A1)) (Ac (i := 3) sc_law_with_more.nd rfl (Zzq rfl))
 (A2 (Ae (i := 4) sc_law_with_more.nd rfl (Zzq rfl) (A7 hu (A7 hu (pv 1) A8 (λ_ _ => rfl)) (Aa Zvn hr.z rfl (A4 (pv 0) (A4 (Ap B9 rfl T.Zvb D0 (A4 (A7 hu (pv 1) A8 (λ_ _ => rfl)) A1)) A1))) (λ_ _ => rfl)))
 (A2 (Ae (i := 5) sc_law_with_more.nd rfl (Zzq rfl) (A7 hu (pv 2) (A7 hu (pv 4) A8 (λ_ _ => rfl)) (λ_ _ => rfl)))
 (A9 (Bd (Al Jg (Ap B9 rfl T.Zvb D0 (A4 (pv 5) A1)) (A7 hu (pv 4) A8 (λ_ _ => rfl)) (Am _)) (A2 (Ae (i := 6) sc_law_with_more.nd rfl (Zzq rfl) (Ar Bx (A7 hu (pv 4) A8 (λ_ _ => rfl)) (Aa Zvn hr.z rfl (A4 (pv 0) (A4 (Ar Mh (Ap B9 rfl T.Zvb D0 (A4 (pv 5) A1)) (A7 hu (pv 4) A8 (λ_ _ => rfl))) A1)))))
 (A2 (Ae (i := 7) sc_law_with_more.nd rfl (Zzq rfl) (Ar Bx A8 (Aa Zvn hr.z rfl (A4 (pv 0) (A4 A8 A1)))))
 (A2 (Jc (pv 5) (pv 6) Jo (pv 7) Gf Da)
 (A9 (Bd (Al (U6 hu4) (Aa Zu4 hr.z rfl (A4 (pv 1) (A4 (pv 2) A1))) (Aq (A4 Bo A1)) (Am _)) (A9 (Jc (pv 5) (pv 6) Jo (pv 7) Rc Da)) Ao))))) Ao)))))), ?_⟩
  obtain ⟨sa, sb, sc, wv, us, rfl, ha, hb, hc, rws, rus⟩ := Cy rs
  have hlw := B2 rws
  have w1 := g.len.1
  have w12 := g.len.2
  obtain ⟨n1, n2, n3, n4⟩ := g.days z0 z1
  walk_at "rd"
  refine ⟨st, 4, rfl, st0, by decide, by decide +kernel, λtn H1 t0 t1 st1 b1 => ⟨_, rfl, by omega, by omega, ?_⟩⟩
  refine Bw (L5 0 _) (jh st p (.ref sa) S kvs B Pt H) ⟨_, _, _, _, _, plan, B, rfl, pk.but b1 pst, by omega, Cq b1 st0, st1, Ie tb b1 st0⟩ (λ_ _ _ _ _ => trivial) (λi y Z H6 hi hy h => ?_) (λZ H6 h => ?_)
  ·obtain ⟨o3, o4, o5, o6, o7, plan, B6, rfl, pk6, hB6, ku6, st6, tb6⟩ := h
   subst hy
   have hi : i < 4 := by omega
   walk_at "rd"
   have ha6 := ku6 _ _ ha
   have hb6 := ku6 _ _ hb
   refine ⟨_, Ab (j := 0) ha6 rfl, _, Ab (j := 0) ha6 rfl, sb, rfl, wv, .inr hb6, st, _, rfl, st6, by omega, Zy8 (b := 1000) (by omega) (by decide +kernel), λx H7 x0 x1 st7 b7 => ?_⟩
   have ku7 := ku6.trans (Cq b7 st6)
   obtain ⟨jx, ejx⟩ : ∃ j, j = x.toNat := ⟨_, rfl⟩
   have hjx : jx < wv.length := by omega
   have hyx := Zzr hjx
   obtain ⟨w', hw', rt⟩ := Bc rws hyx
   have hwm := Zzw hw'
   have hnm : w'.name ∈ Ag S := Zzs.mpr ⟨w', hwm, rfl⟩
   have wb := g.ws.wb w' hwm
   obtain ⟨te, d1, d2, ete, hte, _⟩ := Bg rt
   rw [ete] at hyx
   refine ⟨_, Kk (.inr (ku7 _ _ hb)) x0 (by rw [<- ejx]; exact hyx), ?_⟩
   have pk7 := pk6.but b7 pst
   have tb7 := Ie tb6 b7 st6
   have hte7 := ku7 _ _ hte
   obtain ⟨l, hv, lst', hl, hlen', hbd⟩ := id (pk7.2.2 w'.name hnm)
   have el : (((plan w'.name).map V.int).length : Int) = (daysN S : Int) := by rw [Zzz, hlen']
   have inv : ∀ (o6 o7 : Option V) (plan : Str -> List Int) (H' : Hp) (B' : Int), PlanK H' p st S kvs plan B' -> B' <= B + 20 * (i + 1 : Nat) -> KeepU H H' -> StOk H' st -> Tb H' Pt -> jh st p (.ref sa) S kvs B Pt H (i + 1) [some (.ref st), some (.ref sa), some (.ref p), some (.int (0 + (i : Int))), some (.ref te), some (.ref l), o6, o7] H' := λo6 o7 plan H' B' h1 h2 h3 h4 h5 => ⟨_, _, _, _, _, plan, B', rfl, h1, h2, h3, h4, h5⟩
   refine ⟨_, Ab (j := 0) hte7 rfl, _, Dj (.inl pk7.1) hv, l, rfl, _, .inl hl, _, Ab (j := 1) hte7 rfl, _, rfl, Cr (λc2 => ?_) (λ_ => inv _ _ plan H7 B6 pk7 (by omega) ku7 st7 tb7)⟩
   have c2 : w'.lag < (daysN S : Int) := by have := of_decide_eq_true c2; omega
   have lag := wb.lag
   refine ⟨_, Ab (j := 1) hte7 rfl, l, rfl, _, .inl hl, _, Ab (j := 1) hte7 rfl, _, rfl, ?_⟩
   rw [el]
   refine ⟨st, _, rfl, st7, by omega, Zy8 (b := 1000) (by omega) (by decide +kernel), λe H8 e0 e1 s8 b8 => ⟨_, rfl, _, rfl, ?_⟩⟩
   refine ⟨st, 3, rfl, s8, by decide, by decide +kernel, λx H9 x0 x1 s9 b9 => ⟨_, rfl, ?_⟩⟩
   have pk9 := (pk7.but b8 pst).but b9 pst
   have ku9 := (ku7.trans (Cq b8 st7)).trans (Cq b9 s8)
   have tb9 := Ie (Ie tb7 b8 st7) b9 s8
   have hte9 := ku9 _ _ hte
   have hl9 : H9 l = some (.lst ((plan w'.name).map V.int)) := b9 _ _ lst' (b8 _ _ lst' hl)
   obtain ⟨j, ej⟩ : ∃ j, j = (w'.lag + e).toNat := ⟨_, rfl⟩
   have hj : j < (plan w'.name).length := by omega
   have ey : (plan w'.name)[j]? = some ((plan w'.name).getD j 0) := by rw [Zzg, Zzr hj]; rfl
   have hyb := hbd _ (Zzw ey)
   generalize (plan w'.name).getD j 0 = y0 at ey hyb
   have eix : ∀ xs : List Int, xs.length = daysN S -> ixN (xs.map V.int).length (w'.lag + e) = some j := λxs hx => by
    unfold ixN
    rw [Zzz, hx, if_pos (by omega), if_pos (by omega), ej]
   refine ⟨l, rfl, _, hl9, by omega, .int y0, by rw [<- ej, Zzx, ey]; rfl, _, rfl, l, rfl, _, hl9, j, eix _ hlen', ?_⟩
   rw [<- Zwe]
   have pk10 := pk9.set (B' := B6 + 10) hnm hv (xs := (plan w'.name).set j (y0 + (1 + x))) (by rw [Zx1]; exact hlen') (Tz (λz hz => ⟨(hbd z hz).1, by have := (hbd z hz).2; omega⟩) ⟨by omega, by omega⟩) (by omega)
   have ku10 := ku9.trans (Ep (ys := ((plan w'.name).set j (y0 + (1 + x))).map V.int) hl9)
   have st10 := s9.upd (o := .lst (((plan w'.name).set j (y0 + (1 + x))).map V.int)) (Zzf lst')
   have tb10 := Po (o := .lst (((plan w'.name).set j (y0 + (1 + x))).map V.int)) tb9 hl9
   have hl10 := A0 (H := H9) (a := l) (o := .lst (((plan w'.name).set j (y0 + (1 + x))).map V.int))
   generalize upd H9 l (.lst (((plan w'.name).set j (y0 + (1 + x))).map V.int)) = H10 at pk10 ku10 st10 tb10 hl10 ⊢
   refine ⟨.ref sa, p, S, _, sz, rfl, RD.ku ku10 _ _ (C3 S) rs, pk10.at (Zy8 (b := B + 100) (by omega) hB), g, z0, z1, tb10, λt' ys' H11 ht' so' hj' tb11 bt11 => ⟨by decide, λr hr' => ?_⟩⟩
   have u12 := A3 (o := .tup [V.str "good"]) hr'
   have pk12 := (pk10.tb tb10 bt11).same u12
   have ku12 := (ku10.trans (Dy tb10 bt11)).trans u12.ku
   have st12 := (M1 st10 tb10 bt11).same u12
   have tb12 := tb11.same u12
   have hl12 := u12 _ _ (bt11 _ _ (Dx tb10 hl10 λu z => by cases z) hl10)
   refine ⟨_, Yn (u12 _ _ hj'), _, Yn (o := none) A0, kr (λx hx => g.txt x ((Cw so').1.mem_iff.mp hx)), by decide +kernel, Cr (λ_ => ?_) (λ_ => ?_)⟩
   ·refine ⟨l, rfl, _, hl12, by omega, .int (y0 + (1 + x)), by rw [<- ej, Zzx, Zx7 hj]; rfl, _, rfl, l, rfl, _, hl12, j, eix _ (by rw [Zx1]; exact hlen'), ?_⟩
    rw [<- Zwe]
    have pk13 := pk12.set (B' := B6 + 10) hnm hv (xs := ((plan w'.name).set j (y0 + (1 + x))).set j (y0 + (1 + x) - (1 + x))) (by rw [Zx1, Zx1]; exact hlen') (Tz (Tz (λz hz => ⟨(hbd z hz).1, by have := (hbd z hz).2; omega⟩) ⟨by omega, by omega⟩) ⟨by omega, by omega⟩) (by omega)
    exact inv _ _ _ _ _ pk13 (by omega) (ku12.trans (Ep hl12)) (st12.upd (Zzf lst')) (Po tb12 hl12)
   ·exact inv _ _ _ _ _ pk12 (by omega) ku12 st12 tb12
  ·obtain ⟨o3, o4, o5, o6, o7, plan, B6, rfl, pk6, hB6, ku6, st6, tb6⟩ := h
   walk_at "rd"
   exact k plan H6 (pk6.up (by omega)) ku6 st6 tb6
end
set_option maxHeartbeats 4000000
section
variable {P : Program} {w : World} {K : Zzv} {mg : Str -> Option Value} {base : Heap} {f : Addr} {fd : FuncData} {Pt : Addr}
def Fr (st Pt : Addr) (H H' : Hp) : Prop := ∀ b o, b ≠ st -> b ≠ Pt -> H b = some o -> H' b = some o
theorem Zw {st Pt : Addr} {H H' : Hp} (b : But Pt H H') : Fr st Pt H H' := λx o _ n e => b x o n e
theorem m7 {st Pt : Addr} {H H' : Hp} (b : But st H H') : Fr st Pt H H' := λx o n _ e => b x o n e
theorem Jp {st Pt : Addr} {H H' : Hp} (s : Same H H') : Fr st Pt H H' := λx o _ _ e => s x o e
theorem qo {st Pt : Addr} {H H' : Hp} (f : Fr st Pt H H') (s : StOk H st) (t : Tb H Pt) : KeepU H H' := λa xs e => f a _ (s.neT e) (Dx t e λu z => by cases z) e
structure Rm (H : Hp) (v : V) (p ap kd st : Addr) (S : Sh) (kvs kc kvA : List (Key × V)) (plan : Str -> List Int) (pg : Pegs) (B : Int) (xs ys : List Str) : Prop where
 rs : RD H S.d v
 pl : PlanK H p st S kvs plan B
 pa : H ap = some (.dK kvA)
 pv : ∀ nm ∈ xs, ∃ l : Addr, B1 kvA (.inr nm) = some (.ref l) /\ l ≠ st /\ RD H (.list ((pg nm).map pgD)) (.ref l)
 ka : H kd = some (.dK kc)
 kv : ∀ nm ∈ ys, ∃ q : Addr, B1 kc (.inr nm) = some (.ref q) /\ q ≠ st /\ H q = some (.lst ((plan nm).map V.int))
theorem Rm.fr {H H' : Hp} {v : V} {p ap kd st Pt : Addr} {S : Sh} {kvs kc kvA : List (Key × V)} {plan : Str -> List Int} {pg : Pegs} {B : Int} {xs ys : List Str} (h : Rm H v p ap kd st S kvs kc kvA plan pg B xs ys) (s : StOk H st) (t : Tb H Pt) (f : Fr st Pt H H') : Rm H' v p ap kd st S kvs kc kvA plan pg B xs ys := by
 have ku := qo f s t
 have dk : ∀ {a : Addr} {k : List (Key × V)}, H a = some (.dK k) -> H' a = some (.dK k) := λ{a k} e => f a _ (λz => by obtain ⟨_, _, e2⟩ := s; rw [z, e2] at e; cases e) (Dx t e λu z => by cases z) e
 have ls : ∀ {a : Addr} {l : List V}, a ≠ st -> H a = some (.lst l) -> H' a = some (.lst l) := λ{a l} n e => f a _ n (Dx t e λu z => by cases z) e
 exact ⟨RD.ku ku _ _ (C3 S) h.rs, ⟨dk h.pl.1, h.pl.2.1, λnm hn => by obtain ⟨l, e1, e2, e3, e4⟩ := h.pl.2.2 nm hn; exact ⟨l, e1, e2, ls e2 e3, e4⟩⟩, dk h.pa, λnm hn => by
  obtain ⟨l, e1, e2, e3⟩ := h.pv nm hn
  obtain ⟨vs, h1, h2⟩ := Di e3
  exact ⟨l, e1, e2, Fl (ls e2 h1) (RDs.ku ku _ _ (Bf pgD Ox _) h2)⟩, dk h.ka, λnm hn => by obtain ⟨q, e1, e2, e3⟩ := h.kv nm hn; exact ⟨q, e1, e2, ls e2 e3⟩⟩
theorem Rm.putA {H : Hp} {v : V} {p ap kd st : Addr} {S : Sh} {kvs kc kvA : List (Key × V)} {plan : Str -> List Int} {pg : Pegs} {B : Int} {xs ys : List Str} (h : Rm H v p ap kd st S kvs kc kvA plan pg B xs ys) (n1 : kd ≠ ap) (n2 : p ≠ ap) {l : Addr} {nm : Str} (hl : RD H (.list ((pg nm).map pgD)) (.ref l)) (hs : l ≠ st) : Rm (upd H ap (.dK (B8 kvA (.inr nm) (.ref l)))) v p ap kd st S kvs kc (B8 kvA (.inr nm) (.ref l)) plan pg B (xs ++ [nm]) ys := by
 have kl := Eh (o := .dK (B8 kvA (.inr nm) (.ref l))) h.pa (λ_ z => by cases z) λ_ z => by cases z
 refine ⟨RD.ku (λb xs e => (kl b xs).2 e) _ _ (C3 S) h.rs, ⟨by rw [A5 n2]; exact h.pl.1, h.pl.2.1, λnm hn => by obtain ⟨l, e1, e2, e3, e4⟩ := h.pl.2.2 nm hn; exact ⟨l, e1, e2, (kl _ _).1 e3, e4⟩⟩, A0, λx hx => ?_, by rw [A5 n1]; exact h.ka, λnm hn => by obtain ⟨q, e1, e2, e3⟩ := h.kv nm hn; exact ⟨q, e1, e2, (kl _ _).1 e3⟩⟩
 by_cases e : x = nm
 ·subst e
  exact ⟨l, by rw [Cg, if_pos rfl], hs, M8 hl (Bf pgD Ox _) kl⟩
 ·rcases Zzc.mp hx with z | z
  ·obtain ⟨l', e1, e2, e3⟩ := h.pv x z
   exact ⟨l', by rw [Cg, if_neg (λz => e (Zxh z))]; exact e1, e2, M8 e3 (Bf pgD Ox _) kl⟩
  ·exact absurd (Zzu.mp z) e
theorem Rm.putC {H : Hp} {v : V} {p ap kd st : Addr} {S : Sh} {kvs kc kvA : List (Key × V)} {plan : Str -> List Int} {pg : Pegs} {B : Int} {xs ys : List Str} (h : Rm H v p ap kd st S kvs kc kvA plan pg B xs ys) (n1 : ap ≠ kd) (n2 : p ≠ kd) {l : Addr} {nm : Str} (hl : H l = some (.lst ((plan nm).map V.int))) (hs : l ≠ st) : Rm (upd H kd (.dK (B8 kc (.inr nm) (.ref l)))) v p ap kd st S kvs (B8 kc (.inr nm) (.ref l)) kvA plan pg B xs (ys ++ [nm]) := by
 have kl := Eh (o := .dK (B8 kc (.inr nm) (.ref l))) h.ka (λ_ z => by cases z) λ_ z => by cases z
 refine ⟨RD.ku (λb xs e => (kl b xs).2 e) _ _ (C3 S) h.rs, ⟨by rw [A5 n2]; exact h.pl.1, h.pl.2.1, λnm hn => by obtain ⟨l, e1, e2, e3, e4⟩ := h.pl.2.2 nm hn; exact ⟨l, e1, e2, (kl _ _).1 e3, e4⟩⟩, by rw [A5 n1]; exact h.pa, λnm hn => by obtain ⟨q, e1, e2, e3⟩ := h.pv nm hn; exact ⟨q, e1, e2, M8 e3 (Bf pgD Ox _) kl⟩, A0, λx hx => ?_⟩
 by_cases e : x = nm
 ·subst e
  exact ⟨l, by rw [Cg, if_pos rfl], hs, (kl _ _).1 hl⟩
 ·rcases Zzc.mp hx with z | z
  ·obtain ⟨l', e1, e2, e3⟩ := h.kv x z
   exact ⟨l', by rw [Cg, if_neg (λz => e (Zxh z))]; exact e1, e2, (kl _ _).1 e3⟩
  ·exact absurd (Zzu.mp z) e
theorem Rm.all {H : Hp} {v : V} {p ap kd st : Addr} {S : Sh} {kvs kc kvA : List (Key × V)} {plan : Str -> List Int} {pg : Pegs} {B : Int} {xs ys : List Str} (h : Rm H v p ap kd st S kvs kc kvA plan pg B xs ys) : jn H ap xs pg := ⟨kvA, h.pa, λx hx => by obtain ⟨l, e1, _, e3⟩ := h.pv x hx; exact ⟨l, e1, e3⟩⟩
def sk (a st p ap kd : Addr) (v : V) (S : Sh) (kvs : List (Key × V)) (plan : Str -> List Int) (pg : Pegs) (B : Int) (Pt : Addr) (H : Hp) (i : Nat) (Z : St) (H' : Hp) : Prop := ∃ (o6 : Option V) (kvA kc : List (Key × V)), Z = [some (.ref a), some (.ref st), some v, some (.ref p), some (.ref ap), some (.ref kd), o6, none, none, none, none] /\ Rm H' v p ap kd st S kvs kc kvA plan pg B ((Ag S).take i) ((Ag S).take i) /\ kvA.length <= i /\ kc.map (·.1) = ((Ag S).take i).map Zy2 /\ KeepU H H' /\ StOk H' st /\ Tb H' Pt
def LpI (a st p ap kd : Addr) (v : V) (S : Sh) (kvs kc kvA : List (Key × V)) (plan : Str -> List Int) (pg : Pegs) (B : Int) (Pt : Addr) (H : Hp) (te : Option V) (Z : St) (H' : Hp) : Prop := ∃ (o7 o8 o9 : Option V), Z = [some (.ref a), some (.ref st), some v, some (.ref p), some (.ref ap), some (.ref kd), te, o7, o8, o9, none] /\ Rm H' v p ap kd st S kvs kc kvA plan pg B (Ag S) (Ag S) /\ KeepU H H' /\ StOk H' st /\ Tb H' Pt
def Pw (K : Zzv) (Pt : Addr) : Sp := λvs H Q _ => ∃ (a : Addr) (ns : List Int), vs = [.ref a] /\ SqL K H a (ns.map V.int) /\ ns.length <= 63 /\ Tb H Pt /\ ∀ H', Q (.bl true) H'
theorem sc_law : Aj ["_law_script", "_law_state", "_law_shop_here", "_law_plan", "_law_all_pegs", "_law_kept_here", "_law_ware", "_law_day", "_law_due", "_law_found", "_law_name"] ["_law_script"] (Ad M3) := by walk_at "sc"
theorem ko (F : Fun K "law" "law" M3 f fd) (T : Txt mg) (Zug : Has P w K mg base "_law_drawn" 1 ["_law_script"] (Iz K)) (Zub : Has P w K mg base "_law_kept" 10 ["_law_shop_here"] (Kx Pt)) (Zua : Has P w K mg base "_law_shop" 3 ["_law_state", "_law_top"] sp_law_shop) (Zvn : Has P w K mg base "_law_next" 1 ["_law_state", "_law_many"] sp_law_next) (Zuz : Has P w K mg base "_law_with_more" 8 ["_law_state", "_law_shop_here", "_law_plan"] (Fv Pt)) (Zue : Has P w K mg base "pegs" 9 ["shop", "plan", "name"] (Pu Pt)) (Zuy : Has P w K mg base "_law_serves" 1 ["_law_all_pegs", "_law_lots"] sp_law_serves) (Zu9 : Has P w K mg base "serves" 10 ["shop", "plan", "name", "day"] (Os Pt)) : Bh P w K mg base CX0 11 f fd ["_law_script"] (Pw K Pt) := by
 refine F.ok sc_law (λvs H Q E h => ?_) (λcdv A outer s H vs Q E hr h => ?_)
 ·obtain ⟨a, ns, rfl, _⟩ := h
  rfl
 ·obtain ⟨a, ns, rfl, hS, hlen, tb, k⟩ := h
  have hu := B5 hr
  have hu4 := Re hr
  have hu7 := gm hr
  refine ⟨_, (A2 (Ae (i := 1) sc_law.nd rfl (Zzq rfl) (Aa Zug hr.z rfl (A4 (pv 0) A1)))
 (A2 (D7 (Aa Zub hr.z rfl (A4 (Aa Zua hr.z rfl (A4 (pv 1) (A4 (A7 hu (Bp (A4 A8 (A4 A8 A1))) (Ck Hr rfl T.Zu2 Nl (A4 (Hm (Bq hu) (Aa Zvn hr.z rfl (A4 (pv 1) (A4 A8 A1))) A8 (Am _)) A1)) (λ_ _ => rfl)) A1))) A1)) (Cd (n := 2) rfl (Ai (Ac (i := 2) sc_law.nd rfl (Zzq rfl)) (Ai (Ac (i := 3) sc_law.nd rfl (Zzq rfl)) Bn))))
 (A2 (Bd (Al Yy (pv 3) Fn (Am _)) (A9 (Ak Ow)) Ao)
 (A2 (Ba (Aa Zuz hr.z rfl (A4 (pv 1) (A4 (pv 2) (A4 (pv 3) A1)))))
 (A2 (Ae (i := 4) sc_law.nd rfl (Zzq rfl) Ct)
 (A2 (Ae (i := 5) sc_law.nd rfl (Zzq rfl) Ct)
 (A2 (Az PassesOwn.never rfl (Dg (A7 hu (pv 2) A8 (λ_ _ => rfl))) (Ac (i := 6) sc_law.nd rfl (Zzq rfl))
 (A2 (D7 (Aa Zue hr.z rfl (A4 (pv 2) (A4 (pv 3) (A4 (A7 hu (pv 6) A8 (λ_ _ => rfl)) A1)))) (Dr (pv 4) (A7 hu (pv 6) A8 (λ_ _ => rfl)) (Db hu)))
 (A9 (D7 (Ck Us rfl T.Ztw Vx (A4 (A7 hu (pv 3) (A7 hu (pv 6) A8 (λ_ _ => rfl)) (λ_ _ => rfl)) A1)) (Dr (pv 5) (A7 hu (pv 6) A8 (λ_ _ => rfl)) (Db hu))))))
 (A2 (Az PassesOwn.never rfl (Dg (A7 hu (pv 2) A8 (λ_ _ => rfl))) (Ac (i := 6) sc_law.nd rfl (Zzq rfl))
 (A9 (Az PassesOwn.never rfl (Cs rfl T.Zv3 (A4 (Ar Bx (Ap B9 rfl T.Zvb D0 (A4 (A7 hu (pv 3) (A7 hu (pv 6) A8 (λ_ _ => rfl)) (λ_ _ => rfl)) A1)) A8) A1)) (Ac (i := 7) sc_law.nd rfl (Zzq rfl))
 (A2 (Bd (PW.pt (Ij (Al Jg (Ap B9 rfl T.Zvb D0 (A4 (A7 hu (pv 2) A8 (λ_ _ => rfl)) A1)) A8 (Am _)) (Ga (Al Jg (Aa Zvn hr.z rfl (A4 (pv 1) (A4 (Ar Bx A8 (Ar Fx (Ap B9 rfl T.Zvb D0 (A4 (A7 hu (pv 3) (A7 hu (pv 6) A8 (λ_ _ => rfl)) (λ_ _ => rfl)) A1)) A8)) A1))) A8 (Am _))))) (A9 S7) Ao)
 (A2 (Ae (i := 8) sc_law.nd rfl (Zzq rfl) (Aa Zuy hr.z rfl (A4 (pv 4) (A4 (Aq (A4 (A7 hu (pv 6) A8 (λ_ _ => rfl)) (A4 (pv 7) A1))) A1))))
 (A2 (Ae (i := 9) sc_law.nd rfl (Zzq rfl) (Aa Zu9 hr.z rfl (A4 (pv 2) (A4 (pv 3) (A4 (A7 hu (pv 6) A8 (λ_ _ => rfl)) (A4 (pv 7) A1))))))
 (A2 (Bd (PW.pt (j6 (Q6 (Q5 (Ap Hd rfl T.Zuo Fp (A4 (pv 9) (A4 (Q8 (v := .ty "list") rfl T.Ztw Vx rfl) A1))))) (j6 (Al (U6 hu4) (pv 9) (pv 8) (Am _)) (jw (Al (km hu7) (pv 3) (pv 5) (Am _)))))) (A9 (Ak Ow)) Ao)
 (A2 (Bd (Q6 (Q5 (Ap (au rfl) rfl T.Ztt mq (A4 (Ff (own := ["_law_number"]) (cap := []) rfl (G0 rfl) (C9 (by decide)) (Cl (pv 9))
 (λ_ _ _ _ _ _ => ⟨(Ac (i := 0) (of_decide_eq_true rfl) rfl (Zzq rfl) (.inr rfl)), De, (kj (Ap Hd rfl T.Zuo Fp (A4 (pv 0) (A4 (Q8 (v := .ty "int") rfl T.Zu2 Nl rfl) A1))) (kh (ki (Ap Hd rfl T.Zuo Fp (A4 (pv 0) (A4 (Q8 (v := .ty "bool") rfl T.Ztu i5 rfl) A1))))))⟩)) A1)))) (A9 (Ak Ow)) Ao)
 (A9 (Ba (E5 Zz6 Zz2 Zz1 Bj (pv 9) (A4 A8 A1))))))))))))
 (A2 (Ae (i := 10) sc_law.nd rfl (Zzq rfl) (A7 hu (A7 hu (A7 hu (pv 2) A8 (λ_ _ => rfl)) A8 (λ_ _ => rfl)) A8 (λ_ _ => rfl)))
 (A9 (Ak (Hm (U8 hu4) (Aa Zu9 hr.z rfl (A4 (pv 2) (A4 (pv 3) (A4 (pv 10) (A4 A8 A1))))) (Aa Zuy hr.z rfl (A4 (pv 4) (A4 (Aq (A4 (pv 10) (A4 A8 A1))) A1))) (Am _))))))))))))), ?_⟩
  walk_at "rd"
  refine ⟨a, ns, rfl, hS, hlen, λst H1 s1 sm1 => ?_⟩
  have tb1 := tb.same sm1
  refine ⟨by decide, λq hq => ?_⟩
  have u1 := A3 (o := .lst [V.int 4, V.int 8]) hq
  have s2 := s1.same u1
  have tb2 := tb1.same u1
  have x2 := A0 (H := H1) (a := q) (o := .lst [V.int 4, V.int 8])
  have qst : q ≠ st := Zzf (s1.ne hq)
  generalize upd H1 q (.lst [V.int 4, V.int 8]) = H2 at s2 tb2 x2 ⊢
  refine ⟨st, 6, rfl, s2, by decide, by decide +kernel, λd H3 _ _ s3 b3 => ⟨rfl, _, Jk (b3 _ _ qst x2), ?_⟩⟩
  refine ⟨st, _, rfl, s3, by split <;> decide, by split <;> decide, λv S H4 rs g s4 b4 => ?_⟩
  have tb4 := Ie (Ie tb2 b3 s2) b4 s3
  refine ⟨v, S, rfl, rs, g, tb4, λt v' H5 ht tb5 bt5 => ?_, λt v' p S' sz ys H5 ht rs5 g5 z0 z1 pok so ra hpf tb5 bt5 => ?_⟩
  ·refine gt2 ht ?_
   walk_at "rd"
   rw [if_pos (by decide)]
   exact k H5
  ·refine gt2 ht ?_
   walk_at "rd"
   rw [if_neg (by rw [decide_eq_false (λz => by cases z)]; decide)]
   have st5 := M1 s4 tb4 bt5
   have L := Fy g5
   have stn : H4 st ≠ none := by obtain ⟨x, _, e⟩ := s4; rw [e]; exact λh => nomatch h
   have pst : p ≠ st := λz => stn (z ▸ hpf)
   obtain ⟨kvs, hk1, hk2, hk3, hk4⟩ := ra
   have hm : ∀ nm ∈ Ag S', nm ∈ ys := λnm h => (Cw so).1.mem_iff.mpr h
   have hm' : ∀ nm ∈ ys, nm ∈ Ag S' := λnm h => (Cw so).1.mem_iff.mp h
   have pk : PlanK H5 p st S' kvs (LR S') (10 ^ 600) := ⟨hk1, λnm hn nm' hn' q e e' => hk4 nm (hm _ hn) nm' (hm _ hn') q e e', λnm hnm => by
    obtain ⟨q, e1, e2, e3, e4⟩ := hk3 nm (hm _ hnm)
    obtain ⟨w, hw, rfl⟩ := Zzs.mp hnm
    exact ⟨q, e3, λz => stn (z ▸ e1), e4, Kt L.toLev hw, λx hx => ⟨(W5 (Lq g5) _ x hx).1, Zvw (W5 (Lq g5) _ x hx).2⟩⟩⟩
   obtain ⟨n1, n2, n3, n4⟩ := g5.days z0 (by omega)
   have w12 := g5.len.2
   refine ⟨st, p, v', S', kvs, _, _, sz, rfl, rs5, g5, z0, by omega, pk, by decide +kernel, pst, st5, tb5, λplan H6 pk6 ku6 st6 tb6 => ?_⟩
   have rs6 := RD.ku ku6 _ _ (C3 S') rs5
   have bB : (10 ^ 600 + 100 : Int) < 10 ^ 2000 := by decide +kernel
   generalize (10 ^ 600 + 100 : Int) = B at pk6 bB
   have ord := fb L.toLev
   have po : bf S' (daysN S') (Kc S' plan (Mg S' S'.wares.length)) := ph g5 z0 (by omega) ord λt ht => by
    obtain ⟨l, _, _, _, e4, e5⟩ := pk6.2.2 t.name (Zzs.mpr ⟨t, ht, rfl⟩)
    exact ⟨e4, λx hx => (e5 x hx).1⟩
   have pgq : ∀ w' ∈ S'.wares, Kc S' plan (Mg S' S'.wares.length) w'.name = L9 S' plan w' (Mg S' S'.wares.length) := λw' hw => Q7 g5.ws.nd hw
   generalize epg : Kc S' plan (Mg S' S'.wares.length) = pg at po pgq
   have ndy : ys.Nodup := (Cw so).1.nodup_iff.mpr g5.ws.nd
   have kl : kvs.length = ys.length := by have := congrArg Zxz hk2; rw [Zzz, Zzz] at this; exact this
   have ndk : (kvs.map (·.1)).Nodup := by rw [hk2]; exact List.pairwise_map.mpr (ndy.imp λ{x y} h e => h (Zxh e))
   obtain ⟨sa, sb, sc, wv, us, rfl, ha, hb, hc, rws, rus⟩ := Cy rs6
   have hlw := B2 rws
   walk_at "rd"
   intro ap hap kd hkd
   have u1 := A3 (o := .dK []) hap
   have u2 := A3 (o := .dK []) hkd
   have s68 := u1.trans u2
   have kda : kd ≠ ap := λz => by rw [z, A0] at hkd; cases hkd
   have hkd6 := Same.free u1 hkd
   have pap : p ≠ ap := λz => by have := pk6.1; rw [z, hap] at this; cases this
   have pkd : p ≠ kd := λz => by have := pk6.1; rw [z, hkd6] at this; cases this
   have rm0 : Rm (upd (upd H6 ap (.dK [])) kd (.dK [])) (.ref sa) p ap kd st S' kvs [] [] plan pg B [] [] := ⟨RD.same s68 _ _ rs6, pk6.same s68, u2 _ _ A0, (λ_ h => by cases h), A0, λ_ h => by cases h⟩
   have st8 := st6.same s68
   have tb8 := tb6.same s68
   have rs8 := rm0.rs
   have ha8 := s68 _ _ ha
   have hb8 := s68 _ _ hb
   have rws8 := RDs.same s68 _ _ rws
   generalize upd (upd H6 ap (.dK [])) kd (.dK []) = H8 at rm0 st8 tb8 rs8 ha8 hb8 rws8 ⊢
   refine ⟨_, Ab (j := 0) ha8 rfl, sb, rfl, wv, hb8, ?_⟩
   have nlen := Bs S'
   refine Bw (Fj sb _) (sk a st p ap kd (.ref sa) S' kvs plan pg B Pt H8) ⟨_, [], [], rfl, rm0, Zzt _, rfl, (λ_ _ e => e), st8, tb8⟩ (λi Z H' _ h => by obtain ⟨_, _, _, _, _, _, _, ku, _⟩ := h; exact ku _ _ hb8) (λi y Z H9 hi hy h => ?_) (λZ H9 h => ?_)
   ·obtain ⟨o6, kvA, kc, rfl, rm9, kal, hkc, ku9, st9, tb9⟩ := h
    obtain ⟨w', hw', rt⟩ := Bc rws8 hy
    have hwm := Zzw hw'
    have hnm : w'.name ∈ Ag S' := Zzs.mpr ⟨w', hwm, rfl⟩
    have en : (Ag S')[i]? = some w'.name := by unfold Ag; rw [Zzx, hw']; rfl
    have etk : (Ag S').take (i + 1) = (Ag S').take i ++ [w'.name] := by rw [Zz8, en]; rfl
    obtain ⟨te, d1, d2, rfl, hte, _⟩ := Bg rt
    have hte9 := ku9 _ _ hte
    have kcl : kc.length = i := by have := congrArg Zxz hkc; rw [Zzz, Zzz, Zym] at this; omega
    walk_at "rd"
    refine ⟨_, Ab (j := 0) hte9 rfl, .ref sa, p, S', plan, w', Mg S' S'.wares.length, sz, rfl, rm9.rs, rm9.pl.at bB, hwm, g5, z0, by omega, ord, tb9, λq H10 hq rd10 tb10 bt10 => ?_⟩
    have qst9 : q ≠ st := Zzf (st9.ne hq)
    rw [<- pgq w' hwm] at rd10
    have rm10 := rm9.fr st9 tb9 (Zw bt10)
    have st10 := M1 st9 tb9 bt10
    have ku10 := ku9.trans (Dy tb9 bt10)
    refine ⟨_, Ab (j := 0) (ku10 _ _ hte) rfl, kvA, .inr w'.name, rfl, rm10.pa, Zyp (m := 1000) (by omega) (by decide), ?_⟩
    have rm11 := rm10.putA kda pap rd10 qst9
    have ku11 := ku10.trans (λb xs e => (Eh (o := .dK (B8 kvA (.inr w'.name) (.ref q))) rm10.pa (λ_ z => by cases z) (λ_ z => by cases z) b xs).2 e)
    have st11 : StOk (upd H10 ap (.dK (B8 kvA (.inr w'.name) (.ref q)))) st := st10.upd (λz => by obtain ⟨_, _, e⟩ := st10; rw [z, rm10.pa] at e; cases e)
    have tb11 : Tb (upd H10 ap (.dK (B8 kvA (.inr w'.name) (.ref q)))) Pt := Tw tb10 rm10.pa
    have kal11 := Cu kvA (.inr w'.name) (.ref q)
    generalize B8 kvA (.inr w'.name) (.ref q) = kvA11 at rm11 ku11 st11 tb11 kal11 ⊢
    generalize upd H10 ap (.dK kvA11) = H11 at rm11 ku11 st11 tb11 ⊢
    obtain ⟨l, hv, lst', hl, hlen', hbd⟩ := id (rm11.pl.2.2 w'.name hnm)
    refine ⟨_, Ab (j := 0) (ku11 _ _ hte) rfl, _, Dj (.inl rm11.pl.1) hv, l, rfl, _, .inl hl, λr hr11 => ?_⟩
    have rst : r ≠ st := Zzf (st11.ne hr11)
    have u12 := A3 (o := .lst ((plan w'.name).map V.int)) hr11
    have rm12 := rm11.fr st11 tb11 (Jp u12)
    have ku12 := ku11.trans u12.ku
    have st12 := st11.same u12
    have tb12 := tb11.same u12
    have hr12 := A0 (H := H11) (a := r) (o := .lst ((plan w'.name).map V.int))
    generalize upd H11 r (.lst ((plan w'.name).map V.int)) = H12 at rm12 ku12 st12 tb12 hr12 ⊢
    refine ⟨_, Ab (j := 0) (ku12 _ _ hte) rfl, kc, .inr w'.name, rfl, rm12.ka, Zyp (m := 1000) (by omega) (by decide), ?_⟩
    have nn : B1 kc (.inr w'.name) = none := by
     cases e : B1 kc (.inr w'.name) with
     | none => rfl
     | some z =>
      have h3 := Pm e
      rw [hkc] at h3
      obtain ⟨y, hy, e2⟩ := Zzs.mp h3
      rw [Zxh e2] at hy
      exact absurd hy (Cv g5.ws.nd en)
    have rm13 := rm12.putC (Zzf kda) pkd hr12 rst
    rw [<- etk] at rm13
    refine ⟨_, kvA11, _, rfl, rm13, by omega, by rw [Gv _ nn, Zzm, hkc, etk, Zzm]; rfl, ku12.trans (λb xs e => (Eh (o := .dK (B8 kc (.inr w'.name) (.ref r))) rm12.ka (λ_ z => by cases z) (λ_ z => by cases z) b xs).2 e), st12.upd (λz => by obtain ⟨_, _, e⟩ := st12; rw [z, rm12.ka] at e; cases e), Tw tb12 rm12.ka⟩
   ·obtain ⟨o6, kvA, kc, rfl, rm9, kal, hkc, ku9, st9, tb9⟩ := h
    rw [hlw, <- nlen, Zz4] at rm9 hkc
    have ha9 := ku9 _ _ ha8
    have hb9 := ku9 _ _ hb8
    have rws9 := RDs.ku ku9 _ _ (Bf Wr.d Fi _) rws8
    walk_at "rd"
    have lkc : kvs.length = kc.length := by
     have h1 := congrArg Zxz hkc
     have h2 := (Cw so).1.length_eq
     rw [Zzz, Zzz] at h1
     omega
    have like : ∀ H', Rm H' (.ref sa) p ap kd st S' kvs kc kvA plan pg B (Ag S') (Ag S') -> bj H' kvs kc := λH' rm q hq => by
     obtain ⟨i, hi⟩ := Zxt.mp hq
     have h1 : (kvs.map (·.1))[i]? = some q.1 := by rw [Zzx, hi]; rfl
     rw [hk2, Zzx] at h1
     cases en : ys[i]? with
     | none => rw [en] at h1; cases h1
     | some nm =>
     rw [en] at h1
     have ek : q.1 = .inr nm := (Zzn h1).symm
     have hny := hm' nm (Zzw en)
     obtain ⟨l, hv, _, hl, _⟩ := rm.pl.2.2 nm hny
     obtain ⟨l2, e1, _, e2⟩ := rm.kv nm hny
     have hv2 := Ic (k := q.1) (v := q.2) ndk hi
     rw [ek, hv] at hv2
     refine ⟨.ref l2, Q3 (plan nm), Q3 (plan nm), by rw [ek]; exact e1, ?_, K8 e2, Hn _, Hn _, by rw [N7, decide_eq_true rfl]⟩
     rw [<- Zzn hv2]
     exact K8 hl
    have few : ∀ {x : Str} {e : Int} {ms : List Int}, Pj pg x e ms -> ms.length <= 20 := λ{x e ms} tl => Mp 20 (tl.1.imp λh => Int.ne_of_lt h) λi hi => by have := Jb po ((tl.2 i).mp hi); have := g5.wants.1; omega
    refine ⟨_, Ab (j := 0) ha9 rfl, sb, rfl, wv, hb9, ?_⟩
    refine Bw (Fj sb _) (λ_ Z H' => ∃ te, LpI a st p ap kd (.ref sa) S' kvs kc kvA plan pg B Pt H9 te Z H') ⟨_, _, _, _, rfl, rm9, (λ_ _ e => e), st9, tb9⟩ (λi Z H' _ h => by obtain ⟨_, _, _, _, _, _, ku, _⟩ := h; exact ku _ _ hb9) (λi y Z H10 hi hy h => ?_) (λZ H10 h => ?_)
    ·obtain ⟨te0, o7, o8, o9, rfl, rm10, ku10, st10, tb10⟩ := h
     obtain ⟨w', hw', rt⟩ := Bc rws9 hy
     have hwm := Zzw hw'
     have hnm : w'.name ∈ Ag S' := Zzs.mpr ⟨w', hwm, rfl⟩
     obtain ⟨te, d1, d2, rfl, hte, _⟩ := Bg rt
     have hte10 := ku10 _ _ hte
     obtain ⟨l, hv, lst', hl, hlen', hbd⟩ := id (rm10.pl.2.2 w'.name hnm)
     have el : (((plan w'.name).map V.int).length : Int) = (daysN S' : Int) := by rw [Zzz, hlen']
     walk_at "rd"
     refine ⟨_, Ab (j := 0) hte10 rfl, _, Dj (.inl rm10.pl.1) hv, l, rfl, _, .inl hl, ?_⟩
     rw [el]
     refine ⟨by omega, by omega, ?_⟩
     refine Bw (L5 0 _) (λ_ Z H' => LpI a st p ap kd (.ref sa) S' kvs kc kvA plan pg B Pt H9 (some (.ref te)) Z H') ⟨_, _, _, rfl, rm10, ku10, st10, tb10⟩ (λ_ _ _ _ _ => trivial) (λj y Z H11 hj hy h => ?_) (λZ H11 h => ⟨_, h⟩)
     obtain ⟨o7, o8, o9, rfl, rm11, ku11, st11, tb11⟩ := h
     subst hy
     simp only [Zwf, Zwg, Dk]
     refine mk (λZ' H' => Z' = [some (.ref a), some (.ref st), some (.ref sa), some (.ref p), some (.ref ap), some (.ref kd), some (.ref te), some (.int (0 + (j : Int))), o8, o9, none] /\ Rm H' (.ref sa) p ap kd st S' kvs kc kvA plan pg B (Ag S') (Ag S') /\ KeepU H9 H' /\ StOk H' st /\ Tb H' Pt) (λZ' H12 hM => ?_) (λKK hK => ?_)
     ·obtain ⟨rfl, rm12, ku12, st12, tb12⟩ := hM
      walk_at "rd"
      have hte12 := ku12 _ _ hte
      refine ⟨_, Ab (j := 0) hte12 rfl, by decide, λt ht => ?_⟩
      have u13 := A3 (o := .tup [V.str w'.name, V.int (0 + (j : Int))]) ht
      have rm13 := rm12.fr st12 tb12 (Jp u13)
      have st13 := st12.same u13
      have tb13 := tb12.same u13
      have ku13 := ku12.trans u13.ku
      have rp13 : RD (upd H12 t (.tup [V.str w'.name, V.int (0 + (j : Int))])) (Dh (w'.name, 0 + (j : Int))) (.ref t) := RD.tup_mk A0 (RDs.cons RD.str_mk (RDs.one RD.int_mk))
      generalize upd H12 t (.tup [V.str w'.name, V.int (0 + (j : Int))]) = H13 at rm13 st13 tb13 ku13 rp13 ⊢
      refine ⟨ap, .ref t, S', daysN S', pg, (w'.name, 0 + (j : Int)), rfl, rm13.all, rp13, hnm, ⟨by show (0 : Int) <= 0 + (j : Int); omega, by show 0 + (j : Int) <= _; omega⟩, n2, w12, g5.wants.1, g5.txt, po, λq1 ms H14 _ hq1 tl1 s14 => ?_⟩
      have rm14 := rm13.fr st13 tb13 (Jp s14)
      have st14 := st13.same s14
      have tb14 := tb13.same s14
      have ku14 := ku13.trans s14.ku
      rw [<- epg] at po
      refine ⟨_, Ab (j := 0) (ku14 _ _ hte) rfl, .ref sa, p, S', plan, w', Mg S' S'.wares.length, sz, _, rfl, rm14.rs, rm14.pl.at bB, hwm, g5, z0, by omega, ord, po, tb14, λq2 ms2 H15 hq2n hq2 tl2 tb15 bt15 => ?_⟩
      rw [epg] at tl2
      have em := Rw tl2 tl1
      subst em
      have mf := few tl2
      have rm15 := rm14.fr st14 tb14 (Zw bt15)
      have st15 := M1 st14 tb14 bt15
      have ku15 := ku14.trans (Dy tb14 bt15)
      have q2st : q2 ≠ st := Zzf (st14.ne hq2n)
      have hq15 := bt15 _ _ (Dx tb14 hq1 λu z => by cases z) hq1
      refine ⟨_, Dn hq2, ?_⟩
      rw [if_neg (by decide +kernel)]
      refine ⟨_, K8 hq2, _, K8 hq15, Hn _, Hn _, ?_⟩
      rw [N7, decide_eq_true rfl, if_neg (by decide)]
      refine ⟨kvs, .inl rm15.pl.1, kc, .inl rm15.ka, lkc, like H15 rm15, q2, rfl, _, hq2, ?_⟩
      refine Et (Dl q2 _) (Aw (by rw [Zzz]; omega)) (λH' s' => s' _ _ hq2) ((ms2.map λ_ => true).map V.bl) (by rw [Zzz, Zzz, Zzz]) (λj x H' hj hx s' N M hN => ?_) (λH16 s16 q3 hq3 => ?_)
      ·rw [Zzx] at hx
       cases en : ms2[j]? with
       | none => rw [en] at hx; cases hx
       | some nm =>
       rw [en] at hx
       have hx : V.int nm = x := Zzn hx
       subst hx
       walk_at "rd"
       refine ⟨"int", rfl, ?_⟩
       rw [if_pos (by decide +kernel)]
       refine ⟨"int", rfl, ?_⟩
       rw [show (!Bv "int" "bool") = true by decide +kernel]
       refine hN _ _ s' ?_
       rw [Zzx, Zzx, en]
       rfl
      ·refine ⟨q3, rfl, _, A0, ?_⟩
       rw [show (ms2.map λ_ => true).all id = true by rw [List.all_map, Zwz]; intro _ _; rfl]
       rw [if_neg (by decide)]
       have u17 := s16.trans (A3 (o := .lst ((ms2.map λ_ => true).map V.bl)) hq3)
       generalize upd H16 q3 (.lst ((ms2.map λ_ => true).map V.bl)) = H17 at u17 ⊢
       have rm17 := rm15.fr st15 tb15 (Jp u17)
       have hq17 := u17 _ _ hq2
       have rm18 : Rm (upd H17 q2 (.lst (ms2.map V.int ++ [V.int 0]))) (.ref sa) p ap kd st S' kvs kc kvA plan pg B (Ag S') (Ag S') := rm14.fr st14 tb14 (λb o n1 n2 e => by rw [A5 (A6 e hq2n)]; exact u17 _ _ (bt15 b o n2 e))
       exact ⟨Dn hq17, q2, rfl, _, hq17, Zyp (m := 1000) (by rw [Zzz]; omega) (by decide), _, _, _, rfl, rm18, (ku15.trans u17.ku).trans (Ep hq17), (st15.same u17).upd (Zzf q2st), Po (tb15.same u17) hq17⟩
     ·walk_at "rd"
      have ha11 := ku11 _ _ ha9
      have hb11 := ku11 _ _ hb9
      refine ⟨_, Ab (j := 0) ha11 rfl, sb, rfl, wv, .inr hb11, Cr (λ_ => ?_) (λ_ => hK _ _ ⟨rfl, rm11, ku11, st11, tb11⟩)⟩
      obtain ⟨l, hv, lst', hl, hlen', hbd⟩ := id (rm11.pl.2.2 w'.name hnm)
      refine ⟨_, Ab (j := 0) (ku11 _ _ hte) rfl, _, Dj (.inl rm11.pl.1) hv, l, rfl, _, .inl hl, by decide, by decide +kernel, ?_⟩
      rw [el]
      refine ⟨st, _, rfl, st11, by omega, Zy8 (b := 1000) (by omega) (by decide +kernel), λx H12 x0 x1 st12 b12 => ⟨x, rfl, ?_⟩⟩
      have rm12 := rm11.fr st11 tb11 (m7 b12)
      have ku12 := ku11.trans (Cq b12 st11)
      have tb12 := Ie tb11 b12 st11
      exact Cr (λ_ => ⟨_, _, _, rfl, rm12, ku12, st12, tb12⟩) (λ_ => hK _ _ ⟨rfl, rm12, ku12, st12, tb12⟩)
    ·obtain ⟨te0, o7, o8, o9, rfl, rm10, ku10, st10, tb10⟩ := h
     walk_at "rd"
     have ha10 := ku10 _ _ ha9
     have hb10 := ku10 _ _ hb9
     have w1 := g5.len.1
     have h0 : 0 < wv.length := by omega
     have hy0 := Zzr h0
     obtain ⟨w', hw', rt⟩ := Bc rws9 hy0
     have hwm := Zzw hw'
     have hnm : w'.name ∈ Ag S' := Zzs.mpr ⟨w', hwm, rfl⟩
     obtain ⟨te, d1, d2, ete, hte, _⟩ := Bg rt
     rw [ete] at hy0
     have hte10 := ku10 _ _ hte
     refine ⟨_, Ab (j := 0) ha10 rfl, _, Ab (j := 0) hb10 hy0, _, Ab (j := 0) hte10 rfl, ?_⟩
     have po' := po
     rw [<- epg] at po'
     refine ⟨.ref sa, p, S', plan, w', Mg S' S'.wares.length, sz, 0, rfl, rm10.rs, rm10.pl.at bB, hwm, g5, z0, by omega, ord, po', tb10, λq2 ms2 H11 hq2n hq2 tl2 tb11 bt11 => ⟨by decide, λt ht => ?_⟩⟩
     rw [epg] at tl2
     have rm11 := rm10.fr st10 tb10 (Zw bt11)
     have st11 := M1 st10 tb10 bt11
     have u12 := A3 (o := .tup [V.str w'.name, V.int 0]) ht
     have rm12 := rm11.fr st11 tb11 (Jp u12)
     have rp12 : RD (upd H11 t (.tup [V.str w'.name, V.int 0])) (Dh (w'.name, 0)) (.ref t) := RD.tup_mk A0 (RDs.cons RD.str_mk (RDs.one RD.int_mk))
     have hq12 := u12 _ _ hq2
     generalize upd H11 t (.tup [V.str w'.name, V.int 0]) = H12 at rm12 rp12 hq12 ⊢
     refine ⟨ap, .ref t, S', daysN S', pg, (w'.name, 0), rfl, rm12.all, rp12, hnm, ⟨Zz0 _, Int.natCast_nonneg _⟩, n2, w12, g5.wants.1, g5.txt, po, λq1 ms H13 _ hq1 tl1 s13 => ?_⟩
     have em := Rw tl2 tl1
     subst em
     refine ⟨_, K8 (s13 _ _ hq12), _, K8 hq1, Hn _, Hn _, ?_⟩
     rw [N7, decide_eq_true rfl]
     exact k H13
end
abbrev aI (K : Zzv) (x : Str) (f : Addr) : Prop := Zxo K mainGlobals x = some (some (.ref f))
abbrev lI (K : Zzv) (x : Str) (s : Stmt) (f : Addr) (o : Value) (d : Option Addr) (k c p : Value) (n : Option Addr) (v t : Value) (l : Array (Option Value)) : Prop := K.lookup f = some ⟨o, d, .func (Zx4 x x (Gj s) (Ej s) (Ad s) .none k c p n v t), l⟩
abbrev cI (K : Zzv) (v : Value) (x : Str) : Prop := Zvs K v x = true
abbrev kI (K : Zzv) (f : Addr) : Prop := Zwd K (.ref f) = true
abbrev zI (K : Zzv) (x : Str) : Prop := Zxo K mainGlobals x = some none
def Dm (P : Program) (w : World) (base : Heap) (K : Zzv) (mg : Str -> Option Value) : Prop := ∃ h : Heap, K.In h /\ h.Ns mainGlobals mg
theorem C4 {P : Program} {w : World} {K : Zzv} {mg : Str -> Option Value} {base : Heap} {x : Str} {k : Nat} {st : Stmt} {f : Addr} {fd : FuncData} {ps : List Str} {sp : Sp} (D : Dm P w base K mg) (a : aI K x f) (F : Fun K x x st f fd) (o : Bh P w K mg base CX0 k f fd ps sp)
  (h : ∀ (kV doc pm : Value) (an : Option Addr) (cdv ct : Value) (us : List Value), us.length = ps.length -> bindArgs (Zx4 x x (Gj st) (Ej st) (Ad st) .none kV doc pm an cdv ct) ⟨us, []⟩ = pure (ps.zip us)) : Has P w K mg base x k ps sp := by obtain ⟨_, X, G⟩ := D; exact ⟨f, fd, Zy0 X G a, F.2, F.binds h, o⟩
theorem len1 {C : List Value -> Prop} (h : ∀ a : Value, C [a]) : ∀ us : List Value, us.length = 1 -> C us := λus hl => match us, hl with | [_], _ => h _
theorem len2 {C : List Value -> Prop} (h : ∀ a b : Value, C [a, b]) : ∀ us : List Value, us.length = 2 -> C us := λus hl => match us, hl with | [_, _], _ => h _ _
theorem len3 {C : List Value -> Prop} (h : ∀ a b c : Value, C [a, b, c]) : ∀ us : List Value, us.length = 3 -> C us := λus hl => match us, hl with | [_, _, _], _ => h _ _ _
theorem qe {C : List Value -> Prop} (h : ∀ a b c d : Value, C [a, b, c, d]) : ∀ us : List Value, us.length = 4 -> C us := λus hl => match us, hl with | [_, _, _, _], _ => h _ _ _ _
theorem all_mk {l : PySem.W.OpenLaw} {w : World} {K : Zzv} {h : Heap} {mg : Str -> Option Value} {fa : Addr} (X : K.In h) (G : h.Ns mainGlobals mg) (hfa : mg "law" = some (.ref fa))
  {f1 f2 f3 f4 f5 f6 f7 f8 f9 f10 f11 f12 f13 f14 f15 f16 f17 f18 f19 f20 f21 f22 f23 f24 f25 f26 f27 f28 f29 f30 f31 f32 f33 f34 f35 f36 f37 f38 f39 f40 f41 f42 f43 f44 : Addr} {d1 n1 d2 n2 d3 n3 d4 n4 d5 n5 d6 n6 d7 n7 d8 n8 d9 n9 d10 n10 d11 n11 d12 n12 d13 n13 d14 n14 d15 n15 d16 n16 d17 n17 d18 n18 d19 n19 d20 n20 d21 n21 d22 n22 d23 n23 d24 n24 d25 n25 d26 n26 d27 n27 d28 n28 d29 n29 d30 n30 d31 n31 d32 n32 d33 n33 d34 n34 d35 n35 d36 n36 d37 n37 d38 n38 d39 n39 d40 n40 d41 n41 d42 n42 d43 n43 d44 n44 : Option Addr} {s1 s2 s3 s4 s5 s6 s7 s8 s9 s10 s11 s12 s13 s14 s15 s16 s17 s18 s19 s20 s21 s22 s23 s24 s25 s26 s27 s28 s29 s30 s31 s32 s33 s34 s35 s36 s37 s38 s39 s40 s41 s42 s43 s44 : Array (Option Value)} {o1 v1 e1 p1 g1 t1 o2 v2 e2 p2 g2 t2 o3 v3 e3 p3 g3 t3 o4 v4 e4 p4 g4 t4 o5 v5 e5 p5 g5 t5 o6 v6 e6 p6 g6 t6 o7 v7 e7 p7 g7 t7 o8 v8 e8 p8 g8 t8 o9 v9 e9 p9 g9 t9 o10 v10 e10 p10 g10 t10 o11 v11 e11 p11 g11 t11 o12 v12 e12 p12 g12 t12 o13 v13 e13 p13 g13 t13 o14 v14 e14 p14 g14 t14 o15 v15 e15 p15 g15 t15 o16 v16 e16 p16 g16 t16 o17 v17 e17 p17 g17 t17 o18 v18 e18 p18 g18 t18 o19 v19 e19 p19 g19 t19 o20 v20 e20 p20 g20 t20 o21 v21 e21 p21 g21 t21 o22 v22 e22 p22 g22 t22 o23 v23 e23 p23 g23 t23 o24 v24 e24 p24 g24 t24 o25 v25 e25 p25 g25 t25 o26 v26 e26 p26 g26 t26 o27 v27 e27 p27 g27 t27 o28 v28 e28 p28 g28 t28 o29 v29 e29 p29 g29 t29 o30 v30 e30 p30 g30 t30 o31 v31 e31 p31 g31 t31 o32 v32 e32 p32 g32 t32 o33 v33 e33 p33 g33 t33 o34 v34 e34 p34 g34 t34 o35 v35 e35 p35 g35 t35 o36 v36 e36 p36 g36 t36 o37 v37 e37 p37 g37 t37 o38 v38 e38 p38 g38 t38 o39 v39 e39 p39 g39 t39 o40 v40 e40 p40 g40 t40 o41 v41 e41 p41 g41 t41 o42 v42 e42 p42 g42 t42 o43 v43 e43 p43 g43 t43 o44 v44 e44 p44 g44 t44 : Value} {t_COMING : Tok} {t_FLOOR : Tok} {t_GIVES : Tok} {t_LAG : Tok} {t_NAME : Tok} {t_PARTS : Tok} {t_STOCK : Tok} {t_WANT_AMOUNT : Tok} {t_WANT_DAY : Tok} {t_WANT_NAME : Tok} {ct Pt : Addr} {odc : Option Addr} {vsc : Array Value} {slc : Array (Option Value)}
  (a1 : aI K "_law_drawn" f1) (l1 : lI K "_law_drawn" Fd f1 o1 d1 v1 e1 p1 n1 g1 t1 s1) (c1 : cI K g1 "_law_drawn") (k1 : kI K f1)
  (a2 : aI K "part_names" f2) (l2 : lI K "part_names" Ec f2 o2 d2 v2 e2 p2 n2 g2 t2 s2) (c2 : cI K g2 "part_names") (k2 : kI K f2)
  (a3 : aI K "without_ends" f3) (l3 : lI K "without_ends" Dc f3 o3 d3 v3 e3 p3 n3 g3 t3 s3) (c3 : cI K g3 "without_ends") (k3 : kI K f3)
  (a4 : aI K "endless_parts" f4) (l4 : lI K "endless_parts" D5 f4 o4 d4 v4 e4 p4 n4 g4 t4 s4) (c4 : cI K g4 "endless_parts") (k4 : kI K f4)
  (a5 : aI K "ring" f5) (l5 : lI K "ring" Q0 f5 o5 d5 v5 e5 p5 n5 g5 t5 s5) (c5 : cI K g5 "ring") (k5 : kI K f5)
  (a6 : aI K "check_rings" f6) (l6 : lI K "check_rings" Dw f6 o6 d6 v6 e6 p6 n6 g6 t6 s6) (c6 : cI K g6 "check_rings") (k6 : kI K f6)
  (a7 : aI K "names_of" f7) (l7 : lI K "names_of" G4 f7 o7 d7 v7 e7 p7 n7 g7 t7 s7) (c7 : cI K g7 "names_of") (k7 : kI K f7)
  (a8 : aI K "levels" f8) (l8 : lI K "levels" J9 f8 o8 d8 v8 e8 p8 n8 g8 t8 s8) (c8 : cI K g8 "levels") (k8 : kI K f8)
  (a9 : aI K "worked" f9) (l9 : lI K "worked" J5 f9 o9 d9 v9 e9 p9 n9 g9 t9 s9) (c9 : cI K g9 "worked") (k9 : kI K f9)
  (a10 : aI K "ware_of" f10) (l10 : lI K "ware_of" Hj f10 o10 d10 v10 e10 p10 n10 g10 t10 s10) (c10 : cI K g10 "ware_of") (k10 : kI K f10)
  (a11 : aI K "lots_for" f11) (l11 : lI K "lots_for" G5 f11 o11 d11 v11 e11 p11 n11 g11 t11 s11) (c11 : cI K g11 "lots_for") (k11 : kI K f11)
  (a12 : aI K "least_lots" f12) (l12 : lI K "least_lots" Ed f12 o12 d12 v12 e12 p12 n12 g12 t12 s12) (c12 : cI K g12 "least_lots") (k12 : kI K f12)
  (a13 : aI K "count_days" f13) (l13 : lI K "count_days" Eg f13 o13 d13 v13 e13 p13 n13 g13 t13 s13) (c13 : cI K g13 "count_days") (k13 : kI K f13)
  (a14 : aI K "wants_row" f14) (l14 : lI K "wants_row" Ex f14 o14 d14 v14 e14 p14 n14 g14 t14 s14) (c14 : cI K g14 "wants_row") (k14 : kI K f14)
  (a15 : aI K "begun_row" f15) (l15 : lI K "begun_row" Fe f15 o15 d15 v15 e15 p15 n15 g15 t15 s15) (c15 : cI K g15 "begun_row") (k15 : kI K f15)
  (a16 : aI K "needs_row" f16) (l16 : lI K "needs_row" F0 f16 o16 d16 v16 e16 p16 n16 g16 t16 s16) (c16 : cI K g16 "needs_row") (k16 : kI K f16)
  (a17 : aI K "arrivals_row" f17) (l17 : lI K "arrivals_row" Dd f17 o17 d17 v17 e17 p17 n17 g17 t17 s17) (c17 : cI K g17 "arrivals_row") (k17 : kI K f17)
  (a18 : aI K "first_early" f18) (l18 : lI K "first_early" Dv f18 o18 d18 v18 e18 p18 n18 g18 t18 s18) (c18 : cI K g18 "first_early") (k18 : kI K f18)
  (a19 : aI K "planned" f19) (l19 : lI K "planned" Hl f19 o19 d19 v19 e19 p19 n19 g19 t19 s19) (c19 : cI K g19 "planned") (k19 : kI K f19)
  (a20 : aI K "lets_plan" f20) (l20 : lI K "lets_plan" Fa f20 o20 d20 v20 e20 p20 n20 g20 t20 s20) (c20 : cI K g20 "lets_plan") (k20 : kI K f20)
  (a21 : aI K "times" f21) (l21 : lI K "times" Ll f21 o21 d21 v21 e21 p21 n21 g21 t21 s21) (c21 : cI K g21 "times") (k21 : kI K f21)
  (a22 : aI K "put_off" f22) (l22 : lI K "put_off" Hk f22 o22 d22 v22 e22 p22 n22 g22 t22 s22) (c22 : cI K g22 "put_off") (k22 : kI K f22)
  (a23 : aI K "late" f23) (l23 : lI K "late" Q2 f23 o23 d23 v23 e23 p23 n23 g23 t23 s23) (c23 : cI K g23 "late") (k23 : kI K f23)
  (a24 : aI K "_law_kept" f24) (l24 : lI K "_law_kept" G8 f24 o24 d24 v24 e24 p24 n24 g24 t24 s24) (c24 : cI K g24 "_law_kept") (k24 : kI K f24)
  (a25 : aI K "_law_next" f25) (l25 : lI K "_law_next" G7 f25 o25 d25 v25 e25 p25 n25 g25 t25 s25) (c25 : cI K g25 "_law_next") (k25 : kI K f25)
  (a26 : aI K "_law_names" f26) (l26 : lI K "_law_names" Fc f26 o26 d26 v26 e26 p26 n26 g26 t26 s26) (c26 : cI K g26 "_law_names") (k26 : kI K f26)
  (a27 : aI K "_law_amount" f27) (l27 : lI K "_law_amount" Ef f27 o27 d27 v27 e27 p27 n27 g27 t27 s27) (c27 : cI K g27 "_law_amount") (k27 : kI K f27)
  (a28 : aI K "_law_parts" f28) (l28 : lI K "_law_parts" Fb f28 o28 d28 v28 e28 p28 n28 g28 t28 s28) (c28 : cI K g28 "_law_parts") (k28 : kI K f28)
  (a29 : aI K "_law_shop" f29) (l29 : lI K "_law_shop" G6 f29 o29 d29 v29 e29 p29 n29 g29 t29 s29) (c29 : cI K g29 "_law_shop") (k29 : kI K f29)
  (a30 : aI K "so_far" f30) (l30 : lI K "so_far" J6 f30 o30 d30 v30 e30 p30 n30 g30 t30 s30) (c30 : cI K g30 "so_far") (k30 : kI K f30)
  (a31 : aI K "stocks_row" f31) (l31 : lI K "stocks_row" Eb f31 o31 d31 v31 e31 p31 n31 g31 t31 s31) (c31 : cI K g31 "stocks_row") (k31 : kI K f31)
  (a32 : aI K "first_fault" f32) (l32 : lI K "first_fault" Du f32 o32 d32 v32 e32 p32 n32 g32 t32 s32) (c32 : cI K g32 "first_fault") (k32 : kI K f32)
  (a33 : aI K "judged" f33) (l33 : lI K "judged" Ja f33 o33 d33 v33 e33 p33 n33 g33 t33 s33) (c33 : cI K g33 "judged") (k33 : kI K f33)
  (a34 : aI K "_law_with_more" f34) (l34 : lI K "_law_with_more" D4 f34 o34 d34 v34 e34 p34 n34 g34 t34 s34) (c34 : cI K g34 "_law_with_more") (k34 : kI K f34)
  (a35 : aI K "pegged" f35) (l35 : lI K "pegged" J8 f35 o35 d35 v35 e35 p35 n35 g35 t35 s35) (c35 : cI K g35 "pegged") (k35 : kI K f35)
  (a36 : aI K "takers_of" f36) (l36 : lI K "takers_of" Ey f36 o36 d36 v36 e36 p36 n36 g36 t36 s36) (c36 : cI K g36 "takers_of") (k36 : kI K f36)
  (a37 : aI K "without_nothing" f37) (l37 : lI K "without_nothing" Co f37 o37 d37 v37 e37 p37 n37 g37 t37 s37) (c37 : cI K g37 "without_nothing") (k37 : kI K f37)
  (a38 : aI K "needs_by_days" f38) (l38 : lI K "needs_by_days" D3 f38 o38 d38 v38 e38 p38 n38 g38 t38 s38) (c38 : cI K g38 "needs_by_days") (k38 : kI K f38)
  (a39 : aI K "supplies" f39) (l39 : lI K "supplies" G3 f39 o39 d39 v39 e39 p39 n39 g39 t39 s39) (c39 : cI K g39 "supplies") (k39 : kI K f39)
  (a40 : aI K "pegs" f40) (l40 : lI K "pegs" Q1 f40 o40 d40 v40 e40 p40 n40 g40 t40 s40) (c40 : cI K g40 "pegs") (k40 : kI K f40)
  (a41 : aI K "_law_serves" f41) (l41 : lI K "_law_serves" Ee f41 o41 d41 v41 e41 p41 n41 g41 t41 s41) (c41 : cI K g41 "_law_serves") (k41 : kI K f41)
  (a42 : aI K "served_by" f42) (l42 : lI K "served_by" Ez f42 o42 d42 v42 e42 p42 n42 g42 t42 s42) (c42 : cI K g42 "served_by") (k42 : kI K f42)
  (a43 : aI K "serves" f43) (l43 : lI K "serves" J7 f43 o43 d43 v43 e43 p43 n43 g43 t43 s43) (c43 : cI K g43 "serves") (k43 : kI K f43)
  (a44 : aI K "law" f44) (l44 : lI K "law" M3 f44 o44 d44 v44 e44 p44 n44 g44 t44 s44) (c44 : cI K g44 "law") (k44 : kI K f44)
  (z_range : zI K "range")
  (z_len : zI K "len")
  (z_max : zI K "max")
  (z_sorted : zI K "sorted")
  (z_reversed : zI K "reversed")
  (z_zip : zI K "zip")
  (z_min : zI K "min")
  (z_enumerate : zI K "enumerate")
  (z_tuple : zI K "tuple")
  (z_int : zI K "int")
  (z_list : zI K "list")
  (z_isinstance : zI K "isinstance")
  (z_all : zI K "all")
  (z_bool : zI K "bool")
  (Zux : Zxo K mainGlobals "COMING" = some (some (.int 5 t_COMING)))
  (Zuw : Zxo K mainGlobals "FLOOR" = some (some (.int 3 t_FLOOR)))
  (Zuv : Zxo K mainGlobals "GIVES" = some (some (.int 2 t_GIVES)))
  (Zus : Zxo K mainGlobals "LAG" = some (some (.int 1 t_LAG)))
  (Zvj : Zxo K mainGlobals "NAME" = some (some (.int 0 t_NAME)))
  (Zuu : Zxo K mainGlobals "PARTS" = some (some (.int 6 t_PARTS)))
  (Zup : Zxo K mainGlobals "STOCK" = some (some (.int 4 t_STOCK)))
  (Zvg : Zxo K mainGlobals "WANT_AMOUNT" = some (some (.int 2 t_WANT_AMOUNT)))
  (Zvd : Zxo K mainGlobals "WANT_DAY" = some (some (.int 1 t_WANT_DAY)))
  (Zvc : Zxo K mainGlobals "WANT_NAME" = some (some (.int 0 t_WANT_NAME)))
  (tq : g9 = .ref ct) (tl : K.lookup ct = some ⟨.type "code", odc, .fields vsc, slc⟩) (tv : vsc[11]? = some (.ref Pt)) (tw : ao vsc ct Pt = true) (tp : K.lookup Pt = none) :
  ∃ (fd : FuncData) (ct Pt : Addr), (∀ (s : Shared) (v : Value), BindsTo s fd ⟨[v], []⟩ [("_law_script", v)]) /\ PySem.W.tabIn K "worked" = some (ct, Pt) /\ K.lookup Pt = none /\ ∀ base : Heap, K.In base -> base.Ns mainGlobals mg -> Ib mg base -> Bh l.prog w K mg base CX0 11 fa fd ["_law_script"] (Pw K Pt) := by
 have e := hfa.symm.trans (Zy0 X G a44)
 cases e
 have T : Txt mg := ⟨Zyo X G z_range, Zyo X G z_len, Zyo X G z_max, Zyo X G z_sorted, Zyo X G z_reversed, Zyo X G z_zip, Zyo X G z_min, Zyo X G z_enumerate, Zyo X G z_tuple, Zyo X G z_int, Zyo X G z_list, Zyo X G z_isinstance, Zyo X G z_all, Zyo X G z_bool, ⟨_, Zy0 X G Zux⟩, ⟨_, Zy0 X G Zuw⟩, ⟨_, Zy0 X G Zuv⟩, ⟨_, Zy0 X G Zus⟩, ⟨_, Zy0 X G Zvj⟩, ⟨_, Zy0 X G Zuu⟩, ⟨_, Zy0 X G Zup⟩, ⟨_, Zy0 X G Zvg⟩, ⟨_, Zy0 X G Zvd⟩, ⟨_, Zy0 X G Zvc⟩⟩
 refine ⟨Zx4 "law" "law" (Gj M3) (Ej M3) (Ad M3) .none v44 e44 p44 n44 g44 t44, ct, Pt, λs v => .of_eq rfl, Ya a9 l9 tq tl tv, tp, λbase _ _ hB => ?_⟩
 have D : Dm l.prog w base K mg := ⟨_, X, G⟩
 have tb := Ya a9 l9 tq tl tv
 have tc := Xt tl tv tw
 have F1 := As (st := Fd) l1 c1 k1
 have Zug := C4 D a1 F1 (Qk F1 T) λ_ _ _ _ _ _ => len1 λ_ => rfl
 have F2 := As (st := Ec) l2 c2 k2
 have Zvi := C4 D a2 F2 (Nu F2 T) λ_ _ _ _ _ _ => len1 λ_ => rfl
 have F3 := As (st := Dc) l3 c3 k3
 have Zut := C4 D a3 F3 (Lf F3 T) λ_ _ _ _ _ _ => len1 λ_ => rfl
 have F4 := As (st := D5) l4 c4 k4
 have Zv1 := C4 D a4 F4 (Kh F4 T Zvi Zut) λ_ _ _ _ _ _ => len1 λ_ => rfl
 have F5 := As (st := Q0) l5 c5 k5
 have Zu0 := C4 D a5 F5 (fg F5 T Zv1) λ_ _ _ _ _ _ => len1 λ_ => rfl
 have F6 := As (st := Dw) l6 c6 k6
 have Zvl := C4 D a6 F6 (Ml F6 T Zu0) λ_ _ _ _ _ _ => len1 λ_ => rfl
 have F7 := As (st := G4) l7 c7 k7
 have Zv4 := C4 D a7 F7 (Sg F7 T) λ_ _ _ _ _ _ => len1 λ_ => rfl
 have F8 := As (st := J9) l8 c8 k8
 have Zu7 := C4 D a8 F8 (Wx F8 T Zvl Zv4 Zvi) λ_ _ _ _ _ _ => len1 λ_ => rfl
 have F9 := As (st := J5) l9 c9 k9
 have Zvk := C4 D a9 F9 (Ws F9 T Zu7 Zv4 ⟨λ_ _ _ _ e => Te tb a9 e, tc⟩ hB) λ_ _ _ _ _ _ => len1 λ_ => rfl
 have F10 := As (st := Hj) l10 c10 k10
 have Zvm := C4 D a10 F10 (Ua F10 T) λ_ _ _ _ _ _ => len2 λ_ _ => rfl
 have F11 := As (st := G5) l11 c11 k11
 have Zud := C4 D a11 F11 (Si F11 T) λ_ _ _ _ _ _ => len2 λ_ _ => rfl
 have F12 := As (st := Ed) l12 c12 k12
 have Zun := C4 D a12 F12 (Nv F12 T Zud) λ_ _ _ _ _ _ => qe λ_ _ _ _ => rfl
 have F13 := As (st := Eg) l13 c13 k13
 have Zva := C4 D a13 F13 (Ny F13 T) λ_ _ _ _ _ _ => len1 λ_ => rfl
 have F14 := As (st := Ex) l14 c14 k14
 have Zul := C4 D a14 F14 (Qd F14 T Zva) λ_ _ _ _ _ _ => len2 λ_ _ => rfl
 have F15 := As (st := Fe) l15 c15 k15
 have Zv7 := C4 D a15 F15 (Ql F15 T) λ_ _ _ _ _ _ => len2 λ_ _ => rfl
 have F16 := As (st := F0) l16 c16 k16
 have Zv6 := C4 D a16 F16 (Qg F16 T Zul Zv7) λ_ _ _ _ _ _ => len3 λ_ _ _ => rfl
 have F17 := As (st := Dd) l17 c17 k17
 have Zvf := C4 D a17 F17 (Lg F17 T Zva) λ_ _ _ _ _ _ => len2 λ_ _ => rfl
 have F18 := As (st := Dv) l18 c18 k18
 have Zve := C4 D a18 F18 (Mk F18 T) λ_ _ _ _ _ _ => len2 λ_ _ => rfl
 have F19 := As (st := Hl) l19 c19 k19
 have Zv5 := C4 D a19 F19 (Uc F19 T Zvk Zvm Zun Zv6 Zvf Zve) λ_ _ _ _ _ _ => len1 λ_ => rfl
 have F20 := As (st := Fa) l20 c20 k20
 have Zur := C4 D a20 F20 (Qh F20 T Zv5) λ_ _ _ _ _ _ => len1 λ_ => rfl
 have F21 := As (st := Ll) l21 c21 k21
 have Zu1 := C4 D a21 F21 (Z0 F21 T Zvk Zvm Zvi) λ_ _ _ _ _ _ => len1 λ_ => rfl
 have F22 := As (st := Hk) l22 c22 k22
 have Zv2 := C4 D a22 F22 (Ub F22 T Zvl) λ_ _ _ _ _ _ => len2 λ_ _ => rfl
 have F23 := As (st := Q2) l23 c23 k23
 have Ztz := C4 D a23 F23 (fj F23 T Zur Zu1 Zv2) λ_ _ _ _ _ _ => len1 λ_ => rfl
 have F24 := As (st := G8) l24 c24 k24
 have Zub := C4 D a24 F24 (Sl F24 T Zv5 Ztz Zv2) λ_ _ _ _ _ _ => len1 λ_ => rfl
 have F25 := As (st := G7) l25 c25 k25
 have Zvn := C4 D a25 F25 (Sk F25 T) λ_ _ _ _ _ _ => len2 λ_ _ => rfl
 have F26 := As (st := Fc) l26 c26 k26
 have Zuk := C4 D a26 F26 (Qj F26 T Zvn) λ_ _ _ _ _ _ => len2 λ_ _ => rfl
 have F27 := As (st := Ef) l27 c27 k27
 have Zv9 := C4 D a27 F27 (Nx F27 T Zvn) λ_ _ _ _ _ _ => len1 λ_ => rfl
 have F28 := As (st := Fb) l28 c28 k28
 have Zuj := C4 D a28 F28 (Qi F28 T Zvn) λ_ _ _ _ _ _ => len2 λ_ _ => rfl
 have F29 := As (st := G6) l29 c29 k29
 have Zua := C4 D a29 F29 (Sj F29 T Zuk Zvn Zv9 Zuj) λ_ _ _ _ _ _ => len2 λ_ _ => rfl
 have F30 := As (st := J6) l30 c30 k30
 have Zu6 := C4 D a30 F30 (Wu F30 T) λ_ _ _ _ _ _ => len1 λ_ => rfl
 have F31 := As (st := Eb) l31 c31 k31
 have Zum := C4 D a31 F31 (Nt F31 T Zv6 Zvf Zu6) λ_ _ _ _ _ _ => len3 λ_ _ _ => rfl
 have F32 := As (st := Du) l32 c32 k32
 have Zuq := C4 D a32 F32 (Mj F32 T Zve Zum) λ_ _ _ _ _ _ => len3 λ_ _ _ => rfl
 have F33 := As (st := Ja) l33 c33 k33
 have Zu4 := C4 D a33 F33 (Wy F33 T Zvk Zuq Zvm) λ_ _ _ _ _ _ => len2 λ_ _ => rfl
 have F34 := As (st := D4) l34 c34 k34
 have Zuz := C4 D a34 F34 (Kg F34 T Zvn Zu4) λ_ _ _ _ _ _ => len3 λ_ _ _ => rfl
 have F35 := As (st := J8) l35 c35 k35
 have Zu5 := C4 D a35 F35 (Ww F35 T) λ_ _ _ _ _ _ => len2 λ_ _ => rfl
 have F36 := As (st := Ey) l36 c36 k36
 have Zui := C4 D a36 F36 (Qe F36 T Zvk Zvm Zv7) λ_ _ _ _ _ _ => len3 λ_ _ _ => rfl
 have F37 := As (st := Co) l37 c37 k37
 have Zvh := C4 D a37 F37 (Il F37 T) λ_ _ _ _ _ _ => len1 λ_ => rfl
 have F38 := As (st := D3) l38 c38 k38
 have Zv0 := C4 D a38 F38 (Kf F38 T Zui Zvh) λ_ _ _ _ _ _ => len3 λ_ _ _ => rfl
 have F39 := As (st := G3) l39 c39 k39
 have Zuc := C4 D a39 F39 (Sf F39 T Zvh) λ_ _ _ _ _ _ => len2 λ_ _ => rfl
 have F40 := As (st := Q1) l40 c40 k40
 have Zue := C4 D a40 F40 (fh F40 T Zvl Zvm Zu5 Zv0 Zuc) λ_ _ _ _ _ _ => len3 λ_ _ _ => rfl
 have F41 := As (st := Ee) l41 c41 k41
 have Zuy := C4 D a41 F41 (Nw F41 T) λ_ _ _ _ _ _ => len2 λ_ _ => rfl
 have F42 := As (st := Ez) l42 c42 k42
 have Zuh := C4 D a42 F42 (Qf F42 T) λ_ _ _ _ _ _ => len2 λ_ _ => rfl
 have F43 := As (st := J7) l43 c43 k43
 have Zu9 := C4 D a43 F43 (Wv F43 T Zvl Zvm Zvk Zue Zuh) λ_ _ _ _ _ _ => qe λ_ _ _ _ => rfl
 have F44 := As (st := M3) l44 c44 k44
 exact ko F44 T Zug Zub Zua Zvn Zuz Zue Zuy Zu9
theorem walk {l : PySem.W.OpenLaw} {q : Program} {loose : List Str} {XP : (Str -> Option Value) -> Heap -> Prop} {YP : World -> Heap -> Prop} {d dw : DefRec} {K : Params -> Zzv} (hn : l.most = some 63) (hdf : d.params.defaults = [])
  (hY : ∀ (w : World) (h : Heap), YP w h -> (K w.params).In h) (hw : (PyProof.Rows.recsOf q).find? (λe => e.name == ("worked" : Str)) = some dw)
  (F : ∀ (w : World) (mg : Str -> Option Value) (fa : Addr) (h : Heap), (K w.params).In h -> h.Ns mainGlobals mg -> mg d.name = some (.ref fa) ->
   ∃ (fd : FuncData) (ct Pt : Addr), (∀ (s : Shared) (u : Value), BindsTo s fd ⟨[u], []⟩ [("_law_script", u)]) /\ PySem.W.tabIn (K w.params) "worked" = some (ct, Pt) /\ (K w.params).lookup Pt = none /\ ∀ base : Heap, (K w.params).In base -> base.Ns mainGlobals mg -> Ib mg base -> Bh l.prog w (K w.params) mg base CX0 11 fa fd ["_law_script"] (Pw (K w.params) Pt)) :
  PySem.W.WalkO q loose XP YP l.row.toRowW d [] (λf vs => PySem.call f vs) :=
 L2.Y1 (n := 63) (k := 11) (x := "_law_script") (wk := "worked") (sp := λw Pt => Pw (K w.params) Pt) hn (by decide) hdf ⟨rfl, by decide, by decide⟩ hY hw F (λ_ _ a Pt ns hl ht hS => ⟨a, ns, rfl, hS, hl, .inl ht, λ_ => rfl⟩)
end K33
namespace PySem.W.Fast
def tw9848388502302444141:=0
def tw8066703451597354078:=0
def tw14125353827335378730:=0
def tw2814952375140155272:=0
def tw2871975789373737331:=0
def tw10328851435995049095:=0
def tw3125201755953191835:=0
def tw7911445557330748648:=0
def tw13717731967464473828:=0
def tw3973888828271065120:=0
def tw2755802177400343988:=0
def tw11879633322948590136:=0
def tw12366757724176481589:=0
def tw9998594062019179627:=0
def tw11198944274960344553:=0
def tw15804119496694487816:=0
def tw2869810954834937003:=0
def tw7307878034113618063:=0
def tw14157105050792596999:=0
def tw9392822921800846664:=0
def tw17773367156155621698:=0
def tw7682750888727628914:=0
def tw5931229554356785019:=0
def tw16304008429912254863:=0
def tw16109127082604753280:=0
def tw17102667931069172385:=0
def tw11232714752704814630:=0
def tw12615774914199936097:=0
def tw3423965762957881304:=0
def tw17091971260279296735:=0
def tw5505626305474846993:=0
def tw16635434429749464376:=0
def tw972484899058504134:=0
def tw14489052396190830384:=0
def tw18157278048602979734:=0
def tw13783520709761904333:=0
def tw11659371372619323120:=0
def tw8945591325843484720:=0
def tw8088546905806863641:=0
def tw10195715830927202477:=0
def tw2865333617199824800:=0
def tw11375835035600002511:=0
def tw14359237355217798359:=0
def tw15556918794075365746:=0
def tw13035868582284117806:=0
def tw2785067152652999255:=0
def tw15445031776747363762:=0
def tw5108837172766228955:=0
def tw7300233432829095454:=0
def tw11012608850320891707:=0
def tw4525245843290646170:=0
def tw5971737377193342661:=0
def tw8615680879397147460:=0
def tw8412336470339791519:=0
def tw14705953087152175328:=0
def tw12450047957344355521:=0
def tw8294360961287642781:=0
def tw14675771538284461431:=0
def tw7936221104079025261:=0
def tw1184468765553604128:=0
def tw10210950546912583998:=0
def tw6109613578209970136:=0
def tw9126161381591421990:=0
def tw15696669215524117957:=0
def tw308819916080464628:=0
def tw9801870797361021399:=0
def tw5970273262248152295:=0
def tw11074120986045856052:=0
def tw16237339806475419548:=0
def tw572283742371597082:=0
def tw17221346885755178161:=0
def tw561724249849926685:=0
def tw16942069251000172132:=0
def tw7790629170805153116:=0
def tw2546730753757311938:=0
def tw534537940304213055:=0
def tw2983247600488371515:=0
def tw14357609533828466893:=0
def tw6153737686017033938:=0
def tw14745292022614996927:=0
def tw3603167010296551683:=0
def tw5535146774516989174:=0
def tw4149931725122405224:=0
def tw18324398001004599493:=0
def tw4305729825923626797:=0
def tw15252305411895345684:=0
def tw7240617199189564638:=0
def tw6798751178053386954:=0
def tw11828595446041419585:=0
def tw5061603221723660895:=0
def tw3304164997286933436:=0
def tw12354279313049685046:=0
def tw7570368503027040128:=0
def tw7430215956180409544:=0
def tw8083059504119858807:=0
def tw4808908756538337529:=0
def tw18117182215856640950:=0
def tw2346537524458915875:=0
def tw12317469046959973989:=0
def tw14682071607756628607:=0
def tw17713637046592851827:=0
def tw1527763055031750155:=0
def tw10292320043859533998:=0
def tw3280568566747394321:=0
def tw4915389535356073434:=0
def tw12488420962536413633:=0
def tw13353769321883757314:=0
def tw14406243540221270843:=0
def tw10225571863956642099:=0
def tw13934099266604133182:=0
def tw13983136958255330574:=0
def tw12968464630168408437:=0
def tw5682985865449309235:=0
def tw5350063973698727974:=0
def tw16209917070783779695:=0
def tw10861354722202823899:=0
def tw14987545738749441769:=0
def tw6359059751172749993:=0
def tw2078188434341029302:=0
def tw18211992532895696763:=0
def tw2229654150515559988:=0
def tw929418217865328556:=0
def tw1661499987623366761:=0
def tw7888595777255272328:=0
def tw4318911422416272010:=0
def tw11865574955638579331:=0
def tw16859937832614069957:=0
def tw7438805968508139156:=0
def tw3300177047686670409:=0
def tw8623927909976641349:=0
def tw6510522158787181090:=0
def tw5577765604661046550:=0
def tw2099986727677151870:=0
def tw17532701370164239176:=0
def tw4852163257013597600:=0
def tw14556542151065457800:=0
def tw2726693359485953366:=0
def tw10624219053477012142:=0
def tw11105995772780734187:=0
def tw905979288653669713:=0
def tw7246646700157236131:=0
def tw18040972728971358957:=0
def tw68323481222519491:=0
def tw4415770856129419256:=0
def tw6741356279381768837:=0
def tw13921214438878738402:=0
def tw572242103760252390:=0
def tw13404015342861828396:=0
def tw1324592435178840044:=0
def tw11106058478053493127:=0
def tw1632655098890566100:=0
def tw3045746778656762548:=0
def tw16355737074773382320:=0
def tw13599226932921204973:=0
def tw10348481094622509668:=0
def tw16003623543952418061:=0
def tw14500187413355027126:=0
def tw11876591220050723182:=0
def tw7741447091784264582:=0
def tw12993190359364701963:=0
def tw14929656451157702279:=0
def tw14993049080752115863:=0
def tw11285667188974151682:=0
def tw8476560308447421416:=0
def tw9648734655375764036:=0
def tw15526772845394235045:=0
def tw15760635138288742319:=0
def tw8346334522099517677:=0
def tw13515231578437531107:=0
def tw6058769347397173747:=0
def tw472787266180244975:=0
def tw8251399637118098785:=0
def tw9355055076124011006:=0
def tw18020264469982362114:=0
def tw12948128751397526379:=0
def tw11291617160640286082:=0
def tw8220424859027515412:=0
def tw17854434148163943202:=0
def tw9073489427527380488:=0
def tw18270848701756675054:=0
def tw15786840981840344212:=0
def tw1198141489464876672:=0
def tw9965808200109973041:=0
def tw7277848742132460482:=0
def tw767765618239731990:=0
def tw9816982363116462583:=0
def tw11039447963482579794:=0
def tw5851652686764906295:=0
def tw9473852613292838112:=0
def tw3694008128122775958:=0
def tw3101675692387852476:=0
def tw14801120803353841467:=0
def tw5826704523577470017:=0
def tw15494644390959047349:=0
def tw500672623120114347:=0
def tw5735602654716301871:=0
def tw3003318120213970968:=0
def tw7528208488137246986:=0
def tw6964275189963561700:=0
def tw10407165738606841199:=0
def tw2886056546948946966:=0
def tw5791416417901387459:=0
def tw818205487663681183:=0
def tw14317482894163321460:=0
def tw120564443417185046:=0
def tw2050463374308648592:=0
def tw14069934943150282119:=0
def tw2489064354677853652:=0
def tw3334299495092242111:=0
def tw17397110499169195324:=0
def tw2516767426748954132:=0
def tw3340634526691360311:=0
end PySem.W.Fast
open PySem PySem.W PyProof.Rows
set_option maxRecDepth 100000 in
set_option maxHeartbeats 0 in
theorem PySem.Challenge.cw_needplan_k33_serves_walked_holds : PySem.Challenge.rw_needplan_k33_serves_walked.Holds := by
 w_on; o_law; k_head; (case hw => w_witness2)
 k_fill
 refine K33.walk (l := PySem.Challenge.rw_needplan_k33_serves_walked) rfl rfl (λw h Y => PySem.W.km_in_of Y) rfl ?F
 case F =>
  intro w mg fa h KX G hmg
  refine' K33.all_mk KX G hmg ?a1 ?l1 ?c1 ?k1 ?a2 ?l2 ?c2 ?k2 ?a3 ?l3 ?c3 ?k3 ?a4 ?l4 ?c4 ?k4 ?a5 ?l5 ?c5 ?k5 ?a6 ?l6 ?c6 ?k6 ?a7 ?l7 ?c7 ?k7 ?a8 ?l8 ?c8 ?k8 ?a9 ?l9 ?c9 ?k9 ?a10 ?l10 ?c10 ?k10 ?a11 ?l11 ?c11 ?k11 ?a12 ?l12 ?c12 ?k12 ?a13 ?l13 ?c13 ?k13 ?a14 ?l14 ?c14 ?k14 ?a15 ?l15 ?c15 ?k15 ?a16 ?l16 ?c16 ?k16 ?a17 ?l17 ?c17 ?k17 ?a18 ?l18 ?c18 ?k18 ?a19 ?l19 ?c19 ?k19 ?a20 ?l20 ?c20 ?k20 ?a21 ?l21 ?c21 ?k21 ?a22 ?l22 ?c22 ?k22 ?a23 ?l23 ?c23 ?k23 ?a24 ?l24 ?c24 ?k24 ?a25 ?l25 ?c25 ?k25 ?a26 ?l26 ?c26 ?k26 ?a27 ?l27 ?c27 ?k27 ?a28 ?l28 ?c28 ?k28 ?a29 ?l29 ?c29 ?k29 ?a30 ?l30 ?c30 ?k30 ?a31 ?l31 ?c31 ?k31 ?a32 ?l32 ?c32 ?k32 ?a33 ?l33 ?c33 ?k33 ?a34 ?l34 ?c34 ?k34 ?a35 ?l35 ?c35 ?k35 ?a36 ?l36 ?c36 ?k36 ?a37 ?l37 ?c37 ?k37 ?a38 ?l38 ?c38 ?k38 ?a39 ?l39 ?c39 ?k39 ?a40 ?l40 ?c40 ?k40 ?a41 ?l41 ?c41 ?k41 ?a42 ?l42 ?c42 ?k42 ?a43 ?l43 ?c43 ?k43 ?a44 ?l44 ?c44 ?k44 ?z_range ?z_len ?z_max ?z_sorted ?z_reversed ?z_zip ?z_min ?z_enumerate ?z_tuple ?z_int ?z_list ?z_isinstance ?z_all ?z_bool ?Zux ?Zuw ?Zuv ?Zus ?Zvj ?Zuu ?Zup ?Zvg ?Zvd ?Zvc ?tq ?tl ?tv ?tw ?tp
  (case a1 | a2 | a3 | a4 | a5 | a6 | a7 | a8 | a9 | a10 | a11 | a12 | a13 | a14 | a15 | a16 | a17 | a18 | a19 | a20 | a21 | a22 | a23 | a24 | a25 | a26 | a27 | a28 | a29 | a30 | a31 | a32 | a33 | a34 | a35 | a36 | a37 | a38 | a39 | a40 | a41 | a42 | a43 | a44 => delta K33.aI; k_is)
  (case l1 | l2 | l3 | l4 | l5 | l6 | l7 | l8 | l9 | l10 | l11 | l12 | l13 | l14 | l15 | l16 | l17 | l18 | l19 | l20 | l21 | l22 | l23 | l24 | l25 | l26 | l27 | l28 | l29 | l30 | l31 | l32 | l33 | l34 | l35 | l36 | l37 | l38 | l39 | l40 | l41 | l42 | l43 | l44 => delta K33.lI; k_is)
  (case c1 | c2 | c3 | c4 | c5 | c6 | c7 | c8 | c9 | c10 | c11 | c12 | c13 | c14 | c15 | c16 | c17 | c18 | c19 | c20 | c21 | c22 | c23 | c24 | c25 | c26 | c27 | c28 | c29 | c30 | c31 | c32 | c33 | c34 | c35 | c36 | c37 | c38 | c39 | c40 | c41 | c42 | c43 | c44 => delta K33.cI; k_is)
  (case k1 | k2 | k3 | k4 | k5 | k6 | k7 | k8 | k9 | k10 | k11 | k12 | k13 | k14 | k15 | k16 | k17 | k18 | k19 | k20 | k21 | k22 | k23 | k24 | k25 | k26 | k27 | k28 | k29 | k30 | k31 | k32 | k33 | k34 | k35 | k36 | k37 | k38 | k39 | k40 | k41 | k42 | k43 | k44 => delta K33.kI; k_is)
  (case z_range | z_len | z_max | z_sorted | z_reversed | z_zip | z_min | z_enumerate | z_tuple | z_int | z_list | z_isinstance | z_all | z_bool => delta K33.zI; k_is)
  (case Zux | Zuw | Zuv | Zus | Zvj | Zuu | Zup | Zvg | Zvd | Zvc => k_is)
  (case tq => rfl)
  (case tl => k_is)
  (case tv => rfl)
  (case tw => rfl)
  (case tp => rfl)
