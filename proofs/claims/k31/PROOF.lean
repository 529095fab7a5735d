import PyProof.Rows.All
import Wide.All
import OpenK.AllK
import Wide.FinOn
import Lean
import PyProof.EqAt
import PyProof.EqKinds
import PyProof.TupleCall
import PySem.Challenge.RW_needplan_k31_pegs_in_order
open List renaming length_map → Zzz, getElem?_map → Zzx, getElem?_eq_getElem → Zzu, mem_of_getElem? → Zzt, mem_map → Zzr, size_toArray → Zzp, length_append → Zzm, mem_cons → Zzi, getD_eq_getElem?_getD → Zzh, getElem?_eq_some_iff → Zzg, map_append → Zzf, append_nil → Zza, mem_singleton → Zz9, mem_cons_of_mem → Zz6, take_add_one → Zz5, map_cons → Zz3, mem_cons_self → Zz2, take_length → Zz1, not_mem_nil → Zyz, range → Zyy, mem_append → Zyu, mem_append_right → Zyt, length_take → Zyq, getElem?_eq_none → Zyp, append_assoc → Zyo, replicate → Zym, length_singleton → Zyl, flatMap_singleton → Zyh, mem_filter → Zyg, toArray → Zyf, nodup_cons → Zye, range_succ → Zyd, flatMap_append → Zyc, getElem?_append_right → Zyb, getElem?_set_ne → Zy9, lookup_cons → Zy4, replicate_succ → Zy3, length_cons → Zxz, getElem?_append_left → Zxy, length_filter_le → Zxw, mem_iff_getElem? → Zxv, cons_append → Zxt, map → Zxs, pairwise_iff_getElem → Zxr, length_drop → Zxq, filter_append → Zxp, map_congr_left → Zxk, map_nil → Zxj, map_map → Zxi, filter_cons → Zxh, mem_range → Zxg, length_nil → Zxe, ext_getElem? → Zxb, getElem?_set_self → Zx8, length → Zx7, length_set → Zx2, mem_append_left → Zx1, any_cons → Zwx, mem_filterMap → Zww, find?_cons → Zwu, take_zero → Zwr, all_eq_true → Zwp, mem_flatMap → Zwm, filterMap_cons → Zwk, getElem?_take → Zwj, map_set → Zwh, getElem?_cons_zero → Zwe, getElem?_cons_succ → Zwd, reverse_cons → Zwb, flatten_cons → Zwa, map_take → Zw7, getElem_mem → Zw6, take_append_drop → Zw5, nil_append → Zw3, mem_iff_getElem → Zw2, length_reverse → Zw0, length_pos_iff → Zvy, getElem?_range → Zvx, replicate_zero → Zvv, getD_cons_zero → Zvu, getD_cons_succ → Zvt, set_cons_zero → Zvo, set_cons_succ → Zvn, map_drop → Zvm
open PySem.Heap renaming get?_push_of_some → Zzy, get?_push_size → Zzj, lt_size → Zze, size_push → Zy6, SameBut → Zy5, get?_update_other → Zy0, get?_update_self → Zx3
open Or renaming inl → Zzw
open PySem.W renaming Frag → Zzv, nsIn → Zzq, mg_of → Zzn, keepIn → Zzl, codeIn → Zzk, fnOf → Zzd, mg_none_of → Zyj, kia_one → Zxu, emptyDict → Zxm, instObj → Zx4, findIn → Zvs
open Nat renaming le_refl → Zzs, lt_of_lt_of_le → Zz4, le_trans → Zyw, ne_of_lt → Zys, zero_le → Zyr, lt_of_le_of_lt → Zyk, ne_of_gt → Zxf, lt_succ_of_lt → Zxc, lt_irrefl → Zxa, le_of_eq → Zx0, le_add_right → Zwy, min_le_left → Zwt, lt_succ_self → Zwq, succ_ne_self → Zwo, add_sub_cancel' → Zvw
open Option.some renaming inj → Zzo, injEq → Zwc
open Ne renaming symm → Zzc
open PySem.F renaming plainAttrs_list → Zzb, slot_list_append → Zz8, type_list_append → Zz7
open Bool renaming false_ne_true → Zz0, and_eq_true → Zya, and_true → Zxo, and_eq_true_iff → Zxd, eq_iff_iff → Zw4
open Int renaming le_refl → Zyx, lt_of_le_of_lt → Zy7, le_trans → Zy1, add_zero → Zx6, mul_le_mul_of_nonneg_left → Zws, le_of_lt → Zwg, zero_add → Zwf, mul_nonneg → Zvr, emod_lt_of_pos → Zvp
open PySem.NameKind renaming free → Zyv, cell → Zwl
open Array renaming getD_eq_getD_getElem? → Zyn, getElem?_eq_getElem → Zy8, getElem?_eq_none → Zw8, length_toList → Zw1, append_assoc → Zvq
open PySem.Builtin.SmallTypes renaming nextOf → Zyi, ownedTupleIsFree → Zxn, ownedTupleHandOut → Zwi
open PyProof.Rows renaming callWith_type1 → Zy2
open Sum renaming inr → Zxx
open PySem renaming mem_of_lookup → Zxl
open Sum.inr renaming inj → Zx9
open PySem.Builtin.Builtins renaming bindParams → Zx5
open PySem.Builtin.List renaming listTooLong → Zwz
open Option renaming map_some → Zwv
open PySem.Around renaming under_plainId → Zwn
open PySem.Calls renaming callWith_builtin → Zw9
open PySem.Heap.SameBut renaming update → Zvz
set_option maxRecDepth 100000
set_option maxHeartbeats 4000000
set_option Elab.async false
set_option linter.all false
namespace L2
open PySem PySem.Spec PyProof.Rows
abbrev Key := Sum Int Str
def Pa : Key -> Value -> Bool
 | .inl k, v => Value.isInt k v
 | .inr x, v => Value.isStrOf x v
def keyH (w : World) : Key -> Int
 | .inl k => hashInt k
 | .inr x => hashStr w x
theorem Bv : ∀ {k : Key} {v : Value}, Pa k v = true -> (∃ i t, k = Sum.inl i /\ v = Value.int i t) \/ (∃ x t, k = Zxx x /\ v = Value.str x t)
 | .inl i, v, h => by
  obtain ⟨t, e⟩ := Value.isInt_shape (k := i) (v := v) h
  exact .inl ⟨i, t, rfl, e⟩
 | .inr x, v, h => by
  obtain ⟨t, e⟩ := Value.isStrOf_shape (x := x) (v := v) h
  exact .inr ⟨x, t, rfl, e⟩
theorem Xd (i : Int) (t : Tok) : Pa (.inl i) (.int i t) = true := by simp [Pa, Value.isInt]
theorem Xc (x : Str) (t : Tok) : Pa (.inr x) (.str x t) = true := by simp [Pa, Value.isStrOf]
theorem j4 (a b : Int) : decide ((Sum.inl a : Key) = Sum.inl b) = (a == b) := by
 by_cases e : a = b
 ·subst e; simp
 ·have h : ¬ (Sum.inl a : Key) = Sum.inl b := fun q => e (Sum.inl.inj q)
  rw [decide_eq_false h]
  exact (beq_eq_false_iff_ne.mpr e).symm
theorem j1 (a b : Str) : decide ((Zxx a : Key) = Zxx b) = decide (a = b) := by
 by_cases e : a = b
 ·subst e; simp
 ·have h : ¬ (Zxx a : Key) = Zxx b := fun q => e (Zx9 q)
  rw [decide_eq_false h, decide_eq_false e]
theorem j3 (a : Int) (b : Str) : decide ((Sum.inl a : Key) = Zxx b) = false := decide_eq_false (fun q => nomatch q)
theorem j2 (a : Str) (b : Int) : decide ((Zxx a : Key) = Sum.inl b) = false := decide_eq_false (fun q => nomatch q)
def Be (prog : Program) (w : World) : PySem.KeyKind prog w Key where
 is := Pa
 hash := keyH w
 inj := fun v a b ha hb => by
  rcases Bv ha with ⟨i, t, rfl, rfl⟩ | ⟨x, t, rfl, rfl⟩
  ·rcases Bv hb with ⟨j, u, rfl, e⟩ | ⟨y, u, rfl, e⟩
   ·injection e with e1 _; rw [e1]
   ·exact nomatch e
  ·rcases Bv hb with ⟨j, u, rfl, e⟩ | ⟨y, u, rfl, e⟩
   ·exact nomatch e
   ·injection e with e1 _; rw [e1]
 byValue := fun k v h => by
  rcases Bv h with ⟨i, t, rfl, rfl⟩ | ⟨x, t, rfl, rfl⟩ <;> rfl
 pyHash := fun hv h => by
  rcases Bv hv with ⟨i, t, rfl, rfl⟩ | ⟨x, t, rfl, rfl⟩
  ·exact wpAny_pyHash_int h
  ·exact wpAny_pyHash_str h
 eqBool := fun hu hv h => by
  rcases Bv hu with ⟨i, t, rfl, rfl⟩ | ⟨x, t, rfl, rfl⟩
  ·rcases Bv hv with ⟨j, u, rfl, rfl⟩ | ⟨y, u, rfl, rfl⟩
   ·rw [j4] at h; exact wpAny_eqBool_int h
   ·rw [j3] at h; exact SeqAt.EqAt.int_str i t y u _ _ _ _ h
  ·rcases Bv hv with ⟨j, u, rfl, rfl⟩ | ⟨y, u, rfl, rfl⟩
   ·rw [j2] at h; exact SeqAt.EqAt.str_int x t j u _ _ _ _ h
   ·rw [j1] at h; exact wpAny_eqBool_str h
 «strs» := fun k x t v h => by
  rcases Bv h with ⟨i, u, rfl, e⟩ | ⟨y, u, rfl, e⟩
  ·exact nomatch e
  ·injection e with e1 _
   subst e1
   cases v <;> rfl
theorem Sk (prog : Program) (w : World) (i : Int) (t : Tok) : (Be prog w).is (.inl i) (.int i t) = true := Xd i t
theorem Sj (prog : Program) (w : World) (x : Str) (t : Tok) : (Be prog w).is (.inr x) (.str x t) = true := Xc x t
inductive V where
 | non | bl (b : Bool) | int (i : Int) | str (x : Str) | byt (b : Array UInt8) | flt (b : UInt64) | ref (a : Addr) | ty (n : String)
 deriving DecidableEq
def RelV : V -> Value -> Prop
 | .non, u => u = Value.none
 | .bl b, u => u = Value.bool b
 | .int i, u => ∃ t, u = Value.int i t
 | .str x, u => ∃ t, u = Value.str x t
 | .byt b, u => ∃ t, u = Value.bytes b t
 | .flt b, u => ∃ t, u = Value.float b t
 | .ref a, u => u = Value.ref a
 | .ty n, u => u = Value.type n
abbrev Vals : List V -> List Value -> Prop := Paired RelV
theorem Vals.length {xs : List V} {us : List Value} (r : Vals xs us) : xs.length = us.length := Paired.length r
theorem Vals.get : ∀ {xs : List V} {us : List Value} {i : Nat} {x : V}, Vals xs us -> xs[i]? = some x -> ∃ u, us[i]? = some u /\ RelV x u
 | _, _, _, _, .nil, e => by simp at e
 | _, _, 0, _, .cons r _, e => by simp at e; subst e; exact ⟨_, rfl, r⟩
 | _, _, i + 1, x, .cons _ t, e => by
  obtain ⟨u, h1, h2⟩ := Vals.get (i := i) (x := x) t (by simpa using e)
  exact ⟨u, by simpa using h1, h2⟩
theorem Vals.set {x : V} {u : Value} (r : RelV x u) : ∀ {xs : List V} {us : List Value} (i : Nat), Vals xs us -> Vals (xs.set i x) (us.set i u)
 | _, _, _, .nil => .nil
 | _, _, 0, .cons _ t => .cons r t
 | _, _, i + 1, .cons q t => .cons q (Vals.set r i t)
theorem Vals.append : ∀ {xs ys : List V} {us ws : List Value}, Vals xs us -> Vals ys ws -> Vals (xs ++ ys) (us ++ ws)
 | _, _, _, _, .nil, s => s
 | _, _, _, _, .cons r t, s => .cons r (Vals.append t s)
theorem Vals.take : ∀ {xs : List V} {us : List Value} (n : Nat), Vals xs us -> Vals (xs.take n) (us.take n)
 | _, _, 0, _ => .nil
 | _, _, _ + 1, .nil => .nil
 | _, _, n + 1, .cons r t => .cons r (Vals.take n t)
theorem Vals.drop : ∀ {xs : List V} {us : List Value} (n : Nat), Vals xs us -> Vals (xs.drop n) (us.drop n)
 | _, _, 0, r => r
 | _, _, _ + 1, .nil => .nil
 | _, _, n + 1, .cons _ t => Vals.drop n t
def RelO : Option V -> Option Value -> Prop
 | some v, some u => RelV v u
 | none, none => True
 | _, _ => False
def KV {κ : Type} : List (κ × V) -> List (κ × Value) -> Prop := Paired fun (p : κ × V) (q : κ × Value) => p.1 = q.1 /\ RelV p.2 q.2
def kV : Key -> V
 | .inl i => .int i
 | .inr x => .str x
inductive HO where
 | lst (xs : List V)
 | tup (xs : List V)
 | dK (kvs : List (Key × V)) | dT (kvs : List (List Key × V))
 | set (S : Int -> Bool) (n : Nat)
 | ins (C dx : Addr) (fs : List (Str × V))
 | own (x : Addr)
 | xd (fs : List (Str × V))
 | met (f x : Addr)
 | rng (lo hi : Int)
 | frz (o : Obj) (u : HO)
 | tbl (ps : Array Value)
 | ext (φ : Heap -> Prop)
abbrev Hp := Addr -> Option HO
def upd (H : Hp) (a : Addr) (o : HO) : Hp := fun b => if b = a then some o else H b
theorem A1 {H : Hp} {a : Addr} {o : HO} : upd H a o a = some o := by unfold upd; rw [if_pos rfl]
theorem A8 {H : Hp} {a b : Addr} {o : HO} (h : b ≠ a) : upd H a o b = H b := by unfold upd; rw [if_neg h]
theorem M6 {H : Hp} {a b : Addr} {o u : HO} (h : H a = some o) (h' : H b = some u) (d : o ≠ u) : a ≠ b := by
 intro e; subst e; rw [h] at h'; exact d (Zzo h')
theorem A9 {H : Hp} {a b : Addr} {o : HO} (h : H a = some o) (h' : H b = none) : a ≠ b := by
 intro e; subst e; rw [h] at h'; cases h'
section
variable (P : Program) (w : World)
def ObjOk (H : Hp) (h : Heap) (a : Addr) : HO -> Prop
 | .lst xs => xs.length <= sizeLine /\ ∃ (its : List Value) (n : Nat), Vals xs its /\ h.get? a = some { cls := .type "list", data := .seq its.toArray n }
 | .tup xs => xs.length <= sizeLine /\ ∃ its : List Value, Vals xs its /\ IsTup h a its.toArray
 | .dK kvs => kvs.length <= sizeLine /\ (a == sysModules) = false /\ ∃ vs, KV kvs vs /\ h.DictOf (Be P w) a vs
 | .dT kvs => kvs.length <= sizeLine /\ (a == sysModules) = false /\ ∃ xs : List (List Key × Addr × Value),
   Paired (fun (p : List Key × V) (q : List Key × Addr × Value) => p.1 = q.1 /\ H q.2.1 = some (.tup (p.1.map kV)) /\ RelV p.2 q.2.2) kvs xs /\
   ∃ o es ep, h.get? a = some o /\ o.ExactDict /\ o.data = .dict es ep /\ es.toList = xs.map (entryOfKey (tupleKind (Be P w))) /\ (xs.map (·.1)).Nodup
 | .set S n => h.SetOf (intKind P w) a S n
 | .ins C dx fs => H dx = some (.own a) /\ fs.length <= 1000 /\ dx ≠ a /\ h.get? a = some (Zx4 C dx) /\
   ∃ mA, h.Ns1 dx mA /\ (∀ f, RelO (fs.lookup f) (mA f)) /\ PySem.Within mA (fs.map (·.1))
 | .own _ => ∃ o, h.get? a = some o
 | .xd fs => ∃ mA, h.Ns1 a mA /\ ∀ f, RelO (fs.lookup f) (mA f)
 | .rng lo hi => ∃ t u v, h.get? a = some { cls := .type "range", data := .fields #[.int lo t, .int hi u, .int 1 v] }
 | .frz o u => h.get? a = some o /\ ObjOk H h a u
 | .tbl ps => h.get? a = some { cls := .none, data := .fields ps }
 | .met f x => h.get? a = some (PySem.W.methodObj (.ref f) (.ref x))
 | .ext φ => φ h /\ (∃ o, h.get? a = some o) /\ ∀ h1 h2 : Heap, φ h1 -> (∀ o, h1.get? a = some o -> h2.get? a = some o) -> φ h2
def HOk (H : Hp) (h : Heap) : Prop := ∀ a o, H a = some o -> ObjOk P w H h a o
end
section
variable {P : Program} {w : World} {H H' : Hp} {h h' : Heap} {a : Addr} {o : HO}
theorem ObjOk.lt (x : ObjOk P w H h a o) : a < h.objs.size := by
 cases o with
 | lst xs => obtain ⟨_, _, _, _, e⟩ := x; exact Zze e
 | tup xs => obtain ⟨_, _, _, p⟩ := x; exact p.lt
 | dK kvs => obtain ⟨_, _, _, _, o, _, _, e, _⟩ := x; exact Zze e
 | dT kvs => obtain ⟨_, _, _, _, o, _, _, e, _⟩ := x; exact Zze e
 | set S n => obtain ⟨o, _, _, _, e, _⟩ := x; exact Zze e
 | ins C dx fs => obtain ⟨_, _, _, e, _⟩ := x; exact Zze e
 | own y => obtain ⟨_, e⟩ := x; exact Zze e
 | xd fs => obtain ⟨_, ⟨_, _, _, e, _⟩, _⟩ := x; exact Zze e
 | rng lo hi => obtain ⟨_, _, _, e⟩ := x; exact Zze e
 | frz ob u => obtain ⟨e, _⟩ := x; exact Zze e
 | tbl ps => exact Zze (show h.get? a = some _ from x)
 | met f y => exact Zze (show h.get? a = some _ from x)
 | ext φ => obtain ⟨_, ⟨_, e⟩, _⟩ := x; exact Zze e
theorem Paired.mapP {α β : Type} {F G : α -> β -> Prop} : ∀ {l₁ : List α} {l₂ : List β}, Paired F l₁ l₂ -> (∀ a b, F a b -> G a b) -> Paired G l₁ l₂
 | _, _, .nil, _ => .nil
 | _, _, .cons r t, f => .cons (f _ _ r) (Paired.mapP t f)
theorem ObjOk.stay (x : ObjOk P w H h a o) (k : ∀ b u, (b = a \/ H b = some (.own a)) -> h.get? b = some u -> h'.get? b = some u)
  (ho : ∀ b, H b = some (.own a) -> H' b = some (.own a)) (ht : ∀ b xs, H b = some (.tup xs) -> H' b = some (.tup xs)) : ObjOk P w H' h' a o := by
 induction o with
 | lst xs => obtain ⟨z, its, n, r, e⟩ := x; exact ⟨z, its, n, r, k _ _ (.inl rfl) e⟩
 | tup xs => obtain ⟨z, its, r, ob, e, c⟩ := x; exact ⟨z, its, r, ob, k _ _ (.inl rfl) e, c⟩
 | dK kvs => obtain ⟨z, y, vs, r, ob, es, ep, e, c⟩ := x; exact ⟨z, y, vs, r, ob, es, ep, k _ _ (.inl rfl) e, c⟩
 | dT kvs =>
  obtain ⟨z, y, xs, r, ob, es, ep, e, c⟩ := x
  exact ⟨z, y, xs, Paired.mapP r fun p q z => ⟨z.1, ht _ _ z.2.1, z.2.2⟩, ob, es, ep, k _ _ (.inl rfl) e, c⟩
 | set S n => obtain ⟨ob, es, ep, t, e, c⟩ := x; exact ⟨ob, es, ep, t, k _ _ (.inl rfl) e, c⟩
 | ins C dx fs =>
  obtain ⟨d, z, ne, e, mA, ⟨od, es, ep, e2, c⟩, r⟩ := x
  exact ⟨ho _ d, z, ne, k _ _ (.inl rfl) e, mA, ⟨od, es, ep, k _ _ (.inr d) e2, c⟩, r⟩
 | own y => obtain ⟨ob, e⟩ := x; exact ⟨ob, k _ _ (.inl rfl) e⟩
 | xd fs => obtain ⟨mA, ⟨od, es, ep, e, c⟩, r⟩ := x; exact ⟨mA, ⟨od, es, ep, k _ _ (.inl rfl) e, c⟩, r⟩
 | rng lo hi => obtain ⟨t, u, v, e⟩ := x; exact ⟨t, u, v, k _ _ (.inl rfl) e⟩
 | frz ob u ih => obtain ⟨e, q⟩ := x; exact ⟨k _ _ (.inl rfl) e, ih q⟩
 | tbl ps =>
  have e : h.get? a = some { cls := .none, data := .fields ps } := x
  show h'.get? a = some { cls := .none, data := .fields ps }
  exact k a _ (.inl rfl) e
 | met f y =>
  have e : h.get? a = some (PySem.W.methodObj (.ref f) (.ref y)) := x
  show h'.get? a = some (PySem.W.methodObj (.ref f) (.ref y))
  exact k a _ (.inl rfl) e
 | ext φ => obtain ⟨p, ⟨o, e⟩, st⟩ := x; exact ⟨st _ _ p fun o q => k _ _ (.inl rfl) q, ⟨o, k _ _ (.inl rfl) e⟩, st⟩
theorem HOk.lt (x : HOk P w H h) (e : H a = some o) : a < h.objs.size := (x a o e).lt
theorem HOk.fresh (x : HOk P w H h) (e : h.objs.size <= a) : H a = none := by
 cases q : H a with
 | none => rfl
 | some u => exact absurd (Zz4 (x.lt q) e) (Zxa _)
theorem HOk.kept (x : HOk P w H h) (k : ∀ b u, h.get? b = some u -> h'.get? b = some u) : HOk P w H h' := fun a o e =>
 (x a o e).stay (fun b u _ q => k b u q) (fun _ q => q) fun _ _ q => q
theorem HOk.laid (x : HOk P w H h) (k : ∀ b u, h.get? b = some u -> h'.get? b = some u) (hp : h.objs.size <= a) (new : ObjOk P w (upd H a o) h' a o) : HOk P w (upd H a o) h' := fun b u e => by
 have hn := x.fresh hp
 by_cases hb : b = a
 ·subst hb; rw [A1] at e; cases e; exact new
 ·rw [A8 hb] at e
  exact (x b u e).stay (fun c v _ q => k c v q) (fun c q => by rw [A8 (A9 q hn)]; exact q) fun c xs q => by rw [A8 (A9 q hn)]; exact q
end
def Rd (H : Hp) (a : Addr) (u : HO) : Prop := H a = some u \/ ∃ o, H a = some (.frz o u)
theorem Rd.of {H : Hp} {a : Addr} {u : HO} (h : H a = some u) : Rd H a u := .inl h
theorem Rd.ok {P : Program} {w : World} {H : Hp} {h : Heap} {a : Addr} {u : HO} (r : Rd H a u) (x : HOk P w H h) : ObjOk P w H h a u := by
 rcases r with r | ⟨o, r⟩
 ·exact x a u r
 ·obtain ⟨_, q⟩ := x a _ r
  exact q
def Mut : Option HO -> Prop
 | some (.lst _) => True
 | some (.dK _) => True
 | some (.dT _) => True
 | some (.set _ _) => True
 | some (.ins _ _ _) => True
 | some (.ext _) => True
 | _ => False
section
variable {P : Program} {w : World} {H : Hp} {h h' : Heap} {x e : Addr} {o' : HO}
theorem HOk.write (ok : HOk P w H h) (mu : Mut (H x)) (he : e = x \/ H e = some (.own x)) (k : ∀ b u, b ≠ e -> h.get? b = some u -> h'.get? b = some u) (heo : ∃ u, h'.get? e = some u)
  (new : ObjOk P w (upd H x o') h' x o') : HOk P w (upd H x o') h' := fun b u q => by
 have nown : ∀ c y, H c = some (.own y) -> c ≠ x := fun c y r z => by subst z; rw [r] at mu; exact mu
 have ntup : ∀ c xs, H c = some (.tup xs) -> c ≠ x := fun c xs r z => by subst z; rw [r] at mu; exact mu
 by_cases hb : b = x
 ·subst hb; rw [A1] at q; cases q; exact new
 ·rw [A8 hb] at q
  by_cases hbe : b = e
  ·have q' : H b = some (.own x) := by
    rcases he with z | z
    ·exact absurd (hbe.trans z) hb
    ·rw [hbe]; exact z
   rw [q] at q'; cases q'
   obtain ⟨v, hv⟩ := heo
   exact ⟨v, by rw [hbe]; exact hv⟩
  ·refine (ok b u q).stay (fun c v hc r => k c v ?_ r) (fun c r => by rw [A8 (nown c b r)]; exact r) fun c xs r => by rw [A8 (ntup c xs r)]; exact r
   rcases hc with rfl | hc
   ·exact hbe
   ·rintro rfl
    rcases he with z | z
    ·exact nown c b hc z
    ·rw [hc] at z; cases z; exact hb rfl
end
structure Un (fs ex : List Addr) (H H' : Hp) (h h' : Heap) : Prop where
 keep : ∀ b o, h.get? b = some o -> H b = none -> b ∉ fs -> b ∉ ex -> h'.get? b = some o
 slot : ∀ b o, h.get? b = some o -> H b = none -> b ∈ fs -> b ∉ ex -> ∃ sl, h'.get? b = some { o with slots := sl }
 free : ∀ b o, h.get? b = some o -> H b = none -> b ∉ ex -> H' b = none
 there : ∀ b o, h.get? b = some o -> b ∉ ex -> ∃ o', h'.get? b = some o'
 tups : ∀ b xs, H b = some (.tup xs) -> H' b = some (.tup xs)
 frzs : ∀ b o u, H b = some (.frz o u) -> H' b = some (.frz o u)
 tbls : ∀ b ps, H b = some (.tbl ps) -> ∃ more, H' b = some (.tbl (ps ++ more))
section
variable {fs fs' ex ex' : List Addr} {H H1 H2 : Hp} {h h1 h2 h' : Heap} {a x e : Addr} {o : HO}
theorem Un.any (u : Un fs ex H H1 h h1) {b : Addr} {ob : Obj} (q : h.get? b = some ob) (n : H b = none) (hx : b ∉ ex) : ∃ sl, h1.get? b = some { ob with slots := sl } := by
 by_cases hb : b ∈ fs
 ·exact u.slot b ob q n hb hx
 ·exact ⟨ob.slots, u.keep b ob q n hb hx⟩
theorem Un.trans (a : Un fs ex H H1 h h1) (b : Un fs ex H1 H2 h1 h2) : Un fs ex H H2 h h2 where
 keep := fun c ob q n hc hx => b.keep c ob (a.keep c ob q n hc hx) (a.free c ob q n hx) hc hx
 slot := fun c ob q n hc hx => by
  obtain ⟨sl, e1⟩ := a.slot c ob q n hc hx
  obtain ⟨sl', e2⟩ := b.slot c _ e1 (a.free c ob q n hx) hc hx
  exact ⟨sl', e2⟩
 free := fun c ob q n hx => by
  obtain ⟨o', e1⟩ := a.there c ob q hx
  exact b.free c o' e1 (a.free c ob q n hx) hx
 there := fun c ob q hx => by
  obtain ⟨o', e1⟩ := a.there c ob q hx
  exact b.there c o' e1 hx
 tups := fun c xs q => b.tups c xs (a.tups c xs q)
 frzs := fun c ob xs q => b.frzs c ob xs (a.frzs c ob xs q)
 tbls := fun c ps q => by
  obtain ⟨m1, e1⟩ := a.tbls c ps q
  obtain ⟨m2, e2⟩ := b.tbls c _ e1
  exact ⟨m1 ++ m2, by rw [e2, Zvq]⟩
theorem Un.kept (k : ∀ b u, h.get? b = some u -> h'.get? b = some u) : Un fs ex H H h h' :=
 ⟨fun b ob q _ _ _ => k b ob q, fun b ob q _ _ _ => ⟨ob.slots, k b ob q⟩, fun _ _ _ n _ => n, fun b ob q _ => ⟨ob, k b ob q⟩, fun _ _ q => q, fun _ _ _ q => q, fun _ ps q => ⟨#[], by rw [q]; simp⟩⟩
theorem Un.refl : Un fs ex H H h h := Un.kept fun _ _ q => q
theorem Un.laid (k : ∀ b u, h.get? b = some u -> h'.get? b = some u) (hp : h.objs.size <= a) (hn : H a = none) : Un fs ex H (upd H a o) h h' where
 keep := fun b u q _ _ _ => k b u q
 slot := fun b u q _ _ _ => ⟨u.slots, k b u q⟩
 free := fun b u q n _ => by rw [A8 (Zys (Zz4 (Zze q) hp))]; exact n
 there := fun b u q _ => ⟨u, k b u q⟩
 tups := fun b xs q => by rw [A8 (A9 q hn)]; exact q
 frzs := fun b u xs q => by rw [A8 (A9 q hn)]; exact q
 tbls := fun b ps q => ⟨#[], by rw [A8 (A9 q hn), q]; simp⟩
theorem Un.write (mu : Mut (H x)) (he : e = x \/ H e = some (.own x)) (k : ∀ b u, b ≠ e -> h.get? b = some u -> h'.get? b = some u) (heo : ∃ u, h'.get? e = some u) : Un fs ex H (upd H x o) h h' := by
 have hx : ∀ b, H b = none -> b ≠ x := fun b n z => by subst z; rw [n] at mu; exact mu
 have hb : ∀ b, H b = none -> b ≠ e := fun b n z => by
  subst z
  rcases he with r | r
  ·exact hx b n r
  ·rw [n] at r; cases r
 have hm : ∀ b u, H b = some u -> ¬ Mut (some u) -> b ≠ x := fun b u q nm z => by subst z; rw [q] at mu; exact nm mu
 refine ⟨fun b u q n _ _ => k b u (hb b n) q, fun b u q n _ _ => ⟨u.slots, k b u (hb b n) q⟩, fun b u q n _ => by rw [A8 (hx b n)]; exact n, fun b u q _ => ?_,
  fun b xs q => by rw [A8 (hm b _ q fun z => z)]; exact q, fun b u xs q => by rw [A8 (hm b _ q fun z => z)]; exact q, fun b ps q => ⟨#[], by rw [A8 (hm b _ q fun z => z), q]; simp⟩⟩
 by_cases hbe : b = e
 ·subst hbe; exact heo
 ·exact ⟨u, k b u hbe q⟩
theorem Un.mono (u : Un fs ex H H1 h h1) (hs : ∀ b ∈ fs, b ∈ fs') (hx : ∀ b ∈ ex, b ∈ ex') : Un fs' ex' H H1 h h1 :=
 ⟨fun b ob q n hb he => u.keep b ob q n (fun z => hb (hs b z)) fun z => he (hx b z), fun _ _ q n _ he => u.any q n fun z => he (hx _ z), fun b ob q n he => u.free b ob q n fun z => he (hx b z), fun b ob q he => u.there b ob q fun z => he (hx b z), u.tups, u.frzs, u.tbls⟩
end
def trk (h : Heap) (H : Hp) : List Addr := (Zyy h.objs.size).filter fun a => (H a).isSome
def Oq (h : Heap) (H : Hp) : Heap := PySem.W.hideAll h (trk h H)
theorem Xj (h : Heap) (H : Hp) : (Oq h H).objs.size = h.objs.size := PySem.W.hideAll_size _ _
theorem Zo {h : Heap} {H : Hp} {b : Addr} {o : Obj} (e : h.get? b = some o) (n : H b = none) : (Oq h H).get? b = some o :=
 PySem.W.hideAll_get _ e fun hm => by
  have q : (H b).isSome = true := (Zyg.mp hm).2
  rw [n] at q; simp at q
theorem d9 {h : Heap} {H : Hp} {b : Addr} {o : Obj} (e : (Oq h H).get? b = some o) : h.get? b = some o /\ H b = none := by
 have e' : h.get? b = some o := PySem.W.of_hideAll (trk h H) e
 refine ⟨e', ?_⟩
 cases q : H b with
 | none => rfl
 | some x =>
  have hm : b ∈ trk h H := Zyg.mpr ⟨Zxg.mpr (Zze e'), by simp [q]⟩
  have z : (Oq h H).get? b = none := PySem.W.hideAll_none (trk h H) hm
  rw [z] at e; cases e
def Dk (g h : Heap) (L : Addr) : List (Addr × Obj) := (Zyy h.objs.size).filterMap fun a => if a = L \/ (g.get? a).isSome = true then none else (h.get? a).map fun o => (a, o)
theorem M8 {g h : Heap} {L a : Addr} {o : Obj} (h1 : a ≠ L) (h2 : g.get? a = none) (h3 : h.get? a = some o) : (a, o) ∈ Dk g h L :=
 Zww.mpr ⟨a, Zxg.mpr (Zze h3), by simp [h1, h2, h3]⟩
theorem Np {g h : Heap} {L : Addr} {p : Addr × Obj} (hp : p ∈ Dk g h L) : p.1 ≠ L /\ g.get? p.1 = none /\ h.get? p.1 = some p.2 := by
 obtain ⟨b, _, e⟩ := Zww.mp hp
 split at e
 ·cases e
 ·rename_i hn
  cases q : h.get? b with
  | none => rw [q] at e; simp at e
  | some u =>
   rw [q] at e
   simp only [Zwv, Zwc] at e
   subst e
   refine ⟨fun z => hn (.inl z), ?_, q⟩
   show g.get? b = none
   cases r : g.get? b with
   | none => rfl
   | some v => exact (hn (.inr (by simp [r]))).elim
def rest (g h : Heap) (L d : Addr) : List (Addr × Obj) := (Dk g h L).filter fun p => decide (p.1 ≠ d)
theorem Sf {g h : Heap} {L : Addr} : News g L h (Dk g h L) := fun p hp => let ⟨a, b, c⟩ := Np hp; ⟨c, a, b⟩
structure Mod (K : Zzv) (mg : Str -> Option Value) (base : Heap) : Prop where
 kin : K.In base
 glob : base.Ns mainGlobals mg
 blt : ∃ mb, base.Ns builtinsNs mb /\ ∀ x : Str, x ≠ "__name__" -> mb x = bootBuiltins x
 nolimit : base.NoLimit
structure Cx where
 prog : Program
 w : World
 K : Zzv
 mg : Str -> Option Value
 base : Heap
 A : Around
 N : List Str
 s₀ : Shared
 H₀ : Hp
 env : Env
 outer : List Env
 stack : List Env
 ex : List Addr
 fn : Str -> Bool
 calm : Bool
 pn : List (Addr × Obj)
 xe : Value -> Shared -> Prop
def frs (l : List Env) : List Addr := l.filterMap (·.frame)
abbrev Cx.fs (X : Cx) : List Addr := frs X.outer
def Vis (sc : Scope) (x : Str) : Prop := sc.names.lookup x = some .local \/ sc.names.lookup x = some .cell \/ sc.names.lookup x = some .free
def Loc (sc : Scope) (x : Str) : Prop := sc.names.lookup x = some .local \/ sc.names.lookup x = some .cell
def Look (env : Env) (h : Heap) (m : Str -> Option Value) (x : Str) (u : Value) : Prop :=
 (env.kindOf x = some .local /\ m x = some u) \/ ((env.kindOf x = some .cell \/ env.kindOf x = some .free) /\ ∃ c, env.cells.lookup x = some c /\ h.IsCell c (some u))
structure Cx.Ok (X : Cx) : Prop where
 mod : Mod X.K X.mg X.base
 kind : X.env.scope.kind = .function
 glob : X.env.globals = mainGlobals
 blt : X.env.builtins = builtinsNs
 above : X.s₀.heap.objs.size <= X.env.locals
 inj : ∀ x y c, X.env.cells.lookup x = some c -> X.env.cells.lookup y = some c -> x = y
 has : ∀ x, (X.env.kindOf x = some .cell \/ X.env.kindOf x = some .free) -> ∃ c, X.env.cells.lookup x = some c
 cab : ∀ x c, X.fn x = true -> X.env.cells.lookup x = some c -> X.s₀.heap.objs.size <= c
 hd : X.calm = true -> X.A.handled = none
 frames : X.A.frames = some X.stack
 stk : X.stack = X.outer \/ (X.stack = X.env :: X.outer /\ X.env.frame = some X.env.locals)
 exf : ∀ b ∈ X.ex, b ≠ X.env.locals /\ ∀ x c, X.env.cells.lookup x = some c -> c ≠ b
 bs : ∀ b o, X.base.get? b = some o -> X.s₀.heap.get? b = some o /\ X.H₀ b = none
 bsz : X.base.objs.size <= X.s₀.heap.objs.size
 noex : ∀ b o, X.base.get? b = some o -> b ∉ X.ex
 exfs : ∀ b ∈ X.ex, b ∉ X.fs
 funs : X.s₀.heap.FunFrames X.base X.outer
 frf : ∀ b ∈ X.fs, X.H₀ b = none
structure Inv (X : Cx) (pins : List (Addr × Obj)) (σ : List (Option V)) (H : Hp) (s : Shared) : Prop where
 ok : X.Ok
 os : s.os = X.s₀.os
 bare : AllBare s.gens
 base : Un X.fs X.ex X.H₀ H X.s₀.heap s.heap
 loc : ∃ m, s.heap.Ns X.env.locals m /\ ∀ (i : Nat) (x : Str) (v : V), X.N[i]? = some x -> σ[i]? = some (some v) -> Vis X.env.scope x -> ∃ u, RelV v u /\ Look X.env s.heap m x u
 cell : ∀ x c, X.env.cells.lookup x = some c -> ∃ v, s.heap.IsCell c v
 free : H X.env.locals = none
 freeC : ∀ x c, X.env.cells.lookup x = some c -> H c = none
 pin : ∀ p ∈ X.pn ++ pins, s.heap.get? p.1 = some p.2 /\ H p.1 = none /\ p.1 ≠ X.env.locals /\ p.1 ∉ X.fs /\ ∀ v, p.2.data ≠ .cell v
 hok : HOk X.prog X.w H s.heap
 len : σ.length = X.N.length
section
variable {X : Cx} {pins : List (Addr × Obj)} {σ : List (Option V)} {H H' : Hp} {s : Shared} {h' : Heap}
theorem Cx.Ok.nofr (ok : X.Ok) {b : Addr} {o : Obj} (e : X.base.get? b = some o) : b ∉ X.fs := fun hb => by
 have := (ok.funs.mem hb).1
 rw [e] at this; cases this
theorem Inv.bs (I : Inv X pins σ H s) : ∀ b o, X.base.get? b = some o -> s.heap.get? b = some o /\ H b = none := fun b o e =>
 ⟨I.base.keep b o (I.ok.bs b o e).1 (I.ok.bs b o e).2 (I.ok.nofr e) (I.ok.noex b o e), I.base.free b o (I.ok.bs b o e).1 (I.ok.bs b o e).2 (I.ok.noex b o e)⟩
theorem Inv.bk (I : Inv X pins σ H s) : ∀ b o, X.base.get? b = some o -> s.heap.get? b = some o := fun b o e => (I.bs b o e).1
theorem Inv.mod (I : Inv X pins σ H s) : Mod X.K X.mg X.base := I.ok.mod
theorem Inv.kIn (I : Inv X pins σ H s) : X.K.In s.heap := I.ok.mod.kin.keeps I.bk
theorem Inv.nolimit (I : Inv X pins σ H s) : s.heap.NoLimit := I.ok.mod.nolimit.keeps I.bk
theorem Inv.fr (I : Inv X pins σ H s) : ∃ m, Fr X.base X.env.locals s.heap m :=
 let ⟨m, hn, _⟩ := I.loc
 ⟨m, hn, I.bk, Zyw I.ok.bsz I.ok.above⟩
theorem Inv.lt (I : Inv X pins σ H s) : X.env.locals < s.heap.objs.size := let ⟨_, hn, _⟩ := I.loc; hn.lt
theorem Inv.sz (I : Inv X pins σ H s) : X.s₀.heap.objs.size <= s.heap.objs.size := Zyw I.ok.above (Nat.le_of_lt I.lt)
theorem Inv.nofs (I : Inv X pins σ H s) {a : Addr} (h : s.heap.objs.size <= a) : a ∉ X.fs := fun hb => by
 obtain ⟨_, o, ho, _⟩ := I.ok.funs.mem hb
 exact absurd (Zz4 (Zze ho) (Zyw I.sz h)) (Zxa _)
theorem Inv.cne (I : Inv X pins σ H s) : ∀ x c, X.env.cells.lookup x = some c -> c ≠ X.env.locals := fun x c e z => by
 obtain ⟨v, o, ho, hd⟩ := I.cell x c e
 obtain ⟨m, ⟨o', es, ep, ho', hd', _⟩, _⟩ := I.loc
 rw [z, ho'] at ho; cases ho; rw [hd'] at hd; cases hd
theorem Inv.funs (I : Inv X pins σ H s) : s.heap.FunFrames X.base X.outer := by
 have all : ∀ (l : List Env), (∀ b ∈ frs l, b ∈ X.fs) -> X.s₀.heap.FunFrames X.base l -> s.heap.FunFrames X.base l := by
  intro l
  induction l with
  | nil => intro _ _; trivial
  | cons env r ih =>
   intro hs hl
   obtain ⟨hk, ⟨L, o, hf, hn, ho, hd⟩, hr⟩ := hl
   have hL : L ∈ X.fs := hs L (by unfold frs; rw [Zwk, hf]; exact Zz2)
   obtain ⟨sl, e⟩ := I.base.slot L o ho (I.ok.frf L hL) hL fun z => I.ok.exfs L z hL
   exact ⟨hk, ⟨L, _, hf, hn, e, hd⟩, ih (fun b hb => hs b (by unfold frs; rw [Zwk, hf]; exact Zz6 _ hb)) hr⟩
 exact all X.outer (fun _ hb => hb) I.ok.funs
theorem Inv.stack (I : Inv X pins σ H s) : s.heap.FunFrames X.base X.stack := by
 rcases I.ok.stk with e | ⟨e, hf⟩
 ·rw [e]; exact I.funs
 ·rw [e]
  obtain ⟨m, hn, _⟩ := I.loc
  refine .cons (by rw [I.ok.kind]; decide) hf hn ?_ I.funs
  exact Heap.get?_none_of_le (Zyw I.ok.bsz I.ok.above)
theorem Inv.stkSub (I : Inv X pins σ H s) : ∀ b ∈ frs X.stack, b ∈ X.env.locals :: X.fs := fun b hb => by
 rcases I.ok.stk with e | ⟨e, hf⟩
 ·rw [e] at hb; exact Zz6 _ hb
 ·rw [e] at hb
  unfold frs at hb
  rw [Zwk, hf] at hb
  exact hb
theorem Inv.stkFree (I : Inv X pins σ H s) : ∀ b ∈ frs X.stack, H b = none := fun b hb => by
 rcases Zzi.mp (I.stkSub b hb) with e | hb
 ·rw [e]; exact I.free
 ·obtain ⟨_, o, ho, _⟩ := I.ok.funs.mem hb
  exact I.base.free b o ho (I.ok.frf b hb) fun z => I.ok.exfs b z hb
theorem Inv.step {g' : Array GenState} {t' : Nat} {d' : Drawn} {ch : List Addr} (I : Inv X pins σ H s)
  (hch : ∀ b ∈ ch, (b ∈ X.ex \/ X.s₀.heap.objs.size <= b) /\ b ≠ X.env.locals /\ (∀ x c, X.env.cells.lookup x = some c -> c ≠ b) /\ ∀ p ∈ X.pn ++ pins, p.1 ≠ b)
  (keep : ∀ b o, b ≠ X.env.locals -> b ∉ X.fs -> b ∉ ch -> s.heap.get? b = some o -> H b = none -> h'.get? b = some o)
  (slot : ∀ b o, b ≠ X.env.locals -> b ∈ X.fs -> b ∉ ch -> s.heap.get? b = some o -> H b = none -> ∃ sl, h'.get? b = some { o with slots := sl }) (free : ∀ b o, b ∉ ch -> s.heap.get? b = some o -> H b = none -> H' b = none)
  (there : ∀ b o, b ∉ ch -> s.heap.get? b = some o -> ∃ o', h'.get? b = some o')
  (tups : ∀ b xs, H b = some (.tup xs) -> H' b = some (.tup xs)) (frzs : ∀ b o u, H b = some (.frz o u) -> H' b = some (.frz o u)) (tbls : ∀ b ps, H b = some (.tbl ps) -> ∃ more, H' b = some (.tbl (ps ++ more)))
  (ns : ∀ m, s.heap.Ns X.env.locals m -> h'.Ns X.env.locals m) (hok : HOk X.prog X.w H' h') (hg : AllBare g') :
  Inv X pins σ H' { s with heap := h', gens := g', drawn := d', toks := t' } := by
 have neL : ∀ b o, X.s₀.heap.get? b = some o -> b ≠ X.env.locals := fun b o e => Zys (Zz4 (Zze e) I.ok.above)
 have neC : ∀ b o, X.s₀.heap.get? b = some o -> b ∉ X.ex -> b ∉ ch := fun b o e hx hb => by
  rcases (hch b hb).1 with z | z
  ·exact hx z
  ·exact absurd (Zz4 (Zze e) z) (Zxa _)
 have cellK : ∀ x c, X.env.cells.lookup x = some c -> ∀ v, s.heap.IsCell c v -> h'.IsCell c v := fun x c e v ⟨o, ho, hd⟩ => by
  have nch : c ∉ ch := fun z => (hch c z).2.2.1 x c e rfl
  by_cases hc : c ∈ X.fs
  ·obtain ⟨sl, q⟩ := slot c o (I.cne x c e) hc nch ho (I.freeC x c e)
   exact ⟨_, q, hd⟩
  ·exact ⟨o, keep c o (I.cne x c e) hc nch ho (I.freeC x c e), hd⟩
 refine ⟨I.ok, I.os, hg, ⟨fun b o e n hb hx => ?_, fun b o e n hb hx => ?_, fun b o e n hx => ?_, fun b o e hx => ?_, fun b xs e => tups b xs (I.base.tups b xs e), fun b o xs e => frzs b o xs (I.base.frzs b o xs e), fun b ps e => ?_⟩, ?_, fun x c e => ?_, ?_, fun x c e => ?_, fun p hp => ?_, hok, I.len⟩
 ·exact keep b o (neL b o e) hb (neC b o e hx) (I.base.keep b o e n hb hx) (I.base.free b o e n hx)
 ·obtain ⟨sl, e1⟩ := I.base.slot b o e n hb hx
  obtain ⟨sl', e2⟩ := slot b _ (neL b o e) hb (neC b o e hx) e1 (I.base.free b o e n hx)
  exact ⟨sl', e2⟩
 ·obtain ⟨o', e1⟩ := I.base.there b o e hx
  exact free b o' (neC b o e hx) e1 (I.base.free b o e n hx)
 ·obtain ⟨o', e1⟩ := I.base.there b o e hx
  exact there b o' (neC b o e hx) e1
 ·obtain ⟨m1, e1⟩ := I.base.tbls b ps e
  obtain ⟨m2, e2⟩ := tbls b _ e1
  exact ⟨m1 ++ m2, by rw [e2, Zvq]⟩
 ·obtain ⟨m, hn, hl⟩ := I.loc
  refine ⟨m, ns m hn, fun i x v e1 e2 e3 => ?_⟩
  obtain ⟨u, r, l⟩ := hl i x v e1 e2 e3
  refine ⟨u, r, ?_⟩
  rcases l with l | ⟨k, c, e, z⟩
  ·exact .inl l
  ·exact .inr ⟨k, c, e, cellK x c e _ z⟩
 ·obtain ⟨v, z⟩ := I.cell x c e
  exact ⟨v, cellK x c e v z⟩
 ·obtain ⟨m, ⟨o, _, _, ho, _⟩, _⟩ := I.loc
  exact free _ o (fun z => (hch _ z).2.1 rfl) ho I.free
 ·obtain ⟨v, o, ho, hd⟩ := I.cell x c e
  exact free c o (fun z => (hch c z).2.2.1 x c e rfl) ho (I.freeC x c e)
 ·obtain ⟨e, n, ne, nf, d⟩ := I.pin p hp
  have nch : p.1 ∉ ch := fun z => (hch p.1 z).2.2.2 p hp rfl
  exact ⟨keep p.1 p.2 ne nf nch e n, free p.1 p.2 nch e n, ne, nf, d⟩
theorem Inv.un {t' : Nat} (I : Inv X pins σ H s) (u : Un X.fs [] H H' s.heap h') (hok : HOk X.prog X.w H' h') : Inv X pins σ H' { s with heap := h', toks := t' } := by
 obtain ⟨m, ⟨o, es, ep, ho, r⟩, _⟩ := id I.loc
 obtain ⟨sl, hL⟩ := u.any ho I.free (by simp)
 exact I.step (g' := s.gens) (d' := s.drawn) (ch := []) (fun _ z => nomatch z) (fun b o _ hb _ e n => u.keep b o e n hb (by simp)) (fun b o _ hb _ e n => u.slot b o e n hb (by simp)) (fun b o _ e n => u.free b o e n (by simp)) (fun b o _ e => u.there b o e (by simp)) u.tups u.frzs u.tbls (fun m' hm => by
  obtain ⟨o', es', ep', ho', r'⟩ := hm
  rw [ho] at ho'; cases ho'
  exact ⟨_, es', ep', hL, r'⟩) hok I.bare
theorem Inv.call {g' : Array GenState} {t' : Nat} {d' : Drawn} {ch : List Addr} (I : Inv X pins σ H s) (u : Un (frs X.stack) ch H H' s.heap h') (hok : HOk X.prog X.w H' h') (hg : AllBare g')
  (hch : ∀ b ∈ ch, (b ∈ X.ex \/ X.s₀.heap.objs.size <= b) /\ b ≠ X.env.locals /\ (∀ x c, X.env.cells.lookup x = some c -> c ≠ b) /\ ∀ p ∈ X.pn ++ pins, p.1 ≠ b) :
  Inv X pins σ H' { s with heap := h', gens := g', drawn := d', toks := t' } := by
 obtain ⟨m, ⟨o, es, ep, ho, r⟩, _⟩ := id I.loc
 obtain ⟨sl, hL⟩ := u.any ho I.free fun z => (hch _ z).2.1 rfl
 exact I.step (ch := ch) hch (fun b o hL hb hc e n => u.keep b o e n (fun z => (Zzi.mp (I.stkSub b z)).elim hL hb) hc) (fun b o _ _ hc e n => u.any e n hc) (fun b o hc e n => u.free b o e n hc) (fun b o hc e => u.there b o e hc) u.tups u.frzs u.tbls (fun m' hm => by
  obtain ⟨o', es', ep', ho', r'⟩ := hm
  rw [ho] at ho'; cases ho'
  exact ⟨_, es', ep', hL, r'⟩) hok hg
theorem Inv.turned {t' : Nat} {it : Addr} (I : Inv X pins σ H s) (k : ∀ b o, b ≠ it -> s.heap.get? b = some o -> h'.get? b = some o) (hn : H it = none) (hL : it ≠ X.env.locals)
  (h1 : it ∈ X.ex \/ X.s₀.heap.objs.size <= it) (h2 : ∀ x c, X.env.cells.lookup x = some c -> c ≠ it) (h3 : ∀ p ∈ X.pn ++ pins, p.1 ≠ it) : Inv X pins σ H { s with heap := h', toks := t' } := by
 have nit : ∀ b u, H b = some u -> b ≠ it := fun b u e z => by rw [z, hn] at e; cases e
 refine I.step (g' := s.gens) (d' := s.drawn) (ch := [it]) (fun b hb => ?_) (fun b o _ _ hc e _ => k b o (fun z => hc (by simp [z])) e) (fun b o _ _ hc e _ => ⟨o.slots, k b o (fun z => hc (by simp [z])) e⟩) (fun _ _ _ _ n => n)
  (fun b o hc e => ⟨o, k b o (fun z => hc (by simp [z])) e⟩) (fun _ _ e => e) (fun _ _ _ e => e) (fun b ps e => ⟨#[], by rw [e]; simp⟩) (fun m hm => ?_) (fun b u e => ?_) I.bare
 ·have e : b = it := by simpa using hb
  subst e
  exact ⟨h1, hL, h2, h3⟩
 ·obtain ⟨o, es, ep, ho, r⟩ := hm
  exact ⟨o, es, ep, k _ o (Zzc hL) ho, r⟩
 ·refine (I.hok b u e).stay (fun c v hc q => k c v ?_ q) (fun _ q => q) fun _ _ q => q
  rcases hc with z | z
  ·rw [z]; exact nit b u e
  ·exact nit c _ z
theorem Inv.tok (I : Inv X pins σ H s) (t : Nat) : Inv X pins σ H { s with toks := t } := I.un (h' := s.heap) (t' := t) Un.refl I.hok
theorem Inv.kept {t' : Nat} (I : Inv X pins σ H s) (k : ∀ b u, s.heap.get? b = some u -> h'.get? b = some u) : Inv X pins σ H { s with heap := h', toks := t' } := I.un (Un.kept k) (I.hok.kept k)
theorem Inv.laid {a : Addr} {o : HO} {t' : Nat} (I : Inv X pins σ H s) (k : ∀ b u, s.heap.get? b = some u -> h'.get? b = some u) (hp : s.heap.objs.size <= a) (new : ObjOk X.prog X.w (upd H a o) h' a o) :
  Inv X pins σ (upd H a o) { s with heap := h', toks := t' } := I.un (Un.laid k hp (I.hok.fresh hp)) (I.hok.laid k hp new)
theorem Inv.write {x e : Addr} {o : HO} {t' : Nat} (I : Inv X pins σ H s) (mu : Mut (H x)) (he : e = x \/ H e = some (.own x)) (k : ∀ b u, b ≠ e -> s.heap.get? b = some u -> h'.get? b = some u) (heo : ∃ u, h'.get? e = some u)
  (new : ObjOk X.prog X.w (upd H x o) h' x o) : Inv X pins σ (upd H x o) { s with heap := h', toks := t' } := I.un (Un.write mu he k heo) (I.hok.write mu he k heo new)
theorem Inv.weak {σ' : List (Option V)} (I : Inv X pins σ H s) (hl : σ'.length = σ.length) (w : ∀ (i : Nat) v, σ'[i]? = some (some v) -> σ[i]? = some (some v)) : Inv X pins σ' H s :=
 ⟨I.ok, I.os, I.bare, I.base, let ⟨m, hn, hl'⟩ := I.loc; ⟨m, hn, fun i x v e1 e2 e3 => hl' i x v e1 (w i v e2) e3⟩, I.cell, I.free, I.freeC, I.pin, I.hok, hl.trans I.len⟩
theorem Inv.pins_of {pins' : List (Addr × Obj)} (I : Inv X pins σ H s) (h : ∀ p ∈ pins', s.heap.get? p.1 = some p.2 /\ H p.1 = none /\ p.1 ≠ X.env.locals /\ p.1 ∉ X.fs /\ ∀ v, p.2.data ≠ .cell v) : Inv X pins' σ H s :=
 ⟨I.ok, I.os, I.bare, I.base, I.loc, I.cell, I.free, I.freeC, fun p hp => (Zyu.mp hp).elim (fun z => I.pin p (Zx1 _ z)) (h p), I.hok, I.len⟩
theorem Sd {N : List Str} (hN : N.Nodup) {i j : Nat} {x : Str} (a : N[i]? = some x) (b : N[j]? = some x) : i = j := by
 obtain ⟨h1, e1⟩ := Zzg.mp a
 obtain ⟨h2, e2⟩ := Zzg.mp b
 exact (List.getElem_inj hN).mp (e1.trans e2.symm)
theorem P1 {M : Model} {A : Around} {E : Value -> Shared -> Prop} {i : Nat} {x : Str} {v : V} {u : Value} {Q : Unit -> Shared -> Prop} (I : Inv X pins σ H s) (hN : X.N.Nodup) (hi : X.N[i]? = some x) (hx : Loc X.env.scope x) (r : RelV v u)
  (h : ∀ s', Inv X pins (σ.set i (some v)) H s' -> (∃ a, Zy5 a s.heap s'.heap /\ (a = X.env.locals \/ X.env.cells.lookup x = some a)) -> Q () s') (hf : X.fn x = true \/ X.env.scope.names.lookup x = some .local := by first | exact .inl rfl | exact .inr rfl | assumption) : wpAny M A (storeName X.env x u) Q E s := by
 obtain ⟨m, hn, hl⟩ := id I.loc
 have hcls : (X.env.scope.kind == .class || (X.env.scope.kind == .module && X.env.locals != X.env.globals)) = false := by rw [I.ok.kind]; rfl
 have hiσ : i < σ.length := by rw [I.len]; exact (Zzg.mp hi).1
 have cne := I.cne
 have tracked : ∀ {a : Addr} {h' : Heap}, (∃ o, s.heap.get? a = some o /\ H a = none) -> Zy5 a s.heap h' -> HOk X.prog X.w H h' := fun {a h'} ha hs b ob e => by
  obtain ⟨_, _, hfree⟩ := ha
  refine (I.hok b ob e).stay (fun c w' hc q => (hs.2 c ?_).trans q) (fun _ q => q) fun _ _ q => q
  rintro rfl
  rcases hc with rfl | hc
  ·rw [hfree] at e; cases e
  ·rw [hfree] at hc; cases hc
 rcases hx with hk | hk
 ·refine wpAny_storeName_local hk hn (fun h' hn' hs => ?_) hcls
  obtain ⟨oL, _, _, hoL, _⟩ := id hn
  refine h _ ⟨I.ok, I.os, I.bare, ⟨fun b o e n hb hx => ?_, fun b o e n hb hx => ?_, I.base.free, fun b o e hx => ?_, I.base.tups, I.base.frzs, I.base.tbls⟩, ⟨_, hn', fun j y v' e1 e2 e3 => ?_⟩, fun y c e => ?_, I.free, I.freeC, fun p hp => ?_, tracked ⟨oL, hoL, I.free⟩ hs, by simpa using I.len⟩ ⟨_, hs, .inl rfl⟩
  ·exact (hs.2 b (Zys (Zz4 (Zze e) I.ok.above))).trans (I.base.keep b o e n hb hx)
  ·obtain ⟨sl, e1⟩ := I.base.slot b o e n hb hx
   exact ⟨sl, (hs.2 b (Zys (Zz4 (Zze e) I.ok.above))).trans e1⟩
  ·obtain ⟨o', e1⟩ := I.base.there b o e hx
   exact ⟨o', (hs.2 b (Zys (Zz4 (Zze e) I.ok.above))).trans e1⟩
  ·by_cases hj : j = i
   ·subst hj
    rw [hi] at e1; cases e1
    rw [Zx8 hiσ] at e2
    cases e2
    exact ⟨u, r, .inl ⟨hk, by simp⟩⟩
   ·rw [Zy9 (Zzc hj)] at e2
    obtain ⟨u', r', q⟩ := hl j y v' e1 e2 e3
    refine ⟨u', r', ?_⟩
    rcases q with ⟨k, e⟩ | ⟨k, c, e, z⟩
    ·refine .inl ⟨k, ?_⟩
     have : y ≠ x := fun e => hj (Sd hN e1 (e ▸ hi))
     simp [this, e]
    ·exact .inr ⟨k, c, e, z.sameBut hs (cne y c e)⟩
  ·obtain ⟨w', z⟩ := I.cell y c e
   exact ⟨w', z.sameBut hs (cne y c e)⟩
  ·obtain ⟨e, n, ne, nf, d⟩ := I.pin p hp
   exact ⟨(hs.2 p.1 ne).trans e, n, ne, nf, d⟩
 ·have hfn : X.fn x = true := by
   rcases hf with z | z
   ·exact z
   ·rw [z] at hk; cases hk
  obtain ⟨c, hc⟩ := I.ok.has x (.inl hk)
  obtain ⟨w', z⟩ := I.cell x c hc
  refine wpAny_storeName_cell I.ok.kind hk hc z (fun h' hc' hs => ?_)
  obtain ⟨oc, hoc, hocd⟩ := id z
  refine h { s with heap := h' } ⟨I.ok, I.os, I.bare, ⟨fun b o e n hb hx => ?_, fun b o e n hb hx => ?_, I.base.free, fun b o e hx => ?_, I.base.tups, I.base.frzs, I.base.tbls⟩, ⟨m, hn.sameBut hs (Zzc (cne x c hc)), fun j y v' e1 e2 e3 => ?_⟩, fun y c' e => ?_, I.free, I.freeC, fun p hp => ?_, tracked ⟨oc, hoc, I.freeC x c hc⟩ hs, by simpa using I.len⟩ ⟨c, hs, .inr hc⟩
  ·exact (hs.2 b (Zys (Zz4 (Zze e) (I.ok.cab x c hfn hc)))).trans (I.base.keep b o e n hb hx)
  ·obtain ⟨sl, e1⟩ := I.base.slot b o e n hb hx
   exact ⟨sl, (hs.2 b (Zys (Zz4 (Zze e) (I.ok.cab x c hfn hc)))).trans e1⟩
  ·obtain ⟨o', e1⟩ := I.base.there b o e hx
   exact ⟨o', (hs.2 b (Zys (Zz4 (Zze e) (I.ok.cab x c hfn hc)))).trans e1⟩
  ·by_cases hj : j = i
   ·subst hj
    rw [hi] at e1; cases e1
    rw [Zx8 hiσ] at e2
    cases e2
    exact ⟨u, r, .inr ⟨.inl hk, c, hc, hc'⟩⟩
   ·rw [Zy9 (Zzc hj)] at e2
    obtain ⟨u', r', q⟩ := hl j y v' e1 e2 e3
    refine ⟨u', r', ?_⟩
    rcases q with q | ⟨k, c', e, z'⟩
    ·exact .inl q
    ·refine .inr ⟨k, c', e, z'.sameBut hs ?_⟩
     rintro rfl
     exact hj (Sd hN e1 (I.ok.inj _ _ _ e hc ▸ hi))
  ·by_cases hcc : c' = c
   ·subst hcc; exact ⟨_, hc'⟩
   ·obtain ⟨w2, z2⟩ := I.cell y c' e
    exact ⟨w2, z2.sameBut hs hcc⟩
  ·obtain ⟨e, n, ne, nf, d⟩ := I.pin p hp
   refine ⟨(hs.2 p.1 ?_).trans e, n, ne, nf, d⟩
   intro q
   rw [q, hoc] at e
   have q' : oc = p.2 := Zzo e
   exact d w' (by rw [<- q']; exact hocd)
theorem Na {M : Model} {A : Around} {E : Value -> Shared -> Prop} {i : Nat} {x : Str} {v : V} {u : Value} {Q : Unit -> Shared -> Prop} (I : Inv X pins σ H s) (hN : X.N.Nodup) (hi : X.N[i]? = some x) (hx : Loc X.env.scope x) (r : RelV v u)
  (h : ∀ s', Inv X pins (σ.set i (some v)) H s' -> Q () s') (hf : X.fn x = true \/ X.env.scope.names.lookup x = some .local := by first | exact .inl rfl | exact .inr rfl | assumption) : wpAny M A (storeName X.env x u) Q E s :=
 P1 I hN hi hx r (fun s' I' _ => h s' I') hf
theorem Inv.call' {s' : Shared} {ch : List Addr} (I : Inv X pins σ H s) (ho : s'.os = s.os) (u : Un (frs X.stack) ch H H' s.heap s'.heap) (hok : HOk X.prog X.w H' s'.heap) (hg : AllBare s'.gens)
  (hch : ∀ b ∈ ch, (b ∈ X.ex \/ X.s₀.heap.objs.size <= b) /\ b ≠ X.env.locals /\ (∀ x c, X.env.cells.lookup x = some c -> c ≠ b) /\ ∀ p ∈ X.pn ++ pins, p.1 ≠ b) : Inv X pins σ H' s' := by
 obtain ⟨h', g', d', t', o'⟩ := s'
 have e : o' = s.os := ho
 subst e
 exact I.call (g' := g') (t' := t') (d' := d') u hok hg hch
end
abbrev XK := Value -> Option Addr -> Hp -> Prop
abbrev St := List (Option V)
abbrev VK := V -> Hp -> Prop
abbrev TE := St -> Hp -> VK -> Prop
abbrev TT := St -> Hp -> (Bool -> Hp -> Prop) -> Prop
abbrev TA := St -> Hp -> (List V -> Hp -> Prop) -> Prop
structure Ly where
 nx : St -> Hp -> Prop
 rt : VK
 bk : St -> Hp -> Prop := fun _ _ => False
 ct : St -> Hp -> Prop := fun _ _ => False
abbrev TS := Ly -> St -> Hp -> Prop
def EP (X : Cx) (pins : List (Addr × Obj)) (σ : St) (Q : VK) (u : Value) (s' : Shared) : Prop := ∃ v H', Inv X pins σ H' s' /\ RelV v u /\ Q v H'
def TP (X : Cx) (pins : List (Addr × Obj)) (σ : St) (Q : Bool -> Hp -> Prop) (b : Bool) (s' : Shared) : Prop := ∃ H', Inv X pins σ H' s' /\ Q b H'
def AP (X : Cx) (pins : List (Addr × Obj)) (σ : St) (Q : List V -> Hp -> Prop) (us : List Value) (s' : Shared) : Prop := ∃ vs H', Inv X pins σ H' s' /\ Vals vs us /\ Q vs H'
def SP (X : Cx) (pins : List (Addr × Obj)) (D : Ly) (f : Flow) (s' : Shared) : Prop :=
 match f with
 | .next => ∃ σ' H', Inv X pins σ' H' s' /\ D.nx σ' H'
 | .brk => ∃ σ' H', Inv X pins σ' H' s' /\ D.bk σ' H'
 | .cont => ∃ σ' H', Inv X pins σ' H' s' /\ D.ct σ' H'
 | .ret u => ∃ v σ' H', Inv X pins σ' H' s' /\ RelV v u /\ D.rt v H'
def PE (X : Cx) (e : Expr) (t : TE) : Prop :=
 ∀ (pins : List (Addr × Obj)) (s : Shared) (σ : St) (H : Hp) (Q : VK), Inv X pins σ H s -> t σ H Q -> wpAny (model X.prog X.w) X.A (eval e X.env) (EP X pins σ Q) X.xe s
def PT (X : Cx) (e : Expr) (t : TT) : Prop :=
 ∀ (pins : List (Addr × Obj)) (s : Shared) (σ : St) (H : Hp) (Q : Bool -> Hp -> Prop), Inv X pins σ H s -> t σ H Q -> wpAny (model X.prog X.w) X.A (isTrue e X.env (eval e X.env)) (TP X pins σ Q) X.xe s
def PW (X : Cx) (e : Expr) (t : TT) : Prop :=
 ∀ (whole : Sem Value) (pins : List (Addr × Obj)) (s : Shared) (σ : St) (H : Hp) (Q : Bool -> Hp -> Prop), Inv X pins σ H s -> t σ H Q -> wpAny (model X.prog X.w) X.A (isTrue e X.env whole) (TP X pins σ Q) X.xe s
theorem PW.pt {X : Cx} {e : Expr} {t : TT} (h : PW X e t) : PT X e t := h _
def PA (X : Cx) (es : List Expr) (t : TA) : Prop :=
 ∀ (pos : Pos) (pins : List (Addr × Obj)) (s : Shared) (σ : St) (H : Hp) (Q : List V -> Hp -> Prop), Inv X pins σ H s -> t σ H Q -> wpAny (model X.prog X.w) X.A (spliced (backTo pos (starEach es X.env))) (AP X pins σ Q) X.xe s
def PS (X : Cx) (st : Stmt) (t : TS) : Prop :=
 ∀ (pins : List (Addr × Obj)) (s : Shared) (σ : St) (H : Hp) (D : Ly), Inv X pins σ H s -> t D σ H -> wpAny (model X.prog X.w) X.A (exec st X.env) (SP X pins D) X.xe s
def PSs (X : Cx) (st : List Stmt) (t : TS) : Prop :=
 ∀ (pins : List (Addr × Obj)) (s : Shared) (σ : St) (H : Hp) (D : Ly), Inv X pins σ H s -> t D σ H -> wpAny (model X.prog X.w) X.A (execs st X.env) (SP X pins D) X.xe s
theorem thn {α : Type} {t : Sem α} {Q Q' : α -> Shared -> Prop} {M : Model} {A : Around} {E : Value -> Shared -> Prop} {s : Shared} (h : wpAny M A t Q E s) (hQ : ∀ a s, Q a s -> Q' a s) : wpAny M A t Q' E s := wpAny_mono h hQ fun _ _ x => x
section
variable {X : Cx}
def Y9 (i : Nat) : TE := fun σ H Q => ∃ v, σ[i]? = some (some v) /\ Q v H
def tC (v : V) : TE := fun _ H Q => Q v H
theorem im {i : Nat} {x : Str} {pos : Pos} (hN : X.N[i]? = some x) (hv : Vis X.env.scope x) (hd : (x == ("__debug__" : Str)) = false := by decide) (hcd : (x == ("__classdict__" : Str)) = false := by decide) : PE X (.Name x pos) (Y9 i) := by
 intro pins s σ H Q I h
 obtain ⟨v, e, h⟩ := h
 obtain ⟨m, hn, hl⟩ := I.loc
 obtain ⟨u, r, l⟩ := hl i x v hN e hv
 have fin : EP X pins σ Q u s := ⟨v, H, I, r, h⟩
 rcases l with ⟨hk, hm⟩ | ⟨hk, c, hc, hcell⟩
 ·exact wpAny_Name (wpAny_loadName_local I.ok.kind hk hn hm fin) hd
 ·rcases hk with hk | hk
  ·exact wpAny_Name (wpAny_loadName_cell I.ok.kind hk hc hcell fin) hd
  ·exact wpAny_Name (wpAny_loadName_free I.ok.kind hk hc hcell fin hcd) hd
theorem A6 {i j pos} : PE X (.Constant (.int i) j pos) (tC (.int i)) := fun _ _ _ H _ I h => wpAny_Constant_int ⟨.int i, H, I.tok _, ⟨_, rfl⟩, h⟩
theorem M4 {b j pos} : PE X (.Constant (.bool b) j pos) (tC (.bl b)) := fun _ _ _ H _ I h => Constant_bool ⟨.bl b, H, I, rfl, h⟩
theorem Gf {j pos} : PE X (.Constant .none j pos) (tC .non) := fun _ _ _ H _ I h => Constant_none ⟨.non, H, I, rfl, h⟩
theorem Bu {x j pos} : PE X (.Constant (.str x) j pos) (tC (.str x)) := fun _ _ _ H _ I h => Calls.Constant_str ⟨.str x, H, I.tok _, ⟨_, rfl⟩, h⟩
def Gl (X : Cx) (x : Str) : Prop := X.env.kindOf x = some .globalImplicit
theorem Vo {E : Value -> Shared -> Prop} {pins : List (Addr × Obj)} {s : Shared} {σ : St} {H : Hp} {x : Str} {u : Value} {pos : Pos} {Q : Value -> Shared -> Prop} (I : Inv X pins σ H s) (hg : Gl X x) (hm : X.mg x = some u) (h : Q u s)
  (hd : (x == ("__debug__" : Str)) = false := by decide) : wpAny (model X.prog X.w) X.A (eval (.Name x pos) X.env) Q E s :=
 Calls.Name_function_global I.ok.kind hg (Calls.loadGlobal_global (by rw [I.ok.glob]; exact I.mod.glob.keeps I.bk) hm h) hd
theorem Fa {E : Value -> Shared -> Prop} {pins : List (Addr × Obj)} {s : Shared} {σ : St} {H : Hp} {x : Str} {u : Value} {pos : Pos} {Q : Value -> Shared -> Prop} (I : Inv X pins σ H s) (hg : Gl X x) (hm : X.mg x = none) (hv : bootBuiltins x = some u) (h : Q u s)
  (hn : x ≠ "__name__" := by decide) (hd : (x == ("__debug__" : Str)) = false := by decide) : wpAny (model X.prog X.w) X.A (eval (.Name x pos) X.env) Q E s := by
 obtain ⟨mb, h1, h2⟩ := I.mod.blt
 exact Calls.Name_function_global I.ok.kind hg (Calls.loadGlobal_builtin (by rw [I.ok.glob]; exact I.mod.glob.keeps I.bk) hm (by rw [I.ok.blt]; exact h1.keeps I.bk) ((h2 x hn).trans hv) h) hd
theorem cm {x : Str} {v : V} {u : Value} {pos : Pos} (hg : Gl X x) (hm : X.mg x = some u) (r : RelV v u) (hd : (x == ("__debug__" : Str)) = false := by decide) : PE X (.Name x pos) (tC v) :=
 fun _ _ _ H _ I h => Vo I hg hm ⟨v, H, I, r, h⟩ hd
theorem Jp {x : Str} {v : V} {u : Value} {pos : Pos} (hg : Gl X x) (hm : X.mg x = none) (hv : bootBuiltins x = some u) (r : RelV v u) (hn : x ≠ "__name__" := by decide) (hd : (x == ("__debug__" : Str)) = false := by decide) : PE X (.Name x pos) (tC v) :=
 fun _ _ _ H _ I h => Fa I hg hm hv ⟨v, H, I, r, h⟩ hn hd
variable {a b : Expr} {ta tb : TE} {pos : Pos}
def PC (X : Cx) (op : CmpOp) (a b : Expr) (t : TE) : Prop :=
 ∀ (pins : List (Addr × Obj)) (s : Shared) (σ : St) (H : Hp) (Q : VK), Inv X pins σ H s -> t σ H Q ->
  wpAny (model X.prog X.w) X.A (eval a X.env) (fun v s₁ => wpAny (model X.prog X.w) X.A (eval b X.env) (fun u s₂ => wpAny (model X.prog X.w) X.A (compareOp op v u) (EP X pins σ Q) X.xe s₂) X.xe s₁) X.xe s
def tB (t : TE) : TT := fun σ H Q => t σ H fun x H1 => ∃ c, x = .bl c /\ Q c H1
theorem Hx {e : Expr} {t : TE} (h : PE X e t) (he : ∀ whole, isTrue e X.env whole = (do let v <- whole; standAt e.pos; holding [v] (truthy v)) := by intro _; rfl) : PT X e (tB t) := by
 intro pins s σ H Q I hw
 refine isTrue_plain (thn (h pins s σ H _ I hw) fun v s1 ⟨x, H1, I1, r1, q1⟩ => ?_) (he _)
 obtain ⟨d, rfl, q⟩ := q1
 cases r1
 exact wpAny_truthy_bool ⟨H1, I1, q⟩
variable {tA tB' : TT} {rest : List Expr}
def bu (t u : TT) : TT := fun σ H Q => t σ H fun c H1 => if c = true then u σ H1 Q else Q false H1
def tOr (t u : TT) : TT := fun σ H Q => t σ H fun c H1 => if c = true then Q true H1 else u σ H1 Q
def bn (t : TT) : TT := fun σ H Q => t σ H fun c H1 => Q (!c) H1
theorem Hv (ha : PT X a tA) : PW X (.BoolOp .And [a] pos) tA := by
 intro wh pins s σ H Q I h
 refine isTrue_and (thn (ha pins s σ H Q I h) fun c s1 e => ?_)
 cases c with
 | true => exact isTrue_and_nil e
 | false => exact e
theorem Q9 (ha : PT X a tA) : PW X (.BoolOp .Or [a] pos) tA := by
 intro wh pins s σ H Q I h
 refine isTrue_or (thn (ha pins s σ H Q I h) fun c s1 e => ?_)
 cases c with
 | false => exact isTrue_or_nil e
 | true => exact e
theorem K4 (ha : PT X a tA) (hb : PW X (.BoolOp .And (b :: rest) pos) tB') : PW X (.BoolOp .And (a :: b :: rest) pos) (bu tA tB') := by
 intro wh pins s σ H Q I h
 refine isTrue_and (thn (ha pins s σ H _ I h) fun c s1 ⟨H1, I1, q1⟩ => ?_)
 cases c with
 | true => exact hb wh pins s1 σ H1 Q I1 q1
 | false => exact ⟨H1, I1, q1⟩
theorem Ru (ha : PT X a tA) (hb : PW X (.BoolOp .Or (b :: rest) pos) tB') : PW X (.BoolOp .Or (a :: b :: rest) pos) (tOr tA tB') := by
 intro wh pins s σ H Q I h
 refine isTrue_or (thn (ha pins s σ H _ I h) fun c s1 ⟨H1, I1, q1⟩ => ?_)
 cases c with
 | true => exact ⟨H1, I1, q1⟩
 | false => exact hb wh pins s1 σ H1 Q I1 q1
theorem J9 (ha : PT X a tA) : PT X (.UnaryOp .Not a pos) (bn tA) := by
 intro pins s σ H Q I h
 exact isTrue_not (ha pins s σ H (fun c H1 => Q (!c) H1) I h)
def Ye (ta tb : TE) : TE := fun σ H Q => ta σ H fun x H1 => ∃ c, x = .bl c /\ if c = true then tb σ H1 Q else Q (.bl false) H1
def i7 (ta tb : TE) : TE := fun σ H Q => ta σ H fun x H1 => ∃ c, x = .bl c /\ if c = true then Q (.bl true) H1 else tb σ H1 Q
def Yb (ta : TE) : TE := fun σ H Q => ta σ H fun x H1 => ∃ c, x = .bl c /\ Q (.bl (!c)) H1
def tIf (t : TT) (ta tb : TE) : TE := fun σ H Q => t σ H fun c H1 => if c = true then ta σ H1 Q else tb σ H1 Q
end
def SqL (K : Zzv) (H : Hp) (a : Addr) (xs : List V) : Prop :=
 Rd H a (.lst xs) \/
  ∃ (o : Obj) (its : Array Value) (n : Nat), K.lookup a = some o /\ o.cls = .type "list" /\ o.dict = none /\ o.data = .seq its n /\ its.size <= sizeLine /\ Vals xs its.toList
def SqT (K : Zzv) (H : Hp) (a : Addr) (xs : List V) : Prop :=
 Rd H a (.tup xs) \/
  ∃ (o : Obj) (its : Array Value) (n : Nat), K.lookup a = some o /\ o.cls = .type "tuple" /\ o.data = .seq its n /\ its.size <= sizeLine /\ Vals xs its.toList
def absV : Value -> Option V
 | .none => some .non
 | .bool b => some (.bl b)
 | .int i _ => some (.int i)
 | .str x _ => some (.str x)
 | .bytes b _ => some (.byt b)
 | .float b _ => some (.flt b)
 | .ref a => some (.ref a)
 | .type n => some (.ty n)
 | _ => none
theorem RelV.abs {x : V} {u : Value} (r : RelV x u) : absV u = some x := by
 cases x with
 | non => cases r; rfl
 | bl _ => cases r; rfl
 | int _ => obtain ⟨t, rfl⟩ := r; rfl
 | str _ => obtain ⟨t, rfl⟩ := r; rfl
 | byt _ => obtain ⟨t, rfl⟩ := r; rfl
 | flt _ => obtain ⟨t, rfl⟩ := r; rfl
 | ref _ => cases r; rfl
 | ty _ => cases r; rfl
theorem RelV.inj {x y : V} {u : Value} (r : RelV x u) (q : RelV y u) : x = y := Zzo (r.abs.symm.trans q.abs)
theorem Vals.inj : ∀ {xs ys : List V} {us : List Value}, Vals xs us -> Vals ys us -> xs = ys
 | _, _, _, .nil, .nil => rfl
 | _, _, _, .cons r t, .cons r' t' => by rw [r.inj r', Vals.inj t t']
section
variable {X : Cx} {pins : List (Addr × Obj)} {σ : St} {H : Hp} {s : Shared} {a : Addr} {xs ys : List V}
theorem SqL.of {K : Zzv} (h : H a = some (.lst xs)) : SqL K H a xs := .inl (.inl h)
theorem SqT.of {K : Zzv} (h : H a = some (.tup xs)) : SqT K H a xs := .inl (.inl h)
theorem Inv.list (I : Inv X pins σ H s) (h : SqL X.K H a xs) : ∃ its : List Value, Vals xs its /\ PlainL s.heap a its.toArray /\ xs.length <= sizeLine := by
 rcases h with h | ⟨o, its, n, hk, hc, hd, hs, hz, r⟩
 ·obtain ⟨z, its, n, r, e⟩ := h.ok I.hok
  exact ⟨its, r, ⟨_, n, e, rfl, rfl, rfl⟩, z⟩
 ·refine ⟨its.toList, r, ⟨o, n, I.kIn a o hk, hc, hd, by simpa using hs⟩, ?_⟩
  have e := r.length
  simp only [Zw1] at e
  omega
theorem Inv.tuple (I : Inv X pins σ H s) (h : SqT X.K H a xs) : ∃ its : List Value, Vals xs its /\ IsTup s.heap a its.toArray /\ xs.length <= sizeLine := by
 rcases h with h | ⟨o, its, n, hk, hc, hs, hz, r⟩
 ·obtain ⟨z, its, r, p⟩ := h.ok I.hok
  exact ⟨its, r, p, z⟩
 ·refine ⟨its.toList, r, ⟨o, I.kIn a o hk, hc, n, by simpa using hs⟩, ?_⟩
  have e := r.length
  simp only [Zw1] at e
  omega
theorem Inv.list_inj (I : Inv X pins σ H s) (h : SqL X.K H a xs) (h' : SqL X.K H a ys) : xs = ys := by
 obtain ⟨its, r, ⟨o, n, e, _, _, d⟩, _⟩ := I.list h
 obtain ⟨its', r', ⟨o', n', e', _, _, d'⟩, _⟩ := I.list h'
 rw [e] at e'; cases e'
 rw [d] at d'
 injection d' with d1 _
 have : its = its' := by simpa using congrArg Array.toList d1
 subst this
 exact r.inj r'
theorem Inv.tuple_inj (I : Inv X pins σ H s) (h : SqT X.K H a xs) (h' : SqT X.K H a ys) : xs = ys := by
 obtain ⟨its, r, ⟨o, e, _, n, d⟩, _⟩ := I.tuple h
 obtain ⟨its', r', ⟨o', e', _, n', d'⟩, _⟩ := I.tuple h'
 rw [e] at e'; cases e'
 rw [d] at d'
 injection d' with d1 _
 have : its = its' := by simpa using congrArg Array.toList d1
 subst this
 exact r.inj r'
end
abbrev Cx.wish (X : Cx) (E : Value -> Shared -> Prop) : Cx := { X with xe := E }
abbrev Cx.nox (X : Cx) : Cx := X.wish fun _ _ => False
theorem Cx.Ok.wish {X : Cx} (ok : X.Ok) (E : Value -> Shared -> Prop) : (X.wish E).Ok :=
 ⟨ok.mod, ok.kind, ok.glob, ok.blt, ok.above, ok.inj, ok.has, ok.cab, ok.hd, ok.frames, ok.stk, ok.exf, ok.bs, ok.bsz, ok.noex, ok.exfs, ok.funs, ok.frf⟩
theorem Cx.Ok.unwish {X : Cx} {E : Value -> Shared -> Prop} (ok : (X.wish E).Ok) : X.Ok :=
 ⟨ok.mod, ok.kind, ok.glob, ok.blt, ok.above, ok.inj, ok.has, ok.cab, ok.hd, ok.frames, ok.stk, ok.exf, ok.bs, ok.bsz, ok.noex, ok.exfs, ok.funs, ok.frf⟩
section
variable {X : Cx} {pins : List (Addr × Obj)} {σ : St} {H : Hp} {s : Shared} {E : Value -> Shared -> Prop}
theorem Inv.wish (I : Inv X pins σ H s) (E : Value -> Shared -> Prop) : Inv (X.wish E) pins σ H s := ⟨I.ok.wish E, I.os, I.bare, I.base, I.loc, I.cell, I.free, I.freeC, I.pin, I.hok, I.len⟩
theorem Inv.unwish (I : Inv (X.wish E) pins σ H s) : Inv X pins σ H s := ⟨I.ok.unwish, I.os, I.bare, I.base, I.loc, I.cell, I.free, I.freeC, I.pin, I.hok, I.len⟩
theorem SP.unwish {D : Ly} {f : Flow} {s' : Shared} (h : SP (X.wish E) pins D f s') : SP X pins D f s' := by
 cases f with
 | next => obtain ⟨σ', H', I, q⟩ := h; exact ⟨σ', H', I.unwish, q⟩
 | brk => obtain ⟨σ', H', I, q⟩ := h; exact ⟨σ', H', I.unwish, q⟩
 | cont => obtain ⟨σ', H', I, q⟩ := h; exact ⟨σ', H', I.unwish, q⟩
 | ret u => obtain ⟨v, σ', H', I, r, q⟩ := h; exact ⟨v, σ', H', I.unwish, r, q⟩
theorem PE.nox {e : Expr} {t : TE} (h : PE X.nox e t) : PE X e t := fun pins s σ H Q I hw =>
 wpAny_mono (h pins s σ H Q (I.wish _) hw) (fun _ _ ⟨v, H', I', r, q⟩ => ⟨v, H', I'.unwish, r, q⟩) fun _ _ z => False.elim z
theorem PT.nox {e : Expr} {t : TT} (h : PT X.nox e t) : PT X e t := fun pins s σ H Q I hw =>
 wpAny_mono (h pins s σ H Q (I.wish _) hw) (fun _ _ ⟨H', I', q⟩ => ⟨H', I'.unwish, q⟩) fun _ _ z => False.elim z
theorem PSs.nox {st : List Stmt} {t : TS} (h : PSs X.nox st t) : PSs X st t := fun pins s σ H D I hw =>
 wpAny_mono (h pins s σ H D (I.wish _) hw) (fun _ _ q => q.unwish) fun _ _ z => False.elim z
end
section
variable {X : Cx} {st : Stmt} {rest : List Stmt} {t u : TS} {e : Expr} {te : TE} {pos : Pos}
def tNext : TS := fun D σ H => D.nx σ H
def Tn (t u : TS) : TS := fun D σ H => t { D with nx := u D } σ H
theorem Au : PSs X [] tNext := fun _ _ σ H _ I h => wpAny_execs_nil ⟨σ, H, I, h⟩
theorem A2 (h1 : PS X st t) (h2 : PSs X rest u) : PSs X (st :: rest) (Tn t u) := by
 intro pins s σ H D I h
 refine wpAny_execs_cons (thn (h1 pins s σ H { D with nx := u D } I h) fun f s1 q => ?_)
 cases f with
 | next =>
  obtain ⟨σ', H', I', q⟩ := q
  exact h2 pins s1 σ' H' D I' q
 | ret v => exact q
 | brk => exact q
 | cont => exact q
theorem A7 (h1 : PS X st t) : PSs X [st] t := by
 intro pins s σ H D I h
 refine wpAny_execs_cons (thn (h1 pins s σ H D I h) fun f s1 q => ?_)
 cases f with
 | next => exact wpAny_execs_nil q
 | ret v => exact q
 | brk => exact q
 | cont => exact q
theorem Inv.quiet {pins : List (Addr × Obj)} {σ : St} {H : Hp} {s : Shared} (I : Inv X pins σ H s) : interactive X.env = false := by simp [interactive, I.ok.kind]
def V8 (te : TE) : TS := fun D σ H => te σ H fun _ H1 => D.nx σ H1
theorem B9 (he : PE X e te) (hs : swapsWith e none pos.line X.env = pure false := by rfl) : PS X (.Expr e pos) (V8 te) := by
 intro pins s σ H D I h
 exact wpAny_Expr_any (thn (he pins s σ H _ I h) fun v s1 ⟨x, H1, I1, r1, q1⟩ => ⟨σ, H1, I1, q1⟩) I.quiet hs
def bj (te : TE) : TS := fun D σ H => te σ H D.rt
theorem Am (he : PE X e te) : PS X (.Return (some e) pos) (bj te) := by
 intro pins s σ H D I h
 exact wpAny_Return_some (thn (he pins s σ H _ I h) fun v s1 ⟨x, H1, I1, r1, q1⟩ => ⟨x, σ, H1, I1, r1, q1⟩)
def Ya : TS := fun D _ H => D.rt .non H
def bp (c : TT) (t u : TS) : TS := fun D σ H => c σ H fun b H1 => if b = true then t D σ H1 else u D σ H1
theorem Bf {c : Expr} {a b : List Stmt} {tc : TT} (hc : PT X c tc) (ha : PSs X a t) (hb : PSs X b u) : PS X (.If c a b pos) (bp tc t u) := by
 intro pins s σ H D I h
 refine wpAny_If (thn (hc pins s σ H _ I h) fun d s1 ⟨H1, I1, q1⟩ => ?_)
 cases d with
 | true => exact ha pins s1 σ H1 D I1 q1
 | false => exact hb pins s1 σ H1 D I1 q1
def tNever : TS := fun _ _ _ => False
theorem Yv : PS X st tNever := fun _ _ _ _ _ _ h => h.elim
theorem P4 {sts : List Stmt} : PSs X sts tNever := fun _ _ _ _ _ _ h => h.elim
end
abbrev TG := V -> St -> Hp -> (St -> Hp -> Prop) -> Prop
abbrev TGs := List V -> St -> Hp -> (St -> Hp -> Prop) -> Prop
def PG (X : Cx) (target : Expr) (t : TG) : Prop :=
 ∀ (pins : List (Addr × Obj)) (s : Shared) (σ : St) (H : Hp) (v : V) (u : Value) (Q : St -> Hp -> Prop), Inv X pins σ H s -> RelV v u -> t v σ H Q ->
  wpAny (model X.prog X.w) X.A (assign target X.env u) (fun _ s' => ∃ σ' H', Inv X pins σ' H' s' /\ Q σ' H') X.xe s
def PGs (X : Cx) (ts : List Expr) (t : TGs) : Prop :=
 ∀ (pins : List (Addr × Obj)) (s : Shared) (σ : St) (H : Hp) (vs : List V) (us : List Value) (Q : St -> Hp -> Prop), Inv X pins σ H s -> Vals vs us -> t vs σ H Q ->
  wpAny (model X.prog X.w) X.A (assignInOrder ((assignEach ts X.env).map (·.2)) us) (fun _ s' => ∃ σ' H', Inv X pins σ' H' s' /\ Q σ' H') X.xe s
abbrev TSet := V -> V -> V -> Hp -> (Hp -> Prop) -> Prop
def av (X : Cx) (t : TSet) : Prop :=
 ∀ (pins : List (Addr × Obj)) (s : Shared) (σ : St) (H : Hp) (o i v : V) (ov iv u : Value) (Q : Hp -> Prop), Inv X pins σ H s -> RelV o ov -> RelV i iv -> RelV v u -> t o i v H Q ->
  wpAny (model X.prog X.w) X.A (setItem ov iv u) (fun _ s' => ∃ H', Inv X pins σ H' s' /\ Q H') X.xe s
abbrev TIp := V -> V -> Hp -> VK -> Prop
def PIp (X : Cx) (op : Operator) (t : TIp) : Prop :=
 ∀ (pins : List (Addr × Obj)) (s : Shared) (σ : St) (H : Hp) (x y : V) (v u : Value) (Q : VK), Inv X pins σ H s -> RelV x v -> RelV y u -> t x y H Q ->
  wpAny (model X.prog X.w) X.A (inplaceOp op v u) (EP X pins σ Q) X.xe s
section
variable {X : Cx} {pos : Pos}
def D6 (i : Nat) : TG := fun v σ H Q => Q (σ.set i (some v)) H
theorem Ac {i : Nat} {x : Str} (hN : X.N.Nodup) (hi : X.N[i]? = some x) (hx : Loc X.env.scope x) (hf : X.fn x = true \/ X.env.scope.names.lookup x = some .local := by first | exact .inl rfl | exact .inr rfl | assumption) : PG X (.Name x pos) (D6 i) := by
 intro pins s σ H v u Q I r h
 exact wpAny_assign_Name (Na I hN hi hx r (fun s' I' => ⟨_, H, I', h⟩) hf)
def gNil : TGs := fun vs σ H Q => vs = [] /\ Q σ H
def Fg (t : TG) (u : TGs) : TGs := fun vs σ H Q => ∃ v r, vs = v :: r /\ t v σ H fun σ' H' => u r σ' H' Q
theorem Bh : PGs X [] gNil := by
 intro pins s σ H vs us Q I r h
 obtain ⟨e, h⟩ := h
 subst e
 cases r
 exact assignInOrder_nil ⟨σ, H, I, h⟩
theorem Ag {e : Expr} {es : List Expr} {t : TG} {u : TGs} (h1 : PG X e t) (h2 : PGs X es u)
  (hs : (assignEach (e :: es) X.env).map (·.2) = assign e X.env :: (assignEach es X.env).map (·.2) := by rfl) : PGs X (e :: es) (Fg t u) := by
 intro pins s σ H vs us Q I r h
 obtain ⟨v, vr, e1, h⟩ := h
 subst e1
 cases r with
 | cons r rr =>
  rw [hs]
  refine assignInOrder_cons (thn (h1 pins s σ H _ _ _ I r h) fun _ s1 ⟨σ1, H1, I1, q1⟩ => ?_)
  exact h2 pins s1 σ1 H1 _ _ Q I1 rr q1
def Uj (K : Zzv) (n : Nat) (t : TGs) : TG := fun v σ H Q => ∃ a xs, v = .ref a /\ SqT K H a xs /\ xs.length = n /\ t xs σ H Q
theorem C1 {es : List Expr} {k : Nat} {t : TGs} {n : Nat} (hc : X.calm = true) (h : PGs X es t)
  (hn : (assignEach es X.env).length = n := by rfl) (hst : (assignEach es X.env).findIdx? (·.1) = none := by rfl) : PG X (.Tuple es k pos) (Uj X.K n t) := by
 intro pins s σ H v u Q I r hw
 obtain ⟨a, xs, e1, hq, hl, hw⟩ := hw
 subst e1
 cases r
 obtain ⟨its, rv, ht, hz⟩ := I.tuple hq
 refine assign_Tuple_tuple (I.ok.hd hc) ht (by simp [hn, <- hl, rv.length]) hst fun h' hx => ?_
 have I1 : Inv X pins σ H { s with heap := h' } := I.kept (t' := s.toks) fun b o e => hx b o (Zys (Zze e)) e
 exact h pins _ σ H xs _ Q I1 (by simpa using rv) hw
def ff (to ti : TE) (t : TSet) : TG := fun v σ H Q => to σ H fun o H1 => ti σ H1 fun i H2 => t o i v H2 fun H3 => Q σ H3
theorem Ez {o i : Expr} {to ti : TE} {t : TSet} (ho : PE X o to) (hi : PE X i ti) (hs : av X t)
  (ha : ∀ v, assign (.Subscript o i pos) X.env v = (do
   let ov <- holding [v] (eval o X.env)
   let iv <- holding [v, ov] (eval i X.env)
   standAt pos
   holding [v, ov, iv] (setItem ov iv v)
   release [v, ov, iv] []) := by intro _; rfl) : PG X (.Subscript o i pos) (ff to ti t) := by
 intro pins s σ H v u Q I r h
 rw [ha]
 refine wpAny_bind (wpAny_holding (thn (ho pins s σ H _ I h) fun ov s1 ⟨x, H1, I1, r1, q1⟩ => ?_))
 refine wpAny_bind (wpAny_holding (thn (hi pins s1 σ H1 _ I1 q1) fun iv s2 ⟨y, H2, I2, r2, q2⟩ => ?_))
 refine wpAny_bind (wpAny_standAt (wpAny_bind (wpAny_holding (thn (hs pins s2 σ H2 x y v ov iv u _ I2 r1 r2 r q2) fun _ s3 ⟨H3, I3, q3⟩ => ?_))))
 exact wpAny_release ⟨σ, H3, I3, q3⟩
def Wh (te : TE) (g : TG) : TS := fun D σ H => te σ H fun x H1 => g x σ H1 D.nx
theorem Ek {tg e : Expr} {te : TE} {g : TG} (he : PE X e te) (hg : PG X tg g) (hs : swapsWithSole [tg] e pos.line X.env = pure false := by rfl) (hw : swappedStores [tg] e X.env = pure none := by rfl)
  (h1 : (assignEach [tg] X.env).map (·.2) = [assign tg X.env] := by rfl) : PS X (.Assign [tg] e pos) (Wh te g) := by
 intro pins s σ H D I h
 refine wpAny_Assign_stores (thn (he pins s σ H _ I h) fun v s1 ⟨x, H1, I1, r1, q1⟩ => ?_) hs hw
 rw [h1]
 exact thn (hg pins s1 σ H1 x v _ I1 r1 q1) fun _ s2 q => q
theorem Af {i : Nat} {x : Str} {e : Expr} {te : TE} {pos' : Pos} (hN : X.N.Nodup) (hi : X.N[i]? = some x) (hx : Loc X.env.scope x) (he : PE X e te) (hs : swapsWith e (some (.Name x pos')) pos.line X.env = pure false := by rfl) (hf : X.fn x = true \/ X.env.scope.names.lookup x = some .local := by first | exact .inl rfl | exact .inr rfl | assumption) :
  PS X (.Assign [.Name x pos'] e pos) (Wh te (D6 i)) := by
 intro pins s σ H D I h
 refine wpAny_Assign_Name (thn (he pins s σ H _ I h) fun v s1 ⟨y, H1, I1, r1, q1⟩ => ?_) hs
 exact Na I1 hN hi hx r1 (fun s2 I2 => ⟨_, H1, I2, q1⟩) hf
def br (i : Nat) (te : TE) (ti : TIp) : TS := fun D σ H => ∃ x, σ[i]? = some (some x) /\ te σ H fun y H1 => ti x y H1 fun z H2 => D.nx (σ.set i (some z)) H2
theorem Li {i : Nat} {x : Str} {e : Expr} {te : TE} {op : Operator} {ti : TIp} {pos' : Pos} (hN : X.N.Nodup) (hi : X.N[i]? = some x) (hx : Loc X.env.scope x) (he : PE X e te) (ho : PIp X op ti) (hf : X.fn x = true \/ X.env.scope.names.lookup x = some .local := by first | exact .inl rfl | exact .inr rfl | assumption) :
  PS X (.AugAssign (.Name x pos') op e pos) (br i te ti) := by
 intro pins s σ H D I h
 obtain ⟨v, e1, h⟩ := h
 obtain ⟨m, hn, hl⟩ := I.loc
 have vis : Vis X.env.scope x := by rcases hx with k | k; exact .inl k; exact .inr (.inl k)
 obtain ⟨u, r, l⟩ := hl i x v hi e1 vis
 refine wpAny_AugAssign_Name ?_
 have go : wpAny (model X.prog X.w) X.A (eval e X.env) (fun w s₂ => wpAny (model X.prog X.w) X.A (inplaceOp op u w) (fun r s₃ => wpAny (model X.prog X.w) X.A (storeName X.env x r) (fun _ => SP X pins D .next) X.xe s₃) X.xe s₂) X.xe s := by
  refine thn (he pins s σ H _ I h) fun w s1 ⟨y, H1, I1, r1, q1⟩ => ?_
  refine thn (ho pins s1 σ H1 v y u w _ I1 r r1 q1) fun z s2 ⟨zv, H2, I2, r2, q2⟩ => ?_
  exact Na I2 hN hi hx r2 (fun s3 I3 => ⟨_, H2, I3, q2⟩) hf
 rcases l with ⟨hk, hm⟩ | ⟨hk, c, hc, hcell⟩
 ·exact wpAny_loadName_local I.ok.kind hk hn hm go
 ·rcases hk with hk | hk
  ·exact wpAny_loadName_cell I.ok.kind hk hc hcell go
  ·rcases hx with k | k
   ·have : X.env.scope.names.lookup x = some .free := hk
    rw [k] at this; cases this
   ·have : X.env.scope.names.lookup x = some .free := hk
    rw [k] at this; cases this
def V9 (to ti te : TE) (tget : V -> V -> Hp -> VK -> Prop) (tip : TIp) (tset : TSet) : TS := fun D σ H => to σ H fun o H1 => ti σ H1 fun i H2 => tget o i H2 fun x H3 => te σ H3 fun y H4 => tip x y H4 fun z H5 => tset o i z H5 fun H6 => D.nx σ H6
def mj (X : Cx) (t : V -> V -> Hp -> VK -> Prop) : Prop :=
 ∀ (pins : List (Addr × Obj)) (s : Shared) (σ : St) (H : Hp) (o i : V) (ov iv : Value) (Q : VK), Inv X pins σ H s -> RelV o ov -> RelV i iv -> t o i H Q ->
  wpAny (model X.prog X.w) X.A (getItem ov iv) (EP X pins σ Q) X.xe s
theorem Kp {o i e : Expr} {to ti te : TE} {tget : V -> V -> Hp -> VK -> Prop} {tip : TIp} {tset : TSet} {op : Operator} {tpos : Pos} (ho : PE X o to) (hi : PE X i ti) (hg : mj X tget) (he : PE X e te) (hp : PIp X op tip) (hs : av X tset)
  (ha : ∀ ov iv new, augStore i ov iv new = (do holding [new, ov, iv] (setItem ov iv new); release [new, ov, iv] []; pure .next) := by intros; rfl) : PS X (.AugAssign (.Subscript o i tpos) op e pos) (V9 to ti te tget tip tset) := by
 intro pins s σ H D I h
 refine wpAny_AugAssign_SubscriptAny (thn (ho pins s σ H _ I h) fun ov s1 ⟨x1, H1, I1, r1, q1⟩ => ?_) ha
 refine thn (hi pins s1 σ H1 _ I1 q1) fun iv s2 ⟨x2, H2, I2, r2, q2⟩ => ?_
 refine thn (hg pins s2 σ H2 x1 x2 ov iv _ I2 r1 r2 q2) fun old s3 ⟨x3, H3, I3, r3, q3⟩ => ?_
 refine thn (he pins s3 σ H3 _ I3 q3) fun v s4 ⟨x4, H4, I4, r4, q4⟩ => ?_
 refine thn (hp pins s4 σ H4 x3 x4 old v _ I4 r3 r4 q4) fun new s5 ⟨x5, H5, I5, r5, q5⟩ => ?_
 exact thn (hs pins s5 σ H5 x1 x2 x5 ov iv new _ I5 r1 r2 r5 q5) fun _ s6 ⟨H6, I6, q6⟩ => ⟨σ, H6, I6, q6⟩
end
section
variable {X : Cx} {pos : Pos}
def i6 (c : TT) (tb : TS) : TS := fun D σ H => ∃ W : Nat -> St -> Hp -> Prop, (∃ m, W m σ H) /\ ∀ m σ H, W m σ H ->
 c σ H fun b H1 => if b = true then ∃ N : St -> Hp -> Prop, (∀ σ' H', N σ' H' -> ∃ m', m' < m /\ W m' σ' H') /\ tb { D with nx := N, ct := N, bk := D.nx } σ H1 else D.nx σ H1
theorem Rv {c : Expr} {body : List Stmt} {tc : TT} {tb : TS} (hp : PassesOwn (model X.prog X.w) X.A X.env X.xe) (hc : PT X c tc) (hb : PSs X body tb) : PS X (.While c body [] pos) (i6 tc tb) := by
 intro pins s σ H D I h
 obtain ⟨W, ⟨m0, w0⟩, turn⟩ := h
 refine wpAny_While (codeAny_whileLoop (fun n s' => ∃ σ' H', Inv X pins σ' H' s' /\ W n σ' H') ?_ m0 ⟨σ, H, I, w0⟩)
 rintro n s1 ⟨σ1, H1, I1, w1⟩
 refine wpAny_passesOwn hp (thn (hc pins s1 σ1 H1 _ I1 (turn n σ1 H1 w1)) fun b s2 ⟨H2, I2, q2⟩ => ?_)
 cases b with
 | true =>
  obtain ⟨N, hN, q2⟩ := q2
  rw [if_pos rfl]
  refine wpAny_passesOwn hp (thn (hb pins s2 σ1 H2 _ I2 q2) fun f s3 q3 => ?_)
  cases f with
  | next =>
   obtain ⟨σ3, H3, I3, n3⟩ := q3
   obtain ⟨m', hm, w3⟩ := hN σ3 H3 n3
   exact ⟨m', hm, σ3, H3, I3, w3⟩
  | cont =>
   obtain ⟨σ3, H3, I3, n3⟩ := q3
   obtain ⟨m', hm, w3⟩ := hN σ3 H3 n3
   exact ⟨m', hm, σ3, H3, I3, w3⟩
  | brk => exact q3
  | ret v => exact q3
 | false =>
  rw [if_neg Zz0]
  exact wpAny_execs_nil ⟨σ1, H2, I2, q2⟩
end
structure It where
 go : Nat -> Hp -> Prop
 yld : Nat -> Hp -> V -> Hp -> Prop
 stop : Nat -> Hp -> Prop
def J5 (X : Cx) (pins : List (Addr × Obj)) (H : Hp) (b : Addr) : Prop :=
 H b = none /\ b ≠ X.env.locals /\ b ∉ X.fs /\ (b ∈ X.ex \/ X.s₀.heap.objs.size <= b) /\ (∀ x c, X.env.cells.lookup x = some c -> c ≠ b) /\ ∀ p ∈ X.pn ++ pins, p.1 ≠ b
theorem Inv.fpOk {X : Cx} {pins : List (Addr × Obj)} {σ : St} {H H' : Hp} {s : Shared} {b : Addr} (I : Inv X pins σ H s) (hb : s.heap.objs.size <= b) (hn : H' b = none) : J5 X pins H' b := by
 refine ⟨hn, Zxf (Zz4 I.lt hb), I.nofs hb, .inr (Zyw I.sz hb), fun x c e z => ?_, fun p hp z => ?_⟩
 ·obtain ⟨v, q⟩ := I.cell x c e
  exact absurd (Zz4 q.lt (by rw [z]; exact hb)) (Zxa _)
 ·exact absurd (Zz4 (Zze (I.pin p hp).1) (by rw [z]; exact hb)) (Zxa _)
structure L8 (P : Program) (w : World) (K : Zzv) (tg : Expr) (J : It) (fp : List Addr) (it : Addr) (tn : Nat -> Heap -> Prop) : Prop where
 mem : it ∈ fp
 obj : ∀ i h, tn i h -> ∀ b ∈ fp, ∃ o, h.get? b = some o /\ ∀ v, o.data ≠ .cell v
 keep : ∀ i h h', tn i h -> (∀ b ∈ fp, ∀ o, h.get? b = some o -> h'.get? b = some o) -> tn i h'
 item : ∀ (X : Cx), X.prog = P -> X.w = w -> X.K = K -> X.calm = true -> ∀ (i : Nat) (pins : List (Addr × Obj)) (s : Shared) (σ : St) (H : Hp) (E : Value -> Shared -> Prop), Inv X pins σ H s -> (∀ b ∈ fp, J5 X pins H b) -> tn i s.heap -> J.go i H ->
  wpAny (model P w) X.A (pyNext (.ref it)) (fun r s1 => ∃ u, r = some u /\
   wpAny (model P w) X.A (letOwnedTupleGo tg (.ref it) u) (fun _ s2 => ∃ x H', Inv X pins σ H' s2 /\ RelV x u /\ J.yld i H x H' /\ tn (i + 1) s2.heap /\ ∀ b ∈ fp, H' b = none) E s1) E s
 done : ∀ (X : Cx), X.prog = P -> X.w = w -> X.K = K -> X.calm = true -> ∀ (i : Nat) (pins : List (Addr × Obj)) (s : Shared) (σ : St) (H : Hp) (E : Value -> Shared -> Prop), Inv X pins σ H s -> (∀ b ∈ fp, J5 X pins H b) -> tn i s.heap -> J.stop i H ->
  wpAny (model P w) X.A (pyNext (.ref it)) (fun r s1 => r = none /\ Inv X pins σ H s1) E s
 self : ∀ (A : Around) (i : Nat) (s : Shared) (Q : Value -> Shared -> Prop) (E : Value -> Shared -> Prop), tn i s.heap -> Q (.ref it) s -> wpAny (model P w) A (pyIter (.ref it)) Q E s
abbrev TI := St -> Hp -> (It -> Hp -> Prop) -> Prop
def PIE (X : Cx) (pins : List (Addr × Obj)) (σ : St) (tg : Expr) (R : It -> Hp -> Prop) (itv : Value) (s2 : Shared) : Prop :=
 ∃ (it : Addr) (fp : List Addr) (tn : Nat -> Heap -> Prop) (J : It) (H' : Hp), itv = .ref it /\ Inv X pins σ H' s2 /\ L8 X.prog X.w X.K tg J fp it tn /\ tn 0 s2.heap /\ (∀ b ∈ fp, J5 X pins H' b) /\ R J H'
def PI (X : Cx) (tg iter : Expr) (wi : TI) : Prop :=
 ∀ (pins : List (Addr × Obj)) (s : Shared) (σ : St) (H : Hp) (R : It -> Hp -> Prop), Inv X pins σ H s -> wi σ H R ->
  wpAny (model X.prog X.w) X.A (eval iter X.env) (fun v s1 => wpAny (model X.prog X.w) X.A (pyIter v) (PIE X pins σ tg R) X.xe s1) X.xe s
theorem Pe {M : Model} {A : Around} {E : Value -> Shared -> Prop} {s : Shared} {tg : Expr} {it : Addr} {u : Value} {o : Obj} {n : String} {vs : Array Value} {Q : Unit -> Shared -> Prop} (ho : s.heap.get? it = some o) (hc : o.cls = .type n) (hd : o.data = .fields vs)
  (hn : ["enumerate", "zip", "dict_itemiterator", "dict_reverseitemiterator", "odict_iterator", "itertools.zip_longest", "itertools.pairwise"].contains n = false) (hQ : Q () s) : wpAny M A (letOwnedTupleGo tg (.ref it) u) Q E s := by
 unfold letOwnedTupleGo
 cases tg <;> first
  | exact wpAny_pure hQ
  | (cases u <;> first
    | exact wpAny_pure hQ
    | (refine wpAny_bind (wpAny_load ho ?_)
       rw [hc, hd]
       show wpAny M A (if (["enumerate", "zip", "dict_itemiterator", "dict_reverseitemiterator", "odict_iterator", "itertools.zip_longest", "itertools.pairwise"].contains n && vs[0]? == some (rawInt _)) = true then _ else _) Q E s
       rw [if_neg (by intro h; rw [hn, Bool.false_and] at h; cases h)]
       exact wpAny_pure hQ))
def Itl (K : Zzv) (a : Addr) : It :=
 ⟨fun i H => ∃ xs x, SqL K H a xs /\ xs[i]? = some x, fun i H x H' => H' = H /\ ∀ xs, SqL K H a xs -> xs[i]? = some x, fun i H => ∃ xs, SqL K H a xs /\ xs.length <= i⟩
def Itt (K : Zzv) (a : Addr) : It :=
 ⟨fun i H => ∃ xs x, SqT K H a xs /\ xs[i]? = some x, fun i H x H' => H' = H /\ ∀ xs, SqT K H a xs -> xs[i]? = some x, fun i H => ∃ xs, SqT K H a xs /\ xs.length <= i⟩
def Itr (lo : Int) (n : Nat) : It := ⟨fun i _ => i < n, fun i H x H' => H' = H /\ x = .int (lo + i), fun i _ => n <= i⟩
theorem Ea {P : Program} {w : World} {K : Zzv} {tg : Expr} (a it : Addr) : L8 P w K tg (Itl K a) [it] it (fun i h => h.IsListIter it a i) where
 mem := by simp
 obj := fun i h st b hb => by
  have e : b = it := by simpa using hb
  subst e
  obtain ⟨o, e, c, d⟩ := st
  exact ⟨o, e, fun v z => by rw [d] at z; cases z⟩
 keep := fun i h h' st k => st.at fun o e => k it (by simp) o e
 item := by
  intro X hP hw hK hc i pins s σ H E I hf st hg
  subst hP hw hK
  obtain ⟨xs, x, hq, hx⟩ := hg
  obtain ⟨its, rv, p, hz⟩ := I.list hq
  obtain ⟨u, hu, ru⟩ := rv.get hx
  obtain ⟨f0, f1, f2, f3, f4, f5⟩ := hf it (by simp)
  refine wpAny_pyNext_list_item st p.isList (x := u) (by simpa using hu) fun h' st' sb => ?_
  have I1 : Inv X pins σ H { s with heap := h' } := I.turned (t' := s.toks) (fun b o hb e => (sb.2 b hb).trans e) f0 f1 f3 f4 f5
  obtain ⟨o, e, c, d⟩ := id st'
  exact ⟨u, rfl, Pe (s := { s with heap := h' }) e c d (by decide) ⟨x, H, I1, ru, ⟨rfl, fun ys hy => by rw [I.list_inj hy hq]; exact hx⟩, st', fun b hb => (hf b hb).1⟩⟩
 done := by
  intro X hP hw hK hc i pins s σ H E I hf st hg
  subst hP hw hK
  obtain ⟨xs, hq, hx⟩ := hg
  obtain ⟨its, rv, p, hz⟩ := I.list hq
  obtain ⟨f0, f1, f2, f3, f4, f5⟩ := hf it (by simp)
  have hl := rv.length
  exact wpAny_pyNext_list_end (I.ok.hd hc) st p.isList (by simp; omega) fun h' eb => ⟨rfl, I.turned (t' := s.toks) (fun b o hb e => eb b o hb e) f0 f1 f3 f4 f5⟩
 self := fun _ _ _ _ _ st h => wpAny_pyIter_listiter st h
theorem E9 {P : Program} {w : World} {K : Zzv} {tg : Expr} (a it : Addr) : L8 P w K tg (Itt K a) [it] it (fun i h => h.IsTupleIter it a i) where
 mem := by simp
 obj := fun i h st b hb => by
  have e : b = it := by simpa using hb
  subst e
  obtain ⟨o, e, c, d⟩ := st
  exact ⟨o, e, fun v z => by rw [d] at z; cases z⟩
 keep := fun i h h' st k => st.at fun o e => k it (by simp) o e
 item := by
  intro X hP hw hK hc i pins s σ H E I hf st hg
  subst hP hw hK
  obtain ⟨xs, x, hq, hx⟩ := hg
  obtain ⟨its, rv, p, hz⟩ := I.tuple hq
  obtain ⟨u, hu, ru⟩ := rv.get hx
  obtain ⟨f0, f1, f2, f3, f4, f5⟩ := hf it (by simp)
  refine wpAny_pyNext_tuple_item st (show s.heap.IsTuple a its.toArray from p) (x := u) (by simpa using hu) fun h' st' sb => ?_
  have I1 : Inv X pins σ H { s with heap := h' } := I.turned (t' := s.toks) (fun b o hb e => (sb.2 b hb).trans e) f0 f1 f3 f4 f5
  obtain ⟨o, e, c, d⟩ := id st'
  exact ⟨u, rfl, Pe (s := { s with heap := h' }) e c d (by decide) ⟨x, H, I1, ru, ⟨rfl, fun ys hy => by rw [I.tuple_inj hy hq]; exact hx⟩, st', fun b hb => (hf b hb).1⟩⟩
 done := by
  intro X hP hw hK hc i pins s σ H E I hf st hg
  subst hP hw hK
  obtain ⟨xs, hq, hx⟩ := hg
  obtain ⟨its, rv, p, hz⟩ := I.tuple hq
  obtain ⟨f0, f1, f2, f3, f4, f5⟩ := hf it (by simp)
  have hl := rv.length
  exact wpAny_pyNext_tuple_end (I.ok.hd hc) st (show s.heap.IsTuple a its.toArray from p) (by simp; omega) fun h' eb => ⟨rfl, I.turned (t' := s.toks) (fun b o hb e => eb b o hb e) f0 f1 f3 f4 f5⟩
 self := fun _ _ _ _ _ st h => wpAny_pyIter_tupleiter st h
theorem Tg {P : Program} {w : World} {K : Zzv} {tg : Expr} (it : Addr) (lo : Int) (n : Nat) : L8 P w K tg (Itr lo n) [it] it (fun i h => IsRangeIter h it (lo + (i : Nat) * 1) ((n : Int) - (i : Nat)) 1) where
 mem := by simp
 obj := fun i h st b hb => by
  have e : b = it := by simpa using hb
  subst e
  exact ⟨_, st, fun v z => by
   have z' : Data.fields _ = Data.cell v := z
   cases z'⟩
 keep := fun i h h' st k => k it (by simp) _ st
 item := by
  intro X hP hw hK hc i pins s σ H E I hf st hg
  subst hP hw hK
  obtain ⟨f0, f1, f2, f3, f4, f5⟩ := hf it (by simp)
  have W := Walks.range (prog := X.prog) (w := X.w) (I.ok.hd hc) it lo 1 n
  refine W.item i s _ _ hg st fun v h' tk hv st' kk => ?_
  obtain ⟨t, rfl⟩ := hv
  have I1 : Inv X pins σ H { s with heap := h', toks := tk } := I.turned (fun b o hb e => kk b o (by simpa using hb) e) f0 f1 f3 f4 f5
  refine ⟨_, rfl, Pe (s := { s with heap := h', toks := tk }) (n := "range_iterator") st' rfl rfl (by decide) ⟨.int (lo + i), H, I1, ⟨t, ?_⟩, ⟨rfl, rfl⟩, st', fun b hb => (hf b hb).1⟩⟩
  rw [Int.mul_one]
 done := by
  intro X hP hw hK hc i pins s σ H E I hf st hg
  subst hP hw hK
  obtain ⟨f0, f1, f2, f3, f4, f5⟩ := hf it (by simp)
  exact wpAny_pyNext_range_end (I.ok.hd hc) st (by have : n <= i := hg; omega) fun h' eb => ⟨rfl, I.turned (t' := s.toks) (fun b o hb e => eb b o hb e) f0 f1 f3 f4 f5⟩
 self := fun _ _ _ _ _ st h => wpAny_pyIter_rangeiter st h
section
variable {X : Cx} {tg : Expr}
def gq (K : Zzv) (tl : TE) : TI := fun σ H R => tl σ H fun x H1 => ∃ a, x = .ref a /\ (∃ xs, SqL K H1 a xs) /\ R (Itl K a) H1
theorem cj {l : Expr} {tl : TE} (hl : PE X l tl) : PI X tg l (gq X.K tl) := by
 intro pins s σ H R I h
 refine thn (hl pins s σ H _ I h) fun v s1 ⟨x, H1, I1, r1, q1⟩ => ?_
 obtain ⟨a, e, ⟨xs, hq⟩, q⟩ := q1
 subst e
 cases r1
 obtain ⟨its, rv, p, hz⟩ := I1.list hq
 refine wpAny_pyIter_list p.isList ?_
 refine ⟨s1.heap.objs.size, [s1.heap.objs.size], _, _, H1, rfl, I1.kept (t' := s1.toks) fun b o e => Zzy _ e, Ea a _, ⟨_, Zzj _ rfl, rfl, rfl⟩, fun b hb => ?_, q⟩
 have e : b = s1.heap.objs.size := by simpa using hb
 subst e
 exact I1.fpOk (Zzs _) (I1.hok.fresh (Zzs _))
theorem Yo {pins : List (Addr × Obj)} {σ : St} {H : Hp} {s : Shared} {R : It -> Hp -> Prop} {E : Value -> Shared -> Prop} {lo hi : Int} {t u v : Tok} {tk : Nat} (I : Inv X pins σ H s) (h1 : -(2 ^ 62) <= lo) (h2 : lo < 2 ^ 62) (h3 : -(2 ^ 62) <= hi) (h4 : hi < 2 ^ 62)
  (q : R (Itr lo (hi - lo).toNat) H) : wpAny (model X.prog X.w) X.A (pyIter (.ref s.heap.objs.size)) (PIE X pins σ tg R) E { s with heap := s.heap.push { cls := .type "range", data := .fields #[.int lo t, .int hi u, .int 1 v] }, toks := tk } := by
 refine wpAny_pyIter_range (IsRange.new ..) (small_one h1 h2 h3 h4) ?_
 have I1 : Inv X pins σ H { s with heap := s.heap.push { cls := .type "range", data := .fields #[.int lo t, .int hi u, .int 1 v] }, toks := tk } := I.kept fun b o e => Zzy _ e
 refine ⟨(s.heap.push { cls := .type "range", data := .fields #[.int lo t, .int hi u, .int 1 v] }).objs.size, [(s.heap.push { cls := .type "range", data := .fields #[.int lo t, .int hi u, .int 1 v] }).objs.size], _, _, H, rfl,
  I1.kept (t' := tk) fun b o e => Zzy _ e, Tg _ lo (hi - lo).toNat, ?_, fun b hb => ?_, q⟩
 ·have e1 : lo + ((0 : Nat) : Int) * 1 = lo := by simp
  have e2 : (((hi - lo).toNat : Nat) : Int) - ((0 : Nat) : Int) = Builtin.Range.rangeSize lo hi 1 := by rw [rangeSize_one]; split <;> omega
  show IsRangeIter _ _ (lo + ((0 : Nat) : Int) * 1) ((((hi - lo).toNat : Nat) : Int) - ((0 : Nat) : Int)) 1
  rw [e1, e2]
  exact Zzj _ rfl
 ·have e : b = (s.heap.push { cls := .type "range", data := .fields #[.int lo t, .int hi u, .int 1 v] }).objs.size := by simpa using hb
  subst e
  exact I1.fpOk (Zzs _) (I1.hok.fresh (Zzs _))
def Sv (ta : TA) : TI := fun σ H R => ta σ H fun vs H1 => ∃ j : Int, vs = [.int j] /\ -(2 ^ 62) <= j /\ j < 2 ^ 62 /\ R (Itr 0 j.toNat) H1
def Zn (ta : TA) : TI := fun σ H R => ta σ H fun vs H1 => ∃ i j : Int, vs = [.int i, .int j] /\ (-(2 ^ 62) <= i /\ i < 2 ^ 62 /\ -(2 ^ 62) <= j /\ j < 2 ^ 62) /\ R (Itr i (j - i).toNat) H1
theorem Wn {a : Expr} {ta : TA} {p pos : Pos} (hg : Gl X "range") (hm : X.mg "range" = none) (ha : PA X [a] ta) (hs : starEach [a] X.env = [(false, eval a X.env)] := by rfl) : PI X tg (.Call (.Name "range" p) [a] [] pos) (Sv ta) := by
 intro pins s σ H R I h
 refine Call_ (Fa I hg hm boot_range (Zy2 (thn (ha pos pins s σ H _ I h) fun us s1 ⟨vs, H1, I1, r1, q1⟩ => ?_) hs rfl))
 obtain ⟨j, e, q1, q2, q⟩ := q1
 subst e
 cases r1 with
 | cons r rr =>
  cases rr
  obtain ⟨t, rfl⟩ := r
  exact call_range_1 (Yo I1 (by omega) (by omega) q1 q2 (by simpa using q))
def kg (wi : TI) (g : TG) (tb : TS) : TS := fun D σ H => wi σ H fun J H1 => ∃ W : Nat -> Nat -> St -> Hp -> Prop, (∃ m, W 0 m σ H1) /\ ∀ i m σ H, W i m σ H ->
 (J.stop i H /\ D.nx σ H) \/ (J.go i H /\ ∃ N : St -> Hp -> Prop, (∀ σ' H', N σ' H' -> ∃ m', m' < m /\ W (i + 1) m' σ' H') /\ ∀ x H', J.yld i H x H' -> g x σ H' fun σ2 H2 => tb { D with nx := N, ct := N, bk := D.nx } σ2 H2)
def Lj (fp : List Addr) (h : Heap) : List (Addr × Obj) := fp.filterMap fun b => (h.get? b).map fun o => (b, o)
theorem Ib {fp : List Addr} {h : Heap} {b : Addr} {o : Obj} (hb : b ∈ fp) (e : h.get? b = some o) : (b, o) ∈ Lj fp h := Zww.mpr ⟨b, hb, by rw [e]; rfl⟩
theorem X0 {fp : List Addr} {h : Heap} {p : Addr × Obj} (hp : p ∈ Lj fp h) : p.1 ∈ fp /\ h.get? p.1 = some p.2 := by
 obtain ⟨b, hb, e⟩ := Zww.mp hp
 cases q : h.get? b with
 | none => rw [q] at e; cases e
 | some o =>
  rw [q] at e
  have e' : (b, o) = p := Zzo e
  subst e'
  exact ⟨hb, q⟩
theorem Inv.pinned {pins : List (Addr × Obj)} {σ : St} {H : Hp} {s : Shared} {fp : List Addr} (I : Inv X pins σ H s) (hf : ∀ b ∈ fp, J5 X pins H b) (ho : ∀ b ∈ fp, ∃ o, s.heap.get? b = some o /\ ∀ v, o.data ≠ .cell v) : Inv X (pins ++ Lj fp s.heap) σ H s :=
 I.pins_of fun p hp => (Zyu.mp hp).elim (fun z => I.pin p (Zyt _ z)) fun z => by
  obtain ⟨hb, e⟩ := X0 z
  obtain ⟨f0, f1, f2, _⟩ := hf p.1 hb
  obtain ⟨o, e', d⟩ := ho p.1 hb
  rw [e] at e'; cases e'
  exact ⟨e, f0, f1, f2, d⟩
theorem Inv.unpinned {pins pl : List (Addr × Obj)} {σ : St} {H : Hp} {s : Shared} (I : Inv X (pins ++ pl) σ H s) : Inv X pins σ H s := I.pins_of fun p hp => I.pin p (Zyt _ (Zx1 _ hp))
theorem As {iter : Expr} {body : List Stmt} {wi : TI} {g : TG} {tb : TS} {pos : Pos} (hp : PassesOwn (model X.prog X.w) X.A X.env X.xe) (hc : X.calm = true) (hi : PI X tg iter wi) (hg : PG X tg g) (hb : PSs X body tb)
  (hs : ∀ x, foldedSetIterable iter X.env x = pure x := by intro _; rfl) : PS X (.For tg iter body [] pos) (kg wi g tb) := by
 intro pins s σ H D I h
 refine wpAny_For (thn (hi pins s σ H _ I h) fun v s1 h1 => thn h1 fun itv s2 h2 => ?_) hs
 obtain ⟨it, fp, tn, J, H2, e, I2, T, st2, f2, W, ⟨m0, w0⟩, turn⟩ := h2
 subst e
 have stat : ∀ {H' : Hp}, (∀ b ∈ fp, H' b = none) -> ∀ b ∈ fp, J5 X pins H' b := fun hn b hb => ⟨hn b hb, (f2 b hb).2⟩
 refine codeAny_forLoop_any (fun n s' => ∃ i σ' H', Inv X pins σ' H' s' /\ tn i s'.heap /\ (∀ b ∈ fp, H' b = none) /\ W i n σ' H') ?_ m0 ⟨0, σ, H2, I2, st2, fun b hb => (f2 b hb).1, w0⟩
 rintro n s3 ⟨i, σ3, H3, I3, st3, fr3, w3⟩
 rcases turn i n σ3 H3 w3 with ⟨stop, qn⟩ | ⟨go, N, hN, step⟩
 ·refine wpAny_passesOwn hp (thn (T.done X rfl rfl rfl hc i pins s3 σ3 H3 X.xe I3 (stat fr3) st3 stop) fun r s4 ⟨hr, I4⟩ => ?_)
  subst hr
  exact wpAny_execs_nil ⟨σ3, H3, I4, qn⟩
 ·refine wpAny_passesOwn hp (thn (T.item X rfl rfl rfl hc i pins s3 σ3 H3 X.xe I3 (stat fr3) st3 go) fun r s4 ⟨u, hr, h4⟩ => ?_)
  subst hr
  refine wpAny_passesOwn hp (thn h4 fun _ s5 ⟨x, H5, I5, r5, y5, st5, fr5⟩ => ?_)
  have I5' := I5.pinned (stat fr5) (T.obj _ _ st5)
  refine wpAny_passesOwn hp (thn (hg _ s5 σ3 H5 x u _ I5' r5 (step x H5 y5)) fun _ s6 ⟨σ6, H6, I6, q6⟩ => ?_)
  refine wpAny_passesOwn hp (thn (hb _ s6 σ6 H6 _ I6 q6) fun f s7 q7 => ?_)
  have again : ∀ {σ7 : St} {H7 : Hp}, Inv X (pins ++ Lj fp s5.heap) σ7 H7 s7 -> N σ7 H7 -> ∃ m, m < n /\ ∃ i σ' H', Inv X pins σ' H' s7 /\ tn i s7.heap /\ (∀ b ∈ fp, H' b = none) /\ W i m σ' H' := fun {σ7 H7} I7 n7 => by
   obtain ⟨m', hm, w7⟩ := hN σ7 H7 n7
   refine ⟨m', hm, i + 1, σ7, H7, I7.unpinned, T.keep _ _ _ st5 fun b hb o e => (I7.pin (b, o) (Zyt _ (Zyt _ (Ib hb e)))).1, fun b hb => ?_, w7⟩
   obtain ⟨o, e, d⟩ := T.obj _ _ st5 b hb
   exact (I7.pin (b, o) (Zyt _ (Zyt _ (Ib hb e)))).2.1
  cases f with
  | next => obtain ⟨σ7, H7, I7, n7⟩ := q7; exact again I7 n7
  | cont => obtain ⟨σ7, H7, I7, n7⟩ := q7; exact again I7 n7
  | brk => obtain ⟨σ7, H7, I7, q7⟩ := q7; exact ⟨σ7, H7, I7.unpinned, q7⟩
  | ret v => obtain ⟨x7, σ7, H7, I7, r7, q7⟩ := q7; exact ⟨x7, σ7, H7, I7.unpinned, r7, q7⟩
end
theorem Zs {K : Zzv} {a : Addr} {xs : List V} {g : TG} {tb : TS} {D : Ly} {σ : St} {H : Hp} (Pv : Nat -> St -> Hp -> Prop) (h0 : Pv 0 σ H) (hl : ∀ i σ H, i <= xs.length -> Pv i σ H -> SqL K H a xs)
  (hs : ∀ i x σ H, xs[i]? = some x -> Pv i σ H -> g x σ H fun σ2 H2 => tb { D with nx := Pv (i + 1), ct := Pv (i + 1), bk := D.nx } σ2 H2) (hd : ∀ σ H, Pv xs.length σ H -> D.nx σ H) :
  ∃ W : Nat -> Nat -> St -> Hp -> Prop, (∃ m, W 0 m σ H) /\ ∀ i m σ H, W i m σ H ->
   ((Itl K a).stop i H /\ D.nx σ H) \/ ((Itl K a).go i H /\ ∃ N : St -> Hp -> Prop, (∀ σ' H', N σ' H' -> ∃ m', m' < m /\ W (i + 1) m' σ' H') /\ ∀ x H', (Itl K a).yld i H x H' -> g x σ H' fun σ2 H2 => tb { D with nx := N, ct := N, bk := D.nx } σ2 H2) := by
 refine ⟨fun i m σ H => m = xs.length - i /\ i <= xs.length /\ Pv i σ H, ⟨xs.length, by simp, Zyr _, h0⟩, ?_⟩
 rintro i m σ H ⟨rfl, hi, p⟩
 have q := hl i σ H hi p
 by_cases hlt : i < xs.length
 ·refine .inr ⟨⟨xs, xs[i], q, by simp [hlt]⟩, Pv (i + 1), fun σ' H' p' => ⟨xs.length - (i + 1), by omega, rfl, hlt, p'⟩, fun x H' y => ?_⟩
  obtain ⟨e, y⟩ := y
  subst e
  exact hs i x σ _ (y xs q) p
 ·have e : i = xs.length := by omega
  subst e
  exact .inl ⟨⟨xs, q, Zzs _⟩, hd σ H p⟩
abbrev R2 := V -> V -> Hp -> VK -> Prop
def OpR (X : Cx) (f : Value -> Value -> Sem Value) (r : R2) : Prop :=
 ∀ (pins : List (Addr × Obj)) (s : Shared) (σ : St) (H : Hp) (x y : V) (v u : Value) (Q : VK), Inv X pins σ H s -> RelV x v -> RelV y u -> r x y H Q ->
  wpAny (model X.prog X.w) X.A (f v u) (EP X pins σ Q) X.xe s
def UnR (X : Cx) (f : Value -> Sem Value) (r : V -> Hp -> VK -> Prop) : Prop :=
 ∀ (pins : List (Addr × Obj)) (s : Shared) (σ : St) (H : Hp) (x : V) (v : Value) (Q : VK), Inv X pins σ H s -> RelV x v -> r x H Q ->
  wpAny (model X.prog X.w) X.A (f v) (EP X pins σ Q) X.xe s
def CallR (X : Cx) (f : Value) (r : List V -> Hp -> VK -> Prop) : Prop :=
 ∀ (pins : List (Addr × Obj)) (s : Shared) (σ : St) (H : Hp) (xs : List V) (us : List Value) (Q : VK), Inv X pins σ H s -> Vals xs us -> r xs H Q ->
  wpAny (model X.prog X.w) X.A (call f us) (EP X pins σ Q) X.xe s
def TruR (X : Cx) (r : V -> Hp -> (Bool -> Hp -> Prop) -> Prop) : Prop :=
 ∀ (pins : List (Addr × Obj)) (s : Shared) (σ : St) (H : Hp) (x : V) (v : Value) (Q : Bool -> Hp -> Prop), Inv X pins σ H s -> RelV x v -> r x H Q ->
  wpAny (model X.prog X.w) X.A (truthy v) (TP X pins σ Q) X.xe s
def tOp (r : R2) (ta tb : TE) : TE := fun σ H Q => ta σ H fun x H1 => tb σ H1 fun y H2 => r x y H2 Q
def tUn (r : V -> Hp -> VK -> Prop) (ta : TE) : TE := fun σ H Q => ta σ H fun x H1 => r x H1 Q
def rI (C : Int -> Int -> Prop) (g : Int -> Int -> V) : R2 := fun x y H Q => ∃ i j, x = .int i /\ y = .int j /\ C i j /\ Q (g i j) H
def rI0 (g : Int -> Int -> V) : R2 := fun x y H Q => ∃ i j, x = .int i /\ y = .int j /\ Q (g i j) H
def rU (g : Int -> V) : V -> Hp -> VK -> Prop := fun x H Q => ∃ i, x = .int i /\ Q (g i) H
section
variable {X : Cx} {a b c : Expr} {ta tb tc : TE} {pos : Pos}
theorem jm (ha : PE X a ta) (hb : PE X b tb) {pins : List (Addr × Obj)} {s : Shared} {σ : St} {H : Hp} {R : V -> V -> Hp -> Prop} (I : Inv X pins σ H s)
  (h : ta σ H fun x H1 => tb σ H1 fun y H2 => R x y H2) {Q : Value -> Shared -> Prop} {f : Value -> Value -> Sem Value}
  (hf : ∀ v u s2 x y H2, Inv X pins σ H2 s2 -> RelV x v -> RelV y u -> R x y H2 -> wpAny (model X.prog X.w) X.A (f v u) Q X.xe s2) :
  wpAny (model X.prog X.w) X.A (eval a X.env) (fun v s₁ => wpAny (model X.prog X.w) X.A (eval b X.env) (fun u s₂ => wpAny (model X.prog X.w) X.A (f v u) Q X.xe s₂) X.xe s₁) X.xe s := by
 refine thn (ha pins s σ H _ I h) fun v s1 ⟨x, H1, I1, r1, q1⟩ => ?_
 refine thn (hb pins s1 σ H1 _ I1 q1) fun u s2 ⟨y, H2, I2, r2, q2⟩ => ?_
 exact hf v u s2 x y H2 I2 r1 r2 q2
theorem Av {op : Operator} {r : R2} (ho : OpR X (binaryOp op) r) (ha : PE X a ta) (hb : PE X b tb) : PE X (.BinOp a op b pos) (tOp r ta tb) := by
 intro pins s σ H Q I h
 exact wpAny_BinOp (jm ha hb I h fun v u s2 x y H2 I2 rx ry q => ho pins s2 σ H2 x y v u Q I2 rx ry q)
theorem S0 {op : UnaryOp} {r : V -> Hp -> VK -> Prop} (ho : UnR X (unaryOp op) r) (ha : PE X a ta) : PE X (.UnaryOp op a pos) (tUn r ta) := by
 intro pins s σ H Q I h
 exact UnaryOp_ (thn (ha pins s σ H _ I h) fun v s1 ⟨x, H1, I1, r1, q1⟩ => ho pins s1 σ H1 x v Q I1 r1 q1)
theorem opI {f : Value -> Value -> Sem Value} {C : Int -> Int -> Prop} {g : Int -> Int -> Int}
  (rule : ∀ (i j : Int) (t u : Tok) (s : Shared) (Q : Value -> Shared -> Prop) (E : Value -> Shared -> Prop), C i j -> Q (.int (g i j) s.toks) { s with toks := s.toks + 1 } -> wpAny (model X.prog X.w) X.A (f (.int i t) (.int j u)) Q E s) :
  OpR X f (rI C fun i j => .int (g i j)) := by
 intro pins s σ H x y v u Q I rx ry h
 obtain ⟨i, j, rfl, rfl, hc, q⟩ := h
 obtain ⟨t, rfl⟩ := rx
 obtain ⟨t', rfl⟩ := ry
 exact rule i j t t' s _ _ hc ⟨.int (g i j), H, I.tok _, ⟨_, rfl⟩, q⟩
theorem cz {f : Value -> Value -> Sem Value} {g : Int -> Int -> Int}
  (rule : ∀ (i j : Int) (t u : Tok) (s : Shared) (Q : Value -> Shared -> Prop) (E : Value -> Shared -> Prop), Q (.int (g i j) s.toks) { s with toks := s.toks + 1 } -> wpAny (model X.prog X.w) X.A (f (.int i t) (.int j u)) Q E s) :
  OpR X f (rI0 fun i j => .int (g i j)) := by
 intro pins s σ H x y v u Q I rx ry h
 obtain ⟨i, j, rfl, rfl, q⟩ := h
 obtain ⟨t, rfl⟩ := rx
 obtain ⟨t', rfl⟩ := ry
 exact rule i j t t' s _ _ ⟨.int (g i j), H, I.tok _, ⟨_, rfl⟩, q⟩
theorem kt {f : Value -> Value -> Sem Value} {g : Int -> Int -> Bool}
  (rule : ∀ (i j : Int) (t u : Tok) (s : Shared) (Q : Value -> Shared -> Prop) (E : Value -> Shared -> Prop), Q (.bool (g i j)) s -> wpAny (model X.prog X.w) X.A (f (.int i t) (.int j u)) Q E s) :
  OpR X f (rI0 fun i j => .bl (g i j)) := by
 intro pins s σ H x y v u Q I rx ry h
 obtain ⟨i, j, rfl, rfl, q⟩ := h
 obtain ⟨t, rfl⟩ := rx
 obtain ⟨t', rfl⟩ := ry
 exact rule i j t t' s _ _ ⟨.bl (g i j), H, I, rfl, q⟩
def CPow (i j : Int) : Prop := 0 <= j /\ j <= 1000000 /\ i.natAbs < 2 ^ 64
def CMul (i j : Int) : Prop := (-(2 ^ 64) < i /\ i < 2 ^ 64) \/ (-(2 ^ 64) < j /\ j < 2 ^ 64)
theorem CMul.ok {i j : Int} (h : CMul i j) : IntMulOk i j := by
 rcases h with ⟨h1, h2⟩ | ⟨h1, h2⟩
 ·exact .of_left (intBits_le_64 h1 h2)
 ·exact .of_right (intBits_le_64 h1 h2)
theorem Bw : OpR X (binaryOp .Add) (rI0 fun i j => .int (i + j)) := cz fun _ _ _ _ _ _ _ q => add_int q
theorem K8 : OpR X (binaryOp .Sub) (rI0 fun i j => .int (i - j)) := cz fun _ _ _ _ _ _ _ q => sub_int q
theorem U3 : OpR X (binaryOp .Mult) (rI CMul fun i j => .int (i * j)) := opI fun _ _ _ _ _ _ _ hc q => mul_int q hc.ok
theorem Lk : OpR X (binaryOp .Mod) (rI (fun _ j => 0 < j) fun i j => .int (i % j)) := opI fun i j _ _ _ _ _ hc q => by
 have h1 : (0 : Int) < j := hc
 exact mod_int' (by omega) (by rw [Int.fmod_eq_emod_of_nonneg i (by omega)]; exact q)
theorem Qb : OpR X (binaryOp .Pow) (rI CPow fun i j => .int (i ^ j.toNat)) := opI fun _ _ _ _ _ _ _ hc q => pow_int_small hc.1 hc.2.1 hc.2.2 q
theorem e8 : OpR X (inplaceOp .Add) (rI0 fun i j => .int (i + j)) := cz fun _ _ _ _ _ _ _ q => iadd_int q
theorem e7 : OpR X (inplaceOp .Sub) (rI0 fun i j => .int (i - j)) := cz fun _ _ _ _ _ _ _ q => isub_int q
theorem unI {f : Value -> Sem Value} {g : Int -> Int}
  (rule : ∀ (i : Int) (t : Tok) (s : Shared) (Q : Value -> Shared -> Prop) (E : Value -> Shared -> Prop), Q (.int (g i) s.toks) { s with toks := s.toks + 1 } -> wpAny (model X.prog X.w) X.A (f (.int i t)) Q E s) :
  UnR X f (rU fun i => .int (g i)) := by
 intro pins s σ H x v Q I rx h
 obtain ⟨i, rfl, q⟩ := h
 obtain ⟨t, rfl⟩ := rx
 exact rule i t s _ _ ⟨.int (g i), H, I.tok _, ⟨_, rfl⟩, q⟩
theorem N1 : UnR X (unaryOp .USub) (rU fun i => .int (-i)) := unI fun _ _ _ _ _ q => neg_int q
end
def ia : V -> V -> Bool
 | .non, .non => true | .non, .int _ => true | .int _, .non => true | .non, .bl _ => true | .bl _, .non => true | .non, .str _ => true | .str _, .non => true
 | .int _, .int _ => true | .bl _, .bl _ => true | .str _, .str _ => true | .byt _, .byt _ => true
 | .int _, .str _ => true | .str _, .int _ => true | .bl _, .str _ => true | .str _, .bl _ => true
 | _, _ => false
def rEq : R2 := fun x y H Q => ia x y = true /\ Q (.bl (decide (x = y))) H
def rNe : R2 := fun x y H Q => ia x y = true /\ Q (.bl (!decide (x = y))) H
theorem fh {i j : Int} : decide (V.int i = V.int j) = (i == j) := by
 rw [Zw4]
 simp
theorem jg {i j : Bool} : decide (V.bl i = V.bl j) = (i == j) := by
 rw [Zw4]
 simp
theorem fg {i j : Str} : decide (V.str i = V.str j) = (i == j) := by
 rw [Zw4]
 simp
theorem fj {i j : Array UInt8} : decide (V.byt i = V.byt j) = (i.toList == j.toList) := by
 rw [Zw4]
 cases i
 cases j
 simp
section
variable {X : Cx} {a b c : Expr} {ta tb tc : TE} {pos : Pos}
theorem D0 {pins : List (Addr × Obj)} {σ : St} {H : Hp} {s : Shared} {Q : VK} {k k' : Bool} (I : Inv X pins σ H s) (q : Q (.bl k) H) (e : k = k') : EP X pins σ Q (.bool k') s := by
 subst e
 exact ⟨.bl k, H, I, rfl, q⟩
theorem kr : OpR X (compareOp .Eq) rEq := by
 intro pins s σ H x y v u Q I rx ry h
 obtain ⟨hs, q⟩ := h
 cases x with
 | non =>
  cases rx
  cases y with
  | non => cases ry; exact PySem.EqNone.eq_none_none (D0 I q (by simp))
  | bl j => cases ry; exact PySem.EqNone.eq_none_bool (D0 I q (by simp))
  | int j => obtain ⟨t', rfl⟩ := ry; exact PySem.EqNone.eq_none_int (D0 I q (by simp))
  | str j => obtain ⟨t', rfl⟩ := ry; exact PySem.EqNone.eq_none_str (D0 I q (by simp))
  | _ => exact absurd (show false = true from hs) Zz0
 | bl i =>
  cases rx
  cases y with
  | non => cases ry; exact PySem.EqNone.eq_bool_none (D0 I q (by simp))
  | bl j => cases ry; exact eq_bool (D0 I q jg)
  | str j => obtain ⟨t', rfl⟩ := ry; exact PySem.EqMixed.eq_bool_str (D0 I q (by simp))
  | _ => exact absurd (show false = true from hs) Zz0
 | int i =>
  obtain ⟨t, rfl⟩ := rx
  cases y with
  | non => cases ry; exact PySem.EqNone.eq_int_none (D0 I q (by simp))
  | int j => obtain ⟨t', rfl⟩ := ry; exact eq_int (D0 I q fh)
  | str j => obtain ⟨t', rfl⟩ := ry; exact PySem.EqMixed.eq_int_str (D0 I q (by simp))
  | _ => exact absurd (show false = true from hs) Zz0
 | str i =>
  obtain ⟨t, rfl⟩ := rx
  cases y with
  | non => cases ry; exact PySem.EqNone.eq_str_none (D0 I q (by simp))
  | bl j => cases ry; exact PySem.EqMixed.eq_str_bool (D0 I q (by simp))
  | int j => obtain ⟨t', rfl⟩ := ry; exact PySem.EqMixed.eq_str_int (D0 I q (by simp))
  | str j => obtain ⟨t', rfl⟩ := ry; exact eq_str (D0 I q fg)
  | _ => exact absurd (show false = true from hs) Zz0
 | byt i =>
  obtain ⟨t, rfl⟩ := rx
  cases y with
  | byt j => obtain ⟨t', rfl⟩ := ry; exact PySem.W.eq_bytes (D0 I q fj)
  | _ => exact absurd (show false = true from hs) Zz0
 | _ => cases y <;> exact absurd (show false = true from hs) Zz0
theorem kq : OpR X (compareOp .Lt) (rI0 fun i j => .bl (decide (i < j))) := kt fun _ _ _ _ _ _ _ q => lt_int q
theorem Ja : OpR X (compareOp .Gt) (rI0 fun i j => .bl (decide (j < i))) := kt fun _ _ _ _ _ _ _ q => gt_int q
theorem Wq : OpR X (compareOp .In) (fun x y H Q => ∃ i j, x = .str i /\ y = .str j /\ Q (.bl (!(Builtin.Str.occurrences j i 0 j.length 1).isEmpty)) H) := by
 intro pins s σ H x y v u Q I rx ry h
 obtain ⟨i, j, rfl, rfl, q⟩ := h
 obtain ⟨t, rfl⟩ := rx
 obtain ⟨t', rfl⟩ := ry
 exact in_str (D0 I q rfl)
theorem iq : OpR X (compareOp .Is) (fun x y H Q => y = .non /\ Q (.bl (decide (x = .non))) H) := by
 intro pins s σ H x y v u Q I rx ry h
 obtain ⟨rfl, q⟩ := h
 cases ry
 refine is_none_gen (D0 I q ?_)
 cases x <;> first
  | (cases rx; rfl)
  | (obtain ⟨t, rfl⟩ := rx; rfl)
theorem cy : OpR X (compareOp .IsNot) (fun x y H Q => y = .non /\ Q (.bl (!decide (x = .non))) H) := by
 intro pins s σ H x y v u Q I rx ry h
 obtain ⟨rfl, q⟩ := h
 cases ry
 refine isnot_none_gen (D0 I q ?_)
 cases x <;> first
  | (cases rx; rfl)
  | (obtain ⟨t, rfl⟩ := rx; rfl)
theorem OpR.or {f : Value -> Value -> Sem Value} {r r' : R2} (h : OpR X f r) (h' : OpR X f r') : OpR X f (fun x y H Q => r x y H Q \/ r' x y H Q) := by
 intro pins s σ H x y v u Q I rx ry q
 rcases q with q | q
 ·exact h pins s σ H x y v u Q I rx ry q
 ·exact h' pins s σ H x y v u Q I rx ry q
theorem Ap (b : Expr) {op : CmpOp} (h : op ≠ .In := by decide) (h2 : op ≠ .NotIn := by decide) : behindInMarks op b = false := by
 have e1 : (op == CmpOp.In) = false := by cases op <;> first | rfl | exact absurd rfl h
 have e2 : (op == CmpOp.NotIn) = false := by cases op <;> first | rfl | exact absurd rfl h2
 cases b <;> simp [behindInMarks, e1, e2]
theorem Ks {op : CmpOp} {r : R2} (ho : OpR X (compareOp op) r) (ha : PE X a ta) (hb : PE X b tb) (hm : behindInMarks op b = false) : PE X (.Compare a [op] [b] pos) (tOp r ta tb) := by
 intro pins s σ H Q I h
 exact wpAny_Compare1 (jm ha hb I h fun v u s2 x y H2 I2 rx ry q => ho pins s2 σ H2 x y v u Q I2 rx ry q) hm
def V4 (t : TE) : TT := fun σ H Q => t σ H fun x H' => ∃ k, x = .bl k /\ Q k H'
theorem Ak {op : CmpOp} {r : R2} (ho : OpR X (compareOp op) r) (ha : PE X a ta) (hb : PE X b tb) (hm : behindInMarks op b = false) : PT X (.Compare a [op] [b] pos) (V4 (tOp r ta tb)) := by
 intro pins s σ H Q I h
 refine wpAny_isTrue_Compare1 (thn (ha pins s σ H _ I h) fun v s1 ⟨x, H1, I1, r1, q1⟩ => thn (hb pins s1 σ H1 _ I1 q1) fun u s2 ⟨y, H2, I2, r2, q2⟩ =>
  thn (ho pins s2 σ H2 x y v u _ I2 r1 r2 q2) fun c s3 ⟨z, H3, I3, r3, k, e, q3⟩ => ?_) hm
 subst e
 cases r3
 exact wpAny_truthy_bool ⟨H3, I3, q3⟩
def To (r r' : R2) (ta tb tc : TE) : TE := fun σ H Q => ta σ H fun x H1 => tb σ H1 fun y H2 => r x y H2 fun z H3 => ∃ k, z = .bl k /\
 (if k = true then tc σ H3 fun w' H4 => r' y w' H4 Q else Q (.bl false) H3)
def TruV (K : Zzv) (x : V) (H : Hp) (k : Bool) : Prop :=
 match x with
 | .non => k = false
 | .bl b => k = b
 | .int i => k = (i != 0)
 | .str y => y.length <= sizeLine /\ k = ((y.length : Int) != 0)
 | .byt y => y.size <= sizeLine /\ k = ((y.size : Int) != 0)
 | .ref p => (∃ xs, SqL K H p xs /\ k = !xs.isEmpty) \/ (∃ xs, SqT K H p xs /\ k = !xs.isEmpty) \/ ∃ kvs, H p = some (.dK kvs) /\ k = !kvs.isEmpty
 | _ => False
theorem Uh {κ : Type} {kvs : List (κ × V)} {vs : List (κ × Value)} (r : KV kvs vs) : (!vs.isEmpty) = !kvs.isEmpty := by
 cases r <;> rfl
theorem Nz {xs : List V} {its : List Value} (r : Vals xs its) : (!its.toArray.isEmpty) = !xs.isEmpty := by
 cases r <;> simp
theorem Je : (sizeLine : Nat) < 2 ^ 63 := by rw [sizeLine_eq]; decide
theorem Y6 : TruR X (fun x H Q => ∃ k, TruV X.K x H k /\ Q k H) := by
 intro pins s σ H x v Q I rx h
 obtain ⟨k, e, q⟩ := h
 have hl := Je
 have hs : sizeLine = 16777216 := sizeLine_eq
 cases x with
 | non =>
  cases rx
  have e' : k = false := e
  subst e'
  exact truthy_none ⟨H, I, q⟩
 | bl b =>
  cases rx
  have e' : k = b := e
  subst e'
  exact wpAny_truthy_bool ⟨H, I, q⟩
 | int i =>
  obtain ⟨t, rfl⟩ := rx
  have e' : k = (i != 0) := e
  subst e'
  exact PySem.P.truthy_int ⟨H, I, q⟩
 | str y =>
  obtain ⟨t, rfl⟩ := rx
  obtain ⟨hy, e'⟩ : y.length <= sizeLine /\ k = ((y.length : Int) != 0) := e
  subst e'
  exact PySem.P.truthy_str (by omega) ⟨H, I.tok _, q⟩
 | byt y =>
  obtain ⟨t, rfl⟩ := rx
  obtain ⟨hy, e'⟩ : y.size <= sizeLine /\ k = ((y.size : Int) != 0) := e
  subst e'
  exact PySem.W.truthy_bytes (by omega) ⟨H, I.tok _, q⟩
 | ref p =>
  cases rx
  have e' : (∃ xs, SqL X.K H p xs /\ k = !xs.isEmpty) \/ (∃ xs, SqT X.K H p xs /\ k = !xs.isEmpty) \/ ∃ kvs, H p = some (.dK kvs) /\ k = !kvs.isEmpty := e
  rcases e' with ⟨xs, hx, e'⟩ | ⟨xs, hx, e'⟩ | ⟨kvs, hx, e'⟩
  ·subst e'
   obtain ⟨its, r, pl, hz⟩ := I.list hx
   have hlen := r.length
   exact wpAny_truthy_list pl.isList (by simp only [Zzp]; omega) ⟨H, I.tok _, by rw [Nz r]; exact q⟩
  ·subst e'
   obtain ⟨its, r, pl, hz⟩ := I.tuple hx
   have hlen := r.length
   exact truthy_tuple pl (by simp only [Zzp]; omega) ⟨H, I.tok _, by rw [Nz r]; exact q⟩
  ·subst e'
   obtain ⟨hz, hS, vs, r, m⟩ : kvs.length <= sizeLine /\ (p == sysModules) = false /\ ∃ vs, KV kvs vs /\ s.heap.DictOf (Be X.prog X.w) p vs := I.hok p _ hx
   have hlen : kvs.length = vs.length := Paired.length r
   exact wpAny_truthy_dict hS m (by omega) ⟨H, I.tok _, by rw [Uh r]; exact q⟩
 | _ => exact (show False from e).elim
theorem U4 : OpR X (binaryOp .Add) (fun x y H Q => ∃ i j, x = .str i /\ y = .str j /\ i.length + j.length <= sizeLine /\ Q (.str (i ++ j)) H) := by
 intro pins s σ H x y v u Q I rx ry h
 obtain ⟨i, j, rfl, rfl, hz, q⟩ := h
 obtain ⟨t, rfl⟩ := rx
 obtain ⟨t', rfl⟩ := ry
 exact add_str (fun t' tk => ⟨.str (i ++ j), H, I.tok _, ⟨_, rfl⟩, q⟩) hz
theorem Gz {x : V} {us : List Value} (r : Vals [x] us) : ∃ u, us = [u] /\ RelV x u := by
 cases r with
 | cons r1 r2 => cases r2; exact ⟨_, rfl, r1⟩
theorem Rf {x y : V} {us : List Value} (r : Vals [x, y] us) : ∃ u w', us = [u, w'] /\ RelV x u /\ RelV y w' := by
 cases r with
 | cons r1 r2 =>
  cases r2 with
  | cons r3 r4 => cases r4; exact ⟨_, _, rfl, r1, r3⟩
theorem Xt (hc : X.calm = true) : CallR X (.builtin "max") (fun xs H Q => ∃ i j, xs = [.int i, .int j] /\ Q (.int (if j > i then j else i)) H) := by
 intro pins s σ H xs us Q I r h
 obtain ⟨i, j, rfl, q⟩ := h
 obtain ⟨u, w', rfl, ⟨t, rfl⟩, ⟨t', rfl⟩⟩ := Rf r
 refine max_two_ints (I.ok.hd hc) fun h' tk k => ⟨_, H, I.kept k, ?_, q⟩
 by_cases hj : j > i
 ·rw [if_pos hj, if_pos hj]; exact ⟨_, rfl⟩
 ·rw [if_neg hj, if_neg hj]; exact ⟨_, rfl⟩
theorem Xs (hc : X.calm = true) : CallR X (.builtin "min") (fun xs H Q => ∃ i j, xs = [.int i, .int j] /\ Q (.int (if j < i then j else i)) H) := by
 intro pins s σ H xs us Q I r h
 obtain ⟨i, j, rfl, q⟩ := h
 obtain ⟨u, w', rfl, ⟨t, rfl⟩, ⟨t', rfl⟩⟩ := Rf r
 refine min_two_ints (I.ok.hd hc) fun h' tk k => ⟨_, H, I.kept k, ?_, q⟩
 by_cases hj : j < i
 ·rw [if_pos hj, if_pos hj]; exact ⟨_, rfl⟩
 ·rw [if_neg hj, if_neg hj]; exact ⟨_, rfl⟩
theorem Jr : CallR X (.type "int") (fun xs H Q => (∃ i, xs = [.int i] /\ Q (.int i) H) \/ ∃ k, xs = [.bl k] /\ Q (.int (if k then 1 else 0)) H) := by
 intro pins s σ H xs us Q I r h
 rcases h with ⟨i, rfl, q⟩ | ⟨k, rfl, q⟩
 ·obtain ⟨u, rfl, t, rfl⟩ := Gz r
  exact call_int_int ⟨.int i, H, I, ⟨_, rfl⟩, q⟩
 ·obtain ⟨u, rfl, r1⟩ := Gz r
  cases r1
  exact call_int_bool ⟨.int (if k then 1 else 0), H, I.tok _, ⟨_, rfl⟩, q⟩
end
structure ObjM (h : Heap) (x dx C : Addr) (mA : Str -> Option Value) : Prop where
 obj : h.get? x = some (Zx4 C dx)
 ns : h.Ns1 dx mA
 ne : dx ≠ x
theorem X9 {h : Heap} {dx : Addr} {mA : Str -> Option Value} (n : h.Ns1 dx mA) : ∃ od, h.get? dx = some od /\ ∀ name, PySem.W.lookIn name od = some (mA name) := by
 obtain ⟨o, es, ep, ho, hd, hk, _, hm⟩ := n
 refine ⟨o, ho, fun name => ?_⟩
 have e := hm name
 unfold nsFind findBy at e
 rw [<- Array.find?_toList] at e
 unfold PySem.W.lookIn
 rw [hd]
 dsimp only
 split
 ·rename_i y q
  rw [q] at e
  exact congrArg some e
 ·rename_i q
  rw [q] at e
  have a : es.toList.any (·.refKey) = false := by
   rw [List.any_eq_false]
   intro y hy
   obtain ⟨z, t, hkey⟩ := hk y (Array.mem_toList_iff.mp hy)
   simp [DictEntry.refKey, hkey]
  have a' : ¬ es.toList.any (·.refKey) = true := by rw [a]; exact Zz0
  rw [if_neg a']
  exact congrArg some e
theorem ObjM.look {h : Heap} {x dx C : Addr} {mA : Str -> Option Value} (I : ObjM h x dx C mA) : ∃ od, PySem.W.InstAt h x (Zx4 C dx) C (some od) /\ ∀ name, PySem.W.lookIn name od = some (mA name) :=
 let ⟨od, ho, hl⟩ := X9 I.ns
 ⟨od, ⟨I.obj, rfl, rfl, ho⟩, hl⟩
section
variable {prog : Program} {w : World} {A : Around} {E : Value -> Shared -> Prop} {s : Shared} {K : Zzv} {x dx C f : Addr} {mA : Str -> Option Value} {name : Str} {v : Value}
end
theorem RelO.some_of {v : V} {o : Option Value} (r : RelO (some v) o) : ∃ u, o = some u /\ RelV v u := by
 cases o with
 | none => exact (show False from r).elim
 | some u => exact ⟨u, rfl, r⟩
section
variable {P : Program} {w : World} {H H' : Hp} {h h' : Heap} {a C dx : Addr} {fs fs' : List (Str × V)}
theorem e9 (hok : HOk P w H h) (e : H a = some (.ins C dx fs)) : ∃ mA, ObjM h a dx C mA /\ (∀ f, RelO (fs.lookup f) (mA f)) /\ PySem.Within mA (fs.map (·.1)) /\ fs.length <= 1000 /\ H dx = some (.own a) := by
 obtain ⟨d, z, ne, ob, mA, n, r, q⟩ := (show ObjOk P w H h a (.ins C dx fs) from hok a _ e)
 exact ⟨mA, ⟨ob, n, ne⟩, r, q, z, d⟩
end
structure Cls (K : Zzv) (C : Addr) : Prop where
 pg : PySem.W.plainGet K C Str.empty = true
 hd : PySem.W.hasDictIn K C = true
 po : PySem.W.plainOver K C = true
 sa : Zvs K (.ref C) "__setattr__" = some (some (.builtin "object.__setattr__"))
theorem Cls.get {K : Zzv} {C : Addr} (c : Cls K C) (f : Str) : PySem.W.plainGet K C f = true := c.pg
def NoAttr (K : Zzv) (C : Addr) (f : Str) : Prop := Zvs K (.ref C) f = some none
theorem NoAttr.taker {K : Zzv} {C : Addr} {f : Str} (n : NoAttr K C f) : PySem.W.takerIn K C f = some none := by
 unfold PySem.W.takerIn
 rw [show Zvs K (.ref C) f = some none from n]
 rfl
section
variable {X : Cx} {pins : List (Addr × Obj)} {σ : St} {H : Hp} {s : Shared} {a C dx : Addr} {fs : List (Str × V)} {f : Str} {v : V} {A : Around} {E : Value -> Shared -> Prop}
theorem Inv.made (I : Inv X pins σ H s) : Inv X pins σ (upd (upd H s.heap.objs.size (.own (s.heap.objs.size + 1))) (s.heap.objs.size + 1) (.ins C s.heap.objs.size []))
  { s with heap := (s.heap.push Zxm).push (Zx4 C s.heap.objs.size) } := by
 have e1 : (s.heap.push Zxm).get? s.heap.objs.size = some Zxm := Zzj s.heap rfl
 have e2 : ((s.heap.push Zxm).push (Zx4 C s.heap.objs.size)).get? (s.heap.objs.size + 1) = some (Zx4 C s.heap.objs.size) := by
  have := Zzj (s.heap.push Zxm) (o := Zx4 C s.heap.objs.size) rfl
  rwa [Zy6] at this
 have e3 : (s.heap.push Zxm).Ns s.heap.objs.size (fun _ => none) := ⟨Zxm, #[], _, e1, rfl, (fun e he => absurd he (by simp)), fun _ => rfl⟩
 have I1 := I.laid (a := s.heap.objs.size) (o := .own (s.heap.objs.size + 1)) (h' := s.heap.push Zxm) (t' := s.toks) (fun b u q => Zzy _ q) (Zzs _) ⟨_, e1⟩
 refine I1.laid (a := s.heap.objs.size + 1) (o := .ins C s.heap.objs.size []) (t' := s.toks) (fun b u q => Zzy _ q) (Zx0 (Zy6 _ _)) ?_
 have ne : s.heap.objs.size ≠ s.heap.objs.size + 1 := Zys (Zwq _)
 refine ⟨by rw [A8 ne, A1], Zyr _, ne, e2, fun _ => none, (Heap.Ns1.of_empty e3).at fun o q => Zzy _ q, fun _ => True.intro, fun y hy => absurd rfl hy⟩
end
section
variable {X : Cx} {o e value : Expr} {f : Str} {pos pos' tpos : Pos} {ta tv : TE}
end
section
variable {X : Cx} {pins : List (Addr × Obj)} {σ : St} {H : Hp} {s : Shared} {A : Around} {E : Value -> Shared -> Prop} {Q : Value -> Shared -> Prop} {c : Value} {b : Bool}
inductive Lw (K : Zzv) (H : Hp) : V -> Value -> Prop where
 | non : Lw K H .non (.type "NoneType")
 | bl (x : Bool) : Lw K H (.bl x) (.type "bool")
 | int (i : Int) : Lw K H (.int i) (.type "int")
 | str (x : Str) : Lw K H (.str x) (.type "str")
 | flt (x : UInt64) : Lw K H (.flt x) (.type "float")
 | lst {a : Addr} {xs : List V} (e : H a = some (.lst xs)) : Lw K H (.ref a) (.type "list")
 | frz {a : Addr} {o : Obj} {xs : List V} (e : H a = some (.frz o (.lst xs))) : Lw K H (.ref a) (.type "list")
 | tup {a : Addr} {xs : List V} (e : H a = some (.tup xs)) : Lw K H (.ref a) (.type "tuple")
 | dK {a : Addr} {kvs : List (Key × V)} (e : H a = some (.dK kvs)) : Lw K H (.ref a) (.type "dict")
 | dT {a : Addr} {kvs : List (List Key × V)} (e : H a = some (.dT kvs)) : Lw K H (.ref a) (.type "dict")
 | ins {a C dx : Addr} {fs : List (Str × V)} (e : H a = some (.ins C dx fs)) (cl : Cls K C) (ha : Zvs K (.ref C) "__class__" = some (some (.builtin "object.__class__")))
   (hn : PySem.W.specialIn K (.builtin "object.__class__") "__get__" = some (some (.builtin "getset_descriptor.__get__"))) (htk : PySem.W.takesIn K (.builtin "object.__class__") = some true)
   (hm : PySem.W.mroIn K C (.type "object") = some true) : Lw K H (.ref a) (.ref C)
theorem Xf {x : V} {u t : Value} (I : Inv X pins σ H s) (rx : RelV x u) (ty : Lw X.K H x t) (e : PySem.W.kitOne X.K t c = some b) (h : ∀ tk, Q (.bool b) { s with toks := tk }) :
  wpAny (model X.prog X.w) A (call (.builtin "isinstance") [u, c]) Q E s := by
 cases ty with
 | non => cases (show u = Value.none from rx); exact Zxu PySem.W.kitx_none I.kIn True.intro e (fun z => nomatch z) h
 | bl y => cases (show u = Value.bool y from rx); exact Zxu PySem.W.kitx_bool I.kIn True.intro e (fun z => nomatch z) h
 | int i => obtain ⟨t, q⟩ := (show ∃ t, u = Value.int i t from rx); cases q; exact Zxu PySem.W.kitx_int I.kIn True.intro e (fun z => nomatch z) h
 | str y => obtain ⟨t, q⟩ := (show ∃ t, u = Value.str y t from rx); cases q; exact Zxu PySem.W.kitx_str I.kIn True.intro e (fun z => nomatch z) h
 | flt y => obtain ⟨t, q⟩ := (show ∃ t, u = Value.float y t from rx); cases q; exact Zxu PySem.W.kitx_float I.kIn True.intro e (fun z => nomatch z) h
 | @lst a xs ea =>
  cases (show u = Value.ref a from rx)
  obtain ⟨_, _, n, _, h1⟩ := (show ObjOk X.prog X.w H s.heap a (.lst xs) from I.hok a _ ea)
  exact Zxu PySem.W.kitx_list I.kIn ⟨_, h1, rfl⟩ e (fun z => nomatch z) h
 | @frz a ob xs ea =>
  cases (show u = Value.ref a from rx)
  obtain ⟨_, _, _, n, _, h1⟩ := (show ObjOk X.prog X.w H s.heap a (.frz ob (.lst xs)) from I.hok a _ ea)
  exact Zxu PySem.W.kitx_list I.kIn ⟨_, h1, rfl⟩ e (fun z => nomatch z) h
 | @tup a xs ea =>
  cases (show u = Value.ref a from rx)
  obtain ⟨_, _, _, p⟩ := (show ObjOk X.prog X.w H s.heap a (.tup xs) from I.hok a _ ea)
  obtain ⟨o, h1, h2, _⟩ := p
  exact Zxu PySem.W.kitx_tuple I.kIn ⟨o, h1, h2⟩ e (fun z => nomatch z) h
 | @dK a kvs ea =>
  cases (show u = Value.ref a from rx)
  obtain ⟨_, _, vs, _, p⟩ := (show ObjOk X.prog X.w H s.heap a (.dK kvs) from I.hok a _ ea)
  obtain ⟨o, es, ep, h1, h2, _⟩ := p
  exact Zxu PySem.W.kitx_dict I.kIn ⟨o, h1, h2.1⟩ e (fun z => nomatch z) h
 | @dT a kvs ea =>
  cases (show u = Value.ref a from rx)
  obtain ⟨_, _, xs, _, o, es, ep, h1, h2, _⟩ := (show ObjOk X.prog X.w H s.heap a (.dT kvs) from I.hok a _ ea)
  exact Zxu PySem.W.kitx_dict I.kIn ⟨o, h1, h2.1⟩ e (fun z => nomatch z) h
 | @ins a C dx fs ea cl ha hn htk hm =>
  cases (show u = Value.ref a from rx)
  obtain ⟨mA, O, _⟩ := e9 I.hok ea
  obtain ⟨od, J, _⟩ := O.look
  exact Zxu (PySem.W.kitx_own (cl.get _) cl.hd ha hn htk hm) I.kIn J e (fun z => nomatch z) h
end
structure Room (k : Nat) (A : Around) : Prop where
 hd : A.handled = none
 dp : A.depth + 3 * k + 5 < recursionLimit
 un : A.units + 16 * k + 200 < cLine
theorem Room.mono {j k : Nat} {A : Around} (r : Room k A) (h : j <= k) : Room j A := ⟨r.hd, by have := r.dp; omega, by have := r.un; omega⟩
theorem Room.deeper {k : Nat} {A : Around} (r : Room (k + 1) A) (env : Env) : Room k (A.deeper env) :=
 ⟨r.hd, by have := r.dp; show A.depth + 1 + 3 * k + 5 < _; omega, by have := r.un; show A.units + 3 + 16 * k + 200 < _; omega⟩
theorem Room.in1 {k : Nat} {A : Around} (r : Room (k + 1) A) : Room k A.in1 :=
 ⟨r.hd, by have := r.dp; show A.depth + 3 * k + 5 < _; omega, by have := r.un; show A.units + 1 + 16 * k + 200 < _; omega⟩
theorem Room.depth {k : Nat} {A : Around} (r : Room k A) : A.depth < recursionLimit := by have := r.dp; omega
theorem Room.units {k : Nat} {A : Around} (r : Room k A) : A.units + 64 < cLine := by have := r.un; omega
def tNil : TA := fun _ H Q => Q [] H
def Rm (ta : TE) (tr : TA) : TA := fun σ H Q => ta σ H fun x H1 => tr σ H1 fun xs H2 => Q (x :: xs) H2
section
variable {X : Cx} {e : Expr} {es : List Expr} {te : TE} {t : TA} {pos : Pos}
theorem A0 : PA X [] tNil := fun _ _ _ _ H Q I h => Calls.spliced_nil ⟨[], H, I, .nil, h⟩
theorem cq (ha : PE X e te) (hr : PA X es t) (hs : starEach (e :: es) X.env = (false, eval e X.env) :: starEach es X.env := by rfl) : PA X (e :: es) (Rm te t) := by
 intro pos pins s σ H Q I h
 rw [hs]
 show wpAny _ _ (spliced ((false, eval e X.env) :: backTo pos (starEach es X.env))) _ _ s
 refine Calls.spliced_cons (thn (ha pins s σ H _ I h) fun u s1 ⟨x, H1, I1, r1, q1⟩ => ?_)
 exact thn (hr pos pins s1 σ H1 _ I1 q1) fun us s2 ⟨xs, H2, I2, r2, q2⟩ => ⟨x :: xs, H2, I2, .cons r1 r2, q2⟩
def bh (t : TA) : TE := fun σ H Q => t σ H fun xs H1 => xs.length <= sizeLine /\ ∀ p, H1 p = none -> Q (.ref p) (upd H1 p (.tup xs))
def bo (t : TA) : TE := fun σ H Q => t σ H fun xs H1 => xs.length <= sizeLine /\ ∀ p, H1 p = none -> Q (.ref p) (upd H1 p (.lst xs))
theorem Aq {x1} (h : PA X es t) : PE X (.Tuple es x1 pos) (bh t) := by
 intro pins s σ H Q I hq
 refine wpAny_Tuple_spliced (thn (h pos pins s σ H _ I hq) fun us s1 ⟨xs, H1, I1, r, z, q⟩ => ⟨by rw [<- r.length]; exact z, ?_⟩)
 have hf : H1 s1.heap.objs.size = none := I1.hok.fresh (Zzs _)
 refine ⟨.ref s1.heap.objs.size, upd H1 s1.heap.objs.size (.tup xs), I1.laid (t' := s1.toks) (fun b u e => Zzy _ e) (Zzs _) ?_, rfl, q _ hf⟩
 exact ⟨z, us, r, ⟨_, Zzj _ rfl, rfl, _, rfl⟩⟩
theorem Bk (h : PA X es t) : PE X (.List es pos) (bo t) := by
 intro pins s σ H Q I hq
 refine wpAny_List_spliced (thn (h pos pins s σ H _ I hq) fun us s1 ⟨xs, H1, I1, r, z, q⟩ => ⟨by rw [<- r.length]; exact z, ?_⟩)
 have hf : H1 s1.heap.objs.size = none := I1.hok.fresh (Zzs _)
 refine ⟨.ref s1.heap.objs.size, upd H1 s1.heap.objs.size (.lst xs), I1.laid (t' := s1.toks) (fun b u e => Zzy _ e) (Zzs _) ?_, rfl, q _ hf⟩
 exact ⟨z, us, 0, r, Zzj _ rfl⟩
end
abbrev Sp := List V -> Hp -> VK -> XK -> Prop
abbrev CXT := List Env -> Hp -> Shared -> XK -> Value -> Shared -> Prop
structure Env0 (P : Program) (w : World) (K : Zzv) (mg : Str -> Option Value) (base : Heap) (A : Around) (outer : List Env) (s : Shared) (H : Hp) : Prop where
 frames : A.frames = some outer
 mod : Mod K mg base
 bs : ∀ b o, base.get? b = some o -> s.heap.get? b = some o /\ H b = none
 bsz : base.objs.size <= s.heap.objs.size
 funs : s.heap.FunFrames base outer
 frf : ∀ b ∈ frs outer, H b = none
 hok : HOk P w H s.heap
 bare : AllBare s.gens
def CE (outer : List Env) (P : Program) (w : World) (H : Hp) (s : Shared) (Q : VK) (u : Value) (s' : Shared) : Prop :=
 ∃ v H', s'.os = s.os /\ AllBare s'.gens /\ Un (frs outer) [] H H' s.heap s'.heap /\ HOk P w H' s'.heap /\ RelV v u /\ Q v H'
def CR (CX : CXT) (outer : List Env) (P : Program) (w : World) (H : Hp) (s : Shared) (Q : VK) (E : XK) (r : Result) (s' : Shared) : Prop :=
 match r with
 | .ok (.ret u) => CE outer P w H s Q u s'
 | .ok _ => False
 | .error e => CX outer H s E e s'
structure FnOk (P : Program) (w : World) (K : Zzv) (mg : Str -> Option Value) (base : Heap) (CX : CXT) (k : Nat) (f : Addr) (fd : FuncData) (ps : List Str) (sp : Sp) : Prop where
 len : ∀ vs H Q E, sp vs H Q E -> vs.length = ps.length
 run : ∀ (A : Around) (outer : List Env) (s : Shared) (H : Hp) (args : Args) (us : List Value) (vs : List V) (Q : VK) (E : XK), Room k A -> Env0 P w K mg base A outer s H -> BindsTo s fd args (ps.zip us) -> Vals vs us -> sp vs H Q E ->
  codeAny (model P w) A (.call (.ref f) args) (CR CX outer P w H s Q E) s
theorem FnOk.mono {P : Program} {w : World} {K : Zzv} {mg : Str -> Option Value} {base : Heap} {CX : CXT} {j k : Nat} {f : Addr} {fd : FuncData} {ps : List Str} {sp : Sp} (F : FnOk P w K mg base CX j f fd ps sp) (h : j <= k) :
  FnOk P w K mg base CX k f fd ps sp := ⟨F.len, fun A outer s H args us vs Q E hr => F.run A outer s H args us vs Q E (hr.mono h)⟩
theorem FnOk.imp {P : Program} {w : World} {K : Zzv} {mg : Str -> Option Value} {base : Heap} {CX : CXT} {k : Nat} {f : Addr} {fd : FuncData} {ps : List Str} {sp sp' : Sp} (F : FnOk P w K mg base CX k f fd ps sp)
  (h : ∀ vs H Q E, sp' vs H Q E -> sp vs H Q E) : FnOk P w K mg base CX k f fd ps sp' :=
 ⟨fun vs H Q E q => F.len vs H Q E (h _ _ _ _ q), fun A outer s H args us vs Q E hr he hb hv hs => F.run A outer s H args us vs Q E hr he hb hv (h _ _ _ _ hs)⟩
theorem Env0.in1 {P : Program} {w : World} {K : Zzv} {mg : Str -> Option Value} {base : Heap} {A : Around} {outer : List Env} {s : Shared} {H : Hp} (e : Env0 P w K mg base A outer s H) :
  Env0 P w K mg base A.in1 outer s H := ⟨e.frames, e.mod, e.bs, e.bsz, e.funs, e.frf, e.hok, e.bare⟩
section
variable {X : Cx} {pins : List (Addr × Obj)} {σ : St} {H : Hp} {s s' : Shared}
theorem Inv.env0 (I : Inv X pins σ H s) : Env0 X.prog X.w X.K X.mg X.base X.A X.stack s H :=
 ⟨I.ok.frames, I.ok.mod, I.bs, Zyw I.ok.bsz I.sz, I.stack, I.stkFree, I.hok, I.bare⟩
theorem Inv.after {Q : VK} {u : Value} (I : Inv X pins σ H s) (h : CE X.stack X.prog X.w H s Q u s') : EP X pins σ Q u s' := by
 obtain ⟨v, H', os, bare, un, hok, r, q⟩ := h
 obtain ⟨hh, g, d, t, os'⟩ := s'
 obtain rfl : os' = s.os := os
 exact ⟨v, H', I.call (h' := hh) (g' := g) (d' := d) (t' := t) (ch := []) un hok bare (fun b z => absurd z (by simp)), r, q⟩
end
def P0 (sp : Sp) (dvs : List V) (E : XK) (t : TA) : TE := fun σ H Q => t σ H fun vs H1 => sp (vs ++ dvs) H1 Q E
def Binds (K : Zzv) (fd : FuncData) (ps : List Str) (ds : List Value) : Prop :=
 ∀ (s : Shared) (us : List Value), K.In s.heap -> (us ++ ds).length = ps.length -> BindsTo s fd ⟨us, []⟩ (ps.zip (us ++ ds))
theorem Binds.all {K : Zzv} {fd : FuncData} {ps : List Str} (h : ∀ us : List Value, us.length = ps.length -> bindArgs fd ⟨us, []⟩ = pure (ps.zip us)) : Binds K fd ps [] := fun s us _ hl => by
 rw [Zza] at hl ⊢
 exact .of_eq (h us hl)
def Ux (CX : CXT) (X : Cx) (E : XK) : Prop := ∀ (pins : List (Addr × Obj)) (σ : St) (H : Hp) (s : Shared) (e : Value) (s' : Shared), Inv X pins σ H s -> CX X.stack H s E e s' -> X.xe e s'
section
variable {X : Cx} {CX : CXT} {k : Nat} {f C : Addr} {fd : FuncData} {ps : List Str} {sp : Sp} {dvs : List V} {ds : List Value} {E : XK} {x m : Str} {p pos apos : Pos} {e o : Expr} {es : List Expr} {ta : TE} {t : TA}
theorem ib {pins : List (Addr × Obj)} {σ : St} {H : Hp} {s : Shared} {Q : VK} {us : List Value} {vs : List V} (F : FnOk X.prog X.w X.K X.mg X.base CX k f fd ps sp) (hr : Room k X.A) (hb : Binds X.K fd ps ds) (hd : Vals dvs ds) (hx : Ux CX X E)
  (I : Inv X pins σ H s) (r : Vals vs us) (h : sp (vs ++ dvs) H Q E) : wpAny (model X.prog X.w) X.A (call (.ref f) us) (EP X pins σ Q) X.xe s := by
 have r2 : Vals (vs ++ dvs) (us ++ ds) := r.append hd
 have hl : (us ++ ds).length = ps.length := by rw [<- r2.length]; exact F.len _ _ _ _ h
 refine wpAny_call (codeAny_mono (F.run X.A X.stack s H ⟨us, []⟩ (us ++ ds) (vs ++ dvs) Q E hr I.env0 (hb s us I.kIn hl) r2 h) fun r s' hq => ?_)
 cases r with
 | error e => exact hx pins σ H s e s' I hq
 | ok fl =>
  cases fl with
  | ret u => exact I.after hq
  | next => exact False.elim hq
  | brk => exact False.elim hq
  | cont => exact False.elim hq
theorem cn (F : FnOk X.prog X.w X.K X.mg X.base CX k f fd ps sp) (hr : Room k X.A) (hg : Gl X x) (hm : X.mg x = some (.ref f)) (hk : Zzl X.K (.ref f) = true) (hb : Binds X.K fd ps ds) (hd : Vals dvs ds) (hx : Ux CX X E)
  (ha : PA X (e :: es) t) (hdb : (x == ("__debug__" : Str)) = false := by decide) (he : starEach (e :: es) X.env = (false, eval e X.env) :: starEach es X.env := by rfl) (hpl : (backTo pos (starEach es X.env)).any (·.1) = false := by rfl) :
  PE X (.Call (.Name x p) (e :: es) [] pos) (P0 sp dvs E t) := by
 intro pins s σ H Q I h
 refine wpAny_Call_Name_kw (Vo I hg hm ?_ hdb)
 refine PySem.W.callWith_K (h₀ := X.base) I.ok.mod.kin hk (thn (ha pos pins s σ H _ I h) fun us s1 ⟨vs, H1, I1, r, q⟩ => ⟨I1.kIn, ?_⟩) he hpl
 exact ib F hr hb hd hx I1 r q
end
section
variable {X : Cx} {CX : CXT} {k : Nat} {f C : Addr} {fd : FuncData} {ps ks : List Str} {sp : Sp} {E : XK} {x m : Str} {p pos apos kpos : Pos} {e o : Expr} {es : List Expr} {kws : List Keyword} {te ta : TE} {t tk : TA} {nm : Option Str}
variable {g : List Value -> List Value -> List Value} {gV : List V -> List V -> List V}
end
structure Al (N P : List Str) (sc : Scope) : Prop where
 kind : sc.kind = .function
 co : sc.isCoroutine = false
 gen : sc.isGenerator = false
 nd : N.Nodup
 pre : N.take P.length = P
 par : ∀ x ∈ P, sc.names.lookup x = some .local \/ sc.names.lookup x = some .cell
 nofree : ∀ y ∈ sc.names, y.2 ≠ .free
theorem Pl {kindOf : Str -> Option NameKind} {x : Str} : ∀ {binds : List (Str × Value)} {m : Str -> Option Value}, (∀ v, (x, v) ∉ binds) -> bindL kindOf binds m x = m x
 | [], _, _ => rfl
 | (n, v) :: r, m, h => by
  unfold bindL
  rw [Pl fun w hw => h w (Zz6 _ hw)]
  split
  ·have : x ≠ n := by rintro rfl; exact h v Zz2
   simp [this]
  ·rfl
theorem Pn {kindOf : Str -> Option NameKind} {x : Str} : ∀ {binds : List (Str × Value)} {m : Str -> Option Value}, (∀ v, (x, v) ∉ binds) -> bindC kindOf binds m x = m x
 | [], _, _ => rfl
 | (n, v) :: r, m, h => by
  unfold bindC
  rw [Pn fun w hw => h w (Zz6 _ hw)]
  split
  ·rfl
  ·have : x ≠ n := by rintro rfl; exact h v Zz2
   simp [this]
theorem Pm {kindOf : Str -> Option NameKind} {x : Str} {v : Value} : ∀ {P : List Str} {vs : List Value} {i : Nat} {m : Str -> Option Value}, P.Nodup -> P[i]? = some x -> vs[i]? = some v -> kindOf x = some .local ->
  bindL kindOf (P.zip vs) m x = some v
 | [], _, _, _, _, h, _, _ => by simp at h
 | _ :: _, [], _, _, _, _, h, _ => by simp at h
 | p :: P, w :: vs, 0, m, nd, h1, h2, hk => by
  simp at h1 h2; subst h1; subst h2
  show bindL kindOf ((p, w) :: P.zip vs) m p = _
  unfold bindL
  rw [Pl fun v hv => (Zye.mp nd).1 (List.of_mem_zip hv).1, if_pos hk]
  simp
 | p :: P, w :: vs, i + 1, m, nd, h1, h2, hk => by
  show bindL kindOf ((p, w) :: P.zip vs) m x = _
  unfold bindL
  exact Pm (i := i) (Zye.mp nd).2 (by simpa using h1) (by simpa using h2) hk
theorem Po {kindOf : Str -> Option NameKind} {x : Str} {v : Value} : ∀ {P : List Str} {vs : List Value} {i : Nat} {m : Str -> Option Value}, P.Nodup -> P[i]? = some x -> vs[i]? = some v -> kindOf x ≠ some .local ->
  bindC kindOf (P.zip vs) m x = some v
 | [], _, _, _, _, h, _, _ => by simp at h
 | _ :: _, [], _, _, _, _, h, _ => by simp at h
 | p :: P, w :: vs, 0, m, nd, h1, h2, hk => by
  simp at h1 h2; subst h1; subst h2
  show bindC kindOf ((p, w) :: P.zip vs) m p = _
  unfold bindC
  rw [Pn fun v hv => (Zye.mp nd).1 (List.of_mem_zip hv).1, if_neg hk]
  simp
 | p :: P, w :: vs, i + 1, m, nd, h1, h2, hk => by
  show bindC kindOf ((p, w) :: P.zip vs) m x = _
  unfold bindC
  exact Po (i := i) (Zye.mp nd).2 (by simpa using h1) (by simpa using h2) hk
def Iw (N : List Str) (vs : List V) : St := vs.map some ++ Zym (N.length - vs.length) none
def Ul (CX : CXT) (P : Program) (w : World) (K : Zzv) (mg : Str -> Option Value) (base : Heap) (N : List Str) (qual : Str) (scope : Scope) (f : Addr) (cd : Value) (A : Around) (outer : List Env) (s : Shared) (H : Hp) (E : XK) : Cx where
 prog := P
 w := w
 K := K
 mg := mg
 base := base
 A := A.deeper (envOfC qual scope s.heap.objs.size f cd)
 N := N
 s₀ := s
 H₀ := H
 env := envOfC qual scope s.heap.objs.size f cd
 outer := outer
 stack := envOfC qual scope s.heap.objs.size f cd :: outer
 ex := []
 calm := true
 fn := fun _ => true
 pn := []
 xe := fun e s' => wpAny (model P w) (A.deeper (envOfC qual scope s.heap.objs.size f cd)) (leaving (envOfC qual scope s.heap.objs.size f cd) e) (fun _ s'' => CX outer H s E e s'') (fun e' s'' => CX outer H s E e' s'') s'
theorem T5 {sc : Scope} {n : Nat} {x : Str} (h : sc.names.lookup x = some .cell) : ∃ c, (cellsFrom n sc.names []).lookup x = some c := by
 have q := PySem.W.cellsFrom_some sc.names n [] (.inl h)
 exact Option.isSome_iff_exists.mp q
theorem Xg {CX : CXT} {P : Program} {w : World} {K : Zzv} {mg : Str -> Option Value} {base : Heap} {N ps : List Str} {qual : Str} {scope : Scope} {f : Addr} {cd : Value} {A : Around} {outer : List Env} {s s1 : Shared} {H : Hp} {E : XK} {us : List Value} {vs : List V}
  (S : Al N ps scope) (hd : A.handled = none) (e0 : Env0 P w K mg base A outer s H) (hl : vs.length = ps.length) (r : Vals vs us)
  (x : InCallC s s.heap.objs.size (bindL (envOfC qual scope s.heap.objs.size f cd).kindOf (ps.zip us) fun _ => none) (cellsFrom (s.heap.objs.size + 1) scope.names []) (bindC (envOfC qual scope s.heap.objs.size f cd).kindOf (ps.zip us) fun _ => none) s1) :
  Inv (Ul CX P w K mg base N qual scope f cd A outer s H E) [] (Iw N vs) H s1 := by
 have hpl : ps.length <= N.length := by have := congrArg Zx7 S.pre; rw [Zyq] at this; omega
 obtain ⟨h1, tk, rfl, hk⟩ := x.done
 have noA : ∀ b : Addr, b ∉ (Ul CX P w K mg base N qual scope f cd A outer s H E).ex := fun b z => absurd (show b ∈ ([] : List Addr) from z) (by simp)
 refine ⟨⟨e0.mod, S.kind, rfl, rfl, Zzs _, fun y z c h1 h2 => ?_, fun y hy => ?_, fun y c _ h => ?_, fun _ => hd, Around.frames_deeper e0.frames, .inr ⟨rfl, rfl⟩, fun b z => absurd z (noA b), e0.bs, e0.bsz, fun b _ _ => noA b, fun b z => absurd z (noA b), e0.funs, e0.frf⟩,
  rfl, e0.bare, Un.kept hk, ⟨_, x.toInCall.ns, fun i y v h1 h2 h3 => ?_⟩, fun y c h => ⟨_, x.cell y c h⟩, e0.hok.fresh (Zzs _), fun y c h => ?_, fun p hp => absurd (show p ∈ ([] : List (Addr × Obj)) from hp) (by simp), e0.hok.kept hk, ?_⟩
 ·exact name_of_addr x.apart (Zxl h1) (Zxl h2)
 ·have hy : scope.names.lookup y = some .cell \/ scope.names.lookup y = some .free := hy
  rcases hy with hy | hy
  ·exact T5 hy
  ·exact absurd rfl (S.nofree _ (Zxl hy))
 ·exact Nat.le_of_lt (x.above y c (Zxl h))
 ·have hi : i < vs.length := by
   unfold Iw at h2
   by_cases hi : i < vs.length
   ·exact hi
   ·rw [Zyb (by simpa using hi)] at h2
    rw [List.getElem?_replicate] at h2
    split at h2 <;> cases h2
  have ha : vs[i]? = some v := by
   unfold Iw at h2
   rw [Zxy (by simpa using hi), Zzx] at h2
   cases e : vs[i]? with
   | none => rw [e] at h2; cases h2
   | some a => rw [e] at h2; cases h2; rfl
  obtain ⟨u, hu, rv⟩ := r.get ha
  have hp : ps[i]? = some y := by
   rw [<- S.pre, List.getElem?_take_of_lt (by omega)]; exact h1
  have ndP : ps.Nodup := by rw [<- S.pre]; exact S.nd.sublist (List.take_sublist _ _)
  refine ⟨u, rv, ?_⟩
  rcases S.par y (Zzt hp) with k | k
  ·exact .inl ⟨k, Pm ndP hp hu k⟩
  ·obtain ⟨c, e⟩ := T5 (n := s.heap.objs.size + 1) k
   refine .inr ⟨.inl k, c, e, ?_⟩
   have q := x.cell y c e
   rw [Po ndP hp hu (by show scope.names.lookup y ≠ _; rw [k]; decide)] at q
   exact q
 ·exact e0.hok.fresh (Nat.le_of_lt (x.above y c (Zxl h)))
 ·unfold Iw
  show _ = N.length
  rw [Zzm, Zzz, List.length_replicate]
  omega
theorem gt {CX : CXT} {P : Program} {w : World} {K : Zzv} {mg : Str -> Option Value} {base : Heap} {k : Nat} {f : Addr} {name qual : Str} {params : Arguments} {body : List Stmt} {scope : Scope} {dV kV doc pm cdv ct oc : Value} {an od : Option Addr}
  {osl : Array (Option Value)} {N ps : List Str} {sp : Sp} (lk : K.lookup f = some ⟨oc, od, .func (Zzd name qual params body scope dV kV doc pm an cdv ct), osl⟩) (hcd : Zzk K cdv qual = true) (S : Al N ps scope)
  (len : ∀ vs H Q E, sp vs H Q E -> vs.length = ps.length)
  (hbody : ∀ (A : Around) (outer : List Env) (s : Shared) (H : Hp) (vs : List V) (Q : VK) (E : XK), Room k (A.deeper (envOfC qual scope s.heap.objs.size f cdv)) -> sp vs H Q E ->
   ∃ t, PSs (Ul CX P w K mg base N qual scope f cdv A outer s H E) body t /\ t { nx := fun _ H' => Q .non H', rt := Q } (Iw N vs) H) :
  FnOk P w K mg base CX (k + 1) f (Zzd name qual params body scope dV kV doc pm an cdv ct) ps sp := by
 refine ⟨len, fun A outer s H args us vs Q E hr e0 hb r hsp => ?_⟩
 have hl := len _ _ _ _ hsp
 have KX : K.In s.heap := e0.mod.kin.keeps fun b o e => (e0.bs b o e).1
 have lim : s.heap.NoLimit := e0.mod.nolimit.keeps fun b o e => (e0.bs b o e).1
 have hkind : ∀ y ∈ ps.zip us, scope.names.lookup y.1 = some .local \/ (scope.names.lookup y.1 = some .cell /\ ((cellsFrom (s.heap.objs.size + 1) scope.names []).lookup y.1).isSome = true) := fun ⟨n, v⟩ hy => by
  rcases S.par n (List.of_mem_zip hy).1 with q | q
  ·exact .inl q
  ·exact .inr ⟨q, PySem.W.cellsFrom_some _ _ _ (.inl q)⟩
 refine codeAny_call_function hr.depth (KX _ _ lk) rfl S.co S.gen rfl (PySem.W.codeRec_of KX hcd) (hb _ _ _ _ ?_)
 refine wpAny_newFunctionEnv_cells S.kind hkind fun env he s1 x => ?_
 subst he
 refine ⟨lim.keeps x.toInCall.keep, codeAny_func ?_⟩
 obtain ⟨t, ht, hq⟩ := hbody A outer s H vs Q E (hr.deeper _) hsp
 have I : Inv (Ul CX P w K mg base N qual scope f cdv A outer s H E) [] (Iw N vs) H s1 := Xg S hr.hd e0 hl r x
 refine wpAny_mono (ht [] s1 (Iw N vs) H _ I hq) (fun fl s' hs => ?_) fun e s' hs => hs
 have fin : ∀ {σ' : St} {H' : Hp} {v : V} {u : Value}, Inv (Ul CX P w K mg base N qual scope f cdv A outer s H E) [] σ' H' s' -> RelV v u -> Q v H' -> CE outer P w H s Q u s' :=
  fun {σ' H' v u} J rv q => ⟨v, H', J.os, J.bare, J.base, J.hok, rv, q⟩
 cases fl with
 | ret u =>
  obtain ⟨v, σ', H', J, rv, q⟩ := hs
  exact fin J rv q
 | next =>
  obtain ⟨σ', H', J, q⟩ := hs
  exact fin (v := V.non) (u := Value.none) J rfl q
 | brk =>
  obtain ⟨_, _, _, q⟩ := hs
  exact False.elim q
 | cont =>
  obtain ⟨_, _, _, q⟩ := hs
  exact False.elim q
section
variable {X : Cx} {x : Str} {p pos : Pos} {e : Expr} {es : List Expr} {t : TA} {id T : String} {r : List V -> Hp -> VK -> Prop}
def tCB (r : List V -> Hp -> VK -> Prop) (t : TA) : TE := fun σ H Q => t σ H fun vs H1 => r vs H1 Q
theorem Z0 (hc : CallR X (.builtin id) r) (hg : Gl X x) (hm : X.mg x = none) (hv : bootBuiltins x = some (.builtin id)) (ha : PA X (e :: es) t) (hn : x ≠ "__name__" := by decide) (hdb : (x == ("__debug__" : Str)) = false := by decide)
  (he : starEach (e :: es) X.env = (false, eval e X.env) :: starEach es X.env := by rfl) (hpl : (backTo pos (starEach es X.env)).any (·.1) = false := by rfl) : PE X (.Call (.Name x p) (e :: es) [] pos) (tCB r t) := by
 intro pins s σ H Q I h
 refine wpAny_Call_Name_kw (Fa I hg hm hv ?_ hn hdb)
 exact PyProof.Rows.callWith_builtin1 (thn (ha pos pins s σ H _ I h) fun us s1 ⟨vs, H1, I1, r1, q1⟩ => hc pins s1 σ H1 vs us Q I1 r1 q1) he hpl
theorem Wo (hc : CallR X (.type T) r) (hg : Gl X x) (hm : X.mg x = none) (hv : bootBuiltins x = some (.type T)) (ha : PA X (e :: es) t) (hn : x ≠ "__name__" := by decide) (hdb : (x == ("__debug__" : Str)) = false := by decide)
  (he : starEach (e :: es) X.env = (false, eval e X.env) :: starEach es X.env := by rfl) (hpl : (backTo pos (starEach es X.env)).any (·.1) = false := by rfl) : PE X (.Call (.Name x p) (e :: es) [] pos) (tCB r t) := by
 intro pins s σ H Q I h
 refine wpAny_Call_Name_kw (Fa I hg hm hv ?_ hn hdb)
 exact Zy2 (thn (ha pos pins s σ H _ I h) fun us s1 ⟨vs, H1, I1, r1, q1⟩ => hc pins s1 σ H1 vs us Q I1 r1 q1) he hpl
end
end L2
namespace HT
open PySem PyProof.Rows
def gn : List Int -> List Int -> Bool
 | [], [] => false
 | [], _ :: _ => true
 | _ :: _, [] => false
 | x :: xs, y :: ys => if x = y then gn xs ys else decide (x < y)
section
open PySem.SeqAt
open PySem.AutoSeq1 (wpAny_loadPart')
open PySem.MeetsSeq PySem.MeetsSeq2 PySem.MeetsSeq3
end
section
variable {prog : Program} {w : World} {A : Around} {E : Value -> Shared -> Prop} {s : Shared}
def sIx (n d : Nat) : Option Int -> Nat
 | none => d
 | some v => if v < 0 then (v + (n : Int)).toNat else min v.toNat n
end
end HT
namespace L2
open PySem PySem.Spec PyProof.Rows
abbrev TO := St -> Hp -> (Option Int -> Hp -> Prop) -> Prop
def PO (X : Cx) (e : Option Expr) (t : TO) : Prop :=
 ∀ (pins : List (Addr × Obj)) (s : Shared) (σ : St) (H : Hp) (Q : Option Int -> Hp -> Prop), Inv X pins σ H s -> t σ H Q ->
  wpAny (model X.prog X.w) X.A (evalPart e X.env) (fun u s' => ∃ o H', Inv X pins σ H' s' /\ IsPart u o /\ Q o H') X.xe s
def tNoPart : TO := fun _ H Q => Q none H
def V5 (t : TE) : TO := fun σ H Q => t σ H fun x H1 => ∃ i, x = .int i /\ Q (some i) H1
section
variable {X : Cx} {e : Expr} {te : TE} {lo hi : Option Expr} {tl th : TO} {pos p2 : Pos}
theorem Kr : PO X none tNoPart := by
 intro pins s σ H Q I h
 rw [evalPart_none]
 exact wpAny_pure ⟨none, H, I, .none, h⟩
theorem Hy (h : PE X e te) : PO X (some e) (V5 te) := by
 intro pins s σ H Q I hw
 rw [evalPart_some]
 refine thn (h pins s σ H _ I hw) fun u s1 ⟨x, H1, I1, r1, q1⟩ => ?_
 obtain ⟨i, rfl, q⟩ := q1
 obtain ⟨t, rfl⟩ := r1
 exact ⟨some i, H1, I1, .int i t, q⟩
def SlR (X : Cx) (r : V -> Option Int -> Option Int -> Hp -> VK -> Prop) : Prop :=
 ∀ (pins : List (Addr × Obj)) (s : Shared) (σ : St) (H : Hp) (x : V) (v vl vu : Value) (lo hi : Option Int) (sl : Addr) (Q : VK), Inv X pins σ H s -> RelV x v -> s.heap.IsSliceOf sl vl vu .none -> IsPart vl lo -> IsPart vu hi -> r x lo hi H Q ->
  ∃ T id, typeLookup (.type T) "__getitem__" = pure (some (.builtin id)) /\ s.TypeIs v T /\ wpAny (model X.prog X.w) X.A (getItem v (.ref sl)) (EP X pins σ Q) X.xe s
theorem SlR.or {r r' : V -> Option Int -> Option Int -> Hp -> VK -> Prop} (h : SlR X r) (h' : SlR X r') : SlR X (fun x lo hi H Q => r x lo hi H Q \/ r' x lo hi H Q) := by
 intro pins s σ H x v vl vu lo hi sl Q I rx hs pl pu q
 rcases q with q | q
 ·exact h pins s σ H x v vl vu lo hi sl Q I rx hs pl pu q
 ·exact h' pins s σ H x v vl vu lo hi sl Q I rx hs pl pu q
def tSl (r : V -> Option Int -> Option Int -> Hp -> VK -> Prop) (te : TE) (tl th : TO) : TE := fun σ H Q => te σ H fun x H1 => tl σ H1 fun l H2 => th σ H2 fun u H3 => r x l u H3 Q
theorem Hk {r : V -> Option Int -> Option Int -> Hp -> VK -> Prop} (hr : SlR X r) (he : PE X e te) (hl : PO X lo tl) (hu : PO X hi th) : PE X (.Subscript e (.Slice lo hi none p2) pos) (tSl r te tl th) := by
 intro pins s σ H Q I h
 refine Subscript_ (thn (he pins s σ H _ I h) fun v s1 ⟨x, H1, I1, r1, q1⟩ => ?_)
 refine wpAny_Slice (thn (hl pins s1 σ H1 _ I1 q1) fun vl s2 ⟨l, H2, I2, pl, q2⟩ => thn (hu pins s2 σ H2 _ I2 q2) fun vu s3 ⟨u, H3, I3, pu, q3⟩ => ?_)
 rw [evalPart_none]
 refine wpAny_pure ?_
 have I4 : Inv X pins σ H3 { s3 with heap := s3.heap.push { cls := .type "slice", data := .fields #[vl, vu, .none] } } := I3.kept (t' := s3.toks) fun b ob q => Zzy _ q
 obtain ⟨T, id, hT, ht, hg⟩ := hr pins { s3 with heap := s3.heap.push { cls := .type "slice", data := .fields #[vl, vu, .none] } } σ H3 x v vl vu l u s3.heap.objs.size Q I4 r1 (Heap.IsSliceOf.new ..) pl pu q3
 show wpAny (model X.prog X.w) X.A (subscriptTail e (.Slice lo hi none p2) v (.ref s3.heap.objs.size)) (EP X pins σ Q) X.xe { s3 with heap := s3.heap.push { cls := .type "slice", data := .fields #[vl, vu, .none] } }
 exact tail_any (ops := [.ref s3.heap.objs.size, v]) ht hT hg (by with_unfolding_all rfl)
def Jv (xs : List V) (lo hi : Option Int) : List V := (xs.drop (HT.sIx xs.length 0 lo)).take (HT.sIx xs.length xs.length hi - HT.sIx xs.length 0 lo)
theorem Mg (xs : List V) (lo hi : Option Int) : (Jv xs lo hi).length <= xs.length := by
 unfold Jv
 rw [Zyq, Zxq]
 omega
def ic (K : Zzv) : R2 := fun x y H Q => ∃ a b ns ms, x = .ref a /\ y = .ref b /\ SqT K H a (ns.map V.int) /\ SqT K H b (ms.map V.int) /\ Q (.bl (HT.gn ns ms)) H
end
def ixN (n : Nat) (i : Int) : Option Nat := if 0 <= i then (if i < n then some i.toNat else none) else if -(n : Int) <= i then some (i + n).toNat else none
def atI {α : Type} (xs : List α) (i : Int) : Option α := (ixN xs.length i).bind fun j => xs[j]?
theorem Vr {n : Nat} {i : Int} {j : Nat} (h : ixN n i = some j) : seqIndex? i n = some j /\ j < n /\ -(n : Int) <= i /\ i < n := by
 unfold ixN at h
 by_cases h0 : 0 <= i
 ·rw [if_pos h0] at h
  by_cases h1 : i < n
  ·rw [if_pos h1] at h
   have e : i.toNat = j := Zzo h
   exact ⟨by rw [seqIndex_of h0 h1, e], by omega, by omega, h1⟩
  ·rw [if_neg h1] at h; cases h
 ·rw [if_neg h0] at h
  by_cases h1 : -(n : Int) <= i
  ·rw [if_pos h1] at h
   have e : (i + n).toNat = j := Zzo h
   exact ⟨by rw [seqIndex_neg (by omega) h1, e], by omega, h1, by omega⟩
  ·rw [if_neg h1] at h; cases h
theorem Ra {α : Type} {xs : List α} {i : Int} {v : α} (h : atI xs i = some v) : ∃ j, seqIndex? i xs.length = some j /\ xs[j]? = some v /\ j < xs.length /\ -(xs.length : Int) <= i /\ i < xs.length := by
 unfold atI at h
 cases e : ixN xs.length i with
 | none => rw [e] at h; cases h
 | some j =>
  rw [e] at h
  obtain ⟨h1, h2, h3, h4⟩ := Vr e
  exact ⟨j, h1, h, h2, h3, h4⟩
theorem Js {α : Type} {xs : List α} {j : Nat} {v : α} (h : xs[j]? = some v) : atI xs (j : Int) = some v := by
 have hj : j < xs.length := (Zzg.mp h).1
 have e : ixN xs.length (j : Int) = some j := by
  unfold ixN
  rw [if_pos (by omega), if_pos (by omega)]; simp
 unfold atI; rw [e]; exact h
def W5 (b : Expr) : Prop := ∀ o i, subscripted b false o i = operate [o, i] (getItem o i)
def IxR (X : Cx) (r : R2) : Prop :=
 ∀ (value slice : Expr) (pins : List (Addr × Obj)) (s : Shared) (σ : St) (H : Hp) (x y : V) (v u : Value) (Q : VK), Inv X pins σ H s -> RelV x v -> RelV y u -> r x y H Q ->
  subscripted slice false v u = operate [v, u] (getItem v u) -> wpAny (model X.prog X.w) X.A (subscriptTail value slice v u) (EP X pins σ Q) X.xe s
def MtR (X : Cx) (id : String) (r : V -> List V -> Hp -> VK -> Prop) : Prop :=
 ∀ (pins : List (Addr × Obj)) (s : Shared) (σ : St) (H : Hp) (x : V) (xs : List V) (v : Value) (us : List Value) (Q : VK), Inv X pins σ H s -> RelV x v -> Vals xs us -> r x xs H Q ->
  wpAny (model X.prog X.w) X.A (call (.builtin id) (v :: us)) (EP X pins σ Q) X.xe s
section
variable {X : Cx} {a b : Expr} {ta tb : TE} {pos : Pos}
theorem IxR.or {r r' : R2} (h : IxR X r) (h' : IxR X r') : IxR X (fun x y H Q => r x y H Q \/ r' x y H Q) := by
 intro value slice pins s σ H x y v u Q I rx ry q hs
 rcases q with q | q
 ·exact h value slice pins s σ H x y v u Q I rx ry q hs
 ·exact h' value slice pins s σ H x y v u Q I rx ry q hs
theorem MtR.or {id : String} {r r' : V -> List V -> Hp -> VK -> Prop} (h : MtR X id r) (h' : MtR X id r') : MtR X id (fun x xs H Q => r x xs H Q \/ r' x xs H Q) := by
 intro pins s σ H x xs v us Q I rx rs q
 rcases q with q | q
 ·exact h pins s σ H x xs v us Q I rx rs q
 ·exact h' pins s σ H x xs v us Q I rx rs q
theorem Yy {r : R2} (hr : IxR X r) (ha : PE X a ta) (hb : PE X b tb) (hs : W5 b) : PE X (.Subscript a b pos) (tOp r ta tb) := by
 intro pins s σ H Q I h
 exact Subscript_ (jm ha hb I h fun v u s2 x y H2 I2 rx ry q => hr a b pins s2 σ H2 x y v u Q I2 rx ry q (hs _ _))
def kj (K : Zzv) : R2 := fun x y H Q => ∃ p xs i v, x = .ref p /\ y = .int i /\ SqL K H p xs /\ atI xs i = some v /\ Q v H
def rIxT (K : Zzv) : R2 := fun x y H Q => ∃ p xs i v, x = .ref p /\ y = .int i /\ SqT K H p xs /\ atI xs i = some v /\ Q v H
def rIxS : R2 := fun x y H Q => ∃ z i c, x = .str z /\ y = .int i /\ z.length <= sizeLine /\ atI z.cps.toList i = some c /\ Q (.str ⟨#[c]⟩) H
theorem Qz : IxR X (kj X.K) := by
 intro value slice pins s σ H x y v u Q I rx ry h hs
 obtain ⟨p, xs, i, z, rfl, rfl, hq, he, q⟩ := h
 cases rx
 obtain ⟨t, rfl⟩ := ry
 obtain ⟨its, r, pl, hz⟩ := I.list hq
 obtain ⟨j, h1, h2, h3, h4, h5⟩ := Ra he
 obtain ⟨w, ew, rw'⟩ := r.get h2
 have hl := r.length
 have hn := Je
 have fin : EP X pins σ Q w s := ⟨z, H, I, rw', q⟩
 by_cases h0 : 0 <= i
 ·have hj : i.toNat = j := by
   rw [seqIndex_of h0 h5] at h1
   exact Zzo h1
  exact item_listR pl.isList h0 (by omega) (by rw [hj]; simpa using ew) fin hs
 ·have hj : (i + (its.toArray.size : Int)).toNat = j := by
   rw [seqIndex_neg (by omega) h4] at h1
   rw [Zzp, <- hl]
   exact Zzo h1
  exact subscriptTail_builtinR (x := w) pl.isList.typeIs slot_list_getitem.lookup
   (wpAny_getItem_list_neg (Q := fun r s' => r = w /\ EP X pins σ Q r s') pl.isList (by omega) (by rw [Zzp] <;> omega) (by omega) (by rw [hj]; simpa using ew) ⟨rfl, fin⟩) hs
theorem j5 : IxR X (rIxT X.K) := by
 intro value slice pins s σ H x y v u Q I rx ry h hs
 obtain ⟨p, xs, i, z, rfl, rfl, hq, he, q⟩ := h
 cases rx
 obtain ⟨t, rfl⟩ := ry
 obtain ⟨its, r, pl, hz⟩ := I.tuple hq
 obtain ⟨j, h1, h2, h3, h4, h5⟩ := Ra he
 obtain ⟨w, ew, rw'⟩ := r.get h2
 have hl := r.length
 have hn := Je
 have fin : EP X pins σ Q w s := ⟨z, H, I, rw', q⟩
 exact subscriptTail_builtinR (x := w) pl.typeIs slot_tuple_getitem.lookup
  (getItem_tuple (j := j) (Q := fun r s' => r = w /\ EP X pins σ Q r s') pl (by omega) (by omega) (by rw [Zzp, <- hl]; exact h1) (by simpa using ew) ⟨rfl, fin⟩) hs
theorem j6 : IxR X rIxS := by
 intro value slice pins s σ H x y v u Q I rx ry h hs
 obtain ⟨z, i, c, rfl, rfl, hz, he, q⟩ := h
 obtain ⟨t, rfl⟩ := rx
 obtain ⟨t', rfl⟩ := ry
 obtain ⟨j, h1, h2, h3, h4, h5⟩ := Ra he
 have hl : z.cps.toList.length = z.length := by simp [Str.length]
 rw [hl] at h1 h4 h5
 have hn := Je
 exact tail_any (typeIs_str s z t) slot_str_getitem.lookup (getItem_str (c := c) (by
  have e1 : decide (i < -(2 ^ 63 : Int)) = false := decide_eq_false (by omega)
  have e2 : decide (i ≥ 2 ^ 63) = false := decide_eq_false (by omega)
  rw [e1, e2, Bool.or_false]) (by rw [h1]; simpa using h2) ⟨.str ⟨#[c]⟩, H, I.tok _, ⟨_, rfl⟩, q⟩) hs
theorem Ue (its : List Value) (n j : Nat) (u : Value) : Obj.mapSeq (·.setIfInBounds j u) { cls := .type "list", data := .seq its.toArray n } = { cls := .type "list", data := .seq (its.set j u).toArray n } := by
 simp [Obj.mapSeq]
theorem Inv.lst {pins : List (Addr × Obj)} {σ : St} {H : Hp} {s : Shared} {p : Addr} {xs : List V} (I : Inv X pins σ H s) (h : H p = some (.lst xs)) :
  ∃ (its : List Value) (n : Nat), Vals xs its /\ s.heap.get? p = some { cls := .type "list", data := .seq its.toArray n } /\ xs.length <= sizeLine := by
 obtain ⟨z, its, n, r, e⟩ := I.hok p _ h
 exact ⟨its, n, r, e, z⟩
theorem Inv.lstUpd {pins : List (Addr × Obj)} {σ : St} {H : Hp} {s : Shared} {p : Addr} {xs ys : List V} {its its' : List Value} {n n' : Nat} {f : Obj -> Obj} (I : Inv X pins σ H s) (h : H p = some (.lst xs))
  (ho : s.heap.get? p = some { cls := .type "list", data := .seq its.toArray n }) (hf : f { cls := .type "list", data := .seq its.toArray n } = { cls := .type "list", data := .seq its'.toArray n' }) (r : Vals ys its') (hz : ys.length <= sizeLine) (t : Nat) :
  Inv X pins σ (upd H p (.lst ys)) { s with heap := s.heap.update p f, toks := t } := by
 have e : (s.heap.update p f).get? p = some { cls := .type "list", data := .seq its'.toArray n' } := by
  rw [Zx3 f ho (by rw [hf] <;> rfl), hf]
 refine I.write (x := p) (e := p) (by rw [h]; trivial) (.inl rfl) (fun b u hb q => (Zy0 _ _ (Zzc hb)).trans q) ⟨_, e⟩ ?_
 exact ⟨hz, its', n', r, e⟩
def rSetL : V -> V -> V -> Hp -> (Hp -> Prop) -> Prop := fun o i v H Q => ∃ p xs k j, o = .ref p /\ i = .int k /\ H p = some (.lst xs) /\ ixN xs.length k = some j /\ Q (upd H p (.lst (xs.set j v)))
theorem Dz : av X rSetL := by
 intro pins s σ H o i v ov iv u Q I ro ri rv h
 obtain ⟨p, xs, k, j, rfl, rfl, hp, hj, q⟩ := h
 cases ro
 obtain ⟨t, rfl⟩ := ri
 obtain ⟨its, n, r, ho, hz⟩ := I.lst hp
 obtain ⟨h1, h2, h3, h4⟩ := Vr hj
 have hl := r.length
 have hn := Je
 have I' : Inv X pins σ (upd H p (.lst (xs.set j v))) { s with heap := s.heap.update p (Obj.mapSeq (·.setIfInBounds j u)) } :=
  I.lstUpd hp ho (Ue its n j u) (r.set rv j) (by rw [Zx2]; exact hz) s.toks
 by_cases h0 : 0 <= k
 ·have hk : k.toNat = j := by
   rw [seqIndex_of h0 h4] at h1
   exact Zzo h1
  exact PySem.W.ki_setAt ho h0 (by omega) (by rw [Zzp, <- hl]; exact h4) (by rw [hk]; exact ⟨_, I', q⟩)
 ·have hk : (k + (its.toArray.size : Int)).toNat = j := by
   rw [seqIndex_neg (by omega) h3] at h1
   rw [Zzp, <- hl]
   exact Zzo h1
  exact PySem.W.ki_setBack ho (by omega) (by rw [Zzp, <- hl]; exact h3) (by omega) (by rw [hk]; exact ⟨_, I', q⟩)
theorem Q1 (lo hi : Option Int) (n : Nat) : (sliceBounds lo hi none n).1 = ((HT.sIx n 0 lo : Nat) : Int) /\ (sliceBounds lo hi none n).2.1 = ((HT.sIx n n hi : Nat) : Int) /\ (sliceBounds lo hi none n).2.2 = 1 := by
 refine ⟨?_, ?_, rfl⟩
 ·cases lo with
  | none => simp [sliceBounds, HT.sIx]
  | some i =>
   simp only [sliceBounds, HT.sIx, Option.getD_none, show (1 : Int) > 0 by decide, if_true]
   by_cases h : i < 0
   ·simp only [h, if_true] <;> omega
   ·simp only [h, if_false] <;> omega
 ·cases hi with
  | none => simp [sliceBounds, HT.sIx]
  | some i =>
   simp only [sliceBounds, HT.sIx, Option.getD_none, show (1 : Int) > 0 by decide, if_true]
   by_cases h : i < 0
   ·simp only [h, if_true] <;> omega
   ·simp only [h, if_false] <;> omega
theorem Of (its : List Value) (lo hi : Option Int) : slicePick its.toArray lo hi none = ((its.drop (HT.sIx its.length 0 lo)).take (HT.sIx its.length its.length hi - HT.sIx its.length 0 lo)).toArray := by
 obtain ⟨h1, h2, h3⟩ := Q1 lo hi its.toArray.size
 unfold slicePick
 rw [h1, h2, h3]
 simp only [sliceRange_one, pick_run, Zzp] <;> rfl
def ki (K : Zzv) : V -> Option Int -> Option Int -> Hp -> VK -> Prop := fun x lo hi H Q => ∃ a xs, x = .ref a /\ SqL K H a xs /\ ∀ p, H p = none -> Q (.ref p) (upd H p (.lst (Jv xs lo hi)))
theorem Vc : SlR X (ki X.K) := by
 intro pins s σ H x v vl vu lo hi sl Q I rx hs pl pu h
 obtain ⟨a, xs, rfl, hx, q⟩ := h
 cases rx
 obtain ⟨its, r, ht, hz⟩ := I.list hx
 have hlen := r.length
 refine ⟨"list", _, slot_list_getitem.lookup, ht.isList.typeIs, ?_⟩
 refine wpAny_getItem_list_slice ht.isList hs pl pu .none (by simp) ?_ (by rw [Zzp] <;> omega)
 rw [Of, <- hlen]
 refine ⟨.ref s.heap.objs.size, _, I.laid (t' := s.toks) (o := .lst (Jv xs lo hi)) (fun b ob q => Zzy _ q) (Zzs _) ?_, rfl, q _ (I.hok.fresh (Zzs _))⟩
 exact ⟨Zyw (Mg xs lo hi) hz, _, 0, (r.drop (HT.sIx xs.length 0 lo)).take (HT.sIx xs.length xs.length hi - HT.sIx xs.length 0 lo), Zzj _ rfl⟩
def Iz : V -> Bool
 | .non => true
 | .bl _ => true
 | .int _ => true
 | .str _ => true
 | _ => false
def eqV : V -> V -> Bool
 | .non, .non => true
 | .bl a, .bl b => a == b
 | .bl a, .int b => (if a then 1 else 0) == b
 | .int a, .bl b => a == (if b then 1 else 0)
 | .int a, .int b => a == b
 | .str a, .str b => a == b
 | _, _ => false
theorem jc {A : Around} {s : Shared} {y x : V} {u v : Value} (ry : RelV y u) (rx : RelV x v) (fy : Iz y = true) (fx : Iz x = true) : SeqAt.EqAt A s u v (eqV y x) := by
 cases y with
 | non =>
  cases ry
  cases x with
  | non => cases rx; exact SeqAt.EqAt.same _
  | bl b => cases rx; exact SeqAt.EqAt.none_bool b
  | int b => obtain ⟨t, rfl⟩ := rx; exact SeqAt.EqAt.none_int b t
  | str b => obtain ⟨t, rfl⟩ := rx; exact SeqAt.EqAt.none_str b t
  | _ => exact absurd (show false = true from fx) Zz0
 | bl a =>
  cases ry
  cases x with
  | non => cases rx; exact SeqAt.EqAt.bool_none a
  | bl b => cases rx; exact SeqAt.EqAt.bool_bool a b
  | int b => obtain ⟨t, rfl⟩ := rx; exact SeqAt.EqAt.bool_int a b t
  | str b => obtain ⟨t, rfl⟩ := rx; exact SeqAt.EqAt.bool_str a b t
  | _ => exact absurd (show false = true from fx) Zz0
 | int a =>
  obtain ⟨t', rfl⟩ := ry
  cases x with
  | non => cases rx; exact SeqAt.EqAt.int_none a t'
  | bl b => cases rx; exact SeqAt.EqAt.int_bool a t' b
  | int b => obtain ⟨t, rfl⟩ := rx; exact SeqAt.EqAt.int_int a t' b t
  | str b => obtain ⟨t, rfl⟩ := rx; exact SeqAt.EqAt.int_str a t' b t
  | _ => exact absurd (show false = true from fx) Zz0
 | str a =>
  obtain ⟨t', rfl⟩ := ry
  cases x with
  | non => cases rx; exact SeqAt.EqAt.str_none a t'
  | bl b => cases rx; exact SeqAt.EqAt.str_bool a t' b
  | int b => obtain ⟨t, rfl⟩ := rx; exact SeqAt.EqAt.str_int a t' b t
  | str b => obtain ⟨t, rfl⟩ := rx; exact SeqAt.EqAt.str_str a t' b t
  | _ => exact absurd (show false = true from fx) Zz0
 | _ => exact absurd (show false = true from fy) Zz0
def eqU (x : V) (u : Value) : Bool := match u with
 | .none => eqV .non x
 | .bool b => eqV (.bl b) x
 | .int i _ => eqV (.int i) x
 | .str z _ => eqV (.str z) x
 | _ => false
theorem Zw {x y : V} {u : Value} (r : RelV y u) (f : Iz y = true) : eqU x u = eqV y x := by
 cases y with
 | non => cases r; rfl
 | bl b => cases r; rfl
 | int i => obtain ⟨t, rfl⟩ := r; rfl
 | str z => obtain ⟨t, rfl⟩ := r; rfl
 | _ => exact absurd (show false = true from f) Zz0
theorem Rb {x : V} : ∀ {xs : List V} {us : List Value}, Vals xs us -> xs.all Iz = true -> us.any (eqU x) = xs.any fun y => eqV y x
 | _, _, .nil, _ => rfl
 | y :: xs, u :: us, .cons r t, f => by
  rw [List.all_cons, Zya] at f
  rw [Zwx, Zwx, Zw r f.1, Rb t f.2]
theorem Nu {A : Around} {s : Shared} {x : V} {v : Value} (rx : RelV x v) (fx : Iz x = true) : ∀ {xs : List V} {us : List Value}, Vals xs us -> xs.all Iz = true -> ∀ u ∈ us, SeqAt.EqAt A s u v (eqU x u)
 | _, _, .nil, _ => fun u hu => by cases hu
 | y :: xs, u :: us, .cons r t, f => fun u' hu => by
  rw [List.all_cons, Zya] at f
  rcases Zzi.mp hu with rfl | hu
  ·rw [Zw r f.1]; exact jc r rx f.1 fx
  ·exact Nu rx fx t f.2 u' hu
def inV (x : V) (xs : List V) : Bool := xs.any fun y => eqV y x
def rIn (K : Zzv) (neg : Bool) : R2 := fun x y H Q => ∃ p xs, y = .ref p /\ (SqL K H p xs \/ SqT K H p xs) /\ Iz x = true /\ xs.all Iz = true /\ Q (.bl (if neg then !inV x xs else inV x xs)) H
theorem Ws : OpR X (compareOp .In) (rIn X.K false) := by
 intro pins s σ H x y v u Q I rx ry h
 obtain ⟨p, xs, rfl, hq, fx, fs, q⟩ := h
 cases ry
 rcases hq with hq | hq
 ·obtain ⟨its, r, pl, hz⟩ := I.list hq
  refine SeqAt.in_listAt (eqU x) pl.isList (fun w hw => Nu rx fx r fs w (by simpa using hw)) ⟨.bl _, H, I, rfl, ?_⟩
  rw [show its.toArray.any (eqU x) = its.any (eqU x) by simp, Rb r fs]
  exact q
 ·obtain ⟨its, r, pl, hz⟩ := I.tuple hq
  refine SeqAt.in_tupleAt (eqU x) pl (fun w hw => Nu rx fx r fs w (by simpa using hw)) ⟨.bl _, H, I, rfl, ?_⟩
  rw [show its.toArray.any (eqU x) = its.any (eqU x) by simp, Rb r fs]
  exact q
theorem L5 : CallR X (.builtin "len") (fun xs H Q => ∃ p ys, xs = [.ref p] /\ (SqL X.K H p ys \/ SqT X.K H p ys) /\ Q (.int ys.length) H) := by
 intro pins s σ H xs us Q I r h
 obtain ⟨p, ys, rfl, hq, q⟩ := h
 obtain ⟨u, rfl, rx⟩ := Gz r
 cases rx
 have hn := Je
 rcases hq with hq | hq
 ·obtain ⟨its, r', pl, hz⟩ := I.list hq
  have hlen := r'.length
  exact Calls.call_len_list pl.isList (by simp only [Zzp] <;> omega) ⟨.int ys.length, H, I.tok _, ⟨s.toks + 1, by rw [Zzp, hlen]⟩, q⟩
 ·obtain ⟨its, r', pl, hz⟩ := I.tuple hq
  have hlen := r'.length
  exact len_tuple pl (by simp only [Zzp] <;> omega) ⟨.int ys.length, H, I.tok _, ⟨s.toks + 1, by rw [Zzp, hlen]⟩, q⟩
theorem R9 : CallR X (.builtin "len") (fun xs H Q => ∃ z, xs = [.str z] /\ z.length <= sizeLine /\ Q (.int z.length) H) := by
 intro pins s σ H xs us Q I r h
 obtain ⟨z, rfl, hz, q⟩ := h
 obtain ⟨u, rfl, t, rfl⟩ := Gz r
 have hn := Je
 exact len_str (by omega) ⟨.int z.length, H, I.tok _, ⟨_, rfl⟩, q⟩
theorem CallR.or {f : Value} {r r' : List V -> Hp -> VK -> Prop} (h : CallR X f r) (h' : CallR X f r') : CallR X f (fun xs H Q => r xs H Q \/ r' xs H Q) := by
 intro pins s σ H xs us Q I rs q
 rcases q with q | q
 ·exact h pins s σ H xs us Q I rs q
 ·exact h' pins s σ H xs us Q I rs q
theorem R8 : CallR X (.type "list") (fun xs H Q => ∃ p ys, xs = [.ref p] /\ (SqL X.K H p ys \/ SqT X.K H p ys) /\ ∀ l, H l = none -> Q (.ref l) (upd H l (.lst ys))) := by
 intro pins s σ H xs us Q I r h
 obtain ⟨p, ys, rfl, hq, q⟩ := h
 obtain ⟨u, rfl, rx⟩ := Gz r
 cases rx
 have fin : ∀ (its : List Value), Vals ys its -> ys.length <= sizeLine -> ∀ (h' : Heap) (c' : Nat), (∀ b o', s.heap.get? b = some o' -> h'.get? b = some o') ->
   h'.get? s.heap.objs.size = some { cls := .type "list", dict := none, data := .seq its.toArray c', slots := #[] } -> EP X pins σ Q (.ref s.heap.objs.size) { s with heap := h' } := fun its r' hz h' c' kp e =>
  ⟨.ref s.heap.objs.size, _, I.laid (t' := s.toks) kp (Zzs _) (show ObjOk X.prog X.w _ h' _ (.lst ys) from ⟨hz, its, c', r', e⟩), rfl, q _ (I.hok.fresh (Zzs _))⟩
 rcases hq with hq | hq
 ·obtain ⟨its, r', pl, hz⟩ := I.list hq
  have hlen := r'.length
  obtain ⟨o, ho, hc, n, hd⟩ := pl.isList
  exact call_list_seq p (.inl rfl) ho hc hd (fun h' c' kp e => fin its r' hz h' c' kp e) (by simp only [Zzp] <;> omega)
 ·obtain ⟨its, r', pl, hz⟩ := I.tuple hq
  have hlen := r'.length
  obtain ⟨o, ho, hc, n, hd⟩ := pl
  exact call_list_seq p (.inr rfl) ho hc hd (fun h' c' kp e => fin its r' hz h' c' kp e) (by simp only [Zzp] <;> omega)
theorem Ot : CallR X (.type "tuple") (fun xs H Q => ∃ p ys, xs = [.ref p] /\ ((SqL X.K H p ys /\ ∀ l, H l = none -> Q (.ref l) (upd H l (.tup ys))) \/ (SqT X.K H p ys /\ Q (.ref p) H))) := by
 intro pins s σ H xs us Q I r h
 obtain ⟨p, ys, rfl, h⟩ := h
 obtain ⟨u, rfl, rx⟩ := Gz r
 cases rx
 rcases h with ⟨hq, q⟩ | ⟨hq, q⟩
 ·obtain ⟨its, r', pl, hz⟩ := I.list hq
  have hlen := r'.length
  refine call_tuple_list pl.isList (fun h' kp => ?_) (by simp only [Zzp] <;> omega)
  have I1 : Inv X pins σ H { s with heap := h' } := I.kept (t' := s.toks) kp
  have I2 : Inv X pins σ (upd H h'.objs.size (.tup ys)) { s with heap := h'.push { cls := .type "tuple", data := .seq its.toArray } } :=
   I1.laid (t' := s.toks) (fun b o e => Zzy _ e) (Zzs _) (show ObjOk X.prog X.w _ _ _ (.tup ys) from ⟨hz, its, r', IsTup.new _ _⟩)
  exact ⟨.ref h'.objs.size, _, I2, rfl, q _ (I1.hok.fresh (Zzs _))⟩
 ·obtain ⟨its, r', pl, hz⟩ := I.tuple hq
  exact call_tuple_same pl ⟨.ref p, H, I, rfl, q⟩
def tyV (K : Zzv) (T : String) (x : V) (H : Hp) : Prop := match x with
 | .str _ => T = "str"
 | .int _ => T = "int"
 | .ref p => (T = "list" /\ ∃ xs, SqL K H p xs) \/ (T = "tuple" /\ ∃ o, K.lookup p = some o /\ o.cls = .type "tuple" /\ o.dict = none) \/
   (T = "dict" /\ ((∃ kvs, H p = some (.dK kvs)) \/ ∃ kvs, H p = some (.dT kvs))) \/ (T = "set" /\ ∃ S n, H p = some (.set S n))
 | _ => False
theorem Y4 {pins : List (Addr × Obj)} {σ : St} {H : Hp} {s : Shared} {T : String} {x : V} {v : Value} (I : Inv X pins σ H s) (r : RelV x v) (ty : tyV X.K T x H) :
  s.TypeIs v T /\ ∀ a, v = .ref a -> ∃ ob, s.heap.get? a = some ob /\ ob.dict = none := by
 cases x with
 | str z =>
  obtain ⟨t, rfl⟩ := r
  cases (show T = "str" from ty)
  exact ⟨typeIs_str s z t, fun _ e => nomatch e⟩
 | int i =>
  obtain ⟨t, rfl⟩ := r
  cases (show T = "int" from ty)
  exact ⟨typeIs_int s i t, fun _ e => nomatch e⟩
 | ref p =>
  cases r
  rcases ty with ⟨rfl, xs, hq⟩ | ⟨rfl, o, hk, hc, hd⟩ | ⟨rfl, hk⟩ | ⟨rfl, S, n, hk⟩
  ·obtain ⟨its, _, pl, _⟩ := I.list hq
   refine ⟨pl.isList.typeIs, fun a e => ?_⟩
   cases e
   obtain ⟨o, n, e, c, hd, _⟩ := pl
   exact ⟨o, e, hd⟩
  ·refine ⟨⟨o, I.kIn p o hk, hc⟩, fun a e => ?_⟩
   cases e
   exact ⟨o, I.kIn _ o hk, hd⟩
  ·have z : ∃ o, s.heap.get? p = some o /\ o.ExactDict := by
    rcases hk with ⟨kvs, hk⟩ | ⟨kvs, hk⟩
    ·obtain ⟨_, _, _, _, o, _, _, e, ex, _⟩ := I.hok p _ hk
     exact ⟨o, e, ex⟩
    ·obtain ⟨_, _, _, _, o, _, _, e, ex, _⟩ := I.hok p _ hk
     exact ⟨o, e, ex⟩
   obtain ⟨o, e, ex⟩ := z
   refine ⟨⟨o, e, ex.1⟩, fun a e2 => ?_⟩
   cases e2
   exact ⟨o, e, ex.2.1⟩
  ·obtain ⟨o, _, _, _, e, ex, _⟩ := I.hok p _ hk
   refine ⟨⟨o, e, ex.1⟩, fun a e2 => ?_⟩
   cases e2
   exact ⟨o, e, ex.2.1⟩
 | _ => exact False.elim ty
variable {o e : Expr} {es : List Expr} {to : TE} {t : TA} {name : Str} {apos cpos : Pos} {T id : String} {r : V -> List V -> Hp -> VK -> Prop}
end
def MtM (X : Cx) (id : String) (r : V -> List V -> Hp -> VK -> Prop) : Prop :=
 ∀ (pins : List (Addr × Obj)) (s : Shared) (σ : St) (H : Hp) (x : V) (xs : List V) (v : Value) (us : List Value) (Q : VK), Inv X pins σ H s -> RelV x v -> Vals xs us -> r x xs H Q ->
  wpAny (model X.prog X.w) X.A (call (.builtin id) (v :: us)) (EP X pins σ Q) X.xe s
theorem Vals.one : ∀ {x : V} {us : List Value}, Vals [x] us -> ∃ u, us = [u] /\ RelV x u
 | _, _, .cons r .nil => ⟨_, rfl, r⟩
theorem Vals.zero : ∀ {us : List Value}, Vals [] us -> us = []
 | _, .nil => rfl
theorem Vals.eraseIdx : ∀ {xs : List V} {us : List Value} (i : Nat), Vals xs us -> Vals (xs.eraseIdx i) (us.eraseIdx i)
 | _, _, _, .nil => .nil
 | _, _, 0, .cons _ t => t
 | _, _, i + 1, .cons r t => .cons r (Vals.eraseIdx i t)
theorem Vals.reverse {xs : List V} {us : List Value} (h : Vals xs us) : Vals xs.reverse us.reverse := by
 induction h with
 | nil => exact .nil
 | cons r t ih => rw [Zwb, Zwb]; exact Vals.append ih (.cons r .nil)
theorem Vals.rep {xs : List V} {us : List Value} (h : Vals xs us) : ∀ k : Nat, Vals (Zym k xs).flatten (Zym k us).flatten
 | 0 => .nil
 | k + 1 => by
  rw [Zy3, Zy3, Zwa, Zwa]
  exact Vals.append h (Vals.rep h k)
theorem P9 {α : Type} : ∀ (l : List α) (i : Nat), (l.eraseIdx i).length <= l.length
 | [], _ => Zzs _
 | _ :: _, 0 => Nat.le_succ _
 | _ :: r, i + 1 => Nat.succ_le_succ (P9 r i)
theorem Pg (its : List Value) : ∀ (k : Nat) (acc : List Value),
  List.foldl (fun x1 x2 => x1 ++ x2) acc.toArray (Zym k its.toArray) = (acc ++ (Zym k its).flatten).toArray
 | 0, acc => by simp
 | k + 1, acc => by
  have e : acc.toArray ++ its.toArray = (acc ++ its).toArray := by simp
  have e2 : (acc ++ its) ++ (Zym k its).flatten = acc ++ (Zym (k + 1) its).flatten := by
   rw [Zy3, Zwa, Zyo]
  rw [<- e2, <- Pg its k (acc ++ its), <- e, Zy3, List.foldl_cons]
section
variable {X : Cx} {pins : List (Addr × Obj)} {σ : St} {H : Hp} {s : Shared} {l b : Addr} {xs ys zs : List V}
theorem Inv.lset {its its' : List Value} {n : Nat} {f : Array Value -> Array Value} {t' : Nat} (I : Inv X pins σ H s) (hH : H l = some (.lst xs))
  (e : s.heap.get? l = some { cls := .type "list", data := .seq its.toArray n }) (hf : f its.toArray = its'.toArray) (hv : Vals ys its') (hz : ys.length <= sizeLine) :
  Inv X pins σ (upd H l (.lst ys)) { s with heap := s.heap.update l (Obj.mapSeq f), toks := t' } := by
 have q := PySem.IsL.update e f
 rw [hf] at q
 refine I.write (x := l) (e := l) (by rw [hH]; exact trivial) (.inl rfl) (fun b' u hb hu => (Zy0 s.heap (Obj.mapSeq f) (Zzc hb)).trans hu) ⟨_, q⟩ ?_
 exact ⟨hz, its', _, hv, q⟩
theorem Inv.lnew {its : List Value} {t' : Nat} (I : Inv X pins σ H s) (hv : Vals ys its) (hz : ys.length <= sizeLine) :
  Inv X pins σ (upd H s.heap.objs.size (.lst ys)) { s with heap := s.heap.push { cls := .type "list", data := .seq its.toArray }, toks := t' } :=
 I.laid (fun _ _ q => Zzy _ q) (Zzs _) ⟨hz, its, 0, hv, Zzj _ rfl⟩
theorem Inv.fresh (I : Inv X pins σ H s) : H s.heap.objs.size = none := I.hok.fresh (Zzs _)
theorem Inv.lstM (I : Inv X pins σ H s) (hH : H l = some (.lst xs)) : xs.length <= sizeLine /\ ∃ (its : List Value) (n : Nat), Vals xs its /\ xs.length = its.length /\ s.heap.get? l = some { cls := .type "list", data := .seq its.toArray n } := by
 obtain ⟨z, its, n, r, e⟩ := I.hok l _ hH
 exact ⟨z, its, n, r, r.length, e⟩
theorem Sc {n : Nat} (h : n <= sizeLine) : Zwz n = false := by
 unfold Zwz
 exact decide_eq_false (by omega)
end
section
variable {X : Cx}
def rAppend : V -> List V -> Hp -> VK -> Prop := fun x vs H Q => ∃ l xs y, x = .ref l /\ vs = [y] /\ H l = some (.lst xs) /\ xs.length < sizeLine /\ Q .non (upd H l (.lst (xs ++ [y])))
theorem B4 : MtM X "list.append" rAppend := by
 intro pins s σ H x vs v us Q I rx rv h
 obtain ⟨l, xs, y, rfl, rfl, hH, hz, q⟩ := h
 cases rx
 obtain ⟨u, rfl, ru⟩ := rv.one
 obtain ⟨z, its, n, r, hl, e⟩ := I.lstM hH
 refine call_meets F.slot_list_append ⟨_, e, rfl⟩ F.entry_list_append (F.args_list_append_2 _ _) (PySem.list_append l its.toArray n u (by rw [Zzp]; omega)) ⟨e, ?_⟩
 refine ⟨.non, _, I.lset (its' := its ++ [u]) hH e (by simp) (r.append (.cons ru .nil)) ?_, rfl, q⟩
 rw [Zzm, Zyl]
 omega
def rExtend : V -> List V -> Hp -> VK -> Prop := fun x vs H Q => ∃ l b xs zs, x = .ref l /\ vs = [.ref b] /\ H l = some (.lst xs) /\ H b = some (.lst zs) /\ xs.length + zs.length <= sizeLine /\ Q .non (upd H l (.lst (xs ++ zs)))
theorem X3 : MtM X "list.extend" rExtend := by
 intro pins s σ H x vs v us Q I rx rv h
 obtain ⟨l, b, xs, zs, rfl, rfl, hH, hB, hz, q⟩ := h
 cases rx
 obtain ⟨u, rfl, ru⟩ := rv.one
 cases ru
 obtain ⟨z, its, n, r, hl, e⟩ := I.lstM hH
 obtain ⟨z2, its2, n2, r2, hl2, e2⟩ := I.lstM hB
 have hsz : its.toArray.size + its2.toArray.size <= sizeLine := by rw [Zzp, Zzp]; omega
 have hlong : ¬ (!its.toArray.isEmpty && Zwz (its.toArray.size + its2.toArray.size)) = true := by
  rw [Sc hsz, Bool.and_false]
  exact Zz0
 refine call_meets F.slot_list_extend ⟨_, e, rfl⟩ F.entry_list_extend (F.args_list_extend_2 _ _)
  (AutoSeq1.list_extend_list_list_0 l its.toArray n b its2.toArray n2 hlong (by rw [Zzp]; omega) (by omega)) ⟨e, e2, ?_⟩
 refine ⟨.non, _, I.lset (its' := its ++ its2) hH e (by simp) (r.append r2) ?_, rfl, q⟩
 rw [Zzm]
 omega
def rPopAt : V -> List V -> Hp -> VK -> Prop := fun x vs H Q => ∃ l xs i k y, x = .ref l /\ vs = [.int i] /\ H l = some (.lst xs) /\ -(2 ^ 63) <= i /\ i < 2 ^ 63 /\ seqIndex? i xs.length = some k /\ xs[k]? = some y /\ Q y (upd H l (.lst (xs.eraseIdx k)))
theorem Z9 : MtM X "list.pop" rPopAt := by
 intro pins s σ H x vs v us Q I rx rv h
 obtain ⟨l, xs, i, k, y, rfl, rfl, hH, h1, h2, hk, hy, q⟩ := h
 cases rx
 obtain ⟨u, rfl, ru⟩ := rv.one
 obtain ⟨t, rfl⟩ := ru
 obtain ⟨z, its, n, r, hl, e⟩ := I.lstM hH
 obtain ⟨w, hw, rw'⟩ := r.get hy
 refine call_meets F.slot_list_pop ⟨_, e, rfl⟩ F.entry_list_pop (F.args_list_pop_2 _ _)
  (MeetsSeq.list_pop_at l its.toArray n i t k w (fitsIndex_both h1 h2) (by rw [Zzp, <- hl]; exact hk) (by rw [<- Array.getElem?_toList]; exact hw) (by rw [Zzp]; omega)) ⟨e, ?_⟩
 refine ⟨y, _, I.lset (its' := its.eraseIdx k) hH e ?_ (r.eraseIdx k) ?_, rw', q⟩
 ·show its.toArray.eraseIdxIfInBounds k = (its.eraseIdx k).toArray
  rw [List.eraseIdxIfInBounds_toArray]
 ·have := P9 xs k
  omega
def rReverse : V -> List V -> Hp -> VK -> Prop := fun x vs H Q => ∃ l xs, x = .ref l /\ vs = [] /\ H l = some (.lst xs) /\ Q .non (upd H l (.lst xs.reverse))
theorem Ud : MtM X "list.reverse" rReverse := by
 intro pins s σ H x vs v us Q I rx rv h
 obtain ⟨l, xs, rfl, rfl, hH, q⟩ := h
 cases rx
 have hus := rv.zero
 subst hus
 obtain ⟨z, its, n, r, hl, e⟩ := I.lstM hH
 refine call_meets F.slot_list_reverse ⟨_, e, rfl⟩ F.entry_list_reverse (F.args_list_reverse_1 _) (AutoSeq1.list_reverse_list_0 l its.toArray n (by rw [Zzp]; omega)) ⟨e, ?_⟩
 refine ⟨.non, _, I.lset (its' := its.reverse) hH e (by simp) r.reverse ?_, rfl, q⟩
 rw [Zw0]
 omega
def rCat : R2 := fun x y H Q => ∃ l b xs zs, x = .ref l /\ y = .ref b /\ H l = some (.lst xs) /\ H b = some (.lst zs) /\ xs.length + zs.length <= sizeLine /\ ∀ p, H p = none -> Q (.ref p) (upd H p (.lst (xs ++ zs)))
theorem Qc : OpR X (binaryOp .Add) rCat := by
 intro pins s σ H x y v u Q I rx ry h
 obtain ⟨l, b, xs, zs, rfl, rfl, hH, hB, hz, q⟩ := h
 cases rx
 cases ry
 obtain ⟨z, its, n, r, hl, e⟩ := I.lstM hH
 obtain ⟨z2, its2, n2, r2, hl2, e2⟩ := I.lstM hB
 refine PySem.P.add_list e e2 ?_ (by rw [Zzp, Zzp]; omega)
 have ea : its.toArray ++ its2.toArray = (its ++ its2).toArray := by simp
 rw [ea]
 exact ⟨.ref _, _, I.lnew (t' := s.toks) (r.append r2) (by rw [Zzm]; omega), rfl, q _ I.fresh⟩
def rRep : R2 := fun x y H Q => ∃ l k xs, x = .ref l /\ y = .int k /\ H l = some (.lst xs) /\ -(2 ^ 63) <= k /\ k < 2 ^ 63 /\ xs.length * k.toNat <= sizeLine /\
 ∀ p, H p = none -> Q (.ref p) (upd H p (.lst (Zym k.toNat xs).flatten))
theorem dh {α : Type} (xs : List α) (k : Nat) : (Zym k xs).flatten.length = k * xs.length := by
 induction k with
 | zero => simp
 | succ k ih => rw [Zy3, Zwa, Zzm, ih, Nat.succ_mul, Nat.add_comm]
theorem U1 : OpR X (binaryOp .Mult) rRep := by
 intro pins s σ H x y v u Q I rx ry h
 obtain ⟨l, k, xs, rfl, rfl, hH, h1, h2, hz, q⟩ := h
 cases rx
 obtain ⟨t, rfl⟩ := ry
 obtain ⟨z, its, n, r, hl, e⟩ := I.lstM hH
 have hlen : its.toArray.size * k.toNat <= sizeLine := by rw [Zzp, <- hl]; exact hz
 have hcap : ¬ its.toArray.size * k.toNat > (2 ^ 63 - 1) / 8 := by
  have : (sizeLine : Nat) <= (2 ^ 63 - 1) / 8 := by decide
  omega
 have hfit : ¬ (!Builtin.List.listFitsIndex k) = true := by
  rw [fitsIndex_both h1 h2]
  exact Zz0
 have hlong : ¬ Zwz (its.toArray.size * k.toNat) = true := by
  rw [Sc hlen]
  exact Zz0
 have hnew : List.foldl (fun x1 x2 => x1 ++ x2) #[] (Zym (if its.toArray.isEmpty = true then 0 else k.toNat) its.toArray) = (Zym k.toNat its).flatten.toArray := by
  have f0 : ∀ m : Nat, List.foldl (fun x1 x2 => x1 ++ x2) #[] (Zym m its.toArray) = (Zym m its).flatten.toArray := fun m => by
   have := Pg its m []
   rw [Zw3] at this
   exact this
  rw [f0]
  cases its with
  | nil => simp
  | cons a r' => rw [if_neg (by simp)]
 refine wpAny_binaryOp_repeat_ref (T := "list") (U := "int") (by decide) ⟨_, e, rfl⟩ (fun s' => typeIs_int s' k t) noFill_list_mul F.fills_int_mul F.slot_int_rmul repeat_list F.slot_int_index.lookup
  (call_meets F.slot_int_rmul (typeIs_int s k t) F.entry_int_rmul (F.args_int_rmul_2 _ _) (int___rmul___int_list k t l its.toArray n)
   ⟨e, rfl, ⟨_, e, rfl⟩, call_meets F.slot_list_mul ⟨_, e, rfl⟩ F.entry_list_mul (F.args_list_mul_2 _ _) (AutoListH.list___mul___list_int_3 l its.toArray n k t hfit hcap hlong) ⟨e, ?_⟩⟩)
 rw [hnew]
 exact ⟨.ref _, _, I.lnew (t' := s.toks) (r.rep k.toNat) (by rw [dh, Nat.mul_comm]; exact hz), rfl, q _ I.fresh⟩
end
section
variable {prog : Program} {w : World} {A : Around} {E : Value -> Shared -> Prop} {s : Shared}
end
section
variable {X : Cx}
end
section
variable {κ : Type} [DecidableEq κ]
def Bq (kvs : List (κ × V)) (k : κ) : Option V := (kvs.find? fun kv => decide (kv.1 = k)).map (·.2)
def Ey (kvs : List (κ × V)) (k : κ) (v : V) : List (κ × V) :=
 if (kvs.any fun kv => decide (kv.1 = k)) = true then kvs.map (fun kv => if kv.1 = k then (kv.1, v) else kv) else kvs ++ [(k, v)]
def gu (kvs : List (κ × V)) (k : κ) : List (κ × V) := kvs.filter fun kv => decide (kv.1 ≠ k)
theorem Cf {p : κ × V} {r : List (κ × V)} {k : κ} (e : p.1 = k) : Bq (p :: r) k = some p.2 := by simp [Bq, Zwu, e]
theorem C7 {p : κ × V} {r : List (κ × V)} {k : κ} (e : ¬ p.1 = k) : Bq (p :: r) k = Bq r k := by simp [Bq, Zwu, e]
theorem Er (k : κ) : ∀ kvs : List (κ × V), (kvs.any fun kv => decide (kv.1 = k)) = (Bq kvs k).isSome
 | [] => rfl
 | p :: r => by
  rw [Zwx]
  by_cases e : p.1 = k
  ·simp only [Cf e, decide_eq_true e, Bool.true_or, Option.isSome_some]
  ·rw [C7 e, decide_eq_false e, Bool.false_or]; exact Er k r
theorem Rg (k j : κ) (y : V) : ∀ kvs : List (κ × V), Bq (kvs.map fun kv => if kv.1 = k then (kv.1, y) else kv) j = (Bq kvs j).map fun x => if j = k then y else x
 | [] => rfl
 | p :: r => by
  have ih := Rg k j y r
  rw [Zz3]
  by_cases h : p.1 = k
  ·rw [if_pos h]
   by_cases e : p.1 = j
   ·rw [Cf (p := (p.1, y)) e, Cf e, Zwv, if_pos (e.symm.trans h)]
   ·rw [C7 (p := (p.1, y)) e, C7 e, ih]
  ·rw [if_neg h]
   by_cases e : p.1 = j
   ·rw [Cf (p := p) e, Cf e, Zwv, if_neg (fun z => h (e.trans z))]
   ·rw [C7 (p := p) e, C7 e, ih]
theorem Ox (k j : κ) (y : V) : ∀ kvs : List (κ × V), Bq kvs k = none -> Bq (kvs ++ [(k, y)]) j = if j = k then some y else Bq kvs j
 | [], _ => by
  by_cases e : k = j
  ·rw [if_pos e.symm]; exact Cf (p := (k, y)) e
  ·rw [if_neg (fun z => e z.symm)]; exact C7 (p := (k, y)) e
 | p :: r, hn => by
  rw [Zxt]
  have hk : ¬ p.1 = k := fun z => by rw [Cf z] at hn; cases hn
  rw [C7 hk] at hn
  have ih := Ox k j y r hn
  by_cases e : p.1 = j
  ·rw [Cf e, Cf e, if_neg (fun z => hk (e.trans z))]
  ·rw [C7 e, C7 e, ih]
theorem Fq (kvs : List (κ × V)) (k j : κ) (y : V) : Bq (Ey kvs k y) j = if j = k then some y else Bq kvs j := by
 unfold Ey
 by_cases a : (kvs.any fun kv => decide (kv.1 = k)) = true
 ·rw [if_pos a, Rg]
  rw [Er] at a
  by_cases e : j = k
  ·obtain ⟨x, hx⟩ := Option.isSome_iff_exists.mp a
   rw [if_pos e, e, hx, Zwv, if_pos rfl]
  ·rw [if_neg e]
   cases Bq kvs j with
   | none => rfl
   | some x => rw [Zwv, if_neg e]
 ·rw [if_neg a]
  refine Ox k j y kvs ?_
  rw [Er] at a
  cases q : Bq kvs k with
  | none => rfl
  | some x => rw [q] at a; exact (a rfl).elim
theorem Ma (kvs : List (κ × V)) (k : κ) (v : V) : (Ey kvs k v).length <= kvs.length + 1 := by
 unfold Ey
 split
 ·rw [Zzz]; omega
 ·rw [Zzm, Zxz, Zxe]; omega
theorem Ko {kvs : List (κ × V)} {k : κ} (v : V) (h : Bq kvs k = none) : Ey kvs k v = kvs ++ [(k, v)] := by
 unfold Ey
 rw [Er, h]
 exact if_neg (by decide)
theorem RelO.isSome_eq {o : Option V} {u : Option Value} (r : RelO o u) : o.isSome = u.isSome := by
 cases o with
 | none => cases u with
  | none => rfl
  | some _ => exact (show False from r).elim
 | some _ => cases u with
  | none => exact (show False from r).elim
  | some _ => rfl
theorem RelO.getD {o : Option V} {u : Option Value} {d : V} {d' : Value} (r : RelO o u) (rd : RelV d d') : RelV (o.getD d) (u.getD d') := by
 cases o with
 | none => cases u with
  | none => exact rd
  | some _ => exact (show False from r).elim
 | some _ => cases u with
  | none => exact (show False from r).elim
  | some _ => exact r
theorem KV.val {kvs : List (κ × V)} {vs : List (κ × Value)} (r : KV kvs vs) (k : κ) : RelO (Bq kvs k) (valueAt vs k) := by
 unfold KV at r
 induction r with
 | nil => exact True.intro
 | @cons p q ps qs h t ih =>
  obtain ⟨h1, h2⟩ := h
  by_cases e : p.1 = k
  ·have e' : q.1 = k := h1.symm.trans e
   have b : valueAt (q :: qs) k = some q.2 := by simp [valueAt, Zwu, e']
   rw [Cf e, b]; exact h2
  ·have e' : ¬ q.1 = k := fun z => e (h1.trans z)
   have b : valueAt (q :: qs) k = valueAt qs k := by simp [valueAt, Zwu, e']
   rw [C7 e, b]; exact ih
theorem KV.any {kvs : List (κ × V)} {vs : List (κ × Value)} (r : KV kvs vs) (k : κ) : (kvs.any fun kv => decide (kv.1 = k)) = vs.any fun kv => decide (kv.1 = k) := by
 unfold KV at r
 induction r with
 | nil => rfl
 | cons h t ih => rw [Zwx, Zwx, ih, h.1]
theorem KV.repl {kvs : List (κ × V)} {vs : List (κ × Value)} (r : KV kvs vs) (k : κ) {y : V} {u : Value} (ry : RelV y u) :
  KV (kvs.map fun kv => if kv.1 = k then (kv.1, y) else kv) (vs.map fun kv => if kv.1 = k then (kv.1, u) else kv) := by
 unfold KV at r ⊢
 induction r with
 | nil => exact .nil
 | @cons p q ps qs h t ih =>
  rw [Zz3, Zz3]
  refine .cons ?_ ih
  obtain ⟨h1, h2⟩ := h
  by_cases e : p.1 = k
  ·rw [if_pos e, if_pos (h1.symm.trans e)]; exact ⟨h1, ry⟩
  ·rw [if_neg e, if_neg (fun z => e (h1.trans z))]; exact ⟨h1, h2⟩
theorem KV.put {kvs : List (κ × V)} {vs : List (κ × Value)} (r : KV kvs vs) (k : κ) {y : V} {u : Value} (ry : RelV y u) : KV (Ey kvs k y) (stored vs k u) := by
 unfold Ey stored
 rw [r.any k]
 by_cases e : (vs.any fun kv => decide (kv.1 = k)) = true
 ·rw [if_pos e, if_pos e]; exact r.repl k ry
 ·rw [if_neg e, if_neg e]; exact Paired.snoc r ⟨rfl, ry⟩
theorem KV.drop {kvs : List (κ × V)} {vs : List (κ × Value)} (r : KV kvs vs) (k : κ) : KV (gu kvs k) (without vs k) := by
 unfold KV at r ⊢
 unfold gu without
 induction r with
 | nil => exact .nil
 | @cons p q ps qs h t ih =>
  obtain ⟨h1, h2⟩ := h
  rw [Zxh, Zxh]
  by_cases e : p.1 = k
  ·have a : ¬ decide (p.1 ≠ k) = true := by simp [e]
   have b : ¬ decide (q.1 ≠ k) = true := by simp [h1.symm.trans e]
   rw [if_neg a, if_neg b]; exact ih
  ·have e' : ¬ q.1 = k := fun z => e (h1.trans z)
   have a : decide (p.1 ≠ k) = true := by simp [e]
   have b : decide (q.1 ≠ k) = true := by simp [e']
   rw [if_pos a, if_pos b]; exact .cons ⟨h1, h2⟩ ih
theorem KV.keys {kvs : List (κ × V)} {vs : List (κ × Value)} (r : KV kvs vs) : kvs.map (·.1) = vs.map (·.1) := by
 unfold KV at r
 induction r with
 | nil => rfl
 | cons h t ih => rw [Zz3, Zz3, ih, h.1]
theorem KV.length {kvs : List (κ × V)} {vs : List (κ × Value)} (r : KV kvs vs) : kvs.length = vs.length := Paired.length r
end
theorem Ss {P : Program} {w : World} {k : Key} {u : Value} (r : RelV (kV k) u) : (Be P w).is k u = true := by
 cases k with
 | inl i => obtain ⟨t, e⟩ := (show ∃ t, u = Value.int i t from r); subst e; exact Sk P w i t
 | inr x => obtain ⟨t, e⟩ := (show ∃ t, u = Value.str x t from r); subst e; exact Sj P w x t
theorem Pc {P : Program} {w : World} : ∀ {ks : List Key} {us : List Value}, Vals (ks.map kV) us -> ItemsAre (Be P w) ks us
 | [], _, r => by rw [Zxj] at r; cases r; exact .nil
 | k :: ks, _, r => by
  rw [Zz3] at r
  cases r with
  | cons h t => exact .cons (Ss h) (Pc t)
abbrev KT (H : Hp) : List (List Key × V) -> List (List Key × Addr × Value) -> Prop := Paired fun p q => p.1 = q.1 /\ H q.2.1 = some (.tup (p.1.map kV)) /\ RelV p.2 q.2.2
theorem KT.val {H : Hp} {kvs : List (List Key × V)} {xs : List (List Key × Addr × Value)} (r : KT H kvs xs) (k : List Key) : RelO (Bq kvs k) ((atKey xs k).map (·.2)) := by
 induction r with
 | nil => exact True.intro
 | @cons p q ps qs h t ih =>
  obtain ⟨h1, _, h2⟩ := h
  by_cases e : p.1 = k
  ·have e' : q.1 = k := h1.symm.trans e
   have b : atKey (q :: qs) k = some q.2 := by simp [atKey, Zwu, e']
   rw [Cf e, b]; exact h2
  ·have e' : ¬ q.1 = k := fun z => e (h1.trans z)
   have b : atKey (q :: qs) k = atKey qs k := by simp [atKey, Zwu, e']
   rw [C7 e, b]; exact ih
theorem KT.repl {H : Hp} {kvs : List (List Key × V)} {xs : List (List Key × Addr × Value)} (r : KT H kvs xs) (k : List Key) {y : V} {u : Value} (ry : RelV y u) :
  KT H (kvs.map fun kv => if kv.1 = k then (kv.1, y) else kv) (xs.map (putAt k u)) := by
 induction r with
 | nil => exact .nil
 | @cons p q ps qs h t ih =>
  rw [Zz3, Zz3]
  refine .cons ?_ ih
  obtain ⟨h1, h2, h3⟩ := h
  unfold putAt
  by_cases e : p.1 = k
  ·rw [if_pos e, if_pos (h1.symm.trans e)]; exact ⟨h1, h2, ry⟩
  ·rw [if_neg e, if_neg (fun z => e (h1.trans z))]; exact ⟨h1, h2, h3⟩
theorem KT.put {H : Hp} {kvs : List (List Key × V)} {xs : List (List Key × Addr × Value)} (r : KT H kvs xs) (k : List Key) {b : Addr} {y : V} {u : Value} (hb : H b = some (.tup (k.map kV))) (ry : RelV y u) :
  KT H (Ey kvs k y) (storedH xs k b u) := by
 have e : (kvs.any fun kv => decide (kv.1 = k)) = (atKey xs k).isSome := by
  rw [Er, (r.val k).isSome_eq, Option.isSome_map]
 unfold Ey storedH
 rw [e]
 by_cases q : (atKey xs k).isSome = true
 ·rw [if_pos q, if_pos q]; exact r.repl k ry
 ·rw [if_neg q, if_neg q]; exact Paired.snoc r ⟨rfl, hb, ry⟩
theorem KT.keeps {H H' : Hp} {kvs : List (List Key × V)} {xs : List (List Key × Addr × Value)} (r : KT H kvs xs) (ht : ∀ b ys, H b = some (.tup ys) -> H' b = some (.tup ys)) : KT H' kvs xs :=
 Paired.mapP r fun _ _ z => ⟨z.1, ht _ _ z.2.1, z.2.2⟩
section
variable {P : Program} {w : World} {H : Hp} {h : Heap} {a : Addr}
theorem gk {u : HO} (ok : HOk P w H h) (e : Rd H a u) : ObjOk P w H h a u := e.ok ok
theorem Mf {kvs : List (Key × V)} (ok : HOk P w H h) (e : Rd H a (.dK kvs)) : kvs.length <= sizeLine /\ (a == sysModules) = false /\ ∃ vs, KV kvs vs /\ h.DictOf (Be P w) a vs :=
 show ObjOk P w H h a (.dK kvs) from gk ok e
theorem lx {kvs : List (Key × V)} (ok : HOk P w H h) (e : H a = some (.dK kvs)) : kvs.length <= sizeLine /\ (a == sysModules) = false /\ ∃ vs, KV kvs vs /\ h.DictOf (Be P w) a vs := Mf ok (.inl e)
theorem Qy {ks : List Key} (ok : HOk P w H h) (e : H a = some (.tup (ks.map kV))) : (tupleKind (Be P w)).is h ks a := by
 obtain ⟨_, its, r, o, h1, h2, n, h3⟩ := (show ObjOk P w H h a (.tup (ks.map kV)) from ok a _ e)
 exact ⟨o, its.toArray, n, h1, h2, h3, by simpa using Pc r⟩
theorem Sy {kvs : List (List Key × V)} (ok : HOk P w H h) (e : Rd H a (.dT kvs)) : kvs.length <= sizeLine /\ (a == sysModules) = false /\
  ∃ xs, KT H kvs xs /\ h.DictOfH (tupleKind (Be P w)) a xs := by
 obtain ⟨z, y, xs, r, o, es, ep, h1, h2, h3, h4, h5⟩ := (show ObjOk P w H h a (.dT kvs) from gk ok e)
 refine ⟨z, y, xs, r, o, es, ep, h1, h2, h3, h4, fun x hx => ?_, h5⟩
 have all : ∀ {l : List (List Key × V)} {m : List (List Key × Addr × Value)}, KT H l m -> ∀ x ∈ m, (tupleKind (Be P w)).is h x.1 x.2.1 := by
  intro l m q
  induction q with
  | nil => intro x hx; exact nomatch hx
  | @cons p q ps qs hq t ih =>
   intro x hx
   rcases Zzi.mp hx with e | hx
   ·subst e
    exact Qy ok (by rw [<- hq.1]; exact hq.2.1)
   ·exact ih x hx
 exact all r x hx
theorem lw {kvs : List (List Key × V)} (ok : HOk P w H h) (e : H a = some (.dT kvs)) : kvs.length <= sizeLine /\ (a == sysModules) = false /\
  ∃ xs, KT H kvs xs /\ h.DictOfH (tupleKind (Be P w)) a xs := Sy ok (.inl e)
end
def DGet (H : Hp) (a : Addr) (y : V) (r : Option V) : Prop :=
 (∃ kvs k, Rd H a (.dK kvs) /\ y = kV k /\ r = Bq kvs k) \/ ∃ kvs k b, Rd H a (.dT kvs) /\ y = .ref b /\ H b = some (.tup (k.map kV)) /\ r = Bq kvs k
def DPut (H : Hp) (a : Addr) (y v : V) (H' : Hp) : Prop :=
 (∃ kvs k, H a = some (.dK kvs) /\ y = kV k /\ kvs.length < sizeLine /\ H' = upd H a (.dK (Ey kvs k v))) \/
 ∃ kvs k b, H a = some (.dT kvs) /\ y = .ref b /\ H b = some (.tup (k.map kV)) /\ kvs.length < sizeLine /\ H' = upd H a (.dT (Ey kvs k v))
theorem DGet.k {H : Hp} {a : Addr} {kvs : List (Key × V)} {k : Key} (e : H a = some (.dK kvs)) : DGet H a (kV k) (Bq kvs k) := .inl ⟨kvs, k, .inl e, rfl, rfl⟩
theorem DGet.t {H : Hp} {a b : Addr} {kvs : List (List Key × V)} {k : List Key} (e : H a = some (.dT kvs)) (eb : H b = some (.tup (k.map kV))) : DGet H a (.ref b) (Bq kvs k) := .inr ⟨kvs, k, b, .inl e, rfl, eb, rfl⟩
theorem DPut.k {H : Hp} {a : Addr} {kvs : List (Key × V)} {k : Key} {v : V} (e : H a = some (.dK kvs)) (hl : kvs.length < sizeLine) : DPut H a (kV k) v (upd H a (.dK (Ey kvs k v))) := .inl ⟨kvs, k, e, rfl, hl, rfl⟩
theorem DPut.t {H : Hp} {a b : Addr} {kvs : List (List Key × V)} {k : List Key} {v : V} (e : H a = some (.dT kvs)) (eb : H b = some (.tup (k.map kV))) (hl : kvs.length < sizeLine) :
  DPut H a (.ref b) v (upd H a (.dT (Ey kvs k v))) := .inr ⟨kvs, k, b, e, rfl, eb, hl, rfl⟩
section
variable {X : Cx} {pins : List (Addr × Obj)} {σ : St} {H : Hp} {s : Shared} {a : Addr} {y v : V} {u r : Value} {o : Option V} {A : Around} {E : Value -> Shared -> Prop}
theorem Inv.big (I : Inv X pins σ H s) : sysModules < s.heap.objs.size := by
 have h : mainGlobals < s.heap.objs.size := (I.mod.glob.keeps I.bk).lt
 exact Nat.lt_trans (by decide) h
theorem Xm {Q : Value -> Shared -> Prop} (hu : A.units + 1 < cLine) (I : Inv X pins σ H s) (g : DGet H a y (some v)) (ry : RelV y u) (h : ∀ w' s', Inv X pins σ H s' -> RelV v w' -> Q w' s') :
  wpAny (model X.prog X.w) A (getItem (.ref a) u) Q E s := by
 rcases g with ⟨kvs, k, e, ey, l⟩ | ⟨kvs, k, b, e, ey, eb, l⟩
 ·subst ey
  obtain ⟨z, hd, vs, rel, dd⟩ := Mf I.hok e
  obtain ⟨w', hw, rw'⟩ := RelO.some_of (v := v) (o := valueAt vs k) (by rw [l]; exact rel.val k)
  exact wpAny_getItem_of (Ss ry) dd.mapOf hw (h w' _ (I.tok _) rw')
 ·subst ey
  cases (show u = Value.ref b from ry)
  obtain ⟨z, hd, xs, rel, dd⟩ := Sy I.hok e
  obtain ⟨w', hw, rw'⟩ := RelO.some_of (v := v) (o := (atKey xs k).map (·.2)) (by rw [l]; exact rel.val k)
  obtain ⟨p, hp, hp2⟩ := Option.map_eq_some_iff.mp hw
  refine wpAny_getItem_heap (tupleKind_room_in1 hu) (Qy I.hok eb) dd hp ?_
  rw [hp2]
  exact h w' _ (I.tok _) rw'
theorem d_in {Q : Value -> Shared -> Prop} (hu : A.units + 1 < cLine) (I : Inv X pins σ H s) (g : DGet H a y o) (ry : RelV y u) (h : ∀ s', Inv X pins σ H s' -> Q (.bool o.isSome) s') :
  wpAny (model X.prog X.w) A (compareOp .In u (.ref a)) Q E s := by
 rcases g with ⟨kvs, k, e, ey, l⟩ | ⟨kvs, k, b, e, ey, eb, l⟩
 ·subst ey
  obtain ⟨z, hd, vs, rel, dd⟩ := Mf I.hok e
  refine wpAny_in_of (Ss ry) hd dd.mapOf ?_
  rw [<- (rel.val k).isSome_eq, <- l]
  exact h _ (I.tok _)
 ·subst ey
  cases (show u = Value.ref b from ry)
  obtain ⟨z, hd, xs, rel, dd⟩ := Sy I.hok e
  refine wpAny_in_heap (tupleKind_room_in1 hu) (Qy I.hok eb) hd dd ?_
  have q := (rel.val k).isSome_eq
  rw [Option.isSome_map] at q
  rw [<- q, <- l]
  exact h _ (I.tok _)
theorem Vy {h' : Heap} {t' : Nat} {ob : HO} (I : Inv X pins σ H s) (mu : Mut (H a)) (hs : Zy5 a s.heap h') (he : ∃ q, h'.get? a = some q) (new : ObjOk X.prog X.w (upd H a ob) h' a ob) :
  Inv X pins σ (upd H a ob) { s with heap := h', toks := t' } :=
 I.write (x := a) (e := a) mu (.inl rfl) (fun b q hb z => (hs.2 b hb).trans z) he new
theorem jf {P : Program} {w : World} {H' : Hp} {h' : Heap} {kvs : List (Key × V)} {vs : List (Key × Value)} (z : kvs.length <= sizeLine) (hd : (a == sysModules) = false) (rel : KV kvs vs) (dd : h'.DictOf (Be P w) a vs) :
  ObjOk P w H' h' a (.dK kvs) := ⟨z, hd, vs, rel, dd⟩
theorem Xl {H' : Hp} {Q : Unit -> Shared -> Prop} (hu : A.units + 1 < cLine) (I : Inv X pins σ H s) (g : DPut H a y v H') (ry : RelV y u) (rv : RelV v r) (h : ∀ s', Inv X pins σ H' s' -> Q () s') :
  wpAny (model X.prog X.w) A (setItem (.ref a) u r) Q E s := by
 rcases g with ⟨kvs, k, e, ey, l, eH⟩ | ⟨kvs, k, b, e, ey, eb, l, eH⟩
 ·subst ey eH
  obtain ⟨z, hd, vs, rel, dd⟩ := lx I.hok e
  have hz : vs.length <= sizeLine := by rw [<- rel.length]; exact z
  have hl : (Ey kvs k v).length <= sizeLine := by have := Ma kvs k v; omega
  refine wpAny_setItem_pairs (hsz := hz) (Ss ry) dd fun h' dd' hs => h _ ?_
  have he : ∃ q, h'.get? a = some q := let ⟨q, _, _, hq, _⟩ := dd'; ⟨q, hq⟩
  exact Vy I (by rw [e]; exact True.intro) hs he (jf hl hd (rel.put k rv) dd')
 ·subst ey eH
  cases (show u = Value.ref b from ry)
  obtain ⟨z, hd, xs, rel, dd⟩ := lw I.hok e
  have hz : xs.length <= sizeLine := by rw [<- Paired.length rel]; exact z
  have hl : (Ey kvs k v).length <= sizeLine := by have := Ma kvs k v; omega
  refine wpAny_setItem_heap (hsz := hz) (tupleKind_room_in1 hu) (Qy I.hok eb) dd fun h' dd' hs => h _ ?_
  obtain ⟨q, es, ep, hq, h2, h3, h4, _, h5⟩ := dd'
  refine Vy I (by rw [e]; exact True.intro) hs ⟨q, hq⟩ ⟨hl, hd, _, (rel.put k eb rv).keeps fun c ys ec => ?_, q, es, ep, hq, h2, h3, h4, h5⟩
  rw [A8 (M6 ec e (fun z => nomatch z))]
  exact ec
end
section
variable {X : Cx} {pins : List (Addr × Obj)} {σ : St} {H : Hp} {s : Shared} {a : Addr} {kvs : List (Key × V)} {k : Key} {u : Value} {A : Around} {E : Value -> Shared -> Prop}
theorem ly {Q : Value -> Shared -> Prop} (I : Inv X pins σ H s) (e : Rd H a (.dK kvs)) (h : ∀ t s', Inv X pins σ H s' -> Q (.int kvs.length t) s') : wpAny (model X.prog X.w) A (call (.builtin "len") [.ref a]) Q E s := by
 obtain ⟨z, hd, vs, rel, dd⟩ := Mf I.hok e
 refine call_len_dict hd dd (by rw [<- rel.length]; rw [sizeLine_eq] at z; omega) ?_
 rw [<- rel.length]
 exact h _ _ (I.tok _)
end
theorem Sz {X : Cx} {pins : List (Addr × Obj)} {σ : St} {H : Hp} {s : Shared} {a : Addr} {y : V} {o : Option V} (I : Inv X pins σ H s) (g : DGet H a y o) : s.TypeIs (.ref a) "dict" := by
 rcases g with ⟨kvs, k, e, _, _⟩ | ⟨kvs, k, b, e, _, _, _⟩
 ·obtain ⟨_, _, vs, _, dd⟩ := Mf I.hok e
  exact dd.typeIs
 ·obtain ⟨_, _, xs, _, dd⟩ := Sy I.hok e
  exact dd.typeIs
section
variable {X : Cx} {o i e value : Expr} {pos pos' tpos : Pos} {td ty tv : TE}
end
theorem Zy {P : Program} {w : World} {H : Hp} (h : Heap) (hb : sysModules < h.objs.size) : ObjOk P w H (h.push { cls := .type "dict", data := .dict #[] }) h.objs.size (.dK []) :=
 ⟨Zyr _, beq_eq_false_iff_ne.mpr (Zzc (Zys hb)), [], .nil, Heap.DictOf.new h⟩
def tDNewK : TE := fun _ H Q => ∀ p, H p = none -> Q (.ref p) (upd H p (.dK []))
section
variable {X : Cx} {pos : Pos}
theorem Fv : PE X (.Dict [] [] pos) tDNewK := fun pins s σ H Q I h =>
 wpAny_Dict_empty ⟨.ref s.heap.objs.size, _, I.laid (a := s.heap.objs.size) (o := .dK []) (t' := s.toks) (fun _ _ q => Zzy _ q) (Zzs _) (Zy s.heap I.big), rfl, h _ (I.hok.fresh (Zzs _))⟩
end
def IsD (H : Hp) (a : Addr) : Prop := (∃ kvs, Rd H a (.dK kvs)) \/ ∃ kvs, Rd H a (.dT kvs)
theorem j7 {X : Cx} {pins : List (Addr × Obj)} {σ : St} {H : Hp} {s : Shared} {a : Addr} (I : Inv X pins σ H s) (d : IsD H a) :
  s.TypeIs (.ref a) "dict" /\ (∀ b, Value.ref a = .ref b -> ∃ ob, s.heap.get? b = some ob /\ ob.dict = none) /\ (a == sysModules) = false := by
 rcases d with ⟨kvs, e⟩ | ⟨kvs, e⟩
 ·obtain ⟨_, hd, vs, _, dd⟩ := Mf I.hok e
  refine ⟨dd.typeIs, fun b q => ?_, hd⟩
  cases q
  obtain ⟨ob, _, _, h1, h2, _⟩ := dd
  exact ⟨ob, h1, h2.2.1⟩
 ·obtain ⟨_, hd, xs, _, dd⟩ := Sy I.hok e
  refine ⟨dd.typeIs, fun b q => ?_, hd⟩
  cases q
  obtain ⟨ob, _, _, h1, h2, _⟩ := dd
  exact ⟨ob, h1, h2.2.1⟩
section
variable {X : Cx} {pins : List (Addr × Obj)} {σ : St} {H : Hp} {s : Shared} {a : Addr} {y d : V} {u r : Value} {o : Option V} {A : Around} {E : Value -> Shared -> Prop}
end
section
variable {X : Cx} {o e f : Expr} {apos cpos : Pos} {td ty tx : TE}
end
section
variable {X : Cx} {pins : List (Addr × Obj)} {σ : St} {H : Hp} {s : Shared} {a : Addr} {kvs : List (Key × V)} {A : Around} {E : Value -> Shared -> Prop}
end
section
variable {X : Cx} {pins : List (Addr × Obj)} {σ : St} {H : Hp} {s : Shared} {a : Addr} {y : V} {u : Value} {A : Around} {E : Value -> Shared -> Prop}
end
end L2
namespace Att
open PySem PySem.W PySem.Calls PyProof.Rows
theorem Mo {P : Params} {h : Heap} : ∀ (ns : List Int) (vs : List Value), WellAll P h vs (ns.map WData.int) -> IntsAre vs ns := by
 intro ns
 induction ns with
 | nil =>
  intro vs w
  rw [Zxj] at w
  cases w
  exact .nil
 | cons n ns ih =>
  intro vs w
  rw [Zz3] at w
  cases w with
  | cons a b =>
   cases a
   exact .cons _ _ (ih _ b)
theorem Wk {l : OpenLaw} {n : Nat} (hn : l.most = some n) {P : Params} {h : Heap} {args : List WData} {vals : List Value}
  (hpre : l.row.toRowW.claim.pre args = true) (hwl : WellAll P h vals args) :
  ∃ a vs ns, vals = [Value.ref a] /\ args = [WData.list (ns.map WData.int)] /\ h.get? a = some { cls := .type "list", data := .seq vs.toArray } /\ IntsAre vs ns /\ ns.length <= n := by
 have hsh : WShape.hasAll [] args [.list .int] = true := (pre_splitW hpre).1
 have hc : l.pre.holds [] { args := args } = true := (pre_splitW hpre).2
 obtain ⟨d, r, rfl, h1, h2⟩ := hasAllW_cons hsh
 obtain rfl := hasAllW_nil h2
 obtain ⟨xs, rfl, h3⟩ := hasW_list h1
 obtain ⟨ns, rfl⟩ := items_int h3
 have hlen : ns.length <= n := by
  unfold OpenLaw.pre at hc
  have h4 : (WTm.not (.lt (.lit (.int (n : Int))) (.len (.arg 0)))).holds [] { args := [.list (ns.map .int)] } = true := by
   have h4 := (holds_andW hc).1
   rw [hn] at h4
   exact h4
  have h5 := condW_of h4 (w_not (w_lt w_lit (w_len_list (w_arg rfl))))
  rw [Zzz] at h5
  refine Nat.le_of_not_lt fun q => ?_
  have q' : (n : Int) < ((ns.length : Nat) : Int) := by omega
  first
   | (rw [decide_eq_true q'] at h5; exact absurd h5 (by decide))
   | (simp at h5; omega)
 cases hwl with
 | cons w1 w2 =>
  cases w2
  cases w1 with
  | list ho hall => exact ⟨_, _, ns, rfl, rfl, ho, Mo ns _ hall, hlen⟩
theorem Wl (l : OpenLaw) (args : List WData) : l.row.toRowW.claim.post args (.bool true) args = true :=
 postW_of (r := l.row.toRowW) (X := (true == true))
  (show WShape.has [] (.bool true) .bool = true by first | rfl | decide | simp [WShape.has, WShape.arms, WShape.armsAll])
  (show (WTm.eq .res (.lit (.bool true))).value [] { args := args, res := some (.bool true), after := args } = some (.bool (true == true)) from w_eq_bool (w_res rfl) w_lit) rfl
theorem attach_call {l : OpenLaw} {n : Nat} {q : Program} {loose : List Str} {XP : (Str -> Option Value) -> Heap -> Prop} {YP : World -> Heap -> Prop} {d : DefRec}
  (hn : l.most = some n) (hdf : d.params.defaults = [])
  (call : ∀ (w : World) (s₀ s₁ : Shared) (mg mb : Str -> Option Value) (fa : Addr) (o : Obj) (pm cd doc : Value) (a : Addr) (vs : List Value) (ns : List Int),
   Ground q loose [] XP w s₀ mg mb s₁.heap -> YP w s₁.heap ->
   s₁.heap.get? fa = some o -> o.data = .func (docDef d.name d.params d.body d.scope pm cd doc) -> s₁.heap.CodeRec cd d.name -> mg d.name = some (.ref fa) ->
   s₁.heap.get? a = some { cls := .type "list", data := .seq vs.toArray } -> IntsAre vs ns -> ns.length <= n -> s₁.gens = #[] ->
   codeAny (model l.prog w) callerA (.call (.ref fa) ⟨[.ref a], []⟩) (fun r s' => r = .ok (.ret (.bool true)) /\ OldK s₁.heap s'.heap /\ s'.os = s₁.os /\ AllBare s'.gens) s₁) :
  WalkO q loose XP YP l.row.toRowW d [] (fun f vs => PySem.call f vs) := by
 intro w s₀ s₁ mg mb G Y fa o pm cd doc dV kV ho hd hcd hD hmg hg args vals as hpre hlay hrd hwl hlo
 obtain rfl : dV = .none := Dflts.none hD hdf
 obtain rfl : kV = .none := Dflts.noKw hD
 obtain ⟨a, vs, ns, rfl, rfl, hobj, hints, hlen⟩ := Wk hn hpre hwl
 refine enter_call (codeAny_mono (call w s₀ s₁ mg mb fa o pm cd doc a vs ns G Y ho (fd_plain hd) hcd hmg hobj hints hlen hg) fun r s' hq => ?_)
 obtain ⟨rfl, h2, h3, h4⟩ := hq
 exact ⟨.inl ⟨.bool true, .bool true, [], rfl, fun _ => rfl, .bool true, Wl l _, fun _ => ⟨List.Pairwise.nil, fun _ hm => (nomatch hm)⟩⟩, h2, h3, h4⟩
section
variable {prog : Program} {w : World} {A : Around} {E : Value -> Shared -> Prop} {s : Shared} {K : Frag}
end
end Att
namespace L2
open PySem PySem.Spec PyProof.Rows
theorem Ow : ∀ {vs : List Value} {ns : List Int}, IntsAre vs ns -> Vals (ns.map V.int) vs
 | _, _, .nil => .nil
 | _, _, .cons n t h => .cons ⟨t, rfl⟩ (Ow h)
def Aj (s : Stmt) : Arguments := match s with
 | .FunctionDef _ a _ _ _ _ _ _ _ _ => a
 | _ => { posonlyargs := [], args := [], vararg := none, kwonlyargs := [], kw_defaults := [], kwarg := none, defaults := [] }
def Ai (s : Stmt) : List Stmt := match s with
 | .FunctionDef _ _ b _ _ _ _ _ _ _ => b
 | _ => []
def Aa (s : Stmt) : Scope := match s with
 | .FunctionDef _ _ _ _ _ _ sc _ _ _ => sc
 | _ => { kind := .function, names := [], isGenerator := false, isCoroutine := false }
abbrev CX0 : CXT := fun _ _ _ _ _ _ => False
abbrev E0 : XK := fun _ _ _ => False
theorem ko {X : Cx} : Ux CX0 X E0 := fun _ _ _ _ _ _ _ h => h.elim
structure Fun (K : Zzv) (x qual : Str) (st : Stmt) (f : Addr) (fd : FuncData) : Prop where
 ex : ∃ (oc : Value) (od : Option Addr) (kV doc pm : Value) (an : Option Addr) (cdv ct : Value) (osl : Array (Option Value)),
  fd = Zzd x qual (Aj st) (Ai st) (Aa st) .none kV doc pm an cdv ct /\ K.lookup f = some ⟨oc, od, .func fd, osl⟩ /\ Zzk K cdv qual = true
 kp : Zzl K (.ref f) = true
section
variable {P : Program} {w : World} {K : Zzv} {mg : Str -> Option Value} {base : Heap}
theorem Fun.ok {x qual : Str} {st : Stmt} {f : Addr} {fd : FuncData} {N ps : List Str} {k : Nat} {sp : Sp} (F : Fun K x qual st f fd) (S : Al N ps (Aa st)) (len : ∀ vs H Q E, sp vs H Q E -> vs.length = ps.length)
  (hbody : ∀ (cdv : Value) (A : Around) (outer : List Env) (s : Shared) (H : Hp) (vs : List V) (Q : VK) (E : XK), Room k (A.deeper (envOfC qual (Aa st) s.heap.objs.size f cdv)) -> sp vs H Q E ->
   ∃ t, PSs (Ul CX0 P w K mg base N qual (Aa st) f cdv A outer s H E).nox (Ai st) t /\ t { nx := fun _ H' => Q .non H', rt := Q } (Iw N vs) H) : FnOk P w K mg base CX0 (k + 1) f fd ps sp := by
 obtain ⟨oc, od, kV, doc, pm, an, cdv, ct, osl, rfl, lk, hcd⟩ := F.ex
 refine gt lk hcd S len fun A outer s H vs Q E hr hsp => ?_
 obtain ⟨t, h, q⟩ := hbody cdv A outer s H vs Q E hr hsp
 exact ⟨t, h.nox, q⟩
theorem Fun.binds {x qual : Str} {st : Stmt} {f : Addr} {fd : FuncData} {ps : List Str} (F : Fun K x qual st f fd)
  (h : ∀ (kV doc pm : Value) (an : Option Addr) (cdv ct : Value) (us : List Value), us.length = ps.length -> bindArgs (Zzd x qual (Aj st) (Ai st) (Aa st) .none kV doc pm an cdv ct) ⟨us, []⟩ = pure (ps.zip us)) : Binds K fd ps [] := by
 obtain ⟨oc, od, kV, doc, pm, an, cdv, ct, osl, rfl, lk, hcd⟩ := F.ex
 exact .all (h kV doc pm an cdv ct)
theorem Aw {x qual : Str} {st : Stmt} {f : Addr} {oc : Value} {od an : Option Addr} {osl : Array (Option Value)} {kV doc pm cdv ct : Value} (l : K.lookup f = some ⟨oc, od, .func (Zzd x qual (Aj st) (Ai st) (Aa st) .none kV doc pm an cdv ct), osl⟩)
  (c : Zzk K cdv qual = true) (k : Zzl K (.ref f) = true) : Fun K x qual st f (Zzd x qual (Aj st) (Ai st) (Aa st) .none kV doc pm an cdv ct) := ⟨⟨oc, od, kV, doc, pm, an, cdv, ct, osl, rfl, l, c⟩, k⟩
end
theorem B8 {A : Around} {k : Nat} (hr : Room k A) : A.units + 1 < cLine := Zyk (Nat.add_le_add_left (by decide : 1 <= 64) _) hr.units
section
variable {X : Cx}
theorem pv (i : Nat) {x : Str} {pos : Pos} (hN : X.N[i]? = some x := by rfl) (hv : Vis X.env.scope x := by first | exact Zzw rfl | exact Or.inr (Zzw rfl) | exact Or.inr (Or.inr rfl)) (hd : (x == ("__debug__" : Str)) = false := by decide)
  (hcd : (x == ("__classdict__" : Str)) = false := by decide) : PE X (.Name x pos) (Y9 i) := im hN hv hd hcd
theorem Xu : CallR X (.builtin "len") (fun xs H Q => ∃ a kvs, xs = [V.ref a] /\ H a = some (.dK kvs) /\ Q (.int kvs.length) H) := by
 intro pins s σ H xs us Q I r h
 obtain ⟨a, kvs, rfl, ha, q⟩ := h
 obtain ⟨u, rfl, ru⟩ := Gz r
 cases ru
 exact ly I (.inl ha) fun t s' I' => ⟨.int kvs.length, H, I', ⟨t, rfl⟩, q⟩
end
theorem iteF {A B : Prop} (h : B) : if false = true then A else B := by
 rw [if_neg Zz0]
 exact h
theorem iteT {A B : Prop} (h : A) : if true = true then A else B := by
 rw [if_pos rfl]
 exact h
theorem C9 {c A B : Prop} [Decidable c] (h1 : c -> A) (h2 : ¬ c -> B) : if c then A else B := by
 by_cases h : c
 ·rw [if_pos h]
  exact h1 h
 ·rw [if_neg h]
  exact h2 h
theorem lj {c A B : Prop} [Decidable c] (hc : c) (h : B) : if (!decide c) = true then A else B := by
 rw [decide_eq_true hc]
 exact iteF h
def Same (H H' : Hp) : Prop := ∀ b o, H b = some o -> H' b = some o
theorem Same.refl (H : Hp) : Same H H := fun _ _ h => h
theorem Same.trans {H H1 H2 : Hp} (a : Same H H1) (b : Same H1 H2) : Same H H2 := fun c o h => b c o (a c o h)
theorem Same.free {H H' : Hp} (e : Same H H') {l : Addr} (h : H' l = Option.none) : H l = Option.none := by
 cases q : H l with
 | none => rfl
 | some o =>
  rw [e l o q] at h
  cases h
theorem Same.seq {K : Zzv} {H H' : Hp} {a : Addr} {xs : List V} (e : Same H H') (h : SqL K H a xs) : SqL K H' a xs := by
 rcases h with (h | ⟨o, h⟩) | h
 ·exact .inl (.inl (e _ _ h))
 ·exact .inl (.inr ⟨o, e _ _ h⟩)
 ·exact .inr h
section
variable {κ : Type} [DecidableEq κ]
theorem V0 {kvs : List (κ × V)} {k : κ} {v : V} (h : Bq kvs k = some v) : k ∈ kvs.map (·.1) := by
 have q : (kvs.any fun kv => decide (kv.1 = k)) = true := by
  rw [Er, h]
  all_goals rfl
 obtain ⟨p, hp, e⟩ := List.any_eq_true.mp q
 exact Zzr.mpr ⟨p, hp, of_decide_eq_true e⟩
end
theorem Os {env : Env} : ∀ (names : List (Str × NameKind)) (acc : List (Str × Addr)), (∀ y ∈ names, y.2 = .free -> ∃ c, env.cells.lookup y.1 = some c) -> (∀ x c, acc.lookup x = some c -> env.cells.lookup x = some c) ->
  ∃ cl, (forIn names acc (fun x r => if (x.2 == Zyv) = true then do let c <- cellOf env x.1; pure (ForInStep.yield ((x.1, c) :: r)) else pure (ForInStep.yield r)) : Sem _) = pure cl /\
   (∀ x c, cl.lookup x = some c -> env.cells.lookup x = some c) /\ (∀ x, ((x, Zyv) ∈ names \/ ∃ c, acc.lookup x = some c) -> ∃ c, cl.lookup x = some c) := by
 intro names
 induction names with
 | nil => intro acc h ha; exact ⟨acc, rfl, ha, fun x hx => by simpa using hx⟩
 | cons y r ih =>
  intro acc h ha
  obtain ⟨n, k⟩ := y
  have hr : ∀ y ∈ r, y.2 = .free -> ∃ c, env.cells.lookup y.1 = some c := fun y hy => h y (Zz6 _ hy)
  rw [List.forIn_cons]
  by_cases hk : k = .free
  ·subst hk
   obtain ⟨c, hc⟩ := h (n, .free) Zz2 rfl
   have e : cellOf env n = pure c := by unfold cellOf; rw [hc]
   obtain ⟨cl, e1, a, b⟩ := ih ((n, c) :: acc) hr (fun x c' hx => by
    rw [Zy4] at hx
    cases hxn : x == n with
    | true =>
     rw [hxn] at hx
     cases hx
     rw [eq_of_beq hxn]
     exact hc
    | false =>
     rw [hxn] at hx
     exact ha x c' hx)
   refine ⟨cl, ?_, a, fun x hx => b x ?_⟩
   ·rw [<- e1]
    show (if (Zyv == Zyv) = true then (cellOf env n >>= _) else _) >>= _ = _
    rw [if_pos (show (Zyv == Zyv) = true from rfl), e]
    rfl
   ·rcases hx with hx | ⟨c', hx⟩
    ·rcases Zzi.mp hx with e2 | hx
     ·have e3 : x = n := congrArg Prod.fst e2
      exact .inr ⟨c, by rw [Zy4, e3]; simp⟩
     ·exact .inl hx
    ·refine .inr ?_
     rw [Zy4]
     cases x == n with
     | true => exact ⟨c, rfl⟩
     | false => exact ⟨c', hx⟩
  ·obtain ⟨cl, e1, a, b⟩ := ih acc hr ha
   refine ⟨cl, ?_, a, fun x hx => b x ?_⟩
   ·rw [<- e1]
    have hb : (k == Zyv) = false := by simpa using hk
    show (if (k == Zyv) = true then _ else _) >>= _ = _
    rw [if_neg (by rw [hb]; simp)]
    rfl
   ·rcases hx with hx | hx
    ·rcases Zzi.mp hx with e2 | hx
     ·exact absurd (congrArg Prod.snd e2).symm hk
     ·exact .inl hx
    ·exact .inr hx
theorem J0 {scope : Scope} {env : Env} (h : ∀ y ∈ scope.names, y.2 = .free -> ∃ c, env.cells.lookup y.1 = some c) :
  ∃ cl, closureFor scope env = pure cl /\ (∀ x c, cl.lookup x = some c -> env.cells.lookup x = some c) /\ (∀ x, (x, Zyv) ∈ scope.names -> ∃ c, cl.lookup x = some c) := by
 obtain ⟨cl, e, a, b⟩ := Os scope.names [] h (by intro x c e; cases e)
 refine ⟨cl, ?_, a, fun x hx => b x (.inl hx)⟩
 unfold closureFor
 exact congrArg (fun m => m >>= fun x => pure x) e
def cpN (N own : List Str) (cap : List Nat) : List Str := own ++ cap.map fun j => N.getD j ""
def J4 (own : List Str) (cap : List Nat) (σ : St) : St := own.map (fun _ => none) ++ cap.map fun j => σ.getD j none
structure Ju (N : List Str) (osc sc : Scope) (own : List Str) (cap : List Nat) : Prop where
 kind : sc.kind = .function
 names : ∀ x ∈ sc.names, x.2 = .local -> sc.names.lookup x.1 = some .local
 nocell : ∀ y ∈ sc.names, y.2 ≠ .cell
 free : ∀ y ∈ sc.names, y.2 = .free -> osc.names.lookup y.1 = some .cell \/ osc.names.lookup y.1 = some .free
 cap : ∀ j ∈ cap, j < N.length /\ sc.names.lookup (N.getD j "") = some .free
def C4 (X : Cx) (sc : Scope) (own : List Str) (cap : List Nat) (cl : List (Str × Addr)) (C : Addr) (s : Shared) (H : Hp) (fp : List Addr) (pins : List (Addr × Obj)) : Cx :=
 { X with N := cpN X.N own cap, s₀ := s, H₀ := H, env := compEnvC sc cl C X.env, outer := X.stack, ex := fp, fn := fun _ => false, pn := X.pn ++ pins, xe := fun _ _ => False }
def PTs (X : Cx) (ifs : List Expr) (tt : TT) : Prop :=
 ∀ (pins : List (Addr × Obj)) (s : Shared) (σ : St) (H : Hp) (Q : Bool -> Hp -> Prop), Inv X pins σ H s -> tt σ H Q ->
  wpAny (model X.prog X.w) X.A (forIn ifs true fun c r => if r = true then do let ok <- isTrue c X.env (eval c X.env); pure (ForInStep.yield ok) else pure (ForInStep.yield r)) (TP X pins σ Q) X.xe s
def tYes : TT := fun _ H Q => Q true H
theorem E3 {X : Cx} : PTs X [] tYes := fun _ _ _ H _ I h => wpAny_tests_nil ⟨H, I, h⟩
theorem Hw {X : Cx} {c : Expr} {tt : TT} (h : PT X c tt) : PTs X [c] tt := fun pins s σ H Q I hq => wpAny_tests_one (h pins s σ H Q I hq)
def Xx (n : Nat) (g : TG) : Prop := ∀ v σ H Q, g v σ H Q -> g v σ H fun σ' H' => (σ'.length = σ.length /\ ∀ j, n <= j -> σ'[j]? = σ[j]?) /\ Q σ' H'
theorem Bm {n i : Nat} (h : i < n) : Xx n (D6 i) := fun v σ H Q q => ⟨⟨by simp, fun j hj => by rw [Zy9 (by omega)]⟩, q⟩
def Yd (own : List Str) (cap : List Nat) (wi : TI) (g : TG) (tt : TT) (te : TE) : TE := fun σ H Q => wi σ H fun J H1 => ∃ W : Nat -> Nat -> List V -> Hp -> Prop, (∃ m, W 0 m [] H1) /\ ∀ i m acc H, W i m acc H -> acc.length <= sizeLine /\
 ((J.stop i H /\ ∀ p, H p = none -> Q (.ref p) (upd H p (.lst acc))) \/
  (J.go i H /\ acc.length < sizeLine /\ ∃ N : List V -> Hp -> Prop, (∀ acc' H', N acc' H' -> ∃ m', m' < m /\ W (i + 1) m' acc' H') /\ ∀ x H', J.yld i H x H' -> g x (J4 own cap σ) H' fun σ2 H2 => tt σ2 H2 fun b H3 => if b = true then te σ2 H3 fun y H4 => N (acc ++ [y]) H4 else N acc H3))
section
variable {prog : Program} {w : World} {A : Around} {R : Result -> Shared -> Prop} {s : Shared}
theorem Jw {elt target iter : Expr} {ifs : List Expr} {scope : Scope} {pos : Pos} {it acc : Value} {env : Env} (I : Nat -> Shared -> Prop)
  (turn : ∀ n s, I n s -> wpAny (model prog w) A (pyNext it) (fun r s₁ => match r with
   | none => R (.ok .next) s₁
   | some v => wpAny (model prog w) A (letOwnedTupleGo target it v) (fun _ s₁' => wpAny (model prog w) A (assign target env v) (fun _ s₂ =>
     wpAny (model prog w) A (forIn ifs true fun c r => if r = true then do let ok <- isTrue c env (eval c env); pure (ForInStep.yield ok) else pure (ForInStep.yield r)) (fun ok s₃ =>
      if ok = true then wpAny (model prog w) A (eval elt env) (fun x s₄ =>
       wpAny (model prog w) A (call (.builtin "list.append") [acc, x]) (fun _ s₅ => ∃ m, m < n /\ I m s₅) (fun _ _ => False) s₄) (fun _ _ => False) s₃
      else ∃ m, m < n /\ I m s₃) (fun _ _ => False) s₂) (fun _ _ => False) s₁') (fun _ _ => False) s₁) (fun _ _ => False) s)
  (n : Nat) (h : I n s) :
  codeAny (model prog w) A (.compLoop (.ListComp elt [⟨target, iter, ifs, 0⟩] scope pos) 0 it acc env) R s := by
 refine codeAny_loop rfl I (fun n s hI => ?_) n h
 show wpAny _ A ((compTurn (.ListComp elt [⟨target, iter, ifs, 0⟩] scope pos) 0 it acc env).onRaise (fun x => do noteFrame x env; theTreesLotGoes x)) _ _ s
 refine wpAny_noted ?_
 rw [compTurn_list]
 refine wpAny_bind (wpAny_standAt (wpAny_bind (wpAny_mono (turn n s hI) (fun r s₁ h₁ => ?_) fun _ _ h' => h'.elim)))
 cases r with
 | none => exact wpAny_pure h₁
 | some v =>
  refine wpAny_bind (wpAny_mono h₁ (fun _ s₁' h₁' => ?_) fun _ _ h' => h'.elim)
  refine wpAny_bind (wpAny_mono h₁' (fun _ s₂ h₂ => wpAny_bind (wpAny_mono h₂ (fun ok s₃ h₃ => ?_) fun _ _ h' => h'.elim)) fun _ _ h' => h'.elim)
  cases ok with
  | false => exact wpAny_pure ⟨rfl, h₃⟩
  | true =>
   exact wpAny_bind (wpAny_bind (wpAny_mono h₃ (fun x s₄ h₄ => wpAny_bind (wpAny_mono h₄ (fun _ s₅ h₅ => wpAny_pure (wpAny_pure ⟨rfl, h₅⟩)) fun _ _ h' => h'.elim)) fun _ _ h' => h'.elim))
end
section
variable {X : Cx}
theorem Pj {own : List Str} {cap : List Nat} {σ : St} {i : Nat} {v : V} (h : (J4 own cap σ)[i]? = some (some v)) : own.length <= i /\ ∃ j, cap[i - own.length]? = some j /\ σ[j]? = some (some v) := by
 unfold J4 at h
 by_cases hi : i < own.length
 ·rw [Zxy (by simpa using hi), Zzx] at h
  cases e : own[i]? with
  | none => rw [e] at h; cases h
  | some a => rw [e] at h; cases h
 ·have hi' : own.length <= i := by omega
  rw [Zyb (by simpa using hi'), Zzz, Zzx] at h
  refine ⟨hi', ?_⟩
  cases e : cap[i - own.length]? with
  | none => rw [e] at h; cases h
  | some j =>
   rw [e] at h
   have h2 : σ.getD j none = some v := Zzo h
   refine ⟨j, rfl, ?_⟩
   rw [Zzh] at h2
   cases e2 : σ[j]? with
   | none => rw [e2] at h2; cases h2
   | some o => rw [e2] at h2; simp at h2; rw [h2]
theorem Jd {env : Env} {x : Str} {k : NameKind} : ∀ {names : List (Str × NameKind)}, names.lookup x = some k ->
  (names.map fun (n, k) => if (k == Zyv && env.scope.kind == .function && env.kindOf n == some .cell) then (n, Zwl) else (n, k)).lookup x = some (if (k == Zyv && env.scope.kind == .function && env.kindOf x == some .cell) = true then .cell else k)
 | [], h => by simp at h
 | (n, k') :: r, h => by
  have ih := @Jd env x k r
  show List.lookup x ((if (k' == Zyv && env.scope.kind == .function && env.kindOf n == some .cell) = true then (n, Zwl) else (n, k')) :: _) = _
  cases hx : x == n with
  | true =>
   simp only [Zy4, hx] at h
   cases h
   have e := eq_of_beq hx
   subst e
   by_cases hc : (k == Zyv && env.scope.kind == .function && env.kindOf x == some .cell) = true
   ·rw [if_pos hc, if_pos hc]; simp [Zy4]
   ·rw [if_neg hc, if_neg hc]; simp [Zy4]
  | false =>
   simp only [Zy4, hx] at h
   by_cases hc : (k' == Zyv && env.scope.kind == .function && env.kindOf n == some .cell) = true
   ·rw [if_pos hc]; simp only [Zy4, hx]; exact ih h
   ·rw [if_neg hc]; simp only [Zy4, hx]; exact ih h
theorem Ff {env : Env} {x : Str} : ∀ {names : List (Str × NameKind)}, (∀ y ∈ names, y.2 ≠ .cell) ->
  ((names.map fun (n, k) => if (k == Zyv && env.scope.kind == .function && env.kindOf n == some .cell) then (n, Zwl) else (n, k)).lookup x = some .cell \/
   (names.map fun (n, k) => if (k == Zyv && env.scope.kind == .function && env.kindOf n == some .cell) then (n, Zwl) else (n, k)).lookup x = some .free) -> (x, Zyv) ∈ names
 | [], _, h => by simp at h
 | (n, k') :: r, hn, h => by
  have ih := @Ff env x r fun y hy => hn y (Zz6 _ hy)
  have hk' : k' ≠ .cell := hn (n, k') Zz2
  have h : List.lookup x ((if (k' == Zyv && env.scope.kind == .function && env.kindOf n == some .cell) = true then (n, Zwl) else (n, k')) :: _) = some .cell \/
   List.lookup x ((if (k' == Zyv && env.scope.kind == .function && env.kindOf n == some .cell) = true then (n, Zwl) else (n, k')) :: _) = some .free := h
  cases hx : x == n with
  | true =>
   have e := eq_of_beq hx
   subst e
   by_cases hc : (k' == Zyv && env.scope.kind == .function && env.kindOf x == some .cell) = true
   ·have : k' = .free := by
     rw [Zya, Zya] at hc
     exact eq_of_beq hc.1.1
    rw [this]
    exact Zz2
   ·rw [if_neg hc] at h
    simp [Zy4] at h
    rcases h with h | h
    ·exact absurd h hk'
    ·rw [h]; exact Zz2
  | false =>
   by_cases hc : (k' == Zyv && env.scope.kind == .function && env.kindOf n == some .cell) = true
   ·rw [if_pos hc] at h; simp only [Zy4, hx] at h; exact Zz6 _ (ih h)
   ·rw [if_neg hc] at h; simp only [Zy4, hx] at h; exact Zz6 _ (ih h)
end
theorem By {a b : Addr} {n : Nat} (h1 : a < n) (h2 : n <= b) : a ≠ b := Zys (Zz4 h1 h2)
section
variable {X : Cx} {pins : List (Addr × Obj)} {σ : St} {H : Hp} {s : Shared} {sc : Scope} {own : List Str} {cap : List Nat} {cl : List (Str × Addr)} {C : Addr} {fp : List Addr}
theorem m4 (S : Ju X.N X.env.scope sc own cap) (cl1 : ∀ x c, cl.lookup x = some c -> X.env.cells.lookup x = some c) (cl2 : ∀ x, (x, Zyv) ∈ sc.names -> ∃ c, cl.lookup x = some c)
  (I : Inv X pins σ H s) (f : ∀ b ∈ fp, J5 X pins H b) (live : ∀ b ∈ fp, b < s.heap.objs.size) (hC : s.heap.objs.size <= C) : (C4 X sc own cap cl C s H fp pins).Ok where
 mod := I.ok.mod
 kind := S.kind
 glob := I.ok.glob
 blt := I.ok.blt
 above := hC
 inj := fun x y c h1 h2 => I.ok.inj x y c (cl1 x c h1) (cl1 y c h2)
 has := fun x hx => cl2 x (Ff S.nocell hx)
 cab := fun x c h => by cases h
 hd := I.ok.hd
 frames := I.ok.frames
 stk := .inl rfl
 exf := fun b hb => ⟨fun z => By (live b hb) hC z, fun x c e => (f b hb).2.2.2.2.1 x c (cl1 x c e)⟩
 bs := I.bs
 bsz := Zyw I.ok.bsz I.sz
 noex := fun b o e hb => by
  rcases (f b hb).2.2.2.1 with z | z
  ·exact I.ok.noex b o e z
  ·exact By (Zz4 (Zze e) I.ok.bsz) z rfl
 exfs := fun b hb z => by
  rcases Zzi.mp (I.stkSub b z) with q | q
  ·exact (f b hb).2.1 q
  ·exact (f b hb).2.2.1 q
 funs := I.stack
 frf := I.stkFree
theorem ji (S : Ju X.N X.env.scope sc own cap) (cl1 : ∀ x c, cl.lookup x = some c -> X.env.cells.lookup x = some c) (cl2 : ∀ x, (x, Zyv) ∈ sc.names -> ∃ c, cl.lookup x = some c)
  (I : Inv X pins σ H s) (ok : (C4 X sc own cap cl C s H fp pins).Ok) (hC : s.heap.objs.size <= C) {h₁ : Heap} {tk : Nat} {m : Str -> Option Value} (hns : h₁.Ns C m) (old : ∀ b o, s.heap.get? b = some o -> h₁.get? b = some o) :
  Inv (C4 X sc own cap cl C s H fp pins) [] (J4 own cap σ) H { s with heap := h₁, toks := tk } := by
 have cellK : ∀ x c v, X.env.cells.lookup x = some c -> s.heap.IsCell c v -> h₁.IsCell c v := fun x c v _ z => by
  obtain ⟨o, ho, hd⟩ := z
  exact ⟨o, old c o ho, hd⟩
 refine ⟨ok, rfl, I.bare, Un.kept old, ⟨m, hns, fun i x v e1 e2 e3 => ?_⟩, fun x c e => ?_, I.hok.fresh hC, fun x c e => I.freeC x c (cl1 x c e), fun p hp => ?_, I.hok.kept old, ?_⟩
 ·have e1 : (cpN X.N own cap)[i]? = some x := e1
  obtain ⟨hi, j, hj, hσ⟩ := Pj e2
  unfold cpN at e1
  rw [Zyb hi, Zzx, hj] at e1
  have e1 : X.N.getD j "" = x := Zzo e1
  obtain ⟨hjl, hfr⟩ := S.cap j (Zzt hj)
  have hx : X.N[j]? = some x := by rw [<- e1, Zzh]; simp [hjl]
  rw [e1] at hfr
  have hfree := S.free (x, .free) (Zxl hfr) rfl
  obtain ⟨m0, _, hl⟩ := I.loc
  obtain ⟨u, r, l⟩ := hl j x v hx hσ (.inr hfree)
  refine ⟨u, r, ?_⟩
  rcases l with ⟨k, _⟩ | ⟨k, c, hc, z⟩
  ·have k : X.env.scope.names.lookup x = some .local := k
   rcases hfree with q | q <;> (rw [q] at k; cases k)
  ·obtain ⟨c', hc'⟩ := cl2 x (Zxl hfr)
   have e4 := cl1 x c' hc'
   rw [hc] at e4
   cases e4
   refine .inr ⟨?_, c, hc', cellK x c _ hc z⟩
   have q := Jd (env := X.env) hfr
   show (relabel sc X.env).names.lookup x = some .cell \/ (relabel sc X.env).names.lookup x = some .free
   have q' : (relabel sc X.env).names.lookup x = some (if (Zyv == Zyv && X.env.scope.kind == .function && X.env.kindOf x == some .cell) = true then .cell else .free) := q
   rw [q']
   split
   ·exact .inl rfl
   ·exact .inr rfl
 ·obtain ⟨v, z⟩ := I.cell x c (cl1 x c e)
  exact ⟨v, cellK x c v (cl1 x c e) z⟩
 ·have hp : p ∈ (X.pn ++ pins) ++ [] := hp
  rw [Zza] at hp
  obtain ⟨e, n, ne, nf, d⟩ := I.pin p hp
  refine ⟨old _ _ e, n, fun z => ?_, fun z => ?_, d⟩
  ·exact By (Zze e) hC z
  ·rcases Zzi.mp (I.stkSub p.1 z) with q | q
   ·exact ne q
   ·exact nf q
 ·show (J4 own cap σ).length = (cpN X.N own cap).length
  unfold J4 cpN
  simp
theorem fm (I : Inv X pins σ H s) (f : ∀ b ∈ fp, J5 X pins H b) (hC : s.heap.objs.size <= C) {D : Addr} (hD : s.heap.objs.size <= D) (hDC : D ≠ C) {σ' : St} {pl : List (Addr × Obj)} {H' : Hp} {s' : Shared} {acc : List V} {its : List Value} {nn : Nat}
  (J : Inv (C4 X sc own cap cl C s H fp pins) pl σ' H' s') (hDn : H' D = none) (hDo : s'.heap.get? D = some { cls := .type "list", data := .seq its.toArray nn }) (hv : Vals acc its) (hz : acc.length <= sizeLine) :
  Inv X pins σ (upd H' D (.lst acc)) s' /\ (∃ m, s'.heap.Ns C m) /\ J5 X pins (upd H' D (.lst acc)) C := by
 have u : Un (frs X.stack) fp H H' s.heap s'.heap := J.base
 have lt : ∀ b o, s.heap.get? b = some o -> b ≠ D := fun b o e z => By (Zze e) hD z
 have trk : ∀ b o, H b = some o -> b ≠ D := fun b o e z => By (I.hok.lt e) hD z
 have CH : H' C = none := J.free
 refine ⟨I.call' (ch := fp) J.os ⟨u.keep, u.slot, fun b o e n hx => by rw [A8 (lt b o e)]; exact u.free b o e n hx, u.there, fun b xs e => by rw [A8 (trk b _ e)]; exact u.tups b xs e, fun b o xs e => by rw [A8 (trk b _ e)]; exact u.frzs b o xs e, fun b ps e => by rw [A8 (trk b _ e)]; exact u.tbls b ps e⟩ (fun b o e => ?_) J.bare fun b hb => ?_, ?_, ?_⟩
 ·by_cases hb : b = D
  ·subst hb
   rw [A1] at e
   cases e
   exact ⟨hz, its, nn, hv, hDo⟩
  ·rw [A8 hb] at e
   refine (J.hok b o e).stay (fun c v _ q => q) (fun c q => ?_) fun c xs q => ?_
   ·rw [A8 (A9 q hDn)]; exact q
   ·rw [A8 (A9 q hDn)]; exact q
 ·obtain ⟨f0, f1, f2, f3, f4, f5⟩ := f b hb
  exact ⟨f3, f1, f4, f5⟩
 ·obtain ⟨m, hn, _⟩ := J.loc
  exact ⟨m, hn⟩
 ·refine I.fpOk hC ?_
  rw [A8 (Zzc hDC)]
  exact CH
theorem Oc {elt tg iter : Expr} {ifs : List Expr} {pos : Pos} {g : TG} {tt : TT} {te : TE} {E : Value -> Shared -> Prop}
  {it : Addr} {tn : Nat -> Heap -> Prop} {J : It} {Q : VK} {RR : Value -> Addr -> Result -> Shared -> Prop}
  (hc : X.calm = true) (S : Ju X.N X.env.scope sc own cap) (hown : Xx own.length g)
  (cl1 : ∀ x c, cl.lookup x = some c -> X.env.cells.lookup x = some c) (cl2 : ∀ x, (x, Zyv) ∈ sc.names -> ∃ c, cl.lookup x = some c)
  (hb : ∀ cl C s H fp pins, PG (C4 X sc own cap cl C s H fp pins) tg g /\ PTs (C4 X sc own cap cl C s H fp pins) ifs tt /\ PE (C4 X sc own cap cl C s H fp pins) elt te)
  (I : Inv X pins σ H s) (T : L8 X.prog X.w X.K tg J fp it tn) (st : tn 0 s.heap) (f : ∀ b ∈ fp, J5 X pins H b)
  (W : Nat -> Nat -> List V -> Hp -> Prop) (w0 : ∃ m, W 0 m [] H)
  (turn : ∀ i m acc H, W i m acc H -> acc.length <= sizeLine /\ ((J.stop i H /\ ∀ p, H p = none -> Q (.ref p) (upd H p (.lst acc))) \/ (J.go i H /\ acc.length < sizeLine /\ ∃ N : List V -> Hp -> Prop, (∀ acc' H', N acc' H' -> ∃ m', m' < m /\ W (i + 1) m' acc' H') /\ ∀ x H', J.yld i H x H' -> g x (J4 own cap σ) H' fun σ2 H2 => tt σ2 H2 fun b H3 => if b = true then te σ2 H3 fun y H4 => N (acc ++ [y]) H4 else N acc H3)))
  (hRR : ∀ D C H' s', Inv X pins σ H' s' -> (∃ m, s'.heap.Ns C m) -> J5 X pins H' C -> Q (.ref D) H' -> RR (.ref D) C (.ok .next) s') :
  wpAny (model X.prog X.w) X.A (newList []) (fun acc s₃ => wpAny (model X.prog X.w) X.A (newFunctionEnv sc X.env.globals cl [] X.env.qual none .none (some X.env)) (fun cenv s₄ =>
   codeAny (model X.prog X.w) X.A (.compStart (.ListComp elt [⟨tg, iter, ifs, 0⟩] sc pos) 0 (.ref it) acc { cenv with scope := relabel sc X.env }) (RR acc cenv.locals) s₄) E s₃) E s := by
 refine wpAny_newObj_type (wpAny_newFunctionEnv S.nocell (by intro y hy; simp at hy) (fun h₁ hns₁ hsb₁ => ?_) S.kind)
 dsimp only at hns₁ hsb₁ ⊢
 generalize hH2 : s.heap.push { cls := .type "list", dict := none, data := .seq ([] : List Value).toArray } = H2 at hns₁ hsb₁ ⊢
 have hCs : H2.objs.size = s.heap.objs.size + 1 := by rw [<- hH2, Zy6]
 have hDC : s.heap.objs.size ≠ H2.objs.size := by omega
 have hCle : s.heap.objs.size <= H2.objs.size := by omega
 have old : ∀ b o, s.heap.get? b = some o -> h₁.get? b = some o := fun b o e => by
  exact hsb₁.extBut b o (By (Zze e) hCle) (Zzy _ (hH2 ▸ Zzy _ e))
 have hacc : h₁.get? s.heap.objs.size = some { cls := .type "list", data := .seq ([] : List Value).toArray 0 } := hsb₁.extBut _ _ hDC (Zzy _ (hH2 ▸ Zzj _ rfl))
 have live : ∀ b ∈ fp, b < s.heap.objs.size := fun b hb => by
  obtain ⟨o, e, _⟩ := T.obj _ _ st b hb
  exact Zze e
 have ok := m4 (C := H2.objs.size) S cl1 cl2 I f live hCle
 have hDst : s.heap.objs.size ∉ frs X.stack := fun z => by
  rcases Zzi.mp (I.stkSub _ z) with q | q
  ·exact By I.lt (Zzs _) q.symm
  ·exact I.nofs (Zzs _) q
 have fpX : ∀ (H' : Hp) (pl : List (Addr × Obj)), (∀ b ∈ fp, H' b = none) -> (∀ p ∈ pl, ∀ b ∈ fp, p.1 ≠ b) -> ∀ b ∈ fp, J5 (C4 X sc own cap cl H2.objs.size s H fp pins) pl H' b := fun H' pl hn hp b hb => by
  obtain ⟨f0, f1, f2, f3, f4, f5⟩ := f b hb
  refine ⟨hn b hb, fun z => ?_, fun z => ?_, .inl hb, fun x c e => f4 x c (cl1 x c e), fun p hpp => ?_⟩
  ·exact By (live b hb) hCle z
  ·rcases Zzi.mp (I.stkSub b z) with q | q
   ·exact f1 q
   ·exact f2 q
  ·rcases Zyu.mp hpp with q | q
   ·exact f5 p q
   ·exact hp p q b hb
 have loop : ∀ s₃ : Shared, s₃ = { s with heap := h₁, toks := s.toks + ([] : List (Str × Value)).length } ->
   codeAny (model X.prog X.w) X.A (.compLoop (.ListComp elt [⟨tg, iter, ifs, 0⟩] sc pos) 0 (.ref it) (.ref s.heap.objs.size) (compEnvC sc cl H2.objs.size X.env))
    (RR (.ref s.heap.objs.size) H2.objs.size) s₃ := by
  rintro s₃ rfl
  obtain ⟨m0, w0⟩ := w0
  obtain ⟨hg, ht, he⟩ := hb cl H2.objs.size s H fp pins
  have I0 : Inv (C4 X sc own cap cl H2.objs.size s H fp pins) [] (J4 own cap σ) H { s with heap := h₁, toks := s.toks + ([] : List (Str × Value)).length } := ji S cl1 cl2 I ok hCle hns₁ old
  refine Jw (fun n s' => ∃ i acc its nn H', Inv (C4 X sc own cap cl H2.objs.size s H fp pins) [] (J4 own cap σ) H' s' /\ tn i s'.heap /\ (∀ b ∈ fp, H' b = none) /\
   s'.heap.get? s.heap.objs.size = some { cls := .type "list", data := .seq its.toArray nn } /\ Vals acc its /\ H' s.heap.objs.size = none /\ W i n acc H') ?_ m0
   ⟨0, [], [], 0, H, I0, T.keep _ _ _ st (fun b _ o e => old b o e), fun b hb => (f b hb).1, hacc, .nil, I.hok.fresh (Zzs _), w0⟩
  rintro n s3 ⟨i, acc, its, nn, H3, I3, st3, fr3, hD3, rv3, hDn, w3⟩
  obtain ⟨hz, hcase⟩ := turn i n acc H3 w3
  have hpl : ∀ p ∈ [((s.heap.objs.size : Addr), ({ cls := .type "list", data := .seq its.toArray nn } : Obj))], ∀ b ∈ fp, p.1 ≠ b := fun p hp b hb z => by
   have e : p = _ := Zz9.mp hp
   rw [e] at z
   exact By (live b hb) (Zzs _) z.symm
  have I3' : Inv (C4 X sc own cap cl H2.objs.size s H fp pins) [((s.heap.objs.size : Addr), ({ cls := .type "list", data := .seq its.toArray nn } : Obj))] (J4 own cap σ) H3 s3 := I3.pins_of fun p hp => by
   have e : p = _ := Zz9.mp hp
   subst e
   exact ⟨hD3, hDn, hDC, hDst, fun v z => by cases z⟩
  rcases hcase with ⟨stop, fin⟩ | ⟨go, hlt, N, hN, step⟩
  ·refine thn (T.done (C4 X sc own cap cl H2.objs.size s H fp pins) rfl rfl rfl hc i _ s3 _ H3 _ I3' (fpX H3 _ fr3 hpl) st3 stop) fun r s4 ⟨hr, I4⟩ => ?_
   subst hr
   have hD4 := (I4.pin (_, _) (Zyt _ (Zz9.mpr rfl))).1
   obtain ⟨J1, J2, J3⟩ := fm I f hCle (Zzs _) hDC I4 hDn hD4 rv3 hz
   exact hRR _ _ _ _ J1 J2 J3 (fin _ hDn)
  ·refine thn (T.item (C4 X sc own cap cl H2.objs.size s H fp pins) rfl rfl rfl hc i _ s3 _ H3 _ I3' (fpX H3 _ fr3 hpl) st3 go) fun r s4 ⟨u, hr, h4⟩ => ?_
   subst hr
   refine thn h4 fun _ s5 ⟨x, H5, I5, r5, y5, st5, fr5⟩ => ?_
   have I5' := I5.pinned (fpX H5 _ fr5 hpl) (T.obj _ _ st5)
   refine thn (hg _ s5 _ H5 x u _ I5' r5 (hown _ _ _ _ (step x H5 y5))) fun _ s6 ⟨σ6, H6, I6, ⟨hx1, hx2⟩, q6⟩ => ?_
   refine thn (ht _ s6 σ6 H6 _ I6 q6) fun b s7 ⟨H7, I7, q7⟩ => ?_
   have wk : ∀ {H7 : Hp} {s7 : Shared} {pl : List (Addr × Obj)}, Inv (C4 X sc own cap cl H2.objs.size s H fp pins) pl σ6 H7 s7 -> Inv (C4 X sc own cap cl H2.objs.size s H fp pins) pl (J4 own cap σ) H7 s7 := fun I => I.weak hx1.symm fun j v e => by
    rw [hx2 j (Pj e).1]
    exact e
   have stay : ∀ {H7 : Hp} {s7 : Shared} {σ7 : St}, Inv (C4 X sc own cap cl H2.objs.size s H fp pins) ([((s.heap.objs.size : Addr), ({ cls := .type "list", data := .seq its.toArray nn } : Obj))] ++ Lj fp s5.heap) σ7 H7 s7 ->
     tn (i + 1) s7.heap /\ (∀ b ∈ fp, H7 b = none) /\ s7.heap.get? s.heap.objs.size = some { cls := .type "list", data := .seq its.toArray nn } /\ H7 s.heap.objs.size = none := fun {H7 s7 σ7} I7 => by
    refine ⟨T.keep _ _ _ st5 fun b hb o e => (I7.pin (b, o) (Zyt _ (Zyt _ (Ib hb e)))).1, fun b hb => ?_, ?_, ?_⟩
    ·obtain ⟨o, e, d⟩ := T.obj _ _ st5 b hb
     exact (I7.pin (b, o) (Zyt _ (Zyt _ (Ib hb e)))).2.1
    ·exact (I7.pin (_, _) (Zyt _ (Zx1 _ (Zz9.mpr rfl)))).1
    ·exact (I7.pin (_, _) (Zyt _ (Zx1 _ (Zz9.mpr rfl)))).2.1
   cases b with
   | false =>
    rw [if_neg Zz0] at q7 ⊢
    obtain ⟨m', hm, w7⟩ := hN _ _ q7
    obtain ⟨a1, a2, a3, a4⟩ := stay I7
    exact ⟨m', hm, i + 1, acc, its, nn, H7, (wk I7).pins_of (fun p hp => absurd hp (by simp)), a1, a2, a3, rv3, a4, w7⟩
   | true =>
    rw [if_pos rfl] at q7 ⊢
    refine thn (he _ s7 σ6 H7 _ I7 q7) fun y s8 ⟨v, H8, I8, r8, n8⟩ => ?_
    obtain ⟨m', hm, w8⟩ := hN _ _ n8
    obtain ⟨a1, a2, a3, a4⟩ := stay I8
    have hlen := rv3.length
    refine call_meets F.slot_list_append ⟨_, a3, rfl⟩ F.entry_list_append (F.args_list_append_2 _ _) (PySem.list_append s.heap.objs.size its.toArray nn y (by rw [Zzp]; omega)) ⟨a3, ?_⟩
    obtain ⟨n', q⟩ : ∃ n', (s8.heap.update s.heap.objs.size (Obj.mapSeq (·.push y))).get? s.heap.objs.size = some { cls := .type "list", data := .seq (its ++ [y]).toArray n' } := by
     have q := PySem.IsL.update a3 (·.push y)
     have e : (its.toArray.push y) = (its ++ [y]).toArray := by simp
     rw [<- e]
     exact ⟨_, q⟩
    have I9 := (wk I8).pins_of (pins' := Lj fp s5.heap) fun p hp => (wk I8).pin p (Zyt _ (Zyt _ hp))
    have kk : ∀ b o, b ≠ s.heap.objs.size -> s8.heap.get? b = some o -> (s8.heap.update s.heap.objs.size (Obj.mapSeq (·.push y))).get? b = some o := fun b o hb e => (Zy0 s8.heap (Obj.mapSeq (·.push y)) (Zzc hb)).trans e
    refine ⟨m', hm, i + 1, acc ++ [v], its ++ [y], n', H8, (I9.pins_of (pins' := []) fun p hp => absurd hp (by simp)).turned (it := s.heap.objs.size) kk a4 hDC (.inr (Zzs _)) (fun x c e z => ?_) (fun p hp z => ?_), T.keep _ _ _ a1 fun b hb o e => kk b o (fun z => ?_) e, a2, q, rv3.append (.cons r8 .nil), a4, w8⟩
    ·have e := cl1 x c e
     obtain ⟨w', o, ho, _⟩ := I.cell x c e
     exact By (Zze ho) (Zzs _) z
    ·have hp : p ∈ (X.pn ++ pins) ++ [] := hp
     rw [Zza] at hp
     exact By (Zze (I.pin p hp).1) (Zzs _) z
    ·exact By (live b hb) (Zzs _) z
 exact codeAny_compStart_list (loop _ rfl) (T.self _ 0 _ _ _ (T.keep _ _ _ st fun b _ o e => old b o e) (loop _ rfl))
theorem Df {elt tg iter : Expr} {ifs : List Expr} {pos : Pos} {wi : TI} {g : TG} {tt : TT} {te : TE} (hc : X.calm = true) (S : Ju X.N X.env.scope sc own cap) (hown : Xx own.length g) (hi : PI X tg iter wi)
  (hb : ∀ cl C s H fp pins, PG (C4 X sc own cap cl C s H fp pins) tg g /\ PTs (C4 X sc own cap cl C s H fp pins) ifs tt /\ PE (C4 X sc own cap cl C s H fp pins) elt te)
  (hs : ∀ x, foldedSetIterable iter X.env x = pure x := by intro _; rfl) : PE X (.ListComp elt [⟨tg, iter, ifs, 0⟩] sc pos) (Yd own cap wi g tt te) := by
 intro pins s σ H Q I h
 obtain ⟨cl, hcl, cl1, cl2⟩ := J0 (env := X.env) (scope := sc) fun y hy hf => I.ok.has y.1 (S.free y hy hf)
 rw [eval_ListComp]
 refine wpAny_comprehension_free (use := none) rfl hs hcl S.kind S.names (thn (hi pins s σ H _ I h) fun xv s1 h1 => thn h1 fun itv s2 h2 => ?_)
 obtain ⟨it, fp, tn, J, H2, e, I2, T, st2, f2, W, w0, turn⟩ := h2
 subst e
 refine Oc (RR := fun acc C => compPost (model X.prog X.w) X.A X.xe none (EP X pins σ Q) acc C) hc S hown cl1 cl2 hb I2 T st2 f2 W w0 turn ?_
 intro D C H' s' J1 ⟨m, J2⟩ ⟨c0, c1, c2, c3, c4, c5⟩ q
 exact ⟨m, J2, fun h' sb => ⟨.ref D, H', J1.turned (t' := s'.toks) (fun b o hb e => (sb.2 b hb).trans e) c0 c1 c3 c4 c5, rfl, q⟩⟩
theorem Ft {elt tg iter : Expr} {ifs : List Expr} {pos pos' spos : Pos} {wi : TI} {g : TG} {tt : TT} {te : TE} {i : Nat} {x : Str} (hc : X.calm = true) (S : Ju X.N X.env.scope sc own cap) (hown : Xx own.length g) (hN : X.N.Nodup) (hx : X.N[i]? = some x) (hl : X.env.scope.names.lookup x = some .local) (hi : PI X tg iter wi)
  (hb : ∀ cl C s H fp pins, PG (C4 X sc own cap cl C s H fp pins) tg g /\ PTs (C4 X sc own cap cl C s H fp pins) ifs tt /\ PE (C4 X sc own cap cl C s H fp pins) elt te)
  (hsw : swapsWith (.ListComp elt [⟨tg, iter, ifs, 0⟩] sc pos) (some (.Name x pos')) spos.line X.env = pure true := by rfl)
  (hs : ∀ x, foldedSetIterable iter X.env x = pure x := by intro _; rfl) : PS X (.Assign [.Name x pos'] (.ListComp elt [⟨tg, iter, ifs, 0⟩] sc pos) spos) (Wh (Yd own cap wi g tt te) (D6 i)) := by
 intro pins s σ H D I h
 obtain ⟨cl, hcl, cl1, cl2⟩ := J0 (env := X.env) (scope := sc) fun y hy hf => I.ok.has y.1 (S.free y hy hf)
 rw [exec_Assign_Name_used _ _ _ _ hsw]
 refine wpAny_bind (wpAny_standAt (wpAny_bind ?_))
 show wpAny _ _ (do let _ <- comprehension (.ListComp elt [⟨tg, iter, ifs, 0⟩] sc pos) sc X.env _ (newList []) false (eval iter X.env) (some (assign (.Name x pos') X.env))) _ _ s
 refine wpAny_bind (wpAny_mono (wpAny_comprehension_free (use := some (assign (.Name x pos') X.env)) (Q := fun _ s' => SP X pins D .next s') rfl hs hcl S.kind S.names (thn (hi pins s σ H _ I h) fun xv s1 h1 => thn h1 fun itv s2 h2 => ?_)) (fun _ s' hq => wpAny_pure (wpAny_pure hq)) fun _ _ e => e)
 obtain ⟨it, fp, tn, J, H2, e, I2, T, st2, f2, W, w0, turn⟩ := h2
 subst e
 refine Oc (Q := fun x H1 => D6 i x σ H1 D.nx) (RR := fun acc C => compPost (model X.prog X.w) X.A X.xe (some (assign (.Name x pos') X.env)) (fun _ s' => SP X pins D .next s') acc C) hc S hown cl1 cl2 hb I2 T st2 f2 W w0 turn ?_
 intro L C H' s' J1 ⟨m, J2⟩ ⟨c0, c1, c2, c3, c4, c5⟩ q
 show wpAny _ _ (assign (.Name x pos') X.env (.ref L)) _ _ s'
 refine wpAny_assign_Name (P1 (v := .ref L) J1 hN hx (.inl hl) rfl (fun s'' J3 ⟨a, sb, ha⟩ => ?_) (.inr hl))
 have hCa : C ≠ a := by
  rcases ha with z | z
  ·rw [z]; exact c1
  ·exact Zzc (c4 _ _ z)
 refine ⟨m, J2.sameBut sb hCa, fun h' sb' => ⟨_, H', J3.turned (t' := s''.toks) (fun b o hb e => (sb'.2 b hb).trans e) c0 c1 c3 c4 c5, q⟩⟩
end
def J7 (H : Hp) : V -> Option String
 | .non => some "NoneType"
 | .bl _ => some "bool"
 | .int _ => some "int"
 | .str _ => some "str"
 | .ref a => match H a with
  | some (.lst _) => some "list"
  | some (.tup _) => some "tuple"
  | some (.dK _) => some "dict"
  | _ => none
 | _ => none
def C3 (t T : String) : Bool := t == T || (t == "bool" && T == "int")
theorem dm (K : Zzv) {t T : String} (ht : t ∈ ["NoneType", "bool", "int", "str", "list", "tuple", "dict"]) (hT : T ∈ ["bool", "int", "str", "list", "tuple", "dict"]) : PySem.W.kitOne K (.type t) (.type T) = some (C3 t T) := by
 simp only [Zzi, Zyz, or_false] at ht hT
 rcases ht with rfl | rfl | rfl | rfl | rfl | rfl | rfl <;> rcases hT with rfl | rfl | rfl | rfl | rfl | rfl <;> first | rfl | decide +kernel
section
variable {X : Cx}
theorem Dy : CallR X (.builtin "isinstance") (fun xs H Q => ∃ x T t, xs = [x, .ty T] /\ J7 H x = some t /\ T ∈ ["bool", "int", "str", "list", "tuple", "dict"] /\ Q (.bl (C3 t T)) H) := by
 intro pins s σ H xs us Q I r h
 obtain ⟨x, T, t, rfl, ht, hT, q⟩ := h
 obtain ⟨u, w', rfl, ru, rw'⟩ := Rf r
 have rw' : w' = Value.type T := rw'
 subst rw'
 have key : ∀ {t' : String}, Lw X.K H x (.type t') -> t' = t -> t ∈ ["NoneType", "bool", "int", "str", "list", "tuple", "dict"] -> wpAny (model X.prog X.w) X.A (call (.builtin "isinstance") [u, .type T]) (EP X pins σ Q) X.xe s := fun {t'} ty e hm => by
  subst e
  exact Xf I ru ty (dm X.K hm hT) fun tk => ⟨.bl (C3 t' T), H, I.tok tk, rfl, q⟩
 cases x with
 | non => cases ht; exact key .non rfl (by decide)
 | bl b => cases ht; exact key (.bl b) rfl (by decide)
 | int i => cases ht; exact key (.int i) rfl (by decide)
 | str z => cases ht; exact key (.str z) rfl (by decide)
 | ref a =>
  unfold J7 at ht
  simp only at ht
  cases e : H a with
  | none => rw [e] at ht; cases ht
  | some o =>
   rw [e] at ht
   cases o with
   | lst xs => cases ht; exact key (.lst e) rfl (by decide)
   | tup xs => cases ht; exact key (.tup e) rfl (by decide)
   | dK kvs => cases ht; exact key (.dK e) rfl (by decide)
   | _ => cases ht
 | _ => cases ht
theorem Inv.walked {pins : List (Addr × Obj)} {σ : St} {H : Hp} {s : Shared} {o : Obj} {h' : Heap} {tk : Nat} (I : Inv X pins σ H s) (k : ∀ b ob, b ∉ [s.heap.objs.size] -> (s.heap.push o).get? b = some ob -> h'.get? b = some ob) : Inv X pins σ H { s with heap := h', toks := tk } :=
 I.kept fun b u e => k b u (by
  intro z
  exact By (Zze e) (Zzs _) (Zz9.mp z)) (Zzy _ e)
theorem Ay {pins : List (Addr × Obj)} {σ : St} {H : Hp} {s : Shared} {a : Addr} {xs : List V} (I : Inv X pins σ H s) (h : H a = some (.lst xs)) : ∃ its : List Value, Vals xs its /\ s.heap.IsList a its.toArray /\ a < s.heap.objs.size := by
 obtain ⟨hz, its, n, r, e⟩ := I.hok a _ h
 exact ⟨its, r, ⟨_, e, rfl, n, rfl⟩, Zze e⟩
theorem op_isB : OpR X (compareOp .Is) (fun x y H Q => ∃ i j, x = .bl i /\ y = .bl j /\ Q (.bl (i == j)) H) := by
 intro pins s σ H x y v u Q I rx ry h
 obtain ⟨i, j, rfl, rfl, q⟩ := h
 cases rx
 cases ry
 exact is_bool ⟨.bl (i == j), H, I, rfl, q⟩
theorem op_isnotB : OpR X (compareOp .IsNot) (fun x y H Q => ∃ i j, x = .bl i /\ y = .bl j /\ Q (.bl (i != j)) H) := by
 intro pins s σ H x y v u Q I rx ry h
 obtain ⟨i, j, rfl, rfl, q⟩ := h
 cases rx
 cases ry
 exact isnot_bool ⟨.bl (i != j), H, I, rfl, q⟩
def Tx : V -> List V -> Hp -> VK -> Prop := fun x vs H Q => ∃ l xs y, x = .ref l /\ vs = [y] /\ H l = some (.lst xs) /\ Iz y = true /\ xs.all Iz = true /\ Q (.int (xs.countP fun z => eqV z y)) H
def Its (x : Str) : It := ⟨fun i _ => i < x.cps.size, fun i H v H' => H' = H /\ ∃ c, x.cps[i]? = some c /\ v = .str ⟨#[c]⟩, fun i _ => x.cps.size <= i⟩
theorem Rj {P : Program} {w : World} {K : Zzv} {tg : Expr} (it : Addr) (x : Str) (t : Tok) (ty : String) (hty : ty = "str_ascii_iterator" \/ ty = "str_iterator") : L8 P w K tg (Its x) [it] it (fun i h => h.IsStrIter it ty x t i) where
 mem := by simp
 obj := fun i h st b hb => by
  have e : b = it := by simpa using hb
  subst e
  obtain ⟨o, e, c, d⟩ := st
  exact ⟨o, e, fun v z => by rw [d] at z; cases z⟩
 keep := fun i h h' st k => let ⟨o, ho, r⟩ := st; ⟨o, k it (by simp) o ho, r⟩
 item := by
  intro X hP hw hK hc i pins s σ H E I hf st hg
  subst hP hw hK
  obtain ⟨f0, f1, f2, f3, f4, f5⟩ := hf it (by simp)
  have hg : i < x.cps.size := hg
  have fin : ∀ h', h'.IsStrIter it ty x t (i + 1) -> Zy5 it s.heap h' -> ∃ u, some (Value.str ⟨#[x.cps[i]]⟩ s.toks) = some u /\ wpAny (model X.prog X.w) X.A (letOwnedTupleGo tg (.ref it) u) (fun _ s2 => ∃ x' H', Inv X pins σ H' s2 /\ RelV x' u /\ (Its x).yld i H x' H' /\ s2.heap.IsStrIter it ty x t (i + 1) /\ ∀ b ∈ [it], H' b = none) E { s with heap := h', toks := s.toks + 1 } := fun h' st' sb => by
   have I1 : Inv X pins σ H { s with heap := h', toks := s.toks + 1 } := I.turned (t' := s.toks + 1) (fun b o hb e => (sb.2 b hb).trans e) f0 f1 f3 f4 f5
   obtain ⟨o, e, c, d⟩ := id st'
   refine ⟨_, rfl, Pe (s := { s with heap := h', toks := s.toks + 1 }) e c d (by rcases hty with rfl | rfl <;> decide) ⟨.str ⟨#[x.cps[i]]⟩, H, I1, ⟨_, rfl⟩, ⟨rfl, _, by simp [hg], rfl⟩, st', fun b hb => (hf b hb).1⟩⟩
  rcases hty with rfl | rfl
  ·exact wpAny_pyNext_ascii_item st (c := x.cps[i]) (by simp [hg]) fin
  ·exact wpAny_pyNext_wide_item st (c := x.cps[i]) (by simp [hg]) fin
 done := by
  intro X hP hw hK hc i pins s σ H E I hf st hg
  subst hP hw hK
  obtain ⟨f0, f1, f2, f3, f4, f5⟩ := hf it (by simp)
  have hg : x.cps.size <= i := hg
  rcases hty with rfl | rfl
  ·exact wpAny_pyNext_ascii_end (I.ok.hd hc) st (by simp; omega) fun h' eb => ⟨rfl, I.turned (t' := s.toks) (fun b o hb e => eb b o hb e) f0 f1 f3 f4 f5⟩
  ·exact wpAny_pyNext_wide_end (I.ok.hd hc) st (by simp; omega) fun h' eb => ⟨rfl, I.turned (t' := s.toks) (fun b o hb e => eb b o hb e) f0 f1 f3 f4 f5⟩
 self := fun _ _ _ _ _ st h => by
  rcases hty with rfl | rfl
  ·exact wpAny_pyIter_striter_ascii st h
  ·exact wpAny_pyIter_striter_wide st h
theorem Oz {P : Program} {w : World} {K : Zzv} {tg : Expr} (a it : Addr) (xs : List V) : L8 P w K tg ⟨fun i H => H a = some (.lst xs) /\ i < xs.length, fun i H x H' => H' = H /\ xs[i]? = some x, fun i H => H a = some (.lst xs) /\ xs.length <= i⟩ [it] it (fun i h => h.IsListIter it a i) where
 mem := (Ea (P := P) (w := w) (K := K) (tg := tg) a it).mem
 obj := (Ea (P := P) (w := w) (K := K) (tg := tg) a it).obj
 keep := (Ea (P := P) (w := w) (K := K) (tg := tg) a it).keep
 item := by
  intro X hP hw hK hc i pins s σ H E I hf st hg
  obtain ⟨h1, h2⟩ := hg
  refine thn ((Ea (P := P) (w := w) (K := K) (tg := tg) a it).item X hP hw hK hc i pins s σ H E I hf st ⟨xs, xs[i], SqL.of h1, by simp [h2]⟩) fun r s1 ⟨u, hr, h3⟩ => ⟨u, hr, thn h3 fun _ s2 ⟨x, H', I2, rx, ⟨y1, y2⟩, st2, f2⟩ => ⟨x, H', I2, rx, ⟨y1, y2 xs (SqL.of h1)⟩, st2, f2⟩⟩
 done := by
  intro X hP hw hK hc i pins s σ H E I hf st hg
  obtain ⟨h1, h2⟩ := hg
  exact (Ea (P := P) (w := w) (K := K) (tg := tg) a it).done X hP hw hK hc i pins s σ H E I hf st ⟨xs, SqL.of h1, h2⟩
 self := (Ea (P := P) (w := w) (K := K) (tg := tg) a it).self
theorem Oy {P : Program} {w : World} {K : Zzv} {tg : Expr} (a it : Addr) (xs : List V) : L8 P w K tg ⟨fun i H => H a = some (.tup xs) /\ i < xs.length, fun i H x H' => H' = H /\ xs[i]? = some x, fun i H => H a = some (.tup xs) /\ xs.length <= i⟩ [it] it (fun i h => h.IsTupleIter it a i) where
 mem := (E9 (P := P) (w := w) (K := K) (tg := tg) a it).mem
 obj := (E9 (P := P) (w := w) (K := K) (tg := tg) a it).obj
 keep := (E9 (P := P) (w := w) (K := K) (tg := tg) a it).keep
 item := by
  intro X hP hw hK hc i pins s σ H E I hf st hg
  obtain ⟨h1, h2⟩ := hg
  refine thn ((E9 (P := P) (w := w) (K := K) (tg := tg) a it).item X hP hw hK hc i pins s σ H E I hf st ⟨xs, xs[i], SqT.of h1, by simp [h2]⟩) fun r s1 ⟨u, hr, h3⟩ => ⟨u, hr, thn h3 fun _ s2 ⟨x, H', I2, rx, ⟨y1, y2⟩, st2, f2⟩ => ⟨x, H', I2, rx, ⟨y1, y2 xs (SqT.of h1)⟩, st2, f2⟩⟩
 done := by
  intro X hP hw hK hc i pins s σ H E I hf st hg
  obtain ⟨h1, h2⟩ := hg
  exact (E9 (P := P) (w := w) (K := K) (tg := tg) a it).done X hP hw hK hc i pins s σ H E I hf st ⟨xs, SqT.of h1, h2⟩
 self := (E9 (P := P) (w := w) (K := K) (tg := tg) a it).self
def ItL (a : Addr) (xs : List V) : It := ⟨fun i H => H a = some (.lst xs) /\ i < xs.length, fun i H x H' => H' = H /\ xs[i]? = some x, fun i H => H a = some (.lst xs) /\ xs.length <= i⟩
def ItT (a : Addr) (xs : List V) : It := ⟨fun i H => H a = some (.tup xs) /\ i < xs.length, fun i H x H' => H' = H /\ xs[i]? = some x, fun i H => H a = some (.tup xs) /\ xs.length <= i⟩
def lr (te : TE) : TI := fun σ H R => te σ H fun x H1 => (∃ a xs, x = .ref a /\ H1 a = some (.lst xs) /\ R (ItL a xs) H1) \/ (∃ a xs, x = .ref a /\ H1 a = some (.tup xs) /\ R (ItT a xs) H1) \/ (∃ z, x = .str z /\ R (Its z) H1)
theorem ik {tg l : Expr} {te : TE} (hl : PE X l te) : PI X tg l (lr te) := by
 intro pins s σ H R I h
 refine thn (hl pins s σ H _ I h) fun v s1 ⟨x, H1, I1, r1, q1⟩ => ?_
 have fp : ∀ b ∈ [s1.heap.objs.size], J5 X pins H1 b := fun b hb => by
  have e : b = s1.heap.objs.size := by simpa using hb
  subst e
  exact I1.fpOk (Zzs _) (I1.hok.fresh (Zzs _))
 rcases q1 with ⟨a, xs, e, ha, q⟩ | ⟨a, xs, e, ha, q⟩ | ⟨z, e, q⟩
 ·subst e
  cases r1
  obtain ⟨its, rv, hli, hlt⟩ := Ay I1 ha
  refine wpAny_pyIter_list hli ?_
  exact ⟨s1.heap.objs.size, [s1.heap.objs.size], _, _, H1, rfl, I1.kept (t' := s1.toks) fun b o e => Zzy _ e, Oz a _ xs, ⟨_, Zzj _ rfl, rfl, rfl⟩, fp, q⟩
 ·subst e
  cases r1
  obtain ⟨hz, its, rv, p⟩ := I1.hok a _ ha
  refine wpAny_pyIter_tuple (show s1.heap.IsTuple a its.toArray from p) ?_
  exact ⟨s1.heap.objs.size, [s1.heap.objs.size], _, _, H1, rfl, I1.kept (t' := s1.toks) fun b o e => Zzy _ e, Oy a _ xs, ⟨_, Zzj _ rfl, rfl, rfl⟩, fp, q⟩
 ·subst e
  obtain ⟨t, rfl⟩ := r1
  cases hasc : z.cps.all (· < 128)
  ·refine wpAny_pyIter_wide hasc ?_
   exact ⟨s1.heap.objs.size, [s1.heap.objs.size], _, _, H1, rfl, I1.kept (t' := s1.toks) fun b o e => Zzy _ e, Rj _ z t _ (.inr rfl), ⟨_, Zzj _ rfl, rfl, rfl⟩, fp, q⟩
  ·refine wpAny_pyIter_ascii hasc ?_
   exact ⟨s1.heap.objs.size, [s1.heap.objs.size], _, _, H1, rfl, I1.kept (t' := s1.toks) fun b o e => Zzy _ e, Rj _ z t _ (.inl rfl), ⟨_, Zzj _ rfl, rfl, rfl⟩, fp, q⟩
end
structure Ov (J : It) (n : Nat) (yl : Nat -> V -> Prop) (ok : Hp -> Prop) : Prop where
 go : ∀ i H, i < n -> ok H -> J.go i H
 yld : ∀ i H x H', i < n -> ok H -> J.yld i H x H' -> H' = H /\ yl i x
 stop : ∀ H, ok H -> J.stop n H
theorem Dh (a : Addr) (xs : List V) : Ov (ItL a xs) xs.length (fun i x => xs[i]? = some x) (fun H => H a = some (.lst xs)) := ⟨fun _ _ h o => ⟨o, h⟩, fun _ _ _ _ _ _ y => y, fun _ o => ⟨o, Zzs _⟩⟩
theorem Di (a : Addr) (xs : List V) : Ov (ItT a xs) xs.length (fun i x => xs[i]? = some x) (fun H => H a = some (.tup xs)) := ⟨fun _ _ h o => ⟨o, h⟩, fun _ _ _ _ _ _ y => y, fun _ o => ⟨o, Zzs _⟩⟩
theorem Iy (lo : Int) (n : Nat) : Ov (Itr lo n) n (fun i x => x = .int (lo + i)) (fun _ => True) := ⟨fun _ _ h _ => h, fun _ _ _ _ _ _ y => y, fun _ _ => Zzs _⟩
theorem Zt {J : It} {n : Nat} {yl : Nat -> V -> Prop} {ok : Hp -> Prop} {g : TG} {tb : TS} {D : Ly} {σ : St} {H : Hp} (G : Ov J n yl ok) (Pv : Nat -> St -> Hp -> Prop) (h0 : Pv 0 σ H) (hok : ∀ i σ H, i <= n -> Pv i σ H -> ok H)
  (hs : ∀ i x σ H, i < n -> yl i x -> Pv i σ H -> g x σ H fun σ2 H2 => tb { D with nx := Pv (i + 1), ct := Pv (i + 1), bk := D.nx } σ2 H2) (hd : ∀ σ H, Pv n σ H -> D.nx σ H) :
  ∃ W : Nat -> Nat -> St -> Hp -> Prop, (∃ m, W 0 m σ H) /\ ∀ i m σ H, W i m σ H ->
   (J.stop i H /\ D.nx σ H) \/ (J.go i H /\ ∃ N : St -> Hp -> Prop, (∀ σ' H', N σ' H' -> ∃ m', m' < m /\ W (i + 1) m' σ' H') /\ ∀ x H', J.yld i H x H' -> g x σ H' fun σ2 H2 => tb { D with nx := N, ct := N, bk := D.nx } σ2 H2) := by
 refine ⟨fun i m σ H => m = n - i /\ i <= n /\ Pv i σ H, ⟨n, by simp, Zyr _, h0⟩, ?_⟩
 rintro i m σ H ⟨rfl, hi, p⟩
 have q := hok i σ H hi p
 by_cases hlt : i < n
 ·refine .inr ⟨G.go i H hlt q, Pv (i + 1), fun σ' H' p' => ⟨n - (i + 1), by omega, rfl, hlt, p'⟩, fun x H' y => ?_⟩
  obtain ⟨e, y'⟩ := G.yld i H x H' hlt q y
  subst e
  exact hs i x σ _ hlt y' p
 ·have e : i = n := by omega
  subst e
  exact .inl ⟨G.stop H q, hd σ H p⟩
theorem Pk {J : It} {n : Nat} {yl : Nat -> V -> Prop} {ok : Hp -> Prop} {g : TG} {tt : TT} {te : TE} {σ0 : St} {H : Hp} {Q : VK} (G : Ov J n yl ok) (hn : n <= sizeLine) (Pv : Nat -> List V -> Hp -> Prop) (h0 : Pv 0 [] H) (hok : ∀ i acc H, i <= n -> Pv i acc H -> ok H)
  (hlen : ∀ i acc H, Pv i acc H -> acc.length <= i)
  (hs : ∀ i x acc H, i < n -> yl i x -> Pv i acc H -> g x σ0 H fun σ2 H2 => tt σ2 H2 fun b H3 => if b = true then te σ2 H3 fun y H4 => Pv (i + 1) (acc ++ [y]) H4 else Pv (i + 1) acc H3)
  (hd : ∀ acc H, Pv n acc H -> ∀ p, H p = none -> Q (.ref p) (upd H p (.lst acc))) :
  ∃ W : Nat -> Nat -> List V -> Hp -> Prop, (∃ m, W 0 m [] H) /\ ∀ i m acc H, W i m acc H -> acc.length <= sizeLine /\
   ((J.stop i H /\ ∀ p, H p = none -> Q (.ref p) (upd H p (.lst acc))) \/
    (J.go i H /\ acc.length < sizeLine /\ ∃ N : List V -> Hp -> Prop, (∀ acc' H', N acc' H' -> ∃ m', m' < m /\ W (i + 1) m' acc' H') /\ ∀ x H', J.yld i H x H' -> g x σ0 H' fun σ2 H2 => tt σ2 H2 fun b H3 => if b = true then te σ2 H3 fun y H4 => N (acc ++ [y]) H4 else N acc H3)) := by
 refine ⟨fun i m acc H => m = n - i /\ i <= n /\ Pv i acc H, ⟨n, by simp, Zyr _, h0⟩, ?_⟩
 rintro i m acc H ⟨rfl, hi, p⟩
 have q := hok i acc H hi p
 have hl := hlen i acc H p
 refine ⟨by omega, ?_⟩
 by_cases hlt : i < n
 ·refine .inr ⟨G.go i H hlt q, by omega, Pv (i + 1), fun acc' H' p' => ⟨n - (i + 1), by omega, rfl, hlt, p'⟩, fun x H' y => ?_⟩
  obtain ⟨e, y'⟩ := G.yld i H x H' hlt q y
  subst e
  exact hs i x acc _ hlt y' p
 ·have e : i = n := by omega
  subst e
  exact .inl ⟨G.stop H q, hd acc H p⟩
section
variable {X : Cx} {a b c e o : Expr} {ta tb tc te to : TE} {pos p apos cpos : Pos} {es : List Expr} {t : TA}
theorem Jb : OpR X (binaryOp .FloorDiv) (rI (fun _ j => 0 < j /\ j < 10 ^ 200) fun i j => .int (i / j)) := opI fun i j _ _ _ _ _ hc q => by
 have h : j.natAbs.log2 < 9000 := by
  have h1 : j.natAbs ≠ 0 := by omega
  rw [Nat.log2_lt h1]
  have h2 : j.natAbs < 10 ^ 200 := by have := hc.2; omega
  exact Zz4 h2 (by decide +kernel)
 refine floordiv_int (by omega) ?_ (.inl (PyProof.noPylong_of_log2 h))
 rw [Int.fdiv_eq_ediv_of_nonneg i (by omega)]
 exact q
def Q8 : R2 := fun x y H Q => ∃ a b xs ys, x = .ref a /\ y = .ref b /\ H a = some (.tup xs) /\ H b = some (.tup ys) /\ xs.length + ys.length <= sizeLine /\
 ∀ p H', H' p = some (.tup (xs ++ ys)) -> Same H H' -> (∀ q, q ≠ p -> H' q = H q) -> Q (.ref p) H'
def Yu : R2 := fun x y H Q => (∃ i j, x = .int i /\ y = .int j /\ Q (.int (i + j)) H) \/ (∃ i j, x = .str i /\ y = .str j /\ i.length + j.length <= sizeLine /\ Q (.str (i ++ j)) H) \/ rCat x y H Q \/ Q8 x y H Q
def Tv : R2 := fun x y H Q => (∃ i j, x = .int i /\ y = .int j /\ Q (.int (i + j)) H) \/ (∃ i j, x = .str i /\ y = .str j /\ i.length + j.length <= sizeLine /\ Q (.str (i ++ j)) H)
def Rc (H : Hp) (x y v : V) : Prop :=
 (∃ p xs i, x = .ref p /\ y = .int i /\ (H p = some (.lst xs) \/ H p = some (.tup xs)) /\ atI xs i = some v) \/
 (∃ z i c, x = .str z /\ y = .int i /\ z.length <= sizeLine /\ atI z.cps.toList i = some c /\ v = .str ⟨#[c]⟩) \/
 (∃ p kvs k, x = .ref p /\ y = kV k /\ Rd H p (.dK kvs) /\ Bq kvs k = some v)
def rItem : R2 := fun x y H Q => ∃ v, Rc H x y v /\ Q v H
theorem dz (hu : X.A.units + 1 < cLine) : IxR X (fun x y H Q => ∃ a v, x = .ref a /\ DGet H a y (some v) /\ Q v H) := by
 intro value slice pins s σ H x y v u Q I rx ry h hs
 obtain ⟨a, z, rfl, g, q⟩ := h
 cases rx
 exact tail_any (Sz I g) PySem.F.slot_dict_getitem.lookup (Xm hu I g ry fun w' s3 I3 rw' => ⟨z, H, I3, rw', q⟩) hs
theorem dy (hu : X.A.units + 1 < cLine) : IxR X rItem := by
 intro value slice pins s σ H x y v u Q I rx ry h hs
 obtain ⟨z, h, q⟩ := h
 rcases h with ⟨p, xs, i, rfl, rfl, h | h, he⟩ | ⟨z', i, c, rfl, rfl, hz, he, rfl⟩ | ⟨p, kvs, k, rfl, rfl, h, he⟩
 ·exact Qz value slice pins s σ H _ _ v u Q I rx ry ⟨p, xs, i, z, rfl, rfl, SqL.of h, he, q⟩ hs
 ·exact j5 value slice pins s σ H _ _ v u Q I rx ry ⟨p, xs, i, z, rfl, rfl, SqT.of h, he, q⟩ hs
 ·exact j6 value slice pins s σ H _ _ v u Q I rx ry ⟨z', i, c, rfl, rfl, hz, he, q⟩ hs
 ·refine dz hu value slice pins s σ H _ _ v u Q I rx ry ⟨p, z, rfl, ?_, q⟩ hs
  have g : DGet H p (kV k) (Bq kvs k) := .inl ⟨kvs, k, h, rfl, rfl⟩
  rw [he] at g
  exact g
theorem A5 (hu : X.A.units + 1 < cLine) (ha : PE X a ta) (hb : PE X b tb) (hs : W5 b) : PE X (.Subscript a b pos) (tOp rItem ta tb) := Yy (dy hu) ha hb hs
theorem Ad {H : Hp} {p : Addr} {xs : List V} {j : Nat} {v : V} (h : H p = some (.tup xs)) (e : xs[j]? = some v) : Rc H (.ref p) (.int j) v := .inl ⟨p, xs, j, rfl, rfl, .inr h, Js e⟩
theorem Ic {H : Hp} {p : Addr} {xs : List V} {j : Nat} {v : V} (h : H p = some (.lst xs)) (e : xs[j]? = some v) : Rc H (.ref p) (.int j) v := .inl ⟨p, xs, j, rfl, rfl, .inl h, Js e⟩
theorem Fc {H : Hp} {p : Addr} {xs : List V} {i : Int} {v : V} (h : H p = some (.lst xs) \/ H p = some (.tup xs)) (h0 : 0 <= i) (e : xs[i.toNat]? = some v) : Rc H (.ref p) (.int i) v := by
 refine .inl ⟨p, xs, i, rfl, rfl, h, ?_⟩
 have q := Js e
 rw [Int.toNat_of_nonneg h0] at q
 exact q
theorem Zm {H : Hp} {z : Str} {i : Int} {c : Nat} (hz : z.length <= sizeLine) (h0 : 0 <= i) (e : z.cps.toList[i.toNat]? = some c) : Rc H (.str z) (.int i) (.str ⟨#[c]⟩) := by
 refine .inr (.inl ⟨z, i, c, rfl, rfl, hz, ?_, rfl⟩)
 have q := Js e
 rw [Int.toNat_of_nonneg h0] at q
 exact q
theorem Cb {H : Hp} {p : Addr} {kvs : List (Key × V)} {k : Str} {v : V} (h : Rd H p (.dK kvs)) (e : Bq kvs (Zxx k) = some v) : Rc H (.ref p) (.str k) v := .inr (.inr ⟨p, kvs, Zxx k, rfl, rfl, h, e⟩)
def lenA : List V -> Hp -> VK -> Prop := fun xs H Q => (∃ p ys, xs = [.ref p] /\ (H p = some (.lst ys) \/ H p = some (.tup ys)) /\ Q (.int ys.length) H) \/ (∃ z, xs = [.str z] /\ z.length <= sizeLine /\ Q (.int z.length) H) \/ (∃ p kvs, xs = [.ref p] /\ H p = some (.dK kvs) /\ Q (.int kvs.length) H)
theorem call_lenA : CallR X (.builtin "len") lenA := by
 intro pins s σ H xs us Q I r h
 rcases h with ⟨p, ys, rfl, h, q⟩ | ⟨z, rfl, hz, q⟩ | ⟨p, kvs, rfl, h, q⟩
 ·exact L5 pins s σ H _ us Q I r ⟨p, ys, rfl, h.imp SqL.of SqT.of, q⟩
 ·exact R9 pins s σ H _ us Q I r ⟨z, rfl, hz, q⟩
 ·exact Xu pins s σ H _ us Q I r ⟨p, kvs, rfl, h, q⟩
def InA (H : Hp) (x y : V) (b : Bool) : Prop :=
 (∃ p xs, y = .ref p /\ (H p = some (.lst xs) \/ H p = some (.tup xs)) /\ Iz x = true /\ xs.all Iz = true /\ b = inV x xs) \/
 (∃ i j, x = .str i /\ y = .str j /\ b = !(Builtin.Str.occurrences j i 0 j.length 1).isEmpty) \/
 (∃ p kvs k, y = .ref p /\ x = kV k /\ Rd H p (.dK kvs) /\ b = (Bq kvs k).isSome)
theorem Z2 (hu : X.A.units + 1 < cLine) : OpR X (compareOp .In) (fun x y H Q => ∃ b, InA H x y b /\ Q (.bl b) H) := by
 intro pins s σ H x y v u Q I rx ry h
 obtain ⟨b, h, q⟩ := h
 rcases h with ⟨p, xs, rfl, hp, fx, fxs, rfl⟩ | ⟨i, j, rfl, rfl, rfl⟩ | ⟨p, kvs, k, rfl, rfl, hp, rfl⟩
 ·exact Ws pins s σ H _ _ v u Q I rx ry ⟨p, xs, rfl, hp.imp SqL.of SqT.of, fx, fxs, q⟩
 ·exact Wq pins s σ H _ _ v u Q I rx ry ⟨i, j, rfl, rfl, q⟩
 ·cases ry
  exact d_in hu I (.inl ⟨kvs, k, hp, rfl, rfl⟩) rx fun s' I' => ⟨.bl _, H, I', rfl, q⟩
def rSetA : V -> V -> V -> Hp -> (Hp -> Prop) -> Prop := fun o i v H Q => rSetL o i v H Q \/ (∃ p kvs k, o = .ref p /\ i = kV k /\ H p = some (.dK kvs) /\ kvs.length < sizeLine /\ Q (upd H p (.dK (Ey kvs k v))))
theorem bz (hu : X.A.units + 1 < cLine) : av X rSetA := by
 intro pins s σ H o i v ov iv u Q I ro ri rv h
 rcases h with h | ⟨p, kvs, k, rfl, rfl, hp, hl, q⟩
 ·exact Dz pins s σ H o i v ov iv u Q I ro ri rv h
 ·cases ro
  exact Xl hu I (DPut.k hp hl) ri rv fun s' I' => ⟨_, I', q⟩
theorem Y3 {K : Zzv} {H : Hp} {x : V} {T : String} (h : J7 H x = some T) (hT : T = "list" \/ T = "dict" \/ T = "str") : tyV K T x H := by
 cases x with
 | str z => cases h; rfl
 | ref a =>
  unfold J7 at h
  simp only at h
  cases e : H a with
  | none => rw [e] at h; cases h
  | some o =>
   rw [e] at h
   cases o with
   | lst xs => cases h; exact .inl ⟨rfl, xs, SqL.of e⟩
   | tup xs => cases h; exact absurd hT (by decide)
   | dK kvs => cases h; exact .inr (.inr (.inl ⟨rfl, .inl ⟨kvs, e⟩⟩))
   | _ => cases h
 | int i => cases h; exact absurd hT (by decide)
 | bl i => cases h; exact absurd hT (by decide)
 | non => cases h; exact absurd hT (by decide)
 | _ => cases h
def bq (T : String) (r : V -> List V -> Hp -> VK -> Prop) (to : TE) : TE := fun σ H Q => to σ H fun x H1 => J7 H1 x = some T /\ r x [] H1 Q
def tBA (T : String) (r : V -> List V -> Hp -> VK -> Prop) (to : TE) (t : TA) : TE := fun σ H Q => to σ H fun x H1 => J7 H1 x = some T /\ t σ H1 fun xs H2 => r x xs H2 Q
theorem PE.weak {e : Expr} {t t' : TE} (h : PE X e t) (w : ∀ σ H Q, t' σ H Q -> t σ H Q) : PE X e t' := fun pins s σ H Q I q => h pins s σ H Q I (w σ H Q q)
variable {name : Str} {T id : String} {r : V -> List V -> Hp -> VK -> Prop}
theorem io (pa : PlainAttrs T) (slot : Slot T name id) (hty : typeOf (.builtin id) = pure (.type "method_descriptor")) (hm : MtR X id r) (ho : PE X o to) (hT : T = "list" \/ T = "dict" \/ T = "str" := by decide)
  (hbase : attributeBase o name X.env (eval o X.env) = eval o X.env := by rfl) (hline : (apos.endLine == cpos.line) = true := by rfl) : PE X (.Call (.Attribute o name apos) [] [] cpos) (bq T r to) := by
 intro pins s σ H Q I h
 refine wpAny_Call_method0_late hbase hline (thn (ho pins s σ H _ I h) fun v s1 ⟨x, H1, I1, r1, ty, q1⟩ => ?_)
 obtain ⟨h1, h2⟩ := Y4 I1 r1 (Y3 ty hT)
 exact ⟨T, id, pa, slot, hty, h1, h2, Zw9 rfl (PySem.evalArgs_none (hm pins s1 σ H1 x [] v [] Q I1 r1 .nil q1))⟩
theorem kn (pa : PlainAttrs T) (slot : Slot T name id) (hty : typeOf (.builtin id) = pure (.type "method_descriptor")) (hm : MtR X id r) (ho : PE X o to) (ha : PA X (e :: es) t) (hT : T = "list" \/ T = "dict" \/ T = "str" := by decide)
  (hbase : attributeBase o name X.env (eval o X.env) = eval o X.env := by rfl)
  (hfew : ((backTo cpos (starEach (e :: es) X.env)).all (fun x => !x.1) && (backToKw cpos (keywordEach [] X.env)).all (fun x => x.1.isSome)
   && decide ((e :: es).length + ([] : List Keyword).length + (if ([] : List Keyword).isEmpty then 0 else 1) < 30)) = true := by rfl)
  (hline : (apos.endLine == cpos.line) = true := by rfl) (hs : starEach (e :: es) X.env = (false, eval e X.env) :: starEach es X.env := by rfl) (hplain : (backTo cpos (starEach es X.env)).any (·.1) = false := by rfl) :
  PE X (.Call (.Attribute o name apos) (e :: es) [] cpos) (tBA T r to t) := by
 intro pins s σ H Q I h
 refine wpAny_Call_method_late hbase hfew hline rfl (thn (ho pins s σ H _ I h) fun v s1 ⟨x, H1, I1, r1, ty, q1⟩ => ?_)
 obtain ⟨h1, h2⟩ := Y4 I1 r1 (Y3 ty hT)
 refine ⟨T, id, pa, slot, hty, h1, h2, ?_⟩
 have hA := ha cpos pins s1 σ H1 _ I1 q1
 rw [hs] at hA ⊢
 refine Zw9 (by show (false || (backTo cpos (starEach es X.env)).any (·.1)) = false; rw [hplain] <;> rfl) (Calls.evalArgs_plain ?_)
 exact thn hA fun us s2 ⟨vs, H2, I2, r2, q2⟩ => hm pins s2 σ H2 x vs v us Q I2 r1 r2 q2
end
def Has (P : Program) (w : World) (K : Zzv) (mg : Str -> Option Value) (base : Heap) (x : Str) (k : Nat) (ps : List Str) (sp : Sp) : Prop :=
 ∃ f fd, mg x = some (.ref f) /\ Zzl K (.ref f) = true /\ Binds K fd ps [] /\ FnOk P w K mg base CX0 k f fd ps sp
theorem Yz {X : Cx} {x : Str} {k : Nat} {ps : List Str} {sp : Sp} {e : Expr} {es : List Expr} {t : TA} {p pos : Pos} (h : Has X.prog X.w X.K X.mg X.base x k ps sp) (hr : Room k X.A) (hg : Gl X x) (ha : PA X (e :: es) t)
  (hdb : (x == ("__debug__" : Str)) = false := by decide) (he : starEach (e :: es) X.env = (false, eval e X.env) :: starEach es X.env := by rfl) (hpl : (backTo pos (starEach es X.env)).any (·.1) = false := by rfl) :
  PE X (.Call (.Name x p) (e :: es) [] pos) (P0 sp [] E0 t) := by
 obtain ⟨f, fd, hm, hk, hb, F⟩ := h
 exact cn F hr hg hm hk hb .nil ko ha hdb he hpl
end L2
namespace HT
open PySem PyProof.Rows
section
variable {prog : Program} {w : World} {A : Around} {E : Value -> Shared -> Prop} {s : Shared}
end
end HT
namespace L2
open PySem PySem.Spec PyProof.Rows
section
variable {X : Cx} {a b c e o : Expr} {ta tb tc te to : TE} {pos p apos cpos : Pos} {es : List Expr} {t : TA}
theorem Km : SlR X (fun x lo hi H Q => ∃ a xs, x = .ref a /\ H a = some (.lst xs) /\ ∀ p, H p = none -> Q (.ref p) (upd H p (.lst (Jv xs lo hi)))) := by
 intro pins s σ H x v vl vu lo hi sl Q I rx hs pl pu h
 obtain ⟨a, xs, rfl, hx, q⟩ := h
 exact Vc pins s σ H _ v vl vu lo hi sl Q I rx hs pl pu ⟨a, xs, rfl, SqL.of hx, q⟩
theorem Ah {x : Str} {i : Int} {pos : Pos} (hg : Gl X x) (hm : ∃ t, X.mg x = some (.int i t)) (hd : (x == ("__debug__" : Str)) = false := by decide) : PE X (.Name x pos) (tC (.int i)) := by
 obtain ⟨t, hm⟩ := hm
 exact cm hg hm ⟨t, rfl⟩ hd
theorem Bl (hu : X.A.units + 1 < cLine) : OpR X (compareOp .Eq) rEq := kr
theorem Ll (hu : X.A.units + 1 < cLine) : OpR X (compareOp .Lt) (rI0 fun i j => .bl (decide (i < j))) := kq
def rIsA : R2 := fun x y H Q => (∃ i j, x = .bl i /\ y = .bl j /\ Q (.bl (i == j)) H) \/ (y = .non /\ Q (.bl (decide (x = .non))) H)
theorem Z1 : OpR X (compareOp .Is) rIsA := op_isB.or iq
def rIsnotA : R2 := fun x y H Q => (∃ i j, x = .bl i /\ y = .bl j /\ Q (.bl (i != j)) H) \/ (y = .non /\ Q (.bl (!decide (x = .non))) H)
theorem Lm : OpR X (compareOp .IsNot) rIsnotA := op_isnotB.or cy
theorem Lv (hc : X.calm = true) : CallR X (.builtin "min") (fun xs H Q => ∃ i j, xs = [.int i, .int j] /\ Q (.int (if j < i then j else i)) H) := Xs hc
def tupleA : List V -> Hp -> VK -> Prop := fun xs H Q => ∃ p ys, xs = [.ref p] /\ ((H p = some (.lst ys) /\ ∀ l, H l = none -> Q (.ref l) (upd H l (.tup ys))) \/ (H p = some (.tup ys) /\ Q (.ref p) H))
theorem Ew : CallR X (.type "tuple") tupleA := by
 intro pins s σ H xs us Q I r h
 obtain ⟨p, ys, rfl, h⟩ := h
 exact Ot pins s σ H _ us Q I r ⟨p, ys, rfl, h.imp (fun h => ⟨SqL.of h.1, h.2⟩) fun h => ⟨SqT.of h.1, h.2⟩⟩
def listA : List V -> Hp -> VK -> Prop := fun xs H Q => ∃ p ys, xs = [.ref p] /\ (H p = some (.lst ys) \/ H p = some (.tup ys)) /\ ∀ l, H l = none -> Q (.ref l) (upd H l (.lst ys))
theorem Uo : CallR X (.type "list") listA := by
 intro pins s σ H xs us Q I r h
 obtain ⟨p, ys, rfl, h, q⟩ := h
 exact R8 pins s σ H _ us Q I r ⟨p, ys, rfl, h.imp SqL.of SqT.of, q⟩
def cpB (N : List Str) (osc sc : Scope) (own : List Str) (cap : List Nat) : Bool :=
 decide (sc.kind = .function) && sc.names.all (fun x => x.2 != .local || decide (sc.names.lookup x.1 = some .local)) && sc.names.all (fun y => y.2 != .cell) &&
 sc.names.all (fun y => y.2 != .free || decide (osc.names.lookup y.1 = some .cell) || decide (osc.names.lookup y.1 = some .free)) && cap.all fun j => decide (j < N.length) && decide (sc.names.lookup (N.getD j "") = some .free)
theorem E8 {N : List Str} {osc sc : Scope} {own : List Str} {cap : List Nat} (h : cpB N osc sc own cap = true) : Ju N osc sc own cap := by
 unfold cpB at h
 rw [Zya, Zya, Zya, Zya] at h
 obtain ⟨⟨⟨⟨h1, h2⟩, h3⟩, h4⟩, h5⟩ := h
 refine ⟨of_decide_eq_true h1, fun x hx hl => ?_, fun y hy hc => ?_, fun y hy hf => ?_, fun j hj => ?_⟩
 ·have q := Zwp.mp h2 x hx
  rw [hl] at q
  exact of_decide_eq_true (by simpa using q)
 ·have q := Zwp.mp h3 y hy
  rw [hc] at q
  exact absurd q (by decide)
 ·have q := Zwp.mp h4 y hy
  rw [hf] at q
  rw [Bool.or_eq_true, Bool.or_eq_true] at q
  rcases q with (q | q) | q
  ·exact absurd q (by decide)
  ·exact .inl (of_decide_eq_true q)
  ·exact .inr (of_decide_eq_true q)
 ·have q := Zwp.mp h5 j hj
  rw [Zya] at q
  exact ⟨of_decide_eq_true q.1, of_decide_eq_true q.2⟩
end
section
variable {X : Cx}
def Vf : R2 := fun x y H Q => ∃ l k xs, x = .ref l /\ y = .int k /\ H l = some (.tup xs) /\ xs ≠ [] /\ 2 <= k /\ k <= 1000 /\ xs.length * k.toNat <= 10000 /\
 ∀ p, H p = none -> Q (.ref p) (upd H p (.tup (Zym k.toNat xs).flatten))
def Yp : R2 := fun x y H Q => (∃ i j, x = .int i /\ y = .int j /\ CMul i j /\ Q (.int (i * j)) H) \/ Vf x y H Q
theorem CallR.weak {f : Value} {r r' : List V -> Hp -> VK -> Prop} (h : CallR X f r) (w : ∀ xs H Q, r' xs H Q -> r xs H Q) : CallR X f r' := fun pins s σ H xs us Q I rv q => h pins s σ H xs us Q I rv (w _ _ _ q)
theorem PI.weak {tg it : Expr} {w1 w2 : TI} (h : PI X tg it w1) (w : ∀ σ H R, w2 σ H R -> w1 σ H R) : PI X tg it w2 := fun pins s σ H R I q => h pins s σ H R I (w _ _ _ q)
def lenQ : List V -> Hp -> VK -> Prop := fun xs H Q => ∃ p ys, xs = [.ref p] /\ (H p = some (.lst ys) \/ H p = some (.tup ys)) /\ Q (.int ys.length) H
theorem B7 : CallR X (.builtin "len") lenQ := call_lenA.weak fun _ _ _ h => .inl h
def iy : List V -> Hp -> VK -> Prop := fun xs H Q => ∃ z, xs = [.str z] /\ z.length <= sizeLine /\ Q (.int z.length) H
def iz : List V -> Hp -> VK -> Prop := fun xs H Q => ∃ p kvs, xs = [.ref p] /\ H p = some (.dK kvs) /\ Q (.int kvs.length) H
def rSetD : V -> V -> V -> Hp -> (Hp -> Prop) -> Prop := fun o i v H Q => ∃ p kvs k, o = .ref p /\ i = kV k /\ H p = some (.dK kvs) /\ kvs.length < sizeLine /\ Q (upd H p (.dK (Ey kvs k v)))
theorem E2 (hu : X.A.units + 1 < cLine) : av X rSetD := fun pins s σ H o i v ov iv u Q I ro ri rv h => bz hu pins s σ H o i v ov iv u Q I ro ri rv (.inr h)
theorem Gb : PIp X .Add (rI0 fun i j => .int (i + j)) := fun pins s σ H x y v u Q I rx ry q => e8 pins s σ H x y v u Q I rx ry q
def Yt : R2 := fun x y H Q => ∃ i j, x = .str i /\ y = .str j /\ i.length + j.length <= sizeLine /\ Q (.str (i ++ j)) H
def er (te : TE) : TI := fun σ H R => te σ H fun x H1 => ∃ a xs, x = .ref a /\ H1 a = some (.lst xs) /\ R (ItL a xs) H1
def ee (te : TE) : TI := fun σ H R => te σ H fun x H1 => ∃ a xs, x = .ref a /\ H1 a = some (.tup xs) /\ R (ItT a xs) H1
def j8 (te : TE) : TI := fun σ H R => te σ H fun x H1 => ∃ z, x = .str z /\ R (Its z) H1
theorem C0 {tg l : Expr} {te : TE} (hl : PE X l te) : PI X tg l (er te) := by
 intro pins s σ H R I h
 refine thn (hl pins s σ H _ I h) fun v s1 ⟨x, H1, I1, r1, q1⟩ => ?_
 obtain ⟨a, xs, e, ha, q⟩ := q1
 subst e
 cases r1
 obtain ⟨its, rv, hli, hlt⟩ := Ay I1 ha
 refine wpAny_pyIter_list hli ?_
 refine ⟨s1.heap.objs.size, [s1.heap.objs.size], _, _, H1, rfl, I1.kept (t' := s1.toks) fun b o e => Zzy _ e, Oz a _ xs, ⟨_, Zzj _ rfl, rfl, rfl⟩, fun b hb => ?_, q⟩
 have e : b = s1.heap.objs.size := by simpa using hb
 subst e
 exact I1.fpOk (Zzs _) (I1.hok.fresh (Zzs _))
theorem Cl {tg l : Expr} {te : TE} (hl : PE X l te) : PI X tg l (ee te) := by
 intro pins s σ H R I h
 refine thn (hl pins s σ H _ I h) fun v s1 ⟨x, H1, I1, r1, q1⟩ => ?_
 obtain ⟨a, xs, e, ha, q⟩ := q1
 subst e
 cases r1
 obtain ⟨hz, its, rv, p⟩ := I1.hok a _ ha
 refine wpAny_pyIter_tuple (show s1.heap.IsTuple a its.toArray from p) ?_
 refine ⟨s1.heap.objs.size, [s1.heap.objs.size], _, _, H1, rfl, I1.kept (t' := s1.toks) fun b o e => Zzy _ e, Oy a _ xs, ⟨_, Zzj _ rfl, rfl, rfl⟩, fun b hb => ?_, q⟩
 have e : b = s1.heap.objs.size := by simpa using hb
 subst e
 exact I1.fpOk (Zzs _) (I1.hok.fresh (Zzs _))
end
end L2
namespace NP
open PySem L2
theorem Cz : bootBuiltins "isinstance" = some (.builtin "isinstance") := by decide +kernel
theorem Uq : bootBuiltins "min" = some (.builtin "min") := by decide +kernel
theorem Kc : bootBuiltins "max" = some (.builtin "max") := by decide +kernel
theorem D2 : bootBuiltins "len" = some (.builtin "len") := by decide +kernel
theorem Xv : bootBuiltins "sorted" = some (.builtin "sorted") := by decide +kernel
theorem jk : bootBuiltins "sum" = some (.builtin "sum") := by decide +kernel
theorem Od : bootBuiltins "int" = some (.type "int") := by decide +kernel
theorem fu : bootBuiltins "bool" = some (.type "bool") := by decide +kernel
theorem Ex : bootBuiltins "tuple" = some (.type "tuple") := by decide +kernel
theorem W0 : bootBuiltins "list" = some (.type "list") := by decide +kernel
theorem T6 : bootBuiltins "reversed" = some (.type "reversed") := by decide +kernel
theorem L7 : bootBuiltins "enumerate" = some (.type "enumerate") := by decide +kernel
theorem ag : bootBuiltins "zip" = some (.type "zip") := by decide +kernel
def But (st : Addr) (H H' : Hp) : Prop := ∀ b o, b ≠ st -> H b = some o -> H' b = some o
theorem But.refl (st : Addr) (H : Hp) : But st H H := fun _ _ _ h => h
theorem But.trans {st : Addr} {H H1 H2 : Hp} (a : But st H H1) (b : But st H1 H2) : But st H H2 := fun c o n h => b c o n (a c o n h)
theorem Bt {st : Addr} {H H' : Hp} (s : Same H H') : But st H H' := fun b o _ h => s b o h
theorem A3 {H : Hp} {p : Addr} {o : HO} (hp : H p = none) : Same H (upd H p o) := fun b u h => by rw [A8 (A9 h hp)]; exact h
theorem L6 {st : Addr} {H : Hp} {p : Addr} {o : HO} (hp : H p = none) : But st H (upd H p o) := Bt (A3 hp)
theorem but_set {st : Addr} {H : Hp} {o : HO} : But st H (upd H st o) := fun b u n h => by rw [A8 n]; exact h
def StOk (H : Hp) (st : Addr) : Prop := ∃ ns : List Int, ns ≠ [] /\ H st = some (.lst (ns.map V.int))
theorem StOk.same {H H' : Hp} {st : Addr} (h : StOk H st) (s : Same H H') : StOk H' st := let ⟨ns, n, e⟩ := h; ⟨ns, n, s _ _ e⟩
inductive D where
 | non | bl (b : Bool) | int (i : Int) | str (x : Str) | tup (ds : List D) | lst | dct
mutual
def Rep (H : Hp) : D -> V -> Prop
 | .non, v => v = .non
 | .bl b, v => v = .bl b
 | .int i, v => v = .int i
 | .str x, v => v = .str x /\ x.length <= 1000
 | .tup ds, v => ∃ a xs, v = .ref a /\ H a = some (.tup xs) /\ ds.length <= 1000 /\ Reps H ds xs
 | .lst, v => ∃ a xs, v = .ref a /\ H a = some (.lst xs)
 | .dct, v => ∃ a kvs, v = .ref a /\ H a = some (.dK kvs)
def Reps (H : Hp) : List D -> List V -> Prop
 | [], xs => xs = []
 | d :: ds, xs => ∃ x r, xs = x :: r /\ Rep H d x /\ Reps H ds r
end
def ba (H H' : Hp) : Prop := (∀ a xs, H a = some (.tup xs) -> H' a = some (.tup xs)) /\ (∀ a xs, H a = some (.lst xs) -> ∃ ys, H' a = some (.lst ys)) /\ ∀ a kvs, H a = some (.dK kvs) -> ∃ kvs', H' a = some (.dK kvs')
theorem Nb {H H' : Hp} (s : Same H H') : ba H H' := ⟨fun _ _ h => s _ _ h, fun _ xs h => ⟨xs, s _ _ h⟩, fun _ kvs h => ⟨kvs, s _ _ h⟩⟩
mutual
theorem Rep.keep {H H' : Hp} (k : ba H H') : ∀ (d : D) (v : V), Rep H d v -> Rep H' d v
 | .non, v, h => by rw [Rep] at h ⊢; exact h
 | .bl b, v, h => by rw [Rep] at h ⊢; exact h
 | .int i, v, h => by rw [Rep] at h ⊢; exact h
 | .str x, v, h => by rw [Rep] at h ⊢; exact h
 | .tup ds, v, h => by
  rw [Rep] at h ⊢
  obtain ⟨a, xs, e, h, z, r⟩ := h
  exact ⟨a, xs, e, k.1 a xs h, z, Reps.keep k ds xs r⟩
 | .lst, v, h => by
  rw [Rep] at h ⊢
  obtain ⟨a, xs, e, h⟩ := h
  obtain ⟨ys, h'⟩ := k.2.1 a xs h
  exact ⟨a, ys, e, h'⟩
 | .dct, v, h => by
  rw [Rep] at h ⊢
  obtain ⟨a, kvs, e, h⟩ := h
  obtain ⟨ys, h'⟩ := k.2.2 a kvs h
  exact ⟨a, ys, e, h'⟩
theorem Reps.keep {H H' : Hp} (k : ba H H') : ∀ (ds : List D) (xs : List V), Reps H ds xs -> Reps H' ds xs
 | [], xs, h => by rw [Reps] at h ⊢; exact h
 | d :: ds, xs, h => by
  rw [Reps] at h ⊢
  obtain ⟨x, r, e, h1, h2⟩ := h
  exact ⟨x, r, e, Rep.keep k d x h1, Reps.keep k ds r h2⟩
end
theorem Rep.same {H H' : Hp} {d : D} {v : V} (h : Rep H d v) (s : Same H H') : Rep H' d v := Rep.keep (Nb s) d v h
theorem Reps.same {H H' : Hp} {ds : List D} {vs : List V} (h : Reps H ds vs) (s : Same H H') : Reps H' ds vs := Reps.keep (Nb s) ds vs h
theorem Reps.length {H : Hp} : ∀ {ds : List D} {xs : List V}, Reps H ds xs -> xs.length = ds.length
 | [], xs, h => by rw [Reps] at h; rw [h]; rfl
 | d :: ds, xs, h => by
  rw [Reps] at h
  obtain ⟨x, r, e, _, h2⟩ := h
  rw [e, Zxz, Zxz, Reps.length h2]
theorem Reps.get {H : Hp} : ∀ {ds : List D} {xs : List V} {i : Nat} {x : V}, Reps H ds xs -> xs[i]? = some x -> ∃ d, ds[i]? = some d /\ Rep H d x
 | [], xs, i, x, h, e => by rw [Reps] at h; rw [h] at e; cases e
 | d :: ds, xs, i, x, h, e => by
  rw [Reps] at h
  obtain ⟨y, r, ey, h1, h2⟩ := h
  rw [ey] at e
  cases i with
  | zero => cases e; exact ⟨d, rfl, h1⟩
  | succ i => exact Reps.get (ds := ds) (xs := r) (i := i) h2 (by simpa using e)
theorem Reps.get' {H : Hp} : ∀ {ds : List D} {xs : List V} {i : Nat} {d : D}, Reps H ds xs -> ds[i]? = some d -> ∃ x, xs[i]? = some x /\ Rep H d x
 | [], xs, i, d, h, e => by cases e
 | d0 :: ds, xs, i, d, h, e => by
  rw [Reps] at h
  obtain ⟨y, r, ey, h1, h2⟩ := h
  rw [ey]
  cases i with
  | zero => cases e; exact ⟨y, rfl, h1⟩
  | succ i =>
   obtain ⟨x, h3, h4⟩ := Reps.get' (ds := ds) (xs := r) (i := i) (d := d) h2 (by simpa using e)
   exact ⟨x, by simpa using h3, h4⟩
def D.ty : D -> String
 | .non => "NoneType"
 | .bl _ => "bool"
 | .int _ => "int"
 | .str _ => "str"
 | .tup _ => "tuple"
 | .lst => "list"
 | .dct => "dict"
theorem Rep.ty {H : Hp} {d : D} {v : V} (h : Rep H d v) : J7 H v = some d.ty := by
 cases d <;> rw [Rep] at h
 ·rw [h]; rfl
 ·rw [h]; rfl
 ·rw [h]; rfl
 ·rw [h.1]; rfl
 ·obtain ⟨a, xs, e, h, _⟩ := h; rw [e]; unfold J7; simp only [h]; rfl
 ·obtain ⟨a, xs, e, h⟩ := h; rw [e]; unfold J7; simp only [h]; rfl
 ·obtain ⟨a, xs, e, h⟩ := h; rw [e]; unfold J7; simp only [h]; rfl
def Wa (J : It) (own : List Str) (cap : List Nat) (g : TG) (tt : TT) (te : TE) (σ : St) (H1 : Hp) (Q : VK) : Prop := ∃ W : Nat -> Nat -> List V -> Hp -> Prop, (∃ m, W 0 m [] H1) /\ ∀ i m acc H, W i m acc H -> acc.length <= sizeLine /\
 ((J.stop i H /\ ∀ p, H p = none -> Q (.ref p) (upd H p (.lst acc))) \/
  (J.go i H /\ acc.length < sizeLine /\ ∃ N : List V -> Hp -> Prop, (∀ acc' H', N acc' H' -> ∃ m', m' < m /\ W (i + 1) m' acc' H') /\ ∀ x H', J.yld i H x H' -> g x (J4 own cap σ) H' fun σ2 H2 => tt σ2 H2 fun b H3 => if b = true then te σ2 H3 fun y H4 => N (acc ++ [y]) H4 else N acc H3))
theorem N7 (own : List Str) (cap : List Nat) (wi : TI) (g : TG) (tt : TT) (te : TE) (σ : St) (H : Hp) (Q : VK) : Yd own cap wi g tt te σ H Q = wi σ H fun J H1 => Wa J own cap g tt te σ H1 Q := rfl
def jv (J : It) (g : TG) (tb : TS) (D : Ly) (σ : St) (H1 : Hp) : Prop := ∃ W : Nat -> Nat -> St -> Hp -> Prop, (∃ m, W 0 m σ H1) /\ ∀ i m σ H, W i m σ H ->
 (J.stop i H /\ D.nx σ H) \/ (J.go i H /\ ∃ N : St -> Hp -> Prop, (∀ σ' H', N σ' H' -> ∃ m', m' < m /\ W (i + 1) m' σ' H') /\ ∀ x H', J.yld i H x H' -> g x σ H' fun σ2 H2 => tb { D with nx := N, ct := N, bk := D.nx } σ2 H2)
theorem Pw (wi : TI) (g : TG) (tb : TS) (D : Ly) (σ : St) (H : Hp) : kg wi g tb D σ H = wi σ H fun J H1 => jv J g tb D σ H1 := rfl
theorem R5 (te : TE) (σ : St) (H : Hp) (R : It -> Hp -> Prop) : lr te σ H R = te σ H fun x H1 => (∃ a xs, x = .ref a /\ H1 a = some (.lst xs) /\ R (ItL a xs) H1) \/ (∃ a xs, x = .ref a /\ H1 a = some (.tup xs) /\ R (ItT a xs) H1) \/ (∃ z, x = .str z /\ R (Its z) H1) := rfl
theorem Qt : ("int" ∈ ["bool", "int", "str", "list", "tuple", "dict"]) = True := eq_true (by decide)
theorem Nw : ("bool" ∈ ["bool", "int", "str", "list", "tuple", "dict"]) = True := eq_true (by decide)
theorem Qs : ("str" ∈ ["bool", "int", "str", "list", "tuple", "dict"]) = True := eq_true (by decide)
theorem Nt : ("list" ∈ ["bool", "int", "str", "list", "tuple", "dict"]) = True := eq_true (by decide)
theorem Lp : ("tuple" ∈ ["bool", "int", "str", "list", "tuple", "dict"]) = True := eq_true (by decide)
theorem Nv : ("dict" ∈ ["bool", "int", "str", "list", "tuple", "dict"]) = True := eq_true (by decide)
theorem E6 : C3 "NoneType" "bool" = false := by decide
theorem Eo : C3 "NoneType" "int" = false := by decide
theorem En : C3 "NoneType" "str" = false := by decide
theorem E4 : C3 "NoneType" "list" = false := by decide
theorem Dn : C3 "NoneType" "tuple" = false := by decide
theorem E5 : C3 "NoneType" "dict" = false := by decide
theorem Gv : C3 "bool" "bool" = true := by decide
theorem Ir : C3 "bool" "int" = true := by decide
theorem Iq : C3 "bool" "str" = false := by decide
theorem Gs : C3 "bool" "list" = false := by decide
theorem G1 : C3 "bool" "tuple" = false := by decide
theorem Gu : C3 "bool" "dict" = false := by decide
theorem Im : C3 "int" "bool" = false := by decide
theorem Ji : C3 "int" "int" = true := by decide
theorem Jh : C3 "int" "str" = false := by decide
theorem Ik : C3 "int" "list" = false := by decide
theorem Gn : C3 "int" "tuple" = false := by decide
theorem Il : C3 "int" "dict" = false := by decide
theorem Ih : C3 "str" "bool" = false := by decide
theorem Jg : C3 "str" "int" = false := by decide
theorem Jf : C3 "str" "str" = true := by decide
theorem Ie : C3 "str" "list" = false := by decide
theorem Gi : C3 "str" "tuple" = false := by decide
theorem Ig : C3 "str" "dict" = false := by decide
theorem Gm : C3 "list" "bool" = false := by decide
theorem Ij : C3 "list" "int" = false := by decide
theorem Ii : C3 "list" "str" = false := by decide
theorem Gj : C3 "list" "list" = true := by decide
theorem Fz : C3 "list" "tuple" = false := by decide
theorem Gk : C3 "list" "dict" = false := by decide
theorem Fy : C3 "tuple" "bool" = false := by decide
theorem Gh : C3 "tuple" "int" = false := by decide
theorem Gg : C3 "tuple" "str" = false := by decide
theorem Fw : C3 "tuple" "list" = false := by decide
theorem Fd : C3 "tuple" "tuple" = true := by decide
theorem Fx : C3 "tuple" "dict" = false := by decide
theorem Gq : C3 "dict" "bool" = false := by decide
theorem Ip : C3 "dict" "int" = false := by decide
theorem Io : C3 "dict" "str" = false := by decide
theorem Go : C3 "dict" "list" = false := by decide
theorem G0 : C3 "dict" "tuple" = false := by decide
theorem Gp : C3 "dict" "dict" = true := by decide
theorem G5 {J : It} {n : Nat} {yl : Nat -> V -> Prop} {ok : Hp -> Prop} {own : List Str} {cap : List Nat} {g : TG} {tt : TT} {te : TE} {σ : St} {H : Hp} {Q : VK} (G : Ov J n yl ok) (hn : n <= sizeLine) (hok : ∀ H', Same H H' -> ok H') (ys : List V) (hl : ys.length = n)
  (hs : ∀ i x H', i < n -> yl i x -> Same H H' -> ∀ (N : V -> Hp -> Prop) (M : Hp -> Prop), (∀ y H4, Same H H4 -> ys[i]? = some y -> N y H4) -> g x (J4 own cap σ) H' fun σ2 H2 => tt σ2 H2 fun b H3 => if b = true then te σ2 H3 N else M H3)
  (hd : ∀ H', Same H H' -> ∀ p, H' p = none -> Q (.ref p) (upd H' p (.lst ys))) : Wa J own cap g tt te σ H Q := by
 refine Pk G hn (fun i acc H' => Same H H' /\ acc = ys.take i) ⟨Same.refl H, by simp⟩ (fun i acc H' _ h => hok H' h.1) (fun i acc H' h => by rw [h.2, Zyq]; omega) (fun i x acc H' hi hx h => ?_) (fun acc H' h p hp => ?_)
 ·obtain ⟨s', rfl⟩ := h
  refine hs i x H' hi hx s' _ _ fun y H4 s4 hy => ⟨s4, ?_⟩
  rw [Zz5, hy]
  rfl
 ·obtain ⟨s', e⟩ := h
  rw [e, List.take_of_length_le (by omega)]
  exact hd H' s' p hp
theorem Bd {J : It} {n : Nat} {yl : Nat -> V -> Prop} {ok : Hp -> Prop} {g : TG} {tb : TS} {D : Ly} {σ : St} {H : Hp} (G : Ov J n yl ok) (Pv : Nat -> St -> Hp -> Prop) (h0 : Pv 0 σ H) (hok : ∀ i σ H, i <= n -> Pv i σ H -> ok H)
  (hs : ∀ i x σ H, i < n -> yl i x -> Pv i σ H -> g x σ H fun σ2 H2 => tb { D with nx := Pv (i + 1), ct := Pv (i + 1), bk := D.nx } σ2 H2) (hd : ∀ σ H, Pv n σ H -> D.nx σ H) : jv J g tb D σ H := Zt G Pv h0 hok hs hd
theorem StOk.upd {H : Hp} {st l : Addr} {o : HO} (h : StOk H st) (n : st ≠ l) : StOk (upd H l o) st := let ⟨ns, hn, e⟩ := h; ⟨ns, hn, by rw [A8 n]; exact e⟩
theorem StOk.ne {H : Hp} {st l : Addr} (h : StOk H st) (n : H l = none) : st ≠ l := let ⟨_, _, e⟩ := h; A9 e n
theorem StOk.neT {H : Hp} {st l : Addr} {xs : List V} (h : StOk H st) (n : H l = some (.tup xs)) : l ≠ st := by
 obtain ⟨_, _, e⟩ := h
 exact M6 n e (fun z => by cases z)
theorem But.upd {H H1 : Hp} {st l : Addr} {o : HO} (h : But st H H1) (hl : H l = none) : But st H (L2.upd H1 l o) := fun b u n e => by rw [A8 (A9 e hl)]; exact h b u n e
theorem But.new {H H1 : Hp} {st l : Addr} {o : HO} (h : But st H H1) (hl : H1 l = none) : But st H (L2.upd H1 l o) := h.trans (L6 hl)
theorem But.same {H H1 H2 : Hp} {st : Addr} (h : But st H H1) (s : Same H1 H2) : But st H H2 := h.trans (Bt s)
theorem But.none {H H1 : Hp} {st l : Addr} (h : But st H H1) (n : l ≠ st) (hl : H1 l = none) : H l = none := by
 cases e : H l with
 | none => rfl
 | some o => rw [h l o n e] at hl; cases hl
theorem B3 {n : Nat} (h : n <= 1000) : n <= sizeLine := Zyw h (by decide)
end NP
namespace L2
open PySem PySem.Spec PyProof.Rows
def C2 : List Expr -> Bool
 | [] => true
 | .Starred .. :: _ => false
 | _ :: r => C2 r
theorem C8 {env : Env} : ∀ {es : List Expr}, C2 es = true -> starEach es env = es.map fun e => (false, eval e env)
 | [], _ => rfl
 | e :: r, h => by
  cases e <;> first
   | (exact absurd h Zz0)
   | (rw [Zz3, <- C8 (env := env) (es := r) h]; rfl)
theorem Bn {env : Env} {e : Expr} {es : List Expr} (h : C2 [e] = true) : starEach (e :: es) env = (false, eval e env) :: starEach es env := by
 cases e <;> first
  | (exact absurd h Zz0)
  | rfl
theorem B6 {e : Expr} {es : List Expr} (h : C2 (e :: es) = true) : C2 [e] = true /\ C2 es = true := by
 cases e <;> first
  | (exact absurd h Zz0)
  | exact ⟨rfl, h⟩
theorem Cr {env : Env} {pos : Pos} {es : List Expr} (h : C2 es = true) : (backTo pos (starEach es env)).any (·.1) = false := by
 rw [C8 h]
 unfold backTo
 rw [Zxi, List.any_map]
 induction es with
 | nil => rfl
 | cons e r ih =>
  rw [Zwx]
  exact ih (B6 h).2
theorem Ur {env : Env} {pos : Pos} {es : List Expr} (h : C2 es = true) : (backTo pos (starEach es env)).all (fun x => !x.1) = true := by
 rw [C8 h]
 unfold backTo
 rw [Zxi, List.all_map]
 induction es with
 | nil => rfl
 | cons e r ih =>
  rw [List.all_cons]
  exact ih (B6 h).2
section
variable {X : Cx} {x : Str} {p pos apos cpos : Pos} {e o tg : Expr} {es : List Expr} {te to : TE} {t : TA} {id T : String} {r : List V -> Hp -> VK -> Prop} {rm : V -> List V -> Hp -> VK -> Prop} {k : Nat} {ps : List Str} {sp : Sp} {name : Str}
theorem A4 (ha : PE X e te) (hr : PA X es t) (hn : C2 [e] = true := by rfl) : PA X (e :: es) (Rm te t) := cq ha hr (Bn hn)
theorem Ab (h : Has X.prog X.w X.K X.mg X.base x k ps sp) (hr : Room k X.A) (hg : Gl X x) (ha : PA X (e :: es) t) (hn : C2 (e :: es) = true := by rfl) (hdb : (x == ("__debug__" : Str)) = false := by decide) :
  PE X (.Call (.Name x p) (e :: es) [] pos) (P0 sp [] E0 t) := Yz h hr hg ha hdb (Bn (B6 hn).1) (Cr (B6 hn).2)
theorem An (hc : CallR X (.builtin id) r) (hg : Gl X x) (hm : X.mg x = none) (hv : bootBuiltins x = some (.builtin id)) (ha : PA X (e :: es) t) (hn : C2 (e :: es) = true := by rfl) (hnm : x ≠ "__name__" := by decide) (hdb : (x == ("__debug__" : Str)) = false := by decide) :
  PE X (.Call (.Name x p) (e :: es) [] pos) (tCB r t) := Z0 hc hg hm hv ha hnm hdb (Bn (B6 hn).1) (Cr (B6 hn).2)
theorem Cy (hc : CallR X (.type T) r) (hg : Gl X x) (hm : X.mg x = none) (hv : bootBuiltins x = some (.type T)) (ha : PA X (e :: es) t) (hn : C2 (e :: es) = true := by rfl) (hnm : x ≠ "__name__" := by decide) (hdb : (x == ("__debug__" : Str)) = false := by decide) :
  PE X (.Call (.Name x p) (e :: es) [] pos) (tCB r t) := Wo hc hg hm hv ha hnm hdb (Bn (B6 hn).1) (Cr (B6 hn).2)
theorem D5 (pa : PlainAttrs T) (slot : Slot T name id) (hty : typeOf (.builtin id) = pure (.type "method_descriptor")) (hm : MtR X id rm) (ho : PE X o to) (ha : PA X (e :: es) t) (hT : T = "list" \/ T = "dict" \/ T = "str" := by decide)
  (hbase : attributeBase o name X.env (eval o X.env) = eval o X.env := by rfl) (hn : C2 (e :: es) = true := by rfl) (hlen : (e :: es).length < 20 := by decide) (hline : (apos.endLine == cpos.line) = true := by rfl) :
  PE X (.Call (.Attribute o name apos) (e :: es) [] cpos) (tBA T rm to t) := by
 refine kn pa slot hty hm ho ha hT hbase ?_ hline (Bn (B6 hn).1) (Cr (B6 hn).2)
 rw [Ur hn, Bool.true_and]
 have e1 : (backToKw cpos (keywordEach [] X.env)).all (fun x => x.1.isSome) = true := rfl
 rw [e1, Bool.true_and]
 refine decide_eq_true ?_
 show (e :: es).length + 0 + 0 < 30
 omega
theorem Bs {ta : TA} (hg : Gl X "range") (hm : X.mg "range" = none) (ha : PA X [e] ta) (hn : C2 [e] = true := by rfl) : PI X tg (.Call (.Name "range" p) [e] [] pos) (Sv ta) := Wn hg hm ha (C8 hn)
end
mutual
def RD (H : Hp) : PyData -> V -> Prop
 | .none, v => v = .non
 | .bool b, v => v = .bl b
 | .int i, v => v = .int i
 | .str x, v => v = .str x
 | .list ds, v => ∃ a xs, v = .ref a /\ H a = some (.lst xs) /\ RDs H ds xs
 | .tuple ds, v => ∃ a xs, v = .ref a /\ H a = some (.tup xs) /\ RDs H ds xs
 | .dict _, _ => False
def RDs (H : Hp) : List PyData -> List V -> Prop
 | [], xs => xs = []
 | d :: ds, xs => ∃ x r, xs = x :: r /\ RD H d x /\ RDs H ds r
end
mutual
theorem RD.reads {P : Program} {w : World} {H : Hp} {h : Heap} (ok : HOk P w H h) : ∀ (d : PyData) (v : V) (u : Value), RD H d v -> RelV v u -> ∃ as, Reads h u d as
 | .none, v, u, r, e => by
  rw [RD] at r; subst r; cases e; exact ⟨_, .none⟩
 | .bool b, v, u, r, e => by
  rw [RD] at r; subst r; cases e; exact ⟨_, .bool b⟩
 | .int i, v, u, r, e => by
  rw [RD] at r; subst r; obtain ⟨t, rfl⟩ := e; exact ⟨_, .int i t⟩
 | .str x, v, u, r, e => by
  rw [RD] at r; subst r; obtain ⟨t, rfl⟩ := e; exact ⟨_, .str x t⟩
 | .list ds, v, u, r, e => by
  rw [RD] at r
  obtain ⟨a, xs, rfl, ha, r⟩ := r
  cases e
  obtain ⟨hz, its, n, rv, eo⟩ := ok a _ ha
  obtain ⟨as, q⟩ := RDs.reads ok ds xs its r rv
  exact ⟨_, .list (vs := its.toArray) eo rfl rfl q⟩
 | .tuple ds, v, u, r, e => by
  rw [RD] at r
  obtain ⟨a, xs, rfl, ha, r⟩ := r
  cases e
  obtain ⟨hz, its, rv, o, ho, hc, n, hd⟩ := ok a _ ha
  obtain ⟨as, q⟩ := RDs.reads ok ds xs its r rv
  exact ⟨_, .tuple (vs := its.toArray) ho hc hd q⟩
 | .dict _, v, u, r, e => by
  rw [RD] at r; exact r.elim
theorem RDs.reads {P : Program} {w : World} {H : Hp} {h : Heap} (ok : HOk P w H h) : ∀ (ds : List PyData) (xs : List V) (us : List Value), RDs H ds xs -> Vals xs us -> ∃ as, ReadsAll h us ds as
 | [], xs, us, r, e => by
  rw [RDs] at r; subst r; cases e; exact ⟨_, .nil⟩
 | d :: ds, xs, us, r, e => by
  rw [RDs] at r
  obtain ⟨x, r', rfl, h1, h2⟩ := r
  cases e with
  | cons r1 r2 =>
   obtain ⟨as, q1⟩ := RD.reads ok d x _ h1 r1
   obtain ⟨bs, q2⟩ := RDs.reads ok ds r' _ h2 r2
   exact ⟨_, .cons q1 q2⟩
end
def okD (d : PyData) : Bool := d.canLay0 && decide (d.depth <= 50)
def ig : R2 := fun x y H Q => ∃ d e, RD H d x /\ RD H e y /\ okD d = true /\ okD e = true /\ Q (.bl (PyData.eqv d e)) H
def rNeD : R2 := fun x y H Q => ∃ d e, RD H d x /\ RD H e y /\ okD d = true /\ okD e = true /\ Q (.bl (!PyData.eqv d e)) H
theorem Sb {A : Around} {d e : PyData} (h : okD d = true) (hu : A.units + 64 < cLine) : A.units + min d.depth e.depth < cLine := by
 have h1 : d.depth <= 50 := of_decide_eq_true (Zxd.mp h).2
 have h2 : min d.depth e.depth <= d.depth := Zwt _ _
 omega
section
variable {X : Cx}
theorem U2 (hu : X.A.units + 64 < cLine) : OpR X (compareOp .NotEq) rNeD := by
 intro pins s σ H x y v u Q I rx ry h
 obtain ⟨d, e, rd, re, hd, he, q⟩ := h
 obtain ⟨as, r1⟩ := RD.reads I.hok d x v rd rx
 obtain ⟨bs, r2⟩ := RD.reads I.hok e y u re ry
 exact SeqAt.compareNe_reads r1 r2 (Zxd.mp hd).1 (Zxd.mp he).1 (Sb hd hu) ⟨.bl _, H, I, rfl, q⟩
end
theorem Vv {A : Around} {k : Nat} (hr : Room k A) : A.units + 64 < cLine := by
 have := hr.un
 omega
def Q3 (ns : List Int) : PyData := .list (ns.map .int)
theorem Rt {H : Hp} : ∀ ns : List Int, RDs H (ns.map .int) (ns.map V.int)
 | [] => by rw [Zxj, Zxj, RDs]
 | n :: r => by
  rw [Zz3, Zz3, RDs]
  exact ⟨_, _, rfl, by rw [RD], Rt r⟩
theorem Ym {H : Hp} {a : Addr} {ns : List Int} (h : H a = some (.lst (ns.map V.int))) : RD H (Q3 ns) (.ref a) := by
 unfold Q3
 rw [RD]
 exact ⟨a, _, rfl, h, Rt ns⟩
theorem Mh : ∀ ns : List Int, PyData.canLayAll0 (ns.map .int) = true
 | [] => rfl
 | n :: r => by
  rw [Zz3, PyData.canLayAll0, PyData.canLay0, Mh r]
  rfl
theorem O8 : ∀ ns : List Int, PyData.depthAll (ns.map .int) = 0
 | [] => rfl
 | n :: r => by
  rw [Zz3, PyData.depthAll, PyData.depth, O8 r]
  rfl
theorem Vj (ns : List Int) : okD (Q3 ns) = true := by
 unfold okD Q3
 rw [PyData.canLay0, Mh, PyData.depth, O8]
 rfl
theorem Mc : ∀ ns ms : List Int, PyData.eqvAll (ns.map .int) (ms.map .int) = decide (ns = ms)
 | [], [] => by simp [PyData.eqvAll]
 | [], m :: s => by simp [PyData.eqvAll]
 | n :: r, [] => by simp [PyData.eqvAll]
 | n :: r, m :: s => by
  rw [Zz3, Zz3, PyData.eqvAll, PyData.eqv, Mc r s]
  by_cases h : n = m
  ·subst h; simp
  ·simp [h]
theorem Zv (ns ms : List Int) : PyData.eqv (Q3 ns) (Q3 ms) = decide (ns = ms) := by
 unfold Q3
 rw [PyData.eqv]
 exact Mc ns ms
section
variable {X : Cx} {pins : List (Addr × Obj)} {σ : St} {H : Hp} {s : Shared} {h' : Heap}
theorem HOk.but {P : Program} {w : World} {h : Heap} {wr : List Addr} (x : HOk P w H h) (k : ∀ b o, b ∉ wr -> h.get? b = some o -> h'.get? b = some o) (n : ∀ b ∈ wr, H b = none) : HOk P w H h' := fun a o e =>
 (x a o e).stay (fun b u hb q => k b u (fun z => by
  rcases hb with hb | hb
  ·rw [hb] at z; rw [n a z] at e; cases e
  ·rw [n b z] at hb; cases hb) q) (fun _ q => q) fun _ _ q => q
theorem Inv.turnedL {t' : Nat} {wr : List Addr} (I : Inv X pins σ H s) (k : ∀ b o, b ∉ wr -> s.heap.get? b = some o -> h'.get? b = some o) (f : ∀ b ∈ wr, J5 X pins H b) : Inv X pins σ H { s with heap := h', toks := t' } := by
 refine I.step (g' := s.gens) (d' := s.drawn) (ch := wr) (fun b hb => ?_) (fun b o _ _ hc e _ => k b o hc e) (fun b o _ _ hc e _ => ⟨o.slots, k b o hc e⟩) (fun _ _ _ _ n => n)
  (fun b o hc e => ⟨o, k b o hc e⟩) (fun _ _ e => e) (fun _ _ _ e => e) (fun b ps e => ⟨#[], by rw [e]; simp⟩) (fun m hm => ?_) (I.hok.but k fun b hb => (f b hb).1) I.bare
 ·obtain ⟨f0, f1, f2, f3, f4, f5⟩ := f b hb
  exact ⟨f3, f1, f4, f5⟩
 ·obtain ⟨o, es, ep, ho, r⟩ := hm
  exact ⟨o, es, ep, k _ o (fun z => (f _ z).2.1 rfl) ho, r⟩
theorem Inv.turnedT {t' : Nat} {wr : List Addr} {p : Addr} {xs : List V} {its : List Value} (I : Inv X pins σ H s) (k : ∀ b o, b ∉ wr -> s.heap.get? b = some o -> h'.get? b = some o) (f : ∀ b ∈ wr, J5 X pins H b) (hp : s.heap.objs.size <= p)
  (ht : IsTup h' p its.toArray) (rv : Vals xs its) (hz : xs.length <= sizeLine) : Inv X pins σ (upd H p (.tup xs)) { s with heap := h', toks := t' } := by
 have hn : H p = none := I.hok.fresh hp
 have ne : ∀ b o, s.heap.get? b = some o -> b ≠ p := fun b o e => By (Zze e) hp
 refine I.step (g' := s.gens) (d' := s.drawn) (ch := wr) (fun b hb => ?_) (fun b o _ _ hc e _ => k b o hc e) (fun b o _ _ hc e _ => ⟨o.slots, k b o hc e⟩) (fun b o _ e n => by rw [A8 (ne b o e)]; exact n)
  (fun b o hc e => ⟨o, k b o hc e⟩) (fun b ys e => by rw [A8 (A9 e hn)]; exact e) (fun b o u e => by rw [A8 (A9 e hn)]; exact e) (fun b ps e => ⟨#[], by rw [A8 (A9 e hn), e]; simp⟩) (fun m hm => ?_) (fun b u e => ?_) I.bare
 ·obtain ⟨f0, f1, f2, f3, f4, f5⟩ := f b hb
  exact ⟨f3, f1, f4, f5⟩
 ·obtain ⟨o, es, ep, ho, r⟩ := hm
  exact ⟨o, es, ep, k _ o (fun z => (f _ z).2.1 rfl) ho, r⟩
 ·by_cases hb : b = p
  ·subst hb
   rw [A1] at e
   cases e
   exact ⟨hz, its, rv, ht⟩
  ·rw [A8 hb] at e
   refine (I.hok.but k (fun b hb => (f b hb).1) b u e).stay (fun _ _ _ q => q) (fun c q => ?_) fun c ys q => ?_
   ·rw [A8 (A9 q hn)]; exact q
   ·rw [A8 (A9 q hn)]; exact q
theorem R0 {P : Program} {w : World} {it : Addr} {fp wr : List Addr} {n i : Nat} {Pt : Nat -> Array Value -> Prop} {St : Nat -> Heap -> Prop} {Mid : Nat -> Addr -> Heap -> Prop} {elts : List Expr} {k : Nat} {pos : Pos} {E : Value -> Shared -> Prop} {Y : List V -> Prop}
  (W : WalksT P w X.A it fp wr n Pt St Mid) (hi : i < n) (I : Inv X pins σ H s) (st : St i s.heap) (hf : ∀ b ∈ wr, J5 X pins H b) (hv : ∀ vals, Pt i vals -> ∃ xs, Vals xs vals.toList /\ xs.length <= 100 /\ Y xs) :
  wpAny (model P w) X.A (pyNext (.ref it)) (fun r s1 => ∃ u, r = some u /\ wpAny (model P w) X.A (letOwnedTupleGo (.Tuple elts k pos) (.ref it) u) (fun _ s2 =>
   ∃ p xs, u = .ref p /\ s.heap.objs.size <= p /\ H p = none /\ Inv X pins σ (upd H p (.tup xs)) s2 /\ Y xs /\ St (i + 1) s2.heap) E s1) E s := by
 refine W.item i s _ E hi st fun T vals h1 tk hP hT ht hm hk => ⟨.ref T, rfl, ?_⟩
 obtain ⟨xs, rv, hz, hY⟩ := hv vals hP
 refine W.go elts k pos i T { s with heap := h1, toks := tk } _ E hm fun h2 st2 hk2 => ?_
 have hTw : T ∉ wr := W.apart i T h1 hm
 have ht2 : IsTup h2 T vals.toList.toArray := by
  obtain ⟨o, ho, hc, m, hd⟩ := ht
  exact ⟨o, hk2 T o hTw ho, hc, m, by simpa using hd⟩
 exact ⟨T, xs, rfl, hT, I.hok.fresh hT, I.turnedT (t' := tk) (fun b o hb e => hk2 b o hb (hk b o hb e)) hf hT ht2 rv (Zyw hz (by decide)), hY, st2⟩
end
structure Pq (J : It) (n : Nat) (yl : Nat -> List V -> Prop) (ok : Hp -> Prop) : Prop where
 go : ∀ i H, i < n -> ok H -> J.go i H
 yld : ∀ i H x H', i < n -> ok H -> J.yld i H x H' -> ∃ p ys, x = .ref p /\ H p = none /\ H' = upd H p (.tup ys) /\ yl i ys
 stop : ∀ H, ok H -> J.stop n H
theorem Mb {J : It} {n : Nat} {yl : Nat -> List V -> Prop} {ok : Hp -> Prop} {g : TG} {tb : TS} {D : Ly} {σ : St} {H : Hp} (G : Pq J n yl ok) (Pv : Nat -> St -> Hp -> Prop) (h0 : Pv 0 σ H) (hok : ∀ i σ H, i <= n -> Pv i σ H -> ok H)
  (hs : ∀ i ys p σ H, i < n -> yl i ys -> Pv i σ H -> H p = none -> g (.ref p) σ (upd H p (.tup ys)) fun σ2 H2 => tb { D with nx := Pv (i + 1), ct := Pv (i + 1), bk := D.nx } σ2 H2) (hd : ∀ σ H, Pv n σ H -> D.nx σ H) : NP.jv J g tb D σ H := by
 refine ⟨fun i m σ H => m = n - i /\ i <= n /\ Pv i σ H, ⟨n, by simp, Zyr _, h0⟩, ?_⟩
 rintro i m σ H ⟨rfl, hi, p⟩
 have q := hok i σ H hi p
 by_cases hlt : i < n
 ·refine .inr ⟨G.go i H hlt q, Pv (i + 1), fun σ' H' p' => ⟨n - (i + 1), by omega, rfl, hlt, p'⟩, fun x H' y => ?_⟩
  obtain ⟨a, ys, e1, e2, e3, y'⟩ := G.yld i H x H' hlt q y
  subst e1 e3
  exact hs i ys a σ H hlt y' p e2
 ·have e : i = n := by omega
  subst e
  exact .inl ⟨G.stop H q, hd σ H p⟩
theorem gT2 {K : Zzv} {i j : Nat} {p : Addr} {x y : V} {σ : St} {H : Hp} {Q : St -> Hp -> Prop} (h : Q ((σ.set i (some x)).set j (some y)) (upd H p (.tup [x, y]))) : Uj K 2 (Fg (D6 i) (Fg (D6 j) gNil)) (.ref p) σ (upd H p (.tup [x, y])) Q :=
 ⟨p, _, rfl, SqT.of A1, rfl, _, _, rfl, _, _, rfl, rfl, h⟩
theorem gT3 {K : Zzv} {i j k : Nat} {p : Addr} {x y z : V} {σ : St} {H : Hp} {Q : St -> Hp -> Prop} (h : Q (((σ.set i (some x)).set j (some y)).set k (some z)) (upd H p (.tup [x, y, z]))) :
  Uj K 3 (Fg (D6 i) (Fg (D6 j) (Fg (D6 k) gNil))) (.ref p) σ (upd H p (.tup [x, y, z])) Q :=
 ⟨p, _, rfl, SqT.of A1, rfl, _, _, rfl, _, _, rfl, _, _, rfl, rfl, h⟩
def ItE (a : Addr) (xs : List V) : It := ⟨fun i H => H a = some (.lst xs) /\ i < xs.length, fun i H x H' => ∃ p y, x = .ref p /\ H p = none /\ xs[i]? = some y /\ H' = upd H p (.tup [.int i, y]), fun i H => H a = some (.lst xs) /\ i = xs.length⟩
theorem Vw (a : Addr) (xs : List V) : Pq (ItE a xs) xs.length (fun i ys => ∃ y, xs[i]? = some y /\ ys = [.int i, y]) (fun H => H a = some (.lst xs)) :=
 ⟨fun i H h o => ⟨o, h⟩, fun i H x H' h o y => let ⟨p, z, e1, e2, e3, e4⟩ := y; ⟨p, _, e1, e2, e4, z, e3, rfl⟩, fun H o => ⟨o, rfl⟩⟩
theorem Wf {P : Program} {w : World} {K : Zzv} {elts : List Expr} {k : Nat} {pos : Pos} (e it a : Addr) (xs : List V) (hei : e ≠ it) : L8 P w K (.Tuple elts k pos) (ItE a xs) [e, it] e (fun i h => (∃ old, IsEnum h e it i old) /\ h.IsListIter it a i) where
 mem := by simp
 obj := fun i h st b hb => by
  obtain ⟨⟨old, he⟩, o, ho, c, d⟩ := st
  rcases Zzi.mp hb with q | q
  ·rw [q]; exact ⟨_, he, fun v z => by cases z⟩
  ·rw [Zz9.mp q]; exact ⟨o, ho, fun v z => by rw [d] at z; cases z⟩
 keep := fun i h h' st k => by
  obtain ⟨⟨old, he⟩, hi⟩ := st
  exact ⟨⟨old, k e (by simp) _ he⟩, hi.at fun o q => k it (by simp) o q⟩
 item := by
  intro X hP hw hK hc i pins s σ H E I hf st hg
  subst hP hw hK
  obtain ⟨hq, hlt⟩ := hg
  obtain ⟨its, rv, hl, hal⟩ := Ay I hq
  have f1 := hf e (by simp)
  have f2 := hf it (by simp)
  have hae : a ≠ e := A9 hq f1.1
  have hai : a ≠ it := A9 hq f2.1
  have hlen := rv.length
  have hv : ∀ vals : Array Value, (∃ t x, its.toArray[i]? = some x /\ vals = #[.int i t, x]) -> ∃ ys, Vals ys vals.toList /\ ys.length <= 100 /\ ∃ y, xs[i]? = some y /\ ys = [V.int i, y] := by
   rintro vals ⟨t, x, hx, rfl⟩
   obtain ⟨u, hu, ru⟩ := rv.get (x := xs[i]) (i := i) (by simp [hlt])
   have hx : its[i]? = some x := by simpa using hx
   rw [hx] at hu
   cases hu
   exact ⟨[.int i, xs[i]], .cons ⟨t, rfl⟩ (.cons ru .nil), by simp, xs[i], by simp [hlt], rfl⟩
  refine thn (R0 (E := E) (WalksT.enumerate (I.ok.hd hc) e it a hei hae hai its.toArray) (by rw [Zzp]; omega) I ⟨st.1, st.2, hl⟩ hf hv) fun r s1 ⟨u, hr, h3⟩ => ⟨u, hr, thn h3 fun _ s2 ⟨p, ys, hu, hp, hn, I2, ⟨y, hy, e2⟩, st2⟩ => ?_⟩
  subst hu e2
  refine ⟨.ref p, _, I2, rfl, ⟨p, y, rfl, hn, hy, rfl⟩, ⟨st2.1, st2.2.1⟩, fun b hb => ?_⟩
  have hbl : b < s.heap.objs.size := by
   obtain ⟨⟨old, he⟩, o, ho, c, d⟩ := st
   rcases Zzi.mp hb with q | q
   ·rw [q]; exact Zze he
   ·rw [Zz9.mp q]; exact Zze ho
  rw [A8 (By hbl hp)]
  exact (hf b hb).1
 done := by
  intro X hP hw hK hc i pins s σ H E I hf st hg
  subst hP hw hK
  obtain ⟨hq, hlt⟩ := hg
  obtain ⟨its, rv, hl, hal⟩ := Ay I hq
  have f1 := hf e (by simp)
  have f2 := hf it (by simp)
  have hlen := rv.length
  have hi : its.toArray.size = i := by rw [Zzp]; omega
  refine (WalksT.enumerate (I.ok.hd hc) e it a hei (A9 hq f1.1) (A9 hq f2.1) its.toArray).done s _ E ?_ fun h' tk hk => ⟨rfl, I.turnedL hk hf⟩
  rw [hi]
  exact ⟨st.1, st.2, hl⟩
 self := fun _ _ _ _ _ st h => by
  obtain ⟨⟨old, he⟩, _⟩ := st
  exact wpAny_pyIter_enum he h
section
variable {X : Cx}
def Vu (ta : TA) : TI := fun σ H R => ta σ H fun vs H1 => ∃ a xs, vs = [.ref a] /\ H1 a = some (.lst xs) /\ R (ItE a xs) H1
theorem Mr {elts : List Expr} {k : Nat} {pt p pos : Pos} {e : Expr} {ta : TA} (hg : Gl X "enumerate") (hm : X.mg "enumerate" = none) (ha : PA X [e] ta) (hn : C2 [e] = true := by rfl) : PI X (.Tuple elts k pt) (.Call (.Name "enumerate" p) [e] [] pos) (Vu ta) := by
 intro pins s σ H R I h
 refine Call_ (Fa I hg hm NP.L7 (Zy2 (thn (ha pos pins s σ H _ I h) fun us s1 ⟨vs, H1, I1, r1, q1⟩ => ?_) (C8 hn) rfl))
 obtain ⟨a, xs, e, hq, q⟩ := q1
 subst e
 obtain ⟨u, rfl, ru⟩ := Gz r1
 cases ru
 obtain ⟨its, rv, hl, hal⟩ := Ay I1 hq
 refine call_enumerate_list hl fun h' he hi hz hk => wpAny_pyIter_enum he ?_
 have I2 : Inv X pins σ H1 { s1 with heap := h' } := I1.kept (t' := s1.toks) hk
 refine ⟨s1.heap.objs.size + 1, [s1.heap.objs.size + 1, s1.heap.objs.size], _, _, H1, rfl, I2, Wf _ _ a xs (Zwo _), ⟨⟨_, he⟩, hi⟩, fun b hb => ?_, q⟩
 have hb' : s1.heap.objs.size <= b := by
  rcases Zzi.mp hb with z | z
  ·rw [z]; exact Nat.le_succ _
  ·rw [Zz9.mp z]; exact Zzs _
 exact I1.fpOk hb' (I1.hok.fresh hb')
end
theorem M3 (ns : List Int) : ∀ n, n <= ns.length -> preSum (fun i => (ns[i]?).getD 0) n = (ns.take n).sum
 | 0, _ => by simp [preSum]
 | n + 1, h => by
  have hn : n < ns.length := h
  rw [preSum, M3 ns n (by omega), Zz5, List.sum_append]
  simp only [Zzu hn, Option.getD_some, Option.toList_some, List.sum_cons, List.sum_nil, Zx6]
theorem Ty (ns : List Int) : preSum (fun i => (ns[i]?).getD 0) ns.length = ns.sum := by
 rw [M3 ns _ (Zzs _), Zz1]
theorem N0 : ∀ {ns : List Int} {us : List Value} {i : Nat} {u : Value}, Vals (ns.map V.int) us -> us[i]? = some u -> ∃ t, u = .int ((ns[i]?).getD 0) t
 | [], _, i, u, .nil, e => by simp at e
 | n :: r, _, 0, u, .cons h t, e => by
  obtain ⟨t', h⟩ := h
  simp at e
  subst e
  exact ⟨t', by rw [h]; rfl⟩
 | n :: r, _, i + 1, u, .cons h t, e => by
  obtain ⟨t', q⟩ := N0 (ns := r) (i := i) (u := u) t (by simpa using e)
  exact ⟨t', by rw [q]; simp⟩
section
variable {X : Cx}
def rSum : List V -> Hp -> VK -> Prop := fun xs H Q => ∃ (a : Addr) (ns : List Int), xs = [.ref a] /\ H a = some (.lst (ns.map V.int)) /\ Q (.int ns.sum) H
theorem Xr (hc : X.calm = true) : CallR X (.builtin "sum") rSum := by
 intro pins s σ H xs us Q I r h
 obtain ⟨a, ns, rfl, ha, q⟩ := h
 obtain ⟨u, rfl, ru⟩ := Gz r
 cases ru
 obtain ⟨its, rv, hl, hlt⟩ := Ay I ha
 have hlen : its.length = ns.length := by have := rv.length; rw [Zzz] at this; exact this.symm
 refine call_sum_walkG (wpAny_pyIter_list hl ?_)
 refine ⟨s.heap.objs.size, [s.heap.objs.size, a], [s.heap.objs.size], its.toArray.size, _, _, fun i => (ns[i]?).getD 0, rfl, Walks.list (A := X.A.in1) (I.ok.hd hc) _ a (Zys hlt) its.toArray,
  ⟨⟨_, Zzj _ rfl, rfl, rfl⟩, hl.push _⟩, fun b hb => ?_, fun i v hP => ?_, fun h' tk t' hk => ?_⟩
 ·have e : (s.heap.push { cls := .type "list_iterator", data := .fields #[.ref a, .int 0 0] }).objs.size = s.heap.objs.size + 1 := Zy6 ..
  show b < (s.heap.push { cls := .type "list_iterator", data := .fields #[.ref a, .int 0 0] }).objs.size
  rw [e]
  rcases Zzi.mp hb with z | z
  ·rw [z]; exact Zwq _
  ·rw [Zz9.mp z]; exact Zxc hlt
 ·have hP : its[i]? = some v := by simpa using hP
  exact N0 rv hP
 ·rw [Zzp, hlen, Ty]
  exact ⟨.int ns.sum, H, I.walked hk, ⟨_, rfl⟩, q⟩
def Q5 : V -> List V -> Hp -> VK -> Prop := fun x vs H Q => ∃ l xs i y, x = .ref l /\ vs = [.int i, y] /\ H l = some (.lst xs) /\ 0 <= i /\ i < 2 ^ 60 /\ xs.length < 1000000 /\ Q .non (upd H l (.lst (xs.take (min i.toNat xs.length) ++ y :: xs.drop (min i.toNat xs.length))))
def rMax2 : List V -> Hp -> VK -> Prop := fun xs H Q => ∃ i j, xs = [.int i, .int j] /\ Q (.int (if j > i then j else i)) H
theorem Hq (hc : X.calm = true) : CallR X (.builtin "max") rMax2 := Xt hc
end
theorem Yl {n d : Nat} {k : Int} (h : 0 <= k) : HT.sIx n d (some k) = min k.toNat n := by
 unfold HT.sIx
 simp only
 split <;> omega
theorem Vz {xs : List V} {j : Int} (hj : 0 <= j) : Jv xs none (some j) = xs.take j.toNat := by
 unfold Jv
 rw [Yl hj]
 have e : HT.sIx xs.length 0 none = 0 := rfl
 rw [e, List.drop_zero, Nat.sub_zero]
 apply Zxb
 intro k
 simp only [Zwj]
 by_cases h : k < xs.length
 ·by_cases h2 : k < j.toNat
  ·rw [if_pos (by omega), if_pos h2]
  ·rw [if_neg (by omega), if_neg h2]
 ·rw [Zyp (by omega)]
  split <;> split <;> rfl
def CMulB (i j : Int) : Prop := CMul i j \/ (i.natAbs < 10 ^ 3000 /\ j.natAbs < 10 ^ 3000)
theorem W1 {i : Int} (h : i.natAbs < 10 ^ 3000) : Builtin.Int.intBits i <= 2 ^ 20 := by
 unfold Builtin.Int.intBits
 split
 ·exact Zyr _
 ·rename_i h0
  have h1 : i.natAbs ≠ 0 := by
   intro e
   exact h0 (by simpa using e)
  have h2 : i.natAbs.log2 < 2 ^ 19 := by
   rw [Nat.log2_lt h1]
   refine Zz4 h (Zyw (Nat.pow_le_pow_left (by decide : (10 : Nat) <= 2 ^ 4) 3000) ?_)
   rw [<- Nat.pow_mul]
   exact Nat.pow_le_pow_right (by decide) (by decide)
  have : (2 : Nat) ^ 20 = 2 ^ 19 + 2 ^ 19 := by decide
  have : (1 : Nat) <= 2 ^ 19 := by decide
  omega
theorem CMulB.ok {i j : Int} (h : CMulB i j) : IntMulOk i j := h.elim CMul.ok fun h => .of_bits (W1 h.1) (W1 h.2)
section
variable {X : Cx}
theorem Ia : OpR X (binaryOp .Mult) (rI CMulB fun i j => .int (i * j)) := opI fun _ _ _ _ _ _ _ hc q => mul_int q hc.ok
end
def jt (a b : Addr) (xs ys : List V) : It := ⟨fun i H => H a = some (.lst xs) /\ H b = some (.lst ys) /\ i < min xs.length ys.length,
 fun i H x H' => ∃ p y z, x = .ref p /\ H p = none /\ xs[i]? = some y /\ ys[i]? = some z /\ H' = upd H p (.tup [y, z]), fun i H => H a = some (.lst xs) /\ H b = some (.lst ys) /\ i = min xs.length ys.length⟩
theorem Zq (a b : Addr) (xs ys : List V) : Pq (jt a b xs ys) (min xs.length ys.length) (fun i us => ∃ y z, xs[i]? = some y /\ ys[i]? = some z /\ us = [y, z]) (fun H => H a = some (.lst xs) /\ H b = some (.lst ys)) :=
 ⟨fun i H h o => ⟨o.1, o.2, h⟩, fun i H x H' h o y => let ⟨p, u, v, e1, e2, e3, e4, e5⟩ := y; ⟨p, _, e1, e2, e5, u, v, e3, e4, rfl⟩, fun H o => ⟨o.1, o.2, rfl⟩⟩
theorem We {P : Program} {w : World} {K : Zzv} {elts : List Expr} {k : Nat} {pos : Pos} (z TI TO i1 i2 a b : Addr) (xs ys : List V) (nd : [z, TI, TO, i1, i2].Nodup) :
  L8 P w K (.Tuple elts k pos) (jt a b xs ys) [z, TI, TO, i1, i2] z (fun i h => IsZip h z TI TO .none /\ IsPair h TI (.ref i1) (.ref i2) /\ (∃ u v, IsPair h TO u v) /\ h.IsListIter i1 a i /\ h.IsListIter i2 b i) := by
 have nd' := nd
 simp only [Zye, Zzi, Zyz, or_false, not_or] at nd'
 obtain ⟨⟨n1, n2, n3, n4⟩, ⟨n5, n6, n7⟩, ⟨n8, n9⟩, n10, _⟩ := nd'
 have objs : ∀ (i : Nat) (h : Heap), (IsZip h z TI TO .none /\ IsPair h TI (.ref i1) (.ref i2) /\ (∃ u v, IsPair h TO u v) /\ h.IsListIter i1 a i /\ h.IsListIter i2 b i) -> ∀ c ∈ [z, TI, TO, i1, i2], ∃ o, h.get? c = some o /\ ∀ v, o.data ≠ .cell v := by
  rintro i h ⟨hz, hT, ⟨u, v, hO⟩, ⟨o1, g1, c1, d1⟩, ⟨o2, g2, c2, d2⟩⟩ c hc
  simp only [Zzi, Zyz, or_false] at hc
  rcases hc with q | q | q | q | q <;> subst q
  ·exact ⟨_, hz, fun _ y => by cases y⟩
  ·exact ⟨_, hT, fun _ y => by cases y⟩
  ·exact ⟨_, hO, fun _ y => by cases y⟩
  ·exact ⟨o1, g1, fun _ y => by rw [d1] at y; cases y⟩
  ·exact ⟨o2, g2, fun _ y => by rw [d2] at y; cases y⟩
 have apart : ∀ {X : Cx} {pins : List (Addr × Obj)} {H : Hp}, (∀ c ∈ [z, TI, TO, i1, i2], J5 X pins H c) -> ∀ {us vs : List V}, H a = some (.lst us) -> H b = some (.lst vs) -> ZipApart z TI TO i1 i2 a b := by
  intro X pins H hf us vs ha hb
  have fr : ∀ c ∈ [z, TI, TO, i1, i2], a ≠ c /\ b ≠ c := fun c hc => ⟨A9 ha (hf c hc).1, A9 hb (hf c hc).1⟩
  exact ⟨fun e => n1 e.symm, fun e => n2 e.symm, fun e => n3 e.symm, fun e => n4 e.symm, n5, n6, n7, n8, n9, n10, (fr z (by simp)).1, (fr TO (by simp)).1, (fr i1 (by simp)).1, (fr i2 (by simp)).1, (fr z (by simp)).2, (fr TO (by simp)).2, (fr i1 (by simp)).2, (fr i2 (by simp)).2⟩
 refine ⟨by simp, objs, ?_, ?_, ?_, ?_⟩
 ·rintro i h h' ⟨hz, hT, ⟨u, v, hO⟩, g1, g2⟩ kp
  exact ⟨kp z (by simp) _ hz, kp TI (by simp) _ hT, ⟨u, v, kp TO (by simp) _ hO⟩, g1.at fun o e => kp i1 (by simp) o e, g2.at fun o e => kp i2 (by simp) o e⟩
 ·intro X hP hw hK hc i pins s σ H E I hf st hg
  subst hP hw hK
  obtain ⟨ha, hb, hlt⟩ := hg
  obtain ⟨its, rv, hl, hal⟩ := Ay I ha
  obtain ⟨its2, rv2, hl2, hal2⟩ := Ay I hb
  have len1 := rv.length
  have len2 := rv2.length
  obtain ⟨s1, s2, s3, s4, s5⟩ := id st
  have hv : ∀ vals : Array Value, (∃ x y, its.toArray[i]? = some x /\ its2.toArray[i]? = some y /\ vals = #[x, y]) -> ∃ us, Vals us vals.toList /\ us.length <= 100 /\ ∃ y z, xs[i]? = some y /\ ys[i]? = some z /\ us = [y, z] := by
   rintro vals ⟨x, y, hx, hy, rfl⟩
   have l1 : i < xs.length := by omega
   have l2 : i < ys.length := by omega
   obtain ⟨u, hu, ru⟩ := rv.get (x := xs[i]) (i := i) (by simp [l1])
   obtain ⟨u', hu', ru'⟩ := rv2.get (x := ys[i]) (i := i) (by simp [l2])
   have hx : its[i]? = some x := by simpa using hx
   have hy : its2[i]? = some y := by simpa using hy
   rw [hx] at hu
   rw [hy] at hu'
   cases hu
   cases hu'
   exact ⟨[xs[i], ys[i]], .cons ru (.cons ru' .nil), by simp, xs[i], ys[i], by simp [l1], by simp [l2], rfl⟩
  have sub : ∀ c ∈ [z, TO, i1, i2], c ∈ [z, TI, TO, i1, i2] := fun c hc => by simp at hc ⊢; rcases hc with h | h | h | h <;> simp [h]
  refine thn (R0 (E := E) (WalksT.zip2 (I.ok.hd hc) z TI TO i1 i2 a b (apart hf ha hb) its.toArray its2.toArray) (by rw [Zzp, Zzp]; omega) I ⟨s1, s2, s3, s4, s5, hl, hl2⟩ (fun c hc => hf c (sub c hc)) hv) fun r t1 ⟨u, hr, h3⟩ =>
   ⟨u, hr, thn h3 fun _ t2 ⟨p, us, hu, hp, hn, I2, ⟨y, y', hy, hy', e2⟩, st2⟩ => ?_⟩
  subst hu e2
  refine ⟨.ref p, _, I2, rfl, ⟨p, y, y', rfl, hn, hy, hy', rfl⟩, ⟨st2.1, st2.2.1, st2.2.2.1, st2.2.2.2.1, st2.2.2.2.2.1⟩, fun c hc => ?_⟩
  obtain ⟨o, ho, _⟩ := objs i _ st c hc
  rw [A8 (By (Zze ho) hp)]
  exact (hf c hc).1
 ·intro X hP hw hK hc i pins s σ H E I hf st hg
  subst hP hw hK
  obtain ⟨ha, hb, hlt⟩ := hg
  obtain ⟨its, rv, hl, hal⟩ := Ay I ha
  obtain ⟨its2, rv2, hl2, hal2⟩ := Ay I hb
  have len1 := rv.length
  have len2 := rv2.length
  obtain ⟨s1, s2, s3, s4, s5⟩ := id st
  have sub : ∀ c ∈ [z, TO, i1, i2], c ∈ [z, TI, TO, i1, i2] := fun c hc => by simp at hc ⊢; rcases hc with h | h | h | h <;> simp [h]
  have hi : min its.toArray.size its2.toArray.size = i := by rw [Zzp, Zzp]; omega
  refine (WalksT.zip2 (I.ok.hd hc) z TI TO i1 i2 a b (apart hf ha hb) its.toArray its2.toArray).done s _ E ?_ fun h' tk hk => ⟨rfl, I.turnedL hk fun c hc => hf c (sub c hc)⟩
  rw [hi]
  exact ⟨s1, s2, s3, s4, s5, hl, hl2⟩
 ·intro A i s Q E st h
  exact wpAny_pyIter_zip st.1 h
section
variable {X : Cx}
def Vt (ta : TA) : TI := fun σ H R => ta σ H fun vs H1 => ∃ a b xs ys, vs = [.ref a, .ref b] /\ H1 a = some (.lst xs) /\ H1 b = some (.lst ys) /\ R (jt a b xs ys) H1
theorem Vg {elts : List Expr} {k : Nat} {pt p pos : Pos} {e e2 : Expr} {ta : TA} (hg : Gl X "zip") (hm : X.mg "zip" = none) (ha : PA X [e, e2] ta) (hn : C2 [e, e2] = true := by rfl) : PI X (.Tuple elts k pt) (.Call (.Name "zip" p) [e, e2] [] pos) (Vt ta) := by
 intro pins s σ H R I h
 refine Call_ (Fa I hg hm NP.ag (Zy2 (thn (ha pos pins s σ H _ I h) fun us s1 ⟨vs, H1, I1, r1, q1⟩ => ?_) (Bn (B6 hn).1) (Cr (B6 hn).2)))
 obtain ⟨a, b, xs, ys, e, ha, hb, q⟩ := q1
 subst e
 obtain ⟨u, u', rfl, ru, ru'⟩ := Rf r1
 cases ru
 cases ru'
 obtain ⟨its, rv, hl, hal⟩ := Ay I1 ha
 obtain ⟨its2, rv2, hl2, hal2⟩ := Ay I1 hb
 refine call_zip_2 hl hl2 fun h' g1 g2 g3 g4 g5 hz hk => wpAny_pyIter_zip g1 ?_
 have I2 : Inv X pins σ H1 { s1 with heap := h' } := I1.kept (t' := s1.toks) hk
 have nd : [s1.heap.objs.size + 4, s1.heap.objs.size + 2, s1.heap.objs.size + 3, s1.heap.objs.size, s1.heap.objs.size + 1].Nodup := by
  simp only [Zye, Zzi, Zyz, or_false, not_or, List.nodup_nil, and_true, not_false_eq_true]
  refine ⟨⟨?_, ?_, ?_, ?_⟩, ⟨?_, ?_, ?_⟩, ⟨?_, ?_⟩, ?_⟩ <;> (intro z; have z' : (_ : Nat) = _ := z; omega)
 refine ⟨s1.heap.objs.size + 4, [s1.heap.objs.size + 4, s1.heap.objs.size + 2, s1.heap.objs.size + 3, s1.heap.objs.size, s1.heap.objs.size + 1], _, _, H1, rfl, I2, We _ _ _ _ _ a b xs ys nd, ⟨g1, g2, ⟨_, _, g3⟩, g4, g5⟩, fun c hc => ?_, q⟩
 have hb' : s1.heap.objs.size <= c := by
  simp only [Zzi, Zyz, or_false] at hc
  rcases hc with q | q | q | q | q <;> rw [q] <;> first | exact Zwy _ _ | exact Zzs _
 exact I1.fpOk hb' (I1.hok.fresh hb')
end
abbrev Cn (h : Heap) (T : Addr) (a b c : Value) : Prop := h.get? T = some { cls := .type "tuple", data := .seq #[a, b, c] }
section
variable {prog : Program} {w : World} {A : Around} {E : Value -> Shared -> Prop} {s : Shared}
theorem Kh {T : Addr} {a b c x : Value} {k : Nat} {Q : Unit -> Shared -> Prop} (hT : Cn s.heap T a b c)
  (h : ∀ h', h'.get? T = some { cls := .type "tuple", data := .seq ((#[a, b, c] : Array Value).setIfInBounds k x) } -> Zy5 T s.heap h' -> Q () { s with heap := h' }) :
  wpAny (model prog w) A (updateSeq T (·.setIfInBounds k x)) Q E s := wpAny_updateSeq hT rfl (h _ (by rw [Zx3 _ hT rfl]; simp [Obj.mapSeq]) (Zvz ..))
structure Re (z TI TO i1 i2 i3 : Addr) (ls : List Addr) : Prop where
 nd : [z, TI, TO, i1, i2, i3].Nodup
 ls : ∀ l ∈ ls, l ∉ [z, TI, TO, i1, i2, i3]
theorem Wb {z TI TO i1 i2 i3 l1 l2 l3 : Addr} {k : Nat} {xs ys zs : Array Value} {x y v a b c : Value} {Q : Value -> Shared -> Prop} (D : Re z TI TO i1 i2 i3 [l1, l2, l3])
  (hZ : IsZip s.heap z TI TO .none) (hI : Cn s.heap TI (.ref i1) (.ref i2) (.ref i3)) (hO : Cn s.heap TO a b c)
  (g1 : s.heap.IsListIter i1 l1 k) (g2 : s.heap.IsListIter i2 l2 k) (g3 : s.heap.IsListIter i3 l3 k) (m1 : s.heap.IsList l1 xs) (m2 : s.heap.IsList l2 ys) (m3 : s.heap.IsList l3 zs) (e1 : xs[k]? = some x) (e2 : ys[k]? = some y) (e3 : zs[k]? = some v)
  (hQ : ∀ h', IsZip h' z TI TO (rawInt s.heap.objs.size) -> Cn h' TO x y v -> h'.IsListIter i1 l1 (k + 1) -> h'.IsListIter i2 l2 (k + 1) -> h'.IsListIter i3 l3 (k + 1) -> Cn h' s.heap.objs.size x y v -> h'.objs.size = s.heap.objs.size + 1 ->
   (∀ c o, c ∉ [z, TO, i1, i2, i3] -> s.heap.get? c = some o -> h'.get? c = some o) -> Q (.ref s.heap.objs.size) { s with heap := h' }) :
  wpAny (model prog w) A (Builtin.«zip.__next__» ⟨[.ref z], []⟩) (fun fin s' => ∃ v, fin = .done (.ret v) /\ Q v s') E s := by
 obtain ⟨nd, ls⟩ := D
 have a1 := ls l1 (by simp)
 have a2 := ls l2 (by simp)
 have a3 := ls l3 (by simp)
 simp only [Zye, Zzi, Zyz, or_false, not_or] at nd a1 a2 a3
 obtain ⟨⟨zI, zO, z1, z2, z3⟩, ⟨IO, I1, I2, I3⟩, ⟨O1, O2, O3⟩, ⟨n12, n13⟩, n23, _⟩ := nd
 obtain ⟨a1z, a1I, a1O, a11, a12, a13⟩ := a1
 obtain ⟨a2z, a2I, a2O, a21, a22, a23⟩ := a2
 obtain ⟨a3z, a3I, a3O, a31, a32, a33⟩ := a3
 show wpAny _ _ (field (.ref z) 2 >>= _) _ _ _
 refine wpAny_bind (wpAny_field hZ rfl (x := .bool false) rfl (show wpAny _ _ (field (.ref z) 3 >>= _) _ _ _ from ?_))
 refine wpAny_bind (wpAny_field hZ rfl (x := .ref TI) rfl (wpAny_bind (wpAny_seqItems hI rfl ?_)))
 refine wpAny_bind (m := Zxn (.ref z)) ?_
 unfold Zxn
 refine wpAny_bind (wpAny_field hZ rfl (x := .none) rfl (wpAny_pure ?_))
 simp only [if_true]
 refine wpAny_bind (wpAny_rule (wpAny_bind (wpAny_field hZ rfl (x := .ref TO) rfl (wpAny_bind (wpAny_setField_rec hZ (by simp) fun h₁ w₁ s₁ => ?_)))))
 replace w₁ : IsZip h₁ z TI TO .ellipsis := w₁
 have K1 : ∀ c o, c ≠ z -> s.heap.get? c = some o -> h₁.get? c = some o := fun c o n e => s₁.extBut c o n e
 refine wpAny_bind ?_
 simp only [List.zipIdx_cons, List.zipIdx_nil, List.forIn_cons, List.forIn_nil]
 refine wpAny_bind (wpAny_bind (wpAny_onRaise (show wpAny _ _ (Zyi (.ref i1) >>= _) _ _ _ from ?_)))
 refine wpAny_bind (wpAny_nextOf_list_item (g1.at fun o e => K1 _ o (Zzc z1) e) (m1.at fun o e => K1 _ o a1z e) e1 fun h₂ q₂ s₂ => wpAny_pure ?_)
 replace s₂ : Zy5 i1 h₁ h₂ := s₂
 have K2 : ∀ c o, c ≠ z -> c ≠ i1 -> s.heap.get? c = some o -> h₂.get? c = some o := fun c o n n' e => s₂.extBut c o n' (K1 c o n e)
 have O₂ : Cn h₂ TO a b c := K2 _ _ (Zzc zO) O1 hO
 refine wpAny_bind (wpAny_seqItems O₂ rfl (wpAny_bind (Kh O₂ fun h₃ O₃ s₃ => wpAny_bind (wpAny_letGo (wpAny_pure ?_)))))
 replace O₃ : Cn h₃ TO x b c := O₃
 replace s₃ : Zy5 TO h₂ h₃ := s₃
 have K3 : ∀ c o, c ≠ z -> c ≠ i1 -> c ≠ TO -> s.heap.get? c = some o -> h₃.get? c = some o := fun c o n n' n2 e => s₃.extBut c o n2 (K2 c o n n' e)
 refine wpAny_bind (wpAny_bind (wpAny_onRaise (show wpAny _ _ (Zyi (.ref i2) >>= _) _ _ _ from ?_)))
 refine wpAny_bind (wpAny_nextOf_list_item (g2.at fun o e => K3 _ o (Zzc z2) (Zzc n12) (Zzc O2) e) (m2.at fun o e => K3 _ o a2z a21 a2O e) e2 fun h₄ q₄ s₄ => wpAny_pure ?_)
 replace s₄ : Zy5 i2 h₃ h₄ := s₄
 have O₄ : Cn h₄ TO x b c := s₄.extBut _ _ O2 O₃
 refine wpAny_bind (wpAny_seqItems O₄ rfl (wpAny_bind (Kh O₄ fun h₅ O₅ s₅ => wpAny_bind (wpAny_letGo (wpAny_pure ?_)))))
 replace O₅ : Cn h₅ TO x y c := O₅
 replace s₅ : Zy5 TO h₄ h₅ := s₅
 have K5 : ∀ c o, c ≠ z -> c ≠ i1 -> c ≠ TO -> c ≠ i2 -> s.heap.get? c = some o -> h₅.get? c = some o := fun c o n n' n2 n3 e => s₅.extBut c o n2 (s₄.extBut c o n3 (K3 c o n n' n2 e))
 refine wpAny_bind (wpAny_bind (wpAny_onRaise (show wpAny _ _ (Zyi (.ref i3) >>= _) _ _ _ from ?_)))
 refine wpAny_bind (wpAny_nextOf_list_item (g3.at fun o e => K5 _ o (Zzc z3) (Zzc n13) (Zzc O3) (Zzc n23) e) (m3.at fun o e => K5 _ o a3z a31 a3O a32 e) e3 fun h₆ q₆ s₆ => wpAny_pure ?_)
 replace s₆ : Zy5 i3 h₅ h₆ := s₆
 have O₆ : Cn h₆ TO x y c := s₆.extBut _ _ O3 O₅
 refine wpAny_bind (wpAny_seqItems O₆ rfl (wpAny_bind (Kh O₆ fun h₇ O₇ s₇ => wpAny_bind (wpAny_letGo (wpAny_pure (wpAny_pure ?_))))))
 replace O₇ : Cn h₇ TO x y v := O₇
 replace s₇ : Zy5 TO h₆ h₇ := s₇
 have K7 : ∀ c o, c ∉ [z, TO, i1, i2, i3] -> s.heap.get? c = some o -> h₇.get? c = some o := fun c o n e => by
  simp only [Zzi, Zyz, or_false, not_or] at n
  exact s₇.extBut c o n.2.1 (s₆.extBut c o n.2.2.2.2 (K5 c o n.1 n.2.2.1 n.2.1 n.2.2.2.1 e))
 refine wpAny_bind (wpAny_seqItems O₇ rfl (wpAny_bind (wpAny_newTuple ?_)))
 have sz : h₇.objs.size = s.heap.objs.size := by rw [s₇.1, s₆.1, s₅.1, s₄.1, s₃.1, s₂.1, s₁.1]
 have Z₇ : IsZip h₇ z TI TO .ellipsis := s₇.extBut _ _ zO (s₆.extBut _ _ z3 (s₅.extBut _ _ zO (s₄.extBut _ _ z2 (s₃.extBut _ _ zO (s₂.extBut _ _ z1 w₁)))))
 have r1 : h₇.IsListIter i1 l1 (k + 1) := ((((q₂.extBut s₃.extBut (Zzc O1)).extBut s₄.extBut n12).extBut s₅.extBut (Zzc O1)).extBut s₆.extBut n13).extBut s₇.extBut (Zzc O1)
 have r2 : h₇.IsListIter i2 l2 (k + 1) := ((q₄.extBut s₅.extBut (Zzc O2)).extBut s₆.extBut n23).extBut s₇.extBut (Zzc O2)
 have r3 : h₇.IsListIter i3 l3 (k + 1) := q₆.extBut s₇.extBut (Zzc O3)
 have zl : z < h₇.objs.size := Zze Z₇
 refine wpAny_bind (m := Zwi (.ref z) (.ref h₇.objs.size)) ?_
 unfold Zwi
 have Z₈ : IsZip (h₇.push { cls := .type "tuple", data := .seq #[x, y, v] }) z TI TO .ellipsis := Zzy _ Z₇
 refine wpAny_bind (wpAny_setField_rec Z₈ (by simp) fun h₈ w₈ s₈ => ?_)
 replace w₈ : IsZip h₈ z TI TO (rawInt h₇.objs.size) := w₈
 refine wpAny_setField_rec w₈ (by simp) fun h₉ w₉ s₉ => ?_
 replace w₉ : IsZip h₉ z TI TO (rawInt h₇.objs.size) := w₉
 have K9 : ∀ c o, c ≠ z -> h₇.get? c = some o -> h₉.get? c = some o := fun c o n e => s₉.extBut _ _ n (s₈.extBut _ _ n (Zzy _ e))
 have T₉ : Cn h₉ h₇.objs.size x y v := s₉.extBut _ _ (Zxf zl) (s₈.extBut _ _ (Zxf zl) (Zzj _ rfl))
 have sz9 : h₉.objs.size = h₇.objs.size + 1 := by rw [s₉.1, s₈.1, Zy6]
 rw [sz] at w₉ T₉ sz9
 refine wpAny_pure ⟨_, rfl, (show Q (.ref h₇.objs.size) _ from ?_)⟩
 rw [sz]
 refine hQ h₉ w₉ (K9 _ _ (Zzc zO) O₇) (r1.at fun o e => K9 _ o (Zzc z1) e) (r2.at fun o e => K9 _ o (Zzc z2) e) (r3.at fun o e => K9 _ o (Zzc z3) e) T₉ sz9 fun c o n e => K9 c o (fun q => n (by simp [q])) (K7 c o n e)
theorem Xy {z TI TO i1 i2 i3 l1 l2 l3 : Addr} {k : Nat} {xs ys zs : Array Value} {a b c : Value} {Q : Fin -> Shared -> Prop} (hh : A.handled = none) (D : Re z TI TO i1 i2 i3 [l1, l2, l3])
  (hZ : IsZip s.heap z TI TO .none) (hI : Cn s.heap TI (.ref i1) (.ref i2) (.ref i3)) (hO : Cn s.heap TO a b c)
  (g1 : s.heap.IsListIter i1 l1 k) (g2 : s.heap.IsListIter i2 l2 k) (g3 : s.heap.IsListIter i3 l3 k) (m1 : s.heap.IsList l1 xs) (m2 : s.heap.IsList l2 ys) (m3 : s.heap.IsList l3 zs) (he : xs[k]? = none \/ ys[k]? = none \/ zs[k]? = none)
  (hE : ∀ h' e, (∀ c o, c ∉ [z, TO, i1, i2, i3] -> s.heap.get? c = some o -> h'.get? c = some o) -> (∃ o, h'.get? e = some o /\ o.cls = .type "StopIteration") -> E (.ref e) { s with heap := h' }) :
  wpAny (model prog w) A (Builtin.«zip.__next__» ⟨[.ref z], []⟩) Q E s := by
 obtain ⟨nd, ls⟩ := D
 have a1 := ls l1 (by simp)
 have a2 := ls l2 (by simp)
 have a3 := ls l3 (by simp)
 simp only [Zye, Zzi, Zyz, or_false, not_or] at nd a1 a2 a3
 obtain ⟨⟨zI, zO, z1, z2, z3⟩, ⟨IO, I1, I2, I3⟩, ⟨O1, O2, O3⟩, ⟨n12, n13⟩, n23, _⟩ := nd
 obtain ⟨a1z, a1I, a1O, a11, a12, a13⟩ := a1
 obtain ⟨a2z, a2I, a2O, a21, a22, a23⟩ := a2
 obtain ⟨a3z, a3I, a3O, a31, a32, a33⟩ := a3
 show wpAny _ _ (field (.ref z) 2 >>= _) _ _ _
 refine wpAny_bind (wpAny_field hZ rfl (x := .bool false) rfl (show wpAny _ _ (field (.ref z) 3 >>= _) _ _ _ from ?_))
 refine wpAny_bind (wpAny_field hZ rfl (x := .ref TI) rfl (wpAny_bind (wpAny_seqItems hI rfl ?_)))
 refine wpAny_bind (m := Zxn (.ref z)) ?_
 unfold Zxn
 refine wpAny_bind (wpAny_field hZ rfl (x := .none) rfl (wpAny_pure ?_))
 simp only [if_true]
 refine wpAny_bind (wpAny_rule (wpAny_bind (wpAny_field hZ rfl (x := .ref TO) rfl (wpAny_bind (wpAny_setField_rec hZ (by simp) fun h₁ w₁ s₁ => ?_)))))
 replace w₁ : IsZip h₁ z TI TO .ellipsis := w₁
 have K1 : ∀ c o, c ≠ z -> s.heap.get? c = some o -> h₁.get? c = some o := fun c o n e => s₁.extBut c o n e
 refine wpAny_bind ?_
 simp only [List.zipIdx_cons, List.zipIdx_nil, List.forIn_cons, List.forIn_nil]
 have fin : ∀ {h : Heap} {e : Addr} {Q' : Unit -> Shared -> Prop}, IsZip h z TI TO .ellipsis -> (∃ o, h.get? e = some o /\ o.cls = .type "StopIteration") -> (∀ c o, c ∉ [z, TO, i1, i2, i3] -> s.heap.get? c = some o -> h.get? c = some o) ->
   wpAny (model prog w) A (setField (.ref z) 0 .none) (fun _ s' => E (.ref e) s') E { s with heap := h } := fun {h e Q'} w ⟨o, ho, hc⟩ kk => by
  have ne : e ≠ z := fun q => by subst q; rw [w] at ho; cases ho; simp at hc
  refine wpAny_setField_rec w (by simp) fun h' _ s' => hE h' e (fun c o n q => s'.extBut _ _ (fun q => n (by simp [q])) (kk c o n q)) ⟨o, s'.extBut _ _ ne ho, hc⟩
 refine wpAny_bind (wpAny_bind (wpAny_onRaise (show wpAny _ _ (Zyi (.ref i1) >>= _) _ _ _ from ?_)))
 cases e1 : xs[k]? with
 | none =>
  refine wpAny_bind (wpAny_nextOf_list_end hh (g1.at fun o e => K1 _ o (Zzc z1) e) (m1.at fun o e => K1 _ o a1z e) e1 fun h₂ e s₂ he => ?_)
  replace s₂ : Heap.ExtBut i1 h₁ h₂ := s₂
  refine fin (Q' := fun _ _ => True) (s₂ _ _ z1 w₁) he fun c o n q => ?_
  simp only [Zzi, Zyz, or_false, not_or] at n
  exact s₂ _ _ n.2.2.1 (K1 _ _ n.1 q)
 | some x =>
 refine wpAny_bind (wpAny_nextOf_list_item (g1.at fun o e => K1 _ o (Zzc z1) e) (m1.at fun o e => K1 _ o a1z e) e1 fun h₂ q₂ s₂ => wpAny_pure ?_)
 replace s₂ : Zy5 i1 h₁ h₂ := s₂
 have K2 : ∀ c o, c ≠ z -> c ≠ i1 -> s.heap.get? c = some o -> h₂.get? c = some o := fun c o n n' e => s₂.extBut c o n' (K1 c o n e)
 have O₂ : Cn h₂ TO a b c := K2 _ _ (Zzc zO) O1 hO
 refine wpAny_bind (wpAny_seqItems O₂ rfl (wpAny_bind (Kh O₂ fun h₃ O₃ s₃ => wpAny_bind (wpAny_letGo (wpAny_pure ?_)))))
 replace O₃ : Cn h₃ TO x b c := O₃
 replace s₃ : Zy5 TO h₂ h₃ := s₃
 have K3 : ∀ c o, c ≠ z -> c ≠ i1 -> c ≠ TO -> s.heap.get? c = some o -> h₃.get? c = some o := fun c o n n' n2 e => s₃.extBut c o n2 (K2 c o n n' e)
 have Z₃ : IsZip h₃ z TI TO .ellipsis := s₃.extBut _ _ zO (s₂.extBut _ _ z1 w₁)
 refine wpAny_bind (wpAny_bind (wpAny_onRaise (show wpAny _ _ (Zyi (.ref i2) >>= _) _ _ _ from ?_)))
 cases e2 : ys[k]? with
 | none =>
  refine wpAny_bind (wpAny_nextOf_list_end hh (g2.at fun o e => K3 _ o (Zzc z2) (Zzc n12) (Zzc O2) e) (m2.at fun o e => K3 _ o a2z a21 a2O e) e2 fun h₄ e s₄ he => ?_)
  replace s₄ : Heap.ExtBut i2 h₃ h₄ := s₄
  refine fin (Q' := fun _ _ => True) (s₄ _ _ z2 Z₃) he fun c o n q => ?_
  simp only [Zzi, Zyz, or_false, not_or] at n
  exact s₄ _ _ n.2.2.2.1 (K3 _ _ n.1 n.2.2.1 n.2.1 q)
 | some y =>
 refine wpAny_bind (wpAny_nextOf_list_item (g2.at fun o e => K3 _ o (Zzc z2) (Zzc n12) (Zzc O2) e) (m2.at fun o e => K3 _ o a2z a21 a2O e) e2 fun h₄ q₄ s₄ => wpAny_pure ?_)
 replace s₄ : Zy5 i2 h₃ h₄ := s₄
 have O₄ : Cn h₄ TO x b c := s₄.extBut _ _ O2 O₃
 refine wpAny_bind (wpAny_seqItems O₄ rfl (wpAny_bind (Kh O₄ fun h₅ O₅ s₅ => wpAny_bind (wpAny_letGo (wpAny_pure ?_)))))
 replace s₅ : Zy5 TO h₄ h₅ := s₅
 have K5 : ∀ c o, c ≠ z -> c ≠ i1 -> c ≠ TO -> c ≠ i2 -> s.heap.get? c = some o -> h₅.get? c = some o := fun c o n n' n2 n3 e => s₅.extBut c o n2 (s₄.extBut c o n3 (K3 c o n n' n2 e))
 have Z₅ : IsZip h₅ z TI TO .ellipsis := s₅.extBut _ _ zO (s₄.extBut _ _ z2 Z₃)
 refine wpAny_bind (wpAny_bind (wpAny_onRaise (show wpAny _ _ (Zyi (.ref i3) >>= _) _ _ _ from ?_)))
 have e3 : zs[k]? = none := by
  rcases he with h | h | h
  ·rw [e1] at h; cases h
  ·rw [e2] at h; cases h
  ·exact h
 refine wpAny_bind (wpAny_nextOf_list_end hh (g3.at fun o e => K5 _ o (Zzc z3) (Zzc n13) (Zzc O3) (Zzc n23) e) (m3.at fun o e => K5 _ o a3z a31 a3O a32 e) e3 fun h₆ e s₆ he => ?_)
 replace s₆ : Heap.ExtBut i3 h₅ h₆ := s₆
 refine fin (Q' := fun _ _ => True) (s₆ _ _ z3 Z₅) he fun c o n q => ?_
 simp only [Zzi, Zyz, or_false, not_or] at n
 exact s₆ _ _ n.2.2.2.2 (K5 _ _ n.1 n.2.2.1 n.2.1 n.2.2.2.1 q)
end
theorem Tm (a b c : Value) : checkTypeCall "zip" ⟨[a, b, c], []⟩ = pure () := by kernel_rfl
theorem Uc (a b c : Value) : checkBuiltinCall "zip.__new__" ⟨[.type "zip", a, b, c], []⟩ = pure () := by kernel_rfl
theorem Xi (a b c d : Value) : argsOk "object.__init__" ⟨[a, b, c, d], []⟩ := by
 unfold argsOk
 rw [signature?_of (id := "object.__init__") (n := ['_', '_', 't', 'i', 'n', 'i', '_', '_']) (o := ['t', 'c', 'e', 'j', 'b', 'o']) (by kernel_rfl) F.owner_object]
 kernel_rfl
abbrev z3a (h : Heap) (l : Addr) : Heap := h.push { cls := .type "list_iterator", data := .fields #[.ref l, .int 0 0] }
abbrev z3t (h : Heap) (x y z : Value) : Heap := h.push { cls := .type "tuple", data := .seq #[x, y, z] }
abbrev z3i (h : Heap) (l1 l2 l3 : Addr) : Heap := z3t (z3a (z3a (z3a h l1) l2) l3) (.ref h.objs.size) (.ref (z3a h l1).objs.size) (.ref (z3a (z3a h l1) l2).objs.size)
abbrev z3o (h : Heap) (l1 l2 l3 : Addr) : Heap := z3t (z3i h l1 l2 l3) .none .none .none
abbrev z3z (h : Heap) (l1 l2 l3 : Addr) : Heap := (z3o h l1 l2 l3).push { cls := .type "zip", data := .fields #[.none, .bool false, .bool false, .ref (z3a (z3a (z3a h l1) l2) l3).objs.size, .ref (z3i h l1 l2 l3).objs.size] }
theorem Z6 (l1 l2 l3 : Addr) (xs ys zs : Array Value) :
  Meets (Builtin.«zip.__new__» ⟨[.type "zip", .ref l1, .ref l2, .ref l3], []⟩) (fun _ R s => s.heap.IsList l1 xs /\ s.heap.IsList l2 ys /\ s.heap.IsList l3 zs /\ R (.ok (.ret (.ref (z3o s.heap l1 l2 l3).objs.size))) { s with heap := z3z s.heap l1 l2 l3 }) :=
 .of_wp fun prog w A R s h => by
  obtain ⟨hp, g, d, tk, os⟩ := s
  obtain ⟨m1, m2, m3, h⟩ := h
  have hsub := sub_zip
  have q1 : Heap.IsList (Shared.heap ⟨hp, g, d, tk, os⟩) l1 xs := m1
  have q2 : Heap.IsList (Shared.heap ⟨z3a hp l1, g, d, tk, os⟩) l2 ys := m2.push _
  have q3 : Heap.IsList (Shared.heap ⟨z3a (z3a hp l1) l2, g, d, tk, os⟩) l3 zs := (m3.push _).push _
  wp_walk using wpAny_pyIter_list q1, wpAny_pyIter_list q2, wpAny_pyIter_list q3
  exact ⟨_, rfl, h⟩
section
variable {prog : Program} {w : World} {A : Around} {E : Value -> Shared -> Prop} {s : Shared}
theorem Xq {l1 l2 l3 : Addr} {xs ys zs : Array Value} {Q : Value -> Shared -> Prop} (m1 : s.heap.IsList l1 xs) (m2 : s.heap.IsList l2 ys) (m3 : s.heap.IsList l3 zs)
  (h : ∀ h' n, n = s.heap.objs.size -> IsZip h' (n + 5) (n + 3) (n + 4) .none -> Cn h' (n + 3) (.ref n) (.ref (n + 1)) (.ref (n + 2)) -> Cn h' (n + 4) .none .none .none -> h'.IsListIter n l1 0 -> h'.IsListIter (n + 1) l2 0 -> h'.IsListIter (n + 2) l3 0 ->
   (∀ c o, s.heap.get? c = some o -> h'.get? c = some o) -> Q (.ref (n + 5)) { s with heap := h' }) :
  wpAny (model prog w) A (call (.type "zip") [.ref l1, .ref l2, .ref l3]) Q E s := by
 refine callType_new F.called_zip (by decide) (Tm _ _ _) (Uc _ _ _) (fun obj => Xi obj _ _ _) F.entry_zip_new (Z6 l1 l2 l3 xs ys zs) ⟨m1, m2, m3, ?_⟩
 have y1 : (z3a s.heap l1).objs.size = s.heap.objs.size + 1 := Zy6 ..
 have y2 : (z3a (z3a s.heap l1) l2).objs.size = s.heap.objs.size + 2 := by rw [Zy6, y1]
 have y3 : (z3a (z3a (z3a s.heap l1) l2) l3).objs.size = s.heap.objs.size + 3 := by rw [Zy6, y2]
 have y4 : (z3i s.heap l1 l2 l3).objs.size = s.heap.objs.size + 4 := by rw [Zy6, y3]
 have y5 : (z3o s.heap l1 l2 l3).objs.size = s.heap.objs.size + 5 := by rw [Zy6, y4]
 have k5 : (z3z s.heap l1 l2 l3).get? (z3o s.heap l1 l2 l3).objs.size = some _ := Zzj _ rfl
 have k4 : (z3z s.heap l1 l2 l3).get? (z3i s.heap l1 l2 l3).objs.size = some _ := Zzy _ (Zzj _ rfl)
 have k3 : (z3z s.heap l1 l2 l3).get? (z3a (z3a (z3a s.heap l1) l2) l3).objs.size = some _ := Zzy _ (Zzy _ (Zzj _ rfl))
 have k2 : (z3z s.heap l1 l2 l3).get? (z3a (z3a s.heap l1) l2).objs.size = some _ := Zzy _ (Zzy _ (Zzy _ (Zzj _ rfl)))
 have k1 : (z3z s.heap l1 l2 l3).get? (z3a s.heap l1).objs.size = some _ := Zzy _ (Zzy _ (Zzy _ (Zzy _ (Zzj _ rfl))))
 have k0 : (z3z s.heap l1 l2 l3).get? s.heap.objs.size = some _ := Zzy _ (Zzy _ (Zzy _ (Zzy _ (Zzy _ (Zzj _ rfl)))))
 show _ /\ _
 rw [y5, y3, y4] at k5
 rw [y4] at k4
 rw [y3, y1, y2] at k3
 rw [y2] at k2
 rw [y1] at k1
 rw [y5]
 exact ⟨⟨_, k5, rfl⟩, h _ _ rfl k5 k3 k4 ⟨_, k0, rfl, rfl⟩ ⟨_, k1, rfl, rfl⟩ ⟨_, k2, rfl, rfl⟩ fun c o e =>
  Zzy _ (Zzy _ (Zzy _ (Zzy _ (Zzy _ (Zzy _ e)))))⟩
end
theorem Mz {prog : Program} {w : World} {A : Around} (hh : A.handled = none) (z TI TO i1 i2 i3 l1 l2 l3 : Addr) (D : Re z TI TO i1 i2 i3 [l1, l2, l3]) (xs ys zs : Array Value) :
  WalksT prog w A z [z, TI, TO, i1, i2, i3, l1, l2, l3] [z, TO, i1, i2, i3] (min xs.size (min ys.size zs.size))
   (fun i vals => ∃ x y v, xs[i]? = some x /\ ys[i]? = some y /\ zs[i]? = some v /\ vals = #[x, y, v])
   (fun i h => IsZip h z TI TO .none /\ Cn h TI (.ref i1) (.ref i2) (.ref i3) /\ (∃ a b c, Cn h TO a b c) /\ h.IsListIter i1 l1 i /\ h.IsListIter i2 l2 i /\ h.IsListIter i3 l3 i /\ h.IsList l1 xs /\ h.IsList l2 ys /\ h.IsList l3 zs)
   (fun i T h => (IsZip h z TI TO (rawInt T) /\ Cn h TI (.ref i1) (.ref i2) (.ref i3) /\ (∃ a b c, Cn h TO a b c) /\ h.IsListIter i1 l1 (i + 1) /\ h.IsListIter i2 l2 (i + 1) /\ h.IsListIter i3 l3 (i + 1) /\ h.IsList l1 xs /\ h.IsList l2 ys /\ h.IsList l3 zs) /\ T ∉ [z, TO, i1, i2, i3]) := by
 have hTI : TI ∉ [z, TO, i1, i2, i3] := by
  have nd := D.nd
  simp only [Zye, Zzi, Zyz, or_false, not_or] at nd ⊢
  exact ⟨fun e => nd.1.1 e.symm, nd.2.1⟩
 have hls : ∀ l ∈ [l1, l2, l3], l ∉ [z, TO, i1, i2, i3] := fun l hl hm => D.ls l hl (by
  simp only [Zzi, Zyz, or_false] at hm ⊢
  rcases hm with e | e | e | e | e <;> simp [e])
 have nz : ∀ c ∈ [TI, TO, i1, i2, i3], c ≠ z := fun c hc e => by
  have nd := D.nd
  rw [Zye] at nd
  exact nd.1 (e ▸ hc)
 have nzl : ∀ c ∈ [l1, l2, l3], c ≠ z := fun c hc e => hls c hc (by simp [e])
 refine ⟨fun b hb => ?_, fun i h h' st kp => ?_, fun i s Q E hi st hQ => ?_, fun elts k pos i T s Q E hm hQ => ?_, fun i T h hm => hm.2, fun s Q E st hQ => ?_, fun i s Q E st hQ => wpAny_pyIter_zip st.1 hQ⟩
 ·simp only [Zzi, Zyz, or_false] at hb ⊢
  rcases hb with e | e | e | e | e <;> simp [e]
 ·obtain ⟨p1, p2, ⟨a, b, c, p3⟩, p4, p5, p6, p7, p8, p9⟩ := st
  exact ⟨kp z (by simp) _ p1, kp TI (by simp) _ p2, ⟨a, b, c, kp TO (by simp) _ p3⟩, p4.at fun o e => kp i1 (by simp) o e, p5.at fun o e => kp i2 (by simp) o e, p6.at fun o e => kp i3 (by simp) o e,
   p7.at fun o e => kp l1 (by simp) o e, p8.at fun o e => kp l2 (by simp) o e, p9.at fun o e => kp l3 (by simp) o e⟩
 ·obtain ⟨p1, p2, ⟨a, b, c, p3⟩, p4, p5, p6, p7, p8, p9⟩ := st
  have b1 : i < xs.size := by omega
  have b2 : i < ys.size := by omega
  have b3 : i < zs.size := by omega
  have hT : s.TypeIs (.ref z) "zip" := ⟨_, p1, rfl⟩
  unfold pyNext
  refine wpAny_bind (wpAny_attempt (wpAny_callSpecial?_slot (name := Str.ofString "__next__") hT F.slot_zip_next (wpAny_call_entry F.slot_zip_next hT F.entry_zip_next
   (Wb D p1 p2 p3 p4 p5 p6 p7 p8 p9 (Zy8 b1) (Zy8 b2) (Zy8 b3) fun h' r1 r2 r3 r4 r5 r6 r7 r8 => wpAny_pure ?_) (F.args_zip_next_1 _))))
  have lt : ∀ {c o}, s.heap.get? c = some o -> s.heap.objs.size ≠ c := fun e => Zxf (Zze e)
  refine hQ s.heap.objs.size #[xs[i], ys[i], zs[i]] h' s.toks ⟨_, _, _, Zy8 b1, Zy8 b2, Zy8 b3, rfl⟩ (Zzs _) ⟨_, r6, rfl, _, rfl⟩
   ⟨⟨r1, r8 _ _ hTI p2, ⟨_, _, _, r2⟩, r3, r4, r5, p7.at fun o e => r8 _ o (hls l1 (by simp)) e, p8.at fun o e => r8 _ o (hls l2 (by simp)) e, p9.at fun o e => r8 _ o (hls l3 (by simp)) e⟩, fun hm => ?_⟩ r8
  simp only [Zzi, Zyz, or_false] at hm
  obtain ⟨o4, q4, _⟩ := p4
  obtain ⟨o5, q5, _⟩ := p5
  obtain ⟨o6, q6, _⟩ := p6
  rcases hm with e | e | e | e | e
  ·exact lt p1 e
  ·exact lt p3 e
  ·exact lt q4 e
  ·exact lt q5 e
  ·exact lt q6 e
 ·obtain ⟨⟨p1, p2, ⟨a, b, c, p3⟩, p4, p5, p6, p7, p8, p9⟩, _⟩ := hm
  refine wpAny_letOwnedTupleGo_zip p1 fun h' z' s' => hQ h' ⟨z', s'.extBut _ _ (nz TI (by simp)) p2, ⟨a, b, c, s'.extBut _ _ (nz TO (by simp)) p3⟩, p4.extBut s'.extBut (nz i1 (by simp)), p5.extBut s'.extBut (nz i2 (by simp)), p6.extBut s'.extBut (nz i3 (by simp)),
   p7.extBut s'.extBut (nzl l1 (by simp)), p8.extBut s'.extBut (nzl l2 (by simp)), p9.extBut s'.extBut (nzl l3 (by simp))⟩ fun c o hc e => s'.extBut _ _ (fun q => hc (by simp [q])) e
 ·obtain ⟨p1, p2, ⟨a, b, c, p3⟩, p4, p5, p6, p7, p8, p9⟩ := st
  have hT : s.TypeIs (.ref z) "zip" := ⟨_, p1, rfl⟩
  have fin : xs[min xs.size (min ys.size zs.size)]? = none \/ ys[min xs.size (min ys.size zs.size)]? = none \/ zs[min xs.size (min ys.size zs.size)]? = none := by
   have : min xs.size (min ys.size zs.size) = xs.size \/ min xs.size (min ys.size zs.size) = ys.size \/ min xs.size (min ys.size zs.size) = zs.size := by omega
   rcases this with e | e | e
   ·exact .inl (Zw8 (Zx0 e.symm))
   ·exact .inr (.inl (Zw8 (Zx0 e.symm)))
   ·exact .inr (.inr (Zw8 (Zx0 e.symm)))
  unfold pyNext
  refine wpAny_bind (wpAny_attempt (wpAny_callSpecial?_slot (name := Str.ofString "__next__") hT F.slot_zip_next (wpAny_call_entry F.slot_zip_next hT F.entry_zip_next
   (Xy hh D p1 p2 p3 p4 p5 p6 p7 p8 p9 fin fun h' e kp ⟨o, ho, hc⟩ => ?_) (F.args_zip_next_1 _))))
  exact wpAny_bind (wpAny_isInstance (T := "StopIteration") (b := true) ⟨o, ho, hc⟩ isSubtype_stop (wpAny_pure (hQ _ s.toks kp)))
def js (a b c : Addr) (xs ys zs : List V) : It := ⟨fun i H => (H a = some (.lst xs) /\ H b = some (.lst ys) /\ H c = some (.lst zs)) /\ i < min xs.length (min ys.length zs.length),
 fun i H x H' => ∃ p y z v, x = .ref p /\ H p = none /\ xs[i]? = some y /\ ys[i]? = some z /\ zs[i]? = some v /\ H' = upd H p (.tup [y, z, v]), fun i H => (H a = some (.lst xs) /\ H b = some (.lst ys) /\ H c = some (.lst zs)) /\ i = min xs.length (min ys.length zs.length)⟩
theorem jb (a b c : Addr) (xs ys zs : List V) : Pq (js a b c xs ys zs) (min xs.length (min ys.length zs.length)) (fun i us => ∃ y z v, xs[i]? = some y /\ ys[i]? = some z /\ zs[i]? = some v /\ us = [y, z, v]) (fun H => H a = some (.lst xs) /\ H b = some (.lst ys) /\ H c = some (.lst zs)) :=
 ⟨fun i H h o => ⟨o, h⟩, fun i H x H' h o y => let ⟨p, u, v, w, e1, e2, e3, e4, e5, e6⟩ := y; ⟨p, _, e1, e2, e6, u, v, w, e3, e4, e5, rfl⟩, fun H o => ⟨o, rfl⟩⟩
theorem Wd {P : Program} {w : World} {K : Zzv} {elts : List Expr} {k : Nat} {pos : Pos} (z TI TO i1 i2 i3 a b c : Addr) (xs ys zs : List V) (nd : [z, TI, TO, i1, i2, i3].Nodup) :
  L8 P w K (.Tuple elts k pos) (js a b c xs ys zs) [z, TI, TO, i1, i2, i3] z (fun i h => IsZip h z TI TO .none /\ Cn h TI (.ref i1) (.ref i2) (.ref i3) /\ (∃ u v t, Cn h TO u v t) /\ h.IsListIter i1 a i /\ h.IsListIter i2 b i /\ h.IsListIter i3 c i) := by
 have objs : ∀ (i : Nat) (h : Heap), (IsZip h z TI TO .none /\ Cn h TI (.ref i1) (.ref i2) (.ref i3) /\ (∃ u v t, Cn h TO u v t) /\ h.IsListIter i1 a i /\ h.IsListIter i2 b i /\ h.IsListIter i3 c i) -> ∀ d ∈ [z, TI, TO, i1, i2, i3], ∃ o, h.get? d = some o /\ ∀ v, o.data ≠ .cell v := by
  rintro i h ⟨hz, hT, ⟨u, v, t, hO⟩, ⟨o1, g1, c1, d1⟩, ⟨o2, g2, c2, d2⟩, ⟨o3, g3, c3, d3⟩⟩ d hd
  simp only [Zzi, Zyz, or_false] at hd
  rcases hd with q | q | q | q | q | q <;> subst q
  ·exact ⟨_, hz, fun _ y => by cases y⟩
  ·exact ⟨_, hT, fun _ y => by cases y⟩
  ·exact ⟨_, hO, fun _ y => by cases y⟩
  ·exact ⟨o1, g1, fun _ y => by rw [d1] at y; cases y⟩
  ·exact ⟨o2, g2, fun _ y => by rw [d2] at y; cases y⟩
  ·exact ⟨o3, g3, fun _ y => by rw [d3] at y; cases y⟩
 have apart : ∀ {X : Cx} {pins : List (Addr × Obj)} {H : Hp}, (∀ d ∈ [z, TI, TO, i1, i2, i3], J5 X pins H d) -> ∀ {us vs ws : List V}, H a = some (.lst us) -> H b = some (.lst vs) -> H c = some (.lst ws) -> Re z TI TO i1 i2 i3 [a, b, c] := by
  intro X pins H hf us vs ws ha hb hc
  refine ⟨nd, fun l hl hm => ?_⟩
  have hn := (hf l hm).1
  simp only [Zzi, Zyz, or_false] at hl
  rcases hl with e | e | e <;> rw [e] at hn
  ·rw [hn] at ha; cases ha
  ·rw [hn] at hb; cases hb
  ·rw [hn] at hc; cases hc
 have sub : ∀ d ∈ [z, TO, i1, i2, i3], d ∈ [z, TI, TO, i1, i2, i3] := fun d hd => by simp at hd ⊢; rcases hd with h | h | h | h | h <;> simp [h]
 refine ⟨by simp, objs, ?_, ?_, ?_, ?_⟩
 ·rintro i h h' ⟨hz, hT, ⟨u, v, t, hO⟩, g1, g2, g3⟩ kp
  exact ⟨kp z (by simp) _ hz, kp TI (by simp) _ hT, ⟨u, v, t, kp TO (by simp) _ hO⟩, g1.at fun o e => kp i1 (by simp) o e, g2.at fun o e => kp i2 (by simp) o e, g3.at fun o e => kp i3 (by simp) o e⟩
 ·intro X hP hw hK hc i pins s σ H E I hf st hg
  subst hP hw hK
  obtain ⟨⟨ha, hb, hd⟩, hlt⟩ := hg
  obtain ⟨its, rv, hl, _⟩ := Ay I ha
  obtain ⟨its2, rv2, hl2, _⟩ := Ay I hb
  obtain ⟨its3, rv3, hl3, _⟩ := Ay I hd
  have len1 := rv.length
  have len2 := rv2.length
  have len3 := rv3.length
  obtain ⟨s1, s2, s3, s4, s5, s6⟩ := id st
  have hv : ∀ vals : Array Value, (∃ x y v, its.toArray[i]? = some x /\ its2.toArray[i]? = some y /\ its3.toArray[i]? = some v /\ vals = #[x, y, v]) -> ∃ us, Vals us vals.toList /\ us.length <= 100 /\ ∃ y z v, xs[i]? = some y /\ ys[i]? = some z /\ zs[i]? = some v /\ us = [y, z, v] := by
   rintro vals ⟨x, y, v, hx, hy, hv, rfl⟩
   have l1 : i < xs.length := by omega
   have l2 : i < ys.length := by omega
   have l3 : i < zs.length := by omega
   obtain ⟨u, hu, ru⟩ := rv.get (x := xs[i]) (i := i) (by simp [l1])
   obtain ⟨u', hu', ru'⟩ := rv2.get (x := ys[i]) (i := i) (by simp [l2])
   obtain ⟨u'', hu'', ru''⟩ := rv3.get (x := zs[i]) (i := i) (by simp [l3])
   have hx : its[i]? = some x := by simpa using hx
   have hy : its2[i]? = some y := by simpa using hy
   have hv : its3[i]? = some v := by simpa using hv
   rw [hx] at hu
   rw [hy] at hu'
   rw [hv] at hu''
   cases hu
   cases hu'
   cases hu''
   exact ⟨[xs[i], ys[i], zs[i]], .cons ru (.cons ru' (.cons ru'' .nil)), by simp, xs[i], ys[i], zs[i], by simp [l1], by simp [l2], by simp [l3], rfl⟩
  refine thn (R0 (E := E) (Mz (I.ok.hd hc) z TI TO i1 i2 i3 a b c (apart hf ha hb hd) its.toArray its2.toArray its3.toArray) (by rw [Zzp, Zzp, Zzp]; omega) I ⟨s1, s2, s3, s4, s5, s6, hl, hl2, hl3⟩ (fun c hc => hf c (sub c hc)) hv) fun r t1 ⟨u, hr, h3⟩ =>
   ⟨u, hr, thn h3 fun _ t2 ⟨p, us, hu, hp, hn, I2, ⟨y, y', y'', hy, hy', hy'', e2⟩, st2⟩ => ?_⟩
  subst hu e2
  refine ⟨.ref p, _, I2, rfl, ⟨p, y, y', y'', rfl, hn, hy, hy', hy'', rfl⟩, ⟨st2.1, st2.2.1, st2.2.2.1, st2.2.2.2.1, st2.2.2.2.2.1, st2.2.2.2.2.2.1⟩, fun c hc => ?_⟩
  obtain ⟨o, ho, _⟩ := objs i _ st c hc
  rw [A8 (By (Zze ho) hp)]
  exact (hf c hc).1
 ·intro X hP hw hK hc i pins s σ H E I hf st hg
  subst hP hw hK
  obtain ⟨⟨ha, hb, hd⟩, hlt⟩ := hg
  obtain ⟨its, rv, hl, _⟩ := Ay I ha
  obtain ⟨its2, rv2, hl2, _⟩ := Ay I hb
  obtain ⟨its3, rv3, hl3, _⟩ := Ay I hd
  have len1 := rv.length
  have len2 := rv2.length
  have len3 := rv3.length
  obtain ⟨s1, s2, s3, s4, s5, s6⟩ := id st
  have hi : min its.toArray.size (min its2.toArray.size its3.toArray.size) = i := by rw [Zzp, Zzp, Zzp]; omega
  refine (Mz (I.ok.hd hc) z TI TO i1 i2 i3 a b c (apart hf ha hb hd) its.toArray its2.toArray its3.toArray).done s _ E ?_ fun h' tk hk => ⟨rfl, I.turnedL hk fun c hc => hf c (sub c hc)⟩
  rw [hi]
  exact ⟨s1, s2, s3, s4, s5, s6, hl, hl2, hl3⟩
 ·intro A i s Q E st h
  exact wpAny_pyIter_zip st.1 h
section
variable {X : Cx}
def Vs (ta : TA) : TI := fun σ H R => ta σ H fun vs H1 => ∃ a b c xs ys zs, vs = [.ref a, .ref b, .ref c] /\ H1 a = some (.lst xs) /\ H1 b = some (.lst ys) /\ H1 c = some (.lst zs) /\ R (js a b c xs ys zs) H1
theorem cg {elts : List Expr} {k : Nat} {pt p pos : Pos} {e e2 e3 : Expr} {ta : TA} (hg : Gl X "zip") (hm : X.mg "zip" = none) (ha : PA X [e, e2, e3] ta) (hn : C2 [e, e2, e3] = true := by rfl) : PI X (.Tuple elts k pt) (.Call (.Name "zip" p) [e, e2, e3] [] pos) (Vs ta) := by
 intro pins s σ H R I h
 refine Call_ (Fa I hg hm NP.ag (Zy2 (thn (ha pos pins s σ H _ I h) fun us s1 ⟨vs, H1, I1, r1, q1⟩ => ?_) (Bn (B6 hn).1) (Cr (B6 hn).2)))
 obtain ⟨a, b, c, xs, ys, zs, e, ha, hb, hc, q⟩ := q1
 subst e
 cases r1 with
 | cons ru r2 =>
 obtain ⟨u', u'', rfl, ru', ru''⟩ := Rf r2
 cases ru
 cases ru'
 cases ru''
 obtain ⟨its, rv, hl, _⟩ := Ay I1 ha
 obtain ⟨its2, rv2, hl2, _⟩ := Ay I1 hb
 obtain ⟨its3, rv3, hl3, _⟩ := Ay I1 hc
 refine Xq hl hl2 hl3 fun h' n hn g1 g2 g3 g4 g5 g6 hk => wpAny_pyIter_zip g1 ?_
 have I2 : Inv X pins σ H1 { s1 with heap := h' } := I1.kept (t' := s1.toks) hk
 have nd : [n + 5, n + 3, n + 4, n, n + 1, n + 2].Nodup := by
  simp only [Zye, Zzi, Zyz, or_false, not_or, List.nodup_nil, and_true, not_false_eq_true]
  refine ⟨⟨?_, ?_, ?_, ?_, ?_⟩, ⟨?_, ?_, ?_, ?_⟩, ⟨?_, ?_, ?_⟩, ⟨?_, ?_⟩, ?_⟩ <;> (intro z; have z' : (_ : Nat) = _ := z; omega)
 refine ⟨n + 5, [n + 5, n + 3, n + 4, n, n + 1, n + 2], _, _, H1, rfl, I2, Wd _ _ _ _ _ _ a b c xs ys zs nd, ⟨g1, g2, ⟨_, _, _, g3⟩, g4, g5, g6⟩, fun d hd => ?_, q⟩
 have hb' : s1.heap.objs.size <= d := by
  rw [<- hn]
  simp only [Zzi, Zyz, or_false] at hd
  rcases hd with q | q | q | q | q | q <;> rw [q] <;> first | exact Zwy _ _ | exact Zzs _
 exact I1.fpOk hb' (I1.hok.fresh hb')
end
theorem cut1 {t u : TS} {D : Ly} {σ : St} {H : Hp} (M : St -> Hp -> Prop) (hrest : ∀ σ' H', M σ' H' -> u D σ' H') (h : ∀ KK : St -> Hp -> Prop, (∀ σ' H', M σ' H' -> KK σ' H') -> t { D with nx := KK } σ H) : Tn t u D σ H := h (u D) hrest
theorem m6 {t t2 u : TS} {D : Ly} {σ : St} {H : Hp} (M : St -> Hp -> Prop) (hrest : ∀ σ' H', M σ' H' -> u D σ' H') (h : ∀ KK : St -> Hp -> Prop, (∀ σ' H', M σ' H' -> KK σ' H') -> t { D with nx := fun σ H => t2 { D with nx := KK } σ H } σ H) : Tn t (Tn t2 u) D σ H := h (u D) hrest
theorem Fs {H : Hp} {a : Addr} {xs : List V} (h : H a = some (.lst xs)) : J7 H (.ref a) = some "list" := by unfold J7; simp only [h]
theorem Y2 {H : Hp} {a : Addr} {xs : List V} (h : H a = some (.tup xs)) : J7 H (.ref a) = some "tuple" := by unfold J7; simp only [h]
theorem gt2 {K : Zzv} {i j : Nat} {p : Addr} {x y : V} {σ : St} {H : Hp} {Q : St -> Hp -> Prop} (e : H p = some (.tup [x, y])) (h : Q ((σ.set i (some x)).set j (some y)) H) : Uj K 2 (Fg (D6 i) (Fg (D6 j) gNil)) (.ref p) σ H Q :=
 ⟨p, _, rfl, SqT.of e, rfl, _, _, rfl, _, _, rfl, rfl, h⟩
section
variable {X : Cx} {pins : List (Addr × Obj)} {σ : St} {H : Hp} {s : Shared}
theorem Inv.freeze {a : Addr} {kvs : List (Key × V)} (I : Inv X pins σ H s) (h : H a = some (.dK kvs)) : ∃ o, s.heap.get? a = some o /\ Inv X pins σ (upd H a (.frz o (.dK kvs))) s := by
 obtain ⟨hz, hS, vs, r, o, es, ep, ho, rest⟩ := I.hok a _ h
 have ne : ∀ b u, H b = some u -> u ≠ .dK kvs -> b ≠ a := fun b u e n z => by rw [z, h] at e; exact n (Zzo e).symm
 refine ⟨o, ho, I.un (t' := s.toks) ⟨fun b ob e n _ _ => e, fun b ob e n _ _ => ⟨ob.slots, e⟩, fun b ob e n _ => ?_, fun b ob e _ => ⟨ob, e⟩, fun b xs e => ?_, fun b ob u e => ?_, fun b ps e => ⟨#[], ?_⟩⟩ fun b u e => ?_⟩
 ·rw [A8 (fun z => by rw [z, h] at n; cases n)]; exact n
 ·rw [A8 (ne b _ e (fun z => by cases z))]; exact e
 ·rw [A8 (ne b _ e (fun z => by cases z))]; exact e
 ·rw [A8 (ne b _ e (fun z => by cases z)), e]; simp
 ·by_cases hb : b = a
  ·subst hb
   rw [A1] at e
   cases e
   exact ⟨ho, hz, hS, vs, r, o, es, ep, ho, rest⟩
  ·rw [A8 hb] at e
   refine (I.hok b u e).stay (fun _ _ _ q => q) (fun c q => ?_) fun c ys q => ?_
   ·rw [A8 (ne c _ q (fun z => by cases z))]; exact q
   ·rw [A8 (ne c _ q (fun z => by cases z))]; exact q
end
def ItD (a : Addr) (o : Obj) (kvs : List (Key × V)) : It := ⟨fun i H => H a = some (.frz o (.dK kvs)) /\ i < kvs.length, fun i H x H' => H' = H /\ ∃ k v, kvs[i]? = some (k, v) /\ x = kV k, fun i H => H a = some (.frz o (.dK kvs)) /\ kvs.length <= i⟩
theorem gs (a : Addr) (o : Obj) (kvs : List (Key × V)) : Ov (ItD a o kvs) kvs.length (fun i x => ∃ k v, kvs[i]? = some (k, v) /\ x = kV k) (fun H => H a = some (.frz o (.dK kvs))) :=
 ⟨fun _ _ h o => ⟨o, h⟩, fun _ _ _ _ _ _ y => y, fun _ o => ⟨o, Zzs _⟩⟩
theorem Zj {κ : Type} : ∀ {kvs : List (κ × V)} {vs : List (κ × Value)} {i : Nat} {k : κ} {v : V}, KV kvs vs -> kvs[i]? = some (k, v) -> ∃ u, vs[i]? = some (k, u)
 | _, _, _, _, _, .nil, e => by simp at e
 | _, (k', u') :: _, 0, k, v, .cons r _, e => by
  simp at e
  subst e
  exact ⟨u', by simp; exact r.1.symm⟩
 | _, _ :: _, i + 1, k, v, .cons _ t, e => by
  obtain ⟨u, h⟩ := Zj (i := i) t (by simpa using e)
  exact ⟨u, by simpa using h⟩
theorem li {P : Program} {w : World} {k : Key} {u : Value} (h : (Be P w).is k u = true) : RelV (kV k) u := by
 rcases Bv h with ⟨i, t, rfl, rfl⟩ | ⟨x, t, rfl, rfl⟩
 ·exact ⟨t, rfl⟩
 ·exact ⟨t, rfl⟩
theorem Wg {P : Program} {w : World} {K : Zzv} {tg : Expr} (a it : Addr) (o : Obj) (kvs : List (Key × V)) (es : Array DictEntry) (ep : Nat) (hd : o.data = .dict es ep) :
  L8 P w K tg (ItD a o kvs) [it] it (fun i h => h.IsKeyIter it a i kvs.length ep) where
 mem := by simp
 obj := fun i h st b hb => by
  have e : b = it := by simpa using hb
  subst e
  obtain ⟨o, e, c, d⟩ := st
  exact ⟨o, e, fun v z => by rw [d] at z; cases z⟩
 keep := fun i h h' st k => st.at fun o e => k it (by simp) o e
 item := by
  intro X hP hw hK hc i pins s σ H E I hf st hg
  subst hP hw hK
  obtain ⟨hq, hlt⟩ := hg
  obtain ⟨ho, hz, hS, vs, rel, o', es', ep', ho', c', d', kk, pp, nn⟩ := I.hok a _ hq
  rw [ho] at ho'
  cases ho'
  rw [hd] at d'
  cases d'
  have hm : s.heap.DictAt (Be X.prog X.w) a vs ep := ⟨o, es, ho, c', hd, kk, pp, nn⟩
  obtain ⟨f0, f1, f2, f3, f4, f5⟩ := hf it (by simp)
  have hlen : kvs.length = vs.length := rel.length
  obtain ⟨u, hu⟩ := Zj (k := kvs[i].1) (v := kvs[i].2) (i := i) rel (by simp [hlt])
  have st' : s.heap.IsKeyIter it a i vs.length ep := by rw [<- hlen]; exact st
  refine wpAny_pyNext_dict_item st' hm hu fun key h' hk hit sb => ?_
  have I1 : Inv X pins σ H { s with heap := h' } := I.turned (t' := s.toks) (fun b o hb e => (sb.2 b hb).trans e) f0 f1 f3 f4 f5
  obtain ⟨oi, ei, ci, di⟩ := id hit
  refine ⟨key, rfl, Pe (s := { s with heap := h' }) ei ci di (by decide) ⟨kV kvs[i].1, H, I1, li hk, ⟨rfl, kvs[i].1, kvs[i].2, by simp [hlt], rfl⟩, ?_, fun b hb => (hf b hb).1⟩⟩
  rw [hlen]
  exact hit
 done := by
  intro X hP hw hK hc i pins s σ H E I hf st hg
  subst hP hw hK
  obtain ⟨hq, hlt⟩ := hg
  obtain ⟨ho, hz, hS, vs, rel, o', es', ep', ho', c', d', kk, pp, nn⟩ := I.hok a _ hq
  rw [ho] at ho'
  cases ho'
  rw [hd] at d'
  cases d'
  have hm : s.heap.DictAt (Be X.prog X.w) a vs ep := ⟨o, es, ho, c', hd, kk, pp, nn⟩
  obtain ⟨f0, f1, f2, f3, f4, f5⟩ := hf it (by simp)
  have hlen : kvs.length = vs.length := rel.length
  have st' : s.heap.IsKeyIter it a i vs.length ep := by rw [<- hlen]; exact st
  exact wpAny_pyNext_dict_end (I.ok.hd hc) st' hm (by simp; omega) fun h' eb => ⟨rfl, I.turned (t' := s.toks) (fun b o hb e => eb b o hb e) f0 f1 f3 f4 f5⟩
 self := fun _ _ _ _ _ st h => wpAny_pyIter_keyiter st h
section
variable {X : Cx}
def fb (te : TE) : TI := fun σ H R => te σ H fun x H1 => ∃ a kvs, x = .ref a /\ H1 a = some (.dK kvs) /\ ∀ o, R (ItD a o kvs) (upd H1 a (.frz o (.dK kvs)))
theorem Yw {tg l : Expr} {te : TE} (hl : PE X l te) : PI X tg l (fb te) := by
 intro pins s σ H R I h
 refine thn (hl pins s σ H _ I h) fun v s1 ⟨x, H1, I1, r1, q1⟩ => ?_
 obtain ⟨a, kvs, e, ha, q⟩ := q1
 subst e
 cases r1
 obtain ⟨o, ho, I2⟩ := I1.freeze ha
 obtain ⟨hz, hS, vs, rel, o', es, ep, ho', c', d', kk, pp, nn⟩ := I1.hok a _ ha
 rw [ho] at ho'
 cases ho'
 have hm : s1.heap.DictAt (Be X.prog X.w) a vs ep := ⟨o, es, ho, c', d', kk, pp, nn⟩
 have hlen : kvs.length = vs.length := rel.length
 refine wpAny_pyIter_dict hS hm ?_
 refine ⟨s1.heap.objs.size, [s1.heap.objs.size], _, _, _, rfl, I2.kept (t' := s1.toks) fun b o e => Zzy _ e, Wg a _ o kvs es ep d', ?_, fun b hb => ?_, q o⟩
 ·rw [hlen]
  exact ⟨_, Zzj _ rfl, rfl, rfl⟩
 ·have e : b = s1.heap.objs.size := by simpa using hb
  subst e
  exact I2.fpOk (Zzs _) (I2.hok.fresh (Zzs _))
def V2 (ta : TE) : TT := fun σ H Q => ta σ H fun x H' => ∃ a xs, x = .ref a /\ H' a = some (.lst xs) /\ Q (!xs.isEmpty) H'
def V3 (ta : TE) : TT := fun σ H Q => ta σ H fun x H' => ∃ a kvs, x = .ref a /\ H' a = some (.dK kvs) /\ Q (!kvs.isEmpty) H'
theorem PE.wk {e : Expr} {t : TE} (h : PE X e t) {pins : List (Addr × Obj)} {s : Shared} {σ : St} {H : Hp} {Q : VK} (I : Inv X pins σ H s) (q : t σ H Q) : wpAny (model X.prog X.w) X.A (eval e X.env) (EP X pins σ Q) X.xe s := h pins s σ H Q I q
theorem ca {a : Expr} {ta : TE} (ha : PE X a ta) (he : ∀ whole, isTrue a X.env whole = (do let v <- whole; standAt a.pos; holding [v] (truthy v)) := by intro _; rfl) : PT X a (V2 ta) := by
 intro pins s σ H Q I h
 refine isTrue_plain (thn (ha pins s σ H _ I h) fun v s1 ⟨x, H1, I1, r1, q1⟩ => ?_) (he _)
 obtain ⟨a, xs, e, hx, q⟩ := q1
 exact Y6 pins s1 σ H1 x v Q I1 r1 ⟨_, by subst e; exact .inl ⟨xs, SqL.of hx, rfl⟩, q⟩
theorem ce {a : Expr} {ta : TE} (ha : PE X a ta) (he : ∀ whole, isTrue a X.env whole = (do let v <- whole; standAt a.pos; holding [v] (truthy v)) := by intro _; rfl) : PT X a (V3 ta) := by
 intro pins s σ H Q I h
 refine isTrue_plain (thn (ha pins s σ H _ I h) fun v s1 ⟨x, H1, I1, r1, q1⟩ => ?_) (he _)
 obtain ⟨a, xs, e, hx, q⟩ := q1
 exact Y6 pins s1 σ H1 x v Q I1 r1 ⟨_, by subst e; exact .inr (.inr ⟨xs, hx, rfl⟩), q⟩
end
mutual
def Ct : PyData -> Bool
 | .none | .bool _ | .int _ | .str _ => true
 | .list _ => false
 | .tuple ds => Ba ds
 | .dict _ => false
def Ba : List PyData -> Bool
 | [] => true
 | d :: ds => Ct d && Ba ds
end
def KeepU (H H' : Hp) : Prop := ∀ a xs, H a = some (.tup xs) -> H' a = some (.tup xs)
theorem KeepU.refl (H : Hp) : KeepU H H := fun _ _ h => h
theorem KeepU.trans {H H1 H2 : Hp} (a : KeepU H H1) (b : KeepU H1 H2) : KeepU H H2 := fun c xs h => b c xs (a c xs h)
theorem Same.ku {H H' : Hp} (s : Same H H') : KeepU H H' := fun a xs h => s a _ h
theorem j0 {H : Hp} {p : Addr} {o u : HO} (h : H p = some u) (n : ∀ xs, u ≠ .tup xs) : KeepU H (upd H p o) := fun a xs e => by
 rw [A8 (fun z => by rw [z, h] at e; exact n xs (Zzo e))]; exact e
mutual
theorem RD.ku {H H' : Hp} (k : KeepU H H') : ∀ (d : PyData) (v : V), Ct d = true -> RD H d v -> RD H' d v
 | .none, v, _, h => by rw [RD] at h ⊢; exact h
 | .bool b, v, _, h => by rw [RD] at h ⊢; exact h
 | .int i, v, _, h => by rw [RD] at h ⊢; exact h
 | .str x, v, _, h => by rw [RD] at h ⊢; exact h
 | .list ds, v, n, h => by rw [Ct] at n; cases n
 | .tuple ds, v, n, h => by
  rw [Ct] at n
  rw [RD] at h ⊢
  obtain ⟨a, xs, e, ha, r⟩ := h
  exact ⟨a, xs, e, k a xs ha, RDs.ku k ds xs n r⟩
 | .dict _, v, n, h => by rw [Ct] at n; cases n
theorem RDs.ku {H H' : Hp} (k : KeepU H H') : ∀ (ds : List PyData) (xs : List V), Ba ds = true -> RDs H ds xs -> RDs H' ds xs
 | [], xs, _, h => by rw [RDs] at h ⊢; exact h
 | d :: ds, xs, n, h => by
  rw [Ba, Zya] at n
  rw [RDs] at h ⊢
  obtain ⟨x, r, e, h1, h2⟩ := h
  exact ⟨x, r, e, RD.ku k d x n.1 h1, RDs.ku k ds r n.2 h2⟩
end
mutual
theorem RD.same {H H' : Hp} (k : Same H H') : ∀ (d : PyData) (v : V), RD H d v -> RD H' d v
 | .none, v, h => by rw [RD] at h ⊢; exact h
 | .bool b, v, h => by rw [RD] at h ⊢; exact h
 | .int i, v, h => by rw [RD] at h ⊢; exact h
 | .str x, v, h => by rw [RD] at h ⊢; exact h
 | .list ds, v, h => by
  rw [RD] at h ⊢
  obtain ⟨a, xs, e, ha, r⟩ := h
  exact ⟨a, xs, e, k a _ ha, RDs.same k ds xs r⟩
 | .tuple ds, v, h => by
  rw [RD] at h ⊢
  obtain ⟨a, xs, e, ha, r⟩ := h
  exact ⟨a, xs, e, k a _ ha, RDs.same k ds xs r⟩
 | .dict _, v, h => by rw [RD] at h; exact h.elim
theorem RDs.same {H H' : Hp} (k : Same H H') : ∀ (ds : List PyData) (xs : List V), RDs H ds xs -> RDs H' ds xs
 | [], xs, h => by rw [RDs] at h ⊢; exact h
 | d :: ds, xs, h => by
  rw [RDs] at h ⊢
  obtain ⟨x, r, e, h1, h2⟩ := h
  exact ⟨x, r, e, RD.same k d x h1, RDs.same k ds r h2⟩
end
theorem RDs.len {H : Hp} : ∀ {ds : List PyData} {xs : List V}, RDs H ds xs -> xs.length = ds.length
 | [], xs, h => by rw [RDs] at h; rw [h]; rfl
 | d :: ds, xs, h => by
  rw [RDs] at h
  obtain ⟨x, r, e, _, h2⟩ := h
  rw [e, Zxz, Zxz, RDs.len h2]
theorem RDs.get {H : Hp} : ∀ {ds : List PyData} {xs : List V} {i : Nat} {d : PyData}, RDs H ds xs -> ds[i]? = some d -> ∃ x, xs[i]? = some x /\ RD H d x
 | [], xs, i, d, h, e => by cases e
 | d0 :: ds, xs, i, d, h, e => by
  rw [RDs] at h
  obtain ⟨y, r, ey, h1, h2⟩ := h
  rw [ey]
  cases i with
  | zero => cases e; exact ⟨y, rfl, h1⟩
  | succ i =>
   obtain ⟨x, h3, h4⟩ := RDs.get (ds := ds) (xs := r) (i := i) (d := d) h2 (by simpa using e)
   exact ⟨x, by simpa using h3, h4⟩
theorem RDs.get' {H : Hp} : ∀ {ds : List PyData} {xs : List V} {i : Nat} {x : V}, RDs H ds xs -> xs[i]? = some x -> ∃ d, ds[i]? = some d /\ RD H d x
 | [], xs, i, x, h, e => by rw [RDs] at h; rw [h] at e; cases e
 | d :: ds, xs, i, x, h, e => by
  rw [RDs] at h
  obtain ⟨y, r, ey, h1, h2⟩ := h
  rw [ey] at e
  cases i with
  | zero => cases e; exact ⟨d, rfl, h1⟩
  | succ i => exact RDs.get' (ds := ds) (xs := r) (i := i) h2 (by simpa using e)
theorem RDs.app {H : Hp} : ∀ {ds es : List PyData} {xs ys : List V}, RDs H ds xs -> RDs H es ys -> RDs H (ds ++ es) (xs ++ ys)
 | [], es, xs, ys, h, h' => by rw [RDs] at h; rw [h]; exact h'
 | d :: ds, es, xs, ys, h, h' => by
  rw [RDs] at h
  obtain ⟨x, r, e, h1, h2⟩ := h
  rw [e, Zxt, Zxt, RDs]
  exact ⟨x, _, rfl, h1, RDs.app h2 h'⟩
theorem RDs.one {H : Hp} {d : PyData} {x : V} (h : RD H d x) : RDs H [d] [x] := by
 rw [RDs]
 refine ⟨x, _, rfl, h, ?_⟩
 rw [RDs]
theorem RDs.nil {H : Hp} : RDs H [] [] := by rw [RDs]
theorem RDs.cons {H : Hp} {d : PyData} {x : V} {ds : List PyData} {xs : List V} (h : RD H d x) (t : RDs H ds xs) : RDs H (d :: ds) (x :: xs) := by
 rw [RDs]
 exact ⟨x, _, rfl, h, t⟩
theorem RD.str_mk {H : Hp} {x : Str} : RD H (.str x) (.str x) := by rw [RD]
theorem RD.int_mk {H : Hp} {i : Int} : RD H (.int i) (.int i) := by rw [RD]
theorem RD.tup_mk {H : Hp} {a : Addr} {xs : List V} {ds : List PyData} (h : H a = some (.tup xs)) (r : RDs H ds xs) : RD H (.tuple ds) (.ref a) := by
 rw [RD]
 exact ⟨a, xs, rfl, h, r⟩
theorem RD.tup_of {H : Hp} {v : V} {ds : List PyData} (h : RD H (.tuple ds) v) : ∃ a xs, v = .ref a /\ H a = some (.tup xs) /\ RDs H ds xs := by rw [RD] at h; exact h
theorem RD.str_of {H : Hp} {v : V} {x : Str} (h : RD H (.str x) v) : v = .str x := by rw [RD] at h; exact h
theorem RD.int_of {H : Hp} {v : V} {x : Int} (h : RD H (.int x) v) : v = .int x := by rw [RD] at h; exact h
theorem RDs.nil_of {H : Hp} {xs : List V} (h : RDs H [] xs) : xs = [] := by rw [RDs] at h; exact h
theorem RDs.cons_of {H : Hp} {d : PyData} {ds : List PyData} {xs : List V} (h : RDs H (d :: ds) xs) : ∃ x r, xs = x :: r /\ RD H d x /\ RDs H ds r := by rw [RDs] at h; exact h
end L2
namespace NP
open PySem L2
structure Wr where
 name : Str
 lag : Int
 gives : Int
 floor : Int
 stock : Int
 coming : List (Int × Int)
 parts : List (Str × Int)
def Ou (p : Int × Int) : PyData := .tuple [.int p.1, .int p.2]
def G9 (p : Str × Int) : PyData := .tuple [.str p.1, .int p.2]
def Wr.d (w : Wr) : PyData := .tuple [.str w.name, .int w.lag, .int w.gives, .int w.floor, .int w.stock, .tuple (w.coming.map Ou), .tuple (w.parts.map G9)]
abbrev Wt := Str × Int × Int
def Gy (p : Wt) : PyData := .tuple [.str p.1, .int p.2.1, .int p.2.2]
structure Sh where
 wares : List Wr
 wants : List Wt
def Sh.d (S : Sh) : PyData := .tuple [.tuple (S.wares.map Wr.d), .tuple (S.wants.map Gy)]
theorem Bo {α : Type} (f : α -> PyData) (h : ∀ x, Ct (f x) = true) : ∀ xs : List α, Ba (xs.map f) = true
 | [] => by rw [Zxj, Ba]
 | x :: r => by rw [Zz3, Ba, h x, Bo f h r]; rfl
theorem U9 (p : Int × Int) : Ct (Ou p) = true := by unfold Ou; simp only [Ct, Ba, Zxo]
theorem Ku (p : Str × Int) : Ct (G9 p) = true := by unfold G9; simp only [Ct, Ba, Zxo]
theorem Ms (p : Wt) : Ct (Gy p) = true := by unfold Gy; simp only [Ct, Ba, Zxo]
theorem Ga (w : Wr) : Ct w.d = true := by
 unfold Wr.d
 simp only [Ct, Ba, Bo Ou U9, Bo G9 Ku, Zxo]
theorem Ce (S : Sh) : Ct S.d = true := by
 unfold Sh.d
 simp only [Ct, Ba, Bo Wr.d Ga, Bo Gy Ms, Zxo]
theorem B5 {H : Hp} {w : Wr} {v : V} (h : RD H w.d v) : ∃ (a : Addr) (c p : V), v = .ref a /\ H a = some (.tup [.str w.name, .int w.lag, .int w.gives, .int w.floor, .int w.stock, c, p]) /\ RD H (.tuple (w.coming.map Ou)) c /\ RD H (.tuple (w.parts.map G9)) p := by
 unfold Wr.d at h
 obtain ⟨a, xs, rfl, ha, r⟩ := RD.tup_of h
 obtain ⟨x1, r1, rfl, h1, r⟩ := RDs.cons_of r
 obtain ⟨x2, r2, rfl, h2, r⟩ := RDs.cons_of r
 obtain ⟨x3, r3, rfl, h3, r⟩ := RDs.cons_of r
 obtain ⟨x4, r4, rfl, h4, r⟩ := RDs.cons_of r
 obtain ⟨x5, r5, rfl, h5, r⟩ := RDs.cons_of r
 obtain ⟨x6, r6, rfl, h6, r⟩ := RDs.cons_of r
 obtain ⟨x7, r7, rfl, h7, r⟩ := RDs.cons_of r
 have := RDs.nil_of r
 subst this
 rw [RD.str_of h1, RD.int_of h2, RD.int_of h3, RD.int_of h4, RD.int_of h5] at ha
 exact ⟨a, x6, x7, rfl, ha, h6, h7⟩
theorem Cd {H : Hp} {S : Sh} {v : V} (h : RD H S.d v) : ∃ (a b c : Addr) (ws us : List V), v = .ref a /\ H a = some (.tup [.ref b, .ref c]) /\ H b = some (.tup ws) /\ H c = some (.tup us) /\ RDs H (S.wares.map Wr.d) ws /\ RDs H (S.wants.map Gy) us := by
 unfold Sh.d at h
 obtain ⟨a, xs, rfl, ha, r⟩ := RD.tup_of h
 obtain ⟨x1, r1, rfl, h1, r⟩ := RDs.cons_of r
 obtain ⟨x2, r2, rfl, h2, r⟩ := RDs.cons_of r
 have := RDs.nil_of r
 subst this
 obtain ⟨b, ws, rfl, hb, rb⟩ := RD.tup_of h1
 obtain ⟨c, us, rfl, hc, rc⟩ := RD.tup_of h2
 exact ⟨a, b, c, ws, us, rfl, ha, hb, hc, rb, rc⟩
theorem Kg {H : Hp} {p : Wt} {v : V} (h : RD H (Gy p) v) : ∃ a : Addr, v = .ref a /\ H a = some (.tup [.str p.1, .int p.2.1, .int p.2.2]) := by
 unfold Gy at h
 obtain ⟨a, xs, rfl, ha, r⟩ := RD.tup_of h
 obtain ⟨x1, r1, rfl, h1, r⟩ := RDs.cons_of r
 obtain ⟨x2, r2, rfl, h2, r⟩ := RDs.cons_of r
 obtain ⟨x3, r3, rfl, h3, r⟩ := RDs.cons_of r
 have := RDs.nil_of r
 subst this
 rw [RD.str_of h1, RD.int_of h2, RD.int_of h3] at ha
 exact ⟨a, rfl, ha⟩
theorem Kt {H : Hp} {p : Str × Int} {v : V} (h : RD H (G9 p) v) : ∃ a : Addr, v = .ref a /\ H a = some (.tup [.str p.1, .int p.2]) := by
 unfold G9 at h
 obtain ⟨a, xs, rfl, ha, r⟩ := RD.tup_of h
 obtain ⟨x1, r1, rfl, h1, r⟩ := RDs.cons_of r
 obtain ⟨x2, r2, rfl, h2, r⟩ := RDs.cons_of r
 have := RDs.nil_of r
 subst this
 rw [RD.str_of h1, RD.int_of h2] at ha
 exact ⟨a, rfl, ha⟩
theorem Uu {H : Hp} {p : Int × Int} {v : V} (h : RD H (Ou p) v) : ∃ a : Addr, v = .ref a /\ H a = some (.tup [.int p.1, .int p.2]) := by
 unfold Ou at h
 obtain ⟨a, xs, rfl, ha, r⟩ := RD.tup_of h
 obtain ⟨x1, r1, rfl, h1, r⟩ := RDs.cons_of r
 obtain ⟨x2, r2, rfl, h2, r⟩ := RDs.cons_of r
 have := RDs.nil_of r
 subst this
 rw [RD.int_of h1, RD.int_of h2] at ha
 exact ⟨a, rfl, ha⟩
theorem Ax {α : Type} {H : Hp} {f : α -> PyData} {xs : List α} {vs : List V} {i : Nat} {v : V} (h : RDs H (xs.map f) vs) (e : vs[i]? = some v) : ∃ x, xs[i]? = some x /\ RD H (f x) v := by
 obtain ⟨d, hd, r⟩ := RDs.get' h e
 rw [Zzx] at hd
 cases ex : xs[i]? with
 | none => rw [ex] at hd; cases hd
 | some x => rw [ex] at hd; cases hd; exact ⟨x, rfl, r⟩
theorem J8 {α : Type} {H : Hp} {f : α -> PyData} {xs : List α} {vs : List V} {i : Nat} {x : α} (h : RDs H (xs.map f) vs) (e : xs[i]? = some x) : ∃ v, vs[i]? = some v /\ RD H (f x) v := RDs.get h (by rw [Zzx, e]; rfl)
theorem Ao {α : Type} {H : Hp} {f : α -> PyData} {xs : List α} {vs : List V} (h : RDs H (xs.map f) vs) : vs.length = xs.length := by have := RDs.len h; rw [Zzz] at this; exact this
abbrev Gr := List (Str × List Str)
def B0 (G : Gr) : List Str := G.map (·.1)
def O0 (ks : List Str) (ps : List Str) : List Str := ps.filter fun x => decide (x ∈ ks)
def Cq (ks : List Str) (e : Str × List Str) : Option (Str × List Str) := if O0 ks e.2 = [] then none else some (e.1, O0 ks e.2)
def Xo (G : Gr) : Gr := G.filterMap (Cq (B0 G))
def Oa : Nat -> Gr -> Gr
 | 0, G => G
 | n + 1, G => Xo (Oa n G)
def G2 (S : Sh) : Gr := S.wares.map fun w => (w.name, w.parts.map (·.1))
theorem keys_filter {ks : List Str} : ∀ {G : Gr}, (B0 (G.filterMap (Cq ks))).Sublist (B0 G)
 | [] => .slnil
 | e :: r => by
  unfold B0
  rw [Zwk]
  cases h : Cq ks e with
  | none => exact .cons _ (keys_filter (G := r))
  | some q =>
   have e1 : q.1 = e.1 := by
    unfold Cq at h
    split at h
    ·cases h
    ·cases h; rfl
   show (q.1 :: B0 (r.filterMap (Cq ks))).Sublist (e.1 :: B0 r)
   rw [e1]
   exact .cons₂ _ (keys_filter (G := r))
theorem Um {G : Gr} (h : (B0 G).Nodup) : (B0 (Xo G)).Nodup := keys_filter.nodup h
theorem O9 {G : Gr} (h : (B0 G).Nodup) : ∀ n, (B0 (Oa n G)).Nodup
 | 0 => h
 | n + 1 => Um (O9 h n)
theorem Zz (G : Gr) : (Xo G).length <= G.length := List.length_filterMap_le _ _
theorem T2 (G : Gr) : ∀ n, (Oa n G).length <= G.length
 | 0 => Zzs _
 | n + 1 => Zyw (Zz _) (T2 G n)
theorem Ob {G : Gr} {e : Str × List Str} (h : e ∈ Xo G) : ∃ ps, (e.1, ps) ∈ G /\ (∀ x ∈ e.2, x ∈ ps /\ x ∈ B0 G) /\ e.2 ≠ [] /\ e.2.length <= ps.length := by
 unfold Xo at h
 obtain ⟨q, hq, hc⟩ := Zww.mp h
 unfold Cq at hc
 split at hc
 ·cases hc
 ·rename_i hn
  cases hc
  refine ⟨q.2, hq, fun x hx => ?_, hn, Zxw _ _⟩
  have := Zyg.mp hx
  exact ⟨this.1, of_decide_eq_true this.2⟩
theorem Iv {G : Gr} : ∀ (n : Nat) {e : Str × List Str}, e ∈ Oa n G -> ∃ ps, (e.1, ps) ∈ G /\ (∀ x ∈ e.2, x ∈ ps) /\ e.2.length <= ps.length
 | 0, e, h => ⟨e.2, h, fun x hx => hx, Zzs _⟩
 | n + 1, e, h => by
  obtain ⟨ps, h1, h2, _, h3⟩ := Ob h
  obtain ⟨qs, q1, q2, q3⟩ := Iv n h1
  exact ⟨qs, q1, fun x hx => q2 x (h2 x hx).1, by have h3' : e.2.length <= ps.length := h3; have q3' : ps.length <= qs.length := q3; omega⟩
def Low (G : Gr) (r : Str -> Nat) : Prop := ∀ e ∈ G, ∀ x ∈ e.2, r x < r e.1
theorem Vn {G : Gr} {r : Str -> Nat} (h : Low G r) : ∀ (n : Nat) (e : Str × List Str), e ∈ Oa n G -> n <= r e.1
 | 0, e, _ => Zyr _
 | n + 1, e, he => by
  obtain ⟨ps, h1, h2, h3, _⟩ := Ob he
  obtain ⟨qs, q1, q2, _⟩ := Iv n h1
  cases hx : e.2 with
  | nil => exact absurd hx h3
  | cons x t =>
   have hm : x ∈ e.2 := by rw [hx]; exact Zz2
   obtain ⟨m1, m2⟩ := h2 x hm
   obtain ⟨y, hy, ey⟩ := Zzr.mp m2
   have lo := Vn h n y hy
   have lt := h _ q1 x (q2 x m1)
   rw [ey] at lo
   have lt : r x < r e.1 := lt
   omega
theorem T1 {G : Gr} {r : Str -> Nat} {n : Nat} (h : Low G r) (hr : ∀ e ∈ G, r e.1 < n) : Oa n G = [] := by
 cases hc : Oa n G with
 | nil => rfl
 | cons e t =>
  have he : e ∈ Oa n G := by rw [hc]; exact Zz2
  have h1 := Vn h n e he
  obtain ⟨ps, h2, _⟩ := Iv n he
  have h3 := hr _ h2
  have h3 : r e.1 < n := h3
  omega
def PDk (H : Hp) (kvs : List (Key × V)) (G : Gr) : Prop := Paired (fun (e : Str × List Str) (kv : Key × V) => kv.1 = .inr e.1 /\ ∃ l, kv.2 = .ref l /\ H l = some (.lst (e.2.map V.str))) G kvs
theorem PDk.mono {H H' : Hp} {kvs : List (Key × V)} {G : Gr} (h : PDk H kvs G) (k : ∀ l xs, H l = some (.lst xs) -> H' l = some (.lst xs)) : PDk H' kvs G :=
 Paired.mapP h fun e kv ⟨h1, l, h2, h3⟩ => ⟨h1, l, h2, k l _ h3⟩
theorem PDk.keys : ∀ {H : Hp} {kvs : List (Key × V)} {G : Gr}, PDk H kvs G -> kvs.map (·.1) = (B0 G).map Zxx
 | _, _, _, .nil => rfl
 | _, _, _, .cons r t => by
  unfold B0
  rw [Zz3, Zz3, Zz3, r.1]
  exact congrArg _ (PDk.keys t)
theorem PDk.get : ∀ {H : Hp} {kvs : List (Key × V)} {G : Gr} {i : Nat} {e : Str × List Str}, PDk H kvs G -> G[i]? = some e -> ∃ l, kvs[i]? = some (.inr e.1, .ref l) /\ H l = some (.lst (e.2.map V.str))
 | _, _, _, _, _, .nil, h => by simp at h
 | _, (k, v) :: _, _, 0, e, .cons r _, h => by
  simp at h
  subst h
  obtain ⟨h1, l, h2, h3⟩ := r
  have h1 : k = _ := h1
  have h2 : v = _ := h2
  exact ⟨l, by rw [h1, h2]; rfl, h3⟩
 | _, _ :: _, _, i + 1, e, .cons _ t, h => by
  obtain ⟨l, q⟩ := PDk.get (i := i) (e := e) t (by simpa using h)
  exact ⟨l, by simpa using q.1, q.2⟩
theorem PDk.get' : ∀ {H : Hp} {kvs : List (Key × V)} {G : Gr} {i : Nat} {k : Key} {v : V}, PDk H kvs G -> kvs[i]? = some (k, v) -> ∃ e l, G[i]? = some e /\ k = .inr e.1 /\ v = .ref l /\ H l = some (.lst (e.2.map V.str))
 | _, _, _, _, _, _, .nil, h => by simp at h
 | _, _, e :: _, 0, k, v, .cons r _, h => by
  simp at h
  subst h
  obtain ⟨h1, l, h2, h3⟩ := r
  exact ⟨e, l, rfl, h1, h2, h3⟩
 | _, _, _ :: _, i + 1, k, v, .cons _ t, h => by
  obtain ⟨e, l, q⟩ := PDk.get' (i := i) t (by simpa using h)
  exact ⟨e, l, by simpa using q.1, q.2⟩
theorem Jx {κ : Type} [DecidableEq κ] : ∀ {kvs : List (κ × V)} {i : Nat} {k : κ} {v : V}, (kvs.map (·.1)).Nodup -> kvs[i]? = some (k, v) -> Bq kvs k = some v
 | [], _, _, _, _, h => by simp at h
 | p :: r, 0, k, v, hn, h => by
  simp at h
  subst h
  exact Cf rfl
 | p :: r, i + 1, k, v, hn, h => by
  have h' : r[i]? = some (k, v) := by simpa using h
  have hn' : (p.1 :: r.map (·.1)).Nodup := hn
  obtain ⟨h1, h2⟩ := Zye.mp hn'
  have hm : k ∈ r.map (·.1) := Zzr.mpr ⟨(k, v), Zzt h', rfl⟩
  rw [C7 (fun e => h1 (e ▸ hm))]
  exact Jx h2 h'
theorem Y1 {κ : Type} [DecidableEq κ] (kvs : List (κ × V)) (k : κ) : (Bq kvs k).isSome = decide (k ∈ kvs.map (·.1)) := by
 rw [<- Er]
 induction kvs with
 | nil => rfl
 | cons p r ih =>
  rw [Zwx, ih, Zz3]
  by_cases h : p.1 = k
  ·subst h; simp
  ·have h' : ¬ k = p.1 := fun e => h e.symm
   simp [h, h']
theorem Xh {xs : List Str} (h : xs.Nodup) : (xs.map (Zxx : Str -> Key)).Nodup := by
 induction xs with
 | nil => exact List.nodup_nil
 | cons x r ih =>
  obtain ⟨h1, h2⟩ := Zye.mp h
  rw [Zz3]
  refine Zye.mpr ⟨fun m => ?_, ih h2⟩
  obtain ⟨y, hy, e⟩ := Zzr.mp m
  cases e
  exact h1 hy
theorem PDk.has {H : Hp} {kvs : List (Key × V)} {G : Gr} (h : PDk H kvs G) (x : Str) : (Bq kvs (.inr x)).isSome = decide (x ∈ B0 G) := by
 rw [Y1, h.keys]
 congr 1
 apply propext
 constructor
 ·intro m
  obtain ⟨y, hy, e⟩ := Zzr.mp m
  cases e
  exact hy
 ·exact fun m => Zzr.mpr ⟨x, m, rfl⟩
theorem Nl {α β : Type} {F : α -> β -> Prop} : ∀ {a c : List α} {b d : List β}, Paired F a b -> Paired F c d -> Paired F (a ++ c) (b ++ d)
 | _, _, _, _, .nil, s => s
 | _, _, _, _, .cons r t, s => .cons r (Nl t s)
theorem PDk.snoc {H : Hp} {kvs : List (Key × V)} {G : Gr} {n : Str} {l : Addr} {ps : List Str} (h : PDk H kvs G) (hn : n ∉ B0 G) (hl : H l = some (.lst (ps.map V.str))) : PDk H (Ey kvs (.inr n) (.ref l)) (G ++ [(n, ps)]) := by
 have hv : Bq kvs (.inr n) = none := by
  have := h.has n
  rw [decide_eq_false hn] at this
  cases e : Bq kvs (.inr n) with
  | none => rfl
  | some v => rw [e] at this; cases this
 rw [Ko _ hv]
 exact Nl h (.cons ⟨rfl, l, rfl, hl⟩ .nil)
theorem PDk.len {H : Hp} {kvs : List (Key × V)} {G : Gr} (h : PDk H kvs G) : kvs.length = G.length := (Paired.length h).symm
end NP
namespace L2
open PySem PySem.Spec PyProof.Rows
section
variable {prog : Program} {w : World} {A : Around} {E : Value -> Shared -> Prop} {s : Shared}
end
section
variable {X : Cx}
def Yc (te : TE) : TE := fun σ H Q => te σ H fun x H1 => ∃ a xs, x = .ref a /\ H1 a = some (.lst xs) /\ ∀ p, H1 p = none -> Q (.ref p) (upd H1 p (.lst xs.reverse))
end
theorem Pd {K : Zzv} : Xx 2 (Uj K 2 (Fg (D6 0) (Fg (D6 1) gNil))) := fun v σ H Q h => by
 obtain ⟨a, xs, e, hq, hl, v1, r1, e1, v2, r2, e2, e3, q⟩ := h
 exact ⟨a, xs, e, hq, hl, v1, r1, e1, v2, r2, e2, e3, ⟨⟨by simp, fun j hj => by rw [Zy9 (by omega), Zy9 (by omega)]⟩, q⟩⟩
theorem Xk {K : Zzv} : Xx 3 (Uj K 3 (Fg (D6 0) (Fg (D6 1) (Fg (D6 2) gNil)))) := fun v σ H Q h => by
 obtain ⟨a, xs, e, hq, hl, v1, r1, e1, v2, r2, e2, v3, r3, e3, e4, q⟩ := h
 exact ⟨a, xs, e, hq, hl, v1, r1, e1, v2, r2, e2, v3, r3, e3, e4, ⟨⟨by simp, fun j hj => by rw [Zy9 (by omega), Zy9 (by omega), Zy9 (by omega)]⟩, q⟩⟩
theorem gt3 {K : Zzv} {i j k : Nat} {p : Addr} {x y z : V} {σ : St} {H : Hp} {Q : St -> Hp -> Prop} (e : H p = some (.tup [x, y, z])) (h : Q (((σ.set i (some x)).set j (some y)).set k (some z)) H) :
  Uj K 3 (Fg (D6 i) (Fg (D6 j) (Fg (D6 k) gNil))) (.ref p) σ H Q := ⟨p, _, rfl, SqT.of e, rfl, _, _, rfl, _, _, rfl, _, _, rfl, rfl, h⟩
theorem jj {J : It} {n : Nat} {yl : Nat -> List V -> Prop} {ok : Hp -> Prop} {own : List Str} {cap : List Nat} {g : TG} {tt : TT} {te : TE} {σ : St} {H : Hp} {Q : VK} (G : Pq J n yl ok) (hn : n <= sizeLine) (Pv : Nat -> List V -> Hp -> Prop) (h0 : Pv 0 [] H) (hok : ∀ i acc H, i <= n -> Pv i acc H -> ok H)
  (hlen : ∀ i acc H, Pv i acc H -> acc.length <= i)
  (hs : ∀ i ys p acc H, i < n -> yl i ys -> Pv i acc H -> H p = none -> g (.ref p) (J4 own cap σ) (upd H p (.tup ys)) fun σ2 H2 => tt σ2 H2 fun b H3 => if b = true then te σ2 H3 fun y H4 => Pv (i + 1) (acc ++ [y]) H4 else Pv (i + 1) acc H3)
  (hd : ∀ acc H, Pv n acc H -> ∀ p, H p = none -> Q (.ref p) (upd H p (.lst acc))) : NP.Wa J own cap g tt te σ H Q := by
 refine ⟨fun i m acc H => m = n - i /\ i <= n /\ Pv i acc H, ⟨n, by simp, Zyr _, h0⟩, ?_⟩
 rintro i m acc H ⟨rfl, hi, p⟩
 have q := hok i acc H hi p
 have hl := hlen i acc H p
 refine ⟨by omega, ?_⟩
 by_cases hlt : i < n
 ·refine .inr ⟨G.go i H hlt q, by omega, Pv (i + 1), fun acc' H' p' => ⟨n - (i + 1), by omega, rfl, hlt, p'⟩, fun x H' y => ?_⟩
  obtain ⟨a, ys, e1, e2, e3, y'⟩ := G.yld i H x H' hlt q y
  subst e1 e3
  exact hs i ys a acc H hlt y' p e2
 ·have e : i = n := by omega
  subst e
  exact .inl ⟨G.stop H q, hd acc H p⟩
theorem Gx {J : It} {n : Nat} {yl : Nat -> V -> Prop} {ok : Hp -> Prop} {own : List Str} {cap : List Nat} {g : TG} {tt : TT} {te : TE} {σ : St} {H : Hp} {Q : VK} (G : Ov J n yl ok) (hn : n <= sizeLine) (Pv : Nat -> List V -> Hp -> Prop) (h0 : Pv 0 [] H) (hok : ∀ i acc H, i <= n -> Pv i acc H -> ok H)
  (hlen : ∀ i acc H, Pv i acc H -> acc.length <= i)
  (hs : ∀ i x acc H, i < n -> yl i x -> Pv i acc H -> g x (J4 own cap σ) H fun σ2 H2 => tt σ2 H2 fun b H3 => if b = true then te σ2 H3 fun y H4 => Pv (i + 1) (acc ++ [y]) H4 else Pv (i + 1) acc H3)
  (hd : ∀ acc H, Pv n acc H -> ∀ p, H p = none -> Q (.ref p) (upd H p (.lst acc))) : NP.Wa J own cap g tt te σ H Q := Pk G hn Pv h0 hok hlen hs hd
def Kd (ns : Nat -> Int) : Nat -> Int
 | 0 => ns 0
 | k + 1 => if ns (k + 1) > Kd ns k then ns (k + 1) else Kd ns k
section
variable {prog : Program} {w : World} {A : Around} {R : Result -> Shared -> Prop} {I : Addr} {fp wr : List Addr} {n : Nat} {P : Nat -> Value -> Prop} {St : Nat -> Heap -> Prop}
theorem fe {a b : Int} {t u : Tok} {Q : Value -> Shared -> Prop} {E : Value -> Shared -> Prop} {s : Shared} (h : Q (.bool (decide (b < a))) s) : wpAny (model prog w) A (richCompare .Gt (.int a t) (.int b u)) Q E s := show wpAny _ _ (compareOp .Gt _ _) _ _ _ from gt_int h
theorem X5 (kw : List (Str × Value)) (W : Walks prog w A.in1 I fp wr n P St) (ns : Nat -> Int) (hv : ∀ i v, P i v -> ∃ t, v = .int (ns i) t) (S : Addr) (hSf : S ∉ fp) :
  ∀ (k j : Nat) (s : Shared) (t : Tok) (c : Nat), n - (j + 1) = k -> j + 1 <= n -> St (j + 1) s.heap -> s.heap.get? S = some { cls := .type "list", dict := none, data := .seq #[.int (Kd ns j) t, .int (Kd ns j) t] c, slots := #[] } ->
  (∀ t' h' tk, (∀ b o, b ∉ wr -> b ≠ S -> s.heap.get? b = some o -> h'.get? b = some o) -> R (.ok (.ret (.int (Kd ns (n - 1)) t'))) { s with heap := h', toks := tk }) ->
  codeAny (model prog w) A (.builtin "max.loop" ⟨[.ref I, .none, .ref S], kw⟩) R s := by
 have nSw : S ∉ wr := fun h => hSf (W.sub _ h)
 have nm : (toString "max" ++ toString ".loop" : String) = "max.loop" := by decide
 intro k
 induction k with
 | zero =>
  intro j s t c hk hj hst hS hR
  have hin : j + 1 = n := by omega
  refine codeAny_builtin F.entry_max_loop ?_
  rw [Zwn F.plain_max_loop _]
  refine wpAny_bind (m := seqItems? (.ref S)) (wpAny_seqItems hS rfl (wpAny_bind (m := tryCatch (pyNext (.ref I)) _) (wpAny_tryCatch (W.done s _ _ (hin ▸ hst) fun h' tk hk' => ?_))))
  refine wpAny_bind (m := updateSeq S (fun _ => #[])) (wpAny_updateSeq (hk' S _ nSw hS) rfl (wpAny_bind (wpAny_letGo (wpAny_pure ?_))))
  have e : n - 1 = j := by omega
  rw [e] at hR
  exact hR t _ tk fun b o n1 n2 q => (Zy0 _ _ (Zzc n2)).trans (hk' b o n1 q)
 | succ k ih =>
  intro j s t c hk hj hst hS hR
  have hlt : j + 1 < n := by omega
  refine codeAny_builtin F.entry_max_loop ?_
  rw [Zwn F.plain_max_loop _]
  refine wpAny_bind (m := seqItems? (.ref S)) (wpAny_seqItems hS rfl (wpAny_bind (m := tryCatch (pyNext (.ref I)) _) (wpAny_tryCatch (W.item (j + 1) s _ _ hlt hst fun v h' tk hP hst' hk' => ?_))))
  obtain ⟨u, rfl⟩ := hv _ _ hP
  have hS' := hk' S _ nSw hS
  refine wpAny_bind (m := tryCatch (holding _ (richCompare .Gt _ _ >>= _)) _) (wpAny_tryCatch (wpAny_holding (wpAny_bind (fe (wpAny_bind (wpAny_holding (wpAny_truthy_bool (wpAny_bind (wpAny_letGo (wpAny_pure ?_))))))))))
  by_cases hb : Kd ns j < ns (j + 1)
  ·rw [decide_eq_true hb]
   simp only [if_true]
   refine wpAny_bind (wpAny_updateSeq hS' rfl (wpAny_bind (wpAny_letGo ?_)))
   rw [nm]
   have eb : Kd ns (j + 1) = ns (j + 1) := if_pos hb
   refine wpAny_pure ⟨plainId_quiet F.plain_max_loop _, ih (j + 1) _ u _ (by omega) hlt (W.frame _ _ _ hst' fun b hbf o e => ?_) (by rw [eb]; exact Zx3 _ hS' rfl) fun t' h'' tk' hk2 => ?_⟩
   ·exact (Zy0 _ _ (fun h : S = b => hSf (by rw [h]; exact hbf))).trans e
   ·exact hR t' h'' tk' fun b o n1 n2 e => hk2 b o n1 n2 ((Zy0 _ _ (Zzc n2)).trans (hk' b o n1 e))
  ·rw [decide_eq_false hb]
   simp only [Bool.false_eq_true, if_false]
   refine wpAny_bind (wpAny_letGo ?_)
   rw [nm]
   have eb : Kd ns (j + 1) = Kd ns j := if_neg hb
   refine wpAny_pure ⟨plainId_quiet F.plain_max_loop _, ih (j + 1) _ t c (by omega) hlt hst' (by rw [eb]; exact hS') fun t' h'' tk' hk2 => ?_⟩
   exact hR t' h'' tk' fun b o n1 n2 e => hk2 b o n1 n2 (hk' b o n1 e)
theorem Nx (kw : List (Str × Value)) (W : Walks prog w A.in1 I fp wr n P St) (ns : Nat -> Int) (hv : ∀ i v, P i v -> ∃ t, v = .int (ns i) t) (S : Addr) (hSf : S ∉ fp) (hn : 0 < n) {s : Shared} {c : Nat} (hst : St 0 s.heap)
  (hS : s.heap.get? S = some { cls := .type "list", dict := none, data := .seq #[] c, slots := #[] })
  (hR : ∀ t' h' tk, (∀ b o, b ∉ wr -> b ≠ S -> s.heap.get? b = some o -> h'.get? b = some o) -> R (.ok (.ret (.int (Kd ns (n - 1)) t'))) { s with heap := h', toks := tk }) :
  codeAny (model prog w) A (.builtin "max.loop" ⟨[.ref I, .none, .ref S], kw⟩) R s := by
 have nSw : S ∉ wr := fun h => hSf (W.sub _ h)
 have nm : (toString "max" ++ toString ".loop" : String) = "max.loop" := by decide
 refine codeAny_builtin F.entry_max_loop ?_
 rw [Zwn F.plain_max_loop _]
 refine wpAny_bind (m := seqItems? (.ref S)) (wpAny_seqItems hS rfl (wpAny_bind (m := tryCatch (pyNext (.ref I)) _) (wpAny_tryCatch (W.item 0 s _ _ hn hst fun v h' tk hP hst' hk' => ?_))))
 obtain ⟨u, rfl⟩ := hv _ _ hP
 have hS' := hk' S _ nSw hS
 refine wpAny_bind (m := updateSeq S _) (wpAny_updateSeq hS' rfl ?_)
 rw [nm]
 refine wpAny_pure ⟨plainId_quiet F.plain_max_loop _, X5 kw W ns hv S hSf _ 0 _ u _ rfl hn (W.frame _ _ _ hst' fun b hbf o e => ?_) (Zx3 _ hS' rfl) fun t' h'' tk' hk2 => ?_⟩
 ·exact (Zy0 _ _ (fun h : S = b => hSf (by rw [h]; exact hbf))).trans e
 ·exact hR t' h'' tk' fun b o n1 n2 e => hk2 b o n1 n2 ((Zy0 _ _ (Zzc n2)).trans (hk' b o n1 e))
theorem X4 {d : Value} (W : Walks prog w A.in1 I fp wr 0 P St) (S : Addr) (hSf : S ∉ fp) {s : Shared} {c : Nat} (hst : St 0 s.heap)
  (hS : s.heap.get? S = some { cls := .type "list", dict := none, data := .seq #[] c, slots := #[] })
  (hR : ∀ h' tk, (∀ b o, b ∉ wr -> b ≠ S -> s.heap.get? b = some o -> h'.get? b = some o) -> R (.ok (.ret d)) { s with heap := h', toks := tk }) :
  codeAny (model prog w) A (.builtin "max.loop" ⟨[.ref I, .none, .ref S], [("default", d)]⟩) R s := by
 refine codeAny_builtin F.entry_max_loop ?_
 rw [Zwn F.plain_max_loop _]
 refine wpAny_bind (m := seqItems? (.ref S)) (wpAny_seqItems hS rfl (wpAny_bind (m := tryCatch (pyNext (.ref I)) _) (wpAny_tryCatch (W.done s _ _ hst fun h' tk hk' => ?_))))
 exact wpAny_bind (wpAny_rule (wpAny_pure (hR h' tk fun b o n1 _ e => hk' b o n1 e)))
end
def Ny (ns : List Int) : Int := Kd (fun i => (ns[i]?).getD 0) (ns.length - 1)
def Ev (ns : List Int) : Int := if ns = [] then 0 else Ny ns
theorem T7 (f : Nat -> Int) : ∀ k, ∃ i, i <= k /\ Kd f k = f i
 | 0 => ⟨0, Zzs _, rfl⟩
 | k + 1 => by
  rw [Kd]
  split
  ·exact ⟨k + 1, Zzs _, rfl⟩
  ·obtain ⟨i, h1, h2⟩ := T7 f k
   exact ⟨i, by omega, h2⟩
theorem W2 (f : Nat -> Int) : ∀ k i, i <= k -> f i <= Kd f k
 | 0, i, h => by
  have : i = 0 := by omega
  subst this
  exact Zyx _
 | k + 1, i, h => by
  rw [Kd]
  by_cases hi : i = k + 1
  ·subst hi
   split <;> omega
  ·have := W2 f k i (by omega)
   split <;> omega
theorem Kw {ns : List Int} (h : ns ≠ []) : Ny ns ∈ ns := by
 have hl : 0 < ns.length := Zvy.mpr h
 obtain ⟨i, h1, h2⟩ := T7 (fun i => (ns[i]?).getD 0) (ns.length - 1)
 unfold Ny
 rw [h2]
 have hi : i < ns.length := by omega
 simp only [Zzu hi, Option.getD_some]
 exact Zw6 hi
theorem Vm {ns : List Int} {x : Int} (h : x ∈ ns) : x <= Ny ns := by
 obtain ⟨i, hi, e⟩ := Zw2.mp h
 have := W2 (fun i => (ns[i]?).getD 0) (ns.length - 1) i (by omega)
 simp only [Zzu hi, Option.getD_some, e] at this
 exact this
theorem Xw (a d : Value) : argsOk "max" ⟨[a], [(Str.ofString "default", d)]⟩ := by unfold argsOk; kernel_rfl
section
variable {X : Cx}
theorem Za {pins : List (Addr × Obj)} {σ : St} {H : Hp} {s : Shared} {a : Addr} {ns : List Int} {Q : VK} {E : Value -> Shared -> Prop} {kw : List (Str × Value)} (hc : X.calm = true) (I : Inv X pins σ H s) (ha : H a = some (.lst (ns.map V.int))) (hn : ns ≠ []) (q : Q (.int (Ny ns)) H) :
  codeAny (model X.prog X.w) X.A (.builtin "max.loop" ⟨[.ref s.heap.objs.size, .none, .ref (s.heap.objs.size + 1)], kw⟩) (fun r s' => match r with | .ok (.ret v) => EP X pins σ Q v s' | .ok _ => False | .error e => E e s')
   { s with heap := (s.heap.push { cls := .type "list_iterator", data := .fields #[.ref a, .int 0 0] }).push { cls := .type "list", data := .seq #[] } } := by
 obtain ⟨its, rv, hl, hlt⟩ := Ay I ha
 have hlen : its.length = ns.length := by have := rv.length; rw [Zzz] at this; exact this.symm
 have sz : (s.heap.push { cls := .type "list_iterator", data := .fields #[.ref a, .int 0 0] }).objs.size = s.heap.objs.size + 1 := Zy6 ..
 have gI : ((s.heap.push { cls := .type "list_iterator", data := .fields #[.ref a, .int 0 0] }).push { cls := .type "list", data := .seq #[] }).get? s.heap.objs.size = some { cls := .type "list_iterator", data := .fields #[.ref a, .int 0 0] } := Zzy _ (Zzj _ rfl)
 have gS : ((s.heap.push { cls := .type "list_iterator", data := .fields #[.ref a, .int 0 0] }).push { cls := .type "list", data := .seq #[] }).get? (s.heap.objs.size + 1) = some { cls := .type "list", data := .seq #[] } := by
  have := Zzj (s.heap.push { cls := .type "list_iterator", data := .fields #[.ref a, .int 0 0] }) (o := { cls := .type "list", data := .seq #[] }) rfl
  rw [sz] at this
  exact this
 have hpos : 0 < its.toArray.size := by rw [Zzp, hlen]; exact Zvy.mpr hn
 have nS : (s.heap.objs.size + 1 : Addr) ∉ [s.heap.objs.size, a] := by
  simp only [Zzi, Zyz, or_false, not_or]
  exact ⟨Zwo _, Zxf (Zxc hlt)⟩
 refine Nx kw (Walks.list (prog := X.prog) (w := X.w) (A := X.A.in1) (I.ok.hd hc) s.heap.objs.size a (Zys hlt) its.toArray) (fun i => (ns[i]?).getD 0) (fun i v hP => N0 rv (by simpa using hP)) (s.heap.objs.size + 1) nS hpos ⟨⟨_, gI, rfl, rfl⟩, (hl.push _).push _⟩ gS fun t' h' tk hk => ?_
 rw [Zzp, hlen]
 refine ⟨.int (Ny ns), H, I.kept fun b o e => hk b o ?_ ?_ (Zzy _ (Zzy _ e)), ⟨_, rfl⟩, q⟩
 ·simp only [Zzi, Zyz, or_false]
  exact Zys (Zze e)
 ·exact Zys (Zxc (Zze e))
def Yr : List V -> Hp -> VK -> Prop := fun vs H Q => ∃ a ns, vs = [.ref a] /\ H a = some (.lst (ns.map V.int)) /\ ns ≠ [] /\ Q (.int (Ny ns)) H
def V6 (te : TE) : TE := fun σ H Q => te σ H fun x H1 => ∃ a ns, x = .ref a /\ H1 a = some (.lst (ns.map V.int)) /\ Q (.int (Ev ns)) H1
theorem Vh {e : Expr} {te : TE} {p1 p2 p3 kp : Pos} {j} (hc : X.calm = true) (hg : Gl X "max") (hm : X.mg "max" = none) (he : PE X e te) (hn : C2 [e] = true := by rfl) :
  PE X (.Call (.Name "max" p1) [e] [⟨some "default", .Constant (.int 0) j p3, kp⟩] p2) (V6 te) := by
 intro pins s σ H Q I h
 refine wpAny_Call_Name_kw (Fa I hg hm NP.Kc ?_ (by decide) (by decide))
 refine callWith_kw (thn ((A4 he A0 hn) p2 pins s σ H (fun vs H1 => match vs with | [x] => ∃ a ns, x = .ref a /\ H1 a = some (.lst (ns.map V.int)) /\ Q (.int (Ev ns)) H1 | _ => False) I h) fun us s1 ⟨vs, H1, I1, r1, hv⟩ => kws_cons (wpAny_Constant_int (kws_nil ?_))) ?_ ?_ rfl rfl
 ·match vs, hv, r1 with
  | [x], ⟨a, ns, ea, ha, q⟩, r1 =>
  subst ea
  obtain ⟨u, rfl, ru⟩ := Gz r1
  cases ru
  have I2 := I1.tok (s1.toks + 1)
  obtain ⟨its, rv, hl, hlt⟩ := Ay I2 ha
  have nm : (toString "max" ++ toString ".loop" : String) = "max.loop" := by decide
  have sz : (s1.heap.push { cls := .type "list_iterator", data := .fields #[.ref a, .int 0 0] }).objs.size = s1.heap.objs.size + 1 := Zy6 ..
  refine kmk_tree F.kind_max F.plain_max F.entry_max (Xw _ _) ?_
  refine wpAny_bind (m := Zx5 "max" ["key", "default"] 0 ⟨[], [(Str.ofString "default", .int 0 s1.toks)]⟩) (wpAny_of_eq (show Zx5 "max" ["key", "default"] 0 ⟨[], [(Str.ofString "default", .int 0 s1.toks)]⟩ = pure [none, some (.int 0 s1.toks)] from rfl) (wpAny_bind (wpAny_pure (wpAny_bind (wpAny_pyIter_list hl (wpAny_bind (wpAny_newObj_type ?_)))))))
  rw [nm]
  refine wpAny_pure ⟨plainId_quiet F.plain_max_loop _, ?_⟩
  by_cases hz : ns = []
  ·subst hz
   have gI : ((s1.heap.push { cls := .type "list_iterator", data := .fields #[.ref a, .int 0 0] }).push { cls := .type "list", data := .seq #[] }).get? s1.heap.objs.size = some { cls := .type "list_iterator", data := .fields #[.ref a, .int 0 0] } := Zzy _ (Zzj _ rfl)
   have gS : ((s1.heap.push { cls := .type "list_iterator", data := .fields #[.ref a, .int 0 0] }).push { cls := .type "list", data := .seq #[] }).get? (s1.heap.push { cls := .type "list_iterator", data := .fields #[.ref a, .int 0 0] }).objs.size = some { cls := .type "list", data := .seq #[] } := Zzj _ rfl
   have e0 : its = [] := by cases rv; rfl
   subst e0
   have nS : (s1.heap.push { cls := .type "list_iterator", data := .fields #[.ref a, .int 0 0] }).objs.size ∉ [s1.heap.objs.size, a] := by
    rw [sz]
    simp only [Zzi, Zyz, or_false, not_or]
    exact ⟨Zwo _, Zxf (Zxc hlt)⟩
   refine X4 (Walks.list (prog := X.prog) (w := X.w) (A := X.A.in1) (I.ok.hd hc) s1.heap.objs.size a (Zys hlt) ([] : List Value).toArray) _ nS ⟨⟨_, gI, rfl, rfl⟩, (hl.push _).push _⟩ gS fun h' tk hk => ?_
   refine ⟨.int 0, H1, I1.kept fun b o e => hk b o ?_ ?_ (Zzy _ (Zzy _ e)), ⟨_, rfl⟩, q⟩
   ·simp only [Zzi, Zyz, or_false]
    exact Zys (Zze e)
   ·rw [sz]
    exact Zys (Zxc (Zze e))
  ·have q' : Q (.int (Ny ns)) H1 := by unfold Ev at q; rw [if_neg hz] at q; exact q
   have := Za (E := X.xe) (kw := [("default", .int 0 s1.toks)]) hc I2 ha hz q'
   rw [<- sz] at this
   exact this
 ·rw [C8 hn]; rfl
 ·exact Cr hn
end
section
variable {X : Cx}
def rGetL : V -> V -> Hp -> VK -> Prop := fun o i H Q => ∃ p xs k v, o = .ref p /\ i = .int k /\ H p = some (.lst xs) /\ 0 <= k /\ xs[k.toNat]? = some v /\ Q v H
theorem Kz : mj X rGetL := by
 intro pins s σ H o i ov iv Q I ro ri h
 obtain ⟨p, xs, k, v, rfl, rfl, hp, h0, hv, q⟩ := h
 cases ro
 obtain ⟨t, rfl⟩ := ri
 obtain ⟨its, rv, hl, hlt⟩ := Ay I hp
 obtain ⟨u, hu, ru⟩ := rv.get hv
 have hlen := rv.length
 obtain ⟨hz, _⟩ := I.hok p _ hp
 have hk : k.toNat < xs.length := (Zzg.mp hv).1
 have h63 := Je
 exact wpAny_getItem_list hl h0 (by omega) (by simpa using hu) ⟨v, H, I, ru, q⟩
end
end L2
namespace NP
open PySem L2
def B1 (n : Nat) (f : Nat -> Int) : List Int := (Zyy n).map f
theorem At (n : Nat) (f : Nat -> Int) : (B1 n f).length = n := by simp [B1]
theorem Bi {n : Nat} {f : Nat -> Int} {i : Nat} (h : i < n) : (B1 n f)[i]? = some (f i) := by simp [B1, h]
theorem Cp {n : Nat} {f : Nat -> Int} {i : Nat} (h : i < n) : (B1 n f).getD i 0 = f i := by rw [Zzh, Bi h]; rfl
theorem Cs {n : Nat} {f g : Nat -> Int} (h : ∀ i, i < n -> f i = g i) : B1 n f = B1 n g := by
 apply Zxb
 intro i
 by_cases hi : i < n
 ·rw [Bi hi, Bi hi, h i hi]
 ·rw [Zyp (by rw [At]; omega), Zyp (by rw [At]; omega)]
theorem Lh {n : Nat} {f : Nat -> Int} {j : Nat} {v : Int} : (B1 n f).set j v = B1 n fun d => if d = j then v else f d := by
 apply Zxb
 intro i
 by_cases hi : i < n
 ·rw [Bi hi]
  by_cases hj : j = i
  ·subst hj
   rw [Zx8 (by rw [At]; exact hi), if_pos rfl]
  ·rw [Zy9 hj, Bi hi, if_neg (fun e => hj e.symm)]
 ·rw [Zyp (by rw [Zx2, At]; omega), Zyp (by rw [At]; omega)]
theorem K0 (n : Nat) (f : Nat -> Int) : B1 (n + 1) f = B1 n f ++ [f n] := by
 unfold B1
 rw [Zyd, Zzf]
 rfl
theorem Nf (k : Nat) : (Zym k [V.int 0]).flatten = (B1 k fun _ => 0).map V.int := by
 induction k with
 | zero => rfl
 | succ k ih =>
  rw [List.replicate_succ', List.flatten_append, ih, K0, Zzf]
  rfl
def Bz {α : Type} (f : α -> Int) (xs : List α) : Int := (xs.map f).sum
theorem Ki {α : Type} (f : α -> Int) : Bz f [] = 0 := rfl
theorem Yg {α : Type} (f : α -> Int) (xs ys : List α) : Bz f (xs ++ ys) = Bz f xs + Bz f ys := by unfold Bz; rw [Zzf, List.sum_append]
theorem Yf {α : Type} (f : α -> Int) (x : α) : Bz f [x] = f x := by simp [Bz]
theorem Hb {α : Type} (f : α -> Int) (x : α) (xs : List α) : Bz f (x :: xs) = f x + Bz f xs := by simp [Bz]
theorem Ec {α : Type} (f : α -> Int) {xs : List α} {i : Nat} {x : α} (h : xs[i]? = some x) : Bz f (xs.take (i + 1)) = Bz f (xs.take i) + f x := by
 rw [Zz5, h, Yg]
 rw [show (some x).toList = [x] from rfl, Yf]
theorem Ld {α : Type} {f : α -> Int} {xs : List α} (h : ∀ x ∈ xs, f x = 0) : Bz f xs = 0 := by
 induction xs with
 | nil => rfl
 | cons x r ih => rw [Hb, h x Zz2, ih fun y hy => h y (Zz6 _ hy)]; rfl
theorem Hs {α : Type} {f g : α -> Int} {xs : List α} (h : ∀ x ∈ xs, f x = g x) : Bz f xs = Bz g xs := by
 induction xs with
 | nil => rfl
 | cons x r ih => rw [Hb, Hb, h x Zz2, ih fun y hy => h y (Zz6 _ hy)]
def daysN (S : Sh) : Nat := (1 + Ev (S.wants.map fun u => u.2.1)).toNat
theorem Mt {ns : List Int} (h : ∀ x ∈ ns, 0 <= x) : 0 <= Ev ns := by
 unfold Ev
 split
 ·exact Zyx _
 ·rename_i hn
  exact h _ (Kw hn)
theorem Qv {ns : List Int} {x : Int} (h : x ∈ ns) : x <= Ev ns := by
 unfold Ev
 rw [if_neg (List.ne_nil_of_mem h)]
 exact Vm h
theorem Qu {ns : List Int} {b : Int} (hb : 0 < b) (h : ∀ x ∈ ns, x < b) : Ev ns < b := by
 unfold Ev
 split
 ·exact hb
 ·rename_i hn
  exact h _ (Kw hn)
def wAt (nm : Str) (d : Nat) (u : Wt) : Int := if u.1 = nm /\ u.2.1 = (d : Int) then u.2.2 else 0
def cAt (d : Nat) (p : Int × Int) : Int := if p.1 = (d : Int) then p.2 else 0
def bAt (lots : List Int) (lag : Int) (d : Nat) : Int := if d + lag.toNat < lots.length then lots.getD (d + lag.toNat) 0 else 0
def Az (lots : List Int) (lag : Int) : List Int := B1 lots.length (bAt lots lag)
theorem ai (lots : List Int) (lag : Int) : lots.drop lag.toNat ++ B1 (min lag.toNat lots.length) (fun _ => 0) = Az lots lag := by
 unfold Az bAt
 apply Zxb
 intro i
 by_cases hi : i < lots.length
 ·rw [Bi hi]
  by_cases h : i + lag.toNat < lots.length
  ·rw [if_pos h, Zxy (by rw [Zxq]; omega), List.getElem?_drop, Nat.add_comm lag.toNat i, Zzu h, Zzh, Zzu h]
   rfl
  ·rw [if_neg h, Zyb (by rw [Zxq]; omega), Zxq, Bi (by omega)]
 ·rw [Zyp (by rw [Zzm, Zxq, At]; omega), Zyp (by rw [At]; omega)]
def pAt (plan : Str -> List Int) (nm : Str) (d : Nat) (w : Wr) : Int := Bz (fun p : Str × Int => if p.1 = nm then p.2 * bAt (plan w.name) w.lag d else 0) w.parts
def Cm (S : Sh) (plan : Str -> List Int) (nm : Str) (d : Nat) : Int := Bz (wAt nm d) S.wants + Bz (pAt plan nm d) S.wares
def Bb (S : Sh) (plan : Str -> List Int) (nm : Str) : List Int := B1 (daysN S) (Cm S plan nm)
def Co (w : Wr) (d : Nat) : Int := (if d = 0 then w.stock else 0) + Bz (cAt d) w.coming
def ft (S : Sh) (plan : Str -> List Int) (w : Wr) (d : Nat) : Int := Co w d + w.gives * (plan w.name).getD d 0 - Cm S plan w.name d
def upS (f : Nat -> Int) : Nat -> Int
 | 0 => 0
 | d + 1 => upS f d + f d
def Et (S : Sh) (plan : Str -> List Int) (w : Wr) : List Int := B1 (daysN S) fun d => upS (ft S plan w) (d + 1)
end NP
namespace L2
open PySem PySem.Spec PyProof.Rows
def ItI (a : Addr) (o : Obj) (kvs : List (Key × V)) : It := ⟨fun i H => H a = some (.frz o (.dK kvs)) /\ i < kvs.length, fun i H x H' => ∃ p k v, x = .ref p /\ H p = none /\ kvs[i]? = some (k, v) /\ H' = upd H p (.tup [kV k, v]), fun i H => H a = some (.frz o (.dK kvs)) /\ kvs.length <= i⟩
theorem gp {κ : Type} : ∀ {kvs : List (κ × V)} {vs : List (κ × Value)} {i : Nat} {k : κ} {v : V}, KV kvs vs -> kvs[i]? = some (k, v) -> ∃ u, vs[i]? = some (k, u) /\ RelV v u
 | _, _, _, _, _, .nil, e => by simp at e
 | _, (k', u') :: _, 0, k, v, .cons r _, e => by
  simp at e
  subst e
  exact ⟨u', by simp; exact r.1.symm, r.2⟩
 | _, _ :: _, i + 1, k, v, .cons _ t, e => by
  obtain ⟨u, h, q⟩ := gp (i := i) t (by simpa using e)
  exact ⟨u, by simpa using h, q⟩
section
variable {X : Cx}
def j9 (te : TE) : TI := fun σ H R => te σ H fun x H1 => ∃ a kvs, x = .ref a /\ H1 a = some (.dK kvs) /\ ∀ o, R (ItI a o kvs) (upd H1 a (.frz o (.dK kvs)))
def W7 (H : Hp) (ka kb : List (Key × V)) : Prop := ∀ p ∈ ka, ∃ y d e, Bq kb p.1 = some y /\ RD H d p.2 /\ RD H e y /\ okD d = true /\ okD e = true /\ PyData.eqv d e = true
def ie : R2 := fun x y H Q => ∃ a b ka kb, x = .ref a /\ y = .ref b /\ Rd H a (.dK ka) /\ Rd H b (.dK kb) /\ ka.length = kb.length /\ W7 H ka kb /\ Q (.bl true) H
def rNeK : R2 := fun x y H Q => ∃ a b ka kb, x = .ref a /\ y = .ref b /\ Rd H a (.dK ka) /\ Rd H b (.dK kb) /\ ka.length = kb.length /\ W7 H ka kb /\ Q (.bl false) H
theorem P8 {A : Around} {s : Shared} {P : Program} {w : World} {H : Hp} (ok : HOk P w H s.heap) (hu : A.units + 64 < cLine) {kb : List (Key × V)} {vb : List (Key × Value)} (rb : KV kb vb) : ∀ {ka : List (Key × V)} {va : List (Key × Value)}, KV ka va -> W7 H ka kb -> PySem.W.KeqHits A s vb va true
 | _, _, .nil, _ => .nil
 | (k, v) :: ka, (k', v') :: va, .cons r t, h => by
  obtain ⟨y, d, e, hy, rd, re, od, oe, q⟩ := h (k, v) Zz2
  obtain ⟨ek, rv⟩ := r
  have ek : k = k' := ek
  subst ek
  have hval := rb.val k
  rw [hy] at hval
  cases hx : valueAt vb k with
  | none => rw [hx] at hval; exact hval.elim
  | some u =>
   rw [hx] at hval
   obtain ⟨as, r1⟩ := RD.reads ok d v v' rd rv
   obtain ⟨bs, r2⟩ := RD.reads ok e y u re hval
   have E := SeqAt.eqAt_reads d e A s v' u as bs r1 r2 (Zxd.mp od).1 (Zxd.mp oe).1 (Sb od hu)
   rw [q] at E
   exact PySem.W.KeqHits.hit (e := true) (b := true) hx E (P8 ok hu rb t fun p hp => h p (Zz6 _ hp))
theorem ip (hu : X.A.units + 70 < cLine) : OpR X (compareOp .NotEq) rNeK := by
 intro pins s σ H x y v u Q I rx ry h
 obtain ⟨a, b, ka, kb, rfl, rfl, ha, hb, hl, lk, q⟩ := h
 cases rx
 cases ry
 obtain ⟨za, na, va, ra, da⟩ := Mf I.hok ha
 obtain ⟨zb, nb, vb, rb, db⟩ := Mf I.hok hb
 have l2 : va.length = vb.length := by rw [<- ra.length, <- rb.length]; exact hl
 refine PySem.W.keq_ne (r := true) na nb da db (by omega) (fun _ => P8 I.hok (by show X.A.units + 1 + 64 < cLine; omega) rb ra lk) ?_
 rw [l2]
 simp only [BEq.rfl, Bool.and_self, Bool.not_true]
 exact ⟨.bl false, H, I, rfl, q⟩
end
theorem fc {A : Around} {k : Nat} (hr : Room k A) : A.units + 70 < cLine := by
 have := hr.un
 omega
end L2
namespace L2
open PySem PySem.Spec PyProof.Rows PySem.W NP
def Dj (n : Nat) (key : Nat -> Int) {α : Type} : KasT α -> (α -> Prop) -> Prop
 | .ret a, Q => Q a
 | .ask i j k, Q => i < n /\ j < n /\ Dj n key (k (decide (key i < key j))) Q
theorem Em {n : Nat} {key : Nat -> Int} {α β : Type} {f : α -> KasT β} {Q : β -> Prop} : ∀ {t : KasT α}, Dj n key t (fun a => Dj n key (f a) Q) -> Dj n key (t.bind f) Q
 | .ret _, h => h
 | .ask _ _ _, ⟨h1, h2, h3⟩ => ⟨h1, h2, Em h3⟩
theorem Dm {n : Nat} {key : Nat -> Int} {α : Type} {Q Q' : α -> Prop} (hq : ∀ a, Q a -> Q' a) : ∀ {t : KasT α}, Dj n key t Q -> Dj n key t Q'
 | .ret _, h => hq _ h
 | .ask _ _ _, ⟨h1, h2, h3⟩ => ⟨h1, h2, Dm hq h3⟩
def klt (key : Nat -> Int) (a b : Nat) : Prop := key a < key b \/ (key a = key b /\ a < b)
theorem Xb {key : Nat -> Int} {a b c : Nat} (h1 : klt key a b) (h2 : klt key b c) : klt key a c := by unfold klt at *; omega
theorem Qx {key : Nat -> Int} {a b : Nat} (h : klt key a b) : key a <= key b := by unfold klt at h; omega
section
variable {n : Nat} {key : Nat -> Int}
abbrev pat (p : Array Nat) (k : Nat) : Nat := p.getD k 0
theorem Qa {p : Array Nat} {i j : Nat} (hj : j <= p.size) (k : Nat) : pat (kas_rev p i j) k = if i <= k /\ k < j then pat p (i + j - 1 - k) else pat p k := by
 have e := getElem?_mirror_all (i := i) hj k
 unfold pat kas_rev
 rw [Zyn, e]
 by_cases h1 : i <= k /\ k < j
 ·rw [if_pos h1, if_pos h1, Zyn]
 ·rw [if_neg h1, if_neg h1, Zyn]
theorem cp {p : Array Nat} {src d : Nat} (hs : src < p.size) (hd : d <= src) (k : Nat) : pat (bubble p src d) k = if k = src - d then pat p src else if src - d < k /\ k <= src then pat p (k - 1) else pat p k := by
 have e := getElem?_bubble hs d hd k
 unfold pat
 rw [Zyn, e]
 by_cases h1 : k = src - d
 ·rw [if_pos h1, if_pos h1, Zyn]
 ·rw [if_neg h1, if_neg h1]
  by_cases h2 : src - d < k /\ k <= src
  ·rw [if_pos h2, if_pos h2, Zyn]
  ·rw [if_neg h2, if_neg h2, Zyn]
theorem Nc (p : Array Nat) (i j : Nat) : (kas_rev p i j).size = p.size := mirror_size _ _ _ _
theorem Nd (p : Array Nat) (i j : Nat) : (kas_rev p i j).toList.Perm p.toList := Array.perm_iff_toList_perm.mp (mirror_perm _ _ _ _)
structure Srt (n : Nat) (key : Nat -> Int) (p : Array Nat) (m : Nat) : Prop where
 sz : p.size = n
 pm : p.toList.Perm (Zyy n)
 up : ∀ i j, i < j -> j < m -> klt key (pat p i) (pat p j)
 fix : ∀ k, m <= k -> k < n -> pat p k = k
 low : ∀ k, k < m -> pat p k < m
theorem Srt.lt {p : Array Nat} {m : Nat} (h : Srt n key p m) {k : Nat} (hm : m <= n) (hk : k < n) : pat p k < n := by
 by_cases z : k < m
 ·have := h.low k z; omega
 ·rw [h.fix k (by omega) hk]; exact hk
theorem Ut : ∀ (f : Nat) {p : Array Nat} {m : Nat}, Srt n key p m -> 1 <= m -> m + f = n -> Dj n key (kas_asc p f m) fun m' => m <= m' /\ m' <= n /\ Srt n key p m' /\ (m' < n -> key (pat p m') < key (pat p (m' - 1)))
 | 0, p, m, h, h1, h2 => ⟨Zzs _, by omega, h, fun z => by omega⟩
 | f + 1, p, m, h, h1, h2 => by
  refine ⟨h.lt (by omega) (by omega), h.lt (by omega) (by omega), ?_⟩
  show Dj n key (if decide (key (pat p m) < key (pat p (m - 1))) = true then _ else _) _
  by_cases c : key (pat p m) < key (pat p (m - 1))
  ·rw [decide_eq_true c, if_pos rfl]
   exact ⟨Zzs _, by omega, h, fun _ => c⟩
  ·rw [decide_eq_false c, if_neg (by decide)]
   have e := h.fix m (Zzs _) (by omega)
   have h' : Srt n key p (m + 1) := ⟨h.sz, h.pm, fun i j hij hj => by
     by_cases z : j < m
     ·exact h.up i j hij z
     ·have ej : j = m := by omega
      subst ej
      have l1 : klt key (pat p (j - 1)) (pat p j) := by
       have := h.low (j - 1) (by omega)
       unfold klt
       rw [e] at c ⊢
       omega
      by_cases y : i = j - 1
      ·rw [y]; exact l1
      ·exact Xb (h.up i (j - 1) (by omega) (by omega)) l1, fun k hk hkn => h.fix k (by omega) hkn, fun k hk => by
     by_cases z : k < m
     ·have := h.low k z; omega
     ·have ek : k = m := by omega
      rw [ek, e]; omega⟩
   exact Dm (fun a ⟨a1, a2, a3, a4⟩ => ⟨by omega, a2, a3, a4⟩) (Ut f h' (by omega) (by omega))
structure Fal (n : Nat) (key : Nat -> Int) (p : Array Nat) (m q : Nat) : Prop where
 sz : p.size = n
 pm : p.toList.Perm (Zyy n)
 q1 : q + 1 <= m
 m1 : m <= n
 dn : ∀ i j, i < j -> j < m - (q + 1) -> klt key (pat p j) (pat p i)
 fix : ∀ k, m - (q + 1) <= k -> k < n -> pat p k = k
 low : ∀ k, k < m - (q + 1) -> pat p k < m - (q + 1)
 cr : ∀ i, i < m - (q + 1) -> key (m - 1) < key (pat p i)
 eq : ∀ k, m - (q + 1) <= k -> k < m -> key k = key (m - 1)
structure Dwn (n : Nat) (key : Nat -> Int) (p : Array Nat) (m : Nat) : Prop where
 sz : p.size = n
 pm : p.toList.Perm (Zyy n)
 dn : ∀ i j, i < j -> j < m -> klt key (pat p j) (pat p i)
 fix : ∀ k, m <= k -> k < n -> pat p k = k
 low : ∀ k, k < m -> pat p k < m
 last : ∀ i, i < m -> key (m - 1) <= key (pat p i)
theorem Fal.turn {p : Array Nat} {m q : Nat} (h : Fal n key p m q) : Dwn n key (kas_rev p (m - (q + 1)) m) m := by
 have hm := h.m1
 have h1 := h.q1
 have pr := fun k => Qa (p := p) (i := m - (q + 1)) (j := m) (by rw [h.sz]; exact hm) k
 refine ⟨by rw [Nc, h.sz], (Nd _ _ _).trans h.pm, fun i j hij hj => ?_, fun k hk hkn => ?_, fun k hk => ?_, fun i hi => ?_⟩
 ·have vi1 : m - (q + 1) <= i -> pat (kas_rev p (m - (q + 1)) m) i = m - (q + 1) + m - 1 - i := fun a => by rw [pr i, if_pos ⟨a, by omega⟩]; exact h.fix _ (by omega) (by omega)
  have vi2 : ¬ m - (q + 1) <= i -> pat (kas_rev p (m - (q + 1)) m) i = pat p i := fun a => by rw [pr i, if_neg (fun z => a z.1)]
  have vj1 : m - (q + 1) <= j -> pat (kas_rev p (m - (q + 1)) m) j = m - (q + 1) + m - 1 - j := fun a => by rw [pr j, if_pos ⟨a, hj⟩]; exact h.fix _ (by omega) (by omega)
  have vj2 : ¬ m - (q + 1) <= j -> pat (kas_rev p (m - (q + 1)) m) j = pat p j := fun a => by rw [pr j, if_neg (fun z => a z.1)]
  by_cases a : m - (q + 1) <= i
  ·rw [vi1 a, vj1 (by omega)]
   have e1 := h.eq (m - (q + 1) + m - 1 - i) (by omega) (by omega)
   have e2 := h.eq (m - (q + 1) + m - 1 - j) (by omega) (by omega)
   unfold klt
   omega
  ·rw [vi2 a]
   by_cases b : m - (q + 1) <= j
   ·rw [vj1 b]
    have e2 := h.eq (m - (q + 1) + m - 1 - j) (by omega) (by omega)
    have e3 := h.cr i (by omega)
    unfold klt
    omega
   ·rw [vj2 b]
    exact h.dn i j hij (by omega)
 ·rw [pr k, if_neg (by omega)]
  exact h.fix k (by omega) hkn
 ·rw [pr k]
  split
  ·rw [h.fix _ (by omega) (by omega)]; omega
  ·have := h.low k (by omega); omega
 ·rw [pr i]
  split
  ·rw [h.fix _ (by omega) (by omega)]
   have := h.eq (m - (q + 1) + m - 1 - i) (by omega) (by omega)
   omega
  ·have := h.cr i (by omega); omega
theorem Fal.one {p : Array Nat} {m : Nat} (h : Fal n key p m 0) : Dwn n key p m := by
 have hm := h.m1
 have h1 := h.q1
 have e := h.fix (m - 1) (by omega) (by omega)
 refine ⟨h.sz, h.pm, fun i j hij hj => ?_, fun k hk hkn => h.fix k (by omega) hkn, fun k hk => ?_, fun i hi => ?_⟩
 ·by_cases z : j = m - 1
  ·rw [z, e]
   have := h.cr i (by omega)
   exact .inl this
  ·exact h.dn i j hij (by omega)
 ·by_cases z : k = m - 1
  ·rw [z, e]; omega
  ·have := h.low k (by omega); omega
 ·by_cases z : i = m - 1
  ·rw [z, e]; exact Zyx _
  ·have := h.cr i (by omega); omega
theorem Dwn.next {p : Array Nat} {m : Nat} (h : Dwn n key p m) (h1 : 1 <= m) (hm : m < n) (c : key m < key (m - 1)) : Fal n key p (m + 1) 0 :=
 ⟨h.sz, h.pm, by omega, by omega, fun i j hij hj => h.dn i j hij (by omega), fun k hk hkn => h.fix k (by omega) hkn, fun k hk => by have := h.low k (by omega); omega, fun i hi => by
  have := h.last i (by omega)
  show key m < _
  omega, fun k hk hk2 => by
  have : k = m := by omega
  subst this
  rfl⟩
theorem Mx : ∀ (f : Nat) {p : Array Nat} {m q : Nat}, Fal n key p m q -> m + f = n -> Dj n key (kas_desc f p m q) fun r => Fal n key r.1 r.2.1 r.2.2
 | 0, p, m, q, h, _ => h
 | f + 1, p, m, q, h, hf => by
  have h1 := h.q1
  have e1 := h.fix m (by omega) (by omega)
  have e2 := h.fix (m - 1) (by omega) (by omega)
  refine ⟨by show pat p m < n; omega, by show pat p (m - 1) < n; omega, ?_⟩
  show Dj n key (if decide (key (pat p m) < key (pat p (m - 1))) = true then _ else _) _
  rw [e1, e2]
  by_cases c : key m < key (m - 1)
  ·rw [decide_eq_true c, if_pos rfl]
   by_cases hq : q > 0
   ·rw [if_pos hq]
    exact Mx f (h.turn.next (by omega) (by omega) c) (by omega)
   ·rw [if_neg hq]
    have q0 : q = 0 := by omega
    subst q0
    exact Mx f (h.one.next (by omega) (by omega) c) (by omega)
  ·rw [decide_eq_false c, if_neg (by decide)]
   refine ⟨by show pat p (m - 1) < n; omega, by show pat p m < n; omega, ?_⟩
   show Dj n key (if decide (key (pat p (m - 1)) < key (pat p m)) = true then _ else _) _
   rw [e1, e2]
   by_cases d : key (m - 1) < key m
   ·rw [decide_eq_true d, if_pos rfl]
    exact h
   ·rw [decide_eq_false d, if_neg (by decide)]
    have ek : key m = key (m - 1) := by omega
    refine Mx f ⟨h.sz, h.pm, by omega, by omega, fun i j hij hj => h.dn i j hij (by omega), fun k hk hkn => h.fix k (by omega) hkn, fun k hk => by have := h.low k (by omega); omega, fun i hi => by have := h.cr i (by omega); show key m < _; omega, fun k hk hk2 => ?_⟩ (by omega)
    show key k = key m
    by_cases z : k = m
    ·rw [z]
    ·rw [ek]; exact h.eq k (by omega) (by omega)
theorem V1 {p : Array Nat} {m : Nat} (h : Dwn n key p m) (h1 : 1 <= m) (hm : m <= n) : Dj n key (kas_tail3 m n p) fun r => 1 <= r.1 /\ r.1 <= n /\ Srt n key r.2 r.1 := by
 have pr := fun k => Qa (p := p) (i := 0) (j := m) (by rw [h.sz]; exact hm) k
 have hs : Srt n key (kas_rev p 0 m) m := by
  refine ⟨by rw [Nc, h.sz], (Nd _ _ _).trans h.pm, fun i j hij hj => ?_, fun k hk hkn => ?_, fun k hk => ?_⟩
  ·rw [pr i, pr j, if_pos ⟨by omega, by omega⟩, if_pos ⟨by omega, by omega⟩]
   exact h.dn _ _ (by omega) (by omega)
  ·rw [pr k, if_neg (by omega)]
   exact h.fix k hk hkn
  ·rw [pr k, if_pos ⟨by omega, hk⟩]
   exact h.low _ (by omega)
 exact Em (Dm (fun a ⟨a1, a2, a3, _⟩ => ⟨by show 1 <= a; omega, a2, a3⟩) (Ut (n - m) hs h1 (by omega)))
theorem Vi {p : Array Nat} {m : Nat} (h : Fal n key p (m + 1) 0) : Dj n key (kas_descPart m n p) fun r => 1 <= r.1 /\ r.1 <= n /\ Srt n key r.2 r.1 := by
 have := h.m1
 refine Em (Dm (fun r hr => ?_) (Mx (n - (m + 1)) h (by omega)))
 have r1 := hr.q1
 have r2 := hr.m1
 by_cases z : r.2.2 > 0
 ·rw [if_pos z]
  exact V1 hr.turn (by omega) r2
 ·rw [if_neg z]
  have q0 : r.2.2 = 0 := by omega
  rw [q0] at hr
  exact V1 hr.one (by omega) r2
theorem Bc {k : Nat} (h : k < n) : pat (Zyf (Zyy n)) k = k := by
 unfold pat
 rw [Zyn]
 simp [h]
theorem ab (h2 : 2 <= n) : Dj n key (kas_count n (Zyf (Zyy n))) fun r => 1 <= r.1 /\ r.1 <= n /\ Srt n key r.2 r.1 := by
 have s0 : Srt n key (Zyf (Zyy n)) 1 := ⟨by simp, by simp, fun i j hij hj => by omega, fun k _ hk => Bc hk, fun k hk => by rw [Bc (by omega)]; exact hk⟩
 refine Em (Dm (fun m hm => ?_) (Ut (n - 1) s0 (Zzs _) (by omega)))
 obtain ⟨a1, a2, a3, a4⟩ := hm
 by_cases z : m = n
 ·rw [if_pos (by rw [z]; simp)]
  exact ⟨a1, a2, a3⟩
 ·rw [if_neg (by simpa using z)]
  have c := a4 (by omega)
  rw [Bc (by omega), Bc (by omega)] at c
  by_cases y : m > 1
  ·rw [if_pos y]
   have g0 : pat (Zyf (Zyy n)) 0 = 0 := Bc (by omega)
   have g1 : pat (Zyf (Zyy n)) (m - 1) = m - 1 := Bc (by omega)
   refine ⟨by show pat (Zyf (Zyy n)) 0 < n; omega, by show pat (Zyf (Zyy n)) (m - 1) < n; omega, ?_⟩
   show Dj n key (if decide (key (pat (Zyf (Zyy n)) 0) < key (pat (Zyf (Zyy n)) (m - 1))) = true then _ else _) _
   rw [g0, g1]
   by_cases d : key 0 < key (m - 1)
   ·rw [decide_eq_true d, if_pos rfl]
    exact ⟨a1, a2, a3⟩
   ·rw [decide_eq_false d, if_neg (by decide)]
    have up : ∀ i, i < m -> key 0 <= key i /\ key i <= key (m - 1) := fun i hi => by
     constructor
     ·by_cases w : i = 0
      ·rw [w]; exact Zyx _
      ·have := Qx (a3.up 0 i (by omega) hi)
       rw [Bc (by omega), Bc (by omega)] at this
       exact this
     ·by_cases w : i = m - 1
      ·rw [w]; exact Zyx _
      ·have := Qx (a3.up i (m - 1) (by omega) (by omega))
       rw [Bc (by omega), Bc (by omega)] at this
       exact this
    have al : ∀ i, i < m -> key i = key (m - 1) := fun i hi => by have := up i hi; omega
    have pr := fun k => Qa (p := Zyf (Zyy n)) (i := 0) (j := m) (by simp; omega) k
    have dw : Dwn n key (kas_rev (Zyf (Zyy n)) 0 m) m := by
     refine ⟨by rw [Nc]; simp, (Nd _ _ _).trans (by simp), fun i j hij hj => ?_, fun k hk hkn => ?_, fun k hk => ?_, fun i hi => ?_⟩
     ·rw [pr i, pr j, if_pos ⟨by omega, by omega⟩, if_pos ⟨by omega, by omega⟩, Bc (by omega), Bc (by omega)]
      have e1 := al (0 + m - 1 - i) (by omega)
      have e2 := al (0 + m - 1 - j) (by omega)
      unfold klt
      omega
     ·rw [pr k, if_neg (by omega), Bc hkn]
     ·rw [pr k, if_pos ⟨by omega, hk⟩, Bc (by omega)]; omega
     ·rw [pr i, if_pos ⟨by omega, hi⟩, Bc (by omega)]
      have := al (0 + m - 1 - i) (by omega)
      omega
    exact Vi (dw.next (by omega) (by omega) c)
  ·rw [if_neg y]
   have m1 : m = 1 := by omega
   subst m1
   have dw : Dwn n key (Zyf (Zyy n)) 1 := ⟨by simp, by simp, fun i j hij hj => by omega, fun k _ hk => Bc hk, fun k hk => by rw [Bc (by omega)]; exact hk, fun i hi => by
    rw [Bc (by omega)]
    have : i = 0 := by omega
    rw [this]
    exact Zyx _⟩
   exact Vi (dw.next (by omega) (by omega) c)
theorem Nj {p : Array Nat} {k : Nat} (h : Srt n key p k) (hk : k < n) : ∀ (f l r : Nat), l <= r -> r <= k -> r - l <= f -> (∀ i, i < l -> key (pat p i) <= key k) -> (∀ i, r <= i -> i < k -> key k < key (pat p i)) -> Dj n key (kas_place p k f l r) fun l' => l' <= k /\ (∀ i, i < l' -> key (pat p i) <= key k) /\ ∀ i, l' <= i -> i < k -> key k < key (pat p i)
 | 0, l, r, h1, h2, h3, h4, h5 => ⟨by omega, h4, fun i hi => h5 i (by omega)⟩
 | f + 1, l, r, h1, h2, h3, h4, h5 => by
  show Dj n key (if l ≥ r then _ else _) _
  by_cases z : l ≥ r
  ·rw [if_pos z]
   exact ⟨by omega, h4, fun i hi => h5 i (by omega)⟩
  ·rw [if_neg z]
   have e := h.fix k (Zzs _) hk
   refine ⟨by show pat p k < n; omega, by have := h.low ((l + r) / 2) (by omega); show pat p ((l + r) / 2) < n; omega, ?_⟩
   show Dj n key (if decide (key (pat p k) < key (pat p ((l + r) / 2))) = true then _ else _) _
   rw [e]
   have mono : ∀ i j, i <= j -> j < k -> key (pat p i) <= key (pat p j) := fun i j hij hj => by
    by_cases y : i = j
    ·rw [y]; exact Zyx _
    ·exact Qx (h.up i j (by omega) hj)
   by_cases c : key k < key (pat p ((l + r) / 2))
   ·rw [decide_eq_true c, if_pos rfl]
    exact Nj h hk f l ((l + r) / 2) (by omega) (by omega) (by omega) h4 fun i hi hik => by have := mono _ i hi hik; omega
   ·rw [decide_eq_false c, if_neg (by decide)]
    exact Nj h hk f ((l + r) / 2 + 1) r (by omega) h2 (by omega) (fun i hi => by have := mono i ((l + r) / 2) (by omega) (by omega); omega) h5
theorem ah : ∀ (f : Nat) {p : Array Nat} {k : Nat}, Srt n key p k -> k + f = n -> Dj n key (kas_bin f p k) fun p' => Srt n key p' n
 | 0, p, k, h, hf => by
  have : k = n := by omega
  subst this
  exact h
 | f + 1, p, k, h, hf => by
  refine Em (Dm (fun l hl => ?_) (Nj h (by omega) k 0 k (Zyr _) (Zzs _) (by omega) (fun i hi => by omega) (fun i hi hik => by omega)))
  obtain ⟨l1, l2, l3⟩ := hl
  have hs := h.sz
  have pb := fun i => cp (p := p) (src := k) (d := k - l) (by omega) (by omega) i
  have ed : k - (k - l) = l := by omega
  rw [ed] at pb
  have ek := h.fix k (Zzs _) (by omega)
  refine ah f ⟨by rw [bubble_size, hs], (Array.perm_iff_toList_perm.mp (bubble_perm _ _ _)).trans h.pm, fun i j hij hj => ?_, fun i hi hin => ?_, fun i hi => ?_⟩ (by omega)
  ·rw [pb i, pb j]
   by_cases a : i = l
   ·rw [if_pos a, if_neg (by omega), if_pos ⟨by omega, by omega⟩, ek]
    have := l3 (j - 1) (by omega) (by omega)
    exact .inl this
   ·rw [if_neg a]
    by_cases b : j = l
    ·rw [if_pos b, if_neg (by omega), ek]
     have h1 := l2 i (by omega)
     have h2 := h.low i (by omega)
     unfold klt
     omega
    ·rw [if_neg b]
     by_cases c : l < i
     ·rw [if_pos ⟨c, by omega⟩, if_pos ⟨by omega, by omega⟩]
      exact h.up (i - 1) (j - 1) (by omega) (by omega)
     ·rw [if_neg (fun z => c z.1)]
      by_cases d : l < j
      ·rw [if_pos ⟨d, by omega⟩]
       exact h.up i (j - 1) (by omega) (by omega)
      ·rw [if_neg (fun z => d z.1)]
       exact h.up i j hij (by omega)
  ·rw [pb i, if_neg (by omega), if_neg (by omega)]
   exact h.fix i (by omega) hin
  ·rw [pb i]
   split
   ·rw [ek]; omega
   ·split
    ·have := h.low (i - 1) (by omega); omega
    ·have := h.low i (by omega); omega
theorem bx (h2 : 2 <= n) : Dj n key (kas_sort n) fun p => Srt n key p n := by
 refine Em (Dm (fun r hr => ?_) (ab h2))
 obtain ⟨r1, r2, r3⟩ := hr
 by_cases z : r.1 < n
 ·rw [if_pos z]
  have e : max r.1 1 = r.1 := by omega
  rw [e]
  exact ah _ r3 (by omega)
 ·rw [if_neg z]
  have e : r.1 = n := by omega
  rw [e] at r3
  exact r3
end
theorem Sr {n : Nat} {key : Nat -> Int} {α : Type} {cmp : Nat -> Nat -> (Bool -> Shared -> Prop) -> Shared -> Prop} {Qp : α -> Prop} {Q : α -> Shared -> Prop} {s : Shared} (hc : ∀ i j (C : Bool -> Shared -> Prop), i < n -> j < n -> C (decide (key i < key j)) s -> cmp i j C s) (hq : ∀ a, Qp a -> Q a s) : ∀ {t : KasT α}, Dj n key t Qp -> t.kasWp cmp Q s
 | .ret _, h => hq _ h
 | .ask i j k, ⟨h1, h2, h3⟩ => hc i j _ h1 h2 (Sr hc hq h3)
def Mi (kz : Str -> Int) (xs ys : List Str) : Prop := ys.Perm xs /\ ys.Pairwise fun a b => kz a <= kz b
def Hr (kz : Str -> Int) (xs ys : List Str) : Prop := ∃ ps : List Nat, ps.Perm (Zyy xs.length) /\ ys = ps.map (fun i => xs.getD i "") /\ ps.Pairwise (klt fun i => kz (xs.getD i ""))
theorem Ni (xs : List Str) : (Zyy xs.length).map (fun i => xs.getD i "") = xs := by
 apply Zxb
 intro i
 by_cases hi : i < xs.length
 ·rw [Zzx, Zvx hi, Zzu hi]
  simp [Zzh, hi]
 ·rw [Zyp (by simp; omega), Zyp (by omega)]
theorem D7 {kz : Str -> Int} {xs ys : List Str} (h : Hr kz xs ys) : Mi kz xs ys := by
 obtain ⟨ps, h1, rfl, h2⟩ := h
 refine ⟨?_, ?_⟩
 ·have := h1.map (fun i => xs.getD i "")
  rw [Ni] at this
  exact this
 ·rw [List.pairwise_map]
  exact h2.imp fun {a b} hab => Qx hab
theorem Tp {kz : Str -> Int} {xs ys : List Str} (h : ys.Perm xs) (hl : xs.length < 2) : Hr kz xs ys := by
 refine ⟨Zyy xs.length, List.Perm.refl _, ?_, ?_⟩
 ·rw [Ni]
  match xs, hl with
  | [], _ => exact List.perm_nil.mp h
  | [x], _ => exact List.perm_singleton.mp h
 ·rw [Zxr]
  intro i j hi hj hij
  rw [List.length_range] at hi hj
  omega
theorem i9 {n : Nat} {key : Nat -> Int} {p : Array Nat} (h : Srt n key p n) : p.toList.Pairwise (klt key) := by
 rw [Zxr]
 intro i j hi hj hij
 rw [Zw1, h.sz] at hi hj
 have := h.up i j hij hj
 unfold pat at this
 rw [Zyn, Zyn, Zy8 (by rw [h.sz]; exact hi), Zy8 (by rw [h.sz]; exact hj)] at this
 simpa using this
theorem dc {P : Program} {w : World} {H : Hp} {h : Heap} {a : Addr} {o : HO} (x : ObjOk P w H h a o) : ∃ ob, h.get? a = some ob := by
 cases o with
 | lst xs => obtain ⟨_, _, _, _, e⟩ := x; exact ⟨_, e⟩
 | tup xs => obtain ⟨_, _, _, o, e, _⟩ := x; exact ⟨_, e⟩
 | dK kvs => obtain ⟨_, _, _, _, o, _, _, e, _⟩ := x; exact ⟨_, e⟩
 | dT kvs => obtain ⟨_, _, _, _, o, _, _, e, _⟩ := x; exact ⟨_, e⟩
 | set S n => obtain ⟨o, _, _, _, e, _⟩ := x; exact ⟨_, e⟩
 | ins C dx fs => obtain ⟨_, _, _, e, _⟩ := x; exact ⟨_, e⟩
 | own y => exact x
 | xd fs => obtain ⟨_, ⟨_, _, _, e, _⟩, _⟩ := x; exact ⟨_, e⟩
 | rng lo hi => obtain ⟨_, _, _, e⟩ := x; exact ⟨_, e⟩
 | frz o u => obtain ⟨e, _⟩ := x; exact ⟨_, e⟩
 | tbl ps => exact ⟨_, x⟩
 | met f y => exact ⟨_, x⟩
 | ext φ => obtain ⟨_, e, _⟩ := x; exact e
def Tf (c : Addr) (q : Str) : HO := .ext fun h => h.CodeRec (.ref c) q
theorem ae {P : Program} {w : World} {H : Hp} {h : Heap} {c : Addr} {q : Str} (x : h.CodeRec (.ref c) q) : ObjOk P w H h c (Tf c q) := by
 obtain ⟨c', o, vs, t, e, ho, r⟩ := id x
 cases e
 refine ⟨x, ⟨o, ho⟩, fun h1 h2 y k => ?_⟩
 obtain ⟨c2, o2, vs2, t2, e2, g2, r2⟩ := y
 cases e2
 exact ⟨c, o2, vs2, t2, rfl, k _ g2, r2⟩
theorem af {P : Program} {w : World} {H : Hp} {h : Heap} {c : Addr} {q : Str} (ok : HOk P w H h) (e : H c = some (Tf c q)) : h.CodeRec (.ref c) q := (ok c _ e).1
def TblAt (H : Hp) (P : Addr) (pos : Pos) (q : Str) : Prop := H P = some (.tbl #[]) \/ ∃ c, H P = some (.tbl #[rawInt pos.line, rawInt pos.col, .ref c]) /\ H c = some (Tf c q)
theorem TblAt.same {H H' : Hp} {P : Addr} {pos : Pos} {q : Str} (t : TblAt H P pos q) (s : Same H H') : TblAt H' P pos q := t.elim (fun e => .inl (s _ _ e)) (fun ⟨c, e, e2⟩ => .inr ⟨c, s _ _ e, s _ _ e2⟩)
def B2 (mg : Str -> Option Value) (base : Heap) : Prop := ∃ bm ob, mg "__builtins__" = some (.ref bm) /\ bm ≠ builtinsNs /\ bm ≠ mainGlobals /\ base.get? bm = some ob /\ ob.cls = .type "module" /\ ob.dict = some builtinsNs /\ ob.data = .plain
section
variable {X : Cx} {pins : List (Addr × Obj)} {σ : St} {H : Hp} {s : Shared}
theorem Zi {P c : Addr} {params : Arguments} {body : Expr} {scope : Scope} {pos : Pos} {clos : List (Str × Addr)} {Q : Value -> Shared -> Prop}
  (I : Inv X pins σ H s) (hcd : X.env.code = .ref c) (hC : codeHdIn X.K c P = true) (hB : B2 X.mg X.base) (t : TblAt H P pos (X.env.qual ++ "<lambda>")) (hdef : defaultsOf params X.env = ([], [])) (hcl : closureFor scope X.env = pure clos)
  (h : ∀ f c' ctv H' s', Inv X pins σ H' s' -> s'.heap.get? f = some (kla_obj "<lambda>" (X.env.qual ++ "<lambda>") params body scope clos ((X.mg "__name__").getD .none) c' ctv) -> H' f = none -> H' c' = some (Tf c' (X.env.qual ++ "<lambda>")) -> TblAt H' P pos (X.env.qual ++ "<lambda>") -> But P H H' -> Q (.ref f) s') :
  wpAny (model X.prog X.w) X.A (eval (.Lambda params body scope pos) X.env) Q X.xe s := by
 refine kla_eval hdef ?_
 have hHP : ∃ u, H P = some u := t.elim (fun e => ⟨_, e⟩) (fun ⟨c, e, _⟩ => ⟨_, e⟩)
 obtain ⟨u, hu⟩ := hHP
 have neP : ∀ b o, X.base.get? b = some o -> b ≠ P := fun b o e z => by rw [z] at e; rw [(I.bs P o e).2] at hu; cases hu
 have C : CodeHd s.heap c P := codeHd_of_K I.kIn hC
 have hg : s.heap.Ns mainGlobals X.mg := I.ok.mod.glob.keeps I.bk
 have hgP : mainGlobals ≠ P := by obtain ⟨o, es, ep, e, _⟩ := I.ok.mod.glob; exact neP _ _ e
 have hb : s.heap.BuiltinsAt X.mg P := by
  obtain ⟨bm, ob, b1, b2, b3, b4, b5⟩ := hB
  exact ⟨bm, ob, b1, b2, b3, neP _ _ b4, I.bk _ _ b4, b5⟩
 rcases t with e | ⟨c', e, ec⟩
 ·have hP : s.heap.get? P = some (tabObj #[]) := I.hok P _ e
  refine kla_makeFunction (ps := #[]) hcl I.ok.glob hg hcd C hP trivial rfl hgP hb fun c' ctv h' tk hx hge hlt hrec htb => ?_
  have hc0 : H c' = none := I.hok.fresh hge
  have cP : c' ≠ P := fun z => by rw [z, hu] at hc0; cases hc0
  have k : ∀ b o, b ≠ P -> s.heap.get? b = some o -> (h'.push (kla_obj "<lambda>" (X.env.qual ++ "<lambda>") params body scope clos ((X.mg "__name__").getD .none) c' ctv)).get? b = some o := fun b o nb eb => Zzy _ (hx b o nb eb)
  have hsz : s.heap.objs.size <= h'.objs.size := by omega
  have hf : H h'.objs.size = none := I.hok.fresh hsz
  have cf : h'.objs.size ≠ c' := Zxf hlt
  have fP : h'.objs.size ≠ P := fun z => by rw [z, hu] at hf; cases hf
  refine h h'.objs.size c' ctv (upd (upd H P (.tbl #[rawInt pos.line, rawInt pos.col, .ref c'])) c' (Tf c' (X.env.qual ++ "<lambda>"))) _ (I.un (t' := tk) ⟨fun b o eb n _ _ => k b o (fun z => by rw [z, hu] at n; cases n) eb, fun b o eb n _ _ => ⟨o.slots, k b o (fun z => by rw [z, hu] at n; cases n) eb⟩, fun b o eb n _ => ?_, fun b o eb _ => ?_, fun b xs eb => ?_, fun b o u' eb => ?_, fun b ps eb => ?_⟩ fun b v eb => ?_) (Zzj _ rfl) ?_ A1 ?_ ?_
  ·rw [A8 (Zys (Zz4 (Zze eb) hge)), A8 (fun z => by rw [z, hu] at n; cases n)]
   exact n
  ·by_cases z : b = P
   ·rw [z]
    exact ⟨_, Zzy _ htb⟩
   ·exact ⟨o, k b o z eb⟩
  ·rw [A8 (A9 eb hc0), A8 (fun z => by rw [z, e] at eb; cases eb)]
   exact eb
  ·rw [A8 (A9 eb hc0), A8 (fun z => by rw [z, e] at eb; cases eb)]
   exact eb
  ·by_cases z : b = P
   ·subst z
    rw [e] at eb
    cases eb
    exact ⟨#[rawInt pos.line, rawInt pos.col, .ref c'], by rw [A8 (Zzc cP), A1]; simp⟩
   ·exact ⟨#[], by rw [A8 (A9 eb hc0), A8 z, eb]; simp⟩
  ·by_cases z : b = c'
   ·subst z
    rw [A1] at eb
    cases eb
    exact ae (hrec.push _)
   ·rw [A8 z] at eb
    by_cases z2 : b = P
    ·subst z2
     rw [A1] at eb
     cases eb
     exact Zzy _ htb
    ·rw [A8 z2] at eb
     refine (I.hok b v eb).stay (fun b' u' hb' q => k b' u' (fun z3 => ?_) q) (fun b' q => ?_) fun b' xs q => ?_
     ·rcases hb' with r | r
      ·exact z2 (r.symm.trans z3)
      ·rw [z3, e] at r; cases r
     ·rw [A8 (A9 q hc0), A8 (fun z3 => by rw [z3, e] at q; cases q)]; exact q
     ·rw [A8 (A9 q hc0), A8 (fun z3 => by rw [z3, e] at q; cases q)]; exact q
  ·rw [A8 cf, A8 fP]
   exact hf
  ·exact .inr ⟨c', by rw [A8 (Zzc cP), A1], A1⟩
  ·exact fun b o nb eb => by rw [A8 (A9 eb hc0), A8 nb]; exact eb
 ·have hP : s.heap.get? P = some (tabObj #[rawInt pos.line, rawInt pos.col, .ref c']) := I.hok P _ e
  refine kla_makeFunctionHit (cv := .ref c') hcl I.ok.glob hg hcd C hP trivial (by simp [codeAmong, rawInt]) hb fun ctv h' tk hk hsz => ?_
  have k : ∀ b o, s.heap.get? b = some o -> (h'.push (kla_obj "<lambda>" (X.env.qual ++ "<lambda>") params body scope clos ((X.mg "__name__").getD .none) c' ctv)).get? b = some o := fun b o eb => Zzy _ (hk b o eb)
  exact h h'.objs.size c' ctv H _ (I.kept (t' := tk) k) (Zzj _ rfl) (I.hok.fresh hsz) ec (.inr ⟨c', e, ec⟩) (But.refl _ _)
end
section
variable {prog : Program} {w : World} {A : Around} {s : Shared}
theorem dk {f c' d cc : Addr} {q nm lv x : Str} {params : Arguments} {scope : Scope} {p1 p2 p3 : Pos} {pm ctv : Value} {k : Int} {t t0 : Tok} {vs : List (Key × Value)}
  (hf : s.heap.get? f = some (kla_obj "<lambda>" q params (.Subscript (.Name lv p1) (.Name nm p2) p3) scope [(lv, cc)] pm c' ctv)) (hrec : s.heap.CodeRec (.ref c') q) (hcell : s.heap.IsCell cc (some (.ref d))) (hd : s.heap.DictOf (Be prog w) d vs) (hv : valueAt vs (.inr x) = some (.int k t))
  (hroom : A.depth < recursionLimit) (hlim : s.heap.NoLimit) (hsc : scope.kind = .function /\ scope.isCoroutine = false /\ scope.isGenerator = false /\ scope.names.lookup nm = some .local /\ scope.names.lookup lv = some .free /\ ∀ x ∈ scope.names, x.2 ≠ .cell)
  (hbind : bindArgs (kla_fn "<lambda>" q params (.Subscript (.Name lv p1) (.Name nm p2) p3) scope [(lv, cc)] pm (.ref c') ctv) ⟨[.str x t0], []⟩ = pure [(nm, .str x t0)]) (hn1 : (nm == ("__debug__" : Str)) = false := by decide) (hn2 : (lv == ("__debug__" : Str)) = false := by decide) (hn3 : (lv == ("__classdict__" : Str)) = false := by decide) :
  wpAny (model prog w) A (call (.ref f) [.str x t0]) (fun v s' => ∃ h' tk t', s' = { s with heap := h', toks := tk } /\ v = .int k t' /\ ∀ b o, s.heap.get? b = some o -> h'.get? b = some o) (fun _ _ => False) s := by
 obtain ⟨k1, k2, k3, k4, k5, k6⟩ := hsc
 refine wpAny_call (kla_callFunE hroom hf rfl k2 k3 rfl hrec ?_)
 rw [hbind]
 refine wpAny_pure (wpAny_newFunctionEnv k6 (fun y hy => ?_) (fun h₁ hns hsb => ?_) k1)
 ·rw [Zz9.mp hy]
  exact k4
 have hk : ∀ b o, s.heap.get? b = some o -> h₁.get? b = some o := fun b o e => hsb.extBut b o (Zys (Zze e)) (Zzy _ e)
 refine ⟨hlim.fresh _ hsb, kla_codeExpr ?_⟩
 have hd1 : h₁.DictOf (Be prog w) d vs := by
  obtain ⟨o, es, ep, ho, r⟩ := hd
  exact ⟨o, es, ep, hk _ _ ho, r⟩
 have hc1 : h₁.IsCell cc (some (.ref d)) := by
  obtain ⟨o, ho, r⟩ := hcell
  exact ⟨o, hk _ _ ho, r⟩
 refine wpAny_Subscript_Name (T := "dict") F.slot_dict_getitem.lookup (wpAny_Name (wpAny_loadName_free k1 k5 (c := cc) (by simp [newEnv]) hc1 (wpAny_Name (wpAny_loadName_local k1 k4 hns (v := .str x t0) (by simp) ⟨hd1.typeIs, ?_⟩) hn1) hn3) hn2)
 refine wpAny_getItem_of (knd := Be prog w) (k := .inr x) ?_ hd1.mapOf hv ?_
 ·exact Ss (k := .inr x) ⟨t0, rfl⟩
 ·exact ⟨_, _, _, rfl, rfl, hk⟩
end
def strV : Value -> Str
 | .str x _ => x
 | _ => ""
theorem Y0 {xs : List Str} {us : List Value} (r : Vals (xs.map V.str) us) : us.map strV = xs /\ ∀ u ∈ us, ∃ t, u = .str (strV u) t := by
 induction xs generalizing us with
 | nil => cases r; exact ⟨rfl, fun _ h => nomatch h⟩
 | cons x xs ih =>
  cases r with
  | cons r1 r2 =>
   obtain ⟨t, rfl⟩ := r1
   obtain ⟨e, h⟩ := ih r2
   refine ⟨by rw [Zz3, e]; rfl, fun u hu => ?_⟩
   rcases Zzi.mp hu with z | z
   ·rw [z]; exact ⟨t, rfl⟩
   ·exact h u z
theorem M0 : ∀ {us : List Value}, (∀ u ∈ us, ∃ t, u = .str (strV u) t) -> Vals ((us.map strV).map V.str) us
 | [], _ => .nil
 | u :: us, h => by
  obtain ⟨t, e⟩ := h u Zz2
  exact .cons ⟨t, e⟩ (M0 fun v hv => h v (Zz6 _ hv))
theorem Fi : ∀ {vs : List Value} {ns : List Int} {i : Nat} {n : Int}, IntsAre vs ns -> ns[i]? = some n -> ∃ t, vs[i]? = some (.int n t)
 | _, _, i, n, .nil, e => by simp at e
 | _, _, 0, n, .cons k t _, e => by
  have : k = n := by simpa using e
  subst this
  exact ⟨t, rfl⟩
 | _, _, i + 1, n, .cons _ _ r, e => by
  obtain ⟨t, h⟩ := Fi (i := i) r (by simpa using e)
  exact ⟨t, by simpa using h⟩
theorem Uy {kz : Str -> Int} : ∀ {us : List Value} {p : Int × Value}, p ∈ ((us.map strV).map kz).zip us -> p.2 ∈ us /\ p.1 = kz (strV p.2)
 | [], p, h => by simp at h
 | u :: us, p, h => by
  rw [Zz3, Zz3, List.zip_cons_cons] at h
  rcases Zzi.mp h with z | z
  ·rw [z]; exact ⟨Zz2, rfl⟩
  ·obtain ⟨h1, h2⟩ := Uy z
   exact ⟨Zz6 _ h1, h2⟩
theorem Wj {kz : Str -> Int} {us out : List Value} (h : KskOut false ((us.map strV).map kz) us out) : (∀ u ∈ out, u ∈ us) /\ Mi kz (us.map strV) (out.map strV) := by
 obtain ⟨ps, hp, rfl, hs⟩ := h
 have hz : ∀ p ∈ ps, p.2 ∈ us /\ p.1 = kz (strV p.2) := fun p hm => Uy (hp.mem_iff.mp hm)
 refine ⟨fun u hu => ?_, ?_, ?_⟩
 ·obtain ⟨p, hm, rfl⟩ := Zzr.mp hu
  exact (hz p hm).1
 ·have e : (((us.map strV).map kz).zip us).map (fun p => strV p.2) = us.map strV := by
   have : (((us.map strV).map kz).zip us).map Prod.snd = us := List.map_snd_zip (by simp)
   have h2 := congrArg (Zxs strV) this
   rw [Zxi] at h2
   exact h2
  rw [Zxi, <- e]
  exact hp.map _
 ·rw [Zxi, List.pairwise_map]
  refine hs.imp_of_mem fun {a b} ha hb hab => ?_
  have hab : a.1 <= b.1 := hab
  rw [(hz a ha).2, (hz b hb).2] at hab
  exact hab
section
variable {X : Cx}
def Jt (P : Addr) (pos : Pos) (q : Str) (i : Nat) (σ : St) (Q : VK) (x : V) (H1 : Hp) : Prop := ∃ (l : Addr) (xs : List Str) (d : Addr) (kvs : List (Key × V)) (kz : Str -> Int), x = .ref l /\ H1 l = some (.lst (xs.map V.str)) /\ xs.length < 64 /\ σ[i]? = some (some (.ref d)) /\ H1 d = some (.dK kvs) /\
 (∀ x ∈ xs, Bq kvs (.inr x) = some (.int (kz x))) /\ TblAt H1 P pos q /\ ∀ r ys H2, H1 r = none -> H2 r = some (.lst (ys.map V.str)) -> Mi kz xs ys -> Hr kz xs ys -> TblAt H2 P pos q -> But P H1 H2 -> Q (.ref r) H2
def Pu (P : Addr) (pos : Pos) (q : Str) (i : Nat) (te : TE) : TE := fun σ H Q => te σ H (Jt P pos q i σ Q)
theorem Yx {e : Expr} {te : TE} {p1 p2 kp lp q1 q2 q3 : Pos} {params : Arguments} {scope : Scope} {i k : Nat} {nm lv : Str} {P c : Addr} (hg : Gl X "sorted") (hm : X.mg "sorted" = none) (he : PE X e te) (hr : Room k X.A)
  (hcd : X.env.code = .ref c) (hC : codeHdIn X.K c P = true) (hB : B2 X.mg X.base) (hdef : defaultsOf params X.env = ([], [])) (hN : X.N[i]? = some lv) (hlv : X.env.scope.names.lookup lv = some .cell) (hcl : ∀ cc, X.env.cells.lookup lv = some cc -> closureFor scope X.env = pure [(lv, cc)])
  (hsc : scope.kind = .function /\ scope.isCoroutine = false /\ scope.isGenerator = false /\ scope.names.lookup nm = some .local /\ scope.names.lookup lv = some .free /\ ∀ x ∈ scope.names, x.2 ≠ .cell)
  (hbind : ∀ (cc c' : Addr) (pm ctv v : Value), bindArgs (kla_fn "<lambda>" (X.env.qual ++ "<lambda>") params (.Subscript (.Name lv q1) (.Name nm q2) q3) scope [(lv, cc)] pm (.ref c') ctv) ⟨[v], []⟩ = pure [(nm, v)])
  (hn1 : (nm == ("__debug__" : Str)) = false := by decide) (hn2 : (lv == ("__debug__" : Str)) = false := by decide) (hn3 : (lv == ("__classdict__" : Str)) = false := by decide) (hn : C2 [e] = true := by rfl) :
  PE X (.Call (.Name "sorted" p1) [e] [⟨some "key", .Lambda params (.Subscript (.Name lv q1) (.Name nm q2) q3) scope lp, kp⟩] p2) (Pu P lp (X.env.qual ++ "<lambda>") i te) := by
 intro pins s σ H Q I h
 refine wpAny_Call_Name_kw (Fa I hg hm NP.Xv ?_ (by decide) (by decide))
 have hx : ∃ cc, X.env.cells.lookup lv = some cc := I.ok.has lv (.inl hlv)
 obtain ⟨cc, hcc⟩ := hx
 refine callWith_kw (thn ((A4 he A0 hn) p2 pins s σ H (fun vs H1 => match vs with | [x] => Jt P lp (X.env.qual ++ "<lambda>") i σ Q x H1 | _ => False) I h) fun us s1 ⟨vs, H1, I1, r1, hv⟩ => ?_) ?_ ?_ rfl rfl
 ·match vs, hv, r1 with
  | [x], ⟨l, xs, d, kvs, kz, ex, hl, h64, hσ, hd, hval, tb, q⟩, r1 =>
  subst ex
  obtain ⟨u, rfl, ru⟩ := Gz r1
  cases ru
  refine kws_cons (Zi I1 hcd hC hB tb hdef (hcl cc hcc) fun f c' ctv H' s2 I2 hf Hf hc' tb' bt => kws_nil ?_)
  have hPs : ∃ u, H1 P = some (.tbl u) := tb.elim (fun e => ⟨_, e⟩) (fun ⟨c, e, _⟩ => ⟨_, e⟩)
  obtain ⟨pt, hPt⟩ := hPs
  have hl2 : H' l = some (.lst (xs.map V.str)) := bt _ _ (fun z => by rw [z, hPt] at hl; cases hl) hl
  have hd2 : H' d = some (.dK kvs) := bt _ _ (fun z => by rw [z, hPt] at hd; cases hd) hd
  obtain ⟨its, rv, hil, hlt⟩ := Ay I2 hl2
  obtain ⟨eit, hit⟩ := Y0 rv
  obtain ⟨m, F⟩ := I2.fr
  obtain ⟨zd, nd, dv, rel, hdd⟩ := I2.hok d _ hd2
  have hcell : s2.heap.IsCell cc (some (.ref d)) := by
   obtain ⟨m', hn', hl'⟩ := I2.loc
   obtain ⟨u, ru, lk⟩ := hl' i lv (.ref d) hN hσ (.inr (.inl hlv))
   cases ru
   rcases lk with ⟨hk, _⟩ | ⟨_, c2, e2, e3⟩
   ·have hk : X.env.scope.names.lookup lv = some .local := hk
    rw [hlv] at hk; cases hk
   ·rw [hcc] at e2; cases e2; exact e3
  have hrec : s2.heap.CodeRec (.ref c') (X.env.qual ++ "<lambda>") := af I2.hok hc'
  have nL : ∀ b o, s2.heap.get? b = some o -> (∀ es ep, o.data ≠ .dict es ep) -> b ≠ X.env.locals := fun b o e n z => by
   obtain ⟨oL, es, ep, e2, d2, _⟩ := F.ns
   rw [<- z, e] at e2; cases e2; exact n _ _ d2
  have keepA : ∀ (h : Heap) (own : List (Addr × Obj)), Fr X.base X.env.locals h m -> News X.base X.env.locals h (Dk X.base s2.heap X.env.locals ++ own) -> ∀ b o, b ≠ X.env.locals -> s2.heap.get? b = some o -> h.get? b = some o := fun h own F' N' b o nb e => by
   cases z : X.base.get? b with
   | some u =>
    have := I2.bk b u z
    rw [e] at this; cases this
    exact F'.keep b _ z
   | none => exact (N' (b, o) (Zx1 _ (M8 nb z e))).1
  have hil2 : its.length = xs.length := by have := rv.length; rw [Zzz] at this; exact this.symm
  have step : ∀ (v : Value), v ∈ its -> ∀ (h : Heap) (tk : Nat) (own : List (Addr × Obj)), Fr X.base X.env.locals h m -> News X.base X.env.locals h (Dk X.base s2.heap X.env.locals ++ own) ->
    wpAny (model X.prog X.w) X.A.in1.in1 (call (.ref f) [v]) (fun v' s' => ∃ h' tk' t', s' = { s2 with heap := h', toks := tk' } /\ v' = .int (kz (strV v)) t' /\ ∀ b o, h.get? b = some o -> h'.get? b = some o) (fun _ _ => False) { s2 with heap := h, toks := tk } := by
   intro v hvm h tk own F' N'
   obtain ⟨t, ev⟩ := hit v hvm
   have hmem : strV v ∈ xs := by rw [<- eit]; exact Zzr.mpr ⟨v, hvm, rfl⟩
   have kp := keepA h own F' N'
   obtain ⟨w', hw, rw'⟩ := RelO.some_of (v := .int (kz (strV v))) (o := valueAt dv (.inr (strV v))) (by have := rel.val (.inr (strV v)); rw [hval _ hmem] at this; exact this)
   obtain ⟨tk', ew⟩ := rw'
   subst ew
   have dL : d ≠ X.env.locals := fun z => by rw [z, I2.free] at hd2; cases hd2
   have cL : cc ≠ X.env.locals := I2.cne lv cc hcc
   have fL : f ≠ X.env.locals := nL f _ hf (fun es ep z => by cases z)
   have c'L : c' ≠ X.env.locals := fun z => by rw [z, I2.free] at hc'; cases hc'
   have hroom : X.A.depth < recursionLimit := by have := hr.dp; omega
   have hk1 := dk (prog := X.prog) (w := X.w) (A := X.A.in1.in1) (s := { s2 with heap := h, toks := tk }) (nm := nm) (lv := lv) (x := strV v) (k := kz (strV v)) (t := tk') (t0 := t) (vs := dv) (kp f _ fL hf) (by
    obtain ⟨c2, o, vs, t2, e1, e2, r⟩ := hrec
    cases e1
    exact ⟨c', o, vs, t2, rfl, kp _ _ c'L e2, r⟩) (by
    obtain ⟨o, e1, r⟩ := hcell
    exact ⟨o, kp _ _ cL e1, r⟩) (by
    obtain ⟨o, es, ep, e1, r⟩ := hdd
    exact ⟨o, es, ep, kp _ _ dL e1, r⟩) hw hroom (I2.ok.mod.nolimit.keeps F'.keep) hsc (hbind cc c' _ ctv _) hn1 hn2 hn3
   rw [<- ev] at hk1
   exact hk1
  have fin : ∀ (D : Addr) (h' : Heap) (tk : Nat) (out : Array Value) (c : Nat), Fr X.base X.env.locals h' m -> News X.base X.env.locals h' ((D, seqObj "list" out c) :: Dk X.base s2.heap X.env.locals) -> (∀ q ∈ Dk X.base s2.heap X.env.locals, q.1 < D) -> (∀ u ∈ out.toList, u ∈ its) -> Hr kz xs (out.toList.map strV) -> EP X pins σ Q (.ref D) { s2 with heap := h', toks := tk } := by
   intro D h' tk out c F' N' hlt2 hsub hstab
   have hsort := D7 hstab
   have hD := N' (D, seqObj "list" out c) Zz2
   have N2 : News X.base X.env.locals h' (Dk X.base s2.heap X.env.locals ++ []) := fun p hp => N' p (Zz6 _ (by rw [Zza] at hp; exact hp))
   have kp := keepA h' [] F' N2
   have tL : ∀ b u, H' b = some u -> b ≠ X.env.locals := fun b u e z => by rw [z, I2.free] at e; cases e
   have neD : ∀ b o, s2.heap.get? b = some o -> b ≠ D := fun b o e z => by
    by_cases hb : b = X.env.locals
    ·exact hD.2.1 (z.symm.trans hb)
    ·cases y : X.base.get? b with
     | some u => rw [z] at y; rw [hD.2.2] at y; cases y
     | none => exact absurd (hlt2 (b, o) (M8 hb y e)) (by rw [z]; exact Zxa _)
   have HD : H' D = none := by
    cases y : H' D with
    | none => rfl
    | some u =>
     obtain ⟨o, e⟩ := (show ∃ o, s2.heap.get? D = some o from dc (I2.hok D u y))
     exact absurd rfl (neD D o e)
   have vs2 : Vals ((out.toList.map strV).map V.str) out.toList := M0 fun u hu => hit u (hsub u hu)
   have hlen : (out.toList.map strV).length = xs.length := hsort.1.length_eq
   have I3 : Inv X pins σ (upd H' D (.lst ((out.toList.map strV).map V.str))) { s2 with heap := h', gens := s2.gens, drawn := s2.drawn, toks := tk } := by
    refine I2.step (g' := s2.gens) (d' := s2.drawn) (ch := []) (fun _ z => nomatch z) (fun b o nb _ _ e _ => kp b o nb e) (fun b o nb _ _ e _ => ⟨o.slots, kp b o nb e⟩) (fun b o _ e n => by rw [A8 (neD b o e)]; exact n) (fun b o _ e => ?_)
     (fun b ys e => by rw [A8 (A9 e HD)]; exact e) (fun b o u e => by rw [A8 (A9 e HD)]; exact e) (fun b ps e => ⟨#[], by rw [A8 (A9 e HD), e]; simp⟩) (fun m' hm' => ?_) (fun b u e => ?_) I2.bare
    ·by_cases hb : b = X.env.locals
     ·obtain ⟨oL, _, _, e2, _⟩ := F'.ns
      exact ⟨oL, by rw [hb]; exact e2⟩
     ·exact ⟨o, kp b o hb e⟩
    ·have em : m' = m := funext fun x => hm'.agree F.ns x
     rw [em]
     exact F'.ns
    ·by_cases hb : b = D
     ·subst hb
      rw [A1] at e
      cases e
      refine ⟨by rw [Zzz, hlen]; exact B3 (by omega), out.toList, c, vs2, ?_⟩
      rw [Array.toArray_toList]
      exact hD.1
     ·rw [A8 hb] at e
      refine (I2.hok b u e).stay (fun b' u' hb' q' => kp b' u' ?_ q') (fun b' q' => by rw [A8 (A9 q' HD)]; exact q') fun b' ys q' => by rw [A8 (A9 q' HD)]; exact q'
      rcases hb' with r | r
      ·rw [r]; exact tL b u e
      ·exact tL b' _ r
   have H1D : H1 D = none := by
    cases y : H1 D with
    | none => rfl
    | some u =>
     have hDP : D ≠ P := fun z => by
      have : H' P = none := by rw [<- z]; exact HD
      rcases tb' with e | ⟨_, e, _⟩ <;> · rw [this] at e; cases e
     rw [bt _ _ hDP y] at HD; cases HD
   exact ⟨.ref D, _, I3, rfl, q D _ _ H1D A1 hsort hstab (tb'.same (A3 HD)) (bt.new HD)⟩
  by_cases h2 : 2 <= its.length
  ·refine kat_sortedK (f := .ref f) (b := false) F Sf hil h2 (by omega) (ksk_s1 _ _) (fun x => ksk_l1 _ _) (fun x => ksk_t1 _ _) fun D kS e1 h' F' N' hDk hlt2 => ?_
   have keys : ∀ (rest ks don : List Value) (e : Nat) (h : Heap) (tk : Nat), its = don ++ rest -> IntsAre ks ((don.map strV).map kz) -> Fr X.base X.env.locals h m -> News X.base X.env.locals h ((kS, seqObj "list" (Zyf ks) e) :: (D, seqObj "list" #[] e1) :: Dk X.base s2.heap X.env.locals) ->
     KatKeys X.prog X.w X.A.in1.in1 X.base X.env.locals m kS (.ref f) (fun ks e s' => wpAny (model X.prog X.w) X.A.in1.in1 (keyKind' (Zyf ks)) (fun κ s'' => (kas_sort its.length).kasWp (kas_ask X.prog X.w X.A.in1.in1 κ (katRev false ks)) (fun p s3 => KatFin X.base X.env.locals m kS D ks e e1 (katRev false (p.toList.map fun i => (katRev false its).getD i Value.none)) (fun s4 => EP X pins σ Q (.ref D) s4) s3) s'') (fun _ _ => False) s') rest ks e { s2 with heap := h, toks := tk } := by
    intro rest
    induction rest with
    | nil =>
     intro ks don e h tk eq hi Fh Nh
     rw [Zza] at eq
     subst eq
     have hkl : ks.length = its.length := by have := hi.length; rw [Zzz, Zzz] at this; exact this
     show wpAny (model X.prog X.w) X.A.in1.in1 (keyKind' (Zyf ks)) _ _ _
     rw [ksk_kind (keys := Zyf ks) (kz := (its.map strV).map kz) (by simpa using hi) (by simp; omega)]
     refine wpAny_pure ?_
     have kat : ∀ i, i < its.length -> ∃ t, ks.getD i Value.none = .int (kz (strV (its.getD i Value.none))) t := fun i hi2 => by
      have h1 : ((its.map strV).map kz)[i]? = some (kz (strV (its.getD i Value.none))) := by
       rw [Zzx, Zzx, Zzu hi2, Zzh, Zzu hi2]; rfl
      obtain ⟨t, ht⟩ := Fi hi h1
      exact ⟨t, by rw [Zzh, ht]; rfl⟩
     refine Sr (n := its.length) (key := fun i => kz (strV (its.getD i Value.none))) (Qp := fun p => Srt its.length (fun i => kz (strV (its.getD i Value.none))) p its.length) (fun i j C hi2 hj2 hC => ?_) (fun p hp => ?_) (bx h2)
     ·obtain ⟨t1, e1'⟩ := kat i hi2
      obtain ⟨t2, e2'⟩ := kat j hj2
      show wpAny _ _ (keyLt' oneType' (ks.getD i Value.none) (ks.getD j Value.none)) C _ _
      rw [e1', e2']
      exact kat_lt_int hC
     ·have nkD : kS ≠ D := Zxf hDk
      have nall : ∀ q ∈ Dk X.base s2.heap X.env.locals, q.1 ≠ kS /\ q.1 ≠ D := fun q hq => by have := hlt2 q hq; exact ⟨Zys (Nat.lt_trans this hDk), Zys this⟩
      refine KatFin.intro Fh Nh (.head fun q hq => ?_) fun h3 c3 F3 N3 => KasFin.intro F3 N3 (.tail nkD (.head fun q hq => (nall q hq).2)) fun h4 c4 F4 N4 => ?_
      ·rcases Zzi.mp hq with z | z
       ·rw [z]; exact Zzc nkD
       ·exact (nall q z).1
      ·refine fin D h4 tk (Zyf (p.toList.map fun i => its.getD i Value.none)) c4 F4 (fun q hq => N4 q (Zz6 _ hq)) hlt2 (fun u hu => ?_) ?_
       ·have hu : u ∈ p.toList.map fun i => its.getD i Value.none := by simpa using hu
        obtain ⟨i, hi2, rfl⟩ := Zzr.mp hu
        have hi3 : i < its.length := Zxg.mp (hp.pm.mem_iff.mp hi2)
        rw [Zzh, Zzu hi3]
        exact Zw6 hi3
       ·have exs : ∀ i, xs.getD i "" = strV (its.getD i Value.none) := fun i => by
         rw [<- eit, Zzh, Zzh, Zzx]
         cases its[i]? <;> rfl
        refine ⟨p.toList, by rw [<- hil2]; exact hp.pm, ?_, ?_⟩
        ·rw [Zxi]
         exact Zxk fun i _ => (exs i).symm
        ·have : (fun i => kz (xs.getD i "")) = fun i => kz (strV (its.getD i Value.none)) := funext fun i => by rw [exs]
         rw [this]
         exact i9 hp
    | cons v r ih =>
     intro ks don e h tk eq hi Fh Nh
     have hvm : v ∈ its := by rw [eq]; simp
     have Nh2 : News X.base X.env.locals h (Dk X.base s2.heap X.env.locals ++ [(kS, seqObj "list" (Zyf ks) e), (D, seqObj "list" #[] e1)]) := fun q hq => by
      rcases Zyu.mp hq with z | z
      ·exact Nh q (Zz6 _ (Zz6 _ z))
      ·rcases Zzi.mp z with y | y
       ·rw [y]; exact Nh _ Zz2
       ·rw [Zz9.mp y]; exact Nh _ (Zz6 _ Zz2)
     refine KatKeys.cons (wpAny_mono (step v hvm h tk _ Fh Nh2) (fun v' s' hh => ?_) (fun _ _ z => z))
     obtain ⟨h3, tk3, t3, e1', e2', k3⟩ := hh
     subst e1' e2'
     have nkD : kS ≠ D := Zxf hDk
     refine KatBack.intro (F := Fh.kept k3) (N := Nh.grown k3) (U := .head fun q hq => ?_) fun h4 c4 F4 N4 => ?_
     ·rcases Zzi.mp hq with z | z
      ·rw [z]; exact Zzc nkD
      ·have := hlt2 q z; exact Zys (Nat.lt_trans this hDk)
     ·exact ih (ks ++ [.int (kz (strV v)) t3]) (don ++ [v]) c4 h4 tk3 (by rw [eq]; simp) (by rw [Zzf, Zzf]; exact ksk_snoc hi) F4 N4
   exact keys its [] [] 0 h' s2.toks rfl .nil F' N'
  ·refine ksk_sorted (kz := (its.map strV).map kz) (f := .ref f) (b := false) F Sf hil (by simp) (by omega) (ksk_s1 _ _) (fun x => ksk_l1 _ _) (fun x => ksk_t1 _ _) (fun j v kk hv hk h tk own F' N' => ?_) (fun D h' tk out c F' N' hlt2 hout => ?_)
   ·have ek : kk = kz (strV v) := by
     rw [Zzx, Zzx, hv] at hk
     exact (Zzo hk).symm
    subst ek
    refine wpAny_mono (step v (Zzt hv) h tk own F' N') (fun v' s' hh => ?_) (fun _ _ z => z)
    obtain ⟨h3, tk3, t3, e1, e2, k3⟩ := hh
    subst e1 e2
    exact ⟨h3, tk3, t3, rfl, rfl, F'.kept k3, N'.grown k3⟩
   ·obtain ⟨hsub, hsort⟩ := Wj hout
    rw [eit] at hsort
    exact fin D h' tk out c F' N' hlt2 hsub (Tp hsort.1 (by omega))
 ·rw [C8 hn]; rfl
 ·exact Cr hn
end
def mh (H : Hp) (a Pt : Addr) : Prop := ∀ b u, H b = some u -> (b = Pt /\ u = .tbl #[]) \/ (b = a /\ ∃ o xs, u = .frz o (.lst xs))
theorem Sw {P : Program} {w : World} {K : Frag} {mg mb : Str -> Option Value} {k : Nat} {fa a Pt ct : Addr} {fd : FuncData} {x : Str} {sp : Sp} {s₁ : Shared} {H : Hp}
  (KX : K.In s₁.heap) (hns : s₁.heap.Ns mainGlobals mg) (hb : s₁.heap.Ns builtinsNs mb) (hbb : ∀ x : Str, x ≠ "__name__" -> mb x = bootBuiltins x) (hlim : s₁.heap.NoLimit) (hg : s₁.gens = #[]) (hr : Room k callerA)
  (hT : s₁.heap.TableAt ct Pt #[]) (hBM : B2 mg s₁.heap) (hO : mh H a Pt) (hHK : ∀ b u, H b = some u -> K.lookup b = none) (ok : HOk P w H s₁.heap)
  (F : ∀ base : Heap, K.In base -> base.Ns mainGlobals mg -> B2 mg base -> FnOk P w K mg base CX0 k fa fd [x] sp) (hbind : ∀ (s : Shared) (u : Value), BindsTo s fd ⟨[u], []⟩ [(x, u)])
  (hsp : sp [.ref a] H (fun v _ => v = .bl true) fun _ _ _ => False) :
  codeAny (model P w) callerA (.call (.ref fa) ⟨[.ref a], []⟩) (fun r s' => r = .ok (.ret (.bool true)) /\ OldK s₁.heap s'.heap /\ s'.os = s₁.os /\ AllBare s'.gens) s₁ := by
 have noD : ∀ {b : Addr} {o : Obj}, s₁.heap.get? b = some o -> (∀ vs : Array Value, o.data ≠ .fields vs) -> (∀ vs n, o.data ≠ .seq vs n) -> H b = none := fun {b o} e n1 n2 => by
  cases q : H b with
  | none => rfl
  | some u =>
   have y := ok b u q
   rcases hO b u q with ⟨_, rfl⟩ | ⟨_, ob, xs, rfl⟩
   ·have y : s₁.heap.get? b = some { cls := .none, data := .fields #[] } := y
    rw [e] at y; cases y; exact absurd rfl (n1 _)
   ·obtain ⟨_, _, its, m, _, y3⟩ := y
    rw [e] at y3; cases y3; exact absurd rfl (n2 _ _)
 have baseG : ∀ {b : Addr} {o : Obj}, s₁.heap.get? b = some o -> H b = none -> (Oq s₁.heap H).get? b = some o := fun e n => Zo e n
 have nsB : ∀ {b : Addr} {m : Str -> Option Value}, s₁.heap.Ns b m -> (Oq s₁.heap H).Ns b m := fun {b m} ⟨o, es, ep, e, d, r⟩ => ⟨o, es, ep, baseG e (noD e (fun _ z => by rw [d] at z; cases z) (fun _ _ z => by rw [d] at z; cases z)), d, r⟩
 have kB : K.In (Oq s₁.heap H) := fun b o e => baseG (KX b o e) (by
  cases q : H b with
  | none => rfl
  | some u => rw [hHK b u q] at e; cases e)
 have bB : B2 mg (Oq s₁.heap H) := by
  obtain ⟨bm, ob, b1, b2, b3, b4, b5, b6, b7⟩ := hBM
  exact ⟨bm, ob, b1, b2, b3, baseG b4 (noD b4 (fun _ z => by rw [b7] at z; cases z) (fun _ _ z => by rw [b7] at z; cases z)), b5, b6, b7⟩
 have mB : Mod K mg (Oq s₁.heap H) := ⟨kB, nsB hns, ⟨mb, nsB hb, hbb⟩, let ⟨mc, h1, h2⟩ := hlim; ⟨mc, nsB h1, h2⟩⟩
 have e0 : Env0 P w K mg (Oq s₁.heap H) callerA [] s₁ H := ⟨rfl, mB, fun b o e => d9 e, Zx0 (Xj _ _), trivial, (fun b hb => nomatch (show b ∈ ([] : List Addr) from hb)), ok, .of_eq hg⟩
 refine codeAny_mono ((F _ kB (nsB hns) bB).run callerA [] s₁ H ⟨[.ref a], []⟩ [.ref a] [.ref a] _ _ hr e0 (hbind s₁ (.ref a)) (.cons rfl .nil) hsp) fun r s' h => ?_
 cases r with
 | error e => exact h.elim
 | ok fl =>
  cases fl with
  | next => exact h.elim
  | brk => exact h.elim
  | cont => exact h.elim
  | ret u =>
   obtain ⟨v, H', os, bare, un, ok', r', q⟩ := h
   have q : v = .bl true := q
   subst q
   obtain rfl : u = Value.bool true := r'
   have old : ∀ b o, s₁.heap.get? b = some o -> asItWas s₁.heap s'.heap b o := fun b o e => by
    cases y : H b with
    | none => exact .inl (un.keep b o e y (by intro z; cases z) (by simp))
    | some u =>
     have ob := ok b u y
     rcases hO b u y with ⟨rfl, rfl⟩ | ⟨_, oo, xs, rfl⟩
     ·obtain ⟨more, e2⟩ := un.tbls b #[] y
      have ob : s₁.heap.get? b = some { cls := .none, data := .fields #[] } := ob
      rw [e] at ob
      cases ob
      have e3 : s'.heap.get? b = some { cls := .none, data := .fields (#[] ++ more) } := ok' b _ e2
      exact .inr (.inl ⟨hT.isCodeTable, rfl, #[], more, rfl, e3⟩)
     ·have e2 := un.frzs b oo _ y
      have e3 := (ok' b _ e2).1
      have e4 := ob.1
      rw [e] at e4
      cases e4
      exact .inl e3
   exact ⟨rfl, ⟨old, fun b o e => un.there b o e (by simp)⟩, os, bare⟩
theorem Xz {l : OpenLaw} {n k : Nat} {q : Program} {loose : List Str} {XP : (Str -> Option Value) -> Heap -> Prop} {YP : World -> Heap -> Prop} {d dw : DefRec} {K : Params -> Frag} {sp : World -> Addr -> Sp} {x wk : Str}
  (hn : l.most = some n) (hn2 : n <= sizeLine) (hdf : d.params.defaults = []) (hr : Room k callerA) (hY : ∀ (w : World) (h : Heap), YP w h -> (K w.params).In h) (hw : (recsOf q).find? (fun e => e.name == wk) = some dw)
  (F : ∀ (w : World) (mg : Str -> Option Value) (fa : Addr) (h : Heap), (K w.params).In h -> h.Ns mainGlobals mg -> mg d.name = some (.ref fa) ->
   ∃ (fd : FuncData) (ct Pt : Addr), (∀ (s : Shared) (u : Value), BindsTo s fd ⟨[u], []⟩ [(x, u)]) /\ tabIn (K w.params) wk = some (ct, Pt) /\ (K w.params).lookup Pt = none /\
    ∀ base : Heap, (K w.params).In base -> base.Ns mainGlobals mg -> B2 mg base -> FnOk l.prog w (K w.params) mg base CX0 k fa fd [x] (sp w Pt))
  (hsp : ∀ (w : World) (H : Hp) (a Pt : Addr) (ns : List Int), ns.length <= n -> H Pt = some (.tbl #[]) -> SqL (K w.params) H a (ns.map V.int) -> sp w Pt [.ref a] H (fun v _ => v = .bl true) fun _ _ _ => False) :
  WalkO q loose XP YP l.row.toRowW d [] (fun f vs => PySem.call f vs) := by
 refine Att.attach_call hn hdf fun w s₀ s₁ mg mb fa o pm cd doc a vs ns G Y ho hd hcd hmg hobj hints hlen hg => ?_
 have KX := hY w _ Y
 obtain ⟨fd, ct, Pt, hbd, htab, hKP, hF⟩ := F w mg fa _ KX G.T.g hmg
 obtain ⟨hC, hP⟩ := tab_of G.T KX hw htab
 have hT := hC.tab hP
 have aP : a ≠ Pt := fun z => by rw [z, hP] at hobj; cases hobj
 have hBM : B2 mg s₁.heap := by
  obtain ⟨bm, ob, b1, b2, b3, b4, b5, b6⟩ := G.T.bmain
  refine ⟨bm, ob, b1, b2, fun z => ?_, b3, b4, b5, b6⟩
  obtain ⟨og, es, ep, e, dg, _⟩ := G.T.g
  rw [<- z, b3] at e
  cases e
  rw [b6] at dg
  cases dg
 have rv := Ow hints
 have lenV := hints.length
 have okP : ∀ H : Hp, ObjOk l.prog w H s₁.heap Pt (.tbl #[]) := fun _ => hP
 cases hk : (K w.params).lookup a with
 | some oa =>
  have e := KX a oa hk
  rw [hobj] at e
  cases e
  refine Sw (H := upd (fun _ => none) Pt (.tbl #[])) KX G.T.g G.T.b G.T.builtins G.T.nolimit hg hr hT hBM (fun b u y => ?_) (fun b u y => ?_) (fun b u y => ?_) hF hbd (hsp w _ a Pt ns hlen A1 (.inr ⟨_, vs.toArray, _, hk, rfl, rfl, rfl, by rw [Zzp, lenV]; exact Zyw hlen hn2, by simpa using rv⟩))
  ·by_cases z : b = Pt
   ·subst z; rw [A1] at y; cases y; exact .inl ⟨rfl, rfl⟩
   ·rw [A8 z] at y; cases y
  ·by_cases z : b = Pt
   ·rw [z]; exact hKP
   ·rw [A8 z] at y; cases y
  ·by_cases z : b = Pt
   ·subst z; rw [A1] at y; cases y; exact okP _
   ·rw [A8 z] at y; cases y
 | none =>
  refine Sw (H := upd (upd (fun _ => none) Pt (.tbl #[])) a (.frz { cls := .type "list", data := .seq vs.toArray } (.lst (ns.map V.int)))) KX G.T.g G.T.b G.T.builtins G.T.nolimit hg hr hT hBM (fun b u y => ?_) (fun b u y => ?_) (fun b u y => ?_) hF hbd (hsp w _ a Pt ns hlen (by rw [A8 (Zzc aP), A1]) (.inl (.inr ⟨_, A1⟩)))
  ·by_cases z2 : b = a
   ·subst z2; rw [A1] at y; cases y; exact .inr ⟨rfl, _, _, rfl⟩
   ·rw [A8 z2] at y
    by_cases z : b = Pt
    ·subst z; rw [A1] at y; cases y; exact .inl ⟨rfl, rfl⟩
    ·rw [A8 z] at y; cases y
  ·by_cases z2 : b = a
   ·rw [z2]; exact hk
   ·rw [A8 z2] at y
    by_cases z : b = Pt
    ·rw [z]; exact hKP
    ·rw [A8 z] at y; cases y
  ·by_cases z2 : b = a
   ·subst z2; rw [A1] at y; cases y
    exact ⟨hobj, by rw [Zzz]; exact Zyw hlen hn2, vs, _, rv, hobj⟩
   ·rw [A8 z2] at y
    by_cases z : b = Pt
    ·subst z; rw [A1] at y; cases y; exact okP _
    ·rw [A8 z] at y; cases y
def ad (vs : Array Value) (c P : Addr) : Bool := (match vs.getD 18 .none with | .str _ _ => true | _ => false) && (match vs.getD 7 .none with | .int _ _ => true | _ => false) && (match vs.getD 9 .none with | .bool _ => true | _ => false) && (match vs.getD 10 .none with | .int _ _ => true | _ => false) && c != P
theorem Xp {K : Frag} {c P : Addr} {od : Option Addr} {vs : Array Value} {sl : Array (Option Value)} (tl : K.lookup c = some ⟨.type "code", od, .fields vs, sl⟩) (h11 : vs[11]? = some (.ref P)) (h : ad vs c P = true) : codeHdIn K c P = true := by
 unfold codeHdIn
 rw [tl]
 simp only [h11, BEq.rfl, Bool.true_and]
 exact h
theorem i5 {K : Frag} {x : Str} {f c P : Addr} {oc : Value} {od odc : Option Addr} {fd : FuncData} {sl slc : Array (Option Value)} {vs : Array Value} (hn : nsIn K mainGlobals x = some (some (.ref f))) (hl : K.lookup f = some ⟨oc, od, .func fd, sl⟩) (hc : fd.code = .ref c) (tl : K.lookup c = some ⟨.type "code", odc, .fields vs, slc⟩) (h11 : vs[11]? = some (.ref P)) : tabIn K x = some (c, P) := by
 unfold tabIn
 simp only [hn, hl, hc, tl, h11]
theorem T3 {K : Frag} {x : Str} {f c P : Addr} {oc : Value} {od : Option Addr} {fd : FuncData} {sl : Array (Option Value)} (h : tabIn K x = some (c, P)) (hn : nsIn K mainGlobals x = some (some (.ref f))) (hl : K.lookup f = some ⟨oc, od, .func fd, sl⟩) : fd.code = .ref c := by
 unfold tabIn at h
 simp only [hn, hl] at h
 split at h
 ·rename_i c' hc
  split at h
  ·split at h
   ·cases h
    exact hc
   ·cases h
  ·cases h
 ·cases h
theorem T4 {nm lv : Str} {scope : Scope} {env : Env} {cc : Addr} (hs : scope.names = [(nm, .local), (lv, .free)]) (h : env.cells.lookup lv = some cc) : closureFor scope env = pure [(lv, cc)] := by
 unfold closureFor
 rw [hs]
 simp [cellOf, h]
structure bd (K : Frag) (f c P : Addr) : Prop where
 code : ∀ oc od fd sl, K.lookup f = some ⟨oc, od, .func fd, sl⟩ -> fd.code = .ref c
 hd : codeHdIn K c P = true
theorem Fun.okC {P : Program} {w : World} {K : Frag} {mg : Str -> Option Value} {base : Heap} {x qual : Str} {st : Stmt} {f c Pt : Addr} {fd : FuncData} {N ps : List Str} {k : Nat} {sp : Sp} (F : Fun K x qual st f fd) (C : bd K f c Pt) (S : Al N ps (Aa st)) (len : ∀ vs H Q E, sp vs H Q E -> vs.length = ps.length)
  (hbody : ∀ (A : Around) (outer : List Env) (s : Shared) (H : Hp) (vs : List V) (Q : VK) (E : XK), Room k (A.deeper (envOfC qual (Aa st) s.heap.objs.size f (.ref c))) -> sp vs H Q E ->
   ∃ t, PSs (Ul CX0 P w K mg base N qual (Aa st) f (.ref c) A outer s H E).nox (Ai st) t /\ t { nx := fun _ H' => Q .non H', rt := Q } (Iw N vs) H) : FnOk P w K mg base CX0 (k + 1) f fd ps sp := by
 obtain ⟨oc, od, kV, doc, pm, an, cdv, ct, osl, rfl, lk, hcd⟩ := F.ex
 have e : cdv = .ref c := C.code _ _ _ _ lk
 subst e
 refine gt lk hcd S len fun A outer s H vs Q E hr hsp => ?_
 obtain ⟨t, h, q⟩ := hbody A outer s H vs Q E hr hsp
 exact ⟨t, h.nox, q⟩
end L2
namespace NP
open PySem L2
def G7 (S : Sh) (x : Str) : List Wr := S.wares.filter fun w => decide (x ∈ w.parts.map (·.1))
def lvF (S : Sh) : Nat -> Str -> Int
 | 0, _ => 0
 | k + 1, x => Ev ((G7 S x).map fun u => 1 + lvF S k u.name)
def lv (S : Sh) (x : Str) : Int := lvF S S.wares.length x
structure Lev (S : Sh) : Prop where
 nd : (S.wares.map (·.name)).Nodup
 own : ∀ w ∈ S.wares, ∀ p ∈ w.parts, p.1 ∈ S.wares.map (·.name)
 low : ∃ r : Str -> Nat, (∀ w ∈ S.wares, r w.name < S.wares.length) /\ ∀ w ∈ S.wares, ∀ p ∈ w.parts, r p.1 < r w.name
theorem mem_users {S : Sh} {x : Str} {w : Wr} : w ∈ G7 S x ↔ w ∈ S.wares /\ x ∈ w.parts.map (·.1) := by
 unfold G7
 rw [Zyg]
 exact ⟨fun ⟨a, b⟩ => ⟨a, of_decide_eq_true b⟩, fun ⟨a, b⟩ => ⟨a, decide_eq_true b⟩⟩
theorem Zb (S : Sh) : ∀ k x, 0 <= lvF S k x
 | 0, _ => Zyx _
 | k + 1, x => Mt fun y hy => by
  obtain ⟨u, _, rfl⟩ := Zzr.mp hy
  have := Zb S k u.name
  show 0 <= 1 + lvF S k u.name
  omega
theorem Sn {S : Sh} {r : Str -> Nat} (hr : ∀ w ∈ S.wares, r w.name < S.wares.length) (hp : ∀ w ∈ S.wares, ∀ p ∈ w.parts, r p.1 < r w.name) : ∀ k w, w ∈ S.wares -> S.wares.length - r w.name <= k -> lvF S (k + 1) w.name = lvF S k w.name
 | 0, w, hw, h => by have := hr w hw; omega
 | k + 1, w, hw, h => by
  show Ev ((G7 S w.name).map fun u => 1 + lvF S (k + 1) u.name) = Ev ((G7 S w.name).map fun u => 1 + lvF S k u.name)
  congr 1
  apply Zxk
  intro u hu
  obtain ⟨h1, h2⟩ := mem_users.mp hu
  obtain ⟨p, hp1, hp2⟩ := Zzr.mp h2
  have h3 := hp u h1 p hp1
  rw [hp2] at h3
  have := hr u h1
  rw [Sn hr hp k u h1 (by omega)]
theorem lg {S : Sh} (L : Lev S) {w : Wr} (hw : w ∈ S.wares) : lv S w.name = Ev ((G7 S w.name).map fun u => 1 + lv S u.name) := by
 obtain ⟨r, h1, h2⟩ := L.low
 have := Sn h1 h2 S.wares.length w hw (by omega)
 exact this.symm
theorem Sm (S : Sh) (x : Str) : 0 <= lv S x := Zb S _ x
theorem Kx {S : Sh} (L : Lev S) {w : Wr} (hw : w ∈ S.wares) {p : Str × Int} (hp : p ∈ w.parts) : lv S w.name + 1 <= lv S p.1 := by
 obtain ⟨v, hv, e⟩ := Zzr.mp (L.own w hw p hp)
 rw [<- e, lg L hv]
 have : 1 + lv S w.name <= Ev ((G7 S v.name).map fun u => 1 + lv S u.name) := Qv (Zzr.mpr ⟨w, mem_users.mpr ⟨hw, Zzr.mpr ⟨p, hp, e.symm⟩⟩, rfl⟩)
 omega
theorem Sl {S : Sh} {k : Nat} {g : Str -> Int} (h0 : ∀ x, 0 <= g x) (h : ∀ w ∈ S.wares, ∀ p ∈ w.parts, 1 + lvF S k w.name <= g p.1) (x : Str) : lvF S (k + 1) x <= g x := by
 show Ev ((G7 S x).map fun u => 1 + lvF S k u.name) <= g x
 unfold Ev
 split
 ·exact h0 x
 ·rename_i hn
  obtain ⟨u, hu, e⟩ := Zzr.mp (Kw hn)
  rw [<- e]
  obtain ⟨h1, h2⟩ := mem_users.mp hu
  obtain ⟨p, hp1, hp2⟩ := Zzr.mp h2
  rw [<- hp2]
  exact h u h1 p hp1
def fnD (names : List Str) (g : Str -> Int) : List (Key × V) := names.map fun x => (Zxx x, V.int (g x))
theorem L3 (names : List Str) (g : Str -> Int) : (fnD names g).length = names.length := by unfold fnD; rw [Zzz]
theorem Gc {names : List Str} {g : Str -> Int} {x : Str} (h : x ∈ names) : Bq (fnD names g) (.inr x) = some (.int (g x)) := by
 induction names with
 | nil => cases h
 | cons y r ih =>
  unfold fnD
  rw [Zz3]
  by_cases e : y = x
  ·rw [Cf (by rw [e])]
   rw [e]
  ·rw [C7 (fun z => e (Zx9 z))]
   exact ih ((Zzi.mp h).resolve_left fun z => e z.symm)
theorem Zu {names : List Str} {g : Str -> Int} {x : Str} (h : x ∉ names) : Bq (fnD names g) (.inr x) = none := by
 induction names with
 | nil => rfl
 | cons y r ih =>
  unfold fnD
  rw [Zz3, C7 (fun z => h (by rw [<- Zx9 z]; exact Zz2))]
  exact ih fun m => h (Zz6 _ m)
theorem Vx {names : List Str} {g : Str -> Int} {y : Str} {v : Int} (h : y ∈ names) : Ey (fnD names g) (.inr y) (.int v) = fnD names fun x => if x = y then v else g x := by
 unfold Ey
 rw [if_pos (by rw [Er, Gc h]; rfl)]
 unfold fnD
 rw [Zxi]
 apply Zxk
 intro x _
 show (if Zxx x = (Zxx y : Key) then (Zxx x, V.int v) else (Zxx x, V.int (g x))) = (Zxx x, V.int (if x = y then v else g x))
 by_cases e : x = y
 ·rw [if_pos (by rw [e]), if_pos e]
 ·rw [if_neg (fun z => e (Zx9 z)), if_neg e]
theorem Hm {names : List Str} {g g' : Str -> Int} (h : ∀ x ∈ names, g x = g' x) : fnD names g = fnD names g' := by
 unfold fnD
 exact Zxk fun x hx => by rw [h x hx]
theorem R6 {names : List Str} {g : Str -> Int} {y : Str} {v : Int} (h : y ∉ names) : Ey (fnD names g) (.inr y) (.int v) = fnD (names ++ [y]) fun x => if x = y then v else g x := by
 rw [Ko _ (Zu h)]
 unfold fnD
 rw [Zzf]
 congr 1
 ·refine Zxk fun x hx => ?_
  show (Zxx x, V.int (g x)) = (Zxx x, V.int (if x = y then v else g x))
  rw [if_neg (fun e : x = y => h (e ▸ hx))]
 ·show [(Zxx y, V.int v)] = [(Zxx y, V.int (if y = y then v else g y))]
  rw [if_pos rfl]
theorem Eb {xs : List Str} (nd : xs.Nodup) {i : Nat} {x : Str} (h : xs[i]? = some x) : x ∉ xs.take i := by
 intro m
 obtain ⟨j, hj⟩ := Zxv.mp m
 rw [Zwj] at hj
 split at hj
 ·rename_i hlt
  have hj2 : j < xs.length := (Zzg.mp hj).1
  have := (List.getElem?_inj hj2 nd).mp (hj.trans h.symm)
  omega
 ·cases hj
end NP
namespace L2
open PySem PySem.Spec PyProof.Rows
def ItV (a : Addr) (xs : List V) : It := ⟨fun i H => H a = some (.lst xs) /\ i < xs.length, fun i H x H' => H' = H /\ xs.reverse[i]? = some x, fun i H => H a = some (.lst xs) /\ i = xs.length⟩
theorem lu (a : Addr) (xs : List V) : Ov (ItV a xs) xs.length (fun i x => xs.reverse[i]? = some x) (fun H => H a = some (.lst xs)) :=
 ⟨fun _ _ h o => ⟨o, h⟩, fun _ _ _ _ _ _ y => y, fun _ o => ⟨o, rfl⟩⟩
theorem Y5 {P : Program} {w : World} {K : Zzv} {tg : Expr} (a it : Addr) (xs : List V) : L8 P w K tg (ItV a xs) [it] it (fun i h => i <= xs.length /\ h.IsRevIter it a ((xs.length : Int) - 1 - (i : Int))) where
 mem := by simp
 obj := fun i h st b hb => by
  have e : b = it := by simpa using hb
  subst e
  obtain ⟨_, o, e, c, d⟩ := st
  exact ⟨o, e, fun v z => by rw [d] at z; cases z⟩
 keep := fun i h h' st k => ⟨st.1, st.2.at fun o e => k it (by simp) o e⟩
 item := by
  intro X hP hw hK hc i pins s σ H E I hf st hg
  subst hP hw hK
  obtain ⟨hq, hlt⟩ := hg
  obtain ⟨its, rv, hl, hal⟩ := Ay I hq
  obtain ⟨f0, f1, f2, f3, f4, f5⟩ := hf it (by simp)
  have hai : a ≠ it := A9 hq f0
  have hlen := rv.length
  have hsz : its.toArray.size = xs.length := by rw [Zzp]; exact hlen.symm
  have st2 : s.heap.IsRevIter it a ((its.toArray.size : Int) - 1 - (i : Int)) := by rw [hsz]; exact st.2
  refine (Walks.listRev (prog := X.prog) (w := X.w) (A := X.A) (I.ok.hd hc) it a hai its.toArray).item i s _ E (by omega) ⟨by omega, st2, hl⟩ fun v h' tk hx st3 hk => ?_
  have I1 : Inv X pins σ H { s with heap := h', toks := tk } := I.turned (t' := tk) (fun b o hb e => hk b o (by simpa using hb) e) f0 f1 f3 f4 f5
  obtain ⟨_, ⟨oi, ei, ci, di⟩, _⟩ := id st3
  have hlt2 : its.length - 1 - i < its.length := by omega
  have hx : its[its.length - 1 - i]? = some v := by rw [hsz, hlen] at hx; simpa using hx
  obtain ⟨u, hu, ru⟩ := rv.get (x := xs[xs.length - 1 - i]) (i := xs.length - 1 - i) (by simp [show xs.length - 1 - i < xs.length by omega])
  have eu : u = v := by rw [hlen, hx] at hu; exact (Zzo hu).symm
  subst eu
  refine ⟨u, rfl, Pe (s := { s with heap := h', toks := tk }) ei ci di (by decide) ⟨xs[xs.length - 1 - i], H, I1, ru, ⟨rfl, ?_⟩, ?_, fun b hb => (hf b hb).1⟩⟩
  ·rw [List.getElem?_reverse hlt]
   simp [show xs.length - 1 - i < xs.length by omega]
  ·have := st3.2.1
   rw [hsz] at this
   exact ⟨hlt, this⟩
 done := by
  intro X hP hw hK hc i pins s σ H E I hf st hg
  subst hP hw hK
  obtain ⟨hq, hlt⟩ := hg
  obtain ⟨its, rv, hl, hal⟩ := Ay I hq
  obtain ⟨f0, f1, f2, f3, f4, f5⟩ := hf it (by simp)
  have hai : a ≠ it := A9 hq f0
  have hlen := rv.length
  have hsz : its.toArray.size = xs.length := by rw [Zzp]; exact hlen.symm
  subst hlt
  have st2 : s.heap.IsRevIter it a ((its.toArray.size : Int) - 1 - ((its.toArray.size : Nat) : Int)) := by rw [hsz]; exact st.2
  exact (Walks.listRev (prog := X.prog) (w := X.w) (A := X.A) (I.ok.hd hc) it a hai its.toArray).done s _ E ⟨Zzs _, st2, hl⟩ fun h' tk hk => ⟨rfl, I.turned (t' := tk) (fun b o hb e => hk b o (by simpa using hb) e) f0 f1 f3 f4 f5⟩
 self := fun _ _ _ _ _ st h => wpAny_pyIter_revIter st.2 h
section
variable {X : Cx}
def eh (ta : TA) : TI := fun σ H R => ta σ H fun vs H1 => ∃ a xs, vs = [.ref a] /\ H1 a = some (.lst xs) /\ R (ItV a xs) H1
theorem ii {tg : Expr} {p pos : Pos} {e : Expr} {ta : TA} (hg : Gl X "reversed") (hm : X.mg "reversed" = none) (ha : PA X [e] ta) (hn : C2 [e] = true := by rfl) : PI X tg (.Call (.Name "reversed" p) [e] [] pos) (eh ta) := by
 intro pins s σ H R I h
 refine Call_ (Fa I hg hm NP.T6 (Zy2 (thn (ha pos pins s σ H _ I h) fun us s1 ⟨vs, H1, I1, r1, q1⟩ => ?_) (C8 hn) rfl))
 obtain ⟨a, xs, e, hq, q⟩ := q1
 subst e
 obtain ⟨u, rfl, ru⟩ := Gz r1
 cases ru
 obtain ⟨its, rv, hl, hal⟩ := Ay I1 hq
 have hlen := rv.length
 refine call_reversed_list hl ?_
 have hrv : (s1.heap.push (revObj a ((its.toArray.size : Int) - 1))).IsRevIter s1.heap.objs.size a ((xs.length : Int) - 1 - ((0 : Nat) : Int)) := by
  refine ⟨_, Zzj _ rfl, rfl, ?_⟩
  rw [Zzp, <- hlen]
  simp [revObj]
 have I2 : Inv X pins σ H1 { s1 with heap := s1.heap.push (revObj a ((its.toArray.size : Int) - 1)) } := I1.kept (t' := s1.toks) fun b o e => Zzy _ e
 refine wpAny_pyIter_revIter (s := { s1 with heap := s1.heap.push (revObj a ((its.toArray.size : Int) - 1)) }) hrv ⟨_, [_], _, _, H1, rfl, I2, Y5 a _ xs, ⟨Zyr _, hrv⟩, fun b hb => ?_, q⟩
 have e := Zz9.mp hb
 subst e
 exact I1.fpOk (Zzs _) (I1.hok.fresh (Zzs _))
end
end L2
namespace NP
open PySem L2
def Lz (S : Sh) (x : Str) : Option Wr := S.wares.find? fun w => decide (w.name = x)
theorem J6 {S : Sh} (nd : (S.wares.map (·.name)).Nodup) {w : Wr} (hw : w ∈ S.wares) : Lz S w.name = some w := by
 unfold Lz
 cases e : S.wares.find? (fun v => decide (v.name = w.name)) with
 | none =>
  have := List.find?_eq_none.mp e w hw
  simp at this
 | some v =>
  have h1 : v.name = w.name := of_decide_eq_true (by simpa using List.find?_some e)
  have h2 := List.mem_of_find?_eq_some e
  obtain ⟨i, hi, ei⟩ := Zw2.mp hw
  obtain ⟨j, hj, ej⟩ := Zw2.mp h2
  have : (S.wares.map (·.name))[i]? = (S.wares.map (·.name))[j]? := by
   rw [Zzx, Zzx, Zzu hi, Zzu hj, ei, ej]
   show some w.name = some v.name
   rw [h1]
  have e2 := (List.getElem?_inj (by rw [Zzz]; exact hi) nd).mp this
  subst e2
  rw [<- ei, <- ej]
def tmF (S : Sh) : Nat -> Str -> Int
 | 0, _ => 0
 | k + 1, x => match Lz S x with
  | some w => w.lag + Ev (w.parts.map fun p => tmF S k p.1)
  | none => 0
def tm (S : Sh) (x : Str) : Int := tmF S S.wares.length x
theorem N5 {S : Sh} (L : Lev S) (k : Nat) {w : Wr} (hw : w ∈ S.wares) : tmF S (k + 1) w.name = w.lag + Ev (w.parts.map fun p => tmF S k p.1) := by
 rw [tmF, J6 L.nd hw]
theorem Rk {S : Sh} (L : Lev S) {r : Str -> Nat} (hp : ∀ w ∈ S.wares, ∀ p ∈ w.parts, r p.1 < r w.name) : ∀ k w, w ∈ S.wares -> r w.name < k -> tmF S (k + 1) w.name = tmF S k w.name
 | 0, w, _, h => by omega
 | k + 1, w, hw, h => by
  rw [N5 L _ hw, N5 L _ hw]
  congr 2
  apply Zxk
  intro p hpm
  obtain ⟨v, hv, e⟩ := Zzr.mp (L.own w hw p hpm)
  have h3 := hp w hw p hpm
  rw [<- e] at h3 ⊢
  exact Rk L hp k v hv (by omega)
theorem Y7 {S : Sh} (L : Lev S) {w : Wr} (hw : w ∈ S.wares) : tm S w.name = w.lag + Ev (w.parts.map fun p => tm S p.1) := by
 obtain ⟨r, h1, h2⟩ := L.low
 have h3 := Rk L h2 S.wares.length w hw (h1 w hw)
 rw [N5 L _ hw] at h3
 exact h3.symm
theorem S1 {S : Sh} (L : Lev S) {ys : List Str} (so : Mi (lv S) (S.wares.map (·.name)) ys) {j : Nat} {w : Wr} (hw : w ∈ S.wares) (hj : ys.reverse[j]? = some w.name) {p : Str × Int} (hp : p ∈ w.parts) : p.1 ∈ ys.reverse.take j := by
 have hlv := Kx L hw hp
 have hm : p.1 ∈ ys.reverse := by rw [List.mem_reverse]; exact so.1.mem_iff.mpr (L.own w hw p hp)
 have pw : ys.reverse.Pairwise fun a b => lv S b <= lv S a := by rw [List.pairwise_reverse]; exact so.2
 obtain ⟨i, hi⟩ := Zxv.mp hm
 obtain ⟨hil, ei⟩ := Zzg.mp hi
 obtain ⟨hjl, ej⟩ := Zzg.mp hj
 have hlt : i < j := by
  rcases Nat.lt_trichotomy i j with z | z | z
  ·exact z
  ·subst z
   rw [ei] at ej
   rw [ej] at hlv
   omega
  ·have := Zxr.mp pw j i hjl hil z
   rw [ei, ej] at this
   omega
 exact Zzt (i := i) (by rw [Zwj, if_pos hlt]; exact hi)
end NP
namespace L2
open PySem PySem.Spec PyProof.Rows PySem.W NP
def mf (a b : Str) : Prop := ¬ b.cps.toList < a.cps.toList
def W4 (xs ys : List Str) : Prop := ys.Perm xs /\ ys.Pairwise mf
section
variable {X : Cx} {pins : List (Addr × Obj)} {σ : St} {H : Hp} {s : Shared} {h' : Heap}
end
section
variable {X : Cx}
def Tt : List V -> Hp -> VK -> Prop := fun vs H Q => ∃ a xs, vs = [.ref a] /\ H a = some (.lst (xs.map V.str)) /\ xs.length < 64 /\ ∀ p ys, H p = none -> W4 xs ys -> Q (.ref p) (upd H p (.lst (ys.map V.str)))
def Tu : List V -> Hp -> VK -> Prop := fun vs H Q => ∃ a kvs xs, vs = [.ref a] /\ H a = some (.dK kvs) /\ kvs.map (·.1) = xs.map Zxx /\ xs.length < 64 /\ ∀ p ys, H p = none -> W4 xs ys -> Q (.ref p) (upd H p (.lst (ys.map V.str)))
def Tw : List V -> Hp -> VK -> Prop := fun vs H Q => ∃ a kvs, vs = [.ref a] /\ Rd H a (.dK kvs) /\ ∀ p, H p = none -> Q (.ref p) (upd H p (.dK kvs))
def Q7 : V -> List V -> Hp -> VK -> Prop := fun x vs H Q => ∃ a kvs, x = .ref a /\ vs = [] /\ H a = some (.dK kvs) /\ Q .non (upd H a (.dK []))
end
end L2
set_option maxHeartbeats 4000000
namespace L2
open PySem PyProof.Rows
def Q6 : V -> List V -> Hp -> VK -> Prop := fun x vs H Q => ∃ (l : Addr) (xs : List Str) (y : Str), x = .ref l /\ vs = [.str y] /\ H l = some (.lst (xs.map V.str)) /\ y ∈ xs /\ Q (.int (xs.idxOf y : Nat)) H
theorem Wi {kz : Str -> Int} {xs ys zs : List Str} (h : Hr kz xs ys) (h' : Hr kz xs zs) : ys = zs := by
 obtain ⟨ps, p1, rfl, p2⟩ := h
 obtain ⟨qs, q1, rfl, q2⟩ := h'
 have e : ps = qs := List.Perm.eq_of_pairwise (fun a b _ _ h1 h2 => by unfold klt at h1 h2; omega) p2 q2 (p1.trans q1.symm)
 rw [e]
end L2
set_option exponentiation.threshold 4000
namespace L2
open PySem PySem.Spec PyProof.Rows
def Ys : V -> V -> Hp -> VK -> Prop := fun o i H Q => ∃ (p : Addr) (kvs : List (Key × V)) (k : Str) (v : V), o = .ref p /\ i = .str k /\ H p = some (.dK kvs) /\ Bq kvs (.inr k) = some v /\ Q v H
end L2
namespace NP
open PySem L2
def Bp (m g : Int) : Int := if -(-m / g) > 0 then -(-m / g) else 0
theorem X7 (m g : Int) : 0 <= Bp m g := by unfold Bp; split <;> omega
theorem Op {m g : Int} (h : 0 < g) : m <= g * Bp m g := by
 have h1 := Int.mul_ediv_add_emod (-m) g
 have h2 := Int.emod_nonneg (-m) (b := g) (by omega)
 have h3 : g * (-(-m / g)) = -(g * (-m / g)) := Int.mul_neg ..
 unfold Bp
 split
 ·rw [h3]; omega
 ·rename_i q
  have h4 : 0 <= -m / g := by omega
  have h5 : 0 <= g * (-m / g) := Zvr (by omega) h4
  omega
theorem Qw {m g : Int} (h : 0 < g) (hl : 0 < Bp m g) : g * Bp m g < m + g := by
 have h1 := Int.mul_ediv_add_emod (-m) g
 have h2 := Zvp (-m) h
 have h3 : g * (-(-m / g)) = -(g * (-m / g)) := Int.mul_neg ..
 unfold Bp at hl ⊢
 split
 ·rw [h3]; omega
 ·rename_i q
  rw [if_neg q] at hl
  omega
theorem X8 {m g : Int} (h : 0 < g) (hm : 0 <= m) : Bp m g <= m := by
 by_cases hz : 0 < Bp m g
 ·have h1 := Qw h hz
  have h2 : Bp m g * 1 <= Bp m g * g := Zws (by omega) (by omega)
  have h3 : g * Bp m g = Bp m g * g := Int.mul_comm ..
  have h4 : (g - 1) * 1 <= (g - 1) * Bp m g := Zws (by omega) (by omega)
  have h5 : (g - 1) * Bp m g = g * Bp m g - Bp m g := by rw [Int.sub_mul, Int.one_mul]
  omega
 ·omega
def bw : List Int -> Int
 | [] => 0
 | x :: r => x + bw r
def be (us : List Wt) (x : Str) : Int := bw (us.map fun u => if u.1 = x then u.2.2 else 0)
def i0 (L : Str -> Int) (w : Wr) (x : Str) : Int := bw (w.parts.map fun p => if p.1 = x then L w.name * p.2 else 0)
def bg (ws : List Wr) (L : Str -> Int) (x : Str) : Int := bw (ws.map fun w => i0 L w x)
def iw (S : Sh) (L : Str -> Int) (x : Str) : Int := be S.wants x + bg S.wares L x
def exF (S : Sh) : Nat -> Str -> Int
 | 0, _ => 0
 | k + 1, x => match Lz S x with
  | some w => Bp (iw S (exF S k) x) w.gives
  | none => 0
def ex (S : Sh) (x : Str) : Int := exF S S.wares.length x
theorem La {S : Sh} {x : Str} {w : Wr} (h : Lz S x = some w) : w ∈ S.wares /\ w.name = x := ⟨List.mem_of_find?_eq_some h, of_decide_eq_true (by simpa using List.find?_some h)⟩
theorem M9 {m g : Int} (h : 0 < g) (hm : m <= 0) : Bp m g = 0 := by
 unfold Bp
 have : 0 <= -m / g := Int.ediv_nonneg (by omega) (by omega)
 rw [if_neg (by omega)]
def above (f g : Int) (xs ys : List Int) : Nat -> Int
 | 0 => -f
 | i + 1 => above f g xs ys i + (xs.getD i 0 - ys.getD i 0) + g * Bp (-(above f g xs ys i + (xs.getD i 0 - ys.getD i 0))) g
def Ix (f g : Int) (xs ys : List Int) (i : Nat) : Int := Bp (-(above f g xs ys i + (xs.getD i 0 - ys.getD i 0))) g
def lots (f g : Int) (xs ys : List Int) (n : Nat) : List Int := (Zyy n).map (Ix f g xs ys)
theorem So (f g : Int) (xs ys : List Int) (n : Nat) : (lots f g xs ys n).length = n := by simp [lots]
theorem X6 (f g : Int) (xs ys : List Int) (n : Nat) : lots f g xs ys (n + 1) = lots f g xs ys n ++ [Ix f g xs ys n] := by
 unfold lots
 rw [Zyd, Zzf]
 rfl
theorem Zc {f g : Int} {xs ys : List Int} {n i : Nat} (h : i < n) : (lots f g xs ys n)[i]? = some (Ix f g xs ys i) := by simp [lots, h]
theorem Lq {f g : Int} {xs ys : List Int} {n i : Nat} (h : i < n) : (lots f g xs ys n).getD i 0 = Ix f g xs ys i := by rw [Zzh, Zc h]; rfl
theorem Uv (f g : Int) (xs ys : List Int) (i : Nat) : above f g xs ys (i + 1) = above f g xs ys i + (xs.getD i 0 - ys.getD i 0) + g * Ix f g xs ys i := rfl
theorem T9 {f g : Int} {xs ys : List Int} (hg : 0 < g) (i : Nat) : 0 <= above f g xs ys (i + 1) := by
 have := Op (m := -(above f g xs ys i + (xs.getD i 0 - ys.getD i 0))) hg
 rw [Uv]
 unfold Ix
 omega
theorem Zd (f g : Int) (xs ys : List Int) (i : Nat) : 0 <= Ix f g xs ys i := X7 _ _
theorem aj {f g : Int} {xs ys : List Int} (hg : 0 < g) (hf : 0 <= f) (i : Nat) : -f <= above f g xs ys i := by
 cases i with
 | zero => exact Zyx _
 | succ i => have := T9 (f := f) (xs := xs) (ys := ys) hg i; omega
theorem Ze {f g : Int} {xs ys : List Int} (hg : 0 < g) (hf : 0 <= f) {i : Nat} (hx : 0 <= xs.getD i 0) (hy : 0 <= ys.getD i 0) : Ix f g xs ys i <= f + ys.getD i 0 := by
 have h1 := aj (f := f) (xs := xs) (ys := ys) hg hf i
 unfold Ix
 by_cases h : 0 <= -(above f g xs ys i + (xs.getD i 0 - ys.getD i 0))
 ·have := X8 hg h
  omega
 ·rw [M9 hg (by omega)]
  omega
def LRF (S : Sh) : Nat -> Str -> List Int
 | 0, _ => []
 | k + 1, x => match Lz S x with
  | some w => lots w.floor w.gives (B1 (daysN S) (Co w)) (Bb S (LRF S k) x) (daysN S)
  | none => []
def LR (S : Sh) (x : Str) : List Int := LRF S S.wares.length x
theorem Qo {S : Sh} {plan plan' : Str -> List Int} {nm : Str} (h : ∀ t ∈ S.wares, ∀ p ∈ t.parts, p.1 = nm -> plan t.name = plan' t.name) (d : Nat) : Cm S plan nm d = Cm S plan' nm d := by
 unfold Cm
 congr 1
 refine Hs fun t ht => ?_
 unfold pAt
 refine Hs fun p hp => ?_
 by_cases e : p.1 = nm
 ·rw [if_pos e, if_pos e, h t ht p hp e]
 ·rw [if_neg e, if_neg e]
theorem Nq {S : Sh} {plan plan' : Str -> List Int} {nm : Str} (h : ∀ t ∈ S.wares, ∀ p ∈ t.parts, p.1 = nm -> plan t.name = plan' t.name) : Bb S plan nm = Bb S plan' nm := Cs fun d _ => Qo h d
theorem Oe {S : Sh} (L : Lev S) (k : Nat) {w : Wr} (hw : w ∈ S.wares) : LRF S (k + 1) w.name = lots w.floor w.gives (B1 (daysN S) (Co w)) (Bb S (LRF S k) w.name) (daysN S) := by rw [LRF, J6 L.nd hw]
theorem Te {S : Sh} (L : Lev S) {r : Str -> Nat} (hr : ∀ w ∈ S.wares, r w.name < S.wares.length) (hp : ∀ w ∈ S.wares, ∀ p ∈ w.parts, r p.1 < r w.name) : ∀ k w, w ∈ S.wares -> S.wares.length - r w.name <= k -> LRF S (k + 1) w.name = LRF S k w.name
 | 0, w, hw, h => by have := hr w hw; omega
 | k + 1, w, hw, h => by
  rw [Oe L _ hw, Oe L _ hw]
  congr 1
  refine Nq fun u hu p hpm e => ?_
  have h3 := hp u hu p hpm
  rw [e] at h3
  have := hr u hu
  exact Te L hr hp k u hu (by omega)
theorem Td {S : Sh} (L : Lev S) {w : Wr} (hw : w ∈ S.wares) : LR S w.name = lots w.floor w.gives (B1 (daysN S) (Co w)) (Bb S (LR S) w.name) (daysN S) := by
 obtain ⟨r, h1, h2⟩ := L.low
 have h3 := Te L h1 h2 S.wares.length w hw (by omega)
 rw [Oe L _ hw] at h3
 exact h3.symm
theorem Lx {S : Sh} (L : Lev S) {w : Wr} (hw : w ∈ S.wares) : (LR S w.name).length = daysN S := by rw [Td L hw, So]
theorem Y8 {S : Sh} (L : Lev S) {ys : List Str} (so : Mi (lv S) (S.wares.map (·.name)) ys) {i : Nat} {nm : Str} (hi : ys[i]? = some nm) {t : Wr} (ht : t ∈ S.wares) {p : Str × Int} (hp : p ∈ t.parts) (e : p.1 = nm) : t.name ∈ ys.take i := by
 have h1 := Kx L ht hp
 rw [e] at h1
 obtain ⟨j, hj⟩ := Zxv.mp (so.1.mem_iff.mpr (Zzr.mpr ⟨t, ht, rfl⟩))
 obtain ⟨hil, ei⟩ := Zzg.mp hi
 obtain ⟨hjl, ej⟩ := Zzg.mp hj
 have hlt : j < i := by
  rcases Nat.lt_trichotomy j i with z | z | z
  ·exact z
  ·subst z
   rw [ei] at ej
   rw [ej] at h1
   omega
  ·have := Zxr.mp so.2 i j hil hjl z
   rw [ei, ej] at this
   omega
 exact Zzt (i := j) (by rw [Zwj, if_pos hlt]; exact hj)
structure Uw (S : Sh) : Prop where
 wb : ∀ w ∈ S.wares, (1 <= w.gives /\ w.gives <= 10 ^ 41) /\ (0 <= w.floor /\ w.floor <= 10 ^ 41) /\ 0 <= w.stock /\ w.parts.length <= 12 /\ ∀ p ∈ w.parts, 1 <= p.2 /\ p.2 <= 10 ^ 41
 com : ∀ w ∈ S.wares, ∀ p ∈ w.coming, 0 <= p.2
 few : S.wares.length <= 12
 wt : S.wants.length <= 20 /\ ∀ u ∈ S.wants, 0 <= u.2.2 /\ u.2.2 <= 10 ^ 41
theorem Mq {α : Type} {l : List α} {f : α -> Int} (h : ∀ x ∈ l, 0 <= f x) : 0 <= Bz f l := by
 induction l with
 | nil => exact Zyx _
 | cons x r ih =>
  rw [Hb]
  have h1 := h x Zz2
  have h2 := ih fun y hy => h y (Zz6 _ hy)
  omega
theorem Px {α : Type} {l : List α} {f : α -> Int} {c : Int} {n : Nat} (hc : 0 <= c) (hl : l.length <= n) (h : ∀ x ∈ l, f x <= c) : Bz f l <= n * c := by
 induction l generalizing n with
 | nil => exact Zvr (Int.natCast_nonneg n) hc
 | cons x r ih =>
  cases n with
  | zero => cases hl
  | succ n =>
   rw [Hb]
   have h1 := h x Zz2
   have h2 := ih (n := n) (Nat.le_of_succ_le_succ hl) fun y hy => h y (Zz6 _ hy)
   have e : ((n + 1 : Nat) : Int) * c = n * c + c := by rw [Int.natCast_add, Int.add_mul]; simp
   omega
theorem Mw {xs : List Int} {B : Int} (hB : 0 <= B) (h : ∀ x ∈ xs, 0 <= x /\ x <= B) (i : Nat) : 0 <= xs.getD i 0 /\ xs.getD i 0 <= B := by
 rw [Zzh]
 cases e : xs[i]? with
 | none => exact ⟨Zyx _, hB⟩
 | some x => exact h x (Zzt e)
theorem Us {xs : List Int} {B : Int} (hB : 0 <= B) (h : ∀ x ∈ xs, 0 <= x /\ x <= B) (lag : Int) (d : Nat) : 0 <= bAt xs lag d /\ bAt xs lag d <= B := by
 unfold bAt
 split
 ·exact Mw hB h _
 ·exact ⟨Zyx _, hB⟩
theorem X2 {S : Sh} (E : Uw S) {plan : Str -> List Int} {B : Int} (hB : 0 <= B) (h : ∀ nm, ∀ x ∈ plan nm, 0 <= x /\ x <= B) (nm : Str) (d : Nat) : 0 <= Cm S plan nm d /\ Cm S plan nm d <= 20 * 10 ^ 41 + 12 * (12 * (10 ^ 41 * B)) := by
 have hB2 : 0 <= 10 ^ 41 * B := Zvr (by decide +kernel) hB
 have w0 : 0 <= Bz (wAt nm d) S.wants := Mq fun u hu => by
  unfold wAt
  split
  ·exact (E.wt.2 u hu).1
  ·exact Zyx _
 have w1 : Bz (wAt nm d) S.wants <= (20 : Nat) * (10 : Int) ^ 41 := Px (by decide +kernel) E.wt.1 fun u hu => by
  unfold wAt
  split
  ·exact (E.wt.2 u hu).2
  ·decide +kernel
 have p0 : 0 <= Bz (pAt plan nm d) S.wares := Mq fun t ht => Mq fun p hp => by
  split
  ·exact Zvr (by have := ((E.wb t ht).2.2.2.2 p hp).1; omega) (Us hB (h t.name) t.lag d).1
  ·exact Zyx _
 have p1 : Bz (pAt plan nm d) S.wares <= (12 : Nat) * (12 * (10 ^ 41 * B)) := Px (by omega) E.few fun t ht => by
  have : pAt plan nm d t <= (12 : Nat) * (10 ^ 41 * B) := Px hB2 (E.wb t ht).2.2.2.1 fun p hp => by
   split
   ·have h3 := (E.wb t ht).2.2.2.2 p hp
    have h4 := Us hB (h t.name) t.lag d
    exact Int.mul_le_mul h3.2 h4.2 h4.1 (by decide +kernel)
   ·exact hB2
  exact this
 unfold Cm
 exact ⟨by omega, Int.add_le_add w1 p1⟩
theorem T8 {S : Sh} (E : Uw S) {w : Wr} (hw : w ∈ S.wares) (d : Nat) : 0 <= Co w d := by
 unfold Co
 have h1 : 0 <= (if d = 0 then w.stock else 0) := by
  split
  ·exact (E.wb w hw).2.2.1
  ·exact Zyx _
 have h2 : 0 <= Bz (cAt d) w.coming := Mq fun p hp => by
  unfold cAt
  split
  ·exact E.com w hw p hp
  ·exact Zyx _
 omega
theorem ay {S : Sh} (E : Uw S) : ∀ (k : Nat) (nm : Str), ∀ x ∈ LRF S k nm, 0 <= x /\ x <= 10 ^ (45 * k)
 | 0, nm, x, h => by cases h
 | k + 1, nm, x, h => by
  have hB : (0 : Int) <= 10 ^ (45 * k) := Int.pow_nonneg (by decide)
  have h1 : (1 : Int) <= 10 ^ (45 * k) := Int.pow_pos (by decide)
  have e : (10 : Int) ^ (45 * (k + 1)) = 10 ^ (45 * k) * 10 ^ 45 := by rw [<- Int.pow_add]; rfl
  rw [LRF] at h
  split at h
  ·rename_i w hw
   have hw2 := (La hw).1
   unfold lots at h
   obtain ⟨i, hi, rfl⟩ := Zzr.mp h
   have hi := Zxg.mp hi
   have hwb := E.wb w hw2
   have hn := X2 E hB (fun y => ay E k y) nm i
   have e1 : (B1 (daysN S) (Co w)).getD i 0 = Co w i := Cp hi
   have e2 : (Bb S (LRF S k) nm).getD i 0 = Cm S (LRF S k) nm i := Cp hi
   have h2 := Ze (f := w.floor) (g := w.gives) (xs := B1 (daysN S) (Co w)) (ys := Bb S (LRF S k) nm) (i := i) (by omega) hwb.2.1.1 (by rw [e1]; exact T8 E hw2 i) (by rw [e2]; exact hn.1)
   rw [e2] at h2
   refine ⟨Zd _ _ _ _ _, ?_⟩
   rw [e]
   have hn2 := hn.2
   have hf := hwb.2.1.2
   generalize (10 : Int) ^ (45 * k) = B at hB h1 hn2 ⊢
   omega
  ·cases h
theorem W9 {S : Sh} (E : Uw S) (nm : Str) : ∀ x ∈ LR S nm, 0 <= x /\ x < 10 ^ 600 := fun x hx => by
 have h1 := ay E S.wares.length nm x hx
 have h2 : (10 : Int) ^ (45 * S.wares.length) <= 10 ^ (45 * 12) := by
  have : (10 : Nat) ^ (45 * S.wares.length) <= 10 ^ (45 * 12) := Nat.pow_le_pow_right (by decide) (Nat.mul_le_mul_left _ E.few)
  exact_mod_cast this
 exact ⟨h1.1, Zy7 (Zy1 h1.2 h2) (by decide +kernel)⟩
def D1 (row : List Int) (lag : Int) : Nat -> Option Nat
 | 0 => none
 | n + 1 => match D1 row lag n with
  | some d => some d
  | none => if (n : Int) < lag /\ 0 < row.getD n 0 then some n else none
def D4 (row : List Int) (lag : Int) : Option Nat := D1 row lag row.length
theorem Jm {row : List Int} {lag : Int} : ∀ {n : Nat}, D1 row lag n = none -> ∀ e, e < n -> ¬ ((e : Int) < lag /\ 0 < row.getD e 0)
 | 0, _, e, he => absurd he (Nat.not_lt_zero _)
 | n + 1, h, e, he => by
  rw [D1] at h
  split at h
  ·cases h
  ·rename_i q
   split at h
   ·cases h
   ·rename_i c
    by_cases z : e = n
    ·subst z
     exact c
    ·exact Jm q e (by omega)
theorem O7 {row : List Int} {lag : Int} {n d : Nat} (h : D1 row lag n = some d) : ∀ k, D1 row lag (n + k) = some d
 | 0 => h
 | k + 1 => by
  show D1 row lag ((n + k) + 1) = some d
  rw [D1, O7 h k]
theorem Uk {row : List Int} {lag : Int} {n d : Nat} (h : D1 row lag n = some d) (hn : n <= row.length) : D4 row lag = some d := by
 have := O7 h (row.length - n)
 rw [Zvw hn] at this
 exact this
theorem Md {row : List Int} {lag : Int} : ∀ {n d : Nat}, D1 row lag n = some d -> d < n /\ (d : Int) < lag /\ 0 < row.getD d 0 /\ ∀ e, e < d -> ¬ ((e : Int) < lag /\ 0 < row.getD e 0)
 | 0, d, h => by cases h
 | n + 1, d, h => by
  rw [D1] at h
  split at h
  ·rename_i d' e
   obtain rfl := Zzo h
   obtain ⟨h1, h2, h3, h4⟩ := Md e
   exact ⟨by omega, h2, h3, h4⟩
  ·rename_i e
   split at h
   ·rename_i c
    obtain rfl := Zzo h
    exact ⟨by omega, c.1, c.2, fun i hi => Jm e i hi⟩
   ·cases h
def Ep (S : Sh) (plan : Str -> List Int) (w : Wr) : Nat -> Option (Str × Nat)
 | 0 => none
 | n + 1 => match Ep S plan w n with
  | some x => some x
  | none => if D4 (plan w.name) w.lag = some n then some ("early", n) else if (Et S plan w).getD n 0 < w.floor then some ("below", n) else none
def Iu (S : Sh) (plan : Str -> List Int) (w : Wr) : Option (Str × Nat) := Ep S plan w (daysN S)
theorem O5 {S : Sh} {plan : Str -> List Int} {w : Wr} {n : Nat} {x : Str × Nat} (h : Ep S plan w n = some x) : ∀ k, Ep S plan w (n + k) = some x
 | 0 => h
 | k + 1 => by
  show Ep S plan w ((n + k) + 1) = some x
  rw [Ep, O5 h k]
theorem O4 {S : Sh} {plan : Str -> List Int} {w : Wr} {n : Nat} {x : Str × Nat} (h : Ep S plan w n = some x) (hn : n <= daysN S) : Iu S plan w = some x := by
 have := O5 h (daysN S - n)
 rw [Zvw hn] at this
 exact this
def Kb (S : Sh) (plan : Str -> List Int) (ys : List Str) : Nat -> Option (Str × Str × Nat)
 | 0 => none
 | n + 1 => match Kb S plan ys n with
  | some x => some x
  | none => match ys[n]? with
   | none => none
   | some y => match Lz S y with
    | none => none
    | some w => (Iu S plan w).map fun x => (x.1, y, x.2)
def Pb (S : Sh) (plan : Str -> List Int) (ys : List Str) : Option (Str × Str × Nat) := Kb S plan ys ys.length
theorem Su {S : Sh} {plan : Str -> List Int} {ys : List Str} {n : Nat} {x : Str × Str × Nat} (h : Kb S plan ys n = some x) : ∀ k, Kb S plan ys (n + k) = some x
 | 0 => h
 | k + 1 => by
  show Kb S plan ys ((n + k) + 1) = some x
  rw [Kb, Su h k]
theorem Zk {S : Sh} {plan : Str -> List Int} {ys : List Str} {n : Nat} {x : Str × Str × Nat} (h : Kb S plan ys n = some x) (hn : n <= ys.length) : Pb S plan ys = some x := by
 have := Su h (ys.length - n)
 rw [Zvw hn] at this
 exact this
theorem Xe {S : Sh} {plan : Str -> List Int} {ys : List Str} {n : Nat} {w : Wr} (nd : (S.wares.map (·.name)).Nodup) (h : Kb S plan ys n = none) (hy : ys[n]? = some w.name) (hw : w ∈ S.wares) : Kb S plan ys (n + 1) = (Iu S plan w).map fun x => (x.1, w.name, x.2) := by
 rw [Kb, h, hy]
 show (match Lz S w.name with | none => none | some w' => (Iu S plan w').map fun x : Str × Nat => (x.1, w.name, x.2)) = _
 rw [J6 nd hw]
def du : Option (Str × Str × Nat) -> List V
 | none => [.str "good"]
 | some (k, nm, d) => [.str k, .str nm, .int d]
end NP
set_option maxHeartbeats 400000
namespace L2
open PySem PySem.Spec PyProof.Rows PySem.W NP
section
variable {prog : Program} {w : World} {A : Around} {E : Value -> Shared -> Prop} {s : Shared}
end
def Ts : List V -> Hp -> VK -> Prop := fun vs H Q => ∃ (a : Addr) (as : List Addr) (kz : Nat -> Int), vs = [.ref a] /\ H a = some (.lst (as.map V.ref)) /\ as.length < 64 /\ (∀ i, i < as.length -> H (as.getD i 0) = some (.tup [.int (kz i), .int i])) /\
 ∀ (r : Addr) (ps : List Nat), H r = none -> ps.Perm (Zyy as.length) -> ps.Pairwise (klt kz) -> Q (.ref r) (upd H r (.lst (ps.map fun i => V.ref (as.getD i 0))))
end L2
namespace L2
open PySem PySem.Spec PyProof.Rows
def Ug (ns : Nat -> Int) : Nat -> Int
 | 0 => ns 0
 | k + 1 => if ns (k + 1) < Ug ns k then ns (k + 1) else Ug ns k
section
variable {prog : Program} {w : World} {A : Around} {R : Result -> Shared -> Prop} {I : Addr} {fp wr : List Addr} {n : Nat} {P : Nat -> Value -> Prop} {St : Nat -> Heap -> Prop}
end
def minL (ns : List Int) : Int := Ug (fun i => (ns[i]?).getD 0) (ns.length - 1)
section
variable {X : Cx}
def Yq : List V -> Hp -> VK -> Prop := fun vs H Q => ∃ a ns, vs = [.ref a] /\ H a = some (.lst (ns.map V.int)) /\ ns ≠ [] /\ Q (.int (minL ns)) H
end
end L2
namespace L2
open PySem PySem.Spec PyProof.Rows PySem.W NP
section
variable {X : Cx}
end
end L2
namespace L2
open PySem PySem.Spec PyProof.Rows
section
variable {X : Cx}
theorem R3 : PIp X .Sub (rI0 fun i j => .int (i - j)) := fun pins s σ H x y v u Q I rx ry q => e7 pins s σ H x y v u Q I rx ry q
end
end L2
set_option maxHeartbeats 4000000
namespace L2
open PySem PySem.Spec PyProof.Rows PySem.W
theorem ObjOk.ex {P : Program} {w : World} {H : Hp} {h : Heap} {a : Addr} {o : HO} (x : ObjOk P w H h a o) : ∃ ob, h.get? a = some ob := by
 cases o with
 | lst xs => obtain ⟨_, _, _, _, e⟩ := x; exact ⟨_, e⟩
 | tup xs => obtain ⟨_, _, _, ob, e, _⟩ := x; exact ⟨ob, e⟩
 | dK kvs => obtain ⟨_, _, _, _, o, _, _, e, _⟩ := x; exact ⟨o, e⟩
 | dT kvs => obtain ⟨_, _, _, _, o, _, _, e, _⟩ := x; exact ⟨o, e⟩
 | set S n => obtain ⟨ob, _, _, _, e, _⟩ := x; exact ⟨ob, e⟩
 | ins C dx fs => obtain ⟨_, _, _, e, _⟩ := x; exact ⟨_, e⟩
 | own y => exact x
 | xd fs => obtain ⟨_, ⟨od, _, _, e, _⟩, _⟩ := x; exact ⟨od, e⟩
 | rng lo hi => obtain ⟨_, _, _, e⟩ := x; exact ⟨_, e⟩
 | frz ob u => exact ⟨_, x.1⟩
 | tbl ps => exact ⟨_, x⟩
 | met f y => exact ⟨_, x⟩
 | ext φ => exact x.2.1
structure Fl (P : Program) (w : World) (fs : List Addr) (H : Hp) (h : Heap) (a : Addr) (H' : Hp) (B h' : Heap) : Prop where
 un : Un fs [] H H' h h'
 hok : HOk P w H' h'
 new : h.get? a = none
 free : H' a = none
 k1 : ∀ b o, h.get? b = some o -> H b = none -> b ∉ fs -> B.get? b = some o
 k2 : ∀ b o u, H' b = some u -> h'.get? b = some o -> B.get? b = some o
 k3 : ∀ b o, h.get? b = some o -> b ∉ fs -> ∃ o', B.get? b = some o'
 fr : ∀ b ∈ fs, ∃ o, h.get? b = some o /\ H b = none /\ ∀ vs, o.data ≠ .fields vs
section
variable {P : Program} {w : World} {fs : List Addr} {H H' H0 : Hp} {h h0 h1 h2 B : Heap} {a L : Addr}
theorem Fl.slots (F : Fl P w fs H h a H' B h1) (up : h1.UpToSlots h2) {b : Addr} {o : Obj} (e : h.get? b = some o) (hb : b ∈ fs) : ∃ sl, h2.get? b = some { o with slots := sl } := by
 obtain ⟨o', e', n, hd⟩ := F.fr b hb
 rw [e] at e'
 cases e'
 obtain ⟨sl, q⟩ := F.un.slot b o e n hb (by simp)
 obtain ⟨sl2, q2⟩ := up b _ q hd
 exact ⟨sl2, q2⟩
theorem Fl.on (F : Fl P w fs H h a H' B h1) (st : B.StaysIn h2) (up : h1.UpToSlots h2) : Fl P w fs H h a H' B h2 where
 un := {
  keep := fun b o e n hb _ => st b o (F.k1 b o e n hb)
  slot := fun b o e n hb _ => F.slots up e hb
  free := F.un.free
  there := fun b o e _ => by
   by_cases hb : b ∈ fs
   ·obtain ⟨sl, q⟩ := F.slots up e hb
    exact ⟨_, q⟩
   ·obtain ⟨o', q⟩ := F.k3 b o e hb
    exact ⟨o', st b o' q⟩
  tups := F.un.tups
  frzs := F.un.frzs
  tbls := F.un.tbls }
 hok := fun b u e => (F.hok b u e).stay (fun c o hc q => st c o (by
  rcases hc with rfl | hc
  ·exact F.k2 _ o u e q
  ·exact F.k2 c o _ hc q)) (fun _ q => q) fun _ _ q => q
 new := F.new
 free := F.free
 k1 := F.k1
 k2 := fun b o u e q => by
  obtain ⟨o1, q1⟩ := (F.hok b u e).ex
  have z := F.k2 b o1 u e q1
  have z2 := st _ _ z
  rw [q] at z2
  cases z2
  exact z
 k3 := F.k3
 fr := F.fr
theorem Fl.out (F : Fl P w (L :: fs) H h a H' B h1) (U : Un fs [] H0 H h0 h) (hL : h0.objs.size <= L) (fr : ∀ b ∈ fs, ∃ o, h0.get? b = some o /\ H0 b = none /\ ∀ vs, o.data ≠ .fields vs) : Fl P w fs H0 h0 a H' B h1 := by
 have nL : ∀ b o, h0.get? b = some o -> b ∉ fs -> b ∉ L :: fs := fun b o e hb z => by
  rcases Zzi.mp z with z | z
  ·rw [z] at e
   exact absurd (Zz4 (Zze e) hL) (Zxa _)
  ·exact hb z
 have nx : ∀ b : Addr, b ∉ ([] : List Addr) := fun b z => by cases z
 refine ⟨⟨fun b o e n hb hx => ?_, fun b o e n hb hx => ?_, fun b o e n hx => ?_, fun b o e hx => ?_, fun b xs e => F.un.tups b xs (U.tups b xs e), fun b o u e => F.un.frzs b o u (U.frzs b o u e), fun b ps e => ?_⟩, F.hok, ?_, F.free, fun b o e n hb => ?_, F.k2, fun b o e hb => ?_, fr⟩
 ·exact F.un.keep b o (U.keep b o e n hb hx) (U.free b o e n hx) (nL b o e hb) hx
 ·obtain ⟨sl, q⟩ := U.slot b o e n hb hx
  obtain ⟨sl2, q2⟩ := F.un.slot b _ q (U.free b o e n hx) (Zz6 _ hb) hx
  exact ⟨sl2, q2⟩
 ·obtain ⟨o', q⟩ := U.there b o e hx
  exact F.un.free b o' q (U.free b o e n hx) hx
 ·obtain ⟨o', q⟩ := U.there b o e hx
  exact F.un.there b o' q hx
 ·obtain ⟨m1, e1⟩ := U.tbls b ps e
  obtain ⟨m2, e2⟩ := F.un.tbls b _ e1
  exact ⟨m1 ++ m2, by rw [e2, Zvq]⟩
 ·cases e : h0.get? a with
  | none => rfl
  | some o =>
   obtain ⟨o', q⟩ := U.there a o e (nx a)
   rw [F.new] at q
   cases q
 ·exact F.k1 b o (U.keep b o e n hb (nx b)) (U.free b o e n (nx b)) (nL b o e hb)
 ·obtain ⟨o', q⟩ := U.there b o e (nx b)
  exact F.k3 b o' q (nL b o e hb)
end
section
variable {P : Program} {w : World} {K : Zzv} {mg : Str -> Option Value} {base : Heap} {N : List Str} {qual : Str} {scope : Scope} {f : Addr} {cd : Value} {A : Around} {outer : List Env} {s : Shared} {H : Hp} {E : XK}
end
section
variable {X : Cx} {pins : List (Addr × Obj)} {σ : St} {H H' : Hp} {s s' : Shared} {W : Value -> Shared -> Prop} {a : Addr} {cls : Value} {B : Heap}
end
abbrev TF := Nat -> St -> Hp -> (Hp -> Prop) -> Prop
section
variable {X : Cx} {e : Expr} {es : List Expr} {te : TE} {t : TF} {x : Str} {j : Nat} {p q : Pos}
theorem Vl {n : Nat} (h : n <= 1000000) : n <= sizeLine := Zyw h (by decide)
end
end L2
set_option maxHeartbeats 1000000
namespace L2
open PySem PySem.Spec PySem.Calls PyProof.Rows PySem.W Builtin Builtin.ObjectAttr Builtin.Getset_descriptor
section
variable {prog : Program} {w : World} {A : Around} {E : Value -> Shared -> Prop} {s : Shared} {K : Frag} {x D : Addr}
end
end L2
namespace L2
open PySem PySem.Spec PyProof.Rows PySem.W
section
variable {X : Cx}
theorem Rr (c : Array Nat) : ∀ (n : Nat) (acc : Array Nat), ((Zym n c).foldl (· ++ ·) acc).size = acc.size + n * c.size
 | 0, acc => by simp
 | n + 1, acc => by
  rw [Zy3, List.foldl_cons, Rr c n, Array.size_append, Nat.succ_mul]
  omega
end
section
variable {X : Cx}
def rRepC : R2 := fun x y H Q => ∃ (z : Str) (n : Int), x = .str z /\ y = .int n /\ z.length <= 1000 /\ 0 <= n /\ n <= 1000 /\ ∀ z' : Str, z'.length <= z.length * n.toNat + z.length -> (∀ c ∈ z'.cps.toList, c ∈ z.cps.toList) -> Q (.str z') H
theorem Vd (c : Array Nat) : ∀ (n : Nat) (acc : Array Nat) (x : Nat), x ∈ ((Zym n c).foldl (· ++ ·) acc).toList -> x ∈ acc.toList \/ x ∈ c.toList
 | 0, acc, x, h => .inl h
 | n + 1, acc, x, h => by
  rw [Zy3, List.foldl_cons] at h
  rcases Vd c n (acc ++ c) x h with z | z
  ·rw [Array.toList_append] at z
   exact Zyu.mp z
  ·exact .inr z
theorem cx : OpR X (binaryOp .Mult) rRepC := by
 intro pins s σ H x y v u Q I rx ry h
 obtain ⟨z, n, rfl, rfl, hz, h0, h1, q⟩ := h
 obtain ⟨t, rfl⟩ := rx
 obtain ⟨t', rfl⟩ := ry
 have hb : z.length * n.toNat <= 1000000 := by
  have : z.length * n.toNat <= 1000 * 1000 := Nat.mul_le_mul hz (by omega)
  omega
 refine P.mul_str (by rw [decide_eq_false (by omega), decide_eq_false (by omega)]; rfl) (fun hn _ hc => ?_) (fun _ _ => ?_) ?_
 ·have : (2 ^ 63 - 1) / n ≥ (2 ^ 63 - 1) / 1000 := by
   have a1 : (2 ^ 63 - 1 : Int) / 1000 * n <= 2 ^ 63 - 1 := by
    have : (2 ^ 63 - 1 : Int) / 1000 * n <= (2 ^ 63 - 1) / 1000 * 1000 := Zws h1 (by decide)
    exact Zy1 this (by decide)
   exact (Int.le_ediv_iff_mul_le (by omega)).mpr a1
  have : ((2 : Int) ^ 63 - 1) / 1000 ≥ 1000 := by decide
  omega
 ·unfold Builtin.Str.tooLong
  simp
  exact Vl hb
 ·split
  ·exact ⟨by decide, .str _, H, I.tok _, ⟨_, rfl⟩, q _ (Zyr _) (fun c hc => by cases hc)⟩
  ·split
   ·exact ⟨.str z, H, I, ⟨_, rfl⟩, q _ (Nat.le_add_left _ _) (fun c hc => hc)⟩
   ·have hl : (⟨(Zym n.toNat z.cps).foldl (· ++ ·) #[]⟩ : Str).length = z.length * n.toNat := by
     show ((Zym n.toNat z.cps).foldl (· ++ ·) #[]).size = z.length * n.toNat
     rw [Rr]
     have : n.toNat * z.cps.size = z.length * n.toNat := Nat.mul_comm ..
     simp
     omega
    exact ⟨by rw [hl]; exact Vl hb, .str _, H, I.tok _, ⟨_, rfl⟩, q _ (by rw [hl]; exact Zwy _ _) (fun c hc => Vd z.cps n.toNat #[] c hc |>.resolve_left (by simp))⟩
end
end L2
namespace L2
open PySem PySem.Spec PyProof.Rows PySem.W NP
section
variable {X : Cx}
def V7 (te : TE) : TE := fun σ H Q => te σ H fun x H1 => ∃ (a : Addr) (kvs : List (Key × V)) (ns : List Int), x = .ref a /\ H1 a = some (.dK kvs) /\ kvs.map (·.2) = ns.map V.int /\ ns ≠ [] /\ Q (.int (Ny ns)) H1
theorem U0 {l : Expr} {te : TE} {p apos cpos pos : Pos} (hc : X.calm = true) (hg : Gl X "max") (hm : X.mg "max" = none) (hl : PE X l te) (hbase : attributeBase l "values" X.env (eval l X.env) = eval l X.env := by rfl) (hline : (apos.endLine == cpos.line) = true := by rfl)
  (hn : C2 [.Call (.Attribute l "values" apos) [] [] cpos] = true := by rfl) :
  PE X (.Call (.Name "max" p) [.Call (.Attribute l "values" apos) [] [] cpos] [] pos) (V7 te) := by
 intro pins s σ H Q I h
 refine wpAny_Call_Name_kw (Fa I hg hm NP.Kc ?_ (by decide) (by decide))
 refine PyProof.Rows.callWith_builtin1 ?_ (Bn hn) (Cr (B6 hn).2)
 rw [Bn hn]
 show wpAny _ _ (spliced ((false, eval (.Call (.Attribute l "values" apos) [] [] cpos) X.env) :: backTo pos (starEach [] X.env))) _ _ s
 refine Calls.spliced_cons (wpAny_Call_method0_late hbase hline (thn (hl pins s σ H _ I h) fun v s1 ⟨x, H1, I1, r1, q1⟩ => ?_))
 obtain ⟨a, kvs, ns, e, ha, hk, hns, q⟩ := q1
 subst e
 cases r1
 obtain ⟨hz, hS, vs, rel, hdd⟩ := I1.hok a _ ha
 obtain ⟨ep, hat⟩ := hdd.dictAt
 obtain ⟨t1, t2, _⟩ := j7 I1 (.inl ⟨kvs, .inl ha⟩)
 refine ⟨"dict", "dict.values", PySem.F.plainAttrs_dict, PySem.F.slot_dict_values, PySem.F.type_dict_values, t1, t2, Zw9 rfl (PySem.evalArgs_none ?_)⟩
 refine call_meetsIn PySem.F.slot_dict_values t1 PySem.F.entry_dict_values (PySem.F.args_dict_values_1 _) (meets_dict_values (Be X.prog X.w) a hS) ⟨⟨vs, hat.dictOf⟩, ?_⟩
 have I3 : Inv X pins σ H1 { s1 with heap := s1.heap.push { cls := .type "dict_values", data := .fields #[.ref a] } } := I1.kept (t' := s1.toks) fun b o e => Zzy _ e
 refine Calls.spliced_nil ?_
 have K := PySem.W.kdl_values (prog := X.prog) (w := X.w) (knd := Be X.prog X.w) (r := s1.heap.objs.size) (d := a) (kvs := vs) (ep := ep)
 have hok : (s1.heap.push { cls := .type "dict_values", data := .fields #[.ref a] }).IsValuesView s1.heap.objs.size a /\ (s1.heap.push { cls := .type "dict_values", data := .fields #[.ref a] }).DictAt (Be X.prog X.w) a vs ep := ⟨⟨_, Zzj _ rfl, rfl, rfl⟩, hat.push _⟩
 have hlv : vs.length = ns.length := by
  have := congrArg Zx7 hk
  rw [Zzz, Zzz] at this
  rw [<- rel.length]
  exact this
 have hval : ∀ (i : Nat) (v : Value), (∃ k, vs[i]? = some (k, v)) -> ∃ t, v = .int ((ns[i]?).getD 0) t := fun i v ⟨k, e⟩ => by
  have hi : i < kvs.length := by rw [rel.length]; exact (Zzg.mp e).1
  obtain ⟨u, hu, ru⟩ := gp (k := kvs[i].1) (v := kvs[i].2) (i := i) rel (by simp [hi])
  rw [hu] at e
  have e := Zzo e
  have eu : u = v := congrArg Prod.snd e
  subst eu
  have e1 := congrArg (fun z => z[i]?) hk
  simp only [Zzx, Zzu hi, Zwv] at e1
  cases en : ns[i]? with
  | none => rw [en] at e1; cases e1
  | some n =>
   rw [en] at e1
   have e1 : kvs[i].2 = .int n := Zzo e1
   rw [e1] at ru
   exact ru
 generalize hh3 : s1.heap.push { cls := .type "dict_values", data := .fields #[.ref a] } = h3 at I3 hok
 have hsz : ∀ b o, s1.heap.get? b = some o -> h3.get? b = some o := fun b o e => by rw [<- hh3]; exact Zzy _ e
 obtain ⟨oI, St, hit, W, st⟩ := K.iter X.A.in1 { s1 with heap := h3 } (I3.ok.hd hc) hok
 have nm : (toString "max" ++ toString ".loop" : String) = "max.loop" := by decide
 refine call_function_tree F.kind_max F.plain_max F.entry_max (F.args_max1 _) ?_
 refine wpAny_bind (m := Zx5 "max" ["key", "default"] 0 ⟨[], []⟩) (wpAny_of_eq (show Zx5 "max" ["key", "default"] 0 ⟨[], []⟩ = pure [none, none] from rfl) (wpAny_bind (wpAny_pure (wpAny_bind (hit _ _ (wpAny_bind (wpAny_newObj_type ?_)))))))
 rw [nm]
 refine wpAny_pure ⟨plainId_quiet F.plain_max_loop _, ?_⟩
 have sz : (h3.push oI).objs.size = h3.objs.size + 1 := Zy6 ..
 have hlt := K.there h3 hok
 have nS : (h3.push oI).objs.size ∉ [h3.objs.size, a] := by
  rw [sz]
  simp only [Zzi, Zyz, or_false, not_or]
  exact ⟨Zwo _, Zxf (Zxc hlt.2)⟩
 have gS : ((h3.push oI).push { cls := .type "list", data := .seq #[] }).get? (h3.push oI).objs.size = some { cls := .type "list", data := .seq #[] } := Zzj _ rfl
 have st2 : St 0 ((h3.push oI).push { cls := .type "list", data := .seq #[] }) := W.frame 0 _ _ st fun b _ o e => Zzy _ e
 have hpos : 0 < vs.length := by rw [hlv]; exact Zvy.mpr hns
 refine Nx [] W (fun i => (ns[i]?).getD 0) hval _ nS hpos st2 gS fun t' h' tk hk' => ?_
 rw [hlv]
 refine ⟨.int (Ny ns), H1, I3.kept fun b o e => hk' b o ?_ ?_ (Zzy _ (Zzy _ e)), ⟨_, rfl⟩, q⟩
 ·simp only [Zzi, Zyz, or_false]
  exact Zys (Zze e)
 ·rw [sz]
  exact Zys (Zxc (Zze e))
end
end L2
set_option maxHeartbeats 4000000
namespace L2
open PySem PySem.Spec PyProof.Rows PySem.W NP
open Builtin Builtin.Str
section
variable {prog : Program} {w : World} {A : Around} {E : Value -> Shared -> Prop} {s : Shared}
theorem Ua {it t : Addr} {i : Nat} {vs : Array Value} {x : Value} {Q : Value -> Shared -> Prop} (g : s.heap.IsTupleIter it t i) (ht : s.heap.IsTuple t vs) (hx : vs[i]? = some x)
  (q : ∀ h', h'.IsTupleIter it t (i + 1) -> Zy5 it s.heap h' -> Q x { s with heap := h' }) : wpAny (model prog w) A (Zyi (.ref it)) Q E s := by
 have g0 := g
 obtain ⟨o, ho, hc, hd⟩ := g0
 obtain ⟨u, hu, _, k, hk⟩ := ht
 unfold Zyi
 refine wpAny_bind (wpAny_callSpecial?_slot (name := Str.ofString "__next__") g.typeIs F.slot_tuple_iterator_next (wpAny_call_entry F.slot_tuple_iterator_next g.typeIs F.entry_tuple_iterator_next ?_ (F.args_tuple_iterator_next_1 _)))
 refine (show wpAny _ _ (field (.ref it) 0 >>= _) _ _ s from wpAny_bind (wpAny_field ho hd (x := .ref t) rfl ?_))
 refine (show wpAny _ _ (if (Value.ref t == Value.none) = true then _ else _) _ _ s from ?_)
 rw [if_neg (by exact Zz0)]
 refine (show wpAny _ _ (field (.ref it) 1 >>= _) _ _ s from wpAny_bind (wpAny_field ho hd (x := .int i 0) rfl ?_))
 refine (show wpAny _ _ (seqItems? (.ref t) >>= _) _ _ s from wpAny_bind (wpAny_seqItems hu hk ?_))
 simp only [hx, Int.toNat_natCast]
 refine wpAny_bind (wpAny_setField ho hd (by simp) (wpAny_pure ⟨x, rfl, wpAny_pure (q _ ⟨_, Zx3 _ ho (Obj.isFreed_of_fields (Obj.data_mapFields hd _)), (Obj.cls_mapFields ..).trans hc, ?_⟩ (Zvz ..))⟩))
 rw [Obj.data_mapFields hd]
 simp [rawInt]
theorem X1 {it t : Addr} {i : Nat} {vs : Array Value} {Q : Value -> Shared -> Prop} (hh : A.handled = none) (g : s.heap.IsTupleIter it t i) (ht : s.heap.IsTuple t vs) (hx : vs[i]? = none)
  (q : ∀ h' e, Heap.ExtBut it s.heap h' -> (∃ o, h'.get? e = some o /\ o.cls = .type "StopIteration") -> E (.ref e) { s with heap := h' }) : wpAny (model prog w) A (Zyi (.ref it)) Q E s := by
 have g0 := g
 obtain ⟨o, ho, hc, hd⟩ := g0
 obtain ⟨u, hu, _, k, hk⟩ := ht
 unfold Zyi
 refine wpAny_bind (wpAny_callSpecial?_slot (name := Str.ofString "__next__") g.typeIs F.slot_tuple_iterator_next (wpAny_call_entry F.slot_tuple_iterator_next g.typeIs F.entry_tuple_iterator_next ?_ (F.args_tuple_iterator_next_1 _)))
 refine (show wpAny _ _ (field (.ref it) 0 >>= _) _ _ s from wpAny_bind (wpAny_field ho hd (x := .ref t) rfl ?_))
 refine (show wpAny _ _ (if (Value.ref t == Value.none) = true then _ else _) _ _ s from ?_)
 rw [if_neg (by exact Zz0)]
 refine (show wpAny _ _ (field (.ref it) 1 >>= _) _ _ s from wpAny_bind (wpAny_field ho hd (x := .int i 0) rfl ?_))
 refine (show wpAny _ _ (seqItems? (.ref t) >>= _) _ _ s from wpAny_bind (wpAny_seqItems hu hk ?_))
 simp only [hx, Int.toNat_natCast]
 refine wpAny_bind (wpAny_rule (wpAny_bind (wpAny_setField ho hd (by simp) (show wpAny _ _ (newExc (.type "StopIteration") [] >>= _) _ _ _ from wpAny_bind ?_))))
 simp only [newTuple, newExc]
 refine wpAny_bind (wpAny_newObj_type (wpAny_bind (m := firstArgMember _ _) (wpAny_of_eq (a := Value.none) (by first | rfl | (simp only [firstArgMember]; rfl)) (wpAny_newObj_type ?_ (by size_fits)))) (by size_fits))
 rw [raiseNew]
 refine wpAny_bind (wpAny_handled ?_)
 first
  | rw [show A.in1.handled = none from hh]
  | rw [hh]
 refine wpAny_bind (wpAny_pure (wpAny_throw (q _ _ (((Zvz ..).extBut.push _).push _) ⟨_, Zzj _ rfl, rfl⟩)))
theorem Zx (hh : A.handled = none) (it t : Addr) (hne : t ≠ it) (vs : Array Value) : Draws prog w A it [it, t] vs.size (fun i v => vs[i]? = some v) (fun i h => h.IsTupleIter it t i /\ h.IsTuple t vs) where
 live := fun _ _ st => by obtain ⟨⟨o, ho, _⟩, _⟩ := st; exact ⟨o, ho⟩
 frame := fun _ _ _ st hk => by
  obtain ⟨g, o, ho, r⟩ := st
  exact ⟨g.at fun o e => hk it (by simp) o e, o, hk t (by simp) o ho, r⟩
 item := fun i s Q E hi st q => Ua st.1 st.2 (x := vs[i]) (by simp [hi]) fun h' g' hs' => q _ h' s.toks (by simp [hi]) ⟨g', st.2.extBut hs'.extBut hne⟩ hs'
 done := fun s Q E st q => X1 hh st.1 st.2 (by simp) q
theorem ix (l : Addr) (vs : Array Value) (n : Nat) (dct : Option Addr) (sl : Array (Option Value)) : Meets (Builtin.«enumerate.__new__» ⟨[.type "enumerate", .ref l], []⟩) (fun _ R s => s.heap.get? l = some { cls := .type "tuple", dict := dct, data := .seq vs n, slots := sl } /\
   R (.ok (.ret (.ref (s.heap.push { cls := .type "tuple_iterator", data := .fields #[.ref l, .int 0 0] }).objs.size))) { s with heap := (s.heap.push { cls := .type "tuple_iterator", data := .fields #[.ref l, .int 0 0] }).push { cls := .type "enumerate", data := .fields #[.none, .bool false, .ref s.heap.objs.size, rawInt 0, .none, .none] } }) := by
 refine .of_wp fun prog w A R s h => ?_
 obtain ⟨hp, g, d, tk, os⟩ := s
 obtain ⟨hl, h⟩ := h
 have hsub := sub_enumerate
 have hT : Heap.IsTuple (Shared.heap ⟨hp, g, d, tk, os⟩) l vs := ⟨_, hl, rfl, n, rfl⟩
 wp_walk using AutoSeq1.wpAny_loadPart' hl
 refine wpAny_stack_any fun st => wpAny_pure ?_
 split
 ·rename_i c _ _ _ _ _
  cases (c == Value.type "enumerate")
  ·wp_walk using AutoSeq1.wpAny_loadPart' hl, wpAny_pyIter_tuple hT
   exact ⟨_, rfl, h⟩
  ·wp_walk using AutoSeq1.wpAny_loadPart' hl, wpAny_pyIter_tuple hT
   exact ⟨_, rfl, h⟩
 ·wp_walk using AutoSeq1.wpAny_loadPart' hl, wpAny_pyIter_tuple hT
  exact ⟨_, rfl, h⟩
theorem Up {l : Addr} {vs : Array Value} {Q : Value -> Shared -> Prop} (hL : s.heap.IsTuple l vs)
  (h : ∀ h', IsEnum h' (s.heap.objs.size + 1) s.heap.objs.size 0 .none -> h'.IsTupleIter s.heap.objs.size l 0 -> (∀ b o, s.heap.get? b = some o -> h'.get? b = some o) -> Q (.ref (s.heap.objs.size + 1)) { s with heap := h' }) :
  wpAny (model prog w) A (call (.type "enumerate") [.ref l]) Q E s := by
 obtain ⟨⟨c, dct, dt, sl⟩, hl, hc, n, hd⟩ := hL
 have hc : c = .type "tuple" := hc
 have hd : dt = .seq vs n := hd
 subst hc hd
 refine callType_new F.called_enumerate (by decide) (F.typeCall_enumerate_1 _) (F.newCall_enumerate_1 _) (fun obj => F.args_object_init_2 obj _) F.entry_enumerate_new (ix l vs n dct sl) ⟨hl, ?_⟩
 have hz : (s.heap.push { cls := .type "tuple_iterator", data := .fields #[.ref l, .int 0 0] }).objs.size = s.heap.objs.size + 1 := Zy6 ..
 show _ /\ _
 rw [hz]
 have he : IsEnum ((s.heap.push { cls := .type "tuple_iterator", data := .fields #[.ref l, .int 0 0] }).push { cls := .type "enumerate", data := .fields #[.none, .bool false, .ref s.heap.objs.size, rawInt 0, .none, .none] }) (s.heap.objs.size + 1) s.heap.objs.size 0 .none := by
  have q := Zzj (s.heap.push { cls := .type "tuple_iterator", data := .fields #[.ref l, .int 0 0] }) (o := { cls := .type "enumerate", data := .fields #[.none, .bool false, .ref s.heap.objs.size, rawInt 0, .none, .none] }) rfl
  rw [hz] at q
  exact q
 exact ⟨⟨_, he, rfl⟩, h _ he ⟨_, Zzy _ (Zzj _ rfl), rfl, rfl⟩ fun b o x => Zzy _ (Zzy _ x)⟩
end
def ju (a : Addr) (xs : List V) : It := ⟨fun i H => H a = some (.tup xs) /\ i < xs.length, fun i H x H' => ∃ p y, x = .ref p /\ H p = none /\ xs[i]? = some y /\ H' = upd H p (.tup [.int i, y]), fun i H => H a = some (.tup xs) /\ i = xs.length⟩
theorem Zr (a : Addr) (xs : List V) : Pq (ju a xs) xs.length (fun i ys => ∃ y, xs[i]? = some y /\ ys = [.int i, y]) (fun H => H a = some (.tup xs)) :=
 ⟨fun i H h o => ⟨o, h⟩, fun i H x H' h o y => let ⟨p, z, e1, e2, e3, e4⟩ := y; ⟨p, _, e1, e2, e4, z, e3, rfl⟩, fun H o => ⟨o, rfl⟩⟩
theorem Ti {P : Program} {w : World} {K : Zzv} {elts : List Expr} {k : Nat} {pos : Pos} (e it a : Addr) (xs : List V) (hei : e ≠ it) : L8 P w K (.Tuple elts k pos) (ju a xs) [e, it] e (fun i h => (∃ old, IsEnum h e it i old) /\ h.IsTupleIter it a i) where
 mem := by simp
 obj := fun i h st b hb => by
  obtain ⟨⟨old, he⟩, o, ho, c, d⟩ := st
  rcases Zzi.mp hb with q | q
  ·rw [q]; exact ⟨_, he, fun v z => by cases z⟩
  ·rw [Zz9.mp q]; exact ⟨o, ho, fun v z => by rw [d] at z; cases z⟩
 keep := fun i h h' st k => by
  obtain ⟨⟨old, he⟩, hi⟩ := st
  exact ⟨⟨old, k e (by simp) _ he⟩, hi.at fun o q => k it (by simp) o q⟩
 item := by
  intro X hP hw hK hc i pins s σ H E I hf st hg
  subst hP hw hK
  obtain ⟨hq, hlt⟩ := hg
  obtain ⟨_, its, rv, hl⟩ := I.hok a _ hq
  have hl : s.heap.IsTuple a its.toArray := hl
  have f1 := hf e (by simp)
  have f2 := hf it (by simp)
  have hae : a ≠ e := A9 hq f1.1
  have hai : a ≠ it := A9 hq f2.1
  have hlen := rv.length
  have hv : ∀ vals : Array Value, (∃ t x, its.toArray[i]? = some x /\ vals = #[.int i t, x]) -> ∃ ys, Vals ys vals.toList /\ ys.length <= 100 /\ ∃ y, xs[i]? = some y /\ ys = [V.int i, y] := by
   rintro vals ⟨t, x, hx, rfl⟩
   obtain ⟨u, hu, ru⟩ := rv.get (x := xs[i]) (i := i) (by simp [hlt])
   have hx : its[i]? = some x := by simpa using hx
   rw [hx] at hu
   cases hu
   exact ⟨[.int i, xs[i]], .cons ⟨t, rfl⟩ (.cons ru .nil), by simp, xs[i], by simp [hlt], rfl⟩
  have W := WalksT.enumerateD (A := X.A) (Zx (prog := X.prog) (w := X.w) (A := X.A.in1) (show X.A.in1.handled = none from I.ok.hd hc) it a hai its.toArray) e hei (by simp [hei, Zzc hae]) (by simp)
  refine thn (R0 (E := E) W (by rw [Zzp]; omega) I ⟨st.1, st.2, hl⟩ (fun b hb => hf b hb) hv) fun r s1 ⟨u, hr, h3⟩ => ⟨u, hr, thn h3 fun _ s2 ⟨p, ys, hu, hp, hn, I2, ⟨y, hy, e2⟩, st2⟩ => ?_⟩
  subst hu e2
  refine ⟨.ref p, _, I2, rfl, ⟨p, y, rfl, hn, hy, rfl⟩, ⟨st2.1, st2.2.1⟩, fun b hb => ?_⟩
  have hbl : b < s.heap.objs.size := by
   obtain ⟨⟨old, he⟩, o, ho, c, d⟩ := st
   rcases Zzi.mp hb with q | q
   ·rw [q]; exact Zze he
   ·rw [Zz9.mp q]; exact Zze ho
  rw [A8 (By hbl hp)]
  exact (hf b hb).1
 done := by
  intro X hP hw hK hc i pins s σ H E I hf st hg
  subst hP hw hK
  obtain ⟨hq, hlt⟩ := hg
  obtain ⟨_, its, rv, hl⟩ := I.hok a _ hq
  have hl : s.heap.IsTuple a its.toArray := hl
  have f1 := hf e (by simp)
  have f2 := hf it (by simp)
  have hlen := rv.length
  have hi : its.toArray.size = i := by rw [Zzp]; omega
  have hae : a ≠ e := A9 hq f1.1
  refine (WalksT.enumerateD (A := X.A) (Zx (prog := X.prog) (w := X.w) (A := X.A.in1) (show X.A.in1.handled = none from I.ok.hd hc) it a (A9 hq f2.1) its.toArray) e hei (by simp [hei, Zzc hae]) (by simp)).done s _ E ?_ fun h' tk hk => ⟨rfl, I.turnedL hk hf⟩
  rw [hi]
  exact ⟨st.1, st.2, hl⟩
 self := fun _ _ _ _ _ st h => by
  obtain ⟨⟨old, he⟩, _⟩ := st
  exact wpAny_pyIter_enum he h
section
variable {X : Cx}
def R4 (ta : TA) : TI := fun σ H R => ta σ H fun vs H1 => ∃ a xs, vs = [.ref a] /\ H1 a = some (.tup xs) /\ R (ju a xs) H1
theorem Ry {elts : List Expr} {k : Nat} {pt p pos : Pos} {e : Expr} {ta : TA} (hg : Gl X "enumerate") (hm : X.mg "enumerate" = none) (ha : PA X [e] ta) (hn : C2 [e] = true := by rfl) : PI X (.Tuple elts k pt) (.Call (.Name "enumerate" p) [e] [] pos) (R4 ta) := by
 intro pins s σ H R I h
 refine Call_ (Fa I hg hm NP.L7 (Zy2 (thn (ha pos pins s σ H _ I h) fun us s1 ⟨vs, H1, I1, r1, q1⟩ => ?_) (C8 hn) rfl))
 obtain ⟨a, xs, e, hq, q⟩ := q1
 subst e
 obtain ⟨u, rfl, ru⟩ := Gz r1
 cases ru
 obtain ⟨_, its, rv, hl⟩ := I1.hok a _ hq
 refine Up (show s1.heap.IsTuple a its.toArray from hl) fun h' he hi hk => wpAny_pyIter_enum he ?_
 have I2 : Inv X pins σ H1 { s1 with heap := h' } := I1.kept (t' := s1.toks) hk
 refine ⟨s1.heap.objs.size + 1, [s1.heap.objs.size + 1, s1.heap.objs.size], _, _, H1, rfl, I2, Ti _ _ a xs (Zwo _), ⟨⟨_, he⟩, hi⟩, fun b hb => ?_, q⟩
 have hb' : s1.heap.objs.size <= b := by
  rcases Zzi.mp hb with z | z
  ·rw [z]; exact Nat.le_succ _
  ·rw [Zz9.mp z]; exact Zzs _
 exact I1.fpOk hb' (I1.hok.fresh hb')
end
end L2
namespace L2
open PySem PySem.Spec PyProof.Rows PySem.W
theorem Room.z {k j : Nat} {A : Around} (h : Room k A) (e : j <= k := by decide) : Room j A := h.mono e
theorem Has.of {P : Program} {w : World} {K : Frag} {mg : Str -> Option Value} {base : Heap} {x : Str} {k : Nat} {f : Addr} {fd : FuncData} {ps : List Str} {sp : Sp} (m : mg x = some (.ref f)) (h : keepIn K (.ref f) = true) (b : Binds K fd ps []) (o : FnOk P w K mg base CX0 k f fd ps sp) : Has P w K mg base x k ps sp := ⟨f, fd, m, h, b, o⟩
end L2
namespace K31
open PySem L2 NP
seal PE PA PT PS PSs PI PO PC PW
local macro_rules | `(tactic| walk_at "rd") => `(tactic| simp only [Tn, tNext, bj, Ya, Wh, bp, V8, br, D6, ff, Y9, tC, tCB, Rm, tNil, P0, tOp, tUn, V4, tB, bu, tOr, bn, Ye, i7, Yb, tIf, bh, bo, tSl, V5, tNoPart, tBA, bq, tDNewK, To, tYes, rI, rI0, rU, rEq, rNe, rIsA, rIsnotA, rItem, lenA, Tv, Yu, Yp, listA, tupleA, lenQ, iy, iz, rSetD, Yt, er, ee, j8, rCat, Q8, Vf, Sv, Zn, fb, V2, V3, Yc, tIf, Vu, eh, Vt, Vs, ig, rNeD, ie, rNeK, j9, Pu, Jt, Tt, Tu, Ts, Tw, Q7, rSum, Yr, Yq, V6, rGetL, Ys, V9, rRep, Q5, rMax2, Tx, Q6, ic, rAppend, rPopAt, rReverse, rSetA, rSetL, L2.Iw, J4, N7, Pw, R5, V7, rRepC, R4, rExtend,  D.ty, E6, Eo, En, E4, Dn, E5, Gv, Ir, Iq, Gs, G1, Gu, Im, Ji, Jh, Ik, Gn, Il, Ih, Jg, Jf, Ie, Gi, Ig, Gm, Ij, Ii, Gj, Fz, Gk, Fy, Gh, Gg, Fw, Fd, Fx, Gq, Ip, Io, Go, G0, Gp, Qt, Nw, Qs, Nt, Lp, Nv, Nat.reduceAdd, Nat.reduceSub, Nat.zero_add, Nat.sub_self, Zvv, Zy3, Zvu, Zvt, ↓reduceIte, Zz3, Zxj, Zza, Zw3, Zxt, Zxz, Zxe, Zvo, Zvn, List.set_nil, Zwe, Zwd, Zwc, exists_eq_left', exists_eq_left, V.int.injEq, V.bl.injEq, V.str.injEq, V.ref.injEq, V.ty.injEq, List.cons.injEq, and_true, true_and, and_assoc, exists_and_left, exists_eq_right, reduceCtorEq, false_and, and_false, exists_false, or_false, false_or])
def top (i : Nat) : Stmt := PySem.Challenge.pw_needplan_k31_pegs_in_order.main.body.getD i (.Pass ⟨0, 0, 0, 0⟩)
abbrev Ee : Stmt := top 15
abbrev D9 : Stmt := top 16
abbrev Fm : Stmt := top 17
abbrev Cg : Stmt := top 19
abbrev C6 : Stmt := top 20
abbrev Le : Stmt := top 21
abbrev Cw : Stmt := top 22
abbrev Hi : Stmt := top 23
abbrev He : Stmt := top 24
abbrev Jo : Stmt := top 25
abbrev Hg : Stmt := top 27
abbrev Ef : Stmt := top 28
abbrev Da : Stmt := top 29
abbrev Hj : Stmt := top 31
abbrev Fo : Stmt := top 32
abbrev Dd : Stmt := top 33
abbrev Dw : Stmt := top 34
abbrev Dq : Stmt := top 35
abbrev Do : Stmt := top 36
abbrev Ck : Stmt := top 37
abbrev D8 : Stmt := top 38
abbrev Cu : Stmt := top 39
abbrev Cv : Stmt := top 40
abbrev Lf : Stmt := top 42
abbrev Ed : Stmt := top 43
abbrev C5 : Stmt := top 44
abbrev Dp : Stmt := top 45
abbrev Br : Stmt := top 46
abbrev Hh : Stmt := top 47
abbrev Fn : Stmt := top 49
abbrev Dr : Stmt := top 50
abbrev Lg : Stmt := top 51
abbrev Ei : Stmt := top 53
abbrev Dv : Stmt := top 54
abbrev Dc : Stmt := top 55
abbrev Du : Stmt := top 56
abbrev Dt : Stmt := top 57
abbrev Eh : Stmt := top 58
abbrev Ej : Stmt := top 59
abbrev Ch : Stmt := top 60
abbrev Db : Stmt := top 61
abbrev Cj : Stmt := top 62
abbrev Ds : Stmt := top 63
abbrev Ci : Stmt := top 64
abbrev Eg : Stmt := top 65
abbrev Kn : Stmt := top 66
structure Txt (mg : Str -> Option Value) : Prop where
 Zvb : mg "range" = none
 Zvc : mg "len" = none
 Zuf : mg "max" = none
 Ztr : mg "sorted" = none
 Ztv : mg "reversed" = none
 Ztu : mg "zip" = none
 Ztt : mg "min" = none
 Zv4 : mg "enumerate" = none
 Zuz : mg "tuple" = none
 Zu0 : mg "int" = none
 Ztp : mg "sum" = none
 Zv7 : mg "isinstance" = none
 Zts : mg "list" = none
 Ztq : mg "bool" = none
 Zuv : ∃ t, mg "COMING" = some (.int 5 t)
 Zuu : ∃ t, mg "FLOOR" = some (.int 3 t)
 Zut : ∃ t, mg "GIVES" = some (.int 2 t)
 Zun : ∃ t, mg "LAG" = some (.int 1 t)
 Zvi : ∃ t, mg "NAME" = some (.int 0 t)
 Zus : ∃ t, mg "PARTS" = some (.int 6 t)
 Zuj : ∃ t, mg "STOCK" = some (.int 4 t)
 Zvf : ∃ t, mg "WANT_AMOUNT" = some (.int 2 t)
 Zv9 : ∃ t, mg "WANT_DAY" = some (.int 1 t)
 Zv8 : ∃ t, mg "WANT_NAME" = some (.int 0 t)
def lamP : Pos := ⟨70, 38, 70, 65⟩
def lamQ : Str := ("worked" : Str) ++ ".<locals>." ++ "<lambda>"
def Tb (H : L2.Hp) (Pt : Addr) : Prop := L2.TblAt H Pt lamP lamQ
section
variable {P : Program} {w : World} {K : Zzv} {mg : Str -> Option Value} {base : Heap} {f : Addr} {fd : FuncData}
def m8 (w : Wr) : Prop := w.parts.length <= 1000 /\ w.coming.length <= 1000
structure Ta (S : Sh) : Prop where
 names : (S.wares.map (·.name)).Nodup
 len : S.wares.length <= 1000
 wares : ∀ w ∈ S.wares, m8 w
def sp_part_names : Sp := fun vs H Q _ => ∃ (v : V) (w : Wr), vs = [v] /\ RD H w.d v /\ m8 w /\ ∀ p H', H p = none -> H' p = some (.lst ((w.parts.map (·.1)).map V.str)) -> Same H H' -> Q (.ref p) H'
theorem Og : Al ["ware"] ["ware"] (Aa D9) := by constructor <;> first | rfl | decide +kernel
theorem Oj (F : Fun K "part_names" "part_names" D9 f fd) (T : Txt mg) : FnOk P w K mg base CX0 1 f fd ["ware"] sp_part_names := by
 refine F.ok Og (fun vs H Q E h => ?_) (fun cdv A outer s H vs Q E hr h => ?_)
 ·obtain ⟨v, w, rfl, _⟩ := h
  rfl
 ·obtain ⟨v, w, rfl, rw', ok, k⟩ := h
  have hu := B8 hr
  refine ⟨_, (A7 (Am (Df (own := ["part"]) (cap := []) rfl (E8 rfl) (Bm (by decide)) (Cl (A5 hu (pv 0) (Ah rfl T.Zus) (fun _ _ => rfl)))
 (fun _ _ _ _ _ _ => ⟨(Ac (i := 0) (of_decide_eq_true rfl) rfl (Zzw rfl) (.inr rfl)), E3, (A5 hu (pv 0) A6 (fun _ _ => rfl))⟩)))), ?_⟩
  obtain ⟨a, c, p, rfl, ha, rc, rp⟩ := B5 rw'
  obtain ⟨b, ps, rfl, hb, rps⟩ := RD.tup_of rp
  have hl := Ao rps
  walk_at "rd"
  refine ⟨_, Ad (j := 6) ha rfl, b, rfl, _, hb, ?_⟩
  refine G5 (Di b _) (B3 (by rw [hl]; exact ok.1)) (fun H' s' => s' _ _ hb) ((w.parts.map (·.1)).map V.str) (by rw [Zzz, Zzz, hl]) (fun i x H' hi hx s' N M hN => ?_) (fun H' s' p hp => ?_)
  ·obtain ⟨y, hy, ry⟩ := Ax rps hx
   obtain ⟨e, rfl, he⟩ := Kt ry
   walk_at "rd"
   exact ⟨_, Ad (j := 0) (s' _ _ he) rfl, hN _ _ s' (by rw [Zzx, Zzx, hy]; rfl)⟩
  ·exact k p _ (Same.free s' hp) A1 (s'.trans (A3 hp))
def sp_ware_of : Sp := fun vs H Q _ => ∃ (v : V) (S : Sh) (n : Str), vs = [v, .str n] /\ RD H S.d v /\ Ta S /\ n ∈ S.wares.map (·.name) /\ ∀ x w, w ∈ S.wares -> w.name = n -> RD H w.d x -> Q x H
def g7 (b : V) (n : Str) (ws : List Wr) (H : Hp) (i : Nat) (σ : St) (H' : Hp) : Prop := ∃ c : Option V, σ = [some b, some (.str n), c] /\ H' = H /\ ∀ w ∈ ws.take i, w.name ≠ n
theorem sc_ware_of : Al ["shop", "name", "ware"] ["shop", "name"] (Aa Fm) := by constructor <;> first | rfl | decide +kernel
theorem U5 (F : Fun K "ware_of" "ware_of" Fm f fd) (T : Txt mg) : FnOk P w K mg base CX0 1 f fd ["shop", "name"] sp_ware_of := by
 refine F.ok sc_ware_of (fun vs H Q E h => ?_) (fun cdv A outer s H vs Q E hr h => ?_)
 ·obtain ⟨v, S, n, rfl, _⟩ := h
  rfl
 ·obtain ⟨v, S, n, rfl, rs, ok, hn, k⟩ := h
  have hu := B8 hr
  refine ⟨_, (A2 (As PassesOwn.never rfl (Cl (A5 hu (pv 0) A6 (fun _ _ => rfl))) (Ac (i := 2) sc_ware_of.nd rfl (Zzw rfl))
 (A7 (Bf (Ak (Bl hu) (A5 hu (pv 2) (Ah rfl T.Zvi) (fun _ _ => rfl)) (pv 1) (Ap _)) (A7 (Am (pv 2))) Au)))
 (A7 Yv)), ?_⟩
  obtain ⟨a, b, c, ws, us, rfl, ha, hb, hc, rws, rus⟩ := Cd rs
  have hl := Ao rws
  walk_at "rd"
  refine ⟨_, Ad (j := 0) ha rfl, b, rfl, _, hb, ?_⟩
  refine Bd (Di b _) (g7 (.ref a) n S.wares H) ⟨_, rfl, rfl, by simp⟩ (fun i σ H' _ h => by obtain ⟨_, _, rfl, _⟩ := h; exact hb) (fun i x σ H' hi hx h => ?_) (fun σ H' h => ?_)
  ·obtain ⟨c, rfl, rfl, hno⟩ := h
   obtain ⟨w, hw, rw'⟩ := Ax rws hx
   obtain ⟨e, c1, c2, rfl, he, _⟩ := B5 rw'
   walk_at "rd"
   refine ⟨_, Ad (j := 0) he rfl, rfl, C9 (fun h => ?_) (fun h => ?_)⟩
   ·exact k _ w (Zzt hw) (by have := of_decide_eq_true h; cases this; rfl) rw'
   ·refine ⟨_, rfl, rfl, fun w' hw' => ?_⟩
    rw [Zz5, hw] at hw'
    rcases Zyu.mp hw' with z | z
    ·exact hno w' z
    ·have e : w' = w := by simpa using z
     subst e
     intro e
     exact h (decide_eq_true (by rw [e]))
  ·obtain ⟨c, rfl, rfl, hno⟩ := h
   rw [hl, Zz1] at hno
   obtain ⟨w, hw, e⟩ := Zzr.mp hn
   exact absurd e (hno w hw)
def sp_without_ends : Sp := fun vs H Q _ => ∃ (a : Addr) (kvs : List (Key × V)) (G : Gr), vs = [.ref a] /\ H a = some (.dK kvs) /\ PDk H kvs G /\ (B0 G).Nodup /\ G.length <= 1000 /\ (∀ e ∈ G, e.2.length <= 1000) /\
 ∀ p kvs' H', H p = none -> H' p = some (.dK kvs') -> PDk H' kvs' (Xo G) -> But a H H' -> Q (.ref p) H'
def gh (a p : Addr) (o : Obj) (kvs : List (Key × V)) (G : Gr) (H : Hp) (i : Nat) (σ : St) (H' : Hp) : Prop := ∃ (n g : Option V) (kvs' : List (Key × V)), σ = [some (.ref a), some (.ref p), n, g] /\ H' a = some (.frz o (.dK kvs)) /\ H' p = some (.dK kvs') /\ PDk H' kvs' ((G.take i).filterMap (Cq (B0 G))) /\ But a H H'
def nu (a p : Addr) (o : Obj) (kvs kvs' : List (Key × V)) (G G' : Gr) (ps : List Str) (H : Hp) (i : Nat) (acc : List V) (H' : Hp) : Prop := acc = (O0 (B0 G) (ps.take i)).map V.str /\ H' a = some (.frz o (.dK kvs)) /\ H' p = some (.dK kvs') /\ PDk H' kvs' G' /\ But a H H' /\ PDk H' kvs G
theorem Pf {ks ps : List Str} {i : Nat} {x : Str} (h : ps[i]? = some x) : O0 ks (ps.take (i + 1)) = O0 ks (ps.take i) ++ if decide (x ∈ ks) = true then [x] else [] := by
 unfold O0
 rw [Zz5, h, Zxp]
 by_cases hx : x ∈ ks
 ·simp [hx]
 ·simp [hx]
theorem sc_without_ends : Al ["parts", "left", "name", "going_on"] ["parts"] (Aa Cg) := by constructor <;> first | rfl | decide +kernel
theorem Mj (F : Fun K "without_ends" "without_ends" Cg f fd) (T : Txt mg) : FnOk P w K mg base CX0 1 f fd ["parts"] sp_without_ends := by
 refine F.ok sc_without_ends (fun vs H Q E h => ?_) (fun cdv A outer s H vs Q E hr h => ?_)
 ·obtain ⟨a, kvs, G, rfl, _⟩ := h
  rfl
 ·obtain ⟨a, kvs, G, rfl, ha, pd, nd, hG, hps, k⟩ := h
  have hu := B8 hr
  have hkl := pd.len
  have ndk : (kvs.map (·.1)).Nodup := by rw [pd.keys]; exact Xh nd
  refine ⟨_, (A2 (Af (i := 1) sc_without_ends.nd rfl (Zzw rfl) Fv)
 (A2 (As PassesOwn.never rfl (Yw (pv 0)) (Ac (i := 2) sc_without_ends.nd rfl (Zzw rfl))
 (A2 (Ft (own := ["part"]) (cap := [0]) (i := 3) rfl (E8 rfl) (Bm (by decide)) sc_without_ends.nd rfl rfl (C0 (A5 hu (pv 0) (pv 2) (fun _ _ => rfl)))
 (fun _ _ _ _ _ _ => ⟨(Ac (i := 0) (of_decide_eq_true rfl) rfl (Zzw rfl) (.inr rfl)), (Hw (Ak (Z2 hu) (pv 0) (pv 1) rfl)), (pv 0)⟩))
 (A7 (Bf (ca (pv 3)) (A7 (Ek (pv 3) (Ez (pv 1) (pv 2) (E2 hu)))) Au))))
 (A7 (Am (pv 1))))), ?_⟩
  walk_at "rd"
  refine fun p hp => ⟨_, by rw [A8 (A9 ha hp)]; exact ha, fun o => ?_⟩
  have nap : a ≠ p := A9 ha hp
  have b0 : But a H (upd (upd H p (.dK [])) a (.frz o (.dK kvs))) := (L6 hp).trans but_set
  have pl : ∀ {H' : Hp}, But a H H' -> PDk H' kvs G := fun {H'} bt => pd.mono fun l xs h => bt l _ (fun z => by rw [z, ha] at h; cases h) h
  refine Bd (gs a o kvs) (gh a p o kvs G H) ⟨_, _, [], rfl, A1, by rw [A8 (Zzc nap), A1], .nil, b0⟩ (fun i σ H' _ h => let ⟨_, _, _, _, h, _⟩ := h; h) (fun i x σ H' hi hx h => ?_) (fun σ H' h => ?_)
  ·obtain ⟨n, g, kvs', rfl, h1, h2, h3, bt⟩ := h
   obtain ⟨key, val, hk, rfl⟩ := hx
   obtain ⟨e, l, he, rfl, rfl, hl⟩ := PDk.get' (pl bt) hk
   have hv := Jx ndk hk
   have hmem := Zzt he
   refine cut1 (fun σ' H'' => ∃ q : Addr, σ' = [some (.ref a), some (.ref p), some (.str e.1), some (.ref q)] /\ H'' q = some (.lst ((O0 (B0 G) e.2).map V.str)) /\ H'' a = some (.frz o (.dK kvs)) /\ H'' p = some (.dK kvs') /\ PDk H'' kvs' ((G.take i).filterMap (Cq (B0 G))) /\ But a H H'') ?_ (fun KK hK => ?_)
   ·rintro σ' H'' ⟨q, rfl, hq, g1, g2, g3, gb⟩
    walk_at "rd"
    refine ⟨_, hq, ?_⟩
    have et : (G.take (i + 1)).filterMap (Cq (B0 G)) = (G.take i).filterMap (Cq (B0 G)) ++ (Cq (B0 G) e).toList := by
     rw [Zz5, he, List.filterMap_append]
     cases hc : Cq (B0 G) e <;> simp [hc]
    refine C9 (fun hz => ?_) (fun hz => ?_)
    ·have hne : O0 (B0 G) e.2 ≠ [] := fun z => by rw [z] at hz; exact absurd hz (by decide)
     have hc : Cq (B0 G) e = some (e.1, O0 (B0 G) e.2) := by unfold Cq; rw [if_neg hne]
     have nin : e.1 ∉ B0 ((G.take i).filterMap (Cq (B0 G))) := fun m => by
      have m' : e.1 ∈ B0 (G.take i) := (keys_filter (ks := B0 G) (G := G.take i)).subset m
      have nd' : (B0 (G.take i) ++ B0 (G.drop i)).Nodup := by
       have : B0 (G.take i) ++ B0 (G.drop i) = B0 G := by unfold B0; rw [<- Zzf, Zw5]
       rw [this]; exact nd
      have hlt : i < G.length := (Zzg.mp he).1
      have md : e.1 ∈ B0 (G.drop i) := by
       unfold B0
       rw [List.drop_eq_getElem_cons hlt]
       have : G[i] = e := (Zzg.mp he).2
       rw [this, Zz3]
       exact Zz2
      exact (List.nodup_append.mp nd').2.2 _ m' _ md rfl
     have hlen' : kvs'.length < sizeLine := by
      have := g3.len
      have h5 : ((G.take i).filterMap (Cq (B0 G))).length <= (G.take i).length := List.length_filterMap_le _ _
      rw [Zyq] at h5
      exact Zyk (m := 1000) (by omega) (by decide)
     refine ⟨kvs', .inr e.1, rfl, g2, hlen', ?_⟩
     have ku : ∀ l xs, H'' l = some (.lst xs) -> upd H'' p (.dK (Ey kvs' (.inr e.1) (.ref q))) l = some (.lst xs) := fun l xs h => by rw [A8 (fun z => by rw [z, g2] at h; cases h)]; exact h
     refine ⟨_, _, _, rfl, by rw [A8 nap]; exact g1, A1, ?_, ?_⟩
     ·rw [et, hc]
      exact (g3.mono ku).snoc nin (ku _ _ hq)
     ·exact fun b o' nb hb => by rw [A8 (A9 hb hp)]; exact gb b o' nb hb
    ·have hne : O0 (B0 G) e.2 = [] := by
      cases hx : O0 (B0 G) e.2 with
      | nil => rfl
      | cons y r => rw [hx] at hz; exact absurd rfl hz
     have hc : Cq (B0 G) e = none := by unfold Cq; rw [if_pos hne]
     exact ⟨_, _, _, rfl, g1, g2, by rw [et, hc]; simpa using g3, gb⟩
   ·walk_at "rd"
    refine ⟨_, Cb (.inr ⟨o, h1⟩) hv, l, rfl, _, hl, ?_⟩
    refine Gx (Dh l _) (B3 (by rw [Zzz]; exact hps e hmem)) (nu a p o kvs kvs' G ((G.take i).filterMap (Cq (B0 G))) e.2 H) ⟨rfl, h1, h2, h3, bt, pl bt⟩ (fun j acc H2 _ h => ?_) (fun j acc H2 h => ?_) (fun j x acc H2 hj hx h => ?_) (fun acc H2 h q hq => ?_)
    ·obtain ⟨_, _, _, _, hb, hpd⟩ := h
     obtain ⟨l2, hl2, hl3⟩ := PDk.get hpd he
     rw [hk] at hl2
     cases hl2
     exact hl3
    ·rw [h.1, Zzz]
     refine Zyw (Zxw _ _) ?_
     rw [Zyq]
     exact Zwt _ _
    ·obtain ⟨rfl, w1, w2, w3, w4, w5⟩ := h
     rw [Zzx] at hx
     cases ex : e.2[j]? with
     | none => rw [ex] at hx; cases hx
     | some y =>
     rw [ex] at hx
     cases hx
     walk_at "rd"
     refine ⟨_, .inr (.inr ⟨a, kvs, .inr y, rfl, rfl, .inr ⟨o, w1⟩, rfl⟩), ?_⟩
     rw [w5.has y]
     refine C9 (fun hy => ?_) (fun hy => ?_)
     ·exact ⟨by rw [Pf ex, if_pos hy, Zzf]; rfl, w1, w2, w3, w4, w5⟩
     ·exact ⟨by rw [Pf ex, if_neg hy, Zza], w1, w2, w3, w4, w5⟩
    ·obtain ⟨rfl, w1, w2, w3, w4, w5⟩ := h
     rw [Zzz, Zz1]
     have nq : ∀ {b : Addr} {o' : HO} (o'' : HO), H2 b = some o' -> upd H2 q o'' b = some o' := fun {b o'} o'' hb => by rw [A8 (A9 hb hq)]; exact hb
     exact hK _ _ ⟨q, rfl, A1, nq _ w1, nq _ w2, w3.mono fun l xs h => nq _ h, w4.trans (L6 hq)⟩
  ·obtain ⟨n, g, kvs', rfl, h1, h2, h3, bt⟩ := h
   walk_at "rd"
   rw [hkl, Zz1] at h3
   exact k p kvs' H' hp h2 h3 bt
def sp_endless_parts : Sp := fun vs H Q _ => ∃ (v : V) (S : Sh), vs = [v] /\ RD H S.d v /\ Ta S /\ ∀ p kvs' H', H p = none -> H' p = some (.dK kvs') -> PDk H' kvs' (Oa S.wares.length (G2 S)) -> Same H H' -> Q (.ref p) H'
def kf (v : V) (p : Addr) (S : Sh) (H : Hp) (i : Nat) (σ : St) (H' : Hp) : Prop := ∃ (n g : Option V) (kvs' : List (Key × V)), σ = [some v, some (.ref p), n, g] /\ H' p = some (.dK kvs') /\ PDk H' kvs' ((G2 S).take i) /\ Same H H'
def jy (v : V) (S : Sh) (H : Hp) (i : Nat) (σ : St) (H' : Hp) : Prop := ∃ (q : Addr) (n g : Option V) (kvs' : List (Key × V)), σ = [some v, some (.ref q), n, g] /\ H q = none /\ H' q = some (.dK kvs') /\ PDk H' kvs' (Oa i (G2 S)) /\ Same H H'
theorem dq (S : Sh) : B0 (G2 S) = S.wares.map (·.name) := by unfold B0 G2; rw [Zxi]; rfl
theorem Ui (S : Sh) : (G2 S).length = S.wares.length := by unfold G2; rw [Zzz]
theorem Zp {S : Sh} (ok : Ta S) : ∀ e ∈ G2 S, e.2.length <= 1000 := fun e he => by
 obtain ⟨w, hw, rfl⟩ := Zzr.mp he
 show (w.parts.map (·.1)).length <= 1000
 rw [Zzz]
 exact (ok.wares w hw).1
theorem sc_endless_parts : Al ["shop", "parts", "ware", "turn"] ["shop"] (Aa C6) := by constructor <;> first | rfl | decide +kernel
theorem Lo (F : Fun K "endless_parts" "endless_parts" C6 f fd) (T : Txt mg) (Zvh : Has P w K mg base "part_names" 1 ["ware"] sp_part_names) (Zur : Has P w K mg base "without_ends" 1 ["parts"] sp_without_ends) : FnOk P w K mg base CX0 2 f fd ["shop"] sp_endless_parts := by
 refine F.ok sc_endless_parts (fun vs H Q E h => ?_) (fun cdv A outer s H vs Q E hr h => ?_)
 ·obtain ⟨v, S, rfl, _⟩ := h
  rfl
 ·obtain ⟨v, S, rfl, rs, ok, k⟩ := h
  have hu := B8 hr
  have nd : (B0 (G2 S)).Nodup := by rw [dq]; exact ok.names
  refine ⟨_, (A2 (Af (i := 1) sc_endless_parts.nd rfl (Zzw rfl) Fv)
 (A2 (As PassesOwn.never rfl (Cl (A5 hu (pv 0) A6 (fun _ _ => rfl))) (Ac (i := 2) sc_endless_parts.nd rfl (Zzw rfl))
 (A7 (Ek (Ab Zvh hr.z rfl (A4 (pv 2) A0)) (Ez (pv 1) (A5 hu (pv 2) (Ah rfl T.Zvi) (fun _ _ => rfl)) (E2 hu)))))
 (A2 (As PassesOwn.never rfl (Bs rfl T.Zvb (A4 (An B7 rfl T.Zvc D2 (A4 (A5 hu (pv 0) A6 (fun _ _ => rfl)) A0)) A0)) (Ac (i := 3) sc_endless_parts.nd rfl (Zzw rfl))
 (A7 (Af (i := 1) sc_endless_parts.nd rfl (Zzw rfl) (Ab Zur hr.z rfl (A4 (pv 1) A0)))))
 (A7 (Am (pv 1)))))), ?_⟩
  obtain ⟨a, b, c, ws, us, rfl, ha, hb, hc, rws, rus⟩ := Cd rs
  have hl := Ao rws
  refine m6 (fun σ' H' => ∃ (p : Addr) (n g : Option V) (kvs' : List (Key × V)), σ' = [some (.ref a), some (.ref p), n, g] /\ H p = none /\ H' p = some (.dK kvs') /\ PDk H' kvs' (G2 S) /\ Same H H') ?_ (fun KK hK => ?_)
  ·rintro σ' H1 ⟨p, n, g, kvs', rfl, hp, hp1, pd, sm⟩
   walk_at "rd"
   refine ⟨_, Ad (j := 0) (sm _ _ ha) rfl, b, rfl, _, .inr (sm _ _ hb), by omega, by have := ok.len; omega, ?_⟩
   have en : ((ws.length : Nat) : Int).toNat = S.wares.length := by omega
   rw [en]
   refine Bd (Iy 0 _) (jy (.ref a) S H) ⟨p, _, _, _, rfl, hp, hp1, pd, sm⟩ (fun _ _ _ _ _ => trivial) (fun i x σ H2 hi hx h => ?_) (fun σ H2 h => ?_)
   ·obtain ⟨q, n, g, kvs', rfl, hq, hq1, pd, sm⟩ := h
    walk_at "rd"
    refine ⟨q, kvs', _, rfl, hq1, pd, O9 nd i, by have := T2 (G2 S) i; rw [Ui] at this; have := ok.len; omega, fun e he => ?_, fun p2 kvs2 H3 hp2 hp3 pd3 bt => ?_⟩
    ·obtain ⟨ps, h1, _, h3⟩ := Iv i he
     have := Zp ok _ h1
     have : ps.length <= 1000 := this
     omega
    ·exact ⟨p2, _, _, kvs2, rfl, Same.free sm hp2, hp3, pd3, fun b' o hb' => bt b' o (A9 hb' hq) (sm b' o hb')⟩
   ·obtain ⟨q, n, g, kvs', rfl, hq, hq1, pd, sm⟩ := h
    walk_at "rd"
    exact k q kvs' H2 hq hq1 pd sm
  ·walk_at "rd"
   refine fun p hp => ?_
   refine ⟨_, Ad (j := 0) (by rw [A8 (A9 ha hp)]; exact ha) rfl, b, rfl, _, by rw [A8 (A9 hb hp)]; exact hb, ?_⟩
   refine Bd (Di b _) (kf (.ref a) p S H) ⟨_, _, [], rfl, A1, .nil, A3 hp⟩ (fun i σ H' _ h => let ⟨_, _, _, _, _, _, s⟩ := h; s _ _ hb) (fun i x σ H' hi hx h => ?_) (fun σ H' h => ?_)
   ·obtain ⟨n, g, kvs', rfl, h1, h2, sm⟩ := h
    obtain ⟨w, hw, rw'⟩ := Ax rws hx
    have hg : (G2 S)[i]? = some (w.name, w.parts.map (·.1)) := by unfold G2; rw [Zzx, hw]; rfl
    walk_at "rd"
    refine ⟨x, w, rfl, RD.same sm _ _ rw', ok.wares w (Zzt hw), fun q H2 hq hq2 sm2 => ?_⟩
    obtain ⟨e, c1, c2, rfl, he, _⟩ := B5 rw'
    have sm02 := sm.trans sm2
    have nin : w.name ∉ B0 ((G2 S).take i) := fun m => by
     have nd' : (B0 ((G2 S).take i) ++ B0 ((G2 S).drop i)).Nodup := by
      have : B0 ((G2 S).take i) ++ B0 ((G2 S).drop i) = B0 (G2 S) := by unfold B0; rw [<- Zzf, Zw5]
      rw [this]; exact nd
     have hlt : i < (G2 S).length := (Zzg.mp hg).1
     have md : w.name ∈ B0 ((G2 S).drop i) := by
      unfold B0
      rw [List.drop_eq_getElem_cons hlt]
      have : (G2 S)[i] = (w.name, w.parts.map (·.1)) := (Zzg.mp hg).2
      rw [this, Zz3]
      exact Zz2
     exact (List.nodup_append.mp nd').2.2 _ m _ md rfl
    have hp2 := sm2 p _ h1
    refine ⟨_, Ad (j := 0) (sm02 _ _ he) rfl, kvs', .inr w.name, rfl, hp2, ?_, ?_⟩
    ·have := h2.len
     rw [Zyq, Ui] at this
     have := ok.len
     exact Zyk (m := 1000) (by omega) (by decide)
    ·have ku : ∀ l xs, H2 l = some (.lst xs) -> upd H2 p (.dK (Ey kvs' (.inr w.name) (.ref q))) l = some (.lst xs) := fun l xs h => by rw [A8 (fun z => by rw [z, hp2] at h; cases h)]; exact h
     refine ⟨_, _, _, rfl, A1, ?_, fun b' o hb' => by rw [A8 (A9 hb' hp)]; exact sm02 b' o hb'⟩
     rw [Zz5, hg]
     exact ((h2.mono fun l xs h => sm2 l _ h).mono ku).snoc nin (ku _ _ hq2)
   ·obtain ⟨n, g, kvs', rfl, h1, h2, sm⟩ := h
    rw [hl, <- Ui, Zz1] at h2
    exact hK _ _ ⟨p, _, _, kvs', rfl, hp, h1, h2, sm⟩
def Kf (S : Sh) : Prop := Oa S.wares.length (G2 S) = []
def sp_ring : Sp := fun vs H Q _ => ∃ (v : V) (S : Sh), vs = [v] /\ RD H S.d v /\ Ta S /\ Kf S /\ ∀ H', Same H H' -> Q .non H'
theorem sc_ring : Al ["shop", "parts", "way", "name"] ["shop"] (Aa Le) := by constructor <;> first | rfl | decide +kernel
theorem d6 (F : Fun K "ring" "ring" Le f fd) (T : Txt mg) (Zux : Has P w K mg base "endless_parts" 2 ["shop"] sp_endless_parts) : FnOk P w K mg base CX0 3 f fd ["shop"] sp_ring := by
 refine F.ok sc_ring (fun vs H Q E h => ?_) (fun cdv A outer s H vs Q E hr h => ?_)
 ·obtain ⟨v, S, rfl, _⟩ := h
  rfl
 ·obtain ⟨v, S, rfl, rs, ok, no, k⟩ := h
  have hu := B8 hr
  refine ⟨_, (A2 (Af (i := 1) sc_ring.nd rfl (Zzw rfl) (Ab Zux hr.z rfl (A4 (pv 0) A0)))
 (A2 (Bf (J9 (ce (pv 1))) (A7 (Am Gf)) Au)
 P4)), ?_⟩
  walk_at "rd"
  refine ⟨v, S, rfl, rs, ok, fun p kvs H' hp hp' pd sm => ?_⟩
  rw [no] at pd
  cases pd
  exact ⟨p, rfl, [], hp', iteT (k H' sm)⟩
def sp_check_rings : Sp := fun vs H Q _ => ∃ (v : V) (S : Sh), vs = [v] /\ RD H S.d v /\ Ta S /\ Kf S /\ ∀ H', Same H H' -> Q .non H'
theorem sc_check_rings : Al ["shop", "found", "names"] ["shop"] (Aa Cw) := by constructor <;> first | rfl | decide +kernel
theorem No (F : Fun K "check_rings" "check_rings" Cw f fd) (T : Txt mg) (Ztx : Has P w K mg base "ring" 3 ["shop"] sp_ring) : FnOk P w K mg base CX0 4 f fd ["shop"] sp_check_rings := by
 refine F.ok sc_check_rings (fun vs H Q E h => ?_) (fun cdv A outer s H vs Q E hr h => ?_)
 ·obtain ⟨v, S, rfl, _⟩ := h
  rfl
 ·obtain ⟨v, S, rfl, rs, ok, no, k⟩ := h
  have hu := B8 hr
  refine ⟨_, (A2 (Af (i := 1) sc_check_rings.nd rfl (Zzw rfl) (Ab Ztx hr.z rfl (A4 (pv 0) A0)))
 (A7 (Bf (Ak Lm (pv 1) Gf (Ap _)) P4 Au))), ?_⟩
  walk_at "rd"
  refine ⟨v, S, rfl, rs, ok, no, fun H' sm => ?_⟩
  walk_at "rd"
  exact lj trivial (k H' sm)
end
set_option maxHeartbeats 4000000
section
variable {P : Program} {w : World} {K : Zzv} {mg : Str -> Option Value} {base : Heap} {f : Addr} {fd : FuncData} {Pt : Addr}
structure Tc (S : Sh) : Prop extends Lev S where
 ok : Ta S
 few : S.wares.length < 64
theorem Uf {S : Sh} (h : Lev S) : Kf S := by
 obtain ⟨r, h1, h2⟩ := h.low
 unfold Kf
 refine T1 (r := r) (fun e he x hx => ?_) (fun e he => ?_)
 ·obtain ⟨w, hw, rfl⟩ := Zzr.mp he
  obtain ⟨p, hp, rfl⟩ := Zzr.mp hx
  exact h2 w hw p hp
 ·obtain ⟨w, hw, rfl⟩ := Zzr.mp he
  exact h1 w hw
def Ar (S : Sh) : List Str := S.wares.map (·.name)
theorem Ca (S : Sh) : (Ar S).length = S.wares.length := by unfold Ar; rw [Zzz]
def sp_names_of : Sp := fun vs H Q _ => ∃ (v : V) (S : Sh), vs = [v] /\ RD H S.d v /\ S.wares.length <= 1000 /\ ∀ p H', H p = none -> H' p = some (.lst ((Ar S).map V.str)) -> Same H H' -> Q (.ref p) H'
theorem Rp : Al ["shop"] ["shop"] (Aa Ee) := by constructor <;> first | rfl | decide +kernel
theorem S5 (F : Fun K "names_of" "names_of" Ee f fd) (T : Txt mg) : FnOk P w K mg base CX0 1 f fd ["shop"] sp_names_of := by
 refine F.ok Rp (fun vs H Q E h => ?_) (fun cdv A outer s H vs Q E hr h => ?_)
 ·obtain ⟨v, S, rfl, _⟩ := h
  rfl
 ·obtain ⟨v, S, rfl, rs, hlen, k⟩ := h
  have hu := B8 hr
  refine ⟨_, (A7 (Am (Df (own := ["ware"]) (cap := []) rfl (E8 rfl) (Bm (by decide)) (Cl (A5 hu (pv 0) A6 (fun _ _ => rfl)))
 (fun _ _ _ _ _ _ => ⟨(Ac (i := 0) (of_decide_eq_true rfl) rfl (Zzw rfl) (.inr rfl)), E3, (A5 hu (pv 0) (Ah rfl T.Zvi) (fun _ _ => rfl))⟩)))), ?_⟩
  obtain ⟨a, b, c, ws, us, rfl, ha, hb, hc, rws, rus⟩ := Cd rs
  have hl := Ao rws
  walk_at "rd"
  refine ⟨_, Ad (j := 0) ha rfl, b, rfl, _, hb, ?_⟩
  refine G5 (Di b _) (B3 (by omega)) (fun H' s' => s' _ _ hb) ((Ar S).map V.str) (by rw [Zzz, Ca, hl]) (fun i x H' hi hx s' N M hN => ?_) (fun H' s' p hp => ?_)
  ·obtain ⟨y, hy, ry⟩ := Ax rws hx
   obtain ⟨e, c1, c2, rfl, he, _⟩ := B5 ry
   walk_at "rd"
   refine ⟨_, Ad (j := 0) (s' _ _ he) rfl, hN _ _ s' ?_⟩
   unfold Ar
   rw [Zzx, Zzx, hy]
   rfl
  ·exact k p _ (Same.free s' hp) A1 (s'.trans (A3 hp))
def sp_levels : Sp := fun vs H Q _ => ∃ (v : V) (S : Sh), vs = [v] /\ RD H S.d v /\ Tc S /\ ∀ p H', H p = none -> H' p = some (.dK (fnD (Ar S) (lv S))) -> Same H H' -> Q (.ref p) H'
def fz (v : V) (p : Addr) (S : Sh) (H : Hp) (i : Nat) (σ : St) (H' : Hp) : Prop := ∃ o1 o2 o3 o4 : Option V, σ = [some v, some (.ref p), o1, o2, o3, o4] /\ H' p = some (.dK (fnD ((Ar S).take i) fun _ => 0)) /\ Same H H'
def W6 (S : Sh) (k i j : Nat) (g : Str -> Int) : Prop := (∀ x, 0 <= g x /\ lvF S k x <= g x /\ (x ∈ Ar S -> g x <= lv S x)) /\ (∀ w ∈ S.wares.take i, ∀ p ∈ w.parts, 1 + lvF S k w.name <= g p.1) /\ ∀ w, S.wares[i]? = some w -> ∀ p ∈ w.parts.take j, 1 + lvF S k w.name <= g p.1
def g9 (v : V) (p : Addr) (S : Sh) (H : Hp) (k : Nat) (σ : St) (H' : Hp) : Prop := ∃ (o1 o2 o3 o4 : Option V) (g : Str -> Int), σ = [some v, some (.ref p), o1, o2, o3, o4] /\ H' p = some (.dK (fnD (Ar S) g)) /\ (∀ x, 0 <= g x /\ lvF S k x <= g x /\ (x ∈ Ar S -> g x <= lv S x)) /\ Same H H'
def ge (v : V) (p : Addr) (S : Sh) (k : Nat) (H : Hp) (i : Nat) (σ : St) (H' : Hp) : Prop := ∃ (o1 o2 o3 o4 : Option V) (g : Str -> Int), σ = [some v, some (.ref p), o1, o2, o3, o4] /\ H' p = some (.dK (fnD (Ar S) g)) /\ W6 S k i 0 g /\ Same H H'
def au (v : V) (p : Addr) (t : V) (S : Sh) (k i : Nat) (H : Hp) (j : Nat) (σ : St) (H' : Hp) : Prop := ∃ (o1 o2 o4 : Option V) (g : Str -> Int), σ = [some v, some (.ref p), o1, o2, some t, o4] /\ H' p = some (.dK (fnD (Ar S) g)) /\ W6 S k i j g /\ Same H H'
theorem sc_levels : Al ["shop", "told", "name", "turn", "ware", "part"] ["shop"] (Aa Hi) := by constructor <;> first | rfl | decide +kernel
theorem Wx (F : Fun K "levels" "levels" Hi f fd) (T : Txt mg) (Zvj : Has P w K mg base "check_rings" 4 ["shop"] sp_check_rings) (Zv0 : Has P w K mg base "names_of" 1 ["shop"] sp_names_of) (Zvh : Has P w K mg base "part_names" 1 ["ware"] sp_part_names) : FnOk P w K mg base CX0 5 f fd ["shop"] sp_levels := by
 refine F.ok sc_levels (fun vs H Q E h => ?_) (fun cdv A outer s H vs Q E hr h => ?_)
 ·obtain ⟨v, S, rfl, _⟩ := h
  rfl
 ·obtain ⟨v, S, rfl, rs, L, k⟩ := h
  have hu := B8 hr
  refine ⟨_, (A2 (B9 (Ab Zvj hr.z rfl (A4 (pv 0) A0)))
 (A2 (Af (i := 1) sc_levels.nd rfl (Zzw rfl) Fv)
 (A2 (As PassesOwn.never rfl (C0 (Ab Zv0 hr.z rfl (A4 (pv 0) A0))) (Ac (i := 2) sc_levels.nd rfl (Zzw rfl))
 (A7 (Ek A6 (Ez (pv 1) (pv 2) (E2 hu)))))
 (A2 (As PassesOwn.never rfl (Bs rfl T.Zvb (A4 (An B7 rfl T.Zvc D2 (A4 (A5 hu (pv 0) A6 (fun _ _ => rfl)) A0)) A0)) (Ac (i := 3) sc_levels.nd rfl (Zzw rfl))
 (A7 (As PassesOwn.never rfl (Cl (A5 hu (pv 0) A6 (fun _ _ => rfl))) (Ac (i := 4) sc_levels.nd rfl (Zzw rfl))
 (A7 (As PassesOwn.never rfl (C0 (Ab Zvh hr.z rfl (A4 (pv 4) A0))) (Ac (i := 5) sc_levels.nd rfl (Zzw rfl))
 (A7 (Ek (An (Hq rfl) rfl T.Zuf Kc (A4 (A5 hu (pv 1) (pv 5) (fun _ _ => rfl)) (A4 (Av Bw (A5 hu (pv 1) (A5 hu (pv 4) (Ah rfl T.Zvi) (fun _ _ => rfl)) (fun _ _ => rfl)) A6) A0))) (Ez (pv 1) (pv 5) (E2 hu)))))))))
 (A7 (Am (pv 1))))))), ?_⟩
  have hfew := L.few
  walk_at "rd"
  refine ⟨v, S, rfl, rs, L.ok, Uf L.toLev, fun H1 sm1 => ?_⟩
  obtain ⟨a, b, c, ws, us, rfl, ha, hb, hc, rws, rus⟩ := Cd rs
  have hl := Ao rws
  intro p hp
  have u1 := sm1.trans (A3 (o := .dK []) hp)
  have fp : H p = none := Same.free sm1 hp
  have hnl := Ca S
  refine ⟨.ref a, S, rfl, RD.same u1 _ _ rs, by omega, fun q H2 hq hq2 sm2 => ⟨q, rfl, _, hq2, ?_⟩⟩
  have hp2 := sm2 p _ A1
  have s2 := u1.trans sm2
  have qp : q ≠ p := fun z => by rw [z, A1] at hq; cases hq
  refine Bd (Dh q _) (fun i σ H' => fz (.ref a) p S H i σ H' /\ H' q = some (.lst ((Ar S).map V.str))) ⟨⟨_, _, _, _, rfl, hp2, s2⟩, hq2⟩ (fun i σ H' _ h => h.2) (fun i x σ H3 hi hx h => ?_) (fun σ H3 h => ?_)
  ·obtain ⟨⟨o1, o2, o3, o4, rfl, hp3, s3⟩, hq3⟩ := h
   rw [Zzz] at hi
   rw [Zzx] at hx
   cases en : (Ar S)[i]? with
   | none => rw [en] at hx; cases hx
   | some nm =>
   rw [en] at hx
   have hx : V.str nm = x := Zzo hx
   subst hx
   walk_at "rd"
   refine ⟨_, .inr nm, rfl, hp3, ?_, ⟨_, _, _, _, rfl, ?_, fun b' o' hb' => by rw [A8 (A9 hb' fp)]; exact s3 b' o' hb'⟩, by rw [A8 qp]; exact hq3⟩
   ·rw [L3, Zyq]
    exact Zyk (m := 1000) (by omega) (by decide)
   ·have nin : nm ∉ (Ar S).take i := Eb L.nd en
    rw [A1, R6 nin, Zz5, en]
    exact congrArg (fun z => some (HO.dK z)) (Hm fun x _ => by split <;> rfl)
  ·obtain ⟨⟨o1, o2, o3, o4, rfl, hp3, s3⟩, _⟩ := h
   rw [Zzz, Zz1] at hp3
   walk_at "rd"
   refine ⟨_, Ad (j := 0) (s3 _ _ ha) rfl, b, rfl, _, .inr (s3 _ _ hb), by omega, by omega, ?_⟩
   have en : ((ws.length : Nat) : Int).toNat = S.wares.length := by omega
   rw [en]
   refine Bd (Iy 0 _) (g9 (.ref a) p S H) ⟨_, _, _, _, fun _ => 0, rfl, hp3, fun x => ⟨Zyx _, Zyx _, fun _ => Sm S x⟩, s3⟩ (fun _ _ _ _ _ => trivial) (fun k' x σ H4 hi hx h => ?_) (fun σ H4 h => ?_)
   ·obtain ⟨o1, o2, o3, o4, g, rfl, hp4, hg, s4⟩ := h
    walk_at "rd"
    refine ⟨_, Ad (j := 0) (s4 _ _ ha) rfl, b, rfl, _, s4 _ _ hb, ?_⟩
    refine Bd (Di b _) (ge (.ref a) p S k' H) ⟨_, _, _, _, g, rfl, hp4, ⟨hg, (fun w hw => by cases hw), fun w _ p hp => by cases hp⟩, s4⟩ (fun i σ H' _ h => let ⟨_, _, _, _, _, _, _, _, s⟩ := h; s _ _ hb) (fun i y σ H5 hi2 hy h => ?_) (fun σ H5 h => ?_)
    ·obtain ⟨o1, o2, o3, o4, g, rfl, hp5, hg, s5⟩ := h
     obtain ⟨t, ht, rt⟩ := Ax rws hy
     have htm := Zzt ht
     obtain ⟨te, d1, d2, rfl, hte, _⟩ := B5 rt
     walk_at "rd"
     refine ⟨.ref te, t, rfl, RD.same s5 _ _ rt, L.ok.wares t htm, fun q2 H6 hq6 hq7 sm6 => ⟨q2, rfl, _, hq7, ?_⟩⟩
     have hp6 := sm6 p _ hp5
     have s6 := s5.trans sm6
     have q2p : q2 ≠ p := fun z => by rw [z, hp5] at hq6; cases hq6
     refine Bd (Dh q2 _) (fun j σ H' => au (.ref a) p (.ref te) S k' i H j σ H' /\ H' q2 = some (.lst ((t.parts.map (·.1)).map V.str))) ⟨⟨_, _, _, g, rfl, hp6, hg, s6⟩, hq7⟩ (fun j σ H' _ h => h.2) (fun j z σ H7 hj hz h => ?_) (fun σ H7 h => ?_)
     ·obtain ⟨⟨o1, o2, o4, g, rfl, hp7, hg, s7⟩, hq8⟩ := h
      rw [Zzz, Zzz] at hj
      obtain ⟨pp, hpp⟩ : ∃ pp, t.parts[j]? = some pp := ⟨_, Zzu hj⟩
      rw [Zzx, Zzx, hpp] at hz
      have hz : V.str pp.1 = z := Zzo hz
      subst hz
      have hpm := Zzt hpp
      have hown : pp.1 ∈ Ar S := L.own t htm pp hpm
      have htn : t.name ∈ Ar S := Zzr.mpr ⟨t, htm, rfl⟩
      walk_at "rd"
      have hg1 := (hg.1 pp.1)
      have hgt := (hg.1 t.name)
      have hup : g t.name + 1 <= lv S pp.1 := by have h1 := hgt.2.2 htn; have h2 := Kx L.toLev htm hpm; omega
      refine ⟨.int (g pp.1), Cb (.inl hp7) (Gc hown), _, Ad (j := 0) (s7 _ _ hte) rfl, .int (g t.name), Cb (.inl hp7) (Gc htn), _, rfl, _, rfl, _, .inr pp.1, rfl, hp7, by rw [L3, hnl]; exact Zyk (m := 1000) (by omega) (by decide), ?_, by rw [A8 q2p]; exact hq8⟩
      rw [Vx hown]
      refine ⟨_, _, _, fun x => if x = pp.1 then (if g t.name + 1 > g pp.1 then g t.name + 1 else g pp.1) else g x, rfl, A1, ?_, fun b' o' hb' => by rw [A8 (A9 hb' fp)]; exact s7 b' o' hb'⟩
      have gr : ∀ x, g x <= (if x = pp.1 then (if g t.name + 1 > g pp.1 then g t.name + 1 else g pp.1) else g x) := fun x => by
       split
       ·rename_i e; rw [e]; split <;> omega
       ·exact Zyx _
      refine ⟨fun x => ⟨Zy1 (hg.1 x).1 (gr x), Zy1 (hg.1 x).2.1 (gr x), fun hx => ?_⟩, fun w hw p hp => Zy1 (hg.2.1 w hw p hp) (gr p.1), fun w hw p hp => ?_⟩
      ·show (if x = pp.1 then (if g t.name + 1 > g pp.1 then g t.name + 1 else g pp.1) else g x) <= lv S x
       split
       ·rename_i e; rw [e]; have := hg1.2.2 hown; split <;> omega
       ·exact (hg.1 x).2.2 hx
      ·rw [ht] at hw
       have e : t = w := Zzo hw
       subst e
       rw [Zz5, hpp] at hp
       rcases Zyu.mp hp with m | m
       ·exact Zy1 (hg.2.2 t ht p m) (gr p.1)
       ·have e : p = pp := by simpa using m
        subst e
        show 1 + lvF S k' t.name <= (if p.1 = p.1 then (if g t.name + 1 > g p.1 then g t.name + 1 else g p.1) else g p.1)
        rw [if_pos rfl]
        have := hgt.2.1
        split <;> omega
     ·obtain ⟨⟨o1, o2, o4, g, rfl, hp7, hg, s7⟩, _⟩ := h
      rw [Zzz, Zzz] at hg
      refine ⟨_, _, _, _, g, rfl, hp7, ⟨hg.1, fun w hw p hp => ?_, fun w _ p hp => by cases hp⟩, s7⟩
      rw [Zz5, ht] at hw
      rcases Zyu.mp hw with m | m
      ·exact hg.2.1 w m p hp
      ·have e : w = t := by simpa using m
       subst e
       exact hg.2.2 w ht p (by rw [Zz1]; exact hp)
    ·obtain ⟨o1, o2, o3, o4, g, rfl, hp5, hg, s5⟩ := h
     rw [hl] at hg
     exact ⟨_, _, _, _, g, rfl, hp5, fun x => ⟨(hg.1 x).1, Sl (fun x => (hg.1 x).1) (fun w hw p hp => hg.2.1 w (by rw [Zz1]; exact hw) p hp) x, (hg.1 x).2.2⟩, s5⟩
   ·obtain ⟨o1, o2, o3, o4, g, rfl, hp4, hg, s4⟩ := h
    walk_at "rd"
    refine k p H4 fp ?_ s4
    rw [hp4]
    exact congrArg (fun z => some (HO.dK z)) (Hm fun x hx => Int.le_antisymm ((hg x).2.2 hx) (hg x).2.1)
def Hc (Pt : Addr) : Sp := fun vs H Q _ => ∃ (v : V) (S : Sh), vs = [v] /\ RD H S.d v /\ Tc S /\ Tb H Pt /\ ∀ p ys H', H p = none -> H' p = some (.lst (ys.map V.str)) -> Mi (lv S) (Ar S) ys -> Hr (lv S) (Ar S) ys -> Tb H' Pt -> But Pt H H' -> Q (.ref p) H'
theorem sc_worked : Al ["shop", "level_of"] ["shop"] (Aa He) := by constructor <;> first | rfl | decide +kernel
theorem Wu {ct : Addr} (F : Fun K "worked" "worked" He f fd) (T : Txt mg) (Zu4 : Has P w K mg base "levels" 5 ["shop"] sp_levels) (Zv0 : Has P w K mg base "names_of" 1 ["shop"] sp_names_of) (C : bd K f ct Pt) (hB : B2 mg base) : FnOk P w K mg base CX0 6 f fd ["shop"] (Hc Pt) := by
 refine F.okC C sc_worked (fun vs H Q E h => ?_) (fun A outer s H vs Q E hr h => ?_)
 ·obtain ⟨v, S, rfl, _⟩ := h
  rfl
 ·obtain ⟨v, S, rfl, rs, L, tb, k⟩ := h
  have hu := B8 hr
  refine ⟨_, (A2 (Af (i := 1) sc_worked.nd rfl (Or.inr rfl) (Ab Zu4 hr.z rfl (A4 (pv 0) A0)))
 (A7 (Am (Yx (i := 1) (nm := "name") (lv := "level_of") rfl T.Ztr (Ab Zv0 hr.z rfl (A4 (pv 0) A0)) hr rfl C.hd hB rfl rfl rfl (fun _ h => T4 rfl h) ⟨rfl, rfl, rfl, rfl, rfl, by decide⟩ (fun _ _ _ _ _ => rfl))))), ?_⟩
  have hfew := L.few
  walk_at "rd"
  refine ⟨v, S, rfl, rs, L, fun p H1 hp hp1 sm1 => ?_⟩
  refine ⟨v, S, rfl, RD.same sm1 _ _ rs, by omega, fun q H2 hq hq2 sm2 => ?_⟩
  have s2 := sm1.trans sm2
  unfold Jt
  refine ⟨q, Ar S, p, fnD (Ar S) (lv S), lv S, rfl, hq2, by rw [Ca]; exact hfew, rfl, sm2 _ _ hp1, fun x hx => Gc hx, TblAt.same tb s2, fun r ys H3 hr3 hr4 so sb tb3 bt => ?_⟩
  exact k r ys H3 (Same.free s2 hr3) hr4 so sb tb3 (fun b o nb hb => bt b o nb (s2 b o hb))
theorem Tb.same {H H' : Hp} {Pt : Addr} (t : Tb H Pt) (s : Same H H') : Tb H' Pt := TblAt.same t s
theorem Tb.at {H : Hp} {Pt : Addr} (t : Tb H Pt) : ∃ u, H Pt = some (.tbl u) := t.elim (fun e => ⟨_, e⟩) (fun ⟨_, e, _⟩ => ⟨_, e⟩)
theorem Es {H H' : Hp} {Pt : Addr} (t : Tb H Pt) (b : But Pt H H') : KeepU H H' := fun a xs e => b a _ (fun z => by obtain ⟨u, hu⟩ := t.at; rw [z, hu] at e; cases e) e
theorem Ps {H : Hp} {Pt p : Addr} {xs : List V} {o : HO} (t : Tb H Pt) (h : H p = some (.lst xs)) : Tb (upd H p o) Pt := by
 rcases t with e | ⟨c, e, e2⟩
 ·exact .inl (by rw [A8 (fun z => by rw [z, h] at e; cases e)]; exact e)
 ·exact .inr ⟨c, by rw [A8 (fun z => by rw [z, h] at e; cases e)]; exact e, by rw [A8 (fun z => by rw [z, h] at e2; cases e2)]; exact e2⟩
theorem Lc {H H' : Hp} {Pt st : Addr} (t : Tb H Pt) (b : But st H H') (s : StOk H st) : Tb H' Pt := by
 obtain ⟨ns, _, es⟩ := s
 rcases t with e | ⟨c, e, e2⟩
 ·exact .inl (b _ _ (fun z => by rw [z, es] at e; cases e) e)
 ·exact .inr ⟨c, b _ _ (fun z => by rw [z, es] at e; cases e) e, b _ _ (fun z => by rw [z, es] at e2; cases e2) e2⟩
theorem Ha {H : Hp} {Pt p : Addr} {o : HO} (t : Tb H Pt) (h : H p = some o) (hn : ∀ u, o ≠ .tbl u) : p ≠ Pt := fun z => by
 obtain ⟨u, e⟩ := t.at
 rw [<- z, h] at e
 exact hn u (Zzo e)
theorem Yh {H H' : Hp} {Pt st : Addr} (s : StOk H st) (t : Tb H Pt) (b : But Pt H H') : StOk H' st := by
 obtain ⟨ms, e1, e2⟩ := s
 exact ⟨ms, e1, b _ _ (Ha t e2 fun u z => by cases z) e2⟩
end
set_option maxHeartbeats 4000000
section
variable {P : Program} {w : World} {K : Zzv} {mg : Str -> Option Value} {base : Heap} {f : Addr} {fd : FuncData} {Pt : Addr}
def letters : List Nat := ("abcdefghijklmnopqrstuvwxyz" : Str).cps.toList
theorem Dg {H H' : Hp} {st : Addr} (s : But st H H') (h : StOk H st) : KeepU H H' := fun a xs e => s a _ (h.neT e) e
theorem Fb {H : Hp} {l : Addr} {xs ys : List V} (h : H l = some (.lst xs)) : KeepU H (upd H l (.lst ys)) := j0 h (fun _ z => by cases z)
def sp_law_next : Sp := fun vs H Q _ => ∃ st m, vs = [.ref st, .int m] /\ StOk H st /\ 0 < m /\ m < 10 ^ 200 /\ ∀ d H', 0 <= d -> d < m -> StOk H' st -> But st H H' -> Q (.int d) H'
theorem sc_law_next : Al ["_law_state", "_law_many", "_law_digit"] ["_law_state", "_law_many"] (Aa Ei) := by constructor <;> first | rfl | decide +kernel
theorem S9 (F : Fun K "_law_next" "_law_next" Ei f fd) (T : Txt mg) : FnOk P w K mg base CX0 1 f fd ["_law_state", "_law_many"] sp_law_next := by
 refine F.ok sc_law_next (fun vs H Q E h => ?_) (fun cdv A outer s H vs Q E hr h => ?_)
 ·obtain ⟨st, m, rfl, _⟩ := h
  rfl
 ·obtain ⟨st, m, rfl, ⟨ns, hne, hs⟩, h0, hm, k⟩ := h
  have hu := B8 hr
  refine ⟨_, (A2 (Bf (Ak Ja (An B7 rfl T.Zvc D2 (A4 (pv 0) A0)) A6 (Ap _)) (A2 (Af (i := 2) sc_law_next.nd rfl (Zzw rfl) (Av Lk (A5 hu (pv 0) A6 (fun _ _ => rfl)) (pv 1)))
 (A2 (Ek (Av Jb (A5 hu (pv 0) A6 (fun _ _ => rfl)) (pv 1)) (Ez (pv 0) A6 Dz))
 (A2 (Bf (Ak (Z2 hu) (A5 hu (pv 0) A6 (fun _ _ => rfl)) (Aq (A4 A6 (A4 (S0 N1 A6) A0))) rfl) (A7 (B9 (D5 Zzb PySem.F.slot_list_pop PySem.F.type_list_pop Z9 (pv 0) (A4 A6 A0)))) Au)
 (A7 (Am (pv 2)))))) Au)
 (A2 (Ek (Av Lk (Av Bw (Av U3 (A5 hu (pv 0) A6 (fun _ _ => rfl)) A6) A6) (Av K8 (Av Qb A6 A6) A6)) (Ez (pv 0) A6 Dz))
 (A7 (Am (Av Lk (Av Jb (A5 hu (pv 0) A6 (fun _ _ => rfl)) A6) (pv 1)))))), ?_⟩
  walk_at "rd"
  cases ns with
  | nil => exact absurd rfl hne
  | cons n0 rest =>
  have hit : ∀ (H' : Hp) (n : Int) (r : List Int), H' st = some (.lst (V.int n :: r.map V.int)) -> Rc H' (.ref st) (.int 0) (.int n) := fun H' n r e => Ic (j := 0) e rfl
  have h0i := hit H n0 rest hs
  refine ⟨_, .inl hs, ?_⟩
  refine C9 (fun hl => ?_) (fun hl => ?_)
  ·refine ⟨_, h0i, _, rfl, h0, _, h0i, _, rfl, h0, hm, _, hs, 0, by simp [ixN], ?_⟩
   have e1 : upd H st (.lst ((Zxs V.int (n0 :: rest)).set 0 (V.int (n0 / m)))) st = some (.lst (V.int (n0 / m) :: rest.map V.int)) := by rw [A1]; rfl
   refine ⟨_, hit _ _ _ e1, by decide, fun p hp => ?_⟩
   have npst : st ≠ p := A9 e1 hp
   refine ⟨_, .inl ⟨p, _, rfl, .inr A1, rfl, rfl, rfl⟩, ?_⟩
   have d0 : 0 <= n0 % m := Int.emod_nonneg _ (by omega)
   have d1 : n0 % m < m := Zvp _ h0
   have e2 : ∀ o, upd (upd H st (.lst ((Zxs V.int (n0 :: rest)).set 0 (V.int (n0 / m))))) p o st = some (.lst (V.int (n0 / m) :: rest.map V.int)) := fun o => by rw [A8 npst]; exact e1
   have hrest : rest ≠ [] := fun e => by
    have hl := of_decide_eq_true hl
    rw [e] at hl
    simp at hl
   have bt : But st H (upd (upd H st (.lst ((Zxs V.int (n0 :: rest)).set 0 (V.int (n0 / m))))) p (.tup [V.int 0, V.int (-1)])) := but_set.trans (L6 hp)
   refine C9 (fun hb => ?_) (fun hb => ?_)
   ·refine ⟨by unfold J7; simp only [e2], _, e2 _, by decide, by decide, 0, by simp [seqIndex?], _, rfl, ?_⟩
    exact k _ _ d0 d1 ⟨rest, hrest, by rw [A1]; rfl⟩ (bt.trans but_set)
   ·exact k _ _ d0 d1 ⟨(n0 / m) :: rest, by simp, e2 _⟩ bt
  ·have e1 : ∀ z : Int, upd H st (.lst ((Zxs V.int (n0 :: rest)).set 0 (V.int z))) st = some (.lst (V.int z :: rest.map V.int)) := fun z => by rw [A1]; rfl
   refine ⟨_, h0i, _, rfl, .inr ⟨by decide, by decide⟩, ⟨by decide, by decide, by decide⟩, by decide, _, hs, 0, by simp [ixN], _, hit _ _ _ (e1 _), _, rfl, by decide, by decide +kernel, h0, ?_⟩
   exact k _ _ (Int.emod_nonneg _ (by omega)) (Zvp _ h0) ⟨_ :: rest, by simp, e1 _⟩ but_set
def Kl (K : Zzv) : Sp := fun vs H Q _ => ∃ (a : Addr) (ns : List Int), vs = [.ref a] /\ SqL K H a (ns.map V.int) /\ ns.length <= 63 /\ ∀ st H', StOk H' st -> Same H H' -> Q (.ref st) H'
theorem Xn (ns : List Int) (lo hi : Option Int) : ∃ ms : List Int, Jv (ns.map V.int) lo hi = ms.map V.int := by
 unfold Jv
 exact ⟨_, by rw [<- Zvm, <- Zw7]⟩
theorem sc_law_drawn : Al ["_law_script", "_law_seed", "_law_cell"] ["_law_script"] (Aa Dv) := by constructor <;> first | rfl | decide +kernel
theorem Qk {f : Addr} {fd : FuncData} (F : Fun K "_law_drawn" "_law_drawn" Dv f fd) (T : Txt mg) : FnOk P w K mg base CX0 1 f fd ["_law_script"] (Kl K) := by
 refine F.ok sc_law_drawn (fun vs H Q E h => ?_) (fun cdv A outer s H vs Q E hr h => ?_)
 ·obtain ⟨a, ns, rfl, _⟩ := h
  rfl
 ·obtain ⟨a, ns, rfl, hS, hlen, k⟩ := h
  have hu := B8 hr
  refine ⟨_, (A2 (Af (i := 1) sc_law_drawn.nd rfl (Zzw rfl) A6)
 (A2 (As PassesOwn.never rfl (cj (pv 0)) (Ac (i := 2) sc_law_drawn.nd rfl (Zzw rfl))
 (A7 (Af (i := 1) sc_law_drawn.nd rfl (Zzw rfl) (Av Lk (Av Bw (Av Bw (Av U3 (pv 1) A6) (Av Lk (pv 2) (Av Qb A6 A6))) A6) (Av K8 (Av Qb A6 A6) A6)))))
 (A2 (Bf (PW.pt (K4 (Ak Ja (An L5 rfl T.Zvc D2 (A4 (pv 0) A0)) A6 (Ap _)) (Hv (Ak (Bl hu) (Av Lk (Yy Qz (pv 0) A6 (fun _ _ => rfl)) A6) A6 (Ap _))))) (A7 (Am (Av Qc (Av Qc (Bk (A4 (Av Jb (Yy Qz (pv 0) A6 (fun _ _ => rfl)) A6) A0)) (Hk Vc (pv 0) (Hy A6) (Hy A6))) (Bk (A4 (pv 1) A0))))) Au)
 (A7 (Am (Bk (A4 (pv 1) A0))))))), ?_⟩
  simp only [Tn, tNext, bj, Ya, Wh, bp, V8, br, D6, ff, Y9, tC, tCB, Rm, tNil, P0, tOp, tUn, V4, tB, bu, tOr, bn, Ye, i7, Yb, tIf, bh, bo, tSl, V5, tNoPart, tBA, bq, tDNewK, To, tYes, rI, rI0, rU, rEq, rNe, rIsA, rIsnotA, rItem, lenA, Tv, Yu, Yp, listA, tupleA, lenQ, iy, iz, rSetD, Yt, er, ee, j8, rCat, Q8, Vf, Sv, Zn, fb, V2, V3, Yc, tIf, Vu, eh, Vt, Vs, ig, rNeD, ie, rNeK, j9, Pu, Jt, Tt, Tu, Ts, Tw, Q7, rSum, Yr, Yq, V6, rGetL, Ys, V9, rRep, Q5, rMax2, Tx, Q6, ic, rAppend, rPopAt, rReverse, rSetA, rSetL, L2.Iw, J4, N7, Pw, R5, V7, rRepC, R4, rExtend,  D.ty, E6, Eo, En, E4, Dn, E5, Gv, Ir, Iq, Gs, G1, Gu, Im, Ji, Jh, Ik, Gn, Il, Ih, Jg, Jf, Ie, Gi, Ig, Gm, Ij, Ii, Gj, Fz, Gk, Fy, Gh, Gg, Fw, Fd, Fx, Gq, Ip, Io, Go, G0, Gp, Qt, Nw, Qs, Nt, Lp, Nv, Nat.reduceAdd, Nat.reduceSub, Nat.zero_add, Nat.sub_self, Zvv, Zy3, Zvu, Zvt, ↓reduceIte, Zz3, Zxj, Zza, Zw3, Zxt, Zxz, Zxe, Zvo, Zvn, List.set_nil, Zwe, Zwd, Zwc, exists_eq_left', exists_eq_left, V.int.injEq, V.bl.injEq, V.str.injEq, V.ref.injEq, V.ty.injEq, List.cons.injEq, and_true, true_and, and_assoc, exists_and_left, exists_eq_right, reduceCtorEq, false_and, and_false, exists_false, or_false, false_or, gq]
  refine ⟨⟨_, hS⟩, Zs (K := K) (a := a) (xs := ns.map V.int) (fun i σ H' => H' = H /\ ∃ (z : Int) (c : Option V), σ = [some (.ref a), some (.int z), c]) ⟨rfl, _, _, rfl⟩ (fun i σ H' _ p => by rw [p.1]; exact hS) ?_ ?_⟩
  ·rintro i y σ H' hy ⟨rfl, z, c, rfl⟩
   obtain ⟨u, rfl⟩ : ∃ u, y = V.int u := by
    rw [Zzx] at hy
    cases e : ns[i]? with
    | none => rw [e] at hy; cases hy
    | some u => rw [e] at hy; exact ⟨u, (Zzo hy).symm⟩
   walk_at "rd"
   refine ⟨.inr ⟨by decide, by decide⟩, ⟨by decide, by decide, by decide⟩, by decide, ⟨by decide, by decide, by decide⟩, by decide, _, rfl⟩
  ·rintro σ H' ⟨rfl, z, c, rfl⟩
   simp only [Tn, tNext, bj, Ya, Wh, bp, V8, br, D6, ff, Y9, tC, tCB, Rm, tNil, P0, tOp, tUn, V4, tB, bu, tOr, bn, Ye, i7, Yb, tIf, bh, bo, tSl, V5, tNoPart, tBA, bq, tDNewK, To, tYes, rI, rI0, rU, rEq, rNe, rIsA, rIsnotA, rItem, lenA, Tv, Yu, Yp, listA, tupleA, lenQ, iy, iz, rSetD, Yt, er, ee, j8, rCat, Q8, Vf, Sv, Zn, fb, V2, V3, Yc, tIf, Vu, eh, Vt, Vs, ig, rNeD, ie, rNeK, j9, Pu, Jt, Tt, Tu, Ts, Tw, Q7, rSum, Yr, Yq, V6, rGetL, Ys, V9, rRep, Q5, rMax2, Tx, Q6, ic, rAppend, rPopAt, rReverse, rSetA, rSetL, L2.Iw, J4, N7, Pw, R5, V7, rRepC, R4, rExtend,  D.ty, E6, Eo, En, E4, Dn, E5, Gv, Ir, Iq, Gs, G1, Gu, Im, Ji, Jh, Ik, Gn, Il, Ih, Jg, Jf, Ie, Gi, Ig, Gm, Ij, Ii, Gj, Fz, Gk, Fy, Gh, Gg, Fw, Fd, Fx, Gq, Ip, Io, Go, G0, Gp, Qt, Nw, Qs, Nt, Lp, Nv, Nat.reduceAdd, Nat.reduceSub, Nat.zero_add, Nat.sub_self, Zvv, Zy3, Zvu, Zvt, ↓reduceIte, Zz3, Zxj, Zza, Zw3, Zxt, Zxz, Zxe, Zvo, Zvn, List.set_nil, Zwe, Zwd, Zwc, exists_eq_left', exists_eq_left, V.int.injEq, V.bl.injEq, V.str.injEq, V.ref.injEq, V.ty.injEq, List.cons.injEq, and_true, true_and, and_assoc, exists_and_left, exists_eq_right, reduceCtorEq, false_and, and_false, exists_false, or_false, false_or, kj, ki]
   refine ⟨_, .inl hS, C9 (fun h0 => ?_) (fun h0 => ?_)⟩
   ·have hne : ns ≠ [] := fun e => by
     rw [e] at h0
     simp at h0
    obtain ⟨n0, r, rfl⟩ : ∃ n0 r, ns = n0 :: r := by
     cases ns with
     | nil => exact absurd rfl hne
     | cons a b => exact ⟨a, b, rfl⟩
    refine ⟨_, hS, _, Js (j := 0) rfl, _, rfl, by decide, rfl, C9 (fun h1 => ?_) (fun h1 => ?_)⟩
    ·refine ⟨_, hS, _, Js (j := 0) rfl, _, rfl, by decide, by decide +kernel, by decide, fun p hp => ?_⟩
     obtain ⟨ms, ems⟩ := Xn (n0 :: r) (some 1) (some 63)
     have hml : ms.length <= 63 := by
      have h1 := Mg (Zxs V.int (n0 :: r)) (some 1) (some 63)
      rw [ems, Zzz, Zzz] at h1
      omega
     refine ⟨_, (A3 hp).seq hS, fun p1 hp1 => ?_⟩
     rw [ems]
     have e1 := A3 (o := .lst (ms.map V.int)) hp1 p _ A1
     refine ⟨_, e1, _, A1, Zyw (by rw [Zzz]; simp; omega : _ <= 1000) (B3 (Zzs _)), fun p2 hp2 => ⟨by decide, fun p3 hp3 => ?_⟩⟩
     refine ⟨_, A3 hp3 p2 _ A1, _, A1, Zyw (by simp; omega : _ <= 1000) (B3 (Zzs _)), fun p4 hp4 => ?_⟩
     refine k p4 _ ⟨n0 / 2 :: (ms ++ [z]), by simp, ?_⟩ ((((A3 hp).trans (A3 hp1)).trans (A3 hp2)).trans ((A3 hp3).trans (A3 hp4)))
     rw [A1]
     simp
    ·exact ⟨by decide, fun p hp => k p _ ⟨[z], by simp, A1⟩ (A3 hp)⟩
   ·exact ⟨by decide, fun p hp => k p _ ⟨[z], by simp, A1⟩ (A3 hp)⟩
end
set_option maxHeartbeats 4000000
section
variable {P : Program} {w : World} {K : Zzv} {mg : Str -> Option Value} {base : Heap} {f : Addr} {fd : FuncData} {Pt : Addr}
theorem Jq {xs : List V} {i : Int} (hi : 0 <= i) : Jv xs (some i) none = xs.drop i.toNat := by
 unfold Jv
 rw [Yl hi]
 have e : HT.sIx xs.length xs.length none = xs.length := rfl
 rw [e]
 by_cases h : i.toNat <= xs.length
 ·rw [Nat.min_eq_left h, List.take_of_length_le (by rw [Zxq]; exact Zzs _)]
 ·have h : xs.length <= i.toNat := by omega
  rw [Nat.min_eq_right h, List.drop_length, List.drop_of_length_le h, List.take_nil]
structure WB (w : Wr) : Prop where
 lag : 0 <= w.lag /\ w.lag <= 30
 gives : 1 <= w.gives /\ w.gives <= 100
 floor : 0 <= w.floor /\ w.floor <= 100
 stock : 0 <= w.stock /\ w.stock <= 10 ^ 42
 parts : w.parts.length <= 12
 amts : ∀ p ∈ w.parts, 1 <= p.2 /\ p.2 <= 100
 nds : (w.parts.map (·.1)).Nodup
structure m7 (ws : List Wr) : Prop where
 nd : (ws.map (·.name)).Nodup
 wb : ∀ w ∈ ws, WB w
 txt : ∀ w ∈ ws, PyData.strOk w.name = true
 own : ∀ w ∈ ws, ∀ p ∈ w.parts, p.1 ∈ ws.map (·.name)
 low : ∃ r : Str -> Nat, (∀ w ∈ ws, r w.name < ws.length) /\ ∀ w ∈ ws, ∀ p ∈ w.parts, r p.1 < r w.name
def gy (sz : Int) (cs : List (Int × Int)) : Prop := cs.length <= 12 /\ ∀ p ∈ cs, (0 <= p.1 /\ p.1 < sz) /\ 0 <= p.2 /\ p.2 < 10 ^ 41
def W3 (sz : Int) (names : List Str) (us : List Wt) : Prop := us.length <= 20 /\ ∀ u ∈ us, u.1 ∈ names /\ (0 <= u.2.1 /\ u.2.1 < sz) /\ 0 <= u.2.2 /\ u.2.2 < 10 ^ 41
theorem Wc {S : Sh} (h : m7 S.wares) : Kf S := by
 obtain ⟨r, h1, h2⟩ := h.low
 refine T1 (r := r) (fun e he x hx => ?_) (fun e he => ?_)
 ·obtain ⟨w, hw, rfl⟩ := Zzr.mp he
  obtain ⟨p, hp, rfl⟩ := Zzr.mp hx
  exact h2 w hw p hp
 ·obtain ⟨w, hw, rfl⟩ := Zzr.mp he
  exact h1 w hw
structure Good (sz : Int) (S : Sh) : Prop where
 ws : m7 S.wares
 len : 1 <= S.wares.length /\ S.wares.length <= 12
 com : ∀ w ∈ S.wares, gy sz w.coming
 wants : W3 sz (S.wares.map (·.name)) S.wants
theorem Good.ok {sz : Int} {S : Sh} (g : Good sz S) : Ta S := ⟨g.ws.nd, by have := g.len.2; omega, fun w hw => ⟨Zyw (g.ws.wb w hw).parts (by decide), Zyw (g.com w hw).1 (by decide)⟩⟩
theorem Good.no {sz : Int} {S : Sh} (g : Good sz S) : Kf S := Wc g.ws
mutual
theorem O6 : ∀ d : PyData, d.canLay0 = true -> PyData.eqv d d = true
 | .none, _ => by rw [PyData.eqv]
 | .bool b, _ => by rw [PyData.eqv]; simp
 | .int i, _ => by rw [PyData.eqv]; simp
 | .str x, _ => by rw [PyData.eqv]; simp
 | .list xs, h => by
  rw [PyData.canLay0] at h
  rw [PyData.eqv]
  exact Jl xs h
 | .tuple xs, h => by
  rw [PyData.canLay0] at h
  rw [PyData.eqv]
  exact Jl xs h
 | .dict _, h => by rw [PyData.canLay0] at h; cases h
theorem Jl : ∀ ds : List PyData, PyData.canLayAll0 ds = true -> PyData.eqvAll ds ds = true
 | [], _ => by rw [PyData.eqvAll]
 | d :: ds, h => by
  rw [PyData.canLayAll0, Zya] at h
  rw [PyData.eqvAll, O6 d h.1, Jl ds h.2]
  rfl
end
theorem Vp {α : Type} (f : α -> PyData) : ∀ xs : List α, (∀ x ∈ xs, (f x).canLay0 = true) -> PyData.canLayAll0 (xs.map f) = true
 | [], _ => by rw [Zxj, PyData.canLayAll0]
 | x :: r, h => by
  rw [Zz3, PyData.canLayAll0, h x Zz2, Vp f r fun y hy => h y (Zz6 _ hy)]
  rfl
theorem Pi {α : Type} (f : α -> PyData) (n : Nat) : ∀ xs : List α, (∀ x ∈ xs, (f x).depth <= n) -> PyData.depthAll (xs.map f) <= n
 | [], _ => by rw [Zxj, PyData.depthAll]; exact Zyr _
 | x :: r, h => by
  rw [Zz3, PyData.depthAll]
  exact Nat.max_le.mpr ⟨h x Zz2, Pi f n r fun y hy => h y (Zz6 _ hy)⟩
theorem Good.txt {sz : Int} {S : Sh} (g : Good sz S) : ∀ x ∈ S.wares.map (·.name), PyData.strOk x = true := fun x hx => by
 obtain ⟨w, hw, rfl⟩ := Zzr.mp hx
 exact g.ws.txt w hw
theorem Vk {d : PyData} (h : okD d = true) : d.canLay0 = true := (Zxd.mp h).1
end
set_option maxHeartbeats 4000000
section
variable {P : Program} {w : World} {K : Zzv} {mg : Str -> Option Value} {base : Heap} {f : Addr} {fd : FuncData} {Pt : Addr}
def PlanAt (H : Hp) (a : Addr) (S : Sh) (plan : Str -> List Int) : Prop := ∃ kvs, Rd H a (.dK kvs) /\ ∀ nm ∈ S.wares.map (·.name), ∃ l : Addr, Bq kvs (.inr nm) = some (.ref l) /\ H l = some (.lst ((plan nm).map V.int)) /\ (plan nm).length = daysN S /\ ∀ x ∈ plan nm, 0 <= x /\ x < 10 ^ 2000
def PlanFor (H : Hp) (a : Addr) (S : Sh) (plan : Str -> List Int) (P : Str -> Prop) : Prop := ∃ kvs, Rd H a (.dK kvs) /\ ∀ nm ∈ S.wares.map (·.name), P nm -> ∃ l : Addr, Bq kvs (.inr nm) = some (.ref l) /\ H l = some (.lst ((plan nm).map V.int)) /\ (plan nm).length = daysN S /\ ∀ x ∈ plan nm, 0 <= x /\ x < 10 ^ 2000
theorem PlanAt.for {H : Hp} {a : Addr} {S : Sh} {plan : Str -> List Int} (h : PlanAt H a S plan) (P : Str -> Prop) : PlanFor H a S plan P := let ⟨kvs, h1, h2⟩ := h; ⟨kvs, h1, fun nm hn _ => h2 nm hn⟩
def ao (S : Sh) (x nm : Str) : Prop := ∃ t ∈ S.wares, t.name = nm /\ ∃ p ∈ t.parts, p.1 = x
theorem _root_.L2.Rd.same {H H' : Hp} {a : Addr} {u : HO} (h : Rd H a u) (s : Same H H') : Rd H' a u := h.elim (fun e => .inl (s _ _ e)) (fun ⟨o, e⟩ => .inr ⟨o, s _ _ e⟩)
theorem PlanAt.same {H H' : Hp} {a : Addr} {S : Sh} {plan : Str -> List Int} (h : PlanAt H a S plan) (s : Same H H') : PlanAt H' a S plan := by
 obtain ⟨kvs, h1, h2⟩ := h
 exact ⟨kvs, h1.same s, fun nm hn => let ⟨l, e1, e2, e3⟩ := h2 nm hn; ⟨l, e1, s _ _ e2, e3⟩⟩
theorem PlanFor.same {H H' : Hp} {a : Addr} {S : Sh} {plan : Str -> List Int} {P : Str -> Prop} (h : PlanFor H a S plan P) (s : Same H H') : PlanFor H' a S plan P := by
 obtain ⟨kvs, h1, h2⟩ := h
 exact ⟨kvs, h1.same s, fun nm hn hP => let ⟨l, e1, e2, e3⟩ := h2 nm hn hP; ⟨l, e1, s _ _ e2, e3⟩⟩
theorem Good.days {sz : Int} {S : Sh} (g : Good sz S) (hz : 0 < sz) (hz2 : sz <= 1000) : 1 <= daysN S /\ daysN S <= 1000 /\ ((daysN S : Nat) : Int) = 1 + Ev (S.wants.map fun u => u.2.1) /\ ∀ u ∈ S.wants, u.2.1.toNat < daysN S := by
 have h0 : 0 <= Ev (S.wants.map fun u => u.2.1) := Mt fun x hx => by
  obtain ⟨u, hu, rfl⟩ := Zzr.mp hx
  exact (g.wants.2 u hu).2.1.1
 have h1 : Ev (S.wants.map fun u => u.2.1) < sz := Qu hz fun x hx => by
  obtain ⟨u, hu, rfl⟩ := Zzr.mp hx
  exact (g.wants.2 u hu).2.1.2
 unfold daysN
 refine ⟨by omega, by omega, by omega, fun u hu => ?_⟩
 have h2 : u.2.1 <= Ev (S.wants.map fun u => u.2.1) := Qv (Zzr.mpr ⟨u, hu, rfl⟩)
 have h3 := (g.wants.2 u hu).2.1.1
 omega
def sp_count_days : Sp := fun vs H Q _ => ∃ (v : V) (S : Sh), vs = [v] /\ RD H S.d v /\ S.wants.length <= 1000 /\ ∀ H', Same H H' -> Q (.int (1 + Ev (S.wants.map fun u => u.2.1))) H'
theorem Oh : Al ["shop"] ["shop"] (Aa Dd) := by constructor <;> first | rfl | decide +kernel
theorem Oo (F : Fun K "count_days" "count_days" Dd f fd) (T : Txt mg) : FnOk P w K mg base CX0 1 f fd ["shop"] sp_count_days := by
 refine F.ok Oh (fun vs H Q E h => ?_) (fun cdv A outer s H vs Q E hr h => ?_)
 ·obtain ⟨v, S, rfl, _⟩ := h
  rfl
 ·obtain ⟨v, S, rfl, rs, hw, k⟩ := h
  have hu := B8 hr
  refine ⟨_, (A7 (Am (Av Bw A6 (Vh rfl rfl T.Zuf (Df (own := ["want"]) (cap := []) rfl (E8 rfl) (Bm (by decide)) (Cl (A5 hu (pv 0) A6 (fun _ _ => rfl)))
 (fun _ _ _ _ _ _ => ⟨(Ac (i := 0) (of_decide_eq_true rfl) rfl (Zzw rfl) (.inr rfl)), E3, (A5 hu (pv 0) (Ah rfl T.Zv9) (fun _ _ => rfl))⟩)))))), ?_⟩
  obtain ⟨a, b, c, ws, us, rfl, ha, hb, hc, rws, rus⟩ := Cd rs
  have hl := Ao rus
  walk_at "rd"
  refine ⟨_, Ad (j := 1) ha rfl, c, rfl, us, hc, ?_⟩
  refine G5 (Di c _) (B3 (by omega)) (fun H' s' => s' _ _ hc) ((S.wants.map fun u => u.2.1).map V.int) (by rw [Zzz, Zzz, hl]) (fun i x H' hi hx s' N M hN => ?_) (fun H' s' p hp => ?_)
  ·obtain ⟨y, hy, ry⟩ := Ax rus hx
   obtain ⟨e, rfl, he⟩ := Kg ry
   walk_at "rd"
   exact ⟨_, Ad (j := 1) (s' _ _ he) rfl, hN _ _ s' (by rw [Zzx, Zzx, hy]; rfl)⟩
  ·exact ⟨p, rfl, _, A1, k _ (s'.trans (A3 hp))⟩
def sp_begun_row : Sp := fun vs H Q _ => ∃ (a : Addr) (v : V) (S : Sh) (plan : Str -> List Int) (w : Wr) (P : Str -> Prop), vs = [.ref a, v] /\ PlanFor H a S plan P /\ P w.name /\ daysN S <= 1000 /\ RD H w.d v /\ w ∈ S.wares /\ 0 <= w.lag /\ w.lag <= 1000 /\ ∀ p H', H p = none -> H' p = some (.lst ((Az (plan w.name) w.lag).map V.int)) -> Same H H' -> Q (.ref p) H'
theorem sc_begun_row : Al ["plan", "ware", "lots"] ["plan", "ware"] (Aa Dw) := by constructor <;> first | rfl | decide +kernel
theorem Ql (F : Fun K "begun_row" "begun_row" Dw f fd) (T : Txt mg) : FnOk P w K mg base CX0 1 f fd ["plan", "ware"] sp_begun_row := by
 refine F.ok sc_begun_row (fun vs H Q E h => ?_) (fun cdv A outer s H vs Q E hr h => ?_)
 ·obtain ⟨a, v, S, plan, w, P, rfl, _⟩ := h
  rfl
 ·obtain ⟨a, v, S, plan, w, P', rfl, ⟨kvs, hk, hpl⟩, hP, hd, rw', hm, l0, l1, k⟩ := h
  have hu := B8 hr
  refine ⟨_, (A2 (Af (i := 2) sc_begun_row.nd rfl (Zzw rfl) (A5 hu (pv 0) (A5 hu (pv 1) (Ah rfl T.Zvi) (fun _ _ => rfl)) (fun _ _ => rfl)))
 (A7 (Am (Av Qc (Hk Km (pv 2) (Hy (A5 hu (pv 1) (Ah rfl T.Zun) (fun _ _ => rfl))) Kr) (Av U1 (Bk (A4 A6 A0)) (An (Lv rfl) rfl T.Ztt Uq (A4 (A5 hu (pv 1) (Ah rfl T.Zun) (fun _ _ => rfl)) (A4 (An B7 rfl T.Zvc D2 (A4 (pv 2) A0)) A0)))))))), ?_⟩
  obtain ⟨e, c1, c2, rfl, he, _⟩ := B5 rw'
  obtain ⟨l, hv, hl, hlen, _⟩ := hpl w.name (Zzr.mpr ⟨w, hm, rfl⟩) hP
  walk_at "rd"
  refine ⟨_, Ad (j := 0) he rfl, .ref l, Cb hk hv, _, Ad (j := 1) he rfl, ?_⟩
  refine ⟨w.lag, rfl, l, rfl, _, hl, fun p1 hp1 => ⟨by decide, fun p2 hp2 => ?_⟩⟩
  have u1 := A3 (o := .lst (Jv ((plan w.name).map V.int) (some w.lag) none)) hp1
  have u2 := u1.trans (A3 (o := .lst [V.int 0]) hp2)
  refine ⟨_, Ad (j := 1) (u2 _ _ he) rfl, l, rfl, _, .inl (u2 _ _ hl), w.lag, rfl, [V.int 0], A1, ?_, ?_, ?_, fun p3 hp3 => ?_⟩
  ·split <;> omega
  ·rw [Zzz]; split <;> omega
  ·refine B3 ?_
   rw [Zzz, Zyl]
   split <;> omega
  ·have emin : (if (((plan w.name).map V.int).length : Int) < w.lag then (((plan w.name).map V.int).length : Int) else w.lag).toNat = min w.lag.toNat (plan w.name).length := by
    rw [Zzz]
    split <;> omega
   rw [emin, Nf, Jq l0]
   have u3 := u2.trans (A3 (o := .lst ((B1 (min w.lag.toNat (plan w.name).length) fun _ => 0).map V.int)) hp3)
   rw [Jq l0] at u3
   have n12 : p1 ≠ p2 := A9 A1 hp2
   refine ⟨((plan w.name).map V.int).drop w.lag.toNat, ?_, _, A1, ?_, fun p4 hp4 => ?_⟩
   ·rw [A8 (fun e => by rw [<- e, A8 n12, A1] at hp3; cases hp3), A8 n12, A1]
   ·refine B3 ?_
    rw [Zxq, Zzz, Zzz, At]
    omega
   ·refine k p4 _ (Same.free u3 hp4) ?_ (u3.trans (A3 hp4))
    rw [A1, <- Zvm, <- Zzf, ai]
def sp_wants_row : Sp := fun vs H Q _ => ∃ (v x : V) (S : Sh) (w : Wr) (sz : Int), vs = [v, x] /\ RD H S.d v /\ RD H w.d x /\ Good sz S /\ 0 < sz /\ sz <= 1000 /\ ∀ p H', H p = none -> H' p = some (.lst ((B1 (daysN S) fun d => Bz (wAt w.name d) S.wants).map V.int)) -> Same H H' -> Q (.ref p) H'
def ak (v x : V) (p : Addr) (S : Sh) (nm : Str) (H : Hp) (i : Nat) (σ : St) (H' : Hp) : Prop := ∃ o : Option V, σ = [some v, some x, some (.ref p), o] /\ H' p = some (.lst ((B1 (daysN S) fun d => Bz (wAt nm d) (S.wants.take i)).map V.int)) /\ Same H H'
theorem sc_wants_row : Al ["shop", "ware", "told", "want"] ["shop", "ware"] (Aa Do) := by constructor <;> first | rfl | decide +kernel
theorem Qd (F : Fun K "wants_row" "wants_row" Do f fd) (T : Txt mg) (Zv6 : Has P w K mg base "count_days" 1 ["shop"] sp_count_days) : FnOk P w K mg base CX0 2 f fd ["shop", "ware"] sp_wants_row := by
 refine F.ok sc_wants_row (fun vs H Q E h => ?_) (fun cdv A outer s H vs Q E hr h => ?_)
 ·obtain ⟨v, x, S, w, sz, rfl, _⟩ := h
  rfl
 ·obtain ⟨v, x, S, w, sz, rfl, rs, rx, g, z0, z1, k⟩ := h
  have hu := B8 hr
  obtain ⟨n1, n2, n3, n4⟩ := g.days z0 z1
  refine ⟨_, (A2 (Af (i := 2) sc_wants_row.nd rfl (Zzw rfl) (Av U1 (Bk (A4 A6 A0)) (Ab Zv6 hr.z rfl (A4 (pv 0) A0))))
 (A2 (As PassesOwn.never rfl (Cl (A5 hu (pv 0) A6 (fun _ _ => rfl))) (Ac (i := 3) sc_wants_row.nd rfl (Zzw rfl))
 (A7 (Bf (Ak (Bl hu) (A5 hu (pv 3) (Ah rfl T.Zv8) (fun _ _ => rfl)) (A5 hu (pv 1) (Ah rfl T.Zvi) (fun _ _ => rfl)) (Ap _)) (A7 (Kp (pv 2) (A5 hu (pv 3) (Ah rfl T.Zv9) (fun _ _ => rfl)) Kz (A5 hu (pv 3) (Ah rfl T.Zvf) (fun _ _ => rfl)) Gb Dz)) Au)))
 (A7 (Am (pv 2))))), ?_⟩
  obtain ⟨a, b, c, ws, us, rfl, ha, hb, hc, rws, rus⟩ := Cd rs
  obtain ⟨xe, c1, c2, rfl, hxe, _⟩ := B5 rx
  have hl := Ao rus
  walk_at "rd"
  refine ⟨by decide, fun p0 hp0 => ?_⟩
  have u0 := A3 (o := .lst [V.int 0]) hp0
  refine ⟨.ref a, S, rfl, RD.same u0 _ _ rs, by have := g.wants.1; omega, fun H1 sm1 => ?_⟩
  have h01 := sm1 p0 _ A1
  have sm01 := u0.trans sm1
  rw [<- n3]
  refine ⟨_, rfl, _, h01, by omega, by omega, by rw [Zyl]; exact B3 (by omega), fun p hp => ?_⟩
  have u1 := sm01.trans (A3 (o := .lst ((B1 (daysN S) fun _ => 0).map V.int)) hp)
  have en : ((daysN S : Nat) : Int).toNat = daysN S := by omega
  rw [en, Nf]
  refine ⟨_, Ad (j := 1) (u1 _ _ ha) rfl, c, rfl, us, u1 _ _ hc, ?_⟩
  refine Bd (Di c _) (ak (.ref a) (.ref xe) p S w.name H) ⟨_, rfl, ?_, u1⟩ (fun i σ H' _ h => let ⟨_, _, _, s⟩ := h; s _ _ hc) (fun i y σ H2 hi hy h => ?_) (fun σ H2 h => ?_)
  ·rw [A1]
   exact congrArg (fun z => some (HO.lst (Zxs V.int z))) (Cs fun d _ => by simp [Ki])
  ·obtain ⟨o, rfl, hp2, sm⟩ := h
   obtain ⟨u, hu', ru⟩ := Ax rus hy
   obtain ⟨e, rfl, he⟩ := Kg ru
   have he' := sm _ _ he
   have hx' := sm _ _ hxe
   have hum := Zzt hu'
   walk_at "rd"
   refine ⟨_, Ad (j := 0) he' rfl, _, Ad (j := 0) hx' rfl, rfl, C9 (fun hz => ?_) (fun hz => ?_)⟩
   ·have hz := of_decide_eq_true hz
    have hz : u.1 = w.name := V.str.inj hz
    have hd := n4 u hum
    have hd0 := (g.wants.2 u hum).2.1.1
    refine ⟨_, Ad (j := 1) he' rfl, _, u.2.1, rfl, hp2, hd0, _, by rw [Zzx, Bi hd]; rfl, _, Ad (j := 2) he' rfl, _, rfl, _, rfl, _, _, rfl, hp2, u.2.1.toNat, ?_, ?_⟩
    ·rw [Zzz, At]
     unfold ixN
     rw [if_pos hd0, if_pos (by omega)]
    ·refine ⟨_, rfl, ?_, fun b' o' hb' => by rw [A8 (A9 hb' (Same.free sm01 hp))]; exact sm b' o' hb'⟩
     rw [A1, <- Zwh, Lh]
     refine congrArg (fun z => some (HO.lst (Zxs V.int z))) (Cs fun d _ => ?_)
     rw [Ec _ hu']
     unfold wAt
     by_cases e1 : d = u.2.1.toNat
     ·subst e1
      rw [if_pos rfl, if_pos ⟨hz, by omega⟩]
     ·rw [if_neg e1, if_neg (fun q => e1 (by omega)), Zx6]
   ·refine ⟨_, rfl, ?_, sm⟩
    rw [hp2]
    refine congrArg (fun z => some (HO.lst (Zxs V.int z))) (Cs fun d _ => ?_)
    rw [Ec _ hu']
    unfold wAt
    rw [if_neg (c := u.1 = w.name /\ _) (fun q => hz (decide_eq_true (by rw [q.1]))), Zx6]
  ·obtain ⟨o, rfl, hp2, sm⟩ := h
   walk_at "rd"
   rw [hl, Zz1] at hp2
   exact k p H2 (Same.free sm01 hp) hp2 sm
end
set_option maxHeartbeats 4000000
section
variable {P : Program} {w : World} {K : Zzv} {mg : Str -> Option Value} {base : Heap} {f : Addr} {fd : FuncData} {Pt : Addr}
def sp_needs_row : Sp := fun vs H Q _ => ∃ (v : V) (a : Addr) (x : V) (S : Sh) (plan : Str -> List Int) (w : Wr) (sz : Int), vs = [v, .ref a, x] /\ RD H S.d v /\ PlanFor H a S plan (ao S w.name) /\ RD H w.d x /\ Good sz S /\ 0 < sz /\ sz <= 1000 /\ ∀ p H', H p = none -> H' p = some (.lst ((Bb S plan w.name).map V.int)) -> Same H H' -> Q (.ref p) H'
def aq (v : V) (a : Addr) (x : V) (S : Sh) (plan : Str -> List Int) (nm : Str) (H : Hp) (i : Nat) (σ : St) (H' : Hp) : Prop := ∃ (q : Addr) (o1 o2 o3 : Option V), σ = [some v, some (.ref a), some x, some (.ref q), o1, o2, o3] /\ H q = none /\
 H' q = some (.lst ((B1 (daysN S) fun d => Bz (wAt nm d) S.wants + Bz (pAt plan nm d) (S.wares.take i)).map V.int)) /\ Same H H'
def ar (v : V) (a : Addr) (x t : V) (S : Sh) (plan : Str -> List Int) (nm : Str) (w : Wr) (i : Nat) (H : Hp) (j : Nat) (σ : St) (H' : Hp) : Prop := ∃ (q : Addr) (o2 o3 : Option V), σ = [some v, some (.ref a), some x, some (.ref q), some t, o2, o3] /\ H q = none /\
 H' q = some (.lst ((B1 (daysN S) fun d => Bz (wAt nm d) S.wants + Bz (pAt plan nm d) (S.wares.take i) + Bz (fun p : Str × Int => if p.1 = nm then p.2 * bAt (plan w.name) w.lag d else 0) (w.parts.take j)).map V.int)) /\ Same H H'
def jn (n : Nat) (g : Nat -> Int) (H1 : Hp) (i : Nat) (acc : List V) (H' : Hp) : Prop := acc = ((B1 n g).take i).map V.int /\ i <= n /\ Same H1 H'
theorem Ht {n i : Nat} {g : Nat -> Int} (h : i <= n) : (B1 n g).take i = B1 i g := by
 unfold B1
 rw [<- Zw7, List.take_range, Nat.min_eq_left h]
theorem sc_needs_row : Al ["shop", "plan", "ware", "told", "taker", "part", "amount"] ["shop", "plan", "ware"] (Aa Dq) := by constructor <;> first | rfl | decide +kernel
theorem Qf (F : Fun K "needs_row" "needs_row" Dq f fd) (T : Txt mg) (Zue : Has P w K mg base "wants_row" 2 ["shop", "ware"] sp_wants_row) (Zv3 : Has P w K mg base "begun_row" 1 ["plan", "ware"] sp_begun_row) : FnOk P w K mg base CX0 3 f fd ["shop", "plan", "ware"] sp_needs_row := by
 refine F.ok sc_needs_row (fun vs H Q E h => ?_) (fun cdv A outer s H vs Q E hr h => ?_)
 ·obtain ⟨v, a, x, S, plan, w, sz, rfl, _⟩ := h
  rfl
 ·obtain ⟨v, a, x, S, plan, w, sz, rfl, rs, pl, rx, g, z0, z1, k⟩ := h
  have hu := B8 hr
  obtain ⟨n1, n2, n3, n4⟩ := g.days z0 z1
  refine ⟨_, (A2 (Af (i := 3) sc_needs_row.nd rfl (Zzw rfl) (Ab Zue hr.z rfl (A4 (pv 0) (A4 (pv 2) A0))))
 (A2 (As PassesOwn.never rfl (Cl (A5 hu (pv 0) A6 (fun _ _ => rfl))) (Ac (i := 4) sc_needs_row.nd rfl (Zzw rfl))
 (A7 (As PassesOwn.never rfl (Cl (A5 hu (pv 4) (Ah rfl T.Zus) (fun _ _ => rfl))) (C1 (n := 2) rfl (Ag (Ac (i := 5) sc_needs_row.nd rfl (Zzw rfl)) (Ag (Ac (i := 6) sc_needs_row.nd rfl (Or.inr rfl)) Bh)))
 (A7 (Bf (Ak (Bl hu) (pv 5) (A5 hu (pv 2) (Ah rfl T.Zvi) (fun _ _ => rfl)) (Ap _)) (A7 (Ft (own := ["goes", "lots"]) (cap := [6]) (i := 3) rfl (E8 rfl) Pd sc_needs_row.nd rfl rfl (Vg rfl T.Ztu (A4 (pv 3) (A4 (Ab Zv3 hr.z rfl (A4 (pv 1) (A4 (pv 4) A0))) A0)))
 (fun _ _ _ _ _ _ => ⟨(C1 (n := 2) rfl (Ag (Ac (i := 0) (of_decide_eq_true rfl) rfl (Zzw rfl) (.inr rfl)) (Ag (Ac (i := 1) (of_decide_eq_true rfl) rfl (Zzw rfl) (.inr rfl)) Bh))), E3, (Av Bw (pv 0) (Av Ia (pv 2) (pv 1)))⟩))) Au)))))
 (A7 (Am (pv 3))))), ?_⟩
  obtain ⟨sa, sb, sc, ws, us, rfl, ha, hb, hc, rws, rus⟩ := Cd rs
  obtain ⟨xe, c1, c2, rfl, hxe, _⟩ := B5 rx
  have hl := Ao rws
  walk_at "rd"
  refine ⟨.ref sa, .ref xe, S, w, sz, rfl, rs, rx, g, z0, z1, fun q0 H1 hq0 hq1 sm1 => ?_⟩
  refine ⟨_, Ad (j := 0) (sm1 _ _ ha) rfl, sb, rfl, ws, sm1 _ _ hb, ?_⟩
  refine Bd (Di sb _) (aq (.ref sa) a (.ref xe) S plan w.name H) ⟨q0, _, _, _, rfl, hq0, ?_, sm1⟩ (fun i σ H' _ h => let ⟨_, _, _, _, _, _, _, s⟩ := h; s _ _ hb) (fun i y σ H2 hi hy h => ?_) (fun σ H2 h => ?_)
  ·rw [hq1]
   exact congrArg (fun z => some (HO.lst (Zxs V.int z))) (Cs fun d _ => by rw [Zwr, Ki, Zx6])
  ·obtain ⟨q, o1, o2, o3, rfl, hq, hq2, sm⟩ := h
   obtain ⟨t, ht, rt⟩ := Ax rws hy
   have htm := Zzt ht
   have wb := g.ws.wb t htm
   obtain ⟨te, d1, d2, rfl, hte, rc, rp⟩ := B5 rt
   obtain ⟨pb, pv, rfl, hpb, rpv⟩ := RD.tup_of rp
   have hlp := Ao rpv
   walk_at "rd"
   refine ⟨_, Ad (j := 6) (sm _ _ hte) rfl, pb, rfl, pv, sm _ _ hpb, ?_⟩
   refine Bd (Di pb _) (ar (.ref sa) a (.ref xe) (.ref te) S plan w.name t i H) ⟨q, _, _, rfl, hq, ?_, sm⟩ (fun j σ H' _ h => let ⟨_, _, _, _, _, _, s⟩ := h; s _ _ hpb) (fun j y σ H3 hj hy h => ?_) (fun σ H3 h => ?_)
   ·rw [hq2]
    exact congrArg (fun z => some (HO.lst (Zxs V.int z))) (Cs fun d _ => by rw [Zwr, Ki, Zx6])
   ·obtain ⟨q, o2, o3, rfl, hq, hq2, sm⟩ := h
    obtain ⟨pp, hpp, rpp⟩ := Ax rpv hy
    have hppm := Zzt hpp
    obtain ⟨pe, rfl, hpe⟩ := Kt rpp
    refine gt2 (sm _ _ hpe) ?_
    walk_at "rd"
    refine ⟨_, Ad (j := 0) (sm _ _ hxe) rfl, rfl, C9 (fun hz => ?_) (fun hz => ?_)⟩
    ·have hz : pp.1 = w.name := V.str.inj (of_decide_eq_true hz)
     have hT : ao S w.name t.name := ⟨t, htm, rfl, pp, hppm, hz⟩
     refine ⟨a, .ref te, S, plan, t, _, rfl, pl.same sm, hT, n2, RD.same sm _ _ rt, htm, wb.lag.1, by have := wb.lag.2; omega, fun b H4 hb4 hb5 sm4 => ?_⟩
     have hq4 := sm4 _ _ hq2
     have sm04 := sm.trans sm4
     refine ⟨b, rfl, _, hq4, _, hb5, ?_⟩
     obtain ⟨kvs, hkv, hpl⟩ := pl
     obtain ⟨l, hv, hll, hlen, hbd⟩ := hpl t.name (Zzr.mpr ⟨t, htm, rfl⟩) hT
     have lb : (Az (plan t.name) t.lag).length = daysN S := by unfold Az; rw [At, hlen]
     have en : min (((B1 (daysN S) fun d => Bz (wAt w.name d) S.wants + Bz (pAt plan w.name d) (S.wares.take i) + Bz (fun p : Str × Int => if p.1 = w.name then p.2 * bAt (plan t.name) t.lag d else 0) (t.parts.take j)).map V.int).length) (((Az (plan t.name) t.lag).map V.int).length) = daysN S := by
      rw [Zzz, Zzz, At, lb, Nat.min_self]
     have G := Zq q b ((B1 (daysN S) fun d => Bz (wAt w.name d) S.wants + Bz (pAt plan w.name d) (S.wares.take i) + Bz (fun p : Str × Int => if p.1 = w.name then p.2 * bAt (plan t.name) t.lag d else 0) (t.parts.take j)).map V.int) ((Az (plan t.name) t.lag).map V.int)
     rw [en] at G
     refine jj G (B3 n2) (jn (daysN S) (fun d => Bz (wAt w.name d) S.wants + Bz (pAt plan w.name d) (S.wares.take i) + Bz (fun p : Str × Int => if p.1 = w.name then p.2 * bAt (plan t.name) t.lag d else 0) (t.parts.take j) + pp.2 * bAt (plan t.name) t.lag d) H4) ⟨rfl, Zyr _, Same.refl _⟩ (fun r acc H' _ h => ⟨h.2.2 _ _ hq4, h.2.2 _ _ hb5⟩) (fun r acc H' h => ?_) (fun r ys z acc H5 hr hys h hz5 => ?_) (fun acc H5 h p hp => ?_)
     ·rw [h.1, Zzz, Ht h.2.1, At]
      exact Zzs _
     ·obtain ⟨rfl, h2, h3⟩ := h
      obtain ⟨y1, y2, e1, e2, rfl⟩ := hys
      rw [Zzx, Bi hr] at e1
      cases e1
      have hbg : (Az (plan t.name) t.lag)[r]? = some (bAt (plan t.name) t.lag r) := by unfold Az; rw [Bi (by rw [hlen]; exact hr)]
      rw [Zzx, hbg] at e2
      cases e2
      refine gT2 ?_
      walk_at "rd"
      have hamt := wb.amts pp hppm
      refine ⟨.inl (.inl ⟨by omega, by omega⟩), ?_, hr, h3.trans (A3 hz5)⟩
      rw [Ht (by omega), Ht (by omega), K0, Zzf]
      rfl
     ·obtain ⟨rfl, h2, h3⟩ := h
      rw [Ht (Zzs _)]
      refine ⟨p, _, _, rfl, Same.free (sm04.trans h3) hp, ?_, (sm04.trans h3).trans (A3 hp)⟩
      rw [A1]
      refine congrArg (fun z => some (HO.lst (Zxs V.int z))) (Cs fun d _ => ?_)
      rw [Ec _ hpp, if_pos hz]
      omega
    ·refine ⟨q, _, _, rfl, hq, ?_, sm⟩
     rw [hq2]
     refine congrArg (fun z => some (HO.lst (Zxs V.int z))) (Cs fun d _ => ?_)
     rw [Ec _ hpp, if_neg (c := pp.1 = w.name) (fun e => hz (decide_eq_true (by rw [e]))), Zx6]
   ·obtain ⟨q, o2, o3, rfl, hq, hq2, sm⟩ := h
    rw [hlp, Zz1] at hq2
    refine ⟨q, _, _, _, rfl, hq, ?_, sm⟩
    rw [hq2]
    refine congrArg (fun z => some (HO.lst (Zxs V.int z))) (Cs fun d _ => ?_)
    rw [Ec _ ht]
    unfold pAt
    omega
  ·obtain ⟨q, o1, o2, o3, rfl, hq, hq2, sm⟩ := h
   walk_at "rd"
   rw [hl, Zz1] at hq2
   exact k q H2 hq hq2 sm
end
set_option maxHeartbeats 4000000
section
variable {P : Program} {w : World} {K : Zzv} {mg : Str -> Option Value} {base : Heap} {f : Addr} {fd : FuncData} {Pt : Addr}
def Ri (ns : List Int) (j : Nat) : Int := (ns.take j).sum
def cum (ns : List Int) (n : Nat) : List Int := (Zyy n).map fun j => Ri ns (j + 1)
theorem Lb {ns : List Int} {i : Nat} {c : Int} (h : ns[i]? = some c) : Ri ns (i + 1) = Ri ns i + c := by
 unfold Ri
 rw [Zz5, h, List.sum_append]
 simp
theorem aa (ns : List Int) (n : Nat) : cum ns (n + 1) = cum ns n ++ [Ri ns (n + 1)] := by
 unfold cum
 rw [Zyd, Zzf]
 rfl
theorem fq (ns : List Int) (n : Nat) : (cum ns n).length = n := by simp [cum]
def jx (r p : Addr) (ns : List Int) (H : Hp) (i : Nat) (σ : St) (H' : Hp) : Prop := ∃ c : Option V, σ = [some (.ref r), some (.ref p), some (.int (Ri ns i)), c] /\ H' p = some (.lst ((cum ns i).map V.int)) /\ Same H H'
def sp_so_far : Sp := fun vs H Q _ => ∃ (r : Addr) (ns : List Int), vs = [.ref r] /\ H r = some (.lst (ns.map V.int)) /\ ns.length <= 1000 /\ ∀ p H', H p = none -> H' p = some (.lst ((cum ns ns.length).map V.int)) -> Same H H' -> Q (.ref p) H'
theorem sc_so_far : Al ["row", "told", "total", "number"] ["row"] (Aa Hg) := by constructor <;> first | rfl | decide +kernel
theorem Wv (F : Fun K "so_far" "so_far" Hg f fd) (T : Txt mg) : FnOk P w K mg base CX0 1 f fd ["row"] sp_so_far := by
 refine F.ok sc_so_far (fun vs H Q E h => ?_) (fun cdv A outer s H vs Q E hr h => ?_)
 ·obtain ⟨r, ns, rfl, _⟩ := h
  rfl
 ·obtain ⟨r, ns, rfl, hr0, hl, k⟩ := h
  have hu := B8 hr
  refine ⟨_, (A2 (Af (i := 1) sc_so_far.nd rfl (Zzw rfl) (Bk A0))
 (A2 (Af (i := 2) sc_so_far.nd rfl (Zzw rfl) A6)
 (A2 (As PassesOwn.never rfl (C0 (pv 0)) (Ac (i := 3) sc_so_far.nd rfl (Zzw rfl))
 (A2 (Li (i := 2) sc_so_far.nd rfl (Zzw rfl) (pv 3) Gb)
 (A7 (B9 (D5 Zzb Zz8 Zz7 B4 (pv 1) (A4 (pv 2) A0))))))
 (A7 (Am (pv 1)))))), ?_⟩
  walk_at "rd"
  refine ⟨Zyr _, fun p hp => ⟨_, by rw [A8 (A9 hr0 hp)]; exact hr0, ?_⟩⟩
  refine Bd (Dh r _) (jx r p ns H) ⟨_, rfl, A1, A3 hp⟩ (fun i σ H' _ h => let ⟨_, _, _, s⟩ := h; s _ _ hr0) (fun i x σ H' hi hx h => ?_) (fun σ H' h => ?_)
  ·obtain ⟨c, rfl, h1, sm⟩ := h
   have hi' : i < ns.length := by simpa using hi
   rw [Zzx] at hx
   cases ec : ns[i]? with
   | none => rw [ec] at hx; cases hx
   | some c =>
   rw [ec] at hx
   cases hx
   walk_at "rd"
   refine ⟨Fs h1, _, h1, Zyk (m := 1000) (by rw [Zzz, fq]; omega) (by decide), ?_⟩
   refine ⟨_, by rw [Lb ec], ?_, fun b o hb => ?_⟩
   ·rw [A1, aa, Zzf, Lb ec]; rfl
   ·rw [A8 (A9 hb hp)]; exact sm b o hb
  ·obtain ⟨c, rfl, h1, sm⟩ := h
   walk_at "rd"
   rw [Zzz] at h1
   exact k p H' hp h1 sm
theorem Rh {n : Nat} {f : Nat -> Int} : ∀ {d : Nat}, d <= n -> Ri (B1 n f) d = upS f d
 | 0, _ => by simp [Ri, upS]
 | d + 1, h => by rw [Lb (Bi (by omega)), Rh (by omega), upS]
theorem fo {n : Nat} {f : Nat -> Int} : cum (B1 n f) (B1 n f).length = B1 n fun d => upS f (d + 1) := by
 rw [At]
 unfold cum
 show _ = (Zyy n).map _
 apply Zxk
 intro d hd
 exact Rh (by have := Zxg.mp hd; omega)
def sp_arrivals_row : Sp := fun vs H Q _ => ∃ (v x : V) (S : Sh) (w : Wr) (sz : Int), vs = [v, x] /\ RD H S.d v /\ RD H w.d x /\ Good sz S /\ 0 < sz /\ sz <= 1000 /\ w.coming.length <= 1000 /\ (∀ p ∈ w.coming, 0 <= p.1) /\ ∀ p H', H p = none -> H' p = some (.lst ((B1 (daysN S) (Co w)).map V.int)) -> Same H H' -> Q (.ref p) H'
def ke (v x : V) (p : Addr) (S : Sh) (w : Wr) (H : Hp) (i : Nat) (σ : St) (H' : Hp) : Prop := ∃ o1 o2 : Option V, σ = [some v, some x, some (.ref p), o1, o2] /\ H' p = some (.lst ((B1 (daysN S) fun d => (if d = 0 then w.stock else 0) + Bz (cAt d) (w.coming.take i)).map V.int)) /\ Same H H'
theorem sc_arrivals_row : Al ["shop", "ware", "told", "day", "amount"] ["shop", "ware"] (Aa Ck) := by constructor <;> first | rfl | decide +kernel
theorem Mn (F : Fun K "arrivals_row" "arrivals_row" Ck f fd) (T : Txt mg) (Zv6 : Has P w K mg base "count_days" 1 ["shop"] sp_count_days) : FnOk P w K mg base CX0 2 f fd ["shop", "ware"] sp_arrivals_row := by
 refine F.ok sc_arrivals_row (fun vs H Q E h => ?_) (fun cdv A outer s H vs Q E hr h => ?_)
 ·obtain ⟨v, x, S, w, sz, rfl, _⟩ := h
  rfl
 ·obtain ⟨v, x, S, w, sz, rfl, rs, rx, g, z0, z1, hcl, hcd, k⟩ := h
  have hu := B8 hr
  obtain ⟨n1, n2, n3, n4⟩ := g.days z0 z1
  refine ⟨_, (A2 (Af (i := 2) sc_arrivals_row.nd rfl (Zzw rfl) (Av U1 (Bk (A4 A6 A0)) (Ab Zv6 hr.z rfl (A4 (pv 0) A0))))
 (A2 (Ek (A5 hu (pv 1) (Ah rfl T.Zuj) (fun _ _ => rfl)) (Ez (pv 2) A6 Dz))
 (A2 (As PassesOwn.never rfl (Cl (A5 hu (pv 1) (Ah rfl T.Zuv) (fun _ _ => rfl))) (C1 (n := 2) rfl (Ag (Ac (i := 3) sc_arrivals_row.nd rfl (Zzw rfl)) (Ag (Ac (i := 4) sc_arrivals_row.nd rfl (Zzw rfl)) Bh)))
 (A7 (Bf (Ak (Ll hu) (pv 3) (An B7 rfl T.Zvc D2 (A4 (pv 2) A0)) (Ap _)) (A7 (Kp (pv 2) (pv 3) Kz (pv 4) Gb Dz)) Au)))
 (A7 (Am (pv 2)))))), ?_⟩
  obtain ⟨xe, c1, c2, rfl, hxe, rc, _⟩ := B5 rx
  obtain ⟨cb, cv, rfl, hcb, rcv⟩ := RD.tup_of rc
  have hl := Ao rcv
  walk_at "rd"
  refine ⟨by decide, fun p0 hp0 => ?_⟩
  have u0 := A3 (o := .lst [V.int 0]) hp0
  refine ⟨v, S, rfl, RD.same u0 _ _ rs, by have := g.wants.1; omega, fun H1 sm1 => ?_⟩
  have h01 := sm1 p0 _ A1
  have sm01 := u0.trans sm1
  rw [<- n3]
  refine ⟨_, rfl, _, h01, by omega, by omega, by rw [Zyl]; exact B3 (by omega), fun p hp => ?_⟩
  have u1 := sm01.trans (A3 (o := .lst ((B1 (daysN S) fun _ => 0).map V.int)) hp)
  have en : ((daysN S : Nat) : Int).toNat = daysN S := by omega
  rw [en, Nf]
  have fp : H p = none := Same.free sm01 hp
  refine ⟨_, Ad (j := 4) (u1 _ _ hxe) rfl, _, A1, 0, ?_, ?_⟩
  ·rw [Zzz, At]
   unfold ixN
   rw [if_pos (by decide), if_pos (by omega)]
   rfl
  have kx : ∀ {b : Addr} {o o' o2 : HO}, H b = some o -> upd (upd H1 p o') p o2 b = some o := fun {b o o' o2} hb => by rw [A8 (A9 hb fp), A8 (A9 hb fp)]; exact sm01 b o hb
  refine ⟨_, Ad (j := 5) (kx hxe) rfl, cb, rfl, cv, kx hcb, ?_⟩
  refine Bd (Di cb _) (ke v (.ref xe) p S w H) ⟨_, _, rfl, ?_, fun b o hb => kx hb⟩ (fun i σ H' _ h => let ⟨_, _, _, _, s⟩ := h; s _ _ hcb) (fun i y σ H2 hi hy h => ?_) (fun σ H2 h => ?_)
  ·rw [A1, <- Zwh, Lh]
   exact congrArg (fun z => some (HO.lst (Zxs V.int z))) (Cs fun d _ => by rw [Zwr, Ki, Zx6])
  ·obtain ⟨o1, o2, rfl, hp2, sm⟩ := h
   obtain ⟨u, hu', ru⟩ := Ax rcv hy
   obtain ⟨e, rfl, he⟩ := Uu ru
   refine gt2 (sm _ _ he) ?_
   have hd0 := hcd u (Zzt hu')
   walk_at "rd"
   refine ⟨_, .inl hp2, C9 (fun hz => ?_) (fun hz => ?_)⟩
   ·have hz := of_decide_eq_true hz
    rw [Zzz, At] at hz
    have hd : u.1.toNat < daysN S := by omega
    refine ⟨_, hp2, hd0, _, by rw [Zzx, Bi hd]; rfl, _, rfl, _, hp2, u.1.toNat, ?_, ?_⟩
    ·rw [Zzz, At]
     unfold ixN
     rw [if_pos hd0, if_pos (by omega)]
    ·refine ⟨_, _, rfl, ?_, fun b' o' hb' => by rw [A8 (A9 hb' fp)]; exact sm b' o' hb'⟩
     rw [A1, <- Zwh, Lh]
     refine congrArg (fun z => some (HO.lst (Zxs V.int z))) (Cs fun d _ => ?_)
     rw [Ec _ hu']
     unfold cAt
     by_cases e1 : d = u.1.toNat
     ·subst e1
      rw [if_pos rfl, if_pos (c := u.1 = _) (by omega)]
      omega
     ·rw [if_neg e1, if_neg (c := u.1 = _) (fun q => e1 (by omega)), Zx6]
   ·have hz : ¬ u.1 < (daysN S : Int) := fun q => hz (decide_eq_true (by rw [Zzz, At]; exact q))
    refine ⟨_, _, rfl, ?_, sm⟩
    rw [hp2]
    refine congrArg (fun z => some (HO.lst (Zxs V.int z))) (Cs fun d hd => ?_)
    rw [Ec _ hu']
    unfold cAt
    rw [if_neg (c := u.1 = _) (fun q => hz (by omega)), Zx6]
  ·obtain ⟨o1, o2, rfl, hp2, sm⟩ := h
   walk_at "rd"
   rw [hl, Zz1] at hp2
   exact k p H2 fp hp2 sm
def sp_stocks_row : Sp := fun vs H Q _ => ∃ (v : V) (a : Addr) (x : V) (S : Sh) (plan : Str -> List Int) (w : Wr) (sz : Int), vs = [v, .ref a, x] /\ RD H S.d v /\ PlanAt H a S plan /\ RD H w.d x /\ w ∈ S.wares /\ Good sz S /\ 0 < sz /\ sz <= 1000 /\ ∀ p H', H p = none -> H' p = some (.lst ((Et S plan w).map V.int)) -> Same H H' -> Q (.ref p) H'
def jz (v : V) (a : Addr) (x : V) (p : Addr) (S : Sh) (plan : Str -> List Int) (w : Wr) (H1 : Hp) (i : Nat) (σ : St) (H' : Hp) : Prop := ∃ o1 o2 o3 : Option V, σ = [some v, some (.ref a), some x, some (.ref p), o1, o2, o3] /\ i <= daysN S /\ H' p = some (.lst ((B1 i (ft S plan w)).map V.int)) /\ ∀ b o, b ≠ p -> H1 b = some o -> H' b = some o
theorem sc_stocks_row : Al ["shop", "plan", "ware", "changes", "comes", "lots", "goes"] ["shop", "plan", "ware"] (Aa D8) := by constructor <;> first | rfl | decide +kernel
theorem Oi (F : Fun K "stocks_row" "stocks_row" D8 f fd) (T : Txt mg) (Zv2 : Has P w K mg base "needs_row" 3 ["shop", "plan", "ware"] sp_needs_row) (Zvd : Has P w K mg base "arrivals_row" 2 ["shop", "ware"] sp_arrivals_row) (Zu3 : Has P w K mg base "so_far" 1 ["row"] sp_so_far) : FnOk P w K mg base CX0 4 f fd ["shop", "plan", "ware"] sp_stocks_row := by
 refine F.ok sc_stocks_row (fun vs H Q E h => ?_) (fun cdv A outer s H vs Q E hr h => ?_)
 ·obtain ⟨v, a, x, S, plan, w, sz, rfl, _⟩ := h
  rfl
 ·obtain ⟨v, a, x, S, plan, w, sz, rfl, rs, pl, rx, hm, g, z0, z1, k⟩ := h
  have hu := B8 hr
  obtain ⟨n1, n2, n3, n4⟩ := g.days z0 z1
  have wb := g.ws.wb w hm
  refine ⟨_, (A2 (Af (i := 3) sc_stocks_row.nd rfl (Zzw rfl) (Bk A0))
 (A2 (As PassesOwn.never rfl (cg rfl T.Ztu (A4 (Ab Zvd hr.z rfl (A4 (pv 0) (A4 (pv 2) A0))) (A4 (A5 hu (pv 1) (A5 hu (pv 2) (Ah rfl T.Zvi) (fun _ _ => rfl)) (fun _ _ => rfl)) (A4 (Ab Zv2 hr.z rfl (A4 (pv 0) (A4 (pv 1) (A4 (pv 2) A0)))) A0)))) (C1 (n := 3) rfl (Ag (Ac (i := 4) sc_stocks_row.nd rfl (Zzw rfl)) (Ag (Ac (i := 5) sc_stocks_row.nd rfl (Zzw rfl)) (Ag (Ac (i := 6) sc_stocks_row.nd rfl (Zzw rfl)) Bh))))
 (A7 (B9 (D5 Zzb Zz8 Zz7 B4 (pv 3) (A4 (Av K8 (Av Bw (pv 4) (Av Ia (A5 hu (pv 2) (Ah rfl T.Zut) (fun _ _ => rfl)) (pv 5))) (pv 6)) A0)))))
 (A7 (Am (Ab Zu3 hr.z rfl (A4 (pv 3) A0)))))), ?_⟩
  obtain ⟨xe, c1, c2, rfl, hxe, _⟩ := B5 rx
  obtain ⟨kvs, hkv, hpl⟩ := id pl
  obtain ⟨l, hv, hll, hlen, hbd⟩ := hpl w.name (Zzr.mpr ⟨w, hm, rfl⟩)
  walk_at "rd"
  refine ⟨Zyr _, fun p hp => ?_⟩
  have u0 := A3 (o := .lst []) hp
  have hcom := g.com w hm
  refine ⟨v, .ref xe, S, w, sz, rfl, RD.same u0 _ _ rs, RD.same u0 _ _ rx, g, z0, z1, by have := hcom.1; omega, fun q hq => (hcom.2 q hq).1.1, fun q1 H1 hq1 hq2 sm1 => ?_⟩
  have s01 := u0.trans sm1
  refine ⟨_, Ad (j := 0) (s01 _ _ hxe) rfl, _, Cb (hkv.same s01) hv, ?_⟩
  refine ⟨v, a, .ref xe, S, plan, w, sz, rfl, RD.same s01 _ _ rs, (pl.same s01).for _, RD.same s01 _ _ rx, g, z0, z1, fun q2 H2 hq3 hq4 sm2 => ?_⟩
  have s02 := s01.trans sm2
  have hp2 : H2 p = some (.lst []) := sm2 _ _ (sm1 _ _ A1)
  refine ⟨q1, rfl, l, rfl, q2, rfl, _, sm2 _ _ hq2, _, s02 _ _ hll, _, hq4, ?_⟩
  have lz : min ((B1 (daysN S) (Co w)).map V.int).length (min ((plan w.name).map V.int).length ((Bb S plan w.name).map V.int).length) = daysN S := by
   rw [Zzz, Zzz, Zzz, At, hlen]
   unfold Bb
   rw [At, Nat.min_self, Nat.min_self]
  have G := jb q1 l q2 ((B1 (daysN S) (Co w)).map V.int) ((plan w.name).map V.int) ((Bb S plan w.name).map V.int)
  rw [lz] at G
  have q1p : q1 ≠ p := fun e => by rw [e, A1] at hq1; cases hq1
  have lp : l ≠ p := A9 hll hp
  have q2p : q2 ≠ p := fun e => by rw [e, sm1 _ _ A1] at hq3; cases hq3
  have xp : xe ≠ p := A9 hxe hp
  refine Mb G (jz v a (.ref xe) p S plan w H2) ⟨_, _, _, rfl, Zyr _, hp2, fun b o _ h => h⟩ (fun i σ H' _ h => let ⟨_, _, _, _, _, _, s⟩ := h; ⟨s _ _ q1p (sm2 _ _ hq2), s _ _ lp (s02 _ _ hll), s _ _ q2p hq4⟩) (fun i ys pt σ H3 hi hys h hpt => ?_) (fun σ H3 h => ?_)
  ·obtain ⟨o1, o2, o3, rfl, hi', hp3, kp⟩ := h
   obtain ⟨y1, y2, y3, e1, e2, e3, rfl⟩ := hys
   have ep : (plan w.name)[i]? = some ((plan w.name).getD i 0) := by
    rw [Zzh, Zzu (by omega)]
    rfl
   rw [Zzx, Bi hi] at e1
   cases e1
   rw [Zzx, ep] at e2
   cases e2
   unfold Bb at e3
   rw [Zzx, Bi hi] at e3
   cases e3
   have hb := hbd _ (Zzt ep)
   have hg := wb.gives
   refine gT3 ?_
   walk_at "rd"
   have pp : p ≠ pt := A9 hp3 hpt
   have kx : upd H3 pt (.tup [V.int (Co w i), V.int ((plan w.name).getD i 0), V.int (Cm S plan w.name i)]) xe = some (.tup [V.str w.name, V.int w.lag, V.int w.gives, V.int w.floor, V.int w.stock, c1, c2]) := by
    rw [A8 (A9 (kp _ _ xp (s02 _ _ hxe)) hpt)]
    exact kp _ _ xp (s02 _ _ hxe)
   have hp4 : upd H3 pt (.tup [V.int (Co w i), V.int ((plan w.name).getD i 0), V.int (Cm S plan w.name i)]) p = some (.lst ((B1 i (ft S plan w)).map V.int)) := by
    rw [A8 pp]
    exact hp3
   refine ⟨Fs hp4, _, Ad (j := 2) kx rfl, _, rfl, .inl (.inl ⟨by omega, by omega⟩), _, hp4, ?_, _, _, _, rfl, hi, ?_, fun b o nb hb => ?_⟩
   ·rw [Zzz, At]
    exact Zyk (m := 1000) (by omega) (by decide)
   ·rw [A1, K0, Zzf]
    rfl
   ·rw [A8 nb, A8 (A9 (kp _ _ nb hb) hpt)]
    exact kp _ _ nb hb
  ·obtain ⟨o1, o2, o3, rfl, hi', hp3, kp⟩ := h
   walk_at "rd"
   refine ⟨p, B1 (daysN S) (ft S plan w), rfl, hp3, by rw [At]; exact n2, fun r H4 hr hr4 sm4 => ?_⟩
   have sm04 : Same H H4 := fun b o hb => sm4 _ _ (kp _ _ (A9 hb hp) (s02 _ _ hb))
   refine k r H4 ?_ ?_ sm04
   ·cases e : H r with
    | none => rfl
    | some o =>
     rw [kp _ _ (A9 e hp) (s02 _ _ e)] at hr
     cases hr
   ·rw [hr4, fo]
    rfl
end
set_option maxHeartbeats 4000000
section
variable {P : Program} {w : World} {K : Zzv} {mg : Str -> Option Value} {base : Heap} {f : Addr} {fd : FuncData} {Pt : Addr}
def sp_lots_for : Sp := fun vs H Q _ => ∃ m g, vs = [.int m, .int g] /\ 0 < g /\ g < 10 ^ 200 /\ Q (.int (Bp m g)) H
theorem Rq : Al ["amount", "gives"] ["amount", "gives"] (Aa Ef) := by constructor <;> first | rfl | decide +kernel
theorem S6 (F : Fun K "lots_for" "lots_for" Ef f fd) (T : Txt mg) : FnOk P w K mg base CX0 1 f fd ["amount", "gives"] sp_lots_for := by
 refine F.ok Rq (fun vs H Q E h => ?_) (fun cdv A outer s H vs Q E hr h => ?_)
 ·obtain ⟨m, g, rfl, _⟩ := h
  rfl
 ·obtain ⟨m, g, rfl, h0, h1, k⟩ := h
  have hu := B8 hr
  refine ⟨_, (A7 (Am (An (Hq rfl) rfl T.Zuf Kc (A4 A6 (A4 (S0 N1 (Av Jb (S0 N1 (pv 0)) (pv 1))) A0))))), ?_⟩
  walk_at "rd"
  exact ⟨h0, h1, k⟩
theorem Jj {sz : Int} {S : Sh} (g : Good sz S) : Tc S where
 nd := g.ws.nd
 own := g.ws.own
 low := g.ws.low
 ok := g.ok
 few := by have := g.len.2; omega
theorem Mv {sz : Int} {S : Sh} (g : Good sz S) : Uw S where
 wb := fun w hw => by
  have b := g.ws.wb w hw
  exact ⟨⟨b.gives.1, Zy1 b.gives.2 (by decide +kernel)⟩, ⟨b.floor.1, Zy1 b.floor.2 (by decide +kernel)⟩, b.stock.1, b.parts, fun p hp => ⟨(b.amts p hp).1, Zy1 (b.amts p hp).2 (by decide +kernel)⟩⟩
 com := fun w hw p hp => ((g.com w hw).2 p hp).2.1
 few := g.len.2
 wt := ⟨g.wants.1, fun u hu => ⟨(g.wants.2 u hu).2.2.1, Zy1 (Zwg (g.wants.2 u hu).2.2.2) (by decide +kernel)⟩⟩
theorem Fi {xs : List Int} {i : Nat} {y : V} (h : (xs.map V.int)[i]? = some y) : y = .int (xs.getD i 0) := by
 rw [Zzx] at h
 rw [Zzh]
 cases e : xs[i]? with
 | none => rw [e] at h; cases h
 | some x => rw [e] at h; cases h; rfl
theorem L9 {S : Sh} (nd : (S.wares.map (·.name)).Nodup) {a b : Wr} (h1 : a ∈ S.wares) (h2 : b ∈ S.wares) (e : a.name = b.name) : a = b := by
 have := J6 nd h1
 rw [e, J6 nd h2] at this
 exact (Zzo this).symm
def ax (a b p : Addr) (g f : Int) (xs ys : List Int) (H : Hp) (i : Nat) (σ : St) (H' : Hp) : Prop := ∃ c d e : Option V, σ = [some (.ref a), some (.ref b), some (.int g), some (.int f), some (.ref p), some (.int (above f g xs ys i)), c, d, e] /\
 H' p = some (.lst ((lots f g xs ys i).map V.int)) /\ Same H H'
def sp_least_lots : Sp := fun vs H Q _ => ∃ (a b : Addr) (g f : Int) (xs ys : List Int), vs = [.ref a, .ref b, .int g, .int f] /\ H a = some (.lst (xs.map V.int)) /\ H b = some (.lst (ys.map V.int)) /\ ys.length = xs.length /\ xs.length <= 1000 /\
 0 < g /\ g < 10 ^ 200 /\ (∀ i, i < xs.length -> CMulB g (Ix f g xs ys i)) /\ ∀ p H', H p = none -> H' p = some (.lst ((lots f g xs ys xs.length).map V.int)) -> Same H H' -> Q (.ref p) H'
theorem sc_least_lots : Al ["have", "need", "gives", "floor", "told", "above_floor", "comes", "goes", "lots"] ["have", "need", "gives", "floor"] (Aa Da) := by constructor <;> first | rfl | decide +kernel
theorem Ol (F : Fun K "least_lots" "least_lots" Da f fd) (T : Txt mg) (Zu9 : Has P w K mg base "lots_for" 1 ["amount", "gives"] sp_lots_for) : FnOk P w K mg base CX0 2 f fd ["have", "need", "gives", "floor"] sp_least_lots := by
 refine F.ok sc_least_lots (fun vs H Q E h => ?_) (fun cdv A outer s H vs Q E hr h => ?_)
 ·obtain ⟨a, b, g, f, xs, ys, rfl, _⟩ := h
  rfl
 ·obtain ⟨a, b, g, fl, xs, ys, rfl, ha, hb, hl, hn, g0, g200, hm, k⟩ := h
  have hu := B8 hr
  refine ⟨_, (A2 (Af (i := 4) sc_least_lots.nd rfl (Zzw rfl) (Bk A0))
 (A2 (Af (i := 5) sc_least_lots.nd rfl (Zzw rfl) (S0 N1 (pv 3)))
 (A2 (As PassesOwn.never rfl (Vg rfl T.Ztu (A4 (pv 0) (A4 (pv 1) A0))) (C1 (n := 2) rfl (Ag (Ac (i := 6) sc_least_lots.nd rfl (Zzw rfl)) (Ag (Ac (i := 7) sc_least_lots.nd rfl (Zzw rfl)) Bh)))
 (A2 (Li (i := 5) sc_least_lots.nd rfl (Zzw rfl) (Av K8 (pv 6) (pv 7)) Gb)
 (A2 (Af (i := 8) sc_least_lots.nd rfl (Zzw rfl) (Ab Zu9 hr.z rfl (A4 (S0 N1 (pv 5)) (A4 (pv 2) A0))))
 (A2 (Li (i := 5) sc_least_lots.nd rfl (Zzw rfl) (Av Ia (pv 2) (pv 8)) Gb)
 (A7 (B9 (D5 Zzb Zz8 Zz7 B4 (pv 4) (A4 (pv 8) A0))))))))
 (A7 (Am (pv 4)))))), ?_⟩
  walk_at "rd"
  refine ⟨Zyr _, fun p hp => ⟨_, by rw [A8 (A9 ha hp)]; exact ha, _, by rw [A8 (A9 hb hp)]; exact hb, ?_⟩⟩
  have en : min (xs.map V.int).length (ys.map V.int).length = xs.length := by rw [Zzz, Zzz]; omega
  refine Mb (Zq a b _ _) (ax a b p g fl xs ys H) ⟨_, _, _, rfl, A1, A3 hp⟩ (fun i σ H' _ h => let ⟨_, _, _, _, _, s⟩ := h; ⟨s _ _ ha, s _ _ hb⟩) (fun i us t σ H' hi hy h ht => ?_) (fun σ H' h => ?_)
  ·obtain ⟨c, d, e, rfl, h1, sm⟩ := h
   obtain ⟨y, z, ey, ez, rfl⟩ := hy
   have hy := Fi ey
   have hz := Fi ez
   subst hy hz
   refine gT2 ?_
   walk_at "rd"
   refine ⟨_, _, rfl, g0, g200, ?_⟩
   have eL : Bp (-(above fl g xs ys i + (xs.getD i 0 - ys.getD i 0))) g = Ix fl g xs ys i := rfl
   rw [eL]
   have hp' : upd H' t (.tup [.int (xs.getD i 0), .int (ys.getD i 0)]) p = some (.lst ((lots fl g xs ys i).map V.int)) := by rw [A8 (A9 h1 ht)]; exact h1
   walk_at "rd"
   refine ⟨hm i (by omega), Fs hp', _, hp', Zyk (m := 1000) (by rw [Zzz, So]; omega) (by decide), ?_⟩
   refine ⟨_, _, _, rfl, ?_, fun b' o hb' => ?_⟩
   ·rw [A1, X6, Zzf]; rfl
   ·rw [A8 (A9 hb' hp)]
    exact (sm.trans (A3 ht)) b' o hb'
  ·obtain ⟨c, d, e, rfl, h1, sm⟩ := h
   walk_at "rd"
   rw [en] at h1
   exact k p H' hp h1 sm
def fk : Option Nat -> V
 | some d => .int d
 | none => .non
def sp_first_early : Sp := fun vs H Q _ => ∃ (a : Addr) (row : List Int) (lag : Int), vs = [.ref a, .int lag] /\ H a = some (.lst (row.map V.int)) /\ row.length <= 1000 /\ ∀ H', Same H H' -> Q (fk (D4 row lag)) H'
def bc (a : Addr) (lag : Int) (row : List Int) (H : Hp) (i : Nat) (σ : St) (H' : Hp) : Prop := ∃ c d : Option V, σ = [some (.ref a), some (.int lag), c, d] /\ D1 row lag i = none /\ Same H H'
theorem sc_first_early : Al ["lots", "lag", "day", "count"] ["lots", "lag"] (Aa Cv) := by constructor <;> first | rfl | decide +kernel
theorem Nn (F : Fun K "first_early" "first_early" Cv f fd) (T : Txt mg) : FnOk P w K mg base CX0 1 f fd ["lots", "lag"] sp_first_early := by
 refine F.ok sc_first_early (fun vs H Q E h => ?_) (fun cdv A outer s H vs Q E hr h => ?_)
 ·obtain ⟨a, row, lag, rfl, _⟩ := h
  rfl
 ·obtain ⟨a, row, lag, rfl, ha, hl, k⟩ := h
  have hu := B8 hr
  refine ⟨_, (A2 (As PassesOwn.never rfl (Mr rfl T.Zv4 (A4 (pv 0) A0)) (C1 (n := 2) rfl (Ag (Ac (i := 2) sc_first_early.nd rfl (Zzw rfl)) (Ag (Ac (i := 3) sc_first_early.nd rfl (Zzw rfl)) Bh)))
 (A7 (Bf (PW.pt (K4 (Ak (Ll hu) (pv 2) (pv 1) (Ap _)) (Hv (Ak Ja (pv 3) A6 (Ap _))))) (A7 (Am (pv 2))) Au)))
 (A7 (Am Gf))), ?_⟩
  walk_at "rd"
  refine ⟨_, ha, ?_⟩
  refine Mb (Vw a _) (bc a lag row H) ⟨_, _, rfl, rfl, Same.refl _⟩ (fun i σ H' _ h => let ⟨_, _, _, _, s⟩ := h; s _ _ ha) (fun i us t σ H' hi hy h ht => ?_) (fun σ H' h => ?_)
  ·obtain ⟨c, d, rfl, hn, sm⟩ := h
   obtain ⟨y, ey, rfl⟩ := hy
   have hy := Fi ey
   subst hy
   rw [Zzz] at hi
   have s2 := sm.trans (A3 (o := .tup [.int i, .int (row.getD i 0)]) ht)
   have es : D1 row lag (i + 1) = if (i : Int) < lag /\ 0 < row.getD i 0 then some i else none := by rw [D1, hn]
   refine gT2 ?_
   walk_at "rd"
   refine C9 (fun h1 => C9 (fun h2 => ?_) (fun h2 => ?_)) (fun h1 => ?_)
   ·have h1 := of_decide_eq_true h1
    have h2 := of_decide_eq_true h2
    rw [if_pos ⟨h1, h2⟩] at es
    have e : D4 row lag = some i := Uk es (by omega)
    have := k _ s2
    rw [e] at this
    exact this
   ·exact ⟨_, _, rfl, by rw [es, if_neg (fun c => h2 (decide_eq_true c.2))], s2⟩
   ·exact ⟨_, _, rfl, by rw [es, if_neg (fun c => h1 (decide_eq_true c.1))], s2⟩
  ·obtain ⟨c, d, rfl, hn, sm⟩ := h
   rw [Zzz] at hn
   walk_at "rd"
   have := k _ sm
   unfold D4 at this
   rw [hn] at this
   exact this
def h8 (kvs : List (Key × V)) (l : List Str) : Prop := ∀ nm ∈ l, ∀ nm' ∈ l, ∀ q : Addr, Bq kvs (.inr nm) = some (.ref q) -> Bq kvs (.inr nm') = some (.ref q) -> nm = nm'
def RowsAt (H H' : Hp) (a : Addr) (S : Sh) (l : List Str) : Prop := ∃ kvs, H' a = some (.dK kvs) /\ kvs.map (·.1) = l.map Zxx /\ (∀ nm ∈ l, ∃ q : Addr, H q = none /\ q ≠ a /\ Bq kvs (.inr nm) = some (.ref q) /\ H' q = some (.lst ((LR S nm).map V.int))) /\ h8 kvs l
def Jy (Pt : Addr) : Sp := fun vs H Q _ => ∃ (v : V) (S : Sh) (sz : Int), vs = [v] /\ RD H S.d v /\ Good sz S /\ 0 < sz /\ sz <= 1000 /\ Tb H Pt /\ ∀ (t p : Addr) (ys : List Str) (i : Nat) (H' : Hp), H t = none -> H p = none -> t ≠ p -> Hr (lv S) (Ar S) ys -> RowsAt H H' p S (ys.take i) -> (∀ w ∈ S.wares, w.name ∈ ys.take i -> D4 (LR S w.name) w.lag = none) -> Tb H' Pt -> But Pt H H' ->
 ((i = ys.length /\ H' t = some (.tup [.str "plan", .ref p])) \/ ∃ (w : Wr) (d : Nat), w ∈ S.wares /\ ys[i]? = some w.name /\ D4 (LR S w.name) w.lag = some d /\ H' t = some (.tup [.str "short", .ref p, .str w.name, .int d, .int ((LR S w.name).getD d 0)])) -> Q (.ref t) H'
def gg (v : V) (p : Addr) (S : Sh) (ys : List Str) (H H1 : Hp) (i : Nat) (σ : St) (H' : Hp) : Prop := ∃ o2 o3 o4 o5 : Option V, σ = [some v, some (.ref p), o2, o3, o4, o5] /\ RowsAt H H' p S (ys.take i) /\ (∀ w ∈ S.wares, w.name ∈ ys.take i -> D4 (LR S w.name) w.lag = none) /\ ∀ b o, b ≠ p -> H1 b = some o -> H' b = some o
theorem sc_planned : Al ["shop", "plan", "name", "ware", "lots", "day"] ["shop"] (Aa Fo) := by constructor <;> first | rfl | decide +kernel
theorem U7 (F : Fun K "planned" "planned" Fo f fd) (T : Txt mg) (Zve : Has P w K mg base "worked" 6 ["shop"] (Hc Pt)) (Zvk : Has P w K mg base "ware_of" 1 ["shop", "name"] sp_ware_of) (Zui : Has P w K mg base "least_lots" 2 ["have", "need", "gives", "floor"] sp_least_lots) (Zv2 : Has P w K mg base "needs_row" 3 ["shop", "plan", "ware"] sp_needs_row) (Zvd : Has P w K mg base "arrivals_row" 2 ["shop", "ware"] sp_arrivals_row) (Zva : Has P w K mg base "first_early" 1 ["lots", "lag"] sp_first_early) : FnOk P w K mg base CX0 7 f fd ["shop"] (Jy Pt) := by
 refine F.ok sc_planned (fun vs H Q E h => ?_) (fun cdv A outer s H vs Q E hr h => ?_)
 ·obtain ⟨v, S, sz, rfl, _⟩ := h
  rfl
 ·obtain ⟨v, S, sz, rfl, rs, g, z0, z1, tb, k⟩ := h
  have hu := B8 hr
  obtain ⟨n1, n2, n3, n4⟩ := g.days z0 z1
  refine ⟨_, (A2 (Af (i := 1) sc_planned.nd rfl (Zzw rfl) Fv)
 (A2 (As PassesOwn.never rfl (C0 (Ab Zve hr.z rfl (A4 (pv 0) A0))) (Ac (i := 2) sc_planned.nd rfl (Zzw rfl))
 (A2 (Af (i := 3) sc_planned.nd rfl (Zzw rfl) (Ab Zvk hr.z rfl (A4 (pv 0) (A4 (pv 2) A0))))
 (A2 (Af (i := 4) sc_planned.nd rfl (Zzw rfl) (Ab Zui hr.z rfl (A4 (Ab Zvd hr.z rfl (A4 (pv 0) (A4 (pv 3) A0))) (A4 (Ab Zv2 hr.z rfl (A4 (pv 0) (A4 (pv 1) (A4 (pv 3) A0)))) (A4 (A5 hu (pv 3) (Ah rfl T.Zut) (fun _ _ => rfl)) (A4 (A5 hu (pv 3) (Ah rfl T.Zuu) (fun _ _ => rfl)) A0))))))
 (A2 (Af (i := 5) sc_planned.nd rfl (Zzw rfl) (Ab Zva hr.z rfl (A4 (pv 4) (A4 (A5 hu (pv 3) (Ah rfl T.Zun) (fun _ _ => rfl)) A0))))
 (A2 (Bf (Ak Lm (pv 5) Gf (Ap _)) (A7 (Am (Aq (A4 Bu (A4 (pv 1) (A4 (pv 2) (A4 (pv 5) (A4 (A5 hu (pv 4) (pv 5) (fun _ _ => rfl)) A0)))))))) Au)
 (A7 (Ek (pv 4) (Ez (pv 1) (pv 2) (E2 hu)))))))))
 (A7 (Am (Aq (A4 Bu (A4 (pv 1) A0))))))), ?_⟩
  have L := Jj g
  have PL := Mv g
  have hfew := L.few
  walk_at "rd"
  intro p hp
  have u0 := A3 (o := .dK []) hp
  refine ⟨v, S, rfl, RD.same u0 _ _ rs, L, tb.same u0, fun q ys H1 hq hq1 so sb tb1 bt1 => ⟨q, rfl, _, hq1, ?_⟩⟩
  have tb0 := tb.same u0
  have pPt : p ≠ Pt := fun z => by obtain ⟨u, e⟩ := tb.at; rw [<- z, hp] at e; cases e
  have hp1 : H1 p = some (.dK []) := bt1 _ _ pPt A1
  have qp : q ≠ p := M6 hq1 hp1 (fun z => by cases z)
  have hyl : ys.length = S.wares.length := by rw [so.1.length_eq, Ca]
  have ndy : ys.Nodup := so.1.nodup_iff.mpr L.nd
  have so' : Mi (lv S) (S.wares.map (·.name)) ys := so
  have rs1 := RD.ku (Es tb0 bt1) _ _ (Ce S) (RD.same u0 _ _ rs)
  have fresh : ∀ (H' : Hp) (b : Addr), (∀ b o, b ≠ p -> H1 b = some o -> H' b = some o) -> H' b = none -> b ≠ p -> H b = none := fun H' b kp hb nb => by
   cases e : H b with
   | none => rfl
   | some o =>
    by_cases z : b = Pt
    ·obtain ⟨u, e2⟩ := tb1.at
     rw [z, kp _ _ (Zzc pPt) e2] at hb
     cases hb
    ·rw [kp _ _ nb (bt1 _ _ z (u0 _ _ e))] at hb
     cases hb
  have keepB : ∀ (H' : Hp), (∀ b o, b ≠ p -> H1 b = some o -> H' b = some o) -> But Pt H H' := fun H' kp b o nb e => kp _ _ (A9 e hp) (bt1 _ _ nb (u0 _ _ e))
  have keepT : ∀ (H' : Hp), (∀ b o, b ≠ p -> H1 b = some o -> H' b = some o) -> Tb H' Pt := fun H' kp => by
   rcases tb1 with e | ⟨c, e, e2⟩
   ·exact .inl (kp _ _ (Zzc pPt) e)
   ·exact .inr ⟨c, kp _ _ (Zzc pPt) e, kp _ _ (fun z => by rw [z, hp1] at e2; cases e2) e2⟩
  refine Bd (Dh q _) (gg v p S ys H H1) ⟨_, _, _, _, rfl, ⟨[], hp1, rfl, (fun nm hn => by cases hn), fun nm hn => by cases hn⟩, (fun w _ hn => by cases hn), fun b o _ e => e⟩ (fun i σ H' _ h => let ⟨_, _, _, _, _, _, _, kp⟩ := h; kp _ _ qp hq1) (fun i x σ H2 hi hx h => ?_) (fun σ H2 h => ?_)
  ·obtain ⟨o2, o3, o4, o5, rfl, ⟨kvs, hp2, hks, hrow, hap⟩, hne, kp⟩ := h
   rw [Zzx] at hx
   cases en : ys[i]? with
   | none => rw [en] at hx; cases hx
   | some nm =>
   rw [en] at hx
   have hx : V.str nm = x := Zzo hx
   subst hx
   have hny := Zzt en
   have hnm : nm ∈ S.wares.map (·.name) := so.1.mem_iff.mp hny
   have hil : i < ys.length := (Zzg.mp en).1
   have ku2 : KeepU H1 H2 := fun b xs e => kp b _ (M6 e hp1 (fun z => by cases z)) e
   have rs2 := RD.ku ku2 _ _ (Ce S) rs1
   walk_at "rd"
   refine ⟨v, S, nm, rfl, rs2, L.ok, hnm, fun t wt hwt ewt rt => ?_⟩
   subst ewt
   have hcom := g.com wt hwt
   have wb := g.ws.wb wt hwt
   obtain ⟨te, d1, d2, rfl, hte, rc, rp⟩ := B5 rt
   refine ⟨v, .ref te, S, wt, sz, rfl, rs2, rt, g, z0, z1, by have := hcom.1; omega, fun q hq => (hcom.2 q hq).1.1, fun q1 H3 hq1' hq3 sm3 => ?_⟩
   have pf : PlanFor H3 p S (LR S) (ao S wt.name) := ⟨kvs, .inl (sm3 _ _ hp2), fun nm' hn' hT => by
    obtain ⟨u, hu', rfl, pp, hpp, e⟩ := hT
    obtain ⟨qr, _, _, hv, hl⟩ := hrow u.name (Y8 L.toLev so' en hu' hpp e)
    exact ⟨qr, hv, sm3 _ _ hl, Lx L.toLev hu', fun x hx => ⟨(W9 PL _ x hx).1, Int.lt_trans (W9 PL _ x hx).2 (by decide +kernel)⟩⟩⟩
   refine ⟨v, p, .ref te, S, LR S, wt, sz, rfl, RD.same sm3 _ _ rs2, pf, RD.same sm3 _ _ rt, g, z0, z1, fun q2 H4 hq4 hq5 sm4 => ?_⟩
   have s24 := sm3.trans sm4
   have hte4 := s24 _ _ hte
   refine ⟨_, Ad (j := 2) hte4 rfl, _, Ad (j := 3) hte4 rfl, ?_⟩
   have lrq : lots wt.floor wt.gives (B1 (daysN S) (Co wt)) (Bb S (LR S) wt.name) (B1 (daysN S) (Co wt)).length = LR S wt.name := by rw [At, <- Td L.toLev hwt]
   refine ⟨q1, q2, wt.gives, wt.floor, B1 (daysN S) (Co wt), Bb S (LR S) wt.name, rfl, sm4 _ _ hq3, hq5, by unfold Bb; rw [At, At], by rw [At]; exact n2, by have := wb.gives.1; omega, Zy7 wb.gives.2 (by decide +kernel), fun j hj => .inl (.inl ⟨by have := wb.gives.1; omega, by have := wb.gives.2; omega⟩), fun r H5 hr5 hr6 sm5 => ?_⟩
   rw [lrq] at hr6
   have s25 := s24.trans sm5
   refine ⟨_, Ad (j := 1) (s25 _ _ hte) rfl, r, LR S wt.name, wt.lag, rfl, hr6, by rw [Lx L.toLev hwt]; exact n2, fun H6 sm6 => ?_⟩
   have s26 := s25.trans sm6
   have hr7 := sm6 _ _ hr6
   have hp6 := s26 _ _ hp2
   have kp6 : ∀ b o, b ≠ p -> H1 b = some o -> H6 b = some o := fun b o nb e => s26 _ _ (kp b o nb e)
   have rp : r ≠ p := fun z => by rw [z, s24 _ _ hp2] at hr5; cases hr5
   have hr0 : H r = none := by
    have h2r : H2 r = none := Same.free s24 hr5
    exact fresh H2 r kp h2r rp
   have hrow6 : ∀ nm' ∈ ys.take i, ∃ q' : Addr, H q' = none /\ q' ≠ p /\ Bq kvs (.inr nm') = some (.ref q') /\ H6 q' = some (.lst ((LR S nm').map V.int)) := fun nm' hn' => let ⟨q', e1, e2, e3, e4⟩ := hrow nm' hn'; ⟨q', e1, e2, e3, s26 _ _ e4⟩
   cases ea : D4 (LR S wt.name) wt.lag with
   | some d =>
    have hd := Md ea
    have hdl : d < (LR S wt.name).length := hd.1
    have eg : (LR S wt.name)[d]? = some ((LR S wt.name).getD d 0) := by rw [Zzh, Zzu hdl]; rfl
    show if (!decide (V.int (d : Int) = V.non)) = true then _ else _
    rw [if_pos (by rw [decide_eq_false (fun z => by cases z)]; rfl)]
    refine ⟨.int ((LR S wt.name).getD d 0), Ic hr7 (by rw [Zzx, eg]; rfl), by decide, fun t ht => ?_⟩
    have tp : t ≠ p := fun z => by rw [z, hp6] at ht; cases ht
    have u7 := A3 (o := .tup [.str "short", .ref p, .str wt.name, .int d, .int ((LR S wt.name).getD d 0)]) ht
    have kp7 : ∀ b o, b ≠ p -> H1 b = some o -> upd H6 t (.tup [.str "short", .ref p, .str wt.name, .int d, .int ((LR S wt.name).getD d 0)]) b = some o := fun b o nb e => u7 _ _ (kp6 b o nb e)
    exact k t p ys i _ (fresh H6 t kp6 ht tp) hp tp sb ⟨kvs, u7 _ _ hp6, hks, fun nm' hn' => let ⟨q', e1, e2, e3, e4⟩ := hrow6 nm' hn'; ⟨q', e1, e2, e3, u7 _ _ e4⟩, hap⟩ hne (keepT _ kp7) (keepB _ kp7) (.inr ⟨wt, d, hwt, en, ea, A1⟩)
   | none =>
    show if (!decide (V.non = V.non)) = true then _ else _
    rw [if_neg (by decide)]
    have hkl : kvs.length <= 64 := by
     have := congrArg Zx7 hks
     rw [Zzz, Zzz, Zyq] at this
     omega
    refine ⟨kvs, .inr wt.name, rfl, hp6, Zyk hkl (by decide), _, _, _, _, rfl, ⟨_, A1, ?_, fun nm' hn' => ?_, fun nm1 hn1 nm2 hn2 q1' v1 v2 => ?_⟩, fun w' hw' hn' => ?_, fun b o nb e => by rw [A8 nb]; exact kp6 b o nb e⟩
    ·have nn : Bq kvs (.inr wt.name) = none := by
      cases e : Bq kvs (.inr wt.name) with
      | none => rfl
      | some z =>
       have h3 := V0 e
       rw [hks] at h3
       obtain ⟨y, hy, e2⟩ := Zzr.mp h3
       rw [Zx9 e2] at hy
       exact absurd hy (Eb ndy en)
     rw [Ko _ nn, Zzf, hks, Zz5, en, Zzf]
     rfl
    ·rw [Zz5, en] at hn'
     rcases Zyu.mp hn' with z | z
     ·obtain ⟨q', e1, e2, e3, e4⟩ := hrow6 nm' z
      refine ⟨q', e1, e2, by rw [Fq, if_neg (fun z2 => Eb ndy en (by rw [<- Zx9 z2]; exact z))]; exact e3, by rw [A8 e2]; exact e4⟩
     ·have e : nm' = wt.name := by simpa using z
      subst e
      exact ⟨r, hr0, rp, by rw [Fq, if_pos rfl], by rw [A8 rp]; exact hr7⟩
    ·have old : ∀ nm' ∈ ys.take i, ∀ q' : Addr, Bq (Ey kvs (.inr wt.name) (.ref r)) (.inr nm') = some (.ref q') -> Bq kvs (.inr nm') = some (.ref q') /\ q' ≠ r := fun nm' hn' q' e => by
      rw [Fq, if_neg (fun z2 => Eb ndy en (by rw [<- Zx9 z2]; exact hn'))] at e
      refine ⟨e, fun z => ?_⟩
      obtain ⟨q2', _, _, e3, e4⟩ := hrow nm' hn'
      rw [e] at e3
      cases e3
      rw [z, Same.free s24 hr5] at e4
      cases e4
     have new : ∀ nm', nm' ∈ ys.take (i + 1) -> nm' ∈ ys.take i \/ nm' = wt.name := fun nm' hn' => by
      rw [Zz5, en] at hn'
      rcases Zyu.mp hn' with z | z
      ·exact .inl z
      ·exact .inr (by simpa using z)
     rcases new nm1 hn1 with z1 | z1 <;> rcases new nm2 hn2 with z2 | z2
     ·exact hap nm1 z1 nm2 z2 q1' (old nm1 z1 q1' v1).1 (old nm2 z2 q1' v2).1
     ·rw [z2, Fq, if_pos rfl] at v2
      cases v2
      exact absurd rfl (old nm1 z1 _ v1).2
     ·rw [z1, Fq, if_pos rfl] at v1
      cases v1
      exact absurd rfl (old nm2 z2 _ v2).2
     ·rw [z1, z2]
    ·rw [Zz5, en] at hn'
     rcases Zyu.mp hn' with z | z
     ·exact hne w' hw' z
     ·have e : w'.name = wt.name := by simpa using z
      rw [L9 L.nd hw' hwt e]
      exact ea
  ·obtain ⟨o2, o3, o4, o5, rfl, hrow, hne, kp⟩ := h
   rw [Zzz] at hrow hne
   walk_at "rd"
   refine ⟨by decide, fun t ht => ?_⟩
   obtain ⟨kvs, hp2, hks, hr2, hap⟩ := hrow
   have tp : t ≠ p := fun z => by rw [z, hp2] at ht; cases ht
   have u7 := A3 (o := .tup [.str "plan", .ref p]) ht
   have kp7 : ∀ b o, b ≠ p -> H1 b = some o -> upd H2 t (.tup [.str "plan", .ref p]) b = some o := fun b o nb e => u7 _ _ (kp b o nb e)
   exact k t p ys ys.length _ (fresh H2 t kp ht tp) hp tp sb ⟨kvs, u7 _ _ hp2, hks, fun nm' hn' => let ⟨q', e1, e2, e3, e4⟩ := hr2 nm' hn'; ⟨q', e1, e2, e3, u7 _ _ e4⟩, hap⟩ hne (keepT _ kp7) (keepB _ kp7) (.inl ⟨rfl, A1⟩)
end
set_option maxHeartbeats 4000000
section
variable {P : Program} {w : World} {K : Zzv} {mg : Str -> Option Value} {base : Heap} {f : Addr} {fd : FuncData} {Pt : Addr}
theorem PlanAt.tb {H H' : Hp} {a Pt : Addr} {S : Sh} {plan : Str -> List Int} (h : PlanAt H a S plan) (tb : Tb H Pt) (bt : But Pt H H') : PlanAt H' a S plan := by
 obtain ⟨kvs, h1, h2⟩ := h
 refine ⟨kvs, ?_, fun nm hn => let ⟨l, e1, e2, e3⟩ := h2 nm hn; ⟨l, e1, bt _ _ (Ha tb e2 fun u z => by cases z) e2, e3⟩⟩
 rcases h1 with e | ⟨o, e⟩
 ·exact .inl (bt _ _ (Ha tb e fun u z => by cases z) e)
 ·exact .inr ⟨o, bt _ _ (Ha tb e fun u z => by cases z) e⟩
theorem Yk (i : Int) (o : Option Nat) : ia (.int i) (fk o) = true := by cases o <;> rfl
theorem jh {i : Nat} {o : Option Nat} (h : V.int i = fk o) : o = some i := by
 cases o with
 | none => cases h
 | some d =>
  have : (i : Int) = d := V.int.inj h
  rw [Int.ofNat.inj this]
def sp_first_fault : Sp := fun vs H Q _ => ∃ (v : V) (a : Addr) (x : V) (S : Sh) (plan : Str -> List Int) (w : Wr) (sz : Int), vs = [v, .ref a, x] /\ RD H S.d v /\ PlanAt H a S plan /\ RD H w.d x /\ w ∈ S.wares /\ Good sz S /\ 0 < sz /\ sz <= 1000 /\
 (∀ H', Same H H' -> Iu S plan w = none -> Q .non H') /\ ∀ t H' y, H t = none -> Same H H' -> Iu S plan w = some y -> H' t = some (.tup [.str y.1, .str w.name, .int y.2]) -> Q (.ref t) H'
def bb (v : V) (a : Addr) (x : V) (S : Sh) (plan : Str -> List Int) (w : Wr) (H : Hp) (i : Nat) (σ : St) (H' : Hp) : Prop := ∃ o4 o5 : Option V, σ = [some v, some (.ref a), some x, some (fk (D4 (plan w.name) w.lag)), o4, o5] /\ Ep S plan w i = none /\ Same H H'
theorem sc_first_fault : Al ["shop", "plan", "ware", "early", "day", "left"] ["shop", "plan", "ware"] (Aa Cu) := by constructor <;> first | rfl | decide +kernel
theorem Nm (F : Fun K "first_fault" "first_fault" Cu f fd) (T : Txt mg) (Zva : Has P w K mg base "first_early" 1 ["lots", "lag"] sp_first_early) (Zuh : Has P w K mg base "stocks_row" 4 ["shop", "plan", "ware"] sp_stocks_row) : FnOk P w K mg base CX0 5 f fd ["shop", "plan", "ware"] sp_first_fault := by
 refine F.ok sc_first_fault (fun vs H Q E h => ?_) (fun cdv A outer s H vs Q E hr h => ?_)
 ·obtain ⟨v, a, x, S, plan, w, sz, rfl, _⟩ := h
  rfl
 ·obtain ⟨v, a, x, S, plan, w, sz, rfl, rs, pl, rx, hm, g, z0, z1, kN, kS⟩ := h
  have hu := B8 hr
  obtain ⟨n1, n2, n3, n4⟩ := g.days z0 z1
  refine ⟨_, (A2 (Af (i := 3) sc_first_fault.nd rfl (Zzw rfl) (Ab Zva hr.z rfl (A4 (A5 hu (pv 1) (A5 hu (pv 2) (Ah rfl T.Zvi) (fun _ _ => rfl)) (fun _ _ => rfl)) (A4 (A5 hu (pv 2) (Ah rfl T.Zun) (fun _ _ => rfl)) A0))))
 (A2 (As PassesOwn.never rfl (Mr rfl T.Zv4 (A4 (Ab Zuh hr.z rfl (A4 (pv 0) (A4 (pv 1) (A4 (pv 2) A0)))) A0)) (C1 (n := 2) rfl (Ag (Ac (i := 4) sc_first_fault.nd rfl (Zzw rfl)) (Ag (Ac (i := 5) sc_first_fault.nd rfl (Zzw rfl)) Bh)))
 (A2 (Bf (Ak (Bl hu) (pv 4) (pv 3) (Ap _)) (A7 (Am (Aq (A4 Bu (A4 (A5 hu (pv 2) (Ah rfl T.Zvi) (fun _ _ => rfl)) (A4 (pv 4) A0)))))) Au)
 (A7 (Bf (Ak (Ll hu) (pv 5) (A5 hu (pv 2) (Ah rfl T.Zuu) (fun _ _ => rfl)) (Ap _)) (A7 (Am (Aq (A4 Bu (A4 (A5 hu (pv 2) (Ah rfl T.Zvi) (fun _ _ => rfl)) (A4 (pv 4) A0)))))) Au))))
 (A7 (Am Gf)))), ?_⟩
  obtain ⟨xe, c1, c2, rfl, hxe, _⟩ := B5 rx
  obtain ⟨kvs, hkv, hpl⟩ := id pl
  obtain ⟨l, hv, hll, hlen, hbd⟩ := hpl w.name (Zzr.mpr ⟨w, hm, rfl⟩)
  walk_at "rd"
  refine ⟨_, Ad (j := 0) hxe rfl, _, Cb hkv hv, _, Ad (j := 1) hxe rfl, l, plan w.name, w.lag, rfl, hll, by rw [hlen]; exact n2, fun H1 sm1 => ?_⟩
  refine ⟨v, a, .ref xe, S, plan, w, sz, rfl, RD.same sm1 _ _ rs, pl.same sm1, RD.same sm1 _ _ rx, hm, g, z0, z1, fun q H2 hq hq2 sm2 => ?_⟩
  have s02 := sm1.trans sm2
  have slen : (Et S plan w).length = daysN S := by unfold Et; rw [At]
  refine ⟨q, rfl, _, hq2, ?_⟩
  refine Mb (Vw q _) (bb v a (.ref xe) S plan w H2) ⟨_, _, rfl, rfl, Same.refl _⟩ (fun i σ H' _ h => let ⟨_, _, _, _, s⟩ := h; s _ _ hq2) (fun i us t σ H3 hi hy h ht => ?_) (fun σ H3 h => ?_)
  ·obtain ⟨o4, o5, rfl, hn, sm⟩ := h
   obtain ⟨y, ey, rfl⟩ := hy
   have hy := Fi ey
   subst hy
   rw [Zzz, slen] at hi
   have s4 := s02.trans (sm.trans (A3 (o := .tup [.int i, .int ((Et S plan w).getD i 0)]) ht))
   have s24 := sm.trans (A3 (o := .tup [.int i, .int ((Et S plan w).getD i 0)]) ht)
   have es : Ep S plan w (i + 1) = if D4 (plan w.name) w.lag = some i then some (("early" : Str), i) else if (Et S plan w).getD i 0 < w.floor then some (("below" : Str), i) else none := by rw [Ep, hn]
   refine gT2 ?_
   generalize upd H3 t (.tup [.int i, .int ((Et S plan w).getD i 0)]) = H4 at s4 s24
   walk_at "rd"
   have hxe4 := s4 _ _ hxe
   refine ⟨Yk _ _, C9 (fun h1 => ?_) (fun h1 => ?_)⟩
   ·have h1 := jh (of_decide_eq_true h1)
    rw [if_pos h1] at es
    refine ⟨_, Ad (j := 0) hxe4 rfl, by decide, fun t2 ht2 => ?_⟩
    exact kS t2 _ ("early", i) (Same.free s4 ht2) (s4.trans (A3 ht2)) (O4 es (by omega)) A1
   ·have h1 : ¬ D4 (plan w.name) w.lag = some i := fun e => h1 (decide_eq_true (by rw [e]; rfl))
    rw [if_neg h1] at es
    refine ⟨_, Ad (j := 3) hxe4 rfl, _, rfl, C9 (fun h2 => ?_) (fun h2 => ?_)⟩
    ·rw [if_pos (of_decide_eq_true h2)] at es
     refine ⟨_, Ad (j := 0) hxe4 rfl, by decide, fun t2 ht2 => ?_⟩
     exact kS t2 _ ("below", i) (Same.free s4 ht2) (s4.trans (A3 ht2)) (O4 es (by omega)) A1
    ·exact ⟨_, _, rfl, by rw [es, if_neg (fun z => h2 (decide_eq_true z))], s24⟩
  ·obtain ⟨o4, o5, rfl, hn, sm⟩ := h
   rw [Zzz, slen] at hn
   walk_at "rd"
   exact kN _ (s02.trans sm) hn
def P2 (Pt : Addr) : Sp := fun vs H Q _ => ∃ (v : V) (a : Addr) (S : Sh) (plan : Str -> List Int) (sz : Int), vs = [v, .ref a] /\ RD H S.d v /\ PlanAt H a S plan /\ Good sz S /\ 0 < sz /\ sz <= 1000 /\ Tb H Pt /\ ∀ (t : Addr) (ys : List Str) (H' : Hp), H t = none -> Hr (lv S) (Ar S) ys -> H' t = some (.tup (du (Pb S plan ys))) -> Tb H' Pt -> But Pt H H' -> Q (.ref t) H'
def jr (v : V) (a : Addr) (S : Sh) (plan : Str -> List Int) (ys : List Str) (H1 : Hp) (i : Nat) (σ : St) (H' : Hp) : Prop := ∃ o2 o3 : Option V, σ = [some v, some (.ref a), o2, o3] /\ Kb S plan ys i = none /\ Same H1 H'
theorem sc_judged : Al ["shop", "plan", "name", "fault"] ["shop", "plan"] (Aa Hj) := by constructor <;> first | rfl | decide +kernel
theorem Wy (F : Fun K "judged" "judged" Hj f fd) (T : Txt mg) (Zve : Has P w K mg base "worked" 6 ["shop"] (Hc Pt)) (Zuk : Has P w K mg base "first_fault" 5 ["shop", "plan", "ware"] sp_first_fault) (Zvk : Has P w K mg base "ware_of" 1 ["shop", "name"] sp_ware_of) : FnOk P w K mg base CX0 7 f fd ["shop", "plan"] (P2 Pt) := by
 refine F.ok sc_judged (fun vs H Q E h => ?_) (fun cdv A outer s H vs Q E hr h => ?_)
 ·obtain ⟨v, a, S, plan, sz, rfl, _⟩ := h
  rfl
 ·obtain ⟨v, a, S, plan, sz, rfl, rs, pl, g, z0, z1, tb, k⟩ := h
  have hu := B8 hr
  refine ⟨_, (A2 (As PassesOwn.never rfl (C0 (Ab Zve hr.z rfl (A4 (pv 0) A0))) (Ac (i := 2) sc_judged.nd rfl (Zzw rfl))
 (A2 (Af (i := 3) sc_judged.nd rfl (Zzw rfl) (Ab Zuk hr.z rfl (A4 (pv 0) (A4 (pv 1) (A4 (Ab Zvk hr.z rfl (A4 (pv 0) (A4 (pv 2) A0))) A0)))))
 (A7 (Bf (Ak Lm (pv 3) Gf (Ap _)) (A7 (Am (pv 3))) Au))))
 (A7 (Am (Aq (A4 Bu A0))))), ?_⟩
  have L := Jj g
  walk_at "rd"
  refine ⟨v, S, rfl, rs, L, tb, fun q ys H1 hq hq1 so sb tb1 bt1 => ⟨q, rfl, _, hq1, ?_⟩⟩
  have rs1 := RD.ku (Es tb bt1) _ _ (Ce S) rs
  have pl1 := pl.tb tb bt1
  have fresh : ∀ (H' : Hp) (b : Addr), Same H1 H' -> H' b = none -> H b = none := fun H' b s hb => by
   cases e : H b with
   | none => rfl
   | some o =>
    by_cases z : b = Pt
    ·obtain ⟨u, e2⟩ := tb1.at
     rw [z, s _ _ e2] at hb
     cases hb
    ·rw [s _ _ (bt1 _ _ z e)] at hb
     cases hb
  refine Bd (Dh q _) (jr v a S plan ys H1) ⟨_, _, rfl, rfl, Same.refl _⟩ (fun i σ H' _ h => let ⟨_, _, _, _, s⟩ := h; s _ _ hq1) (fun i x σ H2 hi hx h => ?_) (fun σ H2 h => ?_)
  ·obtain ⟨o2, o3, rfl, hn, s2⟩ := h
   rw [Zzx] at hx
   cases en : ys[i]? with
   | none => rw [en] at hx; cases hx
   | some nm =>
   rw [en] at hx
   have hx : V.str nm = x := Zzo hx
   subst hx
   have hnm : nm ∈ S.wares.map (·.name) := so.1.mem_iff.mp (Zzt en)
   have hil : i < ys.length := (Zzg.mp en).1
   walk_at "rd"
   refine ⟨v, S, nm, rfl, RD.same s2 _ _ rs1, L.ok, hnm, fun t wt hwt ewt rt => ?_⟩
   subst ewt
   have st := Xe L.nd hn en hwt
   refine ⟨v, a, t, S, plan, wt, sz, rfl, RD.same s2 _ _ rs1, pl1.same s2, rt, hwt, g, z0, z1, fun H3 s3 ef => ?_, fun t2 H3 y ht2 s3 ef e2 => ?_⟩
   ·rw [ef] at st
    rw [if_neg (by decide)]
    exact ⟨_, _, rfl, st, s2.trans s3⟩
   ·rw [ef] at st
    rw [if_pos (by rw [decide_eq_false (fun z => by cases z)]; rfl)]
    have ej : Pb S plan ys = some (y.1, wt.name, y.2) := Zk st (by omega)
    refine k t2 ys H3 (fresh H2 t2 s2 ht2) sb ?_ (tb1.same (s2.trans s3)) (fun b o nb e => (s2.trans s3) _ _ (bt1 b o nb e))
    rw [ej]
    exact e2
  ·obtain ⟨o2, o3, rfl, hn, s2⟩ := h
   rw [Zzz] at hn
   walk_at "rd"
   refine ⟨by decide, fun t ht => ?_⟩
   have u3 := A3 (o := .tup [.str "good"]) ht
   refine k t ys _ (fresh H2 t s2 ht) sb ?_ (tb1.same (s2.trans u3)) (fun b o nb e => (s2.trans u3) _ _ (bt1 b o nb e))
   have : Pb S plan ys = none := hn
   rw [this]
   exact A1
end
set_option maxHeartbeats 4000000
section
variable {P : Program} {w : World} {K : Zzv} {mg : Str -> Option Value} {base : Heap} {f : Addr} {fd : FuncData} {Pt : Addr}
def Ro (Pt : Addr) : Sp := fun vs H Q _ => ∃ (v : V) (S : Sh), vs = [v] /\ RD H S.d v /\ Tc S /\ Tb H Pt /\ ∀ p ys H', H p = none -> H' p = some (.dK (fnD ys (tm S))) -> ys.Perm (Ar S) -> Tb H' Pt -> But Pt H H' -> Q (.ref p) H'
def gc (v : V) (p : Addr) (S : Sh) (ys : List Str) (Pt : Addr) (H : Hp) (j : Nat) (σ : St) (H' : Hp) : Prop := ∃ o1 o2 : Option V, σ = [some v, some (.ref p), o1, o2] /\ H' p = some (.dK (fnD (ys.reverse.take j) (tm S))) /\ Tb H' Pt /\ But Pt H H'
theorem sc_times : Al ["shop", "told", "name", "ware"] ["shop"] (Aa Jo) := by constructor <;> first | rfl | decide +kernel
theorem Z3 (F : Fun K "times" "times" Jo f fd) (T : Txt mg) (Zve : Has P w K mg base "worked" 6 ["shop"] (Hc Pt)) (Zvk : Has P w K mg base "ware_of" 1 ["shop", "name"] sp_ware_of) (Zvh : Has P w K mg base "part_names" 1 ["ware"] sp_part_names) : FnOk P w K mg base CX0 7 f fd ["shop"] (Ro Pt) := by
 refine F.ok sc_times (fun vs H Q E h => ?_) (fun cdv A outer s H vs Q E hr h => ?_)
 ·obtain ⟨v, S, rfl, _⟩ := h
  rfl
 ·obtain ⟨v, S, rfl, rs, L, tb, k⟩ := h
  have hu := B8 hr
  refine ⟨_, (A2 (Af (i := 1) sc_times.nd rfl (Or.inr rfl) Fv)
 (A2 (As PassesOwn.never rfl (ii rfl T.Ztv (A4 (Ab Zve hr.z rfl (A4 (pv 0) A0)) A0)) (Ac (i := 2) sc_times.nd rfl (Zzw rfl))
 (A2 (Af (i := 3) sc_times.nd rfl (Zzw rfl) (Ab Zvk hr.z rfl (A4 (pv 0) (A4 (pv 2) A0))))
 (A7 (Ek (Av Bw (A5 hu (pv 3) (Ah rfl T.Zun) (fun _ _ => rfl)) (Vh rfl rfl T.Zuf (Df (own := ["part"]) (cap := [1]) rfl (E8 rfl) (Bm (by decide)) (C0 (Ab Zvh hr.z rfl (A4 (pv 3) A0)))
 (fun _ _ _ _ _ _ => ⟨(Ac (i := 0) (of_decide_eq_true rfl) rfl (Zzw rfl) (.inr rfl)), E3, (A5 hu (pv 1) (pv 0) (fun _ _ => rfl))⟩)))) (Ez (pv 1) (pv 2) (E2 hu))))))
 (A7 (Am (pv 1))))), ?_⟩
  have hfew := L.few
  walk_at "rd"
  intro p hp
  have u0 := A3 (o := .dK []) hp
  refine ⟨v, S, rfl, RD.same u0 _ _ rs, L, tb.same u0, fun q ys H1 hq hq1 so _ tb1 bt => ⟨q, rfl, _, hq1, ?_⟩⟩
  have pPt : p ≠ Pt := fun z => by obtain ⟨u, e⟩ := tb.at; rw [<- z, hp] at e; cases e
  have hp1 : H1 p = some (.dK []) := bt _ _ pPt A1
  have bt0 : But Pt H H1 := fun b o nb e => bt b o nb (u0 b o e)
  have so' : Mi (lv S) (S.wares.map (·.name)) ys := so
  have hyl : ys.length = S.wares.length := by rw [so.1.length_eq, Ca]
  have ndy : ys.reverse.Nodup := ((List.reverse_perm ys).trans so.1).nodup_iff.mpr L.nd
  have qp : q ≠ p := fun z => by rw [z, A1] at hq; cases hq
  refine Bd (lu q _) (fun j σ H' => gc v p S ys Pt H j σ H' /\ H' q = some (.lst (ys.map V.str))) ⟨⟨_, _, rfl, hp1, tb1, bt0⟩, hq1⟩ (fun j σ H' _ h => h.2) (fun j x σ H2 hj hx h => ?_) (fun σ H2 h => ?_)
  ·obtain ⟨⟨o1, o2, rfl, hp2, tb2, bt2⟩, hq2⟩ := h
   rw [Zzz] at hj
   rw [<- List.map_reverse, Zzx] at hx
   cases en : ys.reverse[j]? with
   | none => rw [en] at hx; cases hx
   | some nm =>
   rw [en] at hx
   have hx : V.str nm = x := Zzo hx
   subst hx
   have hnm : nm ∈ S.wares.map (·.name) := so.1.mem_iff.mp (List.mem_reverse.mp (Zzt en))
   have rs2 := RD.ku (Es tb bt2) _ _ (Ce S) rs
   walk_at "rd"
   refine ⟨v, S, nm, rfl, rs2, L.ok, hnm, fun t wt hwt ewt rt => ?_⟩
   subst ewt
   obtain ⟨te, d1, d2, rfl, hte, _⟩ := B5 rt
   refine ⟨_, Ad (j := 1) hte rfl, .ref te, wt, rfl, rt, L.ok.wares wt hwt, fun r H3 hr3 hr4 sm3 => ⟨r, rfl, _, hr4, ?_⟩⟩
   have hp3 := sm3 _ _ hp2
   have hpl := (L.ok.wares wt hwt).1
   have ap : ∀ pp ∈ wt.parts, pp.1 ∈ ys.reverse.take j := fun pp hpp => S1 L.toLev so' hwt en hpp
   refine G5 (Dh r _) (B3 (by rw [Zzz, Zzz]; exact hpl)) (fun H' s' => s' _ _ hr4) ((wt.parts.map fun pp => tm S pp.1).map V.int) (by rw [Zzz, Zzz, Zzz, Zzz]) (fun i y H' hi hy s' N M hN => ?_) (fun H4 s4 z hz => ?_)
   ·rw [Zzx, Zzx] at hy
    cases ep : wt.parts[i]? with
    | none => rw [ep] at hy; cases hy
    | some pp =>
    rw [ep] at hy
    have hy : V.str pp.1 = y := Zzo hy
    subst hy
    walk_at "rd"
    exact ⟨_, Cb (.inl (s' _ _ hp3)) (Gc (ap pp (Zzt ep))), hN _ _ s' (by rw [Zzx, Zzx, ep]; rfl)⟩
   ·have s5 := (sm3.trans s4).trans (A3 (o := .lst ((wt.parts.map fun pp => tm S pp.1).map V.int)) hz)
    have hp5 := s5 _ _ hp2
    have hq5 := s5 _ _ hq2
    have tb5 := tb2.same s5
    refine ⟨z, rfl, _, A1, ?_⟩
    generalize upd H4 z (.lst ((wt.parts.map fun pp => tm S pp.1).map V.int)) = H5 at s5 hp5 hq5 tb5
    refine ⟨_, rfl, _, .inr wt.name, rfl, hp5, ?_, ⟨_, _, rfl, ?_, ?_, fun b o nb e => ?_⟩, by rw [A8 qp]; exact hq5⟩
    ·rw [L3, Zyq, Zw0]
     exact Zyk (m := 1000) (by omega) (by decide)
    ·rw [A1, <- Y7 L.toLev hwt, R6 (Eb ndy en), Zz5, en]
     exact congrArg (fun z => some (HO.dK z)) (Hm fun x _ => by split <;> rename_i e <;> first | rw [e] | rfl)
    ·rcases tb5 with e | ⟨c, e, e2⟩
     ·exact .inl (by rw [A8 (Zzc pPt)]; exact e)
     ·exact .inr ⟨c, by rw [A8 (Zzc pPt)]; exact e, by rw [A8 (fun z => by rw [z, hp5] at e2; cases e2)]; exact e2⟩
    ·rw [A8 (A9 e hp)]
     exact s5 _ _ (bt2 _ _ nb e)
  ·obtain ⟨⟨o1, o2, rfl, hp2, tb2, bt2⟩, hq2⟩ := h
   rw [Zzz, <- Zw0, Zz1] at hp2
   walk_at "rd"
   exact k p ys.reverse H2 hp hp2 ((List.reverse_perm ys).trans so.1) tb2 bt2
def Wz (d : Int) (p : Wt) : Wt := (p.1, p.2.1 + d, p.2.2)
def jp (S : Sh) (d : Int) (H : Hp) (i : Nat) (acc : List V) (H' : Hp) : Prop := acc.length = i /\ RDs H' ((S.wants.take i).map fun p => Gy (Wz d p)) acc /\ Same H H'
def sp_put_off : Sp := fun vs H Q _ => ∃ (v : V) (S : Sh) (d : Int), vs = [v, .int d] /\ RD H S.d v /\ Ta S /\ Kf S /\ S.wants.length <= 1000 /\ ∀ x H', RD H' (Sh.d ⟨S.wares, S.wants.map (Wz d)⟩) x -> Same H H' -> Q x H'
theorem sc_put_off : Al ["shop", "days", "later"] ["shop", "days"] (Aa Fn) := by constructor <;> first | rfl | decide +kernel
theorem U6 (F : Fun K "put_off" "put_off" Fn f fd) (T : Txt mg) (Zvj : Has P w K mg base "check_rings" 4 ["shop"] sp_check_rings) : FnOk P w K mg base CX0 5 f fd ["shop", "days"] sp_put_off := by
 refine F.ok sc_put_off (fun vs H Q E h => ?_) (fun cdv A outer s H vs Q E hr h => ?_)
 ·obtain ⟨v, S, d, rfl, _⟩ := h
  rfl
 ·obtain ⟨v, S, d, rfl, rs, ok, no, hw, k⟩ := h
  have hu := B8 hr
  refine ⟨_, (A2 (B9 (Ab Zvj hr.z rfl (A4 (pv 0) A0)))
 (A2 (Ft (own := ["want"]) (cap := [1]) (i := 2) rfl (E8 rfl) (Bm (by decide)) sc_put_off.nd rfl rfl (Cl (A5 hu (pv 0) A6 (fun _ _ => rfl)))
 (fun _ _ _ _ _ _ => ⟨(Ac (i := 0) (of_decide_eq_true rfl) rfl (Zzw rfl) (.inr rfl)), E3, (Aq (A4 (A5 hu (pv 0) (Ah rfl T.Zv8) (fun _ _ => rfl)) (A4 (Av Bw (A5 hu (pv 0) (Ah rfl T.Zv9) (fun _ _ => rfl)) (pv 1)) (A4 (A5 hu (pv 0) (Ah rfl T.Zvf) (fun _ _ => rfl)) A0))))⟩))
 (A7 (Am (Aq (A4 (A5 hu (pv 0) A6 (fun _ _ => rfl)) (A4 (Cy Ew rfl T.Zuz Ex (A4 (pv 2) A0)) A0))))))), ?_⟩
  refine m6 (fun σ' H' => ∃ (l : Addr) (acc : List V), σ' = [some v, some (.int d), some (.ref l)] /\ H' l = some (.lst acc) /\ RDs H' (S.wants.map fun p => Gy (Wz d p)) acc /\ Same H H') ?_ (fun KK hK => ?_)
  ·rintro σ' H1 ⟨l, acc, rfl, hl, racc, sm⟩
   obtain ⟨a, b, c, ws, us, rfl, ha, hb, hc, rws, rus⟩ := Cd rs
   walk_at "rd"
   refine ⟨_, Ad (j := 0) (sm _ _ ha) rfl, acc, .inl ⟨hl, fun t ht => ?_⟩⟩
   have s1 := A3 (o := .tup acc) ht
   refine ⟨by show 2 <= sizeLine; decide, fun r hr' => ?_⟩
   have s2 := s1.trans (A3 (o := .tup [.ref b, .ref t]) hr')
   refine k _ _ ?_ (sm.trans s2)
   unfold Sh.d
   refine RD.tup_mk A1 (RDs.cons (RD.tup_mk (s2 _ _ (sm _ _ hb)) (RDs.same (sm.trans s2) _ _ rws)) (RDs.one (RD.tup_mk (xs := acc) ?_ ?_)))
   ·rw [A8 (A9 A1 hr'), A1]
   ·rw [Zxi]
    exact RDs.same s2 _ _ racc
  ·walk_at "rd"
   refine ⟨v, S, rfl, rs, ok, no, fun H1 sm => ?_⟩
   obtain ⟨a, b, c, ws, us, rfl, ha, hb, hc, rws, rus⟩ := Cd rs
   have hl := Ao rus
   refine ⟨_, Ad (j := 1) (sm _ _ ha) rfl, c, rfl, _, sm _ _ hc, ?_⟩
   refine Gx (Di c _) (B3 (by rw [hl]; exact hw)) (jp S d H) ⟨rfl, RDs.nil, sm⟩ (fun i acc H' _ h => h.2.2 _ _ hc) (fun i acc H' h => Zx0 h.1) (fun i x acc H' hi hx h => ?_) (fun acc H' h p hp => ?_)
   ·obtain ⟨h1, h2, h3⟩ := h
    obtain ⟨y, hy, ry⟩ := Ax rus hx
    obtain ⟨e, rfl, he⟩ := Kg ry
    have he' := h3 _ _ he
    walk_at "rd"
    refine ⟨_, Ad (j := 0) he' rfl, _, Ad (j := 1) he' rfl, _, rfl, _, Ad (j := 2) he' rfl, by show 3 <= sizeLine; decide, fun t ht => ?_⟩
    have s1 := A3 (o := .tup [.str y.1, .int (y.2.1 + d), .int y.2.2]) ht
    refine ⟨by simp [h1], ?_, h3.trans s1⟩
    rw [Zz5, hy, Zzf]
    refine RDs.app (RDs.same s1 _ _ h2) (RDs.one ?_)
    exact RD.tup_mk A1 (RDs.cons RD.str_mk (RDs.cons RD.int_mk (RDs.one RD.int_mk)))
   ·obtain ⟨h1, h2, h3⟩ := h
    rw [hl, Zz1] at h2
    exact hK _ _ ⟨p, acc, rfl, A1, RDs.same (A3 hp) _ _ h2, h3.trans (A3 hp)⟩
theorem Sx {row : List Int} {lag : Int} : ∀ {n : Nat}, (∀ e, e < n -> ¬ ((e : Int) < lag /\ 0 < row.getD e 0)) -> D1 row lag n = none
 | 0, _ => rfl
 | n + 1, h => by
  rw [D1, Sx fun e he => h e (by omega)]
  show (if (n : Int) < lag /\ 0 < row.getD n 0 then some n else none) = none
  rw [if_neg (h n (by omega))]
def noS (S : Sh) : Sh := ⟨S.wares, []⟩
def Cc (n : Int) (S : Sh) : Sh := ⟨S.wares, S.wants.map (Wz n)⟩
def De (S : Sh) : Prop := ∀ w ∈ S.wares, D4 (LR S w.name) w.lag = none
theorem Lr {S S' : Sh} (h : Lev S) (e : S'.wares = S.wares) : Lev S' := by
 obtain ⟨ws, us⟩ := S
 obtain ⟨ws', us'⟩ := S'
 obtain rfl : ws' = ws := e
 exact ⟨h.nd, h.own, h.low⟩
theorem df {ns : List Int} {b : Int} (hb : 0 <= b) (h : ∀ x ∈ ns, x <= b) : Ev ns <= b := by
 have := Qu (b := b + 1) (by omega) fun x hx => by have := h x hx; omega
 omega
theorem Tj {S : Sh} (hl : ∀ w ∈ S.wares, 0 <= w.lag) : ∀ k x, 0 <= tmF S k x
 | 0, x => Zyx _
 | k + 1, x => by
  rw [tmF]
  split
  ·rename_i w hw
   have h1 := hl w (La hw).1
   have h2 := Mt (ns := w.parts.map fun p => tmF S k p.1) (fun y hy => by obtain ⟨p, _, rfl⟩ := Zzr.mp hy; exact Tj hl k p.1)
   omega
  ·exact Zyx _
theorem Tl {S : Sh} (hl : ∀ w ∈ S.wares, 0 <= w.lag /\ w.lag <= 30) : ∀ (k : Nat) x, tmF S k x <= 30 * k
 | 0, x => by rw [tmF]; omega
 | k + 1, x => by
  rw [tmF]
  split
  ·rename_i w hw
   have h1 := hl w (La hw).1
   have h2 := df (ns := w.parts.map fun p => tmF S k p.1) (b := 30 * k) (by omega) (fun y hy => by obtain ⟨p, _, rfl⟩ := Zzr.mp hy; exact Tl hl k p.1)
   omega
  ·omega
theorem bf {S : Sh} (L : Lev S) {t : Wr} (ht : t ∈ S.wares) {p : Str × Int} (hp : p ∈ t.parts) : t.lag + tm S p.1 <= tm S t.name := by
 rw [Y7 L ht]
 have := Qv (ns := t.parts.map fun p => tm S p.1) (Zzr.mpr ⟨p, hp, rfl⟩)
 omega
theorem h9 {S : Sh} (L : Lev S) (hl : ∀ w ∈ S.wares, 0 <= w.lag) {t : Wr} (ht : t ∈ S.wares) : t.lag <= tm S t.name := by
 rw [Y7 L ht]
 have := Mt (ns := t.parts.map fun p => tm S p.1) (fun y hy => by obtain ⟨p, _, rfl⟩ := Zzr.mp hy; exact Tj hl _ p.1)
 omega
theorem L4 (S : Sh) : daysN (noS S) = 1 := rfl
theorem Lu {xs : List Int} {d : Nat} (h : xs.length <= d) : xs.getD d 0 = 0 := by
 rw [Zzh, Zyp h]
 rfl
theorem My (row : List Int) (lag : Int) (d : Nat) : bAt row lag d = row.getD (d + lag.toNat) 0 := by
 unfold bAt
 split
 ·rfl
 ·rw [Lu (by omega)]
theorem Sg {S : Sh} {T : Int} {plan plan0 : Str -> List Int} {nm : Str} {d : Nat} (hd : ∀ u ∈ S.wants, (d : Int) < u.2.1 + T) (h : ∀ t ∈ S.wares, ∀ p ∈ t.parts, p.1 = nm -> bAt (plan t.name) t.lag d = bAt (plan0 t.name) t.lag d) : Cm (Cc T S) plan nm d = Cm (noS S) plan0 nm d := by
 unfold Cm
 have e1 : Bz (wAt nm d) (Cc T S).wants = 0 := Ld fun x hx => by
  obtain ⟨u, hu, rfl⟩ := Zzr.mp hx
  have := hd u hu
  unfold wAt Wz
  rw [if_neg (fun z => by have := z.2; simp only at this; omega)]
 have e2 : Bz (wAt nm d) (noS S).wants = 0 := rfl
 rw [e1, e2]
 congr 1
 refine Hs fun t ht => ?_
 unfold pAt
 refine Hs fun p hp => ?_
 by_cases e : p.1 = nm
 ·rw [if_pos e, if_pos e, h t ht p hp e]
 ·rw [if_neg e, if_neg e]
theorem Z5 {S : Sh} (L : Lev S) (E : Uw S) (hl : ∀ w ∈ S.wares, 0 <= w.lag) {T : Int} (hT : ∀ w ∈ S.wares, tm S w.name <= T) (hw0 : ∀ u ∈ S.wants, 0 <= u.2.1) (h1 : 1 <= daysN (Cc T S)) : ∀ n : Nat, ∀ w ∈ S.wares, lv S w.name <= n -> 0 < tm S w.name ->
  (LR (Cc T S) w.name).getD 0 0 = (LR (noS S) w.name).getD 0 0 /\ ∀ d : Nat, 0 < d -> (d : Int) < tm S w.name -> (LR (Cc T S) w.name).getD d 0 = 0 := by
 intro n
 induction n using Nat.strongRecOn with
 | _ n ih =>
 intro w hw hlv ht
 have L1 : Lev (Cc T S) := Lr L rfl
 have L0 : Lev (noS S) := Lr L rfl
 have hTw := hT w hw
 have user : ∀ t ∈ S.wares, ∀ p ∈ t.parts, p.1 = w.name -> ∀ d : Nat, (d : Int) < tm S w.name -> bAt (LR (Cc T S) t.name) t.lag d = if d + t.lag.toNat = 0 then (LR (noS S) t.name).getD 0 0 else 0 := fun t htm p hp e d hd => by
  have q1 := Kx L htm hp
  have q2 := bf L htm hp
  rw [e] at q1 q2
  have q3 := Sm S t.name
  have q4 := hl t htm
  obtain ⟨a1, a2⟩ := ih (lv S t.name).toNat (by omega) t htm (by omega) (by omega)
  rw [My]
  by_cases z : d + t.lag.toNat = 0
  ·rw [if_pos z, z]; exact a1
  ·rw [if_neg z]; exact a2 _ (by omega) (by omega)
 have nd0 : Cm (Cc T S) (LR (Cc T S)) w.name 0 = Cm (noS S) (LR (noS S)) w.name 0 := Sg (fun u hu => by have := hw0 u hu; omega) fun t htm p hp e => by
  rw [user t htm p hp e 0 (by omega), My]
  by_cases z : 0 + t.lag.toNat = 0
  ·rw [if_pos z, z]
  ·rw [if_neg z, Lu (by rw [Lx L0 htm, L4]; omega)]
 have ndd : ∀ d : Nat, 0 < d -> (d : Int) < tm S w.name -> Cm (Cc T S) (LR (Cc T S)) w.name d = 0 := fun d d0 d1 => by
  rw [Sg (plan0 := fun _ => []) (fun u hu => by have := hw0 u hu; omega) fun t htm p hp e => by
   rw [user t htm p hp e d d1, if_neg (by omega), My]
   rfl]
  unfold Cm
  rw [show Bz (wAt w.name d) (noS S).wants = 0 from rfl, Ld fun t htm => ?_]
  ·rfl
  ·unfold pAt
   exact Ld fun p hp => by
    rw [My]
    split
    ·exact Int.mul_zero _
    ·rfl
 have E1 := (E.wb w hw).1.1
 refine ⟨?_, fun d d0 d1 => ?_⟩
 ·rw [Td L1 (show w ∈ (Cc T S).wares from hw), Td L0 (show w ∈ (noS S).wares from hw), Lq (by omega), Lq (by rw [L4]; omega)]
  have x1 : (B1 (daysN (Cc T S)) (Co w)).getD 0 0 = Co w 0 := Cp (by omega)
  have x0 : (B1 (daysN (noS S)) (Co w)).getD 0 0 = Co w 0 := Cp (by rw [L4]; omega)
  have y1 : (Bb (Cc T S) (LR (Cc T S)) w.name).getD 0 0 = Cm (Cc T S) (LR (Cc T S)) w.name 0 := Cp (by omega)
  have y0 : (Bb (noS S) (LR (noS S)) w.name).getD 0 0 = Cm (noS S) (LR (noS S)) w.name 0 := Cp (by rw [L4]; omega)
  show Bp (-(-w.floor + ((B1 (daysN (Cc T S)) (Co w)).getD 0 0 - (Bb (Cc T S) (LR (Cc T S)) w.name).getD 0 0))) w.gives = Bp (-(-w.floor + ((B1 (daysN (noS S)) (Co w)).getD 0 0 - (Bb (noS S) (LR (noS S)) w.name).getD 0 0))) w.gives
  rw [x1, x0, y1, y0, nd0]
 ·by_cases hd : d < daysN (Cc T S)
  ·rw [Td L1 (show w ∈ (Cc T S).wares from hw), Lq hd]
   obtain ⟨k, rfl⟩ : ∃ k, d = k + 1 := ⟨d - 1, by omega⟩
   have q1 := T9 (f := w.floor) (g := w.gives) (xs := B1 (daysN (Cc T S)) (Co w)) (ys := Bb (Cc T S) (LR (Cc T S)) w.name) (by omega) k
   have q2 := T8 E hw (k + 1)
   unfold Ix
   refine M9 (by omega) ?_
   have q3 : (B1 (daysN (Cc T S)) (Co w)).getD (k + 1) 0 = Co w (k + 1) := Cp hd
   have q4 : (Bb (Cc T S) (LR (Cc T S)) w.name).getD (k + 1) 0 = 0 := by unfold Bb; rw [Cp hd, ndd _ d0 d1]
   rw [q3, q4]
   omega
  ·exact Lu (by rw [Lx L1 (show w ∈ (Cc T S).wares from hw)]; omega)
theorem Sq {S : Sh} (L : Lev S) (E : Uw S) (hl : ∀ w ∈ S.wares, 0 <= w.lag) {T : Int} (hT : ∀ w ∈ S.wares, tm S w.name <= T) (hw0 : ∀ u ∈ S.wants, 0 <= u.2.1) (h1 : 1 <= daysN (Cc T S)) (h0 : De (noS S)) : De (Cc T S) := fun w hw => by
 have hw : w ∈ S.wares := hw
 have ht := h9 L hl hw
 have hlw := hl w hw
 refine (show D1 (LR (Cc T S) w.name) w.lag (LR (Cc T S) w.name).length = none from Sx fun e he c => ?_)
 obtain ⟨a1, a2⟩ := Z5 L E hl hT hw0 h1 (lv S w.name).toNat w hw (by have := Sm S w.name; omega) (by omega)
 by_cases z : e = 0
 ·subst z
  rw [a1] at c
  have L0 : Lev (noS S) := Lr L rfl
  have q := Jm (show D1 (LR (noS S) w.name) w.lag (LR (noS S) w.name).length = none from h0 w hw) 0 (by rw [Lx L0 hw, L4]; omega)
  exact q c
 ·rw [a2 e (by omega) (by omega)] at c
  omega
theorem Good.off {sz n : Int} {S : Sh} (g : Good sz S) (h : 0 <= n) : Good (sz + n) ⟨S.wares, S.wants.map (Wz n)⟩ := by
 refine ⟨g.ws, g.len, fun w hw => ⟨(g.com w hw).1, fun y hy => ?_⟩, ⟨by rw [Zzz]; exact g.wants.1, fun u hu => ?_⟩⟩
 ·obtain ⟨⟨a, b⟩, c⟩ := (g.com w hw).2 y hy
  exact ⟨⟨a, by omega⟩, c⟩
 ·obtain ⟨y, hy, rfl⟩ := Zzr.mp hu
  obtain ⟨q0, ⟨q1, q2⟩, q3⟩ := g.wants.2 y hy
  exact ⟨q0, ⟨by show 0 <= y.2.1 + n; omega, by show y.2.1 + n < sz + n; omega⟩, q3⟩
theorem Good.none {sz : Int} {S : Sh} (g : Good sz S) : Good sz (noS S) := ⟨g.ws, g.len, g.com, ⟨Zyr _, fun u hu => by cases hu⟩⟩
def Kk (Pt : Addr) : Sp := fun vs H Q _ => ∃ (v : V) (S : Sh) (sz : Int), vs = [v] /\ RD H S.d v /\ Good sz S /\ 0 < sz /\ sz <= 1000 /\ Tb H Pt /\ ∀ (b : Bool) H', (b = true ↔ De S) -> Tb H' Pt -> But Pt H H' -> Q (.bl b) H'
theorem Q2 : Al ["shop"] ["shop"] (Aa Dr) := by constructor <;> first | rfl | decide +kernel
theorem Qg (F : Fun K "lets_plan" "lets_plan" Dr f fd) (T : Txt mg) (Zv1 : Has P w K mg base "planned" 7 ["shop"] (Jy Pt)) : FnOk P w K mg base CX0 8 f fd ["shop"] (Kk Pt) := by
 refine F.ok Q2 (fun vs H Q E h => ?_) (fun cdv A outer s H vs Q E hr h => ?_)
 ·obtain ⟨v, S, sz, rfl, _⟩ := h
  rfl
 ·obtain ⟨v, S, sz, rfl, rs, g, z0, z1, tb, k⟩ := h
  have hu := B8 hr
  refine ⟨_, (A7 (Am (Ks (Bl hu) (A5 hu (Ab Zv1 hr.z rfl (A4 (pv 0) A0)) A6 (fun _ _ => rfl)) Bu (Ap _)))), ?_⟩
  walk_at "rd"
  refine ⟨v, S, sz, rfl, rs, g, z0, z1, tb, fun t p ys i H1 ht hp tp sb ra hne tb1 bt1 hcase => ?_⟩
  have so := D7 sb
  rcases hcase with ⟨hi, h1⟩ | ⟨wr, d, hwr, hi, hed, h1⟩
  ·refine ⟨_, Ad (j := 0) h1 rfl, rfl, k _ H1 ⟨fun _ w hw => hne w hw ?_, fun _ => by decide⟩ tb1 bt1⟩
   rw [hi, Zz1]
   exact so.1.mem_iff.mpr (Zzr.mpr ⟨w, hw, rfl⟩)
  ·refine ⟨_, Ad (j := 0) h1 rfl, rfl, k _ H1 ⟨fun z => absurd z (by decide), fun z => by rw [z wr hwr] at hed; cases hed⟩ tb1 bt1⟩
def jq (S : Sh) (n : Int) : Prop := 0 <= n /\ De (noS S) /\ De (Cc n S) /\ (n = 0 \/ ¬ De (Cc (n - 1) S)) /\ ∃ w ∈ S.wares, n <= tm S w.name
def Vb (Pt : Addr) : Sp := fun vs H Q _ => ∃ (v : V) (S : Sh) (sz : Int), vs = [v] /\ RD H S.d v /\ Good sz S /\ 0 < sz /\ sz <= 401 /\ Tb H Pt /\ (∀ H', ¬ De (noS S) -> Tb H' Pt -> But Pt H H' -> Q .non H') /\ ∀ (n : Int) H', jq S n -> Tb H' Pt -> But Pt H H' -> Q (.int n) H'
def gx (v : V) (S : Sh) (Pt : Addr) (M : Int) (H : Hp) (m : Nat) (σ : St) (H' : Hp) : Prop := ∃ (e l : Int) (o3 : Option V), m = (e - l).toNat /\ σ = [some v, some (.int e), some (.int l), o3] /\ 0 <= l /\ l <= e /\ e <= M /\ De (Cc e S) /\ (l = 0 \/ ¬ De (Cc (l - 1) S)) /\ Tb H' Pt /\ But Pt H H'
theorem sc_late : Al ["shop", "enough", "least", "middle"] ["shop"] (Aa Lg) := by constructor <;> first | rfl | decide +kernel
theorem d8 (F : Fun K "late" "late" Lg f fd) (T : Txt mg) (Zum : Has P w K mg base "lets_plan" 8 ["shop"] (Kk Pt)) (Zty : Has P w K mg base "times" 7 ["shop"] (Ro Pt)) (Zuy : Has P w K mg base "put_off" 5 ["shop", "days"] sp_put_off) : FnOk P w K mg base CX0 9 f fd ["shop"] (Vb Pt) := by
 refine F.ok sc_late (fun vs H Q E h => ?_) (fun cdv A outer s H vs Q E hr h => ?_)
 ·obtain ⟨v, S, sz, rfl, _⟩ := h
  rfl
 ·obtain ⟨v, S, sz, rfl, rs, g, z0, z1, tb, k1, k2⟩ := h
  have hu := B8 hr
  refine ⟨_, (A2 (Bf (J9 (Hx (Ab Zum hr.z rfl (A4 (Aq (A4 (A5 hu (pv 0) A6 (fun _ _ => rfl)) (A4 (Aq A0) A0))) A0)))) (A7 (Am Gf)) Au)
 (A2 (Af (i := 1) sc_late.nd rfl (Zzw rfl) (U0 rfl rfl T.Zuf (Ab Zty hr.z rfl (A4 (pv 0) A0))))
 (A2 (Af (i := 2) sc_late.nd rfl (Zzw rfl) A6)
 (A2 (Rv PassesOwn.never (Ak (Ll hu) (pv 2) (pv 1) (Ap _)) (A2 (Af (i := 3) sc_late.nd rfl (Zzw rfl) (Av Jb (Av Bw (pv 2) (pv 1)) A6))
 (A7 (Bf (Hx (Ab Zum hr.z rfl (A4 (Ab Zuy hr.z rfl (A4 (pv 0) (A4 (pv 3) A0))) A0))) (A7 (Af (i := 1) sc_late.nd rfl (Zzw rfl) (pv 3))) (A7 (Af (i := 2) sc_late.nd rfl (Zzw rfl) (Av Bw (pv 3) A6)))))))
 (A7 (Am (pv 1))))))), ?_⟩
  walk_at "rd"
  obtain ⟨sa, sb, sc, ws, us, ev, ha, hb, hc, rws, rus⟩ := Cd rs
  have L := Jj g
  have E := Mv g
  have hl : ∀ w ∈ S.wares, 0 <= w.lag /\ w.lag <= 30 := fun w hw => (g.ws.wb w hw).lag
  have hfew := g.len
  refine ⟨_, by rw [ev]; exact Ad (j := 0) ha rfl, by decide, fun p hp => ⟨by decide, fun q hq => ?_⟩⟩
  have u1 := A3 (o := .tup []) hp
  have u2 := A3 (o := .tup [.ref sb, .ref p]) hq
  have s2 := u1.trans u2
  have rs0 : RD (upd (upd H p (.tup [])) q (.tup [.ref sb, .ref p])) (noS S).d (.ref q) := by
   unfold noS Sh.d
   exact RD.tup_mk A1 (RDs.cons (RD.tup_mk (s2 _ _ hb) (RDs.same s2 _ _ rws)) (RDs.one (RD.tup_mk (xs := []) (u2 _ _ A1) RDs.nil)))
  generalize upd (upd H p (.tup [])) q (.tup [.ref sb, .ref p]) = H2 at s2 rs0
  refine ⟨.ref q, noS S, sz, rfl, rs0, g.none, z0, by omega, tb.same s2, fun b H3 hb3 tb3 bt3 => ⟨b, rfl, ?_⟩⟩
  have bt03 : But Pt H H3 := (Bt s2).trans bt3
  have rs3 := RD.ku (Es tb bt03) _ _ (Ce S) rs
  refine C9 (fun c => ?_) (fun c => ?_)
  ·exact k1 H3 (fun z => by rw [hb3.mpr z] at c; cases c) tb3 bt03
  have h0 : De (noS S) := hb3.mp (by cases b with | true => rfl | false => exact absurd rfl c)
  refine ⟨v, S, rfl, rs3, L, tb3, fun p4 ys H4 hp4 hd4 pm tb4 bt4 => ⟨p4, rfl, _, hd4, ys.map (tm S), ?_, ?_, ?_⟩⟩
  ·unfold fnD
   rw [Zxi, Zxi]
   rfl
  ·intro z
   have := congrArg Zx7 z
   rw [Zzz, pm.length_eq, Ca, Zxe] at this
   omega
  have bt04 := bt03.trans bt4
  have hne : ys.map (tm S) ≠ [] := fun z => by
   have := congrArg Zx7 z
   rw [Zzz, pm.length_eq, Ca, Zxe] at this
   omega
  have mge : ∀ w ∈ S.wares, tm S w.name <= Ny (ys.map (tm S)) := fun w hw => Vm (Zzr.mpr ⟨w.name, pm.mem_iff.mpr (Zzr.mpr ⟨w, hw, rfl⟩), rfl⟩)
  obtain ⟨nm, hnm, enm⟩ := Zzr.mp (Kw hne)
  obtain ⟨wm, hwm, rfl⟩ := Zzr.mp (pm.mem_iff.mp hnm)
  have m360 : tm S wm.name <= 360 := by
   have := Tl hl S.wares.length wm.name
   unfold tm
   omega
  have m0 : 0 <= tm S wm.name := Tj (fun w hw => (hl w hw).1) _ _
  rw [<- enm] at mge ⊢
  have go : ∀ {n : Int}, 0 <= n -> n <= 360 -> Good (sz + n) (Cc n S) := fun h _ => g.off h
  have hw0 : ∀ u ∈ S.wants, 0 <= u.2.1 := fun u hu => (g.wants.2 u hu).2.1.1
  have he : De (Cc (tm S wm.name) S) := Sq L.toLev E (fun w hw => (hl w hw).1) mge hw0 ((go m0 m360).days (by omega) (by omega)).1 h0
  have hM : ∃ w ∈ S.wares, tm S wm.name <= tm S w.name := ⟨wm, hwm, Zyx _⟩
  obtain ⟨M, eM0⟩ : ∃ M, M = tm S wm.name := ⟨_, rfl⟩
  rw [<- eM0] at mge m360 m0 he hM ⊢
  refine ⟨gx v S Pt M H, ⟨_, M, 0, none, rfl, rfl, Zyx _, m0, Zyx _, he, .inl rfl, tb4, bt04⟩, fun m σ H5 hW => ?_⟩
  obtain ⟨e, l, o3, rfl, rfl, l0, le, eM, pe, pl, tb5, bt5⟩ := hW
  have rs5 := RD.ku (Es tb bt5) _ _ (Ce S) rs
  walk_at "rd"
  refine C9 (fun c => ?_) (fun c => ?_)
  ·have c := of_decide_eq_true c
   refine ⟨fun σ' H' => ∃ m', m' < (e - l).toNat /\ gx v S Pt M H m' σ' H', fun σ' H' z => z, ?_⟩
   refine ⟨by decide, by decide +kernel, v, S, (l + e) / 2, rfl, rs5, g.ok, g.no, by have := g.wants.1; omega, fun x H6 rx s6 => ?_⟩
   have d0 : l <= (l + e) / 2 := by omega
   have d1 : (l + e) / 2 < e := by omega
   generalize (l + e) / 2 = mid at rx d0 d1
   refine ⟨x, Cc mid S, sz + mid, rfl, rx, go (by omega) (by omega), by omega, by omega, tb5.same s6, fun b7 H7 hb7 tb7 bt7 => ⟨b7, rfl, ?_⟩⟩
   have bt07 := bt5.trans ((Bt s6).trans bt7)
   refine C9 (fun c7 => ?_) (fun c7 => ?_)
   ·exact ⟨(mid - l).toNat, by omega, mid, l, _, rfl, rfl, l0, d0, by omega, hb7.mp c7, pl, tb7, bt07⟩
   ·refine ⟨(e - (mid + 1)).toNat, by omega, e, mid + 1, _, rfl, rfl, by omega, by omega, eM, pe, .inr (fun z => ?_), tb7, bt07⟩
    rw [show mid + 1 - 1 = mid by omega] at z
    exact c7 (hb7.mpr z)
  ·have c : ¬ l < e := fun z => c (decide_eq_true z)
   obtain rfl : l = e := by omega
   obtain ⟨w, hw, hwM⟩ := hM
   exact k2 l H5 ⟨l0, h0, pe, pl, w, hw, by omega⟩ tb5 bt5
end
set_option maxHeartbeats 4000000
section
variable {P : Program} {w : World} {K : Zzv} {mg : Str -> Option Value} {base : Heap} {f : Addr} {fd : FuncData} {Pt : Addr}
def sp_law_amount : Sp := fun vs H Q _ => ∃ st, vs = [.ref st] /\ StOk H st /\ ∀ n H', 0 <= n -> n < 10 ^ 41 -> StOk H' st -> But st H H' -> Q (.int n) H'
theorem sc_law_amount : Al ["_law_state", "_law_number"] ["_law_state"] (Aa Dc) := by constructor <;> first | rfl | decide +kernel
theorem On (F : Fun K "_law_amount" "_law_amount" Dc f fd) (T : Txt mg) (Zvl : Has P w K mg base "_law_next" 1 ["_law_state", "_law_many"] sp_law_next) : FnOk P w K mg base CX0 2 f fd ["_law_state"] sp_law_amount := by
 refine F.ok sc_law_amount (fun vs H Q E h => ?_) (fun cdv A outer s H vs Q E hr h => ?_)
 ·obtain ⟨st, rfl, _⟩ := h
  rfl
 ·obtain ⟨st, rfl, hs, k⟩ := h
  have hu := B8 hr
  refine ⟨_, (A2 (Af (i := 1) sc_law_amount.nd rfl (Zzw rfl) (Ab Zvl hr.z rfl (A4 (pv 0) (A4 A6 A0))))
 (A2 (Bf (Ak (Bl hu) (Ab Zvl hr.z rfl (A4 (pv 0) (A4 A6 A0))) A6 (Ap _)) (A7 (Am (Av Bw (Av U3 (pv 1) (Av Qb A6 A6)) (Ab Zvl hr.z rfl (A4 (pv 0) (A4 A6 A0)))))) Au)
 (A7 (Am (pv 1))))), ?_⟩
  walk_at "rd"
  refine ⟨st, 10, rfl, hs, by decide, by decide +kernel, fun d H1 d0 d1 s1 b1 => ?_⟩
  walk_at "rd"
  refine ⟨st, 8, rfl, s1, by decide, by decide +kernel, fun e H2 e0 e1 s2 b2 => ?_⟩
  walk_at "rd"
  have b02 := b1.trans b2
  refine ⟨rfl, C9 (fun _ => ?_) (fun _ => k d H2 d0 (Int.lt_trans d1 (by decide +kernel)) s2 b02)⟩
  refine ⟨⟨by decide, by decide, by decide⟩, .inl ⟨by omega, by omega⟩, ?_⟩
  refine ⟨st, 10, rfl, s2, by decide, by decide +kernel, fun x H3 x0 x1 s3 b3 => ⟨x, rfl, ?_⟩⟩
  have q : (0 : Int) <= d * 10 ^ Int.toNat 40 + x /\ d * 10 ^ Int.toNat 40 + x < 10 ^ 41 := by
   have : (10 : Int) ^ Int.toNat 40 = 10000000000000000000000000000000000000000 := by decide +kernel
   rw [this]
   omega
  exact k _ H3 q.1 q.2 s3 (b02.trans b3)
def lh (x : Str) : Prop := ∀ c ∈ x.cps.toList, c ∈ letters
theorem lt26 {d : Int} (h0 : 0 <= d) (h1 : d < 26) : ∃ c, ("abcdefghijklmnopqrstuvwxyz" : Str).cps.toList[d.toNat]? = some c /\ c ∈ letters := by
 have hl : ("abcdefghijklmnopqrstuvwxyz" : Str).cps.toList.length = 26 := by decide +kernel
 have h : d.toNat < ("abcdefghijklmnopqrstuvwxyz" : Str).cps.toList.length := by rw [hl]; omega
 exact ⟨_, Zzu h, Zw6 h⟩
def lastC : List Nat := ("bcdfghjklmnp" : Str).cps.toList
theorem Zh : ∀ k : Nat, k < 12 -> ∃ c, lastC[k]? = some c /\ c ∈ letters := by decide +kernel
theorem Zg : lastC.Nodup := by decide +kernel
def Qr (i : Nat) (x : Str) : Prop := (lh x /\ x.length <= 100) /\ x.cps.toList.getLast? = lastC[i]?
theorem Si {xs : List Str} (hl : xs.length <= 12) (h : ∀ (i : Nat) (x : Str), xs[i]? = some x -> Qr i x) : xs.Nodup := by
 refine Zxr.mpr fun i j hi hj hij e => ?_
 have h1 := (h i _ (Zzu hi)).2
 have h2 := (h j _ (Zzu hj)).2
 rw [e, h2] at h1
 have l12 : lastC.length = 12 := by decide +kernel
 have e1 := Zzu (l := lastC) (i := i) (by omega)
 have e2 := Zzu (l := lastC) (i := j) (by omega)
 rw [e1, e2] at h1
 have := Zxr.mp Zg i j (by omega) (by omega) hij
 exact this (Zzo h1).symm
def sp_law_names : Sp := fun vs H Q _ => ∃ st m, vs = [.ref st, .int m] /\ StOk H st /\ 0 <= m /\ m <= 12 /\
 ∀ (a : Addr) (xs : List Str) (H' : Hp), xs.length = m.toNat -> (∀ (i : Nat) (x : Str), xs[i]? = some x -> Qr i x) -> H' a = some (.lst (xs.map V.str)) -> H a = none -> StOk H' st -> But st H H' -> Q (.ref a) H'
def mw (st : Addr) (H : Hp) (i : Nat) (acc : List V) (H' : Hp) : Prop := ∃ xs : List Str, acc = xs.map V.str /\ xs.length = i /\ (∀ (j : Nat) (x : Str), xs[j]? = some x -> Qr j x) /\ StOk H' st /\ But st H H'
theorem sc_law_names : Al ["_law_state", "_law_many", "_law_letters"] ["_law_state", "_law_many"] (Aa Du) := by constructor <;> first | rfl | decide +kernel
theorem Qj (F : Fun K "_law_names" "_law_names" Du f fd) (T : Txt mg) (Zvl : Has P w K mg base "_law_next" 1 ["_law_state", "_law_many"] sp_law_next) : FnOk P w K mg base CX0 2 f fd ["_law_state", "_law_many"] sp_law_names := by
 refine F.ok sc_law_names (fun vs H Q E h => ?_) (fun cdv A outer s H vs Q E hr h => ?_)
 ·obtain ⟨st, m, rfl, _⟩ := h
  rfl
 ·obtain ⟨st, m, rfl, hs, m0, m1, k⟩ := h
  have hu := B8 hr
  refine ⟨_, (A2 (Af (i := 2) sc_law_names.nd rfl (Or.inr rfl) Bu)
 (A7 (Am (Df (own := ["_law_k"]) (cap := [2, 0]) rfl (E8 rfl) (Bm (by decide)) (Bs rfl T.Zvb (A4 (pv 1) A0))
 (fun _ _ _ _ _ _ => ⟨(Ac (i := 0) (of_decide_eq_true rfl) rfl (Zzw rfl) (.inr rfl)), E3, (Av U4 (Av cx (A5 hu (pv 1) (Ab Zvl hr.z rfl (A4 (pv 2) (A4 A6 A0))) (fun _ _ => rfl)) (Ab Zvl hr.z rfl (A4 (pv 2) (A4 A6 A0)))) (A5 hu Bu (pv 0) (fun _ _ => rfl)))⟩))))), ?_⟩
  walk_at "rd"
  refine ⟨by omega, by omega, ?_⟩
  refine Gx (Iy 0 _) (B3 (by omega)) (mw st H) ⟨[], rfl, rfl, (fun j x e => by simp at e), hs, But.refl _ _⟩ (fun _ _ _ _ _ => trivial) (fun j acc H' h => by obtain ⟨xs, rfl, e, _⟩ := h; rw [Zzz]; exact Zx0 e) (fun j y acc H1 hj hy h => ?_) (fun acc H1 h p hp => ?_)
  ·obtain ⟨xs, rfl, hl, hn, s1, b1⟩ := h
   subst hy
   walk_at "rd"
   refine ⟨st, 26, rfl, s1, by decide, by decide +kernel, fun d H2 d0 d1 s2 b2 => ?_⟩
   obtain ⟨cc, ec, hcc⟩ := lt26 d0 d1
   refine ⟨_, Zm (by decide +kernel) d0 ec, st, 8, rfl, s2, by decide, by decide +kernel, fun e H3 e0 e1 s3 b3 => ?_⟩
   refine ⟨⟨#[cc]⟩, rfl, e, rfl, by show 1 <= 1000; decide, e0, by omega, fun z hz hzc => ?_⟩
   have hz : z.length <= 1 * e.toNat + 1 := hz
   obtain ⟨lc, el, hlc⟩ := Zh j (by omega)
   have ij : (0 + (j : Int)).toNat = j := by omega
   refine ⟨_, Zm (by decide +kernel) (by omega) (by rw [ij]; exact el), _, rfl, Zyw (m := 1000) (by show z.length + 1 <= 1000; omega) (B3 (Zzs _)), xs ++ [z ++ ⟨#[lc]⟩], by rw [Zzf]; rfl, by rw [Zzm, Zyl, hl], fun q y hq => ?_, s3, (b1.trans b2).trans b3⟩
   by_cases hqj : q < xs.length
   ·rw [Zxy hqj] at hq
    exact hn q y hq
   ·rw [Zyb (by omega)] at hq
    have hq0 : q - xs.length = 0 := by
     cases e : q - xs.length with
     | zero => rfl
     | succ n => rw [e] at hq; simp at hq
    rw [hq0] at hq
    have hq : z ++ ⟨#[lc]⟩ = y := by simpa using hq
    have hqe : q = j := by omega
    subst hq hqe
    have ecp : (z ++ (⟨#[lc]⟩ : Str)).cps.toList = z.cps.toList ++ [lc] := by
     show (z.cps ++ #[lc]).toList = _
     simp
    refine ⟨⟨fun c hc => ?_, ?_⟩, ?_⟩
    ·rw [ecp] at hc
     rcases Zyu.mp hc with y | y
     ·have := hzc c y
      have : c ∈ [cc] := this
      rw [Zz9.mp this]
      exact hcc
     ·rw [Zz9.mp y]
      exact hlc
    ·have : (z ++ (⟨#[lc]⟩ : Str)).length = z.length + 1 := by show (z.cps ++ #[lc]).size = z.cps.size + 1; simp
     omega
    ·rw [ecp, List.getLast?_append, el]
     rfl
  ·obtain ⟨xs, rfl, hl, hn, s1, b1⟩ := h
   have pst : p ≠ st := Zzc (s1.ne hp)
   exact k p xs _ hl hn A1 (b1.none pst hp) (s1.upd (s1.ne hp)) (b1.new hp)
end
set_option maxHeartbeats 4000000
section
variable {P : Program} {w : World} {K : Zzv} {mg : Str -> Option Value} {base : Heap} {f : Addr} {fd : FuncData} {Pt : Addr}
structure gf (xs : List Str) (ps : List (Str × Int)) : Prop where
 sub : ∀ p ∈ ps, p.1 ∈ xs /\ 1 <= p.2 /\ p.2 <= 4
 nd : (ps.map (·.1)).Nodup
theorem Rs {H : Hp} : ∀ {ds : List PyData} {xs : List V} (n : Nat), RDs H ds xs -> RDs H (ds.take n) (xs.take n)
 | _, _, 0, _ => by rw [Zwr, Zwr]; exact RDs.nil
 | [], xs, n + 1, h => by rw [RDs.nil_of h]; exact RDs.nil
 | d :: ds, xs, n + 1, h => by
  obtain ⟨x, r, rfl, h1, h2⟩ := RDs.cons_of h
  rw [List.take_succ_cons, List.take_succ_cons]
  exact RDs.cons h1 (Rs n h2)
theorem Ve {H : Hp} : ∀ {ds : List PyData} {xs : List V}, RDs H ds xs -> RDs H ds.reverse xs.reverse
 | [], xs, h => by rw [RDs.nil_of h]; exact RDs.nil
 | d :: ds, xs, h => by
  obtain ⟨x, r, rfl, h1, h2⟩ := RDs.cons_of h
  rw [Zwb, Zwb]
  exact RDs.app (Ve h2) (RDs.one h1)
def sp_law_parts : Sp := fun vs H Q _ => ∃ (st l : Addr) (xs : List Str), vs = [.ref st, .ref l] /\ StOk H st /\ H l = some (.lst (xs.map V.str)) /\ l ≠ st /\ xs.length <= 12 /\ xs.Nodup /\ ∀ v (ps : List (Str × Int)) H', RD H' (.tuple (ps.map G9)) v -> ps.length <= 6 -> gf xs ps -> StOk H' st -> But st H H' -> Q v H'
def aw (st l q : Addr) (xs : List Str) (H : Hp) (i : Nat) (σ : St) (H' : Hp) : Prop := ∃ (ps : List (Str × Int)) (vs : List V) (o : Option V), σ = [some (.ref st), some (.ref l), some (.ref q), o] /\ H' q = some (.lst vs) /\ RDs H' (ps.map G9) vs /\ (ps.map (·.1)).Sublist (xs.take i) /\ (∀ p ∈ ps, 1 <= p.2 /\ p.2 <= 4) /\ H' l = some (.lst (xs.map V.str)) /\ StOk H' st /\ But st H H'
theorem sc_law_parts : Al ["_law_state", "_law_names_here", "_law_parts_here", "_law_name"] ["_law_state", "_law_names_here"] (Aa Dt) := by constructor <;> first | rfl | decide +kernel
theorem Qi (F : Fun K "_law_parts" "_law_parts" Dt f fd) (T : Txt mg) (Zvl : Has P w K mg base "_law_next" 1 ["_law_state", "_law_many"] sp_law_next) : FnOk P w K mg base CX0 2 f fd ["_law_state", "_law_names_here"] sp_law_parts := by
 refine F.ok sc_law_parts (fun vs H Q E h => ?_) (fun cdv A outer s H vs Q E hr h => ?_)
 ·obtain ⟨st, l, xs, rfl, _⟩ := h
  rfl
 ·obtain ⟨st, l, xs, rfl, hs, hl, lst', hx, nd, k⟩ := h
  have hu := B8 hr
  refine ⟨_, (A2 (Af (i := 2) sc_law_parts.nd rfl (Zzw rfl) (Bk A0))
 (A2 (As PassesOwn.never rfl (C0 (pv 1)) (Ac (i := 3) sc_law_parts.nd rfl (Zzw rfl))
 (A7 (Bf (Ak (Bl hu) (Ab Zvl hr.z rfl (A4 (pv 0) (A4 A6 A0))) A6 (Ap _)) (A7 (B9 (D5 Zzb Zz8 Zz7 B4 (pv 2) (A4 (Aq (A4 (pv 3) (A4 (Av Bw A6 (Ab Zvl hr.z rfl (A4 (pv 0) (A4 A6 A0)))) A0))) A0)))) Au)))
 (A2 (Bf (Ak (Bl hu) (Ab Zvl hr.z rfl (A4 (pv 0) (A4 A6 A0))) A6 (Ap _)) (A7 (B9 (io Zzb PySem.F.slot_list_reverse PySem.F.type_list_reverse Ud (pv 2)))) Au)
 (A7 (Am (Cy Ew rfl T.Zuz Ex (A4 (Hk Km (pv 2) Kr (Hy A6)) A0))))))), ?_⟩
  walk_at "rd"
  refine ⟨by decide, fun q hq => ⟨_, by rw [A8 (A9 hl hq)]; exact hl, ?_⟩⟩
  have qst : q ≠ st := Zzc (hs.ne hq)
  have lq : l ≠ q := A9 hl hq
  refine Bd (Dh l _) (aw st l q xs H) ⟨[], [], _, rfl, A1, RDs.nil, List.nil_sublist _, (fun p hp => nomatch hp), by rw [A8 lq]; exact hl, hs.upd (Zzc qst), L6 hq⟩ (fun i σ H' _ h => let ⟨_, _, _, _, _, _, _, _, h, _⟩ := h; h) (fun i x σ H1 hi hx h => ?_) (fun σ H1 h => ?_)
  ·obtain ⟨ps, vs, o, rfl, hq1, r1, sb, am, hl1, s1, b1⟩ := h
   rw [Zzz] at hi
   rw [Zzx] at hx
   cases en : xs[i]? with
   | none => rw [en] at hx; cases hx
   | some nm =>
   rw [en] at hx
   have hx : V.str nm = x := Zzo hx
   subst hx
   have et : xs.take (i + 1) = xs.take i ++ [nm] := by rw [Zz5, en]; rfl
   have no : ∀ {H2 : Hp}, StOk H2 st -> But st H1 H2 -> aw st l q xs H (i + 1) [some (.ref st), some (.ref l), some (.ref q), some (.str nm)] H2 := fun {H2} s2 b2 => ⟨ps, vs, _, rfl, b2 _ _ qst hq1, RDs.ku (Dg b2 s1) _ _ (Bo G9 Ku _) r1, by rw [et]; exact sb.trans (List.sublist_append_left _ _), am, b2 _ _ lst' hl1, s2, b1.trans b2⟩
   walk_at "rd"
   refine ⟨st, 2, rfl, s1, by decide, by decide +kernel, fun d H2 d0 d1 s2 b2 => ?_⟩
   walk_at "rd"
   refine ⟨rfl, C9 (fun _ => ?_) (fun _ => no s2 b2)⟩
   have hq2 := b2 _ _ qst hq1
   refine ⟨Fs hq2, st, 4, rfl, s2, by decide, by decide +kernel, fun e H3 e0 e1 s3 b3 => ⟨e, rfl, by decide, fun t ht => ?_⟩⟩
   have b23 := b2.trans b3
   have hq3 := b23 _ _ qst hq1
   have hlv := Ao r1
   have hlp := sb.length_le
   rw [Zzz, Zyq] at hlp
   have u := A3 (o := .tup [V.str nm, V.int (1 + e)]) ht
   have hq4 := u _ _ hq3
   refine ⟨vs, hq4, Zz4 (show vs.length < 1000 by omega) (B3 (Zzs _)), ps ++ [(nm, 1 + e)], _, _, rfl, A1, ?_, ?_, fun p hp => ?_, ?_, (s3.same u).upd (Zzc qst), ?_⟩
   ·have kk := ((Dg b23 s1).trans u.ku).trans (Fb (ys := vs ++ [V.ref t]) hq4)
    rw [Zzf]
    refine RDs.app (RDs.ku kk _ _ (Bo G9 Ku _) r1) (RDs.one (RD.tup_mk (xs := [V.str nm, V.int (1 + e)]) ?_ (RDs.cons RD.str_mk (RDs.one RD.int_mk))))
    rw [A8 (Zzc (A9 hq3 ht)), A1]
   ·rw [Zzf, et]
    exact sb.append (List.Sublist.refl _)
   ·rcases Zyu.mp hp with z | z
    ·exact am p z
    ·rw [Zz9.mp z]
     exact ⟨show 1 <= 1 + e by omega, show 1 + e <= 4 by omega⟩
   ·rw [A8 lq]
    exact u _ _ (b23 _ _ lst' hl1)
   ·exact ((b1.trans b23).trans (Bt u)).upd hq
  ·obtain ⟨ps, vs, o, rfl, hq1, r1, sb, am, hl1, s1, b1⟩ := h
   rw [Zzz, Zz1] at sb
   have fin : ∀ (ps2 : List (Str × Int)) (vs2 : List V) (H2 : Hp), H2 q = some (.lst vs2) -> RDs H2 (ps2.map G9) vs2 -> gf xs ps2 -> StOk H2 st -> But st H H2 -> ∀ p, H2 p = none -> ∀ t, upd H2 p (.lst (Jv vs2 none (some 6))) t = none -> Q (.ref t) (upd (upd H2 p (.lst (Jv vs2 none (some 6)))) t (.tup (Jv vs2 none (some 6)))) := fun ps2 vs2 H2 hq2 r2 po s2 b2 p hp t ht => by
    have e6 : Jv vs2 none (some 6) = vs2.take 6 := by rw [Vz (by decide)]; rfl
    rw [e6] at ht ⊢
    have u := (A3 (o := .lst (vs2.take 6)) hp).trans (A3 (o := .tup (vs2.take 6)) ht)
    refine k (.ref t) (ps2.take 6) _ (RD.tup_mk A1 (by rw [Zw7]; exact Rs 6 (RDs.same u _ _ r2))) (by rw [Zyq]; omega) ⟨fun p hp => po.sub p (List.mem_of_mem_take hp), by rw [Zw7]; exact (List.take_sublist _ _).nodup po.nd⟩ (s2.same u) (b2.trans (Bt u))
   have po : gf xs ps := ⟨fun p hp => ⟨sb.subset (Zzr.mpr ⟨p, hp, rfl⟩), am p hp⟩, sb.nodup nd⟩
   have po2 : gf xs ps.reverse := ⟨fun p hp => po.sub p (List.mem_reverse.mp hp), by rw [List.map_reverse]; exact (List.reverse_perm _).nodup_iff.mpr po.nd⟩
   walk_at "rd"
   refine ⟨st, 2, rfl, s1, by decide, by decide +kernel, fun d H2 d0 d1 s2 b2 => ?_⟩
   walk_at "rd"
   have hq2 := b2 _ _ qst hq1
   have r2 := RDs.ku (Dg b2 s1) _ _ (Bo G9 Ku _) r1
   have b02 := b1.trans b2
   refine ⟨rfl, C9 (fun _ => ?_) (fun _ => ?_)⟩
   ·have kk : KeepU H2 (upd H2 q (.lst vs.reverse)) := Fb hq2
    refine ⟨Fs hq2, vs, hq2, _, A1, fun p hp => ⟨_, .inl ⟨A1, fun t ht => ?_⟩⟩⟩
    exact fin ps.reverse vs.reverse _ A1 (by rw [List.map_reverse]; exact Ve (RDs.ku kk _ _ (Bo G9 Ku _) r2)) po2 (s2.upd (Zzc qst)) (b02.upd hq) p hp t ht
   ·exact ⟨vs, hq2, fun p hp => ⟨_, .inl ⟨A1, fun t ht => fin ps vs H2 hq2 r2 po s2 b02 p hp t ht⟩⟩⟩
end
set_option maxHeartbeats 4000000
section
variable {P : Program} {w : World} {K : Zzv} {mg : Str -> Option Value} {base : Heap} {f : Addr} {fd : FuncData} {Pt : Addr}
def az (xs : List Str) (j : Nat) (w : Wr) : Prop := xs[j]? = some w.name /\ WB w /\ (∀ p ∈ w.parts, p.1 ∈ xs.drop (j + 1)) /\ gy 9 w.coming
theorem Z8 {x : Str} (h : lh x) : PyData.strOk x = true := by
 unfold PyData.strOk
 rw [<- Array.all_toList, Zwp]
 intro c hc
 have h4 : ∀ c ∈ letters, c < 0x110000 := by decide +kernel
 exact decide_eq_true (h4 c (h c hc))
theorem ja {xs : List Str} {ws ws' : List Wr} {us : List Wt} (hx : ∀ (i : Nat) (x : Str), xs[i]? = some x -> Qr i x) (hl : 1 <= xs.length /\ xs.length <= 12) (hw : ws.length = xs.length) (hk : ∀ j w, ws[j]? = some w -> az xs j w) (hp : ws'.Perm ws) (hu : W3 9 xs us) : Good 9 ⟨ws', us⟩ := by
 have nd := Si hl.2 hx
 have en : ws.map (·.name) = xs := by
  apply Zxb
  intro i
  rw [Zzx]
  by_cases hi : i < ws.length
  ·rw [Zzu hi]
   exact (hk i _ (Zzu hi)).1.symm
  ·rw [Zyp (by omega), Zyp (by omega)]
   rfl
 have hat : ∀ w ∈ ws', ∃ j, j < xs.length /\ az xs j w := fun w hm => by
  obtain ⟨j, hj⟩ := Zxv.mp (hp.mem_iff.mp hm)
  have := (Zzg.mp hj).1
  exact ⟨j, by omega, hk j w hj⟩
 have pn : (ws'.map (·.name)).Perm xs := by rw [<- en]; exact hp.map _
 have hlen : ws'.length = xs.length := by rw [hp.length_eq, hw]
 have own : ∀ w ∈ ws', ∀ p ∈ w.parts, ∃ i j, i < j /\ xs[i]? = some w.name /\ xs[j]? = some p.1 := fun w hm p hpm => by
  obtain ⟨j, hj, k1, k2, k3, _⟩ := hat w hm
  obtain ⟨i, hi⟩ := Zxv.mp (k3 p hpm)
  rw [List.getElem?_drop] at hi
  exact ⟨j, j + 1 + i, by omega, k1, hi⟩
 refine ⟨⟨pn.nodup_iff.mpr nd, fun w hm => ?_, fun w hm => ?_, fun w hm p hpm => ?_, fun x => xs.length - 1 - xs.idxOf x, fun w hm => ?_, fun w hm p hpm => ?_⟩, by show 1 <= ws'.length /\ ws'.length <= 12; omega, fun w hm => ?_, hu.1, fun u hum => ?_⟩
 ·obtain ⟨j, _, k⟩ := hat w hm; exact k.2.1
 ·obtain ⟨j, _, k⟩ := hat w hm; exact Z8 (hx j _ k.1).1.1
 ·obtain ⟨i, j, _, _, h3⟩ := own w hm p hpm
  exact pn.mem_iff.mpr (Zzt h3)
 ·show xs.length - 1 - xs.idxOf w.name < ws'.length
  omega
 ·obtain ⟨i, j, h1, h2, h3⟩ := own w hm p hpm
  obtain ⟨hi, ei⟩ := Zzg.mp h2
  obtain ⟨hj, ej⟩ := Zzg.mp h3
  have e1 : xs.idxOf w.name = i := by rw [<- ei]; exact nd.idxOf_getElem i hi
  have e2 : xs.idxOf p.1 = j := by rw [<- ej]; exact nd.idxOf_getElem j hj
  show xs.length - 1 - xs.idxOf p.1 < xs.length - 1 - xs.idxOf w.name
  omega
 ·obtain ⟨j, _, k⟩ := hat w hm; exact k.2.2.2
 ·obtain ⟨h1, h2⟩ := hu.2 u hum
  exact ⟨pn.mem_iff.mpr h1, h2⟩
def sp_law_shop : Sp := fun vs H Q _ => ∃ (st : Addr) (top : Int), vs = [.ref st, .int top] /\ StOk H st /\ 0 < top /\ top <= 8 /\ ∀ (v : V) (S : Sh) (H' : Hp), RD H' S.d v -> Good 9 S -> StOk H' st -> But st H H' -> Q v H'
end
set_option maxHeartbeats 4000000
section
variable {P : Program} {w : World} {K : Zzv} {mg : Str -> Option Value} {base : Heap} {f : Addr} {fd : FuncData} {Pt : Addr}
structure Cx31 (st l p : Addr) (xs : List Str) (ws : List Wr) (vs : List V) (H0 H : Hp) : Prop where
 hp : H p = some (.lst vs)
 rd : RDs H (ws.map Wr.d) vs
 hl : H l = some (.lst (xs.map V.str))
 s : StOk H st
 b : But st H0 H
 pst : p ≠ st
 lst : l ≠ st
theorem Cx31.draw {st l p : Addr} {xs : List Str} {ws : List Wr} {vs : List V} {H0 H H' : Hp} (h : Cx31 st l p xs ws vs H0 H) (s : StOk H' st) (b : But st H H') : Cx31 st l p xs ws vs H0 H' :=
 ⟨b _ _ h.pst h.hp, RDs.ku (Dg b h.s) _ _ (Bo Wr.d Ga _) h.rd, b _ _ h.lst h.hl, s, h.b.trans b, h.pst, h.lst⟩
theorem Cx31.same {st l p : Addr} {xs : List Str} {ws : List Wr} {vs : List V} {H0 H H' : Hp} (h : Cx31 st l p xs ws vs H0 H) (s : Same H H') : Cx31 st l p xs ws vs H0 H' :=
 ⟨s _ _ h.hp, RDs.same s _ _ h.rd, s _ _ h.hl, h.s.same s, h.b.trans (Bt s), h.pst, h.lst⟩
theorem gl {H : Hp} {q : Addr} {a b c : Int} {d lo hi : Int} (h : H q = some (.lst [.int a, .int b, .int c])) (d0 : 0 <= d) (d1 : d < 3) (ha : lo <= a /\ a <= hi) (hb : lo <= b /\ b <= hi) (hc : lo <= c /\ c <= hi) : ∃ n, lo <= n /\ n <= hi /\ Rc H (.ref q) (.int d) (.int n) := by
 have : d = 0 \/ d = 1 \/ d = 2 := by omega
 rcases this with rfl | rfl | rfl
 ·exact ⟨a, ha.1, ha.2, Ic (j := 0) h rfl⟩
 ·exact ⟨b, hb.1, hb.2, Ic (j := 1) h rfl⟩
 ·exact ⟨c, hc.1, hc.2, Ic (j := 2) h rfl⟩
theorem Ky {H : Hp} {q : Addr} {a b : Int} {c : Bool} (h : H q = some (.lst [.int a, .int b])) : Rc H (.ref q) (.int (if c = true then 1 else 0)) (.int (if c = true then b else a)) := by
 cases c with
 | true => exact Ic (j := 1) h rfl
 | false => exact Ic (j := 0) h rfl
theorem P3 {H : Hp} : ∀ {ps : List (Wr × V)}, (∀ q ∈ ps, RD H q.1.d q.2) -> RDs H ((ps.map (·.1)).map Wr.d) (ps.map (·.2))
 | [], _ => RDs.nil
 | q :: r, h => RDs.cons (h q Zz2) (P3 fun z hz => h z (Zz6 _ hz))
theorem S3 {H : Hp} : ∀ {ws : List Wr} {vs : List V}, RDs H (ws.map Wr.d) vs -> ∃ ps : List (Wr × V), ps.map (·.1) = ws /\ ps.map (·.2) = vs /\ ∀ q ∈ ps, RD H q.1.d q.2
 | [], vs, h => ⟨[], rfl, (RDs.nil_of h).symm, fun _ h => nomatch h⟩
 | w :: ws, vs, h => by
  obtain ⟨x, r, rfl, h1, h2⟩ := RDs.cons_of h
  obtain ⟨ps, e1, e2, h3⟩ := S3 h2
  refine ⟨(w, x) :: ps, by rw [Zz3, e1], by rw [Zz3, e2], fun q hq => ?_⟩
  rcases Zzi.mp hq with z | z
  ·rw [z]; exact h1
  ·exact h3 q z
def gd (st l p : Addr) (top slow : V) (xs : List Str) (H : Hp) (i : Nat) (σ : St) (H' : Hp) : Prop := ∃ (ws : List Wr) (vs : List V) (o5 o6 o7 o8 o9 o10 o11 o12 o13 o14 : Option V), σ = [some (.ref st), some top, some (.ref l), some (.ref p), some slow, o5, o6, o7, o8, o9, o10, o11, o12, o13, o14] /\ ws.length = i /\ (∀ j w, ws[j]? = some w -> az xs j w) /\ Cx31 st l p xs ws vs H H'
def gi (st l p : Addr) (xs : List Str) (ws : List Wr) (vs : List V) (H0 : Hp) (j : Nat) (acc : List V) (H' : Hp) : Prop := ∃ cs : List (Int × Int), RDs H' (cs.map Ou) acc /\ cs.length = j /\ (∀ c ∈ cs, (0 <= c.1 /\ c.1 < 9) /\ 0 <= c.2 /\ c.2 < 10 ^ 41) /\ Cx31 st l p xs ws vs H0 H'
def g8 (st l p wl : Addr) (top slow : V) (xs : List Str) (ws : List Wr) (vs : List V) (H0 : Hp) (i : Nat) (σ : St) (H' : Hp) : Prop := ∃ (us : List Wt) (uv : List V) (o5 o6 o7 o8 o9 o10 o11 o12 o14 : Option V), σ = [some (.ref st), some top, some (.ref l), some (.ref p), some slow, o5, o6, o7, o8, o9, o10, o11, o12, some (.ref wl), o14] /\ us.length = i /\ (∀ u ∈ us, u.1 ∈ xs /\ (0 <= u.2.1 /\ u.2.1 < 9) /\ 0 <= u.2.2 /\ u.2.2 < 10 ^ 41) /\ H' wl = some (.lst uv) /\ RDs H' (us.map Gy) uv /\ Cx31 st l p xs ws vs H0 H'
theorem sc_law_shop : Al ["_law_state", "_law_top", "_law_names_here", "_law_wares", "_law_slow", "_law_k", "_law_name", "_law_lag", "_law_gives", "_law_floor", "_law_stock", "_law_many", "_law_coming", "_law_wants", "_law_shift"] ["_law_state", "_law_top"] (Aa Eh) := by constructor <;> first | rfl | decide +kernel
theorem S8 (F : Fun K "_law_shop" "_law_shop" Eh f fd) (T : Txt mg) (Zud : Has P w K mg base "_law_names" 2 ["_law_state", "_law_many"] sp_law_names) (Zvl : Has P w K mg base "_law_next" 1 ["_law_state", "_law_many"] sp_law_next) (Zv5 : Has P w K mg base "_law_amount" 2 ["_law_state"] sp_law_amount) (Zuc : Has P w K mg base "_law_parts" 2 ["_law_state", "_law_names_here"] sp_law_parts) : FnOk P w K mg base CX0 3 f fd ["_law_state", "_law_top"] sp_law_shop := by
 refine F.ok sc_law_shop (fun vs H Q E h => ?_) (fun cdv A outer s H vs Q E hr h => ?_)
 ·obtain ⟨st, top, rfl, _⟩ := h
  rfl
 ·obtain ⟨st, top, rfl, hs, t0, t1, k⟩ := h
  have hu := B8 hr
  refine ⟨_, (A2 (Af (i := 2) sc_law_shop.nd rfl (Zzw rfl) (Ab Zud hr.z rfl (A4 (pv 0) (A4 (Av Bw A6 (Ab Zvl hr.z rfl (A4 (pv 0) (A4 (pv 1) A0)))) A0))))
 (A2 (Af (i := 3) sc_law_shop.nd rfl (Zzw rfl) (Bk A0))
 (A2 (Af (i := 4) sc_law_shop.nd rfl (Zzw rfl) (Ab Zvl hr.z rfl (A4 (pv 0) (A4 A6 A0))))
 (A2 (As PassesOwn.never rfl (Mr rfl T.Zv4 (A4 (pv 2) A0)) (C1 (n := 2) rfl (Ag (Ac (i := 5) sc_law_shop.nd rfl (Zzw rfl)) (Ag (Ac (i := 6) sc_law_shop.nd rfl (Zzw rfl)) Bh)))
 (A2 (Af (i := 7) sc_law_shop.nd rfl (Zzw rfl) (Ab Zvl hr.z rfl (A4 (pv 0) (A4 (A5 hu (Bk (A4 A6 (A4 A6 A0))) (Cy Jr rfl T.Zu0 Od (A4 (Ks (Bl hu) (pv 5) (pv 4) (Ap _)) A0)) (fun _ _ => rfl)) A0))))
 (A2 (Af (i := 8) sc_law_shop.nd rfl (Zzw rfl) (Av Bw A6 (Ab Zvl hr.z rfl (A4 (pv 0) (A4 A6 A0)))))
 (A2 (Af (i := 9) sc_law_shop.nd rfl (Zzw rfl) (A5 hu (Bk (A4 A6 (A4 A6 (A4 (Ab Zvl hr.z rfl (A4 (pv 0) (A4 A6 A0))) A0)))) (Ab Zvl hr.z rfl (A4 (pv 0) (A4 A6 A0))) (fun _ _ => rfl)))
 (A2 (Af (i := 10) sc_law_shop.nd rfl (Zzw rfl) (A5 hu (Bk (A4 (pv 9) (A4 (Av Bw (pv 9) (Ab Zv5 hr.z rfl (A4 (pv 0) A0))) (A4 (Ab Zv5 hr.z rfl (A4 (pv 0) A0)) A0)))) (Ab Zvl hr.z rfl (A4 (pv 0) (A4 A6 A0))) (fun _ _ => rfl)))
 (A2 (Af (i := 11) sc_law_shop.nd rfl (Zzw rfl) (Ab Zvl hr.z rfl (A4 (pv 0) (A4 (A5 hu (Bk (A4 A6 (A4 A6 A0))) (Cy Jr rfl T.Zu0 Od (A4 (Ks (Bl hu) (Ab Zvl hr.z rfl (A4 (pv 0) (A4 A6 A0))) A6 (Ap _)) A0)) (fun _ _ => rfl)) A0))))
 (A2 (Af (i := 12) sc_law_shop.nd rfl (Zzw rfl) (Cy Ew rfl T.Zuz Ex (A4 (Df (own := ["_law_place"]) (cap := [0]) rfl (E8 rfl) (Bm (by decide)) (Bs rfl T.Zvb (A4 (pv 11) A0))
 (fun _ _ _ _ _ _ => ⟨(Ac (i := 0) (of_decide_eq_true rfl) rfl (Zzw rfl) (.inr rfl)), E3, (Aq (A4 (Ab Zvl hr.z rfl (A4 (pv 1) (A4 A6 A0))) (A4 (Ab Zv5 hr.z rfl (A4 (pv 1) A0)) A0)))⟩)) A0)))
 (A7 (B9 (D5 Zzb Zz8 Zz7 B4 (pv 3) (A4 (Aq (A4 (pv 6) (A4 (pv 7) (A4 (pv 8) (A4 (pv 9) (A4 (pv 10) (A4 (pv 12) (A4 (Ab Zuc hr.z rfl (A4 (pv 0) (A4 (Hk Km (pv 2) (Hy (Av Bw (pv 5) A6)) Kr) A0))) A0)))))))) A0)))))))))))
 (A2 (Af (i := 13) sc_law_shop.nd rfl (Zzw rfl) (Bk A0))
 (A2 (As PassesOwn.never rfl (Bs rfl T.Zvb (A4 (Ab Zvl hr.z rfl (A4 (pv 0) (A4 (A5 hu (Bk (A4 A6 (A4 A6 A0))) (Cy Jr rfl T.Zu0 Od (A4 (Ks (Bl hu) (Ab Zvl hr.z rfl (A4 (pv 0) (A4 A6 A0))) A6 (Ap _)) A0)) (fun _ _ => rfl)) A0))) A0)) (Ac (i := 5) sc_law_shop.nd rfl (Zzw rfl))
 (A7 (B9 (D5 Zzb Zz8 Zz7 B4 (pv 13) (A4 (Aq (A4 (A5 hu (pv 2) (Ab Zvl hr.z rfl (A4 (pv 0) (A4 (An B7 rfl T.Zvc D2 (A4 (pv 2) A0)) A0))) (fun _ _ => rfl)) (A4 (Ab Zvl hr.z rfl (A4 (pv 0) (A4 A6 A0))) (A4 (Ab Zv5 hr.z rfl (A4 (pv 0) A0)) A0)))) A0)))))
 (A2 (Af (i := 14) sc_law_shop.nd rfl (Zzw rfl) (Ab Zvl hr.z rfl (A4 (pv 0) (A4 (An B7 rfl T.Zvc D2 (A4 (pv 2) A0)) A0))))
 (A7 (Am (Aq (A4 (Cy Ew rfl T.Zuz Ex (A4 (Av Qc (Hk Km (pv 3) (Hy (pv 14)) Kr) (Hk Km (pv 3) Kr (Hy (pv 14)))) A0)) (A4 (Cy Ew rfl T.Zuz Ex (A4 (pv 13) A0)) A0)))))))))))), ?_⟩
  walk_at "rd"
  refine ⟨st, top, rfl, hs, t0, Zy7 (b := 8) t1 (by decide +kernel), fun d H1 d0 d1 s1 b1 => ⟨d, rfl, ?_⟩⟩
  refine ⟨st, 1 + d, rfl, s1, by omega, by omega, fun l xs H2 hxl hxn hl fl s2 b2 => ?_⟩
  walk_at "rd"
  have lst' : l ≠ st := fun z => by
   obtain ⟨ns1, _, e1⟩ := s1
   rw [z, e1] at fl
   cases fl
  refine ⟨by decide, fun p hp => ?_⟩
  have pst : p ≠ st := Zzc (s2.ne hp)
  have b02 := b1.trans b2
  have fp : H p = none := b02.none pst hp
  have u2 := A3 (o := .lst []) hp
  refine ⟨st, 9, rfl, s2.upd (s2.ne hp), by decide, by decide +kernel, fun slow H3 _ _ s3 b3 => ?_⟩
  have c3 : Cx31 st l p xs [] [] H H3 := ⟨b3 _ _ pst A1, RDs.nil, b3 _ _ lst' (u2 _ _ hl), s3, (b02.new hp).trans b3, pst, lst'⟩
  refine ⟨_, c3.hl, ?_⟩
  refine Mb (Vw l _) (gd st l p (.int top) (.int slow) xs H) ⟨[], [], _, _, _, _, _, _, _, _, _, _, rfl, rfl, (fun j w e => by simp at e), c3⟩ (fun i σ H' _ h => let ⟨_, _, _, _, _, _, _, _, _, _, _, _, _, _, _, c⟩ := h; c.hl) (fun i us t σ H4 hi hy h ht => ?_) (fun σ H4 h => ?_)
  ·obtain ⟨ws, vs, o5, o6, o7, o8, o9, o10, o11, o12, o13, o14, rfl, hwl, hk, c4⟩ := h
   obtain ⟨y, ey, rfl⟩ := hy
   rw [Zzz] at hi
   rw [Zzx] at ey
   cases en : xs[i]? with
   | none => rw [en] at ey; cases ey
   | some nm =>
   rw [en] at ey
   have ey : V.str nm = y := Zzo ey
   subst ey
   have c5 := c4.same (A3 (o := .tup [.int i, .str nm]) ht)
   refine gT2 ?_
   generalize upd H4 t (.tup [.int i, .str nm]) = H5 at c5 ⊢
   walk_at "rd"
   refine ⟨by decide, fun q1 hq1 => ⟨rfl, ?_⟩⟩
   have c6 := c5.same (A3 (o := .lst [V.int 4, V.int 31]) hq1)
   refine ⟨_, Ky A1, ?_⟩
   generalize upd H5 q1 (.lst [V.int 4, V.int 31]) = H6 at c6 ⊢
   refine ⟨st, _, rfl, c6.s, by split <;> decide, by split <;> decide +kernel, fun lag H7 g0 g1 s7 b7 => ?_⟩
   have c7 := c6.draw s7 b7
   have lag30 : 0 <= lag /\ lag <= 30 := ⟨g0, by split at g1 <;> omega⟩
   refine ⟨st, 5, rfl, c7.s, by decide, by decide +kernel, fun ga H8 ga0 ga1 s8 b8 => ⟨ga, rfl, ?_⟩⟩
   have c8 := c7.draw s8 b8
   refine ⟨st, 7, rfl, c8.s, by decide, by decide +kernel, fun fl H9 fl0 fl1 s9 b9 => ⟨by decide, fun q2 hq2 => ?_⟩⟩
   have c9 := (c8.draw s9 b9).same (A3 (o := .lst [V.int 0, V.int 0, V.int fl]) hq2)
   have x2 := A1 (H := H9) (a := q2) (o := .lst [V.int 0, V.int 0, V.int fl])
   have q2st : q2 ≠ st := Zzc ((c8.draw s9 b9).s.ne hq2)
   generalize upd H9 q2 (.lst [V.int 0, V.int 0, V.int fl]) = H10 at c9 x2 ⊢
   refine ⟨st, 3, rfl, c9.s, by decide, by decide +kernel, fun e H11 e0 e1 s11 b11 => ?_⟩
   have c11 := c9.draw s11 b11
   obtain ⟨flo, f0, f1, fi⟩ := gl (lo := 0) (hi := 6) (b11 _ _ q2st x2) e0 e1 ⟨by decide, by decide⟩ ⟨by decide, by decide⟩ ⟨fl0, by omega⟩
   refine ⟨_, fi, st, rfl, c11.s, fun a1 H12 a10 a11 s12 b12 => ⟨flo, rfl, a1, rfl, ?_⟩⟩
   have c12 := c11.draw s12 b12
   refine ⟨st, rfl, c12.s, fun a2 H13 a20 a21 s13 b13 => ⟨by decide, fun q3 hq3 => ?_⟩⟩
   have c13 := (c12.draw s13 b13).same (A3 (o := .lst [V.int flo, V.int (flo + a1), V.int a2]) hq3)
   have x3 := A1 (H := H13) (a := q3) (o := .lst [V.int flo, V.int (flo + a1), V.int a2])
   have q3st : q3 ≠ st := Zzc ((c12.draw s13 b13).s.ne hq3)
   generalize upd H13 q3 (.lst [V.int flo, V.int (flo + a1), V.int a2]) = H14 at c13 x3 ⊢
   refine ⟨st, 3, rfl, c13.s, by decide, by decide +kernel, fun e2 H15 e20 e21 s15 b15 => ?_⟩
   have c15 := c13.draw s15 b15
   obtain ⟨sto, st0, st1, si⟩ := gl (lo := 0) (hi := 10 ^ 42) (b15 _ _ q3st x3) e20 e21 ⟨by omega, by omega⟩ ⟨by omega, by omega⟩ ⟨by omega, by omega⟩
   refine ⟨_, si, by decide, fun q4 hq4 => ?_⟩
   have c16 := c15.same (A3 (o := .lst [V.int 3, V.int 6]) hq4)
   have x4 := A1 (H := H15) (a := q4) (o := .lst [V.int 3, V.int 6])
   have q4st : q4 ≠ st := Zzc (c15.s.ne hq4)
   generalize upd H15 q4 (.lst [V.int 3, V.int 6]) = H16 at c16 x4 ⊢
   refine ⟨st, 6, rfl, c16.s, by decide, by decide +kernel, fun e3 H17 _ _ s17 b17 => ⟨rfl, _, Ky (b17 _ _ q4st x4), ?_⟩⟩
   have c17 := c16.draw s17 b17
   refine ⟨st, _, rfl, c17.s, by split <;> decide, by split <;> decide +kernel, fun many H18 m0 m1 s18 b18 => ?_⟩
   have c18 := c17.draw s18 b18
   have m5 : 0 <= many /\ many <= 5 := ⟨m0, by split at m1 <;> omega⟩
   refine ⟨many, rfl, by omega, by omega, ?_⟩
   refine Gx (Iy 0 _) (B3 (by omega)) (gi st l p xs ws vs H) ⟨[], RDs.nil, rfl, (fun c hc => nomatch hc), c18⟩ (fun _ _ _ _ _ => trivial) (fun j acc H' h => by obtain ⟨cs, r, e, _⟩ := h; rw [Ao r]; exact Zx0 e) (fun j y acc H19 hj hy h => ?_) (fun acc H19 h r hr19 => ?_)
   ·obtain ⟨cs, rc, hcl, hcs, c19⟩ := h
    walk_at "rd"
    refine ⟨st, 9, rfl, c19.s, by decide, by decide +kernel, fun da H20 da0 da1 s20 b20 => ?_⟩
    have c20 := c19.draw s20 b20
    refine ⟨st, rfl, c20.s, fun am H21 am0 am1 s21 b21 => ⟨by decide, fun t2 ht2 => ?_⟩⟩
    have c21 := c20.draw s21 b21
    have u := A3 (o := .tup [V.int da, V.int am]) ht2
    have kk := ((Dg b20 c19.s).trans (Dg b21 c20.s)).trans u.ku
    refine ⟨cs ++ [(da, am)], ?_, by rw [Zzm, Zyl, hcl], fun c hc => ?_, c21.same u⟩
    ·rw [Zzf]
     exact RDs.app (RDs.ku kk _ _ (Bo Ou U9 _) rc) (RDs.one (RD.tup_mk (xs := [V.int da, V.int am]) A1 (RDs.cons RD.int_mk (RDs.one RD.int_mk))))
    ·rcases Zyu.mp hc with z | z
     ·exact hcs c z
     ·rw [Zz9.mp z]
      exact ⟨⟨da0, da1⟩, am0, am1⟩
   ·obtain ⟨cs, rc, hcl, hcs, c19⟩ := h
    refine ⟨r, rfl, acc, .inl ⟨A1, fun cu hcu => ?_⟩⟩
    have u := (A3 (o := .lst acc) hr19).trans (A3 (o := .tup acc) hcu)
    have c20 := c19.same u
    have rc20 := RDs.same u _ _ rc
    have hcu20 := A1 (H := upd H19 r (.lst acc)) (a := cu) (o := .tup acc)
    generalize upd (upd H19 r (.lst acc)) cu (.tup acc) = H20 at c20 rc20 hcu20 ⊢
    refine ⟨Fs c20.hp, _, c20.hl, fun z hz => ?_⟩
    rw [Jq (by omega), show ((i : Int) + 1).toNat = i + 1 by omega, <- Zvm]
    have u2 := A3 (o := .lst ((xs.drop (i + 1)).map V.str)) hz
    have c21 := c20.same u2
    have zst : z ≠ st := Zzc (c20.s.ne hz)
    have hx12 : xs.length <= 12 := by omega
    refine ⟨st, z, xs.drop (i + 1), rfl, c21.s, A1, zst, by rw [Zxq]; omega, (List.drop_sublist _ _).nodup (Si hx12 hxn), fun pv ps H22 rpv p6 po s22 b22 => ⟨by decide, fun wt hwt => ?_⟩⟩
    have c22 := c21.draw s22 b22
    have u3 := A3 (o := .tup [V.str nm, V.int lag, V.int (1 + ga), V.int flo, V.int sto, V.ref cu, pv]) hwt
    have c23 := c22.same u3
    have rpv23 := RD.same u3 _ _ rpv
    have k2023 : KeepU H20 (upd H22 wt (.tup [V.str nm, V.int lag, V.int (1 + ga), V.int flo, V.int sto, V.ref cu, pv])) := (u2.ku.trans (Dg b22 c21.s)).trans u3.ku
    have rc23 := RDs.ku k2023 _ _ (Bo Ou U9 _) rc20
    have hcu23 := k2023 _ _ hcu20
    have x23 := A1 (H := H22) (a := wt) (o := .tup [V.str nm, V.int lag, V.int (1 + ga), V.int flo, V.int sto, V.ref cu, pv])
    generalize upd H22 wt (.tup [V.str nm, V.int lag, V.int (1 + ga), V.int flo, V.int sto, V.ref cu, pv]) = H23 at c23 rpv23 rc23 hcu23 x23 ⊢
    have hvl := Ao c23.rd
    have kk : KeepU H23 (upd H23 p (.lst (vs ++ [.ref wt]))) := Fb c23.hp
    have lp : l ≠ p := fun z => by
     have h1 := c23.hl
     have h2 := c3.hp
     have h3 := c3.hl
     rw [z] at h3
     rw [h3] at h2
     have : xs.map V.str = [] := by injection h2 with h2; injection h2
     have hl0 := congrArg Zx7 this
     rw [Zzz, Zxe] at hl0
     omega
    refine ⟨vs, c23.hp, Zz4 (show vs.length < 1000 by omega) (B3 (Zzs _)), ws ++ [⟨nm, lag, 1 + ga, flo, sto, cs, ps⟩], _, _, _, _, _, _, _, _, _, _, _, rfl, by rw [Zzm, Zyl, hwl], fun j w' hw' => ?_, ⟨A1, ?_, by rw [A8 lp]; exact c23.hl, c23.s.upd (Zzc c23.pst), c23.b.upd fp, c23.pst, c23.lst⟩⟩
    ·by_cases hj : j < ws.length
     ·rw [Zxy hj] at hw'
      exact hk j w' hw'
     ·rw [Zyb (by omega)] at hw'
      have hj0 : j - ws.length = 0 := by
       cases e : j - ws.length with
       | zero => rfl
       | succ n => rw [e] at hw'; simp at hw'
      rw [hj0] at hw'
      have ew : (⟨nm, lag, 1 + ga, flo, sto, cs, ps⟩ : Wr) = w' := by simpa using hw'
      have ej : j = i := by omega
      subst ew ej
      exact ⟨en, ⟨lag30, ⟨show 1 <= 1 + ga by omega, show 1 + ga <= 100 by omega⟩, ⟨f0, show flo <= 100 by omega⟩, ⟨st0, st1⟩, show ps.length <= 12 by omega, fun p hp => ⟨(po.sub p hp).2.1, show p.2 <= 100 by have := (po.sub p hp).2.2; omega⟩, po.nd⟩, fun p hp => (po.sub p hp).1, ⟨show cs.length <= 12 by omega, hcs⟩⟩
    ·rw [Zzf]
     refine RDs.app (RDs.ku kk _ _ (Bo Wr.d Ga _) c23.rd) (RDs.one (RD.ku kk _ _ (Ga _) ?_))
     unfold Wr.d
     exact RD.tup_mk x23 (RDs.cons RD.str_mk (RDs.cons RD.int_mk (RDs.cons RD.int_mk (RDs.cons RD.int_mk (RDs.cons RD.int_mk (RDs.cons (RD.tup_mk hcu23 rc23) (RDs.one rpv23)))))))
  ·obtain ⟨ws, vs, o5, o6, o7, o8, o9, o10, o11, o12, o13, o14, rfl, hwl, hk, c4⟩ := h
   rw [Zzz] at hwl
   walk_at "rd"
   refine ⟨by decide, fun wl hw4 => ⟨by decide, fun q5 hq5 => ?_⟩⟩
   have u5 := (A3 (o := .lst []) hw4).trans (A3 (o := .lst [V.int 6, V.int 14]) hq5)
   have c5 := c4.same u5
   have hw5 := A3 (o := .lst [V.int 6, V.int 14]) hq5 _ _ (A1 (H := H4) (a := wl) (o := .lst []))
   have x5 := A1 (H := upd H4 wl (.lst [])) (a := q5) (o := .lst [V.int 6, V.int 14])
   have wst : wl ≠ st := Zzc (c4.s.ne hw4)
   have fw : H wl = none := c4.b.none wst hw4
   have wp : wl ≠ p := fun z => by have := c4.hp; rw [<- z, hw4] at this; cases this
   have wl' : wl ≠ l := fun z => by have := c4.hl; rw [<- z, hw4] at this; cases this
   have q5st : q5 ≠ st := fun z => by obtain ⟨_, _, e⟩ := c4.s.same (A3 (o := .lst []) hw4); rw [<- z, hq5] at e; cases e
   generalize upd (upd H4 wl (.lst [])) q5 (.lst [V.int 6, V.int 14]) = H5 at c5 hw5 x5 ⊢
   refine ⟨st, 6, rfl, c5.s, by decide, by decide +kernel, fun e H6 _ _ s6 b6 => ⟨rfl, _, Ky (b6 _ _ q5st x5), ?_⟩⟩
   have c6 := c5.draw s6 b6
   refine ⟨st, _, rfl, c6.s, by split <;> decide, by split <;> decide +kernel, fun m H7 m0 m1 s7 b7 => ?_⟩
   have c7 := c6.draw s7 b7
   have m13 : 0 <= m /\ m <= 13 := ⟨m0, by split at m1 <;> omega⟩
   refine ⟨m, rfl, by omega, by omega, ?_⟩
   have hw7 := b7 _ _ wst (b6 _ _ wst hw5)
   refine Bd (Iy 0 _) (g8 st l p wl (.int top) (.int slow) xs ws vs H) ⟨[], [], _, _, _, _, _, _, _, _, _, rfl, rfl, (fun u hu => nomatch hu), hw7, RDs.nil, c7⟩ (fun _ _ _ _ _ => trivial) (fun i x σ H8 hi hx h => ?_) (fun σ H8 h => ?_)
   ·obtain ⟨us, uv, o5, o6, o7, o8, o9, o10, o11, o12, o14, rfl, hul, hus, hw8, ru, c8⟩ := h
    walk_at "rd"
    have e1 : (xs.map V.str).length = xs.length := Zzz ..
    refine ⟨Fs hw8, _, .inl c8.hl, st, xs.length, by rw [e1], c8.s, by omega, Zy7 (b := 12) (by omega) (by decide +kernel), fun ni H9 n0 n1 s9 b9 => ?_⟩
    have c9 := c8.draw s9 b9
    obtain ⟨nm, hnm⟩ : ∃ nm, xs[ni.toNat]? = some nm := ⟨_, Zzu (by omega)⟩
    refine ⟨.str nm, Fc (.inl c9.hl) n0 (by rw [Zzx, hnm]; rfl), st, 9, rfl, c9.s, by decide, by decide +kernel, fun da H10 da0 da1 s10 b10 => ?_⟩
    have c10 := c9.draw s10 b10
    refine ⟨st, rfl, c10.s, fun am H11 am0 am1 s11 b11 => ⟨by decide, fun t ht => ?_⟩⟩
    have c11 := c10.draw s11 b11
    have b811 := (b9.trans b10).trans b11
    have u := A3 (o := .tup [V.str nm, V.int da, V.int am]) ht
    have c12 := c11.same u
    have hw12 := u _ _ (b811 _ _ wst hw8)
    have ru12 := RDs.ku ((Dg b811 c8.s).trans u.ku) _ _ (Bo Gy Ms _) ru
    have x12 := A1 (H := H11) (a := t) (o := .tup [V.str nm, V.int da, V.int am])
    generalize upd H11 t (.tup [V.str nm, V.int da, V.int am]) = H12 at c12 hw12 ru12 x12 ⊢
    have hvl := Ao ru12
    have hi : i < m.toNat := hi
    have kk : KeepU H12 (upd H12 wl (.lst (uv ++ [.ref t]))) := Fb hw12
    refine ⟨uv, hw12, Zz4 (show uv.length < 1000 by omega) (B3 (Zzs _)), us ++ [(nm, da, am)], _, _, _, _, _, _, _, _, _, _, rfl, by rw [Zzm, Zyl, hul], fun y hy => ?_, A1, ?_, ⟨by rw [A8 (Zzc wp)]; exact c12.hp, RDs.ku kk _ _ (Bo Wr.d Ga _) c12.rd, by rw [A8 (Zzc wl')]; exact c12.hl, c12.s.upd (Zzc wst), c12.b.upd fw, c12.pst, c12.lst⟩⟩
    ·rcases Zyu.mp hy with z | z
     ·exact hus y z
     ·rw [Zz9.mp z]
      exact ⟨Zzt hnm, ⟨da0, da1⟩, am0, am1⟩
    ·rw [Zzf]
     exact RDs.app (RDs.ku kk _ _ (Bo Gy Ms _) ru12) (RDs.one (RD.tup_mk (xs := [V.str nm, V.int da, V.int am]) (kk _ _ x12) (RDs.cons RD.str_mk (RDs.cons RD.int_mk (RDs.one RD.int_mk)))))
   ·obtain ⟨us, uv, o5, o6, o7, o8, o9, o10, o11, o12, o14, rfl, hul, hus, hw8, ru, c8⟩ := h
    walk_at "rd"
    have e1 : (xs.map V.str).length = xs.length := Zzz ..
    refine ⟨_, .inl c8.hl, st, xs.length, by rw [e1], c8.s, by omega, Zy7 (b := 12) (by omega) (by decide +kernel), fun sh H9 h0 h1 s9 b9 => ⟨sh, rfl, ?_⟩⟩
    have c9 := c8.draw s9 b9
    have hw9 := b9 _ _ wst hw8
    have ru9 := RDs.ku (Dg b9 c8.s) _ _ (Bo Gy Ms _) ru
    refine ⟨vs, c9.hp, fun r1 hr1 => ⟨sh, rfl, vs, A3 hr1 _ _ c9.hp, fun r2 hr2 => ?_⟩⟩
    rw [Jq h0, Vz h0] at *
    have v1 := A3 (o := .lst (vs.drop sh.toNat)) hr1
    have v2 := A3 (o := .lst (vs.take sh.toNat)) hr2
    have y1 := v2 _ _ (A1 (H := H9) (a := r1) (o := .lst (vs.drop sh.toNat)))
    have y2 := A1 (H := upd H9 r1 (.lst (vs.drop sh.toNat))) (a := r2) (o := .lst (vs.take sh.toNat))
    have s11 := v1.trans v2
    generalize upd (upd H9 r1 (.lst (vs.drop sh.toNat))) r2 (.lst (vs.take sh.toNat)) = H11 at y1 y2 s11 ⊢
    have hvl := Ao c9.rd
    refine ⟨_, y1, _, y2, Zyw (m := 1000) (by rw [Zxq, Zyq]; omega) (B3 (Zzs _)), fun r3 hr3 => ⟨_, .inl ⟨A1, fun r4 hr4 => ?_⟩⟩⟩
    have v34 := (A3 (o := .lst (vs.drop sh.toNat ++ vs.take sh.toNat)) hr3).trans (A3 (o := .tup (vs.drop sh.toNat ++ vs.take sh.toNat)) hr4)
    have y4 := A1 (H := upd H11 r3 (.lst (vs.drop sh.toNat ++ vs.take sh.toNat))) (a := r4) (o := .tup (vs.drop sh.toNat ++ vs.take sh.toNat))
    have s13 := s11.trans v34
    generalize upd (upd H11 r3 (.lst (vs.drop sh.toNat ++ vs.take sh.toNat))) r4 (.tup (vs.drop sh.toNat ++ vs.take sh.toNat)) = H13 at y4 s13 ⊢
    refine ⟨uv, .inl ⟨s13 _ _ hw9, fun r5 hr5 => ⟨by decide, fun r6 hr6 => ?_⟩⟩⟩
    have v56 := (A3 (o := .tup uv) hr5).trans (A3 (o := .tup [V.ref r4, V.ref r5]) hr6)
    have s15 := s13.trans v56
    have c15 := c9.same s15
    obtain ⟨ps, e3, e4, h3⟩ := S3 c15.rd
    have pm : (ps.drop sh.toNat ++ ps.take sh.toNat).Perm ps := List.perm_append_comm.trans (by rw [Zw5])
    refine k (.ref r6) ⟨(ps.drop sh.toNat ++ ps.take sh.toNat).map (·.1), us⟩ _ ?_ (ja hxn ⟨by omega, by omega⟩ hwl hk (by rw [<- e3]; exact pm.map _) ⟨by omega, hus⟩) c15.s c15.b
    unfold Sh.d
    refine RD.tup_mk A1 (RDs.cons (RD.tup_mk (v56 _ _ y4) ?_) (RDs.one (RD.tup_mk (A3 hr6 _ _ A1) (RDs.same s15 _ _ ru9))))
    rw [<- e4, <- Zvm, <- Zw7, <- Zzf]
    exact P3 fun q hq => h3 q (pm.mem_iff.mp hq)
end
set_option maxHeartbeats 4000000
section
variable {P : Program} {w : World} {K : Zzv} {mg : Str -> Option Value} {base : Heap} {f : Addr} {fd : FuncData} {Pt : Addr}
def mn (i j : Int) : Int := if j < i then j else i
def mx (i j : Int) : Int := if j > i then j else i
def Ae {α : Type} (q : List (α × Int)) (i : Nat) : Int := ((q.take i).map (·.2)).sum
theorem Dx {α : Type} {q : List (α × Int)} {i : Nat} {x : α × Int} (h : q[i]? = some x) : Ae q (i + 1) = Ae q i + x.2 := by
 unfold Ae
 rw [Zz5, h]
 simp
theorem Hn {α : Type} {q : List (α × Int)} (h : ∀ x ∈ q, 0 < x.2) {i : Nat} : ∀ {j : Nat}, i <= j -> Ae q i <= Ae q j
 | 0, hij => by rw [Nat.le_zero.mp hij]; exact Zyx _
 | j + 1, hij => by
  by_cases e : i = j + 1
  ·rw [e]; exact Zyx _
  ·have h1 := Hn h (i := i) (j := j) (by omega)
   cases eq : q[j]? with
   | none =>
    have h2 : Ae q (j + 1) = Ae q j := by unfold Ae; rw [Zz5, eq]; simp
    omega
   | some x =>
    have h2 := Dx eq
    have h3 := h x (Zzt eq)
    omega
def Gw {α β : Type} (s : α) (lo hi b e : Int) (n : β) : List (α × β × Int) := if 0 < mn hi e - mx lo b then [(s, n, mn hi e - mx lo b)] else []
def Dl {α β : Type} (f : Nat -> α -> List β) (xs : List α) (i : Nat) : List β := (Zyy i).flatMap fun k => match xs[k]? with
 | some x => f k x
 | none => []
theorem Bj {α β : Type} {f : Nat -> α -> List β} {xs : List α} {i : Nat} {x : α} (h : xs[i]? = some x) : Dl f xs (i + 1) = Dl f xs i ++ f i x := by
 unfold Dl
 rw [Zyd, Zyc, Zyh, h]
theorem Fu {α β : Type} {f : Nat -> α -> List β} {xs : List α} {b : Nat} (h : ∀ k x, (f k x).length <= b) : ∀ i, (Dl f xs i).length <= i * b
 | 0 => Zyr _
 | i + 1 => by
  have ih := Fu (xs := xs) h i
  unfold Dl at ih ⊢
  rw [Zyd, Zyc, Zyh, Zzm, Nat.succ_mul]
  cases e : xs[i]? with
  | none => show _ + 0 <= _; omega
  | some x =>
   have := h i x
   show _ + (f i x).length <= _
   omega
theorem Rx {α β γ : Type} {f : Nat -> α -> List β} {xs : List α} (g : β -> γ) (i : Nat) : (Dl f xs i).map g = Dl (fun k x => (f k x).map g) xs i := by
 unfold Dl
 rw [List.map_flatMap]
 congr 1
 funext k
 cases xs[k]? <;> rfl
theorem G8 {α β : Type} {f : Nat -> α -> List β} {xs : List α} (g : β -> Bool) (i : Nat) : (Dl f xs i).filter g = Dl (fun k x => (f k x).filter g) xs i := by
 unfold Dl
 rw [List.filter_flatMap]
 congr 1
 funext k
 cases xs[k]? <;> rfl
theorem Hz {α β : Type} {f g : Nat -> α -> List β} {xs : List α} {i : Nat} (h : ∀ k x, k < i -> xs[k]? = some x -> f k x = g k x) : Dl f xs i = Dl g xs i := by
 induction i with
 | zero => rfl
 | succ i ih =>
  have ih := ih fun k x hk => h k x (by omega)
  cases e : xs[i]? with
  | none =>
   unfold Dl at ih ⊢
   rw [Zyd, Zyc, Zyc, ih, Zyh, Zyh, e]
  | some x => rw [Bj e, Bj e, ih, h i x (by omega) e]
theorem Eu {α β : Type} {f : Nat -> α -> List β} {xs : List α} {i : Nat} {C : β -> Prop} (h : ∀ k x, xs[k]? = some x -> ∀ y ∈ f k x, C y) : ∀ y ∈ Dl f xs i, C y := fun y hy => by
 unfold Dl at hy
 obtain ⟨k, _, hy⟩ := Zwm.mp hy
 cases e : xs[k]? with
 | none => rw [e] at hy; cases hy
 | some x => rw [e] at hy; exact h k x e y hy
def Bg {α β : Type} (s : α) (lo hi : Int) (ns : List (β × Int)) (m : Nat) : List (α × β × Int) := Dl (fun j n => Gw s lo hi (Ae ns j) (Ae ns (j + 1)) n.1) ns m
theorem Gd {α β : Type} {s : α} {lo hi : Int} {ns : List (β × Int)} {m : Nat} {n : β × Int} (h : ns[m]? = some n) : Bg s lo hi ns (m + 1) = Bg s lo hi ns m ++ Gw s lo hi (Ae ns m) (Ae ns (m + 1)) n.1 := Bj h
theorem Ge {α β : Type} {s : α} {lo hi : Int} {ns : List (β × Int)} : ∀ {m k : Nat}, k <= m -> (∀ j, k <= j -> j < m -> ∀ n, ns[j]? = some n -> ¬ 0 < mn hi (Ae ns (j + 1)) - mx lo (Ae ns j)) -> Bg s lo hi ns m = Bg s lo hi ns k
 | 0, k, hk, _ => by rw [Nat.le_zero.mp hk]
 | m + 1, k, hk, h => by
  by_cases e : k = m + 1
  ·rw [e]
  ·have ih := Ge (s := s) (m := m) (k := k) (by omega) (fun j h1 h2 => h j h1 (by omega))
   rw [<- ih]
   cases eq : ns[m]? with
   | none =>
    unfold Bg Dl
    rw [Zyd, Zyc, Zyh, eq, Zza]
   | some n =>
    rw [Gd eq]
    unfold Gw
    rw [if_neg (h m (by omega) (by omega) n eq), Zza]
structure Pp {β : Type} (ns : List (β × Int)) (lo hi x : Int) (pl m : Nat) : Prop where
 lox : lo <= x
 xhi : x <= hi
 le : pl <= ns.length
 at_ : Ae ns pl <= x
 more : pl < ns.length -> x < Ae ns (pl + 1)
 on : x < hi -> x = mx lo (Ae ns pl) /\ m = pl
 lst : pl = ns.length -> x = mx lo (Ae ns pl)
 off : x = hi -> m = ns.length \/ hi <= Ae ns m
 ml : m <= ns.length
theorem Rz {α β : Type} {ns : List (β × Int)} (hn : ∀ x ∈ ns, 0 < x.2) {s : α} {lo hi : Int} {pl : Nat} (h : lo < hi) (hl : pl <= ns.length) (h1 : Ae ns pl <= lo) (h2 : pl < ns.length -> lo < Ae ns (pl + 1)) : Pp ns lo hi lo pl pl /\ Bg s lo hi ns pl = [] := by
 refine ⟨⟨Zyx _, by omega, hl, h1, h2, fun _ => ⟨by unfold mx; split <;> omega, rfl⟩, fun _ => by unfold mx; split <;> omega, fun e => by omega, hl⟩, ?_⟩
 rw [Ge (k := 0) (Zyr _) (fun j _ hj n _ => ?_)]
 ·rfl
 ·have := Hn hn (i := j + 1) (j := pl) (by omega)
  unfold mn mx
  split <;> split <;> omega
theorem ck {α β : Type} {ns : List (β × Int)} (hn : ∀ x ∈ ns, 0 < x.2) {s : α} {lo hi x : Int} {pl m : Nat} {n : β × Int} (I : Pp ns lo hi x pl m) (hx : x < hi) (he : ns[pl]? = some n) :
  0 < mn (hi - x) (Ae ns (pl + 1) - x) /\ Bg s lo hi ns (pl + 1) = Bg s lo hi ns m ++ [(s, n.1, mn (hi - x) (Ae ns (pl + 1) - x))] /\
  (Ae ns (pl + 1) - x - mn (hi - x) (Ae ns (pl + 1) - x) = 0 -> Pp ns lo hi (x + mn (hi - x) (Ae ns (pl + 1) - x)) (pl + 1) (pl + 1)) /\
  (¬ Ae ns (pl + 1) - x - mn (hi - x) (Ae ns (pl + 1) - x) = 0 -> Pp ns lo hi (x + mn (hi - x) (Ae ns (pl + 1) - x)) pl (pl + 1)) := by
 have hlt := (Zzg.mp he).1
 obtain ⟨xm, rfl⟩ := I.on hx
 have hm := I.more hlt
 have hlo := I.lox
 have ha := I.at_
 have e1 : mn hi (Ae ns (m + 1)) - mx lo (Ae ns m) = mn (hi - x) (Ae ns (m + 1) - x) := by
  rw [<- xm]
  unfold mn
  split <;> split <;> omega
 have p : 0 < mn (hi - x) (Ae ns (m + 1) - x) := by unfold mn; split <;> omega
 refine ⟨p, ?_, fun z => ?_, fun z => ?_⟩
 ·rw [Gd he]
  unfold Gw
  rw [e1, if_pos p]
 ·have e2 : x + mn (hi - x) (Ae ns (m + 1) - x) = Ae ns (m + 1) := by omega
  have h3 : mn (hi - x) (Ae ns (m + 1) - x) <= hi - x := by unfold mn; split <;> omega
  rw [e2]
  refine ⟨by omega, by omega, by omega, Zyx _, fun z2 => ?_, fun z2 => ⟨by unfold mx; split <;> omega, rfl⟩, fun _ => by unfold mx; split <;> omega, fun z2 => .inr (by omega), by omega⟩
  obtain ⟨n2, h4⟩ : ∃ n2, ns[m + 1]? = some n2 := ⟨_, Zzu z2⟩
  have := Dx h4
  have := hn n2 (Zzt h4)
  omega
 ·have e2 : x + mn (hi - x) (Ae ns (m + 1) - x) = hi := by
   unfold mn at z ⊢
   split at z <;> (try split) <;> omega
  have h4 : hi < Ae ns (m + 1) := by
   unfold mn at z
   split at z <;> omega
  rw [e2]
  exact ⟨by omega, Zyx _, by omega, by omega, fun _ => h4, fun z => by omega, fun z => by omega, fun _ => .inr (by omega), by omega⟩
theorem il {α β : Type} {ns : List (β × Int)} (hn : ∀ x ∈ ns, 0 < x.2) {s : α} {lo hi x : Int} {pl m : Nat} (I : Pp ns lo hi x pl m) (hlh : lo < hi) (h : ¬ (x < hi /\ pl < ns.length)) :
  Bg s lo hi ns m = Bg s lo hi ns ns.length /\ (x < hi -> hi > Ae ns ns.length /\ hi - x = hi - mx lo (Ae ns ns.length)) /\ (¬ x < hi -> ¬ hi > Ae ns ns.length) /\ Ae ns pl <= hi /\ (pl < ns.length -> hi < Ae ns (pl + 1)) := by
 have h1 := I.at_
 have h2 := I.xhi
 have h3 := I.le
 refine ⟨?_, fun z => ?_, fun z => ?_, by omega, fun z => ?_⟩
 ·by_cases z : x < hi
  ·have : pl = ns.length := by omega
   rw [(I.on z).2, this]
  ·rcases I.off (by omega) with e | e
   ·rw [e]
   ·refine (Ge I.ml fun j hj _ n _ => ?_).symm
    have := Hn hn (i := m) (j := j) hj
    unfold mn mx
    split <;> split <;> omega
 ·have e : pl = ns.length := by omega
  subst e
  have := (I.on z).1
  have hm : Ae ns ns.length <= mx lo (Ae ns ns.length) := by unfold mx; split <;> omega
  exact ⟨by omega, by omega⟩
 ·have hx : x = hi := by omega
  by_cases z2 : pl < ns.length
  ·have := I.more z2
   have := Hn hn (i := pl + 1) (j := ns.length) (by omega)
   omega
  ·have e : pl = ns.length := by omega
   subst e
   have := I.lst rfl
   unfold mx at this
   split at this <;> omega
 ·have := I.more z
  omega
theorem G3 {α β : Type} {s : α} {lo hi : Int} {ns : List (β × Int)} {k : Nat} : ∀ {m : Nat}, k <= m -> (Bg s lo hi ns k).length <= (Bg s lo hi ns m).length /\ (Bg s lo hi ns m).length <= (Bg s lo hi ns k).length + (m - k)
 | 0, h => by rw [Nat.le_zero.mp h]; exact ⟨Zzs _, Zwy _ _⟩
 | m + 1, h => by
  by_cases e : k = m + 1
  ·rw [e]; exact ⟨Zzs _, Zwy _ _⟩
  ·have ih := G3 (s := s) (lo := lo) (hi := hi) (ns := ns) (k := k) (m := m) (by omega)
   cases eq : ns[m]? with
   | none =>
    have : Bg s lo hi ns (m + 1) = Bg s lo hi ns m := by
     unfold Bg Dl
     rw [Zyd, Zyc, Zyh, eq, Zza]
    rw [this]
    omega
   | some n =>
    have h1 : (Gw s lo hi (Ae ns m) (Ae ns (m + 1)) n.1).length <= 1 := by unfold Gw; split <;> simp
    rw [Gd eq, Zzm]
    omega
theorem Nk {β : Type} {ns : List (β × Int)} {x : Int} : ∀ (k pl : Nat), ns.length - pl = k -> pl <= ns.length -> Ae ns pl <= x -> ∃ pl', pl <= pl' /\ pl' <= ns.length /\ Ae ns pl' <= x /\ (pl' < ns.length -> x < Ae ns (pl' + 1))
 | 0, pl, h, hl, hc => ⟨pl, Zzs _, hl, hc, fun z => by omega⟩
 | k + 1, pl, h, hl, hc => by
  by_cases c : x < Ae ns (pl + 1)
  ·exact ⟨pl, Zzs _, hl, hc, fun _ => c⟩
  ·obtain ⟨pl', h1, h2, h3, h4⟩ := Nk (ns := ns) (x := x) k (pl + 1) (by omega) (by omega) (by omega)
   exact ⟨pl', by omega, h2, h3, h4⟩
def G4 {α β : Type} (lf : β) (ss : List (α × Int)) (ns : List (β × Int)) (i : Nat) (s : α × Int) : List (α × β × Int) := Bg s.1 (Ae ss i) (Ae ss (i + 1)) ns ns.length ++ if Ae ss (i + 1) > Ae ns ns.length then [(s.1, lf, Ae ss (i + 1) - mx (Ae ss i) (Ae ns ns.length))] else []
def Fe {α β : Type} (lf : β) (ss : List (α × Int)) (ns : List (β × Int)) (i : Nat) : List (α × β × Int) := Dl (fun i s => G4 lf ss ns i s) ss i
theorem R7 {α β : Type} {lf : β} {ss : List (α × Int)} {ns : List (β × Int)} (hn : ∀ x ∈ ns, 0 < x.2) (hs : ∀ x ∈ ss, 0 < x.2) (i : Nat) (hi : i <= ss.length) : (Fe lf ss ns i).length <= 2 * i + ns.length := by
 have key : ∀ i, i <= ss.length -> ∃ pl, pl <= ns.length /\ Ae ns pl <= Ae ss i /\ (pl < ns.length -> Ae ss i < Ae ns (pl + 1)) /\ (Fe lf ss ns i).length <= 2 * i + pl := fun i => by
  induction i with
  | zero =>
   intro _
   obtain ⟨pl', h1, h2, h3, h4⟩ := Nk (ns := ns) (x := Ae ss 0) ns.length 0 (by omega) (by omega) (by unfold Ae; simp)
   exact ⟨pl', h2, h3, h4, Zyr _⟩
  | succ i ih =>
   intro hi
   obtain ⟨pl, h1, h2, h3, h4⟩ := ih (by omega)
   obtain ⟨s, es⟩ : ∃ s, ss[i]? = some s := ⟨_, Zzu hi⟩
   have e1 := Dx es
   have e2 := hs s (Zzt es)
   obtain ⟨pl', g1, g2, g3, g4⟩ := Nk (ns := ns) (x := Ae ss (i + 1)) (ns.length - pl) pl rfl h1 (by omega)
   refine ⟨pl', g2, g3, g4, ?_⟩
   have r0 := (Rz (s := s.1) hn (lo := Ae ss i) (hi := Ae ss (i + 1)) (by omega) h1 h2 h3).2
   unfold Fe
   rw [Bj es, Zzm]
   unfold Fe at h4
   have hd : (Bg s.1 (Ae ss i) (Ae ss (i + 1)) ns ns.length).length <= pl' + 1 - pl := by
    by_cases z : pl' < ns.length
    ·rw [Ge (k := pl' + 1) (by omega) (fun j hj _ n _ => ?_)]
     ·have := (G3 (s := s.1) (lo := Ae ss i) (hi := Ae ss (i + 1)) (ns := ns) (k := pl) (m := pl' + 1) (by omega)).2
      rw [r0] at this
      simpa using this
     ·have := g4 z
      have := Hn hn (i := pl' + 1) (j := j) hj
      unfold mn mx
      split <;> split <;> omega
    ·have e : pl' = ns.length := by omega
     have := (G3 (s := s.1) (lo := Ae ss i) (hi := Ae ss (i + 1)) (ns := ns) (k := pl) (m := ns.length) h1).2
     rw [r0] at this
     simp at this
     omega
   have hl : (G4 lf ss ns i s).length <= (pl' + 1 - pl) + 1 := by
    unfold G4
    rw [Zzm]
    split
    ·rw [Zyl]; omega
    ·rw [Zxe]; omega
   omega
 obtain ⟨pl, h1, _, _, h4⟩ := key i hi
 omega
inductive Th where
 | stock | coming (k : Nat) | lots (d : Nat) | floor | want (k : Nat) | part (x : Str) (c : Int) | left
def Th.ds : Th -> List PyData
 | .stock => [.str "stock"]
 | .coming k => [.str "coming", .int k]
 | .lots d => [.str "lots", .int d]
 | .floor => [.str "floor"]
 | .want k => [.str "want", .int k]
 | .part x c => [.str "part", .str x, .int c]
 | .left => [.str "left"]
def Th.d (t : Th) : PyData := .tuple t.ds
abbrev It3 := Th × Int × Int
instance : Inhabited It3 := ⟨(.left, 0, 0)⟩
def it2 (q : Th × Int) : PyData := .tuple [q.1.d, .int q.2]
def it3 (q : It3) : PyData := .tuple [q.1.d, .int q.2.1, .int q.2.2]
def pgD (q : Th × Th × Int) : PyData := .tuple [q.1.d, q.2.1.d, .int q.2.2]
def dr (q : It3) : Th × Int := (q.1, q.2.2)
theorem Se (t : Th) : Ct t.d = true := by
 unfold Th.d
 cases t <;> simp only [Th.ds, Ct, Ba, Zxo]
theorem Qn (q : Th × Int) : Ct (it2 q) = true := by unfold it2; simp only [Ct, Ba, Se, Zxo]
theorem Jc (q : It3) : Ct (it3 q) = true := by unfold it3; simp only [Ct, Ba, Se, Zxo]
theorem gm (q : Th × Th × Int) : Ct (pgD q) = true := by unfold pgD; simp only [Ct, Ba, Se, Zxo]
theorem R1 {H : Hp} {q : Th × Int} {v : V} (h : RD H (it2 q) v) : ∃ (a : Addr) (x : V), v = .ref a /\ H a = some (.tup [x, .int q.2]) /\ RD H q.1.d x := by
 unfold it2 at h
 obtain ⟨a, xs, rfl, ha, r⟩ := RD.tup_of h
 obtain ⟨x1, r1, rfl, h1, r⟩ := RDs.cons_of r
 obtain ⟨x2, r2, rfl, h2, r⟩ := RDs.cons_of r
 have := RDs.nil_of r
 subst this
 rw [RD.int_of h2] at ha
 exact ⟨a, x1, rfl, ha, h1⟩
theorem Ls {H : Hp} {q : It3} {v : V} (h : RD H (it3 q) v) : ∃ (a : Addr) (x : V), v = .ref a /\ H a = some (.tup [x, .int q.2.1, .int q.2.2]) /\ RD H q.1.d x := by
 unfold it3 at h
 obtain ⟨a, xs, rfl, ha, r⟩ := RD.tup_of h
 obtain ⟨x1, r1, rfl, h1, r⟩ := RDs.cons_of r
 obtain ⟨x2, r2, rfl, h2, r⟩ := RDs.cons_of r
 obtain ⟨x3, r3, rfl, h3, r⟩ := RDs.cons_of r
 have := RDs.nil_of r
 subst this
 rw [RD.int_of h2, RD.int_of h3] at ha
 exact ⟨a, x1, rfl, ha, h1⟩
theorem km {H : Hp} {q : Th × Th × Int} {v : V} (h : RD H (pgD q) v) : ∃ (a : Addr) (x y : V), v = .ref a /\ H a = some (.tup [x, y, .int q.2.2]) /\ RD H q.1.d x /\ RD H q.2.1.d y := by
 unfold pgD at h
 obtain ⟨a, xs, rfl, ha, r⟩ := RD.tup_of h
 obtain ⟨x1, r1, rfl, h1, r⟩ := RDs.cons_of r
 obtain ⟨x2, r2, rfl, h2, r⟩ := RDs.cons_of r
 obtain ⟨x3, r3, rfl, h3, r⟩ := RDs.cons_of r
 have := RDs.nil_of r
 subst this
 rw [RD.int_of h3] at ha
 exact ⟨a, x1, x2, rfl, ha, h1, h2⟩
theorem M2 {H : Hp} {t : Th} {a : Addr} {xs : List V} (h : H a = some (.tup xs)) (r : RDs H t.ds xs) : RD H t.d (.ref a) := by
 unfold Th.d
 exact RD.tup_mk h r
theorem Tr {H : Hp} {t : Th} {n : Int} {a : Addr} {x : V} (h : H a = some (.tup [x, .int n])) (r : RD H t.d x) : RD H (it2 (t, n)) (.ref a) := by
 unfold it2
 exact RD.tup_mk h (RDs.cons r (RDs.one RD.int_mk))
theorem Q4 {H : Hp} {t : Th} {m n : Int} {a : Addr} {x : V} (h : H a = some (.tup [x, .int m, .int n])) (r : RD H t.d x) : RD H (it3 (t, m, n)) (.ref a) := by
 unfold it3
 exact RD.tup_mk h (RDs.cons r (RDs.cons RD.int_mk (RDs.one RD.int_mk)))
theorem kh {H : Hp} {t u : Th} {n : Int} {a : Addr} {x y : V} (h : H a = some (.tup [x, y, .int n])) (r : RD H t.d x) (r2 : RD H u.d y) : RD H (pgD (t, u, n)) (.ref a) := by
 unfold pgD
 exact RD.tup_mk h (RDs.cons r (RDs.cons r2 (RDs.one RD.int_mk)))
theorem Hu {H : Hp} {ds : List PyData} {a : Addr} {vs : List V} (h : H a = some (.lst vs)) (r : RDs H ds vs) : RD H (.list ds) (.ref a) := by
 rw [RD]
 exact ⟨a, vs, rfl, h, r⟩
theorem Bx {H : Hp} {ds : List PyData} {a : Addr} (h : RD H (.list ds) (.ref a)) : ∃ vs, H a = some (.lst vs) /\ RDs H ds vs := by
 rw [RD] at h
 obtain ⟨b, xs, e, h1, h2⟩ := h
 cases e
 exact ⟨xs, h1, h2⟩
structure Acc (H0 H : Hp) (q : Addr) (l : List PyData) : Prop where
 new : H0 q = none
 same : Same H0 H
 rd : RD H (.list l) (.ref q)
 nl : Ba l = true
theorem Qm : ∀ {l m : List PyData}, Ba l = true -> Ba m = true -> Ba (l ++ m) = true
 | [], m, _, h => h
 | d :: l, m, h, h' => by
  rw [Ba, Zya] at h
  rw [Zxt, Ba, h.1, Qm h.2 h']
  rfl
theorem Acc.step {H0 H H2 : Hp} {q : Addr} {l : List PyData} (a : Acc H0 H q l) (s : Same H H2) : Acc H0 H2 q l := ⟨a.new, a.same.trans s, RD.same s _ _ a.rd, a.nl⟩
theorem Acc.put {H0 H : Hp} {q : Addr} {l : List PyData} {d : PyData} {v : V} (a : Acc H0 H q l) (r : RD H d v) (n : Ct d = true) : ∃ vs, H q = some (.lst vs) /\ vs.length = l.length /\ Acc H0 (upd H q (.lst (vs ++ [v]))) q (l ++ [d]) := by
 obtain ⟨vs, h1, h2⟩ := Bx a.rd
 have kk : KeepU H (upd H q (.lst (vs ++ [v]))) := Fb h1
 refine ⟨vs, h1, RDs.len h2, a.new, fun b o e => by rw [A8 (A9 e a.new)]; exact a.same b o e, ?_, Qm a.nl (by rw [Ba, n]; rfl)⟩
 exact Hu A1 (RDs.app (RDs.ku kk _ _ a.nl h2) (RDs.one (RD.ku kk _ _ n r)))
theorem Acc.made {H0 H : Hp} {q : Addr} {l : List PyData} {vs : List V} (s : Same H0 H) (hq : H q = none) (r : RDs H l vs) (n : Ba l = true) : Acc H0 (upd H q (.lst vs)) q l :=
 ⟨Same.free s hq, s.trans (A3 hq), Hu A1 (RDs.same (A3 hq) _ _ r), n⟩
theorem dj {n : Nat} (h : n < 1000000) : n < sizeLine := Zz4 h (by decide)
theorem Xa {n : Nat} (h : n <= 1000000) : n <= sizeLine := Zyw h (by decide)
def Jn (w : Wr) (d : Nat) (i : Nat) : List It3 := Dl (fun k (c : Int × Int) => if c.1 = (d : Int) then [(Th.coming k, (d : Int), c.2)] else []) w.coming i
def N9 (plan : Str -> List Int) (w : Wr) (d : Nat) : List It3 := Jn w d w.coming.length ++ [(Th.lots d, (d : Int), (plan w.name).getD d 0 * w.gives)]
def D3 (plan : Str -> List Int) (w : Wr) (n : Nat) : List It3 := (Th.stock, 0, w.stock) :: (Zyy n).flatMap (N9 plan w)
theorem N8 (plan : Str -> List Int) (w : Wr) (n : Nat) : D3 plan w (n + 1) = D3 plan w n ++ N9 plan w n := by
 unfold D3
 rw [Zyd, Zyc, Zyh, Zxt]
theorem Jk {α : Type} {f : Nat -> List α} {b : Nat} (h : ∀ k, (f k).length <= b) : ∀ n, ((Zyy n).flatMap f).length <= n * b
 | 0 => Zyr _
 | n + 1 => by
  have ih := Jk h n
  rw [Zyd, Zyc, Zyh, Zzm, Nat.succ_mul]
  have := h n
  omega
theorem Mu {α : Type} {c : Prop} [Decidable c] (x : α) : (if c then [x] else []).length <= 1 := by split <;> simp
theorem Ho (w : Wr) (d i : Nat) : (Jn w d i).length <= i := by
 have := Fu (f := fun k (c : Int × Int) => if c.1 = (d : Int) then [(Th.coming k, (d : Int), c.2)] else []) (xs := w.coming) (b := 1) (fun k x => Mu _) i
 unfold Jn
 omega
theorem Fk {plan : Str -> List Int} {w : Wr} (h : w.coming.length <= 12) (n : Nat) : (D3 plan w n).length <= 1 + n * 13 := by
 have := Jk (f := N9 plan w) (b := 13) (fun d => by
  unfold N9
  rw [Zzm, Zyl]
  have := Ho w d w.coming.length
  omega) n
 unfold D3
 rw [Zxz]
 omega
def E7 (l : List It3) : List It3 := l.filter fun q => decide (0 < q.2.2)
def K6 (l : List (Th × Int)) : List (Th × Int) := l.filter fun q => decide (0 < q.2)
theorem Tz (l : List It3) : K6 (l.map dr) = (E7 l).map dr := by
 unfold K6 E7
 rw [List.filter_map]
 rfl
theorem Rw {l : List (Th × Int)} : ∀ x ∈ K6 l, 0 < x.2 := fun x hx => of_decide_eq_true (Zyg.mp hx).2
def Fp (us : List Wt) (x : Str) (d i : Nat) : List It3 := Dl (fun k (u : Wt) => if u.1 = x /\ u.2.1 = (d : Int) then [(Th.want k, (d : Int), u.2.2)] else []) us i
abbrev Tk := Str × Int × List Int
def N6 (plan : Str -> List Int) (x : Str) (t : Wr) (j : Nat) : List Tk := Dl (fun _ (p : Str × Int) => if p.1 = x then [(t.name, t.lag, (Az (plan t.name) t.lag).map (· * p.2))] else []) t.parts j
def tkL (plan : Str -> List Int) (x : Str) (ws : List Wr) (i : Nat) : List Tk := Dl (fun _ (t : Wr) => N6 plan x t t.parts.length) ws i
def M5 (d : Nat) (k : Tk) : It3 := (Th.part k.1 (d + k.2.1), (d : Int), k.2.2.getD d 0)
def Qq (S : Sh) (plan : Str -> List Int) (x : Str) (ws : List Wr) (d : Nat) : List It3 := Fp S.wants x d S.wants.length ++ (tkL plan x ws ws.length).map (M5 d)
def G6 (S : Sh) (plan : Str -> List Int) (w : Wr) (ws : List Wr) (n : Nat) : List It3 := (Th.floor, 0, w.floor) :: (Zyy n).flatMap (Qq S plan w.name ws)
theorem P7 (S : Sh) (plan : Str -> List Int) (w : Wr) (ws : List Wr) (n : Nat) : G6 S plan w ws (n + 1) = G6 S plan w ws n ++ Qq S plan w.name ws n := by
 unfold G6
 rw [Zyd, Zyc, Zyh, Zxt]
theorem Fj (us : List Wt) (x : Str) (d i : Nat) : (Fp us x d i).length <= i := by
 have := Fu (f := fun k (u : Wt) => if u.1 = x /\ u.2.1 = (d : Int) then [(Th.want k, (d : Int), u.2.2)] else []) (xs := us) (b := 1) (fun k x => Mu _) i
 unfold Fp
 omega
theorem Rl (plan : Str -> List Int) (x : Str) (t : Wr) (j : Nat) : (N6 plan x t j).length <= j := by
 have := Fu (f := fun _ (p : Str × Int) => if p.1 = x then [((t.name, t.lag, (Az (plan t.name) t.lag).map (· * p.2)) : Tk)] else []) (xs := t.parts) (b := 1) (fun k x => Mu _) j
 unfold N6
 omega
theorem Pr {plan : Str -> List Int} {x : Str} {ws : List Wr} (h : ∀ t ∈ ws, t.parts.length <= 12) (i : Nat) : (tkL plan x ws i).length <= i * 12 := by
 have e : tkL plan x ws i = Dl (fun _ (t : Wr) => if t.parts.length <= 12 then N6 plan x t t.parts.length else []) ws i := by
  unfold tkL
  exact Hz fun k t _ ht => by rw [if_pos (h t (Zzt ht))]
 rw [e]
 exact Fu (fun k t => by split; exact Zyw (Rl _ _ _ _) (by assumption); exact Zyr _) i
theorem Z7 {S : Sh} {plan : Str -> List Int} {x : Str} {ws : List Wr} (h : ∀ t ∈ ws, t.parts.length <= 12) (h1 : ws.length <= 12) (h2 : S.wants.length <= 20) (d : Nat) : (Qq S plan x ws d).length <= 164 := by
 unfold Qq
 rw [Zzm, Zzz]
 have a1 := Fj S.wants x d S.wants.length
 have a2 := Pr (plan := plan) (x := x) h ws.length
 omega
theorem Kv {S : Sh} {plan : Str -> List Int} {w : Wr} {ws : List Wr} (h : ∀ t ∈ ws, t.parts.length <= 12) (h1 : ws.length <= 12) (h2 : S.wants.length <= 20) (n : Nat) : (G6 S plan w ws n).length <= 1 + n * 164 := by
 have := Jk (f := Qq S plan w.name ws) (b := 164) (fun d => Z7 h h1 h2 d) n
 unfold G6
 rw [Zxz]
 omega
def OrdOk (S : Sh) (ws : List Wr) : Prop := (∀ t ∈ ws, t ∈ S.wares) /\ Hr (lv S) (Ar S) (ws.map (·.name))
theorem OrdOk.len {S : Sh} {ws : List Wr} (h : OrdOk S ws) : ws.length = S.wares.length := by
 have := (D7 h.2).1.length_eq
 rw [Zzz, Ca] at this
 exact this
def Hl (plan : Str -> List Int) (x : Str) (n d : Nat) (t : Wr) (j : Nat) : List It3 := Dl (fun _ (p : Str × Int) => if p.1 = x /\ (d : Int) + t.lag < (n : Int) then [(Th.part t.name (d + t.lag), (d : Int), (plan t.name).getD ((d : Int) + t.lag).toNat 0 * p.2)] else []) t.parts j
def Ub (S : Sh) (plan : Str -> List Int) (x : Str) (ws : List Wr) (n d : Nat) : List It3 := Fp S.wants x d S.wants.length ++ Dl (fun _ (t : Wr) => Hl plan x n d t t.parts.length) ws ws.length
def El (S : Sh) (plan : Str -> List Int) (w : Wr) (ws : List Wr) (n k : Nat) : List It3 := (Th.floor, 0, w.floor) :: (Zyy k).flatMap (Ub S plan w.name ws n)
theorem M7 (S : Sh) (plan : Str -> List Int) (w : Wr) (ws : List Wr) (n k : Nat) : El S plan w ws n (k + 1) = El S plan w ws n k ++ Ub S plan w.name ws n k := by
 unfold El
 rw [Zyd, Zyc, Zyh, Zxt]
theorem P6 (plan : Str -> List Int) (x : Str) (n d : Nat) (t : Wr) (j : Nat) : (Hl plan x n d t j).length <= j := by
 have := Fu (f := fun _ (p : Str × Int) => if p.1 = x /\ (d : Int) + t.lag < (n : Int) then [((Th.part t.name (d + t.lag), (d : Int), (plan t.name).getD ((d : Int) + t.lag).toNat 0 * p.2) : It3)] else []) (xs := t.parts) (b := 1) (fun k x => Mu _) j
 unfold Hl
 omega
theorem S2 {plan : Str -> List Int} {x : Str} {n d : Nat} {ws : List Wr} (h : ∀ t ∈ ws, t.parts.length <= 12) (i : Nat) : (Dl (fun _ (t : Wr) => Hl plan x n d t t.parts.length) ws i).length <= i * 12 := by
 rw [Hz (g := fun _ (t : Wr) => if t.parts.length <= 12 then Hl plan x n d t t.parts.length else []) fun k t _ ht => by rw [if_pos (h t (Zzt ht))]]
 exact Fu (fun k t => by split; exact Zyw (P6 _ _ _ _ _ _) (by assumption); exact Zyr _) i
theorem Nr {S : Sh} {plan : Str -> List Int} {w : Wr} {ws : List Wr} {n : Nat} (h : ∀ t ∈ ws, t.parts.length <= 12) (h1 : ws.length <= 12) (h2 : S.wants.length <= 20) (k : Nat) : (El S plan w ws n k).length <= 1 + k * 164 := by
 have := Jk (f := Ub S plan w.name ws n) (b := 164) (fun d => by
  unfold Ub
  rw [Zzm]
  have a1 := Fj S.wants w.name d S.wants.length
  have a2 := S2 (plan := plan) (x := w.name) (n := n) (d := d) h ws.length
  omega) k
 unfold El
 rw [Zxz]
 omega
theorem de {S : Sh} {plan : Str -> List Int} {w : Wr} {ws : List Wr} {n : Nat} (hl : ∀ t ∈ ws, (plan t.name).length = n /\ 0 <= t.lag) : E7 (G6 S plan w ws n) = E7 (El S plan w ws n n) := by
 have hd : ∀ d, d < n -> E7 (Qq S plan w.name ws d) = E7 (Ub S plan w.name ws n d) := fun d hdn => by
  unfold Qq Ub E7
  rw [Zxp, Zxp]
  congr 1
  unfold tkL
  rw [Rx, G8, G8]
  refine Hz fun k t _ ht => ?_
  obtain ⟨e1, e2⟩ := hl t (Zzt ht)
  unfold N6 Hl
  rw [Rx, G8, G8]
  refine Hz fun j p _ _ => ?_
  by_cases c : p.1 = w.name
  ·have eb : ((Az (plan t.name) t.lag).map (· * p.2)).getD d 0 = bAt (plan t.name) t.lag d * p.2 := by
    rw [Zzh, Zzx]
    unfold Az
    rw [Bi (by omega)]
    rfl
   rw [if_pos c]
   show List.filter _ [M5 d (t.name, t.lag, (Az (plan t.name) t.lag).map (· * p.2))] = _
   have ep : M5 d (t.name, t.lag, (Az (plan t.name) t.lag).map (· * p.2)) = (Th.part t.name (d + t.lag), (d : Int), bAt (plan t.name) t.lag d * p.2) := by
    unfold M5
    show (Th.part t.name (d + t.lag), (d : Int), ((Az (plan t.name) t.lag).map (· * p.2)).getD d 0) = _
    rw [eb]
   rw [ep]
   have en : ((d : Int) + t.lag).toNat = d + t.lag.toNat := by omega
   by_cases c2 : (d : Int) + t.lag < (n : Int)
   ·rw [if_pos ⟨c, c2⟩, en]
    have : bAt (plan t.name) t.lag d = (plan t.name).getD (d + t.lag.toNat) 0 := by
     unfold bAt
     rw [if_pos (by omega)]
    rw [this]
   ·rw [if_neg (fun z => c2 z.2)]
    have : bAt (plan t.name) t.lag d = 0 := by
     unfold bAt
     rw [if_neg (by omega)]
    rw [this, Int.zero_mul]
    rfl
  ·rw [if_neg c, if_neg (fun z => c z.1)]
   rfl
 have hk : ∀ k, k <= n -> E7 (G6 S plan w ws k) = E7 (El S plan w ws n k) := fun k => by
  induction k with
  | zero => exact fun _ => rfl
  | succ k ih =>
   intro hk
   rw [P7, M7]
   have h1 := ih (by omega)
   have h2 := hd k (by omega)
   unfold E7 at h1 h2 ⊢
   rw [Zxp, Zxp, h1, h2]
 exact hk n (Zzs _)
end
set_option maxHeartbeats 4000000
section
variable {P : Program} {w : World} {K : Zzv} {mg : Str -> Option Value} {base : Heap} {f : Addr} {fd : FuncData} {Pt : Addr}
theorem Acc.ty {H0 H : Hp} {q : Addr} {l : List PyData} (a : Acc H0 H q l) : J7 H (.ref q) = some "list" := let ⟨_, h, _⟩ := Bx a.rd; Fs h
theorem Acc.pair {H0 H : Hp} {q : Addr} {l : List (Th × Int)} {t1 t2 : Addr} {xs : List V} {n : Int} (th : Th) (a : Acc H0 H q (l.map it2)) (h1 : H t1 = none) (h2 : upd H t1 (.tup xs) t2 = none) (r : RDs H th.ds xs) (hl : l.length < 1000000) :
  ∃ vs, upd (upd H t1 (.tup xs)) t2 (.tup [.ref t1, .int n]) q = some (.lst vs) /\ vs.length < sizeLine /\ Acc H0 (upd (upd (upd H t1 (.tup xs)) t2 (.tup [.ref t1, .int n])) q (.lst (vs ++ [.ref t2]))) q ((l ++ [(th, n)]).map it2) := by
 have u1 := A3 (o := .tup xs) h1
 have u2 := A3 (o := .tup [.ref t1, .int n]) h2
 have rt : RD (upd H t1 (.tup xs)) th.d (.ref t1) := M2 A1 (RDs.same u1 _ _ r)
 obtain ⟨vs, hv, hvl, a'⟩ := ((a.step u1).step u2).put (Tr (n := n) A1 (RD.same u2 _ _ rt)) (Qn _)
 rw [Zzz] at hvl
 refine ⟨vs, hv, dj (by omega), ?_⟩
 rw [Zzf]
 exact a'
theorem Acc.trip {H0 H : Hp} {q : Addr} {l : List It3} {t1 t2 : Addr} {xs : List V} {m n : Int} (th : Th) (a : Acc H0 H q (l.map it3)) (h1 : H t1 = none) (h2 : upd H t1 (.tup xs) t2 = none) (r : RDs H th.ds xs) (hl : l.length < 1000000) :
  ∃ vs, upd (upd H t1 (.tup xs)) t2 (.tup [.ref t1, .int m, .int n]) q = some (.lst vs) /\ vs.length < sizeLine /\ Acc H0 (upd (upd (upd H t1 (.tup xs)) t2 (.tup [.ref t1, .int m, .int n])) q (.lst (vs ++ [.ref t2]))) q ((l ++ [(th, m, n)]).map it3) := by
 have u1 := A3 (o := .tup xs) h1
 have u2 := A3 (o := .tup [.ref t1, .int m, .int n]) h2
 have rt : RD (upd H t1 (.tup xs)) th.d (.ref t1) := M2 A1 (RDs.same u1 _ _ r)
 obtain ⟨vs, hv, hvl, a'⟩ := ((a.step u1).step u2).put (Q4 (m := m) (n := n) A1 (RD.same u2 _ _ rt)) (Jc _)
 rw [Zzz] at hvl
 refine ⟨vs, hv, dj (by omega), ?_⟩
 rw [Zzf]
 exact a'
theorem Acc.peg {H0 H : Hp} {q : Addr} {l : List (Th × Th × Int)} {t : Addr} {x y : V} {n : Int} {u v : Th} (a : Acc H0 H q (l.map pgD)) (h : H t = none) (r : RD H u.d x) (r2 : RD H v.d y) (hl : l.length < 10000000) :
  ∃ vs, upd H t (.tup [x, y, .int n]) q = some (.lst vs) /\ vs.length < sizeLine /\ Acc H0 (upd (upd H t (.tup [x, y, .int n])) q (.lst (vs ++ [.ref t]))) q ((l ++ [(u, v, n)]).map pgD) := by
 have u1 := A3 (o := .tup [x, y, .int n]) h
 obtain ⟨vs, hv, hvl, a'⟩ := (a.step u1).put (kh (n := n) A1 (RD.same u1 _ _ r) (RD.same u1 _ _ r2)) (gm _)
 rw [Zzz] at hvl
 refine ⟨vs, hv, by rw [hvl]; exact Zz4 hl (by decide), ?_⟩
 rw [Zzf]
 exact a'
theorem Ng {H H' : Hp} {l : List PyData} {q Pt : Addr} (h : RD H (.list l) (.ref q)) (n : Ba l = true) (tb : Tb H Pt) (bt : But Pt H H') : RD H' (.list l) (.ref q) := by
 obtain ⟨vs, h1, h2⟩ := Bx h
 exact Hu (bt _ _ (Ha tb h1 fun u z => by cases z) h1) (RDs.ku (Es tb bt) _ _ n h2)
theorem Mp {H H' : Hp} {q Pt : Addr} (tb' : Tb H' Pt) (bt : But Pt H H') (h : H' q = none) : H q = none := bt.none (fun z => by obtain ⟨u, e⟩ := tb'.at; rw [z, e] at h; cases h) h
def sp_without_nothing : Sp := fun vs H Q _ => ∃ (a : Addr) (l : List (Th × Int)), vs = [.ref a] /\ RD H (.list (l.map it2)) (.ref a) /\ l.length <= 1000000 /\ ∀ q H', Acc H H' q ((K6 l).map it2) -> Q (.ref q) H'
def m9 (l : List (Th × Int)) (H : Hp) (i : Nat) (acc : List V) (H' : Hp) : Prop := RDs H' ((K6 (l.take i)).map it2) acc /\ Same H H'
theorem Jz : Al ["amounts"] ["amounts"] (Aa Br) := by constructor <;> first | rfl | decide +kernel
theorem Ka (F : Fun K "without_nothing" "without_nothing" Br f fd) (T : Txt mg) : FnOk P w K mg base CX0 1 f fd ["amounts"] sp_without_nothing := by
 refine F.ok Jz (fun vs H Q E h => ?_) (fun cdv A outer s H vs Q E hr h => ?_)
 ·obtain ⟨a, l, rfl, _⟩ := h
  rfl
 ·obtain ⟨a, l, rfl, rd, hlen, k⟩ := h
  have hu := B8 hr
  refine ⟨_, (A7 (Am (Df (own := ["entry"]) (cap := []) rfl (E8 rfl) (Bm (by decide)) (C0 (pv 0))
 (fun _ _ _ _ _ _ => ⟨(Ac (i := 0) (of_decide_eq_true rfl) rfl (Zzw rfl) (.inr rfl)), (Hw (Ak Ja (A5 hu (pv 0) A6 (fun _ _ => rfl)) A6 (Ap _))), (pv 0)⟩)))), ?_⟩
  obtain ⟨vs, ha, rv⟩ := Bx rd
  have hl := Ao rv
  walk_at "rd"
  refine ⟨vs, ha, ?_⟩
  refine Gx (Dh a _) (Xa (by omega)) (m9 l H) ⟨RDs.nil, Same.refl _⟩ (fun i acc H' _ h => h.2 _ _ ha) (fun i acc H' h => ?_) (fun i y acc H1 hi hy h => ?_) (fun acc H1 h p hp => ?_)
  ·rw [Ao h.1]
   exact Zyw (Zxw _ _) (by rw [Zyq]; exact Zwt _ _)
  ·obtain ⟨r, s1⟩ := h
   obtain ⟨z, hz, rz⟩ := Ax rv hy
   have et : K6 (l.take (i + 1)) = K6 (l.take i) ++ K6 [z] := by
    unfold K6
    rw [Zz5, hz, Zxp]
    rfl
   have rz1 := RD.same s1 _ _ rz
   obtain ⟨b, x, rfl, hb, rx⟩ := R1 rz1
   walk_at "rd"
   refine ⟨_, Ad (j := 1) hb rfl, _, rfl, C9 (fun c => ⟨?_, s1⟩) (fun c => ⟨?_, s1⟩)⟩
   ·have c := of_decide_eq_true c
    have e1 : K6 [z] = [z] := by unfold K6; rw [Zxh, if_pos (decide_eq_true c)]; rfl
    rw [et, e1, Zzf]
    exact RDs.app r (RDs.one rz1)
   ·have c : ¬ 0 < z.2 := fun h => c (decide_eq_true h)
    have e1 : K6 [z] = [] := by unfold K6; rw [Zxh, if_neg (fun h => c (of_decide_eq_true h))]; rfl
    rw [et, e1, Zza]
    exact r
  ·obtain ⟨r, s1⟩ := h
   rw [hl, Zz1] at r
   exact k p _ (Acc.made s1 hp r (Bo it2 Qn _))
def sp_supplies : Sp := fun vs H Q _ => ∃ (a : Addr) (x : V) (S : Sh) (plan : Str -> List Int) (w : Wr) (sz : Int), vs = [.ref a, x] /\ PlanAt H a S plan /\ RD H w.d x /\ w ∈ S.wares /\ Good sz S /\ 0 < sz /\ sz <= 1000 /\ ∀ q H', Acc H H' q ((K6 ((D3 plan w (daysN S)).map dr)).map it2) -> Q (.ref q) H'
def me (a : Addr) (x : V) (q : Addr) (plan : Str -> List Int) (w : Wr) (H : Hp) (i : Nat) (σ : St) (H' : Hp) : Prop := ∃ o3 o4 o5 o6 : Option V, σ = [some (.ref a), some x, some (.ref q), o3, o4, o5, o6] /\ Acc H H' q (((D3 plan w i).map dr).map it2)
def SuIn (a : Addr) (x : V) (q : Addr) (d : Nat) (n : Int) (plan : Str -> List Int) (w : Wr) (H : Hp) (j : Nat) (σ : St) (H' : Hp) : Prop := ∃ o5 o6 : Option V, σ = [some (.ref a), some x, some (.ref q), some (.int d), some (.int n), o5, o6] /\ Acc H H' q (((D3 plan w d ++ Jn w d j).map dr).map it2)
theorem sc_supplies : Al ["plan", "ware", "told", "day", "lots", "number", "arrival"] ["plan", "ware"] (Aa Ed) := by constructor <;> first | rfl | decide +kernel
theorem S4 (F : Fun K "supplies" "supplies" Ed f fd) (T : Txt mg) (Zvg : Has P w K mg base "without_nothing" 1 ["amounts"] sp_without_nothing) : FnOk P w K mg base CX0 2 f fd ["plan", "ware"] sp_supplies := by
 refine F.ok sc_supplies (fun vs H Q E h => ?_) (fun cdv A outer s H vs Q E hr h => ?_)
 ·obtain ⟨a, x, S, plan, w, sz, rfl, _⟩ := h
  rfl
 ·obtain ⟨a, x, S, plan, w, sz, rfl, pl, rx, hm, g, z0, z1, k⟩ := h
  have hu := B8 hr
  obtain ⟨n1, n2, n3, n4⟩ := g.days z0 z1
  refine ⟨_, (A2 (Af (i := 2) sc_supplies.nd rfl (Zzw rfl) (Bk (A4 (Aq (A4 (Aq (A4 Bu A0)) (A4 (A5 hu (pv 1) (Ah rfl T.Zuj) (fun _ _ => rfl)) A0))) A0)))
 (A2 (As PassesOwn.never rfl (Mr rfl T.Zv4 (A4 (A5 hu (pv 0) (A5 hu (pv 1) (Ah rfl T.Zvi) (fun _ _ => rfl)) (fun _ _ => rfl)) A0)) (C1 (n := 2) rfl (Ag (Ac (i := 3) sc_supplies.nd rfl (Zzw rfl)) (Ag (Ac (i := 4) sc_supplies.nd rfl (Zzw rfl)) Bh)))
 (A2 (As PassesOwn.never rfl (Ry rfl T.Zv4 (A4 (A5 hu (pv 1) (Ah rfl T.Zuv) (fun _ _ => rfl)) A0)) (C1 (n := 2) rfl (Ag (Ac (i := 5) sc_supplies.nd rfl (Zzw rfl)) (Ag (Ac (i := 6) sc_supplies.nd rfl (Zzw rfl)) Bh)))
 (A7 (Bf (Ak (Bl hu) (A5 hu (pv 6) A6 (fun _ _ => rfl)) (pv 3) (Ap _)) (A7 (B9 (D5 Zzb Zz8 Zz7 B4 (pv 2) (A4 (Aq (A4 (Aq (A4 Bu (A4 (pv 5) A0))) (A4 (A5 hu (pv 6) A6 (fun _ _ => rfl)) A0))) A0)))) Au)))
 (A7 (B9 (D5 Zzb Zz8 Zz7 B4 (pv 2) (A4 (Aq (A4 (Aq (A4 Bu (A4 (pv 3) A0))) (A4 (Av Ia (pv 4) (A5 hu (pv 1) (Ah rfl T.Zut) (fun _ _ => rfl))) A0))) A0))))))
 (A7 (Am (Ab Zvg hr.z rfl (A4 (pv 2) A0)))))), ?_⟩
  obtain ⟨xe, c1, c2, rfl, hxe, rc, rp⟩ := B5 rx
  obtain ⟨cb, cv, rfl, hcb, rcv⟩ := RD.tup_of rc
  have hlc := Ao rcv
  have hc12 := (g.com w hm).1
  have wb := g.ws.wb w hm
  obtain ⟨kvs, hkv, hpl⟩ := id pl
  obtain ⟨l, hv, hll, hlen, hbd⟩ := hpl w.name (Zzr.mpr ⟨w, hm, rfl⟩)
  walk_at "rd"
  refine ⟨by decide, fun t1 ht1 => ⟨_, Ad (j := 4) (A3 ht1 _ _ hxe) rfl, by decide, fun t2 ht2 => ⟨by decide, fun q hq => ?_⟩⟩⟩
  have s2 := (A3 (o := .tup [V.str "stock"]) ht1).trans (A3 (o := .tup [V.ref t1, V.int w.stock]) ht2)
  have s3 := s2.trans (A3 (o := .lst [V.ref t2]) hq)
  have a0 : Acc H (upd (upd (upd H t1 (.tup [V.str "stock"])) t2 (.tup [V.ref t1, V.int w.stock])) q (.lst [V.ref t2])) q (((D3 plan w 0).map dr).map it2) := by
   refine Acc.made s2 hq (RDs.one (Tr (t := .stock) A1 (M2 ?_ (RDs.one RD.str_mk)))) (Bo it2 Qn _)
   exact A3 ht2 _ _ A1
  refine ⟨_, Ad (j := 0) (s3 _ _ hxe) rfl, _, Cb (hkv.same s3) hv, l, rfl, _, s3 _ _ hll, ?_⟩
  generalize upd (upd (upd H t1 (.tup [V.str "stock"])) t2 (.tup [V.ref t1, V.int w.stock])) q (.lst [V.ref t2]) = H3 at a0 s3 ⊢
  refine Mb (Vw l _) (me a (.ref xe) q plan w H) ⟨_, _, _, _, rfl, a0⟩ (fun i σ H' _ h => let ⟨_, _, _, _, _, ac⟩ := h; ac.same _ _ hll) (fun i us t σ H4 hi hy h ht => ?_) (fun σ H4 h => ?_)
  ·obtain ⟨o3, o4, o5, o6, rfl, ac⟩ := h
   obtain ⟨y, ey, rfl⟩ := hy
   have hy := Fi ey
   subst hy
   rw [Zzz, hlen] at hi
   refine gT2 ?_
   have ac5 := ac.step (A3 (o := .tup [.int i, .int ((plan w.name).getD i 0)]) ht)
   generalize upd H4 t (.tup [.int i, .int ((plan w.name).getD i 0)]) = H5 at ac5 ⊢
   have sl := Fk (plan := plan) hc12 i
   walk_at "rd"
   refine ⟨_, Ad (j := 5) (ac5.same _ _ hxe) rfl, cb, rfl, cv, ac5.same _ _ hcb, ?_⟩
   refine Mb (Zr cb _) (SuIn a (.ref xe) q i ((plan w.name).getD i 0) plan w H) ⟨_, _, rfl, by rw [show Jn w i 0 = [] from rfl, Zza]; exact ac5⟩ (fun j σ H' _ h => let ⟨_, _, _, ac⟩ := h; ac.same _ _ hcb) (fun j us t' σ H6 hj hy h ht' => ?_) (fun σ H6 h => ?_)
   ·obtain ⟨o5, o6, rfl, ac6⟩ := h
    obtain ⟨y, ey, rfl⟩ := hy
    obtain ⟨c, hc, ry⟩ := Ax rcv ey
    obtain ⟨e, rfl, he⟩ := Uu ry
    refine gT2 ?_
    have ac7 := ac6.step (A3 (o := .tup [.int j, .ref e]) ht')
    generalize upd H6 t' (.tup [.int j, .ref e]) = H7 at ac7 ⊢
    have he7 := ac7.same _ _ he
    have cl := Ho w i j
    have es : Jn w i (j + 1) = Jn w i j ++ if c.1 = (i : Int) then [(Th.coming j, (i : Int), c.2)] else [] := Bj hc
    walk_at "rd"
    refine ⟨_, Ad (j := 0) he7 rfl, rfl, C9 (fun hz => ?_) (fun hz => ?_)⟩
    ·have hz : c.1 = (i : Int) := V.int.inj (of_decide_eq_true hz)
     refine ⟨ac7.ty, by decide, fun p1 hp1 => ⟨_, Ad (j := 1) (A3 hp1 _ _ he7) rfl, by decide, fun p2 hp2 => ?_⟩⟩
     obtain ⟨vs, hvs, hvl, ac8⟩ := ac7.pair (n := c.2) (.coming j) hp1 hp2 (RDs.cons RD.str_mk (RDs.one RD.int_mk)) (by rw [Zzz, Zzm]; omega)
     refine ⟨vs, hvs, hvl, _, _, rfl, ?_⟩
     rw [es, if_pos hz, <- Zyo, Zzf]
     exact ac8
    ·have hz : ¬ c.1 = (i : Int) := fun e => hz (decide_eq_true (by rw [e]))
     refine ⟨_, _, rfl, ?_⟩
     rw [es, if_neg hz, Zza]
     exact ac7
   ·obtain ⟨o5, o6, rfl, ac6⟩ := h
    rw [hlc] at ac6
    have cl := Ho w i w.coming.length
    walk_at "rd"
    refine ⟨ac6.ty, by decide, fun p1 hp1 => ⟨_, Ad (j := 2) (A3 hp1 _ _ (ac6.same _ _ hxe)) rfl, _, rfl, ?_, by decide, fun p2 hp2 => ?_⟩⟩
    ·exact .inr ⟨by have := Mw (B := 10 ^ 2000) (by decide +kernel) (fun x hx => ⟨(hbd x hx).1, Zwg (hbd x hx).2⟩) i; omega, by have := wb.gives; omega⟩
    ·obtain ⟨vs, hvs, hvl, ac8⟩ := ac6.pair (n := (plan w.name).getD i 0 * w.gives) (.lots i) hp1 hp2 (RDs.cons RD.str_mk (RDs.one RD.int_mk)) (by rw [Zzz, Zzm]; omega)
     refine ⟨vs, hvs, hvl, _, _, _, _, rfl, ?_⟩
     rw [N8]
     unfold N9
     rw [<- Zyo, Zzf]
     exact ac8
  ·obtain ⟨o3, o4, o5, o6, rfl, ac⟩ := h
   rw [Zzz, hlen] at ac
   have sl := Fk (plan := plan) hc12 (daysN S)
   walk_at "rd"
   refine ⟨q, (D3 plan w (daysN S)).map dr, rfl, ac.rd, by rw [Zzz]; omega, fun q2 H5 a5 => k q2 H5 ⟨Same.free ac.same a5.new, ac.same.trans a5.same, a5.rd, a5.nl⟩⟩
end
set_option maxHeartbeats 4000000
section
variable {P : Program} {w : World} {K : Zzv} {mg : Str -> Option Value} {base : Heap} {f : Addr} {fd : FuncData} {Pt : Addr}
def TkAt (H : Hp) (q : Addr) (tk : List Tk) : Prop := ∃ vs : List V, H q = some (.lst vs) /\ vs.length = tk.length /\ ∀ (i : Nat) (k : Tk), tk[i]? = some k -> ∃ t r : Addr, vs[i]? = some (.ref t) /\ r ≠ q /\ H t = some (.tup [.str k.1, .int k.2.1, .ref r]) /\ H r = some (.lst (k.2.2.map V.int))
theorem TkAt.same {H H' : Hp} {q : Addr} {tk : List Tk} (h : TkAt H q tk) (s : Same H H') : TkAt H' q tk := by
 obtain ⟨vs, h1, h2, h3⟩ := h
 exact ⟨vs, s _ _ h1, h2, fun i k e => let ⟨t, r, e1, e2, e3, e4⟩ := h3 i k e; ⟨t, r, e1, e2, s _ _ e3, s _ _ e4⟩⟩
theorem TkAt.put {H : Hp} {q t r : Addr} {tk : List Tk} {k : Tk} (h : TkAt H q tk) (rq : r ≠ q) (ht : H t = some (.tup [.str k.1, .int k.2.1, .ref r])) (hr : H r = some (.lst (k.2.2.map V.int))) : ∃ vs, H q = some (.lst vs) /\ vs.length = tk.length /\ TkAt (upd H q (.lst (vs ++ [.ref t]))) q (tk ++ [k]) := by
 obtain ⟨vs, h1, h2, h3⟩ := h
 have tq : ∀ {t : Addr} {xs : List V}, H t = some (.tup xs) -> t ≠ q := fun e => M6 e h1 (fun z => by cases z)
 refine ⟨vs, h1, h2, vs ++ [.ref t], A1, by rw [Zzm, Zzm, h2]; rfl, fun i k' e => ?_⟩
 by_cases hi : i < tk.length
 ·rw [Zxy hi] at e
  obtain ⟨t', r', e1, e2, e3, e4⟩ := h3 i k' e
  exact ⟨t', r', by rw [Zxy (by omega)]; exact e1, e2, by rw [A8 (tq e3)]; exact e3, by rw [A8 e2]; exact e4⟩
 ·rw [Zyb (by omega)] at e
  have hi0 : i - tk.length = 0 := by
   cases e' : i - tk.length with
   | zero => rfl
   | succ n => rw [e'] at e; simp at e
  rw [hi0] at e
  have e : k = k' := by simpa using e
  subst e
  exact ⟨t, r, by rw [Zyb (by omega), h2, hi0]; rfl, rq, by rw [A8 (tq ht)]; exact ht, by rw [A8 rq]; exact hr⟩
def Kj (Pt : Addr) : Sp := fun vs H Q _ => ∃ (v : V) (a : Addr) (x : V) (S : Sh) (plan : Str -> List Int) (w : Wr) (ws : List Wr) (sz : Int), vs = [v, .ref a, x] /\ RD H S.d v /\ PlanAt H a S plan /\ RD H w.d x /\ Good sz S /\ 0 < sz /\ sz <= 1000 /\ OrdOk S ws /\ Tb H Pt /\
 ∀ q H', H q = none -> TkAt H' q (tkL plan w.name ws ws.length) -> Tb H' Pt -> But Pt H H' -> Q (.ref q) H'
def ma (v : V) (a : Addr) (x : V) (q : Addr) (plan : Str -> List Int) (nm : Str) (ws : List Wr) (H1 : Hp) (i : Nat) (σ : St) (H' : Hp) : Prop := ∃ o4 o5 o6 o7 o8 : Option V, σ = [some v, some (.ref a), some x, some (.ref q), o4, o5, o6, o7, o8] /\ TkAt H' q (tkL plan nm ws i) /\ ∀ b o, b ≠ q -> H1 b = some o -> H' b = some o
def TkIn (v : V) (a : Addr) (x : V) (q : Addr) (plan : Str -> List Int) (nm : Str) (ws : List Wr) (t : Wr) (te : Addr) (i : Nat) (H1 : Hp) (j : Nat) (σ : St) (H' : Hp) : Prop := ∃ o6 o7 o8 : Option V, σ = [some v, some (.ref a), some x, some (.ref q), some (.str t.name), some (.ref te), o6, o7, o8] /\ TkAt H' q (tkL plan nm ws i ++ N6 plan nm t j) /\ ∀ b o, b ≠ q -> H1 b = some o -> H' b = some o
theorem sc_takers_of : Al ["shop", "plan", "ware", "told", "name", "taker", "part", "amount", "takes"] ["shop", "plan", "ware"] (Aa Dp) := by constructor <;> first | rfl | decide +kernel
theorem Qe (F : Fun K "takers_of" "takers_of" Dp f fd) (T : Txt mg) (Zve : Has P w K mg base "worked" 6 ["shop"] (Hc Pt)) (Zvk : Has P w K mg base "ware_of" 1 ["shop", "name"] sp_ware_of) (Zv3 : Has P w K mg base "begun_row" 1 ["plan", "ware"] sp_begun_row) : FnOk P w K mg base CX0 7 f fd ["shop", "plan", "ware"] (Kj Pt) := by
 refine F.ok sc_takers_of (fun vs H Q E h => ?_) (fun cdv A outer s H vs Q E hr h => ?_)
 ·obtain ⟨v, a, x, S, plan, w, ws, sz, rfl, _⟩ := h
  rfl
 ·obtain ⟨v, a, x, S, plan, w, ws, sz, rfl, rs, pl, rx, g, z0, z1, od, tb, k⟩ := h
  have hu := B8 hr
  obtain ⟨n1, n2, n3, n4⟩ := g.days z0 z1
  refine ⟨_, (A2 (Af (i := 3) sc_takers_of.nd rfl (Zzw rfl) (Bk A0))
 (A2 (As PassesOwn.never rfl (C0 (Ab Zve hr.z rfl (A4 (pv 0) A0))) (Ac (i := 4) sc_takers_of.nd rfl (Zzw rfl))
 (A2 (Af (i := 5) sc_takers_of.nd rfl (Zzw rfl) (Ab Zvk hr.z rfl (A4 (pv 0) (A4 (pv 4) A0))))
 (A7 (As PassesOwn.never rfl (Cl (A5 hu (pv 5) (Ah rfl T.Zus) (fun _ _ => rfl))) (C1 (n := 2) rfl (Ag (Ac (i := 6) sc_takers_of.nd rfl (Zzw rfl)) (Ag (Ac (i := 7) sc_takers_of.nd rfl (Or.inr rfl)) Bh)))
 (A7 (Bf (Ak (Bl hu) (pv 6) (A5 hu (pv 2) (Ah rfl T.Zvi) (fun _ _ => rfl)) (Ap _)) (A2 (Ft (own := ["lots"]) (cap := [7]) (i := 8) rfl (E8 rfl) (Bm (by decide)) sc_takers_of.nd rfl rfl (C0 (Ab Zv3 hr.z rfl (A4 (pv 1) (A4 (pv 5) A0))))
 (fun _ _ _ _ _ _ => ⟨(Ac (i := 0) (of_decide_eq_true rfl) rfl (Zzw rfl) (.inr rfl)), E3, (Av Ia (pv 0) (pv 1))⟩))
 (A7 (B9 (D5 Zzb Zz8 Zz7 B4 (pv 3) (A4 (Aq (A4 (pv 4) (A4 (A5 hu (pv 5) (Ah rfl T.Zun) (fun _ _ => rfl)) (A4 (pv 8) A0)))) A0))))) Au))))))
 (A7 (Am (pv 3))))), ?_⟩
  obtain ⟨xe, c1, c2, rfl, hxe, _⟩ := B5 rx
  have L := Jj g
  have wlen := od.len
  have w12 := g.len.2
  walk_at "rd"
  refine ⟨by decide, fun q hq => ?_⟩
  have u0 := A3 (o := .lst []) hq
  refine ⟨v, S, rfl, RD.same u0 _ _ rs, L, tb.same u0, fun r ys H1 hr1 hr2 so sb tb1 bt1 => ⟨r, rfl, _, hr2, ?_⟩⟩
  have ey : ys = ws.map (·.name) := Wi sb od.2
  subst ey
  have tb0 := tb.same u0
  have hq1 : H1 q = some (.lst []) := bt1 _ _ (Ha tb0 A1 fun u z => by cases z) A1
  have rq : r ≠ q := fun z => by rw [z, A1] at hr1; cases hr1
  have keepB : ∀ (H' : Hp), (∀ b o, b ≠ q -> H1 b = some o -> H' b = some o) -> But Pt H H' := fun H' kp b o nb e => kp _ _ (A9 e hq) (bt1 _ _ nb (u0 _ _ e))
  have keepT : ∀ (H' : Hp), (∀ b o, b ≠ q -> H1 b = some o -> H' b = some o) -> Tb H' Pt := fun H' kp => by
   rcases tb1 with e | ⟨c, e, e2⟩
   ·exact .inl (kp _ _ (fun z => by rw [z, hq1] at e; cases e) e)
   ·exact .inr ⟨c, kp _ _ (fun z => by rw [z, hq1] at e; cases e) e, kp _ _ (fun z => by rw [z, hq1] at e2; cases e2) e2⟩
  have emp : TkAt H1 q (tkL plan w.name ws 0) := ⟨[], hq1, rfl, fun i k e => by cases e⟩
  refine Bd (Dh r _) (ma v a (.ref xe) q plan w.name ws H1) ⟨_, _, _, _, _, rfl, emp, fun b o _ e => e⟩ (fun i σ H' _ h => let ⟨_, _, _, _, _, _, _, kp⟩ := h; kp _ _ rq hr2) (fun i y σ H2 hi hy h => ?_) (fun σ H2 h => ?_)
  ·obtain ⟨o4, o5, o6, o7, o8, rfl, ta, kp⟩ := h
   rw [Zzz, Zzz] at hi
   obtain ⟨t0, ht0⟩ : ∃ t0, ws[i]? = some t0 := ⟨_, Zzu hi⟩
   rw [Zzx, Zzx, ht0] at hy
   have hy : V.str t0.name = y := Zzo hy
   subst hy
   have ht0m := od.1 t0 (Zzt ht0)
   have bt2 := keepB H2 kp
   have rs2 := RD.ku (Es tb bt2) _ _ (Ce S) rs
   walk_at "rd"
   refine ⟨v, S, t0.name, rfl, rs2, L.ok, Zzr.mpr ⟨t0, ht0m, rfl⟩, fun tv t htm etn rt => ?_⟩
   have ett : t = t0 := L9 L.nd htm ht0m etn
   subst ett
   have wb := g.ws.wb t htm
   obtain ⟨te, d1, d2, rfl, hte, rc, rp⟩ := B5 rt
   obtain ⟨pb, pv, rfl, hpb, rpv⟩ := RD.tup_of rp
   have hlp := Ao rpv
   have tq : ∀ {b : Addr} {xs : List V}, H2 b = some (.tup xs) -> b ≠ q := fun {b xs} e => by
    obtain ⟨vs, h1, _⟩ := ta
    exact M6 e h1 (fun z => by cases z)
   refine ⟨_, Ad (j := 6) hte rfl, pb, rfl, pv, hpb, ?_⟩
   have tl1 := Pr (plan := plan) (x := w.name) (ws := ws) (fun t ht => (g.ws.wb t (od.1 t ht)).parts) i
   refine Bd (Di pb _) (fun j σ H' => TkIn v a (.ref xe) q plan w.name ws t te i H1 j σ H' /\ KeepU H2 H') ⟨⟨_, _, _, rfl, by rw [show N6 plan w.name t 0 = [] from rfl, Zza]; exact ta, kp⟩, fun _ _ e => e⟩ (fun j σ H' _ h => h.2 _ _ hpb) (fun j y σ H3 hj hy h => ?_) (fun σ H3 h => ?_)
   ·obtain ⟨⟨o6, o7, o8, rfl, ta3, kp3⟩, ku3⟩ := h
    obtain ⟨pp, hpp, rpp⟩ := Ax rpv hy
    have hppm := Zzt hpp
    obtain ⟨pe, rfl, hpe⟩ := Kt rpp
    have es : N6 plan w.name t (j + 1) = N6 plan w.name t j ++ if pp.1 = w.name then [(t.name, t.lag, (Az (plan t.name) t.lag).map (· * pp.2))] else [] := Bj hpp
    have bt3 := keepB H3 kp3
    have hxe3 := Es tb bt3 _ _ hxe
    have pl3 := pl.tb tb bt3
    refine gt2 (ku3 _ _ hpe) ?_
    walk_at "rd"
    refine ⟨_, Ad (j := 0) hxe3 rfl, rfl, C9 (fun hz => ?_) (fun hz => ?_)⟩
    ·have hz : pp.1 = w.name := V.str.inj (of_decide_eq_true hz)
     refine ⟨a, .ref te, S, plan, t, fun _ => True, rfl, pl3.for _, trivial, n2, RD.ku ku3 _ _ (Ga t) rt, htm, wb.lag.1, by have := wb.lag.2; omega, fun b H4 hb4 hb5 sm4 => ⟨b, rfl, _, hb5, ?_⟩⟩
     obtain ⟨kvs, hkv, hpl⟩ := pl3
     obtain ⟨l, hv, hll, hlen, hbd⟩ := hpl t.name (Zzr.mpr ⟨t, htm, rfl⟩)
     have lb : (Az (plan t.name) t.lag).length = daysN S := by unfold Az; rw [At, hlen]
     refine G5 (Dh b _) (B3 (by rw [Zzz, lb]; exact n2)) (fun H' s' => s' _ _ hb5) (((Az (plan t.name) t.lag).map (· * pp.2)).map V.int) (by rw [Zzz, Zzz, Zzz]) (fun e y H5 he hy s' N M hN => ?_) (fun H5 s5 p hp => ?_)
     ·have hy := Fi hy
      subst hy
      walk_at "rd"
      rw [Zzz] at he
      have amt := wb.amts pp hppm
      refine ⟨.inr ⟨?_, by omega⟩, hN _ _ s' ?_⟩
      ·have bi := Us (B := 10 ^ 2000) (by decide +kernel) (fun x hx => ⟨(hbd x hx).1, Zwg (hbd x hx).2⟩) t.lag e
       have : (Az (plan t.name) t.lag).getD e 0 = bAt (plan t.name) t.lag e := by unfold Az; rw [Cp (by rw [hlen, <- lb]; exact he)]
       rw [this]
       omega
      ·rw [Zzx, Zzx, Zzu he, Zzh, Zzu he]
       rfl
     ·have s35 := sm4.trans s5
      have u6 := A3 (o := .lst (((Az (plan t.name) t.lag).map (· * pp.2)).map V.int)) hp
      have ta6 := (ta3.same s35).same u6
      have p6 := A1 (H := H5) (a := p) (o := .lst (((Az (plan t.name) t.lag).map (· * pp.2)).map V.int))
      have s36 := s35.trans u6
      have pq : p ≠ q := fun z => by obtain ⟨vs, h1, _⟩ := ta3; rw [z, s35 _ _ h1] at hp; cases hp
      generalize upd H5 p (.lst (((Az (plan t.name) t.lag).map (· * pp.2)).map V.int)) = H6 at ta6 p6 s36 ⊢
      refine ⟨Fs ta6.choose_spec.1, _, Ad (j := 1) (s36 _ _ (ku3 _ _ hte)) rfl, by decide, fun p2 hp2 => ?_⟩
      have u7 := A3 (o := .tup [V.str t.name, V.int t.lag, V.ref p]) hp2
      obtain ⟨vs, hvs, hvl, ta8⟩ := (ta6.same u7).put (k := (t.name, t.lag, (Az (plan t.name) t.lag).map (· * pp.2))) pq A1 (u7 _ _ p6)
      have tl2 := Rl plan w.name t j
      have w12p := wb.parts
      refine ⟨vs, hvs, dj (by rw [hvl, Zzm]; omega), ⟨_, _, _, rfl, ?_, fun b o nb e => ?_⟩, fun b xs e => ?_⟩
      ·rw [es, if_pos hz, <- Zyo]
       exact ta8
      ·rw [A8 nb]
       exact u7 _ _ (s36 _ _ (kp3 b o nb e))
      ·have e3 := ku3 _ _ e
       rw [A8 (fun z => by obtain ⟨vs, h1, _⟩ := ta3; rw [z, h1] at e3; cases e3)]
       exact u7 _ _ (s36 _ _ e3)
    ·have hz : ¬ pp.1 = w.name := fun e => hz (decide_eq_true (by rw [e]))
     refine ⟨⟨_, _, _, rfl, ?_, kp3⟩, ku3⟩
     rw [es, if_neg hz, Zza]
     exact ta3
   ·obtain ⟨⟨o6, o7, o8, rfl, ta3, kp3⟩, ku3⟩ := h
    rw [hlp] at ta3
    refine ⟨_, _, _, _, _, rfl, ?_, kp3⟩
    rw [show tkL plan w.name ws (i + 1) = tkL plan w.name ws i ++ N6 plan w.name t t.parts.length from Bj ht0]
    exact ta3
  ·obtain ⟨o4, o5, o6, o7, o8, rfl, ta, kp⟩ := h
   rw [Zzz, Zzz] at ta
   walk_at "rd"
   exact k q H2 hq ta (keepT H2 kp) (keepB H2 kp)
def Hd (Pt : Addr) : Sp := fun vs H Q _ => ∃ (v : V) (a : Addr) (x : V) (S : Sh) (plan : Str -> List Int) (w : Wr) (ws : List Wr) (sz : Int), vs = [v, .ref a, x] /\ RD H S.d v /\ PlanAt H a S plan /\ RD H w.d x /\ w ∈ S.wares /\ Good sz S /\ 0 < sz /\ sz <= 1000 /\ OrdOk S ws /\ Tb H Pt /\
 ∀ q H', H q = none -> RD H' (.list ((K6 ((G6 S plan w ws (daysN S)).map dr)).map it2)) (.ref q) -> Tb H' Pt -> But Pt H H' -> Q (.ref q) H'
def mz (v : V) (a : Addr) (x : V) (tk q : Addr) (S : Sh) (plan : Str -> List Int) (w : Wr) (ws : List Wr) (H1 : Hp) (i : Nat) (σ : St) (H' : Hp) : Prop := ∃ o5 o6 o7 o8 o9 o10 : Option V, σ = [some v, some (.ref a), some x, some (.ref tk), some (.ref q), o5, o6, o7, o8, o9, o10] /\ Acc H1 H' q (((G6 S plan w ws i).map dr).map it2)
def my (v : V) (a : Addr) (x : V) (tk q : Addr) (S : Sh) (plan : Str -> List Int) (w : Wr) (ws : List Wr) (d : Nat) (dv : V) (H1 : Hp) (j : Nat) (σ : St) (H' : Hp) : Prop := ∃ o6 o7 o8 o9 o10 : Option V, σ = [some v, some (.ref a), some x, some (.ref tk), some (.ref q), some dv, o6, o7, o8, o9, o10] /\ Acc H1 H' q (((G6 S plan w ws d ++ Fp S.wants w.name d j).map dr).map it2)
def NbTk (v : V) (a : Addr) (x : V) (tk q : Addr) (S : Sh) (plan : Str -> List Int) (w : Wr) (ws : List Wr) (d : Nat) (dv : V) (H1 : Hp) (j : Nat) (σ : St) (H' : Hp) : Prop := ∃ o6 o7 o8 o9 o10 : Option V, σ = [some v, some (.ref a), some x, some (.ref tk), some (.ref q), some dv, o6, o7, o8, o9, o10] /\ Acc H1 H' q (((G6 S plan w ws d ++ Fp S.wants w.name d S.wants.length ++ ((tkL plan w.name ws ws.length).take j).map (M5 d)).map dr).map it2)
theorem sc_needs_by_days : Al ["shop", "plan", "ware", "takers", "told", "day", "number", "want", "name", "lag", "takes"] ["shop", "plan", "ware"] (Aa C5) := by constructor <;> first | rfl | decide +kernel
theorem Ln (F : Fun K "needs_by_days" "needs_by_days" C5 f fd) (T : Txt mg) (Zub : Has P w K mg base "takers_of" 7 ["shop", "plan", "ware"] (Kj Pt)) (Zvg : Has P w K mg base "without_nothing" 1 ["amounts"] sp_without_nothing) : FnOk P w K mg base CX0 8 f fd ["shop", "plan", "ware"] (Hd Pt) := by
 refine F.ok sc_needs_by_days (fun vs H Q E h => ?_) (fun cdv A outer s H vs Q E hr h => ?_)
 ·obtain ⟨v, a, x, S, plan, w, ws, sz, rfl, _⟩ := h
  rfl
 ·obtain ⟨v, a, x, S, plan, w, ws, sz, rfl, rs, pl, rx, hm, g, z0, z1, od, tb, k⟩ := h
  have hu := B8 hr
  obtain ⟨n1, n2, n3, n4⟩ := g.days z0 z1
  refine ⟨_, (A2 (Af (i := 3) sc_needs_by_days.nd rfl (Zzw rfl) (Ab Zub hr.z rfl (A4 (pv 0) (A4 (pv 1) (A4 (pv 2) A0)))))
 (A2 (Af (i := 4) sc_needs_by_days.nd rfl (Zzw rfl) (Bk (A4 (Aq (A4 (Aq (A4 Bu A0)) (A4 (A5 hu (pv 2) (Ah rfl T.Zuu) (fun _ _ => rfl)) A0))) A0)))
 (A2 (As PassesOwn.never rfl (Bs rfl T.Zvb (A4 (An B7 rfl T.Zvc D2 (A4 (A5 hu (pv 1) (A5 hu (pv 2) (Ah rfl T.Zvi) (fun _ _ => rfl)) (fun _ _ => rfl)) A0)) A0)) (Ac (i := 5) sc_needs_by_days.nd rfl (Zzw rfl))
 (A2 (As PassesOwn.never rfl (Ry rfl T.Zv4 (A4 (A5 hu (pv 0) A6 (fun _ _ => rfl)) A0)) (C1 (n := 2) rfl (Ag (Ac (i := 6) sc_needs_by_days.nd rfl (Zzw rfl)) (Ag (Ac (i := 7) sc_needs_by_days.nd rfl (Zzw rfl)) Bh)))
 (A7 (Bf (PW.pt (K4 (Ak (Bl hu) (A5 hu (pv 7) (Ah rfl T.Zv8) (fun _ _ => rfl)) (A5 hu (pv 2) (Ah rfl T.Zvi) (fun _ _ => rfl)) (Ap _)) (Hv (Ak (Bl hu) (A5 hu (pv 7) (Ah rfl T.Zv9) (fun _ _ => rfl)) (pv 5) (Ap _))))) (A7 (B9 (D5 Zzb Zz8 Zz7 B4 (pv 4) (A4 (Aq (A4 (Aq (A4 Bu (A4 (pv 6) A0))) (A4 (A5 hu (pv 7) (Ah rfl T.Zvf) (fun _ _ => rfl)) A0))) A0)))) Au)))
 (A7 (As PassesOwn.never rfl (C0 (pv 3)) (C1 (n := 3) rfl (Ag (Ac (i := 8) sc_needs_by_days.nd rfl (Zzw rfl)) (Ag (Ac (i := 9) sc_needs_by_days.nd rfl (Zzw rfl)) (Ag (Ac (i := 10) sc_needs_by_days.nd rfl (Zzw rfl)) Bh))))
 (A7 (B9 (D5 Zzb Zz8 Zz7 B4 (pv 4) (A4 (Aq (A4 (Aq (A4 Bu (A4 (pv 8) (A4 (Av Bw (pv 5) (pv 9)) A0)))) (A4 (A5 hu (pv 10) (pv 5) (fun _ _ => rfl)) A0))) A0))))))))
 (A7 (Am (Ab Zvg hr.z rfl (A4 (pv 4) A0))))))), ?_⟩
  have wlen := od.len
  have w12 := g.len.2
  have us20 := g.wants.1
  have wsp : ∀ t ∈ ws, t.parts.length <= 12 := fun t ht => (g.ws.wb t (od.1 t ht)).parts
  walk_at "rd"
  refine ⟨v, a, x, S, plan, w, ws, sz, rfl, rs, pl, rx, g, z0, z1, od, tb, fun tk H1 htk ta tb1 bt1 => ?_⟩
  have rs1 := RD.ku (Es tb bt1) _ _ (Ce S) rs
  have rx1 := RD.ku (Es tb bt1) _ _ (Ga w) rx
  have pl1 := pl.tb tb bt1
  obtain ⟨xe, c1, c2, rfl, hxe, _⟩ := B5 rx1
  obtain ⟨sa, sb, sc, wv, us, rfl, ha, hb, hc, rws, rus⟩ := Cd rs1
  have hlu := Ao rus
  obtain ⟨kvs, hkv, hpl⟩ := id pl1
  obtain ⟨l, hv, hll, hlen, hbd⟩ := hpl w.name (Zzr.mpr ⟨w, hm, rfl⟩)
  refine ⟨by decide, fun t1 ht1 => ⟨_, Ad (j := 3) (A3 ht1 _ _ hxe) rfl, by decide, fun t2 ht2 => ⟨by decide, fun q hq => ?_⟩⟩⟩
  have s2 := (A3 (o := .tup [V.str "floor"]) ht1).trans (A3 (o := .tup [V.ref t1, V.int w.floor]) ht2)
  have s3 := s2.trans (A3 (o := .lst [V.ref t2]) hq)
  have a0 : Acc H1 (upd (upd (upd H1 t1 (.tup [V.str "floor"])) t2 (.tup [V.ref t1, V.int w.floor])) q (.lst [V.ref t2])) q (((G6 S plan w ws 0).map dr).map it2) := by
   refine Acc.made s2 hq (RDs.one (Tr (t := .floor) A1 (M2 ?_ (RDs.one RD.str_mk)))) (Bo it2 Qn _)
   exact A3 ht2 _ _ A1
  refine ⟨_, Ad (j := 0) (s3 _ _ hxe) rfl, _, Cb (hkv.same s3) hv, l, rfl, _, .inl (s3 _ _ hll), by rw [Zzz, hlen]; omega, by rw [Zzz, hlen]; omega, ?_⟩
  rw [Zzz, hlen, show ((daysN S : Nat) : Int).toNat = daysN S by omega]
  generalize upd (upd (upd H1 t1 (.tup [V.str "floor"])) t2 (.tup [V.ref t1, V.int w.floor])) q (.lst [V.ref t2]) = H3 at a0 s3 ⊢
  refine Bd (Iy 0 _) (mz (.ref sa) a (.ref xe) tk q S plan w ws H1) ⟨_, _, _, _, _, _, rfl, a0⟩ (fun _ _ _ _ _ => trivial) (fun i y σ H4 hi hy h => ?_) (fun σ H4 h => ?_)
  ·obtain ⟨o5, o6, o7, o8, o9, o10, rfl, ac⟩ := h
   have hy : y = .int (i : Int) := by rw [hy, Zwf]
   subst hy
   have nl := Kv (plan := plan) (w := w) wsp (by omega) us20 i
   walk_at "rd"
   refine ⟨_, Ad (j := 1) (ac.same _ _ ha) rfl, sc, rfl, us, ac.same _ _ hc, ?_⟩
   refine Mb (Zr sc _) (my (.ref sa) a (.ref xe) tk q S plan w ws i (.int i) H1) ⟨_, _, _, _, _, rfl, by rw [show Fp S.wants w.name i 0 = [] from rfl, Zza]; exact ac⟩ (fun j σ H' _ h => let ⟨_, _, _, _, _, _, ac⟩ := h; ac.same _ _ hc) (fun j ys t' σ H6 hj hy h ht' => ?_) (fun σ H6 h => ?_)
   ·obtain ⟨o6, o7, o8, o9, o10, rfl, ac6⟩ := h
    obtain ⟨y, ey, rfl⟩ := hy
    obtain ⟨u, hu', ry⟩ := Ax rus ey
    obtain ⟨e, rfl, he⟩ := Kg ry
    refine gT2 ?_
    have ac7 := ac6.step (A3 (o := .tup [.int j, .ref e]) ht')
    generalize upd H6 t' (.tup [.int j, .ref e]) = H7 at ac7 ⊢
    have he7 := ac7.same _ _ he
    have cl := Fj S.wants w.name i j
    have es : Fp S.wants w.name i (j + 1) = Fp S.wants w.name i j ++ if u.1 = w.name /\ u.2.1 = (i : Int) then [(Th.want j, (i : Int), u.2.2)] else [] := Bj hu'
    have no : ¬ (u.1 = w.name /\ u.2.1 = (i : Int)) -> my (.ref sa) a (.ref xe) tk q S plan w ws i (.int i) H1 (j + 1) [some (.ref sa), some (.ref a), some (.ref xe), some (.ref tk), some (.ref q), some (.int i), some (.int j), some (.ref e), o8, o9, o10] H7 := fun c => by
     refine ⟨_, _, _, _, _, rfl, ?_⟩
     rw [es, if_neg c, Zza]
     exact ac7
    walk_at "rd"
    refine ⟨_, Ad (j := 0) he7 rfl, _, Ad (j := 0) (ac7.same _ _ hxe) rfl, rfl, C9 (fun hz => ?_) (fun hz => no fun c => hz (decide_eq_true (by rw [c.1])))⟩
    have hz : u.1 = w.name := V.str.inj (of_decide_eq_true hz)
    refine ⟨_, Ad (j := 1) he7 rfl, rfl, C9 (fun hz2 => ?_) (fun hz2 => no fun c => hz2 (decide_eq_true (by rw [c.2])))⟩
    have hz2 : u.2.1 = (i : Int) := V.int.inj (of_decide_eq_true hz2)
    refine ⟨ac7.ty, by decide, fun p1 hp1 => ⟨_, Ad (j := 2) (A3 hp1 _ _ he7) rfl, by decide, fun p2 hp2 => ?_⟩⟩
    have hjl : j < us.length := hj
    obtain ⟨vs, hvs, hvl, ac8⟩ := ac7.pair (n := u.2.2) (.want j) hp1 hp2 (RDs.cons RD.str_mk (RDs.one RD.int_mk)) (by rw [Zzz, Zzm]; omega)
    refine ⟨vs, hvs, hvl, _, _, _, _, _, rfl, ?_⟩
    rw [es, if_pos ⟨hz, hz2⟩, <- Zyo, Zzf]
    exact ac8
   ·obtain ⟨o6, o7, o8, o9, o10, rfl, ac6⟩ := h
    rw [hlu] at ac6
    have cl := Fj S.wants w.name i S.wants.length
    have tl := Pr (plan := plan) (x := w.name) wsp ws.length
    obtain ⟨tv, htv, htl, hta⟩ := id ta
    walk_at "rd"
    refine ⟨tv, ac6.same _ _ htv, ?_⟩
    refine Bd (Dh tk _) (NbTk (.ref sa) a (.ref xe) tk q S plan w ws i (.int i) H1) ⟨_, _, _, _, _, rfl, by rw [Zwr, Zxj, Zza]; exact ac6⟩ (fun j σ H' _ h => let ⟨_, _, _, _, _, _, ac⟩ := h; ac.same _ _ htv) (fun j y σ H7 hj hy h => ?_) (fun σ H7 h => ?_)
    ·obtain ⟨o6, o7, o8, o9, o10, rfl, ac7⟩ := h
     obtain ⟨kk, hkk⟩ : ∃ kk, (tkL plan w.name ws ws.length)[j]? = some kk := ⟨_, Zzu (by omega)⟩
     obtain ⟨te, r, e1, e2, e3, e4⟩ := hta j kk hkk
     rw [e1] at hy
     have hy : V.ref te = y := Zzo hy
     subst hy
     have e3' := ac7.same _ _ e3
     have e4' := ac7.same _ _ e4
     have rl : kk.2.2.length = daysN S := by
      have := Eu (f := fun _ (t : Wr) => N6 plan w.name t t.parts.length) (xs := ws) (i := ws.length) (C := fun k : Tk => k.2.2.length = daysN S) (fun _ t ht => Eu fun _ p hp y hy => by
       split at hy
       ·rw [Zz9.mp hy]
        show ((Az (plan t.name) t.lag).map (· * p.2)).length = daysN S
        obtain ⟨l', _, _, h3, _⟩ := hpl t.name (Zzr.mpr ⟨t, od.1 t (Zzt ht), rfl⟩)
        unfold Az
        rw [Zzz, At, h3]
       ·cases hy)
      exact this kk (Zzt hkk)
     refine gt3 e3' ?_
     walk_at "rd"
     refine ⟨ac7.ty, by decide, fun p1 hp1 => ⟨.int (kk.2.2.getD i 0), Fc (.inl (A3 hp1 _ _ e4')) (by omega) ?_, by decide, fun p2 hp2 => ?_⟩⟩
     ·rw [show ((i : Nat) : Int).toNat = i by omega, Zzx, Zzh, Zzu (by omega)]
      rfl
     ·obtain ⟨vs, hvs, hvl, ac8⟩ := ac7.pair (n := kk.2.2.getD i 0) (.part kk.1 (i + kk.2.1)) hp1 hp2 (RDs.cons RD.str_mk (RDs.cons RD.str_mk (RDs.one RD.int_mk))) (by rw [Zzz, Zzm, Zzm, Zzz, Zyq]; omega)
      refine ⟨vs, hvs, hvl, _, _, _, _, _, rfl, ?_⟩
      rw [Zz5, hkk]
      show Acc _ _ _ (Zxs it2 (Zxs dr (_ ++ Zxs (M5 i) (_ ++ [kk]))))
      rw [Zzf (f := M5 i), <- Zyo, Zzf (f := dr)]
      exact ac8
    ·obtain ⟨o6, o7, o8, o9, o10, rfl, ac7⟩ := h
     rw [htl, Zz1] at ac7
     refine ⟨_, _, _, _, _, _, rfl, ?_⟩
     rw [P7]
     unfold Qq
     rw [<- Zyo]
     exact ac7
  ·obtain ⟨o5, o6, o7, o8, o9, o10, rfl, ac⟩ := h
   have nl := Kv (plan := plan) (w := w) wsp (by omega) us20 (daysN S)
   walk_at "rd"
   refine ⟨q, (G6 S plan w ws (daysN S)).map dr, rfl, ac.rd, by rw [Zzz]; omega, fun q2 H5 a5 => ?_⟩
   have s5 := ac.same.trans a5.same
   exact k q2 H5 (Mp tb1 bt1 (Same.free ac.same a5.new)) a5.rd (tb1.same s5) (bt1.trans (Bt s5))
end
set_option maxHeartbeats 4000000
section
variable {P : Program} {w : World} {K : Zzv} {mg : Str -> Option Value} {base : Heap} {f : Addr} {fd : FuncData} {Pt : Addr}
theorem Acc.other {H0 H : Hp} {q p : Addr} {l : List PyData} {xs ys : List V} (a : Acc H0 H q l) (h0 : H0 p = none) (n : p ≠ q) (h : H p = some (.lst xs)) : Acc H0 (upd H p (.lst ys)) q l := by
 obtain ⟨vs, h1, h2⟩ := Bx a.rd
 exact ⟨a.new, fun b o e => by rw [A8 (A9 e h0)]; exact a.same b o e, Hu (by rw [A8 (Zzc n)]; exact h1) (RDs.ku (Fb h) _ _ a.nl h2), a.nl⟩
def W8 (ns : List (Th × Int)) (lac : List Int) (pl : Nat) (x : Int) : Prop := lac.length = ns.length /\ (pl < ns.length -> lac[pl]? = some (Ae ns (pl + 1) - x)) /\ ∀ j n, pl < j -> ns[j]? = some n -> lac[j]? = some n.2
def sp_pegged : Sp := fun vs H Q _ => ∃ (a b : Addr) (ss ns : List (Th × Int)), vs = [.ref a, .ref b] /\ RD H (.list (ss.map it2)) (.ref a) /\ RD H (.list (ns.map it2)) (.ref b) /\ (∀ x ∈ ss, 0 < x.2) /\ (∀ x ∈ ns, 0 < x.2) /\ ss.length <= 1000000 /\ ns.length <= 1000000 /\ ∀ q H', Acc H H' q ((Fe Th.left ss ns ss.length).map pgD) -> Q (.ref q) H'
def jo (a b q lk : Addr) (ss ns : List (Th × Int)) (H : Hp) (i : Nat) (σ : St) (H' : Hp) : Prop := ∃ (pl : Nat) (lac : List Int) (o5 o6 o7 o8 : Option V), σ = [some (.ref a), some (.ref b), some (.ref q), some (.ref lk), some (.int pl), o5, o6, o7, o8] /\ Acc H H' q ((Fe Th.left ss ns i).map pgD) /\ H' lk = some (.lst (lac.map V.int)) /\ pl <= ns.length /\ Ae ns pl <= Ae ss i /\ (pl < ns.length -> Ae ss i < Ae ns (pl + 1)) /\ W8 ns lac pl (Ae ss i)
def PgW (a b q lk : Addr) (ss ns : List (Th × Int)) (i : Nat) (sv : V) (s : Th × Int) (H : Hp) (m : Nat) (σ : St) (H' : Hp) : Prop := ∃ (x : Int) (pl mm : Nat) (lac : List Int) (o8 : Option V), m = (Ae ss (i + 1) - x).toNat /\ σ = [some (.ref a), some (.ref b), some (.ref q), some (.ref lk), some (.int pl), some sv, some (.int s.2), some (.int (Ae ss (i + 1) - x)), o8] /\
 Pp ns (Ae ss i) (Ae ss (i + 1)) x pl mm /\ Acc H H' q ((Fe Th.left ss ns i ++ Bg s.1 (Ae ss i) (Ae ss (i + 1)) ns mm).map pgD) /\ H' lk = some (.lst (lac.map V.int)) /\ W8 ns lac pl x
theorem sc_pegged : Al ["supplied", "needed", "told", "lacking", "place", "supply", "amount", "free", "share"] ["supplied", "needed"] (Aa Hh) := by constructor <;> first | rfl | decide +kernel
theorem Ww (F : Fun K "pegged" "pegged" Hh f fd) (T : Txt mg) : FnOk P w K mg base CX0 1 f fd ["supplied", "needed"] sp_pegged := by
 refine F.ok sc_pegged (fun vs H Q E h => ?_) (fun cdv A outer s H vs Q E hr h => ?_)
 ·obtain ⟨a, b, ss, ns, rfl, _⟩ := h
  rfl
 ·obtain ⟨a, b, ss, ns, rfl, ra, rb, ps, pn, ls, ln, k⟩ := h
  have hu := B8 hr
  refine ⟨_, (A2 (Af (i := 2) sc_pegged.nd rfl (Zzw rfl) (Bk A0))
 (A2 (Ft (own := ["need", "amount"]) (cap := []) (i := 3) rfl (E8 rfl) Pd sc_pegged.nd rfl rfl (C0 (pv 1))
 (fun _ _ _ _ _ _ => ⟨(C1 (n := 2) rfl (Ag (Ac (i := 0) (of_decide_eq_true rfl) rfl (Zzw rfl) (.inr rfl)) (Ag (Ac (i := 1) (of_decide_eq_true rfl) rfl (Zzw rfl) (.inr rfl)) Bh))), E3, (pv 1)⟩))
 (A2 (Af (i := 4) sc_pegged.nd rfl (Zzw rfl) A6)
 (A2 (As PassesOwn.never rfl (C0 (pv 0)) (C1 (n := 2) rfl (Ag (Ac (i := 5) sc_pegged.nd rfl (Zzw rfl)) (Ag (Ac (i := 6) sc_pegged.nd rfl (Zzw rfl)) Bh)))
 (A2 (Af (i := 7) sc_pegged.nd rfl (Zzw rfl) (pv 6))
 (A2 (Rv PassesOwn.never (PW.pt (K4 (Ak Ja (pv 7) A6 (Ap _)) (Hv (Ak (Ll hu) (pv 4) (An B7 rfl T.Zvc D2 (A4 (pv 1) A0)) (Ap _))))) (A2 (Af (i := 8) sc_pegged.nd rfl (Zzw rfl) (An (Lv rfl) rfl T.Ztt Uq (A4 (pv 7) (A4 (A5 hu (pv 3) (pv 4) (fun _ _ => rfl)) A0))))
 (A2 (B9 (D5 Zzb Zz8 Zz7 B4 (pv 2) (A4 (Aq (A4 (pv 5) (A4 (A5 hu (A5 hu (pv 1) (pv 4) (fun _ _ => rfl)) A6 (fun _ _ => rfl)) (A4 (pv 8) A0)))) A0)))
 (A2 (Li (i := 7) sc_pegged.nd rfl (Zzw rfl) (pv 8) R3)
 (A2 (Kp (pv 3) (pv 4) Kz (pv 8) R3 Dz)
 (A7 (Bf (Ak (Bl hu) (A5 hu (pv 3) (pv 4) (fun _ _ => rfl)) A6 (Ap _)) (A7 (Li (i := 4) sc_pegged.nd rfl (Zzw rfl) A6 Gb)) Au)))))))
 (A7 (Bf (Ak Ja (pv 7) A6 (Ap _)) (A7 (B9 (D5 Zzb Zz8 Zz7 B4 (pv 2) (A4 (Aq (A4 (pv 5) (A4 (Aq (A4 Bu A0)) (A4 (pv 7) A0)))) A0)))) Au)))))
 (A7 (Am (pv 2))))))), ?_⟩
  obtain ⟨va, ha, rva⟩ := Bx ra
  obtain ⟨vb, hb, rvb⟩ := Bx rb
  have hla := Ao rva
  have hlb := Ao rvb
  walk_at "rd"
  refine ⟨by decide, fun q hq => ?_⟩
  have u0 := A3 (o := .lst []) hq
  refine ⟨vb, u0 _ _ hb, ?_⟩
  refine G5 (Dh b _) (Xa (by omega)) (fun H' s' => s' _ _ (u0 _ _ hb)) ((ns.map (·.2)).map V.int) (by rw [Zzz, Zzz, hlb]) (fun j y H1 hj hy s1 N M hN => ?_) (fun H1 s1 lk hlk => ?_)
  ·obtain ⟨z, hz, rz⟩ := Ax rvb hy
   obtain ⟨e, x, rfl, he, rx⟩ := R1 rz
   refine gt2 (s1 _ _ (u0 _ _ he)) ?_
   walk_at "rd"
   exact hN _ _ s1 (by rw [Zzx, Zzx, hz]; rfl)
  have s01 := u0.trans s1
  have u2 := A3 (o := .lst ((ns.map (·.2)).map V.int)) hlk
  have s02 := s01.trans u2
  have lkf : H lk = none := Same.free s01 hlk
  have lkq : lk ≠ q := fun z => by rw [z, s1 _ _ A1] at hlk; cases hlk
  have a0 : Acc H (upd H1 lk (.lst ((ns.map (·.2)).map V.int))) q ((Fe Th.left ss ns 0).map pgD) := ⟨hq, s02, Hu (u2 _ _ (s1 _ _ A1)) RDs.nil, by show Ba [] = true; rw [Ba]⟩
  have hlk2 := A1 (H := H1) (a := lk) (o := .lst ((ns.map (·.2)).map V.int))
  generalize upd H1 lk (.lst ((ns.map (·.2)).map V.int)) = H2 at a0 hlk2 s02 ⊢
  have lac0 : W8 ns (ns.map (·.2)) 0 (Ae ss 0) := by
   have hat : ∀ (j : Nat) (n : Th × Int), ns[j]? = some n -> (ns.map (·.2))[j]? = some n.2 := fun j n e => by rw [Zzx, e]; rfl
   refine ⟨Zzz .., fun h => ?_, fun j n _ e => hat j n e⟩
   have e0 := Zzu h
   rw [hat 0 _ e0, Dx e0, show Ae ns 0 = 0 from rfl, show Ae ss 0 = 0 from rfl]
   congr 1
   omega
  refine ⟨va, a0.same _ _ ha, ?_⟩
  refine Bd (Dh a _) (jo a b q lk ss ns H) ⟨0, _, _, _, _, _, rfl, a0, hlk2, Zyr _, Zyx _, (fun h => by
   have e0 := Zzu h
   have := pn _ (Zzt e0)
   rw [Dx e0, show Ae ns 0 = 0 from rfl, show Ae ss 0 = 0 from rfl]
   omega), lac0⟩ (fun i σ H' _ h => let ⟨_, _, _, _, _, _, _, ac, _⟩ := h; ac.same _ _ ha) (fun i y σ H3 hi hy h => ?_) (fun σ H3 h => ?_)
  ·obtain ⟨pl, lac, o5, o6, o7, o8, rfl, ac, hlk3, h1, h2, h3, lo3⟩ := h
   obtain ⟨s, es, rsd⟩ := Ax rva hy
   have hsp := ps s (Zzt es)
   have ecs := Dx es
   obtain ⟨se, sv, rfl, hse, rsv⟩ := R1 rsd
   refine gt2 (ac.same _ _ hse) ?_
   walk_at "rd"
   obtain ⟨I0, row0⟩ := Rz (s := s.1) pn (lo := Ae ss i) (hi := Ae ss (i + 1)) (by omega) h1 h2 h3
   have hil : i < ss.length := (Zzg.mp es).1
   have dl := R7 (lf := Th.left) pn ps (i + 1) hil
   have edl : (Fe Th.left ss ns (i + 1)).length = (Fe Th.left ss ns i).length + (G4 Th.left ss ns i s).length := by
    unfold Fe
    rw [Bj es, Zzm]
   have edl2 : (Bg s.1 (Ae ss i) (Ae ss (i + 1)) ns ns.length).length <= (G4 Th.left ss ns i s).length := by
    unfold G4
    rw [Zzm]
    omega
   have enn : Ae ss (i + 1) - Ae ss i = s.2 := by omega
   refine ⟨PgW a b q lk ss ns i sv s H, ⟨_, Ae ss i, pl, pl, lac, _, rfl, by rw [enn], I0, by rw [row0, Zza]; exact ac, hlk3, lo3⟩, fun m σ H4 hW => ?_⟩
   obtain ⟨x, pl, mm, lac, o8, rfl, rfl, I, ac4, hlk4, lo4⟩ := hW
   have hb4 := ac4.same _ _ hb
   have rsv4 := RD.same ac4.same _ _ rsv
   have rowl : ∀ m, m <= ns.length -> (Fe Th.left ss ns i ++ Bg s.1 (Ae ss i) (Ae ss (i + 1)) ns m).length < 10000000 := fun m hm => by
    have := (G3 (s := s.1) (lo := Ae ss i) (hi := Ae ss (i + 1)) (ns := ns) hm).1
    rw [Zzm]
    omega
   walk_at "rd"
   refine C9 (fun c1 => ⟨vb, .inl hb4, C9 (fun c2 => ?_) (fun c2 => ?_)⟩) (fun c1 => ?_)
   ·have c1 : x < Ae ss (i + 1) := by have := of_decide_eq_true c1; omega
    have c2 : pl < ns.length := by have := of_decide_eq_true c2; rw [hlb] at this; omega
    obtain ⟨n, en⟩ : ∃ n, ns[pl]? = some n := ⟨_, Zzu c2⟩
    obtain ⟨p0, p1, p2, p3⟩ := ck (s := s.1) pn I c1 en
    have elac := lo4.2.1 c2
    obtain ⟨vn, evn, rvn⟩ := J8 rvb en
    obtain ⟨ne, nv, rfl, hne, rnv⟩ := R1 rvn
    refine ⟨fun σ' H' => ∃ m', m' < (Ae ss (i + 1) - x).toNat /\ PgW a b q lk ss ns i sv s H m' σ' H', fun σ' H' z => z, ?_⟩
    refine ⟨_, Fc (.inl hlk4) (by omega) (by rw [show ((pl : Nat) : Int).toNat = pl by omega, Zzx, elac]; rfl), _, rfl, ?_⟩
    have hmn : (if Ae ns (pl + 1) - x < Ae ss (i + 1) - x then Ae ns (pl + 1) - x else Ae ss (i + 1) - x) = mn (Ae ss (i + 1) - x) (Ae ns (pl + 1) - x) := rfl
    rw [hmn]
    generalize mn (Ae ss (i + 1) - x) (Ae ns (pl + 1) - x) = sh at p0 p1 p2 p3 ⊢
    have hne4 := ac4.same _ _ hne
    refine ⟨ac4.ty, _, Fc (.inl hb4) (by omega) (by rw [show ((pl : Nat) : Int).toNat = pl by omega]; exact evn), _, Ad (j := 0) hne4 rfl, by decide, fun t ht => ?_⟩
    obtain ⟨vs, hvs, hvl, ac5⟩ := ac4.peg (n := sh) ht rsv4 (RD.same ac4.same _ _ rnv) (rowl mm I.ml)
    rw [Zyo, <- p1] at ac5
    have hlk5 : upd (upd H4 t (.tup [sv, nv, .int sh])) q (.lst (vs ++ [.ref t])) lk = some (.lst (lac.map V.int)) := by
     rw [A8 lkq]
     exact A3 ht _ _ hlk4
    refine ⟨vs, hvs, hvl, ?_⟩
    generalize upd (upd H4 t (.tup [sv, nv, .int sh])) q (.lst (vs ++ [.ref t])) = H5 at ac5 hlk5 ⊢
    have hpl : pl < lac.length := by have := lo4.1; omega
    refine ⟨_, hlk5, by omega, .int (Ae ns (pl + 1) - x), by rw [show ((pl : Nat) : Int).toNat = pl by omega, Zzx, elac]; rfl, _, rfl, _, hlk5, pl, by unfold ixN; rw [Zzz, if_pos (by omega), if_pos (by omega)]; rfl, ?_⟩
    have lo5 : (lac.set pl (Ae ns (pl + 1) - x - sh)).length = ns.length /\ (lac.set pl (Ae ns (pl + 1) - x - sh))[pl]? = some (Ae ns (pl + 1) - x - sh) /\ ∀ j n, pl < j -> ns[j]? = some n -> (lac.set pl (Ae ns (pl + 1) - x - sh))[j]? = some n.2 := ⟨by rw [Zx2]; exact lo4.1, by rw [Zx8 hpl], fun j n hj e => by rw [Zy9 (by omega)]; exact lo4.2.2 j n hj e⟩
    rw [<- Zwh]
    have ac6 := ac5.other (ys := (lac.set pl (Ae ns (pl + 1) - x - sh)).map V.int) lkf lkq hlk5
    have hlk6 := A1 (H := H5) (a := lk) (o := .lst ((lac.set pl (Ae ns (pl + 1) - x - sh)).map V.int))
    generalize upd H5 lk (.lst ((lac.set pl (Ae ns (pl + 1) - x - sh)).map V.int)) = H6 at ac6 hlk6 ⊢
    generalize lac.set pl (Ae ns (pl + 1) - x - sh) = lac6 at lo5 hlk6 ⊢
    refine ⟨_, Fc (.inl hlk6) (by omega) (by rw [show ((pl : Nat) : Int).toNat = pl by omega, Zzx, lo5.2.1]; rfl), rfl, C9 (fun c => ?_) (fun c => ?_)⟩
    ·have c : Ae ns (pl + 1) - x - sh = 0 := V.int.inj (of_decide_eq_true c)
     have I6 := p2 c
     refine ⟨(Ae ss (i + 1) - (x + sh)).toNat, by omega, x + sh, pl + 1, pl + 1, lac6, some (.int sh), rfl, ?_, I6, ac6, hlk6, lo5.1, fun h => ?_, fun j n hj e => lo5.2.2 j n (by omega) e⟩
     ·rw [show Ae ss (i + 1) - (x + sh) = Ae ss (i + 1) - x - sh by omega]
      rfl
     ·have e1 := Zzu h
      rw [lo5.2.2 _ _ (Zwq _) e1, Dx e1]
      congr 1
      omega
    ·have c : ¬ Ae ns (pl + 1) - x - sh = 0 := fun e => c (decide_eq_true (by rw [e]))
     have I6 := p3 c
     refine ⟨(Ae ss (i + 1) - (x + sh)).toNat, by omega, x + sh, pl, pl + 1, lac6, some (.int sh), rfl, ?_, I6, ac6, hlk6, lo5.1, fun h => ?_, lo5.2.2⟩
     ·rw [show Ae ss (i + 1) - (x + sh) = Ae ss (i + 1) - x - sh by omega]
     ·rw [lo5.2.1, show Ae ns (pl + 1) - (x + sh) = Ae ns (pl + 1) - x - sh by omega]
   all_goals
    have hc : ¬ (x < Ae ss (i + 1) /\ pl < ns.length) := fun z => by
     first
     | exact c1 (decide_eq_true (by omega))
     | exact c2 (decide_eq_true (by rw [hlb]; omega))
    obtain ⟨d1, d2, d3, d4, d5⟩ := il (s := s.1) pn I (by omega) hc
    have lo7 : W8 ns lac pl (Ae ss (i + 1)) := ⟨lo4.1, fun h => by
     rw [lo4.2.1 h]
     have : x = Ae ss (i + 1) := by have := I.xhi; omega
     rw [this], lo4.2.2⟩
    have eat : Fe Th.left ss ns (i + 1) = Fe Th.left ss ns i ++ G4 Th.left ss ns i s := Bj es
    rw [d1] at ac4
    refine C9 (fun c => ?_) (fun c => ?_)
    ·have c : x < Ae ss (i + 1) := by have := of_decide_eq_true c; omega
     obtain ⟨e1, e2⟩ := d2 c
     refine ⟨ac4.ty, by decide, fun t1 ht1 => ⟨by decide, fun t ht => ?_⟩⟩
     have u1 := A3 (o := .tup [V.str "left"]) ht1
     have rl : RD (upd H4 t1 (.tup [V.str "left"])) Th.left.d (.ref t1) := M2 A1 (RDs.one RD.str_mk)
     obtain ⟨vs, hvs, hvl, ac7⟩ := (ac4.step u1).peg (n := Ae ss (i + 1) - x) ht (RD.same u1 _ _ rsv4) rl (rowl ns.length (Zzs _))
     refine ⟨vs, hvs, hvl, pl, lac, _, _, _, _, rfl, ?_, ?_, I.le, d4, d5, lo7⟩
     ·rw [eat]
      unfold G4
      rw [if_pos e1, <- Zyo, <- e2]
      exact ac7
     ·rw [A8 lkq]
      exact A3 ht _ _ (u1 _ _ hlk4)
    ·have c : ¬ x < Ae ss (i + 1) := fun h => c (decide_eq_true (by omega))
     refine ⟨pl, lac, _, _, _, _, rfl, ?_, hlk4, I.le, d4, d5, lo7⟩
     rw [eat]
     unfold G4
     rw [if_neg (d3 c), Zza]
     exact ac4
  ·obtain ⟨pl, lac, o5, o6, o7, o8, rfl, ac, hlk3, h1, h2, h3, lo3⟩ := h
   walk_at "rd"
   rw [hla] at ac
   exact k q H3 ac
def Rn (S : Sh) (plan : Str -> List Int) (w : Wr) : List (Th × Int) := (E7 (D3 plan w (daysN S))).map dr
def U8 (S : Sh) (plan : Str -> List Int) (w : Wr) (ws : List Wr) : List (Th × Int) := (E7 (G6 S plan w ws (daysN S))).map dr
def Me (S : Sh) (plan : Str -> List Int) (w : Wr) (ws : List Wr) : List (Th × Th × Int) := Fe Th.left (Rn S plan w) (U8 S plan w ws) (Rn S plan w).length
def Va (Pt : Addr) : Sp := fun vs H Q _ => ∃ (v : V) (a : Addr) (S : Sh) (plan : Str -> List Int) (w : Wr) (ws : List Wr) (sz : Int), vs = [v, .ref a, .str w.name] /\ RD H S.d v /\ PlanAt H a S plan /\ w ∈ S.wares /\ Good sz S /\ 0 < sz /\ sz <= 1000 /\ OrdOk S ws /\ Tb H Pt /\
 ∀ q H', H q = none -> RD H' (.list ((Me S plan w ws).map pgD)) (.ref q) -> Tb H' Pt -> But Pt H H' -> Q (.ref q) H'
theorem sc_pegs : Al ["shop", "plan", "name", "ware"] ["shop", "plan", "name"] (Aa Lf) := by constructor <;> first | rfl | decide +kernel
theorem d7 (F : Fun K "pegs" "pegs" Lf f fd) (T : Txt mg) (Zvj : Has P w K mg base "check_rings" 4 ["shop"] sp_check_rings) (Zvk : Has P w K mg base "ware_of" 1 ["shop", "name"] sp_ware_of) (Zu2 : Has P w K mg base "pegged" 1 ["supplied", "needed"] sp_pegged) (Zuw : Has P w K mg base "needs_by_days" 8 ["shop", "plan", "ware"] (Hd Pt)) (Zu8 : Has P w K mg base "supplies" 2 ["plan", "ware"] sp_supplies) : FnOk P w K mg base CX0 9 f fd ["shop", "plan", "name"] (Va Pt) := by
 refine F.ok sc_pegs (fun vs H Q E h => ?_) (fun cdv A outer s H vs Q E hr h => ?_)
 ·obtain ⟨v, a, S, plan, w, ws, sz, rfl, _⟩ := h
  rfl
 ·obtain ⟨v, a, S, plan, w, ws, sz, rfl, rs, pl, hm, g, z0, z1, od, tb, k⟩ := h
  have hu := B8 hr
  obtain ⟨n1, n2, n3, n4⟩ := g.days z0 z1
  refine ⟨_, (A2 (B9 (Ab Zvj hr.z rfl (A4 (pv 0) A0)))
 (A2 (Af (i := 3) sc_pegs.nd rfl (Zzw rfl) (Ab Zvk hr.z rfl (A4 (pv 0) (A4 (pv 2) A0))))
 (A7 (Am (Ab Zu2 hr.z rfl (A4 (Ab Zu8 hr.z rfl (A4 (pv 1) (A4 (pv 3) A0))) (A4 (Ab Zuw hr.z rfl (A4 (pv 0) (A4 (pv 1) (A4 (pv 3) A0)))) A0))))))), ?_⟩
  have sl := Fk (plan := plan) (g.com w hm).1 (daysN S)
  have nl := Kv (S := S) (plan := plan) (w := w) (fun t ht => (g.ws.wb t (od.1 t ht)).parts) (by have := od.len; have := g.len.2; omega) g.wants.1 (daysN S)
  have fl : ∀ l : List It3, (E7 l).length <= l.length := fun l => Zxw _ _
  have ls := fl (D3 plan w (daysN S))
  have ln := fl (G6 S plan w ws (daysN S))
  walk_at "rd"
  refine ⟨v, S, rfl, rs, g.ok, g.no, fun H1 sm1 => ?_⟩
  have rs1 := RD.same sm1 _ _ rs
  refine ⟨v, S, w.name, rfl, rs1, g.ok, Zzr.mpr ⟨w, hm, rfl⟩, fun x w' hw' ew rx => ?_⟩
  have ew := L9 g.ws.nd hw' hm ew
  subst ew
  have pl1 := pl.same sm1
  refine ⟨a, x, S, plan, w', sz, rfl, pl1, rx, hm, g, z0, z1, fun q1 H2 ac2 => ?_⟩
  have s2 := sm1.trans ac2.same
  have tb2 := tb.same s2
  refine ⟨v, a, x, S, plan, w', ws, sz, rfl, RD.same s2 _ _ rs, pl.same s2, RD.same ac2.same _ _ rx, hm, g, z0, z1, od, tb2, fun q2 H3 hq2 rd2 tb3 bt3 => ?_⟩
  have rd1 := Ng ac2.rd ac2.nl tb2 bt3
  rw [Tz] at rd1 rd2
  refine ⟨q1, q2, Rn S plan w', U8 S plan w' ws, rfl, rd1, rd2, ?_, ?_, ?_, ?_, fun q H4 ac4 => ?_⟩
  ·intro y hy
   unfold Rn at hy
   rw [<- Tz] at hy
   exact Rw y hy
  ·intro y hy
   unfold U8 at hy
   rw [<- Tz] at hy
   exact Rw y hy
  ·unfold Rn
   rw [Zzz]
   omega
  ·unfold U8
   rw [Zzz]
   omega
  ·have bt03 : But Pt H H3 := (Bt s2).trans bt3
   exact k q H4 (Mp tb3 bt03 ac4.new) ac4.rd (tb3.same ac4.same) (bt03.trans (Bt ac4.same))
end
set_option maxHeartbeats 4000000
section
variable {P : Program} {w : World} {K : Zzv} {mg : Str -> Option Value} {base : Heap} {f : Addr} {fd : FuncData} {Pt : Addr}
def gv (j : Nat) (v : V) (H : Hp) (i : Nat) (acc : List V) (H' : Hp) : Prop := acc = (if j < i then [v] else []) /\ Same H H'
def gw (l : List It3) (H : Hp) (i : Nat) (acc : List V) (H' : Hp) : Prop := RDs H' ((E7 (l.take i)).map it3) acc /\ Same H H'
theorem P5 {l : List It3} {i : Nat} {z : It3} (hz : l[i]? = some z) : E7 (l.take (i + 1)) = E7 (l.take i) ++ if 0 < z.2.2 then [z] else [] := by
 unfold E7
 rw [Zz5, hz, Zxp]
 congr 1
 show List.filter _ [z] = _
 by_cases c : 0 < z.2.2
 ·rw [if_pos c, Zxh, if_pos (decide_eq_true c)]
  rfl
 ·rw [if_neg c, Zxh, if_neg (fun h => c (of_decide_eq_true h))]
  rfl
theorem Kq (l : List It3) : (E7 l).length <= l.length := Zxw _ _
theorem Uz {S : Sh} (nd : (S.wares.map (·.name)).Nodup) {i j : Nat} {t w : Wr} (ht : S.wares[i]? = some t) (hw : S.wares[j]? = some w) (e : t.name = w.name) : i = j := by
 obtain ⟨i1, e1⟩ := Zzg.mp ht
 obtain ⟨i2, e2⟩ := Zzg.mp hw
 have q1 := nd.idxOf_getElem i (by rw [Zzz]; exact i1)
 have q2 := nd.idxOf_getElem j (by rw [Zzz]; exact i2)
 rw [List.getElem_map, e1, e] at q1
 rw [List.getElem_map, e2] at q2
 exact q1.symm.trans q2
def sp_law_supplied : Sp := fun vs H Q _ => ∃ (v : V) (a : Addr) (S : Sh) (plan : Str -> List Int) (w : Wr) (sz : Int), vs = [v, .ref a, .str w.name] /\ RD H S.d v /\ PlanAt H a S plan /\ w ∈ S.wares /\ Good sz S /\ 0 < sz /\ sz <= 1000 /\ ∀ q H', Acc H H' q ((E7 (D3 plan w (daysN S))).map it3) -> Q (.ref q) H'
def ng (v : V) (a : Addr) (nm : Str) (dv : V) (x : V) (q : Addr) (plan : Str -> List Int) (w : Wr) (H : Hp) (i : Nat) (σ : St) (H' : Hp) : Prop := ∃ o6 o7 : Option V, σ = [some v, some (.ref a), some (.str nm), some dv, some x, some (.ref q), o6, o7] /\ Acc H H' q ((D3 plan w i).map it3)
def LsIn (v : V) (a : Addr) (nm : Str) (dv : V) (x : V) (q : Addr) (plan : Str -> List Int) (w : Wr) (d : Nat) (H : Hp) (j : Nat) (σ : St) (H' : Hp) : Prop := ∃ o7 : Option V, σ = [some v, some (.ref a), some (.str nm), some dv, some x, some (.ref q), some (.int d), o7] /\ Acc H H' q ((D3 plan w d ++ Jn w d j).map it3)
theorem sc_law_supplied : Al ["_law_shop_here", "_law_plan", "_law_name", "_law_days", "_law_ware", "_law_found", "_law_day", "_law_k"] ["_law_shop_here", "_law_plan", "_law_name"] (Aa Ch) := by constructor <;> first | rfl | decide +kernel
theorem Mk (F : Fun K "_law_supplied" "_law_supplied" Ch f fd) (T : Txt mg) : FnOk P w K mg base CX0 1 f fd ["_law_shop_here", "_law_plan", "_law_name"] sp_law_supplied := by
 refine F.ok sc_law_supplied (fun vs H Q E h => ?_) (fun cdv A outer s H vs Q E hr h => ?_)
 ·obtain ⟨v, a, S, plan, w, sz, rfl, _⟩ := h
  rfl
 ·obtain ⟨v, a, S, plan, w, sz, rfl, rs, pl, hm, g, z0, z1, k⟩ := h
  have hu := B8 hr
  obtain ⟨n1, n2, n3, n4⟩ := g.days z0 z1
  refine ⟨_, (A2 (Af (i := 3) sc_law_supplied.nd rfl (Zzw rfl) (An B7 rfl T.Zvc D2 (A4 (A5 hu (pv 1) (pv 2) (fun _ _ => rfl)) A0)))
 (A2 (Af (i := 4) sc_law_supplied.nd rfl (Zzw rfl) (A5 hu (Df (own := ["_law_one"]) (cap := [2]) rfl (E8 rfl) (Bm (by decide)) (Cl (A5 hu (pv 0) A6 (fun _ _ => rfl)))
 (fun _ _ _ _ _ _ => ⟨(Ac (i := 0) (of_decide_eq_true rfl) rfl (Zzw rfl) (.inr rfl)), (Hw (Ak (Bl hu) (A5 hu (pv 0) A6 (fun _ _ => rfl)) (pv 1) (Ap _))), (pv 0)⟩)) A6 (fun _ _ => rfl)))
 (A2 (Af (i := 5) sc_law_supplied.nd rfl (Zzw rfl) (Bk (A4 (Aq (A4 (Aq (A4 Bu A0)) (A4 A6 (A4 (A5 hu (pv 4) A6 (fun _ _ => rfl)) A0)))) A0)))
 (A2 (As PassesOwn.never rfl (Bs rfl T.Zvb (A4 (pv 3) A0)) (Ac (i := 6) sc_law_supplied.nd rfl (Zzw rfl))
 (A2 (As PassesOwn.never rfl (Bs rfl T.Zvb (A4 (An B7 rfl T.Zvc D2 (A4 (A5 hu (pv 4) A6 (fun _ _ => rfl)) A0)) A0)) (Ac (i := 7) sc_law_supplied.nd rfl (Zzw rfl))
 (A7 (Bf (Ak (Bl hu) (A5 hu (A5 hu (A5 hu (pv 4) A6 (fun _ _ => rfl)) (pv 7) (fun _ _ => rfl)) A6 (fun _ _ => rfl)) (pv 6) (Ap _)) (A7 (B9 (D5 Zzb Zz8 Zz7 B4 (pv 5) (A4 (Aq (A4 (Aq (A4 Bu (A4 (pv 7) A0))) (A4 (pv 6) (A4 (A5 hu (A5 hu (A5 hu (pv 4) A6 (fun _ _ => rfl)) (pv 7) (fun _ _ => rfl)) A6 (fun _ _ => rfl)) A0)))) A0)))) Au)))
 (A7 (B9 (D5 Zzb Zz8 Zz7 B4 (pv 5) (A4 (Aq (A4 (Aq (A4 Bu (A4 (pv 6) A0))) (A4 (pv 6) (A4 (Av Ia (A5 hu (A5 hu (pv 1) (pv 2) (fun _ _ => rfl)) (pv 6) (fun _ _ => rfl)) (A5 hu (pv 4) A6 (fun _ _ => rfl))) A0)))) A0))))))
 (A7 (Am (Df (own := ["_law_one"]) (cap := []) rfl (E8 rfl) (Bm (by decide)) (C0 (pv 5))
 (fun _ _ _ _ _ _ => ⟨(Ac (i := 0) (of_decide_eq_true rfl) rfl (Zzw rfl) (.inr rfl)), (Hw (Ak Ja (A5 hu (pv 0) A6 (fun _ _ => rfl)) A6 (Ap _))), (pv 0)⟩)))))))), ?_⟩
  obtain ⟨sa, sb, sc, wv, us, rfl, ha, hb, hc, rws, rus⟩ := Cd rs
  have hlw := Ao rws
  have w12 := g.len.2
  obtain ⟨jw, hjw⟩ := Zxv.mp hm
  obtain ⟨xv, hxv, rx⟩ := J8 rws hjw
  obtain ⟨xe, c1, c2, rfl, hxe, rc, rp⟩ := B5 rx
  obtain ⟨cb, cv, rfl, hcb, rcv⟩ := RD.tup_of rc
  have hlc := Ao rcv
  have hc12 := (g.com w hm).1
  have wb := g.ws.wb w hm
  obtain ⟨kvs, hkv, hpl⟩ := id pl
  obtain ⟨l, hv, hll, hlen, hbd⟩ := hpl w.name (Zzr.mpr ⟨w, hm, rfl⟩)
  walk_at "rd"
  refine ⟨_, Cb hkv hv, l, rfl, _, .inl hll, _, Ad (j := 0) ha rfl, sb, rfl, wv, hb, ?_⟩
  have el : (((plan w.name).map V.int).length : Int) = (daysN S : Int) := by rw [Zzz, hlen]
  rw [el]
  refine Gx (Di sb _) (B3 (by omega)) (gv jw (.ref xe) H) ⟨rfl, Same.refl _⟩ (fun i acc H' _ h => h.2 _ _ hb) (fun i acc H' h => ?_) (fun i y acc H1 hi hy h => ?_) (fun acc H1 h p hp => ?_)
  ·rw [h.1]
   split
   ·rw [Zyl]; omega
   ·exact Zyr _
  ·obtain ⟨rfl, s1⟩ := h
   obtain ⟨t, ht, rt⟩ := Ax rws hy
   obtain ⟨te, d1, d2, rfl, hte, _⟩ := B5 rt
   walk_at "rd"
   refine ⟨_, Ad (j := 0) (s1 _ _ hte) rfl, rfl, C9 (fun hz => ⟨?_, s1⟩) (fun hz => ⟨?_, s1⟩)⟩
   ·have hz : t.name = w.name := V.str.inj (of_decide_eq_true hz)
    have ej := Uz g.ws.nd ht hjw hz
    subst ej
    rw [hxv] at hy
    have hy := Zzo hy
    rw [<- hy, if_neg (Zxa _), if_pos (Zwq _)]
    rfl
   ·have nj : i ≠ jw := fun e => by
     subst e
     rw [hjw] at ht
     have ht := Zzo ht
     exact hz (decide_eq_true (by rw [ht]))
    by_cases c : jw < i
    ·rw [if_pos c, if_pos (by omega)]
    ·rw [if_neg c, if_neg (by omega)]
  ·obtain ⟨rfl, s1⟩ := h
   have jl : jw < wv.length := (Zzg.mp hxv).1
   rw [if_pos jl] at *
   have s2 := s1.trans (A3 (o := .lst [V.ref xe]) hp)
   have hp2 := A1 (H := H1) (a := p) (o := .lst [V.ref xe])
   generalize upd H1 p (.lst [V.ref xe]) = H2 at s2 hp2 ⊢
   refine ⟨_, Ic (j := 0) hp2 rfl, by decide, fun t1 ht1 => ⟨_, Ad (j := 4) (A3 ht1 _ _ (s2 _ _ hxe)) rfl, by decide, fun t2 ht2 => ⟨by decide, fun q hq => ?_⟩⟩⟩
   have s4 := s2.trans ((A3 (o := .tup [V.str "stock"]) ht1).trans (A3 (o := .tup [V.ref t1, V.int 0, V.int w.stock]) ht2))
   have a0 : Acc H (upd (upd (upd H2 t1 (.tup [V.str "stock"])) t2 (.tup [V.ref t1, V.int 0, V.int w.stock])) q (.lst [V.ref t2])) q ((D3 plan w 0).map it3) := by
    refine Acc.made s4 hq (RDs.one (Q4 (t := .stock) A1 (M2 ?_ (RDs.one RD.str_mk)))) (Bo it3 Jc _)
    exact A3 ht2 _ _ A1
   generalize upd (upd (upd H2 t1 (.tup [V.str "stock"])) t2 (.tup [V.ref t1, V.int 0, V.int w.stock])) q (.lst [V.ref t2]) = H3 at a0 ⊢
   refine ⟨by omega, by omega, ?_⟩
   rw [show ((daysN S : Nat) : Int).toNat = daysN S by omega]
   refine Bd (Iy 0 _) (ng (.ref sa) a w.name (.int (daysN S)) (.ref xe) q plan w H) ⟨_, _, rfl, a0⟩ (fun _ _ _ _ _ => trivial) (fun i y σ H4 hi hy h => ?_) (fun σ H4 h => ?_)
   ·obtain ⟨o6, o7, rfl, ac⟩ := h
    have hy : y = .int (i : Int) := by rw [hy, Zwf]
    subst hy
    have sl := Fk (plan := plan) hc12 i
    walk_at "rd"
    refine ⟨_, Ad (j := 5) (ac.same _ _ hxe) rfl, cb, rfl, cv, .inr (ac.same _ _ hcb), by omega, by omega, ?_⟩
    rw [hlc, show ((w.coming.length : Nat) : Int).toNat = w.coming.length by omega]
    refine Bd (Iy 0 _) (LsIn (.ref sa) a w.name (.int (daysN S)) (.ref xe) q plan w i H) ⟨_, rfl, by rw [show Jn w i 0 = [] from rfl, Zza]; exact ac⟩ (fun _ _ _ _ _ => trivial) (fun j y σ H6 hj hy h => ?_) (fun σ H6 h => ?_)
    ·obtain ⟨o7, rfl, ac7⟩ := h
     have hy : y = .int (j : Int) := by rw [hy, Zwf]
     subst hy
     obtain ⟨c, hc⟩ : ∃ c, w.coming[j]? = some c := ⟨_, Zzu hj⟩
     obtain ⟨cu, hcu, rcu⟩ := J8 rcv hc
     obtain ⟨e, rfl, he⟩ := Uu rcu
     have he7 := ac7.same _ _ he
     have hxe7 := ac7.same _ _ hxe
     have hcb7 := ac7.same _ _ hcb
     have cl := Ho w i j
     have es : Jn w i (j + 1) = Jn w i j ++ if c.1 = (i : Int) then [(Th.coming j, (i : Int), c.2)] else [] := Bj hc
     have ij : ((j : Nat) : Int).toNat = j := by omega
     walk_at "rd"
     refine ⟨_, Ad (j := 5) hxe7 rfl, _, Fc (.inr hcb7) (by omega) (by rw [ij]; exact hcu), _, Ad (j := 0) he7 rfl, rfl, C9 (fun hz => ?_) (fun hz => ?_)⟩
     ·have hz : c.1 = (i : Int) := V.int.inj (of_decide_eq_true hz)
      refine ⟨ac7.ty, by decide, fun p1 hp1 => ?_⟩
      have u1 := A3 (o := .tup [V.str "coming", V.int j]) hp1
      refine ⟨_, Ad (j := 5) (u1 _ _ hxe7) rfl, _, Fc (.inr (u1 _ _ hcb7)) (by omega) (by rw [ij]; exact hcu), _, Ad (j := 1) (u1 _ _ he7) rfl, by decide, fun p2 hp2 => ?_⟩
      obtain ⟨vs, hvs, hvl, ac8⟩ := ac7.trip (m := (i : Int)) (n := c.2) (.coming j) hp1 hp2 (RDs.cons RD.str_mk (RDs.one RD.int_mk)) (by rw [Zzm]; omega)
      refine ⟨vs, hvs, hvl, _, rfl, ?_⟩
      rw [es, if_pos hz, <- Zyo]
      exact ac8
     ·have hz : ¬ c.1 = (i : Int) := fun e => hz (decide_eq_true (by rw [e]))
      refine ⟨_, rfl, ?_⟩
      rw [es, if_neg hz, Zza]
      exact ac7
    ·obtain ⟨o7, rfl, ac6⟩ := h
     have cl := Ho w i w.coming.length
     have hi : i < daysN S := hi
     walk_at "rd"
     refine ⟨ac6.ty, by decide, fun p1 hp1 => ?_⟩
     have u1 := A3 (o := .tup [V.str "lots", V.int i]) hp1
     refine ⟨_, Cb ((hkv.same ac6.same).same u1) hv, .int ((plan w.name).getD i 0), Fc (.inl (u1 _ _ (ac6.same _ _ hll))) (by omega) ?_, _, Ad (j := 2) (u1 _ _ (ac6.same _ _ hxe)) rfl, _, rfl, _, rfl, ?_, by decide, fun p2 hp2 => ?_⟩
     ·rw [show ((i : Nat) : Int).toNat = i by omega, Zzx, Zzh, Zzu (by omega)]
      rfl
     ·exact .inr ⟨by have := Mw (B := 10 ^ 2000) (by decide +kernel) (fun x hx => ⟨(hbd x hx).1, Zwg (hbd x hx).2⟩) i; omega, by have := wb.gives; omega⟩
     ·obtain ⟨vs, hvs, hvl, ac8⟩ := ac6.trip (m := (i : Int)) (n := (plan w.name).getD i 0 * w.gives) (.lots i) hp1 hp2 (RDs.cons RD.str_mk (RDs.one RD.int_mk)) (by rw [Zzm]; omega)
      refine ⟨vs, hvs, hvl, _, _, rfl, ?_⟩
      rw [N8]
      unfold N9
      rw [<- Zyo]
      exact ac8
   ·obtain ⟨o6, o7, rfl, ac⟩ := h
    have sl := Fk (plan := plan) hc12 (daysN S)
    obtain ⟨fv, hfv, rfv⟩ := Bx ac.rd
    have hlf := Ao rfv
    walk_at "rd"
    refine ⟨fv, hfv, ?_⟩
    refine Gx (Dh q _) (Xa (by omega)) (gw (D3 plan w (daysN S)) H4) ⟨RDs.nil, Same.refl _⟩ (fun i acc H' _ h => h.2 _ _ hfv) (fun i acc H' h => ?_) (fun i y acc H5 hi hy h => ?_) (fun acc H5 h p hp => ?_)
    ·rw [Ao h.1]
     exact Zyw (Kq _) (by rw [Zyq]; exact Zwt _ _)
    ·obtain ⟨r, s5⟩ := h
     obtain ⟨z, hz, rz⟩ := Ax rfv hy
     have et := P5 hz
     have rz1 := RD.same s5 _ _ rz
     obtain ⟨b, x, rfl, hb, rx⟩ := Ls rz1
     walk_at "rd"
     refine ⟨_, Ad (j := 2) hb rfl, _, rfl, C9 (fun c => ⟨?_, s5⟩) (fun c => ⟨?_, s5⟩)⟩
     ·rw [et, if_pos (of_decide_eq_true c), Zzf]
      exact RDs.app r (RDs.one rz1)
     ·rw [et, if_neg (fun h => c (decide_eq_true h)), Zza]
      exact r
    ·obtain ⟨r, s5⟩ := h
     rw [hlf, Zz1] at r
     exact k p _ (Acc.made (ac.same.trans s5) hp r (Bo it3 Jc _))
end
set_option maxHeartbeats 4000000
section
variable {P : Program} {w : World} {K : Zzv} {mg : Str -> Option Value} {base : Heap} {f : Addr} {fd : FuncData} {Pt : Addr}
def sp_law_needed : Sp := fun vs H Q _ => ∃ (v : V) (a od : Addr) (S : Sh) (plan : Str -> List Int) (w : Wr) (ws : List Wr) (sz : Int), vs = [v, .ref a, .ref od, .str w.name] /\ RD H S.d v /\ PlanAt H a S plan /\ RD H (.list (ws.map Wr.d)) (.ref od) /\ OrdOk S ws /\ w ∈ S.wares /\ Good sz S /\ 0 < sz /\ sz <= 1000 /\ ∀ q H', Acc H H' q ((E7 (G6 S plan w ws (daysN S))).map it3) -> Q (.ref q) H'
def np (v : V) (a od : Addr) (nm : Str) (dv : V) (x : V) (q : Addr) (S : Sh) (plan : Str -> List Int) (w : Wr) (ws : List Wr) (H : Hp) (i : Nat) (σ : St) (H' : Hp) : Prop := ∃ o7 o8 o9 o10 o11 o12 : Option V, σ = [some v, some (.ref a), some (.ref od), some (.str nm), some dv, some x, some (.ref q), o7, o8, o9, o10, o11, o12] /\ Acc H H' q ((El S plan w ws (daysN S) i).map it3)
def nh (v : V) (a od : Addr) (nm : Str) (dv : V) (x : V) (q : Addr) (S : Sh) (plan : Str -> List Int) (w : Wr) (ws : List Wr) (d : Nat) (H : Hp) (j : Nat) (σ : St) (H' : Hp) : Prop := ∃ o8 o9 o10 o11 o12 : Option V, σ = [some v, some (.ref a), some (.ref od), some (.str nm), some dv, some x, some (.ref q), some (.int d), o8, o9, o10, o11, o12] /\ Acc H H' q ((El S plan w ws (daysN S) d ++ Fp S.wants w.name d j).map it3)
def LnOt (v : V) (a od : Addr) (nm : Str) (dv : V) (x : V) (q : Addr) (S : Sh) (plan : Str -> List Int) (w : Wr) (ws : List Wr) (d : Nat) (H : Hp) (j : Nat) (σ : St) (H' : Hp) : Prop := ∃ o8 o9 o10 o11 o12 : Option V, σ = [some v, some (.ref a), some (.ref od), some (.str nm), some dv, some x, some (.ref q), some (.int d), o8, o9, o10, o11, o12] /\ Acc H H' q ((El S plan w ws (daysN S) d ++ Fp S.wants w.name d S.wants.length ++ Dl (fun _ (t : Wr) => Hl plan w.name (daysN S) d t t.parts.length) ws j).map it3)
def nk (v : V) (a od : Addr) (nm : Str) (dv : V) (x : V) (q : Addr) (S : Sh) (plan : Str -> List Int) (w : Wr) (ws : List Wr) (d : Nat) (tv : V) (t : Wr) (i : Nat) (H : Hp) (j : Nat) (σ : St) (H' : Hp) : Prop := ∃ o8 o10 o11 o12 : Option V, σ = [some v, some (.ref a), some (.ref od), some (.str nm), some dv, some x, some (.ref q), some (.int d), o8, some tv, o10, o11, o12] /\ Acc H H' q ((El S plan w ws (daysN S) d ++ Fp S.wants w.name d S.wants.length ++ Dl (fun _ (t : Wr) => Hl plan w.name (daysN S) d t t.parts.length) ws i ++ Hl plan w.name (daysN S) d t j).map it3)
theorem sc_law_needed : Al ["_law_shop_here", "_law_plan", "_law_order_of_here", "_law_name", "_law_days", "_law_ware", "_law_found", "_law_day", "_law_k", "_law_other", "_law_part", "_law_amount_here", "_law_comes"] ["_law_shop_here", "_law_plan", "_law_order_of_here", "_law_name"] (Aa Db) := by constructor <;> first | rfl | decide +kernel
theorem Om (F : Fun K "_law_needed" "_law_needed" Db f fd) (T : Txt mg) : FnOk P w K mg base CX0 1 f fd ["_law_shop_here", "_law_plan", "_law_order_of_here", "_law_name"] sp_law_needed := by
 refine F.ok sc_law_needed (fun vs H Q E h => ?_) (fun cdv A outer s H vs Q E hr h => ?_)
 ·obtain ⟨v, a, od, S, plan, w, ws, sz, rfl, _⟩ := h
  rfl
 ·obtain ⟨v, a, od, S, plan, w, ws, sz, rfl, rs, pl, rod, ord, hm, g, z0, z1, k⟩ := h
  have hu := B8 hr
  obtain ⟨n1, n2, n3, n4⟩ := g.days z0 z1
  refine ⟨_, (A2 (Af (i := 4) sc_law_needed.nd rfl (Zzw rfl) (An B7 rfl T.Zvc D2 (A4 (A5 hu (pv 1) (pv 3) (fun _ _ => rfl)) A0)))
 (A2 (Af (i := 5) sc_law_needed.nd rfl (Zzw rfl) (A5 hu (Df (own := ["_law_one"]) (cap := [3]) rfl (E8 rfl) (Bm (by decide)) (Cl (A5 hu (pv 0) A6 (fun _ _ => rfl)))
 (fun _ _ _ _ _ _ => ⟨(Ac (i := 0) (of_decide_eq_true rfl) rfl (Zzw rfl) (.inr rfl)), (Hw (Ak (Bl hu) (A5 hu (pv 0) A6 (fun _ _ => rfl)) (pv 1) (Ap _))), (pv 0)⟩)) A6 (fun _ _ => rfl)))
 (A2 (Af (i := 6) sc_law_needed.nd rfl (Zzw rfl) (Bk (A4 (Aq (A4 (Aq (A4 Bu A0)) (A4 A6 (A4 (A5 hu (pv 5) A6 (fun _ _ => rfl)) A0)))) A0)))
 (A2 (As PassesOwn.never rfl (Bs rfl T.Zvb (A4 (pv 4) A0)) (Ac (i := 7) sc_law_needed.nd rfl (Zzw rfl))
 (A2 (As PassesOwn.never rfl (Bs rfl T.Zvb (A4 (An B7 rfl T.Zvc D2 (A4 (A5 hu (pv 0) A6 (fun _ _ => rfl)) A0)) A0)) (Ac (i := 8) sc_law_needed.nd rfl (Zzw rfl))
 (A7 (Bf (PW.pt (K4 (Ak (Bl hu) (A5 hu (A5 hu (A5 hu (pv 0) A6 (fun _ _ => rfl)) (pv 8) (fun _ _ => rfl)) A6 (fun _ _ => rfl)) (pv 3) (Ap _)) (Hv (Ak (Bl hu) (A5 hu (A5 hu (A5 hu (pv 0) A6 (fun _ _ => rfl)) (pv 8) (fun _ _ => rfl)) A6 (fun _ _ => rfl)) (pv 7) (Ap _))))) (A7 (B9 (D5 Zzb Zz8 Zz7 B4 (pv 6) (A4 (Aq (A4 (Aq (A4 Bu (A4 (pv 8) A0))) (A4 (pv 7) (A4 (A5 hu (A5 hu (A5 hu (pv 0) A6 (fun _ _ => rfl)) (pv 8) (fun _ _ => rfl)) A6 (fun _ _ => rfl)) A0)))) A0)))) Au)))
 (A7 (As PassesOwn.never rfl (C0 (pv 2)) (Ac (i := 9) sc_law_needed.nd rfl (Zzw rfl))
 (A7 (As PassesOwn.never rfl (ik (A5 hu (pv 9) A6 (fun _ _ => rfl))) (C1 (n := 2) rfl (Ag (Ac (i := 10) sc_law_needed.nd rfl (Zzw rfl)) (Ag (Ac (i := 11) sc_law_needed.nd rfl (Zzw rfl)) Bh)))
 (A2 (Af (i := 12) sc_law_needed.nd rfl (Zzw rfl) (Av Bw (pv 7) (A5 hu (pv 9) A6 (fun _ _ => rfl))))
 (A7 (Bf (PW.pt (K4 (Ak (Bl hu) (pv 10) (pv 3) (Ap _)) (Hv (Ak (Ll hu) (pv 12) (pv 4) (Ap _))))) (A7 (B9 (D5 Zzb Zz8 Zz7 B4 (pv 6) (A4 (Aq (A4 (Aq (A4 Bu (A4 (A5 hu (pv 9) A6 (fun _ _ => rfl)) (A4 (pv 12) A0)))) (A4 (pv 7) (A4 (Av Ia (A5 hu (A5 hu (pv 1) (A5 hu (pv 9) A6 (fun _ _ => rfl)) (fun _ _ => rfl)) (pv 12) (fun _ _ => rfl)) (pv 11)) A0)))) A0)))) Au)))))))))
 (A7 (Am (Df (own := ["_law_one"]) (cap := []) rfl (E8 rfl) (Bm (by decide)) (C0 (pv 6))
 (fun _ _ _ _ _ _ => ⟨(Ac (i := 0) (of_decide_eq_true rfl) rfl (Zzw rfl) (.inr rfl)), (Hw (Ak Ja (A5 hu (pv 0) A6 (fun _ _ => rfl)) A6 (Ap _))), (pv 0)⟩)))))))), ?_⟩
  obtain ⟨sa, sb, sc, wv, us, rfl, ha, hb, hc, rws, rus⟩ := Cd rs
  obtain ⟨ov, hov, rov⟩ := Bx rod
  have hlo := Ao rov
  have hlw := Ao rws
  have hlu := Ao rus
  have w12 := g.len.2
  have us20 := g.wants.1
  have wlen := ord.len
  have wsp : ∀ t ∈ ws, t.parts.length <= 12 := fun t ht => (g.ws.wb t (ord.1 t ht)).parts
  obtain ⟨jw, hjw⟩ := Zxv.mp hm
  obtain ⟨xv, hxv, rx⟩ := J8 rws hjw
  obtain ⟨xe, c1, c2, rfl, hxe, rc, rp⟩ := B5 rx
  obtain ⟨kvs, hkv, hpl⟩ := id pl
  obtain ⟨l, hv, hll, hlen, hbd⟩ := hpl w.name (Zzr.mpr ⟨w, hm, rfl⟩)
  walk_at "rd"
  refine ⟨_, Cb hkv hv, l, rfl, _, .inl hll, _, Ad (j := 0) ha rfl, sb, rfl, wv, hb, ?_⟩
  have el : (((plan w.name).map V.int).length : Int) = (daysN S : Int) := by rw [Zzz, hlen]
  rw [el]
  refine Gx (Di sb _) (B3 (by omega)) (gv jw (.ref xe) H) ⟨rfl, Same.refl _⟩ (fun i acc H' _ h => h.2 _ _ hb) (fun i acc H' h => ?_) (fun i y acc H1 hi hy h => ?_) (fun acc H1 h p hp => ?_)
  ·rw [h.1]
   split
   ·rw [Zyl]; omega
   ·exact Zyr _
  ·obtain ⟨rfl, s1⟩ := h
   obtain ⟨t, ht, rt⟩ := Ax rws hy
   obtain ⟨te, d1, d2, rfl, hte, _⟩ := B5 rt
   walk_at "rd"
   refine ⟨_, Ad (j := 0) (s1 _ _ hte) rfl, rfl, C9 (fun hz => ⟨?_, s1⟩) (fun hz => ⟨?_, s1⟩)⟩
   ·have hz : t.name = w.name := V.str.inj (of_decide_eq_true hz)
    have ej := Uz g.ws.nd ht hjw hz
    subst ej
    rw [hxv] at hy
    have hy := Zzo hy
    rw [<- hy, if_neg (Zxa _), if_pos (Zwq _)]
    rfl
   ·have nj : i ≠ jw := fun e => by
     subst e
     rw [hjw] at ht
     have ht := Zzo ht
     exact hz (decide_eq_true (by rw [ht]))
    by_cases c : jw < i
    ·rw [if_pos c, if_pos (by omega)]
    ·rw [if_neg c, if_neg (by omega)]
  ·obtain ⟨rfl, s1⟩ := h
   have jl : jw < wv.length := (Zzg.mp hxv).1
   rw [if_pos jl] at *
   have s2 := s1.trans (A3 (o := .lst [V.ref xe]) hp)
   have hp2 := A1 (H := H1) (a := p) (o := .lst [V.ref xe])
   generalize upd H1 p (.lst [V.ref xe]) = H2 at s2 hp2 ⊢
   refine ⟨_, Ic (j := 0) hp2 rfl, by decide, fun t1 ht1 => ⟨_, Ad (j := 3) (A3 ht1 _ _ (s2 _ _ hxe)) rfl, by decide, fun t2 ht2 => ⟨by decide, fun q hq => ?_⟩⟩⟩
   have s4 := s2.trans ((A3 (o := .tup [V.str "floor"]) ht1).trans (A3 (o := .tup [V.ref t1, V.int 0, V.int w.floor]) ht2))
   have a0 : Acc H (upd (upd (upd H2 t1 (.tup [V.str "floor"])) t2 (.tup [V.ref t1, V.int 0, V.int w.floor])) q (.lst [V.ref t2])) q ((El S plan w ws (daysN S) 0).map it3) := by
    refine Acc.made s4 hq (RDs.one (Q4 (t := .floor) A1 (M2 ?_ (RDs.one RD.str_mk)))) (Bo it3 Jc _)
    exact A3 ht2 _ _ A1
   generalize upd (upd (upd H2 t1 (.tup [V.str "floor"])) t2 (.tup [V.ref t1, V.int 0, V.int w.floor])) q (.lst [V.ref t2]) = H3 at a0 ⊢
   refine ⟨by omega, by omega, ?_⟩
   rw [show ((daysN S : Nat) : Int).toNat = daysN S by omega]
   refine Bd (Iy 0 _) (np (.ref sa) a od w.name (.int (daysN S)) (.ref xe) q S plan w ws H) ⟨_, _, _, _, _, _, rfl, a0⟩ (fun _ _ _ _ _ => trivial) (fun i y σ H4 hi hy h => ?_) (fun σ H4 h => ?_)
   ·obtain ⟨o7, o8, o9, o10, o11, o12, rfl, ac⟩ := h
    have hy : y = .int (i : Int) := by rw [hy, Zwf]
    subst hy
    have nl := Nr (plan := plan) (w := w) (n := daysN S) wsp (by omega) us20 i
    walk_at "rd"
    refine ⟨_, Ad (j := 1) (ac.same _ _ ha) rfl, sc, rfl, us, .inr (ac.same _ _ hc), by omega, by omega, ?_⟩
    rw [hlu, show ((S.wants.length : Nat) : Int).toNat = S.wants.length by omega]
    refine Bd (Iy 0 _) (nh (.ref sa) a od w.name (.int (daysN S)) (.ref xe) q S plan w ws i H) ⟨_, _, _, _, _, rfl, by rw [show Fp S.wants w.name i 0 = [] from rfl, Zza]; exact ac⟩ (fun _ _ _ _ _ => trivial) (fun j y σ H6 hj hy h => ?_) (fun σ H6 h => ?_)
    ·obtain ⟨o8, o9, o10, o11, o12, rfl, ac7⟩ := h
     have hy : y = .int (j : Int) := by rw [hy, Zwf]
     subst hy
     obtain ⟨u, hu'⟩ : ∃ u, S.wants[j]? = some u := ⟨_, Zzu hj⟩
     obtain ⟨uv, huv, ruv⟩ := J8 rus hu'
     obtain ⟨e, rfl, he⟩ := Kg ruv
     have he7 := ac7.same _ _ he
     have ha7 := ac7.same _ _ ha
     have hc7 := ac7.same _ _ hc
     have cl := Fj S.wants w.name i j
     have ij : ((j : Nat) : Int).toNat = j := by omega
     have es : Fp S.wants w.name i (j + 1) = Fp S.wants w.name i j ++ if u.1 = w.name /\ u.2.1 = (i : Int) then [(Th.want j, (i : Int), u.2.2)] else [] := Bj hu'
     have no : ¬ (u.1 = w.name /\ u.2.1 = (i : Int)) -> nh (.ref sa) a od w.name (.int (daysN S)) (.ref xe) q S plan w ws i H (j + 1) [some (.ref sa), some (.ref a), some (.ref od), some (.str w.name), some (.int (daysN S)), some (.ref xe), some (.ref q), some (.int i), some (.int j), o9, o10, o11, o12] H6 := fun c => by
      refine ⟨_, _, _, _, _, rfl, ?_⟩
      rw [es, if_neg c, Zza]
      exact ac7
     walk_at "rd"
     refine ⟨_, Ad (j := 1) ha7 rfl, _, Fc (.inr hc7) (by omega) (by rw [ij]; exact huv), _, Ad (j := 0) he7 rfl, rfl, C9 (fun hz => ?_) (fun hz => no fun c => hz (decide_eq_true (by rw [c.1])))⟩
     have hz : u.1 = w.name := V.str.inj (of_decide_eq_true hz)
     refine ⟨_, Ad (j := 1) ha7 rfl, _, Fc (.inr hc7) (by omega) (by rw [ij]; exact huv), _, Ad (j := 1) he7 rfl, rfl, C9 (fun hz2 => ?_) (fun hz2 => no fun c => hz2 (decide_eq_true (by rw [c.2])))⟩
     have hz2 : u.2.1 = (i : Int) := V.int.inj (of_decide_eq_true hz2)
     refine ⟨ac7.ty, by decide, fun p1 hp1 => ?_⟩
     have u1 := A3 (o := .tup [V.str "want", V.int j]) hp1
     refine ⟨_, Ad (j := 1) (u1 _ _ ha7) rfl, _, Fc (.inr (u1 _ _ hc7)) (by omega) (by rw [ij]; exact huv), _, Ad (j := 2) (u1 _ _ he7) rfl, by decide, fun p2 hp2 => ?_⟩
     have hj : j < S.wants.length := hj
     obtain ⟨vs, hvs, hvl, ac8⟩ := ac7.trip (m := (i : Int)) (n := u.2.2) (.want j) hp1 hp2 (RDs.cons RD.str_mk (RDs.one RD.int_mk)) (by rw [Zzm]; omega)
     refine ⟨vs, hvs, hvl, _, _, _, _, _, rfl, ?_⟩
     rw [es, if_pos ⟨hz, hz2⟩, <- Zyo]
     exact ac8
    ·obtain ⟨o8, o9, o10, o11, o12, rfl, ac6⟩ := h
     have cl := Fj S.wants w.name i S.wants.length
     walk_at "rd"
     refine ⟨ov, ac6.same _ _ hov, ?_⟩
     refine Bd (Dh od _) (LnOt (.ref sa) a od w.name (.int (daysN S)) (.ref xe) q S plan w ws i H) ⟨_, _, _, _, _, rfl, by rw [show Dl (fun _ (t : Wr) => Hl plan w.name (daysN S) i t t.parts.length) ws 0 = [] from rfl, Zza]; exact ac6⟩ (fun j σ H' _ h => let ⟨_, _, _, _, _, _, ac⟩ := h; ac.same _ _ hov) (fun j y σ H7 hj hy h => ?_) (fun σ H7 h => ?_)
     ·obtain ⟨o8, o9, o10, o11, o12, rfl, ac7⟩ := h
      obtain ⟨t, ht, rt⟩ := Ax rov hy
      have htm := ord.1 t (Zzt ht)
      have wb := g.ws.wb t htm
      obtain ⟨te, d1, d2, rfl, hte, rc', rp'⟩ := B5 rt
      obtain ⟨pb, pv, rfl, hpb, rpv⟩ := RD.tup_of rp'
      have hlp := Ao rpv
      have hjl : j < ws.length := (Zzg.mp ht).1
      have tl := S2 (plan := plan) (x := w.name) (n := daysN S) (d := i) wsp j
      obtain ⟨lt, hvt, hlt, hlent, hbdt⟩ := hpl t.name (Zzr.mpr ⟨t, htm, rfl⟩)
      walk_at "rd"
      refine ⟨_, Ad (j := 6) (ac7.same _ _ hte) rfl, .inr (.inl ⟨pb, rfl, pv, ac7.same _ _ hpb, ?_⟩)⟩
      refine Bd (Di pb _) (nk (.ref sa) a od w.name (.int (daysN S)) (.ref xe) q S plan w ws i (.ref te) t j H) ⟨_, _, _, _, rfl, by rw [show Hl plan w.name (daysN S) i t 0 = [] from rfl, Zza]; exact ac7⟩ (fun e σ H' _ h => let ⟨_, _, _, _, _, ac⟩ := h; ac.same _ _ hpb) (fun e y σ H8 he hy h => ?_) (fun σ H8 h => ?_)
      ·obtain ⟨o8, o10, o11, o12, rfl, ac8⟩ := h
       obtain ⟨pp, hpp, rpp⟩ := Ax rpv hy
       have hppm := Zzt hpp
       obtain ⟨pe, rfl, hpe⟩ := Kt rpp
       have hte8 := ac8.same _ _ hte
       have es : Hl plan w.name (daysN S) i t (e + 1) = Hl plan w.name (daysN S) i t e ++ if pp.1 = w.name /\ (i : Int) + t.lag < (daysN S : Int) then [(Th.part t.name (i + t.lag), (i : Int), (plan t.name).getD ((i : Int) + t.lag).toNat 0 * pp.2)] else [] := Bj hpp
       have no : ¬ (pp.1 = w.name /\ (i : Int) + t.lag < (daysN S : Int)) -> ∀ o8 o10 o11 o12 : Option V, nk (.ref sa) a od w.name (.int (daysN S)) (.ref xe) q S plan w ws i (.ref te) t j H (e + 1) [some (.ref sa), some (.ref a), some (.ref od), some (.str w.name), some (.int (daysN S)), some (.ref xe), some (.ref q), some (.int i), o8, some (.ref te), o10, o11, o12] H8 := fun c o8 o10 o11 o12 => by
        refine ⟨_, _, _, _, rfl, ?_⟩
        rw [es, if_neg c, Zza]
        exact ac8
       refine gt2 (ac8.same _ _ hpe) ?_
       walk_at "rd"
       refine ⟨_, Ad (j := 1) hte8 rfl, _, rfl, rfl, C9 (fun hz => ?_) (fun hz => no (fun c => hz (decide_eq_true (by rw [c.1]))) _ _ _ _)⟩
       have hz : pp.1 = w.name := of_decide_eq_true hz
       refine C9 (fun hz2 => ?_) (fun hz2 => no (fun c => hz2 (decide_eq_true c.2)) _ _ _ _)
       have hz2 : (i : Int) + t.lag < (daysN S : Int) := of_decide_eq_true hz2
       have lag0 := wb.lag.1
       refine ⟨ac8.ty, _, Ad (j := 0) hte8 rfl, by decide, fun p1 hp1 => ?_⟩
       have u1 := A3 (o := .tup [V.str "part", V.str t.name, V.int (i + t.lag)]) hp1
       refine ⟨_, Ad (j := 0) (u1 _ _ hte8) rfl, _, Cb ((hkv.same ac8.same).same u1) hvt, .int ((plan t.name).getD ((i : Int) + t.lag).toNat 0), Fc (.inl (u1 _ _ (ac8.same _ _ hlt))) (by omega) ?_, _, rfl, ?_, by decide, fun p2 hp2 => ?_⟩
       ·rw [Zzx, Zzh, Zzu (by omega)]
        rfl
       ·exact .inr ⟨by have := Mw (B := 10 ^ 2000) (by decide +kernel) (fun x hx => ⟨(hbdt x hx).1, Zwg (hbdt x hx).2⟩) ((i : Int) + t.lag).toNat; omega, by have := wb.amts pp hppm; omega⟩
       ·have tl2 := P6 plan w.name (daysN S) i t e
        have he : e < pv.length := he
        have := wb.parts
        obtain ⟨vs, hvs, hvl, ac9⟩ := ac8.trip (m := (i : Int)) (n := (plan t.name).getD ((i : Int) + t.lag).toNat 0 * pp.2) (.part t.name (i + t.lag)) hp1 hp2 (RDs.cons RD.str_mk (RDs.cons RD.str_mk (RDs.one RD.int_mk))) (by rw [Zzm, Zzm, Zzm]; omega)
        refine ⟨vs, hvs, hvl, _, _, _, _, rfl, ?_⟩
        rw [es, if_pos ⟨hz, hz2⟩, <- Zyo]
        exact ac9
      ·obtain ⟨o8, o10, o11, o12, rfl, ac8⟩ := h
       rw [hlp] at ac8
       refine ⟨_, _, _, _, _, rfl, ?_⟩
       rw [Bj ht, <- Zyo]
       exact ac8
     ·obtain ⟨o8, o9, o10, o11, o12, rfl, ac7⟩ := h
      rw [hlo] at ac7
      refine ⟨_, _, _, _, _, _, rfl, ?_⟩
      rw [M7]
      unfold Ub
      rw [<- Zyo]
      exact ac7
   ·obtain ⟨o7, o8, o9, o10, o11, o12, rfl, ac⟩ := h
    have sl := Nr (plan := plan) (w := w) (n := daysN S) wsp (by omega) us20 (daysN S)
    obtain ⟨fv, hfv, rfv⟩ := Bx ac.rd
    have hlf := Ao rfv
    walk_at "rd"
    refine ⟨fv, hfv, ?_⟩
    refine Gx (Dh q _) (Xa (by omega)) (gw (El S plan w ws (daysN S) (daysN S)) H4) ⟨RDs.nil, Same.refl _⟩ (fun i acc H' _ h => h.2 _ _ hfv) (fun i acc H' h => ?_) (fun i y acc H5 hi hy h => ?_) (fun acc H5 h p hp => ?_)
    ·rw [Ao h.1]
     exact Zyw (Kq _) (by rw [Zyq]; exact Zwt _ _)
    ·obtain ⟨r, s5⟩ := h
     obtain ⟨z, hz, rz⟩ := Ax rfv hy
     have et := P5 hz
     have rz1 := RD.same s5 _ _ rz
     obtain ⟨b, x, rfl, hb, rx⟩ := Ls rz1
     walk_at "rd"
     refine ⟨_, Ad (j := 2) hb rfl, _, rfl, C9 (fun c => ⟨?_, s5⟩) (fun c => ⟨?_, s5⟩)⟩
     ·rw [et, if_pos (of_decide_eq_true c), Zzf]
      exact RDs.app r (RDs.one rz1)
     ·rw [et, if_neg (fun h => c (decide_eq_true h)), Zza]
      exact r
    ·obtain ⟨r, s5⟩ := h
     rw [hlf, Zz1] at r
     have a9 := Acc.made (ac.same.trans s5) hp r (Bo it3 Jc _)
     rw [<- de fun t ht => ?_] at a9
     ·exact k p _ a9
     ·obtain ⟨lt, _, _, e3, _⟩ := hpl t.name (Zzr.mpr ⟨t, ord.1 t ht, rfl⟩)
      exact ⟨e3, (g.ws.wb t (ord.1 t ht)).lag.1⟩
end
set_option maxHeartbeats 4000000
section
variable {P : Program} {w : World} {K : Zzv} {mg : Str -> Option Value} {base : Heap} {f : Addr} {fd : FuncData} {Pt : Addr}
theorem Py {kz : Str -> Int} {xs : List Str} {m : Nat} (h : ∀ x ∈ xs, 0 <= kz x /\ kz x < m) : Hr kz xs ((Zyy m).flatMap fun (l : Nat) => xs.filter fun x => decide (kz x = (l : Int))) := by
 have hx : ∀ i, i < xs.length -> xs.getD i "" ∈ xs := fun i hi => by rw [Zzh, Zzu hi]; exact Zw6 hi
 have pw : ((Zyy m).flatMap fun (l : Nat) => (Zyy xs.length).filter fun i => decide (kz (xs.getD i "") = (l : Int))).Pairwise (klt fun i => kz (xs.getD i "")) := by
  rw [List.pairwise_flatMap]
  refine ⟨fun l _ => ?_, ?_⟩
  ·refine List.Pairwise.imp_of_mem (R := fun a b => a < b) ?_ (List.pairwise_lt_range.filter _)
   intro a b ha hb hab
   have h1 := of_decide_eq_true (Zyg.mp ha).2
   have h2 := of_decide_eq_true (Zyg.mp hb).2
   exact .inr ⟨by show kz _ = kz _; rw [h1, h2], hab⟩
  ·refine List.pairwise_lt_range.imp fun {l1 l2} hl a ha b hb => ?_
   have h1 := of_decide_eq_true (Zyg.mp ha).2
   have h2 := of_decide_eq_true (Zyg.mp hb).2
   exact .inl (by show kz _ < kz _; rw [h1, h2]; omega)
 refine ⟨_, ?_, ?_, pw⟩
 ·refine (List.perm_ext_iff_of_nodup (pw.imp fun {a b} hab => ?_) List.nodup_range).mpr fun i => ?_
  ·rintro rfl
   unfold klt at hab
   omega
  ·rw [Zwm, Zxg]
   constructor
   ·rintro ⟨l, _, h2⟩
    exact Zxg.mp (Zyg.mp h2).1
   ·intro hi
    have := h _ (hx i hi)
    exact ⟨(kz (xs.getD i "")).toNat, Zxg.mpr (by omega), Zyg.mpr ⟨Zxg.mpr hi, decide_eq_true (by omega)⟩⟩
 ·rw [List.map_flatMap]
  congr 1
  funext l
  have e : xs = (Zyy xs.length).map fun i => xs.getD i "" := by
   apply Zxb
   intro i
   rw [Zzx]
   by_cases hi : i < xs.length
   ·rw [Zvx hi, Zzu hi]
    simp [Zzh, Zzu hi]
   ·rw [Zyp (by omega), Zyp (by simp; omega)]
    rfl
  conv => lhs; rw [e]
  rw [List.filter_map]
  rfl
theorem ld {S : Sh} (L : Lev S) {w : Wr} (hw : w ∈ S.wares) : lv S w.name < S.wares.length := by
 obtain ⟨r, h1, h2⟩ := L.low
 have key : ∀ k w, w ∈ S.wares -> lvF S k w.name < (S.wares.length : Int) - r w.name := fun k => by
  induction k with
  | zero =>
   intro w hw
   have := h1 w hw
   show (0 : Int) < _
   omega
  | succ k ih =>
   intro w hw
   have := h1 w hw
   refine Qu (by omega) fun y hy => ?_
   obtain ⟨u, hu, rfl⟩ := Zzr.mp hy
   obtain ⟨h3, h4⟩ := mem_users.mp hu
   obtain ⟨p, hp1, hp2⟩ := Zzr.mp h4
   have h5 := h2 u h3 p hp1
   rw [hp2] at h5
   have := ih u h3
   show 1 + lvF S k u.name < _
   omega
 have := key S.wares.length w hw
 unfold lv
 omega
def F0 (S : Sh) (n : Nat) : List Wr := (Zyy n).flatMap fun (l : Nat) => S.wares.filter fun w => decide (lv S w.name = (l : Int))
theorem Wp (S : Sh) (n : Nat) : F0 S (n + 1) = F0 S n ++ S.wares.filter fun w => decide (lv S w.name = (n : Int)) := by
 unfold F0
 rw [Zyd, Zyc, Zyh]
theorem cw {S : Sh} (L : Lev S) : OrdOk S (F0 S S.wares.length) := by
 refine ⟨fun t ht => ?_, ?_⟩
 ·unfold F0 at ht
  obtain ⟨l, _, h⟩ := Zwm.mp ht
  exact (Zyg.mp h).1
 ·have := Py (kz := lv S) (xs := Ar S) (m := S.wares.length) fun x hx => by
   obtain ⟨w, hw, rfl⟩ := Zzr.mp hx
   exact ⟨Sm S _, ld L hw⟩
  have e : (F0 S S.wares.length).map (·.name) = (Zyy S.wares.length).flatMap fun (l : Nat) => (Ar S).filter fun x => decide (lv S x = (l : Int)) := by
   unfold F0 Ar
   rw [List.map_flatMap]
   congr 1
   funext l
   rw [List.filter_map]
   rfl
  rw [e]
  exact this
theorem Acc.ext {H0 H : Hp} {q : Addr} {l m : List PyData} {zs : List V} (a : Acc H0 H q l) (r : RDs H m zs) (n : Ba m = true) : ∃ vs, H q = some (.lst vs) /\ vs.length = l.length /\ Acc H0 (upd H q (.lst (vs ++ zs))) q (l ++ m) := by
 obtain ⟨vs, h1, h2⟩ := Bx a.rd
 have kk : KeepU H (upd H q (.lst (vs ++ zs))) := Fb h1
 refine ⟨vs, h1, RDs.len h2, a.new, fun b o e => by rw [A8 (A9 e a.new)]; exact a.same b o e, ?_, Qm a.nl n⟩
 exact Hu A1 (RDs.app (RDs.ku kk _ _ a.nl h2) (RDs.ku kk _ _ n r))
def sp_law_order_of : Sp := fun vs H Q _ => ∃ (v : V) (S : Sh), vs = [v] /\ RD H S.d v /\ Tc S /\ ∀ q H', Acc H H' q ((F0 S S.wares.length).map Wr.d) -> Q (.ref q) H'
def mk (v : V) (p : Addr) (S : Sh) (H : Hp) (i : Nat) (σ : St) (H' : Hp) : Prop := ∃ o2 o3 o4 o5 o6 o7 : Option V, σ = [some v, some (.ref p), o2, o3, o4, o5, o6, o7] /\ H' p = some (.dK (fnD ((Ar S).take i) fun _ => 0)) /\ Same H H'
def mo (v : V) (p : Addr) (S : Sh) (H : Hp) (k : Nat) (σ : St) (H' : Hp) : Prop := ∃ (o2 o3 o4 o5 o6 o7 : Option V) (g : Str -> Int), σ = [some v, some (.ref p), o2, o3, o4, o5, o6, o7] /\ H' p = some (.dK (fnD (Ar S) g)) /\ (∀ x, 0 <= g x /\ lvF S k x <= g x /\ (x ∈ Ar S -> g x <= lv S x)) /\ Same H H'
def mq (v : V) (p : Addr) (S : Sh) (k : Nat) (H : Hp) (i : Nat) (σ : St) (H' : Hp) : Prop := ∃ (o2 o3 o4 o5 o6 o7 : Option V) (g : Str -> Int), σ = [some v, some (.ref p), o2, o3, o4, o5, o6, o7] /\ H' p = some (.dK (fnD (Ar S) g)) /\ W6 S k i 0 g /\ Same H H'
def mr (v : V) (p : Addr) (t : V) (S : Sh) (k i : Nat) (H : Hp) (j : Nat) (σ : St) (H' : Hp) : Prop := ∃ (o3 o4 o5 o6 o7 : Option V) (g : Str -> Int), σ = [some v, some (.ref p), some t, o3, o4, o5, o6, o7] /\ H' p = some (.dK (fnD (Ar S) g)) /\ W6 S k i j g /\ Same H H'
def mt (v : V) (p q : Addr) (S : Sh) (H : Hp) (i : Nat) (σ : St) (H' : Hp) : Prop := ∃ o2 o3 o4 o5 o7 : Option V, σ = [some v, some (.ref p), o2, o3, o4, o5, some (.ref q), o7] /\ H' p = some (.dK (fnD (Ar S) (lv S))) /\ Acc H H' q ((F0 S i).map Wr.d)
def mv (S : Sh) (l : Nat) (H : Hp) (i : Nat) (acc : List V) (H' : Hp) : Prop := RDs H' (((S.wares.take i).filter fun w => decide (lv S w.name = (l : Int))).map Wr.d) acc /\ Same H H'
theorem sc_law_order_of : Al ["_law_shop_here", "_law_deep", "_law_ware", "_law_turn", "_law_part", "_law_amount_here", "_law_found", "_law_level"] ["_law_shop_here"] (Aa Cj) := by constructor <;> first | rfl | decide +kernel
theorem Mm (F : Fun K "_law_order_of" "_law_order_of" Cj f fd) (T : Txt mg) : FnOk P w K mg base CX0 1 f fd ["_law_shop_here"] sp_law_order_of := by
 refine F.ok sc_law_order_of (fun vs H Q E h => ?_) (fun cdv A outer s H vs Q E hr h => ?_)
 ·obtain ⟨v, S, rfl, _⟩ := h
  rfl
 ·obtain ⟨v, S, rfl, rs, L, k⟩ := h
  have hu := B8 hr
  refine ⟨_, (A2 (Af (i := 1) sc_law_order_of.nd rfl (Or.inr rfl) Fv)
 (A2 (As PassesOwn.never rfl (Cl (A5 hu (pv 0) A6 (fun _ _ => rfl))) (Ac (i := 2) sc_law_order_of.nd rfl (Zzw rfl))
 (A7 (Ek A6 (Ez (pv 1) (A5 hu (pv 2) A6 (fun _ _ => rfl)) (E2 hu)))))
 (A2 (As PassesOwn.never rfl (Bs rfl T.Zvb (A4 (An B7 rfl T.Zvc D2 (A4 (A5 hu (pv 0) A6 (fun _ _ => rfl)) A0)) A0)) (Ac (i := 3) sc_law_order_of.nd rfl (Zzw rfl))
 (A7 (As PassesOwn.never rfl (Cl (A5 hu (pv 0) A6 (fun _ _ => rfl))) (Ac (i := 2) sc_law_order_of.nd rfl (Zzw rfl))
 (A7 (As PassesOwn.never rfl (Cl (A5 hu (pv 2) A6 (fun _ _ => rfl))) (C1 (n := 2) rfl (Ag (Ac (i := 4) sc_law_order_of.nd rfl (Zzw rfl)) (Ag (Ac (i := 5) sc_law_order_of.nd rfl (Zzw rfl)) Bh)))
 (A7 (Ek (An (Hq rfl) rfl T.Zuf Kc (A4 (A5 hu (pv 1) (pv 4) (fun _ _ => rfl)) (A4 (Av Bw (A5 hu (pv 1) (A5 hu (pv 2) A6 (fun _ _ => rfl)) (fun _ _ => rfl)) A6) A0))) (Ez (pv 1) (pv 4) (E2 hu)))))))))
 (A2 (Af (i := 6) sc_law_order_of.nd rfl (Zzw rfl) (Bk A0))
 (A2 (As PassesOwn.never rfl (Bs rfl T.Zvb (A4 (An B7 rfl T.Zvc D2 (A4 (A5 hu (pv 0) A6 (fun _ _ => rfl)) A0)) A0)) (Ac (i := 7) sc_law_order_of.nd rfl (Or.inr rfl))
 (A7 (B9 (D5 Zzb PySem.F.slot_list_extend PySem.F.type_list_extend X3 (pv 6) (A4 (Df (own := ["_law_ware"]) (cap := [1, 7]) rfl (E8 rfl) (Bm (by decide)) (Cl (A5 hu (pv 0) A6 (fun _ _ => rfl)))
 (fun _ _ _ _ _ _ => ⟨(Ac (i := 0) (of_decide_eq_true rfl) rfl (Zzw rfl) (.inr rfl)), (Hw (Ak (Bl hu) (A5 hu (pv 1) (A5 hu (pv 0) A6 (fun _ _ => rfl)) (fun _ _ => rfl)) (pv 2) (Ap _))), (pv 0)⟩)) A0)))))
 (A7 (Am (pv 6)))))))), ?_⟩
  have hfew := L.few
  have hnl := Ca S
  obtain ⟨a, b, c, ws, us, rfl, ha, hb, hc, rws, rus⟩ := Cd rs
  have hl := Ao rws
  walk_at "rd"
  intro p fp
  have u1 := A3 (o := .dK []) fp
  refine ⟨_, Ad (j := 0) (u1 _ _ ha) rfl, b, rfl, _, u1 _ _ hb, ?_⟩
  refine Bd (Di b _) (mk (.ref a) p S H) ⟨_, _, _, _, _, _, rfl, A1, u1⟩ (fun i σ H' _ h => let ⟨_, _, _, _, _, _, _, _, s⟩ := h; s _ _ hb) (fun i x σ H3 hi hx h => ?_) (fun σ H3 h => ?_)
  ·obtain ⟨o2, o3, o4, o5, o6, o7, rfl, hp3, s3⟩ := h
   obtain ⟨t, ht, rt⟩ := Ax rws hx
   obtain ⟨te, d1, d2, rfl, hte, _⟩ := B5 rt
   have en : (Ar S)[i]? = some t.name := by unfold Ar; rw [Zzx, ht]; rfl
   walk_at "rd"
   refine ⟨_, Ad (j := 0) (s3 _ _ hte) rfl, _, .inr t.name, rfl, hp3, ?_, ⟨_, _, _, _, _, _, rfl, ?_, fun b' o' hb' => by rw [A8 (A9 hb' fp)]; exact s3 b' o' hb'⟩⟩
   ·rw [L3, Zyq]
    exact Zyk (m := 1000) (by omega) (by decide)
   ·have nin : t.name ∉ (Ar S).take i := Eb L.nd en
    rw [A1, R6 nin, Zz5, en]
    exact congrArg (fun z => some (HO.dK z)) (Hm fun x _ => by split <;> rfl)
  ·obtain ⟨o2, o3, o4, o5, o6, o7, rfl, hp3, s3⟩ := h
   have hfull : (Ar S).take S.wares.length = Ar S := by rw [<- hnl]; exact Zz1
   rw [hl, hfull] at hp3
   walk_at "rd"
   refine ⟨_, Ad (j := 0) (s3 _ _ ha) rfl, b, rfl, _, .inr (s3 _ _ hb), by omega, by omega, ?_⟩
   have en : ((ws.length : Nat) : Int).toNat = S.wares.length := by omega
   rw [en]
   refine Bd (Iy 0 _) (mo (.ref a) p S H) ⟨_, _, _, _, _, _, fun _ => 0, rfl, hp3, fun x => ⟨Zyx _, Zyx _, fun _ => Sm S x⟩, s3⟩ (fun _ _ _ _ _ => trivial) (fun k' x σ H4 hi hx h => ?_) (fun σ H4 h => ?_)
   ·obtain ⟨o2, o3, o4, o5, o6, o7, g, rfl, hp4, hg, s4⟩ := h
    walk_at "rd"
    refine ⟨_, Ad (j := 0) (s4 _ _ ha) rfl, b, rfl, _, s4 _ _ hb, ?_⟩
    refine Bd (Di b _) (mq (.ref a) p S k' H) ⟨_, _, _, _, _, _, g, rfl, hp4, ⟨hg, (fun w hw => by cases hw), fun w _ p hp => by cases hp⟩, s4⟩ (fun i σ H' _ h => let ⟨_, _, _, _, _, _, _, _, _, _, s⟩ := h; s _ _ hb) (fun i y σ H5 hi2 hy h => ?_) (fun σ H5 h => ?_)
    ·obtain ⟨o2, o3, o4, o5, o6, o7, g, rfl, hp5, hg, s5⟩ := h
     obtain ⟨t, ht, rt⟩ := Ax rws hy
     have htm := Zzt ht
     obtain ⟨te, d1, d2, rfl, hte, rc, rp⟩ := B5 rt
     obtain ⟨pb, pv, rfl, hpb, rpv⟩ := RD.tup_of rp
     have hlp := Ao rpv
     walk_at "rd"
     refine ⟨_, Ad (j := 6) (s5 _ _ hte) rfl, pb, rfl, pv, s5 _ _ hpb, ?_⟩
     refine Bd (Di pb _) (mr (.ref a) p (.ref te) S k' i H) ⟨_, _, _, _, _, g, rfl, hp5, hg, s5⟩ (fun j σ H' _ h => let ⟨_, _, _, _, _, _, _, _, _, s⟩ := h; s _ _ hpb) (fun j z σ H7 hj hz h => ?_) (fun σ H7 h => ?_)
     ·obtain ⟨o3, o4, o5, o6, o7, g, rfl, hp7, hg, s7⟩ := h
      obtain ⟨pp, hpp, rpp⟩ := Ax rpv hz
      have hpm := Zzt hpp
      obtain ⟨pe, rfl, hpe⟩ := Kt rpp
      have hown : pp.1 ∈ Ar S := L.own t htm pp hpm
      have htn : t.name ∈ Ar S := Zzr.mpr ⟨t, htm, rfl⟩
      refine gt2 (s7 _ _ hpe) ?_
      walk_at "rd"
      have hg1 := (hg.1 pp.1)
      have hgt := (hg.1 t.name)
      have hup : g t.name + 1 <= lv S pp.1 := by have h1 := hgt.2.2 htn; have h2 := Kx L.toLev htm hpm; omega
      refine ⟨.int (g pp.1), Cb (.inl hp7) (Gc hown), _, Ad (j := 0) (s7 _ _ hte) rfl, .int (g t.name), Cb (.inl hp7) (Gc htn), _, rfl, _, rfl, _, .inr pp.1, rfl, hp7, by rw [L3, hnl]; exact Zyk (m := 1000) (by omega) (by decide), ?_⟩
      rw [Vx hown]
      refine ⟨_, _, _, _, _, fun x => if x = pp.1 then (if g t.name + 1 > g pp.1 then g t.name + 1 else g pp.1) else g x, rfl, A1, ?_, fun b' o' hb' => by rw [A8 (A9 hb' fp)]; exact s7 b' o' hb'⟩
      have gr : ∀ x, g x <= (if x = pp.1 then (if g t.name + 1 > g pp.1 then g t.name + 1 else g pp.1) else g x) := fun x => by
       split
       ·rename_i e; rw [e]; split <;> omega
       ·exact Zyx _
      refine ⟨fun x => ⟨Zy1 (hg.1 x).1 (gr x), Zy1 (hg.1 x).2.1 (gr x), fun hx => ?_⟩, fun w hw p hp => Zy1 (hg.2.1 w hw p hp) (gr p.1), fun w hw p hp => ?_⟩
      ·show (if x = pp.1 then (if g t.name + 1 > g pp.1 then g t.name + 1 else g pp.1) else g x) <= lv S x
       split
       ·rename_i e; rw [e]; have := hg1.2.2 hown; split <;> omega
       ·exact (hg.1 x).2.2 hx
      ·rw [ht] at hw
       have e : t = w := Zzo hw
       subst e
       rw [Zz5, hpp] at hp
       rcases Zyu.mp hp with m | m
       ·exact Zy1 (hg.2.2 t ht p m) (gr p.1)
       ·have e : p = pp := by simpa using m
        subst e
        show 1 + lvF S k' t.name <= (if p.1 = p.1 then (if g t.name + 1 > g p.1 then g t.name + 1 else g p.1) else g p.1)
        rw [if_pos rfl]
        have := hgt.2.1
        split <;> omega
     ·obtain ⟨o3, o4, o5, o6, o7, g, rfl, hp7, hg, s7⟩ := h
      rw [hlp] at hg
      refine ⟨_, _, _, _, _, _, g, rfl, hp7, ⟨hg.1, fun w hw p hp => ?_, fun w _ p hp => by cases hp⟩, s7⟩
      rw [Zz5, ht] at hw
      rcases Zyu.mp hw with m | m
      ·exact hg.2.1 w m p hp
      ·have e : w = t := by simpa using m
       subst e
       exact hg.2.2 w ht p (by rw [Zz1]; exact hp)
    ·obtain ⟨o2, o3, o4, o5, o6, o7, g, rfl, hp5, hg, s5⟩ := h
     rw [hl] at hg
     exact ⟨_, _, _, _, _, _, g, rfl, hp5, fun x => ⟨(hg.1 x).1, Sl (fun x => (hg.1 x).1) (fun w hw p hp => hg.2.1 w (by rw [Zz1]; exact hw) p hp) x, (hg.1 x).2.2⟩, s5⟩
   ·obtain ⟨o2, o3, o4, o5, o6, o7, g, rfl, hp4, hg, s4⟩ := h
    have hp4 : H4 p = some (.dK (fnD (Ar S) (lv S))) := by
     rw [hp4]
     exact congrArg (fun z => some (HO.dK z)) (Hm fun x hx => Int.le_antisymm ((hg x).2.2 hx) (hg x).2.1)
    walk_at "rd"
    refine ⟨by decide, fun q hq => ?_⟩
    have u5 := A3 (o := .lst []) hq
    have a0 : Acc H (upd H4 q (.lst [])) q ((F0 S 0).map Wr.d) := Acc.made s4 hq RDs.nil (by show Ba [] = true; rw [Ba])
    have hp5 := u5 _ _ hp4
    generalize upd H4 q (.lst []) = H5 at a0 hp5 ⊢
    refine ⟨_, Ad (j := 0) (a0.same _ _ ha) rfl, b, rfl, _, .inr (a0.same _ _ hb), by omega, by omega, ?_⟩
    rw [en]
    refine Bd (Iy 0 _) (mt (.ref a) p q S H) ⟨_, _, _, _, _, rfl, hp5, a0⟩ (fun _ _ _ _ _ => trivial) (fun i y σ H6 hi hy h => ?_) (fun σ H6 h => ?_)
    ·obtain ⟨o2, o3, o4, o5, o7, rfl, hp6, ac⟩ := h
     have hy : y = .int (i : Int) := by rw [hy, Zwf]
     subst hy
     walk_at "rd"
     refine ⟨ac.ty, _, Ad (j := 0) (ac.same _ _ ha) rfl, b, rfl, _, ac.same _ _ hb, ?_⟩
     refine Gx (Di b _) (B3 (by omega)) (mv S i H6) ⟨RDs.nil, Same.refl _⟩ (fun j acc H' _ h => h.2 _ _ (ac.same _ _ hb)) (fun j acc H' h => ?_) (fun j y acc H7 hj hy h => ?_) (fun acc H7 h r hr7 => ?_)
     ·rw [Ao h.1]
      exact Zyw (Zxw _ _) (by rw [Zyq]; exact Zwt _ _)
     ·obtain ⟨rd, s7⟩ := h
      obtain ⟨t, ht, rt⟩ := Ax rws hy
      have htm := Zzt ht
      have s07 := ac.same.trans s7
      have rt7 := RD.same s07 _ _ rt
      obtain ⟨te, d1, d2, rfl, hte, _⟩ := B5 rt7
      have htn : t.name ∈ Ar S := Zzr.mpr ⟨t, htm, rfl⟩
      have es : (S.wares.take (j + 1)).filter (fun w => decide (lv S w.name = (i : Int))) = (S.wares.take j).filter (fun w => decide (lv S w.name = (i : Int))) ++ [t].filter (fun w => decide (lv S w.name = (i : Int))) := by
       rw [Zz5, ht, Zxp]
       rfl
      walk_at "rd"
      refine ⟨_, Ad (j := 0) hte rfl, .int (lv S t.name), Cb (.inl (s7 _ _ hp6)) (Gc htn), rfl, C9 (fun hz => ⟨?_, s7⟩) (fun hz => ⟨?_, s7⟩)⟩
      ·have hz : lv S t.name = (i : Int) := V.int.inj (of_decide_eq_true hz)
       rw [es, Zxh, if_pos (decide_eq_true hz), List.filter_nil, Zzf]
       exact RDs.app rd (RDs.one rt7)
      ·have hz : ¬ lv S t.name = (i : Int) := fun e => hz (decide_eq_true (by rw [e]))
       rw [es, Zxh, if_neg (fun h => hz (of_decide_eq_true h)), List.filter_nil, Zza]
       exact rd
     ·obtain ⟨rd, s7⟩ := h
      rw [hl, Zz1] at rd
      have u8 := A3 (o := .lst acc) hr7
      have ac8 := (ac.step s7).step u8
      obtain ⟨vs, hvs, hvl, ac9⟩ := ac8.ext (RDs.same u8 _ _ rd) (Bo Wr.d Ga _)
      have alen := Ao rd
      have flen := Zxw (fun w => decide (lv S w.name = (i : Int))) S.wares
      have pq : p ≠ q := fun z => by have h1 := u8 _ _ (s7 _ _ hp6); rw [z, hvs] at h1; cases h1
      have olen : (F0 S i).length <= i * S.wares.length := Jk (fun l => Zxw _ _) i
      have hi : i < S.wares.length := hi
      have hmul : i * S.wares.length <= 64 * 64 := Nat.mul_le_mul (by omega) (by omega)
      rw [Zzz] at hvl
      refine ⟨r, rfl, vs, hvs, acc, A1, Xa (by omega), _, _, _, _, _, rfl, ?_, ?_⟩
      ·rw [A8 pq]
       exact u8 _ _ (s7 _ _ hp6)
      ·rw [Wp, Zzf]
       exact ac9
    ·obtain ⟨o2, o3, o4, o5, o7, rfl, hp6, ac⟩ := h
     walk_at "rd"
     exact k q H6 ac
end
set_option maxHeartbeats 4000000
section
variable {P : Program} {w : World} {K : Zzv} {mg : Str -> Option Value} {base : Heap} {f : Addr} {fd : FuncData} {Pt : Addr}
def spL (l : List It3) (n : Nat) : List It3 := (Zyy n).map fun k => ((l.getD k default).1, Ae (l.map dr) k, Ae (l.map dr) (k + 1))
theorem Yj {l : List It3} {n k : Nat} {z : It3} (h : k < n) (e : l[k]? = some z) : (spL l n)[k]? = some (z.1, Ae (l.map dr) k, Ae (l.map dr) (k + 1)) := by
 unfold spL
 rw [Zzx, Zvx h]
 show some ((l.getD k default).1, _, _) = _
 rw [Zzh, e]
 rfl
theorem Yi {l : List It3} {n : Nat} {z : It3} (e : l[n]? = some z) : spL l (n + 1) = spL l n ++ [(z.1, Ae (l.map dr) n, Ae (l.map dr) (n + 1))] := by
 unfold spL
 rw [Zyd, Zzf, List.map_singleton]
 have : l.getD n default = z := by rw [Zzh, e]; rfl
 rw [this]
theorem Q0 (l : List It3) (n : Nat) : (spL l n).length = n := by unfold spL; rw [Zzz, List.length_range]
def sp_law_spans : Sp := fun vs H Q _ => ∃ (a : Addr) (l : List It3), vs = [.ref a] /\ RD H (.list (l.map it3)) (.ref a) /\ l.length < 1000000 /\ ∀ q H', Acc H H' q ((spL l l.length).map it3) -> Q (.ref q) H'
def mi (a q : Addr) (l : List It3) (H : Hp) (i : Nat) (σ : St) (H' : Hp) : Prop := ∃ o3 o4 o5 : Option V, σ = [some (.ref a), some (.ref q), some (.int (Ae (l.map dr) i)), o3, o4, o5] /\ Acc H H' q ((spL l i).map it3)
theorem sc_law_spans : Al ["_law_some", "_law_found", "_law_begins", "_law_thing", "_law_day", "_law_amount_here"] ["_law_some"] (Aa Ds) := by constructor <;> first | rfl | decide +kernel
theorem Qh (F : Fun K "_law_spans" "_law_spans" Ds f fd) (T : Txt mg) : FnOk P w K mg base CX0 1 f fd ["_law_some"] sp_law_spans := by
 refine F.ok sc_law_spans (fun vs H Q E h => ?_) (fun cdv A outer s H vs Q E hr h => ?_)
 ·obtain ⟨a, l, rfl, _⟩ := h
  rfl
 ·obtain ⟨a, l, rfl, rd, hlen, k⟩ := h
  have hu := B8 hr
  refine ⟨_, (A2 (Af (i := 1) sc_law_spans.nd rfl (Zzw rfl) (Bk A0))
 (A2 (Af (i := 2) sc_law_spans.nd rfl (Zzw rfl) A6)
 (A2 (As PassesOwn.never rfl (C0 (pv 0)) (C1 (n := 3) rfl (Ag (Ac (i := 3) sc_law_spans.nd rfl (Zzw rfl)) (Ag (Ac (i := 4) sc_law_spans.nd rfl (Zzw rfl)) (Ag (Ac (i := 5) sc_law_spans.nd rfl (Zzw rfl)) Bh))))
 (A2 (B9 (D5 Zzb Zz8 Zz7 B4 (pv 1) (A4 (Aq (A4 (pv 3) (A4 (pv 2) (A4 (Av Bw (pv 2) (pv 5)) A0)))) A0)))
 (A7 (Li (i := 2) sc_law_spans.nd rfl (Zzw rfl) (pv 5) Gb))))
 (A7 (Am (pv 1)))))), ?_⟩
  obtain ⟨va, ha, rva⟩ := Bx rd
  have hla := Ao rva
  walk_at "rd"
  refine ⟨by decide, fun q hq => ?_⟩
  have a0 : Acc H (upd H q (.lst [])) q ((spL l 0).map it3) := Acc.made (Same.refl _) hq RDs.nil (by show Ba [] = true; rw [Ba])
  generalize upd H q (.lst []) = H1 at a0 ⊢
  refine ⟨va, a0.same _ _ ha, ?_⟩
  refine Bd (Dh a _) (mi a q l H) ⟨_, _, _, rfl, a0⟩ (fun i σ H' _ h => let ⟨_, _, _, _, ac⟩ := h; ac.same _ _ ha) (fun i y σ H3 hi hy h => ?_) (fun σ H3 h => ?_)
  ·obtain ⟨o3, o4, o5, rfl, ac⟩ := h
   obtain ⟨z, hz, rz⟩ := Ax rva hy
   have rz3 := RD.same ac.same _ _ rz
   obtain ⟨e, x, rfl, he, rx⟩ := Ls rz3
   have ez : (l.map dr)[i]? = some (dr z) := by rw [Zzx, hz]; rfl
   have es : Ae (l.map dr) (i + 1) = Ae (l.map dr) i + z.2.2 := Dx ez
   refine gt3 he ?_
   walk_at "rd"
   refine ⟨ac.ty, by decide, fun t ht => ?_⟩
   have u := A3 (o := .tup [x, V.int (Ae (l.map dr) i), V.int (Ae (l.map dr) i + z.2.2)]) ht
   obtain ⟨vs, hvs, hvl, ac5⟩ := (ac.step u).put (Q4 (t := z.1) (m := Ae (l.map dr) i) (n := Ae (l.map dr) i + z.2.2) A1 (RD.same u _ _ rx)) (Jc _)
   rw [Zzz, Q0] at hvl
   rw [<- es] at *
   refine ⟨vs, hvs, dj (by omega), _, _, _, rfl, ?_⟩
   rw [Yi hz, Zzf]
   exact ac5
  ·obtain ⟨o3, o4, o5, rfl, ac⟩ := h
   walk_at "rd"
   rw [hla] at ac
   exact k q H3 ac
theorem bv {α : Type} (l : List (α × Int)) : (l.map (·.2)).sum = Ae l l.length := by unfold Ae; rw [Zz1]
def sp_law_pegs_due : Sp := fun vs H Q _ => ∃ (a b : Addr) (l m : List It3), vs = [.ref a, .ref b] /\ RD H (.list (l.map it3)) (.ref a) /\ RD H (.list (m.map it3)) (.ref b) /\ (∀ x ∈ l, 0 < x.2.2) /\ (∀ x ∈ m, 0 < x.2.2) /\ l.length < 1000000 /\ m.length < 1000000 /\ ∀ q H', Acc H H' q ((Fe Th.left (l.map dr) (m.map dr) l.length).map pgD) -> Q (.ref q) H'
def nr (a b q : Addr) (wv : V) (l m : List It3) (H : Hp) (i : Nat) (σ : St) (H' : Hp) : Prop := ∃ o4 o5 o6 o7 o8 o9 o10 : Option V, σ = [some (.ref a), some (.ref b), some (.ref q), some wv, o4, o5, o6, o7, o8, o9, o10] /\ Acc H H' q ((Fe Th.left (l.map dr) (m.map dr) i).map pgD)
def LdIn (a b q : Addr) (wv sv : V) (l m : List It3) (z : It3) (i : Nat) (H : Hp) (j : Nat) (σ : St) (H' : Hp) : Prop := ∃ o7 o8 o9 o10 : Option V, σ = [some (.ref a), some (.ref b), some (.ref q), some wv, some sv, some (.int (Ae (l.map dr) i)), some (.int (Ae (l.map dr) (i + 1))), o7, o8, o9, o10] /\ Acc H H' q ((Fe Th.left (l.map dr) (m.map dr) i ++ Bg z.1 (Ae (l.map dr) i) (Ae (l.map dr) (i + 1)) (m.map dr) j).map pgD)
theorem sc_law_pegs_due : Al ["_law_supplied_here", "_law_needed_", "_law_found", "_law_wanted", "_law_supply", "_law_low", "_law_high", "_law_need", "_law_begins", "_law_ends", "_law_many"] ["_law_supplied_here", "_law_needed_"] (Aa Ci) := by constructor <;> first | rfl | decide +kernel
theorem Ml (F : Fun K "_law_pegs_due" "_law_pegs_due" Ci f fd) (T : Txt mg) (Zul : Has P w K mg base "_law_spans" 1 ["_law_some"] sp_law_spans) : FnOk P w K mg base CX0 2 f fd ["_law_supplied_here", "_law_needed_"] sp_law_pegs_due := by
 refine F.ok sc_law_pegs_due (fun vs H Q E h => ?_) (fun cdv A outer s H vs Q E hr h => ?_)
 ·obtain ⟨a, b, l, m, rfl, _⟩ := h
  rfl
 ·obtain ⟨a, b, l, m, rfl, ra, rb, pl, pm, ll, lm, k⟩ := h
  have hu := B8 hr
  refine ⟨_, (A2 (Af (i := 2) sc_law_pegs_due.nd rfl (Zzw rfl) (Bk A0))
 (A2 (Af (i := 3) sc_law_pegs_due.nd rfl (Zzw rfl) (An (Xr rfl) rfl T.Ztp jk (A4 (Df (own := ["_law_thing", "_law_day", "_law_amount_here"]) (cap := []) rfl (E8 rfl) Xk (C0 (pv 1))
 (fun _ _ _ _ _ _ => ⟨(C1 (n := 3) rfl (Ag (Ac (i := 0) (of_decide_eq_true rfl) rfl (Zzw rfl) (.inr rfl)) (Ag (Ac (i := 1) (of_decide_eq_true rfl) rfl (Zzw rfl) (.inr rfl)) (Ag (Ac (i := 2) (of_decide_eq_true rfl) rfl (Zzw rfl) (.inr rfl)) Bh)))), E3, (pv 2)⟩)) A0)))
 (A2 (As PassesOwn.never rfl (C0 (Ab Zul hr.z rfl (A4 (pv 0) A0))) (C1 (n := 3) rfl (Ag (Ac (i := 4) sc_law_pegs_due.nd rfl (Zzw rfl)) (Ag (Ac (i := 5) sc_law_pegs_due.nd rfl (Zzw rfl)) (Ag (Ac (i := 6) sc_law_pegs_due.nd rfl (Zzw rfl)) Bh))))
 (A2 (As PassesOwn.never rfl (C0 (Ab Zul hr.z rfl (A4 (pv 1) A0))) (C1 (n := 3) rfl (Ag (Ac (i := 7) sc_law_pegs_due.nd rfl (Zzw rfl)) (Ag (Ac (i := 8) sc_law_pegs_due.nd rfl (Zzw rfl)) (Ag (Ac (i := 9) sc_law_pegs_due.nd rfl (Zzw rfl)) Bh))))
 (A2 (Af (i := 10) sc_law_pegs_due.nd rfl (Zzw rfl) (Av K8 (An (Lv rfl) rfl T.Ztt Uq (A4 (pv 6) (A4 (pv 9) A0))) (An (Hq rfl) rfl T.Zuf Kc (A4 (pv 5) (A4 (pv 8) A0)))))
 (A7 (Bf (Ak Ja (pv 10) A6 (Ap _)) (A7 (B9 (D5 Zzb Zz8 Zz7 B4 (pv 2) (A4 (Aq (A4 (pv 4) (A4 (pv 7) (A4 (pv 10) A0)))) A0)))) Au))))
 (A7 (Bf (Ak Ja (pv 6) (pv 3) (Ap _)) (A7 (B9 (D5 Zzb Zz8 Zz7 B4 (pv 2) (A4 (Aq (A4 (pv 4) (A4 (Aq (A4 Bu A0)) (A4 (Av K8 (pv 6) (An (Hq rfl) rfl T.Zuf Kc (A4 (pv 5) (A4 (pv 3) A0)))) A0)))) A0)))) Au))))
 (A7 (Am (pv 2)))))), ?_⟩
  obtain ⟨va, ha, rva⟩ := Bx ra
  obtain ⟨vb, hb, rvb⟩ := Bx rb
  have hla := Ao rva
  have hlb := Ao rvb
  have ps : ∀ x ∈ l.map dr, 0 < x.2 := fun x hx => by obtain ⟨z, hz, rfl⟩ := Zzr.mp hx; exact pl z hz
  have pn : ∀ x ∈ m.map dr, 0 < x.2 := fun x hx => by obtain ⟨z, hz, rfl⟩ := Zzr.mp hx; exact pm z hz
  have ls : (l.map dr).length = l.length := Zzz ..
  have ln : (m.map dr).length = m.length := Zzz ..
  walk_at "rd"
  refine ⟨by decide, fun q hq => ?_⟩
  have u0 := A3 (o := .lst []) hq
  refine ⟨vb, u0 _ _ hb, ?_⟩
  refine G5 (Dh b _) (Xa (by omega)) (fun H' s' => s' _ _ (u0 _ _ hb)) (((m.map dr).map (·.2)).map V.int) (by rw [Zzz, Zzz, Zzz, hlb]) (fun j y H1 hj hy s1 N M hN => ?_) (fun H1 s1 r hr1 => ?_)
  ·obtain ⟨z, hz, rz⟩ := Ax rvb hy
   obtain ⟨e, x, rfl, he, rx⟩ := Ls rz
   refine gt3 (s1 _ _ (u0 _ _ he)) ?_
   walk_at "rd"
   exact hN _ _ s1 (by rw [Zzx, Zzx, Zzx, hz]; rfl)
  have s01 := u0.trans s1
  have u2 := A3 (o := .lst (((m.map dr).map (·.2)).map V.int)) hr1
  have s02 := s01.trans u2
  have a0 : Acc H (upd H1 r (.lst (((m.map dr).map (·.2)).map V.int))) q ((Fe Th.left (l.map dr) (m.map dr) 0).map pgD) := ⟨hq, s02, Hu (u2 _ _ (s1 _ _ A1)) RDs.nil, by show Ba [] = true; rw [Ba]⟩
  refine ⟨r, rfl, _, A1, ?_⟩
  rw [bv, ln]
  generalize upd H1 r (.lst (((m.map dr).map (·.2)).map V.int)) = H2 at a0 s02 ⊢
  refine ⟨a, l, rfl, RD.same s02 _ _ ra, ll, fun sa H3 aca => ⟨sa, rfl, ?_⟩⟩
  have a3 := a0.step aca.same
  obtain ⟨vsa, hsa, rsa⟩ := Bx aca.rd
  have hlsa := Ao rsa
  rw [Q0] at hlsa
  refine ⟨vsa, hsa, ?_⟩
  have saf : H sa = none := Same.free s02 aca.new
  refine Bd (Dh sa _) (fun i σ H' => nr a b q (.int (Ae (m.map dr) m.length)) l m H i σ H' /\ H' sa = some (.lst vsa) /\ KeepU H3 H') ⟨⟨_, _, _, _, _, _, _, rfl, a3⟩, hsa, fun _ _ e => e⟩ (fun i σ H' _ h => h.2.1) (fun i y σ H4 hi hy h => ?_) (fun σ H4 h => ?_)
  ·obtain ⟨⟨o4, o5, o6, o7, o8, o9, o10, rfl, ac⟩, hsa4, ku4⟩ := h
   have hi : i < l.length := by rw [<- hlsa]; exact hi
   obtain ⟨z, hz⟩ : ∃ z, l[i]? = some z := ⟨_, Zzu hi⟩
   have ez : (l.map dr)[i]? = some (dr z) := by rw [Zzx, hz]; rfl
   obtain ⟨zz, hzz, rzz⟩ := Ax rsa hy
   rw [Yj hi hz] at hzz
   have hzz := Zzo hzz
   subst hzz
   have rzz4 := RD.ku ku4 _ _ (Jc _) rzz
   obtain ⟨e, sv, rfl, he, rsv⟩ := Ls rzz4
   have saq : sa ≠ q := fun h => by
    have h1 := Bx a0.rd
    obtain ⟨vs, h2, _⟩ := h1
    rw [h] at aca
    rw [aca.new] at h2
    cases h2
   have dl := R7 (lf := Th.left) pn ps (i + 1) (by rw [ls]; exact hi)
   have edl : (Fe Th.left (l.map dr) (m.map dr) (i + 1)) = (Fe Th.left (l.map dr) (m.map dr) i) ++ (G4 Th.left (l.map dr) (m.map dr) i (dr z)) := by
    unfold Fe
    rw [Bj ez]
   have edn := congrArg Zx7 edl
   rw [Zzm] at edn
   have edl2 : (Bg z.1 (Ae (l.map dr) i) (Ae (l.map dr) (i + 1)) (m.map dr) m.length).length <= (G4 Th.left (l.map dr) (m.map dr) i (dr z)).length := by
    unfold G4
    rw [Zzm, ln]
    exact Zwy _ _
   have rowl : ∀ j, j <= m.length -> (Fe Th.left (l.map dr) (m.map dr) i ++ Bg z.1 (Ae (l.map dr) i) (Ae (l.map dr) (i + 1)) (m.map dr) j).length < 10000000 := fun j hj => by
    have := (G3 (s := z.1) (lo := Ae (l.map dr) i) (hi := Ae (l.map dr) (i + 1)) (ns := m.map dr) hj).1
    rw [Zzm]
    omega
   refine gt3 he ?_
   walk_at "rd"
   refine ⟨b, m, rfl, RD.same ac.same _ _ rb, lm, fun sb H5 acb => ⟨sb, rfl, ?_⟩⟩
   have ac5 := ac.step acb.same
   obtain ⟨vsb, hsb, rsb⟩ := Bx acb.rd
   have hlsb := Ao rsb
   rw [Q0] at hlsb
   have sbq : sb ≠ q := fun h => by
    obtain ⟨vs, h2, _⟩ := Bx ac.rd
    rw [h] at acb
    rw [acb.new] at h2
    cases h2
   refine ⟨vsb, hsb, ?_⟩
   refine Bd (Dh sb _) (fun j σ H' => LdIn a b q (.int (Ae (m.map dr) m.length)) sv l m z i H j σ H' /\ H' sb = some (.lst vsb) /\ H' sa = some (.lst vsa) /\ KeepU H5 H') ⟨⟨_, _, _, _, rfl, by rw [show Bg z.1 (Ae (l.map dr) i) (Ae (l.map dr) (i + 1)) (m.map dr) 0 = [] from rfl, Zza]; exact ac5⟩, hsb, acb.same _ _ hsa4, fun _ _ e => e⟩ (fun j σ H' _ h => h.2.1) (fun j y σ H6 hj hy h => ?_) (fun σ H6 h => ?_)
   ·obtain ⟨⟨o7, o8, o9, o10, rfl, ac6⟩, hsb6, hsa6, ku6⟩ := h
    have hj : j < m.length := by rw [<- hlsb]; exact hj
    obtain ⟨n, hn⟩ : ∃ n, m[j]? = some n := ⟨_, Zzu hj⟩
    have en : (m.map dr)[j]? = some (dr n) := by rw [Zzx, hn]; rfl
    obtain ⟨nn, hnn, rnn⟩ := Ax rsb hy
    rw [Yj hj hn] at hnn
    have hnn := Zzo hnn
    subst hnn
    have rnn6 := RD.ku ku6 _ _ (Jc _) rnn
    obtain ⟨ne, nv, rfl, hne, rnv⟩ := Ls rnn6
    have es : Bg z.1 (Ae (l.map dr) i) (Ae (l.map dr) (i + 1)) (m.map dr) (j + 1) = Bg z.1 (Ae (l.map dr) i) (Ae (l.map dr) (i + 1)) (m.map dr) j ++ Gw z.1 (Ae (l.map dr) i) (Ae (l.map dr) (i + 1)) (Ae (m.map dr) j) (Ae (m.map dr) (j + 1)) n.1 := Gd en
    have rsv6 : RD H6 z.1.d sv := RD.ku ku6 _ _ (Se _) (RD.same acb.same _ _ rsv)
    refine gt3 hne ?_
    walk_at "rd"
    have e1 : (if Ae (m.map dr) (j + 1) < Ae (l.map dr) (i + 1) then Ae (m.map dr) (j + 1) else Ae (l.map dr) (i + 1)) = mn (Ae (l.map dr) (i + 1)) (Ae (m.map dr) (j + 1)) := rfl
    have e2 : (if Ae (m.map dr) j > Ae (l.map dr) i then Ae (m.map dr) j else Ae (l.map dr) i) = mx (Ae (l.map dr) i) (Ae (m.map dr) j) := rfl
    rw [e1, e2]
    refine C9 (fun c => ?_) (fun c => ?_)
    ·have c : 0 < mn (Ae (l.map dr) (i + 1)) (Ae (m.map dr) (j + 1)) - mx (Ae (l.map dr) i) (Ae (m.map dr) j) := of_decide_eq_true c
     refine ⟨ac6.ty, by decide, fun t ht => ?_⟩
     obtain ⟨vs, hvs, hvl, ac7⟩ := ac6.peg (n := mn (Ae (l.map dr) (i + 1)) (Ae (m.map dr) (j + 1)) - mx (Ae (l.map dr) i) (Ae (m.map dr) j)) ht rsv6 rnv (rowl j (by omega))
     refine ⟨vs, hvs, hvl, ⟨_, _, _, _, rfl, ?_⟩, ?_, ?_, ?_⟩
     ·rw [es]
      unfold Gw
      rw [if_pos c, <- Zyo]
      exact ac7
     ·rw [A8 sbq]
      exact A3 ht _ _ hsb6
     ·rw [A8 saq]
      exact A3 ht _ _ hsa6
     ·exact (ku6.trans (A3 ht).ku).trans (Fb hvs)
    ·have c : ¬ 0 < mn (Ae (l.map dr) (i + 1)) (Ae (m.map dr) (j + 1)) - mx (Ae (l.map dr) i) (Ae (m.map dr) j) := fun h => c (decide_eq_true h)
     refine ⟨⟨_, _, _, _, rfl, ?_⟩, hsb6, hsa6, ku6⟩
     rw [es]
     unfold Gw
     rw [if_neg c, Zza]
     exact ac6
   ·obtain ⟨⟨o7, o8, o9, o10, rfl, ac6⟩, hsb6, hsa6, ku6⟩ := h
    rw [hlsb] at ac6
    have rsv6 : RD H6 z.1.d sv := RD.ku ku6 _ _ (Se _) (RD.same acb.same _ _ rsv)
    have ku36 : KeepU H3 H6 := (ku4.trans acb.same.ku).trans ku6
    walk_at "rd"
    refine C9 (fun c => ?_) (fun c => ?_)
    ·have c : Ae (l.map dr) (i + 1) > Ae (m.map dr) m.length := of_decide_eq_true c
     refine ⟨ac6.ty, by decide, fun t1 ht1 => ⟨by decide, fun t ht => ?_⟩⟩
     have u1 := A3 (o := .tup [V.str "left"]) ht1
     have rl : RD (upd H6 t1 (.tup [V.str "left"])) Th.left.d (.ref t1) := M2 A1 (RDs.one RD.str_mk)
     obtain ⟨vs, hvs, hvl, ac7⟩ := (ac6.step u1).peg (n := Ae (l.map dr) (i + 1) - mx (Ae (l.map dr) i) (Ae (m.map dr) m.length)) ht (RD.same u1 _ _ rsv6) rl (rowl m.length (Zzs _))
     refine ⟨vs, hvs, hvl, ⟨_, _, _, _, _, _, _, rfl, ?_⟩, ?_, ?_⟩
     ·rw [edl]
      unfold G4
      rw [ln, if_pos c, <- Zyo]
      exact ac7
     ·rw [A8 saq]
      exact A3 ht _ _ (u1 _ _ hsa6)
     ·exact ((ku36.trans u1.ku).trans (A3 ht).ku).trans (Fb hvs)
    ·have c : ¬ Ae (l.map dr) (i + 1) > Ae (m.map dr) m.length := fun h => c (decide_eq_true h)
     refine ⟨⟨_, _, _, _, _, _, _, rfl, ?_⟩, hsa6, ku36⟩
     rw [edl]
     unfold G4
     rw [ln, if_neg c, Zza]
     exact ac6
  ·obtain ⟨⟨o4, o5, o6, o7, o8, o9, o10, rfl, ac⟩, _⟩ := h
   rw [hlsa] at ac
   walk_at "rd"
   exact k q H4 ac
def sp_law_told : Sp := fun vs H Q _ => ∃ (a b : Addr) (l : List (Th × Th × Int)), vs = [.ref a, .ref b] /\ RD H (.list (l.map pgD)) (.ref a) /\ RD H (.list (l.map pgD)) (.ref b) /\ okD (.list (l.map pgD)) = true /\ ∀ H', Same H H' -> Q (.bl true) H'
def nc (a b : Addr) (H : Hp) (i : Nat) (σ : St) (H' : Hp) : Prop := ∃ o2 : Option V, σ = [some (.ref a), some (.ref b), o2] /\ Same H H'
theorem gj {H : Hp} {t : Th} {v : V} (h : RD H t.d v) : J7 H v = some "tuple" := by
 unfold Th.d at h
 obtain ⟨a, xs, rfl, ha, _⟩ := RD.tup_of h
 exact Y2 ha
theorem sc_law_told : Al ["_law_found", "_law_due", "_law_one"] ["_law_found", "_law_due"] (Aa Eg) := by constructor <;> first | rfl | decide +kernel
theorem S7 (F : Fun K "_law_told" "_law_told" Eg f fd) (T : Txt mg) : FnOk P w K mg base CX0 1 f fd ["_law_found", "_law_due"] sp_law_told := by
 refine F.ok sc_law_told (fun vs H Q E h => ?_) (fun cdv A outer s H vs Q E hr h => ?_)
 ·obtain ⟨a, b, l, rfl, _⟩ := h
  rfl
 ·obtain ⟨a, b, l, rfl, ra, rb, ok, k⟩ := h
  have hu := B8 hr
  have hu4 := Vv hr
  refine ⟨_, (A2 (Bf (PW.pt (Ru (J9 (Hx (An Dy rfl T.Zv7 Cz (A4 (pv 0) (A4 (Jp (v := .ty "list") rfl T.Zts W0 rfl) A0))))) (Q9 (Ak (U2 hu4) (pv 0) (pv 1) (Ap _))))) (A7 (Am M4)) Au)
 (A2 (As PassesOwn.never rfl (C0 (pv 0)) (Ac (i := 2) sc_law_told.nd rfl (Zzw rfl))
 (A2 (Bf (PW.pt (Ru (J9 (Hx (An Dy rfl T.Zv7 Cz (A4 (pv 2) (A4 (Jp (v := .ty "tuple") rfl T.Zuz Ex rfl) A0))))) (Ru (J9 (Hx (An Dy rfl T.Zv7 Cz (A4 (A5 hu (pv 2) A6 (fun _ _ => rfl)) (A4 (Jp (v := .ty "tuple") rfl T.Zuz Ex rfl) A0))))) (Q9 (J9 (Hx (An Dy rfl T.Zv7 Cz (A4 (A5 hu (pv 2) A6 (fun _ _ => rfl)) (A4 (Jp (v := .ty "tuple") rfl T.Zuz Ex rfl) A0))))))))) (A7 (Am M4)) Au)
 (A7 (Bf (PW.pt (Ru (J9 (Hx (An Dy rfl T.Zv7 Cz (A4 (A5 hu (pv 2) A6 (fun _ _ => rfl)) (A4 (Jp (v := .ty "int") rfl T.Zu0 Od rfl) A0))))) (Q9 (Hx (An Dy rfl T.Zv7 Cz (A4 (A5 hu (pv 2) A6 (fun _ _ => rfl)) (A4 (Jp (v := .ty "bool") rfl T.Ztq fu rfl) A0))))))) (A7 (Am M4)) Au))))
 (A7 (Am M4)))), ?_⟩
  obtain ⟨va, ha, rva⟩ := Bx ra
  walk_at "rd"
  refine ⟨_, Fs ha, ?_⟩
  rw [if_neg (by decide)]
  refine ⟨_, ra, _, rb, ok, ok, ?_⟩
  rw [if_neg (by rw [O6 _ (Vk ok)]; decide)]
  refine ⟨va, ha, ?_⟩
  refine Bd (Dh a _) (nc a b H) ⟨_, rfl, Same.refl _⟩ (fun i σ H' _ h => let ⟨_, _, s⟩ := h; s _ _ ha) (fun i y σ H1 hi hy h => ?_) (fun σ H1 h => ?_)
  ·obtain ⟨o2, rfl, s1⟩ := h
   obtain ⟨z, hz, rz⟩ := Ax rva hy
   obtain ⟨e, x1, x2, rfl, he, r1, r2⟩ := km (RD.same s1 _ _ rz)
   walk_at "rd"
   refine ⟨_, Y2 he, ?_⟩
   rw [if_neg (by decide)]
   refine ⟨_, Ad (j := 0) he rfl, _, gj r1, ?_⟩
   rw [if_neg (by decide)]
   refine ⟨_, Ad (j := 1) he rfl, _, gj r2, ?_⟩
   rw [if_neg (by decide)]
   refine ⟨_, Ad (j := 2) he rfl, _, rfl, ?_⟩
   rw [if_neg (by decide)]
   refine ⟨_, Ad (j := 2) he rfl, _, rfl, ?_⟩
   rw [if_neg (by decide)]
   exact ⟨_, rfl, s1⟩
  ·obtain ⟨o2, rfl, s1⟩ := h
   walk_at "rd"
   exact k H1 s1
end
set_option maxHeartbeats 4000000
section
variable {P : Program} {w : World} {K : Zzv} {mg : Str -> Option Value} {base : Heap} {f : Addr} {fd : FuncData} {Pt : Addr}
def M1 (Pt : Addr) : Sp := fun vs H Q _ => ∃ (v : V) (S : Sh), vs = [v] /\ RD H S.d v /\ Good 9 S /\ Tb H Pt /\
 (∀ t v' H', H' t = some (.tup [v', .non]) -> Tb H' Pt -> But Pt H H' -> Q (.ref t) H') /\
 ∀ t (v' : V) (p : Addr) (S' : Sh) (sz : Int) (ys : List Str) H', H' t = some (.tup [v', .ref p]) -> RD H' S'.d v' -> Good sz S' -> 0 < sz -> sz <= 500 -> De S' -> Hr (lv S') (Ar S') ys -> RowsAt H H' p S' ys -> H p = none -> Tb H' Pt -> But Pt H H' -> Q (.ref t) H'
theorem RowsAt.same {H H1 H2 : Hp} {a : Addr} {S : Sh} {l : List Str} (h : RowsAt H H1 a S l) (s : Same H1 H2) : RowsAt H H2 a S l := by
 obtain ⟨kvs, h1, h2, h3, h4⟩ := h
 exact ⟨kvs, s _ _ h1, h2, fun nm hn => let ⟨q, e1, e2, e3, e4⟩ := h3 nm hn; ⟨q, e1, e2, e3, s _ _ e4⟩, h4⟩
theorem RowsAt.back {H H1 H2 : Hp} {a : Addr} {S : Sh} {l : List Str} (h : RowsAt H1 H2 a S l) (f : ∀ q, H1 q = none -> H q = none) : RowsAt H H2 a S l := by
 obtain ⟨kvs, h1, h2, h3, h4⟩ := h
 exact ⟨kvs, h1, h2, fun nm hn => let ⟨q, e1, e2, e3, e4⟩ := h3 nm hn; ⟨q, f q e1, e2, e3, e4⟩, h4⟩
theorem Wm {S : Sh} {ys : List Str} (so : Hr (lv S) (Ar S) ys) (h : ∀ w ∈ S.wares, w.name ∈ ys -> D4 (LR S w.name) w.lag = none) : De S := fun w hw => h w hw ((D7 so).1.mem_iff.mpr (Zzr.mpr ⟨w, hw, rfl⟩))
theorem sc_law_kept : Al ["_law_shop_here", "_law_told_here", "_law_days"] ["_law_shop_here"] (Aa Ej) := by constructor <;> first | rfl | decide +kernel
theorem Sa (F : Fun K "_law_kept" "_law_kept" Ej f fd) (T : Txt mg) (Zv1 : Has P w K mg base "planned" 7 ["shop"] (Jy Pt)) (Ztw : Has P w K mg base "late" 9 ["shop"] (Vb Pt)) (Zuy : Has P w K mg base "put_off" 5 ["shop", "days"] sp_put_off) : FnOk P w K mg base CX0 10 f fd ["_law_shop_here"] (M1 Pt) := by
 refine F.ok sc_law_kept (fun vs H Q E h => ?_) (fun cdv A outer s H vs Q E hr h => ?_)
 ·obtain ⟨v, S, rfl, _⟩ := h
  rfl
 ·obtain ⟨v, S, rfl, rs, g, tb, k1, k2⟩ := h
  have hu := B8 hr
  refine ⟨_, (A2 (Af (i := 1) sc_law_kept.nd rfl (Zzw rfl) (Ab Zv1 hr.z rfl (A4 (pv 0) A0)))
 (A2 (Bf (Ak (Bl hu) (A5 hu (pv 1) A6 (fun _ _ => rfl)) Bu (Ap _)) (A7 (Am (Aq (A4 (pv 0) (A4 (A5 hu (pv 1) A6 (fun _ _ => rfl)) A0))))) Au)
 (A2 (Af (i := 2) sc_law_kept.nd rfl (Zzw rfl) (Ab Ztw hr.z rfl (A4 (pv 0) A0)))
 (A2 (Bf (Ak Z1 (pv 2) Gf (Ap _)) (A7 (Am (Aq (A4 (pv 0) (A4 Gf A0))))) Au)
 (A2 (Af (i := 0) sc_law_kept.nd rfl (Zzw rfl) (Ab Zuy hr.z rfl (A4 (pv 0) (A4 (pv 2) A0))))
 (A7 (Am (Aq (A4 (pv 0) (A4 (A5 hu (Ab Zv1 hr.z rfl (A4 (pv 0) A0)) A6 (fun _ _ => rfl)) A0)))))))))), ?_⟩
  walk_at "rd"
  refine ⟨v, S, 9, rfl, rs, g, by decide, by decide, tb, fun t p ys i H1 ht hp tp so ra hne tb1 bt1 hcase => ?_⟩
  have rs1 := RD.ku (Es tb bt1) _ _ (Ce S) rs
  rcases hcase with ⟨hi, h1⟩ | ⟨wr, d, hwr, hi, hed, h1⟩
  ·subst hi
   rw [Zz1] at ra hne
   refine ⟨_, Ad (j := 0) h1 rfl, rfl, ?_⟩
   rw [if_pos (by decide)]
   refine ⟨_, Ad (j := 1) h1 rfl, by decide, fun r hr' => ?_⟩
   have u := A3 (o := .tup [v, .ref p]) hr'
   exact k2 r v p S 9 ys _ A1 (RD.same u _ _ rs1) g (by decide) (by decide) (Wm so hne) so (ra.same u) hp (tb1.same u) (bt1.trans (Bt u))
  ·refine ⟨_, Ad (j := 0) h1 rfl, rfl, ?_⟩
   rw [if_neg (by decide)]
   refine ⟨v, S, 9, rfl, rs1, g, by decide, by decide, tb1, fun H2 hno tb2 bt2 => ?_, fun n H2 lok tb2 bt2 => ?_⟩
   ·show if decide (V.non = V.non) = true then _ else _
    rw [if_pos (by decide)]
    refine ⟨by decide, fun r hr' => ?_⟩
    have u := A3 (o := .tup [v, .non]) hr'
    exact k1 r v _ A1 (tb2.same u) ((bt1.trans bt2).trans (Bt u))
   ·show if decide (V.int n = V.non) = true then _ else _
    rw [if_neg (by rw [decide_eq_false (fun z => by cases z)]; decide)]
    obtain ⟨l0, l1, l2, l3, w, hw, hwM⟩ := lok
    have m360 : tm S w.name <= 360 := by
     have := Tl (S := S) (fun w hw => (g.ws.wb w hw).lag) S.wares.length w.name
     have := g.len.2
     unfold tm
     omega
    have bt02 := bt1.trans bt2
    have rs2 := RD.ku (Es tb bt02) _ _ (Ce S) rs
    refine ⟨v, S, n, rfl, rs2, g.ok, g.no, by have := g.wants.1; omega, fun x H3 rx s3 => ?_⟩
    have bt03 := bt02.trans (Bt (st := Pt) s3)
    have tb3 := tb2.same s3
    refine ⟨x, Cc n S, 9 + n, rfl, rx, g.off l0, by omega, by omega, tb3, fun t4 p4 ys4 i4 H4 ht4 hp4 tp4 so4 ra4 hne4 tb4 bt4 hcase4 => ?_⟩
    rcases hcase4 with ⟨hi4, h4⟩ | ⟨wr4, d4, hwr4, hi4, hed4, h4⟩
    ·subst hi4
     rw [Zz1] at ra4 hne4
     refine ⟨_, Ad (j := 1) h4 rfl, by decide, fun r hr' => ?_⟩
     have u := A3 (o := .tup [x, .ref p4]) hr'
     have rx4 := RD.ku (Es tb3 bt4) _ _ (Ce _) rx
     exact k2 r x p4 (Cc n S) (9 + n) ys4 _ A1 (RD.same u _ _ rx4) (g.off l0) (by omega) (by omega) l2 so4 ((ra4.back fun q hq => Mp tb3 bt03 hq).same u) (Mp tb3 bt03 hp4) (tb4.same u) ((bt03.trans bt4).trans (Bt u))
    ·rw [l2 wr4 hwr4] at hed4
     cases hed4
def PlanK (H : Hp) (a st : Addr) (S : Sh) (kvs : List (Key × V)) (plan : Str -> List Int) (B : Int) : Prop := H a = some (.dK kvs) /\ h8 kvs (Ar S) /\ ∀ nm ∈ Ar S, ∃ l : Addr, Bq kvs (.inr nm) = some (.ref l) /\ l ≠ st /\ H l = some (.lst ((plan nm).map V.int)) /\ (plan nm).length = daysN S /\ ∀ x ∈ plan nm, 0 <= x /\ x <= B
theorem PlanK.set {H : Hp} {a st : Addr} {S : Sh} {kvs : List (Key × V)} {plan : Str -> List Int} {B B' : Int} (h : PlanK H a st S kvs plan B) {nm : Str} (hn : nm ∈ Ar S) {l : Addr} (hv : Bq kvs (.inr nm) = some (.ref l)) {xs : List Int} (hl : xs.length = daysN S) (hx : ∀ x ∈ xs, 0 <= x /\ x <= B') (hB : B <= B') :
  PlanK (upd H l (.lst (xs.map V.int))) a st S kvs (fun y => if y = nm then xs else plan y) B' := by
 obtain ⟨h1, h2, h3⟩ := h
 obtain ⟨l0, e1, e2, e3, _⟩ := h3 nm hn
 rw [hv] at e1
 cases e1
 have al : a ≠ l := M6 h1 e3 (fun z => by cases z)
 refine ⟨by rw [A8 al]; exact h1, h2, fun nm' hn' => ?_⟩
 obtain ⟨l', f1, f2, f3, f4, f5⟩ := h3 nm' hn'
 by_cases e : nm' = nm
 ·subst e
  rw [hv] at f1
  cases f1
  refine ⟨l, hv, f2, ?_, ?_, ?_⟩
  ·show upd H l (.lst (xs.map V.int)) l = some (.lst ((if nm' = nm' then xs else plan nm').map V.int))
   rw [if_pos rfl, A1]
  ·show (if nm' = nm' then xs else plan nm').length = daysN S
   rw [if_pos rfl]; exact hl
  ·show ∀ x ∈ (if nm' = nm' then xs else plan nm'), 0 <= x /\ x <= B'
   rw [if_pos rfl]; exact hx
 ·have ll : l' ≠ l := fun z => by rw [z] at f1; exact e (h2 nm' hn' nm hn l f1 hv)
  refine ⟨l', f1, f2, ?_, ?_, ?_⟩
  ·show upd H l (.lst (xs.map V.int)) l' = some (.lst ((if nm' = nm then xs else plan nm').map V.int))
   rw [if_neg e, A8 ll]; exact f3
  ·show (if nm' = nm then xs else plan nm').length = daysN S
   rw [if_neg e]; exact f4
  ·show ∀ x ∈ (if nm' = nm then xs else plan nm'), 0 <= x /\ x <= B'
   rw [if_neg e]; exact fun x hx' => ⟨(f5 x hx').1, Zy1 (f5 x hx').2 hB⟩
theorem PlanK.but {H H' : Hp} {a st : Addr} {S : Sh} {kvs : List (Key × V)} {plan : Str -> List Int} {B : Int} (h : PlanK H a st S kvs plan B) (b : But st H H') (ast : a ≠ st) : PlanK H' a st S kvs plan B :=
 ⟨b _ _ ast h.1, h.2.1, fun nm hn => let ⟨l, e1, e2, e3, e4⟩ := h.2.2 nm hn; ⟨l, e1, e2, b _ _ e2 e3, e4⟩⟩
theorem Tq {xs : List Int} {B : Int} {i : Nat} {v : Int} (h : ∀ x ∈ xs, 0 <= x /\ x <= B) (hv : 0 <= v /\ v <= B) : ∀ x ∈ xs.set i v, 0 <= x /\ x <= B := fun x hx => by
 rcases List.mem_or_eq_of_mem_set hx with z | z
 ·exact h x z
 ·rw [z]; exact hv
theorem PlanK.at {H : Hp} {a st : Addr} {S : Sh} {kvs : List (Key × V)} {plan : Str -> List Int} {B : Int} (h : PlanK H a st S kvs plan B) (hB : B < 10 ^ 2000) : PlanAt H a S plan :=
 ⟨kvs, .inl h.1, fun nm hn => let ⟨l, e1, _, e3, e4, e5⟩ := h.2.2 nm hn; ⟨l, e1, e3, e4, fun x hx => ⟨(e5 x hx).1, Zy7 (e5 x hx).2 hB⟩⟩⟩
theorem PlanK.tb {H H' : Hp} {a st Pt : Addr} {S : Sh} {kvs : List (Key × V)} {plan : Str -> List Int} {B : Int} (h : PlanK H a st S kvs plan B) (tb : Tb H Pt) (bt : But Pt H H') : PlanK H' a st S kvs plan B :=
 ⟨bt _ _ (Ha tb h.1 fun u z => by cases z) h.1, h.2.1, fun nm hn => let ⟨l, e1, e2, e3, e4⟩ := h.2.2 nm hn; ⟨l, e1, e2, bt _ _ (Ha tb e3 fun u z => by cases z) e3, e4⟩⟩
theorem PlanK.same {H H' : Hp} {a st : Addr} {S : Sh} {kvs : List (Key × V)} {plan : Str -> List Int} {B : Int} (h : PlanK H a st S kvs plan B) (s : Same H H') : PlanK H' a st S kvs plan B :=
 ⟨s _ _ h.1, h.2.1, fun nm hn => let ⟨l, e1, e2, e3, e4⟩ := h.2.2 nm hn; ⟨l, e1, e2, s _ _ e3, e4⟩⟩
theorem Ph {S : Sh} {plan : Str -> List Int} {w : Wr} : ∀ {n : Nat} {x : Str × Nat}, Ep S plan w n = some x -> PyData.strOk x.1 = true
 | 0, x, h => by rw [Ep] at h; cases h
 | n + 1, x, h => by
  rw [Ep] at h
  split at h
  ·rename_i y e
   rw [<- Zzo h]
   exact Ph e
  ·split at h
   ·rw [<- Zzo h]; exact (by decide +kernel : PyData.strOk ("early" : Str) = true)
   ·split at h
    ·rw [<- Zzo h]; exact (by decide +kernel : PyData.strOk ("below" : Str) = true)
    ·cases h
theorem Vq {S : Sh} {plan : Str -> List Int} {ys : List Str} : ∀ {n : Nat} {x : Str × Str × Nat}, Kb S plan ys n = some x -> PyData.strOk x.1 = true /\ x.2.1 ∈ ys
 | 0, x, h => by rw [Kb] at h; cases h
 | n + 1, x, h => by
  rw [Kb] at h
  split at h
  ·rename_i y e
   rw [<- Zzo h]
   exact Vq e
  ·split at h
   ·cases h
   ·rename_i y e
    split at h
    ·cases h
    ·rename_i w e2
     cases e3 : Iu S plan w with
     | none => rw [e3] at h; cases h
     | some z =>
      rw [e3] at h
      rw [<- Zzo h]
      exact ⟨Ph e3, Zzt e⟩
def Zl : Option (Str × Str × Nat) -> PyData
 | none => .tuple [.str "good"]
 | some (k, nm, d) => .tuple [.str k, .str nm, .int d]
theorem Yn {H : Hp} {t : Addr} : ∀ {o : Option (Str × Str × Nat)}, H t = some (.tup (du o)) -> RD H (Zl o) (.ref t)
 | none, h => by
  rw [Zl, RD]
  exact ⟨t, _, rfl, h, by simp [du, RDs, RD]⟩
 | some (k, nm, d), h => by
  rw [Zl, RD]
  exact ⟨t, _, rfl, h, by simp [du, RDs, RD]⟩
theorem iu {S : Sh} {plan : Str -> List Int} {ys : List Str} (ht : ∀ x ∈ ys, PyData.strOk x = true) : okD (Zl (Pb S plan ys)) = true := by
 cases e : Pb S plan ys with
 | none => decide +kernel
 | some x =>
  obtain ⟨k, nm, d⟩ := x
  obtain ⟨h1, h2⟩ := Vq (show Kb S plan ys ys.length = some (k, nm, d) from e)
  have h3 := ht _ h2
  unfold okD
  simp [Zl, PyData.canLay0, PyData.canLayAll0, PyData.depth, PyData.depthAll]
  exact ⟨h1, h3⟩
end
set_option maxHeartbeats 4000000
section
variable {P : Program} {w : World} {K : Zzv} {mg : Str -> Option Value} {base : Heap} {f : Addr} {fd : FuncData} {Pt : Addr}
def Ke (t : Th) : Prop := ∀ x c, t = .part x c -> PyData.strOk x = true
theorem Zf {t : Th} (h : Ke t) : t.d.canLay0 = true := by
 unfold Th.d
 cases t with
 | part x c => simp only [Th.ds, PyData.canLay0, PyData.canLayAll0, h x c rfl, Zxo]; decide +kernel
 | _ => simp only [Th.ds, PyData.canLay0, PyData.canLayAll0, Zxo] <;> decide +kernel
theorem T0 (t : Th) : t.d.depth <= 1 := by
 unfold Th.d
 cases t <;> simp [Th.ds, PyData.depth, PyData.depthAll]
theorem Z4 {l : List (Th × Th × Int)} (h : ∀ q ∈ l, Ke q.1 /\ Ke q.2.1) : okD (.list (l.map pgD)) = true := by
 unfold okD
 rw [Zya]
 constructor
 ·rw [PyData.canLay0]
  refine Vp pgD _ fun q hq => ?_
  unfold pgD
  rw [PyData.canLay0, PyData.canLayAll0, PyData.canLayAll0, PyData.canLayAll0, PyData.canLayAll0, Zf (h q hq).1, Zf (h q hq).2]
  simp [PyData.canLay0]
 ·have := Pi pgD 2 l fun q _ => by
   unfold pgD
   have h1 := T0 q.1
   have h2 := T0 q.2.1
   simp only [PyData.depth, PyData.depthAll]
   omega
  refine decide_eq_true ?_
  rw [PyData.depth]
  omega
theorem i8 {plan : Str -> List Int} {w : Wr} {n : Nat} : ∀ q ∈ D3 plan w n, Ke q.1 := fun q hq => by
 unfold D3 at hq
 rcases Zzi.mp hq with z | z
 ·rw [z]; intro x c e; cases e
 ·obtain ⟨d, _, hd⟩ := Zwm.mp z
  unfold N9 at hd
  rcases Zyu.mp hd with y | y
  ·refine Eu (C := fun q : It3 => Ke q.1) (fun k c _ q hq => ?_) q y
   split at hq
   ·rw [Zz9.mp hq]; intro x c e; cases e
   ·cases hq
  ·rw [Zz9.mp y]; intro x c e; cases e
theorem la {S : Sh} {plan : Str -> List Int} {w : Wr} {ws : List Wr} {n : Nat} (h : ∀ t ∈ ws, PyData.strOk t.name = true) : ∀ q ∈ G6 S plan w ws n, Ke q.1 := fun q hq => by
 unfold G6 at hq
 rcases Zzi.mp hq with z | z
 ·rw [z]; intro x c e; cases e
 ·obtain ⟨d, _, hd⟩ := Zwm.mp z
  unfold Qq at hd
  rcases Zyu.mp hd with y | y
  ·refine Eu (C := fun q : It3 => Ke q.1) (fun k c _ q hq => ?_) q y
   split at hq
   ·rw [Zz9.mp hq]; intro x c e; cases e
   ·cases hq
  ·obtain ⟨k, hk, rfl⟩ := Zzr.mp y
   have : PyData.strOk k.1 = true := Eu (C := fun k : Tk => PyData.strOk k.1 = true) (fun _ t ht => Eu fun _ p _ y hy => by
    split at hy
    ·rw [Zz9.mp hy]; exact h t (Zzt ht)
    ·cases hy) k hk
   intro x c e
   unfold M5 at e
   injection e with e1 e2
   rw [<- e1]
   exact this
theorem jd {ss ns : List (Th × Int)} (hs : ∀ q ∈ ss, Ke q.1) (hn : ∀ q ∈ ns, Ke q.1) (i : Nat) : ∀ q ∈ Fe Th.left ss ns i, Ke q.1 /\ Ke q.2.1 := by
 refine Eu (C := fun q : Th × Th × Int => Ke q.1 /\ Ke q.2.1) fun k s es q hq => ?_
 have h1 := hs s (Zzt es)
 unfold G4 at hq
 rcases Zyu.mp hq with y | y
 ·refine Eu (C := fun q : Th × Th × Int => Ke q.1 /\ Ke q.2.1) (fun j n en q hq => ?_) q y
  unfold Gw at hq
  split at hq
  ·rw [Zz9.mp hq]; exact ⟨h1, hn n (Zzt en)⟩
  ·cases hq
 ·split at y
  ·rw [Zz9.mp y]; exact ⟨h1, fun x c e => by cases e⟩
  ·cases y
theorem je {sz : Int} {S : Sh} {plan : Str -> List Int} {w : Wr} {ws : List Wr} (g : Good sz S) (od : OrdOk S ws) : okD (.list ((Me S plan w ws).map pgD)) = true :=
 Z4 (jd (fun q hq => by obtain ⟨z, hz, rfl⟩ := Zzr.mp hq; exact i8 z (Zyg.mp hz).1) (fun q hq => by obtain ⟨z, hz, rfl⟩ := Zzr.mp hq; exact la (fun t ht => g.ws.txt t (od.1 t ht)) z (Zyg.mp hz).1) _)
def gz (a st p : Addr) (v : V) (S : Sh) (kvs : List (Key × V)) (Pt : Addr) (H : Hp) (i : Nat) (σ : St) (H' : Hp) : Prop := ∃ (o4 o5 o6 : Option V) (plan : Str -> List Int) (B : Int), σ = [some (.ref a), some (.ref st), some v, some (.ref p), o4, o5, o6, none, none, none, none, none] /\ PlanK H' p st S kvs plan B /\ B <= 10 ^ 600 + 20 * i /\ KeepU H H' /\ StOk H' st /\ Tb H' Pt
def nt (a st p od kd : Addr) (v : V) (ys : List Str) (plan : Str -> List Int) (ob : Obj) (kvs : List (Key × V)) (H : Hp) (i : Nat) (σ : St) (H' : Hp) : Prop := ∃ (o4 o5 o6 o9 : Option V) (kc : List (Key × V)), σ = [some (.ref a), some (.ref st), some v, some (.ref p), o4, o5, o6, some (.ref od), some (.ref kd), o9, none, none] /\ H' kd = some (.dK kc) /\ kc.map (·.1) = (ys.take i).map Zxx /\ (∀ nm ∈ ys.take i, ∃ q : Addr, Bq kc (.inr nm) = some (.ref q) /\ H' q = some (.lst ((plan nm).map V.int))) /\ H' p = some (.frz ob (.dK kvs)) /\ ∀ b o, b ≠ kd -> b ≠ p -> H b = some o -> H' b = some o
def nw (a st p od kd : Addr) (v : V) (Pt : Addr) (H : Hp) (i : Nat) (σ : St) (H' : Hp) : Prop := ∃ o4 o5 o6 o9 o10 o11 : Option V, σ = [some (.ref a), some (.ref st), some v, some (.ref p), o4, o5, o6, some (.ref od), some (.ref kd), o9, o10, o11] /\ Tb H' Pt /\ But Pt H H'
def Pz (K : Zzv) (Pt : Addr) : Sp := fun vs H Q _ => ∃ (a : Addr) (ns : List Int), vs = [.ref a] /\ SqL K H a (ns.map V.int) /\ ns.length <= 63 /\ Tb H Pt /\ ∀ H', Q (.bl true) H'
theorem sc_law : Al ["_law_script", "_law_state", "_law_shop_here", "_law_plan", "_law_ware", "_law_day", "_law_many", "_law_order_of_here", "_law_kept_here", "_law_name", "_law_due", "_law_found"] ["_law_script"] (Aa Kn) := by constructor <;> first | rfl | decide +kernel
theorem ir (F : Fun K "law" "law" Kn f fd) (T : Txt mg) (Zua : Has P w K mg base "_law_drawn" 1 ["_law_script"] (Kl K)) (Zu7 : Has P w K mg base "_law_kept" 10 ["_law_shop_here"] (M1 Pt)) (Zu6 : Has P w K mg base "_law_shop" 3 ["_law_state", "_law_top"] sp_law_shop) (Zvl : Has P w K mg base "_law_next" 1 ["_law_state", "_law_many"] sp_law_next) (Zu1 : Has P w K mg base "judged" 7 ["shop", "plan"] (P2 Pt)) (Zuq : Has P w K mg base "_law_order_of" 1 ["_law_shop_here"] sp_law_order_of) (Zup : Has P w K mg base "_law_pegs_due" 2 ["_law_supplied_here", "_law_needed_"] sp_law_pegs_due) (Zug : Has P w K mg base "_law_needed" 1 ["_law_shop_here", "_law_plan", "_law_order_of_here", "_law_name"] sp_law_needed) (Zuo : Has P w K mg base "_law_supplied" 1 ["_law_shop_here", "_law_plan", "_law_name"] sp_law_supplied) (Ztz : Has P w K mg base "pegs" 9 ["shop", "plan", "name"] (Va Pt)) (Zu5 : Has P w K mg base "_law_told" 1 ["_law_found", "_law_due"] sp_law_told) : FnOk P w K mg base CX0 11 f fd ["_law_script"] (Pz K Pt) := by
 refine F.ok sc_law (fun vs H Q E h => ?_) (fun cdv A outer s H vs Q E hr h => ?_)
 ·obtain ⟨a, ns, rfl, _⟩ := h
  rfl
 ·obtain ⟨a, ns, rfl, hS, hlen, tb, k⟩ := h
  have hu := B8 hr
  have hu4 := Vv hr
  have hu7 := fc hr
  refine ⟨_, (A2 (Af (i := 1) sc_law.nd rfl (Zzw rfl) (Ab Zua hr.z rfl (A4 (pv 0) A0)))
 (A2 (Ek (Ab Zu7 hr.z rfl (A4 (Ab Zu6 hr.z rfl (A4 (pv 1) (A4 (A5 hu (Bk (A4 A6 (A4 A6 A0))) (Cy Jr rfl T.Zu0 Od (A4 (Ks (Bl hu) (Ab Zvl hr.z rfl (A4 (pv 1) (A4 A6 A0))) A6 (Ap _)) A0)) (fun _ _ => rfl)) A0))) A0)) (C1 (n := 2) rfl (Ag (Ac (i := 2) sc_law.nd rfl (Zzw rfl)) (Ag (Ac (i := 3) sc_law.nd rfl (Zzw rfl)) Bh))))
 (A2 (Bf (Ak Z1 (pv 3) Gf (Ap _)) (A7 (Am M4)) Au)
 (A2 (As PassesOwn.never rfl (Cl (A5 hu (pv 2) A6 (fun _ _ => rfl))) (Ac (i := 4) sc_law.nd rfl (Zzw rfl))
 (A7 (Bf (PW.pt (K4 (Ak (Bl hu) (Ab Zvl hr.z rfl (A4 (pv 1) (A4 A6 A0))) A6 (Ap _)) (Hv (Ak Ja (An B7 rfl T.Zvc D2 (A4 (A5 hu (pv 3) (A5 hu (pv 4) A6 (fun _ _ => rfl)) (fun _ _ => rfl)) A0)) (A5 hu (pv 4) A6 (fun _ _ => rfl)) (Ap _))))) (A2 (Af (i := 5) sc_law.nd rfl (Zzw rfl) (Av Bw (A5 hu (pv 4) A6 (fun _ _ => rfl)) (Ab Zvl hr.z rfl (A4 (pv 1) (A4 (Av K8 (An B7 rfl T.Zvc D2 (A4 (A5 hu (pv 3) (A5 hu (pv 4) A6 (fun _ _ => rfl)) (fun _ _ => rfl)) A0)) (A5 hu (pv 4) A6 (fun _ _ => rfl))) A0)))))
 (A2 (Af (i := 6) sc_law.nd rfl (Zzw rfl) (Av Bw A6 (Ab Zvl hr.z rfl (A4 (pv 1) (A4 A6 A0)))))
 (A2 (Kp (A5 hu (pv 3) (A5 hu (pv 4) A6 (fun _ _ => rfl)) (fun _ _ => rfl)) (pv 5) Kz (pv 6) Gb Dz)
 (A7 (Bf (Ak (U2 hu4) (Ab Zu1 hr.z rfl (A4 (pv 2) (A4 (pv 3) A0))) (Aq (A4 Bu A0)) (Ap _)) (A7 (Kp (A5 hu (pv 3) (A5 hu (pv 4) A6 (fun _ _ => rfl)) (fun _ _ => rfl)) (pv 5) Kz (pv 6) R3 Dz)) Au))))) Au)))
 (A2 (Af (i := 7) sc_law.nd rfl (Zzw rfl) (Ab Zuq hr.z rfl (A4 (pv 2) A0)))
 (A2 (Af (i := 8) sc_law.nd rfl (Zzw rfl) Fv)
 (A2 (As PassesOwn.never rfl (Yw (pv 3)) (Ac (i := 9) sc_law.nd rfl (Zzw rfl))
 (A7 (Ek (Cy Uo rfl T.Zts W0 (A4 (A5 hu (pv 3) (pv 9) (fun _ _ => rfl)) A0)) (Ez (pv 8) (pv 9) (E2 hu)))))
 (A2 (As PassesOwn.never rfl (Cl (A5 hu (pv 2) A6 (fun _ _ => rfl))) (Ac (i := 4) sc_law.nd rfl (Zzw rfl))
 (A2 (Af (i := 10) sc_law.nd rfl (Zzw rfl) (Ab Zup hr.z rfl (A4 (Ab Zuo hr.z rfl (A4 (pv 2) (A4 (pv 8) (A4 (A5 hu (pv 4) A6 (fun _ _ => rfl)) A0)))) (A4 (Ab Zug hr.z rfl (A4 (pv 2) (A4 (pv 8) (A4 (pv 7) (A4 (A5 hu (pv 4) A6 (fun _ _ => rfl)) A0))))) A0))))
 (A2 (Af (i := 11) sc_law.nd rfl (Zzw rfl) (Ab Ztz hr.z rfl (A4 (pv 2) (A4 (pv 3) (A4 (A5 hu (pv 4) A6 (fun _ _ => rfl)) A0)))))
 (A2 (Bf (PW.pt (Ru (J9 (Hx (Ab Zu5 hr.z rfl (A4 (pv 11) (A4 (pv 10) A0))))) (Q9 (Ak (ip hu7) (pv 3) (pv 8) (Ap _))))) (A7 (Am M4)) Au)
 (A2 (B9 (D5 Zzb Zz8 Zz7 B4 (pv 11) (A4 A6 A0)))
 (A7 (Bf (Ak (U2 hu4) (Ab Ztz hr.z rfl (A4 (pv 2) (A4 (pv 3) (A4 (A5 hu (pv 4) A6 (fun _ _ => rfl)) A0)))) (pv 10) (Ap _)) (A7 (Am M4)) Au)))))))
 (A7 (Am M4)))))))))), ?_⟩
  walk_at "rd"
  refine ⟨a, ns, rfl, hS, hlen, fun st H1 s1 sm1 => ?_⟩
  have tb1 := tb.same sm1
  refine ⟨by decide, fun q hq => ?_⟩
  have u1 := A3 (o := .lst [V.int 5, V.int 8]) hq
  have s2 := s1.same u1
  have tb2 := tb1.same u1
  have x2 := A1 (H := H1) (a := q) (o := .lst [V.int 5, V.int 8])
  have qst : q ≠ st := Zzc (s1.ne hq)
  generalize upd H1 q (.lst [V.int 5, V.int 8]) = H2 at s2 tb2 x2 ⊢
  refine ⟨st, 6, rfl, s2, by decide, by decide +kernel, fun d H3 _ _ s3 b3 => ⟨rfl, _, Ky (b3 _ _ qst x2), ?_⟩⟩
  refine ⟨st, _, rfl, s3, by split <;> decide, by split <;> decide, fun v S H4 rs g s4 b4 => ?_⟩
  have tb4 := Lc (Lc tb2 b3 s2) b4 s3
  refine ⟨v, S, rfl, rs, g, tb4, fun t v' H5 ht tb5 bt5 => ?_, fun t v' p S' sz ys H5 ht rs5 g5 z0 z1 pok so ra hpf tb5 bt5 => ?_⟩
  ·refine gt2 ht ?_
   walk_at "rd"
   rw [if_pos (by decide)]
   exact k H5
  ·refine gt2 ht ?_
   walk_at "rd"
   rw [if_neg (by rw [decide_eq_false (fun z => by cases z)]; decide)]
   have st5 := Yh s4 tb4 bt5
   have L := Jj g5
   have stn : H4 st ≠ none := by obtain ⟨x, _, e⟩ := s4; rw [e]; exact fun h => nomatch h
   have pst : p ≠ st := fun z => stn (z ▸ hpf)
   obtain ⟨kvs, hk1, hk2, hk3, hk4⟩ := ra
   have hm : ∀ nm ∈ Ar S', nm ∈ ys := fun nm h => (D7 so).1.mem_iff.mpr h
   have hm' : ∀ nm ∈ ys, nm ∈ Ar S' := fun nm h => (D7 so).1.mem_iff.mp h
   have pk : PlanK H5 p st S' kvs (LR S') (10 ^ 600) := ⟨hk1, fun nm hn nm' hn' q e e' => hk4 nm (hm _ hn) nm' (hm _ hn') q e e', fun nm hnm => by
    obtain ⟨q, e1, e2, e3, e4⟩ := hk3 nm (hm _ hnm)
    obtain ⟨w, hw, rfl⟩ := Zzr.mp hnm
    exact ⟨q, e3, fun z => stn (z ▸ e1), e4, Lx L.toLev hw, fun x hx => ⟨(W9 (Mv g5) _ x hx).1, Zwg (W9 (Mv g5) _ x hx).2⟩⟩⟩
   obtain ⟨n1, n2, n3, n4⟩ := g5.days z0 (by omega)
   obtain ⟨sa, sb, sc, wv, us, rfl, ha, hb, hc, rws, rus⟩ := Cd rs5
   have hlw := Ao rws
   have w12 := g5.len.2
   refine ⟨_, Ad (j := 0) ha rfl, sb, rfl, wv, hb, ?_⟩
   refine Bd (Di sb _) (gz a st p (.ref sa) S' kvs Pt H5) ⟨_, _, _, _, _, rfl, pk, by omega, fun _ _ e => e, st5, tb5⟩ (fun i σ H' _ h => let ⟨_, _, _, _, _, _, _, _, ku, _⟩ := h; ku _ _ hb) (fun i y σ H6 hi hy h => ?_) (fun σ H6 h => ?_)
   ·obtain ⟨o4, o5, o6, plan, B, rfl, pk6, hB, ku6, st6, tb6⟩ := h
    obtain ⟨w', hw', rt⟩ := Ax rws hy
    have hwm := Zzt hw'
    have hnm : w'.name ∈ Ar S' := Zzr.mpr ⟨w', hwm, rfl⟩
    have wb := g5.ws.wb w' hwm
    have hi : i < 12 := Zz4 hi (by omega)
    obtain ⟨te, d1, d2, rfl, hte, _⟩ := B5 rt
    have inv : ∀ (o4 o5 o6 : Option V) (plan : Str -> List Int) (H' : Hp) (B : Int), PlanK H' p st S' kvs plan B -> B <= 10 ^ 600 + 20 * (i + 1 : Nat) -> KeepU H5 H' -> StOk H' st -> Tb H' Pt -> gz a st p (.ref sa) S' kvs Pt H5 (i + 1) [some (.ref a), some (.ref st), some (.ref sa), some (.ref p), o4, o5, o6, none, none, none, none, none] H' := fun o4 o5 o6 plan H' B h1 h2 h3 h4 h5 => ⟨_, _, _, plan, B, rfl, h1, h2, h3, h4, h5⟩
    walk_at "rd"
    refine ⟨st, 3, rfl, st6, by decide, by decide +kernel, fun d H7 _ _ s7 b7 => ⟨rfl, C9 (fun _ => ?_) (fun _ => inv _ _ _ plan H7 B (pk6.but b7 pst) (by omega) (ku6.trans (Dg b7 st6)) s7 (Lc tb6 b7 st6))⟩⟩
    have pk7 := pk6.but b7 pst
    have ku7 := ku6.trans (Dg b7 st6)
    have tb7 := Lc tb6 b7 st6
    obtain ⟨l, hv, lst', hl, hlen', hbd⟩ := id (pk7.2.2 w'.name hnm)
    have el : (((plan w'.name).map V.int).length : Int) = (daysN S' : Int) := by rw [Zzz, hlen']
    have hte7 := ku7 _ _ hte
    refine ⟨_, Ad (j := 0) hte7 rfl, _, Cb (.inl pk7.1) hv, l, rfl, _, .inl hl, _, Ad (j := 1) hte7 rfl, _, rfl, C9 (fun c2 => ?_) (fun _ => inv _ _ _ plan H7 B pk7 (by omega) ku7 s7 tb7)⟩
    have c2 : w'.lag < (daysN S' : Int) := by have := of_decide_eq_true c2; omega
    have lag := wb.lag
    refine ⟨_, Ad (j := 1) hte7 rfl, _, Ad (j := 0) hte7 rfl, _, Cb (.inl pk7.1) hv, l, rfl, _, .inl hl, _, Ad (j := 1) hte7 rfl, _, rfl, ?_⟩
    rw [el]
    refine ⟨st, _, rfl, s7, by omega, Zy7 (b := 1000) (by omega) (by decide +kernel), fun e H8 e0 e1 s8 b8 => ⟨_, rfl, _, rfl, ?_⟩⟩
    refine ⟨st, 9, rfl, s8, by decide, by decide +kernel, fun x H9 x0 x1 s9 b9 => ?_⟩
    have pk9 := (pk7.but b8 pst).but b9 pst
    have ku9 := (ku7.trans (Dg b8 s7)).trans (Dg b9 s8)
    have tb9 := Lc (Lc tb7 b8 s7) b9 s8
    have hte9 := ku9 _ _ hte
    have hl9 : H9 l = some (.lst ((plan w'.name).map V.int)) := b9 _ _ lst' (b8 _ _ lst' hl)
    obtain ⟨j, ej⟩ : ∃ j, j = (w'.lag + e).toNat := ⟨_, rfl⟩
    have hj : j < (plan w'.name).length := by omega
    have ey : (plan w'.name)[j]? = some ((plan w'.name).getD j 0) := by rw [Zzh, Zzu hj]; rfl
    have hyb := hbd _ (Zzt ey)
    generalize (plan w'.name).getD j 0 = y0 at ey hyb
    have eix : ∀ xs : List Int, xs.length = daysN S' -> ixN (xs.map V.int).length (w'.lag + e) = some j := fun xs hx => by
     unfold ixN
     rw [Zzz, hx, if_pos (by omega), if_pos (by omega), ej]
    refine ⟨x, rfl, _, Ad (j := 0) hte9 rfl, _, Cb (.inl pk9.1) hv, l, rfl, _, hl9, by omega, .int y0, by rw [<- ej, Zzx, ey]; rfl, _, rfl, l, rfl, _, hl9, j, eix _ hlen', ?_⟩
    rw [<- Zwh]
    have pk10 := pk9.set (B' := B + 10) hnm hv (xs := (plan w'.name).set j (y0 + (1 + x))) (by rw [Zx2]; exact hlen') (Tq (fun z hz => ⟨(hbd z hz).1, by have := (hbd z hz).2; omega⟩) ⟨by omega, by omega⟩) (by omega)
    have ku10 := ku9.trans (Fb (ys := ((plan w'.name).set j (y0 + (1 + x))).map V.int) hl9)
    have st10 := s9.upd (o := .lst (((plan w'.name).set j (y0 + (1 + x))).map V.int)) (Zzc lst')
    have tb10 := Ps (o := .lst (((plan w'.name).set j (y0 + (1 + x))).map V.int)) tb9 hl9
    have hl10 := A1 (H := H9) (a := l) (o := .lst (((plan w'.name).set j (y0 + (1 + x))).map V.int))
    generalize upd H9 l (.lst (((plan w'.name).set j (y0 + (1 + x))).map V.int)) = H10 at pk10 ku10 st10 tb10 hl10 ⊢
    refine ⟨.ref sa, p, S', _, sz, rfl, RD.ku ku10 _ _ (Ce S') rs5, pk10.at (Zy7 (b := 10 ^ 600 + 1000) (by omega) (by decide +kernel)), g5, z0, by omega, tb10, fun t' ys' H11 ht' so' hj' tb11 bt11 => ⟨by decide, fun r hr' => ?_⟩⟩
    have u12 := A3 (o := .tup [V.str "good"]) hr'
    have pk12 := (pk10.tb tb10 bt11).same u12
    have ku12 := (ku10.trans (Es tb10 bt11)).trans u12.ku
    have st12 := (Yh st10 tb10 bt11).same u12
    have tb12 := tb11.same u12
    have hl12 := u12 _ _ (bt11 _ _ (Ha tb10 hl10 fun u z => by cases z) hl10)
    refine ⟨_, Yn (u12 _ _ hj'), _, Yn (o := none) A1, iu (fun x hx => g5.txt x ((D7 so').1.mem_iff.mp hx)), by decide +kernel, C9 (fun _ => ?_) (fun _ => ?_)⟩
    ·have hte12 := ku12 _ _ hte
     refine ⟨_, Ad (j := 0) hte12 rfl, _, Cb (.inl pk12.1) hv, l, rfl, _, hl12, by omega, .int (y0 + (1 + x)), by rw [<- ej, Zzx, Zx8 hj]; rfl, _, rfl, l, rfl, _, hl12, j, eix _ (by rw [Zx2]; exact hlen'), ?_⟩
     rw [<- Zwh]
     have pk13 := pk12.set (B' := B + 10) hnm hv (xs := ((plan w'.name).set j (y0 + (1 + x))).set j (y0 + (1 + x) - (1 + x))) (by rw [Zx2, Zx2]; exact hlen') (Tq (Tq (fun z hz => ⟨(hbd z hz).1, by have := (hbd z hz).2; omega⟩) ⟨by omega, by omega⟩) ⟨by omega, by omega⟩) (by omega)
     exact inv _ _ _ _ _ _ pk13 (by omega) (ku12.trans (Fb hl12)) (st12.upd (Zzc lst')) (Ps tb12 hl12)
    ·exact inv _ _ _ _ _ _ pk12 (by omega) ku12 st12 tb12
   ·obtain ⟨o4, o5, o6, plan, B, rfl, pk6, hB, ku6, st6, tb6⟩ := h
    have rs6 := RD.ku ku6 _ _ (Ce S') rs5
    rw [hlw] at hB
    walk_at "rd"
    refine ⟨.ref sa, S', rfl, rs6, L, fun od H7 ac7 => ?_⟩
    have ord := cw L.toLev
    intro kd hkd
    have u8 := A3 (o := .dK []) hkd
    have s68 := ac7.same.trans u8
    have pk8 := pk6.same s68
    refine ⟨kvs, pk8.1, fun ob => ?_⟩
    have kdp : kd ≠ p := fun z => by have := ac7.same _ _ pk6.1; rw [<- z, hkd] at this; cases this
    have pk7 := pk6.same ac7.same
    have hk' : ∀ (i : Nat) (ky : Key) (vv : V), kvs[i]? = some (ky, vv) -> ∃ nm, ys[i]? = some nm /\ ky = .inr nm := fun i ky vv e => by
     have h1 : (kvs.map (·.1))[i]? = some ky := by rw [Zzx, e]; rfl
     rw [hk2, Zzx] at h1
     cases en : ys[i]? with
     | none => rw [en] at h1; cases h1
     | some nm => rw [en] at h1; exact ⟨nm, rfl, (Zzo h1).symm⟩
    have kl : kvs.length = ys.length := by have := congrArg Zx7 hk2; rw [Zzz, Zzz] at this; exact this
    have ndy : ys.Nodup := (D7 so).1.nodup_iff.mpr g5.ws.nd
    have yl : ys.length <= 12 := by have := (D7 so).1.length_eq; rw [this, Ca]; exact w12
    have pkd : p ≠ kd := Zzc kdp
    refine Bd (gs p ob kvs) (nt a st p od kd (.ref sa) ys plan ob kvs H7) ⟨_, _, _, _, [], rfl, by rw [A8 kdp, A1], rfl, (fun nm h => by cases h), A1, fun b o n1 n2 e => by rw [A8 n2]; exact u8 _ _ e⟩ (fun i σ H' _ h => let ⟨_, _, _, _, _, _, _, _, _, h, _⟩ := h; h) (fun i x σ H9 hi hx h => ?_) (fun σ H9 h => ?_)
    ·obtain ⟨o4, o5, o6, o9, kc, rfl, hkd9, hkc, rows, hp9, kp⟩ := h
     obtain ⟨ky, vv, hkv, rfl⟩ := hx
     obtain ⟨nm, en, rfl⟩ := hk' i ky vv hkv
     have hny := Zzt en
     obtain ⟨l, hv, lst', hl, hlen', hbd⟩ := pk7.2.2 nm (hm' nm hny)
     have hl9 := kp _ _ (fun z => by rw [z, hkd] at hl; cases hl) (fun z => by rw [z, pk7.1] at hl; cases hl) hl
     have kcl : kc.length = i := by have := congrArg Zx7 hkc; rw [Zzz, Zzz, Zyq] at this; omega
     walk_at "rd"
     refine ⟨_, Cb (.inr ⟨_, hp9⟩) hv, l, rfl, _, .inl hl9, fun r hr9 => ?_⟩
     have u := A3 (o := .lst ((plan nm).map V.int)) hr9
     have rkd : r ≠ kd := fun z => by rw [z, hkd9] at hr9; cases hr9
     refine ⟨kc, .inr nm, rfl, u _ _ hkd9, Zyk (m := 1000) (by omega) (by decide), _, _, _, _, _, rfl, A1, ?_, fun nm' hn' => ?_, by rw [A8 pkd]; exact u _ _ hp9, fun b o n1 n2 e => by rw [A8 n1]; exact u _ _ (kp b o n1 n2 e)⟩
     ·have nn : Bq kc (.inr nm) = none := by
       cases e : Bq kc (.inr nm) with
       | none => rfl
       | some z =>
        have h3 := V0 e
        rw [hkc] at h3
        obtain ⟨y, hy, e2⟩ := Zzr.mp h3
        rw [Zx9 e2] at hy
        exact absurd hy (Eb ndy en)
      rw [Ko _ nn, Zzf, hkc, Zz5, en, Zzf]
      rfl
     ·by_cases e : nm' = nm
      ·subst e
       exact ⟨r, by rw [Fq, if_pos rfl], by rw [A8 rkd, A1]⟩
      ·rw [Zz5, en, Zyu] at hn'
       rcases hn' with z | z
       ·obtain ⟨q', e1, e2⟩ := rows nm' z
        have e3 := u _ _ e2
        exact ⟨q', by rw [Fq, if_neg (fun z => e (Zx9 z))]; exact e1, by rw [A8 (M6 e3 (u _ _ hkd9) (fun z => by cases z))]; exact e3⟩
       ·exact absurd (Zz9.mp z) e
    ·obtain ⟨o4, o5, o6, o9, kc, rfl, hkd9, hkc, rows, hp9, kp⟩ := h
     rw [kl, Zz1] at hkc rows
     have keepL : ∀ {b : Addr} {xs : List V}, H7 b = some (.lst xs) -> H9 b = some (.lst xs) := fun {b xs} e => kp _ _ (fun z => by rw [z, hkd] at e; cases e) (fun z => by rw [z, pk7.1] at e; cases e) e
     have ku79 : KeepU H7 H9 := fun b xs e => kp _ _ (fun z => by rw [z, hkd] at e; cases e) (fun z => by rw [z, pk7.1] at e; cases e) e
     have ku69 := ac7.same.ku.trans ku79
     have rs9 := RD.ku ku69 _ _ (Ce S') rs6
     have tb7 := tb6.same ac7.same
     have tb9 : Tb H9 Pt := by
      rcases tb7 with e | ⟨c, e, e2⟩
      ·exact .inl (kp _ _ (fun z => by rw [z, hkd] at e; cases e) (fun z => by rw [z, pk7.1] at e; cases e) e)
      ·exact .inr ⟨c, kp _ _ (fun z => by rw [z, hkd] at e; cases e) (fun z => by rw [z, pk7.1] at e; cases e) e, kp _ _ (fun z => by rw [z, hkd] at e2; cases e2) (fun z => by rw [z, pk7.1] at e2; cases e2) e2⟩
     have rod9 : RD H9 (.list ((F0 S' S'.wares.length).map Wr.d)) (.ref od) := by
      obtain ⟨vs, h1, h2⟩ := Bx ac7.rd
      exact Hu (keepL h1) (RDs.ku ku79 _ _ ac7.nl h2)
     have bB : B < 10 ^ 2000 := Zy7 (b := 10 ^ 600 + 1000) (by omega) (by decide +kernel)
     have plA : PlanAt H9 p S' plan := ⟨kvs, .inr ⟨ob, hp9⟩, fun nm hn => by
      obtain ⟨l, hv, _, hl, hlen', hbd⟩ := pk7.2.2 nm hn
      exact ⟨l, hv, keepL hl, hlen', fun x hx => ⟨(hbd x hx).1, Zy7 (hbd x hx).2 bB⟩⟩⟩
     have plB : PlanAt H9 kd S' plan := ⟨kc, .inl hkd9, fun nm hn => by
      obtain ⟨l, hv, _, hl, hlen', hbd⟩ := pk7.2.2 nm hn
      obtain ⟨q', e1, e2⟩ := rows nm (hm nm hn)
      exact ⟨q', e1, e2, hlen', fun x hx => ⟨(hbd x hx).1, Zy7 (hbd x hx).2 bB⟩⟩⟩
     have ndk : (kvs.map (·.1)).Nodup := by rw [hk2]; exact List.pairwise_map.mpr (ndy.imp fun {x y} h e => h (Zx9 e))
     have like : ∀ H', But Pt H9 H' -> W7 H' kvs kc := fun H' btx q hq => by
      obtain ⟨i, hi⟩ := Zxv.mp hq
      obtain ⟨nm, en, ek⟩ := hk' i q.1 q.2 hi
      have hny := Zzt en
      obtain ⟨l, hv, _, hl, _⟩ := pk7.2.2 nm (hm' nm hny)
      obtain ⟨l2, e1, e2⟩ := rows nm hny
      have hv2 := Jx (k := q.1) (v := q.2) ndk hi
      rw [ek, hv] at hv2
      refine ⟨.ref l2, Q3 (plan nm), Q3 (plan nm), by rw [ek]; exact e1, ?_, Ym (btx _ _ (Ha tb9 e2 fun u z => by cases z) e2), Vj _, Vj _, by rw [Zv, decide_eq_true rfl]⟩
      rw [<- Zzo hv2]
      exact Ym (btx _ _ (Ha tb9 (keepL hl) fun u z => by cases z) (keepL hl))
     have lkc : kvs.length = kc.length := by
      have := congrArg Zx7 hkc
      rw [Zzz, Zzz] at this
      omega
     walk_at "rd"
     obtain ⟨sa', sb', sc', wv', us', esa, ha', hb', hc', rws', rus'⟩ := Cd rs9
     cases esa
     refine ⟨_, Ad (j := 0) ha' rfl, sb', rfl, wv', hb', ?_⟩
     refine Bd (Di sb' _) (nw a st p od kd (.ref sa) Pt H9) ⟨_, _, _, _, _, _, rfl, tb9, fun b o _ e => e⟩ (fun i σ H' _ h => let ⟨_, _, _, _, _, _, _, tbx, btx⟩ := h; Es tb9 btx _ _ hb') (fun i y σ H10 hi hy h => ?_) (fun σ H10 h => ?_)
     ·obtain ⟨o4, o5, o6, o9, o10, o11, rfl, tb10, bt10⟩ := h
      obtain ⟨w', hw', rt⟩ := Ax rws' hy
      have hwm := Zzt hw'
      obtain ⟨te, d1, d2, rfl, hte, _⟩ := B5 rt
      have ku10 := Es tb9 bt10
      have rs10 := RD.ku ku10 _ _ (Ce S') rs9
      have hte10 := ku10 _ _ hte
      have plA10 := plA.tb tb9 bt10
      have plB10 := plB.tb tb9 bt10
      walk_at "rd"
      refine ⟨_, Ad (j := 0) hte10 rfl, .ref sa, kd, S', plan, w', sz, rfl, rs10, plB10, hwm, g5, z0, by omega, fun q1 H11 ac11 => ?_⟩
      refine ⟨_, Ad (j := 0) (ac11.same _ _ hte10) rfl, .ref sa, kd, od, S', plan, w', F0 S' S'.wares.length, sz, rfl, RD.same ac11.same _ _ rs10, plB10.same ac11.same, RD.same ac11.same _ _ (Ng rod9 ac7.nl tb9 bt10), ord, hwm, g5, z0, by omega, fun q2 H12 ac12 => ?_⟩
      have s12 := ac11.same.trans ac12.same
      have sl := Fk (plan := plan) (g5.com w' hwm).1 (daysN S')
      have nl := Kv (S := S') (plan := plan) (w := w') (fun t ht => (g5.ws.wb t (ord.1 t ht)).parts) (by have := ord.len; omega) g5.wants.1 (daysN S')
      have sl2 := Kq (D3 plan w' (daysN S'))
      have nl2 := Kq (G6 S' plan w' (F0 S' S'.wares.length) (daysN S'))
      have fpos : ∀ l : List It3, ∀ x ∈ E7 l, 0 < x.2.2 := fun l x hx => of_decide_eq_true (Zyg.mp hx).2
      refine ⟨q1, q2, E7 (D3 plan w' (daysN S')), E7 (G6 S' plan w' (F0 S' S'.wares.length) (daysN S')), rfl, RD.same ac12.same _ _ ac11.rd, ac12.rd, fpos _, fpos _, by omega, by omega, fun q3 H13 ac13 => ?_⟩
      have ed : Fe Th.left ((E7 (D3 plan w' (daysN S'))).map dr) ((E7 (G6 S' plan w' (F0 S' S'.wares.length) (daysN S'))).map dr) (E7 (D3 plan w' (daysN S'))).length = Me S' plan w' (F0 S' S'.wares.length) := by unfold Me Rn U8; rw [Zzz]
      rw [ed] at ac13
      have dl : (Me S' plan w' (F0 S' S'.wares.length)).length <= 1000000 := by
       have := R7 (lf := Th.left) (ss := Rn S' plan w') (ns := U8 S' plan w' (F0 S' S'.wares.length)) (fun x hx => by obtain ⟨z, hz, rfl⟩ := Zzr.mp hx; exact fpos _ z hz) (fun x hx => by obtain ⟨z, hz, rfl⟩ := Zzr.mp hx; exact fpos _ z hz) _ (Zzs _)
       have e1 : (Rn S' plan w').length = (E7 (D3 plan w' (daysN S'))).length := Zzz ..
       have e2 : (U8 S' plan w' (F0 S' S'.wares.length)).length = (E7 (G6 S' plan w' (F0 S' S'.wares.length) (daysN S'))).length := Zzz ..
       unfold Me
       omega
      have ok := je (plan := plan) (w := w') g5 ord
      have ndl := Bo pgD gm (Me S' plan w' (F0 S' S'.wares.length))
      have s13 := s12.trans ac13.same
      have tb13 := tb10.same s13
      have bt13 : But Pt H9 H13 := bt10.trans (Bt s13)
      refine ⟨_, Ad (j := 0) (s13 _ _ hte10) rfl, .ref sa, p, S', plan, w', F0 S' S'.wares.length, sz, rfl, RD.same s13 _ _ rs10, plA10.same s13, hwm, g5, z0, by omega, ord, tb13, fun q4 H14 hq4 rd4 tb14 bt14 => ?_⟩
      refine ⟨q4, q3, _, rfl, rd4, Ng ac13.rd ndl tb13 bt14, ok, fun H15 s15 => ⟨true, rfl, ?_⟩⟩
      rw [if_neg (by decide)]
      have bt15 : But Pt H9 H15 := (bt13.trans bt14).trans (Bt s15)
      have rd4' := RD.same s15 _ _ rd4
      have rd3' := RD.same s15 _ _ (Ng ac13.rd ndl tb13 bt14)
      have tb15 := tb14.same s15
      obtain ⟨vs, hq15, rvs⟩ := Bx rd4'
      have vl := Ao rvs
      obtain ⟨v3, hq3, rv3⟩ := Bx rd3'
      have q34 : q3 ≠ q4 := fun z => by obtain ⟨v3, h3, _⟩ := Bx ac13.rd; rw [z, hq4] at h3; cases h3
      have bt16 : But Pt H9 (upd H15 q4 (.lst (vs ++ [V.int 0]))) := fun b o nb e => by
       rw [A8 (fun z => by have := bt13 b o nb e; rw [z, hq4] at this; cases this)]
       exact bt15 b o nb e
      have tb16 : Tb (upd H15 q4 (.lst (vs ++ [V.int 0]))) Pt := Ps tb15 hq15
      have rd16 : RD (upd H15 q4 (.lst (vs ++ [V.int 0]))) (.list ((Me S' plan w' (F0 S' S'.wares.length)).map pgD)) (.ref q3) := Hu (by rw [A8 q34]; exact hq3) (RDs.ku (Fb hq15) _ _ ndl rv3)
      refine ⟨kvs, .inr ⟨ob, bt15 _ _ (Ha tb9 hp9 fun u z => by cases z) hp9⟩, kc, .inl (bt15 _ _ (Ha tb9 hkd9 fun u z => by cases z) hkd9), lkc, like H15 bt15, Fs hq15, q4, rfl, vs, hq15, Zyk (m := 1000000) (by rw [vl]; exact dl) (by decide), ?_⟩
      generalize upd H15 q4 (.lst (vs ++ [V.int 0])) = H16 at bt16 tb16 rd16 ⊢
      have ku16 := Es tb9 bt16
      refine ⟨_, Ad (j := 0) (ku16 _ _ hte) rfl, .ref sa, p, S', plan, w', F0 S' S'.wares.length, sz, rfl, RD.ku ku16 _ _ (Ce S') rs9, plA.tb tb9 bt16, hwm, g5, z0, by omega, ord, tb16, fun q5 H17 hq5 rd5 tb17 bt17 => ?_⟩
      refine ⟨_, rd5, _, Ng rd16 ndl tb16 bt17, ok, ok, ?_⟩
      rw [if_neg (by rw [O6 _ (Vk ok)]; decide)]
      exact ⟨_, _, _, _, _, _, rfl, tb17, bt16.trans bt17⟩
     ·obtain ⟨o4, o5, o6, o9, o10, o11, rfl, tb10, bt10⟩ := h
      walk_at "rd"
      exact k H10
end
theorem all_mk {l : PySem.W.OpenLaw} {w : World} {K : Zzv} {h : Heap} {mg : Str -> Option Value} {fa : Addr} (X : K.In h) (G : h.Ns mainGlobals mg) (hfa : mg "law" = some (.ref fa))
  {f1 f2 f3 f4 f5 f6 f7 f8 f9 f10 f11 f12 f13 f14 f15 f16 f17 f18 f19 f20 f21 f22 f23 f24 f25 f26 f27 f28 f29 f30 f31 f32 f33 f34 f35 f36 f37 f38 f39 f40 f41 f42 f43 f44 f45 f46 : Addr} {od1 an1 od2 an2 od3 an3 od4 an4 od5 an5 od6 an6 od7 an7 od8 an8 od9 an9 od10 an10 od11 an11 od12 an12 od13 an13 od14 an14 od15 an15 od16 an16 od17 an17 od18 an18 od19 an19 od20 an20 od21 an21 od22 an22 od23 an23 od24 an24 od25 an25 od26 an26 od27 an27 od28 an28 od29 an29 od30 an30 od31 an31 od32 an32 od33 an33 od34 an34 od35 an35 od36 an36 od37 an37 od38 an38 od39 an39 od40 an40 od41 an41 od42 an42 od43 an43 od44 an44 od45 an45 od46 an46 : Option Addr} {sl1 sl2 sl3 sl4 sl5 sl6 sl7 sl8 sl9 sl10 sl11 sl12 sl13 sl14 sl15 sl16 sl17 sl18 sl19 sl20 sl21 sl22 sl23 sl24 sl25 sl26 sl27 sl28 sl29 sl30 sl31 sl32 sl33 sl34 sl35 sl36 sl37 sl38 sl39 sl40 sl41 sl42 sl43 sl44 sl45 sl46 : Array (Option Value)} {oc1 kV1 dc1 pm1 cd1 ct1 oc2 kV2 dc2 pm2 cd2 ct2 oc3 kV3 dc3 pm3 cd3 ct3 oc4 kV4 dc4 pm4 cd4 ct4 oc5 kV5 dc5 pm5 cd5 ct5 oc6 kV6 dc6 pm6 cd6 ct6 oc7 kV7 dc7 pm7 cd7 ct7 oc8 kV8 dc8 pm8 cd8 ct8 oc9 kV9 dc9 pm9 cd9 ct9 oc10 kV10 dc10 pm10 cd10 ct10 oc11 kV11 dc11 pm11 cd11 ct11 oc12 kV12 dc12 pm12 cd12 ct12 oc13 kV13 dc13 pm13 cd13 ct13 oc14 kV14 dc14 pm14 cd14 ct14 oc15 kV15 dc15 pm15 cd15 ct15 oc16 kV16 dc16 pm16 cd16 ct16 oc17 kV17 dc17 pm17 cd17 ct17 oc18 kV18 dc18 pm18 cd18 ct18 oc19 kV19 dc19 pm19 cd19 ct19 oc20 kV20 dc20 pm20 cd20 ct20 oc21 kV21 dc21 pm21 cd21 ct21 oc22 kV22 dc22 pm22 cd22 ct22 oc23 kV23 dc23 pm23 cd23 ct23 oc24 kV24 dc24 pm24 cd24 ct24 oc25 kV25 dc25 pm25 cd25 ct25 oc26 kV26 dc26 pm26 cd26 ct26 oc27 kV27 dc27 pm27 cd27 ct27 oc28 kV28 dc28 pm28 cd28 ct28 oc29 kV29 dc29 pm29 cd29 ct29 oc30 kV30 dc30 pm30 cd30 ct30 oc31 kV31 dc31 pm31 cd31 ct31 oc32 kV32 dc32 pm32 cd32 ct32 oc33 kV33 dc33 pm33 cd33 ct33 oc34 kV34 dc34 pm34 cd34 ct34 oc35 kV35 dc35 pm35 cd35 ct35 oc36 kV36 dc36 pm36 cd36 ct36 oc37 kV37 dc37 pm37 cd37 ct37 oc38 kV38 dc38 pm38 cd38 ct38 oc39 kV39 dc39 pm39 cd39 ct39 oc40 kV40 dc40 pm40 cd40 ct40 oc41 kV41 dc41 pm41 cd41 ct41 oc42 kV42 dc42 pm42 cd42 ct42 oc43 kV43 dc43 pm43 cd43 ct43 oc44 kV44 dc44 pm44 cd44 ct44 oc45 kV45 dc45 pm45 cd45 ct45 oc46 kV46 dc46 pm46 cd46 ct46 : Value} {t_COMING : Tok} {t_FLOOR : Tok} {t_GIVES : Tok} {t_LAG : Tok} {t_NAME : Tok} {t_PARTS : Tok} {t_STOCK : Tok} {t_WANT_AMOUNT : Tok} {t_WANT_DAY : Tok} {t_WANT_NAME : Tok} {ct Pt : Addr} {odc : Option Addr} {vsc : Array Value} {slc : Array (Option Value)}
  (a1 : Zzq K mainGlobals "_law_drawn" = some (some (.ref f1))) (l1 : K.lookup f1 = some ⟨oc1, od1, .func (Zzd "_law_drawn" "_law_drawn" (Aj Dv) (Ai Dv) (Aa Dv) .none kV1 dc1 pm1 an1 cd1 ct1), sl1⟩) (c1 : Zzk K cd1 "_law_drawn" = true) (k1 : Zzl K (.ref f1) = true)
  (a2 : Zzq K mainGlobals "part_names" = some (some (.ref f2))) (l2 : K.lookup f2 = some ⟨oc2, od2, .func (Zzd "part_names" "part_names" (Aj D9) (Ai D9) (Aa D9) .none kV2 dc2 pm2 an2 cd2 ct2), sl2⟩) (c2 : Zzk K cd2 "part_names" = true) (k2 : Zzl K (.ref f2) = true)
  (a3 : Zzq K mainGlobals "without_ends" = some (some (.ref f3))) (l3 : K.lookup f3 = some ⟨oc3, od3, .func (Zzd "without_ends" "without_ends" (Aj Cg) (Ai Cg) (Aa Cg) .none kV3 dc3 pm3 an3 cd3 ct3), sl3⟩) (c3 : Zzk K cd3 "without_ends" = true) (k3 : Zzl K (.ref f3) = true)
  (a4 : Zzq K mainGlobals "endless_parts" = some (some (.ref f4))) (l4 : K.lookup f4 = some ⟨oc4, od4, .func (Zzd "endless_parts" "endless_parts" (Aj C6) (Ai C6) (Aa C6) .none kV4 dc4 pm4 an4 cd4 ct4), sl4⟩) (c4 : Zzk K cd4 "endless_parts" = true) (k4 : Zzl K (.ref f4) = true)
  (a5 : Zzq K mainGlobals "ring" = some (some (.ref f5))) (l5 : K.lookup f5 = some ⟨oc5, od5, .func (Zzd "ring" "ring" (Aj Le) (Ai Le) (Aa Le) .none kV5 dc5 pm5 an5 cd5 ct5), sl5⟩) (c5 : Zzk K cd5 "ring" = true) (k5 : Zzl K (.ref f5) = true)
  (a6 : Zzq K mainGlobals "check_rings" = some (some (.ref f6))) (l6 : K.lookup f6 = some ⟨oc6, od6, .func (Zzd "check_rings" "check_rings" (Aj Cw) (Ai Cw) (Aa Cw) .none kV6 dc6 pm6 an6 cd6 ct6), sl6⟩) (c6 : Zzk K cd6 "check_rings" = true) (k6 : Zzl K (.ref f6) = true)
  (a7 : Zzq K mainGlobals "names_of" = some (some (.ref f7))) (l7 : K.lookup f7 = some ⟨oc7, od7, .func (Zzd "names_of" "names_of" (Aj Ee) (Ai Ee) (Aa Ee) .none kV7 dc7 pm7 an7 cd7 ct7), sl7⟩) (c7 : Zzk K cd7 "names_of" = true) (k7 : Zzl K (.ref f7) = true)
  (a8 : Zzq K mainGlobals "levels" = some (some (.ref f8))) (l8 : K.lookup f8 = some ⟨oc8, od8, .func (Zzd "levels" "levels" (Aj Hi) (Ai Hi) (Aa Hi) .none kV8 dc8 pm8 an8 cd8 ct8), sl8⟩) (c8 : Zzk K cd8 "levels" = true) (k8 : Zzl K (.ref f8) = true)
  (a9 : Zzq K mainGlobals "worked" = some (some (.ref f9))) (l9 : K.lookup f9 = some ⟨oc9, od9, .func (Zzd "worked" "worked" (Aj He) (Ai He) (Aa He) .none kV9 dc9 pm9 an9 cd9 ct9), sl9⟩) (c9 : Zzk K cd9 "worked" = true) (k9 : Zzl K (.ref f9) = true)
  (a10 : Zzq K mainGlobals "ware_of" = some (some (.ref f10))) (l10 : K.lookup f10 = some ⟨oc10, od10, .func (Zzd "ware_of" "ware_of" (Aj Fm) (Ai Fm) (Aa Fm) .none kV10 dc10 pm10 an10 cd10 ct10), sl10⟩) (c10 : Zzk K cd10 "ware_of" = true) (k10 : Zzl K (.ref f10) = true)
  (a11 : Zzq K mainGlobals "lots_for" = some (some (.ref f11))) (l11 : K.lookup f11 = some ⟨oc11, od11, .func (Zzd "lots_for" "lots_for" (Aj Ef) (Ai Ef) (Aa Ef) .none kV11 dc11 pm11 an11 cd11 ct11), sl11⟩) (c11 : Zzk K cd11 "lots_for" = true) (k11 : Zzl K (.ref f11) = true)
  (a12 : Zzq K mainGlobals "least_lots" = some (some (.ref f12))) (l12 : K.lookup f12 = some ⟨oc12, od12, .func (Zzd "least_lots" "least_lots" (Aj Da) (Ai Da) (Aa Da) .none kV12 dc12 pm12 an12 cd12 ct12), sl12⟩) (c12 : Zzk K cd12 "least_lots" = true) (k12 : Zzl K (.ref f12) = true)
  (a13 : Zzq K mainGlobals "count_days" = some (some (.ref f13))) (l13 : K.lookup f13 = some ⟨oc13, od13, .func (Zzd "count_days" "count_days" (Aj Dd) (Ai Dd) (Aa Dd) .none kV13 dc13 pm13 an13 cd13 ct13), sl13⟩) (c13 : Zzk K cd13 "count_days" = true) (k13 : Zzl K (.ref f13) = true)
  (a14 : Zzq K mainGlobals "wants_row" = some (some (.ref f14))) (l14 : K.lookup f14 = some ⟨oc14, od14, .func (Zzd "wants_row" "wants_row" (Aj Do) (Ai Do) (Aa Do) .none kV14 dc14 pm14 an14 cd14 ct14), sl14⟩) (c14 : Zzk K cd14 "wants_row" = true) (k14 : Zzl K (.ref f14) = true)
  (a15 : Zzq K mainGlobals "begun_row" = some (some (.ref f15))) (l15 : K.lookup f15 = some ⟨oc15, od15, .func (Zzd "begun_row" "begun_row" (Aj Dw) (Ai Dw) (Aa Dw) .none kV15 dc15 pm15 an15 cd15 ct15), sl15⟩) (c15 : Zzk K cd15 "begun_row" = true) (k15 : Zzl K (.ref f15) = true)
  (a16 : Zzq K mainGlobals "needs_row" = some (some (.ref f16))) (l16 : K.lookup f16 = some ⟨oc16, od16, .func (Zzd "needs_row" "needs_row" (Aj Dq) (Ai Dq) (Aa Dq) .none kV16 dc16 pm16 an16 cd16 ct16), sl16⟩) (c16 : Zzk K cd16 "needs_row" = true) (k16 : Zzl K (.ref f16) = true)
  (a17 : Zzq K mainGlobals "arrivals_row" = some (some (.ref f17))) (l17 : K.lookup f17 = some ⟨oc17, od17, .func (Zzd "arrivals_row" "arrivals_row" (Aj Ck) (Ai Ck) (Aa Ck) .none kV17 dc17 pm17 an17 cd17 ct17), sl17⟩) (c17 : Zzk K cd17 "arrivals_row" = true) (k17 : Zzl K (.ref f17) = true)
  (a18 : Zzq K mainGlobals "first_early" = some (some (.ref f18))) (l18 : K.lookup f18 = some ⟨oc18, od18, .func (Zzd "first_early" "first_early" (Aj Cv) (Ai Cv) (Aa Cv) .none kV18 dc18 pm18 an18 cd18 ct18), sl18⟩) (c18 : Zzk K cd18 "first_early" = true) (k18 : Zzl K (.ref f18) = true)
  (a19 : Zzq K mainGlobals "planned" = some (some (.ref f19))) (l19 : K.lookup f19 = some ⟨oc19, od19, .func (Zzd "planned" "planned" (Aj Fo) (Ai Fo) (Aa Fo) .none kV19 dc19 pm19 an19 cd19 ct19), sl19⟩) (c19 : Zzk K cd19 "planned" = true) (k19 : Zzl K (.ref f19) = true)
  (a20 : Zzq K mainGlobals "lets_plan" = some (some (.ref f20))) (l20 : K.lookup f20 = some ⟨oc20, od20, .func (Zzd "lets_plan" "lets_plan" (Aj Dr) (Ai Dr) (Aa Dr) .none kV20 dc20 pm20 an20 cd20 ct20), sl20⟩) (c20 : Zzk K cd20 "lets_plan" = true) (k20 : Zzl K (.ref f20) = true)
  (a21 : Zzq K mainGlobals "times" = some (some (.ref f21))) (l21 : K.lookup f21 = some ⟨oc21, od21, .func (Zzd "times" "times" (Aj Jo) (Ai Jo) (Aa Jo) .none kV21 dc21 pm21 an21 cd21 ct21), sl21⟩) (c21 : Zzk K cd21 "times" = true) (k21 : Zzl K (.ref f21) = true)
  (a22 : Zzq K mainGlobals "put_off" = some (some (.ref f22))) (l22 : K.lookup f22 = some ⟨oc22, od22, .func (Zzd "put_off" "put_off" (Aj Fn) (Ai Fn) (Aa Fn) .none kV22 dc22 pm22 an22 cd22 ct22), sl22⟩) (c22 : Zzk K cd22 "put_off" = true) (k22 : Zzl K (.ref f22) = true)
  (a23 : Zzq K mainGlobals "late" = some (some (.ref f23))) (l23 : K.lookup f23 = some ⟨oc23, od23, .func (Zzd "late" "late" (Aj Lg) (Ai Lg) (Aa Lg) .none kV23 dc23 pm23 an23 cd23 ct23), sl23⟩) (c23 : Zzk K cd23 "late" = true) (k23 : Zzl K (.ref f23) = true)
  (a24 : Zzq K mainGlobals "_law_kept" = some (some (.ref f24))) (l24 : K.lookup f24 = some ⟨oc24, od24, .func (Zzd "_law_kept" "_law_kept" (Aj Ej) (Ai Ej) (Aa Ej) .none kV24 dc24 pm24 an24 cd24 ct24), sl24⟩) (c24 : Zzk K cd24 "_law_kept" = true) (k24 : Zzl K (.ref f24) = true)
  (a25 : Zzq K mainGlobals "_law_next" = some (some (.ref f25))) (l25 : K.lookup f25 = some ⟨oc25, od25, .func (Zzd "_law_next" "_law_next" (Aj Ei) (Ai Ei) (Aa Ei) .none kV25 dc25 pm25 an25 cd25 ct25), sl25⟩) (c25 : Zzk K cd25 "_law_next" = true) (k25 : Zzl K (.ref f25) = true)
  (a26 : Zzq K mainGlobals "_law_names" = some (some (.ref f26))) (l26 : K.lookup f26 = some ⟨oc26, od26, .func (Zzd "_law_names" "_law_names" (Aj Du) (Ai Du) (Aa Du) .none kV26 dc26 pm26 an26 cd26 ct26), sl26⟩) (c26 : Zzk K cd26 "_law_names" = true) (k26 : Zzl K (.ref f26) = true)
  (a27 : Zzq K mainGlobals "_law_amount" = some (some (.ref f27))) (l27 : K.lookup f27 = some ⟨oc27, od27, .func (Zzd "_law_amount" "_law_amount" (Aj Dc) (Ai Dc) (Aa Dc) .none kV27 dc27 pm27 an27 cd27 ct27), sl27⟩) (c27 : Zzk K cd27 "_law_amount" = true) (k27 : Zzl K (.ref f27) = true)
  (a28 : Zzq K mainGlobals "_law_parts" = some (some (.ref f28))) (l28 : K.lookup f28 = some ⟨oc28, od28, .func (Zzd "_law_parts" "_law_parts" (Aj Dt) (Ai Dt) (Aa Dt) .none kV28 dc28 pm28 an28 cd28 ct28), sl28⟩) (c28 : Zzk K cd28 "_law_parts" = true) (k28 : Zzl K (.ref f28) = true)
  (a29 : Zzq K mainGlobals "_law_shop" = some (some (.ref f29))) (l29 : K.lookup f29 = some ⟨oc29, od29, .func (Zzd "_law_shop" "_law_shop" (Aj Eh) (Ai Eh) (Aa Eh) .none kV29 dc29 pm29 an29 cd29 ct29), sl29⟩) (c29 : Zzk K cd29 "_law_shop" = true) (k29 : Zzl K (.ref f29) = true)
  (a30 : Zzq K mainGlobals "so_far" = some (some (.ref f30))) (l30 : K.lookup f30 = some ⟨oc30, od30, .func (Zzd "so_far" "so_far" (Aj Hg) (Ai Hg) (Aa Hg) .none kV30 dc30 pm30 an30 cd30 ct30), sl30⟩) (c30 : Zzk K cd30 "so_far" = true) (k30 : Zzl K (.ref f30) = true)
  (a31 : Zzq K mainGlobals "stocks_row" = some (some (.ref f31))) (l31 : K.lookup f31 = some ⟨oc31, od31, .func (Zzd "stocks_row" "stocks_row" (Aj D8) (Ai D8) (Aa D8) .none kV31 dc31 pm31 an31 cd31 ct31), sl31⟩) (c31 : Zzk K cd31 "stocks_row" = true) (k31 : Zzl K (.ref f31) = true)
  (a32 : Zzq K mainGlobals "first_fault" = some (some (.ref f32))) (l32 : K.lookup f32 = some ⟨oc32, od32, .func (Zzd "first_fault" "first_fault" (Aj Cu) (Ai Cu) (Aa Cu) .none kV32 dc32 pm32 an32 cd32 ct32), sl32⟩) (c32 : Zzk K cd32 "first_fault" = true) (k32 : Zzl K (.ref f32) = true)
  (a33 : Zzq K mainGlobals "judged" = some (some (.ref f33))) (l33 : K.lookup f33 = some ⟨oc33, od33, .func (Zzd "judged" "judged" (Aj Hj) (Ai Hj) (Aa Hj) .none kV33 dc33 pm33 an33 cd33 ct33), sl33⟩) (c33 : Zzk K cd33 "judged" = true) (k33 : Zzl K (.ref f33) = true)
  (a34 : Zzq K mainGlobals "_law_order_of" = some (some (.ref f34))) (l34 : K.lookup f34 = some ⟨oc34, od34, .func (Zzd "_law_order_of" "_law_order_of" (Aj Cj) (Ai Cj) (Aa Cj) .none kV34 dc34 pm34 an34 cd34 ct34), sl34⟩) (c34 : Zzk K cd34 "_law_order_of" = true) (k34 : Zzl K (.ref f34) = true)
  (a35 : Zzq K mainGlobals "_law_spans" = some (some (.ref f35))) (l35 : K.lookup f35 = some ⟨oc35, od35, .func (Zzd "_law_spans" "_law_spans" (Aj Ds) (Ai Ds) (Aa Ds) .none kV35 dc35 pm35 an35 cd35 ct35), sl35⟩) (c35 : Zzk K cd35 "_law_spans" = true) (k35 : Zzl K (.ref f35) = true)
  (a36 : Zzq K mainGlobals "_law_pegs_due" = some (some (.ref f36))) (l36 : K.lookup f36 = some ⟨oc36, od36, .func (Zzd "_law_pegs_due" "_law_pegs_due" (Aj Ci) (Ai Ci) (Aa Ci) .none kV36 dc36 pm36 an36 cd36 ct36), sl36⟩) (c36 : Zzk K cd36 "_law_pegs_due" = true) (k36 : Zzl K (.ref f36) = true)
  (a37 : Zzq K mainGlobals "_law_needed" = some (some (.ref f37))) (l37 : K.lookup f37 = some ⟨oc37, od37, .func (Zzd "_law_needed" "_law_needed" (Aj Db) (Ai Db) (Aa Db) .none kV37 dc37 pm37 an37 cd37 ct37), sl37⟩) (c37 : Zzk K cd37 "_law_needed" = true) (k37 : Zzl K (.ref f37) = true)
  (a38 : Zzq K mainGlobals "_law_supplied" = some (some (.ref f38))) (l38 : K.lookup f38 = some ⟨oc38, od38, .func (Zzd "_law_supplied" "_law_supplied" (Aj Ch) (Ai Ch) (Aa Ch) .none kV38 dc38 pm38 an38 cd38 ct38), sl38⟩) (c38 : Zzk K cd38 "_law_supplied" = true) (k38 : Zzl K (.ref f38) = true)
  (a39 : Zzq K mainGlobals "pegged" = some (some (.ref f39))) (l39 : K.lookup f39 = some ⟨oc39, od39, .func (Zzd "pegged" "pegged" (Aj Hh) (Ai Hh) (Aa Hh) .none kV39 dc39 pm39 an39 cd39 ct39), sl39⟩) (c39 : Zzk K cd39 "pegged" = true) (k39 : Zzl K (.ref f39) = true)
  (a40 : Zzq K mainGlobals "takers_of" = some (some (.ref f40))) (l40 : K.lookup f40 = some ⟨oc40, od40, .func (Zzd "takers_of" "takers_of" (Aj Dp) (Ai Dp) (Aa Dp) .none kV40 dc40 pm40 an40 cd40 ct40), sl40⟩) (c40 : Zzk K cd40 "takers_of" = true) (k40 : Zzl K (.ref f40) = true)
  (a41 : Zzq K mainGlobals "without_nothing" = some (some (.ref f41))) (l41 : K.lookup f41 = some ⟨oc41, od41, .func (Zzd "without_nothing" "without_nothing" (Aj Br) (Ai Br) (Aa Br) .none kV41 dc41 pm41 an41 cd41 ct41), sl41⟩) (c41 : Zzk K cd41 "without_nothing" = true) (k41 : Zzl K (.ref f41) = true)
  (a42 : Zzq K mainGlobals "needs_by_days" = some (some (.ref f42))) (l42 : K.lookup f42 = some ⟨oc42, od42, .func (Zzd "needs_by_days" "needs_by_days" (Aj C5) (Ai C5) (Aa C5) .none kV42 dc42 pm42 an42 cd42 ct42), sl42⟩) (c42 : Zzk K cd42 "needs_by_days" = true) (k42 : Zzl K (.ref f42) = true)
  (a43 : Zzq K mainGlobals "supplies" = some (some (.ref f43))) (l43 : K.lookup f43 = some ⟨oc43, od43, .func (Zzd "supplies" "supplies" (Aj Ed) (Ai Ed) (Aa Ed) .none kV43 dc43 pm43 an43 cd43 ct43), sl43⟩) (c43 : Zzk K cd43 "supplies" = true) (k43 : Zzl K (.ref f43) = true)
  (a44 : Zzq K mainGlobals "pegs" = some (some (.ref f44))) (l44 : K.lookup f44 = some ⟨oc44, od44, .func (Zzd "pegs" "pegs" (Aj Lf) (Ai Lf) (Aa Lf) .none kV44 dc44 pm44 an44 cd44 ct44), sl44⟩) (c44 : Zzk K cd44 "pegs" = true) (k44 : Zzl K (.ref f44) = true)
  (a45 : Zzq K mainGlobals "_law_told" = some (some (.ref f45))) (l45 : K.lookup f45 = some ⟨oc45, od45, .func (Zzd "_law_told" "_law_told" (Aj Eg) (Ai Eg) (Aa Eg) .none kV45 dc45 pm45 an45 cd45 ct45), sl45⟩) (c45 : Zzk K cd45 "_law_told" = true) (k45 : Zzl K (.ref f45) = true)
  (a46 : Zzq K mainGlobals "law" = some (some (.ref f46))) (l46 : K.lookup f46 = some ⟨oc46, od46, .func (Zzd "law" "law" (Aj Kn) (Ai Kn) (Aa Kn) .none kV46 dc46 pm46 an46 cd46 ct46), sl46⟩) (c46 : Zzk K cd46 "law" = true) (k46 : Zzl K (.ref f46) = true)
  (z_range : Zzq K mainGlobals "range" = some none)
  (z_len : Zzq K mainGlobals "len" = some none)
  (z_max : Zzq K mainGlobals "max" = some none)
  (z_sorted : Zzq K mainGlobals "sorted" = some none)
  (z_reversed : Zzq K mainGlobals "reversed" = some none)
  (z_zip : Zzq K mainGlobals "zip" = some none)
  (z_min : Zzq K mainGlobals "min" = some none)
  (z_enumerate : Zzq K mainGlobals "enumerate" = some none)
  (z_tuple : Zzq K mainGlobals "tuple" = some none)
  (z_int : Zzq K mainGlobals "int" = some none)
  (z_sum : Zzq K mainGlobals "sum" = some none)
  (z_isinstance : Zzq K mainGlobals "isinstance" = some none)
  (z_list : Zzq K mainGlobals "list" = some none)
  (z_bool : Zzq K mainGlobals "bool" = some none)
  (Zuv : Zzq K mainGlobals "COMING" = some (some (.int 5 t_COMING)))
  (Zuu : Zzq K mainGlobals "FLOOR" = some (some (.int 3 t_FLOOR)))
  (Zut : Zzq K mainGlobals "GIVES" = some (some (.int 2 t_GIVES)))
  (Zun : Zzq K mainGlobals "LAG" = some (some (.int 1 t_LAG)))
  (Zvi : Zzq K mainGlobals "NAME" = some (some (.int 0 t_NAME)))
  (Zus : Zzq K mainGlobals "PARTS" = some (some (.int 6 t_PARTS)))
  (Zuj : Zzq K mainGlobals "STOCK" = some (some (.int 4 t_STOCK)))
  (Zvf : Zzq K mainGlobals "WANT_AMOUNT" = some (some (.int 2 t_WANT_AMOUNT)))
  (Zv9 : Zzq K mainGlobals "WANT_DAY" = some (some (.int 1 t_WANT_DAY)))
  (Zv8 : Zzq K mainGlobals "WANT_NAME" = some (some (.int 0 t_WANT_NAME)))
  (tq : cd9 = .ref ct) (tl : K.lookup ct = some ⟨.type "code", odc, .fields vsc, slc⟩) (tv : vsc[11]? = some (.ref Pt)) (tw : ad vsc ct Pt = true) (tp : K.lookup Pt = none) :
  ∃ (fd : FuncData) (ct Pt : Addr), (∀ (s : Shared) (v : Value), BindsTo s fd ⟨[v], []⟩ [("_law_script", v)]) /\ PySem.W.tabIn K "worked" = some (ct, Pt) /\ K.lookup Pt = none /\ ∀ base : Heap, K.In base -> base.Ns mainGlobals mg -> B2 mg base -> FnOk l.prog w K mg base CX0 11 fa fd ["_law_script"] (Pz K Pt) := by
 have e := hfa.symm.trans (Zzn X G a46)
 cases e
 have T : Txt mg := ⟨Zyj X G z_range, Zyj X G z_len, Zyj X G z_max, Zyj X G z_sorted, Zyj X G z_reversed, Zyj X G z_zip, Zyj X G z_min, Zyj X G z_enumerate, Zyj X G z_tuple, Zyj X G z_int, Zyj X G z_sum, Zyj X G z_isinstance, Zyj X G z_list, Zyj X G z_bool, ⟨_, Zzn X G Zuv⟩, ⟨_, Zzn X G Zuu⟩, ⟨_, Zzn X G Zut⟩, ⟨_, Zzn X G Zun⟩, ⟨_, Zzn X G Zvi⟩, ⟨_, Zzn X G Zus⟩, ⟨_, Zzn X G Zuj⟩, ⟨_, Zzn X G Zvf⟩, ⟨_, Zzn X G Zv9⟩, ⟨_, Zzn X G Zv8⟩⟩
 have tb := i5 a9 l9 tq tl tv
 have tc := Xp tl tv tw
 have F1 := Aw (st := Dv) l1 c1 k1
 have b1 := F1.binds (ps := ["_law_script"]) fun _ _ _ _ _ _ us hl => match us, hl with | [_], _ => rfl
 have Zua := fun base (hB : B2 mg base) => Has.of (Zzn X G a1) k1 b1 (Qk (P := l.prog) (w := w) (base := base) F1 T)
 have F2 := Aw (st := D9) l2 c2 k2
 have b2 := F2.binds (ps := ["ware"]) fun _ _ _ _ _ _ us hl => match us, hl with | [_], _ => rfl
 have Zvh := fun base (hB : B2 mg base) => Has.of (Zzn X G a2) k2 b2 (Oj (P := l.prog) (w := w) (base := base) F2 T)
 have F3 := Aw (st := Cg) l3 c3 k3
 have b3 := F3.binds (ps := ["parts"]) fun _ _ _ _ _ _ us hl => match us, hl with | [_], _ => rfl
 have Zur := fun base (hB : B2 mg base) => Has.of (Zzn X G a3) k3 b3 (Mj (P := l.prog) (w := w) (base := base) F3 T)
 have F4 := Aw (st := C6) l4 c4 k4
 have b4 := F4.binds (ps := ["shop"]) fun _ _ _ _ _ _ us hl => match us, hl with | [_], _ => rfl
 have Zux := fun base (hB : B2 mg base) => Has.of (Zzn X G a4) k4 b4 (Lo (P := l.prog) (w := w) (base := base) F4 T (Zvh base hB) (Zur base hB))
 have F5 := Aw (st := Le) l5 c5 k5
 have b5 := F5.binds (ps := ["shop"]) fun _ _ _ _ _ _ us hl => match us, hl with | [_], _ => rfl
 have Ztx := fun base (hB : B2 mg base) => Has.of (Zzn X G a5) k5 b5 (d6 (P := l.prog) (w := w) (base := base) F5 T (Zux base hB))
 have F6 := Aw (st := Cw) l6 c6 k6
 have b6 := F6.binds (ps := ["shop"]) fun _ _ _ _ _ _ us hl => match us, hl with | [_], _ => rfl
 have Zvj := fun base (hB : B2 mg base) => Has.of (Zzn X G a6) k6 b6 (No (P := l.prog) (w := w) (base := base) F6 T (Ztx base hB))
 have F7 := Aw (st := Ee) l7 c7 k7
 have b7 := F7.binds (ps := ["shop"]) fun _ _ _ _ _ _ us hl => match us, hl with | [_], _ => rfl
 have Zv0 := fun base (hB : B2 mg base) => Has.of (Zzn X G a7) k7 b7 (S5 (P := l.prog) (w := w) (base := base) F7 T)
 have F8 := Aw (st := Hi) l8 c8 k8
 have b8 := F8.binds (ps := ["shop"]) fun _ _ _ _ _ _ us hl => match us, hl with | [_], _ => rfl
 have Zu4 := fun base (hB : B2 mg base) => Has.of (Zzn X G a8) k8 b8 (Wx (P := l.prog) (w := w) (base := base) F8 T (Zvj base hB) (Zv0 base hB) (Zvh base hB))
 have F9 := Aw (st := He) l9 c9 k9
 have b9 := F9.binds (ps := ["shop"]) fun _ _ _ _ _ _ us hl => match us, hl with | [_], _ => rfl
 have Zve := fun base (hB : B2 mg base) => Has.of (Zzn X G a9) k9 b9 (Wu (P := l.prog) (w := w) (base := base) F9 T (Zu4 base hB) (Zv0 base hB) ⟨fun _ _ _ _ e => T3 tb a9 e, tc⟩ hB)
 have F10 := Aw (st := Fm) l10 c10 k10
 have b10 := F10.binds (ps := ["shop", "name"]) fun _ _ _ _ _ _ us hl => match us, hl with | [_, _], _ => rfl
 have Zvk := fun base (hB : B2 mg base) => Has.of (Zzn X G a10) k10 b10 (U5 (P := l.prog) (w := w) (base := base) F10 T)
 have F11 := Aw (st := Ef) l11 c11 k11
 have b11 := F11.binds (ps := ["amount", "gives"]) fun _ _ _ _ _ _ us hl => match us, hl with | [_, _], _ => rfl
 have Zu9 := fun base (hB : B2 mg base) => Has.of (Zzn X G a11) k11 b11 (S6 (P := l.prog) (w := w) (base := base) F11 T)
 have F12 := Aw (st := Da) l12 c12 k12
 have b12 := F12.binds (ps := ["have", "need", "gives", "floor"]) fun _ _ _ _ _ _ us hl => match us, hl with | [_, _, _, _], _ => rfl
 have Zui := fun base (hB : B2 mg base) => Has.of (Zzn X G a12) k12 b12 (Ol (P := l.prog) (w := w) (base := base) F12 T (Zu9 base hB))
 have F13 := Aw (st := Dd) l13 c13 k13
 have b13 := F13.binds (ps := ["shop"]) fun _ _ _ _ _ _ us hl => match us, hl with | [_], _ => rfl
 have Zv6 := fun base (hB : B2 mg base) => Has.of (Zzn X G a13) k13 b13 (Oo (P := l.prog) (w := w) (base := base) F13 T)
 have F14 := Aw (st := Do) l14 c14 k14
 have b14 := F14.binds (ps := ["shop", "ware"]) fun _ _ _ _ _ _ us hl => match us, hl with | [_, _], _ => rfl
 have Zue := fun base (hB : B2 mg base) => Has.of (Zzn X G a14) k14 b14 (Qd (P := l.prog) (w := w) (base := base) F14 T (Zv6 base hB))
 have F15 := Aw (st := Dw) l15 c15 k15
 have b15 := F15.binds (ps := ["plan", "ware"]) fun _ _ _ _ _ _ us hl => match us, hl with | [_, _], _ => rfl
 have Zv3 := fun base (hB : B2 mg base) => Has.of (Zzn X G a15) k15 b15 (Ql (P := l.prog) (w := w) (base := base) F15 T)
 have F16 := Aw (st := Dq) l16 c16 k16
 have b16 := F16.binds (ps := ["shop", "plan", "ware"]) fun _ _ _ _ _ _ us hl => match us, hl with | [_, _, _], _ => rfl
 have Zv2 := fun base (hB : B2 mg base) => Has.of (Zzn X G a16) k16 b16 (Qf (P := l.prog) (w := w) (base := base) F16 T (Zue base hB) (Zv3 base hB))
 have F17 := Aw (st := Ck) l17 c17 k17
 have b17 := F17.binds (ps := ["shop", "ware"]) fun _ _ _ _ _ _ us hl => match us, hl with | [_, _], _ => rfl
 have Zvd := fun base (hB : B2 mg base) => Has.of (Zzn X G a17) k17 b17 (Mn (P := l.prog) (w := w) (base := base) F17 T (Zv6 base hB))
 have F18 := Aw (st := Cv) l18 c18 k18
 have b18 := F18.binds (ps := ["lots", "lag"]) fun _ _ _ _ _ _ us hl => match us, hl with | [_, _], _ => rfl
 have Zva := fun base (hB : B2 mg base) => Has.of (Zzn X G a18) k18 b18 (Nn (P := l.prog) (w := w) (base := base) F18 T)
 have F19 := Aw (st := Fo) l19 c19 k19
 have b19 := F19.binds (ps := ["shop"]) fun _ _ _ _ _ _ us hl => match us, hl with | [_], _ => rfl
 have Zv1 := fun base (hB : B2 mg base) => Has.of (Zzn X G a19) k19 b19 (U7 (P := l.prog) (w := w) (base := base) F19 T (Zve base hB) (Zvk base hB) (Zui base hB) (Zv2 base hB) (Zvd base hB) (Zva base hB))
 have F20 := Aw (st := Dr) l20 c20 k20
 have b20 := F20.binds (ps := ["shop"]) fun _ _ _ _ _ _ us hl => match us, hl with | [_], _ => rfl
 have Zum := fun base (hB : B2 mg base) => Has.of (Zzn X G a20) k20 b20 (Qg (P := l.prog) (w := w) (base := base) F20 T (Zv1 base hB))
 have F21 := Aw (st := Jo) l21 c21 k21
 have b21 := F21.binds (ps := ["shop"]) fun _ _ _ _ _ _ us hl => match us, hl with | [_], _ => rfl
 have Zty := fun base (hB : B2 mg base) => Has.of (Zzn X G a21) k21 b21 (Z3 (P := l.prog) (w := w) (base := base) F21 T (Zve base hB) (Zvk base hB) (Zvh base hB))
 have F22 := Aw (st := Fn) l22 c22 k22
 have b22 := F22.binds (ps := ["shop", "days"]) fun _ _ _ _ _ _ us hl => match us, hl with | [_, _], _ => rfl
 have Zuy := fun base (hB : B2 mg base) => Has.of (Zzn X G a22) k22 b22 (U6 (P := l.prog) (w := w) (base := base) F22 T (Zvj base hB))
 have F23 := Aw (st := Lg) l23 c23 k23
 have b23 := F23.binds (ps := ["shop"]) fun _ _ _ _ _ _ us hl => match us, hl with | [_], _ => rfl
 have Ztw := fun base (hB : B2 mg base) => Has.of (Zzn X G a23) k23 b23 (d8 (P := l.prog) (w := w) (base := base) F23 T (Zum base hB) (Zty base hB) (Zuy base hB))
 have F24 := Aw (st := Ej) l24 c24 k24
 have b24 := F24.binds (ps := ["_law_shop_here"]) fun _ _ _ _ _ _ us hl => match us, hl with | [_], _ => rfl
 have Zu7 := fun base (hB : B2 mg base) => Has.of (Zzn X G a24) k24 b24 (Sa (P := l.prog) (w := w) (base := base) F24 T (Zv1 base hB) (Ztw base hB) (Zuy base hB))
 have F25 := Aw (st := Ei) l25 c25 k25
 have b25 := F25.binds (ps := ["_law_state", "_law_many"]) fun _ _ _ _ _ _ us hl => match us, hl with | [_, _], _ => rfl
 have Zvl := fun base (hB : B2 mg base) => Has.of (Zzn X G a25) k25 b25 (S9 (P := l.prog) (w := w) (base := base) F25 T)
 have F26 := Aw (st := Du) l26 c26 k26
 have b26 := F26.binds (ps := ["_law_state", "_law_many"]) fun _ _ _ _ _ _ us hl => match us, hl with | [_, _], _ => rfl
 have Zud := fun base (hB : B2 mg base) => Has.of (Zzn X G a26) k26 b26 (Qj (P := l.prog) (w := w) (base := base) F26 T (Zvl base hB))
 have F27 := Aw (st := Dc) l27 c27 k27
 have b27 := F27.binds (ps := ["_law_state"]) fun _ _ _ _ _ _ us hl => match us, hl with | [_], _ => rfl
 have Zv5 := fun base (hB : B2 mg base) => Has.of (Zzn X G a27) k27 b27 (On (P := l.prog) (w := w) (base := base) F27 T (Zvl base hB))
 have F28 := Aw (st := Dt) l28 c28 k28
 have b28 := F28.binds (ps := ["_law_state", "_law_names_here"]) fun _ _ _ _ _ _ us hl => match us, hl with | [_, _], _ => rfl
 have Zuc := fun base (hB : B2 mg base) => Has.of (Zzn X G a28) k28 b28 (Qi (P := l.prog) (w := w) (base := base) F28 T (Zvl base hB))
 have F29 := Aw (st := Eh) l29 c29 k29
 have b29 := F29.binds (ps := ["_law_state", "_law_top"]) fun _ _ _ _ _ _ us hl => match us, hl with | [_, _], _ => rfl
 have Zu6 := fun base (hB : B2 mg base) => Has.of (Zzn X G a29) k29 b29 (S8 (P := l.prog) (w := w) (base := base) F29 T (Zud base hB) (Zvl base hB) (Zv5 base hB) (Zuc base hB))
 have F30 := Aw (st := Hg) l30 c30 k30
 have b30 := F30.binds (ps := ["row"]) fun _ _ _ _ _ _ us hl => match us, hl with | [_], _ => rfl
 have Zu3 := fun base (hB : B2 mg base) => Has.of (Zzn X G a30) k30 b30 (Wv (P := l.prog) (w := w) (base := base) F30 T)
 have F31 := Aw (st := D8) l31 c31 k31
 have b31 := F31.binds (ps := ["shop", "plan", "ware"]) fun _ _ _ _ _ _ us hl => match us, hl with | [_, _, _], _ => rfl
 have Zuh := fun base (hB : B2 mg base) => Has.of (Zzn X G a31) k31 b31 (Oi (P := l.prog) (w := w) (base := base) F31 T (Zv2 base hB) (Zvd base hB) (Zu3 base hB))
 have F32 := Aw (st := Cu) l32 c32 k32
 have b32 := F32.binds (ps := ["shop", "plan", "ware"]) fun _ _ _ _ _ _ us hl => match us, hl with | [_, _, _], _ => rfl
 have Zuk := fun base (hB : B2 mg base) => Has.of (Zzn X G a32) k32 b32 (Nm (P := l.prog) (w := w) (base := base) F32 T (Zva base hB) (Zuh base hB))
 have F33 := Aw (st := Hj) l33 c33 k33
 have b33 := F33.binds (ps := ["shop", "plan"]) fun _ _ _ _ _ _ us hl => match us, hl with | [_, _], _ => rfl
 have Zu1 := fun base (hB : B2 mg base) => Has.of (Zzn X G a33) k33 b33 (Wy (P := l.prog) (w := w) (base := base) F33 T (Zve base hB) (Zuk base hB) (Zvk base hB))
 have F34 := Aw (st := Cj) l34 c34 k34
 have b34 := F34.binds (ps := ["_law_shop_here"]) fun _ _ _ _ _ _ us hl => match us, hl with | [_], _ => rfl
 have Zuq := fun base (hB : B2 mg base) => Has.of (Zzn X G a34) k34 b34 (Mm (P := l.prog) (w := w) (base := base) F34 T)
 have F35 := Aw (st := Ds) l35 c35 k35
 have b35 := F35.binds (ps := ["_law_some"]) fun _ _ _ _ _ _ us hl => match us, hl with | [_], _ => rfl
 have Zul := fun base (hB : B2 mg base) => Has.of (Zzn X G a35) k35 b35 (Qh (P := l.prog) (w := w) (base := base) F35 T)
 have F36 := Aw (st := Ci) l36 c36 k36
 have b36 := F36.binds (ps := ["_law_supplied_here", "_law_needed_"]) fun _ _ _ _ _ _ us hl => match us, hl with | [_, _], _ => rfl
 have Zup := fun base (hB : B2 mg base) => Has.of (Zzn X G a36) k36 b36 (Ml (P := l.prog) (w := w) (base := base) F36 T (Zul base hB))
 have F37 := Aw (st := Db) l37 c37 k37
 have b37 := F37.binds (ps := ["_law_shop_here", "_law_plan", "_law_order_of_here", "_law_name"]) fun _ _ _ _ _ _ us hl => match us, hl with | [_, _, _, _], _ => rfl
 have Zug := fun base (hB : B2 mg base) => Has.of (Zzn X G a37) k37 b37 (Om (P := l.prog) (w := w) (base := base) F37 T)
 have F38 := Aw (st := Ch) l38 c38 k38
 have b38 := F38.binds (ps := ["_law_shop_here", "_law_plan", "_law_name"]) fun _ _ _ _ _ _ us hl => match us, hl with | [_, _, _], _ => rfl
 have Zuo := fun base (hB : B2 mg base) => Has.of (Zzn X G a38) k38 b38 (Mk (P := l.prog) (w := w) (base := base) F38 T)
 have F39 := Aw (st := Hh) l39 c39 k39
 have b39 := F39.binds (ps := ["supplied", "needed"]) fun _ _ _ _ _ _ us hl => match us, hl with | [_, _], _ => rfl
 have Zu2 := fun base (hB : B2 mg base) => Has.of (Zzn X G a39) k39 b39 (Ww (P := l.prog) (w := w) (base := base) F39 T)
 have F40 := Aw (st := Dp) l40 c40 k40
 have b40 := F40.binds (ps := ["shop", "plan", "ware"]) fun _ _ _ _ _ _ us hl => match us, hl with | [_, _, _], _ => rfl
 have Zub := fun base (hB : B2 mg base) => Has.of (Zzn X G a40) k40 b40 (Qe (P := l.prog) (w := w) (base := base) F40 T (Zve base hB) (Zvk base hB) (Zv3 base hB))
 have F41 := Aw (st := Br) l41 c41 k41
 have b41 := F41.binds (ps := ["amounts"]) fun _ _ _ _ _ _ us hl => match us, hl with | [_], _ => rfl
 have Zvg := fun base (hB : B2 mg base) => Has.of (Zzn X G a41) k41 b41 (Ka (P := l.prog) (w := w) (base := base) F41 T)
 have F42 := Aw (st := C5) l42 c42 k42
 have b42 := F42.binds (ps := ["shop", "plan", "ware"]) fun _ _ _ _ _ _ us hl => match us, hl with | [_, _, _], _ => rfl
 have Zuw := fun base (hB : B2 mg base) => Has.of (Zzn X G a42) k42 b42 (Ln (P := l.prog) (w := w) (base := base) F42 T (Zub base hB) (Zvg base hB))
 have F43 := Aw (st := Ed) l43 c43 k43
 have b43 := F43.binds (ps := ["plan", "ware"]) fun _ _ _ _ _ _ us hl => match us, hl with | [_, _], _ => rfl
 have Zu8 := fun base (hB : B2 mg base) => Has.of (Zzn X G a43) k43 b43 (S4 (P := l.prog) (w := w) (base := base) F43 T (Zvg base hB))
 have F44 := Aw (st := Lf) l44 c44 k44
 have b44 := F44.binds (ps := ["shop", "plan", "name"]) fun _ _ _ _ _ _ us hl => match us, hl with | [_, _, _], _ => rfl
 have Ztz := fun base (hB : B2 mg base) => Has.of (Zzn X G a44) k44 b44 (d7 (P := l.prog) (w := w) (base := base) F44 T (Zvj base hB) (Zvk base hB) (Zu2 base hB) (Zuw base hB) (Zu8 base hB))
 have F45 := Aw (st := Eg) l45 c45 k45
 have b45 := F45.binds (ps := ["_law_found", "_law_due"]) fun _ _ _ _ _ _ us hl => match us, hl with | [_, _], _ => rfl
 have Zu5 := fun base (hB : B2 mg base) => Has.of (Zzn X G a45) k45 b45 (S7 (P := l.prog) (w := w) (base := base) F45 T)
 have F46 := Aw (st := Kn) l46 c46 k46
 exact ⟨Zzd "law" "law" (Aj Kn) (Ai Kn) (Aa Kn) .none kV46 dc46 pm46 an46 cd46 ct46, ct, Pt, fun s v => .of_eq rfl, tb, tp, fun base _ _ hB => ir F46 T (Zua base hB) (Zu7 base hB) (Zu6 base hB) (Zvl base hB) (Zu1 base hB) (Zuq base hB) (Zup base hB) (Zug base hB) (Zuo base hB) (Ztz base hB) (Zu5 base hB)⟩
theorem walk {l : PySem.W.OpenLaw} {q : Program} {loose : List Str} {XP : (Str -> Option Value) -> Heap -> Prop} {YP : World -> Heap -> Prop} {d dw : DefRec} {K : Params -> Zzv} (hn : l.most = some 63) (hdf : d.params.defaults = [])
  (hY : ∀ (w : World) (h : Heap), YP w h -> (K w.params).In h) (hw : (PyProof.Rows.recsOf q).find? (fun e => e.name == ("worked" : Str)) = some dw)
  (F : ∀ (w : World) (mg : Str -> Option Value) (fa : Addr) (h : Heap), (K w.params).In h -> h.Ns mainGlobals mg -> mg d.name = some (.ref fa) ->
   ∃ (fd : FuncData) (ct Pt : Addr), (∀ (s : Shared) (u : Value), BindsTo s fd ⟨[u], []⟩ [("_law_script", u)]) /\ PySem.W.tabIn (K w.params) "worked" = some (ct, Pt) /\ (K w.params).lookup Pt = none /\ ∀ base : Heap, (K w.params).In base -> base.Ns mainGlobals mg -> B2 mg base -> FnOk l.prog w (K w.params) mg base CX0 11 fa fd ["_law_script"] (Pz (K w.params) Pt)) :
  PySem.W.WalkO q loose XP YP l.row.toRowW d [] (fun f vs => PySem.call f vs) :=
 L2.Xz (n := 63) (k := 11) (x := "_law_script") (wk := "worked") (sp := fun w Pt => Pz (K w.params) Pt) hn (by decide) hdf ⟨rfl, by decide, by decide⟩ hY hw F (fun _ _ a Pt ns hl ht hS => ⟨a, ns, rfl, hS, hl, .inl ht, fun _ => rfl⟩)
end K31
namespace PySem.W.Fast
def tw7215195445921631662:=0
def tw18330291998738055361:=0
def tw6335816654056454227:=0
def tw4620430592344463046:=0
def tw11728479127432231316:=0
def tw9701401646769707796:=0
def tw4060696025148501381:=0
def tw10573914037557371541:=0
def tw2487541040577534581:=0
def tw3518671912505678618:=0
def tw8123669610803441366:=0
def tw9256305318573364530:=0
def tw4923658118429797194:=0
def tw16035921782159442356:=0
def tw17123253965237081362:=0
def tw16288312275761136686:=0
def tw5522662124527176678:=0
def tw14360835766167169732:=0
def tw12453695583074074032:=0
def tw8295107880153312010:=0
def tw15750803277781739811:=0
def tw9276924467775496081:=0
def tw16350941080258022673:=0
def tw13576180217322912272:=0
def tw18300691258092108227:=0
def tw4497693410233673012:=0
def tw882589235899102955:=0
def tw4762319491232759000:=0
def tw44401013115415209:=0
def tw7498244455887446449:=0
def tw9181202938034673610:=0
def tw14353374025447307332:=0
def tw7399456137638791983:=0
def tw14300786126135730093:=0
def tw2765349547325826856:=0
def tw8352996373082801166:=0
def tw3941011473311708942:=0
def tw916209256144868592:=0
def tw13917351217013638394:=0
def tw8733765592824927088:=0
def tw1243817808572046986:=0
def tw15441733308942873923:=0
def tw7625774694014057781:=0
def tw7036844780975740771:=0
def tw15185818849207214474:=0
def tw17195439775123048510:=0
def tw9710225334205505687:=0
def tw2447593331920718239:=0
def tw8932439309186139198:=0
def tw15093448263384138160:=0
def tw13614684902075614569:=0
def tw8357034269026587389:=0
def tw18054052096931073318:=0
def tw9647693358865876046:=0
def tw1236526759720180575:=0
def tw17270667964113177519:=0
def tw913032457135555848:=0
def tw8703010144295946223:=0
def tw1621830327907268573:=0
def tw10737000554484838753:=0
def tw17618596498613954281:=0
def tw10656904079607291795:=0
def tw14247409496619804260:=0
def tw41499456117527612:=0
def tw15690797513232986011:=0
def tw18197973636342026289:=0
def tw9393030740851903344:=0
def tw1671973862055662049:=0
def tw9772582619378073648:=0
def tw13040822724237295939:=0
def tw12857292990005332420:=0
def tw4114494709015409460:=0
def tw14761267770887632786:=0
def tw9896679195793173563:=0
def tw6780938476666947090:=0
def tw5807573519340775032:=0
def tw13766407695941808878:=0
def tw7606493114231279984:=0
def tw14081551650692724370:=0
def tw11653622969016835274:=0
def tw5608106049717421487:=0
def tw6750927741974478524:=0
def tw13879962978941113112:=0
def tw12901249346984974251:=0
def tw5149887817976499967:=0
def tw11748554157354735678:=0
def tw13953262012771841277:=0
def tw15006896250898020423:=0
def tw2926958652117848902:=0
def tw7380732768119076963:=0
def tw2676524485661751158:=0
def tw9547665446441480818:=0
def tw10892923230721992897:=0
def tw16266860953841011893:=0
def tw17481876143674660258:=0
def tw4673806316528754570:=0
def tw1684684383094310534:=0
def tw8974000314293350755:=0
def tw1701322553422120227:=0
def tw14844376801187308789:=0
def tw12649041054382525655:=0
def tw13199989043968699687:=0
def tw358692239855322938:=0
def tw3377642471577433885:=0
def tw1346979464305077370:=0
def tw1278963558367698981:=0
def tw11079073190794666389:=0
def tw525458631000821045:=0
def tw6301064191513461144:=0
def tw3599267470560648215:=0
def tw4364896514942346596:=0
def tw3162672978100558917:=0
def tw12732046103822141785:=0
def tw14620691698004979107:=0
def tw2891374641408152573:=0
def tw6638535196569497353:=0
def tw15480936102216778737:=0
def tw11066854119898848811:=0
def tw14245743646107113178:=0
def tw5702481550889480854:=0
def tw7346623714100971848:=0
def tw6614196938982558051:=0
def tw6282943137076412693:=0
def tw4879864727371659728:=0
def tw720988672208101506:=0
def tw13886785707381163573:=0
def tw14745288822754089265:=0
def tw9971776497296269319:=0
def tw12894031985406332403:=0
def tw2963197651527456578:=0
def tw3585142842510951813:=0
def tw18020055871683245215:=0
def tw15813941752168523721:=0
def tw11239413479996137065:=0
def tw5637011603515333657:=0
def tw9070523545753522159:=0
def tw691193791270544916:=0
def tw6224730072572920769:=0
def tw6748859457155093232:=0
def tw5019636494826072805:=0
def tw4508904973754071376:=0
def tw12600697058054260730:=0
def tw14197275411341541137:=0
def tw14807514069376683672:=0
def tw7910561335986215021:=0
def tw13534836021364563958:=0
def tw11950012680244713273:=0
def tw13841695319335588237:=0
def tw11402338312737246834:=0
def tw5796183112047605226:=0
def tw15630175211820901489:=0
def tw14549330467902202703:=0
def tw11658111546413409347:=0
def tw7061101503855512126:=0
def tw4283366462001686191:=0
def tw17858432221759850320:=0
def tw6422910293055702610:=0
def tw3086255401849308476:=0
def tw17142739355062697043:=0
def tw9589524009475068313:=0
def tw5907308725976876847:=0
def tw379792308252178070:=0
def tw9975977538099291587:=0
def tw12039477744528597003:=0
def tw17468601929033438024:=0
def tw3872094076788526050:=0
def tw3673625743162414365:=0
def tw18121080499063064864:=0
def tw12451799883139885563:=0
def tw10770588013819259739:=0
def tw10122823178128514026:=0
def tw7881920859828913826:=0
def tw17686002194383522159:=0
def tw14073135714765623233:=0
def tw16332708856899421997:=0
def tw10038883680626998003:=0
def tw3568157317183496396:=0
def tw5965004637279301009:=0
def tw16948661481475153379:=0
def tw2919235468906152794:=0
def tw11667554841099379766:=0
def tw13454734306820652936:=0
def tw1772018255912926872:=0
def tw15662763746112402805:=0
def tw11522279715557142014:=0
def tw889665559716228945:=0
def tw7976955079048402357:=0
def tw6899818390959500715:=0
def tw474497412460074981:=0
def tw11962784098625234242:=0
def tw13297916966378356731:=0
def tw8028222022613915825:=0
def tw2126874889066185684:=0
def tw1998411745352401745:=0
def tw10803249722392234875:=0
def tw10035906907890955617:=0
def tw1826677968323213173:=0
def tw5790603162291133318:=0
def tw9366243546699798941:=0
def tw1865633337034835751:=0
end PySem.W.Fast
open PySem PySem.W PyProof.Rows
set_option maxRecDepth 100000 in
set_option maxHeartbeats 0 in
theorem PySem.Challenge.cw_needplan_k31_pegs_in_order_holds : PySem.Challenge.rw_needplan_k31_pegs_in_order.Holds := by
 w_on; o_law; k_head; (case hw => w_witness2)
 k_fill
 refine K31.walk (l := PySem.Challenge.rw_needplan_k31_pegs_in_order) rfl rfl (fun w h Y => PySem.W.km_in_of Y) rfl ?F
 case F =>
  intro w mg fa h KX G hmg
  refine' K31.all_mk KX G hmg ?a1 ?l1 ?c1 ?k1 ?a2 ?l2 ?c2 ?k2 ?a3 ?l3 ?c3 ?k3 ?a4 ?l4 ?c4 ?k4 ?a5 ?l5 ?c5 ?k5 ?a6 ?l6 ?c6 ?k6 ?a7 ?l7 ?c7 ?k7 ?a8 ?l8 ?c8 ?k8 ?a9 ?l9 ?c9 ?k9 ?a10 ?l10 ?c10 ?k10 ?a11 ?l11 ?c11 ?k11 ?a12 ?l12 ?c12 ?k12 ?a13 ?l13 ?c13 ?k13 ?a14 ?l14 ?c14 ?k14 ?a15 ?l15 ?c15 ?k15 ?a16 ?l16 ?c16 ?k16 ?a17 ?l17 ?c17 ?k17 ?a18 ?l18 ?c18 ?k18 ?a19 ?l19 ?c19 ?k19 ?a20 ?l20 ?c20 ?k20 ?a21 ?l21 ?c21 ?k21 ?a22 ?l22 ?c22 ?k22 ?a23 ?l23 ?c23 ?k23 ?a24 ?l24 ?c24 ?k24 ?a25 ?l25 ?c25 ?k25 ?a26 ?l26 ?c26 ?k26 ?a27 ?l27 ?c27 ?k27 ?a28 ?l28 ?c28 ?k28 ?a29 ?l29 ?c29 ?k29 ?a30 ?l30 ?c30 ?k30 ?a31 ?l31 ?c31 ?k31 ?a32 ?l32 ?c32 ?k32 ?a33 ?l33 ?c33 ?k33 ?a34 ?l34 ?c34 ?k34 ?a35 ?l35 ?c35 ?k35 ?a36 ?l36 ?c36 ?k36 ?a37 ?l37 ?c37 ?k37 ?a38 ?l38 ?c38 ?k38 ?a39 ?l39 ?c39 ?k39 ?a40 ?l40 ?c40 ?k40 ?a41 ?l41 ?c41 ?k41 ?a42 ?l42 ?c42 ?k42 ?a43 ?l43 ?c43 ?k43 ?a44 ?l44 ?c44 ?k44 ?a45 ?l45 ?c45 ?k45 ?a46 ?l46 ?c46 ?k46 ?z_range ?z_len ?z_max ?z_sorted ?z_reversed ?z_zip ?z_min ?z_enumerate ?z_tuple ?z_int ?z_sum ?z_isinstance ?z_list ?z_bool ?Zuv ?Zuu ?Zut ?Zun ?Zvi ?Zus ?Zuj ?Zvf ?Zv9 ?Zv8 ?tq ?tl ?tv ?tw ?tp
  (case a1 => k_is)
  (case l1 => k_is)
  (case c1 => k_is)
  (case k1 => k_is)
  (case a2 => k_is)
  (case l2 => k_is)
  (case c2 => k_is)
  (case k2 => k_is)
  (case a3 => k_is)
  (case l3 => k_is)
  (case c3 => k_is)
  (case k3 => k_is)
  (case a4 => k_is)
  (case l4 => k_is)
  (case c4 => k_is)
  (case k4 => k_is)
  (case a5 => k_is)
  (case l5 => k_is)
  (case c5 => k_is)
  (case k5 => k_is)
  (case a6 => k_is)
  (case l6 => k_is)
  (case c6 => k_is)
  (case k6 => k_is)
  (case a7 => k_is)
  (case l7 => k_is)
  (case c7 => k_is)
  (case k7 => k_is)
  (case a8 => k_is)
  (case l8 => k_is)
  (case c8 => k_is)
  (case k8 => k_is)
  (case a9 => k_is)
  (case l9 => k_is)
  (case c9 => k_is)
  (case k9 => k_is)
  (case a10 => k_is)
  (case l10 => k_is)
  (case c10 => k_is)
  (case k10 => k_is)
  (case a11 => k_is)
  (case l11 => k_is)
  (case c11 => k_is)
  (case k11 => k_is)
  (case a12 => k_is)
  (case l12 => k_is)
  (case c12 => k_is)
  (case k12 => k_is)
  (case a13 => k_is)
  (case l13 => k_is)
  (case c13 => k_is)
  (case k13 => k_is)
  (case a14 => k_is)
  (case l14 => k_is)
  (case c14 => k_is)
  (case k14 => k_is)
  (case a15 => k_is)
  (case l15 => k_is)
  (case c15 => k_is)
  (case k15 => k_is)
  (case a16 => k_is)
  (case l16 => k_is)
  (case c16 => k_is)
  (case k16 => k_is)
  (case a17 => k_is)
  (case l17 => k_is)
  (case c17 => k_is)
  (case k17 => k_is)
  (case a18 => k_is)
  (case l18 => k_is)
  (case c18 => k_is)
  (case k18 => k_is)
  (case a19 => k_is)
  (case l19 => k_is)
  (case c19 => k_is)
  (case k19 => k_is)
  (case a20 => k_is)
  (case l20 => k_is)
  (case c20 => k_is)
  (case k20 => k_is)
  (case a21 => k_is)
  (case l21 => k_is)
  (case c21 => k_is)
  (case k21 => k_is)
  (case a22 => k_is)
  (case l22 => k_is)
  (case c22 => k_is)
  (case k22 => k_is)
  (case a23 => k_is)
  (case l23 => k_is)
  (case c23 => k_is)
  (case k23 => k_is)
  (case a24 => k_is)
  (case l24 => k_is)
  (case c24 => k_is)
  (case k24 => k_is)
  (case a25 => k_is)
  (case l25 => k_is)
  (case c25 => k_is)
  (case k25 => k_is)
  (case a26 => k_is)
  (case l26 => k_is)
  (case c26 => k_is)
  (case k26 => k_is)
  (case a27 => k_is)
  (case l27 => k_is)
  (case c27 => k_is)
  (case k27 => k_is)
  (case a28 => k_is)
  (case l28 => k_is)
  (case c28 => k_is)
  (case k28 => k_is)
  (case a29 => k_is)
  (case l29 => k_is)
  (case c29 => k_is)
  (case k29 => k_is)
  (case a30 => k_is)
  (case l30 => k_is)
  (case c30 => k_is)
  (case k30 => k_is)
  (case a31 => k_is)
  (case l31 => k_is)
  (case c31 => k_is)
  (case k31 => k_is)
  (case a32 => k_is)
  (case l32 => k_is)
  (case c32 => k_is)
  (case k32 => k_is)
  (case a33 => k_is)
  (case l33 => k_is)
  (case c33 => k_is)
  (case k33 => k_is)
  (case a34 => k_is)
  (case l34 => k_is)
  (case c34 => k_is)
  (case k34 => k_is)
  (case a35 => k_is)
  (case l35 => k_is)
  (case c35 => k_is)
  (case k35 => k_is)
  (case a36 => k_is)
  (case l36 => k_is)
  (case c36 => k_is)
  (case k36 => k_is)
  (case a37 => k_is)
  (case l37 => k_is)
  (case c37 => k_is)
  (case k37 => k_is)
  (case a38 => k_is)
  (case l38 => k_is)
  (case c38 => k_is)
  (case k38 => k_is)
  (case a39 => k_is)
  (case l39 => k_is)
  (case c39 => k_is)
  (case k39 => k_is)
  (case a40 => k_is)
  (case l40 => k_is)
  (case c40 => k_is)
  (case k40 => k_is)
  (case a41 => k_is)
  (case l41 => k_is)
  (case c41 => k_is)
  (case k41 => k_is)
  (case a42 => k_is)
  (case l42 => k_is)
  (case c42 => k_is)
  (case k42 => k_is)
  (case a43 => k_is)
  (case l43 => k_is)
  (case c43 => k_is)
  (case k43 => k_is)
  (case a44 => k_is)
  (case l44 => k_is)
  (case c44 => k_is)
  (case k44 => k_is)
  (case a45 => k_is)
  (case l45 => k_is)
  (case c45 => k_is)
  (case k45 => k_is)
  (case a46 => k_is)
  (case l46 => k_is)
  (case c46 => k_is)
  (case k46 => k_is)
  (case z_range => k_is)
  (case z_len => k_is)
  (case z_max => k_is)
  (case z_sorted => k_is)
  (case z_reversed => k_is)
  (case z_zip => k_is)
  (case z_min => k_is)
  (case z_enumerate => k_is)
  (case z_tuple => k_is)
  (case z_int => k_is)
  (case z_sum => k_is)
  (case z_isinstance => k_is)
  (case z_list => k_is)
  (case z_bool => k_is)
  (case Zuv => k_is)
  (case Zuu => k_is)
  (case Zut => k_is)
  (case Zun => k_is)
  (case Zvi => k_is)
  (case Zus => k_is)
  (case Zuj => k_is)
  (case Zvf => k_is)
  (case Zv9 => k_is)
  (case Zv8 => k_is)
  (case tq => rfl)
  (case tl => k_is)
  (case tv => rfl)
  (case tw => rfl)
  (case tp => rfl)
#print axioms PySem.Challenge.cw_needplan_k31_pegs_in_order_holds
