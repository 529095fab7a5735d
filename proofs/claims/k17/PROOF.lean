import PyProof.Rows.All
import Wide.All
import OpenK.AllK
import Wide.FinOn
import Lean
import PyProof.EqAt
import PyProof.EqKinds
import PyProof.TupleCall
import PySem.Challenge.RW_needplan_k17_refused_rings
open List renaming length_map → Zzz, mem_map → Zzx, getElem?_map → Zzv, getElem?_eq_getElem → Zzr, size_toArray → Zzp, mem_of_getElem? → Zzn, getElem?_eq_some_iff → Zzl, mem_cons → Zzk, map_append → Zzg, mem_cons_of_mem → Zze, mem_singleton → Zzd, mem_cons_self → Zzb, getD_eq_getElem?_getD → Zza, not_mem_nil → Zz8, map_cons → Zz7, mem_append → Zz4, take_add_one → Zz3, mem_append_right → Zz1, length_singleton → Zyy, replicate → Zyw, length_append → Zyv, take_length → Zyu, getElem?_eq_none → Zyt, range → Zyr, getElem?_append_left → Zyo, nodup_cons → Zym, length_take → Zyl, map_map → Zyk, toArray → Zyg, getElem?_append_right → Zyf, length_drop → Zye, lookup_cons → Zya, map_congr_left → Zy9, mem_append_left → Zy7, mem_iff_getElem → Zy5, getElem?_set_ne → Zy1, append_nil → Zxz, ext_getElem? → Zxu, mem_filter → Zxt, mem_filterMap → Zxr, map → Zxq, filterMap_cons → Zxp, replicate_succ → Zxn, length_cons → Zxm, getElem?_take → Zxl, nodup_append → Zxe, pairwise_iff_getElem → Zxc, length → Zxb, length_reverse → Zx7, length_pos_iff → Zx6, any_cons → Zx5, find?_cons → Zx4, getElem?_set_self → Zx2, eq_nil_of_length_eq_zero → Zx1, nodup_nil → Zx0, take_append_drop → Zwy, map_take → Zwv, map_nil → Zwr, getElem?_drop → Zwp, idxOf_lt_length_iff → Zwo, mem_range → Zwm, flatten_cons → Zwj, getElem?_inj → Zwi, take_of_length_le → Zwg, map_drop → Zwc, cons_append → Zwb, all_eq_true → Zwa, getElem_mem → Zw8, length_filter_le → Zw7, mem_iff_getElem? → Zw6, length_nil → Zw3, filter_append → Zvu, all_cons → Zvt
open PySem.Heap renaming get?_push_of_some → Zzy, lt_size → Zzj, get?_push_size → Zzf, get?_update_other → Zyc, SameBut → Zy6, size_push → Zy4, get?_update_self → Zxh
open PySem.W renaming mg_of → Zzw, Frag → Zzu, nsIn → Zzs, keepIn → Zzo, codeIn → Zzm, fnOf → Zzi, mg_none_of → Zyh, callWith_K → Zvv
open Nat renaming le_refl → Zzt, lt_of_lt_of_le → Zz9, le_trans → Zz5, ne_of_lt → Zz0, lt_of_le_of_lt → Zyx, zero_le → Zyq, ne_of_gt → Zxx, lt_irrefl → Zxg, lt_succ_of_lt → Zxf, le_of_eq → Zx8, lt_of_succ_lt_succ → Zwe, succ_ne_self → Zw9, pow_le_pow_right → Zw2, not_lt_zero → Zw1, min_eq_left → Zvz, add_sub_cancel' → Zvy
open Or renaming inl → Zzq
open Ne renaming symm → Zzh
open Option.some renaming inj → Zzc
open Int renaming le_refl → Zz6, lt_of_le_of_lt → Zxw, le_trans → Zxk, add_zero → Zxj, mul_nonneg → Zwz, emod_lt_of_pos → Zwn, emod_nonneg → Zw0
open Bool renaming false_ne_true → Zz2, and_eq_true → Zyb, and_eq_true_iff → Zy0, and_true → Zwd, eq_iff_iff → Zw4
open PySem.NameKind renaming free → Zyz, cell → Zww
open Array renaming getD_eq_getD_getElem? → Zys, getElem?_eq_getElem → Zyd, length_toList → Zxo, getElem?_eq_none → Zwf, append_assoc → Zvx
open PySem.F renaming plainAttrs_list → Zyp, slot_list_append → Zyj, type_list_append → Zyi, args_tuple_add_2 → Zwt, entry_tuple_add → Zwk, slot_tuple_add → Zwh
open PyProof.Rows renaming callWith_type1 → Zyn, slot_tuple_getitem → Zy8
open PySem.Builtin.Builtins renaming bindParams → Zy3
open Sum renaming inr → Zy2
open PySem.Builtin.SmallTypes renaming nextOf → Zxy, ownedTupleIsFree → Zxv, ownedTupleHandOut → Zwq
open PySem renaming mem_of_lookup → Zxs
open Option renaming map_some → Zxi, isSome_iff_exists → Zxa
open PySem.Builtin.Slice renaming slicePlaces → Zxd, sliceAdjust → Zwu
open PySem.Builtin.Tuple renaming tupleExact → Zx9
open Sum.inr renaming inj → Zx3
open PySem.Around renaming under_plainId → Zwx
open PySem.Builtin.List renaming listTooLong → Zws
open PySem.Builtin.Str renaming occurrences → Zwl
open PySem.StrLaws renaming glued_eq_join → Zw5
open PySem.Calls renaming spliced_cons → Zvw
set_option maxRecDepth 100000
set_option maxHeartbeats 4000000
set_option Elab.async false
set_option linter.all false
namespace L2
open PySem PySem.Spec PyProof.Rows
abbrev Key := Sum Int Str
def Qh : Key -> Value -> Bool
 | .inl k, v => Value.isInt k v
 | .inr x, v => Value.isStrOf x v
def keyH (w : World) : Key -> Int
 | .inl k => hashInt k
 | .inr x => hashStr w x
theorem C9 : ∀ {k : Key} {v : Value}, Qh k v = true -> (∃ i t, k = Sum.inl i /\ v = Value.int i t) \/ (∃ x t, k = Zy2 x /\ v = Value.str x t)
 | .inl i, v, h => by
  obtain ⟨t, e⟩ := Value.isInt_shape (k := i) (v := v) h
  exact .inl ⟨i, t, rfl, e⟩
 | .inr x, v, h => by
  obtain ⟨t, e⟩ := Value.isStrOf_shape (x := x) (v := v) h
  exact .inr ⟨x, t, rfl, e⟩
theorem Xl (i : Int) (t : Tok) : Qh (.inl i) (.int i t) = true := by simp [Qh, Value.isInt]
theorem Xk (x : Str) (t : Tok) : Qh (.inr x) (.str x t) = true := by simp [Qh, Value.isStrOf]
theorem ln (a b : Int) : decide ((Sum.inl a : Key) = Sum.inl b) = (a == b) := by
 by_cases e : a = b
 ·subst e; simp
 ·have h : ¬ (Sum.inl a : Key) = Sum.inl b := fun q => e (Sum.inl.inj q)
  rw [decide_eq_false h]
  exact (beq_eq_false_iff_ne.mpr e).symm
theorem li (a b : Str) : decide ((Zy2 a : Key) = Zy2 b) = decide (a = b) := by
 by_cases e : a = b
 ·subst e; simp
 ·have h : ¬ (Zy2 a : Key) = Zy2 b := fun q => e (Zx3 q)
  rw [decide_eq_false h, decide_eq_false e]
theorem lm (a : Int) (b : Str) : decide ((Sum.inl a : Key) = Zy2 b) = false := decide_eq_false (fun q => nomatch q)
theorem lj (a : Str) (b : Int) : decide ((Zy2 a : Key) = Sum.inl b) = false := decide_eq_false (fun q => nomatch q)
def Bk (prog : Program) (w : World) : PySem.KeyKind prog w Key where
 is := Qh
 hash := keyH w
 inj := fun v a b ha hb => by
  rcases C9 ha with ⟨i, t, rfl, rfl⟩ | ⟨x, t, rfl, rfl⟩
  ·rcases C9 hb with ⟨j, u, rfl, e⟩ | ⟨y, u, rfl, e⟩
   ·injection e with e1 _; rw [e1]
   ·exact nomatch e
  ·rcases C9 hb with ⟨j, u, rfl, e⟩ | ⟨y, u, rfl, e⟩
   ·exact nomatch e
   ·injection e with e1 _; rw [e1]
 byValue := fun k v h => by
  rcases C9 h with ⟨i, t, rfl, rfl⟩ | ⟨x, t, rfl, rfl⟩ <;> rfl
 pyHash := fun hv h => by
  rcases C9 hv with ⟨i, t, rfl, rfl⟩ | ⟨x, t, rfl, rfl⟩
  ·exact wpAny_pyHash_int h
  ·exact wpAny_pyHash_str h
 eqBool := fun hu hv h => by
  rcases C9 hu with ⟨i, t, rfl, rfl⟩ | ⟨x, t, rfl, rfl⟩
  ·rcases C9 hv with ⟨j, u, rfl, rfl⟩ | ⟨y, u, rfl, rfl⟩
   ·rw [ln] at h; exact wpAny_eqBool_int h
   ·rw [lm] at h; exact SeqAt.EqAt.int_str i t y u _ _ _ _ h
  ·rcases C9 hv with ⟨j, u, rfl, rfl⟩ | ⟨y, u, rfl, rfl⟩
   ·rw [lj] at h; exact SeqAt.EqAt.str_int x t j u _ _ _ _ h
   ·rw [li] at h; exact wpAny_eqBool_str h
 «strs» := fun k x t v h => by
  rcases C9 h with ⟨i, u, rfl, e⟩ | ⟨y, u, rfl, e⟩
  ·exact nomatch e
  ·injection e with e1 _
   subst e1
   cases v <;> rfl
theorem Tp (prog : Program) (w : World) (i : Int) (t : Tok) : (Bk prog w).is (.inl i) (.int i t) = true := Xl i t
theorem To (prog : Program) (w : World) (x : Str) (t : Tok) : (Bk prog w).is (.inr x) (.str x t) = true := Xk x t
inductive V where
 | non | bl (b : Bool) | int (i : Int) | str (x : Str) | byt (b : Array UInt8) | flt (b : UInt64) | ref (a : Addr) | ty (n : String)
 deriving DecidableEq
def RelV : V -> Value -> Prop
 | .non, u => u = Value.none
 | .bl b, u => u = Value.bool b
 | .int i, u => ∃ t, u = Value.int i t
 | .str x, u => ∃ t, u = Value.str x t
 | .byt b, u => ∃ t, u = Value.bytes b t
 | .flt b, u => ∃ t, u = Value.float b t
 | .ref a, u => u = Value.ref a
 | .ty n, u => u = Value.type n
abbrev Vals : List V -> List Value -> Prop := Paired RelV
theorem Vals.length {xs : List V} {us : List Value} (r : Vals xs us) : xs.length = us.length := Paired.length r
theorem Vals.get : ∀ {xs : List V} {us : List Value} {i : Nat} {x : V}, Vals xs us -> xs[i]? = some x -> ∃ u, us[i]? = some u /\ RelV x u
 | _, _, _, _, .nil, e => by simp at e
 | _, _, 0, _, .cons r _, e => by simp at e; subst e; exact ⟨_, rfl, r⟩
 | _, _, i + 1, x, .cons _ t, e => by
  obtain ⟨u, h1, h2⟩ := Vals.get (i := i) (x := x) t (by simpa using e)
  exact ⟨u, by simpa using h1, h2⟩
theorem Vals.set {x : V} {u : Value} (r : RelV x u) : ∀ {xs : List V} {us : List Value} (i : Nat), Vals xs us -> Vals (xs.set i x) (us.set i u)
 | _, _, _, .nil => .nil
 | _, _, 0, .cons _ t => .cons r t
 | _, _, i + 1, .cons q t => .cons q (Vals.set r i t)
theorem Vals.append : ∀ {xs ys : List V} {us ws : List Value}, Vals xs us -> Vals ys ws -> Vals (xs ++ ys) (us ++ ws)
 | _, _, _, _, .nil, s => s
 | _, _, _, _, .cons r t, s => .cons r (Vals.append t s)
theorem Vals.take : ∀ {xs : List V} {us : List Value} (n : Nat), Vals xs us -> Vals (xs.take n) (us.take n)
 | _, _, 0, _ => .nil
 | _, _, _ + 1, .nil => .nil
 | _, _, n + 1, .cons r t => .cons r (Vals.take n t)
theorem Vals.drop : ∀ {xs : List V} {us : List Value} (n : Nat), Vals xs us -> Vals (xs.drop n) (us.drop n)
 | _, _, 0, r => r
 | _, _, _ + 1, .nil => .nil
 | _, _, n + 1, .cons _ t => Vals.drop n t
def RelO : Option V -> Option Value -> Prop
 | some v, some u => RelV v u
 | none, none => True
 | _, _ => False
def KV {κ : Type} : List (κ × V) -> List (κ × Value) -> Prop := Paired fun (p : κ × V) (q : κ × Value) => p.1 = q.1 /\ RelV p.2 q.2
def kV : Key -> V
 | .inl i => .int i
 | .inr x => .str x
inductive HO where
 | lst (xs : List V)
 | tup (xs : List V)
 | dK (kvs : List (Key × V)) | dT (kvs : List (List Key × V))
 | set (S : Int -> Bool) (n : Nat)
 | ins (C dx : Addr) (fs : List (Str × V))
 | own (x : Addr)
 | xd (fs : List (Str × V))
 | met (f x : Addr)
 | rng (lo hi : Int)
 | frz (o : Obj) (u : HO)
 | tbl (ps : Array Value)
 | ext (φ : Heap -> Prop)
abbrev Hp := Addr -> Option HO
def upd (H : Hp) (a : Addr) (o : HO) : Hp := fun b => if b = a then some o else H b
theorem A0 {H : Hp} {a : Addr} {o : HO} : upd H a o a = some o := by unfold upd; rw [if_pos rfl]
theorem A5 {H : Hp} {a b : Addr} {o : HO} (h : b ≠ a) : upd H a o b = H b := by unfold upd; rw [if_neg h]
theorem Vx {H : Hp} {a b : Addr} {o u : HO} (h : H a = some o) (h' : H b = some u) (d : o ≠ u) : a ≠ b := by
 intro e; subst e; rw [h] at h'; exact d (Zzc h')
theorem A3 {H : Hp} {a b : Addr} {o : HO} (h : H a = some o) (h' : H b = none) : a ≠ b := by
 intro e; subst e; rw [h] at h'; cases h'
section
variable (P : Program) (w : World)
def ObjOk (H : Hp) (h : Heap) (a : Addr) : HO -> Prop
 | .lst xs => xs.length <= sizeLine /\ ∃ (its : List Value) (n : Nat), Vals xs its /\ h.get? a = some { cls := .type "list", data := .seq its.toArray n }
 | .tup xs => xs.length <= sizeLine /\ ∃ its : List Value, Vals xs its /\ IsTup h a its.toArray
 | .dK kvs => kvs.length <= sizeLine /\ (a == sysModules) = false /\ ∃ vs, KV kvs vs /\ h.DictOf (Bk P w) a vs
 | .dT kvs => kvs.length <= sizeLine /\ (a == sysModules) = false /\ ∃ xs : List (List Key × Addr × Value),
   Paired (fun (p : List Key × V) (q : List Key × Addr × Value) => p.1 = q.1 /\ H q.2.1 = some (.tup (p.1.map kV)) /\ RelV p.2 q.2.2) kvs xs /\
   ∃ o es ep, h.get? a = some o /\ o.ExactDict /\ o.data = .dict es ep /\ es.toList = xs.map (entryOfKey (tupleKind (Bk P w))) /\ (xs.map (·.1)).Nodup
 | .set S n => h.SetOf (intKind P w) a S n
 | .ins C dx fs => H dx = some (.own a) /\ fs.length <= 1000 /\ dx ≠ a /\ h.get? a = some (PySem.W.instObj C dx) /\
   ∃ mA, h.Ns1 dx mA /\ (∀ f, RelO (fs.lookup f) (mA f)) /\ PySem.Within mA (fs.map (·.1))
 | .own _ => ∃ o, h.get? a = some o
 | .xd fs => ∃ mA, h.Ns1 a mA /\ ∀ f, RelO (fs.lookup f) (mA f)
 | .rng lo hi => ∃ t u v, h.get? a = some { cls := .type "range", data := .fields #[.int lo t, .int hi u, .int 1 v] }
 | .frz o u => h.get? a = some o /\ ObjOk H h a u
 | .tbl ps => h.get? a = some { cls := .none, data := .fields ps }
 | .met f x => h.get? a = some (PySem.W.methodObj (.ref f) (.ref x))
 | .ext φ => φ h /\ (∃ o, h.get? a = some o) /\ ∀ h1 h2 : Heap, φ h1 -> (∀ o, h1.get? a = some o -> h2.get? a = some o) -> φ h2
def HOk (H : Hp) (h : Heap) : Prop := ∀ a o, H a = some o -> ObjOk P w H h a o
end
section
variable {P : Program} {w : World} {H H' : Hp} {h h' : Heap} {a : Addr} {o : HO}
theorem ObjOk.lt (x : ObjOk P w H h a o) : a < h.objs.size := by
 cases o with
 | lst xs => obtain ⟨_, _, _, _, e⟩ := x; exact Zzj e
 | tup xs => obtain ⟨_, _, _, p⟩ := x; exact p.lt
 | dK kvs => obtain ⟨_, _, _, _, o, _, _, e, _⟩ := x; exact Zzj e
 | dT kvs => obtain ⟨_, _, _, _, o, _, _, e, _⟩ := x; exact Zzj e
 | set S n => obtain ⟨o, _, _, _, e, _⟩ := x; exact Zzj e
 | ins C dx fs => obtain ⟨_, _, _, e, _⟩ := x; exact Zzj e
 | own y => obtain ⟨_, e⟩ := x; exact Zzj e
 | xd fs => obtain ⟨_, ⟨_, _, _, e, _⟩, _⟩ := x; exact Zzj e
 | rng lo hi => obtain ⟨_, _, _, e⟩ := x; exact Zzj e
 | frz ob u => obtain ⟨e, _⟩ := x; exact Zzj e
 | tbl ps => exact Zzj (show h.get? a = some _ from x)
 | met f y => exact Zzj (show h.get? a = some _ from x)
 | ext φ => obtain ⟨_, ⟨_, e⟩, _⟩ := x; exact Zzj e
theorem Paired.mapP {α β : Type} {F G : α -> β -> Prop} : ∀ {l₁ : List α} {l₂ : List β}, Paired F l₁ l₂ -> (∀ a b, F a b -> G a b) -> Paired G l₁ l₂
 | _, _, .nil, _ => .nil
 | _, _, .cons r t, f => .cons (f _ _ r) (Paired.mapP t f)
theorem ObjOk.stay (x : ObjOk P w H h a o) (k : ∀ b u, (b = a \/ H b = some (.own a)) -> h.get? b = some u -> h'.get? b = some u)
  (ho : ∀ b, H b = some (.own a) -> H' b = some (.own a)) (ht : ∀ b xs, H b = some (.tup xs) -> H' b = some (.tup xs)) : ObjOk P w H' h' a o := by
 induction o with
 | lst xs => obtain ⟨z, its, n, r, e⟩ := x; exact ⟨z, its, n, r, k _ _ (.inl rfl) e⟩
 | tup xs => obtain ⟨z, its, r, ob, e, c⟩ := x; exact ⟨z, its, r, ob, k _ _ (.inl rfl) e, c⟩
 | dK kvs => obtain ⟨z, y, vs, r, ob, es, ep, e, c⟩ := x; exact ⟨z, y, vs, r, ob, es, ep, k _ _ (.inl rfl) e, c⟩
 | dT kvs =>
  obtain ⟨z, y, xs, r, ob, es, ep, e, c⟩ := x
  exact ⟨z, y, xs, Paired.mapP r fun p q z => ⟨z.1, ht _ _ z.2.1, z.2.2⟩, ob, es, ep, k _ _ (.inl rfl) e, c⟩
 | set S n => obtain ⟨ob, es, ep, t, e, c⟩ := x; exact ⟨ob, es, ep, t, k _ _ (.inl rfl) e, c⟩
 | ins C dx fs =>
  obtain ⟨d, z, ne, e, mA, ⟨od, es, ep, e2, c⟩, r⟩ := x
  exact ⟨ho _ d, z, ne, k _ _ (.inl rfl) e, mA, ⟨od, es, ep, k _ _ (.inr d) e2, c⟩, r⟩
 | own y => obtain ⟨ob, e⟩ := x; exact ⟨ob, k _ _ (.inl rfl) e⟩
 | xd fs => obtain ⟨mA, ⟨od, es, ep, e, c⟩, r⟩ := x; exact ⟨mA, ⟨od, es, ep, k _ _ (.inl rfl) e, c⟩, r⟩
 | rng lo hi => obtain ⟨t, u, v, e⟩ := x; exact ⟨t, u, v, k _ _ (.inl rfl) e⟩
 | frz ob u ih => obtain ⟨e, q⟩ := x; exact ⟨k _ _ (.inl rfl) e, ih q⟩
 | tbl ps =>
  have e : h.get? a = some { cls := .none, data := .fields ps } := x
  show h'.get? a = some { cls := .none, data := .fields ps }
  exact k a _ (.inl rfl) e
 | met f y =>
  have e : h.get? a = some (PySem.W.methodObj (.ref f) (.ref y)) := x
  show h'.get? a = some (PySem.W.methodObj (.ref f) (.ref y))
  exact k a _ (.inl rfl) e
 | ext φ => obtain ⟨p, ⟨o, e⟩, st⟩ := x; exact ⟨st _ _ p fun o q => k _ _ (.inl rfl) q, ⟨o, k _ _ (.inl rfl) e⟩, st⟩
theorem HOk.lt (x : HOk P w H h) (e : H a = some o) : a < h.objs.size := (x a o e).lt
theorem HOk.fresh (x : HOk P w H h) (e : h.objs.size <= a) : H a = none := by
 cases q : H a with
 | none => rfl
 | some u => exact absurd (Zz9 (x.lt q) e) (Zxg _)
theorem HOk.kept (x : HOk P w H h) (k : ∀ b u, h.get? b = some u -> h'.get? b = some u) : HOk P w H h' := fun a o e =>
 (x a o e).stay (fun b u _ q => k b u q) (fun _ q => q) fun _ _ q => q
theorem HOk.laid (x : HOk P w H h) (k : ∀ b u, h.get? b = some u -> h'.get? b = some u) (hp : h.objs.size <= a) (new : ObjOk P w (upd H a o) h' a o) : HOk P w (upd H a o) h' := fun b u e => by
 have hn := x.fresh hp
 by_cases hb : b = a
 ·subst hb; rw [A0] at e; cases e; exact new
 ·rw [A5 hb] at e
  exact (x b u e).stay (fun c v _ q => k c v q) (fun c q => by rw [A5 (A3 q hn)]; exact q) fun c xs q => by rw [A5 (A3 q hn)]; exact q
end
def Rd (H : Hp) (a : Addr) (u : HO) : Prop := H a = some u \/ ∃ o, H a = some (.frz o u)
theorem Rd.of {H : Hp} {a : Addr} {u : HO} (h : H a = some u) : Rd H a u := .inl h
theorem Rd.ok {P : Program} {w : World} {H : Hp} {h : Heap} {a : Addr} {u : HO} (r : Rd H a u) (x : HOk P w H h) : ObjOk P w H h a u := by
 rcases r with r | ⟨o, r⟩
 ·exact x a u r
 ·obtain ⟨_, q⟩ := x a _ r
  exact q
def Mut : Option HO -> Prop
 | some (.lst _) => True
 | some (.dK _) => True
 | some (.dT _) => True
 | some (.set _ _) => True
 | some (.ins _ _ _) => True
 | some (.ext _) => True
 | _ => False
section
variable {P : Program} {w : World} {H : Hp} {h h' : Heap} {x e : Addr} {o' : HO}
theorem HOk.write (ok : HOk P w H h) (mu : Mut (H x)) (he : e = x \/ H e = some (.own x)) (k : ∀ b u, b ≠ e -> h.get? b = some u -> h'.get? b = some u) (heo : ∃ u, h'.get? e = some u)
  (new : ObjOk P w (upd H x o') h' x o') : HOk P w (upd H x o') h' := fun b u q => by
 have nown : ∀ c y, H c = some (.own y) -> c ≠ x := fun c y r z => by subst z; rw [r] at mu; exact mu
 have ntup : ∀ c xs, H c = some (.tup xs) -> c ≠ x := fun c xs r z => by subst z; rw [r] at mu; exact mu
 by_cases hb : b = x
 ·subst hb; rw [A0] at q; cases q; exact new
 ·rw [A5 hb] at q
  by_cases hbe : b = e
  ·have q' : H b = some (.own x) := by
    rcases he with z | z
    ·exact absurd (hbe.trans z) hb
    ·rw [hbe]; exact z
   rw [q] at q'; cases q'
   obtain ⟨v, hv⟩ := heo
   exact ⟨v, by rw [hbe]; exact hv⟩
  ·refine (ok b u q).stay (fun c v hc r => k c v ?_ r) (fun c r => by rw [A5 (nown c b r)]; exact r) fun c xs r => by rw [A5 (ntup c xs r)]; exact r
   rcases hc with rfl | hc
   ·exact hbe
   ·rintro rfl
    rcases he with z | z
    ·exact nown c b hc z
    ·rw [hc] at z; cases z; exact hb rfl
end
structure Un (fs ex : List Addr) (H H' : Hp) (h h' : Heap) : Prop where
 keep : ∀ b o, h.get? b = some o -> H b = none -> b ∉ fs -> b ∉ ex -> h'.get? b = some o
 slot : ∀ b o, h.get? b = some o -> H b = none -> b ∈ fs -> b ∉ ex -> ∃ sl, h'.get? b = some { o with slots := sl }
 free : ∀ b o, h.get? b = some o -> H b = none -> b ∉ ex -> H' b = none
 there : ∀ b o, h.get? b = some o -> b ∉ ex -> ∃ o', h'.get? b = some o'
 tups : ∀ b xs, H b = some (.tup xs) -> H' b = some (.tup xs)
 frzs : ∀ b o u, H b = some (.frz o u) -> H' b = some (.frz o u)
 tbls : ∀ b ps, H b = some (.tbl ps) -> ∃ more, H' b = some (.tbl (ps ++ more))
section
variable {fs fs' ex ex' : List Addr} {H H1 H2 : Hp} {h h1 h2 h' : Heap} {a x e : Addr} {o : HO}
theorem Un.any (u : Un fs ex H H1 h h1) {b : Addr} {ob : Obj} (q : h.get? b = some ob) (n : H b = none) (hx : b ∉ ex) : ∃ sl, h1.get? b = some { ob with slots := sl } := by
 by_cases hb : b ∈ fs
 ·exact u.slot b ob q n hb hx
 ·exact ⟨ob.slots, u.keep b ob q n hb hx⟩
theorem Un.trans (a : Un fs ex H H1 h h1) (b : Un fs ex H1 H2 h1 h2) : Un fs ex H H2 h h2 where
 keep := fun c ob q n hc hx => b.keep c ob (a.keep c ob q n hc hx) (a.free c ob q n hx) hc hx
 slot := fun c ob q n hc hx => by
  obtain ⟨sl, e1⟩ := a.slot c ob q n hc hx
  obtain ⟨sl', e2⟩ := b.slot c _ e1 (a.free c ob q n hx) hc hx
  exact ⟨sl', e2⟩
 free := fun c ob q n hx => by
  obtain ⟨o', e1⟩ := a.there c ob q hx
  exact b.free c o' e1 (a.free c ob q n hx) hx
 there := fun c ob q hx => by
  obtain ⟨o', e1⟩ := a.there c ob q hx
  exact b.there c o' e1 hx
 tups := fun c xs q => b.tups c xs (a.tups c xs q)
 frzs := fun c ob xs q => b.frzs c ob xs (a.frzs c ob xs q)
 tbls := fun c ps q => by
  obtain ⟨m1, e1⟩ := a.tbls c ps q
  obtain ⟨m2, e2⟩ := b.tbls c _ e1
  exact ⟨m1 ++ m2, by rw [e2, Zvx]⟩
theorem Un.kept (k : ∀ b u, h.get? b = some u -> h'.get? b = some u) : Un fs ex H H h h' :=
 ⟨fun b ob q _ _ _ => k b ob q, fun b ob q _ _ _ => ⟨ob.slots, k b ob q⟩, fun _ _ _ n _ => n, fun b ob q _ => ⟨ob, k b ob q⟩, fun _ _ q => q, fun _ _ _ q => q, fun _ ps q => ⟨#[], by rw [q]; simp⟩⟩
theorem Un.refl : Un fs ex H H h h := Un.kept fun _ _ q => q
theorem Un.laid (k : ∀ b u, h.get? b = some u -> h'.get? b = some u) (hp : h.objs.size <= a) (hn : H a = none) : Un fs ex H (upd H a o) h h' where
 keep := fun b u q _ _ _ => k b u q
 slot := fun b u q _ _ _ => ⟨u.slots, k b u q⟩
 free := fun b u q n _ => by rw [A5 (Zz0 (Zz9 (Zzj q) hp))]; exact n
 there := fun b u q _ => ⟨u, k b u q⟩
 tups := fun b xs q => by rw [A5 (A3 q hn)]; exact q
 frzs := fun b u xs q => by rw [A5 (A3 q hn)]; exact q
 tbls := fun b ps q => ⟨#[], by rw [A5 (A3 q hn), q]; simp⟩
theorem Un.write (mu : Mut (H x)) (he : e = x \/ H e = some (.own x)) (k : ∀ b u, b ≠ e -> h.get? b = some u -> h'.get? b = some u) (heo : ∃ u, h'.get? e = some u) : Un fs ex H (upd H x o) h h' := by
 have hx : ∀ b, H b = none -> b ≠ x := fun b n z => by subst z; rw [n] at mu; exact mu
 have hb : ∀ b, H b = none -> b ≠ e := fun b n z => by
  subst z
  rcases he with r | r
  ·exact hx b n r
  ·rw [n] at r; cases r
 have hm : ∀ b u, H b = some u -> ¬ Mut (some u) -> b ≠ x := fun b u q nm z => by subst z; rw [q] at mu; exact nm mu
 refine ⟨fun b u q n _ _ => k b u (hb b n) q, fun b u q n _ _ => ⟨u.slots, k b u (hb b n) q⟩, fun b u q n _ => by rw [A5 (hx b n)]; exact n, fun b u q _ => ?_,
  fun b xs q => by rw [A5 (hm b _ q fun z => z)]; exact q, fun b u xs q => by rw [A5 (hm b _ q fun z => z)]; exact q, fun b ps q => ⟨#[], by rw [A5 (hm b _ q fun z => z), q]; simp⟩⟩
 by_cases hbe : b = e
 ·subst hbe; exact heo
 ·exact ⟨u, k b u hbe q⟩
theorem Un.mono (u : Un fs ex H H1 h h1) (hs : ∀ b ∈ fs, b ∈ fs') (hx : ∀ b ∈ ex, b ∈ ex') : Un fs' ex' H H1 h h1 :=
 ⟨fun b ob q n hb he => u.keep b ob q n (fun z => hb (hs b z)) fun z => he (hx b z), fun _ _ q n _ he => u.any q n fun z => he (hx _ z), fun b ob q n he => u.free b ob q n fun z => he (hx b z), fun b ob q he => u.there b ob q fun z => he (hx b z), u.tups, u.frzs, u.tbls⟩
end
def trk (h : Heap) (H : Hp) : List Addr := (Zyr h.objs.size).filter fun a => (H a).isSome
def Pe (h : Heap) (H : Hp) : Heap := PySem.W.hideAll h (trk h H)
theorem Xq (h : Heap) (H : Hp) : (Pe h H).objs.size = h.objs.size := PySem.W.hideAll_size _ _
theorem Zw {h : Heap} {H : Hp} {b : Addr} {o : Obj} (e : h.get? b = some o) (n : H b = none) : (Pe h H).get? b = some o :=
 PySem.W.hideAll_get _ e fun hm => by
  have q : (H b).isSome = true := (Zxt.mp hm).2
  rw [n] at q; simp at q
theorem ff {h : Heap} {H : Hp} {b : Addr} {o : Obj} (e : (Pe h H).get? b = some o) : h.get? b = some o /\ H b = none := by
 have e' : h.get? b = some o := PySem.W.of_hideAll (trk h H) e
 refine ⟨e', ?_⟩
 cases q : H b with
 | none => rfl
 | some x =>
  have hm : b ∈ trk h H := Zxt.mpr ⟨Zwm.mpr (Zzj e'), by simp [q]⟩
  have z : (Pe h H).get? b = none := PySem.W.hideAll_none (trk h H) hm
  rw [z] at e; cases e
def Dt (g h : Heap) (L : Addr) : List (Addr × Obj) := (Zyr h.objs.size).filterMap fun a => if a = L \/ (g.get? a).isSome = true then none else (h.get? a).map fun o => (a, o)
theorem Ls {g h : Heap} {L a : Addr} {o : Obj} (h1 : a ≠ L) (h2 : g.get? a = none) (h3 : h.get? a = some o) : (a, o) ∈ Dt g h L :=
 Zxr.mpr ⟨a, Zwm.mpr (Zzj h3), by simp [h1, h2, h3]⟩
theorem Nj {g h : Heap} {L : Addr} {p : Addr × Obj} (hp : p ∈ Dt g h L) : p.1 ≠ L /\ g.get? p.1 = none /\ h.get? p.1 = some p.2 := by
 obtain ⟨b, _, e⟩ := Zxr.mp hp
 split at e
 ·cases e
 ·rename_i hn
  cases q : h.get? b with
  | none => rw [q] at e; simp at e
  | some u =>
   rw [q] at e
   simp only [Zxi, Option.some.injEq] at e
   subst e
   refine ⟨fun z => hn (.inl z), ?_, q⟩
   show g.get? b = none
   cases r : g.get? b with
   | none => rfl
   | some v => exact (hn (.inr (by simp [r]))).elim
def rest (g h : Heap) (L d : Addr) : List (Addr × Obj) := (Dt g h L).filter fun p => decide (p.1 ≠ d)
theorem Tm {g h : Heap} {L : Addr} : News g L h (Dt g h L) := fun p hp => let ⟨a, b, c⟩ := Nj hp; ⟨c, a, b⟩
structure Mod (K : Zzu) (mg : Str -> Option Value) (base : Heap) : Prop where
 kin : K.In base
 glob : base.Ns mainGlobals mg
 blt : ∃ mb, base.Ns builtinsNs mb /\ ∀ x : Str, x ≠ "__name__" -> mb x = bootBuiltins x
 nolimit : base.NoLimit
structure Cx where
 prog : Program
 w : World
 K : Zzu
 mg : Str -> Option Value
 base : Heap
 A : Around
 N : List Str
 s₀ : Shared
 H₀ : Hp
 env : Env
 outer : List Env
 stack : List Env
 ex : List Addr
 fn : Str -> Bool
 calm : Bool
 pn : List (Addr × Obj)
 xe : Value -> Shared -> Prop
def frs (l : List Env) : List Addr := l.filterMap (·.frame)
abbrev Cx.fs (X : Cx) : List Addr := frs X.outer
def Vis (sc : Scope) (x : Str) : Prop := sc.names.lookup x = some .local \/ sc.names.lookup x = some .cell \/ sc.names.lookup x = some .free
def Loc (sc : Scope) (x : Str) : Prop := sc.names.lookup x = some .local \/ sc.names.lookup x = some .cell
def Look (env : Env) (h : Heap) (m : Str -> Option Value) (x : Str) (u : Value) : Prop :=
 (env.kindOf x = some .local /\ m x = some u) \/ ((env.kindOf x = some .cell \/ env.kindOf x = some .free) /\ ∃ c, env.cells.lookup x = some c /\ h.IsCell c (some u))
structure Cx.Ok (X : Cx) : Prop where
 mod : Mod X.K X.mg X.base
 kind : X.env.scope.kind = .function
 glob : X.env.globals = mainGlobals
 blt : X.env.builtins = builtinsNs
 above : X.s₀.heap.objs.size <= X.env.locals
 inj : ∀ x y c, X.env.cells.lookup x = some c -> X.env.cells.lookup y = some c -> x = y
 has : ∀ x, (X.env.kindOf x = some .cell \/ X.env.kindOf x = some .free) -> ∃ c, X.env.cells.lookup x = some c
 cab : ∀ x c, X.fn x = true -> X.env.cells.lookup x = some c -> X.s₀.heap.objs.size <= c
 hd : X.calm = true -> X.A.handled = none
 frames : X.A.frames = some X.stack
 stk : X.stack = X.outer \/ (X.stack = X.env :: X.outer /\ X.env.frame = some X.env.locals)
 exf : ∀ b ∈ X.ex, b ≠ X.env.locals /\ ∀ x c, X.env.cells.lookup x = some c -> c ≠ b
 bs : ∀ b o, X.base.get? b = some o -> X.s₀.heap.get? b = some o /\ X.H₀ b = none
 bsz : X.base.objs.size <= X.s₀.heap.objs.size
 noex : ∀ b o, X.base.get? b = some o -> b ∉ X.ex
 exfs : ∀ b ∈ X.ex, b ∉ X.fs
 funs : X.s₀.heap.FunFrames X.base X.outer
 frf : ∀ b ∈ X.fs, X.H₀ b = none
structure Inv (X : Cx) (pins : List (Addr × Obj)) (σ : List (Option V)) (H : Hp) (s : Shared) : Prop where
 ok : X.Ok
 os : s.os = X.s₀.os
 bare : AllBare s.gens
 base : Un X.fs X.ex X.H₀ H X.s₀.heap s.heap
 loc : ∃ m, s.heap.Ns X.env.locals m /\ ∀ (i : Nat) (x : Str) (v : V), X.N[i]? = some x -> σ[i]? = some (some v) -> Vis X.env.scope x -> ∃ u, RelV v u /\ Look X.env s.heap m x u
 cell : ∀ x c, X.env.cells.lookup x = some c -> ∃ v, s.heap.IsCell c v
 free : H X.env.locals = none
 freeC : ∀ x c, X.env.cells.lookup x = some c -> H c = none
 pin : ∀ p ∈ X.pn ++ pins, s.heap.get? p.1 = some p.2 /\ H p.1 = none /\ p.1 ≠ X.env.locals /\ p.1 ∉ X.fs /\ ∀ v, p.2.data ≠ .cell v
 hok : HOk X.prog X.w H s.heap
 len : σ.length = X.N.length
section
variable {X : Cx} {pins : List (Addr × Obj)} {σ : List (Option V)} {H H' : Hp} {s : Shared} {h' : Heap}
theorem Cx.Ok.nofr (ok : X.Ok) {b : Addr} {o : Obj} (e : X.base.get? b = some o) : b ∉ X.fs := fun hb => by
 have := (ok.funs.mem hb).1
 rw [e] at this; cases this
theorem Inv.bs (I : Inv X pins σ H s) : ∀ b o, X.base.get? b = some o -> s.heap.get? b = some o /\ H b = none := fun b o e =>
 ⟨I.base.keep b o (I.ok.bs b o e).1 (I.ok.bs b o e).2 (I.ok.nofr e) (I.ok.noex b o e), I.base.free b o (I.ok.bs b o e).1 (I.ok.bs b o e).2 (I.ok.noex b o e)⟩
theorem Inv.bk (I : Inv X pins σ H s) : ∀ b o, X.base.get? b = some o -> s.heap.get? b = some o := fun b o e => (I.bs b o e).1
theorem Inv.mod (I : Inv X pins σ H s) : Mod X.K X.mg X.base := I.ok.mod
theorem Inv.kIn (I : Inv X pins σ H s) : X.K.In s.heap := I.ok.mod.kin.keeps I.bk
theorem Inv.nolimit (I : Inv X pins σ H s) : s.heap.NoLimit := I.ok.mod.nolimit.keeps I.bk
theorem Inv.fr (I : Inv X pins σ H s) : ∃ m, Fr X.base X.env.locals s.heap m :=
 let ⟨m, hn, _⟩ := I.loc
 ⟨m, hn, I.bk, Zz5 I.ok.bsz I.ok.above⟩
theorem Inv.lt (I : Inv X pins σ H s) : X.env.locals < s.heap.objs.size := let ⟨_, hn, _⟩ := I.loc; hn.lt
theorem Inv.sz (I : Inv X pins σ H s) : X.s₀.heap.objs.size <= s.heap.objs.size := Zz5 I.ok.above (Nat.le_of_lt I.lt)
theorem Inv.nofs (I : Inv X pins σ H s) {a : Addr} (h : s.heap.objs.size <= a) : a ∉ X.fs := fun hb => by
 obtain ⟨_, o, ho, _⟩ := I.ok.funs.mem hb
 exact absurd (Zz9 (Zzj ho) (Zz5 I.sz h)) (Zxg _)
theorem Inv.cne (I : Inv X pins σ H s) : ∀ x c, X.env.cells.lookup x = some c -> c ≠ X.env.locals := fun x c e z => by
 obtain ⟨v, o, ho, hd⟩ := I.cell x c e
 obtain ⟨m, ⟨o', es, ep, ho', hd', _⟩, _⟩ := I.loc
 rw [z, ho'] at ho; cases ho; rw [hd'] at hd; cases hd
theorem Inv.funs (I : Inv X pins σ H s) : s.heap.FunFrames X.base X.outer := by
 have all : ∀ (l : List Env), (∀ b ∈ frs l, b ∈ X.fs) -> X.s₀.heap.FunFrames X.base l -> s.heap.FunFrames X.base l := by
  intro l
  induction l with
  | nil => intro _ _; trivial
  | cons env r ih =>
   intro hs hl
   obtain ⟨hk, ⟨L, o, hf, hn, ho, hd⟩, hr⟩ := hl
   have hL : L ∈ X.fs := hs L (by unfold frs; rw [Zxp, hf]; exact Zzb)
   obtain ⟨sl, e⟩ := I.base.slot L o ho (I.ok.frf L hL) hL fun z => I.ok.exfs L z hL
   exact ⟨hk, ⟨L, _, hf, hn, e, hd⟩, ih (fun b hb => hs b (by unfold frs; rw [Zxp, hf]; exact Zze _ hb)) hr⟩
 exact all X.outer (fun _ hb => hb) I.ok.funs
theorem Inv.stack (I : Inv X pins σ H s) : s.heap.FunFrames X.base X.stack := by
 rcases I.ok.stk with e | ⟨e, hf⟩
 ·rw [e]; exact I.funs
 ·rw [e]
  obtain ⟨m, hn, _⟩ := I.loc
  refine .cons (by rw [I.ok.kind]; decide) hf hn ?_ I.funs
  exact Heap.get?_none_of_le (Zz5 I.ok.bsz I.ok.above)
theorem Inv.stkSub (I : Inv X pins σ H s) : ∀ b ∈ frs X.stack, b ∈ X.env.locals :: X.fs := fun b hb => by
 rcases I.ok.stk with e | ⟨e, hf⟩
 ·rw [e] at hb; exact Zze _ hb
 ·rw [e] at hb
  unfold frs at hb
  rw [Zxp, hf] at hb
  exact hb
theorem Inv.stkFree (I : Inv X pins σ H s) : ∀ b ∈ frs X.stack, H b = none := fun b hb => by
 rcases Zzk.mp (I.stkSub b hb) with e | hb
 ·rw [e]; exact I.free
 ·obtain ⟨_, o, ho, _⟩ := I.ok.funs.mem hb
  exact I.base.free b o ho (I.ok.frf b hb) fun z => I.ok.exfs b z hb
theorem Inv.step {g' : Array GenState} {t' : Nat} {d' : Drawn} {ch : List Addr} (I : Inv X pins σ H s)
  (hch : ∀ b ∈ ch, (b ∈ X.ex \/ X.s₀.heap.objs.size <= b) /\ b ≠ X.env.locals /\ (∀ x c, X.env.cells.lookup x = some c -> c ≠ b) /\ ∀ p ∈ X.pn ++ pins, p.1 ≠ b)
  (keep : ∀ b o, b ≠ X.env.locals -> b ∉ X.fs -> b ∉ ch -> s.heap.get? b = some o -> H b = none -> h'.get? b = some o)
  (slot : ∀ b o, b ≠ X.env.locals -> b ∈ X.fs -> b ∉ ch -> s.heap.get? b = some o -> H b = none -> ∃ sl, h'.get? b = some { o with slots := sl }) (free : ∀ b o, b ∉ ch -> s.heap.get? b = some o -> H b = none -> H' b = none)
  (there : ∀ b o, b ∉ ch -> s.heap.get? b = some o -> ∃ o', h'.get? b = some o')
  (tups : ∀ b xs, H b = some (.tup xs) -> H' b = some (.tup xs)) (frzs : ∀ b o u, H b = some (.frz o u) -> H' b = some (.frz o u)) (tbls : ∀ b ps, H b = some (.tbl ps) -> ∃ more, H' b = some (.tbl (ps ++ more)))
  (ns : ∀ m, s.heap.Ns X.env.locals m -> h'.Ns X.env.locals m) (hok : HOk X.prog X.w H' h') (hg : AllBare g') :
  Inv X pins σ H' { s with heap := h', gens := g', drawn := d', toks := t' } := by
 have neL : ∀ b o, X.s₀.heap.get? b = some o -> b ≠ X.env.locals := fun b o e => Zz0 (Zz9 (Zzj e) I.ok.above)
 have neC : ∀ b o, X.s₀.heap.get? b = some o -> b ∉ X.ex -> b ∉ ch := fun b o e hx hb => by
  rcases (hch b hb).1 with z | z
  ·exact hx z
  ·exact absurd (Zz9 (Zzj e) z) (Zxg _)
 have cellK : ∀ x c, X.env.cells.lookup x = some c -> ∀ v, s.heap.IsCell c v -> h'.IsCell c v := fun x c e v ⟨o, ho, hd⟩ => by
  have nch : c ∉ ch := fun z => (hch c z).2.2.1 x c e rfl
  by_cases hc : c ∈ X.fs
  ·obtain ⟨sl, q⟩ := slot c o (I.cne x c e) hc nch ho (I.freeC x c e)
   exact ⟨_, q, hd⟩
  ·exact ⟨o, keep c o (I.cne x c e) hc nch ho (I.freeC x c e), hd⟩
 refine ⟨I.ok, I.os, hg, ⟨fun b o e n hb hx => ?_, fun b o e n hb hx => ?_, fun b o e n hx => ?_, fun b o e hx => ?_, fun b xs e => tups b xs (I.base.tups b xs e), fun b o xs e => frzs b o xs (I.base.frzs b o xs e), fun b ps e => ?_⟩, ?_, fun x c e => ?_, ?_, fun x c e => ?_, fun p hp => ?_, hok, I.len⟩
 ·exact keep b o (neL b o e) hb (neC b o e hx) (I.base.keep b o e n hb hx) (I.base.free b o e n hx)
 ·obtain ⟨sl, e1⟩ := I.base.slot b o e n hb hx
  obtain ⟨sl', e2⟩ := slot b _ (neL b o e) hb (neC b o e hx) e1 (I.base.free b o e n hx)
  exact ⟨sl', e2⟩
 ·obtain ⟨o', e1⟩ := I.base.there b o e hx
  exact free b o' (neC b o e hx) e1 (I.base.free b o e n hx)
 ·obtain ⟨o', e1⟩ := I.base.there b o e hx
  exact there b o' (neC b o e hx) e1
 ·obtain ⟨m1, e1⟩ := I.base.tbls b ps e
  obtain ⟨m2, e2⟩ := tbls b _ e1
  exact ⟨m1 ++ m2, by rw [e2, Zvx]⟩
 ·obtain ⟨m, hn, hl⟩ := I.loc
  refine ⟨m, ns m hn, fun i x v e1 e2 e3 => ?_⟩
  obtain ⟨u, r, l⟩ := hl i x v e1 e2 e3
  refine ⟨u, r, ?_⟩
  rcases l with l | ⟨k, c, e, z⟩
  ·exact .inl l
  ·exact .inr ⟨k, c, e, cellK x c e _ z⟩
 ·obtain ⟨v, z⟩ := I.cell x c e
  exact ⟨v, cellK x c e v z⟩
 ·obtain ⟨m, ⟨o, _, _, ho, _⟩, _⟩ := I.loc
  exact free _ o (fun z => (hch _ z).2.1 rfl) ho I.free
 ·obtain ⟨v, o, ho, hd⟩ := I.cell x c e
  exact free c o (fun z => (hch c z).2.2.1 x c e rfl) ho (I.freeC x c e)
 ·obtain ⟨e, n, ne, nf, d⟩ := I.pin p hp
  have nch : p.1 ∉ ch := fun z => (hch p.1 z).2.2.2 p hp rfl
  exact ⟨keep p.1 p.2 ne nf nch e n, free p.1 p.2 nch e n, ne, nf, d⟩
theorem Inv.un {t' : Nat} (I : Inv X pins σ H s) (u : Un X.fs [] H H' s.heap h') (hok : HOk X.prog X.w H' h') : Inv X pins σ H' { s with heap := h', toks := t' } := by
 obtain ⟨m, ⟨o, es, ep, ho, r⟩, _⟩ := id I.loc
 obtain ⟨sl, hL⟩ := u.any ho I.free (by simp)
 exact I.step (g' := s.gens) (d' := s.drawn) (ch := []) (fun _ z => nomatch z) (fun b o _ hb _ e n => u.keep b o e n hb (by simp)) (fun b o _ hb _ e n => u.slot b o e n hb (by simp)) (fun b o _ e n => u.free b o e n (by simp)) (fun b o _ e => u.there b o e (by simp)) u.tups u.frzs u.tbls (fun m' hm => by
  obtain ⟨o', es', ep', ho', r'⟩ := hm
  rw [ho] at ho'; cases ho'
  exact ⟨_, es', ep', hL, r'⟩) hok I.bare
theorem Inv.call {g' : Array GenState} {t' : Nat} {d' : Drawn} {ch : List Addr} (I : Inv X pins σ H s) (u : Un (frs X.stack) ch H H' s.heap h') (hok : HOk X.prog X.w H' h') (hg : AllBare g')
  (hch : ∀ b ∈ ch, (b ∈ X.ex \/ X.s₀.heap.objs.size <= b) /\ b ≠ X.env.locals /\ (∀ x c, X.env.cells.lookup x = some c -> c ≠ b) /\ ∀ p ∈ X.pn ++ pins, p.1 ≠ b) :
  Inv X pins σ H' { s with heap := h', gens := g', drawn := d', toks := t' } := by
 obtain ⟨m, ⟨o, es, ep, ho, r⟩, _⟩ := id I.loc
 obtain ⟨sl, hL⟩ := u.any ho I.free fun z => (hch _ z).2.1 rfl
 exact I.step (ch := ch) hch (fun b o hL hb hc e n => u.keep b o e n (fun z => (Zzk.mp (I.stkSub b z)).elim hL hb) hc) (fun b o _ _ hc e n => u.any e n hc) (fun b o hc e n => u.free b o e n hc) (fun b o hc e => u.there b o e hc) u.tups u.frzs u.tbls (fun m' hm => by
  obtain ⟨o', es', ep', ho', r'⟩ := hm
  rw [ho] at ho'; cases ho'
  exact ⟨_, es', ep', hL, r'⟩) hok hg
theorem Inv.turned {t' : Nat} {it : Addr} (I : Inv X pins σ H s) (k : ∀ b o, b ≠ it -> s.heap.get? b = some o -> h'.get? b = some o) (hn : H it = none) (hL : it ≠ X.env.locals)
  (h1 : it ∈ X.ex \/ X.s₀.heap.objs.size <= it) (h2 : ∀ x c, X.env.cells.lookup x = some c -> c ≠ it) (h3 : ∀ p ∈ X.pn ++ pins, p.1 ≠ it) : Inv X pins σ H { s with heap := h', toks := t' } := by
 have nit : ∀ b u, H b = some u -> b ≠ it := fun b u e z => by rw [z, hn] at e; cases e
 refine I.step (g' := s.gens) (d' := s.drawn) (ch := [it]) (fun b hb => ?_) (fun b o _ _ hc e _ => k b o (fun z => hc (by simp [z])) e) (fun b o _ _ hc e _ => ⟨o.slots, k b o (fun z => hc (by simp [z])) e⟩) (fun _ _ _ _ n => n)
  (fun b o hc e => ⟨o, k b o (fun z => hc (by simp [z])) e⟩) (fun _ _ e => e) (fun _ _ _ e => e) (fun b ps e => ⟨#[], by rw [e]; simp⟩) (fun m hm => ?_) (fun b u e => ?_) I.bare
 ·have e : b = it := by simpa using hb
  subst e
  exact ⟨h1, hL, h2, h3⟩
 ·obtain ⟨o, es, ep, ho, r⟩ := hm
  exact ⟨o, es, ep, k _ o (Zzh hL) ho, r⟩
 ·refine (I.hok b u e).stay (fun c v hc q => k c v ?_ q) (fun _ q => q) fun _ _ q => q
  rcases hc with z | z
  ·rw [z]; exact nit b u e
  ·exact nit c _ z
theorem Inv.tok (I : Inv X pins σ H s) (t : Nat) : Inv X pins σ H { s with toks := t } := I.un (h' := s.heap) (t' := t) Un.refl I.hok
theorem Inv.kept {t' : Nat} (I : Inv X pins σ H s) (k : ∀ b u, s.heap.get? b = some u -> h'.get? b = some u) : Inv X pins σ H { s with heap := h', toks := t' } := I.un (Un.kept k) (I.hok.kept k)
theorem Inv.laid {a : Addr} {o : HO} {t' : Nat} (I : Inv X pins σ H s) (k : ∀ b u, s.heap.get? b = some u -> h'.get? b = some u) (hp : s.heap.objs.size <= a) (new : ObjOk X.prog X.w (upd H a o) h' a o) :
  Inv X pins σ (upd H a o) { s with heap := h', toks := t' } := I.un (Un.laid k hp (I.hok.fresh hp)) (I.hok.laid k hp new)
theorem Inv.write {x e : Addr} {o : HO} {t' : Nat} (I : Inv X pins σ H s) (mu : Mut (H x)) (he : e = x \/ H e = some (.own x)) (k : ∀ b u, b ≠ e -> s.heap.get? b = some u -> h'.get? b = some u) (heo : ∃ u, h'.get? e = some u)
  (new : ObjOk X.prog X.w (upd H x o) h' x o) : Inv X pins σ (upd H x o) { s with heap := h', toks := t' } := I.un (Un.write mu he k heo) (I.hok.write mu he k heo new)
theorem Inv.weak {σ' : List (Option V)} (I : Inv X pins σ H s) (hl : σ'.length = σ.length) (w : ∀ (i : Nat) v, σ'[i]? = some (some v) -> σ[i]? = some (some v)) : Inv X pins σ' H s :=
 ⟨I.ok, I.os, I.bare, I.base, let ⟨m, hn, hl'⟩ := I.loc; ⟨m, hn, fun i x v e1 e2 e3 => hl' i x v e1 (w i v e2) e3⟩, I.cell, I.free, I.freeC, I.pin, I.hok, hl.trans I.len⟩
theorem Inv.pins_of {pins' : List (Addr × Obj)} (I : Inv X pins σ H s) (h : ∀ p ∈ pins', s.heap.get? p.1 = some p.2 /\ H p.1 = none /\ p.1 ≠ X.env.locals /\ p.1 ∉ X.fs /\ ∀ v, p.2.data ≠ .cell v) : Inv X pins' σ H s :=
 ⟨I.ok, I.os, I.bare, I.base, I.loc, I.cell, I.free, I.freeC, fun p hp => (Zz4.mp hp).elim (fun z => I.pin p (Zy7 _ z)) (h p), I.hok, I.len⟩
theorem Nk {N : List Str} (hN : N.Nodup) {i j : Nat} {x : Str} (a : N[i]? = some x) (b : N[j]? = some x) : i = j := by
 obtain ⟨h1, e1⟩ := Zzl.mp a
 obtain ⟨h2, e2⟩ := Zzl.mp b
 exact (List.getElem_inj hN).mp (e1.trans e2.symm)
theorem Px {M : Model} {A : Around} {E : Value -> Shared -> Prop} {i : Nat} {x : Str} {v : V} {u : Value} {Q : Unit -> Shared -> Prop} (I : Inv X pins σ H s) (hN : X.N.Nodup) (hi : X.N[i]? = some x) (hx : Loc X.env.scope x) (r : RelV v u)
  (h : ∀ s', Inv X pins (σ.set i (some v)) H s' -> (∃ a, Zy6 a s.heap s'.heap /\ (a = X.env.locals \/ X.env.cells.lookup x = some a)) -> Q () s') (hf : X.fn x = true \/ X.env.scope.names.lookup x = some .local := by first | exact .inl rfl | exact .inr rfl | assumption) : wpAny M A (storeName X.env x u) Q E s := by
 obtain ⟨m, hn, hl⟩ := id I.loc
 have hcls : (X.env.scope.kind == .class || (X.env.scope.kind == .module && X.env.locals != X.env.globals)) = false := by rw [I.ok.kind]; rfl
 have hiσ : i < σ.length := by rw [I.len]; exact (Zzl.mp hi).1
 have cne := I.cne
 have tracked : ∀ {a : Addr} {h' : Heap}, (∃ o, s.heap.get? a = some o /\ H a = none) -> Zy6 a s.heap h' -> HOk X.prog X.w H h' := fun {a h'} ha hs b ob e => by
  obtain ⟨_, _, hfree⟩ := ha
  refine (I.hok b ob e).stay (fun c w' hc q => (hs.2 c ?_).trans q) (fun _ q => q) fun _ _ q => q
  rintro rfl
  rcases hc with rfl | hc
  ·rw [hfree] at e; cases e
  ·rw [hfree] at hc; cases hc
 rcases hx with hk | hk
 ·refine wpAny_storeName_local hk hn (fun h' hn' hs => ?_) hcls
  obtain ⟨oL, _, _, hoL, _⟩ := id hn
  refine h _ ⟨I.ok, I.os, I.bare, ⟨fun b o e n hb hx => ?_, fun b o e n hb hx => ?_, I.base.free, fun b o e hx => ?_, I.base.tups, I.base.frzs, I.base.tbls⟩, ⟨_, hn', fun j y v' e1 e2 e3 => ?_⟩, fun y c e => ?_, I.free, I.freeC, fun p hp => ?_, tracked ⟨oL, hoL, I.free⟩ hs, by simpa using I.len⟩ ⟨_, hs, .inl rfl⟩
  ·exact (hs.2 b (Zz0 (Zz9 (Zzj e) I.ok.above))).trans (I.base.keep b o e n hb hx)
  ·obtain ⟨sl, e1⟩ := I.base.slot b o e n hb hx
   exact ⟨sl, (hs.2 b (Zz0 (Zz9 (Zzj e) I.ok.above))).trans e1⟩
  ·obtain ⟨o', e1⟩ := I.base.there b o e hx
   exact ⟨o', (hs.2 b (Zz0 (Zz9 (Zzj e) I.ok.above))).trans e1⟩
  ·by_cases hj : j = i
   ·subst hj
    rw [hi] at e1; cases e1
    rw [Zx2 hiσ] at e2
    cases e2
    exact ⟨u, r, .inl ⟨hk, by simp⟩⟩
   ·rw [Zy1 (Zzh hj)] at e2
    obtain ⟨u', r', q⟩ := hl j y v' e1 e2 e3
    refine ⟨u', r', ?_⟩
    rcases q with ⟨k, e⟩ | ⟨k, c, e, z⟩
    ·refine .inl ⟨k, ?_⟩
     have : y ≠ x := fun e => hj (Nk hN e1 (e ▸ hi))
     simp [this, e]
    ·exact .inr ⟨k, c, e, z.sameBut hs (cne y c e)⟩
  ·obtain ⟨w', z⟩ := I.cell y c e
   exact ⟨w', z.sameBut hs (cne y c e)⟩
  ·obtain ⟨e, n, ne, nf, d⟩ := I.pin p hp
   exact ⟨(hs.2 p.1 ne).trans e, n, ne, nf, d⟩
 ·have hfn : X.fn x = true := by
   rcases hf with z | z
   ·exact z
   ·rw [z] at hk; cases hk
  obtain ⟨c, hc⟩ := I.ok.has x (.inl hk)
  obtain ⟨w', z⟩ := I.cell x c hc
  refine wpAny_storeName_cell I.ok.kind hk hc z (fun h' hc' hs => ?_)
  obtain ⟨oc, hoc, hocd⟩ := id z
  refine h { s with heap := h' } ⟨I.ok, I.os, I.bare, ⟨fun b o e n hb hx => ?_, fun b o e n hb hx => ?_, I.base.free, fun b o e hx => ?_, I.base.tups, I.base.frzs, I.base.tbls⟩, ⟨m, hn.sameBut hs (Zzh (cne x c hc)), fun j y v' e1 e2 e3 => ?_⟩, fun y c' e => ?_, I.free, I.freeC, fun p hp => ?_, tracked ⟨oc, hoc, I.freeC x c hc⟩ hs, by simpa using I.len⟩ ⟨c, hs, .inr hc⟩
  ·exact (hs.2 b (Zz0 (Zz9 (Zzj e) (I.ok.cab x c hfn hc)))).trans (I.base.keep b o e n hb hx)
  ·obtain ⟨sl, e1⟩ := I.base.slot b o e n hb hx
   exact ⟨sl, (hs.2 b (Zz0 (Zz9 (Zzj e) (I.ok.cab x c hfn hc)))).trans e1⟩
  ·obtain ⟨o', e1⟩ := I.base.there b o e hx
   exact ⟨o', (hs.2 b (Zz0 (Zz9 (Zzj e) (I.ok.cab x c hfn hc)))).trans e1⟩
  ·by_cases hj : j = i
   ·subst hj
    rw [hi] at e1; cases e1
    rw [Zx2 hiσ] at e2
    cases e2
    exact ⟨u, r, .inr ⟨.inl hk, c, hc, hc'⟩⟩
   ·rw [Zy1 (Zzh hj)] at e2
    obtain ⟨u', r', q⟩ := hl j y v' e1 e2 e3
    refine ⟨u', r', ?_⟩
    rcases q with q | ⟨k, c', e, z'⟩
    ·exact .inl q
    ·refine .inr ⟨k, c', e, z'.sameBut hs ?_⟩
     rintro rfl
     exact hj (Nk hN e1 (I.ok.inj _ _ _ e hc ▸ hi))
  ·by_cases hcc : c' = c
   ·subst hcc; exact ⟨_, hc'⟩
   ·obtain ⟨w2, z2⟩ := I.cell y c' e
    exact ⟨w2, z2.sameBut hs hcc⟩
  ·obtain ⟨e, n, ne, nf, d⟩ := I.pin p hp
   refine ⟨(hs.2 p.1 ?_).trans e, n, ne, nf, d⟩
   intro q
   rw [q, hoc] at e
   have q' : oc = p.2 := Zzc e
   exact d w' (by rw [<- q']; exact hocd)
theorem Js {M : Model} {A : Around} {E : Value -> Shared -> Prop} {i : Nat} {x : Str} {v : V} {u : Value} {Q : Unit -> Shared -> Prop} (I : Inv X pins σ H s) (hN : X.N.Nodup) (hi : X.N[i]? = some x) (hx : Loc X.env.scope x) (r : RelV v u)
  (h : ∀ s', Inv X pins (σ.set i (some v)) H s' -> Q () s') (hf : X.fn x = true \/ X.env.scope.names.lookup x = some .local := by first | exact .inl rfl | exact .inr rfl | assumption) : wpAny M A (storeName X.env x u) Q E s :=
 Px I hN hi hx r (fun s' I' _ => h s' I') hf
theorem Inv.call' {s' : Shared} {ch : List Addr} (I : Inv X pins σ H s) (ho : s'.os = s.os) (u : Un (frs X.stack) ch H H' s.heap s'.heap) (hok : HOk X.prog X.w H' s'.heap) (hg : AllBare s'.gens)
  (hch : ∀ b ∈ ch, (b ∈ X.ex \/ X.s₀.heap.objs.size <= b) /\ b ≠ X.env.locals /\ (∀ x c, X.env.cells.lookup x = some c -> c ≠ b) /\ ∀ p ∈ X.pn ++ pins, p.1 ≠ b) : Inv X pins σ H' s' := by
 obtain ⟨h', g', d', t', o'⟩ := s'
 have e : o' = s.os := ho
 subst e
 exact I.call (g' := g') (t' := t') (d' := d') u hok hg hch
end
abbrev XK := Value -> Option Addr -> Hp -> Prop
abbrev St := List (Option V)
abbrev VK := V -> Hp -> Prop
abbrev TE := St -> Hp -> VK -> Prop
abbrev TT := St -> Hp -> (Bool -> Hp -> Prop) -> Prop
abbrev TA := St -> Hp -> (List V -> Hp -> Prop) -> Prop
structure Ends where
 nx : St -> Hp -> Prop
 rt : VK
 bk : St -> Hp -> Prop := fun _ _ => False
 ct : St -> Hp -> Prop := fun _ _ => False
abbrev TS := Ends -> St -> Hp -> Prop
def EP (X : Cx) (pins : List (Addr × Obj)) (σ : St) (Q : VK) (u : Value) (s' : Shared) : Prop := ∃ v H', Inv X pins σ H' s' /\ RelV v u /\ Q v H'
def TP (X : Cx) (pins : List (Addr × Obj)) (σ : St) (Q : Bool -> Hp -> Prop) (b : Bool) (s' : Shared) : Prop := ∃ H', Inv X pins σ H' s' /\ Q b H'
def AP (X : Cx) (pins : List (Addr × Obj)) (σ : St) (Q : List V -> Hp -> Prop) (us : List Value) (s' : Shared) : Prop := ∃ vs H', Inv X pins σ H' s' /\ Vals vs us /\ Q vs H'
def SP (X : Cx) (pins : List (Addr × Obj)) (D : Ends) (f : Flow) (s' : Shared) : Prop :=
 match f with
 | .next => ∃ σ' H', Inv X pins σ' H' s' /\ D.nx σ' H'
 | .brk => ∃ σ' H', Inv X pins σ' H' s' /\ D.bk σ' H'
 | .cont => ∃ σ' H', Inv X pins σ' H' s' /\ D.ct σ' H'
 | .ret u => ∃ v σ' H', Inv X pins σ' H' s' /\ RelV v u /\ D.rt v H'
def PE (X : Cx) (e : Expr) (t : TE) : Prop :=
 ∀ (pins : List (Addr × Obj)) (s : Shared) (σ : St) (H : Hp) (Q : VK), Inv X pins σ H s -> t σ H Q -> wpAny (model X.prog X.w) X.A (eval e X.env) (EP X pins σ Q) X.xe s
def PT (X : Cx) (e : Expr) (t : TT) : Prop :=
 ∀ (pins : List (Addr × Obj)) (s : Shared) (σ : St) (H : Hp) (Q : Bool -> Hp -> Prop), Inv X pins σ H s -> t σ H Q -> wpAny (model X.prog X.w) X.A (isTrue e X.env (eval e X.env)) (TP X pins σ Q) X.xe s
def PW (X : Cx) (e : Expr) (t : TT) : Prop :=
 ∀ (whole : Sem Value) (pins : List (Addr × Obj)) (s : Shared) (σ : St) (H : Hp) (Q : Bool -> Hp -> Prop), Inv X pins σ H s -> t σ H Q -> wpAny (model X.prog X.w) X.A (isTrue e X.env whole) (TP X pins σ Q) X.xe s
theorem PW.pt {X : Cx} {e : Expr} {t : TT} (h : PW X e t) : PT X e t := h _
def PA (X : Cx) (es : List Expr) (t : TA) : Prop :=
 ∀ (pos : Pos) (pins : List (Addr × Obj)) (s : Shared) (σ : St) (H : Hp) (Q : List V -> Hp -> Prop), Inv X pins σ H s -> t σ H Q -> wpAny (model X.prog X.w) X.A (spliced (backTo pos (starEach es X.env))) (AP X pins σ Q) X.xe s
def PS (X : Cx) (st : Stmt) (t : TS) : Prop :=
 ∀ (pins : List (Addr × Obj)) (s : Shared) (σ : St) (H : Hp) (D : Ends), Inv X pins σ H s -> t D σ H -> wpAny (model X.prog X.w) X.A (exec st X.env) (SP X pins D) X.xe s
def PSs (X : Cx) (st : List Stmt) (t : TS) : Prop :=
 ∀ (pins : List (Addr × Obj)) (s : Shared) (σ : St) (H : Hp) (D : Ends), Inv X pins σ H s -> t D σ H -> wpAny (model X.prog X.w) X.A (execs st X.env) (SP X pins D) X.xe s
theorem thn {α : Type} {t : Sem α} {Q Q' : α -> Shared -> Prop} {M : Model} {A : Around} {E : Value -> Shared -> Prop} {s : Shared} (h : wpAny M A t Q E s) (hQ : ∀ a s, Q a s -> Q' a s) : wpAny M A t Q' E s := wpAny_mono h hQ fun _ _ x => x
section
variable {X : Cx}
def Yk (i : Nat) : TE := fun σ H Q => ∃ v, σ[i]? = some (some v) /\ Q v H
def tC (v : V) : TE := fun _ H Q => Q v H
theorem kq {i : Nat} {x : Str} {pos : Pos} (hN : X.N[i]? = some x) (hv : Vis X.env.scope x) (hd : (x == ("__debug__" : Str)) = false := by decide) (hcd : (x == ("__classdict__" : Str)) = false := by decide) : PE X (.Name x pos) (Yk i) := by
 intro pins s σ H Q I h
 obtain ⟨v, e, h⟩ := h
 obtain ⟨m, hn, hl⟩ := I.loc
 obtain ⟨u, r, l⟩ := hl i x v hN e hv
 have fin : EP X pins σ Q u s := ⟨v, H, I, r, h⟩
 rcases l with ⟨hk, hm⟩ | ⟨hk, c, hc, hcell⟩
 ·exact wpAny_Name (wpAny_loadName_local I.ok.kind hk hn hm fin) hd
 ·rcases hk with hk | hk
  ·exact wpAny_Name (wpAny_loadName_cell I.ok.kind hk hc hcell fin) hd
  ·exact wpAny_Name (wpAny_loadName_free I.ok.kind hk hc hcell fin hcd) hd
theorem A7 {i j pos} : PE X (.Constant (.int i) j pos) (tC (.int i)) := fun _ _ _ H _ I h => wpAny_Constant_int ⟨.int i, H, I.tok _, ⟨_, rfl⟩, h⟩
theorem Ie {b j pos} : PE X (.Constant (.bool b) j pos) (tC (.bl b)) := fun _ _ _ H _ I h => Constant_bool ⟨.bl b, H, I, rfl, h⟩
theorem Hc {j pos} : PE X (.Constant .none j pos) (tC .non) := fun _ _ _ H _ I h => Constant_none ⟨.non, H, I, rfl, h⟩
theorem Ce {x j pos} : PE X (.Constant (.str x) j pos) (tC (.str x)) := fun _ _ _ H _ I h => Calls.Constant_str ⟨.str x, H, I.tok _, ⟨_, rfl⟩, h⟩
def Gl (X : Cx) (x : Str) : Prop := X.env.kindOf x = some .globalImplicit
theorem Kg {E : Value -> Shared -> Prop} {pins : List (Addr × Obj)} {s : Shared} {σ : St} {H : Hp} {x : Str} {u : Value} {pos : Pos} {Q : Value -> Shared -> Prop} (I : Inv X pins σ H s) (hg : Gl X x) (hm : X.mg x = some u) (h : Q u s)
  (hd : (x == ("__debug__" : Str)) = false := by decide) : wpAny (model X.prog X.w) X.A (eval (.Name x pos) X.env) Q E s :=
 Calls.Name_function_global I.ok.kind hg (Calls.loadGlobal_global (by rw [I.ok.glob]; exact I.mod.glob.keeps I.bk) hm h) hd
theorem E9 {E : Value -> Shared -> Prop} {pins : List (Addr × Obj)} {s : Shared} {σ : St} {H : Hp} {x : Str} {u : Value} {pos : Pos} {Q : Value -> Shared -> Prop} (I : Inv X pins σ H s) (hg : Gl X x) (hm : X.mg x = none) (hv : bootBuiltins x = some u) (h : Q u s)
  (hn : x ≠ "__name__" := by decide) (hd : (x == ("__debug__" : Str)) = false := by decide) : wpAny (model X.prog X.w) X.A (eval (.Name x pos) X.env) Q E s := by
 obtain ⟨mb, h1, h2⟩ := I.mod.blt
 exact Calls.Name_function_global I.ok.kind hg (Calls.loadGlobal_builtin (by rw [I.ok.glob]; exact I.mod.glob.keeps I.bk) hm (by rw [I.ok.blt]; exact h1.keeps I.bk) ((h2 x hn).trans hv) h) hd
theorem Db {x : Str} {v : V} {u : Value} {pos : Pos} (hg : Gl X x) (hm : X.mg x = some u) (r : RelV v u) (hd : (x == ("__debug__" : Str)) = false := by decide) : PE X (.Name x pos) (tC v) :=
 fun _ _ _ H _ I h => Kg I hg hm ⟨v, H, I, r, h⟩ hd
theorem e7 {x : Str} {v : V} {u : Value} {pos : Pos} (hg : Gl X x) (hm : X.mg x = none) (hv : bootBuiltins x = some u) (r : RelV v u) (hn : x ≠ "__name__" := by decide) (hd : (x == ("__debug__" : Str)) = false := by decide) : PE X (.Name x pos) (tC v) :=
 fun _ _ _ H _ I h => E9 I hg hm hv ⟨v, H, I, r, h⟩ hn hd
variable {a b : Expr} {ta tb : TE} {pos : Pos}
def PC (X : Cx) (op : CmpOp) (a b : Expr) (t : TE) : Prop :=
 ∀ (pins : List (Addr × Obj)) (s : Shared) (σ : St) (H : Hp) (Q : VK), Inv X pins σ H s -> t σ H Q ->
  wpAny (model X.prog X.w) X.A (eval a X.env) (fun v s₁ => wpAny (model X.prog X.w) X.A (eval b X.env) (fun u s₂ => wpAny (model X.prog X.w) X.A (compareOp op v u) (EP X pins σ Q) X.xe s₂) X.xe s₁) X.xe s
def tB (t : TE) : TT := fun σ H Q => t σ H fun x H1 => ∃ c, x = .bl c /\ Q c H1
theorem Ky {e : Expr} {t : TE} (h : PE X e t) (he : ∀ whole, isTrue e X.env whole = (do let v <- whole; standAt e.pos; holding [v] (truthy v)) := by intro _; rfl) : PT X e (tB t) := by
 intro pins s σ H Q I hw
 refine isTrue_plain (thn (h pins s σ H _ I hw) fun v s1 ⟨x, H1, I1, r1, q1⟩ => ?_) (he _)
 obtain ⟨d, rfl, q⟩ := q1
 cases r1
 exact wpAny_truthy_bool ⟨H1, I1, q⟩
variable {tA tB' : TT} {rest : List Expr}
def om (t u : TT) : TT := fun σ H Q => t σ H fun c H1 => if c = true then u σ H1 Q else Q false H1
def tOr (t u : TT) : TT := fun σ H Q => t σ H fun c H1 => if c = true then Q true H1 else u σ H1 Q
def nv (t : TT) : TT := fun σ H Q => t σ H fun c H1 => Q (!c) H1
theorem Vm (ha : PT X a tA) : PW X (.BoolOp .And [a] pos) tA := by
 intro wh pins s σ H Q I h
 refine isTrue_and (thn (ha pins s σ H Q I h) fun c s1 e => ?_)
 cases c with
 | true => exact isTrue_and_nil e
 | false => exact e
theorem Yu (ha : PT X a tA) (hb : PW X (.BoolOp .And (b :: rest) pos) tB') : PW X (.BoolOp .And (a :: b :: rest) pos) (om tA tB') := by
 intro wh pins s σ H Q I h
 refine isTrue_and (thn (ha pins s σ H _ I h) fun c s1 ⟨H1, I1, q1⟩ => ?_)
 cases c with
 | true => exact hb wh pins s1 σ H1 Q I1 q1
 | false => exact ⟨H1, I1, q1⟩
theorem R8 (ha : PT X a tA) : PT X (.UnaryOp .Not a pos) (nv tA) := by
 intro pins s σ H Q I h
 exact isTrue_not (ha pins s σ H (fun c H1 => Q (!c) H1) I h)
def ol (ta tb : TE) : TE := fun σ H Q => ta σ H fun x H1 => ∃ c, x = .bl c /\ if c = true then tb σ H1 Q else Q (.bl false) H1
def tOrV (ta tb : TE) : TE := fun σ H Q => ta σ H fun x H1 => ∃ c, x = .bl c /\ if c = true then Q (.bl true) H1 else tb σ H1 Q
def nu (ta : TE) : TE := fun σ H Q => ta σ H fun x H1 => ∃ c, x = .bl c /\ Q (.bl (!c)) H1
def tIf (t : TT) (ta tb : TE) : TE := fun σ H Q => t σ H fun c H1 => if c = true then ta σ H1 Q else tb σ H1 Q
end
def SqL (K : Zzu) (H : Hp) (a : Addr) (xs : List V) : Prop :=
 Rd H a (.lst xs) \/
  ∃ (o : Obj) (its : Array Value) (n : Nat), K.lookup a = some o /\ o.cls = .type "list" /\ o.dict = none /\ o.data = .seq its n /\ its.size <= sizeLine /\ Vals xs its.toList
def SqT (K : Zzu) (H : Hp) (a : Addr) (xs : List V) : Prop :=
 Rd H a (.tup xs) \/
  ∃ (o : Obj) (its : Array Value) (n : Nat), K.lookup a = some o /\ o.cls = .type "tuple" /\ o.data = .seq its n /\ its.size <= sizeLine /\ Vals xs its.toList
def absV : Value -> Option V
 | .none => some .non
 | .bool b => some (.bl b)
 | .int i _ => some (.int i)
 | .str x _ => some (.str x)
 | .bytes b _ => some (.byt b)
 | .float b _ => some (.flt b)
 | .ref a => some (.ref a)
 | .type n => some (.ty n)
 | _ => none
theorem RelV.abs {x : V} {u : Value} (r : RelV x u) : absV u = some x := by
 cases x with
 | non => cases r; rfl
 | bl _ => cases r; rfl
 | int _ => obtain ⟨t, rfl⟩ := r; rfl
 | str _ => obtain ⟨t, rfl⟩ := r; rfl
 | byt _ => obtain ⟨t, rfl⟩ := r; rfl
 | flt _ => obtain ⟨t, rfl⟩ := r; rfl
 | ref _ => cases r; rfl
 | ty _ => cases r; rfl
theorem RelV.inj {x y : V} {u : Value} (r : RelV x u) (q : RelV y u) : x = y := Zzc (r.abs.symm.trans q.abs)
theorem Vals.inj : ∀ {xs ys : List V} {us : List Value}, Vals xs us -> Vals ys us -> xs = ys
 | _, _, _, .nil, .nil => rfl
 | _, _, _, .cons r t, .cons r' t' => by rw [r.inj r', Vals.inj t t']
section
variable {X : Cx} {pins : List (Addr × Obj)} {σ : St} {H : Hp} {s : Shared} {a : Addr} {xs ys : List V}
theorem SqL.of {K : Zzu} (h : H a = some (.lst xs)) : SqL K H a xs := .inl (.inl h)
theorem SqT.of {K : Zzu} (h : H a = some (.tup xs)) : SqT K H a xs := .inl (.inl h)
theorem Inv.list (I : Inv X pins σ H s) (h : SqL X.K H a xs) : ∃ its : List Value, Vals xs its /\ PlainL s.heap a its.toArray /\ xs.length <= sizeLine := by
 rcases h with h | ⟨o, its, n, hk, hc, hd, hs, hz, r⟩
 ·obtain ⟨z, its, n, r, e⟩ := h.ok I.hok
  exact ⟨its, r, ⟨_, n, e, rfl, rfl, rfl⟩, z⟩
 ·refine ⟨its.toList, r, ⟨o, n, I.kIn a o hk, hc, hd, by simpa using hs⟩, ?_⟩
  have e := r.length
  simp only [Zxo] at e
  omega
theorem Inv.tuple (I : Inv X pins σ H s) (h : SqT X.K H a xs) : ∃ its : List Value, Vals xs its /\ IsTup s.heap a its.toArray /\ xs.length <= sizeLine := by
 rcases h with h | ⟨o, its, n, hk, hc, hs, hz, r⟩
 ·obtain ⟨z, its, r, p⟩ := h.ok I.hok
  exact ⟨its, r, p, z⟩
 ·refine ⟨its.toList, r, ⟨o, I.kIn a o hk, hc, n, by simpa using hs⟩, ?_⟩
  have e := r.length
  simp only [Zxo] at e
  omega
theorem Inv.list_inj (I : Inv X pins σ H s) (h : SqL X.K H a xs) (h' : SqL X.K H a ys) : xs = ys := by
 obtain ⟨its, r, ⟨o, n, e, _, _, d⟩, _⟩ := I.list h
 obtain ⟨its', r', ⟨o', n', e', _, _, d'⟩, _⟩ := I.list h'
 rw [e] at e'; cases e'
 rw [d] at d'
 injection d' with d1 _
 have : its = its' := by simpa using congrArg Array.toList d1
 subst this
 exact r.inj r'
theorem Inv.tuple_inj (I : Inv X pins σ H s) (h : SqT X.K H a xs) (h' : SqT X.K H a ys) : xs = ys := by
 obtain ⟨its, r, ⟨o, e, _, n, d⟩, _⟩ := I.tuple h
 obtain ⟨its', r', ⟨o', e', _, n', d'⟩, _⟩ := I.tuple h'
 rw [e] at e'; cases e'
 rw [d] at d'
 injection d' with d1 _
 have : its = its' := by simpa using congrArg Array.toList d1
 subst this
 exact r.inj r'
end
abbrev Cx.wish (X : Cx) (E : Value -> Shared -> Prop) : Cx := { X with xe := E }
abbrev Cx.nox (X : Cx) : Cx := X.wish fun _ _ => False
theorem Cx.Ok.wish {X : Cx} (ok : X.Ok) (E : Value -> Shared -> Prop) : (X.wish E).Ok :=
 ⟨ok.mod, ok.kind, ok.glob, ok.blt, ok.above, ok.inj, ok.has, ok.cab, ok.hd, ok.frames, ok.stk, ok.exf, ok.bs, ok.bsz, ok.noex, ok.exfs, ok.funs, ok.frf⟩
theorem Cx.Ok.unwish {X : Cx} {E : Value -> Shared -> Prop} (ok : (X.wish E).Ok) : X.Ok :=
 ⟨ok.mod, ok.kind, ok.glob, ok.blt, ok.above, ok.inj, ok.has, ok.cab, ok.hd, ok.frames, ok.stk, ok.exf, ok.bs, ok.bsz, ok.noex, ok.exfs, ok.funs, ok.frf⟩
section
variable {X : Cx} {pins : List (Addr × Obj)} {σ : St} {H : Hp} {s : Shared} {E : Value -> Shared -> Prop}
theorem Inv.wish (I : Inv X pins σ H s) (E : Value -> Shared -> Prop) : Inv (X.wish E) pins σ H s := ⟨I.ok.wish E, I.os, I.bare, I.base, I.loc, I.cell, I.free, I.freeC, I.pin, I.hok, I.len⟩
theorem Inv.unwish (I : Inv (X.wish E) pins σ H s) : Inv X pins σ H s := ⟨I.ok.unwish, I.os, I.bare, I.base, I.loc, I.cell, I.free, I.freeC, I.pin, I.hok, I.len⟩
theorem SP.unwish {D : Ends} {f : Flow} {s' : Shared} (h : SP (X.wish E) pins D f s') : SP X pins D f s' := by
 cases f with
 | next => obtain ⟨σ', H', I, q⟩ := h; exact ⟨σ', H', I.unwish, q⟩
 | brk => obtain ⟨σ', H', I, q⟩ := h; exact ⟨σ', H', I.unwish, q⟩
 | cont => obtain ⟨σ', H', I, q⟩ := h; exact ⟨σ', H', I.unwish, q⟩
 | ret u => obtain ⟨v, σ', H', I, r, q⟩ := h; exact ⟨v, σ', H', I.unwish, r, q⟩
theorem PE.nox {e : Expr} {t : TE} (h : PE X.nox e t) : PE X e t := fun pins s σ H Q I hw =>
 wpAny_mono (h pins s σ H Q (I.wish _) hw) (fun _ _ ⟨v, H', I', r, q⟩ => ⟨v, H', I'.unwish, r, q⟩) fun _ _ z => False.elim z
theorem PT.nox {e : Expr} {t : TT} (h : PT X.nox e t) : PT X e t := fun pins s σ H Q I hw =>
 wpAny_mono (h pins s σ H Q (I.wish _) hw) (fun _ _ ⟨H', I', q⟩ => ⟨H', I'.unwish, q⟩) fun _ _ z => False.elim z
theorem PSs.nox {st : List Stmt} {t : TS} (h : PSs X.nox st t) : PSs X st t := fun pins s σ H D I hw =>
 wpAny_mono (h pins s σ H D (I.wish _) hw) (fun _ _ q => q.unwish) fun _ _ z => False.elim z
end
section
variable {X : Cx} {st : Stmt} {rest : List Stmt} {t u : TS} {e : Expr} {te : TE} {pos : Pos}
def tNext : TS := fun D σ H => D.nx σ H
def Ht (t u : TS) : TS := fun D σ H => t { D with nx := u D } σ H
theorem Au : PSs X [] tNext := fun _ _ σ H _ I h => wpAny_execs_nil ⟨σ, H, I, h⟩
theorem A2 (h1 : PS X st t) (h2 : PSs X rest u) : PSs X (st :: rest) (Ht t u) := by
 intro pins s σ H D I h
 refine wpAny_execs_cons (thn (h1 pins s σ H { D with nx := u D } I h) fun f s1 q => ?_)
 cases f with
 | next =>
  obtain ⟨σ', H', I', q⟩ := q
  exact h2 pins s1 σ' H' D I' q
 | ret v => exact q
 | brk => exact q
 | cont => exact q
theorem A9 (h1 : PS X st t) : PSs X [st] t := by
 intro pins s σ H D I h
 refine wpAny_execs_cons (thn (h1 pins s σ H D I h) fun f s1 q => ?_)
 cases f with
 | next => exact wpAny_execs_nil q
 | ret v => exact q
 | brk => exact q
 | cont => exact q
theorem Inv.quiet {pins : List (Addr × Obj)} {σ : St} {H : Hp} {s : Shared} (I : Inv X pins σ H s) : interactive X.env = false := by simp [interactive, I.ok.kind]
def ip (te : TE) : TS := fun D σ H => te σ H fun _ H1 => D.nx σ H1
theorem Ay (he : PE X e te) (hs : swapsWith e none pos.line X.env = pure false := by rfl) : PS X (.Expr e pos) (ip te) := by
 intro pins s σ H D I h
 exact wpAny_Expr_any (thn (he pins s σ H _ I h) fun v s1 ⟨x, H1, I1, r1, q1⟩ => ⟨σ, H1, I1, q1⟩) I.quiet hs
def nt (te : TE) : TS := fun D σ H => te σ H D.rt
theorem Af (he : PE X e te) : PS X (.Return (some e) pos) (nt te) := by
 intro pins s σ H D I h
 exact wpAny_Return_some (thn (he pins s σ H _ I h) fun v s1 ⟨x, H1, I1, r1, q1⟩ => ⟨x, σ, H1, I1, r1, q1⟩)
def nk : TS := fun D _ H => D.rt .non H
def o0 (c : TT) (t u : TS) : TS := fun D σ H => c σ H fun b H1 => if b = true then t D σ H1 else u D σ H1
theorem Bp {c : Expr} {a b : List Stmt} {tc : TT} (hc : PT X c tc) (ha : PSs X a t) (hb : PSs X b u) : PS X (.If c a b pos) (o0 tc t u) := by
 intro pins s σ H D I h
 refine wpAny_If (thn (hc pins s σ H _ I h) fun d s1 ⟨H1, I1, q1⟩ => ?_)
 cases d with
 | true => exact ha pins s1 σ H1 D I1 q1
 | false => exact hb pins s1 σ H1 D I1 q1
def tNever : TS := fun _ _ _ => False
theorem T7 : PS X st tNever := fun _ _ _ _ _ _ h => h.elim
theorem Bj {sts : List Stmt} : PSs X sts tNever := fun _ _ _ _ _ _ h => h.elim
end
abbrev TG := V -> St -> Hp -> (St -> Hp -> Prop) -> Prop
abbrev TGs := List V -> St -> Hp -> (St -> Hp -> Prop) -> Prop
def PG (X : Cx) (target : Expr) (t : TG) : Prop :=
 ∀ (pins : List (Addr × Obj)) (s : Shared) (σ : St) (H : Hp) (v : V) (u : Value) (Q : St -> Hp -> Prop), Inv X pins σ H s -> RelV v u -> t v σ H Q ->
  wpAny (model X.prog X.w) X.A (assign target X.env u) (fun _ s' => ∃ σ' H', Inv X pins σ' H' s' /\ Q σ' H') X.xe s
def PGs (X : Cx) (ts : List Expr) (t : TGs) : Prop :=
 ∀ (pins : List (Addr × Obj)) (s : Shared) (σ : St) (H : Hp) (vs : List V) (us : List Value) (Q : St -> Hp -> Prop), Inv X pins σ H s -> Vals vs us -> t vs σ H Q ->
  wpAny (model X.prog X.w) X.A (assignInOrder ((assignEach ts X.env).map (·.2)) us) (fun _ s' => ∃ σ' H', Inv X pins σ' H' s' /\ Q σ' H') X.xe s
abbrev TSet := V -> V -> V -> Hp -> (Hp -> Prop) -> Prop
def bq (X : Cx) (t : TSet) : Prop :=
 ∀ (pins : List (Addr × Obj)) (s : Shared) (σ : St) (H : Hp) (o i v : V) (ov iv u : Value) (Q : Hp -> Prop), Inv X pins σ H s -> RelV o ov -> RelV i iv -> RelV v u -> t o i v H Q ->
  wpAny (model X.prog X.w) X.A (setItem ov iv u) (fun _ s' => ∃ H', Inv X pins σ H' s' /\ Q H') X.xe s
abbrev TIp := V -> V -> Hp -> VK -> Prop
def PIp (X : Cx) (op : Operator) (t : TIp) : Prop :=
 ∀ (pins : List (Addr × Obj)) (s : Shared) (σ : St) (H : Hp) (x y : V) (v u : Value) (Q : VK), Inv X pins σ H s -> RelV x v -> RelV y u -> t x y H Q ->
  wpAny (model X.prog X.w) X.A (inplaceOp op v u) (EP X pins σ Q) X.xe s
section
variable {X : Cx} {pos : Pos}
def Fe (i : Nat) : TG := fun v σ H Q => Q (σ.set i (some v)) H
theorem Ah {i : Nat} {x : Str} (hN : X.N.Nodup) (hi : X.N[i]? = some x) (hx : Loc X.env.scope x) (hf : X.fn x = true \/ X.env.scope.names.lookup x = some .local := by first | exact .inl rfl | exact .inr rfl | assumption) : PG X (.Name x pos) (Fe i) := by
 intro pins s σ H v u Q I r h
 exact wpAny_assign_Name (Js I hN hi hx r (fun s' I' => ⟨_, H, I', h⟩) hf)
def gNil : TGs := fun vs σ H Q => vs = [] /\ Q σ H
def J9 (t : TG) (u : TGs) : TGs := fun vs σ H Q => ∃ v r, vs = v :: r /\ t v σ H fun σ' H' => u r σ' H' Q
theorem G9 : PGs X [] gNil := by
 intro pins s σ H vs us Q I r h
 obtain ⟨e, h⟩ := h
 subst e
 cases r
 exact assignInOrder_nil ⟨σ, H, I, h⟩
theorem Bt {e : Expr} {es : List Expr} {t : TG} {u : TGs} (h1 : PG X e t) (h2 : PGs X es u)
  (hs : (assignEach (e :: es) X.env).map (·.2) = assign e X.env :: (assignEach es X.env).map (·.2) := by rfl) : PGs X (e :: es) (J9 t u) := by
 intro pins s σ H vs us Q I r h
 obtain ⟨v, vr, e1, h⟩ := h
 subst e1
 cases r with
 | cons r rr =>
  rw [hs]
  refine assignInOrder_cons (thn (h1 pins s σ H _ _ _ I r h) fun _ s1 ⟨σ1, H1, I1, q1⟩ => ?_)
  exact h2 pins s1 σ1 H1 _ _ Q I1 rr q1
def Zz (K : Zzu) (n : Nat) (t : TGs) : TG := fun v σ H Q => ∃ a xs, v = .ref a /\ SqT K H a xs /\ xs.length = n /\ t xs σ H Q
theorem Id {es : List Expr} {k : Nat} {t : TGs} {n : Nat} (hc : X.calm = true) (h : PGs X es t)
  (hn : (assignEach es X.env).length = n := by rfl) (hst : (assignEach es X.env).findIdx? (·.1) = none := by rfl) : PG X (.Tuple es k pos) (Zz X.K n t) := by
 intro pins s σ H v u Q I r hw
 obtain ⟨a, xs, e1, hq, hl, hw⟩ := hw
 subst e1
 cases r
 obtain ⟨its, rv, ht, hz⟩ := I.tuple hq
 refine assign_Tuple_tuple (I.ok.hd hc) ht (by simp [hn, <- hl, rv.length]) hst fun h' hx => ?_
 have I1 : Inv X pins σ H { s with heap := h' } := I.kept (t' := s.toks) fun b o e => hx b o (Zz0 (Zzj e)) e
 exact h pins _ σ H xs _ Q I1 (by simpa using rv) hw
def qh (to ti : TE) (t : TSet) : TG := fun v σ H Q => to σ H fun o H1 => ti σ H1 fun i H2 => t o i v H2 fun H3 => Q σ H3
theorem Gd {o i : Expr} {to ti : TE} {t : TSet} (ho : PE X o to) (hi : PE X i ti) (hs : bq X t)
  (ha : ∀ v, assign (.Subscript o i pos) X.env v = (do
   let ov <- holding [v] (eval o X.env)
   let iv <- holding [v, ov] (eval i X.env)
   standAt pos
   holding [v, ov, iv] (setItem ov iv v)
   release [v, ov, iv] []) := by intro _; rfl) : PG X (.Subscript o i pos) (qh to ti t) := by
 intro pins s σ H v u Q I r h
 rw [ha]
 refine wpAny_bind (wpAny_holding (thn (ho pins s σ H _ I h) fun ov s1 ⟨x, H1, I1, r1, q1⟩ => ?_))
 refine wpAny_bind (wpAny_holding (thn (hi pins s1 σ H1 _ I1 q1) fun iv s2 ⟨y, H2, I2, r2, q2⟩ => ?_))
 refine wpAny_bind (wpAny_standAt (wpAny_bind (wpAny_holding (thn (hs pins s2 σ H2 x y v ov iv u _ I2 r1 r2 r q2) fun _ s3 ⟨H3, I3, q3⟩ => ?_))))
 exact wpAny_release ⟨σ, H3, I3, q3⟩
def cz (te : TE) (g : TG) : TS := fun D σ H => te σ H fun x H1 => g x σ H1 D.nx
theorem Gc {tg e : Expr} {te : TE} {g : TG} (he : PE X e te) (hg : PG X tg g) (hs : swapsWithSole [tg] e pos.line X.env = pure false := by rfl) (hw : swappedStores [tg] e X.env = pure none := by rfl)
  (h1 : (assignEach [tg] X.env).map (·.2) = [assign tg X.env] := by rfl) : PS X (.Assign [tg] e pos) (cz te g) := by
 intro pins s σ H D I h
 refine wpAny_Assign_stores (thn (he pins s σ H _ I h) fun v s1 ⟨x, H1, I1, r1, q1⟩ => ?_) hs hw
 rw [h1]
 exact thn (hg pins s1 σ H1 x v _ I1 r1 q1) fun _ s2 q => q
theorem Ac {i : Nat} {x : Str} {e : Expr} {te : TE} {pos' : Pos} (hN : X.N.Nodup) (hi : X.N[i]? = some x) (hx : Loc X.env.scope x) (he : PE X e te) (hs : swapsWith e (some (.Name x pos')) pos.line X.env = pure false := by rfl) (hf : X.fn x = true \/ X.env.scope.names.lookup x = some .local := by first | exact .inl rfl | exact .inr rfl | assumption) :
  PS X (.Assign [.Name x pos'] e pos) (cz te (Fe i)) := by
 intro pins s σ H D I h
 refine wpAny_Assign_Name (thn (he pins s σ H _ I h) fun v s1 ⟨y, H1, I1, r1, q1⟩ => ?_) hs
 exact Js I1 hN hi hx r1 (fun s2 I2 => ⟨_, H1, I2, q1⟩) hf
def oj (i : Nat) (te : TE) (ti : TIp) : TS := fun D σ H => ∃ x, σ[i]? = some (some x) /\ te σ H fun y H1 => ti x y H1 fun z H2 => D.nx (σ.set i (some z)) H2
theorem R9 {i : Nat} {x : Str} {e : Expr} {te : TE} {op : Operator} {ti : TIp} {pos' : Pos} (hN : X.N.Nodup) (hi : X.N[i]? = some x) (hx : Loc X.env.scope x) (he : PE X e te) (ho : PIp X op ti) (hf : X.fn x = true \/ X.env.scope.names.lookup x = some .local := by first | exact .inl rfl | exact .inr rfl | assumption) :
  PS X (.AugAssign (.Name x pos') op e pos) (oj i te ti) := by
 intro pins s σ H D I h
 obtain ⟨v, e1, h⟩ := h
 obtain ⟨m, hn, hl⟩ := I.loc
 have vis : Vis X.env.scope x := by rcases hx with k | k; exact .inl k; exact .inr (.inl k)
 obtain ⟨u, r, l⟩ := hl i x v hi e1 vis
 refine wpAny_AugAssign_Name ?_
 have go : wpAny (model X.prog X.w) X.A (eval e X.env) (fun w s₂ => wpAny (model X.prog X.w) X.A (inplaceOp op u w) (fun r s₃ => wpAny (model X.prog X.w) X.A (storeName X.env x r) (fun _ => SP X pins D .next) X.xe s₃) X.xe s₂) X.xe s := by
  refine thn (he pins s σ H _ I h) fun w s1 ⟨y, H1, I1, r1, q1⟩ => ?_
  refine thn (ho pins s1 σ H1 v y u w _ I1 r r1 q1) fun z s2 ⟨zv, H2, I2, r2, q2⟩ => ?_
  exact Js I2 hN hi hx r2 (fun s3 I3 => ⟨_, H2, I3, q2⟩) hf
 rcases l with ⟨hk, hm⟩ | ⟨hk, c, hc, hcell⟩
 ·exact wpAny_loadName_local I.ok.kind hk hn hm go
 ·rcases hk with hk | hk
  ·exact wpAny_loadName_cell I.ok.kind hk hc hcell go
  ·rcases hx with k | k
   ·have : X.env.scope.names.lookup x = some .free := hk
    rw [k] at this; cases this
   ·have : X.env.scope.names.lookup x = some .free := hk
    rw [k] at this; cases this
def iq (to ti te : TE) (tget : V -> V -> Hp -> VK -> Prop) (tip : TIp) (tset : TSet) : TS := fun D σ H => to σ H fun o H1 => ti σ H1 fun i H2 => tget o i H2 fun x H3 => te σ H3 fun y H4 => tip x y H4 fun z H5 => tset o i z H5 fun H6 => D.nx σ H6
def qz (X : Cx) (t : V -> V -> Hp -> VK -> Prop) : Prop :=
 ∀ (pins : List (Addr × Obj)) (s : Shared) (σ : St) (H : Hp) (o i : V) (ov iv : Value) (Q : VK), Inv X pins σ H s -> RelV o ov -> RelV i iv -> t o i H Q ->
  wpAny (model X.prog X.w) X.A (getItem ov iv) (EP X pins σ Q) X.xe s
theorem Vo {o i e : Expr} {to ti te : TE} {tget : V -> V -> Hp -> VK -> Prop} {tip : TIp} {tset : TSet} {op : Operator} {tpos : Pos} (ho : PE X o to) (hi : PE X i ti) (hg : qz X tget) (he : PE X e te) (hp : PIp X op tip) (hs : bq X tset)
  (ha : ∀ ov iv new, augStore i ov iv new = (do holding [new, ov, iv] (setItem ov iv new); release [new, ov, iv] []; pure .next) := by intros; rfl) : PS X (.AugAssign (.Subscript o i tpos) op e pos) (iq to ti te tget tip tset) := by
 intro pins s σ H D I h
 refine wpAny_AugAssign_SubscriptAny (thn (ho pins s σ H _ I h) fun ov s1 ⟨x1, H1, I1, r1, q1⟩ => ?_) ha
 refine thn (hi pins s1 σ H1 _ I1 q1) fun iv s2 ⟨x2, H2, I2, r2, q2⟩ => ?_
 refine thn (hg pins s2 σ H2 x1 x2 ov iv _ I2 r1 r2 q2) fun old s3 ⟨x3, H3, I3, r3, q3⟩ => ?_
 refine thn (he pins s3 σ H3 _ I3 q3) fun v s4 ⟨x4, H4, I4, r4, q4⟩ => ?_
 refine thn (hp pins s4 σ H4 x3 x4 old v _ I4 r3 r4 q4) fun new s5 ⟨x5, H5, I5, r5, q5⟩ => ?_
 exact thn (hs pins s5 σ H5 x1 x2 x5 ov iv new _ I5 r1 r2 r5 q5) fun _ s6 ⟨H6, I6, q6⟩ => ⟨σ, H6, I6, q6⟩
end
section
variable {X : Cx} {pos : Pos}
def jn (c : TT) (tb : TS) : TS := fun D σ H => ∃ W : Nat -> St -> Hp -> Prop, (∃ m, W m σ H) /\ ∀ m σ H, W m σ H ->
 c σ H fun b H1 => if b = true then ∃ N : St -> Hp -> Prop, (∀ σ' H', N σ' H' -> ∃ m', m' < m /\ W m' σ' H') /\ tb { D with nx := N, ct := N, bk := D.nx } σ H1 else D.nx σ H1
theorem Ic {c : Expr} {body : List Stmt} {tc : TT} {tb : TS} (hp : PassesOwn (model X.prog X.w) X.A X.env X.xe) (hc : PT X c tc) (hb : PSs X body tb) : PS X (.While c body [] pos) (jn tc tb) := by
 intro pins s σ H D I h
 obtain ⟨W, ⟨m0, w0⟩, turn⟩ := h
 refine wpAny_While (codeAny_whileLoop (fun n s' => ∃ σ' H', Inv X pins σ' H' s' /\ W n σ' H') ?_ m0 ⟨σ, H, I, w0⟩)
 rintro n s1 ⟨σ1, H1, I1, w1⟩
 refine wpAny_passesOwn hp (thn (hc pins s1 σ1 H1 _ I1 (turn n σ1 H1 w1)) fun b s2 ⟨H2, I2, q2⟩ => ?_)
 cases b with
 | true =>
  obtain ⟨N, hN, q2⟩ := q2
  rw [if_pos rfl]
  refine wpAny_passesOwn hp (thn (hb pins s2 σ1 H2 _ I2 q2) fun f s3 q3 => ?_)
  cases f with
  | next =>
   obtain ⟨σ3, H3, I3, n3⟩ := q3
   obtain ⟨m', hm, w3⟩ := hN σ3 H3 n3
   exact ⟨m', hm, σ3, H3, I3, w3⟩
  | cont =>
   obtain ⟨σ3, H3, I3, n3⟩ := q3
   obtain ⟨m', hm, w3⟩ := hN σ3 H3 n3
   exact ⟨m', hm, σ3, H3, I3, w3⟩
  | brk => exact q3
  | ret v => exact q3
 | false =>
  rw [if_neg Zz2]
  exact wpAny_execs_nil ⟨σ1, H2, I2, q2⟩
end
structure It where
 go : Nat -> Hp -> Prop
 yld : Nat -> Hp -> V -> Hp -> Prop
 stop : Nat -> Hp -> Prop
def Ho (X : Cx) (pins : List (Addr × Obj)) (H : Hp) (b : Addr) : Prop :=
 H b = none /\ b ≠ X.env.locals /\ b ∉ X.fs /\ (b ∈ X.ex \/ X.s₀.heap.objs.size <= b) /\ (∀ x c, X.env.cells.lookup x = some c -> c ≠ b) /\ ∀ p ∈ X.pn ++ pins, p.1 ≠ b
theorem Inv.fpOk {X : Cx} {pins : List (Addr × Obj)} {σ : St} {H H' : Hp} {s : Shared} {b : Addr} (I : Inv X pins σ H s) (hb : s.heap.objs.size <= b) (hn : H' b = none) : Ho X pins H' b := by
 refine ⟨hn, Zxx (Zz9 I.lt hb), I.nofs hb, .inr (Zz5 I.sz hb), fun x c e z => ?_, fun p hp z => ?_⟩
 ·obtain ⟨v, q⟩ := I.cell x c e
  exact absurd (Zz9 q.lt (by rw [z]; exact hb)) (Zxg _)
 ·exact absurd (Zz9 (Zzj (I.pin p hp).1) (by rw [z]; exact hb)) (Zxg _)
structure Lg (P : Program) (w : World) (K : Zzu) (tg : Expr) (J : It) (fp : List Addr) (it : Addr) (tn : Nat -> Heap -> Prop) : Prop where
 mem : it ∈ fp
 obj : ∀ i h, tn i h -> ∀ b ∈ fp, ∃ o, h.get? b = some o /\ ∀ v, o.data ≠ .cell v
 keep : ∀ i h h', tn i h -> (∀ b ∈ fp, ∀ o, h.get? b = some o -> h'.get? b = some o) -> tn i h'
 item : ∀ (X : Cx), X.prog = P -> X.w = w -> X.K = K -> X.calm = true -> ∀ (i : Nat) (pins : List (Addr × Obj)) (s : Shared) (σ : St) (H : Hp) (E : Value -> Shared -> Prop), Inv X pins σ H s -> (∀ b ∈ fp, Ho X pins H b) -> tn i s.heap -> J.go i H ->
  wpAny (model P w) X.A (pyNext (.ref it)) (fun r s1 => ∃ u, r = some u /\
   wpAny (model P w) X.A (letOwnedTupleGo tg (.ref it) u) (fun _ s2 => ∃ x H', Inv X pins σ H' s2 /\ RelV x u /\ J.yld i H x H' /\ tn (i + 1) s2.heap /\ ∀ b ∈ fp, H' b = none) E s1) E s
 done : ∀ (X : Cx), X.prog = P -> X.w = w -> X.K = K -> X.calm = true -> ∀ (i : Nat) (pins : List (Addr × Obj)) (s : Shared) (σ : St) (H : Hp) (E : Value -> Shared -> Prop), Inv X pins σ H s -> (∀ b ∈ fp, Ho X pins H b) -> tn i s.heap -> J.stop i H ->
  wpAny (model P w) X.A (pyNext (.ref it)) (fun r s1 => r = none /\ Inv X pins σ H s1) E s
 self : ∀ (A : Around) (i : Nat) (s : Shared) (Q : Value -> Shared -> Prop) (E : Value -> Shared -> Prop), tn i s.heap -> Q (.ref it) s -> wpAny (model P w) A (pyIter (.ref it)) Q E s
abbrev TI := St -> Hp -> (It -> Hp -> Prop) -> Prop
def PIE (X : Cx) (pins : List (Addr × Obj)) (σ : St) (tg : Expr) (R : It -> Hp -> Prop) (itv : Value) (s2 : Shared) : Prop :=
 ∃ (it : Addr) (fp : List Addr) (tn : Nat -> Heap -> Prop) (J : It) (H' : Hp), itv = .ref it /\ Inv X pins σ H' s2 /\ Lg X.prog X.w X.K tg J fp it tn /\ tn 0 s2.heap /\ (∀ b ∈ fp, Ho X pins H' b) /\ R J H'
def PI (X : Cx) (tg iter : Expr) (wi : TI) : Prop :=
 ∀ (pins : List (Addr × Obj)) (s : Shared) (σ : St) (H : Hp) (R : It -> Hp -> Prop), Inv X pins σ H s -> wi σ H R ->
  wpAny (model X.prog X.w) X.A (eval iter X.env) (fun v s1 => wpAny (model X.prog X.w) X.A (pyIter v) (PIE X pins σ tg R) X.xe s1) X.xe s
theorem Qm {M : Model} {A : Around} {E : Value -> Shared -> Prop} {s : Shared} {tg : Expr} {it : Addr} {u : Value} {o : Obj} {n : String} {vs : Array Value} {Q : Unit -> Shared -> Prop} (ho : s.heap.get? it = some o) (hc : o.cls = .type n) (hd : o.data = .fields vs)
  (hn : ["enumerate", "zip", "dict_itemiterator", "dict_reverseitemiterator", "odict_iterator", "itertools.zip_longest", "itertools.pairwise"].contains n = false) (hQ : Q () s) : wpAny M A (letOwnedTupleGo tg (.ref it) u) Q E s := by
 unfold letOwnedTupleGo
 cases tg <;> first
  | exact wpAny_pure hQ
  | (cases u <;> first
    | exact wpAny_pure hQ
    | (refine wpAny_bind (wpAny_load ho ?_)
       rw [hc, hd]
       show wpAny M A (if (["enumerate", "zip", "dict_itemiterator", "dict_reverseitemiterator", "odict_iterator", "itertools.zip_longest", "itertools.pairwise"].contains n && vs[0]? == some (rawInt _)) = true then _ else _) Q E s
       rw [if_neg (by intro h; rw [hn, Bool.false_and] at h; cases h)]
       exact wpAny_pure hQ))
def Itl (K : Zzu) (a : Addr) : It :=
 ⟨fun i H => ∃ xs x, SqL K H a xs /\ xs[i]? = some x, fun i H x H' => H' = H /\ ∀ xs, SqL K H a xs -> xs[i]? = some x, fun i H => ∃ xs, SqL K H a xs /\ xs.length <= i⟩
def Itt (K : Zzu) (a : Addr) : It :=
 ⟨fun i H => ∃ xs x, SqT K H a xs /\ xs[i]? = some x, fun i H x H' => H' = H /\ ∀ xs, SqT K H a xs -> xs[i]? = some x, fun i H => ∃ xs, SqT K H a xs /\ xs.length <= i⟩
def Itr (lo : Int) (n : Nat) : It := ⟨fun i _ => i < n, fun i H x H' => H' = H /\ x = .int (lo + i), fun i _ => n <= i⟩
theorem Fo {P : Program} {w : World} {K : Zzu} {tg : Expr} (a it : Addr) : Lg P w K tg (Itl K a) [it] it (fun i h => h.IsListIter it a i) where
 mem := by simp
 obj := fun i h st b hb => by
  have e : b = it := by simpa using hb
  subst e
  obtain ⟨o, e, c, d⟩ := st
  exact ⟨o, e, fun v z => by rw [d] at z; cases z⟩
 keep := fun i h h' st k => st.at fun o e => k it (by simp) o e
 item := by
  intro X hP hw hK hc i pins s σ H E I hf st hg
  subst hP hw hK
  obtain ⟨xs, x, hq, hx⟩ := hg
  obtain ⟨its, rv, p, hz⟩ := I.list hq
  obtain ⟨u, hu, ru⟩ := rv.get hx
  obtain ⟨f0, f1, f2, f3, f4, f5⟩ := hf it (by simp)
  refine wpAny_pyNext_list_item st p.isList (x := u) (by simpa using hu) fun h' st' sb => ?_
  have I1 : Inv X pins σ H { s with heap := h' } := I.turned (t' := s.toks) (fun b o hb e => (sb.2 b hb).trans e) f0 f1 f3 f4 f5
  obtain ⟨o, e, c, d⟩ := id st'
  exact ⟨u, rfl, Qm (s := { s with heap := h' }) e c d (by decide) ⟨x, H, I1, ru, ⟨rfl, fun ys hy => by rw [I.list_inj hy hq]; exact hx⟩, st', fun b hb => (hf b hb).1⟩⟩
 done := by
  intro X hP hw hK hc i pins s σ H E I hf st hg
  subst hP hw hK
  obtain ⟨xs, hq, hx⟩ := hg
  obtain ⟨its, rv, p, hz⟩ := I.list hq
  obtain ⟨f0, f1, f2, f3, f4, f5⟩ := hf it (by simp)
  have hl := rv.length
  exact wpAny_pyNext_list_end (I.ok.hd hc) st p.isList (by simp; omega) fun h' eb => ⟨rfl, I.turned (t' := s.toks) (fun b o hb e => eb b o hb e) f0 f1 f3 f4 f5⟩
 self := fun _ _ _ _ _ st h => wpAny_pyIter_listiter st h
theorem Eb {P : Program} {w : World} {K : Zzu} {tg : Expr} (a it : Addr) : Lg P w K tg (Itt K a) [it] it (fun i h => h.IsTupleIter it a i) where
 mem := by simp
 obj := fun i h st b hb => by
  have e : b = it := by simpa using hb
  subst e
  obtain ⟨o, e, c, d⟩ := st
  exact ⟨o, e, fun v z => by rw [d] at z; cases z⟩
 keep := fun i h h' st k => st.at fun o e => k it (by simp) o e
 item := by
  intro X hP hw hK hc i pins s σ H E I hf st hg
  subst hP hw hK
  obtain ⟨xs, x, hq, hx⟩ := hg
  obtain ⟨its, rv, p, hz⟩ := I.tuple hq
  obtain ⟨u, hu, ru⟩ := rv.get hx
  obtain ⟨f0, f1, f2, f3, f4, f5⟩ := hf it (by simp)
  refine wpAny_pyNext_tuple_item st (show s.heap.IsTuple a its.toArray from p) (x := u) (by simpa using hu) fun h' st' sb => ?_
  have I1 : Inv X pins σ H { s with heap := h' } := I.turned (t' := s.toks) (fun b o hb e => (sb.2 b hb).trans e) f0 f1 f3 f4 f5
  obtain ⟨o, e, c, d⟩ := id st'
  exact ⟨u, rfl, Qm (s := { s with heap := h' }) e c d (by decide) ⟨x, H, I1, ru, ⟨rfl, fun ys hy => by rw [I.tuple_inj hy hq]; exact hx⟩, st', fun b hb => (hf b hb).1⟩⟩
 done := by
  intro X hP hw hK hc i pins s σ H E I hf st hg
  subst hP hw hK
  obtain ⟨xs, hq, hx⟩ := hg
  obtain ⟨its, rv, p, hz⟩ := I.tuple hq
  obtain ⟨f0, f1, f2, f3, f4, f5⟩ := hf it (by simp)
  have hl := rv.length
  exact wpAny_pyNext_tuple_end (I.ok.hd hc) st (show s.heap.IsTuple a its.toArray from p) (by simp; omega) fun h' eb => ⟨rfl, I.turned (t' := s.toks) (fun b o hb e => eb b o hb e) f0 f1 f3 f4 f5⟩
 self := fun _ _ _ _ _ st h => wpAny_pyIter_tupleiter st h
theorem Uh {P : Program} {w : World} {K : Zzu} {tg : Expr} (it : Addr) (lo : Int) (n : Nat) : Lg P w K tg (Itr lo n) [it] it (fun i h => IsRangeIter h it (lo + (i : Nat) * 1) ((n : Int) - (i : Nat)) 1) where
 mem := by simp
 obj := fun i h st b hb => by
  have e : b = it := by simpa using hb
  subst e
  exact ⟨_, st, fun v z => by
   have z' : Data.fields _ = Data.cell v := z
   cases z'⟩
 keep := fun i h h' st k => k it (by simp) _ st
 item := by
  intro X hP hw hK hc i pins s σ H E I hf st hg
  subst hP hw hK
  obtain ⟨f0, f1, f2, f3, f4, f5⟩ := hf it (by simp)
  have W := Walks.range (prog := X.prog) (w := X.w) (I.ok.hd hc) it lo 1 n
  refine W.item i s _ _ hg st fun v h' tk hv st' kk => ?_
  obtain ⟨t, rfl⟩ := hv
  have I1 : Inv X pins σ H { s with heap := h', toks := tk } := I.turned (fun b o hb e => kk b o (by simpa using hb) e) f0 f1 f3 f4 f5
  refine ⟨_, rfl, Qm (s := { s with heap := h', toks := tk }) (n := "range_iterator") st' rfl rfl (by decide) ⟨.int (lo + i), H, I1, ⟨t, ?_⟩, ⟨rfl, rfl⟩, st', fun b hb => (hf b hb).1⟩⟩
  rw [Int.mul_one]
 done := by
  intro X hP hw hK hc i pins s σ H E I hf st hg
  subst hP hw hK
  obtain ⟨f0, f1, f2, f3, f4, f5⟩ := hf it (by simp)
  exact wpAny_pyNext_range_end (I.ok.hd hc) st (by have : n <= i := hg; omega) fun h' eb => ⟨rfl, I.turned (t' := s.toks) (fun b o hb e => eb b o hb e) f0 f1 f3 f4 f5⟩
 self := fun _ _ _ _ _ st h => wpAny_pyIter_rangeiter st h
section
variable {X : Cx} {tg : Expr}
theorem T5 {pins : List (Addr × Obj)} {σ : St} {H : Hp} {s : Shared} {R : It -> Hp -> Prop} {E : Value -> Shared -> Prop} {lo hi : Int} {t u v : Tok} {tk : Nat} (I : Inv X pins σ H s) (h1 : -(2 ^ 62) <= lo) (h2 : lo < 2 ^ 62) (h3 : -(2 ^ 62) <= hi) (h4 : hi < 2 ^ 62)
  (q : R (Itr lo (hi - lo).toNat) H) : wpAny (model X.prog X.w) X.A (pyIter (.ref s.heap.objs.size)) (PIE X pins σ tg R) E { s with heap := s.heap.push { cls := .type "range", data := .fields #[.int lo t, .int hi u, .int 1 v] }, toks := tk } := by
 refine wpAny_pyIter_range (IsRange.new ..) (small_one h1 h2 h3 h4) ?_
 have I1 : Inv X pins σ H { s with heap := s.heap.push { cls := .type "range", data := .fields #[.int lo t, .int hi u, .int 1 v] }, toks := tk } := I.kept fun b o e => Zzy _ e
 refine ⟨(s.heap.push { cls := .type "range", data := .fields #[.int lo t, .int hi u, .int 1 v] }).objs.size, [(s.heap.push { cls := .type "range", data := .fields #[.int lo t, .int hi u, .int 1 v] }).objs.size], _, _, H, rfl,
  I1.kept (t' := tk) fun b o e => Zzy _ e, Uh _ lo (hi - lo).toNat, ?_, fun b hb => ?_, q⟩
 ·have e1 : lo + ((0 : Nat) : Int) * 1 = lo := by simp
  have e2 : (((hi - lo).toNat : Nat) : Int) - ((0 : Nat) : Int) = Builtin.Range.rangeSize lo hi 1 := by rw [rangeSize_one]; split <;> omega
  show IsRangeIter _ _ (lo + ((0 : Nat) : Int) * 1) ((((hi - lo).toNat : Nat) : Int) - ((0 : Nat) : Int)) 1
  rw [e1, e2]
  exact Zzf _ rfl
 ·have e : b = (s.heap.push { cls := .type "range", data := .fields #[.int lo t, .int hi u, .int 1 v] }).objs.size := by simpa using hb
  subst e
  exact I1.fpOk (Zzt _) (I1.hok.fresh (Zzt _))
def Zu (ta : TA) : TI := fun σ H R => ta σ H fun vs H1 => ∃ j : Int, vs = [.int j] /\ -(2 ^ 62) <= j /\ j < 2 ^ 62 /\ R (Itr 0 j.toNat) H1
def Zt (ta : TA) : TI := fun σ H R => ta σ H fun vs H1 => ∃ i j : Int, vs = [.int i, .int j] /\ (-(2 ^ 62) <= i /\ i < 2 ^ 62 /\ -(2 ^ 62) <= j /\ j < 2 ^ 62) /\ R (Itr i (j - i).toNat) H1
theorem X1 {a : Expr} {ta : TA} {p pos : Pos} (hg : Gl X "range") (hm : X.mg "range" = none) (ha : PA X [a] ta) (hs : starEach [a] X.env = [(false, eval a X.env)] := by rfl) : PI X tg (.Call (.Name "range" p) [a] [] pos) (Zu ta) := by
 intro pins s σ H R I h
 refine Call_ (E9 I hg hm boot_range (Zyn (thn (ha pos pins s σ H _ I h) fun us s1 ⟨vs, H1, I1, r1, q1⟩ => ?_) hs rfl))
 obtain ⟨j, e, q1, q2, q⟩ := q1
 subst e
 cases r1 with
 | cons r rr =>
  cases rr
  obtain ⟨t, rfl⟩ := r
  exact call_range_1 (T5 I1 (by omega) (by omega) q1 q2 (by simpa using q))
theorem X0 {a b : Expr} {ta : TA} {p pos : Pos} (hg : Gl X "range") (hm : X.mg "range" = none) (ha : PA X [a, b] ta) (hs : starEach [a, b] X.env = [(false, eval a X.env), (false, eval b X.env)] := by rfl) (hs2 : starEach [b] X.env = [(false, eval b X.env)] := by rfl) :
  PI X tg (.Call (.Name "range" p) [a, b] [] pos) (Zt ta) := by
 intro pins s σ H R I h
 refine Call_ (E9 I hg hm boot_range (Zyn (thn (ha pos pins s σ H _ I h) fun us s1 ⟨vs, H1, I1, r1, q1⟩ => ?_) (by rw [hs, hs2]) (by rw [hs2]; rfl)))
 obtain ⟨i, j, e, ⟨q1, q2, q3, q4⟩, q⟩ := q1
 subst e
 cases r1 with
 | cons r rr =>
  cases rr with
  | cons r' rr =>
   cases rr
   obtain ⟨t, rfl⟩ := r
   obtain ⟨t', rfl⟩ := r'
   exact call_range_2 (T5 I1 q1 q2 q3 q4 q)
def oh (wi : TI) (g : TG) (tb : TS) : TS := fun D σ H => wi σ H fun J H1 => ∃ W : Nat -> Nat -> St -> Hp -> Prop, (∃ m, W 0 m σ H1) /\ ∀ i m σ H, W i m σ H ->
 (J.stop i H /\ D.nx σ H) \/ (J.go i H /\ ∃ N : St -> Hp -> Prop, (∀ σ' H', N σ' H' -> ∃ m', m' < m /\ W (i + 1) m' σ' H') /\ ∀ x H', J.yld i H x H' -> g x σ H' fun σ2 H2 => tb { D with nx := N, ct := N, bk := D.nx } σ2 H2)
def Kz (fp : List Addr) (h : Heap) : List (Addr × Obj) := fp.filterMap fun b => (h.get? b).map fun o => (b, o)
theorem Hg {fp : List Addr} {h : Heap} {b : Addr} {o : Obj} (hb : b ∈ fp) (e : h.get? b = some o) : (b, o) ∈ Kz fp h := Zxr.mpr ⟨b, hb, by rw [e]; rfl⟩
theorem Xa {fp : List Addr} {h : Heap} {p : Addr × Obj} (hp : p ∈ Kz fp h) : p.1 ∈ fp /\ h.get? p.1 = some p.2 := by
 obtain ⟨b, hb, e⟩ := Zxr.mp hp
 cases q : h.get? b with
 | none => rw [q] at e; cases e
 | some o =>
  rw [q] at e
  have e' : (b, o) = p := Zzc e
  subst e'
  exact ⟨hb, q⟩
theorem Inv.pinned {pins : List (Addr × Obj)} {σ : St} {H : Hp} {s : Shared} {fp : List Addr} (I : Inv X pins σ H s) (hf : ∀ b ∈ fp, Ho X pins H b) (ho : ∀ b ∈ fp, ∃ o, s.heap.get? b = some o /\ ∀ v, o.data ≠ .cell v) : Inv X (pins ++ Kz fp s.heap) σ H s :=
 I.pins_of fun p hp => (Zz4.mp hp).elim (fun z => I.pin p (Zz1 _ z)) fun z => by
  obtain ⟨hb, e⟩ := Xa z
  obtain ⟨f0, f1, f2, _⟩ := hf p.1 hb
  obtain ⟨o, e', d⟩ := ho p.1 hb
  rw [e] at e'; cases e'
  exact ⟨e, f0, f1, f2, d⟩
theorem Inv.unpinned {pins pl : List (Addr × Obj)} {σ : St} {H : Hp} {s : Shared} (I : Inv X (pins ++ pl) σ H s) : Inv X pins σ H s := I.pins_of fun p hp => I.pin p (Zz1 _ (Zy7 _ hp))
theorem Bl {iter : Expr} {body : List Stmt} {wi : TI} {g : TG} {tb : TS} {pos : Pos} (hp : PassesOwn (model X.prog X.w) X.A X.env X.xe) (hc : X.calm = true) (hi : PI X tg iter wi) (hg : PG X tg g) (hb : PSs X body tb)
  (hs : ∀ x, foldedSetIterable iter X.env x = pure x := by intro _; rfl) : PS X (.For tg iter body [] pos) (oh wi g tb) := by
 intro pins s σ H D I h
 refine wpAny_For (thn (hi pins s σ H _ I h) fun v s1 h1 => thn h1 fun itv s2 h2 => ?_) hs
 obtain ⟨it, fp, tn, J, H2, e, I2, T, st2, f2, W, ⟨m0, w0⟩, turn⟩ := h2
 subst e
 have stat : ∀ {H' : Hp}, (∀ b ∈ fp, H' b = none) -> ∀ b ∈ fp, Ho X pins H' b := fun hn b hb => ⟨hn b hb, (f2 b hb).2⟩
 refine codeAny_forLoop_any (fun n s' => ∃ i σ' H', Inv X pins σ' H' s' /\ tn i s'.heap /\ (∀ b ∈ fp, H' b = none) /\ W i n σ' H') ?_ m0 ⟨0, σ, H2, I2, st2, fun b hb => (f2 b hb).1, w0⟩
 rintro n s3 ⟨i, σ3, H3, I3, st3, fr3, w3⟩
 rcases turn i n σ3 H3 w3 with ⟨stop, qn⟩ | ⟨go, N, hN, step⟩
 ·refine wpAny_passesOwn hp (thn (T.done X rfl rfl rfl hc i pins s3 σ3 H3 X.xe I3 (stat fr3) st3 stop) fun r s4 ⟨hr, I4⟩ => ?_)
  subst hr
  exact wpAny_execs_nil ⟨σ3, H3, I4, qn⟩
 ·refine wpAny_passesOwn hp (thn (T.item X rfl rfl rfl hc i pins s3 σ3 H3 X.xe I3 (stat fr3) st3 go) fun r s4 ⟨u, hr, h4⟩ => ?_)
  subst hr
  refine wpAny_passesOwn hp (thn h4 fun _ s5 ⟨x, H5, I5, r5, y5, st5, fr5⟩ => ?_)
  have I5' := I5.pinned (stat fr5) (T.obj _ _ st5)
  refine wpAny_passesOwn hp (thn (hg _ s5 σ3 H5 x u _ I5' r5 (step x H5 y5)) fun _ s6 ⟨σ6, H6, I6, q6⟩ => ?_)
  refine wpAny_passesOwn hp (thn (hb _ s6 σ6 H6 _ I6 q6) fun f s7 q7 => ?_)
  have again : ∀ {σ7 : St} {H7 : Hp}, Inv X (pins ++ Kz fp s5.heap) σ7 H7 s7 -> N σ7 H7 -> ∃ m, m < n /\ ∃ i σ' H', Inv X pins σ' H' s7 /\ tn i s7.heap /\ (∀ b ∈ fp, H' b = none) /\ W i m σ' H' := fun {σ7 H7} I7 n7 => by
   obtain ⟨m', hm, w7⟩ := hN σ7 H7 n7
   refine ⟨m', hm, i + 1, σ7, H7, I7.unpinned, T.keep _ _ _ st5 fun b hb o e => (I7.pin (b, o) (Zz1 _ (Zz1 _ (Hg hb e)))).1, fun b hb => ?_, w7⟩
   obtain ⟨o, e, d⟩ := T.obj _ _ st5 b hb
   exact (I7.pin (b, o) (Zz1 _ (Zz1 _ (Hg hb e)))).2.1
  cases f with
  | next => obtain ⟨σ7, H7, I7, n7⟩ := q7; exact again I7 n7
  | cont => obtain ⟨σ7, H7, I7, n7⟩ := q7; exact again I7 n7
  | brk => obtain ⟨σ7, H7, I7, q7⟩ := q7; exact ⟨σ7, H7, I7.unpinned, q7⟩
  | ret v => obtain ⟨x7, σ7, H7, I7, r7, q7⟩ := q7; exact ⟨x7, σ7, H7, I7.unpinned, r7, q7⟩
end
abbrev R2 := V -> V -> Hp -> VK -> Prop
def OpR (X : Cx) (f : Value -> Value -> Sem Value) (r : R2) : Prop :=
 ∀ (pins : List (Addr × Obj)) (s : Shared) (σ : St) (H : Hp) (x y : V) (v u : Value) (Q : VK), Inv X pins σ H s -> RelV x v -> RelV y u -> r x y H Q ->
  wpAny (model X.prog X.w) X.A (f v u) (EP X pins σ Q) X.xe s
def UnR (X : Cx) (f : Value -> Sem Value) (r : V -> Hp -> VK -> Prop) : Prop :=
 ∀ (pins : List (Addr × Obj)) (s : Shared) (σ : St) (H : Hp) (x : V) (v : Value) (Q : VK), Inv X pins σ H s -> RelV x v -> r x H Q ->
  wpAny (model X.prog X.w) X.A (f v) (EP X pins σ Q) X.xe s
def CallR (X : Cx) (f : Value) (r : List V -> Hp -> VK -> Prop) : Prop :=
 ∀ (pins : List (Addr × Obj)) (s : Shared) (σ : St) (H : Hp) (xs : List V) (us : List Value) (Q : VK), Inv X pins σ H s -> Vals xs us -> r xs H Q ->
  wpAny (model X.prog X.w) X.A (call f us) (EP X pins σ Q) X.xe s
def TruR (X : Cx) (r : V -> Hp -> (Bool -> Hp -> Prop) -> Prop) : Prop :=
 ∀ (pins : List (Addr × Obj)) (s : Shared) (σ : St) (H : Hp) (x : V) (v : Value) (Q : Bool -> Hp -> Prop), Inv X pins σ H s -> RelV x v -> r x H Q ->
  wpAny (model X.prog X.w) X.A (truthy v) (TP X pins σ Q) X.xe s
def tOp (r : R2) (ta tb : TE) : TE := fun σ H Q => ta σ H fun x H1 => tb σ H1 fun y H2 => r x y H2 Q
def tUn (r : V -> Hp -> VK -> Prop) (ta : TE) : TE := fun σ H Q => ta σ H fun x H1 => r x H1 Q
def rI (C : Int -> Int -> Prop) (g : Int -> Int -> V) : R2 := fun x y H Q => ∃ i j, x = .int i /\ y = .int j /\ C i j /\ Q (g i j) H
def rI0 (g : Int -> Int -> V) : R2 := fun x y H Q => ∃ i j, x = .int i /\ y = .int j /\ Q (g i j) H
def rU (g : Int -> V) : V -> Hp -> VK -> Prop := fun x H Q => ∃ i, x = .int i /\ Q (g i) H
section
variable {X : Cx} {a b c : Expr} {ta tb tc : TE} {pos : Pos}
theorem mh (ha : PE X a ta) (hb : PE X b tb) {pins : List (Addr × Obj)} {s : Shared} {σ : St} {H : Hp} {R : V -> V -> Hp -> Prop} (I : Inv X pins σ H s)
  (h : ta σ H fun x H1 => tb σ H1 fun y H2 => R x y H2) {Q : Value -> Shared -> Prop} {f : Value -> Value -> Sem Value}
  (hf : ∀ v u s2 x y H2, Inv X pins σ H2 s2 -> RelV x v -> RelV y u -> R x y H2 -> wpAny (model X.prog X.w) X.A (f v u) Q X.xe s2) :
  wpAny (model X.prog X.w) X.A (eval a X.env) (fun v s₁ => wpAny (model X.prog X.w) X.A (eval b X.env) (fun u s₂ => wpAny (model X.prog X.w) X.A (f v u) Q X.xe s₂) X.xe s₁) X.xe s := by
 refine thn (ha pins s σ H _ I h) fun v s1 ⟨x, H1, I1, r1, q1⟩ => ?_
 refine thn (hb pins s1 σ H1 _ I1 q1) fun u s2 ⟨y, H2, I2, r2, q2⟩ => ?_
 exact hf v u s2 x y H2 I2 r1 r2 q2
theorem Am {op : Operator} {r : R2} (ho : OpR X (binaryOp op) r) (ha : PE X a ta) (hb : PE X b tb) : PE X (.BinOp a op b pos) (tOp r ta tb) := by
 intro pins s σ H Q I h
 exact wpAny_BinOp (mh ha hb I h fun v u s2 x y H2 I2 rx ry q => ho pins s2 σ H2 x y v u Q I2 rx ry q)
theorem Vr {op : UnaryOp} {r : V -> Hp -> VK -> Prop} (ho : UnR X (unaryOp op) r) (ha : PE X a ta) : PE X (.UnaryOp op a pos) (tUn r ta) := by
 intro pins s σ H Q I h
 exact UnaryOp_ (thn (ha pins s σ H _ I h) fun v s1 ⟨x, H1, I1, r1, q1⟩ => ho pins s1 σ H1 x v Q I1 r1 q1)
theorem opI {f : Value -> Value -> Sem Value} {C : Int -> Int -> Prop} {g : Int -> Int -> Int}
  (rule : ∀ (i j : Int) (t u : Tok) (s : Shared) (Q : Value -> Shared -> Prop) (E : Value -> Shared -> Prop), C i j -> Q (.int (g i j) s.toks) { s with toks := s.toks + 1 } -> wpAny (model X.prog X.w) X.A (f (.int i t) (.int j u)) Q E s) :
  OpR X f (rI C fun i j => .int (g i j)) := by
 intro pins s σ H x y v u Q I rx ry h
 obtain ⟨i, j, rfl, rfl, hc, q⟩ := h
 obtain ⟨t, rfl⟩ := rx
 obtain ⟨t', rfl⟩ := ry
 exact rule i j t t' s _ _ hc ⟨.int (g i j), H, I.tok _, ⟨_, rfl⟩, q⟩
theorem la {f : Value -> Value -> Sem Value} {g : Int -> Int -> Int}
  (rule : ∀ (i j : Int) (t u : Tok) (s : Shared) (Q : Value -> Shared -> Prop) (E : Value -> Shared -> Prop), Q (.int (g i j) s.toks) { s with toks := s.toks + 1 } -> wpAny (model X.prog X.w) X.A (f (.int i t) (.int j u)) Q E s) :
  OpR X f (rI0 fun i j => .int (g i j)) := by
 intro pins s σ H x y v u Q I rx ry h
 obtain ⟨i, j, rfl, rfl, q⟩ := h
 obtain ⟨t, rfl⟩ := rx
 obtain ⟨t', rfl⟩ := ry
 exact rule i j t t' s _ _ ⟨.int (g i j), H, I.tok _, ⟨_, rfl⟩, q⟩
theorem lc {f : Value -> Value -> Sem Value} {g : Int -> Int -> Bool}
  (rule : ∀ (i j : Int) (t u : Tok) (s : Shared) (Q : Value -> Shared -> Prop) (E : Value -> Shared -> Prop), Q (.bool (g i j)) s -> wpAny (model X.prog X.w) X.A (f (.int i t) (.int j u)) Q E s) :
  OpR X f (rI0 fun i j => .bl (g i j)) := by
 intro pins s σ H x y v u Q I rx ry h
 obtain ⟨i, j, rfl, rfl, q⟩ := h
 obtain ⟨t, rfl⟩ := rx
 obtain ⟨t', rfl⟩ := ry
 exact rule i j t t' s _ _ ⟨.bl (g i j), H, I, rfl, q⟩
def CPow (i j : Int) : Prop := 0 <= j /\ j <= 1000000 /\ i.natAbs < 2 ^ 64
def CMul (i j : Int) : Prop := (-(2 ^ 64) < i /\ i < 2 ^ 64) \/ (-(2 ^ 64) < j /\ j < 2 ^ 64)
theorem CMul.ok {i j : Int} (h : CMul i j) : IntMulOk i j := by
 rcases h with ⟨h1, h2⟩ | ⟨h1, h2⟩
 ·exact .of_left (intBits_le_64 h1 h2)
 ·exact .of_right (intBits_le_64 h1 h2)
theorem Ca : OpR X (binaryOp .Add) (rI0 fun i j => .int (i + j)) := la fun _ _ _ _ _ _ _ q => add_int q
theorem Jg : OpR X (binaryOp .Sub) (rI0 fun i j => .int (i - j)) := la fun _ _ _ _ _ _ _ q => sub_int q
theorem L3 : OpR X (binaryOp .Mod) (rI (fun _ j => 0 < j) fun i j => .int (i % j)) := opI fun i j _ _ _ _ _ hc q => by
 have h1 : (0 : Int) < j := hc
 exact mod_int' (by omega) (by rw [Int.fmod_eq_emod_of_nonneg i (by omega)]; exact q)
theorem Z3 : OpR X (binaryOp .Pow) (rI CPow fun i j => .int (i ^ j.toNat)) := opI fun _ _ _ _ _ _ _ hc q => pow_int_small hc.1 hc.2.1 hc.2.2 q
theorem g7 : OpR X (inplaceOp .Add) (rI0 fun i j => .int (i + j)) := la fun _ _ _ _ _ _ _ q => iadd_int q
theorem unI {f : Value -> Sem Value} {g : Int -> Int}
  (rule : ∀ (i : Int) (t : Tok) (s : Shared) (Q : Value -> Shared -> Prop) (E : Value -> Shared -> Prop), Q (.int (g i) s.toks) { s with toks := s.toks + 1 } -> wpAny (model X.prog X.w) X.A (f (.int i t)) Q E s) :
  UnR X f (rU fun i => .int (g i)) := by
 intro pins s σ H x v Q I rx h
 obtain ⟨i, rfl, q⟩ := h
 obtain ⟨t, rfl⟩ := rx
 exact rule i t s _ _ ⟨.int (g i), H, I.tok _, ⟨_, rfl⟩, q⟩
theorem R4 : UnR X (unaryOp .USub) (rU fun i => .int (-i)) := unI fun _ _ _ _ _ q => neg_int q
end
def jr : V -> V -> Bool
 | .non, .non => true | .non, .int _ => true | .int _, .non => true | .non, .bl _ => true | .bl _, .non => true | .non, .str _ => true | .str _, .non => true
 | .int _, .int _ => true | .bl _, .bl _ => true | .str _, .str _ => true | .byt _, .byt _ => true
 | .int _, .str _ => true | .str _, .int _ => true | .bl _, .str _ => true | .str _, .bl _ => true
 | _, _ => false
def rEq : R2 := fun x y H Q => jr x y = true /\ Q (.bl (decide (x = y))) H
def rNe : R2 := fun x y H Q => jr x y = true /\ Q (.bl (!decide (x = y))) H
theorem gi {i j : Int} : decide (V.int i = V.int j) = (i == j) := by
 rw [Zw4]
 simp
theorem m7 {i j : Bool} : decide (V.bl i = V.bl j) = (i == j) := by
 rw [Zw4]
 simp
theorem gh {i j : Str} : decide (V.str i = V.str j) = (i == j) := by
 rw [Zw4]
 simp
theorem gj {i j : Array UInt8} : decide (V.byt i = V.byt j) = (i.toList == j.toList) := by
 rw [Zw4]
 cases i
 cases j
 simp
section
variable {X : Cx} {a b c : Expr} {ta tb tc : TE} {pos : Pos}
theorem Df {pins : List (Addr × Obj)} {σ : St} {H : Hp} {s : Shared} {Q : VK} {k k' : Bool} (I : Inv X pins σ H s) (q : Q (.bl k) H) (e : k = k') : EP X pins σ Q (.bool k') s := by
 subst e
 exact ⟨.bl k, H, I, rfl, q⟩
theorem py : OpR X (compareOp .Eq) rEq := by
 intro pins s σ H x y v u Q I rx ry h
 obtain ⟨hs, q⟩ := h
 cases x with
 | non =>
  cases rx
  cases y with
  | non => cases ry; exact PySem.EqNone.eq_none_none (Df I q (by simp))
  | bl j => cases ry; exact PySem.EqNone.eq_none_bool (Df I q (by simp))
  | int j => obtain ⟨t', rfl⟩ := ry; exact PySem.EqNone.eq_none_int (Df I q (by simp))
  | str j => obtain ⟨t', rfl⟩ := ry; exact PySem.EqNone.eq_none_str (Df I q (by simp))
  | _ => exact absurd (show false = true from hs) Zz2
 | bl i =>
  cases rx
  cases y with
  | non => cases ry; exact PySem.EqNone.eq_bool_none (Df I q (by simp))
  | bl j => cases ry; exact eq_bool (Df I q m7)
  | str j => obtain ⟨t', rfl⟩ := ry; exact PySem.EqMixed.eq_bool_str (Df I q (by simp))
  | _ => exact absurd (show false = true from hs) Zz2
 | int i =>
  obtain ⟨t, rfl⟩ := rx
  cases y with
  | non => cases ry; exact PySem.EqNone.eq_int_none (Df I q (by simp))
  | int j => obtain ⟨t', rfl⟩ := ry; exact eq_int (Df I q gi)
  | str j => obtain ⟨t', rfl⟩ := ry; exact PySem.EqMixed.eq_int_str (Df I q (by simp))
  | _ => exact absurd (show false = true from hs) Zz2
 | str i =>
  obtain ⟨t, rfl⟩ := rx
  cases y with
  | non => cases ry; exact PySem.EqNone.eq_str_none (Df I q (by simp))
  | bl j => cases ry; exact PySem.EqMixed.eq_str_bool (Df I q (by simp))
  | int j => obtain ⟨t', rfl⟩ := ry; exact PySem.EqMixed.eq_str_int (Df I q (by simp))
  | str j => obtain ⟨t', rfl⟩ := ry; exact eq_str (Df I q gh)
  | _ => exact absurd (show false = true from hs) Zz2
 | byt i =>
  obtain ⟨t, rfl⟩ := rx
  cases y with
  | byt j => obtain ⟨t', rfl⟩ := ry; exact PySem.W.eq_bytes (Df I q gj)
  | _ => exact absurd (show false = true from hs) Zz2
 | _ => cases y <;> exact absurd (show false = true from hs) Zz2
theorem pq : OpR X (compareOp .Lt) (rI0 fun i j => .bl (decide (i < j))) := lc fun _ _ _ _ _ _ _ q => lt_int q
theorem Vu : OpR X (compareOp .Gt) (rI0 fun i j => .bl (decide (j < i))) := lc fun _ _ _ _ _ _ _ q => gt_int q
theorem px : OpR X (compareOp .GtE) (rI0 fun i j => .bl (decide (j <= i))) := lc fun _ _ _ _ _ _ _ q => ge_int q
theorem X3 : OpR X (compareOp .In) (fun x y H Q => ∃ i j, x = .str i /\ y = .str j /\ Q (.bl (!(Zwl j i 0 j.length 1).isEmpty)) H) := by
 intro pins s σ H x y v u Q I rx ry h
 obtain ⟨i, j, rfl, rfl, q⟩ := h
 obtain ⟨t, rfl⟩ := rx
 obtain ⟨t', rfl⟩ := ry
 exact in_str (Df I q rfl)
theorem eh : OpR X (compareOp .IsNot) (fun x y H Q => y = .non /\ Q (.bl (!decide (x = .non))) H) := by
 intro pins s σ H x y v u Q I rx ry h
 obtain ⟨rfl, q⟩ := h
 cases ry
 refine isnot_none_gen (Df I q ?_)
 cases x <;> first
  | (cases rx; rfl)
  | (obtain ⟨t, rfl⟩ := rx; rfl)
theorem OpR.or {f : Value -> Value -> Sem Value} {r r' : R2} (h : OpR X f r) (h' : OpR X f r') : OpR X f (fun x y H Q => r x y H Q \/ r' x y H Q) := by
 intro pins s σ H x y v u Q I rx ry q
 rcases q with q | q
 ·exact h pins s σ H x y v u Q I rx ry q
 ·exact h' pins s σ H x y v u Q I rx ry q
theorem B2 (b : Expr) {op : CmpOp} (h : op ≠ .In := by decide) (h2 : op ≠ .NotIn := by decide) : behindInMarks op b = false := by
 have e1 : (op == CmpOp.In) = false := by cases op <;> first | rfl | exact absurd rfl h
 have e2 : (op == CmpOp.NotIn) = false := by cases op <;> first | rfl | exact absurd rfl h2
 cases b <;> simp [behindInMarks, e1, e2]
theorem M7 {op : CmpOp} {r : R2} (ho : OpR X (compareOp op) r) (ha : PE X a ta) (hb : PE X b tb) (hm : behindInMarks op b = false) : PE X (.Compare a [op] [b] pos) (tOp r ta tb) := by
 intro pins s σ H Q I h
 exact wpAny_Compare1 (mh ha hb I h fun v u s2 x y H2 I2 rx ry q => ho pins s2 σ H2 x y v u Q I2 rx ry q) hm
def ie (t : TE) : TT := fun σ H Q => t σ H fun x H' => ∃ k, x = .bl k /\ Q k H'
theorem Al {op : CmpOp} {r : R2} (ho : OpR X (compareOp op) r) (ha : PE X a ta) (hb : PE X b tb) (hm : behindInMarks op b = false) : PT X (.Compare a [op] [b] pos) (ie (tOp r ta tb)) := by
 intro pins s σ H Q I h
 refine wpAny_isTrue_Compare1 (thn (ha pins s σ H _ I h) fun v s1 ⟨x, H1, I1, r1, q1⟩ => thn (hb pins s1 σ H1 _ I1 q1) fun u s2 ⟨y, H2, I2, r2, q2⟩ =>
  thn (ho pins s2 σ H2 x y v u _ I2 r1 r2 q2) fun c s3 ⟨z, H3, I3, r3, k, e, q3⟩ => ?_) hm
 subst e
 cases r3
 exact wpAny_truthy_bool ⟨H3, I3, q3⟩
def jo (r r' : R2) (ta tb tc : TE) : TE := fun σ H Q => ta σ H fun x H1 => tb σ H1 fun y H2 => r x y H2 fun z H3 => ∃ k, z = .bl k /\
 (if k = true then tc σ H3 fun w' H4 => r' y w' H4 Q else Q (.bl false) H3)
def TruV (K : Zzu) (x : V) (H : Hp) (k : Bool) : Prop :=
 match x with
 | .non => k = false
 | .bl b => k = b
 | .int i => k = (i != 0)
 | .str y => y.length <= sizeLine /\ k = ((y.length : Int) != 0)
 | .byt y => y.size <= sizeLine /\ k = ((y.size : Int) != 0)
 | .ref p => (∃ xs, SqL K H p xs /\ k = !xs.isEmpty) \/ (∃ xs, SqT K H p xs /\ k = !xs.isEmpty) \/ ∃ kvs, H p = some (.dK kvs) /\ k = !kvs.isEmpty
 | _ => False
theorem Uy {κ : Type} {kvs : List (κ × V)} {vs : List (κ × Value)} (r : KV kvs vs) : (!vs.isEmpty) = !kvs.isEmpty := by
 cases r <;> rfl
theorem O0 {xs : List V} {its : List Value} (r : Vals xs its) : (!its.toArray.isEmpty) = !xs.isEmpty := by
 cases r <;> simp
theorem Ij : (sizeLine : Nat) < 2 ^ 63 := by rw [sizeLine_eq]; decide
theorem Yg : TruR X (fun x H Q => ∃ k, TruV X.K x H k /\ Q k H) := by
 intro pins s σ H x v Q I rx h
 obtain ⟨k, e, q⟩ := h
 have hl := Ij
 have hs : sizeLine = 16777216 := sizeLine_eq
 cases x with
 | non =>
  cases rx
  have e' : k = false := e
  subst e'
  exact truthy_none ⟨H, I, q⟩
 | bl b =>
  cases rx
  have e' : k = b := e
  subst e'
  exact wpAny_truthy_bool ⟨H, I, q⟩
 | int i =>
  obtain ⟨t, rfl⟩ := rx
  have e' : k = (i != 0) := e
  subst e'
  exact PySem.P.truthy_int ⟨H, I, q⟩
 | str y =>
  obtain ⟨t, rfl⟩ := rx
  obtain ⟨hy, e'⟩ : y.length <= sizeLine /\ k = ((y.length : Int) != 0) := e
  subst e'
  exact PySem.P.truthy_str (by omega) ⟨H, I.tok _, q⟩
 | byt y =>
  obtain ⟨t, rfl⟩ := rx
  obtain ⟨hy, e'⟩ : y.size <= sizeLine /\ k = ((y.size : Int) != 0) := e
  subst e'
  exact PySem.W.truthy_bytes (by omega) ⟨H, I.tok _, q⟩
 | ref p =>
  cases rx
  have e' : (∃ xs, SqL X.K H p xs /\ k = !xs.isEmpty) \/ (∃ xs, SqT X.K H p xs /\ k = !xs.isEmpty) \/ ∃ kvs, H p = some (.dK kvs) /\ k = !kvs.isEmpty := e
  rcases e' with ⟨xs, hx, e'⟩ | ⟨xs, hx, e'⟩ | ⟨kvs, hx, e'⟩
  ·subst e'
   obtain ⟨its, r, pl, hz⟩ := I.list hx
   have hlen := r.length
   exact wpAny_truthy_list pl.isList (by simp only [Zzp]; omega) ⟨H, I.tok _, by rw [O0 r]; exact q⟩
  ·subst e'
   obtain ⟨its, r, pl, hz⟩ := I.tuple hx
   have hlen := r.length
   exact truthy_tuple pl (by simp only [Zzp]; omega) ⟨H, I.tok _, by rw [O0 r]; exact q⟩
  ·subst e'
   obtain ⟨hz, hS, vs, r, m⟩ : kvs.length <= sizeLine /\ (p == sysModules) = false /\ ∃ vs, KV kvs vs /\ s.heap.DictOf (Bk X.prog X.w) p vs := I.hok p _ hx
   have hlen : kvs.length = vs.length := Paired.length r
   exact wpAny_truthy_dict hS m (by omega) ⟨H, I.tok _, by rw [Uy r]; exact q⟩
 | _ => exact (show False from e).elim
theorem Gh {x : V} {us : List Value} (r : Vals [x] us) : ∃ u, us = [u] /\ RelV x u := by
 cases r with
 | cons r1 r2 => cases r2; exact ⟨_, rfl, r1⟩
theorem Si {x y : V} {us : List Value} (r : Vals [x, y] us) : ∃ u w', us = [u, w'] /\ RelV x u /\ RelV y w' := by
 cases r with
 | cons r1 r2 =>
  cases r2 with
  | cons r3 r4 => cases r4; exact ⟨_, _, rfl, r1, r3⟩
theorem Y3 (hc : X.calm = true) : CallR X (.builtin "max") (fun xs H Q => ∃ i j, xs = [.int i, .int j] /\ Q (.int (if j > i then j else i)) H) := by
 intro pins s σ H xs us Q I r h
 obtain ⟨i, j, rfl, q⟩ := h
 obtain ⟨u, w', rfl, ⟨t, rfl⟩, ⟨t', rfl⟩⟩ := Si r
 refine max_two_ints (I.ok.hd hc) fun h' tk k => ⟨_, H, I.kept k, ?_, q⟩
 by_cases hj : j > i
 ·rw [if_pos hj, if_pos hj]; exact ⟨_, rfl⟩
 ·rw [if_neg hj, if_neg hj]; exact ⟨_, rfl⟩
theorem Y1 (hc : X.calm = true) : CallR X (.builtin "min") (fun xs H Q => ∃ i j, xs = [.int i, .int j] /\ Q (.int (if j < i then j else i)) H) := by
 intro pins s σ H xs us Q I r h
 obtain ⟨i, j, rfl, q⟩ := h
 obtain ⟨u, w', rfl, ⟨t, rfl⟩, ⟨t', rfl⟩⟩ := Si r
 refine min_two_ints (I.ok.hd hc) fun h' tk k => ⟨_, H, I.kept k, ?_, q⟩
 by_cases hj : j < i
 ·rw [if_pos hj, if_pos hj]; exact ⟨_, rfl⟩
 ·rw [if_neg hj, if_neg hj]; exact ⟨_, rfl⟩
theorem Qx : CallR X (.type "int") (fun xs H Q => (∃ i, xs = [.int i] /\ Q (.int i) H) \/ ∃ k, xs = [.bl k] /\ Q (.int (if k then 1 else 0)) H) := by
 intro pins s σ H xs us Q I r h
 rcases h with ⟨i, rfl, q⟩ | ⟨k, rfl, q⟩
 ·obtain ⟨u, rfl, t, rfl⟩ := Gh r
  exact call_int_int ⟨.int i, H, I, ⟨_, rfl⟩, q⟩
 ·obtain ⟨u, rfl, r1⟩ := Gh r
  cases r1
  exact call_int_bool ⟨.int (if k then 1 else 0), H, I.tok _, ⟨_, rfl⟩, q⟩
end
section
variable {prog : Program} {w : World} {A : Around} {E : Value -> Shared -> Prop} {s : Shared} {K : Zzu} {x dx C f : Addr} {mA : Str -> Option Value} {name : Str} {v : Value}
end
theorem RelO.some_of {v : V} {o : Option Value} (r : RelO (some v) o) : ∃ u, o = some u /\ RelV v u := by
 cases o with
 | none => exact (show False from r).elim
 | some u => exact ⟨u, rfl, r⟩
section
variable {P : Program} {w : World} {H H' : Hp} {h h' : Heap} {a C dx : Addr} {fs fs' : List (Str × V)}
end
structure Cls (K : Zzu) (C : Addr) : Prop where
 pg : PySem.W.plainGet K C Str.empty = true
 hd : PySem.W.hasDictIn K C = true
 po : PySem.W.plainOver K C = true
 sa : PySem.W.findIn K (.ref C) "__setattr__" = some (some (.builtin "object.__setattr__"))
theorem Cls.get {K : Zzu} {C : Addr} (c : Cls K C) (f : Str) : PySem.W.plainGet K C f = true := c.pg
def NoAttr (K : Zzu) (C : Addr) (f : Str) : Prop := PySem.W.findIn K (.ref C) f = some none
theorem NoAttr.taker {K : Zzu} {C : Addr} {f : Str} (n : NoAttr K C f) : PySem.W.takerIn K C f = some none := by
 unfold PySem.W.takerIn
 rw [show PySem.W.findIn K (.ref C) f = some none from n]
 rfl
section
variable {X : Cx} {pins : List (Addr × Obj)} {σ : St} {H : Hp} {s : Shared} {a C dx : Addr} {fs : List (Str × V)} {f : Str} {v : V} {A : Around} {E : Value -> Shared -> Prop}
end
section
variable {X : Cx} {o e value : Expr} {f : Str} {pos pos' tpos : Pos} {ta tv : TE}
end
section
variable {X : Cx} {pins : List (Addr × Obj)} {σ : St} {H : Hp} {s : Shared} {A : Around} {E : Value -> Shared -> Prop} {Q : Value -> Shared -> Prop} {c : Value} {b : Bool}
end
structure Room (k : Nat) (A : Around) : Prop where
 hd : A.handled = none
 dp : A.depth + 3 * k + 5 < recursionLimit
 un : A.units + 16 * k + 200 < cLine
theorem Room.mono {j k : Nat} {A : Around} (r : Room k A) (h : j <= k) : Room j A := ⟨r.hd, by have := r.dp; omega, by have := r.un; omega⟩
theorem Room.deeper {k : Nat} {A : Around} (r : Room (k + 1) A) (env : Env) : Room k (A.deeper env) :=
 ⟨r.hd, by have := r.dp; show A.depth + 1 + 3 * k + 5 < _; omega, by have := r.un; show A.units + 3 + 16 * k + 200 < _; omega⟩
theorem Room.in1 {k : Nat} {A : Around} (r : Room (k + 1) A) : Room k A.in1 :=
 ⟨r.hd, by have := r.dp; show A.depth + 3 * k + 5 < _; omega, by have := r.un; show A.units + 1 + 16 * k + 200 < _; omega⟩
theorem Room.depth {k : Nat} {A : Around} (r : Room k A) : A.depth < recursionLimit := by have := r.dp; omega
theorem Room.units {k : Nat} {A : Around} (r : Room k A) : A.units + 64 < cLine := by have := r.un; omega
def tNil : TA := fun _ H Q => Q [] H
def Pu (ta : TE) (tr : TA) : TA := fun σ H Q => ta σ H fun x H1 => tr σ H1 fun xs H2 => Q (x :: xs) H2
section
variable {X : Cx} {e : Expr} {es : List Expr} {te : TE} {t : TA} {pos : Pos}
theorem A1 : PA X [] tNil := fun _ _ _ _ H Q I h => Calls.spliced_nil ⟨[], H, I, .nil, h⟩
theorem e9 (ha : PE X e te) (hr : PA X es t) (hs : starEach (e :: es) X.env = (false, eval e X.env) :: starEach es X.env := by rfl) : PA X (e :: es) (Pu te t) := by
 intro pos pins s σ H Q I h
 rw [hs]
 show wpAny _ _ (spliced ((false, eval e X.env) :: backTo pos (starEach es X.env))) _ _ s
 refine Zvw (thn (ha pins s σ H _ I h) fun u s1 ⟨x, H1, I1, r1, q1⟩ => ?_)
 exact thn (hr pos pins s1 σ H1 _ I1 q1) fun us s2 ⟨xs, H2, I2, r2, q2⟩ => ⟨x :: xs, H2, I2, .cons r1 r2, q2⟩
def ni (t : TA) : TE := fun σ H Q => t σ H fun xs H1 => xs.length <= sizeLine /\ ∀ p, H1 p = none -> Q (.ref p) (upd H1 p (.tup xs))
def ny (t : TA) : TE := fun σ H Q => t σ H fun xs H1 => xs.length <= sizeLine /\ ∀ p, H1 p = none -> Q (.ref p) (upd H1 p (.lst xs))
theorem Br {x1} (h : PA X es t) : PE X (.Tuple es x1 pos) (ni t) := by
 intro pins s σ H Q I hq
 refine wpAny_Tuple_spliced (thn (h pos pins s σ H _ I hq) fun us s1 ⟨xs, H1, I1, r, z, q⟩ => ⟨by rw [<- r.length]; exact z, ?_⟩)
 have hf : H1 s1.heap.objs.size = none := I1.hok.fresh (Zzt _)
 refine ⟨.ref s1.heap.objs.size, upd H1 s1.heap.objs.size (.tup xs), I1.laid (t' := s1.toks) (fun b u e => Zzy _ e) (Zzt _) ?_, rfl, q _ hf⟩
 exact ⟨z, us, r, ⟨_, Zzf _ rfl, rfl, _, rfl⟩⟩
theorem Bm (h : PA X es t) : PE X (.List es pos) (ny t) := by
 intro pins s σ H Q I hq
 refine wpAny_List_spliced (thn (h pos pins s σ H _ I hq) fun us s1 ⟨xs, H1, I1, r, z, q⟩ => ⟨by rw [<- r.length]; exact z, ?_⟩)
 have hf : H1 s1.heap.objs.size = none := I1.hok.fresh (Zzt _)
 refine ⟨.ref s1.heap.objs.size, upd H1 s1.heap.objs.size (.lst xs), I1.laid (t' := s1.toks) (fun b u e => Zzy _ e) (Zzt _) ?_, rfl, q _ hf⟩
 exact ⟨z, us, 0, r, Zzf _ rfl⟩
end
abbrev Sp := List V -> Hp -> VK -> XK -> Prop
abbrev CXT := List Env -> Hp -> Shared -> XK -> Value -> Shared -> Prop
structure Env0 (P : Program) (w : World) (K : Zzu) (mg : Str -> Option Value) (base : Heap) (A : Around) (outer : List Env) (s : Shared) (H : Hp) : Prop where
 frames : A.frames = some outer
 mod : Mod K mg base
 bs : ∀ b o, base.get? b = some o -> s.heap.get? b = some o /\ H b = none
 bsz : base.objs.size <= s.heap.objs.size
 funs : s.heap.FunFrames base outer
 frf : ∀ b ∈ frs outer, H b = none
 hok : HOk P w H s.heap
 bare : AllBare s.gens
def CE (outer : List Env) (P : Program) (w : World) (H : Hp) (s : Shared) (Q : VK) (u : Value) (s' : Shared) : Prop :=
 ∃ v H', s'.os = s.os /\ AllBare s'.gens /\ Un (frs outer) [] H H' s.heap s'.heap /\ HOk P w H' s'.heap /\ RelV v u /\ Q v H'
def CR (CX : CXT) (outer : List Env) (P : Program) (w : World) (H : Hp) (s : Shared) (Q : VK) (E : XK) (r : Result) (s' : Shared) : Prop :=
 match r with
 | .ok (.ret u) => CE outer P w H s Q u s'
 | .ok _ => False
 | .error e => CX outer H s E e s'
structure FnOk (P : Program) (w : World) (K : Zzu) (mg : Str -> Option Value) (base : Heap) (CX : CXT) (k : Nat) (f : Addr) (fd : FuncData) (ps : List Str) (sp : Sp) : Prop where
 len : ∀ vs H Q E, sp vs H Q E -> vs.length = ps.length
 run : ∀ (A : Around) (outer : List Env) (s : Shared) (H : Hp) (args : Args) (us : List Value) (vs : List V) (Q : VK) (E : XK), Room k A -> Env0 P w K mg base A outer s H -> BindsTo s fd args (ps.zip us) -> Vals vs us -> sp vs H Q E ->
  codeAny (model P w) A (.call (.ref f) args) (CR CX outer P w H s Q E) s
theorem FnOk.mono {P : Program} {w : World} {K : Zzu} {mg : Str -> Option Value} {base : Heap} {CX : CXT} {j k : Nat} {f : Addr} {fd : FuncData} {ps : List Str} {sp : Sp} (F : FnOk P w K mg base CX j f fd ps sp) (h : j <= k) :
  FnOk P w K mg base CX k f fd ps sp := ⟨F.len, fun A outer s H args us vs Q E hr => F.run A outer s H args us vs Q E (hr.mono h)⟩
theorem FnOk.imp {P : Program} {w : World} {K : Zzu} {mg : Str -> Option Value} {base : Heap} {CX : CXT} {k : Nat} {f : Addr} {fd : FuncData} {ps : List Str} {sp sp' : Sp} (F : FnOk P w K mg base CX k f fd ps sp)
  (h : ∀ vs H Q E, sp' vs H Q E -> sp vs H Q E) : FnOk P w K mg base CX k f fd ps sp' :=
 ⟨fun vs H Q E q => F.len vs H Q E (h _ _ _ _ q), fun A outer s H args us vs Q E hr he hb hv hs => F.run A outer s H args us vs Q E hr he hb hv (h _ _ _ _ hs)⟩
theorem Env0.in1 {P : Program} {w : World} {K : Zzu} {mg : Str -> Option Value} {base : Heap} {A : Around} {outer : List Env} {s : Shared} {H : Hp} (e : Env0 P w K mg base A outer s H) :
  Env0 P w K mg base A.in1 outer s H := ⟨e.frames, e.mod, e.bs, e.bsz, e.funs, e.frf, e.hok, e.bare⟩
section
variable {X : Cx} {pins : List (Addr × Obj)} {σ : St} {H : Hp} {s s' : Shared}
theorem Inv.env0 (I : Inv X pins σ H s) : Env0 X.prog X.w X.K X.mg X.base X.A X.stack s H :=
 ⟨I.ok.frames, I.ok.mod, I.bs, Zz5 I.ok.bsz I.sz, I.stack, I.stkFree, I.hok, I.bare⟩
theorem Inv.after {Q : VK} {u : Value} (I : Inv X pins σ H s) (h : CE X.stack X.prog X.w H s Q u s') : EP X pins σ Q u s' := by
 obtain ⟨v, H', os, bare, un, hok, r, q⟩ := h
 obtain ⟨hh, g, d, t, os'⟩ := s'
 obtain rfl : os' = s.os := os
 exact ⟨v, H', I.call (h' := hh) (g' := g) (d' := d) (t' := t) (ch := []) un hok bare (fun b z => absurd z (by simp)), r, q⟩
end
def Sq (sp : Sp) (dvs : List V) (E : XK) (t : TA) : TE := fun σ H Q => t σ H fun vs H1 => sp (vs ++ dvs) H1 Q E
def Binds (K : Zzu) (fd : FuncData) (ps : List Str) (ds : List Value) : Prop :=
 ∀ (s : Shared) (us : List Value), K.In s.heap -> (us ++ ds).length = ps.length -> BindsTo s fd ⟨us, []⟩ (ps.zip (us ++ ds))
theorem Binds.all {K : Zzu} {fd : FuncData} {ps : List Str} (h : ∀ us : List Value, us.length = ps.length -> bindArgs fd ⟨us, []⟩ = pure (ps.zip us)) : Binds K fd ps [] := fun s us _ hl => by
 rw [Zxz] at hl ⊢
 exact .of_eq (h us hl)
def Vc (CX : CXT) (X : Cx) (E : XK) : Prop := ∀ (pins : List (Addr × Obj)) (σ : St) (H : Hp) (s : Shared) (e : Value) (s' : Shared), Inv X pins σ H s -> CX X.stack H s E e s' -> X.xe e s'
section
variable {X : Cx} {CX : CXT} {k : Nat} {f C : Addr} {fd : FuncData} {ps : List Str} {sp : Sp} {dvs : List V} {ds : List Value} {E : XK} {x m : Str} {p pos apos : Pos} {e o : Expr} {es : List Expr} {ta : TE} {t : TA}
theorem jt {pins : List (Addr × Obj)} {σ : St} {H : Hp} {s : Shared} {Q : VK} {us : List Value} {vs : List V} (F : FnOk X.prog X.w X.K X.mg X.base CX k f fd ps sp) (hr : Room k X.A) (hb : Binds X.K fd ps ds) (hd : Vals dvs ds) (hx : Vc CX X E)
  (I : Inv X pins σ H s) (r : Vals vs us) (h : sp (vs ++ dvs) H Q E) : wpAny (model X.prog X.w) X.A (call (.ref f) us) (EP X pins σ Q) X.xe s := by
 have r2 : Vals (vs ++ dvs) (us ++ ds) := r.append hd
 have hl : (us ++ ds).length = ps.length := by rw [<- r2.length]; exact F.len _ _ _ _ h
 refine wpAny_call (codeAny_mono (F.run X.A X.stack s H ⟨us, []⟩ (us ++ ds) (vs ++ dvs) Q E hr I.env0 (hb s us I.kIn hl) r2 h) fun r s' hq => ?_)
 cases r with
 | error e => exact hx pins σ H s e s' I hq
 | ok fl =>
  cases fl with
  | ret u => exact I.after hq
  | next => exact False.elim hq
  | brk => exact False.elim hq
  | cont => exact False.elim hq
theorem dz (F : FnOk X.prog X.w X.K X.mg X.base CX k f fd ps sp) (hr : Room k X.A) (hg : Gl X x) (hm : X.mg x = some (.ref f)) (hk : Zzo X.K (.ref f) = true) (hb : Binds X.K fd ps ds) (hd : Vals dvs ds) (hx : Vc CX X E)
  (ha : PA X (e :: es) t) (hdb : (x == ("__debug__" : Str)) = false := by decide) (he : starEach (e :: es) X.env = (false, eval e X.env) :: starEach es X.env := by rfl) (hpl : (backTo pos (starEach es X.env)).any (·.1) = false := by rfl) :
  PE X (.Call (.Name x p) (e :: es) [] pos) (Sq sp dvs E t) := by
 intro pins s σ H Q I h
 refine wpAny_Call_Name_kw (Kg I hg hm ?_ hdb)
 refine Zvv (h₀ := X.base) I.ok.mod.kin hk (thn (ha pos pins s σ H _ I h) fun us s1 ⟨vs, H1, I1, r, q⟩ => ⟨I1.kIn, ?_⟩) he hpl
 exact jt F hr hb hd hx I1 r q
end
section
variable {X : Cx} {CX : CXT} {k : Nat} {f C : Addr} {fd : FuncData} {ps ks : List Str} {sp : Sp} {E : XK} {x m : Str} {p pos apos kpos : Pos} {e o : Expr} {es : List Expr} {kws : List Keyword} {te ta : TE} {t tk : TA} {nm : Option Str}
variable {g : List Value -> List Value -> List Value} {gV : List V -> List V -> List V}
end
structure Aj (N P : List Str) (sc : Scope) : Prop where
 kind : sc.kind = .function
 co : sc.isCoroutine = false
 gen : sc.isGenerator = false
 nd : N.Nodup
 pre : N.take P.length = P
 par : ∀ x ∈ P, sc.names.lookup x = some .local \/ sc.names.lookup x = some .cell
 nofree : ∀ y ∈ sc.names, y.2 ≠ .free
theorem Qy {kindOf : Str -> Option NameKind} {x : Str} : ∀ {binds : List (Str × Value)} {m : Str -> Option Value}, (∀ v, (x, v) ∉ binds) -> bindL kindOf binds m x = m x
 | [], _, _ => rfl
 | (n, v) :: r, m, h => by
  unfold bindL
  rw [Qy fun w hw => h w (Zze _ hw)]
  split
  ·have : x ≠ n := by rintro rfl; exact h v Zzb
   simp [this]
  ·rfl
theorem R0 {kindOf : Str -> Option NameKind} {x : Str} : ∀ {binds : List (Str × Value)} {m : Str -> Option Value}, (∀ v, (x, v) ∉ binds) -> bindC kindOf binds m x = m x
 | [], _, _ => rfl
 | (n, v) :: r, m, h => by
  unfold bindC
  rw [R0 fun w hw => h w (Zze _ hw)]
  split
  ·rfl
  ·have : x ≠ n := by rintro rfl; exact h v Zzb
   simp [this]
theorem Qz {kindOf : Str -> Option NameKind} {x : Str} {v : Value} : ∀ {P : List Str} {vs : List Value} {i : Nat} {m : Str -> Option Value}, P.Nodup -> P[i]? = some x -> vs[i]? = some v -> kindOf x = some .local ->
  bindL kindOf (P.zip vs) m x = some v
 | [], _, _, _, _, h, _, _ => by simp at h
 | _ :: _, [], _, _, _, _, h, _ => by simp at h
 | p :: P, w :: vs, 0, m, nd, h1, h2, hk => by
  simp at h1 h2; subst h1; subst h2
  show bindL kindOf ((p, w) :: P.zip vs) m p = _
  unfold bindL
  rw [Qy fun v hv => (Zym.mp nd).1 (List.of_mem_zip hv).1, if_pos hk]
  simp
 | p :: P, w :: vs, i + 1, m, nd, h1, h2, hk => by
  show bindL kindOf ((p, w) :: P.zip vs) m x = _
  unfold bindL
  exact Qz (i := i) (Zym.mp nd).2 (by simpa using h1) (by simpa using h2) hk
theorem R1 {kindOf : Str -> Option NameKind} {x : Str} {v : Value} : ∀ {P : List Str} {vs : List Value} {i : Nat} {m : Str -> Option Value}, P.Nodup -> P[i]? = some x -> vs[i]? = some v -> kindOf x ≠ some .local ->
  bindC kindOf (P.zip vs) m x = some v
 | [], _, _, _, _, h, _, _ => by simp at h
 | _ :: _, [], _, _, _, _, h, _ => by simp at h
 | p :: P, w :: vs, 0, m, nd, h1, h2, hk => by
  simp at h1 h2; subst h1; subst h2
  show bindC kindOf ((p, w) :: P.zip vs) m p = _
  unfold bindC
  rw [R0 fun v hv => (Zym.mp nd).1 (List.of_mem_zip hv).1, if_neg hk]
  simp
 | p :: P, w :: vs, i + 1, m, nd, h1, h2, hk => by
  show bindC kindOf ((p, w) :: P.zip vs) m x = _
  unfold bindC
  exact R1 (i := i) (Zym.mp nd).2 (by simpa using h1) (by simpa using h2) hk
def Hu (N : List Str) (vs : List V) : St := vs.map some ++ Zyw (N.length - vs.length) none
def Pf (CX : CXT) (P : Program) (w : World) (K : Zzu) (mg : Str -> Option Value) (base : Heap) (N : List Str) (qual : Str) (scope : Scope) (f : Addr) (cd : Value) (A : Around) (outer : List Env) (s : Shared) (H : Hp) (E : XK) : Cx where
 prog := P
 w := w
 K := K
 mg := mg
 base := base
 A := A.deeper (envOfC qual scope s.heap.objs.size f cd)
 N := N
 s₀ := s
 H₀ := H
 env := envOfC qual scope s.heap.objs.size f cd
 outer := outer
 stack := envOfC qual scope s.heap.objs.size f cd :: outer
 ex := []
 calm := true
 fn := fun _ => true
 pn := []
 xe := fun e s' => wpAny (model P w) (A.deeper (envOfC qual scope s.heap.objs.size f cd)) (leaving (envOfC qual scope s.heap.objs.size f cd) e) (fun _ s'' => CX outer H s E e s'') (fun e' s'' => CX outer H s E e' s'') s'
theorem U9 {sc : Scope} {n : Nat} {x : Str} (h : sc.names.lookup x = some .cell) : ∃ c, (cellsFrom n sc.names []).lookup x = some c := by
 have q := PySem.W.cellsFrom_some sc.names n [] (.inl h)
 exact Zxa.mp q
theorem Xo {CX : CXT} {P : Program} {w : World} {K : Zzu} {mg : Str -> Option Value} {base : Heap} {N ps : List Str} {qual : Str} {scope : Scope} {f : Addr} {cd : Value} {A : Around} {outer : List Env} {s s1 : Shared} {H : Hp} {E : XK} {us : List Value} {vs : List V}
  (S : Aj N ps scope) (hd : A.handled = none) (e0 : Env0 P w K mg base A outer s H) (hl : vs.length = ps.length) (r : Vals vs us)
  (x : InCallC s s.heap.objs.size (bindL (envOfC qual scope s.heap.objs.size f cd).kindOf (ps.zip us) fun _ => none) (cellsFrom (s.heap.objs.size + 1) scope.names []) (bindC (envOfC qual scope s.heap.objs.size f cd).kindOf (ps.zip us) fun _ => none) s1) :
  Inv (Pf CX P w K mg base N qual scope f cd A outer s H E) [] (Hu N vs) H s1 := by
 have hpl : ps.length <= N.length := by have := congrArg Zxb S.pre; rw [Zyl] at this; omega
 obtain ⟨h1, tk, rfl, hk⟩ := x.done
 have noA : ∀ b : Addr, b ∉ (Pf CX P w K mg base N qual scope f cd A outer s H E).ex := fun b z => absurd (show b ∈ ([] : List Addr) from z) (by simp)
 refine ⟨⟨e0.mod, S.kind, rfl, rfl, Zzt _, fun y z c h1 h2 => ?_, fun y hy => ?_, fun y c _ h => ?_, fun _ => hd, Around.frames_deeper e0.frames, .inr ⟨rfl, rfl⟩, fun b z => absurd z (noA b), e0.bs, e0.bsz, fun b _ _ => noA b, fun b z => absurd z (noA b), e0.funs, e0.frf⟩,
  rfl, e0.bare, Un.kept hk, ⟨_, x.toInCall.ns, fun i y v h1 h2 h3 => ?_⟩, fun y c h => ⟨_, x.cell y c h⟩, e0.hok.fresh (Zzt _), fun y c h => ?_, fun p hp => absurd (show p ∈ ([] : List (Addr × Obj)) from hp) (by simp), e0.hok.kept hk, ?_⟩
 ·exact name_of_addr x.apart (Zxs h1) (Zxs h2)
 ·have hy : scope.names.lookup y = some .cell \/ scope.names.lookup y = some .free := hy
  rcases hy with hy | hy
  ·exact U9 hy
  ·exact absurd rfl (S.nofree _ (Zxs hy))
 ·exact Nat.le_of_lt (x.above y c (Zxs h))
 ·have hi : i < vs.length := by
   unfold Hu at h2
   by_cases hi : i < vs.length
   ·exact hi
   ·rw [Zyf (by simpa using hi)] at h2
    rw [List.getElem?_replicate] at h2
    split at h2 <;> cases h2
  have ha : vs[i]? = some v := by
   unfold Hu at h2
   rw [Zyo (by simpa using hi), Zzv] at h2
   cases e : vs[i]? with
   | none => rw [e] at h2; cases h2
   | some a => rw [e] at h2; cases h2; rfl
  obtain ⟨u, hu, rv⟩ := r.get ha
  have hp : ps[i]? = some y := by
   rw [<- S.pre, List.getElem?_take_of_lt (by omega)]; exact h1
  have ndP : ps.Nodup := by rw [<- S.pre]; exact S.nd.sublist (List.take_sublist _ _)
  refine ⟨u, rv, ?_⟩
  rcases S.par y (Zzn hp) with k | k
  ·exact .inl ⟨k, Qz ndP hp hu k⟩
  ·obtain ⟨c, e⟩ := U9 (n := s.heap.objs.size + 1) k
   refine .inr ⟨.inl k, c, e, ?_⟩
   have q := x.cell y c e
   rw [R1 ndP hp hu (by show scope.names.lookup y ≠ _; rw [k]; decide)] at q
   exact q
 ·exact e0.hok.fresh (Nat.le_of_lt (x.above y c (Zxs h)))
 ·unfold Hu
  show _ = N.length
  rw [Zyv, Zzz, List.length_replicate]
  omega
theorem ae {CX : CXT} {P : Program} {w : World} {K : Zzu} {mg : Str -> Option Value} {base : Heap} {k : Nat} {f : Addr} {name qual : Str} {params : Arguments} {body : List Stmt} {scope : Scope} {dV kV doc pm cdv ct oc : Value} {an od : Option Addr}
  {osl : Array (Option Value)} {N ps : List Str} {sp : Sp} (lk : K.lookup f = some ⟨oc, od, .func (Zzi name qual params body scope dV kV doc pm an cdv ct), osl⟩) (hcd : Zzm K cdv qual = true) (S : Aj N ps scope)
  (len : ∀ vs H Q E, sp vs H Q E -> vs.length = ps.length)
  (hbody : ∀ (A : Around) (outer : List Env) (s : Shared) (H : Hp) (vs : List V) (Q : VK) (E : XK), Room k (A.deeper (envOfC qual scope s.heap.objs.size f cdv)) -> sp vs H Q E ->
   ∃ t, PSs (Pf CX P w K mg base N qual scope f cdv A outer s H E) body t /\ t { nx := fun _ H' => Q .non H', rt := Q } (Hu N vs) H) :
  FnOk P w K mg base CX (k + 1) f (Zzi name qual params body scope dV kV doc pm an cdv ct) ps sp := by
 refine ⟨len, fun A outer s H args us vs Q E hr e0 hb r hsp => ?_⟩
 have hl := len _ _ _ _ hsp
 have KX : K.In s.heap := e0.mod.kin.keeps fun b o e => (e0.bs b o e).1
 have lim : s.heap.NoLimit := e0.mod.nolimit.keeps fun b o e => (e0.bs b o e).1
 have hkind : ∀ y ∈ ps.zip us, scope.names.lookup y.1 = some .local \/ (scope.names.lookup y.1 = some .cell /\ ((cellsFrom (s.heap.objs.size + 1) scope.names []).lookup y.1).isSome = true) := fun ⟨n, v⟩ hy => by
  rcases S.par n (List.of_mem_zip hy).1 with q | q
  ·exact .inl q
  ·exact .inr ⟨q, PySem.W.cellsFrom_some _ _ _ (.inl q)⟩
 refine codeAny_call_function hr.depth (KX _ _ lk) rfl S.co S.gen rfl (PySem.W.codeRec_of KX hcd) (hb _ _ _ _ ?_)
 refine wpAny_newFunctionEnv_cells S.kind hkind fun env he s1 x => ?_
 subst he
 refine ⟨lim.keeps x.toInCall.keep, codeAny_func ?_⟩
 obtain ⟨t, ht, hq⟩ := hbody A outer s H vs Q E (hr.deeper _) hsp
 have I : Inv (Pf CX P w K mg base N qual scope f cdv A outer s H E) [] (Hu N vs) H s1 := Xo S hr.hd e0 hl r x
 refine wpAny_mono (ht [] s1 (Hu N vs) H _ I hq) (fun fl s' hs => ?_) fun e s' hs => hs
 have fin : ∀ {σ' : St} {H' : Hp} {v : V} {u : Value}, Inv (Pf CX P w K mg base N qual scope f cdv A outer s H E) [] σ' H' s' -> RelV v u -> Q v H' -> CE outer P w H s Q u s' :=
  fun {σ' H' v u} J rv q => ⟨v, H', J.os, J.bare, J.base, J.hok, rv, q⟩
 cases fl with
 | ret u =>
  obtain ⟨v, σ', H', J, rv, q⟩ := hs
  exact fin J rv q
 | next =>
  obtain ⟨σ', H', J, q⟩ := hs
  exact fin (v := V.non) (u := Value.none) J rfl q
 | brk =>
  obtain ⟨_, _, _, q⟩ := hs
  exact False.elim q
 | cont =>
  obtain ⟨_, _, _, q⟩ := hs
  exact False.elim q
section
variable {X : Cx} {x : Str} {p pos : Pos} {e : Expr} {es : List Expr} {t : TA} {id T : String} {r : List V -> Hp -> VK -> Prop}
def tCB (r : List V -> Hp -> VK -> Prop) (t : TA) : TE := fun σ H Q => t σ H fun vs H1 => r vs H1 Q
theorem Z1 (hc : CallR X (.builtin id) r) (hg : Gl X x) (hm : X.mg x = none) (hv : bootBuiltins x = some (.builtin id)) (ha : PA X (e :: es) t) (hn : x ≠ "__name__" := by decide) (hdb : (x == ("__debug__" : Str)) = false := by decide)
  (he : starEach (e :: es) X.env = (false, eval e X.env) :: starEach es X.env := by rfl) (hpl : (backTo pos (starEach es X.env)).any (·.1) = false := by rfl) : PE X (.Call (.Name x p) (e :: es) [] pos) (tCB r t) := by
 intro pins s σ H Q I h
 refine wpAny_Call_Name_kw (E9 I hg hm hv ?_ hn hdb)
 exact PyProof.Rows.callWith_builtin1 (thn (ha pos pins s σ H _ I h) fun us s1 ⟨vs, H1, I1, r1, q1⟩ => hc pins s1 σ H1 vs us Q I1 r1 q1) he hpl
theorem X2 (hc : CallR X (.type T) r) (hg : Gl X x) (hm : X.mg x = none) (hv : bootBuiltins x = some (.type T)) (ha : PA X (e :: es) t) (hn : x ≠ "__name__" := by decide) (hdb : (x == ("__debug__" : Str)) = false := by decide)
  (he : starEach (e :: es) X.env = (false, eval e X.env) :: starEach es X.env := by rfl) (hpl : (backTo pos (starEach es X.env)).any (·.1) = false := by rfl) : PE X (.Call (.Name x p) (e :: es) [] pos) (tCB r t) := by
 intro pins s σ H Q I h
 refine wpAny_Call_Name_kw (E9 I hg hm hv ?_ hn hdb)
 exact Zyn (thn (ha pos pins s σ H _ I h) fun us s1 ⟨vs, H1, I1, r1, q1⟩ => hc pins s1 σ H1 vs us Q I1 r1 q1) he hpl
end
end L2
namespace HT
open PySem PyProof.Rows
def iy : List Int -> List Int -> Bool
 | [], [] => false
 | [], _ :: _ => true
 | _ :: _, [] => false
 | x :: xs, y :: ys => if x = y then iy xs ys else decide (x < y)
section
open PySem.SeqAt
open PySem.AutoSeq1 (wpAny_loadPart')
open PySem.MeetsSeq PySem.MeetsSeq2 PySem.MeetsSeq3
end
section
variable {prog : Program} {w : World} {A : Around} {E : Value -> Shared -> Prop} {s : Shared}
theorem gx {t b : Addr} {vs ws : List Value} {Q : Value -> Shared -> Prop} (ht : IsTup s.heap t vs.toArray) (hb : IsTup s.heap b ws.toArray) (hv : vs ≠ [])
  (h1 : ws = [] -> Q (.ref t) s) (h2 : ws ≠ [] -> Q (.ref s.heap.objs.size) { s with heap := s.heap.push { cls := .type "tuple", data := .seq (vs ++ ws).toArray } })
  (hsz : vs.length + ws.length <= sizeLine) : wpAny (model prog w) A (binaryOp .Add (.ref t) (.ref b)) Q E s := by
 obtain ⟨⟨cls, dd, data, sl⟩, ho, hc, n, hd⟩ := id ht
 obtain ⟨⟨cls2, dd2, data2, sl2⟩, ho2, hc2, n2, hd2⟩ := id hb
 simp only at hc hd hc2 hd2
 subst hc hd hc2 hd2
 have e : vs.toArray ++ ws.toArray = (vs ++ ws).toArray := by simp
 by_cases hw : ws = []
 ·exact concat_meets ⟨_, ho, rfl⟩ ⟨_, ho2, rfl⟩ noFill_tuple_add seq_tuple_add Zwh Zwk (Zwt _ _)
   (tuple_addW1 t b vs.toArray ws.toArray n n2 dd dd2 sl sl2 (by simpa using hv) (by simp [hw])) ⟨ho, ho2, h1 hw⟩
 ·refine concat_meets ⟨_, ho, rfl⟩ ⟨_, ho2, rfl⟩ noFill_tuple_add seq_tuple_add Zwh Zwk (Zwt _ _)
   (tuple_addW2 t b vs.toArray ws.toArray n n2 dd dd2 sl sl2 (by simpa using hv) (by simpa using hw) (by rw [Zzp, Zzp]; exact hsz)) ⟨ho, ho2, ?_⟩
  rw [e]
  exact h2 hw
def sIx (n d : Nat) : Option Int -> Nat
 | none => d
 | some v => if v < 0 then (v + (n : Int)).toNat else min v.toNat n
theorem js (n d : Nat) (hd : d <= n) (o : Option Int) : sIx n d o <= n := by
 cases o with
 | none => exact hd
 | some v =>
  show (if v < 0 then (v + (n : Int)).toNat else min v.toNat n) <= n
  by_cases hv : v < 0
  ·rw [if_pos hv]; omega
  ·rw [if_neg hv]; exact Nat.min_le_right _ _
theorem W9 (v : Int) (n d : Nat) : (if v < 0 then max (v + (n : Int)) 0 else min v (n : Int)) = ((sIx n d (some v) : Nat) : Int) := by
 show (if v < 0 then max (v + (n : Int)) 0 else min v (n : Int)) = (((if v < 0 then (v + (n : Int)).toNat else min v.toNat n) : Nat) : Int)
 by_cases hv : v < 0
 ·simp only [if_pos hv]; omega
 ·simp only [if_neg hv]; omega
theorem Vb (lo hi : Option Int) (n : Nat) : Zwu lo hi 1 (n : Int) = (((sIx n 0 lo : Nat) : Int), ((sIx n n hi : Nat) : Int)) := by
 have h1 : ¬ ((1 : Int) < 0) := by omega
 unfold Zwu
 simp only [h1, if_false]
 refine Prod.ext ?_ ?_
 ·cases lo with
  | none => rfl
  | some v => exact W9 v n 0
 ·cases hi with
  | none => rfl
  | some v => exact W9 v n n
theorem Uo (i j : Nat) : Zxd (i : Int) (j : Int) 1 = j - i := by
 unfold Zxd
 have h1 : (1 : Int) > 0 := by omega
 simp only [h1, if_true, Int.ediv_one]
 split <;> omega
theorem Mp {v : Value} {o : Option Int} {Q : Option Int -> Shared -> Prop} (p : IsPart v o) (h : Q o s) : wpAny (model prog w) A (Builtin.Slice.slicePartIndex v) Q E s := by
 cases p with
 | none => exact slicePart_none h
 | int i t => exact slicePart_int h
theorem Gj {sl : Addr} {vl vu : Value} {lo hi : Option Int} {n : Nat} {Q : Int × Int × Nat -> Shared -> Prop} (hs : s.heap.IsSliceOf sl vl vu .none) (pl : IsPart vl lo) (pu : IsPart vu hi)
  (h : Q (((sIx n 0 lo : Nat) : Int), 1, sIx n n hi - sIx n 0 lo) s) : wpAny (model prog w) A (Builtin.Slice.sliceApplied (.ref sl) (pure (n : Int))) Q E s := by
 obtain ⟨os, hos, hcs, hds⟩ := id hs
 unfold Builtin.Slice.sliceApplied Builtin.Slice.sliceFields
 refine wpAny_bind (wpAny_bind (wpAny_field hos hds (x := vl) rfl (wpAny_bind (wpAny_field hos hds (x := vu) rfl (wpAny_bind (wpAny_field hos hds (x := .none) rfl (wpAny_pure ?_)))))))
 refine wpAny_bind (slicePart_none ?_)
 show wpAny _ _ (if ((1 : Int) == 0) = true then _ else _) _ _ s
 rw [if_neg (by decide)]
 refine wpAny_bind (Mp pl (wpAny_bind (Mp pu (wpAny_bind (wpAny_pure ?_)))))
 show wpAny _ _ (match Zwu lo hi 1 (n : Int) with | (lo, hi) => pure (lo, (1 : Int), Zxd lo hi 1)) _ _ s
 rw [Vb lo hi n]
 show wpAny _ _ (pure (((sIx n 0 lo : Nat) : Int), (1 : Int), Zxd ((sIx n 0 lo : Nat) : Int) ((sIx n n hi : Nat) : Int) 1)) _ _ s
 rw [Uo]
 exact wpAny_pure h
theorem Yv (xs : Array Value) (i k : Nat) : ((Zyr k).filterMap fun (m : Nat) => xs[((i : Int) + (m : Int) * 1).toNat]?).toArray = ((xs.toList.drop i).take k).toArray := by
 have e : (fun (m : Nat) => xs[((i : Int) + (m : Int) * 1).toNat]?) = fun m => xs[i + m]? := by
  funext m
  have : ((i : Int) + (m : Int) * 1).toNat = i + m := by omega
  rw [this]
 rw [e]
 have := pick_run xs i k
 rw [List.filterMap_map] at this
 have e2 : ((fun x => xs[x]?) ∘ fun x => i + x) = fun m => xs[i + m]? := rfl
 rw [e2] at this
 rw [this]
theorem Km {t sl : Addr} {items : Array Value} {vl vu : Value} {lo hi : Option Int} {Q : Value -> Shared -> Prop} (ht : IsTup s.heap t items) (hs : s.heap.IsSliceOf sl vl vu .none) (pl : IsPart vl lo) (pu : IsPart vu hi)
  (hw : ¬ (sIx items.size 0 lo = 0 /\ sIx items.size items.size hi = items.size))
  (h : Q (.ref s.heap.objs.size) { s with heap := s.heap.push { cls := .type "tuple", data := .seq ((items.toList.drop (sIx items.size 0 lo)).take (sIx items.size items.size hi - sIx items.size 0 lo)).toArray } })
  (hsz : items.size <= sizeLine) : wpAny (model prog w) A (getItem (.ref t) (.ref sl)) Q E s := by
 have htake : sizeOk (.seq ((items.toList.drop (sIx items.size 0 lo)).take (sIx items.size items.size hi - sIx items.size 0 lo)).toArray) := by
  show ((items.toList.drop (sIx items.size 0 lo)).take (sIx items.size items.size hi - sIx items.size 0 lo)).toArray.size <= sizeLine
  rw [Zzp, Zyl, Zye, Zxo]
  omega
 have hj : sIx items.size items.size hi <= items.size := js _ _ (Zzt _) hi
 obtain ⟨os, hos, hcs, hds⟩ := id hs
 have hTs : s.TypeIs (.ref sl) "slice" := ⟨os, hos, hcs⟩
 unfold getItem
 try with_reducible refine wpAny_holding ?_
 first | refine wpAny_bind (wpAny_pure ?_) | skip
 refine wpAny_bind (wpAny_sequenceKey ht.typeIs (by decide) ?_)
 refine wpAny_bind (wpAny_callSpecial?_slot (name := Str.ofString "__getitem__") ht.typeIs Zy8
  (wpAny_call_entry Zy8 ht.typeIs entry_tuple_getitem ?_ (args_tuple_getitem _ _)))
 show wpAny _ _ (Builtin.Tuple.tupleItemsOf (.ref t) >>= _) _ _ s
 refine wpAny_bind (tupleItemsOf_ ht ?_)
 refine wpAny_bind (wpAny_typeOf hTs ?_)
 rw [if_pos (by decide)]
 refine wpAny_bind (Gj hs pl pu ?_)
 have hno : ¬ ((((sIx items.size 0 lo : Nat) : Int) == 0 && (1 : Int) == 1 && (sIx items.size items.size hi - sIx items.size 0 lo) == items.size) = true) := by
  intro q
  rw [Zyb, Zyb] at q
  have q1 : ((sIx items.size 0 lo : Nat) : Int) = 0 := eq_of_beq q.1.1
  have q2 : sIx items.size items.size hi - sIx items.size 0 lo = items.size := eq_of_beq q.2
  exact hw ⟨by omega, by omega⟩
 show wpAny _ _ (if (((sIx items.size 0 lo : Nat) : Int) == 0 && (1 : Int) == 1 && (sIx items.size items.size hi - sIx items.size 0 lo) == items.size) = true then _ else _) _ _ s
 rw [if_neg hno, Yv]
 first
  | exact wpAny_bind (m := Zx9 _) (wpAny_newObj_type (wpAny_pure ⟨_, rfl, wpAny_pure h⟩) htake)
  | exact wpAny_bind (m := Zx9 _) (wpAny_newObj_type (wpAny_bind (wpAny_pure (wpAny_pure ⟨_, rfl, wpAny_pure h⟩))) htake)
  | exact wpAny_bind (wpAny_bind (m := Zx9 _) (wpAny_newObj_type (wpAny_pure (wpAny_pure ⟨_, rfl, wpAny_pure h⟩)) htake))
  | exact wpAny_bind (wpAny_bind (m := Zx9 _) (wpAny_newObj_type (wpAny_pure ⟨_, rfl, wpAny_pure h⟩) htake))
end
end HT
namespace L2
open PySem PySem.Spec PyProof.Rows
abbrev TO := St -> Hp -> (Option Int -> Hp -> Prop) -> Prop
def PO (X : Cx) (e : Option Expr) (t : TO) : Prop :=
 ∀ (pins : List (Addr × Obj)) (s : Shared) (σ : St) (H : Hp) (Q : Option Int -> Hp -> Prop), Inv X pins σ H s -> t σ H Q ->
  wpAny (model X.prog X.w) X.A (evalPart e X.env) (fun u s' => ∃ o H', Inv X pins σ H' s' /\ IsPart u o /\ Q o H') X.xe s
def tNoPart : TO := fun _ H Q => Q none H
def ig (t : TE) : TO := fun σ H Q => t σ H fun x H1 => ∃ i, x = .int i /\ Q (some i) H1
section
variable {X : Cx} {e : Expr} {te : TE} {lo hi : Option Expr} {tl th : TO} {pos p2 : Pos}
theorem Fk : PO X none tNoPart := by
 intro pins s σ H Q I h
 rw [evalPart_none]
 exact wpAny_pure ⟨none, H, I, .none, h⟩
theorem Fj (h : PE X e te) : PO X (some e) (ig te) := by
 intro pins s σ H Q I hw
 rw [evalPart_some]
 refine thn (h pins s σ H _ I hw) fun u s1 ⟨x, H1, I1, r1, q1⟩ => ?_
 obtain ⟨i, rfl, q⟩ := q1
 obtain ⟨t, rfl⟩ := r1
 exact ⟨some i, H1, I1, .int i t, q⟩
def SlR (X : Cx) (r : V -> Option Int -> Option Int -> Hp -> VK -> Prop) : Prop :=
 ∀ (pins : List (Addr × Obj)) (s : Shared) (σ : St) (H : Hp) (x : V) (v vl vu : Value) (lo hi : Option Int) (sl : Addr) (Q : VK), Inv X pins σ H s -> RelV x v -> s.heap.IsSliceOf sl vl vu .none -> IsPart vl lo -> IsPart vu hi -> r x lo hi H Q ->
  ∃ T id, typeLookup (.type T) "__getitem__" = pure (some (.builtin id)) /\ s.TypeIs v T /\ wpAny (model X.prog X.w) X.A (getItem v (.ref sl)) (EP X pins σ Q) X.xe s
theorem SlR.or {r r' : V -> Option Int -> Option Int -> Hp -> VK -> Prop} (h : SlR X r) (h' : SlR X r') : SlR X (fun x lo hi H Q => r x lo hi H Q \/ r' x lo hi H Q) := by
 intro pins s σ H x v vl vu lo hi sl Q I rx hs pl pu q
 rcases q with q | q
 ·exact h pins s σ H x v vl vu lo hi sl Q I rx hs pl pu q
 ·exact h' pins s σ H x v vl vu lo hi sl Q I rx hs pl pu q
def tSl (r : V -> Option Int -> Option Int -> Hp -> VK -> Prop) (te : TE) (tl th : TO) : TE := fun σ H Q => te σ H fun x H1 => tl σ H1 fun l H2 => th σ H2 fun u H3 => r x l u H3 Q
theorem E8 {r : V -> Option Int -> Option Int -> Hp -> VK -> Prop} (hr : SlR X r) (he : PE X e te) (hl : PO X lo tl) (hu : PO X hi th) : PE X (.Subscript e (.Slice lo hi none p2) pos) (tSl r te tl th) := by
 intro pins s σ H Q I h
 refine Subscript_ (thn (he pins s σ H _ I h) fun v s1 ⟨x, H1, I1, r1, q1⟩ => ?_)
 refine wpAny_Slice (thn (hl pins s1 σ H1 _ I1 q1) fun vl s2 ⟨l, H2, I2, pl, q2⟩ => thn (hu pins s2 σ H2 _ I2 q2) fun vu s3 ⟨u, H3, I3, pu, q3⟩ => ?_)
 rw [evalPart_none]
 refine wpAny_pure ?_
 have I4 : Inv X pins σ H3 { s3 with heap := s3.heap.push { cls := .type "slice", data := .fields #[vl, vu, .none] } } := I3.kept (t' := s3.toks) fun b ob q => Zzy _ q
 obtain ⟨T, id, hT, ht, hg⟩ := hr pins { s3 with heap := s3.heap.push { cls := .type "slice", data := .fields #[vl, vu, .none] } } σ H3 x v vl vu l u s3.heap.objs.size Q I4 r1 (Heap.IsSliceOf.new ..) pl pu q3
 show wpAny (model X.prog X.w) X.A (subscriptTail e (.Slice lo hi none p2) v (.ref s3.heap.objs.size)) (EP X pins σ Q) X.xe { s3 with heap := s3.heap.push { cls := .type "slice", data := .fields #[vl, vu, .none] } }
 exact tail_any (ops := [.ref s3.heap.objs.size, v]) ht hT hg (by with_unfolding_all rfl)
def Dq (xs : List V) (lo hi : Option Int) : List V := (xs.drop (HT.sIx xs.length 0 lo)).take (HT.sIx xs.length xs.length hi - HT.sIx xs.length 0 lo)
theorem Lx (xs : List V) (lo hi : Option Int) : (Dq xs lo hi).length <= xs.length := by
 unfold Dq
 rw [Zyl, Zye]
 omega
def rSlT (K : Zzu) : V -> Option Int -> Option Int -> Hp -> VK -> Prop := fun x lo hi H Q => ∃ a xs, x = .ref a /\ SqT K H a xs /\
 ¬ (HT.sIx xs.length 0 lo = 0 /\ HT.sIx xs.length xs.length hi = xs.length) /\ ∀ p, H p = none -> Q (.ref p) (upd H p (.tup (Dq xs lo hi)))
theorem jq : SlR X (rSlT X.K) := by
 intro pins s σ H x v vl vu lo hi sl Q I rx hs pl pu h
 obtain ⟨a, xs, rfl, hx, hw, q⟩ := h
 cases rx
 obtain ⟨its, r, ht, hz⟩ := I.tuple hx
 have hlen : its.toArray.size = xs.length := by rw [Zzp]; exact r.length.symm
 refine ⟨"tuple", _, Zy8.lookup, ht.typeIs, ?_⟩
 refine HT.Km ht hs pl pu (by rw [hlen]; exact hw) ?_ (by rw [hlen]; exact hz)
 rw [hlen]
 refine ⟨.ref s.heap.objs.size, _, I.laid (t' := s.toks) (o := .tup (Dq xs lo hi)) (fun b ob q => Zzy _ q) (Zzt _) ?_, rfl, q _ (I.hok.fresh (Zzt _))⟩
 exact ⟨Zz5 (Lx xs lo hi) hz, _, (r.drop (HT.sIx xs.length 0 lo)).take (HT.sIx xs.length xs.length hi - HT.sIx xs.length 0 lo), IsTup.new _ _⟩
def rLtT (K : Zzu) : R2 := fun x y H Q => ∃ a b ns ms, x = .ref a /\ y = .ref b /\ SqT K H a (ns.map V.int) /\ SqT K H b (ms.map V.int) /\ Q (.bl (HT.iy ns ms)) H
def oz (K : Zzu) : R2 := fun x y H Q => ∃ a b xs ys, x = .ref a /\ y = .ref b /\ SqT K H a xs /\ SqT K H b ys /\ xs ≠ [] /\ xs.length + ys.length <= sizeLine /\
 (ys = [] -> Q (.ref a) H) /\ (ys ≠ [] -> ∀ p, H p = none -> Q (.ref p) (upd H p (.tup (xs ++ ys))))
theorem Vals.nil_iff {xs : List V} {us : List Value} (r : Vals xs us) : us = [] ↔ xs = [] := by
 cases r with
 | nil => simp
 | cons _ _ => simp
theorem fb : OpR X (binaryOp .Add) (oz X.K) := by
 intro pins s σ H x y v u Q I rx ry h
 obtain ⟨a, b, xs, ys, rfl, rfl, ha, hb, hx, hz, q1, q2⟩ := h
 cases rx
 cases ry
 obtain ⟨its, r1, p1, _⟩ := I.tuple ha
 obtain ⟨its2, r2, p2, _⟩ := I.tuple hb
 refine HT.gx p1 p2 (fun z => hx (r1.nil_iff.mp z)) (fun z => ⟨.ref a, H, I, rfl, q1 (r2.nil_iff.mp z)⟩) (fun z => ?_) (by rw [<- r1.length, <- r2.length]; exact hz)
 refine ⟨.ref s.heap.objs.size, _, I.laid (t' := s.toks) (o := .tup (xs ++ ys)) (fun b ob q => Zzy _ q) (Zzt _) ?_, rfl, q2 (fun w => z (r2.nil_iff.mpr w)) _ (I.hok.fresh (Zzt _))⟩
 exact ⟨by rw [Zyv]; exact hz, _, r1.append r2, IsTup.new _ _⟩
end
def ixN (n : Nat) (i : Int) : Option Nat := if 0 <= i then (if i < n then some i.toNat else none) else if -(n : Int) <= i then some (i + n).toNat else none
def atI {α : Type} (xs : List α) (i : Int) : Option α := (ixN xs.length i).bind fun j => xs[j]?
theorem W4 {n : Nat} {i : Int} {j : Nat} (h : ixN n i = some j) : seqIndex? i n = some j /\ j < n /\ -(n : Int) <= i /\ i < n := by
 unfold ixN at h
 by_cases h0 : 0 <= i
 ·rw [if_pos h0] at h
  by_cases h1 : i < n
  ·rw [if_pos h1] at h
   have e : i.toNat = j := Zzc h
   exact ⟨by rw [seqIndex_of h0 h1, e], by omega, by omega, h1⟩
  ·rw [if_neg h1] at h; cases h
 ·rw [if_neg h0] at h
  by_cases h1 : -(n : Int) <= i
  ·rw [if_pos h1] at h
   have e : (i + n).toNat = j := Zzc h
   exact ⟨by rw [seqIndex_neg (by omega) h1, e], by omega, h1, by omega⟩
  ·rw [if_neg h1] at h; cases h
theorem Sb {α : Type} {xs : List α} {i : Int} {v : α} (h : atI xs i = some v) : ∃ j, seqIndex? i xs.length = some j /\ xs[j]? = some v /\ j < xs.length /\ -(xs.length : Int) <= i /\ i < xs.length := by
 unfold atI at h
 cases e : ixN xs.length i with
 | none => rw [e] at h; cases h
 | some j =>
  rw [e] at h
  obtain ⟨h1, h2, h3, h4⟩ := W4 e
  exact ⟨j, h1, h, h2, h3, h4⟩
theorem Md {α : Type} {xs : List α} {j : Nat} {v : α} (h : xs[j]? = some v) : atI xs (j : Int) = some v := by
 have hj : j < xs.length := (Zzl.mp h).1
 have e : ixN xs.length (j : Int) = some j := by
  unfold ixN
  rw [if_pos (by omega), if_pos (by omega)]; simp
 unfold atI; rw [e]; exact h
def Wf (b : Expr) : Prop := ∀ o i, subscripted b false o i = operate [o, i] (getItem o i)
def IxR (X : Cx) (r : R2) : Prop :=
 ∀ (value slice : Expr) (pins : List (Addr × Obj)) (s : Shared) (σ : St) (H : Hp) (x y : V) (v u : Value) (Q : VK), Inv X pins σ H s -> RelV x v -> RelV y u -> r x y H Q ->
  subscripted slice false v u = operate [v, u] (getItem v u) -> wpAny (model X.prog X.w) X.A (subscriptTail value slice v u) (EP X pins σ Q) X.xe s
def MtR (X : Cx) (id : String) (r : V -> List V -> Hp -> VK -> Prop) : Prop :=
 ∀ (pins : List (Addr × Obj)) (s : Shared) (σ : St) (H : Hp) (x : V) (xs : List V) (v : Value) (us : List Value) (Q : VK), Inv X pins σ H s -> RelV x v -> Vals xs us -> r x xs H Q ->
  wpAny (model X.prog X.w) X.A (call (.builtin id) (v :: us)) (EP X pins σ Q) X.xe s
section
variable {X : Cx} {a b : Expr} {ta tb : TE} {pos : Pos}
theorem IxR.or {r r' : R2} (h : IxR X r) (h' : IxR X r') : IxR X (fun x y H Q => r x y H Q \/ r' x y H Q) := by
 intro value slice pins s σ H x y v u Q I rx ry q hs
 rcases q with q | q
 ·exact h value slice pins s σ H x y v u Q I rx ry q hs
 ·exact h' value slice pins s σ H x y v u Q I rx ry q hs
theorem MtR.or {id : String} {r r' : V -> List V -> Hp -> VK -> Prop} (h : MtR X id r) (h' : MtR X id r') : MtR X id (fun x xs H Q => r x xs H Q \/ r' x xs H Q) := by
 intro pins s σ H x xs v us Q I rx rs q
 rcases q with q | q
 ·exact h pins s σ H x xs v us Q I rx rs q
 ·exact h' pins s σ H x xs v us Q I rx rs q
theorem iw {r : R2} (hr : IxR X r) (ha : PE X a ta) (hb : PE X b tb) (hs : Wf b) : PE X (.Subscript a b pos) (tOp r ta tb) := by
 intro pins s σ H Q I h
 exact Subscript_ (mh ha hb I h fun v u s2 x y H2 I2 rx ry q => hr a b pins s2 σ H2 x y v u Q I2 rx ry q (hs _ _))
def rIxL (K : Zzu) : R2 := fun x y H Q => ∃ p xs i v, x = .ref p /\ y = .int i /\ SqL K H p xs /\ atI xs i = some v /\ Q v H
def rIxT (K : Zzu) : R2 := fun x y H Q => ∃ p xs i v, x = .ref p /\ y = .int i /\ SqT K H p xs /\ atI xs i = some v /\ Q v H
def rIxS : R2 := fun x y H Q => ∃ z i c, x = .str z /\ y = .int i /\ z.length <= sizeLine /\ atI z.cps.toList i = some c /\ Q (.str ⟨#[c]⟩) H
theorem W3 : IxR X (rIxL X.K) := by
 intro value slice pins s σ H x y v u Q I rx ry h hs
 obtain ⟨p, xs, i, z, rfl, rfl, hq, he, q⟩ := h
 cases rx
 obtain ⟨t, rfl⟩ := ry
 obtain ⟨its, r, pl, hz⟩ := I.list hq
 obtain ⟨j, h1, h2, h3, h4, h5⟩ := Sb he
 obtain ⟨w, ew, rw'⟩ := r.get h2
 have hl := r.length
 have hn := Ij
 have fin : EP X pins σ Q w s := ⟨z, H, I, rw', q⟩
 by_cases h0 : 0 <= i
 ·have hj : i.toNat = j := by
   rw [seqIndex_of h0 h5] at h1
   exact Zzc h1
  exact item_listR pl.isList h0 (by omega) (by rw [hj]; simpa using ew) fin hs
 ·have hj : (i + (its.toArray.size : Int)).toNat = j := by
   rw [seqIndex_neg (by omega) h4] at h1
   rw [Zzp, <- hl]
   exact Zzc h1
  exact subscriptTail_builtinR (x := w) pl.isList.typeIs slot_list_getitem.lookup
   (wpAny_getItem_list_neg (Q := fun r s' => r = w /\ EP X pins σ Q r s') pl.isList (by omega) (by rw [Zzp] <;> omega) (by omega) (by rw [hj]; simpa using ew) ⟨rfl, fin⟩) hs
theorem lq : IxR X (rIxT X.K) := by
 intro value slice pins s σ H x y v u Q I rx ry h hs
 obtain ⟨p, xs, i, z, rfl, rfl, hq, he, q⟩ := h
 cases rx
 obtain ⟨t, rfl⟩ := ry
 obtain ⟨its, r, pl, hz⟩ := I.tuple hq
 obtain ⟨j, h1, h2, h3, h4, h5⟩ := Sb he
 obtain ⟨w, ew, rw'⟩ := r.get h2
 have hl := r.length
 have hn := Ij
 have fin : EP X pins σ Q w s := ⟨z, H, I, rw', q⟩
 exact subscriptTail_builtinR (x := w) pl.typeIs slot_tuple_getitem.lookup
  (getItem_tuple (j := j) (Q := fun r s' => r = w /\ EP X pins σ Q r s') pl (by omega) (by omega) (by rw [Zzp, <- hl]; exact h1) (by simpa using ew) ⟨rfl, fin⟩) hs
theorem lu : IxR X rIxS := by
 intro value slice pins s σ H x y v u Q I rx ry h hs
 obtain ⟨z, i, c, rfl, rfl, hz, he, q⟩ := h
 obtain ⟨t, rfl⟩ := rx
 obtain ⟨t', rfl⟩ := ry
 obtain ⟨j, h1, h2, h3, h4, h5⟩ := Sb he
 have hl : z.cps.toList.length = z.length := by simp [Str.length]
 rw [hl] at h1 h4 h5
 have hn := Ij
 exact tail_any (typeIs_str s z t) slot_str_getitem.lookup (getItem_str (c := c) (by
  have e1 : decide (i < -(2 ^ 63 : Int)) = false := decide_eq_false (by omega)
  have e2 : decide (i ≥ 2 ^ 63) = false := decide_eq_false (by omega)
  rw [e1, e2, Bool.or_false]) (by rw [h1]; simpa using h2) ⟨.str ⟨#[c]⟩, H, I.tok _, ⟨_, rfl⟩, q⟩) hs
theorem Uu (its : List Value) (n j : Nat) (u : Value) : Obj.mapSeq (·.setIfInBounds j u) { cls := .type "list", data := .seq its.toArray n } = { cls := .type "list", data := .seq (its.set j u).toArray n } := by
 simp [Obj.mapSeq]
theorem Inv.lst {pins : List (Addr × Obj)} {σ : St} {H : Hp} {s : Shared} {p : Addr} {xs : List V} (I : Inv X pins σ H s) (h : H p = some (.lst xs)) :
  ∃ (its : List Value) (n : Nat), Vals xs its /\ s.heap.get? p = some { cls := .type "list", data := .seq its.toArray n } /\ xs.length <= sizeLine := by
 obtain ⟨z, its, n, r, e⟩ := I.hok p _ h
 exact ⟨its, n, r, e, z⟩
theorem Inv.lstUpd {pins : List (Addr × Obj)} {σ : St} {H : Hp} {s : Shared} {p : Addr} {xs ys : List V} {its its' : List Value} {n n' : Nat} {f : Obj -> Obj} (I : Inv X pins σ H s) (h : H p = some (.lst xs))
  (ho : s.heap.get? p = some { cls := .type "list", data := .seq its.toArray n }) (hf : f { cls := .type "list", data := .seq its.toArray n } = { cls := .type "list", data := .seq its'.toArray n' }) (r : Vals ys its') (hz : ys.length <= sizeLine) (t : Nat) :
  Inv X pins σ (upd H p (.lst ys)) { s with heap := s.heap.update p f, toks := t } := by
 have e : (s.heap.update p f).get? p = some { cls := .type "list", data := .seq its'.toArray n' } := by
  rw [Zxh f ho (by rw [hf] <;> rfl), hf]
 refine I.write (x := p) (e := p) (by rw [h]; trivial) (.inl rfl) (fun b u hb q => (Zyc _ _ (Zzh hb)).trans q) ⟨_, e⟩ ?_
 exact ⟨hz, its', n', r, e⟩
def rSetL : V -> V -> V -> Hp -> (Hp -> Prop) -> Prop := fun o i v H Q => ∃ p xs k j, o = .ref p /\ i = .int k /\ H p = some (.lst xs) /\ ixN xs.length k = some j /\ Q (upd H p (.lst (xs.set j v)))
theorem Gk : bq X rSetL := by
 intro pins s σ H o i v ov iv u Q I ro ri rv h
 obtain ⟨p, xs, k, j, rfl, rfl, hp, hj, q⟩ := h
 cases ro
 obtain ⟨t, rfl⟩ := ri
 obtain ⟨its, n, r, ho, hz⟩ := I.lst hp
 obtain ⟨h1, h2, h3, h4⟩ := W4 hj
 have hl := r.length
 have hn := Ij
 have I' : Inv X pins σ (upd H p (.lst (xs.set j v))) { s with heap := s.heap.update p (Obj.mapSeq (·.setIfInBounds j u)) } :=
  I.lstUpd hp ho (Uu its n j u) (r.set rv j) (by rw [List.length_set]; exact hz) s.toks
 by_cases h0 : 0 <= k
 ·have hk : k.toNat = j := by
   rw [seqIndex_of h0 h4] at h1
   exact Zzc h1
  exact PySem.W.ki_setAt ho h0 (by omega) (by rw [Zzp, <- hl]; exact h4) (by rw [hk]; exact ⟨_, I', q⟩)
 ·have hk : (k + (its.toArray.size : Int)).toNat = j := by
   rw [seqIndex_neg (by omega) h3] at h1
   rw [Zzp, <- hl]
   exact Zzc h1
  exact PySem.W.ki_setBack ho (by omega) (by rw [Zzp, <- hl]; exact h3) (by omega) (by rw [hk]; exact ⟨_, I', q⟩)
theorem R6 (lo hi : Option Int) (n : Nat) : (sliceBounds lo hi none n).1 = ((HT.sIx n 0 lo : Nat) : Int) /\ (sliceBounds lo hi none n).2.1 = ((HT.sIx n n hi : Nat) : Int) /\ (sliceBounds lo hi none n).2.2 = 1 := by
 refine ⟨?_, ?_, rfl⟩
 ·cases lo with
  | none => simp [sliceBounds, HT.sIx]
  | some i =>
   simp only [sliceBounds, HT.sIx, Option.getD_none, show (1 : Int) > 0 by decide, if_true]
   by_cases h : i < 0
   ·simp only [h, if_true] <;> omega
   ·simp only [h, if_false] <;> omega
 ·cases hi with
  | none => simp [sliceBounds, HT.sIx]
  | some i =>
   simp only [sliceBounds, HT.sIx, Option.getD_none, show (1 : Int) > 0 by decide, if_true]
   by_cases h : i < 0
   ·simp only [h, if_true] <;> omega
   ·simp only [h, if_false] <;> omega
theorem Op (its : List Value) (lo hi : Option Int) : slicePick its.toArray lo hi none = ((its.drop (HT.sIx its.length 0 lo)).take (HT.sIx its.length its.length hi - HT.sIx its.length 0 lo)).toArray := by
 obtain ⟨h1, h2, h3⟩ := R6 lo hi its.toArray.size
 unfold slicePick
 rw [h1, h2, h3]
 simp only [sliceRange_one, pick_run, Zzp] <;> rfl
def rSlL (K : Zzu) : V -> Option Int -> Option Int -> Hp -> VK -> Prop := fun x lo hi H Q => ∃ a xs, x = .ref a /\ SqL K H a xs /\ ∀ p, H p = none -> Q (.ref p) (upd H p (.lst (Dq xs lo hi)))
theorem db : SlR X (rSlL X.K) := by
 intro pins s σ H x v vl vu lo hi sl Q I rx hs pl pu h
 obtain ⟨a, xs, rfl, hx, q⟩ := h
 cases rx
 obtain ⟨its, r, ht, hz⟩ := I.list hx
 have hlen := r.length
 refine ⟨"list", _, slot_list_getitem.lookup, ht.isList.typeIs, ?_⟩
 refine wpAny_getItem_list_slice ht.isList hs pl pu .none (by simp) ?_ (by rw [Zzp] <;> omega)
 rw [Op, <- hlen]
 refine ⟨.ref s.heap.objs.size, _, I.laid (t' := s.toks) (o := .lst (Dq xs lo hi)) (fun b ob q => Zzy _ q) (Zzt _) ?_, rfl, q _ (I.hok.fresh (Zzt _))⟩
 exact ⟨Zz5 (Lx xs lo hi) hz, _, 0, (r.drop (HT.sIx xs.length 0 lo)).take (HT.sIx xs.length xs.length hi - HT.sIx xs.length 0 lo), Zzf _ rfl⟩
def Gu : V -> Bool
 | .non => true
 | .bl _ => true
 | .int _ => true
 | .str _ => true
 | _ => false
def eqV : V -> V -> Bool
 | .non, .non => true
 | .bl a, .bl b => a == b
 | .bl a, .int b => (if a then 1 else 0) == b
 | .int a, .bl b => a == (if b then 1 else 0)
 | .int a, .int b => a == b
 | .str a, .str b => a == b
 | _, _ => false
theorem m5 {A : Around} {s : Shared} {y x : V} {u v : Value} (ry : RelV y u) (rx : RelV x v) (fy : Gu y = true) (fx : Gu x = true) : SeqAt.EqAt A s u v (eqV y x) := by
 cases y with
 | non =>
  cases ry
  cases x with
  | non => cases rx; exact SeqAt.EqAt.same _
  | bl b => cases rx; exact SeqAt.EqAt.none_bool b
  | int b => obtain ⟨t, rfl⟩ := rx; exact SeqAt.EqAt.none_int b t
  | str b => obtain ⟨t, rfl⟩ := rx; exact SeqAt.EqAt.none_str b t
  | _ => exact absurd (show false = true from fx) Zz2
 | bl a =>
  cases ry
  cases x with
  | non => cases rx; exact SeqAt.EqAt.bool_none a
  | bl b => cases rx; exact SeqAt.EqAt.bool_bool a b
  | int b => obtain ⟨t, rfl⟩ := rx; exact SeqAt.EqAt.bool_int a b t
  | str b => obtain ⟨t, rfl⟩ := rx; exact SeqAt.EqAt.bool_str a b t
  | _ => exact absurd (show false = true from fx) Zz2
 | int a =>
  obtain ⟨t', rfl⟩ := ry
  cases x with
  | non => cases rx; exact SeqAt.EqAt.int_none a t'
  | bl b => cases rx; exact SeqAt.EqAt.int_bool a t' b
  | int b => obtain ⟨t, rfl⟩ := rx; exact SeqAt.EqAt.int_int a t' b t
  | str b => obtain ⟨t, rfl⟩ := rx; exact SeqAt.EqAt.int_str a t' b t
  | _ => exact absurd (show false = true from fx) Zz2
 | str a =>
  obtain ⟨t', rfl⟩ := ry
  cases x with
  | non => cases rx; exact SeqAt.EqAt.str_none a t'
  | bl b => cases rx; exact SeqAt.EqAt.str_bool a t' b
  | int b => obtain ⟨t, rfl⟩ := rx; exact SeqAt.EqAt.str_int a t' b t
  | str b => obtain ⟨t, rfl⟩ := rx; exact SeqAt.EqAt.str_str a t' b t
  | _ => exact absurd (show false = true from fx) Zz2
 | _ => exact absurd (show false = true from fy) Zz2
def eqU (x : V) (u : Value) : Bool := match u with
 | .none => eqV .non x
 | .bool b => eqV (.bl b) x
 | .int i _ => eqV (.int i) x
 | .str z _ => eqV (.str z) x
 | _ => false
theorem ag {x y : V} {u : Value} (r : RelV y u) (f : Gu y = true) : eqU x u = eqV y x := by
 cases y with
 | non => cases r; rfl
 | bl b => cases r; rfl
 | int i => obtain ⟨t, rfl⟩ := r; rfl
 | str z => obtain ⟨t, rfl⟩ := r; rfl
 | _ => exact absurd (show false = true from f) Zz2
theorem Ko {x : V} : ∀ {xs : List V} {us : List Value}, Vals xs us -> xs.all Gu = true -> us.any (eqU x) = xs.any fun y => eqV y x
 | _, _, .nil, _ => rfl
 | y :: xs, u :: us, .cons r t, f => by
  rw [Zvt, Zyb] at f
  rw [Zx5, Zx5, ag r f.1, Ko t f.2]
theorem Gq {A : Around} {s : Shared} {x : V} {v : Value} (rx : RelV x v) (fx : Gu x = true) : ∀ {xs : List V} {us : List Value}, Vals xs us -> xs.all Gu = true -> ∀ u ∈ us, SeqAt.EqAt A s u v (eqU x u)
 | _, _, .nil, _ => fun u hu => by cases hu
 | y :: xs, u :: us, .cons r t, f => fun u' hu => by
  rw [Zvt, Zyb] at f
  rcases Zzk.mp hu with rfl | hu
  ·rw [ag r f.1]; exact m5 r rx f.1 fx
  ·exact Gq rx fx t f.2 u' hu
def inV (x : V) (xs : List V) : Bool := xs.any fun y => eqV y x
def rIn (K : Zzu) (neg : Bool) : R2 := fun x y H Q => ∃ p xs, y = .ref p /\ (SqL K H p xs \/ SqT K H p xs) /\ Gu x = true /\ xs.all Gu = true /\ Q (.bl (if neg then !inV x xs else inV x xs)) H
theorem X4 : OpR X (compareOp .In) (rIn X.K false) := by
 intro pins s σ H x y v u Q I rx ry h
 obtain ⟨p, xs, rfl, hq, fx, fs, q⟩ := h
 cases ry
 rcases hq with hq | hq
 ·obtain ⟨its, r, pl, hz⟩ := I.list hq
  refine SeqAt.in_listAt (eqU x) pl.isList (fun w hw => Gq rx fx r fs w (by simpa using hw)) ⟨.bl _, H, I, rfl, ?_⟩
  rw [show its.toArray.any (eqU x) = its.any (eqU x) by simp, Ko r fs]
  exact q
 ·obtain ⟨its, r, pl, hz⟩ := I.tuple hq
  refine SeqAt.in_tupleAt (eqU x) pl (fun w hw => Gq rx fx r fs w (by simpa using hw)) ⟨.bl _, H, I, rfl, ?_⟩
  rw [show its.toArray.any (eqU x) = its.any (eqU x) by simp, Ko r fs]
  exact q
theorem Rc : OpR X (compareOp .NotIn) (rIn X.K true) := by
 intro pins s σ H x y v u Q I rx ry h
 obtain ⟨p, xs, rfl, hq, fx, fs, q⟩ := h
 cases ry
 rcases hq with hq | hq
 ·obtain ⟨its, r, pl, hz⟩ := I.list hq
  refine SeqAt.notIn_listAt (eqU x) pl.isList (fun w hw => Gq rx fx r fs w (by simpa using hw)) ⟨.bl _, H, I, rfl, ?_⟩
  rw [show its.toArray.any (eqU x) = its.any (eqU x) by simp, Ko r fs]
  exact q
 ·obtain ⟨its, r, pl, hz⟩ := I.tuple hq
  refine SeqAt.notIn_tupleAt (eqU x) pl (fun w hw => Gq rx fx r fs w (by simpa using hw)) ⟨.bl _, H, I, rfl, ?_⟩
  rw [show its.toArray.any (eqU x) = its.any (eqU x) by simp, Ko r fs]
  exact q
theorem Rb : OpR X (compareOp .NotIn) (fun x y H Q => ∃ i j, x = .str i /\ y = .str j /\ Q (.bl (!(!(Zwl j i 0 j.length 1).isEmpty))) H) := by
 intro pins s σ H x y v u Q I rx ry h
 obtain ⟨i, j, rfl, rfl, q⟩ := h
 obtain ⟨t, rfl⟩ := rx
 obtain ⟨t', rfl⟩ := ry
 exact notIn_str ⟨.bl _, H, I, rfl, q⟩
theorem Hm : CallR X (.builtin "len") (fun xs H Q => ∃ p ys, xs = [.ref p] /\ (SqL X.K H p ys \/ SqT X.K H p ys) /\ Q (.int ys.length) H) := by
 intro pins s σ H xs us Q I r h
 obtain ⟨p, ys, rfl, hq, q⟩ := h
 obtain ⟨u, rfl, rx⟩ := Gh r
 cases rx
 have hn := Ij
 rcases hq with hq | hq
 ·obtain ⟨its, r', pl, hz⟩ := I.list hq
  have hlen := r'.length
  exact Calls.call_len_list pl.isList (by simp only [Zzp] <;> omega) ⟨.int ys.length, H, I.tok _, ⟨s.toks + 1, by rw [Zzp, hlen]⟩, q⟩
 ·obtain ⟨its, r', pl, hz⟩ := I.tuple hq
  have hlen := r'.length
  exact len_tuple pl (by simp only [Zzp] <;> omega) ⟨.int ys.length, H, I.tok _, ⟨s.toks + 1, by rw [Zzp, hlen]⟩, q⟩
theorem S8 : CallR X (.builtin "len") (fun xs H Q => ∃ z, xs = [.str z] /\ z.length <= sizeLine /\ Q (.int z.length) H) := by
 intro pins s σ H xs us Q I r h
 obtain ⟨z, rfl, hz, q⟩ := h
 obtain ⟨u, rfl, t, rfl⟩ := Gh r
 have hn := Ij
 exact len_str (by omega) ⟨.int z.length, H, I.tok _, ⟨_, rfl⟩, q⟩
theorem CallR.or {f : Value} {r r' : List V -> Hp -> VK -> Prop} (h : CallR X f r) (h' : CallR X f r') : CallR X f (fun xs H Q => r xs H Q \/ r' xs H Q) := by
 intro pins s σ H xs us Q I rs q
 rcases q with q | q
 ·exact h pins s σ H xs us Q I rs q
 ·exact h' pins s σ H xs us Q I rs q
theorem Pi : CallR X (.type "tuple") (fun xs H Q => ∃ p ys, xs = [.ref p] /\ ((SqL X.K H p ys /\ ∀ l, H l = none -> Q (.ref l) (upd H l (.tup ys))) \/ (SqT X.K H p ys /\ Q (.ref p) H))) := by
 intro pins s σ H xs us Q I r h
 obtain ⟨p, ys, rfl, h⟩ := h
 obtain ⟨u, rfl, rx⟩ := Gh r
 cases rx
 rcases h with ⟨hq, q⟩ | ⟨hq, q⟩
 ·obtain ⟨its, r', pl, hz⟩ := I.list hq
  have hlen := r'.length
  refine call_tuple_list pl.isList (fun h' kp => ?_) (by simp only [Zzp] <;> omega)
  have I1 : Inv X pins σ H { s with heap := h' } := I.kept (t' := s.toks) kp
  have I2 : Inv X pins σ (upd H h'.objs.size (.tup ys)) { s with heap := h'.push { cls := .type "tuple", data := .seq its.toArray } } :=
   I1.laid (t' := s.toks) (fun b o e => Zzy _ e) (Zzt _) (show ObjOk X.prog X.w _ _ _ (.tup ys) from ⟨hz, its, r', IsTup.new _ _⟩)
  exact ⟨.ref h'.objs.size, _, I2, rfl, q _ (I1.hok.fresh (Zzt _))⟩
 ·obtain ⟨its, r', pl, hz⟩ := I.tuple hq
  exact call_tuple_same pl ⟨.ref p, H, I, rfl, q⟩
def tyV (K : Zzu) (T : String) (x : V) (H : Hp) : Prop := match x with
 | .str _ => T = "str"
 | .int _ => T = "int"
 | .ref p => (T = "list" /\ ∃ xs, SqL K H p xs) \/ (T = "tuple" /\ ∃ o, K.lookup p = some o /\ o.cls = .type "tuple" /\ o.dict = none) \/
   (T = "dict" /\ ((∃ kvs, H p = some (.dK kvs)) \/ ∃ kvs, H p = some (.dT kvs))) \/ (T = "set" /\ ∃ S n, H p = some (.set S n))
 | _ => False
theorem jj {pins : List (Addr × Obj)} {σ : St} {H : Hp} {s : Shared} {T : String} {x : V} {v : Value} (I : Inv X pins σ H s) (r : RelV x v) (ty : tyV X.K T x H) :
  s.TypeIs v T /\ ∀ a, v = .ref a -> ∃ ob, s.heap.get? a = some ob /\ ob.dict = none := by
 cases x with
 | str z =>
  obtain ⟨t, rfl⟩ := r
  cases (show T = "str" from ty)
  exact ⟨typeIs_str s z t, fun _ e => nomatch e⟩
 | int i =>
  obtain ⟨t, rfl⟩ := r
  cases (show T = "int" from ty)
  exact ⟨typeIs_int s i t, fun _ e => nomatch e⟩
 | ref p =>
  cases r
  rcases ty with ⟨rfl, xs, hq⟩ | ⟨rfl, o, hk, hc, hd⟩ | ⟨rfl, hk⟩ | ⟨rfl, S, n, hk⟩
  ·obtain ⟨its, _, pl, _⟩ := I.list hq
   refine ⟨pl.isList.typeIs, fun a e => ?_⟩
   cases e
   obtain ⟨o, n, e, c, hd, _⟩ := pl
   exact ⟨o, e, hd⟩
  ·refine ⟨⟨o, I.kIn p o hk, hc⟩, fun a e => ?_⟩
   cases e
   exact ⟨o, I.kIn _ o hk, hd⟩
  ·have z : ∃ o, s.heap.get? p = some o /\ o.ExactDict := by
    rcases hk with ⟨kvs, hk⟩ | ⟨kvs, hk⟩
    ·obtain ⟨_, _, _, _, o, _, _, e, ex, _⟩ := I.hok p _ hk
     exact ⟨o, e, ex⟩
    ·obtain ⟨_, _, _, _, o, _, _, e, ex, _⟩ := I.hok p _ hk
     exact ⟨o, e, ex⟩
   obtain ⟨o, e, ex⟩ := z
   refine ⟨⟨o, e, ex.1⟩, fun a e2 => ?_⟩
   cases e2
   exact ⟨o, e, ex.2.1⟩
  ·obtain ⟨o, _, _, _, e, ex, _⟩ := I.hok p _ hk
   refine ⟨⟨o, e, ex.1⟩, fun a e2 => ?_⟩
   cases e2
   exact ⟨o, e, ex.2.1⟩
 | _ => exact False.elim ty
variable {o e : Expr} {es : List Expr} {to : TE} {t : TA} {name : Str} {apos cpos : Pos} {T id : String} {r : V -> List V -> Hp -> VK -> Prop}
end
def MtM (X : Cx) (id : String) (r : V -> List V -> Hp -> VK -> Prop) : Prop :=
 ∀ (pins : List (Addr × Obj)) (s : Shared) (σ : St) (H : Hp) (x : V) (xs : List V) (v : Value) (us : List Value) (Q : VK), Inv X pins σ H s -> RelV x v -> Vals xs us -> r x xs H Q ->
  wpAny (model X.prog X.w) X.A (call (.builtin id) (v :: us)) (EP X pins σ Q) X.xe s
theorem Vals.one : ∀ {x : V} {us : List Value}, Vals [x] us -> ∃ u, us = [u] /\ RelV x u
 | _, _, .cons r .nil => ⟨_, rfl, r⟩
theorem Vals.zero : ∀ {us : List Value}, Vals [] us -> us = []
 | _, .nil => rfl
theorem Vals.eraseIdx : ∀ {xs : List V} {us : List Value} (i : Nat), Vals xs us -> Vals (xs.eraseIdx i) (us.eraseIdx i)
 | _, _, _, .nil => .nil
 | _, _, 0, .cons _ t => t
 | _, _, i + 1, .cons r t => .cons r (Vals.eraseIdx i t)
theorem Vals.reverse {xs : List V} {us : List Value} (h : Vals xs us) : Vals xs.reverse us.reverse := by
 induction h with
 | nil => exact .nil
 | cons r t ih => rw [List.reverse_cons, List.reverse_cons]; exact Vals.append ih (.cons r .nil)
theorem Vals.rep {xs : List V} {us : List Value} (h : Vals xs us) : ∀ k : Nat, Vals (Zyw k xs).flatten (Zyw k us).flatten
 | 0 => .nil
 | k + 1 => by
  rw [Zxn, Zxn, Zwj, Zwj]
  exact Vals.append h (Vals.rep h k)
theorem Qo (its : List Value) : ∀ (k : Nat) (acc : List Value),
  List.foldl (fun x1 x2 => x1 ++ x2) acc.toArray (Zyw k its.toArray) = (acc ++ (Zyw k its).flatten).toArray
 | 0, acc => by simp
 | k + 1, acc => by
  have e : acc.toArray ++ its.toArray = (acc ++ its).toArray := by simp
  have e2 : (acc ++ its) ++ (Zyw k its).flatten = acc ++ (Zyw (k + 1) its).flatten := by
   rw [Zxn, Zwj, List.append_assoc]
  rw [<- e2, <- Qo its k (acc ++ its), <- e, Zxn, List.foldl_cons]
section
variable {X : Cx} {pins : List (Addr × Obj)} {σ : St} {H : Hp} {s : Shared} {l b : Addr} {xs ys zs : List V}
theorem Inv.lset {its its' : List Value} {n : Nat} {f : Array Value -> Array Value} {t' : Nat} (I : Inv X pins σ H s) (hH : H l = some (.lst xs))
  (e : s.heap.get? l = some { cls := .type "list", data := .seq its.toArray n }) (hf : f its.toArray = its'.toArray) (hv : Vals ys its') (hz : ys.length <= sizeLine) :
  Inv X pins σ (upd H l (.lst ys)) { s with heap := s.heap.update l (Obj.mapSeq f), toks := t' } := by
 have q := PySem.IsL.update e f
 rw [hf] at q
 refine I.write (x := l) (e := l) (by rw [hH]; exact trivial) (.inl rfl) (fun b' u hb hu => (Zyc s.heap (Obj.mapSeq f) (Zzh hb)).trans hu) ⟨_, q⟩ ?_
 exact ⟨hz, its', _, hv, q⟩
theorem Inv.lnew {its : List Value} {t' : Nat} (I : Inv X pins σ H s) (hv : Vals ys its) (hz : ys.length <= sizeLine) :
  Inv X pins σ (upd H s.heap.objs.size (.lst ys)) { s with heap := s.heap.push { cls := .type "list", data := .seq its.toArray }, toks := t' } :=
 I.laid (fun _ _ q => Zzy _ q) (Zzt _) ⟨hz, its, 0, hv, Zzf _ rfl⟩
theorem Inv.fresh (I : Inv X pins σ H s) : H s.heap.objs.size = none := I.hok.fresh (Zzt _)
theorem Inv.lstM (I : Inv X pins σ H s) (hH : H l = some (.lst xs)) : xs.length <= sizeLine /\ ∃ (its : List Value) (n : Nat), Vals xs its /\ xs.length = its.length /\ s.heap.get? l = some { cls := .type "list", data := .seq its.toArray n } := by
 obtain ⟨z, its, n, r, e⟩ := I.hok l _ hH
 exact ⟨z, its, n, r, r.length, e⟩
theorem Z8 {n : Nat} (h : n <= sizeLine) : Zws n = false := by
 unfold Zws
 exact decide_eq_false (by omega)
end
section
variable {X : Cx}
def rAppend : V -> List V -> Hp -> VK -> Prop := fun x vs H Q => ∃ l xs y, x = .ref l /\ vs = [y] /\ H l = some (.lst xs) /\ xs.length < sizeLine /\ Q .non (upd H l (.lst (xs ++ [y])))
theorem D9 : MtM X "list.append" rAppend := by
 intro pins s σ H x vs v us Q I rx rv h
 obtain ⟨l, xs, y, rfl, rfl, hH, hz, q⟩ := h
 cases rx
 obtain ⟨u, rfl, ru⟩ := rv.one
 obtain ⟨z, its, n, r, hl, e⟩ := I.lstM hH
 refine call_meets F.slot_list_append ⟨_, e, rfl⟩ F.entry_list_append (F.args_list_append_2 _ _) (PySem.list_append l its.toArray n u (by rw [Zzp]; omega)) ⟨e, ?_⟩
 refine ⟨.non, _, I.lset (its' := its ++ [u]) hH e (by simp) (r.append (.cons ru .nil)) ?_, rfl, q⟩
 rw [Zyv, Zyy]
 omega
def jx : V -> List V -> Hp -> VK -> Prop := fun x vs H Q => ∃ l xs i k y, x = .ref l /\ vs = [.int i] /\ H l = some (.lst xs) /\ -(2 ^ 63) <= i /\ i < 2 ^ 63 /\ seqIndex? i xs.length = some k /\ xs[k]? = some y /\ Q y (upd H l (.lst (xs.eraseIdx k)))
def Yt : V -> List V -> Hp -> VK -> Prop := fun x vs H Q => ∃ l xs, x = .ref l /\ vs = [] /\ H l = some (.lst xs) /\ Q .non (upd H l (.lst xs.reverse))
def rCat : R2 := fun x y H Q => ∃ l b xs zs, x = .ref l /\ y = .ref b /\ H l = some (.lst xs) /\ H b = some (.lst zs) /\ xs.length + zs.length <= sizeLine /\ ∀ p, H p = none -> Q (.ref p) (upd H p (.lst (xs ++ zs)))
theorem N6 : OpR X (binaryOp .Add) rCat := by
 intro pins s σ H x y v u Q I rx ry h
 obtain ⟨l, b, xs, zs, rfl, rfl, hH, hB, hz, q⟩ := h
 cases rx
 cases ry
 obtain ⟨z, its, n, r, hl, e⟩ := I.lstM hH
 obtain ⟨z2, its2, n2, r2, hl2, e2⟩ := I.lstM hB
 refine PySem.P.add_list e e2 ?_ (by rw [Zzp, Zzp]; omega)
 have ea : its.toArray ++ its2.toArray = (its ++ its2).toArray := by simp
 rw [ea]
 exact ⟨.ref _, _, I.lnew (t' := s.toks) (r.append r2) (by rw [Zyv]; omega), rfl, q _ I.fresh⟩
def rRep : R2 := fun x y H Q => ∃ l k xs, x = .ref l /\ y = .int k /\ H l = some (.lst xs) /\ -(2 ^ 63) <= k /\ k < 2 ^ 63 /\ xs.length * k.toNat <= sizeLine /\
 ∀ p, H p = none -> Q (.ref p) (upd H p (.lst (Zyw k.toNat xs).flatten))
theorem fm {α : Type} (xs : List α) (k : Nat) : (Zyw k xs).flatten.length = k * xs.length := by
 induction k with
 | zero => simp
 | succ k ih => rw [Zxn, Zwj, Zyv, ih, Nat.succ_mul, Nat.add_comm]
theorem Uq : OpR X (binaryOp .Mult) rRep := by
 intro pins s σ H x y v u Q I rx ry h
 obtain ⟨l, k, xs, rfl, rfl, hH, h1, h2, hz, q⟩ := h
 cases rx
 obtain ⟨t, rfl⟩ := ry
 obtain ⟨z, its, n, r, hl, e⟩ := I.lstM hH
 have hlen : its.toArray.size * k.toNat <= sizeLine := by rw [Zzp, <- hl]; exact hz
 have hcap : ¬ its.toArray.size * k.toNat > (2 ^ 63 - 1) / 8 := by
  have : (sizeLine : Nat) <= (2 ^ 63 - 1) / 8 := by decide
  omega
 have hfit : ¬ (!Builtin.List.listFitsIndex k) = true := by
  rw [fitsIndex_both h1 h2]
  exact Zz2
 have hlong : ¬ Zws (its.toArray.size * k.toNat) = true := by
  rw [Z8 hlen]
  exact Zz2
 have hnew : List.foldl (fun x1 x2 => x1 ++ x2) #[] (Zyw (if its.toArray.isEmpty = true then 0 else k.toNat) its.toArray) = (Zyw k.toNat its).flatten.toArray := by
  have f0 : ∀ m : Nat, List.foldl (fun x1 x2 => x1 ++ x2) #[] (Zyw m its.toArray) = (Zyw m its).flatten.toArray := fun m => by
   have := Qo its m []
   rw [List.nil_append] at this
   exact this
  rw [f0]
  cases its with
  | nil => simp
  | cons a r' => rw [if_neg (by simp)]
 refine wpAny_binaryOp_repeat_ref (T := "list") (U := "int") (by decide) ⟨_, e, rfl⟩ (fun s' => typeIs_int s' k t) noFill_list_mul F.fills_int_mul F.slot_int_rmul repeat_list F.slot_int_index.lookup
  (call_meets F.slot_int_rmul (typeIs_int s k t) F.entry_int_rmul (F.args_int_rmul_2 _ _) (int___rmul___int_list k t l its.toArray n)
   ⟨e, rfl, ⟨_, e, rfl⟩, call_meets F.slot_list_mul ⟨_, e, rfl⟩ F.entry_list_mul (F.args_list_mul_2 _ _) (AutoListH.list___mul___list_int_3 l its.toArray n k t hfit hcap hlong) ⟨e, ?_⟩⟩)
 rw [hnew]
 exact ⟨.ref _, _, I.lnew (t' := s.toks) (r.rep k.toNat) (by rw [fm, Nat.mul_comm]; exact hz), rfl, q _ I.fresh⟩
end
section
variable {prog : Program} {w : World} {A : Around} {E : Value -> Shared -> Prop} {s : Shared}
end
section
variable {X : Cx}
end
section
variable {κ : Type} [DecidableEq κ]
def C5 (kvs : List (κ × V)) (k : κ) : Option V := (kvs.find? fun kv => decide (kv.1 = k)).map (·.2)
def Eu (kvs : List (κ × V)) (k : κ) (v : V) : List (κ × V) :=
 if (kvs.any fun kv => decide (kv.1 = k)) = true then kvs.map (fun kv => if kv.1 = k then (kv.1, v) else kv) else kvs ++ [(k, v)]
def j9 (kvs : List (κ × V)) (k : κ) : List (κ × V) := kvs.filter fun kv => decide (kv.1 ≠ k)
theorem Cq {p : κ × V} {r : List (κ × V)} {k : κ} (e : p.1 = k) : C5 (p :: r) k = some p.2 := by simp [C5, Zx4, e]
theorem Ci {p : κ × V} {r : List (κ × V)} {k : κ} (e : ¬ p.1 = k) : C5 (p :: r) k = C5 r k := by simp [C5, Zx4, e]
theorem Et (k : κ) : ∀ kvs : List (κ × V), (kvs.any fun kv => decide (kv.1 = k)) = (C5 kvs k).isSome
 | [] => rfl
 | p :: r => by
  rw [Zx5]
  by_cases e : p.1 = k
  ·simp only [Cq e, decide_eq_true e, Bool.true_or, Option.isSome_some]
  ·rw [Ci e, decide_eq_false e, Bool.false_or]; exact Et k r
theorem Sj (k j : κ) (y : V) : ∀ kvs : List (κ × V), C5 (kvs.map fun kv => if kv.1 = k then (kv.1, y) else kv) j = (C5 kvs j).map fun x => if j = k then y else x
 | [] => rfl
 | p :: r => by
  have ih := Sj k j y r
  rw [Zz7]
  by_cases h : p.1 = k
  ·rw [if_pos h]
   by_cases e : p.1 = j
   ·rw [Cq (p := (p.1, y)) e, Cq e, Zxi, if_pos (e.symm.trans h)]
   ·rw [Ci (p := (p.1, y)) e, Ci e, ih]
  ·rw [if_neg h]
   by_cases e : p.1 = j
   ·rw [Cq (p := p) e, Cq e, Zxi, if_neg (fun z => h (e.trans z))]
   ·rw [Ci (p := p) e, Ci e, ih]
theorem Po (k j : κ) (y : V) : ∀ kvs : List (κ × V), C5 kvs k = none -> C5 (kvs ++ [(k, y)]) j = if j = k then some y else C5 kvs j
 | [], _ => by
  by_cases e : k = j
  ·rw [if_pos e.symm]; exact Cq (p := (k, y)) e
  ·rw [if_neg (fun z => e z.symm)]; exact Ci (p := (k, y)) e
 | p :: r, hn => by
  rw [Zwb]
  have hk : ¬ p.1 = k := fun z => by rw [Cq z] at hn; cases hn
  rw [Ci hk] at hn
  have ih := Po k j y r hn
  by_cases e : p.1 = j
  ·rw [Cq e, Cq e, if_neg (fun z => hk (e.trans z))]
  ·rw [Ci e, Ci e, ih]
theorem Gi (kvs : List (κ × V)) (k j : κ) (y : V) : C5 (Eu kvs k y) j = if j = k then some y else C5 kvs j := by
 unfold Eu
 by_cases a : (kvs.any fun kv => decide (kv.1 = k)) = true
 ·rw [if_pos a, Sj]
  rw [Et] at a
  by_cases e : j = k
  ·obtain ⟨x, hx⟩ := Zxa.mp a
   rw [if_pos e, e, hx, Zxi, if_pos rfl]
  ·rw [if_neg e]
   cases C5 kvs j with
   | none => rfl
   | some x => rw [Zxi, if_neg e]
 ·rw [if_neg a]
  refine Po k j y kvs ?_
  rw [Et] at a
  cases q : C5 kvs k with
  | none => rfl
  | some x => rw [q] at a; exact (a rfl).elim
theorem Ik (kvs : List (κ × V)) (k : κ) (v : V) : (Eu kvs k v).length <= kvs.length + 1 := by
 unfold Eu
 split
 ·rw [Zzz]; omega
 ·rw [Zyv, Zxm, Zw3]; omega
theorem My {kvs : List (κ × V)} {k : κ} (v : V) (h : C5 kvs k = none) : Eu kvs k v = kvs ++ [(k, v)] := by
 unfold Eu
 rw [Et, h]
 exact if_neg (by decide)
theorem RelO.isSome_eq {o : Option V} {u : Option Value} (r : RelO o u) : o.isSome = u.isSome := by
 cases o with
 | none => cases u with
  | none => rfl
  | some _ => exact (show False from r).elim
 | some _ => cases u with
  | none => exact (show False from r).elim
  | some _ => rfl
theorem RelO.getD {o : Option V} {u : Option Value} {d : V} {d' : Value} (r : RelO o u) (rd : RelV d d') : RelV (o.getD d) (u.getD d') := by
 cases o with
 | none => cases u with
  | none => exact rd
  | some _ => exact (show False from r).elim
 | some _ => cases u with
  | none => exact (show False from r).elim
  | some _ => exact r
theorem KV.val {kvs : List (κ × V)} {vs : List (κ × Value)} (r : KV kvs vs) (k : κ) : RelO (C5 kvs k) (valueAt vs k) := by
 unfold KV at r
 induction r with
 | nil => exact True.intro
 | @cons p q ps qs h t ih =>
  obtain ⟨h1, h2⟩ := h
  by_cases e : p.1 = k
  ·have e' : q.1 = k := h1.symm.trans e
   have b : valueAt (q :: qs) k = some q.2 := by simp [valueAt, Zx4, e']
   rw [Cq e, b]; exact h2
  ·have e' : ¬ q.1 = k := fun z => e (h1.trans z)
   have b : valueAt (q :: qs) k = valueAt qs k := by simp [valueAt, Zx4, e']
   rw [Ci e, b]; exact ih
theorem KV.any {kvs : List (κ × V)} {vs : List (κ × Value)} (r : KV kvs vs) (k : κ) : (kvs.any fun kv => decide (kv.1 = k)) = vs.any fun kv => decide (kv.1 = k) := by
 unfold KV at r
 induction r with
 | nil => rfl
 | cons h t ih => rw [Zx5, Zx5, ih, h.1]
theorem KV.repl {kvs : List (κ × V)} {vs : List (κ × Value)} (r : KV kvs vs) (k : κ) {y : V} {u : Value} (ry : RelV y u) :
  KV (kvs.map fun kv => if kv.1 = k then (kv.1, y) else kv) (vs.map fun kv => if kv.1 = k then (kv.1, u) else kv) := by
 unfold KV at r ⊢
 induction r with
 | nil => exact .nil
 | @cons p q ps qs h t ih =>
  rw [Zz7, Zz7]
  refine .cons ?_ ih
  obtain ⟨h1, h2⟩ := h
  by_cases e : p.1 = k
  ·rw [if_pos e, if_pos (h1.symm.trans e)]; exact ⟨h1, ry⟩
  ·rw [if_neg e, if_neg (fun z => e (h1.trans z))]; exact ⟨h1, h2⟩
theorem KV.put {kvs : List (κ × V)} {vs : List (κ × Value)} (r : KV kvs vs) (k : κ) {y : V} {u : Value} (ry : RelV y u) : KV (Eu kvs k y) (stored vs k u) := by
 unfold Eu stored
 rw [r.any k]
 by_cases e : (vs.any fun kv => decide (kv.1 = k)) = true
 ·rw [if_pos e, if_pos e]; exact r.repl k ry
 ·rw [if_neg e, if_neg e]; exact Paired.snoc r ⟨rfl, ry⟩
theorem KV.drop {kvs : List (κ × V)} {vs : List (κ × Value)} (r : KV kvs vs) (k : κ) : KV (j9 kvs k) (without vs k) := by
 unfold KV at r ⊢
 unfold j9 without
 induction r with
 | nil => exact .nil
 | @cons p q ps qs h t ih =>
  obtain ⟨h1, h2⟩ := h
  rw [List.filter_cons, List.filter_cons]
  by_cases e : p.1 = k
  ·have a : ¬ decide (p.1 ≠ k) = true := by simp [e]
   have b : ¬ decide (q.1 ≠ k) = true := by simp [h1.symm.trans e]
   rw [if_neg a, if_neg b]; exact ih
  ·have e' : ¬ q.1 = k := fun z => e (h1.trans z)
   have a : decide (p.1 ≠ k) = true := by simp [e]
   have b : decide (q.1 ≠ k) = true := by simp [e']
   rw [if_pos a, if_pos b]; exact .cons ⟨h1, h2⟩ ih
theorem KV.keys {kvs : List (κ × V)} {vs : List (κ × Value)} (r : KV kvs vs) : kvs.map (·.1) = vs.map (·.1) := by
 unfold KV at r
 induction r with
 | nil => rfl
 | cons h t ih => rw [Zz7, Zz7, ih, h.1]
theorem KV.length {kvs : List (κ × V)} {vs : List (κ × Value)} (r : KV kvs vs) : kvs.length = vs.length := Paired.length r
end
theorem Qi {P : Program} {w : World} {k : Key} {u : Value} (r : RelV (kV k) u) : (Bk P w).is k u = true := by
 cases k with
 | inl i => obtain ⟨t, e⟩ := (show ∃ t, u = Value.int i t from r); subst e; exact Tp P w i t
 | inr x => obtain ⟨t, e⟩ := (show ∃ t, u = Value.str x t from r); subst e; exact To P w x t
theorem Qj {P : Program} {w : World} : ∀ {ks : List Key} {us : List Value}, Vals (ks.map kV) us -> ItemsAre (Bk P w) ks us
 | [], _, r => by rw [Zwr] at r; cases r; exact .nil
 | k :: ks, _, r => by
  rw [Zz7] at r
  cases r with
  | cons h t => exact .cons (Qi h) (Qj t)
abbrev KT (H : Hp) : List (List Key × V) -> List (List Key × Addr × Value) -> Prop := Paired fun p q => p.1 = q.1 /\ H q.2.1 = some (.tup (p.1.map kV)) /\ RelV p.2 q.2.2
theorem KT.val {H : Hp} {kvs : List (List Key × V)} {xs : List (List Key × Addr × Value)} (r : KT H kvs xs) (k : List Key) : RelO (C5 kvs k) ((atKey xs k).map (·.2)) := by
 induction r with
 | nil => exact True.intro
 | @cons p q ps qs h t ih =>
  obtain ⟨h1, _, h2⟩ := h
  by_cases e : p.1 = k
  ·have e' : q.1 = k := h1.symm.trans e
   have b : atKey (q :: qs) k = some q.2 := by simp [atKey, Zx4, e']
   rw [Cq e, b]; exact h2
  ·have e' : ¬ q.1 = k := fun z => e (h1.trans z)
   have b : atKey (q :: qs) k = atKey qs k := by simp [atKey, Zx4, e']
   rw [Ci e, b]; exact ih
theorem KT.repl {H : Hp} {kvs : List (List Key × V)} {xs : List (List Key × Addr × Value)} (r : KT H kvs xs) (k : List Key) {y : V} {u : Value} (ry : RelV y u) :
  KT H (kvs.map fun kv => if kv.1 = k then (kv.1, y) else kv) (xs.map (putAt k u)) := by
 induction r with
 | nil => exact .nil
 | @cons p q ps qs h t ih =>
  rw [Zz7, Zz7]
  refine .cons ?_ ih
  obtain ⟨h1, h2, h3⟩ := h
  unfold putAt
  by_cases e : p.1 = k
  ·rw [if_pos e, if_pos (h1.symm.trans e)]; exact ⟨h1, h2, ry⟩
  ·rw [if_neg e, if_neg (fun z => e (h1.trans z))]; exact ⟨h1, h2, h3⟩
theorem KT.put {H : Hp} {kvs : List (List Key × V)} {xs : List (List Key × Addr × Value)} (r : KT H kvs xs) (k : List Key) {b : Addr} {y : V} {u : Value} (hb : H b = some (.tup (k.map kV))) (ry : RelV y u) :
  KT H (Eu kvs k y) (storedH xs k b u) := by
 have e : (kvs.any fun kv => decide (kv.1 = k)) = (atKey xs k).isSome := by
  rw [Et, (r.val k).isSome_eq, Option.isSome_map]
 unfold Eu storedH
 rw [e]
 by_cases q : (atKey xs k).isSome = true
 ·rw [if_pos q, if_pos q]; exact r.repl k ry
 ·rw [if_neg q, if_neg q]; exact Paired.snoc r ⟨rfl, hb, ry⟩
theorem KT.keeps {H H' : Hp} {kvs : List (List Key × V)} {xs : List (List Key × Addr × Value)} (r : KT H kvs xs) (ht : ∀ b ys, H b = some (.tup ys) -> H' b = some (.tup ys)) : KT H' kvs xs :=
 Paired.mapP r fun _ _ z => ⟨z.1, ht _ _ z.2.1, z.2.2⟩
section
variable {P : Program} {w : World} {H : Hp} {h : Heap} {a : Addr}
theorem ir {u : HO} (ok : HOk P w H h) (e : Rd H a u) : ObjOk P w H h a u := e.ok ok
theorem Lw {kvs : List (Key × V)} (ok : HOk P w H h) (e : Rd H a (.dK kvs)) : kvs.length <= sizeLine /\ (a == sysModules) = false /\ ∃ vs, KV kvs vs /\ h.DictOf (Bk P w) a vs :=
 show ObjOk P w H h a (.dK kvs) from ir ok e
theorem qj {kvs : List (Key × V)} (ok : HOk P w H h) (e : H a = some (.dK kvs)) : kvs.length <= sizeLine /\ (a == sysModules) = false /\ ∃ vs, KV kvs vs /\ h.DictOf (Bk P w) a vs := Lw ok (.inl e)
theorem Nr {ks : List Key} (ok : HOk P w H h) (e : H a = some (.tup (ks.map kV))) : (tupleKind (Bk P w)).is h ks a := by
 obtain ⟨_, its, r, o, h1, h2, n, h3⟩ := (show ObjOk P w H h a (.tup (ks.map kV)) from ok a _ e)
 exact ⟨o, its.toArray, n, h1, h2, h3, by simpa using Qj r⟩
theorem Qr {kvs : List (List Key × V)} (ok : HOk P w H h) (e : Rd H a (.dT kvs)) : kvs.length <= sizeLine /\ (a == sysModules) = false /\
  ∃ xs, KT H kvs xs /\ h.DictOfH (tupleKind (Bk P w)) a xs := by
 obtain ⟨z, y, xs, r, o, es, ep, h1, h2, h3, h4, h5⟩ := (show ObjOk P w H h a (.dT kvs) from ir ok e)
 refine ⟨z, y, xs, r, o, es, ep, h1, h2, h3, h4, fun x hx => ?_, h5⟩
 have all : ∀ {l : List (List Key × V)} {m : List (List Key × Addr × Value)}, KT H l m -> ∀ x ∈ m, (tupleKind (Bk P w)).is h x.1 x.2.1 := by
  intro l m q
  induction q with
  | nil => intro x hx; exact nomatch hx
  | @cons p q ps qs hq t ih =>
   intro x hx
   rcases Zzk.mp hx with e | hx
   ·subst e
    exact Nr ok (by rw [<- hq.1]; exact hq.2.1)
   ·exact ih x hx
 exact all r x hx
theorem qi {kvs : List (List Key × V)} (ok : HOk P w H h) (e : H a = some (.dT kvs)) : kvs.length <= sizeLine /\ (a == sysModules) = false /\
  ∃ xs, KT H kvs xs /\ h.DictOfH (tupleKind (Bk P w)) a xs := Qr ok (.inl e)
end
def DGet (H : Hp) (a : Addr) (y : V) (r : Option V) : Prop :=
 (∃ kvs k, Rd H a (.dK kvs) /\ y = kV k /\ r = C5 kvs k) \/ ∃ kvs k b, Rd H a (.dT kvs) /\ y = .ref b /\ H b = some (.tup (k.map kV)) /\ r = C5 kvs k
def DPut (H : Hp) (a : Addr) (y v : V) (H' : Hp) : Prop :=
 (∃ kvs k, H a = some (.dK kvs) /\ y = kV k /\ kvs.length < sizeLine /\ H' = upd H a (.dK (Eu kvs k v))) \/
 ∃ kvs k b, H a = some (.dT kvs) /\ y = .ref b /\ H b = some (.tup (k.map kV)) /\ kvs.length < sizeLine /\ H' = upd H a (.dT (Eu kvs k v))
theorem DGet.k {H : Hp} {a : Addr} {kvs : List (Key × V)} {k : Key} (e : H a = some (.dK kvs)) : DGet H a (kV k) (C5 kvs k) := .inl ⟨kvs, k, .inl e, rfl, rfl⟩
theorem DGet.t {H : Hp} {a b : Addr} {kvs : List (List Key × V)} {k : List Key} (e : H a = some (.dT kvs)) (eb : H b = some (.tup (k.map kV))) : DGet H a (.ref b) (C5 kvs k) := .inr ⟨kvs, k, b, .inl e, rfl, eb, rfl⟩
theorem DPut.k {H : Hp} {a : Addr} {kvs : List (Key × V)} {k : Key} {v : V} (e : H a = some (.dK kvs)) (hl : kvs.length < sizeLine) : DPut H a (kV k) v (upd H a (.dK (Eu kvs k v))) := .inl ⟨kvs, k, e, rfl, hl, rfl⟩
theorem DPut.t {H : Hp} {a b : Addr} {kvs : List (List Key × V)} {k : List Key} {v : V} (e : H a = some (.dT kvs)) (eb : H b = some (.tup (k.map kV))) (hl : kvs.length < sizeLine) :
  DPut H a (.ref b) v (upd H a (.dT (Eu kvs k v))) := .inr ⟨kvs, k, b, e, rfl, eb, hl, rfl⟩
section
variable {X : Cx} {pins : List (Addr × Obj)} {σ : St} {H : Hp} {s : Shared} {a : Addr} {y v : V} {u r : Value} {o : Option V} {A : Around} {E : Value -> Shared -> Prop}
theorem Inv.big (I : Inv X pins σ H s) : sysModules < s.heap.objs.size := by
 have h : mainGlobals < s.heap.objs.size := (I.mod.glob.keeps I.bk).lt
 exact Nat.lt_trans (by decide) h
theorem Xx {Q : Value -> Shared -> Prop} (hu : A.units + 1 < cLine) (I : Inv X pins σ H s) (g : DGet H a y (some v)) (ry : RelV y u) (h : ∀ w' s', Inv X pins σ H s' -> RelV v w' -> Q w' s') :
  wpAny (model X.prog X.w) A (getItem (.ref a) u) Q E s := by
 rcases g with ⟨kvs, k, e, ey, l⟩ | ⟨kvs, k, b, e, ey, eb, l⟩
 ·subst ey
  obtain ⟨z, hd, vs, rel, dd⟩ := Lw I.hok e
  obtain ⟨w', hw, rw'⟩ := RelO.some_of (v := v) (o := valueAt vs k) (by rw [l]; exact rel.val k)
  exact wpAny_getItem_of (Qi ry) dd.mapOf hw (h w' _ (I.tok _) rw')
 ·subst ey
  cases (show u = Value.ref b from ry)
  obtain ⟨z, hd, xs, rel, dd⟩ := Qr I.hok e
  obtain ⟨w', hw, rw'⟩ := RelO.some_of (v := v) (o := (atKey xs k).map (·.2)) (by rw [l]; exact rel.val k)
  obtain ⟨p, hp, hp2⟩ := Option.map_eq_some_iff.mp hw
  refine wpAny_getItem_heap (tupleKind_room_in1 hu) (Nr I.hok eb) dd hp ?_
  rw [hp2]
  exact h w' _ (I.tok _) rw'
theorem d_in {Q : Value -> Shared -> Prop} (hu : A.units + 1 < cLine) (I : Inv X pins σ H s) (g : DGet H a y o) (ry : RelV y u) (h : ∀ s', Inv X pins σ H s' -> Q (.bool o.isSome) s') :
  wpAny (model X.prog X.w) A (compareOp .In u (.ref a)) Q E s := by
 rcases g with ⟨kvs, k, e, ey, l⟩ | ⟨kvs, k, b, e, ey, eb, l⟩
 ·subst ey
  obtain ⟨z, hd, vs, rel, dd⟩ := Lw I.hok e
  refine wpAny_in_of (Qi ry) hd dd.mapOf ?_
  rw [<- (rel.val k).isSome_eq, <- l]
  exact h _ (I.tok _)
 ·subst ey
  cases (show u = Value.ref b from ry)
  obtain ⟨z, hd, xs, rel, dd⟩ := Qr I.hok e
  refine wpAny_in_heap (tupleKind_room_in1 hu) (Nr I.hok eb) hd dd ?_
  have q := (rel.val k).isSome_eq
  rw [Option.isSome_map] at q
  rw [<- q, <- l]
  exact h _ (I.tok _)
theorem gl {Q : Value -> Shared -> Prop} (hu : A.units + 1 < cLine) (I : Inv X pins σ H s) (g : DGet H a y o) (ry : RelV y u) (h : ∀ s', Inv X pins σ H s' -> Q (.bool (!o.isSome)) s') :
  wpAny (model X.prog X.w) A (compareOp .NotIn u (.ref a)) Q E s := by
 rcases g with ⟨kvs, k, e, ey, l⟩ | ⟨kvs, k, b, e, ey, eb, l⟩
 ·subst ey
  obtain ⟨z, hd, vs, rel, dd⟩ := Lw I.hok e
  refine wpAny_notIn_of (Qi ry) hd dd.mapOf ?_
  rw [<- (rel.val k).isSome_eq, <- l]
  exact h _ (I.tok _)
 ·subst ey
  cases (show u = Value.ref b from ry)
  obtain ⟨z, hd, xs, rel, dd⟩ := Qr I.hok e
  refine wpAny_notIn_heap (tupleKind_room_in1 hu) (Nr I.hok eb) hd dd ?_
  have q := (rel.val k).isSome_eq
  rw [Option.isSome_map] at q
  rw [<- q, <- l]
  exact h _ (I.tok _)
theorem W8 {h' : Heap} {t' : Nat} {ob : HO} (I : Inv X pins σ H s) (mu : Mut (H a)) (hs : Zy6 a s.heap h') (he : ∃ q, h'.get? a = some q) (new : ObjOk X.prog X.w (upd H a ob) h' a ob) :
  Inv X pins σ (upd H a ob) { s with heap := h', toks := t' } :=
 I.write (x := a) (e := a) mu (.inl rfl) (fun b q hb z => (hs.2 b hb).trans z) he new
theorem m6 {P : Program} {w : World} {H' : Hp} {h' : Heap} {kvs : List (Key × V)} {vs : List (Key × Value)} (z : kvs.length <= sizeLine) (hd : (a == sysModules) = false) (rel : KV kvs vs) (dd : h'.DictOf (Bk P w) a vs) :
  ObjOk P w H' h' a (.dK kvs) := ⟨z, hd, vs, rel, dd⟩
theorem Xw {H' : Hp} {Q : Unit -> Shared -> Prop} (hu : A.units + 1 < cLine) (I : Inv X pins σ H s) (g : DPut H a y v H') (ry : RelV y u) (rv : RelV v r) (h : ∀ s', Inv X pins σ H' s' -> Q () s') :
  wpAny (model X.prog X.w) A (setItem (.ref a) u r) Q E s := by
 rcases g with ⟨kvs, k, e, ey, l, eH⟩ | ⟨kvs, k, b, e, ey, eb, l, eH⟩
 ·subst ey eH
  obtain ⟨z, hd, vs, rel, dd⟩ := qj I.hok e
  have hz : vs.length <= sizeLine := by rw [<- rel.length]; exact z
  have hl : (Eu kvs k v).length <= sizeLine := by have := Ik kvs k v; omega
  refine wpAny_setItem_pairs (hsz := hz) (Qi ry) dd fun h' dd' hs => h _ ?_
  have he : ∃ q, h'.get? a = some q := let ⟨q, _, _, hq, _⟩ := dd'; ⟨q, hq⟩
  exact W8 I (by rw [e]; exact True.intro) hs he (m6 hl hd (rel.put k rv) dd')
 ·subst ey eH
  cases (show u = Value.ref b from ry)
  obtain ⟨z, hd, xs, rel, dd⟩ := qi I.hok e
  have hz : xs.length <= sizeLine := by rw [<- Paired.length rel]; exact z
  have hl : (Eu kvs k v).length <= sizeLine := by have := Ik kvs k v; omega
  refine wpAny_setItem_heap (hsz := hz) (tupleKind_room_in1 hu) (Nr I.hok eb) dd fun h' dd' hs => h _ ?_
  obtain ⟨q, es, ep, hq, h2, h3, h4, _, h5⟩ := dd'
  refine W8 I (by rw [e]; exact True.intro) hs ⟨q, hq⟩ ⟨hl, hd, _, (rel.put k eb rv).keeps fun c ys ec => ?_, q, es, ep, hq, h2, h3, h4, h5⟩
  rw [A5 (Vx ec e (fun z => nomatch z))]
  exact ec
end
section
variable {X : Cx} {pins : List (Addr × Obj)} {σ : St} {H : Hp} {s : Shared} {a : Addr} {kvs : List (Key × V)} {k : Key} {u : Value} {A : Around} {E : Value -> Shared -> Prop}
theorem qk {Q : Value -> Shared -> Prop} (I : Inv X pins σ H s) (e : Rd H a (.dK kvs)) (h : ∀ t s', Inv X pins σ H s' -> Q (.int kvs.length t) s') : wpAny (model X.prog X.w) A (call (.builtin "len") [.ref a]) Q E s := by
 obtain ⟨z, hd, vs, rel, dd⟩ := Lw I.hok e
 refine call_len_dict hd dd (by rw [<- rel.length]; rw [sizeLine_eq] at z; omega) ?_
 rw [<- rel.length]
 exact h _ _ (I.tok _)
end
theorem U4 {X : Cx} {pins : List (Addr × Obj)} {σ : St} {H : Hp} {s : Shared} {a : Addr} {y : V} {o : Option V} (I : Inv X pins σ H s) (g : DGet H a y o) : s.TypeIs (.ref a) "dict" := by
 rcases g with ⟨kvs, k, e, _, _⟩ | ⟨kvs, k, b, e, _, _, _⟩
 ·obtain ⟨_, _, vs, _, dd⟩ := Lw I.hok e
  exact dd.typeIs
 ·obtain ⟨_, _, xs, _, dd⟩ := Qr I.hok e
  exact dd.typeIs
section
variable {X : Cx} {o i e value : Expr} {pos pos' tpos : Pos} {td ty tv : TE}
end
theorem ah {P : Program} {w : World} {H : Hp} (h : Heap) (hb : sysModules < h.objs.size) : ObjOk P w H (h.push { cls := .type "dict", data := .dict #[] }) h.objs.size (.dK []) :=
 ⟨Zyq _, beq_eq_false_iff_ne.mpr (Zzh (Zz0 hb)), [], .nil, Heap.DictOf.new h⟩
def tDNewK : TE := fun _ H Q => ∀ p, H p = none -> Q (.ref p) (upd H p (.dK []))
section
variable {X : Cx} {pos : Pos}
theorem G0 : PE X (.Dict [] [] pos) tDNewK := fun pins s σ H Q I h =>
 wpAny_Dict_empty ⟨.ref s.heap.objs.size, _, I.laid (a := s.heap.objs.size) (o := .dK []) (t' := s.toks) (fun _ _ q => Zzy _ q) (Zzt _) (ah s.heap I.big), rfl, h _ (I.hok.fresh (Zzt _))⟩
end
def IsD (H : Hp) (a : Addr) : Prop := (∃ kvs, Rd H a (.dK kvs)) \/ ∃ kvs, Rd H a (.dT kvs)
theorem lx {X : Cx} {pins : List (Addr × Obj)} {σ : St} {H : Hp} {s : Shared} {a : Addr} (I : Inv X pins σ H s) (d : IsD H a) :
  s.TypeIs (.ref a) "dict" /\ (∀ b, Value.ref a = .ref b -> ∃ ob, s.heap.get? b = some ob /\ ob.dict = none) /\ (a == sysModules) = false := by
 rcases d with ⟨kvs, e⟩ | ⟨kvs, e⟩
 ·obtain ⟨_, hd, vs, _, dd⟩ := Lw I.hok e
  refine ⟨dd.typeIs, fun b q => ?_, hd⟩
  cases q
  obtain ⟨ob, _, _, h1, h2, _⟩ := dd
  exact ⟨ob, h1, h2.2.1⟩
 ·obtain ⟨_, hd, xs, _, dd⟩ := Qr I.hok e
  refine ⟨dd.typeIs, fun b q => ?_, hd⟩
  cases q
  obtain ⟨ob, _, _, h1, h2, _⟩ := dd
  exact ⟨ob, h1, h2.2.1⟩
section
variable {X : Cx} {pins : List (Addr × Obj)} {σ : St} {H : Hp} {s : Shared} {a : Addr} {y d : V} {u r : Value} {o : Option V} {A : Around} {E : Value -> Shared -> Prop}
end
section
variable {X : Cx} {o e f : Expr} {apos cpos : Pos} {td ty tx : TE}
end
section
variable {X : Cx} {pins : List (Addr × Obj)} {σ : St} {H : Hp} {s : Shared} {a : Addr} {kvs : List (Key × V)} {A : Around} {E : Value -> Shared -> Prop}
end
section
variable {X : Cx} {pins : List (Addr × Obj)} {σ : St} {H : Hp} {s : Shared} {a : Addr} {y : V} {u : Value} {A : Around} {E : Value -> Shared -> Prop}
end
end L2
namespace Att
open PySem PySem.W PySem.Calls PyProof.Rows
theorem M3 {P : Params} {h : Heap} : ∀ (ns : List Int) (vs : List Value), WellAll P h vs (ns.map WData.int) -> IntsAre vs ns := by
 intro ns
 induction ns with
 | nil =>
  intro vs w
  rw [Zwr] at w
  cases w
  exact .nil
 | cons n ns ih =>
  intro vs w
  rw [Zz7] at w
  cases w with
  | cons a b =>
   cases a
   exact .cons _ _ (ih _ b)
theorem Ww {l : OpenLaw} {n : Nat} (hn : l.most = some n) {P : Params} {h : Heap} {args : List WData} {vals : List Value}
  (hpre : l.row.toRowW.claim.pre args = true) (hwl : WellAll P h vals args) :
  ∃ a vs ns, vals = [Value.ref a] /\ args = [WData.list (ns.map WData.int)] /\ h.get? a = some { cls := .type "list", data := .seq vs.toArray } /\ IntsAre vs ns /\ ns.length <= n := by
 have hsh : WShape.hasAll [] args [.list .int] = true := (pre_splitW hpre).1
 have hc : l.pre.holds [] { args := args } = true := (pre_splitW hpre).2
 obtain ⟨d, r, rfl, h1, h2⟩ := hasAllW_cons hsh
 obtain rfl := hasAllW_nil h2
 obtain ⟨xs, rfl, h3⟩ := hasW_list h1
 obtain ⟨ns, rfl⟩ := items_int h3
 have hlen : ns.length <= n := by
  unfold OpenLaw.pre at hc
  have h4 : (WTm.not (.lt (.lit (.int (n : Int))) (.len (.arg 0)))).holds [] { args := [.list (ns.map .int)] } = true := by
   have h4 := (holds_andW hc).1
   rw [hn] at h4
   exact h4
  have h5 := condW_of h4 (w_not (w_lt w_lit (w_len_list (w_arg rfl))))
  rw [Zzz] at h5
  refine Nat.le_of_not_lt fun q => ?_
  have q' : (n : Int) < ((ns.length : Nat) : Int) := by omega
  first
   | (rw [decide_eq_true q'] at h5; exact absurd h5 (by decide))
   | (simp at h5; omega)
 cases hwl with
 | cons w1 w2 =>
  cases w2
  cases w1 with
  | list ho hall => exact ⟨_, _, ns, rfl, rfl, ho, M3 ns _ hall, hlen⟩
theorem Wz (l : OpenLaw) (args : List WData) : l.row.toRowW.claim.post args (.bool true) args = true :=
 postW_of (r := l.row.toRowW) (X := (true == true))
  (show WShape.has [] (.bool true) .bool = true by first | rfl | decide | simp [WShape.has, WShape.arms, WShape.armsAll])
  (show (WTm.eq .res (.lit (.bool true))).value [] { args := args, res := some (.bool true), after := args } = some (.bool (true == true)) from w_eq_bool (w_res rfl) w_lit) rfl
theorem attach_call {l : OpenLaw} {n : Nat} {q : Program} {loose : List Str} {XP : (Str -> Option Value) -> Heap -> Prop} {YP : World -> Heap -> Prop} {d : DefRec}
  (hn : l.most = some n) (hdf : d.params.defaults = [])
  (call : ∀ (w : World) (s₀ s₁ : Shared) (mg mb : Str -> Option Value) (fa : Addr) (o : Obj) (pm cd doc : Value) (a : Addr) (vs : List Value) (ns : List Int),
   Ground q loose [] XP w s₀ mg mb s₁.heap -> YP w s₁.heap ->
   s₁.heap.get? fa = some o -> o.data = .func (docDef d.name d.params d.body d.scope pm cd doc) -> s₁.heap.CodeRec cd d.name -> mg d.name = some (.ref fa) ->
   s₁.heap.get? a = some { cls := .type "list", data := .seq vs.toArray } -> IntsAre vs ns -> ns.length <= n -> s₁.gens = #[] ->
   codeAny (model l.prog w) callerA (.call (.ref fa) ⟨[.ref a], []⟩) (fun r s' => r = .ok (.ret (.bool true)) /\ OldK s₁.heap s'.heap /\ s'.os = s₁.os /\ AllBare s'.gens) s₁) :
  WalkO q loose XP YP l.row.toRowW d [] (fun f vs => PySem.call f vs) := by
 intro w s₀ s₁ mg mb G Y fa o pm cd doc dV kV ho hd hcd hD hmg hg args vals as hpre hlay hrd hwl hlo
 obtain rfl : dV = .none := Dflts.none hD hdf
 obtain rfl : kV = .none := Dflts.noKw hD
 obtain ⟨a, vs, ns, rfl, rfl, hobj, hints, hlen⟩ := Ww hn hpre hwl
 refine enter_call (codeAny_mono (call w s₀ s₁ mg mb fa o pm cd doc a vs ns G Y ho (fd_plain hd) hcd hmg hobj hints hlen hg) fun r s' hq => ?_)
 obtain ⟨rfl, h2, h3, h4⟩ := hq
 exact ⟨.inl ⟨.bool true, .bool true, [], rfl, fun _ => rfl, .bool true, Wz l _, fun _ => ⟨List.Pairwise.nil, fun _ hm => (nomatch hm)⟩⟩, h2, h3, h4⟩
section
variable {prog : Program} {w : World} {A : Around} {E : Value -> Shared -> Prop} {s : Shared} {K : Frag}
end
end Att
namespace L2
open PySem PySem.Spec PyProof.Rows
theorem Pm : ∀ {vs : List Value} {ns : List Int}, IntsAre vs ns -> Vals (ns.map V.int) vs
 | _, _, .nil => .nil
 | _, _, .cons n t h => .cons ⟨t, rfl⟩ (Pm h)
def Ai (s : Stmt) : Arguments := match s with
 | .FunctionDef _ a _ _ _ _ _ _ _ _ => a
 | _ => { posonlyargs := [], args := [], vararg := none, kwonlyargs := [], kw_defaults := [], kwarg := none, defaults := [] }
def Ae (s : Stmt) : List Stmt := match s with
 | .FunctionDef _ _ b _ _ _ _ _ _ _ => b
 | _ => []
def A8 (s : Stmt) : Scope := match s with
 | .FunctionDef _ _ _ _ _ _ sc _ _ _ => sc
 | _ => { kind := .function, names := [], isGenerator := false, isCoroutine := false }
abbrev CX0 : CXT := fun _ _ _ _ _ _ => False
abbrev E0 : XK := fun _ _ _ => False
theorem pk {X : Cx} : Vc CX0 X E0 := fun _ _ _ _ _ _ _ h => h.elim
structure Fun (K : Zzu) (x qual : Str) (st : Stmt) (f : Addr) (fd : FuncData) : Prop where
 ex : ∃ (oc : Value) (od : Option Addr) (kV doc pm : Value) (an : Option Addr) (cdv ct : Value) (osl : Array (Option Value)),
  fd = Zzi x qual (Ai st) (Ae st) (A8 st) .none kV doc pm an cdv ct /\ K.lookup f = some ⟨oc, od, .func fd, osl⟩ /\ Zzm K cdv qual = true
 kp : Zzo K (.ref f) = true
section
variable {P : Program} {w : World} {K : Zzu} {mg : Str -> Option Value} {base : Heap}
theorem Fun.ok {x qual : Str} {st : Stmt} {f : Addr} {fd : FuncData} {N ps : List Str} {k : Nat} {sp : Sp} (F : Fun K x qual st f fd) (S : Aj N ps (A8 st)) (len : ∀ vs H Q E, sp vs H Q E -> vs.length = ps.length)
  (hbody : ∀ (cdv : Value) (A : Around) (outer : List Env) (s : Shared) (H : Hp) (vs : List V) (Q : VK) (E : XK), Room k (A.deeper (envOfC qual (A8 st) s.heap.objs.size f cdv)) -> sp vs H Q E ->
   ∃ t, PSs (Pf CX0 P w K mg base N qual (A8 st) f cdv A outer s H E).nox (Ae st) t /\ t { nx := fun _ H' => Q .non H', rt := Q } (Hu N vs) H) : FnOk P w K mg base CX0 (k + 1) f fd ps sp := by
 obtain ⟨oc, od, kV, doc, pm, an, cdv, ct, osl, rfl, lk, hcd⟩ := F.ex
 refine ae lk hcd S len fun A outer s H vs Q E hr hsp => ?_
 obtain ⟨t, h, q⟩ := hbody cdv A outer s H vs Q E hr hsp
 exact ⟨t, h.nox, q⟩
theorem Fun.binds {x qual : Str} {st : Stmt} {f : Addr} {fd : FuncData} {ps : List Str} (F : Fun K x qual st f fd)
  (h : ∀ (kV doc pm : Value) (an : Option Addr) (cdv ct : Value) (us : List Value), us.length = ps.length -> bindArgs (Zzi x qual (Ai st) (Ae st) (A8 st) .none kV doc pm an cdv ct) ⟨us, []⟩ = pure (ps.zip us)) : Binds K fd ps [] := by
 obtain ⟨oc, od, kV, doc, pm, an, cdv, ct, osl, rfl, lk, hcd⟩ := F.ex
 exact .all (h kV doc pm an cdv ct)
theorem Ap {x qual : Str} {st : Stmt} {f : Addr} {oc : Value} {od an : Option Addr} {osl : Array (Option Value)} {kV doc pm cdv ct : Value} (l : K.lookup f = some ⟨oc, od, .func (Zzi x qual (Ai st) (Ae st) (A8 st) .none kV doc pm an cdv ct), osl⟩)
  (c : Zzm K cdv qual = true) (k : Zzo K (.ref f) = true) : Fun K x qual st f (Zzi x qual (Ai st) (Ae st) (A8 st) .none kV doc pm an cdv ct) := ⟨⟨oc, od, kV, doc, pm, an, cdv, ct, osl, rfl, l, c⟩, k⟩
end
theorem Aq {A : Around} {k : Nat} (hr : Room k A) : A.units + 1 < cLine := Zyx (Nat.add_le_add_left (by decide : 1 <= 64) _) hr.units
section
variable {X : Cx}
theorem pv (i : Nat) {x : Str} {pos : Pos} (hN : X.N[i]? = some x := by rfl) (hv : Vis X.env.scope x := by first | exact Zzq rfl | exact Or.inr (Zzq rfl) | exact Or.inr (Or.inr rfl)) (hd : (x == ("__debug__" : Str)) = false := by decide)
  (hcd : (x == ("__classdict__" : Str)) = false := by decide) : PE X (.Name x pos) (Yk i) := kq hN hv hd hcd
theorem Y4 : CallR X (.builtin "len") (fun xs H Q => ∃ a kvs, xs = [V.ref a] /\ H a = some (.dK kvs) /\ Q (.int kvs.length) H) := by
 intro pins s σ H xs us Q I r h
 obtain ⟨a, kvs, rfl, ha, q⟩ := h
 obtain ⟨u, rfl, ru⟩ := Gh r
 cases ru
 exact qk I (.inl ha) fun t s' I' => ⟨.int kvs.length, H, I', ⟨t, rfl⟩, q⟩
end
theorem iteF {A B : Prop} (h : B) : if false = true then A else B := by
 rw [if_neg Zz2]
 exact h
theorem D3 {c A B : Prop} [Decidable c] (h1 : c -> A) (h2 : ¬ c -> B) : if c then A else B := by
 by_cases h : c
 ·rw [if_pos h]
  exact h1 h
 ·rw [if_neg h]
  exact h2 h
theorem j4 {c A B : Prop} [Decidable c] (hc : c) (h : B) : if (!decide c) = true then A else B := by
 rw [decide_eq_true hc]
 exact iteF h
def Same (H H' : Hp) : Prop := ∀ b o, H b = some o -> H' b = some o
theorem Same.refl (H : Hp) : Same H H := fun _ _ h => h
theorem Same.trans {H H1 H2 : Hp} (a : Same H H1) (b : Same H1 H2) : Same H H2 := fun c o h => b c o (a c o h)
theorem Same.free {H H' : Hp} (e : Same H H') {l : Addr} (h : H' l = Option.none) : H l = Option.none := by
 cases q : H l with
 | none => rfl
 | some o =>
  rw [e l o q] at h
  cases h
theorem Same.seq {K : Zzu} {H H' : Hp} {a : Addr} {xs : List V} (e : Same H H') (h : SqL K H a xs) : SqL K H' a xs := by
 rcases h with (h | ⟨o, h⟩) | h
 ·exact .inl (.inl (e _ _ h))
 ·exact .inl (.inr ⟨o, e _ _ h⟩)
 ·exact .inr h
section
variable {κ : Type} [DecidableEq κ]
theorem cw {kvs : List (κ × V)} {k : κ} {v : V} (h : C5 kvs k = some v) : k ∈ kvs.map (·.1) := by
 have q : (kvs.any fun kv => decide (kv.1 = k)) = true := by
  rw [Et, h]
  all_goals rfl
 obtain ⟨p, hp, e⟩ := List.any_eq_true.mp q
 exact Zzx.mpr ⟨p, hp, of_decide_eq_true e⟩
end
theorem Pg {env : Env} : ∀ (names : List (Str × NameKind)) (acc : List (Str × Addr)), (∀ y ∈ names, y.2 = .free -> ∃ c, env.cells.lookup y.1 = some c) -> (∀ x c, acc.lookup x = some c -> env.cells.lookup x = some c) ->
  ∃ cl, (forIn names acc (fun x r => if (x.2 == Zyz) = true then do let c <- cellOf env x.1; pure (ForInStep.yield ((x.1, c) :: r)) else pure (ForInStep.yield r)) : Sem _) = pure cl /\
   (∀ x c, cl.lookup x = some c -> env.cells.lookup x = some c) /\ (∀ x, ((x, Zyz) ∈ names \/ ∃ c, acc.lookup x = some c) -> ∃ c, cl.lookup x = some c) := by
 intro names
 induction names with
 | nil => intro acc h ha; exact ⟨acc, rfl, ha, fun x hx => by simpa using hx⟩
 | cons y r ih =>
  intro acc h ha
  obtain ⟨n, k⟩ := y
  have hr : ∀ y ∈ r, y.2 = .free -> ∃ c, env.cells.lookup y.1 = some c := fun y hy => h y (Zze _ hy)
  rw [List.forIn_cons]
  by_cases hk : k = .free
  ·subst hk
   obtain ⟨c, hc⟩ := h (n, .free) Zzb rfl
   have e : cellOf env n = pure c := by unfold cellOf; rw [hc]
   obtain ⟨cl, e1, a, b⟩ := ih ((n, c) :: acc) hr (fun x c' hx => by
    rw [Zya] at hx
    cases hxn : x == n with
    | true =>
     rw [hxn] at hx
     cases hx
     rw [eq_of_beq hxn]
     exact hc
    | false =>
     rw [hxn] at hx
     exact ha x c' hx)
   refine ⟨cl, ?_, a, fun x hx => b x ?_⟩
   ·rw [<- e1]
    show (if (Zyz == Zyz) = true then (cellOf env n >>= _) else _) >>= _ = _
    rw [if_pos (show (Zyz == Zyz) = true from rfl), e]
    rfl
   ·rcases hx with hx | ⟨c', hx⟩
    ·rcases Zzk.mp hx with e2 | hx
     ·have e3 : x = n := congrArg Prod.fst e2
      exact .inr ⟨c, by rw [Zya, e3]; simp⟩
     ·exact .inl hx
    ·refine .inr ?_
     rw [Zya]
     cases x == n with
     | true => exact ⟨c, rfl⟩
     | false => exact ⟨c', hx⟩
  ·obtain ⟨cl, e1, a, b⟩ := ih acc hr ha
   refine ⟨cl, ?_, a, fun x hx => b x ?_⟩
   ·rw [<- e1]
    have hb : (k == Zyz) = false := by simpa using hk
    show (if (k == Zyz) = true then _ else _) >>= _ = _
    rw [if_neg (by rw [hb]; simp)]
    rfl
   ·rcases hx with hx | hx
    ·rcases Zzk.mp hx with e2 | hx
     ·exact absurd (congrArg Prod.snd e2).symm hk
     ·exact .inl hx
    ·exact .inr hx
theorem Hn {scope : Scope} {env : Env} (h : ∀ y ∈ scope.names, y.2 = .free -> ∃ c, env.cells.lookup y.1 = some c) :
  ∃ cl, closureFor scope env = pure cl /\ (∀ x c, cl.lookup x = some c -> env.cells.lookup x = some c) /\ (∀ x, (x, Zyz) ∈ scope.names -> ∃ c, cl.lookup x = some c) := by
 obtain ⟨cl, e, a, b⟩ := Pg scope.names [] h (by intro x c e; cases e)
 refine ⟨cl, ?_, a, fun x hx => b x (.inl hx)⟩
 unfold closureFor
 exact congrArg (fun m => m >>= fun x => pure x) e
def cpN (N own : List Str) (cap : List Nat) : List Str := own ++ cap.map fun j => N.getD j ""
def Im (own : List Str) (cap : List Nat) (σ : St) : St := own.map (fun _ => none) ++ cap.map fun j => σ.getD j none
structure J4 (N : List Str) (osc sc : Scope) (own : List Str) (cap : List Nat) : Prop where
 kind : sc.kind = .function
 names : ∀ x ∈ sc.names, x.2 = .local -> sc.names.lookup x.1 = some .local
 nocell : ∀ y ∈ sc.names, y.2 ≠ .cell
 free : ∀ y ∈ sc.names, y.2 = .free -> osc.names.lookup y.1 = some .cell \/ osc.names.lookup y.1 = some .free
 cap : ∀ j ∈ cap, j < N.length /\ sc.names.lookup (N.getD j "") = some .free
def Cf (X : Cx) (sc : Scope) (own : List Str) (cap : List Nat) (cl : List (Str × Addr)) (C : Addr) (s : Shared) (H : Hp) (fp : List Addr) (pins : List (Addr × Obj)) : Cx :=
 { X with N := cpN X.N own cap, s₀ := s, H₀ := H, env := compEnvC sc cl C X.env, outer := X.stack, ex := fp, fn := fun _ => false, pn := X.pn ++ pins, xe := fun _ _ => False }
def PTs (X : Cx) (ifs : List Expr) (tt : TT) : Prop :=
 ∀ (pins : List (Addr × Obj)) (s : Shared) (σ : St) (H : Hp) (Q : Bool -> Hp -> Prop), Inv X pins σ H s -> tt σ H Q ->
  wpAny (model X.prog X.w) X.A (forIn ifs true fun c r => if r = true then do let ok <- isTrue c X.env (eval c X.env); pure (ForInStep.yield ok) else pure (ForInStep.yield r)) (TP X pins σ Q) X.xe s
def tYes : TT := fun _ H Q => Q true H
theorem E7 {X : Cx} : PTs X [] tYes := fun _ _ _ H _ I h => wpAny_tests_nil ⟨H, I, h⟩
theorem Vn {X : Cx} {c : Expr} {tt : TT} (h : PT X c tt) : PTs X [c] tt := fun pins s σ H Q I hq => wpAny_tests_one (h pins s σ H Q I hq)
def ce (n : Nat) (g : TG) : Prop := ∀ v σ H Q, g v σ H Q -> g v σ H fun σ' H' => (σ'.length = σ.length /\ ∀ j, n <= j -> σ'[j]? = σ[j]?) /\ Q σ' H'
theorem Cv {n i : Nat} (h : i < n) : ce n (Fe i) := fun v σ H Q q => ⟨⟨by simp, fun j hj => by rw [Zy1 (by omega)]⟩, q⟩
def Yo (own : List Str) (cap : List Nat) (wi : TI) (g : TG) (tt : TT) (te : TE) : TE := fun σ H Q => wi σ H fun J H1 => ∃ W : Nat -> Nat -> List V -> Hp -> Prop, (∃ m, W 0 m [] H1) /\ ∀ i m acc H, W i m acc H -> acc.length <= sizeLine /\
 ((J.stop i H /\ ∀ p, H p = none -> Q (.ref p) (upd H p (.lst acc))) \/
  (J.go i H /\ acc.length < sizeLine /\ ∃ N : List V -> Hp -> Prop, (∀ acc' H', N acc' H' -> ∃ m', m' < m /\ W (i + 1) m' acc' H') /\ ∀ x H', J.yld i H x H' -> g x (Im own cap σ) H' fun σ2 H2 => tt σ2 H2 fun b H3 => if b = true then te σ2 H3 fun y H4 => N (acc ++ [y]) H4 else N acc H3))
section
variable {prog : Program} {w : World} {A : Around} {R : Result -> Shared -> Prop} {s : Shared}
theorem J7 {elt target iter : Expr} {ifs : List Expr} {scope : Scope} {pos : Pos} {it acc : Value} {env : Env} (I : Nat -> Shared -> Prop)
  (turn : ∀ n s, I n s -> wpAny (model prog w) A (pyNext it) (fun r s₁ => match r with
   | none => R (.ok .next) s₁
   | some v => wpAny (model prog w) A (letOwnedTupleGo target it v) (fun _ s₁' => wpAny (model prog w) A (assign target env v) (fun _ s₂ =>
     wpAny (model prog w) A (forIn ifs true fun c r => if r = true then do let ok <- isTrue c env (eval c env); pure (ForInStep.yield ok) else pure (ForInStep.yield r)) (fun ok s₃ =>
      if ok = true then wpAny (model prog w) A (eval elt env) (fun x s₄ =>
       wpAny (model prog w) A (call (.builtin "list.append") [acc, x]) (fun _ s₅ => ∃ m, m < n /\ I m s₅) (fun _ _ => False) s₄) (fun _ _ => False) s₃
      else ∃ m, m < n /\ I m s₃) (fun _ _ => False) s₂) (fun _ _ => False) s₁') (fun _ _ => False) s₁) (fun _ _ => False) s)
  (n : Nat) (h : I n s) :
  codeAny (model prog w) A (.compLoop (.ListComp elt [⟨target, iter, ifs, 0⟩] scope pos) 0 it acc env) R s := by
 refine codeAny_loop rfl I (fun n s hI => ?_) n h
 show wpAny _ A ((compTurn (.ListComp elt [⟨target, iter, ifs, 0⟩] scope pos) 0 it acc env).onRaise (fun x => do noteFrame x env; theTreesLotGoes x)) _ _ s
 refine wpAny_noted ?_
 rw [compTurn_list]
 refine wpAny_bind (wpAny_standAt (wpAny_bind (wpAny_mono (turn n s hI) (fun r s₁ h₁ => ?_) fun _ _ h' => h'.elim)))
 cases r with
 | none => exact wpAny_pure h₁
 | some v =>
  refine wpAny_bind (wpAny_mono h₁ (fun _ s₁' h₁' => ?_) fun _ _ h' => h'.elim)
  refine wpAny_bind (wpAny_mono h₁' (fun _ s₂ h₂ => wpAny_bind (wpAny_mono h₂ (fun ok s₃ h₃ => ?_) fun _ _ h' => h'.elim)) fun _ _ h' => h'.elim)
  cases ok with
  | false => exact wpAny_pure ⟨rfl, h₃⟩
  | true =>
   exact wpAny_bind (wpAny_bind (wpAny_mono h₃ (fun x s₄ h₄ => wpAny_bind (wpAny_mono h₄ (fun _ s₅ h₅ => wpAny_pure (wpAny_pure ⟨rfl, h₅⟩)) fun _ _ h' => h'.elim)) fun _ _ h' => h'.elim))
end
section
variable {X : Cx}
theorem Qu {own : List Str} {cap : List Nat} {σ : St} {i : Nat} {v : V} (h : (Im own cap σ)[i]? = some (some v)) : own.length <= i /\ ∃ j, cap[i - own.length]? = some j /\ σ[j]? = some (some v) := by
 unfold Im at h
 by_cases hi : i < own.length
 ·rw [Zyo (by simpa using hi), Zzv] at h
  cases e : own[i]? with
  | none => rw [e] at h; cases h
  | some a => rw [e] at h; cases h
 ·have hi' : own.length <= i := by omega
  rw [Zyf (by simpa using hi'), Zzz, Zzv] at h
  refine ⟨hi', ?_⟩
  cases e : cap[i - own.length]? with
  | none => rw [e] at h; cases h
  | some j =>
   rw [e] at h
   have h2 : σ.getD j none = some v := Zzc h
   refine ⟨j, rfl, ?_⟩
   rw [Zza] at h2
   cases e2 : σ[j]? with
   | none => rw [e2] at h2; cases h2
   | some o => rw [e2] at h2; simp at h2; rw [h2]
theorem Ii {env : Env} {x : Str} {k : NameKind} : ∀ {names : List (Str × NameKind)}, names.lookup x = some k ->
  (names.map fun (n, k) => if (k == Zyz && env.scope.kind == .function && env.kindOf n == some .cell) then (n, Zww) else (n, k)).lookup x = some (if (k == Zyz && env.scope.kind == .function && env.kindOf x == some .cell) = true then .cell else k)
 | [], h => by simp at h
 | (n, k') :: r, h => by
  have ih := @Ii env x k r
  show List.lookup x ((if (k' == Zyz && env.scope.kind == .function && env.kindOf n == some .cell) = true then (n, Zww) else (n, k')) :: _) = _
  cases hx : x == n with
  | true =>
   simp only [Zya, hx] at h
   cases h
   have e := eq_of_beq hx
   subst e
   by_cases hc : (k == Zyz && env.scope.kind == .function && env.kindOf x == some .cell) = true
   ·rw [if_pos hc, if_pos hc]; simp [Zya]
   ·rw [if_neg hc, if_neg hc]; simp [Zya]
  | false =>
   simp only [Zya, hx] at h
   by_cases hc : (k' == Zyz && env.scope.kind == .function && env.kindOf n == some .cell) = true
   ·rw [if_pos hc]; simp only [Zya, hx]; exact ih h
   ·rw [if_neg hc]; simp only [Zya, hx]; exact ih h
theorem Fd {env : Env} {x : Str} : ∀ {names : List (Str × NameKind)}, (∀ y ∈ names, y.2 ≠ .cell) ->
  ((names.map fun (n, k) => if (k == Zyz && env.scope.kind == .function && env.kindOf n == some .cell) then (n, Zww) else (n, k)).lookup x = some .cell \/
   (names.map fun (n, k) => if (k == Zyz && env.scope.kind == .function && env.kindOf n == some .cell) then (n, Zww) else (n, k)).lookup x = some .free) -> (x, Zyz) ∈ names
 | [], _, h => by simp at h
 | (n, k') :: r, hn, h => by
  have ih := @Fd env x r fun y hy => hn y (Zze _ hy)
  have hk' : k' ≠ .cell := hn (n, k') Zzb
  have h : List.lookup x ((if (k' == Zyz && env.scope.kind == .function && env.kindOf n == some .cell) = true then (n, Zww) else (n, k')) :: _) = some .cell \/
   List.lookup x ((if (k' == Zyz && env.scope.kind == .function && env.kindOf n == some .cell) = true then (n, Zww) else (n, k')) :: _) = some .free := h
  cases hx : x == n with
  | true =>
   have e := eq_of_beq hx
   subst e
   by_cases hc : (k' == Zyz && env.scope.kind == .function && env.kindOf x == some .cell) = true
   ·have : k' = .free := by
     rw [Zyb, Zyb] at hc
     exact eq_of_beq hc.1.1
    rw [this]
    exact Zzb
   ·rw [if_neg hc] at h
    simp [Zya] at h
    rcases h with h | h
    ·exact absurd h hk'
    ·rw [h]; exact Zzb
  | false =>
   by_cases hc : (k' == Zyz && env.scope.kind == .function && env.kindOf n == some .cell) = true
   ·rw [if_pos hc] at h; simp only [Zya, hx] at h; exact Zze _ (ih h)
   ·rw [if_neg hc] at h; simp only [Zya, hx] at h; exact Zze _ (ih h)
end
theorem Cp {a b : Addr} {n : Nat} (h1 : a < n) (h2 : n <= b) : a ≠ b := Zz0 (Zz9 h1 h2)
section
variable {X : Cx} {pins : List (Addr × Obj)} {σ : St} {H : Hp} {s : Shared} {sc : Scope} {own : List Str} {cap : List Nat} {cl : List (Str × Addr)} {C : Addr} {fp : List Addr}
theorem ql (S : J4 X.N X.env.scope sc own cap) (cl1 : ∀ x c, cl.lookup x = some c -> X.env.cells.lookup x = some c) (cl2 : ∀ x, (x, Zyz) ∈ sc.names -> ∃ c, cl.lookup x = some c)
  (I : Inv X pins σ H s) (f : ∀ b ∈ fp, Ho X pins H b) (live : ∀ b ∈ fp, b < s.heap.objs.size) (hC : s.heap.objs.size <= C) : (Cf X sc own cap cl C s H fp pins).Ok where
 mod := I.ok.mod
 kind := S.kind
 glob := I.ok.glob
 blt := I.ok.blt
 above := hC
 inj := fun x y c h1 h2 => I.ok.inj x y c (cl1 x c h1) (cl1 y c h2)
 has := fun x hx => cl2 x (Fd S.nocell hx)
 cab := fun x c h => by cases h
 hd := I.ok.hd
 frames := I.ok.frames
 stk := .inl rfl
 exf := fun b hb => ⟨fun z => Cp (live b hb) hC z, fun x c e => (f b hb).2.2.2.2.1 x c (cl1 x c e)⟩
 bs := I.bs
 bsz := Zz5 I.ok.bsz I.sz
 noex := fun b o e hb => by
  rcases (f b hb).2.2.2.1 with z | z
  ·exact I.ok.noex b o e z
  ·exact Cp (Zz9 (Zzj e) I.ok.bsz) z rfl
 exfs := fun b hb z => by
  rcases Zzk.mp (I.stkSub b z) with q | q
  ·exact (f b hb).2.1 q
  ·exact (f b hb).2.2.1 q
 funs := I.stack
 frf := I.stkFree
theorem me (S : J4 X.N X.env.scope sc own cap) (cl1 : ∀ x c, cl.lookup x = some c -> X.env.cells.lookup x = some c) (cl2 : ∀ x, (x, Zyz) ∈ sc.names -> ∃ c, cl.lookup x = some c)
  (I : Inv X pins σ H s) (ok : (Cf X sc own cap cl C s H fp pins).Ok) (hC : s.heap.objs.size <= C) {h₁ : Heap} {tk : Nat} {m : Str -> Option Value} (hns : h₁.Ns C m) (old : ∀ b o, s.heap.get? b = some o -> h₁.get? b = some o) :
  Inv (Cf X sc own cap cl C s H fp pins) [] (Im own cap σ) H { s with heap := h₁, toks := tk } := by
 have cellK : ∀ x c v, X.env.cells.lookup x = some c -> s.heap.IsCell c v -> h₁.IsCell c v := fun x c v _ z => by
  obtain ⟨o, ho, hd⟩ := z
  exact ⟨o, old c o ho, hd⟩
 refine ⟨ok, rfl, I.bare, Un.kept old, ⟨m, hns, fun i x v e1 e2 e3 => ?_⟩, fun x c e => ?_, I.hok.fresh hC, fun x c e => I.freeC x c (cl1 x c e), fun p hp => ?_, I.hok.kept old, ?_⟩
 ·have e1 : (cpN X.N own cap)[i]? = some x := e1
  obtain ⟨hi, j, hj, hσ⟩ := Qu e2
  unfold cpN at e1
  rw [Zyf hi, Zzv, hj] at e1
  have e1 : X.N.getD j "" = x := Zzc e1
  obtain ⟨hjl, hfr⟩ := S.cap j (Zzn hj)
  have hx : X.N[j]? = some x := by rw [<- e1, Zza]; simp [hjl]
  rw [e1] at hfr
  have hfree := S.free (x, .free) (Zxs hfr) rfl
  obtain ⟨m0, _, hl⟩ := I.loc
  obtain ⟨u, r, l⟩ := hl j x v hx hσ (.inr hfree)
  refine ⟨u, r, ?_⟩
  rcases l with ⟨k, _⟩ | ⟨k, c, hc, z⟩
  ·have k : X.env.scope.names.lookup x = some .local := k
   rcases hfree with q | q <;> (rw [q] at k; cases k)
  ·obtain ⟨c', hc'⟩ := cl2 x (Zxs hfr)
   have e4 := cl1 x c' hc'
   rw [hc] at e4
   cases e4
   refine .inr ⟨?_, c, hc', cellK x c _ hc z⟩
   have q := Ii (env := X.env) hfr
   show (relabel sc X.env).names.lookup x = some .cell \/ (relabel sc X.env).names.lookup x = some .free
   have q' : (relabel sc X.env).names.lookup x = some (if (Zyz == Zyz && X.env.scope.kind == .function && X.env.kindOf x == some .cell) = true then .cell else .free) := q
   rw [q']
   split
   ·exact .inl rfl
   ·exact .inr rfl
 ·obtain ⟨v, z⟩ := I.cell x c (cl1 x c e)
  exact ⟨v, cellK x c v (cl1 x c e) z⟩
 ·have hp : p ∈ (X.pn ++ pins) ++ [] := hp
  rw [Zxz] at hp
  obtain ⟨e, n, ne, nf, d⟩ := I.pin p hp
  refine ⟨old _ _ e, n, fun z => ?_, fun z => ?_, d⟩
  ·exact Cp (Zzj e) hC z
  ·rcases Zzk.mp (I.stkSub p.1 z) with q | q
   ·exact ne q
   ·exact nf q
 ·show (Im own cap σ).length = (cpN X.N own cap).length
  unfold Im cpN
  simp
theorem gm (I : Inv X pins σ H s) (f : ∀ b ∈ fp, Ho X pins H b) (hC : s.heap.objs.size <= C) {D : Addr} (hD : s.heap.objs.size <= D) (hDC : D ≠ C) {σ' : St} {pl : List (Addr × Obj)} {H' : Hp} {s' : Shared} {acc : List V} {its : List Value} {nn : Nat}
  (J : Inv (Cf X sc own cap cl C s H fp pins) pl σ' H' s') (hDn : H' D = none) (hDo : s'.heap.get? D = some { cls := .type "list", data := .seq its.toArray nn }) (hv : Vals acc its) (hz : acc.length <= sizeLine) :
  Inv X pins σ (upd H' D (.lst acc)) s' /\ (∃ m, s'.heap.Ns C m) /\ Ho X pins (upd H' D (.lst acc)) C := by
 have u : Un (frs X.stack) fp H H' s.heap s'.heap := J.base
 have lt : ∀ b o, s.heap.get? b = some o -> b ≠ D := fun b o e z => Cp (Zzj e) hD z
 have trk : ∀ b o, H b = some o -> b ≠ D := fun b o e z => Cp (I.hok.lt e) hD z
 have CH : H' C = none := J.free
 refine ⟨I.call' (ch := fp) J.os ⟨u.keep, u.slot, fun b o e n hx => by rw [A5 (lt b o e)]; exact u.free b o e n hx, u.there, fun b xs e => by rw [A5 (trk b _ e)]; exact u.tups b xs e, fun b o xs e => by rw [A5 (trk b _ e)]; exact u.frzs b o xs e, fun b ps e => by rw [A5 (trk b _ e)]; exact u.tbls b ps e⟩ (fun b o e => ?_) J.bare fun b hb => ?_, ?_, ?_⟩
 ·by_cases hb : b = D
  ·subst hb
   rw [A0] at e
   cases e
   exact ⟨hz, its, nn, hv, hDo⟩
  ·rw [A5 hb] at e
   refine (J.hok b o e).stay (fun c v _ q => q) (fun c q => ?_) fun c xs q => ?_
   ·rw [A5 (A3 q hDn)]; exact q
   ·rw [A5 (A3 q hDn)]; exact q
 ·obtain ⟨f0, f1, f2, f3, f4, f5⟩ := f b hb
  exact ⟨f3, f1, f4, f5⟩
 ·obtain ⟨m, hn, _⟩ := J.loc
  exact ⟨m, hn⟩
 ·refine I.fpOk hC ?_
  rw [A5 (Zzh hDC)]
  exact CH
theorem Oc {elt tg iter : Expr} {ifs : List Expr} {pos : Pos} {g : TG} {tt : TT} {te : TE} {E : Value -> Shared -> Prop}
  {it : Addr} {tn : Nat -> Heap -> Prop} {J : It} {Q : VK} {RR : Value -> Addr -> Result -> Shared -> Prop}
  (hc : X.calm = true) (S : J4 X.N X.env.scope sc own cap) (hown : ce own.length g)
  (cl1 : ∀ x c, cl.lookup x = some c -> X.env.cells.lookup x = some c) (cl2 : ∀ x, (x, Zyz) ∈ sc.names -> ∃ c, cl.lookup x = some c)
  (hb : ∀ cl C s H fp pins, PG (Cf X sc own cap cl C s H fp pins) tg g /\ PTs (Cf X sc own cap cl C s H fp pins) ifs tt /\ PE (Cf X sc own cap cl C s H fp pins) elt te)
  (I : Inv X pins σ H s) (T : Lg X.prog X.w X.K tg J fp it tn) (st : tn 0 s.heap) (f : ∀ b ∈ fp, Ho X pins H b)
  (W : Nat -> Nat -> List V -> Hp -> Prop) (w0 : ∃ m, W 0 m [] H)
  (turn : ∀ i m acc H, W i m acc H -> acc.length <= sizeLine /\ ((J.stop i H /\ ∀ p, H p = none -> Q (.ref p) (upd H p (.lst acc))) \/ (J.go i H /\ acc.length < sizeLine /\ ∃ N : List V -> Hp -> Prop, (∀ acc' H', N acc' H' -> ∃ m', m' < m /\ W (i + 1) m' acc' H') /\ ∀ x H', J.yld i H x H' -> g x (Im own cap σ) H' fun σ2 H2 => tt σ2 H2 fun b H3 => if b = true then te σ2 H3 fun y H4 => N (acc ++ [y]) H4 else N acc H3)))
  (hRR : ∀ D C H' s', Inv X pins σ H' s' -> (∃ m, s'.heap.Ns C m) -> Ho X pins H' C -> Q (.ref D) H' -> RR (.ref D) C (.ok .next) s') :
  wpAny (model X.prog X.w) X.A (newList []) (fun acc s₃ => wpAny (model X.prog X.w) X.A (newFunctionEnv sc X.env.globals cl [] X.env.qual none .none (some X.env)) (fun cenv s₄ =>
   codeAny (model X.prog X.w) X.A (.compStart (.ListComp elt [⟨tg, iter, ifs, 0⟩] sc pos) 0 (.ref it) acc { cenv with scope := relabel sc X.env }) (RR acc cenv.locals) s₄) E s₃) E s := by
 refine wpAny_newObj_type (wpAny_newFunctionEnv S.nocell (by intro y hy; simp at hy) (fun h₁ hns₁ hsb₁ => ?_) S.kind)
 dsimp only at hns₁ hsb₁ ⊢
 generalize hH2 : s.heap.push { cls := .type "list", dict := none, data := .seq ([] : List Value).toArray } = H2 at hns₁ hsb₁ ⊢
 have hCs : H2.objs.size = s.heap.objs.size + 1 := by rw [<- hH2, Zy4]
 have hDC : s.heap.objs.size ≠ H2.objs.size := by omega
 have hCle : s.heap.objs.size <= H2.objs.size := by omega
 have old : ∀ b o, s.heap.get? b = some o -> h₁.get? b = some o := fun b o e => by
  exact hsb₁.extBut b o (Cp (Zzj e) hCle) (Zzy _ (hH2 ▸ Zzy _ e))
 have hacc : h₁.get? s.heap.objs.size = some { cls := .type "list", data := .seq ([] : List Value).toArray 0 } := hsb₁.extBut _ _ hDC (Zzy _ (hH2 ▸ Zzf _ rfl))
 have live : ∀ b ∈ fp, b < s.heap.objs.size := fun b hb => by
  obtain ⟨o, e, _⟩ := T.obj _ _ st b hb
  exact Zzj e
 have ok := ql (C := H2.objs.size) S cl1 cl2 I f live hCle
 have hDst : s.heap.objs.size ∉ frs X.stack := fun z => by
  rcases Zzk.mp (I.stkSub _ z) with q | q
  ·exact Cp I.lt (Zzt _) q.symm
  ·exact I.nofs (Zzt _) q
 have fpX : ∀ (H' : Hp) (pl : List (Addr × Obj)), (∀ b ∈ fp, H' b = none) -> (∀ p ∈ pl, ∀ b ∈ fp, p.1 ≠ b) -> ∀ b ∈ fp, Ho (Cf X sc own cap cl H2.objs.size s H fp pins) pl H' b := fun H' pl hn hp b hb => by
  obtain ⟨f0, f1, f2, f3, f4, f5⟩ := f b hb
  refine ⟨hn b hb, fun z => ?_, fun z => ?_, .inl hb, fun x c e => f4 x c (cl1 x c e), fun p hpp => ?_⟩
  ·exact Cp (live b hb) hCle z
  ·rcases Zzk.mp (I.stkSub b z) with q | q
   ·exact f1 q
   ·exact f2 q
  ·rcases Zz4.mp hpp with q | q
   ·exact f5 p q
   ·exact hp p q b hb
 have loop : ∀ s₃ : Shared, s₃ = { s with heap := h₁, toks := s.toks + ([] : List (Str × Value)).length } ->
   codeAny (model X.prog X.w) X.A (.compLoop (.ListComp elt [⟨tg, iter, ifs, 0⟩] sc pos) 0 (.ref it) (.ref s.heap.objs.size) (compEnvC sc cl H2.objs.size X.env))
    (RR (.ref s.heap.objs.size) H2.objs.size) s₃ := by
  rintro s₃ rfl
  obtain ⟨m0, w0⟩ := w0
  obtain ⟨hg, ht, he⟩ := hb cl H2.objs.size s H fp pins
  have I0 : Inv (Cf X sc own cap cl H2.objs.size s H fp pins) [] (Im own cap σ) H { s with heap := h₁, toks := s.toks + ([] : List (Str × Value)).length } := me S cl1 cl2 I ok hCle hns₁ old
  refine J7 (fun n s' => ∃ i acc its nn H', Inv (Cf X sc own cap cl H2.objs.size s H fp pins) [] (Im own cap σ) H' s' /\ tn i s'.heap /\ (∀ b ∈ fp, H' b = none) /\
   s'.heap.get? s.heap.objs.size = some { cls := .type "list", data := .seq its.toArray nn } /\ Vals acc its /\ H' s.heap.objs.size = none /\ W i n acc H') ?_ m0
   ⟨0, [], [], 0, H, I0, T.keep _ _ _ st (fun b _ o e => old b o e), fun b hb => (f b hb).1, hacc, .nil, I.hok.fresh (Zzt _), w0⟩
  rintro n s3 ⟨i, acc, its, nn, H3, I3, st3, fr3, hD3, rv3, hDn, w3⟩
  obtain ⟨hz, hcase⟩ := turn i n acc H3 w3
  have hpl : ∀ p ∈ [((s.heap.objs.size : Addr), ({ cls := .type "list", data := .seq its.toArray nn } : Obj))], ∀ b ∈ fp, p.1 ≠ b := fun p hp b hb z => by
   have e : p = _ := Zzd.mp hp
   rw [e] at z
   exact Cp (live b hb) (Zzt _) z.symm
  have I3' : Inv (Cf X sc own cap cl H2.objs.size s H fp pins) [((s.heap.objs.size : Addr), ({ cls := .type "list", data := .seq its.toArray nn } : Obj))] (Im own cap σ) H3 s3 := I3.pins_of fun p hp => by
   have e : p = _ := Zzd.mp hp
   subst e
   exact ⟨hD3, hDn, hDC, hDst, fun v z => by cases z⟩
  rcases hcase with ⟨stop, fin⟩ | ⟨go, hlt, N, hN, step⟩
  ·refine thn (T.done (Cf X sc own cap cl H2.objs.size s H fp pins) rfl rfl rfl hc i _ s3 _ H3 _ I3' (fpX H3 _ fr3 hpl) st3 stop) fun r s4 ⟨hr, I4⟩ => ?_
   subst hr
   have hD4 := (I4.pin (_, _) (Zz1 _ (Zzd.mpr rfl))).1
   obtain ⟨J1, J2, J3⟩ := gm I f hCle (Zzt _) hDC I4 hDn hD4 rv3 hz
   exact hRR _ _ _ _ J1 J2 J3 (fin _ hDn)
  ·refine thn (T.item (Cf X sc own cap cl H2.objs.size s H fp pins) rfl rfl rfl hc i _ s3 _ H3 _ I3' (fpX H3 _ fr3 hpl) st3 go) fun r s4 ⟨u, hr, h4⟩ => ?_
   subst hr
   refine thn h4 fun _ s5 ⟨x, H5, I5, r5, y5, st5, fr5⟩ => ?_
   have I5' := I5.pinned (fpX H5 _ fr5 hpl) (T.obj _ _ st5)
   refine thn (hg _ s5 _ H5 x u _ I5' r5 (hown _ _ _ _ (step x H5 y5))) fun _ s6 ⟨σ6, H6, I6, ⟨hx1, hx2⟩, q6⟩ => ?_
   refine thn (ht _ s6 σ6 H6 _ I6 q6) fun b s7 ⟨H7, I7, q7⟩ => ?_
   have wk : ∀ {H7 : Hp} {s7 : Shared} {pl : List (Addr × Obj)}, Inv (Cf X sc own cap cl H2.objs.size s H fp pins) pl σ6 H7 s7 -> Inv (Cf X sc own cap cl H2.objs.size s H fp pins) pl (Im own cap σ) H7 s7 := fun I => I.weak hx1.symm fun j v e => by
    rw [hx2 j (Qu e).1]
    exact e
   have stay : ∀ {H7 : Hp} {s7 : Shared} {σ7 : St}, Inv (Cf X sc own cap cl H2.objs.size s H fp pins) ([((s.heap.objs.size : Addr), ({ cls := .type "list", data := .seq its.toArray nn } : Obj))] ++ Kz fp s5.heap) σ7 H7 s7 ->
     tn (i + 1) s7.heap /\ (∀ b ∈ fp, H7 b = none) /\ s7.heap.get? s.heap.objs.size = some { cls := .type "list", data := .seq its.toArray nn } /\ H7 s.heap.objs.size = none := fun {H7 s7 σ7} I7 => by
    refine ⟨T.keep _ _ _ st5 fun b hb o e => (I7.pin (b, o) (Zz1 _ (Zz1 _ (Hg hb e)))).1, fun b hb => ?_, ?_, ?_⟩
    ·obtain ⟨o, e, d⟩ := T.obj _ _ st5 b hb
     exact (I7.pin (b, o) (Zz1 _ (Zz1 _ (Hg hb e)))).2.1
    ·exact (I7.pin (_, _) (Zz1 _ (Zy7 _ (Zzd.mpr rfl)))).1
    ·exact (I7.pin (_, _) (Zz1 _ (Zy7 _ (Zzd.mpr rfl)))).2.1
   cases b with
   | false =>
    rw [if_neg Zz2] at q7 ⊢
    obtain ⟨m', hm, w7⟩ := hN _ _ q7
    obtain ⟨a1, a2, a3, a4⟩ := stay I7
    exact ⟨m', hm, i + 1, acc, its, nn, H7, (wk I7).pins_of (fun p hp => absurd hp (by simp)), a1, a2, a3, rv3, a4, w7⟩
   | true =>
    rw [if_pos rfl] at q7 ⊢
    refine thn (he _ s7 σ6 H7 _ I7 q7) fun y s8 ⟨v, H8, I8, r8, n8⟩ => ?_
    obtain ⟨m', hm, w8⟩ := hN _ _ n8
    obtain ⟨a1, a2, a3, a4⟩ := stay I8
    have hlen := rv3.length
    refine call_meets F.slot_list_append ⟨_, a3, rfl⟩ F.entry_list_append (F.args_list_append_2 _ _) (PySem.list_append s.heap.objs.size its.toArray nn y (by rw [Zzp]; omega)) ⟨a3, ?_⟩
    obtain ⟨n', q⟩ : ∃ n', (s8.heap.update s.heap.objs.size (Obj.mapSeq (·.push y))).get? s.heap.objs.size = some { cls := .type "list", data := .seq (its ++ [y]).toArray n' } := by
     have q := PySem.IsL.update a3 (·.push y)
     have e : (its.toArray.push y) = (its ++ [y]).toArray := by simp
     rw [<- e]
     exact ⟨_, q⟩
    have I9 := (wk I8).pins_of (pins' := Kz fp s5.heap) fun p hp => (wk I8).pin p (Zz1 _ (Zz1 _ hp))
    have kk : ∀ b o, b ≠ s.heap.objs.size -> s8.heap.get? b = some o -> (s8.heap.update s.heap.objs.size (Obj.mapSeq (·.push y))).get? b = some o := fun b o hb e => (Zyc s8.heap (Obj.mapSeq (·.push y)) (Zzh hb)).trans e
    refine ⟨m', hm, i + 1, acc ++ [v], its ++ [y], n', H8, (I9.pins_of (pins' := []) fun p hp => absurd hp (by simp)).turned (it := s.heap.objs.size) kk a4 hDC (.inr (Zzt _)) (fun x c e z => ?_) (fun p hp z => ?_), T.keep _ _ _ a1 fun b hb o e => kk b o (fun z => ?_) e, a2, q, rv3.append (.cons r8 .nil), a4, w8⟩
    ·have e := cl1 x c e
     obtain ⟨w', o, ho, _⟩ := I.cell x c e
     exact Cp (Zzj ho) (Zzt _) z
    ·have hp : p ∈ (X.pn ++ pins) ++ [] := hp
     rw [Zxz] at hp
     exact Cp (Zzj (I.pin p hp).1) (Zzt _) z
    ·exact Cp (live b hb) (Zzt _) z
 exact codeAny_compStart_list (loop _ rfl) (T.self _ 0 _ _ _ (T.keep _ _ _ st fun b _ o e => old b o e) (loop _ rfl))
theorem Fm {elt tg iter : Expr} {ifs : List Expr} {pos : Pos} {wi : TI} {g : TG} {tt : TT} {te : TE} (hc : X.calm = true) (S : J4 X.N X.env.scope sc own cap) (hown : ce own.length g) (hi : PI X tg iter wi)
  (hb : ∀ cl C s H fp pins, PG (Cf X sc own cap cl C s H fp pins) tg g /\ PTs (Cf X sc own cap cl C s H fp pins) ifs tt /\ PE (Cf X sc own cap cl C s H fp pins) elt te)
  (hs : ∀ x, foldedSetIterable iter X.env x = pure x := by intro _; rfl) : PE X (.ListComp elt [⟨tg, iter, ifs, 0⟩] sc pos) (Yo own cap wi g tt te) := by
 intro pins s σ H Q I h
 obtain ⟨cl, hcl, cl1, cl2⟩ := Hn (env := X.env) (scope := sc) fun y hy hf => I.ok.has y.1 (S.free y hy hf)
 rw [eval_ListComp]
 refine wpAny_comprehension_free (use := none) rfl hs hcl S.kind S.names (thn (hi pins s σ H _ I h) fun xv s1 h1 => thn h1 fun itv s2 h2 => ?_)
 obtain ⟨it, fp, tn, J, H2, e, I2, T, st2, f2, W, w0, turn⟩ := h2
 subst e
 refine Oc (RR := fun acc C => compPost (model X.prog X.w) X.A X.xe none (EP X pins σ Q) acc C) hc S hown cl1 cl2 hb I2 T st2 f2 W w0 turn ?_
 intro D C H' s' J1 ⟨m, J2⟩ ⟨c0, c1, c2, c3, c4, c5⟩ q
 exact ⟨m, J2, fun h' sb => ⟨.ref D, H', J1.turned (t' := s'.toks) (fun b o hb e => (sb.2 b hb).trans e) c0 c1 c3 c4 c5, rfl, q⟩⟩
theorem Hb {elt tg iter : Expr} {ifs : List Expr} {pos pos' spos : Pos} {wi : TI} {g : TG} {tt : TT} {te : TE} {i : Nat} {x : Str} (hc : X.calm = true) (S : J4 X.N X.env.scope sc own cap) (hown : ce own.length g) (hN : X.N.Nodup) (hx : X.N[i]? = some x) (hl : X.env.scope.names.lookup x = some .local) (hi : PI X tg iter wi)
  (hb : ∀ cl C s H fp pins, PG (Cf X sc own cap cl C s H fp pins) tg g /\ PTs (Cf X sc own cap cl C s H fp pins) ifs tt /\ PE (Cf X sc own cap cl C s H fp pins) elt te)
  (hsw : swapsWith (.ListComp elt [⟨tg, iter, ifs, 0⟩] sc pos) (some (.Name x pos')) spos.line X.env = pure true := by rfl)
  (hs : ∀ x, foldedSetIterable iter X.env x = pure x := by intro _; rfl) : PS X (.Assign [.Name x pos'] (.ListComp elt [⟨tg, iter, ifs, 0⟩] sc pos) spos) (cz (Yo own cap wi g tt te) (Fe i)) := by
 intro pins s σ H D I h
 obtain ⟨cl, hcl, cl1, cl2⟩ := Hn (env := X.env) (scope := sc) fun y hy hf => I.ok.has y.1 (S.free y hy hf)
 rw [exec_Assign_Name_used _ _ _ _ hsw]
 refine wpAny_bind (wpAny_standAt (wpAny_bind ?_))
 show wpAny _ _ (do let _ <- comprehension (.ListComp elt [⟨tg, iter, ifs, 0⟩] sc pos) sc X.env _ (newList []) false (eval iter X.env) (some (assign (.Name x pos') X.env))) _ _ s
 refine wpAny_bind (wpAny_mono (wpAny_comprehension_free (use := some (assign (.Name x pos') X.env)) (Q := fun _ s' => SP X pins D .next s') rfl hs hcl S.kind S.names (thn (hi pins s σ H _ I h) fun xv s1 h1 => thn h1 fun itv s2 h2 => ?_)) (fun _ s' hq => wpAny_pure (wpAny_pure hq)) fun _ _ e => e)
 obtain ⟨it, fp, tn, J, H2, e, I2, T, st2, f2, W, w0, turn⟩ := h2
 subst e
 refine Oc (Q := fun x H1 => Fe i x σ H1 D.nx) (RR := fun acc C => compPost (model X.prog X.w) X.A X.xe (some (assign (.Name x pos') X.env)) (fun _ s' => SP X pins D .next s') acc C) hc S hown cl1 cl2 hb I2 T st2 f2 W w0 turn ?_
 intro L C H' s' J1 ⟨m, J2⟩ ⟨c0, c1, c2, c3, c4, c5⟩ q
 show wpAny _ _ (assign (.Name x pos') X.env (.ref L)) _ _ s'
 refine wpAny_assign_Name (Px (v := .ref L) J1 hN hx (.inl hl) rfl (fun s'' J3 ⟨a, sb, ha⟩ => ?_) (.inr hl))
 have hCa : C ≠ a := by
  rcases ha with z | z
  ·rw [z]; exact c1
  ·exact Zzh (c4 _ _ z)
 refine ⟨m, J2.sameBut sb hCa, fun h' sb' => ⟨_, H', J3.turned (t' := s''.toks) (fun b o hb e => (sb'.2 b hb).trans e) c0 c1 c3 c4 c5, q⟩⟩
end
def Mk (H : Hp) : V -> Option String
 | .non => some "NoneType"
 | .bl _ => some "bool"
 | .int _ => some "int"
 | .str _ => some "str"
 | .ref a => match H a with
  | some (.lst _) => some "list"
  | some (.tup _) => some "tuple"
  | some (.dK _) => some "dict"
  | _ => none
 | _ => none
def Cn (t T : String) : Bool := t == T || (t == "bool" && T == "int")
section
variable {X : Cx}
theorem Aw {pins : List (Addr × Obj)} {σ : St} {H : Hp} {s : Shared} {a : Addr} {xs : List V} (I : Inv X pins σ H s) (h : H a = some (.lst xs)) : ∃ its : List Value, Vals xs its /\ s.heap.IsList a its.toArray /\ a < s.heap.objs.size := by
 obtain ⟨hz, its, n, r, e⟩ := I.hok a _ h
 exact ⟨its, r, ⟨_, e, rfl, n, rfl⟩, Zzj e⟩
theorem op_isnotB : OpR X (compareOp .IsNot) (fun x y H Q => ∃ i j, x = .bl i /\ y = .bl j /\ Q (.bl (i != j)) H) := by
 intro pins s σ H x y v u Q I rx ry h
 obtain ⟨i, j, rfl, rfl, q⟩ := h
 cases rx
 cases ry
 exact isnot_bool ⟨.bl (i != j), H, I, rfl, q⟩
def kg : V -> List V -> Hp -> VK -> Prop := fun x vs H Q => ∃ l xs y, x = .ref l /\ vs = [y] /\ H l = some (.lst xs) /\ Gu y = true /\ xs.all Gu = true /\ Q (.int (xs.countP fun z => eqV z y)) H
def Its (x : Str) : It := ⟨fun i _ => i < x.cps.size, fun i H v H' => H' = H /\ ∃ c, x.cps[i]? = some c /\ v = .str ⟨#[c]⟩, fun i _ => x.cps.size <= i⟩
theorem Sn {P : Program} {w : World} {K : Zzu} {tg : Expr} (it : Addr) (x : Str) (t : Tok) (ty : String) (hty : ty = "str_ascii_iterator" \/ ty = "str_iterator") : Lg P w K tg (Its x) [it] it (fun i h => h.IsStrIter it ty x t i) where
 mem := by simp
 obj := fun i h st b hb => by
  have e : b = it := by simpa using hb
  subst e
  obtain ⟨o, e, c, d⟩ := st
  exact ⟨o, e, fun v z => by rw [d] at z; cases z⟩
 keep := fun i h h' st k => let ⟨o, ho, r⟩ := st; ⟨o, k it (by simp) o ho, r⟩
 item := by
  intro X hP hw hK hc i pins s σ H E I hf st hg
  subst hP hw hK
  obtain ⟨f0, f1, f2, f3, f4, f5⟩ := hf it (by simp)
  have hg : i < x.cps.size := hg
  have fin : ∀ h', h'.IsStrIter it ty x t (i + 1) -> Zy6 it s.heap h' -> ∃ u, some (Value.str ⟨#[x.cps[i]]⟩ s.toks) = some u /\ wpAny (model X.prog X.w) X.A (letOwnedTupleGo tg (.ref it) u) (fun _ s2 => ∃ x' H', Inv X pins σ H' s2 /\ RelV x' u /\ (Its x).yld i H x' H' /\ s2.heap.IsStrIter it ty x t (i + 1) /\ ∀ b ∈ [it], H' b = none) E { s with heap := h', toks := s.toks + 1 } := fun h' st' sb => by
   have I1 : Inv X pins σ H { s with heap := h', toks := s.toks + 1 } := I.turned (t' := s.toks + 1) (fun b o hb e => (sb.2 b hb).trans e) f0 f1 f3 f4 f5
   obtain ⟨o, e, c, d⟩ := id st'
   refine ⟨_, rfl, Qm (s := { s with heap := h', toks := s.toks + 1 }) e c d (by rcases hty with rfl | rfl <;> decide) ⟨.str ⟨#[x.cps[i]]⟩, H, I1, ⟨_, rfl⟩, ⟨rfl, _, by simp [hg], rfl⟩, st', fun b hb => (hf b hb).1⟩⟩
  rcases hty with rfl | rfl
  ·exact wpAny_pyNext_ascii_item st (c := x.cps[i]) (by simp [hg]) fin
  ·exact wpAny_pyNext_wide_item st (c := x.cps[i]) (by simp [hg]) fin
 done := by
  intro X hP hw hK hc i pins s σ H E I hf st hg
  subst hP hw hK
  obtain ⟨f0, f1, f2, f3, f4, f5⟩ := hf it (by simp)
  have hg : x.cps.size <= i := hg
  rcases hty with rfl | rfl
  ·exact wpAny_pyNext_ascii_end (I.ok.hd hc) st (by simp; omega) fun h' eb => ⟨rfl, I.turned (t' := s.toks) (fun b o hb e => eb b o hb e) f0 f1 f3 f4 f5⟩
  ·exact wpAny_pyNext_wide_end (I.ok.hd hc) st (by simp; omega) fun h' eb => ⟨rfl, I.turned (t' := s.toks) (fun b o hb e => eb b o hb e) f0 f1 f3 f4 f5⟩
 self := fun _ _ _ _ _ st h => by
  rcases hty with rfl | rfl
  ·exact wpAny_pyIter_striter_ascii st h
  ·exact wpAny_pyIter_striter_wide st h
theorem Pr {P : Program} {w : World} {K : Zzu} {tg : Expr} (a it : Addr) (xs : List V) : Lg P w K tg ⟨fun i H => H a = some (.lst xs) /\ i < xs.length, fun i H x H' => H' = H /\ xs[i]? = some x, fun i H => H a = some (.lst xs) /\ xs.length <= i⟩ [it] it (fun i h => h.IsListIter it a i) where
 mem := (Fo (P := P) (w := w) (K := K) (tg := tg) a it).mem
 obj := (Fo (P := P) (w := w) (K := K) (tg := tg) a it).obj
 keep := (Fo (P := P) (w := w) (K := K) (tg := tg) a it).keep
 item := by
  intro X hP hw hK hc i pins s σ H E I hf st hg
  obtain ⟨h1, h2⟩ := hg
  refine thn ((Fo (P := P) (w := w) (K := K) (tg := tg) a it).item X hP hw hK hc i pins s σ H E I hf st ⟨xs, xs[i], SqL.of h1, by simp [h2]⟩) fun r s1 ⟨u, hr, h3⟩ => ⟨u, hr, thn h3 fun _ s2 ⟨x, H', I2, rx, ⟨y1, y2⟩, st2, f2⟩ => ⟨x, H', I2, rx, ⟨y1, y2 xs (SqL.of h1)⟩, st2, f2⟩⟩
 done := by
  intro X hP hw hK hc i pins s σ H E I hf st hg
  obtain ⟨h1, h2⟩ := hg
  exact (Fo (P := P) (w := w) (K := K) (tg := tg) a it).done X hP hw hK hc i pins s σ H E I hf st ⟨xs, SqL.of h1, h2⟩
 self := (Fo (P := P) (w := w) (K := K) (tg := tg) a it).self
theorem Pq {P : Program} {w : World} {K : Zzu} {tg : Expr} (a it : Addr) (xs : List V) : Lg P w K tg ⟨fun i H => H a = some (.tup xs) /\ i < xs.length, fun i H x H' => H' = H /\ xs[i]? = some x, fun i H => H a = some (.tup xs) /\ xs.length <= i⟩ [it] it (fun i h => h.IsTupleIter it a i) where
 mem := (Eb (P := P) (w := w) (K := K) (tg := tg) a it).mem
 obj := (Eb (P := P) (w := w) (K := K) (tg := tg) a it).obj
 keep := (Eb (P := P) (w := w) (K := K) (tg := tg) a it).keep
 item := by
  intro X hP hw hK hc i pins s σ H E I hf st hg
  obtain ⟨h1, h2⟩ := hg
  refine thn ((Eb (P := P) (w := w) (K := K) (tg := tg) a it).item X hP hw hK hc i pins s σ H E I hf st ⟨xs, xs[i], SqT.of h1, by simp [h2]⟩) fun r s1 ⟨u, hr, h3⟩ => ⟨u, hr, thn h3 fun _ s2 ⟨x, H', I2, rx, ⟨y1, y2⟩, st2, f2⟩ => ⟨x, H', I2, rx, ⟨y1, y2 xs (SqT.of h1)⟩, st2, f2⟩⟩
 done := by
  intro X hP hw hK hc i pins s σ H E I hf st hg
  obtain ⟨h1, h2⟩ := hg
  exact (Eb (P := P) (w := w) (K := K) (tg := tg) a it).done X hP hw hK hc i pins s σ H E I hf st ⟨xs, SqT.of h1, h2⟩
 self := (Eb (P := P) (w := w) (K := K) (tg := tg) a it).self
def ItL (a : Addr) (xs : List V) : It := ⟨fun i H => H a = some (.lst xs) /\ i < xs.length, fun i H x H' => H' = H /\ xs[i]? = some x, fun i H => H a = some (.lst xs) /\ xs.length <= i⟩
def ItT (a : Addr) (xs : List V) : It := ⟨fun i H => H a = some (.tup xs) /\ i < xs.length, fun i H x H' => H' = H /\ xs[i]? = some x, fun i H => H a = some (.tup xs) /\ xs.length <= i⟩
def qe (te : TE) : TI := fun σ H R => te σ H fun x H1 => (∃ a xs, x = .ref a /\ H1 a = some (.lst xs) /\ R (ItL a xs) H1) \/ (∃ a xs, x = .ref a /\ H1 a = some (.tup xs) /\ R (ItT a xs) H1) \/ (∃ z, x = .str z /\ R (Its z) H1)
theorem km {tg l : Expr} {te : TE} (hl : PE X l te) : PI X tg l (qe te) := by
 intro pins s σ H R I h
 refine thn (hl pins s σ H _ I h) fun v s1 ⟨x, H1, I1, r1, q1⟩ => ?_
 have fp : ∀ b ∈ [s1.heap.objs.size], Ho X pins H1 b := fun b hb => by
  have e : b = s1.heap.objs.size := by simpa using hb
  subst e
  exact I1.fpOk (Zzt _) (I1.hok.fresh (Zzt _))
 rcases q1 with ⟨a, xs, e, ha, q⟩ | ⟨a, xs, e, ha, q⟩ | ⟨z, e, q⟩
 ·subst e
  cases r1
  obtain ⟨its, rv, hli, hlt⟩ := Aw I1 ha
  refine wpAny_pyIter_list hli ?_
  exact ⟨s1.heap.objs.size, [s1.heap.objs.size], _, _, H1, rfl, I1.kept (t' := s1.toks) fun b o e => Zzy _ e, Pr a _ xs, ⟨_, Zzf _ rfl, rfl, rfl⟩, fp, q⟩
 ·subst e
  cases r1
  obtain ⟨hz, its, rv, p⟩ := I1.hok a _ ha
  refine wpAny_pyIter_tuple (show s1.heap.IsTuple a its.toArray from p) ?_
  exact ⟨s1.heap.objs.size, [s1.heap.objs.size], _, _, H1, rfl, I1.kept (t' := s1.toks) fun b o e => Zzy _ e, Pq a _ xs, ⟨_, Zzf _ rfl, rfl, rfl⟩, fp, q⟩
 ·subst e
  obtain ⟨t, rfl⟩ := r1
  cases hasc : z.cps.all (· < 128)
  ·refine wpAny_pyIter_wide hasc ?_
   exact ⟨s1.heap.objs.size, [s1.heap.objs.size], _, _, H1, rfl, I1.kept (t' := s1.toks) fun b o e => Zzy _ e, Sn _ z t _ (.inr rfl), ⟨_, Zzf _ rfl, rfl, rfl⟩, fp, q⟩
  ·refine wpAny_pyIter_ascii hasc ?_
   exact ⟨s1.heap.objs.size, [s1.heap.objs.size], _, _, H1, rfl, I1.kept (t' := s1.toks) fun b o e => Zzy _ e, Sn _ z t _ (.inl rfl), ⟨_, Zzf _ rfl, rfl, rfl⟩, fp, q⟩
end
structure Pk (J : It) (n : Nat) (yl : Nat -> V -> Prop) (ok : Hp -> Prop) : Prop where
 go : ∀ i H, i < n -> ok H -> J.go i H
 yld : ∀ i H x H', i < n -> ok H -> J.yld i H x H' -> H' = H /\ yl i x
 stop : ∀ H, ok H -> J.stop n H
theorem J8 (a : Addr) (xs : List V) : Pk (ItL a xs) xs.length (fun i x => xs[i]? = some x) (fun H => H a = some (.lst xs)) := ⟨fun _ _ h o => ⟨o, h⟩, fun _ _ _ _ _ _ y => y, fun _ o => ⟨o, Zzt _⟩⟩
theorem Ey (a : Addr) (xs : List V) : Pk (ItT a xs) xs.length (fun i x => xs[i]? = some x) (fun H => H a = some (.tup xs)) := ⟨fun _ _ h o => ⟨o, h⟩, fun _ _ _ _ _ _ y => y, fun _ o => ⟨o, Zzt _⟩⟩
theorem Lu (lo : Int) (n : Nat) : Pk (Itr lo n) n (fun i x => x = .int (lo + i)) (fun _ => True) := ⟨fun _ _ h _ => h, fun _ _ _ _ _ _ y => y, fun _ _ => Zzt _⟩
theorem ad {J : It} {n : Nat} {yl : Nat -> V -> Prop} {ok : Hp -> Prop} {g : TG} {tb : TS} {D : Ends} {σ : St} {H : Hp} (G : Pk J n yl ok) (Pv : Nat -> St -> Hp -> Prop) (h0 : Pv 0 σ H) (hok : ∀ i σ H, i <= n -> Pv i σ H -> ok H)
  (hs : ∀ i x σ H, i < n -> yl i x -> Pv i σ H -> g x σ H fun σ2 H2 => tb { D with nx := Pv (i + 1), ct := Pv (i + 1), bk := D.nx } σ2 H2) (hd : ∀ σ H, Pv n σ H -> D.nx σ H) :
  ∃ W : Nat -> Nat -> St -> Hp -> Prop, (∃ m, W 0 m σ H) /\ ∀ i m σ H, W i m σ H ->
   (J.stop i H /\ D.nx σ H) \/ (J.go i H /\ ∃ N : St -> Hp -> Prop, (∀ σ' H', N σ' H' -> ∃ m', m' < m /\ W (i + 1) m' σ' H') /\ ∀ x H', J.yld i H x H' -> g x σ H' fun σ2 H2 => tb { D with nx := N, ct := N, bk := D.nx } σ2 H2) := by
 refine ⟨fun i m σ H => m = n - i /\ i <= n /\ Pv i σ H, ⟨n, by simp, Zyq _, h0⟩, ?_⟩
 rintro i m σ H ⟨rfl, hi, p⟩
 have q := hok i σ H hi p
 by_cases hlt : i < n
 ·refine .inr ⟨G.go i H hlt q, Pv (i + 1), fun σ' H' p' => ⟨n - (i + 1), by omega, rfl, hlt, p'⟩, fun x H' y => ?_⟩
  obtain ⟨e, y'⟩ := G.yld i H x H' hlt q y
  subst e
  exact hs i x σ _ hlt y' p
 ·have e : i = n := by omega
  subst e
  exact .inl ⟨G.stop H q, hd σ H p⟩
theorem Qv {J : It} {n : Nat} {yl : Nat -> V -> Prop} {ok : Hp -> Prop} {g : TG} {tt : TT} {te : TE} {σ0 : St} {H : Hp} {Q : VK} (G : Pk J n yl ok) (hn : n <= sizeLine) (Pv : Nat -> List V -> Hp -> Prop) (h0 : Pv 0 [] H) (hok : ∀ i acc H, i <= n -> Pv i acc H -> ok H)
  (hlen : ∀ i acc H, Pv i acc H -> acc.length <= i)
  (hs : ∀ i x acc H, i < n -> yl i x -> Pv i acc H -> g x σ0 H fun σ2 H2 => tt σ2 H2 fun b H3 => if b = true then te σ2 H3 fun y H4 => Pv (i + 1) (acc ++ [y]) H4 else Pv (i + 1) acc H3)
  (hd : ∀ acc H, Pv n acc H -> ∀ p, H p = none -> Q (.ref p) (upd H p (.lst acc))) :
  ∃ W : Nat -> Nat -> List V -> Hp -> Prop, (∃ m, W 0 m [] H) /\ ∀ i m acc H, W i m acc H -> acc.length <= sizeLine /\
   ((J.stop i H /\ ∀ p, H p = none -> Q (.ref p) (upd H p (.lst acc))) \/
    (J.go i H /\ acc.length < sizeLine /\ ∃ N : List V -> Hp -> Prop, (∀ acc' H', N acc' H' -> ∃ m', m' < m /\ W (i + 1) m' acc' H') /\ ∀ x H', J.yld i H x H' -> g x σ0 H' fun σ2 H2 => tt σ2 H2 fun b H3 => if b = true then te σ2 H3 fun y H4 => N (acc ++ [y]) H4 else N acc H3)) := by
 refine ⟨fun i m acc H => m = n - i /\ i <= n /\ Pv i acc H, ⟨n, by simp, Zyq _, h0⟩, ?_⟩
 rintro i m acc H ⟨rfl, hi, p⟩
 have q := hok i acc H hi p
 have hl := hlen i acc H p
 refine ⟨by omega, ?_⟩
 by_cases hlt : i < n
 ·refine .inr ⟨G.go i H hlt q, by omega, Pv (i + 1), fun acc' H' p' => ⟨n - (i + 1), by omega, rfl, hlt, p'⟩, fun x H' y => ?_⟩
  obtain ⟨e, y'⟩ := G.yld i H x H' hlt q y
  subst e
  exact hs i x acc _ hlt y' p
 ·have e : i = n := by omega
  subst e
  exact .inl ⟨G.stop H q, hd acc H p⟩
section
variable {X : Cx} {a b c e o : Expr} {ta tb tc te to : TE} {pos p apos cpos : Pos} {es : List Expr} {t : TA}
theorem G1 : OpR X (binaryOp .FloorDiv) (rI (fun _ j => 0 < j /\ j < 10 ^ 200) fun i j => .int (i / j)) := opI fun i j _ _ _ _ _ hc q => by
 have h : j.natAbs.log2 < 9000 := by
  have h1 : j.natAbs ≠ 0 := by omega
  rw [Nat.log2_lt h1]
  have h2 : j.natAbs < 10 ^ 200 := by have := hc.2; omega
  exact Zz9 h2 (by decide +kernel)
 refine floordiv_int (by omega) ?_ (.inl (PyProof.noPylong_of_log2 h))
 rw [Int.fdiv_eq_ediv_of_nonneg i (by omega)]
 exact q
def rCatE : R2 := fun x y H Q => ∃ a b ys, x = .ref a /\ y = .ref b /\ H a = some (.tup []) /\ H b = some (.tup ys) /\ Q (.ref b) H
theorem fc : OpR X (binaryOp .Add) rCatE := by
 intro pins s σ H x y v u Q I rx ry h
 obtain ⟨a, b, ys, rfl, rfl, ha, hb, q⟩ := h
 cases rx
 cases ry
 obtain ⟨its, r1, p1, _⟩ := I.tuple (SqT.of ha)
 obtain ⟨its2, r2, p2, _⟩ := I.tuple (SqT.of hb)
 cases r1
 obtain ⟨⟨cls, dd, data, sl⟩, ho, hc, n, hd⟩ := id p1
 obtain ⟨⟨cls2, dd2, data2, sl2⟩, ho2, hc2, n2, hd2⟩ := id p2
 simp only at hc hd hc2 hd2
 subst hc hd hc2 hd2
 exact concat_meets ⟨_, ho, rfl⟩ ⟨_, ho2, rfl⟩ noFill_tuple_add seq_tuple_add Zwh Zwk (Zwt _ _)
   (tuple_addW0 a b _ _ n n2 dd dd2 sl sl2 (by simp)) ⟨ho, ho2, .ref b, H, I, rfl, q⟩
def rCatTT : R2 := fun x y H Q => ∃ a b xs ys, x = .ref a /\ y = .ref b /\ H a = some (.tup xs) /\ H b = some (.tup ys) /\ xs.length + ys.length <= sizeLine /\
 ∀ p H', H' p = some (.tup (xs ++ ys)) -> Same H H' -> (∀ q, q ≠ p -> H' q = H q) -> Q (.ref p) H'
theorem K4 : OpR X (binaryOp .Add) rCatTT := by
 intro pins s σ H x y v u Q I rx ry h
 obtain ⟨a, b, xs, ys, rfl, rfl, ha, hb, hz, q⟩ := h
 by_cases hx : xs = []
 ·subst hx
  exact fc pins s σ H _ _ v u Q I rx ry ⟨a, b, ys, rfl, rfl, ha, hb, q b H (by simpa using hb) (Same.refl H) fun _ _ => rfl⟩
 ·refine fb pins s σ H _ _ v u Q I rx ry ⟨a, b, xs, ys, rfl, rfl, SqT.of ha, SqT.of hb, hx, hz, fun e => ?_, fun _ p hp => ?_⟩
  ·subst e
   exact q a H (by simpa using ha) (Same.refl H) fun _ _ => rfl
  ·exact q p _ A0 (fun c o hc => by rw [A5 (A3 hc hp)]; exact hc) fun _ hq => A5 hq
def pi : R2 := fun x y H Q => (∃ i j, x = .int i /\ y = .int j /\ Q (.int (i + j)) H) \/ (∃ i j, x = .str i /\ y = .str j /\ i.length + j.length <= sizeLine /\ Q (.str (i ++ j)) H) \/ rCat x y H Q \/ rCatTT x y H Q
def jz : R2 := fun x y H Q => (∃ i j, x = .int i /\ y = .int j /\ Q (.int (i + j)) H) \/ (∃ i j, x = .str i /\ y = .str j /\ i.length + j.length <= sizeLine /\ Q (.str (i ++ j)) H)
def Jn (H : Hp) (x y v : V) : Prop :=
 (∃ p xs i, x = .ref p /\ y = .int i /\ (H p = some (.lst xs) \/ H p = some (.tup xs)) /\ atI xs i = some v) \/
 (∃ z i c, x = .str z /\ y = .int i /\ z.length <= sizeLine /\ atI z.cps.toList i = some c /\ v = .str ⟨#[c]⟩) \/
 (∃ p kvs k, x = .ref p /\ y = kV k /\ Rd H p (.dK kvs) /\ C5 kvs k = some v)
def rItem : R2 := fun x y H Q => ∃ v, Jn H x y v /\ Q v H
theorem fw (hu : X.A.units + 1 < cLine) : IxR X (fun x y H Q => ∃ a v, x = .ref a /\ DGet H a y (some v) /\ Q v H) := by
 intro value slice pins s σ H x y v u Q I rx ry h hs
 obtain ⟨a, z, rfl, g, q⟩ := h
 cases rx
 exact tail_any (U4 I g) PySem.F.slot_dict_getitem.lookup (Xx hu I g ry fun w' s3 I3 rw' => ⟨z, H, I3, rw', q⟩) hs
theorem fv (hu : X.A.units + 1 < cLine) : IxR X rItem := by
 intro value slice pins s σ H x y v u Q I rx ry h hs
 obtain ⟨z, h, q⟩ := h
 rcases h with ⟨p, xs, i, rfl, rfl, h | h, he⟩ | ⟨z', i, c, rfl, rfl, hz, he, rfl⟩ | ⟨p, kvs, k, rfl, rfl, h, he⟩
 ·exact W3 value slice pins s σ H _ _ v u Q I rx ry ⟨p, xs, i, z, rfl, rfl, SqL.of h, he, q⟩ hs
 ·exact lq value slice pins s σ H _ _ v u Q I rx ry ⟨p, xs, i, z, rfl, rfl, SqT.of h, he, q⟩ hs
 ·exact lu value slice pins s σ H _ _ v u Q I rx ry ⟨z', i, c, rfl, rfl, hz, he, q⟩ hs
 ·refine fw hu value slice pins s σ H _ _ v u Q I rx ry ⟨p, z, rfl, ?_, q⟩ hs
  have g : DGet H p (kV k) (C5 kvs k) := .inl ⟨kvs, k, h, rfl, rfl⟩
  rw [he] at g
  exact g
theorem Ab (hu : X.A.units + 1 < cLine) (ha : PE X a ta) (hb : PE X b tb) (hs : Wf b) : PE X (.Subscript a b pos) (tOp rItem ta tb) := iw (fv hu) ha hb hs
theorem Ag {H : Hp} {p : Addr} {xs : List V} {j : Nat} {v : V} (h : H p = some (.tup xs)) (e : xs[j]? = some v) : Jn H (.ref p) (.int j) v := .inl ⟨p, xs, j, rfl, rfl, .inr h, Md e⟩
theorem C8 {H : Hp} {p : Addr} {xs : List V} {j : Nat} {v : V} (h : H p = some (.lst xs)) (e : xs[j]? = some v) : Jn H (.ref p) (.int j) v := .inl ⟨p, xs, j, rfl, rfl, .inl h, Md e⟩
theorem Jj {H : Hp} {p : Addr} {xs : List V} {i : Int} {v : V} (h : H p = some (.lst xs) \/ H p = some (.tup xs)) (h0 : 0 <= i) (e : xs[i.toNat]? = some v) : Jn H (.ref p) (.int i) v := by
 refine .inl ⟨p, xs, i, rfl, rfl, h, ?_⟩
 have q := Md e
 rw [Int.toNat_of_nonneg h0] at q
 exact q
theorem Ge {H : Hp} {p : Addr} {kvs : List (Key × V)} {k : Str} {v : V} (h : Rd H p (.dK kvs)) (e : C5 kvs (Zy2 k) = some v) : Jn H (.ref p) (.str k) v := .inr (.inr ⟨p, kvs, Zy2 k, rfl, rfl, h, e⟩)
def lenA : List V -> Hp -> VK -> Prop := fun xs H Q => (∃ p ys, xs = [.ref p] /\ (H p = some (.lst ys) \/ H p = some (.tup ys)) /\ Q (.int ys.length) H) \/ (∃ z, xs = [.str z] /\ z.length <= sizeLine /\ Q (.int z.length) H) \/ (∃ p kvs, xs = [.ref p] /\ H p = some (.dK kvs) /\ Q (.int kvs.length) H)
theorem call_lenA : CallR X (.builtin "len") lenA := by
 intro pins s σ H xs us Q I r h
 rcases h with ⟨p, ys, rfl, h, q⟩ | ⟨z, rfl, hz, q⟩ | ⟨p, kvs, rfl, h, q⟩
 ·exact Hm pins s σ H _ us Q I r ⟨p, ys, rfl, h.imp SqL.of SqT.of, q⟩
 ·exact S8 pins s σ H _ us Q I r ⟨z, rfl, hz, q⟩
 ·exact Y4 pins s σ H _ us Q I r ⟨p, kvs, rfl, h, q⟩
def InA (H : Hp) (x y : V) (b : Bool) : Prop :=
 (∃ p xs, y = .ref p /\ (H p = some (.lst xs) \/ H p = some (.tup xs)) /\ Gu x = true /\ xs.all Gu = true /\ b = inV x xs) \/
 (∃ i j, x = .str i /\ y = .str j /\ b = !(Zwl j i 0 j.length 1).isEmpty) \/
 (∃ p kvs k, y = .ref p /\ x = kV k /\ Rd H p (.dK kvs) /\ b = (C5 kvs k).isSome)
theorem kt (hu : X.A.units + 1 < cLine) : OpR X (compareOp .In) (fun x y H Q => ∃ b, InA H x y b /\ Q (.bl b) H) := by
 intro pins s σ H x y v u Q I rx ry h
 obtain ⟨b, h, q⟩ := h
 rcases h with ⟨p, xs, rfl, hp, fx, fxs, rfl⟩ | ⟨i, j, rfl, rfl, rfl⟩ | ⟨p, kvs, k, rfl, rfl, hp, rfl⟩
 ·exact X4 pins s σ H _ _ v u Q I rx ry ⟨p, xs, rfl, hp.imp SqL.of SqT.of, fx, fxs, q⟩
 ·exact X3 pins s σ H _ _ v u Q I rx ry ⟨i, j, rfl, rfl, q⟩
 ·cases ry
  exact d_in hu I (.inl ⟨kvs, k, hp, rfl, rfl⟩) rx fun s' I' => ⟨.bl _, H, I', rfl, q⟩
theorem Q5 (hu : X.A.units + 1 < cLine) : OpR X (compareOp .NotIn) (fun x y H Q => ∃ b, InA H x y b /\ Q (.bl (!b)) H) := by
 intro pins s σ H x y v u Q I rx ry h
 obtain ⟨b, h, q⟩ := h
 rcases h with ⟨p, xs, rfl, hp, fx, fxs, rfl⟩ | ⟨i, j, rfl, rfl, rfl⟩ | ⟨p, kvs, k, rfl, rfl, hp, rfl⟩
 ·exact Rc pins s σ H _ _ v u Q I rx ry ⟨p, xs, rfl, hp.imp SqL.of SqT.of, fx, fxs, q⟩
 ·exact Rb pins s σ H _ _ v u Q I rx ry ⟨i, j, rfl, rfl, q⟩
 ·cases ry
  exact gl hu I (.inl ⟨kvs, k, hp, rfl, rfl⟩) rx fun s' I' => ⟨.bl _, H, I', rfl, q⟩
def rSetA : V -> V -> V -> Hp -> (Hp -> Prop) -> Prop := fun o i v H Q => rSetL o i v H Q \/ (∃ p kvs k, o = .ref p /\ i = kV k /\ H p = some (.dK kvs) /\ kvs.length < sizeLine /\ Q (upd H p (.dK (Eu kvs k v))))
theorem dc (hu : X.A.units + 1 < cLine) : bq X rSetA := by
 intro pins s σ H o i v ov iv u Q I ro ri rv h
 rcases h with h | ⟨p, kvs, k, rfl, rfl, hp, hl, q⟩
 ·exact Gk pins s σ H o i v ov iv u Q I ro ri rv h
 ·cases ro
  exact Xw hu I (DPut.k hp hl) ri rv fun s' I' => ⟨_, I', q⟩
theorem ji {K : Zzu} {H : Hp} {x : V} {T : String} (h : Mk H x = some T) (hT : T = "list" \/ T = "dict" \/ T = "str") : tyV K T x H := by
 cases x with
 | str z => cases h; rfl
 | ref a =>
  unfold Mk at h
  simp only at h
  cases e : H a with
  | none => rw [e] at h; cases h
  | some o =>
   rw [e] at h
   cases o with
   | lst xs => cases h; exact .inl ⟨rfl, xs, SqL.of e⟩
   | tup xs => cases h; exact absurd hT (by decide)
   | dK kvs => cases h; exact .inr (.inr (.inl ⟨rfl, .inl ⟨kvs, e⟩⟩))
   | _ => cases h
 | int i => cases h; exact absurd hT (by decide)
 | bl i => cases h; exact absurd hT (by decide)
 | non => cases h; exact absurd hT (by decide)
 | _ => cases h
def tBA0 (T : String) (r : V -> List V -> Hp -> VK -> Prop) (to : TE) : TE := fun σ H Q => to σ H fun x H1 => Mk H1 x = some T /\ r x [] H1 Q
def tBA (T : String) (r : V -> List V -> Hp -> VK -> Prop) (to : TE) (t : TA) : TE := fun σ H Q => to σ H fun x H1 => Mk H1 x = some T /\ t σ H1 fun xs H2 => r x xs H2 Q
theorem PE.weak {e : Expr} {t t' : TE} (h : PE X e t) (w : ∀ σ H Q, t' σ H Q -> t σ H Q) : PE X e t' := fun pins s σ H Q I q => h pins s σ H Q I (w σ H Q q)
variable {name : Str} {T id : String} {r : V -> List V -> Hp -> VK -> Prop}
theorem pj (pa : PlainAttrs T) (slot : Slot T name id) (hty : typeOf (.builtin id) = pure (.type "method_descriptor")) (hm : MtR X id r) (ho : PE X o to) (ha : PA X (e :: es) t) (hT : T = "list" \/ T = "dict" \/ T = "str" := by decide)
  (hbase : attributeBase o name X.env (eval o X.env) = eval o X.env := by rfl)
  (hfew : ((backTo cpos (starEach (e :: es) X.env)).all (fun x => !x.1) && (backToKw cpos (keywordEach [] X.env)).all (fun x => x.1.isSome)
   && decide ((e :: es).length + ([] : List Keyword).length + (if ([] : List Keyword).isEmpty then 0 else 1) < 30)) = true := by rfl)
  (hline : (apos.endLine == cpos.line) = true := by rfl) (hs : starEach (e :: es) X.env = (false, eval e X.env) :: starEach es X.env := by rfl) (hplain : (backTo cpos (starEach es X.env)).any (·.1) = false := by rfl) :
  PE X (.Call (.Attribute o name apos) (e :: es) [] cpos) (tBA T r to t) := by
 intro pins s σ H Q I h
 refine wpAny_Call_method_late hbase hfew hline rfl (thn (ho pins s σ H _ I h) fun v s1 ⟨x, H1, I1, r1, ty, q1⟩ => ?_)
 obtain ⟨h1, h2⟩ := jj I1 r1 (ji ty hT)
 refine ⟨T, id, pa, slot, hty, h1, h2, ?_⟩
 have hA := ha cpos pins s1 σ H1 _ I1 q1
 rw [hs] at hA ⊢
 refine Calls.callWith_builtin (by show (false || (backTo cpos (starEach es X.env)).any (·.1)) = false; rw [hplain] <;> rfl) (Calls.evalArgs_plain ?_)
 exact thn hA fun us s2 ⟨vs, H2, I2, r2, q2⟩ => hm pins s2 σ H2 x vs v us Q I2 r1 r2 q2
end
def Has (P : Program) (w : World) (K : Zzu) (mg : Str -> Option Value) (base : Heap) (x : Str) (k : Nat) (ps : List Str) (sp : Sp) : Prop :=
 ∃ f fd, mg x = some (.ref f) /\ Zzo K (.ref f) = true /\ Binds K fd ps [] /\ FnOk P w K mg base CX0 k f fd ps sp
theorem Z0 {X : Cx} {x : Str} {k : Nat} {ps : List Str} {sp : Sp} {e : Expr} {es : List Expr} {t : TA} {p pos : Pos} (h : Has X.prog X.w X.K X.mg X.base x k ps sp) (hr : Room k X.A) (hg : Gl X x) (ha : PA X (e :: es) t)
  (hdb : (x == ("__debug__" : Str)) = false := by decide) (he : starEach (e :: es) X.env = (false, eval e X.env) :: starEach es X.env := by rfl) (hpl : (backTo pos (starEach es X.env)).any (·.1) = false := by rfl) :
  PE X (.Call (.Name x p) (e :: es) [] pos) (Sq sp [] E0 t) := by
 obtain ⟨f, fd, hm, hk, hb, F⟩ := h
 exact dz F hr hg hm hk hb .nil pk ha hdb he hpl
end L2
namespace HT
open PySem PyProof.Rows
section
variable {prog : Program} {w : World} {A : Around} {E : Value -> Shared -> Prop} {s : Shared}
theorem J6 {t sl : Addr} {items : Array Value} {vl vu : Value} {lo hi : Option Int} {Q : Value -> Shared -> Prop} (ht : IsTup s.heap t items) (hs : s.heap.IsSliceOf sl vl vu .none) (pl : IsPart vl lo) (pu : IsPart vu hi)
  (hw : sIx items.size 0 lo = 0 /\ sIx items.size items.size hi = items.size) (h : Q (.ref t) s) : wpAny (model prog w) A (getItem (.ref t) (.ref sl)) Q E s := by
 obtain ⟨os, hos, hcs, hds⟩ := id hs
 have hTs : s.TypeIs (.ref sl) "slice" := ⟨os, hos, hcs⟩
 unfold getItem
 try with_reducible refine wpAny_holding ?_
 first | refine wpAny_bind (wpAny_pure ?_) | skip
 refine wpAny_bind (wpAny_sequenceKey ht.typeIs (by decide) ?_)
 refine wpAny_bind (wpAny_callSpecial?_slot (name := Str.ofString "__getitem__") ht.typeIs Zy8
  (wpAny_call_entry Zy8 ht.typeIs entry_tuple_getitem ?_ (args_tuple_getitem _ _)))
 show wpAny _ _ (Builtin.Tuple.tupleItemsOf (.ref t) >>= _) _ _ s
 refine wpAny_bind (tupleItemsOf_ ht ?_)
 refine wpAny_bind (wpAny_typeOf hTs ?_)
 rw [if_pos (by decide)]
 refine wpAny_bind (Gj hs pl pu ?_)
 have hyes : ((((sIx items.size 0 lo : Nat) : Int) == 0 && (1 : Int) == 1 && (sIx items.size items.size hi - sIx items.size 0 lo) == items.size) = true) := by
  rw [hw.1, hw.2]
  simp
 show wpAny _ _ (if (((sIx items.size 0 lo : Nat) : Int) == 0 && (1 : Int) == 1 && (sIx items.size items.size hi - sIx items.size 0 lo) == items.size) = true then _ else _) _ _ s
 rw [if_pos hyes]
 refine wpAny_bind (m := Builtin.Tuple.tupleIsExact _) ?_
 unfold Builtin.Tuple.tupleIsExact
 refine wpAny_bind (wpAny_typeOf ht.typeIs (wpAny_pure ?_))
 rw [if_pos (by decide)]
 refine wpAny_bind (wpAny_rule ?_)
 first
  | exact wpAny_pure ⟨_, rfl, wpAny_pure h⟩
  | exact wpAny_bind (wpAny_pure (wpAny_pure ⟨_, rfl, wpAny_pure h⟩))
end
end HT
namespace L2
open PySem PySem.Spec PyProof.Rows
section
variable {X : Cx} {a b c e o : Expr} {ta tb tc te to : TE} {pos p apos cpos : Pos} {es : List Expr} {t : TA}
theorem d9 : SlR X (fun x lo hi H Q => ∃ a xs, x = .ref a /\ H a = some (.tup xs) /\ (HT.sIx xs.length 0 lo = 0 /\ HT.sIx xs.length xs.length hi = xs.length) /\ Q (.ref a) H) := by
 intro pins s σ H x v vl vu lo hi sl Q I rx hs pl pu h
 obtain ⟨a, xs, rfl, hx, hw, q⟩ := h
 cases rx
 obtain ⟨its, r, ht, hz⟩ := I.tuple (SqT.of hx)
 have hlen : its.toArray.size = xs.length := by rw [Zzp]; exact r.length.symm
 refine ⟨"tuple", _, Zy8.lookup, ht.typeIs, ?_⟩
 exact HT.J6 ht hs pl pu (by rw [hlen]; exact hw) ⟨.ref a, H, I, rfl, q⟩
theorem V2 {xs : List V} {lo hi : Option Int} (h : HT.sIx xs.length 0 lo = 0 /\ HT.sIx xs.length xs.length hi = xs.length) : Dq xs lo hi = xs := by
 unfold Dq
 rw [h.1, h.2]
 simp
theorem da : SlR X (fun x lo hi H Q => ∃ a xs, x = .ref a /\ H a = some (.tup xs) /\ ∀ p H', H' p = some (.tup (Dq xs lo hi)) -> Same H H' -> (∀ q, q ≠ p -> H' q = H q) -> Q (.ref p) H') := by
 intro pins s σ H x v vl vu lo hi sl Q I rx hs pl pu h
 obtain ⟨a, xs, rfl, hx, q⟩ := h
 by_cases hw : HT.sIx xs.length 0 lo = 0 /\ HT.sIx xs.length xs.length hi = xs.length
 ·exact d9 pins s σ H _ v vl vu lo hi sl Q I rx hs pl pu ⟨a, xs, rfl, hx, hw, q a H (by rw [V2 hw]; exact hx) (Same.refl H) fun _ _ => rfl⟩
 ·exact jq pins s σ H _ v vl vu lo hi sl Q I rx hs pl pu ⟨a, xs, rfl, SqT.of hx, hw, fun p hp => q p _ A0 (fun c o hc => by rw [A5 (A3 hc hp)]; exact hc) fun _ hq => A5 hq⟩
theorem G8 : SlR X (fun x lo hi H Q => ∃ a xs, x = .ref a /\ H a = some (.lst xs) /\ ∀ p, H p = none -> Q (.ref p) (upd H p (.lst (Dq xs lo hi)))) := by
 intro pins s σ H x v vl vu lo hi sl Q I rx hs pl pu h
 obtain ⟨a, xs, rfl, hx, q⟩ := h
 exact db pins s σ H _ v vl vu lo hi sl Q I rx hs pl pu ⟨a, xs, rfl, SqL.of hx, q⟩
theorem An {x : Str} {i : Int} {pos : Pos} (hg : Gl X x) (hm : ∃ t, X.mg x = some (.int i t)) (hd : (x == ("__debug__" : Str)) = false := by decide) : PE X (.Name x pos) (tC (.int i)) := by
 obtain ⟨t, hm⟩ := hm
 exact Db hg hm ⟨t, rfl⟩ hd
theorem Da (hu : X.A.units + 1 < cLine) : OpR X (compareOp .Eq) rEq := py
theorem F0 (hu : X.A.units + 1 < cLine) : OpR X (compareOp .Lt) (rI0 fun i j => .bl (decide (i < j))) := pq
def rIsA : R2 := fun x y H Q => (∃ i j, x = .bl i /\ y = .bl j /\ Q (.bl (i == j)) H) \/ (y = .non /\ Q (.bl (decide (x = .non))) H)
def rIsnotA : R2 := fun x y H Q => (∃ i j, x = .bl i /\ y = .bl j /\ Q (.bl (i != j)) H) \/ (y = .non /\ Q (.bl (!decide (x = .non))) H)
theorem Is : OpR X (compareOp .IsNot) rIsnotA := op_isnotB.or eh
theorem Qw (hc : X.calm = true) : CallR X (.builtin "min") (fun xs H Q => ∃ i j, xs = [.int i, .int j] /\ Q (.int (if j < i then j else i)) H) := Y1 hc
def tupleA : List V -> Hp -> VK -> Prop := fun xs H Q => ∃ p ys, xs = [.ref p] /\ ((H p = some (.lst ys) /\ ∀ l, H l = none -> Q (.ref l) (upd H l (.tup ys))) \/ (H p = some (.tup ys) /\ Q (.ref p) H))
theorem Dg : CallR X (.type "tuple") tupleA := by
 intro pins s σ H xs us Q I r h
 obtain ⟨p, ys, rfl, h⟩ := h
 exact Pi pins s σ H _ us Q I r ⟨p, ys, rfl, h.imp (fun h => ⟨SqL.of h.1, h.2⟩) fun h => ⟨SqT.of h.1, h.2⟩⟩
def q9 : List V -> Hp -> VK -> Prop := fun xs H Q => ∃ p ys, xs = [.ref p] /\ (H p = some (.lst ys) \/ H p = some (.tup ys)) /\ ∀ l, H l = none -> Q (.ref l) (upd H l (.lst ys))
def cpB (N : List Str) (osc sc : Scope) (own : List Str) (cap : List Nat) : Bool :=
 decide (sc.kind = .function) && sc.names.all (fun x => x.2 != .local || decide (sc.names.lookup x.1 = some .local)) && sc.names.all (fun y => y.2 != .cell) &&
 sc.names.all (fun y => y.2 != .free || decide (osc.names.lookup y.1 = some .cell) || decide (osc.names.lookup y.1 = some .free)) && cap.all fun j => decide (j < N.length) && decide (sc.names.lookup (N.getD j "") = some .free)
theorem Gv {N : List Str} {osc sc : Scope} {own : List Str} {cap : List Nat} (h : cpB N osc sc own cap = true) : J4 N osc sc own cap := by
 unfold cpB at h
 rw [Zyb, Zyb, Zyb, Zyb] at h
 obtain ⟨⟨⟨⟨h1, h2⟩, h3⟩, h4⟩, h5⟩ := h
 refine ⟨of_decide_eq_true h1, fun x hx hl => ?_, fun y hy hc => ?_, fun y hy hf => ?_, fun j hj => ?_⟩
 ·have q := Zwa.mp h2 x hx
  rw [hl] at q
  exact of_decide_eq_true (by simpa using q)
 ·have q := Zwa.mp h3 y hy
  rw [hc] at q
  exact absurd q (by decide)
 ·have q := Zwa.mp h4 y hy
  rw [hf] at q
  rw [Bool.or_eq_true, Bool.or_eq_true] at q
  rcases q with (q | q) | q
  ·exact absurd q (by decide)
  ·exact .inl (of_decide_eq_true q)
  ·exact .inr (of_decide_eq_true q)
 ·have q := Zwa.mp h5 j hj
  rw [Zyb] at q
  exact ⟨of_decide_eq_true q.1, of_decide_eq_true q.2⟩
end
section
variable {X : Cx}
def iu : R2 := fun x y H Q => ∃ l k xs, x = .ref l /\ y = .int k /\ H l = some (.tup xs) /\ xs ≠ [] /\ 2 <= k /\ k <= 1000 /\ xs.length * k.toNat <= 10000 /\
 ∀ p, H p = none -> Q (.ref p) (upd H p (.tup (Zyw k.toNat xs).flatten))
def ou : R2 := fun x y H Q => (∃ i j, x = .int i /\ y = .int j /\ CMul i j /\ Q (.int (i * j)) H) \/ iu x y H Q
theorem CallR.weak {f : Value} {r r' : List V -> Hp -> VK -> Prop} (h : CallR X f r) (w : ∀ xs H Q, r' xs H Q -> r xs H Q) : CallR X f r' := fun pins s σ H xs us Q I rv q => h pins s σ H xs us Q I rv (w _ _ _ q)
theorem PI.weak {tg it : Expr} {w1 w2 : TI} (h : PI X tg it w1) (w : ∀ σ H R, w2 σ H R -> w1 σ H R) : PI X tg it w2 := fun pins s σ H R I q => h pins s σ H R I (w _ _ _ q)
def lenQ : List V -> Hp -> VK -> Prop := fun xs H Q => ∃ p ys, xs = [.ref p] /\ (H p = some (.lst ys) \/ H p = some (.tup ys)) /\ Q (.int ys.length) H
theorem Cc : CallR X (.builtin "len") lenQ := call_lenA.weak fun _ _ _ h => .inl h
def lenS : List V -> Hp -> VK -> Prop := fun xs H Q => ∃ z, xs = [.str z] /\ z.length <= sizeLine /\ Q (.int z.length) H
def lenD : List V -> Hp -> VK -> Prop := fun xs H Q => ∃ p kvs, xs = [.ref p] /\ H p = some (.dK kvs) /\ Q (.int kvs.length) H
def rSetD : V -> V -> V -> Hp -> (Hp -> Prop) -> Prop := fun o i v H Q => ∃ p kvs k, o = .ref p /\ i = kV k /\ H p = some (.dK kvs) /\ kvs.length < sizeLine /\ Q (upd H p (.dK (Eu kvs k v)))
theorem Fu (hu : X.A.units + 1 < cLine) : bq X rSetD := fun pins s σ H o i v ov iv u Q I ro ri rv h => dc hu pins s σ H o i v ov iv u Q I ro ri rv (.inr h)
theorem Kk : PIp X .Add (rI0 fun i j => .int (i + j)) := fun pins s σ H x y v u Q I rx ry q => g7 pins s σ H x y v u Q I rx ry q
def pc : R2 := fun x y H Q => ∃ i j, x = .str i /\ y = .str j /\ i.length + j.length <= sizeLine /\ Q (.str (i ++ j)) H
def qc (te : TE) : TI := fun σ H R => te σ H fun x H1 => ∃ a xs, x = .ref a /\ H1 a = some (.lst xs) /\ R (ItL a xs) H1
def qa (te : TE) : TI := fun σ H R => te σ H fun x H1 => ∃ a xs, x = .ref a /\ H1 a = some (.tup xs) /\ R (ItT a xs) H1
def iTxt (te : TE) : TI := fun σ H R => te σ H fun x H1 => ∃ z, x = .str z /\ R (Its z) H1
theorem Fz {tg l : Expr} {te : TE} (hl : PE X l te) : PI X tg l (qc te) := by
 intro pins s σ H R I h
 refine thn (hl pins s σ H _ I h) fun v s1 ⟨x, H1, I1, r1, q1⟩ => ?_
 obtain ⟨a, xs, e, ha, q⟩ := q1
 subst e
 cases r1
 obtain ⟨its, rv, hli, hlt⟩ := Aw I1 ha
 refine wpAny_pyIter_list hli ?_
 refine ⟨s1.heap.objs.size, [s1.heap.objs.size], _, _, H1, rfl, I1.kept (t' := s1.toks) fun b o e => Zzy _ e, Pr a _ xs, ⟨_, Zzf _ rfl, rfl, rfl⟩, fun b hb => ?_, q⟩
 have e : b = s1.heap.objs.size := by simpa using hb
 subst e
 exact I1.fpOk (Zzt _) (I1.hok.fresh (Zzt _))
theorem De {tg l : Expr} {te : TE} (hl : PE X l te) : PI X tg l (qa te) := by
 intro pins s σ H R I h
 refine thn (hl pins s σ H _ I h) fun v s1 ⟨x, H1, I1, r1, q1⟩ => ?_
 obtain ⟨a, xs, e, ha, q⟩ := q1
 subst e
 cases r1
 obtain ⟨hz, its, rv, p⟩ := I1.hok a _ ha
 refine wpAny_pyIter_tuple (show s1.heap.IsTuple a its.toArray from p) ?_
 refine ⟨s1.heap.objs.size, [s1.heap.objs.size], _, _, H1, rfl, I1.kept (t' := s1.toks) fun b o e => Zzy _ e, Pq a _ xs, ⟨_, Zzf _ rfl, rfl, rfl⟩, fun b hb => ?_, q⟩
 have e : b = s1.heap.objs.size := by simpa using hb
 subst e
 exact I1.fpOk (Zzt _) (I1.hok.fresh (Zzt _))
end
end L2
namespace NP
open PySem L2
theorem Es : bootBuiltins "isinstance" = some (.builtin "isinstance") := by decide +kernel
theorem ay : bootBuiltins "min" = some (.builtin "min") := by decide +kernel
theorem Le : bootBuiltins "max" = some (.builtin "max") := by decide +kernel
theorem Er : bootBuiltins "len" = some (.builtin "len") := by decide +kernel
theorem Y5 : bootBuiltins "sorted" = some (.builtin "sorted") := by decide +kernel
theorem az : bootBuiltins "int" = some (.type "int") := by decide +kernel
theorem G6 : bootBuiltins "tuple" = some (.type "tuple") := by decide +kernel
theorem Wa : bootBuiltins "list" = some (.type "list") := by decide +kernel
theorem Ly : bootBuiltins "reversed" = some (.type "reversed") := by decide +kernel
theorem Sa : bootBuiltins "enumerate" = some (.type "enumerate") := by decide +kernel
theorem ax : bootBuiltins "zip" = some (.type "zip") := by decide +kernel
def But (st : Addr) (H H' : Hp) : Prop := ∀ b o, b ≠ st -> H b = some o -> H' b = some o
theorem But.refl (st : Addr) (H : Hp) : But st H H := fun _ _ _ h => h
theorem But.trans {st : Addr} {H H1 H2 : Hp} (a : But st H H1) (b : But st H1 H2) : But st H H2 := fun c o n h => b c o n (a c o n h)
theorem Be {st : Addr} {H H' : Hp} (s : Same H H') : But st H H' := fun b o _ h => s b o h
theorem A6 {H : Hp} {p : Addr} {o : HO} (hp : H p = none) : Same H (upd H p o) := fun b u h => by rw [A5 (A3 h hp)]; exact h
theorem Mc {st : Addr} {H : Hp} {p : Addr} {o : HO} (hp : H p = none) : But st H (upd H p o) := Be (A6 hp)
theorem S9 {st : Addr} {H : Hp} {o : HO} : But st H (upd H st o) := fun b u n h => by rw [A5 n]; exact h
def StOk (H : Hp) (st : Addr) : Prop := ∃ ns : List Int, ns ≠ [] /\ H st = some (.lst (ns.map V.int))
theorem StOk.same {H H' : Hp} {st : Addr} (h : StOk H st) (s : Same H H') : StOk H' st := let ⟨ns, n, e⟩ := h; ⟨ns, n, s _ _ e⟩
inductive D where
 | non | bl (b : Bool) | int (i : Int) | str (x : Str) | tup (ds : List D) | lst | dct
mutual
def Rep (H : Hp) : D -> V -> Prop
 | .non, v => v = .non
 | .bl b, v => v = .bl b
 | .int i, v => v = .int i
 | .str x, v => v = .str x /\ x.length <= 1000
 | .tup ds, v => ∃ a xs, v = .ref a /\ H a = some (.tup xs) /\ ds.length <= 1000 /\ Reps H ds xs
 | .lst, v => ∃ a xs, v = .ref a /\ H a = some (.lst xs)
 | .dct, v => ∃ a kvs, v = .ref a /\ H a = some (.dK kvs)
def Reps (H : Hp) : List D -> List V -> Prop
 | [], xs => xs = []
 | d :: ds, xs => ∃ x r, xs = x :: r /\ Rep H d x /\ Reps H ds r
end
def bz (H H' : Hp) : Prop := (∀ a xs, H a = some (.tup xs) -> H' a = some (.tup xs)) /\ (∀ a xs, H a = some (.lst xs) -> ∃ ys, H' a = some (.lst ys)) /\ ∀ a kvs, H a = some (.dK kvs) -> ∃ kvs', H' a = some (.dK kvs')
theorem Ms {H H' : Hp} (s : Same H H') : bz H H' := ⟨fun _ _ h => s _ _ h, fun _ xs h => ⟨xs, s _ _ h⟩, fun _ kvs h => ⟨kvs, s _ _ h⟩⟩
mutual
theorem Rep.keep {H H' : Hp} (k : bz H H') : ∀ (d : D) (v : V), Rep H d v -> Rep H' d v
 | .non, v, h => by rw [Rep] at h ⊢; exact h
 | .bl b, v, h => by rw [Rep] at h ⊢; exact h
 | .int i, v, h => by rw [Rep] at h ⊢; exact h
 | .str x, v, h => by rw [Rep] at h ⊢; exact h
 | .tup ds, v, h => by
  rw [Rep] at h ⊢
  obtain ⟨a, xs, e, h, z, r⟩ := h
  exact ⟨a, xs, e, k.1 a xs h, z, Reps.keep k ds xs r⟩
 | .lst, v, h => by
  rw [Rep] at h ⊢
  obtain ⟨a, xs, e, h⟩ := h
  obtain ⟨ys, h'⟩ := k.2.1 a xs h
  exact ⟨a, ys, e, h'⟩
 | .dct, v, h => by
  rw [Rep] at h ⊢
  obtain ⟨a, kvs, e, h⟩ := h
  obtain ⟨ys, h'⟩ := k.2.2 a kvs h
  exact ⟨a, ys, e, h'⟩
theorem Reps.keep {H H' : Hp} (k : bz H H') : ∀ (ds : List D) (xs : List V), Reps H ds xs -> Reps H' ds xs
 | [], xs, h => by rw [Reps] at h ⊢; exact h
 | d :: ds, xs, h => by
  rw [Reps] at h ⊢
  obtain ⟨x, r, e, h1, h2⟩ := h
  exact ⟨x, r, e, Rep.keep k d x h1, Reps.keep k ds r h2⟩
end
theorem Rep.same {H H' : Hp} {d : D} {v : V} (h : Rep H d v) (s : Same H H') : Rep H' d v := Rep.keep (Ms s) d v h
theorem Reps.same {H H' : Hp} {ds : List D} {vs : List V} (h : Reps H ds vs) (s : Same H H') : Reps H' ds vs := Reps.keep (Ms s) ds vs h
theorem Reps.length {H : Hp} : ∀ {ds : List D} {xs : List V}, Reps H ds xs -> xs.length = ds.length
 | [], xs, h => by rw [Reps] at h; rw [h]; rfl
 | d :: ds, xs, h => by
  rw [Reps] at h
  obtain ⟨x, r, e, _, h2⟩ := h
  rw [e, Zxm, Zxm, Reps.length h2]
theorem Reps.get {H : Hp} : ∀ {ds : List D} {xs : List V} {i : Nat} {x : V}, Reps H ds xs -> xs[i]? = some x -> ∃ d, ds[i]? = some d /\ Rep H d x
 | [], xs, i, x, h, e => by rw [Reps] at h; rw [h] at e; cases e
 | d :: ds, xs, i, x, h, e => by
  rw [Reps] at h
  obtain ⟨y, r, ey, h1, h2⟩ := h
  rw [ey] at e
  cases i with
  | zero => cases e; exact ⟨d, rfl, h1⟩
  | succ i => exact Reps.get (ds := ds) (xs := r) (i := i) h2 (by simpa using e)
theorem Reps.get' {H : Hp} : ∀ {ds : List D} {xs : List V} {i : Nat} {d : D}, Reps H ds xs -> ds[i]? = some d -> ∃ x, xs[i]? = some x /\ Rep H d x
 | [], xs, i, d, h, e => by cases e
 | d0 :: ds, xs, i, d, h, e => by
  rw [Reps] at h
  obtain ⟨y, r, ey, h1, h2⟩ := h
  rw [ey]
  cases i with
  | zero => cases e; exact ⟨y, rfl, h1⟩
  | succ i =>
   obtain ⟨x, h3, h4⟩ := Reps.get' (ds := ds) (xs := r) (i := i) (d := d) h2 (by simpa using e)
   exact ⟨x, by simpa using h3, h4⟩
def D.ty : D -> String
 | .non => "NoneType"
 | .bl _ => "bool"
 | .int _ => "int"
 | .str _ => "str"
 | .tup _ => "tuple"
 | .lst => "list"
 | .dct => "dict"
theorem Rep.ty {H : Hp} {d : D} {v : V} (h : Rep H d v) : Mk H v = some d.ty := by
 cases d <;> rw [Rep] at h
 ·rw [h]; rfl
 ·rw [h]; rfl
 ·rw [h]; rfl
 ·rw [h.1]; rfl
 ·obtain ⟨a, xs, e, h, _⟩ := h; rw [e]; unfold Mk; simp only [h]; rfl
 ·obtain ⟨a, xs, e, h⟩ := h; rw [e]; unfold Mk; simp only [h]; rfl
 ·obtain ⟨a, xs, e, h⟩ := h; rw [e]; unfold Mk; simp only [h]; rfl
def Ue (J : It) (own : List Str) (cap : List Nat) (g : TG) (tt : TT) (te : TE) (σ : St) (H1 : Hp) (Q : VK) : Prop := ∃ W : Nat -> Nat -> List V -> Hp -> Prop, (∃ m, W 0 m [] H1) /\ ∀ i m acc H, W i m acc H -> acc.length <= sizeLine /\
 ((J.stop i H /\ ∀ p, H p = none -> Q (.ref p) (upd H p (.lst acc))) \/
  (J.go i H /\ acc.length < sizeLine /\ ∃ N : List V -> Hp -> Prop, (∀ acc' H', N acc' H' -> ∃ m', m' < m /\ W (i + 1) m' acc' H') /\ ∀ x H', J.yld i H x H' -> g x (Im own cap σ) H' fun σ2 H2 => tt σ2 H2 fun b H3 => if b = true then te σ2 H3 fun y H4 => N (acc ++ [y]) H4 else N acc H3))
theorem Yn (own : List Str) (cap : List Nat) (wi : TI) (g : TG) (tt : TT) (te : TE) (σ : St) (H : Hp) (Q : VK) : Yo own cap wi g tt te σ H Q = wi σ H fun J H1 => Ue J own cap g tt te σ H1 Q := rfl
def mt (J : It) (g : TG) (tb : TS) (D : Ends) (σ : St) (H1 : Hp) : Prop := ∃ W : Nat -> Nat -> St -> Hp -> Prop, (∃ m, W 0 m σ H1) /\ ∀ i m σ H, W i m σ H ->
 (J.stop i H /\ D.nx σ H) \/ (J.go i H /\ ∃ N : St -> Hp -> Prop, (∀ σ' H', N σ' H' -> ∃ m', m' < m /\ W (i + 1) m' σ' H') /\ ∀ x H', J.yld i H x H' -> g x σ H' fun σ2 H2 => tb { D with nx := N, ct := N, bk := D.nx } σ2 H2)
theorem cy (wi : TI) (g : TG) (tb : TS) (D : Ends) (σ : St) (H : Hp) : oh wi g tb D σ H = wi σ H fun J H1 => mt J g tb D σ H1 := rfl
theorem g8 (te : TE) (σ : St) (H : Hp) (R : It -> Hp -> Prop) : qe te σ H R = te σ H fun x H1 => (∃ a xs, x = .ref a /\ H1 a = some (.lst xs) /\ R (ItL a xs) H1) \/ (∃ a xs, x = .ref a /\ H1 a = some (.tup xs) /\ R (ItT a xs) H1) \/ (∃ z, x = .str z /\ R (Its z) H1) := rfl
theorem fi : ("int" ∈ ["bool", "int", "str", "list", "tuple", "dict"]) = True := eq_true (by decide)
theorem Ze : ("bool" ∈ ["bool", "int", "str", "list", "tuple", "dict"]) = True := eq_true (by decide)
theorem fh : ("str" ∈ ["bool", "int", "str", "list", "tuple", "dict"]) = True := eq_true (by decide)
theorem Zc : ("list" ∈ ["bool", "int", "str", "list", "tuple", "dict"]) = True := eq_true (by decide)
theorem Xb : ("tuple" ∈ ["bool", "int", "str", "list", "tuple", "dict"]) = True := eq_true (by decide)
theorem Zd : ("dict" ∈ ["bool", "int", "str", "list", "tuple", "dict"]) = True := eq_true (by decide)
theorem Kj : Cn "NoneType" "bool" = false := by decide
theorem L9 : Cn "NoneType" "int" = false := by decide
theorem L8 : Cn "NoneType" "str" = false := by decide
theorem Kh : Cn "NoneType" "list" = false := by decide
theorem Jk : Cn "NoneType" "tuple" = false := by decide
theorem Ki : Cn "NoneType" "dict" = false := by decide
theorem Pd : Cn "bool" "bool" = true := by decide
theorem S5 : Cn "bool" "int" = true := by decide
theorem S4 : Cn "bool" "str" = false := by decide
theorem Pb : Cn "bool" "list" = false := by decide
theorem Nz : Cn "bool" "tuple" = false := by decide
theorem Pc : Cn "bool" "dict" = false := by decide
theorem S1 : Cn "int" "bool" = false := by decide
theorem U1 : Cn "int" "int" = true := by decide
theorem U0 : Cn "int" "str" = false := by decide
theorem Rz : Cn "int" "list" = false := by decide
theorem P7 : Cn "int" "tuple" = false := by decide
theorem S0 : Cn "int" "dict" = false := by decide
theorem Rw : Cn "str" "bool" = false := by decide
theorem Tz : Cn "str" "int" = false := by decide
theorem Ty : Cn "str" "str" = true := by decide
theorem Ru : Cn "str" "list" = false := by decide
theorem P3 : Cn "str" "tuple" = false := by decide
theorem Rv : Cn "str" "dict" = false := by decide
theorem P6 : Cn "list" "bool" = false := by decide
theorem Ry : Cn "list" "int" = false := by decide
theorem Rx : Cn "list" "str" = false := by decide
theorem P4 : Cn "list" "list" = true := by decide
theorem Nx : Cn "list" "tuple" = false := by decide
theorem P5 : Cn "list" "dict" = false := by decide
theorem Nw : Cn "tuple" "bool" = false := by decide
theorem P2 : Cn "tuple" "int" = false := by decide
theorem P1 : Cn "tuple" "str" = false := by decide
theorem Nu : Cn "tuple" "list" = false := by decide
theorem M2 : Cn "tuple" "tuple" = true := by decide
theorem Nv : Cn "tuple" "dict" = false := by decide
theorem Pa : Cn "dict" "bool" = false := by decide
theorem S3 : Cn "dict" "int" = false := by decide
theorem S2 : Cn "dict" "str" = false := by decide
theorem P8 : Cn "dict" "list" = false := by decide
theorem Ny : Cn "dict" "tuple" = false := by decide
theorem P9 : Cn "dict" "dict" = true := by decide
theorem Gw {J : It} {n : Nat} {yl : Nat -> V -> Prop} {ok : Hp -> Prop} {own : List Str} {cap : List Nat} {g : TG} {tt : TT} {te : TE} {σ : St} {H : Hp} {Q : VK} (G : Pk J n yl ok) (hn : n <= sizeLine) (hok : ∀ H', Same H H' -> ok H') (ys : List V) (hl : ys.length = n)
  (hs : ∀ i x H', i < n -> yl i x -> Same H H' -> ∀ (N : V -> Hp -> Prop) (M : Hp -> Prop), (∀ y H4, Same H H4 -> ys[i]? = some y -> N y H4) -> g x (Im own cap σ) H' fun σ2 H2 => tt σ2 H2 fun b H3 => if b = true then te σ2 H3 N else M H3)
  (hd : ∀ H', Same H H' -> ∀ p, H' p = none -> Q (.ref p) (upd H' p (.lst ys))) : Ue J own cap g tt te σ H Q := by
 refine Qv G hn (fun i acc H' => Same H H' /\ acc = ys.take i) ⟨Same.refl H, by simp⟩ (fun i acc H' _ h => hok H' h.1) (fun i acc H' h => by rw [h.2, Zyl]; omega) (fun i x acc H' hi hx h => ?_) (fun acc H' h p hp => ?_)
 ·obtain ⟨s', rfl⟩ := h
  refine hs i x H' hi hx s' _ _ fun y H4 s4 hy => ⟨s4, ?_⟩
  rw [Zz3, hy]
  rfl
 ·obtain ⟨s', e⟩ := h
  rw [e, Zwg (by omega)]
  exact hd H' s' p hp
theorem D4 {J : It} {n : Nat} {yl : Nat -> V -> Prop} {ok : Hp -> Prop} {g : TG} {tb : TS} {D : Ends} {σ : St} {H : Hp} (G : Pk J n yl ok) (Pv : Nat -> St -> Hp -> Prop) (h0 : Pv 0 σ H) (hok : ∀ i σ H, i <= n -> Pv i σ H -> ok H)
  (hs : ∀ i x σ H, i < n -> yl i x -> Pv i σ H -> g x σ H fun σ2 H2 => tb { D with nx := Pv (i + 1), ct := Pv (i + 1), bk := D.nx } σ2 H2) (hd : ∀ σ H, Pv n σ H -> D.nx σ H) : mt J g tb D σ H := ad G Pv h0 hok hs hd
theorem StOk.upd {H : Hp} {st l : Addr} {o : HO} (h : StOk H st) (n : st ≠ l) : StOk (upd H l o) st := let ⟨ns, hn, e⟩ := h; ⟨ns, hn, by rw [A5 n]; exact e⟩
theorem StOk.ne {H : Hp} {st l : Addr} (h : StOk H st) (n : H l = none) : st ≠ l := let ⟨_, _, e⟩ := h; A3 e n
theorem StOk.neT {H : Hp} {st l : Addr} {xs : List V} (h : StOk H st) (n : H l = some (.tup xs)) : l ≠ st := by
 obtain ⟨_, _, e⟩ := h
 exact Vx n e (fun z => by cases z)
theorem But.upd {H H1 : Hp} {st l : Addr} {o : HO} (h : But st H H1) (hl : H l = none) : But st H (L2.upd H1 l o) := fun b u n e => by rw [A5 (A3 e hl)]; exact h b u n e
theorem But.new {H H1 : Hp} {st l : Addr} {o : HO} (h : But st H H1) (hl : H1 l = none) : But st H (L2.upd H1 l o) := h.trans (Mc hl)
theorem But.same {H H1 H2 : Hp} {st : Addr} (h : But st H H1) (s : Same H1 H2) : But st H H2 := h.trans (Be s)
theorem But.none {H H1 : Hp} {st l : Addr} (h : But st H H1) (n : l ≠ st) (hl : H1 l = none) : H l = none := by
 cases e : H l with
 | none => rfl
 | some o => rw [h l o n e] at hl; cases hl
theorem Ax {n : Nat} (h : n <= 1000) : n <= sizeLine := Zz5 h (by decide)
end NP
namespace L2
open PySem PySem.Spec PyProof.Rows
def Bu : List Expr -> Bool
 | [] => true
 | .Starred .. :: _ => false
 | _ :: r => Bu r
theorem Bs {env : Env} : ∀ {es : List Expr}, Bu es = true -> starEach es env = es.map fun e => (false, eval e env)
 | [], _ => rfl
 | e :: r, h => by
  cases e <;> first
   | (exact absurd h Zz2)
   | (rw [Zz7, <- Bs (env := env) (es := r) h]; rfl)
theorem Bb {env : Env} {e : Expr} {es : List Expr} (h : Bu [e] = true) : starEach (e :: es) env = (false, eval e env) :: starEach es env := by
 cases e <;> first
  | (exact absurd h Zz2)
  | rfl
theorem As {e : Expr} {es : List Expr} (h : Bu (e :: es) = true) : Bu [e] = true /\ Bu es = true := by
 cases e <;> first
  | (exact absurd h Zz2)
  | exact ⟨rfl, h⟩
theorem C4 {env : Env} {pos : Pos} {es : List Expr} (h : Bu es = true) : (backTo pos (starEach es env)).any (·.1) = false := by
 rw [Bs h]
 unfold backTo
 rw [Zyk, List.any_map]
 induction es with
 | nil => rfl
 | cons e r ih =>
  rw [Zx5]
  exact ih (As h).2
theorem V8 {env : Env} {pos : Pos} {es : List Expr} (h : Bu es = true) : (backTo pos (starEach es env)).all (fun x => !x.1) = true := by
 rw [Bs h]
 unfold backTo
 rw [Zyk, List.all_map]
 induction es with
 | nil => rfl
 | cons e r ih =>
  rw [Zvt]
  exact ih (As h).2
section
variable {X : Cx} {x : Str} {p pos apos cpos : Pos} {e o tg : Expr} {es : List Expr} {te to : TE} {t : TA} {id T : String} {r : List V -> Hp -> VK -> Prop} {rm : V -> List V -> Hp -> VK -> Prop} {k : Nat} {ps : List Str} {sp : Sp} {name : Str}
theorem A4 (ha : PE X e te) (hr : PA X es t) (hn : Bu [e] = true := by rfl) : PA X (e :: es) (Pu te t) := e9 ha hr (Bb hn)
theorem Aa (h : Has X.prog X.w X.K X.mg X.base x k ps sp) (hr : Room k X.A) (hg : Gl X x) (ha : PA X (e :: es) t) (hn : Bu (e :: es) = true := by rfl) (hdb : (x == ("__debug__" : Str)) = false := by decide) :
  PE X (.Call (.Name x p) (e :: es) [] pos) (Sq sp [] E0 t) := Z0 h hr hg ha hdb (Bb (As hn).1) (C4 (As hn).2)
theorem Az (hc : CallR X (.builtin id) r) (hg : Gl X x) (hm : X.mg x = none) (hv : bootBuiltins x = some (.builtin id)) (ha : PA X (e :: es) t) (hn : Bu (e :: es) = true := by rfl) (hnm : x ≠ "__name__" := by decide) (hdb : (x == ("__debug__" : Str)) = false := by decide) :
  PE X (.Call (.Name x p) (e :: es) [] pos) (tCB r t) := Z1 hc hg hm hv ha hnm hdb (Bb (As hn).1) (C4 (As hn).2)
theorem D8 (hc : CallR X (.type T) r) (hg : Gl X x) (hm : X.mg x = none) (hv : bootBuiltins x = some (.type T)) (ha : PA X (e :: es) t) (hn : Bu (e :: es) = true := by rfl) (hnm : x ≠ "__name__" := by decide) (hdb : (x == ("__debug__" : Str)) = false := by decide) :
  PE X (.Call (.Name x p) (e :: es) [] pos) (tCB r t) := X2 hc hg hm hv ha hnm hdb (Bb (As hn).1) (C4 (As hn).2)
theorem Gp (pa : PlainAttrs T) (slot : Slot T name id) (hty : typeOf (.builtin id) = pure (.type "method_descriptor")) (hm : MtR X id rm) (ho : PE X o to) (ha : PA X (e :: es) t) (hT : T = "list" \/ T = "dict" \/ T = "str" := by decide)
  (hbase : attributeBase o name X.env (eval o X.env) = eval o X.env := by rfl) (hn : Bu (e :: es) = true := by rfl) (hlen : (e :: es).length < 20 := by decide) (hline : (apos.endLine == cpos.line) = true := by rfl) :
  PE X (.Call (.Attribute o name apos) (e :: es) [] cpos) (tBA T rm to t) := by
 refine pj pa slot hty hm ho ha hT hbase ?_ hline (Bb (As hn).1) (C4 (As hn).2)
 rw [V8 hn, Bool.true_and]
 have e1 : (backToKw cpos (keywordEach [] X.env)).all (fun x => x.1.isSome) = true := rfl
 rw [e1, Bool.true_and]
 refine decide_eq_true ?_
 show (e :: es).length + 0 + 0 < 30
 omega
theorem En {ta : TA} (hg : Gl X "range") (hm : X.mg "range" = none) (ha : PA X [e] ta) (hn : Bu [e] = true := by rfl) : PI X tg (.Call (.Name "range" p) [e] [] pos) (Zu ta) := X1 hg hm ha (Bs hn)
theorem N1 {ta : TA} {e2 : Expr} (hg : Gl X "range") (hm : X.mg "range" = none) (ha : PA X [e, e2] ta) (hn : Bu [e, e2] = true := by rfl) : PI X tg (.Call (.Name "range" p) [e, e2] [] pos) (Zt ta) := X0 hg hm ha (Bs hn) (Bs (As hn).2)
end
mutual
def RD (H : Hp) : PyData -> V -> Prop
 | .none, v => v = .non
 | .bool b, v => v = .bl b
 | .int i, v => v = .int i
 | .str x, v => v = .str x
 | .list ds, v => ∃ a xs, v = .ref a /\ H a = some (.lst xs) /\ RDs H ds xs
 | .tuple ds, v => ∃ a xs, v = .ref a /\ H a = some (.tup xs) /\ RDs H ds xs
 | .dict _, _ => False
def RDs (H : Hp) : List PyData -> List V -> Prop
 | [], xs => xs = []
 | d :: ds, xs => ∃ x r, xs = x :: r /\ RD H d x /\ RDs H ds r
end
mutual
theorem RD.reads {P : Program} {w : World} {H : Hp} {h : Heap} (ok : HOk P w H h) : ∀ (d : PyData) (v : V) (u : Value), RD H d v -> RelV v u -> ∃ as, Reads h u d as
 | .none, v, u, r, e => by
  rw [RD] at r; subst r; cases e; exact ⟨_, .none⟩
 | .bool b, v, u, r, e => by
  rw [RD] at r; subst r; cases e; exact ⟨_, .bool b⟩
 | .int i, v, u, r, e => by
  rw [RD] at r; subst r; obtain ⟨t, rfl⟩ := e; exact ⟨_, .int i t⟩
 | .str x, v, u, r, e => by
  rw [RD] at r; subst r; obtain ⟨t, rfl⟩ := e; exact ⟨_, .str x t⟩
 | .list ds, v, u, r, e => by
  rw [RD] at r
  obtain ⟨a, xs, rfl, ha, r⟩ := r
  cases e
  obtain ⟨hz, its, n, rv, eo⟩ := ok a _ ha
  obtain ⟨as, q⟩ := RDs.reads ok ds xs its r rv
  exact ⟨_, .list (vs := its.toArray) eo rfl rfl q⟩
 | .tuple ds, v, u, r, e => by
  rw [RD] at r
  obtain ⟨a, xs, rfl, ha, r⟩ := r
  cases e
  obtain ⟨hz, its, rv, o, ho, hc, n, hd⟩ := ok a _ ha
  obtain ⟨as, q⟩ := RDs.reads ok ds xs its r rv
  exact ⟨_, .tuple (vs := its.toArray) ho hc hd q⟩
 | .dict _, v, u, r, e => by
  rw [RD] at r; exact r.elim
theorem RDs.reads {P : Program} {w : World} {H : Hp} {h : Heap} (ok : HOk P w H h) : ∀ (ds : List PyData) (xs : List V) (us : List Value), RDs H ds xs -> Vals xs us -> ∃ as, ReadsAll h us ds as
 | [], xs, us, r, e => by
  rw [RDs] at r; subst r; cases e; exact ⟨_, .nil⟩
 | d :: ds, xs, us, r, e => by
  rw [RDs] at r
  obtain ⟨x, r', rfl, h1, h2⟩ := r
  cases e with
  | cons r1 r2 =>
   obtain ⟨as, q1⟩ := RD.reads ok d x _ h1 r1
   obtain ⟨bs, q2⟩ := RDs.reads ok ds r' _ h2 r2
   exact ⟨_, .cons q1 q2⟩
end
def okD (d : PyData) : Bool := d.canLay0 && decide (d.depth <= 50)
def rEqD : R2 := fun x y H Q => ∃ d e, RD H d x /\ RD H e y /\ okD d = true /\ okD e = true /\ Q (.bl (PyData.eqv d e)) H
def rNeD : R2 := fun x y H Q => ∃ d e, RD H d x /\ RD H e y /\ okD d = true /\ okD e = true /\ Q (.bl (!PyData.eqv d e)) H
theorem Z6 {A : Around} {d e : PyData} (h : okD d = true) (hu : A.units + 64 < cLine) : A.units + min d.depth e.depth < cLine := by
 have h1 : d.depth <= 50 := of_decide_eq_true (Zy0.mp h).2
 have h2 : min d.depth e.depth <= d.depth := Nat.min_le_left _ _
 omega
section
variable {X : Cx}
theorem Z4 (hu : X.A.units + 64 < cLine) : OpR X (compareOp .NotEq) rNeD := by
 intro pins s σ H x y v u Q I rx ry h
 obtain ⟨d, e, rd, re, hd, he, q⟩ := h
 obtain ⟨as, r1⟩ := RD.reads I.hok d x v rd rx
 obtain ⟨bs, r2⟩ := RD.reads I.hok e y u re ry
 exact SeqAt.compareNe_reads r1 r2 (Zy0.mp hd).1 (Zy0.mp he).1 (Z6 hd hu) ⟨.bl _, H, I, rfl, q⟩
end
theorem g9 {A : Around} {k : Nat} (hr : Room k A) : A.units + 64 < cLine := by
 have := hr.un
 omega
section
variable {X : Cx} {pins : List (Addr × Obj)} {σ : St} {H : Hp} {s : Shared} {h' : Heap}
theorem HOk.but {P : Program} {w : World} {h : Heap} {wr : List Addr} (x : HOk P w H h) (k : ∀ b o, b ∉ wr -> h.get? b = some o -> h'.get? b = some o) (n : ∀ b ∈ wr, H b = none) : HOk P w H h' := fun a o e =>
 (x a o e).stay (fun b u hb q => k b u (fun z => by
  rcases hb with hb | hb
  ·rw [hb] at z; rw [n a z] at e; cases e
  ·rw [n b z] at hb; cases hb) q) (fun _ q => q) fun _ _ q => q
theorem Inv.turnedL {t' : Nat} {wr : List Addr} (I : Inv X pins σ H s) (k : ∀ b o, b ∉ wr -> s.heap.get? b = some o -> h'.get? b = some o) (f : ∀ b ∈ wr, Ho X pins H b) : Inv X pins σ H { s with heap := h', toks := t' } := by
 refine I.step (g' := s.gens) (d' := s.drawn) (ch := wr) (fun b hb => ?_) (fun b o _ _ hc e _ => k b o hc e) (fun b o _ _ hc e _ => ⟨o.slots, k b o hc e⟩) (fun _ _ _ _ n => n)
  (fun b o hc e => ⟨o, k b o hc e⟩) (fun _ _ e => e) (fun _ _ _ e => e) (fun b ps e => ⟨#[], by rw [e]; simp⟩) (fun m hm => ?_) (I.hok.but k fun b hb => (f b hb).1) I.bare
 ·obtain ⟨f0, f1, f2, f3, f4, f5⟩ := f b hb
  exact ⟨f3, f1, f4, f5⟩
 ·obtain ⟨o, es, ep, ho, r⟩ := hm
  exact ⟨o, es, ep, k _ o (fun z => (f _ z).2.1 rfl) ho, r⟩
theorem Inv.turnedT {t' : Nat} {wr : List Addr} {p : Addr} {xs : List V} {its : List Value} (I : Inv X pins σ H s) (k : ∀ b o, b ∉ wr -> s.heap.get? b = some o -> h'.get? b = some o) (f : ∀ b ∈ wr, Ho X pins H b) (hp : s.heap.objs.size <= p)
  (ht : IsTup h' p its.toArray) (rv : Vals xs its) (hz : xs.length <= sizeLine) : Inv X pins σ (upd H p (.tup xs)) { s with heap := h', toks := t' } := by
 have hn : H p = none := I.hok.fresh hp
 have ne : ∀ b o, s.heap.get? b = some o -> b ≠ p := fun b o e => Cp (Zzj e) hp
 refine I.step (g' := s.gens) (d' := s.drawn) (ch := wr) (fun b hb => ?_) (fun b o _ _ hc e _ => k b o hc e) (fun b o _ _ hc e _ => ⟨o.slots, k b o hc e⟩) (fun b o _ e n => by rw [A5 (ne b o e)]; exact n)
  (fun b o hc e => ⟨o, k b o hc e⟩) (fun b ys e => by rw [A5 (A3 e hn)]; exact e) (fun b o u e => by rw [A5 (A3 e hn)]; exact e) (fun b ps e => ⟨#[], by rw [A5 (A3 e hn), e]; simp⟩) (fun m hm => ?_) (fun b u e => ?_) I.bare
 ·obtain ⟨f0, f1, f2, f3, f4, f5⟩ := f b hb
  exact ⟨f3, f1, f4, f5⟩
 ·obtain ⟨o, es, ep, ho, r⟩ := hm
  exact ⟨o, es, ep, k _ o (fun z => (f _ z).2.1 rfl) ho, r⟩
 ·by_cases hb : b = p
  ·subst hb
   rw [A0] at e
   cases e
   exact ⟨hz, its, rv, ht⟩
  ·rw [A5 hb] at e
   refine (I.hok.but k (fun b hb => (f b hb).1) b u e).stay (fun _ _ _ q => q) (fun c q => ?_) fun c ys q => ?_
   ·rw [A5 (A3 q hn)]; exact q
   ·rw [A5 (A3 q hn)]; exact q
theorem Ux {P : Program} {w : World} {it : Addr} {fp wr : List Addr} {n i : Nat} {Pt : Nat -> Array Value -> Prop} {St : Nat -> Heap -> Prop} {Mid : Nat -> Addr -> Heap -> Prop} {elts : List Expr} {k : Nat} {pos : Pos} {E : Value -> Shared -> Prop} {Y : List V -> Prop}
  (W : WalksT P w X.A it fp wr n Pt St Mid) (hi : i < n) (I : Inv X pins σ H s) (st : St i s.heap) (hf : ∀ b ∈ wr, Ho X pins H b) (hv : ∀ vals, Pt i vals -> ∃ xs, Vals xs vals.toList /\ xs.length <= 100 /\ Y xs) :
  wpAny (model P w) X.A (pyNext (.ref it)) (fun r s1 => ∃ u, r = some u /\ wpAny (model P w) X.A (letOwnedTupleGo (.Tuple elts k pos) (.ref it) u) (fun _ s2 =>
   ∃ p xs, u = .ref p /\ s.heap.objs.size <= p /\ H p = none /\ Inv X pins σ (upd H p (.tup xs)) s2 /\ Y xs /\ St (i + 1) s2.heap) E s1) E s := by
 refine W.item i s _ E hi st fun T vals h1 tk hP hT ht hm hk => ⟨.ref T, rfl, ?_⟩
 obtain ⟨xs, rv, hz, hY⟩ := hv vals hP
 refine W.go elts k pos i T { s with heap := h1, toks := tk } _ E hm fun h2 st2 hk2 => ?_
 have hTw : T ∉ wr := W.apart i T h1 hm
 have ht2 : IsTup h2 T vals.toList.toArray := by
  obtain ⟨o, ho, hc, m, hd⟩ := ht
  exact ⟨o, hk2 T o hTw ho, hc, m, by simpa using hd⟩
 exact ⟨T, xs, rfl, hT, I.hok.fresh hT, I.turnedT (t' := tk) (fun b o hb e => hk2 b o hb (hk b o hb e)) hf hT ht2 rv (Zz5 hz (by decide)), hY, st2⟩
end
structure Ud (J : It) (n : Nat) (yl : Nat -> List V -> Prop) (ok : Hp -> Prop) : Prop where
 go : ∀ i H, i < n -> ok H -> J.go i H
 yld : ∀ i H x H', i < n -> ok H -> J.yld i H x H' -> ∃ p ys, x = .ref p /\ H p = none /\ H' = upd H p (.tup ys) /\ yl i ys
 stop : ∀ H, ok H -> J.stop n H
theorem W6 {J : It} {n : Nat} {yl : Nat -> List V -> Prop} {ok : Hp -> Prop} {g : TG} {tb : TS} {D : Ends} {σ : St} {H : Hp} (G : Ud J n yl ok) (Pv : Nat -> St -> Hp -> Prop) (h0 : Pv 0 σ H) (hok : ∀ i σ H, i <= n -> Pv i σ H -> ok H)
  (hs : ∀ i ys p σ H, i < n -> yl i ys -> Pv i σ H -> H p = none -> g (.ref p) σ (upd H p (.tup ys)) fun σ2 H2 => tb { D with nx := Pv (i + 1), ct := Pv (i + 1), bk := D.nx } σ2 H2) (hd : ∀ σ H, Pv n σ H -> D.nx σ H) : NP.mt J g tb D σ H := by
 refine ⟨fun i m σ H => m = n - i /\ i <= n /\ Pv i σ H, ⟨n, by simp, Zyq _, h0⟩, ?_⟩
 rintro i m σ H ⟨rfl, hi, p⟩
 have q := hok i σ H hi p
 by_cases hlt : i < n
 ·refine .inr ⟨G.go i H hlt q, Pv (i + 1), fun σ' H' p' => ⟨n - (i + 1), by omega, rfl, hlt, p'⟩, fun x H' y => ?_⟩
  obtain ⟨a, ys, e1, e2, e3, y'⟩ := G.yld i H x H' hlt q y
  subst e1 e3
  exact hs i ys a σ H hlt y' p e2
 ·have e : i = n := by omega
  subst e
  exact .inl ⟨G.stop H q, hd σ H p⟩
theorem gT2 {K : Zzu} {i j : Nat} {p : Addr} {x y : V} {σ : St} {H : Hp} {Q : St -> Hp -> Prop} (h : Q ((σ.set i (some x)).set j (some y)) (upd H p (.tup [x, y]))) : Zz K 2 (J9 (Fe i) (J9 (Fe j) gNil)) (.ref p) σ (upd H p (.tup [x, y])) Q :=
 ⟨p, _, rfl, SqT.of A0, rfl, _, _, rfl, _, _, rfl, rfl, h⟩
theorem gT3 {K : Zzu} {i j k : Nat} {p : Addr} {x y z : V} {σ : St} {H : Hp} {Q : St -> Hp -> Prop} (h : Q (((σ.set i (some x)).set j (some y)).set k (some z)) (upd H p (.tup [x, y, z]))) :
  Zz K 3 (J9 (Fe i) (J9 (Fe j) (J9 (Fe k) gNil))) (.ref p) σ (upd H p (.tup [x, y, z])) Q :=
 ⟨p, _, rfl, SqT.of A0, rfl, _, _, rfl, _, _, rfl, _, _, rfl, rfl, h⟩
def ItE (a : Addr) (xs : List V) : It := ⟨fun i H => H a = some (.lst xs) /\ i < xs.length, fun i H x H' => ∃ p y, x = .ref p /\ H p = none /\ xs[i]? = some y /\ H' = upd H p (.tup [.int i, y]), fun i H => H a = some (.lst xs) /\ i = xs.length⟩
theorem j8 (a : Addr) (xs : List V) : Ud (ItE a xs) xs.length (fun i ys => ∃ y, xs[i]? = some y /\ ys = [.int i, y]) (fun H => H a = some (.lst xs)) :=
 ⟨fun i H h o => ⟨o, h⟩, fun i H x H' h o y => let ⟨p, z, e1, e2, e3, e4⟩ := y; ⟨p, _, e1, e2, e4, z, e3, rfl⟩, fun H o => ⟨o, rfl⟩⟩
theorem Ws {P : Program} {w : World} {K : Zzu} {elts : List Expr} {k : Nat} {pos : Pos} (e it a : Addr) (xs : List V) (hei : e ≠ it) : Lg P w K (.Tuple elts k pos) (ItE a xs) [e, it] e (fun i h => (∃ old, IsEnum h e it i old) /\ h.IsListIter it a i) where
 mem := by simp
 obj := fun i h st b hb => by
  obtain ⟨⟨old, he⟩, o, ho, c, d⟩ := st
  rcases Zzk.mp hb with q | q
  ·rw [q]; exact ⟨_, he, fun v z => by cases z⟩
  ·rw [Zzd.mp q]; exact ⟨o, ho, fun v z => by rw [d] at z; cases z⟩
 keep := fun i h h' st k => by
  obtain ⟨⟨old, he⟩, hi⟩ := st
  exact ⟨⟨old, k e (by simp) _ he⟩, hi.at fun o q => k it (by simp) o q⟩
 item := by
  intro X hP hw hK hc i pins s σ H E I hf st hg
  subst hP hw hK
  obtain ⟨hq, hlt⟩ := hg
  obtain ⟨its, rv, hl, hal⟩ := Aw I hq
  have f1 := hf e (by simp)
  have f2 := hf it (by simp)
  have hae : a ≠ e := A3 hq f1.1
  have hai : a ≠ it := A3 hq f2.1
  have hlen := rv.length
  have hv : ∀ vals : Array Value, (∃ t x, its.toArray[i]? = some x /\ vals = #[.int i t, x]) -> ∃ ys, Vals ys vals.toList /\ ys.length <= 100 /\ ∃ y, xs[i]? = some y /\ ys = [V.int i, y] := by
   rintro vals ⟨t, x, hx, rfl⟩
   obtain ⟨u, hu, ru⟩ := rv.get (x := xs[i]) (i := i) (by simp [hlt])
   have hx : its[i]? = some x := by simpa using hx
   rw [hx] at hu
   cases hu
   exact ⟨[.int i, xs[i]], .cons ⟨t, rfl⟩ (.cons ru .nil), by simp, xs[i], by simp [hlt], rfl⟩
  refine thn (Ux (E := E) (WalksT.enumerate (I.ok.hd hc) e it a hei hae hai its.toArray) (by rw [Zzp]; omega) I ⟨st.1, st.2, hl⟩ hf hv) fun r s1 ⟨u, hr, h3⟩ => ⟨u, hr, thn h3 fun _ s2 ⟨p, ys, hu, hp, hn, I2, ⟨y, hy, e2⟩, st2⟩ => ?_⟩
  subst hu e2
  refine ⟨.ref p, _, I2, rfl, ⟨p, y, rfl, hn, hy, rfl⟩, ⟨st2.1, st2.2.1⟩, fun b hb => ?_⟩
  have hbl : b < s.heap.objs.size := by
   obtain ⟨⟨old, he⟩, o, ho, c, d⟩ := st
   rcases Zzk.mp hb with q | q
   ·rw [q]; exact Zzj he
   ·rw [Zzd.mp q]; exact Zzj ho
  rw [A5 (Cp hbl hp)]
  exact (hf b hb).1
 done := by
  intro X hP hw hK hc i pins s σ H E I hf st hg
  subst hP hw hK
  obtain ⟨hq, hlt⟩ := hg
  obtain ⟨its, rv, hl, hal⟩ := Aw I hq
  have f1 := hf e (by simp)
  have f2 := hf it (by simp)
  have hlen := rv.length
  have hi : its.toArray.size = i := by rw [Zzp]; omega
  refine (WalksT.enumerate (I.ok.hd hc) e it a hei (A3 hq f1.1) (A3 hq f2.1) its.toArray).done s _ E ?_ fun h' tk hk => ⟨rfl, I.turnedL hk hf⟩
  rw [hi]
  exact ⟨st.1, st.2, hl⟩
 self := fun _ _ _ _ _ st h => by
  obtain ⟨⟨old, he⟩, _⟩ := st
  exact wpAny_pyIter_enum he h
section
variable {X : Cx}
def j7 (ta : TA) : TI := fun σ H R => ta σ H fun vs H1 => ∃ a xs, vs = [.ref a] /\ H1 a = some (.lst xs) /\ R (ItE a xs) H1
theorem Vq {elts : List Expr} {k : Nat} {pt p pos : Pos} {e : Expr} {ta : TA} (hg : Gl X "enumerate") (hm : X.mg "enumerate" = none) (ha : PA X [e] ta) (hn : Bu [e] = true := by rfl) : PI X (.Tuple elts k pt) (.Call (.Name "enumerate" p) [e] [] pos) (j7 ta) := by
 intro pins s σ H R I h
 refine Call_ (E9 I hg hm NP.Sa (Zyn (thn (ha pos pins s σ H _ I h) fun us s1 ⟨vs, H1, I1, r1, q1⟩ => ?_) (Bs hn) rfl))
 obtain ⟨a, xs, e, hq, q⟩ := q1
 subst e
 obtain ⟨u, rfl, ru⟩ := Gh r1
 cases ru
 obtain ⟨its, rv, hl, hal⟩ := Aw I1 hq
 refine call_enumerate_list hl fun h' he hi hz hk => wpAny_pyIter_enum he ?_
 have I2 : Inv X pins σ H1 { s1 with heap := h' } := I1.kept (t' := s1.toks) hk
 refine ⟨s1.heap.objs.size + 1, [s1.heap.objs.size + 1, s1.heap.objs.size], _, _, H1, rfl, I2, Ws _ _ a xs (Zw9 _), ⟨⟨_, he⟩, hi⟩, fun b hb => ?_, q⟩
 have hb' : s1.heap.objs.size <= b := by
  rcases Zzk.mp hb with z | z
  ·rw [z]; exact Nat.le_succ _
  ·rw [Zzd.mp z]; exact Zzt _
 exact I1.fpOk hb' (I1.hok.fresh hb')
end
theorem Sf : ∀ {ns : List Int} {us : List Value} {i : Nat} {u : Value}, Vals (ns.map V.int) us -> us[i]? = some u -> ∃ t, u = .int ((ns[i]?).getD 0) t
 | [], _, i, u, .nil, e => by simp at e
 | n :: r, _, 0, u, .cons h t, e => by
  obtain ⟨t', h⟩ := h
  simp at e
  subst e
  exact ⟨t', by rw [h]; rfl⟩
 | n :: r, _, i + 1, u, .cons h t, e => by
  obtain ⟨t', q⟩ := Sf (ns := r) (i := i) (u := u) t (by simpa using e)
  exact ⟨t', by rw [q]; simp⟩
section
variable {X : Cx}
def rSum : List V -> Hp -> VK -> Prop := fun xs H Q => ∃ (a : Addr) (ns : List Int), xs = [.ref a] /\ H a = some (.lst (ns.map V.int)) /\ Q (.int ns.sum) H
def df : V -> List V -> Hp -> VK -> Prop := fun x vs H Q => ∃ l xs i y, x = .ref l /\ vs = [.int i, y] /\ H l = some (.lst xs) /\ 0 <= i /\ i < 2 ^ 60 /\ xs.length < 1000000 /\ Q .non (upd H l (.lst (xs.take (min i.toNat xs.length) ++ y :: xs.drop (min i.toNat xs.length))))
def rMax2 : List V -> Hp -> VK -> Prop := fun xs H Q => ∃ i j, xs = [.int i, .int j] /\ Q (.int (if j > i then j else i)) H
theorem Ld (hc : X.calm = true) : CallR X (.builtin "max") rMax2 := Y3 hc
end
theorem Ul {n d : Nat} {k : Int} (h : 0 <= k) : HT.sIx n d (some k) = min k.toNat n := by
 unfold HT.sIx
 simp only
 split <;> omega
theorem Hk {xs : List V} {j : Int} (hj : 0 <= j) : Dq xs none (some j) = xs.take j.toNat := by
 unfold Dq
 rw [Ul hj]
 have e : HT.sIx xs.length 0 none = 0 := rfl
 rw [e, List.drop_zero, Nat.sub_zero]
 apply Zxu
 intro k
 simp only [Zxl]
 by_cases h : k < xs.length
 ·by_cases h2 : k < j.toNat
  ·rw [if_pos (by omega), if_pos h2]
  ·rw [if_neg (by omega), if_neg h2]
 ·rw [Zyt (by omega)]
  split <;> split <;> rfl
def CMulB (i j : Int) : Prop := CMul i j \/ (i.natAbs < 10 ^ 3000 /\ j.natAbs < 10 ^ 3000)
theorem Wb {i : Int} (h : i.natAbs < 10 ^ 3000) : Builtin.Int.intBits i <= 2 ^ 20 := by
 unfold Builtin.Int.intBits
 split
 ·exact Zyq _
 ·rename_i h0
  have h1 : i.natAbs ≠ 0 := by
   intro e
   exact h0 (by simpa using e)
  have h2 : i.natAbs.log2 < 2 ^ 19 := by
   rw [Nat.log2_lt h1]
   refine Zz9 h (Zz5 (Nat.pow_le_pow_left (by decide : (10 : Nat) <= 2 ^ 4) 3000) ?_)
   rw [<- Nat.pow_mul]
   exact Zw2 (by decide) (by decide)
  have : (2 : Nat) ^ 20 = 2 ^ 19 + 2 ^ 19 := by decide
  have : (1 : Nat) <= 2 ^ 19 := by decide
  omega
theorem CMulB.ok {i j : Int} (h : CMulB i j) : IntMulOk i j := h.elim CMul.ok fun h => .of_bits (Wb h.1) (Wb h.2)
section
variable {X : Cx}
theorem Ga : OpR X (binaryOp .Mult) (rI CMulB fun i j => .int (i * j)) := opI fun _ _ _ _ _ _ _ hc q => mul_int q hc.ok
end
def mr (a b : Addr) (xs ys : List V) : It := ⟨fun i H => H a = some (.lst xs) /\ H b = some (.lst ys) /\ i < min xs.length ys.length,
 fun i H x H' => ∃ p y z, x = .ref p /\ H p = none /\ xs[i]? = some y /\ ys[i]? = some z /\ H' = upd H p (.tup [y, z]), fun i H => H a = some (.lst xs) /\ H b = some (.lst ys) /\ i = min xs.length ys.length⟩
theorem Zy (a b : Addr) (xs ys : List V) : Ud (mr a b xs ys) (min xs.length ys.length) (fun i us => ∃ y z, xs[i]? = some y /\ ys[i]? = some z /\ us = [y, z]) (fun H => H a = some (.lst xs) /\ H b = some (.lst ys)) :=
 ⟨fun i H h o => ⟨o.1, o.2, h⟩, fun i H x H' h o y => let ⟨p, u, v, e1, e2, e3, e4, e5⟩ := y; ⟨p, _, e1, e2, e5, u, v, e3, e4, rfl⟩, fun H o => ⟨o.1, o.2, rfl⟩⟩
theorem Wq {P : Program} {w : World} {K : Zzu} {elts : List Expr} {k : Nat} {pos : Pos} (z TI TO i1 i2 a b : Addr) (xs ys : List V) (nd : [z, TI, TO, i1, i2].Nodup) :
  Lg P w K (.Tuple elts k pos) (mr a b xs ys) [z, TI, TO, i1, i2] z (fun i h => IsZip h z TI TO .none /\ IsPair h TI (.ref i1) (.ref i2) /\ (∃ u v, IsPair h TO u v) /\ h.IsListIter i1 a i /\ h.IsListIter i2 b i) := by
 have nd' := nd
 simp only [Zym, Zzk, Zz8, or_false, not_or] at nd'
 obtain ⟨⟨n1, n2, n3, n4⟩, ⟨n5, n6, n7⟩, ⟨n8, n9⟩, n10, _⟩ := nd'
 have objs : ∀ (i : Nat) (h : Heap), (IsZip h z TI TO .none /\ IsPair h TI (.ref i1) (.ref i2) /\ (∃ u v, IsPair h TO u v) /\ h.IsListIter i1 a i /\ h.IsListIter i2 b i) -> ∀ c ∈ [z, TI, TO, i1, i2], ∃ o, h.get? c = some o /\ ∀ v, o.data ≠ .cell v := by
  rintro i h ⟨hz, hT, ⟨u, v, hO⟩, ⟨o1, g1, c1, d1⟩, ⟨o2, g2, c2, d2⟩⟩ c hc
  simp only [Zzk, Zz8, or_false] at hc
  rcases hc with q | q | q | q | q <;> subst q
  ·exact ⟨_, hz, fun _ y => by cases y⟩
  ·exact ⟨_, hT, fun _ y => by cases y⟩
  ·exact ⟨_, hO, fun _ y => by cases y⟩
  ·exact ⟨o1, g1, fun _ y => by rw [d1] at y; cases y⟩
  ·exact ⟨o2, g2, fun _ y => by rw [d2] at y; cases y⟩
 have apart : ∀ {X : Cx} {pins : List (Addr × Obj)} {H : Hp}, (∀ c ∈ [z, TI, TO, i1, i2], Ho X pins H c) -> ∀ {us vs : List V}, H a = some (.lst us) -> H b = some (.lst vs) -> ZipApart z TI TO i1 i2 a b := by
  intro X pins H hf us vs ha hb
  have fr : ∀ c ∈ [z, TI, TO, i1, i2], a ≠ c /\ b ≠ c := fun c hc => ⟨A3 ha (hf c hc).1, A3 hb (hf c hc).1⟩
  exact ⟨fun e => n1 e.symm, fun e => n2 e.symm, fun e => n3 e.symm, fun e => n4 e.symm, n5, n6, n7, n8, n9, n10, (fr z (by simp)).1, (fr TO (by simp)).1, (fr i1 (by simp)).1, (fr i2 (by simp)).1, (fr z (by simp)).2, (fr TO (by simp)).2, (fr i1 (by simp)).2, (fr i2 (by simp)).2⟩
 refine ⟨by simp, objs, ?_, ?_, ?_, ?_⟩
 ·rintro i h h' ⟨hz, hT, ⟨u, v, hO⟩, g1, g2⟩ kp
  exact ⟨kp z (by simp) _ hz, kp TI (by simp) _ hT, ⟨u, v, kp TO (by simp) _ hO⟩, g1.at fun o e => kp i1 (by simp) o e, g2.at fun o e => kp i2 (by simp) o e⟩
 ·intro X hP hw hK hc i pins s σ H E I hf st hg
  subst hP hw hK
  obtain ⟨ha, hb, hlt⟩ := hg
  obtain ⟨its, rv, hl, hal⟩ := Aw I ha
  obtain ⟨its2, rv2, hl2, hal2⟩ := Aw I hb
  have len1 := rv.length
  have len2 := rv2.length
  obtain ⟨s1, s2, s3, s4, s5⟩ := id st
  have hv : ∀ vals : Array Value, (∃ x y, its.toArray[i]? = some x /\ its2.toArray[i]? = some y /\ vals = #[x, y]) -> ∃ us, Vals us vals.toList /\ us.length <= 100 /\ ∃ y z, xs[i]? = some y /\ ys[i]? = some z /\ us = [y, z] := by
   rintro vals ⟨x, y, hx, hy, rfl⟩
   have l1 : i < xs.length := by omega
   have l2 : i < ys.length := by omega
   obtain ⟨u, hu, ru⟩ := rv.get (x := xs[i]) (i := i) (by simp [l1])
   obtain ⟨u', hu', ru'⟩ := rv2.get (x := ys[i]) (i := i) (by simp [l2])
   have hx : its[i]? = some x := by simpa using hx
   have hy : its2[i]? = some y := by simpa using hy
   rw [hx] at hu
   rw [hy] at hu'
   cases hu
   cases hu'
   exact ⟨[xs[i], ys[i]], .cons ru (.cons ru' .nil), by simp, xs[i], ys[i], by simp [l1], by simp [l2], rfl⟩
  have sub : ∀ c ∈ [z, TO, i1, i2], c ∈ [z, TI, TO, i1, i2] := fun c hc => by simp at hc ⊢; rcases hc with h | h | h | h <;> simp [h]
  refine thn (Ux (E := E) (WalksT.zip2 (I.ok.hd hc) z TI TO i1 i2 a b (apart hf ha hb) its.toArray its2.toArray) (by rw [Zzp, Zzp]; omega) I ⟨s1, s2, s3, s4, s5, hl, hl2⟩ (fun c hc => hf c (sub c hc)) hv) fun r t1 ⟨u, hr, h3⟩ =>
   ⟨u, hr, thn h3 fun _ t2 ⟨p, us, hu, hp, hn, I2, ⟨y, y', hy, hy', e2⟩, st2⟩ => ?_⟩
  subst hu e2
  refine ⟨.ref p, _, I2, rfl, ⟨p, y, y', rfl, hn, hy, hy', rfl⟩, ⟨st2.1, st2.2.1, st2.2.2.1, st2.2.2.2.1, st2.2.2.2.2.1⟩, fun c hc => ?_⟩
  obtain ⟨o, ho, _⟩ := objs i _ st c hc
  rw [A5 (Cp (Zzj ho) hp)]
  exact (hf c hc).1
 ·intro X hP hw hK hc i pins s σ H E I hf st hg
  subst hP hw hK
  obtain ⟨ha, hb, hlt⟩ := hg
  obtain ⟨its, rv, hl, hal⟩ := Aw I ha
  obtain ⟨its2, rv2, hl2, hal2⟩ := Aw I hb
  have len1 := rv.length
  have len2 := rv2.length
  obtain ⟨s1, s2, s3, s4, s5⟩ := id st
  have sub : ∀ c ∈ [z, TO, i1, i2], c ∈ [z, TI, TO, i1, i2] := fun c hc => by simp at hc ⊢; rcases hc with h | h | h | h <;> simp [h]
  have hi : min its.toArray.size its2.toArray.size = i := by rw [Zzp, Zzp]; omega
  refine (WalksT.zip2 (I.ok.hd hc) z TI TO i1 i2 a b (apart hf ha hb) its.toArray its2.toArray).done s _ E ?_ fun h' tk hk => ⟨rfl, I.turnedL hk fun c hc => hf c (sub c hc)⟩
  rw [hi]
  exact ⟨s1, s2, s3, s4, s5, hl, hl2⟩
 ·intro A i s Q E st h
  exact wpAny_pyIter_zip st.1 h
section
variable {X : Cx}
def j6 (ta : TA) : TI := fun σ H R => ta σ H fun vs H1 => ∃ a b xs ys, vs = [.ref a, .ref b] /\ H1 a = some (.lst xs) /\ H1 b = some (.lst ys) /\ R (mr a b xs ys) H1
theorem Vp {elts : List Expr} {k : Nat} {pt p pos : Pos} {e e2 : Expr} {ta : TA} (hg : Gl X "zip") (hm : X.mg "zip" = none) (ha : PA X [e, e2] ta) (hn : Bu [e, e2] = true := by rfl) : PI X (.Tuple elts k pt) (.Call (.Name "zip" p) [e, e2] [] pos) (j6 ta) := by
 intro pins s σ H R I h
 refine Call_ (E9 I hg hm NP.ax (Zyn (thn (ha pos pins s σ H _ I h) fun us s1 ⟨vs, H1, I1, r1, q1⟩ => ?_) (Bb (As hn).1) (C4 (As hn).2)))
 obtain ⟨a, b, xs, ys, e, ha, hb, q⟩ := q1
 subst e
 obtain ⟨u, u', rfl, ru, ru'⟩ := Si r1
 cases ru
 cases ru'
 obtain ⟨its, rv, hl, hal⟩ := Aw I1 ha
 obtain ⟨its2, rv2, hl2, hal2⟩ := Aw I1 hb
 refine call_zip_2 hl hl2 fun h' g1 g2 g3 g4 g5 hz hk => wpAny_pyIter_zip g1 ?_
 have I2 : Inv X pins σ H1 { s1 with heap := h' } := I1.kept (t' := s1.toks) hk
 have nd : [s1.heap.objs.size + 4, s1.heap.objs.size + 2, s1.heap.objs.size + 3, s1.heap.objs.size, s1.heap.objs.size + 1].Nodup := by
  simp only [Zym, Zzk, Zz8, or_false, not_or, Zx0, and_true, not_false_eq_true]
  refine ⟨⟨?_, ?_, ?_, ?_⟩, ⟨?_, ?_, ?_⟩, ⟨?_, ?_⟩, ?_⟩ <;> (intro z; have z' : (_ : Nat) = _ := z; omega)
 refine ⟨s1.heap.objs.size + 4, [s1.heap.objs.size + 4, s1.heap.objs.size + 2, s1.heap.objs.size + 3, s1.heap.objs.size, s1.heap.objs.size + 1], _, _, H1, rfl, I2, Wq _ _ _ _ _ a b xs ys nd, ⟨g1, g2, ⟨_, _, g3⟩, g4, g5⟩, fun c hc => ?_, q⟩
 have hb' : s1.heap.objs.size <= c := by
  simp only [Zzk, Zz8, or_false] at hc
  rcases hc with q | q | q | q | q <;> rw [q] <;> first | exact Nat.le_add_right _ _ | exact Zzt _
 exact I1.fpOk hb' (I1.hok.fresh hb')
end
abbrev Cw (h : Heap) (T : Addr) (a b c : Value) : Prop := h.get? T = some { cls := .type "tuple", data := .seq #[a, b, c] }
section
variable {prog : Program} {w : World} {A : Around} {E : Value -> Shared -> Prop} {s : Shared}
theorem Jp {T : Addr} {a b c x : Value} {k : Nat} {Q : Unit -> Shared -> Prop} (hT : Cw s.heap T a b c)
  (h : ∀ h', h'.get? T = some { cls := .type "tuple", data := .seq ((#[a, b, c] : Array Value).setIfInBounds k x) } -> Zy6 T s.heap h' -> Q () { s with heap := h' }) :
  wpAny (model prog w) A (updateSeq T (·.setIfInBounds k x)) Q E s := wpAny_updateSeq hT rfl (h _ (by rw [Zxh _ hT rfl]; simp [Obj.mapSeq]) (Heap.SameBut.update ..))
structure Sd (z TI TO i1 i2 i3 : Addr) (ls : List Addr) : Prop where
 nd : [z, TI, TO, i1, i2, i3].Nodup
 ls : ∀ l ∈ ls, l ∉ [z, TI, TO, i1, i2, i3]
theorem Wl {z TI TO i1 i2 i3 l1 l2 l3 : Addr} {k : Nat} {xs ys zs : Array Value} {x y v a b c : Value} {Q : Value -> Shared -> Prop} (D : Sd z TI TO i1 i2 i3 [l1, l2, l3])
  (hZ : IsZip s.heap z TI TO .none) (hI : Cw s.heap TI (.ref i1) (.ref i2) (.ref i3)) (hO : Cw s.heap TO a b c)
  (g1 : s.heap.IsListIter i1 l1 k) (g2 : s.heap.IsListIter i2 l2 k) (g3 : s.heap.IsListIter i3 l3 k) (m1 : s.heap.IsList l1 xs) (m2 : s.heap.IsList l2 ys) (m3 : s.heap.IsList l3 zs) (e1 : xs[k]? = some x) (e2 : ys[k]? = some y) (e3 : zs[k]? = some v)
  (hQ : ∀ h', IsZip h' z TI TO (rawInt s.heap.objs.size) -> Cw h' TO x y v -> h'.IsListIter i1 l1 (k + 1) -> h'.IsListIter i2 l2 (k + 1) -> h'.IsListIter i3 l3 (k + 1) -> Cw h' s.heap.objs.size x y v -> h'.objs.size = s.heap.objs.size + 1 ->
   (∀ c o, c ∉ [z, TO, i1, i2, i3] -> s.heap.get? c = some o -> h'.get? c = some o) -> Q (.ref s.heap.objs.size) { s with heap := h' }) :
  wpAny (model prog w) A (Builtin.«zip.__next__» ⟨[.ref z], []⟩) (fun fin s' => ∃ v, fin = .done (.ret v) /\ Q v s') E s := by
 obtain ⟨nd, ls⟩ := D
 have a1 := ls l1 (by simp)
 have a2 := ls l2 (by simp)
 have a3 := ls l3 (by simp)
 simp only [Zym, Zzk, Zz8, or_false, not_or] at nd a1 a2 a3
 obtain ⟨⟨zI, zO, z1, z2, z3⟩, ⟨IO, I1, I2, I3⟩, ⟨O1, O2, O3⟩, ⟨n12, n13⟩, n23, _⟩ := nd
 obtain ⟨a1z, a1I, a1O, a11, a12, a13⟩ := a1
 obtain ⟨a2z, a2I, a2O, a21, a22, a23⟩ := a2
 obtain ⟨a3z, a3I, a3O, a31, a32, a33⟩ := a3
 show wpAny _ _ (field (.ref z) 2 >>= _) _ _ _
 refine wpAny_bind (wpAny_field hZ rfl (x := .bool false) rfl (show wpAny _ _ (field (.ref z) 3 >>= _) _ _ _ from ?_))
 refine wpAny_bind (wpAny_field hZ rfl (x := .ref TI) rfl (wpAny_bind (wpAny_seqItems hI rfl ?_)))
 refine wpAny_bind (m := Zxv (.ref z)) ?_
 unfold Zxv
 refine wpAny_bind (wpAny_field hZ rfl (x := .none) rfl (wpAny_pure ?_))
 simp only [if_true]
 refine wpAny_bind (wpAny_rule (wpAny_bind (wpAny_field hZ rfl (x := .ref TO) rfl (wpAny_bind (wpAny_setField_rec hZ (by simp) fun h₁ w₁ s₁ => ?_)))))
 replace w₁ : IsZip h₁ z TI TO .ellipsis := w₁
 have K1 : ∀ c o, c ≠ z -> s.heap.get? c = some o -> h₁.get? c = some o := fun c o n e => s₁.extBut c o n e
 refine wpAny_bind ?_
 simp only [List.zipIdx_cons, List.zipIdx_nil, List.forIn_cons, List.forIn_nil]
 refine wpAny_bind (wpAny_bind (wpAny_onRaise (show wpAny _ _ (Zxy (.ref i1) >>= _) _ _ _ from ?_)))
 refine wpAny_bind (wpAny_nextOf_list_item (g1.at fun o e => K1 _ o (Zzh z1) e) (m1.at fun o e => K1 _ o a1z e) e1 fun h₂ q₂ s₂ => wpAny_pure ?_)
 replace s₂ : Zy6 i1 h₁ h₂ := s₂
 have K2 : ∀ c o, c ≠ z -> c ≠ i1 -> s.heap.get? c = some o -> h₂.get? c = some o := fun c o n n' e => s₂.extBut c o n' (K1 c o n e)
 have O₂ : Cw h₂ TO a b c := K2 _ _ (Zzh zO) O1 hO
 refine wpAny_bind (wpAny_seqItems O₂ rfl (wpAny_bind (Jp O₂ fun h₃ O₃ s₃ => wpAny_bind (wpAny_letGo (wpAny_pure ?_)))))
 replace O₃ : Cw h₃ TO x b c := O₃
 replace s₃ : Zy6 TO h₂ h₃ := s₃
 have K3 : ∀ c o, c ≠ z -> c ≠ i1 -> c ≠ TO -> s.heap.get? c = some o -> h₃.get? c = some o := fun c o n n' n2 e => s₃.extBut c o n2 (K2 c o n n' e)
 refine wpAny_bind (wpAny_bind (wpAny_onRaise (show wpAny _ _ (Zxy (.ref i2) >>= _) _ _ _ from ?_)))
 refine wpAny_bind (wpAny_nextOf_list_item (g2.at fun o e => K3 _ o (Zzh z2) (Zzh n12) (Zzh O2) e) (m2.at fun o e => K3 _ o a2z a21 a2O e) e2 fun h₄ q₄ s₄ => wpAny_pure ?_)
 replace s₄ : Zy6 i2 h₃ h₄ := s₄
 have O₄ : Cw h₄ TO x b c := s₄.extBut _ _ O2 O₃
 refine wpAny_bind (wpAny_seqItems O₄ rfl (wpAny_bind (Jp O₄ fun h₅ O₅ s₅ => wpAny_bind (wpAny_letGo (wpAny_pure ?_)))))
 replace O₅ : Cw h₅ TO x y c := O₅
 replace s₅ : Zy6 TO h₄ h₅ := s₅
 have K5 : ∀ c o, c ≠ z -> c ≠ i1 -> c ≠ TO -> c ≠ i2 -> s.heap.get? c = some o -> h₅.get? c = some o := fun c o n n' n2 n3 e => s₅.extBut c o n2 (s₄.extBut c o n3 (K3 c o n n' n2 e))
 refine wpAny_bind (wpAny_bind (wpAny_onRaise (show wpAny _ _ (Zxy (.ref i3) >>= _) _ _ _ from ?_)))
 refine wpAny_bind (wpAny_nextOf_list_item (g3.at fun o e => K5 _ o (Zzh z3) (Zzh n13) (Zzh O3) (Zzh n23) e) (m3.at fun o e => K5 _ o a3z a31 a3O a32 e) e3 fun h₆ q₆ s₆ => wpAny_pure ?_)
 replace s₆ : Zy6 i3 h₅ h₆ := s₆
 have O₆ : Cw h₆ TO x y c := s₆.extBut _ _ O3 O₅
 refine wpAny_bind (wpAny_seqItems O₆ rfl (wpAny_bind (Jp O₆ fun h₇ O₇ s₇ => wpAny_bind (wpAny_letGo (wpAny_pure (wpAny_pure ?_))))))
 replace O₇ : Cw h₇ TO x y v := O₇
 replace s₇ : Zy6 TO h₆ h₇ := s₇
 have K7 : ∀ c o, c ∉ [z, TO, i1, i2, i3] -> s.heap.get? c = some o -> h₇.get? c = some o := fun c o n e => by
  simp only [Zzk, Zz8, or_false, not_or] at n
  exact s₇.extBut c o n.2.1 (s₆.extBut c o n.2.2.2.2 (K5 c o n.1 n.2.2.1 n.2.1 n.2.2.2.1 e))
 refine wpAny_bind (wpAny_seqItems O₇ rfl (wpAny_bind (wpAny_newTuple ?_)))
 have sz : h₇.objs.size = s.heap.objs.size := by rw [s₇.1, s₆.1, s₅.1, s₄.1, s₃.1, s₂.1, s₁.1]
 have Z₇ : IsZip h₇ z TI TO .ellipsis := s₇.extBut _ _ zO (s₆.extBut _ _ z3 (s₅.extBut _ _ zO (s₄.extBut _ _ z2 (s₃.extBut _ _ zO (s₂.extBut _ _ z1 w₁)))))
 have r1 : h₇.IsListIter i1 l1 (k + 1) := ((((q₂.extBut s₃.extBut (Zzh O1)).extBut s₄.extBut n12).extBut s₅.extBut (Zzh O1)).extBut s₆.extBut n13).extBut s₇.extBut (Zzh O1)
 have r2 : h₇.IsListIter i2 l2 (k + 1) := ((q₄.extBut s₅.extBut (Zzh O2)).extBut s₆.extBut n23).extBut s₇.extBut (Zzh O2)
 have r3 : h₇.IsListIter i3 l3 (k + 1) := q₆.extBut s₇.extBut (Zzh O3)
 have zl : z < h₇.objs.size := Zzj Z₇
 refine wpAny_bind (m := Zwq (.ref z) (.ref h₇.objs.size)) ?_
 unfold Zwq
 have Z₈ : IsZip (h₇.push { cls := .type "tuple", data := .seq #[x, y, v] }) z TI TO .ellipsis := Zzy _ Z₇
 refine wpAny_bind (wpAny_setField_rec Z₈ (by simp) fun h₈ w₈ s₈ => ?_)
 replace w₈ : IsZip h₈ z TI TO (rawInt h₇.objs.size) := w₈
 refine wpAny_setField_rec w₈ (by simp) fun h₉ w₉ s₉ => ?_
 replace w₉ : IsZip h₉ z TI TO (rawInt h₇.objs.size) := w₉
 have K9 : ∀ c o, c ≠ z -> h₇.get? c = some o -> h₉.get? c = some o := fun c o n e => s₉.extBut _ _ n (s₈.extBut _ _ n (Zzy _ e))
 have T₉ : Cw h₉ h₇.objs.size x y v := s₉.extBut _ _ (Zxx zl) (s₈.extBut _ _ (Zxx zl) (Zzf _ rfl))
 have sz9 : h₉.objs.size = h₇.objs.size + 1 := by rw [s₉.1, s₈.1, Zy4]
 rw [sz] at w₉ T₉ sz9
 refine wpAny_pure ⟨_, rfl, (show Q (.ref h₇.objs.size) _ from ?_)⟩
 rw [sz]
 refine hQ h₉ w₉ (K9 _ _ (Zzh zO) O₇) (r1.at fun o e => K9 _ o (Zzh z1) e) (r2.at fun o e => K9 _ o (Zzh z2) e) (r3.at fun o e => K9 _ o (Zzh z3) e) T₉ sz9 fun c o n e => K9 c o (fun q => n (by simp [q])) (K7 c o n e)
theorem Ya {z TI TO i1 i2 i3 l1 l2 l3 : Addr} {k : Nat} {xs ys zs : Array Value} {a b c : Value} {Q : Fin -> Shared -> Prop} (hh : A.handled = none) (D : Sd z TI TO i1 i2 i3 [l1, l2, l3])
  (hZ : IsZip s.heap z TI TO .none) (hI : Cw s.heap TI (.ref i1) (.ref i2) (.ref i3)) (hO : Cw s.heap TO a b c)
  (g1 : s.heap.IsListIter i1 l1 k) (g2 : s.heap.IsListIter i2 l2 k) (g3 : s.heap.IsListIter i3 l3 k) (m1 : s.heap.IsList l1 xs) (m2 : s.heap.IsList l2 ys) (m3 : s.heap.IsList l3 zs) (he : xs[k]? = none \/ ys[k]? = none \/ zs[k]? = none)
  (hE : ∀ h' e, (∀ c o, c ∉ [z, TO, i1, i2, i3] -> s.heap.get? c = some o -> h'.get? c = some o) -> (∃ o, h'.get? e = some o /\ o.cls = .type "StopIteration") -> E (.ref e) { s with heap := h' }) :
  wpAny (model prog w) A (Builtin.«zip.__next__» ⟨[.ref z], []⟩) Q E s := by
 obtain ⟨nd, ls⟩ := D
 have a1 := ls l1 (by simp)
 have a2 := ls l2 (by simp)
 have a3 := ls l3 (by simp)
 simp only [Zym, Zzk, Zz8, or_false, not_or] at nd a1 a2 a3
 obtain ⟨⟨zI, zO, z1, z2, z3⟩, ⟨IO, I1, I2, I3⟩, ⟨O1, O2, O3⟩, ⟨n12, n13⟩, n23, _⟩ := nd
 obtain ⟨a1z, a1I, a1O, a11, a12, a13⟩ := a1
 obtain ⟨a2z, a2I, a2O, a21, a22, a23⟩ := a2
 obtain ⟨a3z, a3I, a3O, a31, a32, a33⟩ := a3
 show wpAny _ _ (field (.ref z) 2 >>= _) _ _ _
 refine wpAny_bind (wpAny_field hZ rfl (x := .bool false) rfl (show wpAny _ _ (field (.ref z) 3 >>= _) _ _ _ from ?_))
 refine wpAny_bind (wpAny_field hZ rfl (x := .ref TI) rfl (wpAny_bind (wpAny_seqItems hI rfl ?_)))
 refine wpAny_bind (m := Zxv (.ref z)) ?_
 unfold Zxv
 refine wpAny_bind (wpAny_field hZ rfl (x := .none) rfl (wpAny_pure ?_))
 simp only [if_true]
 refine wpAny_bind (wpAny_rule (wpAny_bind (wpAny_field hZ rfl (x := .ref TO) rfl (wpAny_bind (wpAny_setField_rec hZ (by simp) fun h₁ w₁ s₁ => ?_)))))
 replace w₁ : IsZip h₁ z TI TO .ellipsis := w₁
 have K1 : ∀ c o, c ≠ z -> s.heap.get? c = some o -> h₁.get? c = some o := fun c o n e => s₁.extBut c o n e
 refine wpAny_bind ?_
 simp only [List.zipIdx_cons, List.zipIdx_nil, List.forIn_cons, List.forIn_nil]
 have fin : ∀ {h : Heap} {e : Addr} {Q' : Unit -> Shared -> Prop}, IsZip h z TI TO .ellipsis -> (∃ o, h.get? e = some o /\ o.cls = .type "StopIteration") -> (∀ c o, c ∉ [z, TO, i1, i2, i3] -> s.heap.get? c = some o -> h.get? c = some o) ->
   wpAny (model prog w) A (setField (.ref z) 0 .none) (fun _ s' => E (.ref e) s') E { s with heap := h } := fun {h e Q'} w ⟨o, ho, hc⟩ kk => by
  have ne : e ≠ z := fun q => by subst q; rw [w] at ho; cases ho; simp at hc
  refine wpAny_setField_rec w (by simp) fun h' _ s' => hE h' e (fun c o n q => s'.extBut _ _ (fun q => n (by simp [q])) (kk c o n q)) ⟨o, s'.extBut _ _ ne ho, hc⟩
 refine wpAny_bind (wpAny_bind (wpAny_onRaise (show wpAny _ _ (Zxy (.ref i1) >>= _) _ _ _ from ?_)))
 cases e1 : xs[k]? with
 | none =>
  refine wpAny_bind (wpAny_nextOf_list_end hh (g1.at fun o e => K1 _ o (Zzh z1) e) (m1.at fun o e => K1 _ o a1z e) e1 fun h₂ e s₂ he => ?_)
  replace s₂ : Heap.ExtBut i1 h₁ h₂ := s₂
  refine fin (Q' := fun _ _ => True) (s₂ _ _ z1 w₁) he fun c o n q => ?_
  simp only [Zzk, Zz8, or_false, not_or] at n
  exact s₂ _ _ n.2.2.1 (K1 _ _ n.1 q)
 | some x =>
 refine wpAny_bind (wpAny_nextOf_list_item (g1.at fun o e => K1 _ o (Zzh z1) e) (m1.at fun o e => K1 _ o a1z e) e1 fun h₂ q₂ s₂ => wpAny_pure ?_)
 replace s₂ : Zy6 i1 h₁ h₂ := s₂
 have K2 : ∀ c o, c ≠ z -> c ≠ i1 -> s.heap.get? c = some o -> h₂.get? c = some o := fun c o n n' e => s₂.extBut c o n' (K1 c o n e)
 have O₂ : Cw h₂ TO a b c := K2 _ _ (Zzh zO) O1 hO
 refine wpAny_bind (wpAny_seqItems O₂ rfl (wpAny_bind (Jp O₂ fun h₃ O₃ s₃ => wpAny_bind (wpAny_letGo (wpAny_pure ?_)))))
 replace O₃ : Cw h₃ TO x b c := O₃
 replace s₃ : Zy6 TO h₂ h₃ := s₃
 have K3 : ∀ c o, c ≠ z -> c ≠ i1 -> c ≠ TO -> s.heap.get? c = some o -> h₃.get? c = some o := fun c o n n' n2 e => s₃.extBut c o n2 (K2 c o n n' e)
 have Z₃ : IsZip h₃ z TI TO .ellipsis := s₃.extBut _ _ zO (s₂.extBut _ _ z1 w₁)
 refine wpAny_bind (wpAny_bind (wpAny_onRaise (show wpAny _ _ (Zxy (.ref i2) >>= _) _ _ _ from ?_)))
 cases e2 : ys[k]? with
 | none =>
  refine wpAny_bind (wpAny_nextOf_list_end hh (g2.at fun o e => K3 _ o (Zzh z2) (Zzh n12) (Zzh O2) e) (m2.at fun o e => K3 _ o a2z a21 a2O e) e2 fun h₄ e s₄ he => ?_)
  replace s₄ : Heap.ExtBut i2 h₃ h₄ := s₄
  refine fin (Q' := fun _ _ => True) (s₄ _ _ z2 Z₃) he fun c o n q => ?_
  simp only [Zzk, Zz8, or_false, not_or] at n
  exact s₄ _ _ n.2.2.2.1 (K3 _ _ n.1 n.2.2.1 n.2.1 q)
 | some y =>
 refine wpAny_bind (wpAny_nextOf_list_item (g2.at fun o e => K3 _ o (Zzh z2) (Zzh n12) (Zzh O2) e) (m2.at fun o e => K3 _ o a2z a21 a2O e) e2 fun h₄ q₄ s₄ => wpAny_pure ?_)
 replace s₄ : Zy6 i2 h₃ h₄ := s₄
 have O₄ : Cw h₄ TO x b c := s₄.extBut _ _ O2 O₃
 refine wpAny_bind (wpAny_seqItems O₄ rfl (wpAny_bind (Jp O₄ fun h₅ O₅ s₅ => wpAny_bind (wpAny_letGo (wpAny_pure ?_)))))
 replace s₅ : Zy6 TO h₄ h₅ := s₅
 have K5 : ∀ c o, c ≠ z -> c ≠ i1 -> c ≠ TO -> c ≠ i2 -> s.heap.get? c = some o -> h₅.get? c = some o := fun c o n n' n2 n3 e => s₅.extBut c o n2 (s₄.extBut c o n3 (K3 c o n n' n2 e))
 have Z₅ : IsZip h₅ z TI TO .ellipsis := s₅.extBut _ _ zO (s₄.extBut _ _ z2 Z₃)
 refine wpAny_bind (wpAny_bind (wpAny_onRaise (show wpAny _ _ (Zxy (.ref i3) >>= _) _ _ _ from ?_)))
 have e3 : zs[k]? = none := by
  rcases he with h | h | h
  ·rw [e1] at h; cases h
  ·rw [e2] at h; cases h
  ·exact h
 refine wpAny_bind (wpAny_nextOf_list_end hh (g3.at fun o e => K5 _ o (Zzh z3) (Zzh n13) (Zzh O3) (Zzh n23) e) (m3.at fun o e => K5 _ o a3z a31 a3O a32 e) e3 fun h₆ e s₆ he => ?_)
 replace s₆ : Heap.ExtBut i3 h₅ h₆ := s₆
 refine fin (Q' := fun _ _ => True) (s₆ _ _ z3 Z₅) he fun c o n q => ?_
 simp only [Zzk, Zz8, or_false, not_or] at n
 exact s₆ _ _ n.2.2.2.2 (K5 _ _ n.1 n.2.2.1 n.2.1 n.2.2.2.1 q)
end
theorem Uj (a b c : Value) : checkTypeCall "zip" ⟨[a, b, c], []⟩ = pure () := by kernel_rfl
theorem Ut (a b c : Value) : checkBuiltinCall "zip.__new__" ⟨[.type "zip", a, b, c], []⟩ = pure () := by kernel_rfl
theorem Xp (a b c d : Value) : argsOk "object.__init__" ⟨[a, b, c, d], []⟩ := by
 unfold argsOk
 rw [signature?_of (id := "object.__init__") (n := ['_', '_', 't', 'i', 'n', 'i', '_', '_']) (o := ['t', 'c', 'e', 'j', 'b', 'o']) (by kernel_rfl) F.owner_object]
 kernel_rfl
abbrev z3a (h : Heap) (l : Addr) : Heap := h.push { cls := .type "list_iterator", data := .fields #[.ref l, .int 0 0] }
abbrev z3t (h : Heap) (x y z : Value) : Heap := h.push { cls := .type "tuple", data := .seq #[x, y, z] }
abbrev z3i (h : Heap) (l1 l2 l3 : Addr) : Heap := z3t (z3a (z3a (z3a h l1) l2) l3) (.ref h.objs.size) (.ref (z3a h l1).objs.size) (.ref (z3a (z3a h l1) l2).objs.size)
abbrev z3o (h : Heap) (l1 l2 l3 : Addr) : Heap := z3t (z3i h l1 l2 l3) .none .none .none
abbrev z3z (h : Heap) (l1 l2 l3 : Addr) : Heap := (z3o h l1 l2 l3).push { cls := .type "zip", data := .fields #[.none, .bool false, .bool false, .ref (z3a (z3a (z3a h l1) l2) l3).objs.size, .ref (z3i h l1 l2 l3).objs.size] }
theorem Z9 (l1 l2 l3 : Addr) (xs ys zs : Array Value) :
  Meets (Builtin.«zip.__new__» ⟨[.type "zip", .ref l1, .ref l2, .ref l3], []⟩) (fun _ R s => s.heap.IsList l1 xs /\ s.heap.IsList l2 ys /\ s.heap.IsList l3 zs /\ R (.ok (.ret (.ref (z3o s.heap l1 l2 l3).objs.size))) { s with heap := z3z s.heap l1 l2 l3 }) :=
 .of_wp fun prog w A R s h => by
  obtain ⟨hp, g, d, tk, os⟩ := s
  obtain ⟨m1, m2, m3, h⟩ := h
  have hsub := sub_zip
  have q1 : Heap.IsList (Shared.heap ⟨hp, g, d, tk, os⟩) l1 xs := m1
  have q2 : Heap.IsList (Shared.heap ⟨z3a hp l1, g, d, tk, os⟩) l2 ys := m2.push _
  have q3 : Heap.IsList (Shared.heap ⟨z3a (z3a hp l1) l2, g, d, tk, os⟩) l3 zs := (m3.push _).push _
  wp_walk using wpAny_pyIter_list q1, wpAny_pyIter_list q2, wpAny_pyIter_list q3
  exact ⟨_, rfl, h⟩
section
variable {prog : Program} {w : World} {A : Around} {E : Value -> Shared -> Prop} {s : Shared}
theorem Y0 {l1 l2 l3 : Addr} {xs ys zs : Array Value} {Q : Value -> Shared -> Prop} (m1 : s.heap.IsList l1 xs) (m2 : s.heap.IsList l2 ys) (m3 : s.heap.IsList l3 zs)
  (h : ∀ h' n, n = s.heap.objs.size -> IsZip h' (n + 5) (n + 3) (n + 4) .none -> Cw h' (n + 3) (.ref n) (.ref (n + 1)) (.ref (n + 2)) -> Cw h' (n + 4) .none .none .none -> h'.IsListIter n l1 0 -> h'.IsListIter (n + 1) l2 0 -> h'.IsListIter (n + 2) l3 0 ->
   (∀ c o, s.heap.get? c = some o -> h'.get? c = some o) -> Q (.ref (n + 5)) { s with heap := h' }) :
  wpAny (model prog w) A (call (.type "zip") [.ref l1, .ref l2, .ref l3]) Q E s := by
 refine callType_new F.called_zip (by decide) (Uj _ _ _) (Ut _ _ _) (fun obj => Xp obj _ _ _) F.entry_zip_new (Z9 l1 l2 l3 xs ys zs) ⟨m1, m2, m3, ?_⟩
 have y1 : (z3a s.heap l1).objs.size = s.heap.objs.size + 1 := Zy4 ..
 have y2 : (z3a (z3a s.heap l1) l2).objs.size = s.heap.objs.size + 2 := by rw [Zy4, y1]
 have y3 : (z3a (z3a (z3a s.heap l1) l2) l3).objs.size = s.heap.objs.size + 3 := by rw [Zy4, y2]
 have y4 : (z3i s.heap l1 l2 l3).objs.size = s.heap.objs.size + 4 := by rw [Zy4, y3]
 have y5 : (z3o s.heap l1 l2 l3).objs.size = s.heap.objs.size + 5 := by rw [Zy4, y4]
 have k5 : (z3z s.heap l1 l2 l3).get? (z3o s.heap l1 l2 l3).objs.size = some _ := Zzf _ rfl
 have k4 : (z3z s.heap l1 l2 l3).get? (z3i s.heap l1 l2 l3).objs.size = some _ := Zzy _ (Zzf _ rfl)
 have k3 : (z3z s.heap l1 l2 l3).get? (z3a (z3a (z3a s.heap l1) l2) l3).objs.size = some _ := Zzy _ (Zzy _ (Zzf _ rfl))
 have k2 : (z3z s.heap l1 l2 l3).get? (z3a (z3a s.heap l1) l2).objs.size = some _ := Zzy _ (Zzy _ (Zzy _ (Zzf _ rfl)))
 have k1 : (z3z s.heap l1 l2 l3).get? (z3a s.heap l1).objs.size = some _ := Zzy _ (Zzy _ (Zzy _ (Zzy _ (Zzf _ rfl))))
 have k0 : (z3z s.heap l1 l2 l3).get? s.heap.objs.size = some _ := Zzy _ (Zzy _ (Zzy _ (Zzy _ (Zzy _ (Zzf _ rfl)))))
 show _ /\ _
 rw [y5, y3, y4] at k5
 rw [y4] at k4
 rw [y3, y1, y2] at k3
 rw [y2] at k2
 rw [y1] at k1
 rw [y5]
 exact ⟨⟨_, k5, rfl⟩, h _ _ rfl k5 k3 k4 ⟨_, k0, rfl, rfl⟩ ⟨_, k1, rfl, rfl⟩ ⟨_, k2, rfl, rfl⟩ fun c o e =>
  Zzy _ (Zzy _ (Zzy _ (Zzy _ (Zzy _ (Zzy _ e)))))⟩
end
theorem Mh {prog : Program} {w : World} {A : Around} (hh : A.handled = none) (z TI TO i1 i2 i3 l1 l2 l3 : Addr) (D : Sd z TI TO i1 i2 i3 [l1, l2, l3]) (xs ys zs : Array Value) :
  WalksT prog w A z [z, TI, TO, i1, i2, i3, l1, l2, l3] [z, TO, i1, i2, i3] (min xs.size (min ys.size zs.size))
   (fun i vals => ∃ x y v, xs[i]? = some x /\ ys[i]? = some y /\ zs[i]? = some v /\ vals = #[x, y, v])
   (fun i h => IsZip h z TI TO .none /\ Cw h TI (.ref i1) (.ref i2) (.ref i3) /\ (∃ a b c, Cw h TO a b c) /\ h.IsListIter i1 l1 i /\ h.IsListIter i2 l2 i /\ h.IsListIter i3 l3 i /\ h.IsList l1 xs /\ h.IsList l2 ys /\ h.IsList l3 zs)
   (fun i T h => (IsZip h z TI TO (rawInt T) /\ Cw h TI (.ref i1) (.ref i2) (.ref i3) /\ (∃ a b c, Cw h TO a b c) /\ h.IsListIter i1 l1 (i + 1) /\ h.IsListIter i2 l2 (i + 1) /\ h.IsListIter i3 l3 (i + 1) /\ h.IsList l1 xs /\ h.IsList l2 ys /\ h.IsList l3 zs) /\ T ∉ [z, TO, i1, i2, i3]) := by
 have hTI : TI ∉ [z, TO, i1, i2, i3] := by
  have nd := D.nd
  simp only [Zym, Zzk, Zz8, or_false, not_or] at nd ⊢
  exact ⟨fun e => nd.1.1 e.symm, nd.2.1⟩
 have hls : ∀ l ∈ [l1, l2, l3], l ∉ [z, TO, i1, i2, i3] := fun l hl hm => D.ls l hl (by
  simp only [Zzk, Zz8, or_false] at hm ⊢
  rcases hm with e | e | e | e | e <;> simp [e])
 have nz : ∀ c ∈ [TI, TO, i1, i2, i3], c ≠ z := fun c hc e => by
  have nd := D.nd
  rw [Zym] at nd
  exact nd.1 (e ▸ hc)
 have nzl : ∀ c ∈ [l1, l2, l3], c ≠ z := fun c hc e => hls c hc (by simp [e])
 refine ⟨fun b hb => ?_, fun i h h' st kp => ?_, fun i s Q E hi st hQ => ?_, fun elts k pos i T s Q E hm hQ => ?_, fun i T h hm => hm.2, fun s Q E st hQ => ?_, fun i s Q E st hQ => wpAny_pyIter_zip st.1 hQ⟩
 ·simp only [Zzk, Zz8, or_false] at hb ⊢
  rcases hb with e | e | e | e | e <;> simp [e]
 ·obtain ⟨p1, p2, ⟨a, b, c, p3⟩, p4, p5, p6, p7, p8, p9⟩ := st
  exact ⟨kp z (by simp) _ p1, kp TI (by simp) _ p2, ⟨a, b, c, kp TO (by simp) _ p3⟩, p4.at fun o e => kp i1 (by simp) o e, p5.at fun o e => kp i2 (by simp) o e, p6.at fun o e => kp i3 (by simp) o e,
   p7.at fun o e => kp l1 (by simp) o e, p8.at fun o e => kp l2 (by simp) o e, p9.at fun o e => kp l3 (by simp) o e⟩
 ·obtain ⟨p1, p2, ⟨a, b, c, p3⟩, p4, p5, p6, p7, p8, p9⟩ := st
  have b1 : i < xs.size := by omega
  have b2 : i < ys.size := by omega
  have b3 : i < zs.size := by omega
  have hT : s.TypeIs (.ref z) "zip" := ⟨_, p1, rfl⟩
  unfold pyNext
  refine wpAny_bind (wpAny_attempt (wpAny_callSpecial?_slot (name := Str.ofString "__next__") hT F.slot_zip_next (wpAny_call_entry F.slot_zip_next hT F.entry_zip_next
   (Wl D p1 p2 p3 p4 p5 p6 p7 p8 p9 (Zyd b1) (Zyd b2) (Zyd b3) fun h' r1 r2 r3 r4 r5 r6 r7 r8 => wpAny_pure ?_) (F.args_zip_next_1 _))))
  have lt : ∀ {c o}, s.heap.get? c = some o -> s.heap.objs.size ≠ c := fun e => Zxx (Zzj e)
  refine hQ s.heap.objs.size #[xs[i], ys[i], zs[i]] h' s.toks ⟨_, _, _, Zyd b1, Zyd b2, Zyd b3, rfl⟩ (Zzt _) ⟨_, r6, rfl, _, rfl⟩
   ⟨⟨r1, r8 _ _ hTI p2, ⟨_, _, _, r2⟩, r3, r4, r5, p7.at fun o e => r8 _ o (hls l1 (by simp)) e, p8.at fun o e => r8 _ o (hls l2 (by simp)) e, p9.at fun o e => r8 _ o (hls l3 (by simp)) e⟩, fun hm => ?_⟩ r8
  simp only [Zzk, Zz8, or_false] at hm
  obtain ⟨o4, q4, _⟩ := p4
  obtain ⟨o5, q5, _⟩ := p5
  obtain ⟨o6, q6, _⟩ := p6
  rcases hm with e | e | e | e | e
  ·exact lt p1 e
  ·exact lt p3 e
  ·exact lt q4 e
  ·exact lt q5 e
  ·exact lt q6 e
 ·obtain ⟨⟨p1, p2, ⟨a, b, c, p3⟩, p4, p5, p6, p7, p8, p9⟩, _⟩ := hm
  refine wpAny_letOwnedTupleGo_zip p1 fun h' z' s' => hQ h' ⟨z', s'.extBut _ _ (nz TI (by simp)) p2, ⟨a, b, c, s'.extBut _ _ (nz TO (by simp)) p3⟩, p4.extBut s'.extBut (nz i1 (by simp)), p5.extBut s'.extBut (nz i2 (by simp)), p6.extBut s'.extBut (nz i3 (by simp)),
   p7.extBut s'.extBut (nzl l1 (by simp)), p8.extBut s'.extBut (nzl l2 (by simp)), p9.extBut s'.extBut (nzl l3 (by simp))⟩ fun c o hc e => s'.extBut _ _ (fun q => hc (by simp [q])) e
 ·obtain ⟨p1, p2, ⟨a, b, c, p3⟩, p4, p5, p6, p7, p8, p9⟩ := st
  have hT : s.TypeIs (.ref z) "zip" := ⟨_, p1, rfl⟩
  have fin : xs[min xs.size (min ys.size zs.size)]? = none \/ ys[min xs.size (min ys.size zs.size)]? = none \/ zs[min xs.size (min ys.size zs.size)]? = none := by
   have : min xs.size (min ys.size zs.size) = xs.size \/ min xs.size (min ys.size zs.size) = ys.size \/ min xs.size (min ys.size zs.size) = zs.size := by omega
   rcases this with e | e | e
   ·exact .inl (Zwf (Zx8 e.symm))
   ·exact .inr (.inl (Zwf (Zx8 e.symm)))
   ·exact .inr (.inr (Zwf (Zx8 e.symm)))
  unfold pyNext
  refine wpAny_bind (wpAny_attempt (wpAny_callSpecial?_slot (name := Str.ofString "__next__") hT F.slot_zip_next (wpAny_call_entry F.slot_zip_next hT F.entry_zip_next
   (Ya hh D p1 p2 p3 p4 p5 p6 p7 p8 p9 fin fun h' e kp ⟨o, ho, hc⟩ => ?_) (F.args_zip_next_1 _))))
  exact wpAny_bind (wpAny_isInstance (T := "StopIteration") (b := true) ⟨o, ho, hc⟩ isSubtype_stop (wpAny_pure (hQ _ s.toks kp)))
def mq (a b c : Addr) (xs ys zs : List V) : It := ⟨fun i H => (H a = some (.lst xs) /\ H b = some (.lst ys) /\ H c = some (.lst zs)) /\ i < min xs.length (min ys.length zs.length),
 fun i H x H' => ∃ p y z v, x = .ref p /\ H p = none /\ xs[i]? = some y /\ ys[i]? = some z /\ zs[i]? = some v /\ H' = upd H p (.tup [y, z, v]), fun i H => (H a = some (.lst xs) /\ H b = some (.lst ys) /\ H c = some (.lst zs)) /\ i = min xs.length (min ys.length zs.length)⟩
theorem ly (a b c : Addr) (xs ys zs : List V) : Ud (mq a b c xs ys zs) (min xs.length (min ys.length zs.length)) (fun i us => ∃ y z v, xs[i]? = some y /\ ys[i]? = some z /\ zs[i]? = some v /\ us = [y, z, v]) (fun H => H a = some (.lst xs) /\ H b = some (.lst ys) /\ H c = some (.lst zs)) :=
 ⟨fun i H h o => ⟨o, h⟩, fun i H x H' h o y => let ⟨p, u, v, w, e1, e2, e3, e4, e5, e6⟩ := y; ⟨p, _, e1, e2, e6, u, v, w, e3, e4, e5, rfl⟩, fun H o => ⟨o, rfl⟩⟩
theorem Wp {P : Program} {w : World} {K : Zzu} {elts : List Expr} {k : Nat} {pos : Pos} (z TI TO i1 i2 i3 a b c : Addr) (xs ys zs : List V) (nd : [z, TI, TO, i1, i2, i3].Nodup) :
  Lg P w K (.Tuple elts k pos) (mq a b c xs ys zs) [z, TI, TO, i1, i2, i3] z (fun i h => IsZip h z TI TO .none /\ Cw h TI (.ref i1) (.ref i2) (.ref i3) /\ (∃ u v t, Cw h TO u v t) /\ h.IsListIter i1 a i /\ h.IsListIter i2 b i /\ h.IsListIter i3 c i) := by
 have objs : ∀ (i : Nat) (h : Heap), (IsZip h z TI TO .none /\ Cw h TI (.ref i1) (.ref i2) (.ref i3) /\ (∃ u v t, Cw h TO u v t) /\ h.IsListIter i1 a i /\ h.IsListIter i2 b i /\ h.IsListIter i3 c i) -> ∀ d ∈ [z, TI, TO, i1, i2, i3], ∃ o, h.get? d = some o /\ ∀ v, o.data ≠ .cell v := by
  rintro i h ⟨hz, hT, ⟨u, v, t, hO⟩, ⟨o1, g1, c1, d1⟩, ⟨o2, g2, c2, d2⟩, ⟨o3, g3, c3, d3⟩⟩ d hd
  simp only [Zzk, Zz8, or_false] at hd
  rcases hd with q | q | q | q | q | q <;> subst q
  ·exact ⟨_, hz, fun _ y => by cases y⟩
  ·exact ⟨_, hT, fun _ y => by cases y⟩
  ·exact ⟨_, hO, fun _ y => by cases y⟩
  ·exact ⟨o1, g1, fun _ y => by rw [d1] at y; cases y⟩
  ·exact ⟨o2, g2, fun _ y => by rw [d2] at y; cases y⟩
  ·exact ⟨o3, g3, fun _ y => by rw [d3] at y; cases y⟩
 have apart : ∀ {X : Cx} {pins : List (Addr × Obj)} {H : Hp}, (∀ d ∈ [z, TI, TO, i1, i2, i3], Ho X pins H d) -> ∀ {us vs ws : List V}, H a = some (.lst us) -> H b = some (.lst vs) -> H c = some (.lst ws) -> Sd z TI TO i1 i2 i3 [a, b, c] := by
  intro X pins H hf us vs ws ha hb hc
  refine ⟨nd, fun l hl hm => ?_⟩
  have hn := (hf l hm).1
  simp only [Zzk, Zz8, or_false] at hl
  rcases hl with e | e | e <;> rw [e] at hn
  ·rw [hn] at ha; cases ha
  ·rw [hn] at hb; cases hb
  ·rw [hn] at hc; cases hc
 have sub : ∀ d ∈ [z, TO, i1, i2, i3], d ∈ [z, TI, TO, i1, i2, i3] := fun d hd => by simp at hd ⊢; rcases hd with h | h | h | h | h <;> simp [h]
 refine ⟨by simp, objs, ?_, ?_, ?_, ?_⟩
 ·rintro i h h' ⟨hz, hT, ⟨u, v, t, hO⟩, g1, g2, g3⟩ kp
  exact ⟨kp z (by simp) _ hz, kp TI (by simp) _ hT, ⟨u, v, t, kp TO (by simp) _ hO⟩, g1.at fun o e => kp i1 (by simp) o e, g2.at fun o e => kp i2 (by simp) o e, g3.at fun o e => kp i3 (by simp) o e⟩
 ·intro X hP hw hK hc i pins s σ H E I hf st hg
  subst hP hw hK
  obtain ⟨⟨ha, hb, hd⟩, hlt⟩ := hg
  obtain ⟨its, rv, hl, _⟩ := Aw I ha
  obtain ⟨its2, rv2, hl2, _⟩ := Aw I hb
  obtain ⟨its3, rv3, hl3, _⟩ := Aw I hd
  have len1 := rv.length
  have len2 := rv2.length
  have len3 := rv3.length
  obtain ⟨s1, s2, s3, s4, s5, s6⟩ := id st
  have hv : ∀ vals : Array Value, (∃ x y v, its.toArray[i]? = some x /\ its2.toArray[i]? = some y /\ its3.toArray[i]? = some v /\ vals = #[x, y, v]) -> ∃ us, Vals us vals.toList /\ us.length <= 100 /\ ∃ y z v, xs[i]? = some y /\ ys[i]? = some z /\ zs[i]? = some v /\ us = [y, z, v] := by
   rintro vals ⟨x, y, v, hx, hy, hv, rfl⟩
   have l1 : i < xs.length := by omega
   have l2 : i < ys.length := by omega
   have l3 : i < zs.length := by omega
   obtain ⟨u, hu, ru⟩ := rv.get (x := xs[i]) (i := i) (by simp [l1])
   obtain ⟨u', hu', ru'⟩ := rv2.get (x := ys[i]) (i := i) (by simp [l2])
   obtain ⟨u'', hu'', ru''⟩ := rv3.get (x := zs[i]) (i := i) (by simp [l3])
   have hx : its[i]? = some x := by simpa using hx
   have hy : its2[i]? = some y := by simpa using hy
   have hv : its3[i]? = some v := by simpa using hv
   rw [hx] at hu
   rw [hy] at hu'
   rw [hv] at hu''
   cases hu
   cases hu'
   cases hu''
   exact ⟨[xs[i], ys[i], zs[i]], .cons ru (.cons ru' (.cons ru'' .nil)), by simp, xs[i], ys[i], zs[i], by simp [l1], by simp [l2], by simp [l3], rfl⟩
  refine thn (Ux (E := E) (Mh (I.ok.hd hc) z TI TO i1 i2 i3 a b c (apart hf ha hb hd) its.toArray its2.toArray its3.toArray) (by rw [Zzp, Zzp, Zzp]; omega) I ⟨s1, s2, s3, s4, s5, s6, hl, hl2, hl3⟩ (fun c hc => hf c (sub c hc)) hv) fun r t1 ⟨u, hr, h3⟩ =>
   ⟨u, hr, thn h3 fun _ t2 ⟨p, us, hu, hp, hn, I2, ⟨y, y', y'', hy, hy', hy'', e2⟩, st2⟩ => ?_⟩
  subst hu e2
  refine ⟨.ref p, _, I2, rfl, ⟨p, y, y', y'', rfl, hn, hy, hy', hy'', rfl⟩, ⟨st2.1, st2.2.1, st2.2.2.1, st2.2.2.2.1, st2.2.2.2.2.1, st2.2.2.2.2.2.1⟩, fun c hc => ?_⟩
  obtain ⟨o, ho, _⟩ := objs i _ st c hc
  rw [A5 (Cp (Zzj ho) hp)]
  exact (hf c hc).1
 ·intro X hP hw hK hc i pins s σ H E I hf st hg
  subst hP hw hK
  obtain ⟨⟨ha, hb, hd⟩, hlt⟩ := hg
  obtain ⟨its, rv, hl, _⟩ := Aw I ha
  obtain ⟨its2, rv2, hl2, _⟩ := Aw I hb
  obtain ⟨its3, rv3, hl3, _⟩ := Aw I hd
  have len1 := rv.length
  have len2 := rv2.length
  have len3 := rv3.length
  obtain ⟨s1, s2, s3, s4, s5, s6⟩ := id st
  have hi : min its.toArray.size (min its2.toArray.size its3.toArray.size) = i := by rw [Zzp, Zzp, Zzp]; omega
  refine (Mh (I.ok.hd hc) z TI TO i1 i2 i3 a b c (apart hf ha hb hd) its.toArray its2.toArray its3.toArray).done s _ E ?_ fun h' tk hk => ⟨rfl, I.turnedL hk fun c hc => hf c (sub c hc)⟩
  rw [hi]
  exact ⟨s1, s2, s3, s4, s5, s6, hl, hl2, hl3⟩
 ·intro A i s Q E st h
  exact wpAny_pyIter_zip st.1 h
section
variable {X : Cx}
def j5 (ta : TA) : TI := fun σ H R => ta σ H fun vs H1 => ∃ a b c xs ys zs, vs = [.ref a, .ref b, .ref c] /\ H1 a = some (.lst xs) /\ H1 b = some (.lst ys) /\ H1 c = some (.lst zs) /\ R (mq a b c xs ys zs) H1
theorem dq {elts : List Expr} {k : Nat} {pt p pos : Pos} {e e2 e3 : Expr} {ta : TA} (hg : Gl X "zip") (hm : X.mg "zip" = none) (ha : PA X [e, e2, e3] ta) (hn : Bu [e, e2, e3] = true := by rfl) : PI X (.Tuple elts k pt) (.Call (.Name "zip" p) [e, e2, e3] [] pos) (j5 ta) := by
 intro pins s σ H R I h
 refine Call_ (E9 I hg hm NP.ax (Zyn (thn (ha pos pins s σ H _ I h) fun us s1 ⟨vs, H1, I1, r1, q1⟩ => ?_) (Bb (As hn).1) (C4 (As hn).2)))
 obtain ⟨a, b, c, xs, ys, zs, e, ha, hb, hc, q⟩ := q1
 subst e
 cases r1 with
 | cons ru r2 =>
 obtain ⟨u', u'', rfl, ru', ru''⟩ := Si r2
 cases ru
 cases ru'
 cases ru''
 obtain ⟨its, rv, hl, _⟩ := Aw I1 ha
 obtain ⟨its2, rv2, hl2, _⟩ := Aw I1 hb
 obtain ⟨its3, rv3, hl3, _⟩ := Aw I1 hc
 refine Y0 hl hl2 hl3 fun h' n hn g1 g2 g3 g4 g5 g6 hk => wpAny_pyIter_zip g1 ?_
 have I2 : Inv X pins σ H1 { s1 with heap := h' } := I1.kept (t' := s1.toks) hk
 have nd : [n + 5, n + 3, n + 4, n, n + 1, n + 2].Nodup := by
  simp only [Zym, Zzk, Zz8, or_false, not_or, Zx0, and_true, not_false_eq_true]
  refine ⟨⟨?_, ?_, ?_, ?_, ?_⟩, ⟨?_, ?_, ?_, ?_⟩, ⟨?_, ?_, ?_⟩, ⟨?_, ?_⟩, ?_⟩ <;> (intro z; have z' : (_ : Nat) = _ := z; omega)
 refine ⟨n + 5, [n + 5, n + 3, n + 4, n, n + 1, n + 2], _, _, H1, rfl, I2, Wp _ _ _ _ _ _ a b c xs ys zs nd, ⟨g1, g2, ⟨_, _, _, g3⟩, g4, g5, g6⟩, fun d hd => ?_, q⟩
 have hb' : s1.heap.objs.size <= d := by
  rw [<- hn]
  simp only [Zzk, Zz8, or_false] at hd
  rcases hd with q | q | q | q | q | q <;> rw [q] <;> first | exact Nat.le_add_right _ _ | exact Zzt _
 exact I1.fpOk hb' (I1.hok.fresh hb')
end
theorem cut1 {t u : TS} {D : Ends} {σ : St} {H : Hp} (M : St -> Hp -> Prop) (hrest : ∀ σ' H', M σ' H' -> u D σ' H') (h : ∀ KK : St -> Hp -> Prop, (∀ σ' H', M σ' H' -> KK σ' H') -> t { D with nx := KK } σ H) : Ht t u D σ H := h (u D) hrest
theorem gu {t t2 u : TS} {D : Ends} {σ : St} {H : Hp} (M : St -> Hp -> Prop) (hrest : ∀ σ' H', M σ' H' -> u D σ' H') (h : ∀ KK : St -> Hp -> Prop, (∀ σ' H', M σ' H' -> KK σ' H') -> t { D with nx := fun σ H => t2 { D with nx := KK } σ H } σ H) : Ht t (Ht t2 u) D σ H := h (u D) hrest
theorem cut3 {t t2 t3 u : TS} {D : Ends} {σ : St} {H : Hp} (M : St -> Hp -> Prop) (hrest : ∀ σ' H', M σ' H' -> u D σ' H')
  (h : ∀ KK : St -> Hp -> Prop, (∀ σ' H', M σ' H' -> KK σ' H') -> t { D with nx := fun σ H => t2 { D with nx := fun σ H => t3 { D with nx := KK } σ H } σ H } σ H) : Ht t (Ht t2 (Ht t3 u)) D σ H := h (u D) hrest
theorem Ea {H : Hp} {a : Addr} {xs : List V} (h : H a = some (.lst xs)) : Mk H (.ref a) = some "list" := by unfold Mk; simp only [h]
theorem gt2 {K : Zzu} {i j : Nat} {p : Addr} {x y : V} {σ : St} {H : Hp} {Q : St -> Hp -> Prop} (e : H p = some (.tup [x, y])) (h : Q ((σ.set i (some x)).set j (some y)) H) : Zz K 2 (J9 (Fe i) (J9 (Fe j) gNil)) (.ref p) σ H Q :=
 ⟨p, _, rfl, SqT.of e, rfl, _, _, rfl, _, _, rfl, rfl, h⟩
section
variable {X : Cx} {pins : List (Addr × Obj)} {σ : St} {H : Hp} {s : Shared}
theorem Inv.freeze {a : Addr} {kvs : List (Key × V)} (I : Inv X pins σ H s) (h : H a = some (.dK kvs)) : ∃ o, s.heap.get? a = some o /\ Inv X pins σ (upd H a (.frz o (.dK kvs))) s := by
 obtain ⟨hz, hS, vs, r, o, es, ep, ho, rest⟩ := I.hok a _ h
 have ne : ∀ b u, H b = some u -> u ≠ .dK kvs -> b ≠ a := fun b u e n z => by rw [z, h] at e; exact n (Zzc e).symm
 refine ⟨o, ho, I.un (t' := s.toks) ⟨fun b ob e n _ _ => e, fun b ob e n _ _ => ⟨ob.slots, e⟩, fun b ob e n _ => ?_, fun b ob e _ => ⟨ob, e⟩, fun b xs e => ?_, fun b ob u e => ?_, fun b ps e => ⟨#[], ?_⟩⟩ fun b u e => ?_⟩
 ·rw [A5 (fun z => by rw [z, h] at n; cases n)]; exact n
 ·rw [A5 (ne b _ e (fun z => by cases z))]; exact e
 ·rw [A5 (ne b _ e (fun z => by cases z))]; exact e
 ·rw [A5 (ne b _ e (fun z => by cases z)), e]; simp
 ·by_cases hb : b = a
  ·subst hb
   rw [A0] at e
   cases e
   exact ⟨ho, hz, hS, vs, r, o, es, ep, ho, rest⟩
  ·rw [A5 hb] at e
   refine (I.hok b u e).stay (fun _ _ _ q => q) (fun c q => ?_) fun c ys q => ?_
   ·rw [A5 (ne c _ q (fun z => by cases z))]; exact q
   ·rw [A5 (ne c _ q (fun z => by cases z))]; exact q
end
def ItD (a : Addr) (o : Obj) (kvs : List (Key × V)) : It := ⟨fun i H => H a = some (.frz o (.dK kvs)) /\ i < kvs.length, fun i H x H' => H' = H /\ ∃ k v, kvs[i]? = some (k, v) /\ x = kV k, fun i H => H a = some (.frz o (.dK kvs)) /\ kvs.length <= i⟩
theorem qg (a : Addr) (o : Obj) (kvs : List (Key × V)) : Pk (ItD a o kvs) kvs.length (fun i x => ∃ k v, kvs[i]? = some (k, v) /\ x = kV k) (fun H => H a = some (.frz o (.dK kvs))) :=
 ⟨fun _ _ h o => ⟨o, h⟩, fun _ _ _ _ _ _ y => y, fun _ o => ⟨o, Zzt _⟩⟩
theorem Zo {κ : Type} : ∀ {kvs : List (κ × V)} {vs : List (κ × Value)} {i : Nat} {k : κ} {v : V}, KV kvs vs -> kvs[i]? = some (k, v) -> ∃ u, vs[i]? = some (k, u)
 | _, _, _, _, _, .nil, e => by simp at e
 | _, (k', u') :: _, 0, k, v, .cons r _, e => by
  simp at e
  subst e
  exact ⟨u', by simp; exact r.1.symm⟩
 | _, _ :: _, i + 1, k, v, .cons _ t, e => by
  obtain ⟨u, h⟩ := Zo (i := i) t (by simpa using e)
  exact ⟨u, by simpa using h⟩
theorem j0 {P : Program} {w : World} {k : Key} {u : Value} (h : (Bk P w).is k u = true) : RelV (kV k) u := by
 rcases C9 h with ⟨i, t, rfl, rfl⟩ | ⟨x, t, rfl, rfl⟩
 ·exact ⟨t, rfl⟩
 ·exact ⟨t, rfl⟩
theorem Wu {P : Program} {w : World} {K : Zzu} {tg : Expr} (a it : Addr) (o : Obj) (kvs : List (Key × V)) (es : Array DictEntry) (ep : Nat) (hd : o.data = .dict es ep) :
  Lg P w K tg (ItD a o kvs) [it] it (fun i h => h.IsKeyIter it a i kvs.length ep) where
 mem := by simp
 obj := fun i h st b hb => by
  have e : b = it := by simpa using hb
  subst e
  obtain ⟨o, e, c, d⟩ := st
  exact ⟨o, e, fun v z => by rw [d] at z; cases z⟩
 keep := fun i h h' st k => st.at fun o e => k it (by simp) o e
 item := by
  intro X hP hw hK hc i pins s σ H E I hf st hg
  subst hP hw hK
  obtain ⟨hq, hlt⟩ := hg
  obtain ⟨ho, hz, hS, vs, rel, o', es', ep', ho', c', d', kk, pp, nn⟩ := I.hok a _ hq
  rw [ho] at ho'
  cases ho'
  rw [hd] at d'
  cases d'
  have hm : s.heap.DictAt (Bk X.prog X.w) a vs ep := ⟨o, es, ho, c', hd, kk, pp, nn⟩
  obtain ⟨f0, f1, f2, f3, f4, f5⟩ := hf it (by simp)
  have hlen : kvs.length = vs.length := rel.length
  obtain ⟨u, hu⟩ := Zo (k := kvs[i].1) (v := kvs[i].2) (i := i) rel (by simp [hlt])
  have st' : s.heap.IsKeyIter it a i vs.length ep := by rw [<- hlen]; exact st
  refine wpAny_pyNext_dict_item st' hm hu fun key h' hk hit sb => ?_
  have I1 : Inv X pins σ H { s with heap := h' } := I.turned (t' := s.toks) (fun b o hb e => (sb.2 b hb).trans e) f0 f1 f3 f4 f5
  obtain ⟨oi, ei, ci, di⟩ := id hit
  refine ⟨key, rfl, Qm (s := { s with heap := h' }) ei ci di (by decide) ⟨kV kvs[i].1, H, I1, j0 hk, ⟨rfl, kvs[i].1, kvs[i].2, by simp [hlt], rfl⟩, ?_, fun b hb => (hf b hb).1⟩⟩
  rw [hlen]
  exact hit
 done := by
  intro X hP hw hK hc i pins s σ H E I hf st hg
  subst hP hw hK
  obtain ⟨hq, hlt⟩ := hg
  obtain ⟨ho, hz, hS, vs, rel, o', es', ep', ho', c', d', kk, pp, nn⟩ := I.hok a _ hq
  rw [ho] at ho'
  cases ho'
  rw [hd] at d'
  cases d'
  have hm : s.heap.DictAt (Bk X.prog X.w) a vs ep := ⟨o, es, ho, c', hd, kk, pp, nn⟩
  obtain ⟨f0, f1, f2, f3, f4, f5⟩ := hf it (by simp)
  have hlen : kvs.length = vs.length := rel.length
  have st' : s.heap.IsKeyIter it a i vs.length ep := by rw [<- hlen]; exact st
  exact wpAny_pyNext_dict_end (I.ok.hd hc) st' hm (by simp; omega) fun h' eb => ⟨rfl, I.turned (t' := s.toks) (fun b o hb e => eb b o hb e) f0 f1 f3 f4 f5⟩
 self := fun _ _ _ _ _ st h => wpAny_pyIter_keyiter st h
section
variable {X : Cx}
def qd (te : TE) : TI := fun σ H R => te σ H fun x H1 => ∃ a kvs, x = .ref a /\ H1 a = some (.dK kvs) /\ ∀ o, R (ItD a o kvs) (upd H1 a (.frz o (.dK kvs)))
theorem kl {tg l : Expr} {te : TE} (hl : PE X l te) : PI X tg l (qd te) := by
 intro pins s σ H R I h
 refine thn (hl pins s σ H _ I h) fun v s1 ⟨x, H1, I1, r1, q1⟩ => ?_
 obtain ⟨a, kvs, e, ha, q⟩ := q1
 subst e
 cases r1
 obtain ⟨o, ho, I2⟩ := I1.freeze ha
 obtain ⟨hz, hS, vs, rel, o', es, ep, ho', c', d', kk, pp, nn⟩ := I1.hok a _ ha
 rw [ho] at ho'
 cases ho'
 have hm : s1.heap.DictAt (Bk X.prog X.w) a vs ep := ⟨o, es, ho, c', d', kk, pp, nn⟩
 have hlen : kvs.length = vs.length := rel.length
 refine wpAny_pyIter_dict hS hm ?_
 refine ⟨s1.heap.objs.size, [s1.heap.objs.size], _, _, _, rfl, I2.kept (t' := s1.toks) fun b o e => Zzy _ e, Wu a _ o kvs es ep d', ?_, fun b hb => ?_, q o⟩
 ·rw [hlen]
  exact ⟨_, Zzf _ rfl, rfl, rfl⟩
 ·have e : b = s1.heap.objs.size := by simpa using hb
  subst e
  exact I2.fpOk (Zzt _) (I2.hok.fresh (Zzt _))
def ib (ta : TE) : TT := fun σ H Q => ta σ H fun x H' => ∃ a xs, x = .ref a /\ H' a = some (.lst xs) /\ Q (!xs.isEmpty) H'
def ic (ta : TE) : TT := fun σ H Q => ta σ H fun x H' => ∃ a kvs, x = .ref a /\ H' a = some (.dK kvs) /\ Q (!kvs.isEmpty) H'
theorem PE.wk {e : Expr} {t : TE} (h : PE X e t) {pins : List (Addr × Obj)} {s : Shared} {σ : St} {H : Hp} {Q : VK} (I : Inv X pins σ H s) (q : t σ H Q) : wpAny (model X.prog X.w) X.A (eval e X.env) (EP X pins σ Q) X.xe s := h pins s σ H Q I q
theorem dj {a : Expr} {ta : TE} (ha : PE X a ta) (he : ∀ whole, isTrue a X.env whole = (do let v <- whole; standAt a.pos; holding [v] (truthy v)) := by intro _; rfl) : PT X a (ib ta) := by
 intro pins s σ H Q I h
 refine isTrue_plain (thn (ha pins s σ H _ I h) fun v s1 ⟨x, H1, I1, r1, q1⟩ => ?_) (he _)
 obtain ⟨a, xs, e, hx, q⟩ := q1
 exact Yg pins s1 σ H1 x v Q I1 r1 ⟨_, by subst e; exact .inl ⟨xs, SqL.of hx, rfl⟩, q⟩
theorem dk {a : Expr} {ta : TE} (ha : PE X a ta) (he : ∀ whole, isTrue a X.env whole = (do let v <- whole; standAt a.pos; holding [v] (truthy v)) := by intro _; rfl) : PT X a (ic ta) := by
 intro pins s σ H Q I h
 refine isTrue_plain (thn (ha pins s σ H _ I h) fun v s1 ⟨x, H1, I1, r1, q1⟩ => ?_) (he _)
 obtain ⟨a, xs, e, hx, q⟩ := q1
 exact Yg pins s1 σ H1 x v Q I1 r1 ⟨_, by subst e; exact .inr (.inr ⟨xs, hx, rfl⟩), q⟩
end
mutual
def Ex : PyData -> Bool
 | .none | .bool _ | .int _ | .str _ => true
 | .list _ => false
 | .tuple ds => Fa ds
 | .dict _ => false
def Fa : List PyData -> Bool
 | [] => true
 | d :: ds => Ex d && Fa ds
end
def KeepU (H H' : Hp) : Prop := ∀ a xs, H a = some (.tup xs) -> H' a = some (.tup xs)
theorem KeepU.refl (H : Hp) : KeepU H H := fun _ _ h => h
theorem KeepU.trans {H H1 H2 : Hp} (a : KeepU H H1) (b : KeepU H1 H2) : KeepU H H2 := fun c xs h => b c xs (a c xs h)
theorem Same.ku {H H' : Hp} (s : Same H H') : KeepU H H' := fun a xs h => s a _ h
theorem lh {H : Hp} {p : Addr} {o : HO} (h : H p = none) : KeepU H (upd H p o) := fun a xs e => by rw [A5 (A3 e h)]; exact e
theorem Rs {H : Hp} {p : Addr} {o u : HO} (h : H p = some u) (n : ∀ xs, u ≠ .tup xs) : KeepU H (upd H p o) := fun a xs e => by
 rw [A5 (fun z => by rw [z, h] at e; exact n xs (Zzc e))]; exact e
mutual
theorem RD.ku {H H' : Hp} (k : KeepU H H') : ∀ (d : PyData) (v : V), Ex d = true -> RD H d v -> RD H' d v
 | .none, v, _, h => by rw [RD] at h ⊢; exact h
 | .bool b, v, _, h => by rw [RD] at h ⊢; exact h
 | .int i, v, _, h => by rw [RD] at h ⊢; exact h
 | .str x, v, _, h => by rw [RD] at h ⊢; exact h
 | .list ds, v, n, h => by rw [Ex] at n; cases n
 | .tuple ds, v, n, h => by
  rw [Ex] at n
  rw [RD] at h ⊢
  obtain ⟨a, xs, e, ha, r⟩ := h
  exact ⟨a, xs, e, k a xs ha, RDs.ku k ds xs n r⟩
 | .dict _, v, n, h => by rw [Ex] at n; cases n
theorem RDs.ku {H H' : Hp} (k : KeepU H H') : ∀ (ds : List PyData) (xs : List V), Fa ds = true -> RDs H ds xs -> RDs H' ds xs
 | [], xs, _, h => by rw [RDs] at h ⊢; exact h
 | d :: ds, xs, n, h => by
  rw [Fa, Zyb] at n
  rw [RDs] at h ⊢
  obtain ⟨x, r, e, h1, h2⟩ := h
  exact ⟨x, r, e, RD.ku k d x n.1 h1, RDs.ku k ds r n.2 h2⟩
end
mutual
theorem RD.same {H H' : Hp} (k : Same H H') : ∀ (d : PyData) (v : V), RD H d v -> RD H' d v
 | .none, v, h => by rw [RD] at h ⊢; exact h
 | .bool b, v, h => by rw [RD] at h ⊢; exact h
 | .int i, v, h => by rw [RD] at h ⊢; exact h
 | .str x, v, h => by rw [RD] at h ⊢; exact h
 | .list ds, v, h => by
  rw [RD] at h ⊢
  obtain ⟨a, xs, e, ha, r⟩ := h
  exact ⟨a, xs, e, k a _ ha, RDs.same k ds xs r⟩
 | .tuple ds, v, h => by
  rw [RD] at h ⊢
  obtain ⟨a, xs, e, ha, r⟩ := h
  exact ⟨a, xs, e, k a _ ha, RDs.same k ds xs r⟩
 | .dict _, v, h => by rw [RD] at h; exact h.elim
theorem RDs.same {H H' : Hp} (k : Same H H') : ∀ (ds : List PyData) (xs : List V), RDs H ds xs -> RDs H' ds xs
 | [], xs, h => by rw [RDs] at h ⊢; exact h
 | d :: ds, xs, h => by
  rw [RDs] at h ⊢
  obtain ⟨x, r, e, h1, h2⟩ := h
  exact ⟨x, r, e, RD.same k d x h1, RDs.same k ds r h2⟩
end
theorem RDs.len {H : Hp} : ∀ {ds : List PyData} {xs : List V}, RDs H ds xs -> xs.length = ds.length
 | [], xs, h => by rw [RDs] at h; rw [h]; rfl
 | d :: ds, xs, h => by
  rw [RDs] at h
  obtain ⟨x, r, e, _, h2⟩ := h
  rw [e, Zxm, Zxm, RDs.len h2]
theorem RDs.get {H : Hp} : ∀ {ds : List PyData} {xs : List V} {i : Nat} {d : PyData}, RDs H ds xs -> ds[i]? = some d -> ∃ x, xs[i]? = some x /\ RD H d x
 | [], xs, i, d, h, e => by cases e
 | d0 :: ds, xs, i, d, h, e => by
  rw [RDs] at h
  obtain ⟨y, r, ey, h1, h2⟩ := h
  rw [ey]
  cases i with
  | zero => cases e; exact ⟨y, rfl, h1⟩
  | succ i =>
   obtain ⟨x, h3, h4⟩ := RDs.get (ds := ds) (xs := r) (i := i) (d := d) h2 (by simpa using e)
   exact ⟨x, by simpa using h3, h4⟩
theorem RDs.get' {H : Hp} : ∀ {ds : List PyData} {xs : List V} {i : Nat} {x : V}, RDs H ds xs -> xs[i]? = some x -> ∃ d, ds[i]? = some d /\ RD H d x
 | [], xs, i, x, h, e => by rw [RDs] at h; rw [h] at e; cases e
 | d :: ds, xs, i, x, h, e => by
  rw [RDs] at h
  obtain ⟨y, r, ey, h1, h2⟩ := h
  rw [ey] at e
  cases i with
  | zero => cases e; exact ⟨d, rfl, h1⟩
  | succ i => exact RDs.get' (ds := ds) (xs := r) (i := i) h2 (by simpa using e)
theorem RDs.app {H : Hp} : ∀ {ds es : List PyData} {xs ys : List V}, RDs H ds xs -> RDs H es ys -> RDs H (ds ++ es) (xs ++ ys)
 | [], es, xs, ys, h, h' => by rw [RDs] at h; rw [h]; exact h'
 | d :: ds, es, xs, ys, h, h' => by
  rw [RDs] at h
  obtain ⟨x, r, e, h1, h2⟩ := h
  rw [e, Zwb, Zwb, RDs]
  exact ⟨x, _, rfl, h1, RDs.app h2 h'⟩
theorem RDs.one {H : Hp} {d : PyData} {x : V} (h : RD H d x) : RDs H [d] [x] := by
 rw [RDs]
 refine ⟨x, _, rfl, h, ?_⟩
 rw [RDs]
theorem RDs.nil {H : Hp} : RDs H [] [] := by rw [RDs]
theorem RDs.cons {H : Hp} {d : PyData} {x : V} {ds : List PyData} {xs : List V} (h : RD H d x) (t : RDs H ds xs) : RDs H (d :: ds) (x :: xs) := by
 rw [RDs]
 exact ⟨x, _, rfl, h, t⟩
theorem RD.str_mk {H : Hp} {x : Str} : RD H (.str x) (.str x) := by rw [RD]
theorem RD.int_mk {H : Hp} {i : Int} : RD H (.int i) (.int i) := by rw [RD]
theorem RD.tup_mk {H : Hp} {a : Addr} {xs : List V} {ds : List PyData} (h : H a = some (.tup xs)) (r : RDs H ds xs) : RD H (.tuple ds) (.ref a) := by
 rw [RD]
 exact ⟨a, xs, rfl, h, r⟩
theorem RD.tup_of {H : Hp} {v : V} {ds : List PyData} (h : RD H (.tuple ds) v) : ∃ a xs, v = .ref a /\ H a = some (.tup xs) /\ RDs H ds xs := by rw [RD] at h; exact h
theorem RD.str_of {H : Hp} {v : V} {x : Str} (h : RD H (.str x) v) : v = .str x := by rw [RD] at h; exact h
theorem RD.int_of {H : Hp} {v : V} {x : Int} (h : RD H (.int x) v) : v = .int x := by rw [RD] at h; exact h
theorem RDs.nil_of {H : Hp} {xs : List V} (h : RDs H [] xs) : xs = [] := by rw [RDs] at h; exact h
theorem RDs.cons_of {H : Hp} {d : PyData} {ds : List PyData} {xs : List V} (h : RDs H (d :: ds) xs) : ∃ x r, xs = x :: r /\ RD H d x /\ RDs H ds r := by rw [RDs] at h; exact h
end L2
namespace NP
open PySem L2
structure Wr where
 name : Str
 lag : Int
 gives : Int
 floor : Int
 stock : Int
 coming : List (Int × Int)
 parts : List (Str × Int)
def Lf (p : Int × Int) : PyData := .tuple [.int p.1, .int p.2]
def Ew (p : Str × Int) : PyData := .tuple [.str p.1, .int p.2]
def Wr.d (w : Wr) : PyData := .tuple [.str w.name, .int w.lag, .int w.gives, .int w.floor, .int w.stock, .tuple (w.coming.map Lf), .tuple (w.parts.map Ew)]
abbrev Wt := Str × Int × Int
def Fs (p : Wt) : PyData := .tuple [.str p.1, .int p.2.1, .int p.2.2]
structure Sh where
 wares : List Wr
 wants : List Wt
def Sh.d (S : Sh) : PyData := .tuple [.tuple (S.wares.map Wr.d), .tuple (S.wants.map Fs)]
theorem Cb {α : Type} (f : α -> PyData) (h : ∀ x, Ex (f x) = true) : ∀ xs : List α, Fa (xs.map f) = true
 | [] => by rw [Zwr, Fa]
 | x :: r => by rw [Zz7, Fa, h x, Cb f h r]; rfl
theorem Rn (p : Int × Int) : Ex (Lf p) = true := by unfold Lf; simp only [Ex, Fa, Zwd]
theorem Gb (p : Str × Int) : Ex (Ew p) = true := by unfold Ew; simp only [Ex, Fa, Zwd]
theorem Kd (p : Wt) : Ex (Fs p) = true := by unfold Fs; simp only [Ex, Fa, Zwd]
theorem Hd (w : Wr) : Ex w.d = true := by
 unfold Wr.d
 simp only [Ex, Fa, Cb Lf Rn, Cb Ew Gb, Zwd]
theorem Co (S : Sh) : Ex S.d = true := by
 unfold Sh.d
 simp only [Ex, Fa, Cb Wr.d Hd, Cb Fs Kd, Zwd]
theorem Bz {H : Hp} {w : Wr} {v : V} (h : RD H w.d v) : ∃ (a : Addr) (c p : V), v = .ref a /\ H a = some (.tup [.str w.name, .int w.lag, .int w.gives, .int w.floor, .int w.stock, c, p]) /\ RD H (.tuple (w.coming.map Lf)) c /\ RD H (.tuple (w.parts.map Ew)) p := by
 unfold Wr.d at h
 obtain ⟨a, xs, rfl, ha, r⟩ := RD.tup_of h
 obtain ⟨x1, r1, rfl, h1, r⟩ := RDs.cons_of r
 obtain ⟨x2, r2, rfl, h2, r⟩ := RDs.cons_of r
 obtain ⟨x3, r3, rfl, h3, r⟩ := RDs.cons_of r
 obtain ⟨x4, r4, rfl, h4, r⟩ := RDs.cons_of r
 obtain ⟨x5, r5, rfl, h5, r⟩ := RDs.cons_of r
 obtain ⟨x6, r6, rfl, h6, r⟩ := RDs.cons_of r
 obtain ⟨x7, r7, rfl, h7, r⟩ := RDs.cons_of r
 have := RDs.nil_of r
 subst this
 rw [RD.str_of h1, RD.int_of h2, RD.int_of h3, RD.int_of h4, RD.int_of h5] at ha
 exact ⟨a, x6, x7, rfl, ha, h6, h7⟩
theorem Cj {H : Hp} {S : Sh} {v : V} (h : RD H S.d v) : ∃ (a b c : Addr) (ws us : List V), v = .ref a /\ H a = some (.tup [.ref b, .ref c]) /\ H b = some (.tup ws) /\ H c = some (.tup us) /\ RDs H (S.wares.map Wr.d) ws /\ RDs H (S.wants.map Fs) us := by
 unfold Sh.d at h
 obtain ⟨a, xs, rfl, ha, r⟩ := RD.tup_of h
 obtain ⟨x1, r1, rfl, h1, r⟩ := RDs.cons_of r
 obtain ⟨x2, r2, rfl, h2, r⟩ := RDs.cons_of r
 have := RDs.nil_of r
 subst this
 obtain ⟨b, ws, rfl, hb, rb⟩ := RD.tup_of h1
 obtain ⟨c, us, rfl, hc, rc⟩ := RD.tup_of h2
 exact ⟨a, b, c, ws, us, rfl, ha, hb, hc, rb, rc⟩
theorem Jo {H : Hp} {p : Wt} {v : V} (h : RD H (Fs p) v) : ∃ a : Addr, v = .ref a /\ H a = some (.tup [.str p.1, .int p.2.1, .int p.2.2]) := by
 unfold Fs at h
 obtain ⟨a, xs, rfl, ha, r⟩ := RD.tup_of h
 obtain ⟨x1, r1, rfl, h1, r⟩ := RDs.cons_of r
 obtain ⟨x2, r2, rfl, h2, r⟩ := RDs.cons_of r
 obtain ⟨x3, r3, rfl, h3, r⟩ := RDs.cons_of r
 have := RDs.nil_of r
 subst this
 rw [RD.str_of h1, RD.int_of h2, RD.int_of h3] at ha
 exact ⟨a, rfl, ha⟩
theorem M8 {H : Hp} {p : Str × Int} {v : V} (h : RD H (Ew p) v) : ∃ a : Addr, v = .ref a /\ H a = some (.tup [.str p.1, .int p.2]) := by
 unfold Ew at h
 obtain ⟨a, xs, rfl, ha, r⟩ := RD.tup_of h
 obtain ⟨x1, r1, rfl, h1, r⟩ := RDs.cons_of r
 obtain ⟨x2, r2, rfl, h2, r⟩ := RDs.cons_of r
 have := RDs.nil_of r
 subst this
 rw [RD.str_of h1, RD.int_of h2] at ha
 exact ⟨a, rfl, ha⟩
theorem bc {H : Hp} {p : Int × Int} {v : V} (h : RD H (Lf p) v) : ∃ a : Addr, v = .ref a /\ H a = some (.tup [.int p.1, .int p.2]) := by
 unfold Lf at h
 obtain ⟨a, xs, rfl, ha, r⟩ := RD.tup_of h
 obtain ⟨x1, r1, rfl, h1, r⟩ := RDs.cons_of r
 obtain ⟨x2, r2, rfl, h2, r⟩ := RDs.cons_of r
 have := RDs.nil_of r
 subst this
 rw [RD.int_of h1, RD.int_of h2] at ha
 exact ⟨a, rfl, ha⟩
theorem C6 {α : Type} {H : Hp} {f : α -> PyData} {xs : List α} {vs : List V} {i : Nat} {v : V} (h : RDs H (xs.map f) vs) (e : vs[i]? = some v) : ∃ x, xs[i]? = some x /\ RD H (f x) v := by
 obtain ⟨d, hd, r⟩ := RDs.get' h e
 rw [Zzv] at hd
 cases ex : xs[i]? with
 | none => rw [ex] at hd; cases hd
 | some x => rw [ex] at hd; cases hd; exact ⟨x, rfl, r⟩
theorem Bo {α : Type} {H : Hp} {f : α -> PyData} {xs : List α} {vs : List V} (h : RDs H (xs.map f) vs) : vs.length = xs.length := by have := RDs.len h; rw [Zzz] at this; exact this
abbrev Gr := List (Str × List Str)
def Ad (G : Gr) : List Str := G.map (·.1)
def J5 (ks : List Str) (ps : List Str) : List Str := ps.filter fun x => decide (x ∈ ks)
def Bw (ks : List Str) (e : Str × List Str) : Option (Str × List Str) := if J5 ks e.2 = [] then none else some (e.1, J5 ks e.2)
def Fc (G : Gr) : Gr := G.filterMap (Bw (Ad G))
def Bq : Nat -> Gr -> Gr
 | 0, G => G
 | n + 1, G => Fc (Bq n G)
def Dp (S : Sh) : Gr := S.wares.map fun w => (w.name, w.parts.map (·.1))
theorem keys_filter {ks : List Str} : ∀ {G : Gr}, (Ad (G.filterMap (Bw ks))).Sublist (Ad G)
 | [] => .slnil
 | e :: r => by
  unfold Ad
  rw [Zxp]
  cases h : Bw ks e with
  | none => exact .cons _ (keys_filter (G := r))
  | some q =>
   have e1 : q.1 = e.1 := by
    unfold Bw at h
    split at h
    ·cases h
    ·cases h; rfl
   show (q.1 :: Ad (r.filterMap (Bw ks))).Sublist (e.1 :: Ad r)
   rw [e1]
   exact .cons₂ _ (keys_filter (G := r))
theorem V3 {G : Gr} (h : (Ad G).Nodup) : (Ad (Fc G)).Nodup := keys_filter.nodup h
theorem Jl {G : Gr} (h : (Ad G).Nodup) : ∀ n, (Ad (Bq n G)).Nodup
 | 0 => h
 | n + 1 => V3 (Jl h n)
theorem U6 (G : Gr) : (Fc G).length <= G.length := List.length_filterMap_le _ _
theorem Ob (G : Gr) : ∀ n, (Bq n G).length <= G.length
 | 0 => Zzt _
 | n + 1 => Zz5 (U6 _) (Ob G n)
theorem Hl {G : Gr} {e : Str × List Str} (h : e ∈ Fc G) : ∃ ps, (e.1, ps) ∈ G /\ (∀ x ∈ e.2, x ∈ ps /\ x ∈ Ad G) /\ e.2 ≠ [] /\ e.2.length <= ps.length := by
 unfold Fc at h
 obtain ⟨q, hq, hc⟩ := Zxr.mp h
 unfold Bw at hc
 split at hc
 ·cases hc
 ·rename_i hn
  cases hc
  refine ⟨q.2, hq, fun x hx => ?_, hn, Zw7 _ _⟩
  have := Zxt.mp hx
  exact ⟨this.1, of_decide_eq_true this.2⟩
theorem G5 {G : Gr} : ∀ (n : Nat) {e : Str × List Str}, e ∈ Bq n G -> ∃ ps, (e.1, ps) ∈ G /\ (∀ x ∈ e.2, x ∈ ps) /\ e.2.length <= ps.length
 | 0, e, h => ⟨e.2, h, fun x hx => hx, Zzt _⟩
 | n + 1, e, h => by
  obtain ⟨ps, h1, h2, _, h3⟩ := Hl h
  obtain ⟨qs, q1, q2, q3⟩ := G5 n h1
  exact ⟨qs, q1, fun x hx => q2 x (h2 x hx).1, by have h3' : e.2.length <= ps.length := h3; have q3' : ps.length <= qs.length := q3; omega⟩
def Low (G : Gr) (r : Str -> Nat) : Prop := ∀ e ∈ G, ∀ x ∈ e.2, r x < r e.1
theorem W0 {G : Gr} {r : Str -> Nat} (h : Low G r) : ∀ (n : Nat) (e : Str × List Str), e ∈ Bq n G -> n <= r e.1
 | 0, e, _ => Zyq _
 | n + 1, e, he => by
  obtain ⟨ps, h1, h2, h3, _⟩ := Hl he
  obtain ⟨qs, q1, q2, _⟩ := G5 n h1
  cases hx : e.2 with
  | nil => exact absurd hx h3
  | cons x t =>
   have hm : x ∈ e.2 := by rw [hx]; exact Zzb
   obtain ⟨m1, m2⟩ := h2 x hm
   obtain ⟨y, hy, ey⟩ := Zzx.mp m2
   have lo := W0 h n y hy
   have lt := h _ q1 x (q2 x m1)
   rw [ey] at lo
   have lt : r x < r e.1 := lt
   omega
theorem U5 {G : Gr} {r : Str -> Nat} {n : Nat} (h : Low G r) (hr : ∀ e ∈ G, r e.1 < n) : Bq n G = [] := by
 cases hc : Bq n G with
 | nil => rfl
 | cons e t =>
  have he : e ∈ Bq n G := by rw [hc]; exact Zzb
  have h1 := W0 h n e he
  obtain ⟨ps, h2, _⟩ := G5 n he
  have h3 := hr _ h2
  have h3 : r e.1 < n := h3
  omega
def PDk (H : Hp) (kvs : List (Key × V)) (G : Gr) : Prop := Paired (fun (e : Str × List Str) (kv : Key × V) => kv.1 = .inr e.1 /\ ∃ l, kv.2 = .ref l /\ H l = some (.lst (e.2.map V.str))) G kvs
theorem PDk.mono {H H' : Hp} {kvs : List (Key × V)} {G : Gr} (h : PDk H kvs G) (k : ∀ l xs, H l = some (.lst xs) -> H' l = some (.lst xs)) : PDk H' kvs G :=
 Paired.mapP h fun e kv ⟨h1, l, h2, h3⟩ => ⟨h1, l, h2, k l _ h3⟩
theorem PDk.keys : ∀ {H : Hp} {kvs : List (Key × V)} {G : Gr}, PDk H kvs G -> kvs.map (·.1) = (Ad G).map Zy2
 | _, _, _, .nil => rfl
 | _, _, _, .cons r t => by
  unfold Ad
  rw [Zz7, Zz7, Zz7, r.1]
  exact congrArg _ (PDk.keys t)
theorem PDk.get : ∀ {H : Hp} {kvs : List (Key × V)} {G : Gr} {i : Nat} {e : Str × List Str}, PDk H kvs G -> G[i]? = some e -> ∃ l, kvs[i]? = some (.inr e.1, .ref l) /\ H l = some (.lst (e.2.map V.str))
 | _, _, _, _, _, .nil, h => by simp at h
 | _, (k, v) :: _, _, 0, e, .cons r _, h => by
  simp at h
  subst h
  obtain ⟨h1, l, h2, h3⟩ := r
  have h1 : k = _ := h1
  have h2 : v = _ := h2
  exact ⟨l, by rw [h1, h2]; rfl, h3⟩
 | _, _ :: _, _, i + 1, e, .cons _ t, h => by
  obtain ⟨l, q⟩ := PDk.get (i := i) (e := e) t (by simpa using h)
  exact ⟨l, by simpa using q.1, q.2⟩
theorem PDk.get' : ∀ {H : Hp} {kvs : List (Key × V)} {G : Gr} {i : Nat} {k : Key} {v : V}, PDk H kvs G -> kvs[i]? = some (k, v) -> ∃ e l, G[i]? = some e /\ k = .inr e.1 /\ v = .ref l /\ H l = some (.lst (e.2.map V.str))
 | _, _, _, _, _, _, .nil, h => by simp at h
 | _, _, e :: _, 0, k, v, .cons r _, h => by
  simp at h
  subst h
  obtain ⟨h1, l, h2, h3⟩ := r
  exact ⟨e, l, rfl, h1, h2, h3⟩
 | _, _, _ :: _, i + 1, k, v, .cons _ t, h => by
  obtain ⟨e, l, q⟩ := PDk.get' (i := i) t (by simpa using h)
  exact ⟨e, l, by simpa using q.1, q.2⟩
theorem Jb {κ : Type} [DecidableEq κ] : ∀ {kvs : List (κ × V)} {i : Nat} {k : κ} {v : V}, (kvs.map (·.1)).Nodup -> kvs[i]? = some (k, v) -> C5 kvs k = some v
 | [], _, _, _, _, h => by simp at h
 | p :: r, 0, k, v, hn, h => by
  simp at h
  subst h
  exact Cq rfl
 | p :: r, i + 1, k, v, hn, h => by
  have h' : r[i]? = some (k, v) := by simpa using h
  have hn' : (p.1 :: r.map (·.1)).Nodup := hn
  obtain ⟨h1, h2⟩ := Zym.mp hn'
  have hm : k ∈ r.map (·.1) := Zzx.mpr ⟨(k, v), Zzn h', rfl⟩
  rw [Ci (fun e => h1 (e ▸ hm))]
  exact Jb h2 h'
theorem Yd {κ : Type} [DecidableEq κ] (kvs : List (κ × V)) (k : κ) : (C5 kvs k).isSome = decide (k ∈ kvs.map (·.1)) := by
 rw [<- Et]
 induction kvs with
 | nil => rfl
 | cons p r ih =>
  rw [Zx5, ih, Zz7]
  by_cases h : p.1 = k
  ·subst h; simp
  ·have h' : ¬ k = p.1 := fun e => h e.symm
   simp [h, h']
theorem Qk {xs : List Str} (h : xs.Nodup) : (xs.map (Zy2 : Str -> Key)).Nodup := by
 induction xs with
 | nil => exact Zx0
 | cons x r ih =>
  obtain ⟨h1, h2⟩ := Zym.mp h
  rw [Zz7]
  refine Zym.mpr ⟨fun m => ?_, ih h2⟩
  obtain ⟨y, hy, e⟩ := Zzx.mp m
  cases e
  exact h1 hy
theorem PDk.has {H : Hp} {kvs : List (Key × V)} {G : Gr} (h : PDk H kvs G) (x : Str) : (C5 kvs (.inr x)).isSome = decide (x ∈ Ad G) := by
 rw [Yd, h.keys]
 congr 1
 apply propext
 constructor
 ·intro m
  obtain ⟨y, hy, e⟩ := Zzx.mp m
  cases e
  exact hy
 ·exact fun m => Zzx.mpr ⟨x, m, rfl⟩
theorem N5 {α β : Type} {F : α -> β -> Prop} : ∀ {a c : List α} {b d : List β}, Paired F a b -> Paired F c d -> Paired F (a ++ c) (b ++ d)
 | _, _, _, _, .nil, s => s
 | _, _, _, _, .cons r t, s => .cons r (N5 t s)
theorem PDk.snoc {H : Hp} {kvs : List (Key × V)} {G : Gr} {n : Str} {l : Addr} {ps : List Str} (h : PDk H kvs G) (hn : n ∉ Ad G) (hl : H l = some (.lst (ps.map V.str))) : PDk H (Eu kvs (.inr n) (.ref l)) (G ++ [(n, ps)]) := by
 have hv : C5 kvs (.inr n) = none := by
  have := h.has n
  rw [decide_eq_false hn] at this
  cases e : C5 kvs (.inr n) with
  | none => rfl
  | some v => rw [e] at this; cases this
 rw [My _ hv]
 exact N5 h (.cons ⟨rfl, l, rfl, hl⟩ .nil)
theorem PDk.len {H : Hp} {kvs : List (Key × V)} {G : Gr} (h : PDk H kvs G) : kvs.length = G.length := (Paired.length h).symm
end NP
namespace L2
open PySem PySem.Spec PyProof.Rows
theorem fk : typeLookup (.type "list_reverseiterator") "__len__" = pure none := by rw [typeLookup_type, builtinLookup_eq_fast]; kernel_rfl
theorem Zi : typeLookup (.type "list_reverseiterator") "__length_hint__" = pure (some (.builtin "list_reverseiterator.__length_hint__")) := by rw [typeLookup_type, builtinLookup_eq_fast]; kernel_rfl
section
variable {prog : Program} {w : World} {A : Around} {E : Value -> Shared -> Prop} {s : Shared}
theorem Zv {r l : Addr} {i : Int} {Q : Bool -> Shared -> Prop} (hr : s.heap.IsRevIter r l i) (h : Q false s) : wpAny (model prog w) A (Builtin.List.listLengthHint (.ref r)) Q E s := by
 unfold Builtin.List.listLengthHint
 refine wpAny_bind (wpAny_specialOf hr.typeIs fk ?_)
 refine wpAny_bind (m := specialOf (Value.ref r) (Str.ofString "__length_hint__")) (wpAny_specialOf hr.typeIs Zi ?_)
 generalize hid : ("list_reverseiterator.__length_hint__" : String) = idr
 wp_delta
 rw [show splitId idr = some ("list_reverseiterator", "__length_hint__") from by subst hid; decide +kernel]
 subst hid
 exact wpAny_bind (wpAny_isInstance (b := true) hr.typeIs (by rw [isSubtype_type]; kernel_rfl) (wpAny_pure h))
theorem Zr {R : Result -> Shared -> Prop} {r l S : Addr} {items : Array Value} (hh : A.handled = none) (hr : s.heap.IsRevIter r l ((items.size : Int) - 1)) (hl : s.heap.IsList l items) (nlr : l ≠ r) (nSr : S ≠ r) (nSl : S ≠ l) (hz : items.size <= sizeLine)
  (hS : s.heap.get? S = some { cls := .type "list", data := .seq #[] })
  (hR : ∀ h' tk acc' c', (∀ b o, b ∉ [S, r] -> s.heap.get? b = some o -> h'.get? b = some o) -> h'.get? S = some { cls := .type "list", dict := none, data := .seq acc' c', slots := #[] } ->
   ItemsOf (fun i v => items[items.size - 1 - i]? = some v) acc' items.size -> R (.ok (.ret .none)) { s with heap := h', toks := tk }) :
  wpAny (model prog w) A.in1 (Builtin.«list.__init__» ⟨[.ref S, .ref r], []⟩)
   (fun fin s' => match fin with | .done f => R (.ok f) s' | .again c' => c'.quiet = true /\ codeAny (model prog w) A c' R s') (fun e s' => R (.error e) s') s := by
 have W := (Walks.listRev (prog := prog) (w := w) (A := A.in1) hh r l nlr items).toS
 refine wpAny_bind (m := Builtin.List.listItems (.ref S)) ?_
 unfold Builtin.List.listItems
 refine wpAny_bind (wpAny_seqItems hS rfl (wpAny_pure ?_))
 refine wpAny_bind (m := updateSeq S (fun _ => #[])) (wpAny_updateSeq hS rfl ?_)
 have hS2 := Zxh (Obj.mapSeq (fun _ => (#[] : Array Value))) hS rfl
 have K1 : ∀ b o, b ≠ S -> s.heap.get? b = some o -> (s.heap.update S (Obj.mapSeq (fun _ => (#[] : Array Value)))).get? b = some o := fun b o n e => (Zyc _ _ (Zzh n)).trans e
 generalize s.heap.update S (Obj.mapSeq (fun _ => (#[] : Array Value))) = h1 at hS2 K1
 refine wpAny_bind (wpAny_letGo ?_)
 have r1 : h1.IsRevIter r l ((items.size : Int) - 1) := hr.at fun o e => K1 r o (Zzh nSr) e
 have l1 : h1.IsList l items := hl.at fun o e => K1 l o (Zzh nSl) e
 unfold Builtin.List.listExtendWith
 refine wpAny_bind (wpAny_typeOf (s := { s with heap := h1 }) r1.typeIs ?_)
 have d1 : Builtin.List.listSameRef (.ref S) (.ref r) = false := by simp [Builtin.List.listSameRef, nSr]
 rw [if_neg (by rw [d1]; decide)]
 refine wpAny_bind (wpAny_pyIter_revIter (s := { s with heap := h1 }) r1 (wpAny_bind (wpAny_holding (Zv (s := { s with heap := h1 }) r1 ?_))))
 rw [if_neg (by decide)]
 refine wpAny_pure ⟨plainId_quiet F.plain_extend_loop _, codeAny_extend_loopS W hz S (by simp [nSr, nSl]) .none items.size 0 _ #[] _ rfl (Zyq _) ⟨Zyq _, by simpa using r1, l1⟩ hS2 (ItemsOf.nil _) fun s' acc' c' hm hS' ha => ?_⟩
 rw [Moved.eq_with hm]
 refine hR s'.heap s'.toks acc' c' (fun b o n e => hm.heap b o n (K1 b o (fun z => n (by simp [z])) e)) hS' ha
theorem Zm {r l : Addr} {items : Array Value} {Q : Value -> Shared -> Prop} (hh : A.handled = none) (hr : s.heap.IsRevIter r l ((items.size : Int) - 1)) (hl : s.heap.IsList l items) (nlr : l ≠ r) (hz : items.size <= sizeLine)
  (hQ : ∀ h' tk acc' c', (∀ b o, b ≠ r -> s.heap.get? b = some o -> h'.get? b = some o) -> h'.get? s.heap.objs.size = some { cls := .type "list", dict := none, data := .seq acc' c', slots := #[] } ->
   ItemsOf (fun i v => items[items.size - 1 - i]? = some v) acc' items.size -> Q (.ref s.heap.objs.size) { s with heap := h', toks := tk }) : wpAny (model prog w) A (call (.type "list") [.ref r]) Q E s := by
 have lr : r < s.heap.objs.size := by obtain ⟨o, e, _⟩ := hr; exact Zzj e
 have ll : l < s.heap.objs.size := by obtain ⟨o, e, _⟩ := hl; exact Zzj e
 refine callType_codes (Q₁ := fun obj t => obj = .ref s.heap.objs.size /\ t = { s with heap := s.heap.push { cls := .type "list", data := .seq #[] } }) F.called_list (F.typeCall_list_1 _) F.entry_list_init (code_list_new _ ⟨rfl, rfl⟩) fun obj t ht => ?_
 obtain ⟨rfl, rfl⟩ := ht
 have nS : (s.heap.push { cls := .type "list", data := .seq #[] }).get? s.heap.objs.size = some { cls := .type "list", data := .seq #[] } := Zzf _ rfl
 refine ⟨⟨_, nS, rfl⟩, F.args_list_init_2 _ _, Zr (A := A.in1) hh (hr.at fun o e => Zzy _ e) (hl.push _) nlr (Zxx lr) (Zxx ll) hz nS fun h' tk acc' c' hk hS' ha => ?_⟩
 refine ⟨rfl, hQ h' tk acc' c' (fun b o n e => hk b o ?_ (Zzy _ e)) hS' ha⟩
 simp only [Zzk, Zz8, or_false, not_or]
 exact ⟨Zz0 (Zzj e), n⟩
end
theorem Xn {items : List Value} {acc : Array Value} (h : ItemsOf (fun i v => items.toArray[items.toArray.size - 1 - i]? = some v) acc items.toArray.size) : acc = items.reverse.toArray := by
 obtain ⟨h1, h2⟩ := h
 have h1 : acc.size = items.length := by rw [h1, Zzp]
 have h2 : ∀ j v, acc[j]? = some v -> items[items.length - 1 - j]? = some v := fun j v e => by simpa using h2 j v e
 have e : acc.toList = items.reverse := by
  apply Zxu
  intro j
  cases e : acc[j]? with
  | none =>
   have : acc.size <= j := by simpa using e
   rw [Zyt (by rw [Zxo]; exact this), Zyt (by rw [Zx7]; omega)]
  | some v =>
   have q := h2 j v e
   have lt : j < acc.size := (Array.getElem?_eq_some_iff.mp e).1
   rw [List.getElem?_reverse (by omega), q, Array.getElem?_toList, e]
 rw [<- e]
section
variable {X : Cx}
def ik (te : TE) : TE := fun σ H Q => te σ H fun x H1 => ∃ a xs, x = .ref a /\ H1 a = some (.lst xs) /\ ∀ p, H1 p = none -> Q (.ref p) (upd H1 p (.lst xs.reverse))
theorem du {e : Expr} {te : TE} {p1 p2 p3 p4 : Pos} (hc : X.calm = true) (hg : Gl X "list") (hm : X.mg "list" = none) (hg2 : Gl X "reversed") (hm2 : X.mg "reversed" = none) (he : PE X e te) (hn : Bu [e] = true := by rfl) :
  PE X (.Call (.Name "list" p1) [.Call (.Name "reversed" p2) [e] [] p3] [] p4) (ik te) := by
 intro pins s σ H Q I h
 refine wpAny_Call_Name_kw (E9 I hg hm NP.Wa ?_ (by decide) (by decide))
 refine Zyn (Zvw ?_) rfl rfl
 refine wpAny_Call_Name_kw (E9 I hg2 hm2 NP.Ly ?_ (by decide) (by decide))
 refine Zyn (thn ((A4 he A1 hn) p3 pins s σ H (fun vs H1 => match vs with | [x] => ∃ a xs, x = .ref a /\ H1 a = some (.lst xs) /\ ∀ p, H1 p = none -> Q (.ref p) (upd H1 p (.lst xs.reverse)) | _ => False) I h) fun us s1 ⟨vs, H1, I1, r1, hv⟩ => ?_) (Bs hn) rfl
 match vs, hv, r1 with
 | [x], ⟨a, xs, ea, ha, q⟩, r1 =>
  subst ea
  obtain ⟨u, rfl, ru⟩ := Gh r1
  cases ru
  obtain ⟨its, rv, hl, hlt⟩ := Aw I1 ha
  have hlen := rv.length
  obtain ⟨hz, _⟩ := I1.hok a _ ha
  refine call_reversed_list hl (Calls.spliced_nil ?_)
  have sz : (s1.heap.push (revObj a ((its.toArray.size : Int) - 1))).objs.size = s1.heap.objs.size + 1 := Zy4 ..
  have fr := I1.fpOk (Zzt _) (I1.hok.fresh (Zzt _))
  have nar : a ≠ s1.heap.objs.size := Zz0 hlt
  refine Zm (s := { s1 with heap := s1.heap.push (revObj a ((its.toArray.size : Int) - 1)) }) (I1.ok.hd hc) ⟨_, Zzf _ rfl, rfl, rfl⟩ (hl.push _) nar (by rw [Zzp]; omega) fun h' tk acc c hk hS ha' => ?_
  have ea := Xn ha'
  subst ea
  have sz2 : s1.heap.objs.size <= (s1.heap.push (revObj a ((its.toArray.size : Int) - 1))).objs.size := by rw [sz]; exact Nat.le_succ _
  have kk : ∀ b o, s1.heap.get? b = some o -> h'.get? b = some o := fun b o e => hk b o (Zz0 (Zzj e)) (Zzy _ e)
  exact ⟨.ref _, _, I1.laid (t' := tk) (o := .lst xs.reverse) kk sz2 ⟨by rw [Zx7]; exact hz, its.reverse, c, rv.reverse, hS⟩, rfl, q _ (I1.hok.fresh sz2)⟩
end
theorem Ql {K : Zzu} : ce 2 (Zz K 2 (J9 (Fe 0) (J9 (Fe 1) gNil))) := fun v σ H Q h => by
 obtain ⟨a, xs, e, hq, hl, v1, r1, e1, v2, r2, e2, e3, q⟩ := h
 exact ⟨a, xs, e, hq, hl, v1, r1, e1, v2, r2, e2, e3, ⟨⟨by simp, fun j hj => by rw [Zy1 (by omega), Zy1 (by omega)]⟩, q⟩⟩
theorem mf {J : It} {n : Nat} {yl : Nat -> List V -> Prop} {ok : Hp -> Prop} {own : List Str} {cap : List Nat} {g : TG} {tt : TT} {te : TE} {σ : St} {H : Hp} {Q : VK} (G : Ud J n yl ok) (hn : n <= sizeLine) (Pv : Nat -> List V -> Hp -> Prop) (h0 : Pv 0 [] H) (hok : ∀ i acc H, i <= n -> Pv i acc H -> ok H)
  (hlen : ∀ i acc H, Pv i acc H -> acc.length <= i)
  (hs : ∀ i ys p acc H, i < n -> yl i ys -> Pv i acc H -> H p = none -> g (.ref p) (Im own cap σ) (upd H p (.tup ys)) fun σ2 H2 => tt σ2 H2 fun b H3 => if b = true then te σ2 H3 fun y H4 => Pv (i + 1) (acc ++ [y]) H4 else Pv (i + 1) acc H3)
  (hd : ∀ acc H, Pv n acc H -> ∀ p, H p = none -> Q (.ref p) (upd H p (.lst acc))) : NP.Ue J own cap g tt te σ H Q := by
 refine ⟨fun i m acc H => m = n - i /\ i <= n /\ Pv i acc H, ⟨n, by simp, Zyq _, h0⟩, ?_⟩
 rintro i m acc H ⟨rfl, hi, p⟩
 have q := hok i acc H hi p
 have hl := hlen i acc H p
 refine ⟨by omega, ?_⟩
 by_cases hlt : i < n
 ·refine .inr ⟨G.go i H hlt q, by omega, Pv (i + 1), fun acc' H' p' => ⟨n - (i + 1), by omega, rfl, hlt, p'⟩, fun x H' y => ?_⟩
  obtain ⟨a, ys, e1, e2, e3, y'⟩ := G.yld i H x H' hlt q y
  subst e1 e3
  exact hs i ys a acc H hlt y' p e2
 ·have e : i = n := by omega
  subst e
  exact .inl ⟨G.stop H q, hd acc H p⟩
theorem Lc {J : It} {n : Nat} {yl : Nat -> V -> Prop} {ok : Hp -> Prop} {own : List Str} {cap : List Nat} {g : TG} {tt : TT} {te : TE} {σ : St} {H : Hp} {Q : VK} (G : Pk J n yl ok) (hn : n <= sizeLine) (Pv : Nat -> List V -> Hp -> Prop) (h0 : Pv 0 [] H) (hok : ∀ i acc H, i <= n -> Pv i acc H -> ok H)
  (hlen : ∀ i acc H, Pv i acc H -> acc.length <= i)
  (hs : ∀ i x acc H, i < n -> yl i x -> Pv i acc H -> g x (Im own cap σ) H fun σ2 H2 => tt σ2 H2 fun b H3 => if b = true then te σ2 H3 fun y H4 => Pv (i + 1) (acc ++ [y]) H4 else Pv (i + 1) acc H3)
  (hd : ∀ acc H, Pv n acc H -> ∀ p, H p = none -> Q (.ref p) (upd H p (.lst acc))) : NP.Ue J own cap g tt te σ H Q := Qv G hn Pv h0 hok hlen hs hd
def Jm (ns : Nat -> Int) : Nat -> Int
 | 0 => ns 0
 | k + 1 => if ns (k + 1) > Jm ns k then ns (k + 1) else Jm ns k
section
variable {prog : Program} {w : World} {A : Around} {R : Result -> Shared -> Prop} {I : Addr} {fp wr : List Addr} {n : Nat} {P : Nat -> Value -> Prop} {St : Nat -> Heap -> Prop}
theorem gc {a b : Int} {t u : Tok} {Q : Value -> Shared -> Prop} {E : Value -> Shared -> Prop} {s : Shared} (h : Q (.bool (decide (b < a))) s) : wpAny (model prog w) A (richCompare .Gt (.int a t) (.int b u)) Q E s := show wpAny _ _ (compareOp .Gt _ _) _ _ _ from gt_int h
theorem Xd (kw : List (Str × Value)) (W : Walks prog w A.in1 I fp wr n P St) (ns : Nat -> Int) (hv : ∀ i v, P i v -> ∃ t, v = .int (ns i) t) (S : Addr) (hSf : S ∉ fp) :
  ∀ (k j : Nat) (s : Shared) (t : Tok) (c : Nat), n - (j + 1) = k -> j + 1 <= n -> St (j + 1) s.heap -> s.heap.get? S = some { cls := .type "list", dict := none, data := .seq #[.int (Jm ns j) t, .int (Jm ns j) t] c, slots := #[] } ->
  (∀ t' h' tk, (∀ b o, b ∉ wr -> b ≠ S -> s.heap.get? b = some o -> h'.get? b = some o) -> R (.ok (.ret (.int (Jm ns (n - 1)) t'))) { s with heap := h', toks := tk }) ->
  codeAny (model prog w) A (.builtin "max.loop" ⟨[.ref I, .none, .ref S], kw⟩) R s := by
 have nSw : S ∉ wr := fun h => hSf (W.sub _ h)
 have nm : (toString "max" ++ toString ".loop" : String) = "max.loop" := by decide
 intro k
 induction k with
 | zero =>
  intro j s t c hk hj hst hS hR
  have hin : j + 1 = n := by omega
  refine codeAny_builtin F.entry_max_loop ?_
  rw [Zwx F.plain_max_loop _]
  refine wpAny_bind (m := seqItems? (.ref S)) (wpAny_seqItems hS rfl (wpAny_bind (m := tryCatch (pyNext (.ref I)) _) (wpAny_tryCatch (W.done s _ _ (hin ▸ hst) fun h' tk hk' => ?_))))
  refine wpAny_bind (m := updateSeq S (fun _ => #[])) (wpAny_updateSeq (hk' S _ nSw hS) rfl (wpAny_bind (wpAny_letGo (wpAny_pure ?_))))
  have e : n - 1 = j := by omega
  rw [e] at hR
  exact hR t _ tk fun b o n1 n2 q => (Zyc _ _ (Zzh n2)).trans (hk' b o n1 q)
 | succ k ih =>
  intro j s t c hk hj hst hS hR
  have hlt : j + 1 < n := by omega
  refine codeAny_builtin F.entry_max_loop ?_
  rw [Zwx F.plain_max_loop _]
  refine wpAny_bind (m := seqItems? (.ref S)) (wpAny_seqItems hS rfl (wpAny_bind (m := tryCatch (pyNext (.ref I)) _) (wpAny_tryCatch (W.item (j + 1) s _ _ hlt hst fun v h' tk hP hst' hk' => ?_))))
  obtain ⟨u, rfl⟩ := hv _ _ hP
  have hS' := hk' S _ nSw hS
  refine wpAny_bind (m := tryCatch (holding _ (richCompare .Gt _ _ >>= _)) _) (wpAny_tryCatch (wpAny_holding (wpAny_bind (gc (wpAny_bind (wpAny_holding (wpAny_truthy_bool (wpAny_bind (wpAny_letGo (wpAny_pure ?_))))))))))
  by_cases hb : Jm ns j < ns (j + 1)
  ·rw [decide_eq_true hb]
   simp only [if_true]
   refine wpAny_bind (wpAny_updateSeq hS' rfl (wpAny_bind (wpAny_letGo ?_)))
   rw [nm]
   have eb : Jm ns (j + 1) = ns (j + 1) := if_pos hb
   refine wpAny_pure ⟨plainId_quiet F.plain_max_loop _, ih (j + 1) _ u _ (by omega) hlt (W.frame _ _ _ hst' fun b hbf o e => ?_) (by rw [eb]; exact Zxh _ hS' rfl) fun t' h'' tk' hk2 => ?_⟩
   ·exact (Zyc _ _ (fun h : S = b => hSf (by rw [h]; exact hbf))).trans e
   ·exact hR t' h'' tk' fun b o n1 n2 e => hk2 b o n1 n2 ((Zyc _ _ (Zzh n2)).trans (hk' b o n1 e))
  ·rw [decide_eq_false hb]
   simp only [Bool.false_eq_true, if_false]
   refine wpAny_bind (wpAny_letGo ?_)
   rw [nm]
   have eb : Jm ns (j + 1) = Jm ns j := if_neg hb
   refine wpAny_pure ⟨plainId_quiet F.plain_max_loop _, ih (j + 1) _ t c (by omega) hlt hst' (by rw [eb]; exact hS') fun t' h'' tk' hk2 => ?_⟩
   exact hR t' h'' tk' fun b o n1 n2 e => hk2 b o n1 n2 (hk' b o n1 e)
theorem Np (kw : List (Str × Value)) (W : Walks prog w A.in1 I fp wr n P St) (ns : Nat -> Int) (hv : ∀ i v, P i v -> ∃ t, v = .int (ns i) t) (S : Addr) (hSf : S ∉ fp) (hn : 0 < n) {s : Shared} {c : Nat} (hst : St 0 s.heap)
  (hS : s.heap.get? S = some { cls := .type "list", dict := none, data := .seq #[] c, slots := #[] })
  (hR : ∀ t' h' tk, (∀ b o, b ∉ wr -> b ≠ S -> s.heap.get? b = some o -> h'.get? b = some o) -> R (.ok (.ret (.int (Jm ns (n - 1)) t'))) { s with heap := h', toks := tk }) :
  codeAny (model prog w) A (.builtin "max.loop" ⟨[.ref I, .none, .ref S], kw⟩) R s := by
 have nSw : S ∉ wr := fun h => hSf (W.sub _ h)
 have nm : (toString "max" ++ toString ".loop" : String) = "max.loop" := by decide
 refine codeAny_builtin F.entry_max_loop ?_
 rw [Zwx F.plain_max_loop _]
 refine wpAny_bind (m := seqItems? (.ref S)) (wpAny_seqItems hS rfl (wpAny_bind (m := tryCatch (pyNext (.ref I)) _) (wpAny_tryCatch (W.item 0 s _ _ hn hst fun v h' tk hP hst' hk' => ?_))))
 obtain ⟨u, rfl⟩ := hv _ _ hP
 have hS' := hk' S _ nSw hS
 refine wpAny_bind (m := updateSeq S _) (wpAny_updateSeq hS' rfl ?_)
 rw [nm]
 refine wpAny_pure ⟨plainId_quiet F.plain_max_loop _, Xd kw W ns hv S hSf _ 0 _ u _ rfl hn (W.frame _ _ _ hst' fun b hbf o e => ?_) (Zxh _ hS' rfl) fun t' h'' tk' hk2 => ?_⟩
 ·exact (Zyc _ _ (fun h : S = b => hSf (by rw [h]; exact hbf))).trans e
 ·exact hR t' h'' tk' fun b o n1 n2 e => hk2 b o n1 n2 ((Zyc _ _ (Zzh n2)).trans (hk' b o n1 e))
theorem Xc {d : Value} (W : Walks prog w A.in1 I fp wr 0 P St) (S : Addr) (hSf : S ∉ fp) {s : Shared} {c : Nat} (hst : St 0 s.heap)
  (hS : s.heap.get? S = some { cls := .type "list", dict := none, data := .seq #[] c, slots := #[] })
  (hR : ∀ h' tk, (∀ b o, b ∉ wr -> b ≠ S -> s.heap.get? b = some o -> h'.get? b = some o) -> R (.ok (.ret d)) { s with heap := h', toks := tk }) :
  codeAny (model prog w) A (.builtin "max.loop" ⟨[.ref I, .none, .ref S], [("default", d)]⟩) R s := by
 refine codeAny_builtin F.entry_max_loop ?_
 rw [Zwx F.plain_max_loop _]
 refine wpAny_bind (m := seqItems? (.ref S)) (wpAny_seqItems hS rfl (wpAny_bind (m := tryCatch (pyNext (.ref I)) _) (wpAny_tryCatch (W.done s _ _ hst fun h' tk hk' => ?_))))
 exact wpAny_bind (wpAny_rule (wpAny_pure (hR h' tk fun b o n1 _ e => hk' b o n1 e)))
end
def Ke (ns : List Int) : Int := Jm (fun i => (ns[i]?).getD 0) (ns.length - 1)
def Cz (ns : List Int) : Int := if ns = [] then 0 else Ke ns
theorem Ua (f : Nat -> Int) : ∀ k, ∃ i, i <= k /\ Jm f k = f i
 | 0 => ⟨0, Zzt _, rfl⟩
 | k + 1 => by
  rw [Jm]
  split
  ·exact ⟨k + 1, Zzt _, rfl⟩
  ·obtain ⟨i, h1, h2⟩ := Ua f k
   exact ⟨i, by omega, h2⟩
theorem Wc (f : Nat -> Int) : ∀ k i, i <= k -> f i <= Jm f k
 | 0, i, h => by
  have : i = 0 := by omega
  subst this
  exact Zz6 _
 | k + 1, i, h => by
  rw [Jm]
  by_cases hi : i = k + 1
  ·subst hi
   split <;> omega
  ·have := Wc f k i (by omega)
   split <;> omega
theorem G3 {ns : List Int} (h : ns ≠ []) : Ke ns ∈ ns := by
 have hl : 0 < ns.length := Zx6.mpr h
 obtain ⟨i, h1, h2⟩ := Ua (fun i => (ns[i]?).getD 0) (ns.length - 1)
 unfold Ke
 rw [h2]
 have hi : i < ns.length := by omega
 simp only [Zzr hi, Option.getD_some]
 exact Zw8 hi
theorem Rp {ns : List Int} {x : Int} (h : x ∈ ns) : x <= Ke ns := by
 obtain ⟨i, hi, e⟩ := Zy5.mp h
 have := Wc (fun i => (ns[i]?).getD 0) (ns.length - 1) i (by omega)
 simp only [Zzr hi, Option.getD_some, e] at this
 exact this
theorem fj {ns : List Int} {m : Int} (h1 : m ∈ ns) (h2 : ∀ x ∈ ns, x <= m) : Ke ns = m := by
 have a := Rp h1
 have b := h2 _ (G3 (List.ne_nil_of_mem h1))
 omega
theorem Y7 (a d : Value) : argsOk "max" ⟨[a], [(Str.ofString "default", d)]⟩ := by unfold argsOk; kernel_rfl
section
variable {X : Cx}
theorem Tq {pins : List (Addr × Obj)} {σ : St} {H : Hp} {s : Shared} {a : Addr} {ns : List Int} {Q : VK} {E : Value -> Shared -> Prop} {kw : List (Str × Value)} (hc : X.calm = true) (I : Inv X pins σ H s) (ha : H a = some (.lst (ns.map V.int))) (hn : ns ≠ []) (q : Q (.int (Ke ns)) H) :
  codeAny (model X.prog X.w) X.A (.builtin "max.loop" ⟨[.ref s.heap.objs.size, .none, .ref (s.heap.objs.size + 1)], kw⟩) (fun r s' => match r with | .ok (.ret v) => EP X pins σ Q v s' | .ok _ => False | .error e => E e s')
   { s with heap := (s.heap.push { cls := .type "list_iterator", data := .fields #[.ref a, .int 0 0] }).push { cls := .type "list", data := .seq #[] } } := by
 obtain ⟨its, rv, hl, hlt⟩ := Aw I ha
 have hlen : its.length = ns.length := by have := rv.length; rw [Zzz] at this; exact this.symm
 have sz : (s.heap.push { cls := .type "list_iterator", data := .fields #[.ref a, .int 0 0] }).objs.size = s.heap.objs.size + 1 := Zy4 ..
 have gI : ((s.heap.push { cls := .type "list_iterator", data := .fields #[.ref a, .int 0 0] }).push { cls := .type "list", data := .seq #[] }).get? s.heap.objs.size = some { cls := .type "list_iterator", data := .fields #[.ref a, .int 0 0] } := Zzy _ (Zzf _ rfl)
 have gS : ((s.heap.push { cls := .type "list_iterator", data := .fields #[.ref a, .int 0 0] }).push { cls := .type "list", data := .seq #[] }).get? (s.heap.objs.size + 1) = some { cls := .type "list", data := .seq #[] } := by
  have := Zzf (s.heap.push { cls := .type "list_iterator", data := .fields #[.ref a, .int 0 0] }) (o := { cls := .type "list", data := .seq #[] }) rfl
  rw [sz] at this
  exact this
 have hpos : 0 < its.toArray.size := by rw [Zzp, hlen]; exact Zx6.mpr hn
 have nS : (s.heap.objs.size + 1 : Addr) ∉ [s.heap.objs.size, a] := by
  simp only [Zzk, Zz8, or_false, not_or]
  exact ⟨Zw9 _, Zxx (Zxf hlt)⟩
 refine Np kw (Walks.list (prog := X.prog) (w := X.w) (A := X.A.in1) (I.ok.hd hc) s.heap.objs.size a (Zz0 hlt) its.toArray) (fun i => (ns[i]?).getD 0) (fun i v hP => Sf rv (by simpa using hP)) (s.heap.objs.size + 1) nS hpos ⟨⟨_, gI, rfl, rfl⟩, (hl.push _).push _⟩ gS fun t' h' tk hk => ?_
 rw [Zzp, hlen]
 refine ⟨.int (Ke ns), H, I.kept fun b o e => hk b o ?_ ?_ (Zzy _ (Zzy _ e)), ⟨_, rfl⟩, q⟩
 ·simp only [Zzk, Zz8, or_false]
  exact Zz0 (Zzj e)
 ·exact Zz0 (Zxf (Zzj e))
def rMaxL : List V -> Hp -> VK -> Prop := fun vs H Q => ∃ a ns, vs = [.ref a] /\ H a = some (.lst (ns.map V.int)) /\ ns ≠ [] /\ Q (.int (Ke ns)) H
theorem Y2 (hc : X.calm = true) : CallR X (.builtin "max") rMaxL := by
 intro pins s σ H xs us Q I r h
 obtain ⟨a, ns, rfl, ha, hn, q⟩ := h
 obtain ⟨u, rfl, ru⟩ := Gh r
 cases ru
 obtain ⟨its, rv, hl, hlt⟩ := Aw I ha
 have nm : (toString "max" ++ toString ".loop" : String) = "max.loop" := by decide
 have sz : (s.heap.push { cls := .type "list_iterator", data := .fields #[.ref a, .int 0 0] }).objs.size = s.heap.objs.size + 1 := Zy4 ..
 refine call_function_tree F.kind_max F.plain_max F.entry_max (F.args_max1 _) ?_
 refine wpAny_bind (m := Zy3 "max" ["key", "default"] 0 ⟨[], []⟩) (wpAny_of_eq (show Zy3 "max" ["key", "default"] 0 ⟨[], []⟩ = pure [none, none] from rfl) (wpAny_bind (wpAny_pure (wpAny_bind (wpAny_pyIter_list hl (wpAny_bind (wpAny_newObj_type ?_)))))))
 rw [nm]
 refine wpAny_pure ⟨plainId_quiet F.plain_max_loop _, ?_⟩
 have := Tq (E := X.xe) (kw := []) hc I ha hn q
 rw [<- sz] at this
 exact this
def ii (te : TE) : TE := fun σ H Q => te σ H fun x H1 => ∃ a ns, x = .ref a /\ H1 a = some (.lst (ns.map V.int)) /\ Q (.int (Cz ns)) H1
theorem Vs {e : Expr} {te : TE} {p1 p2 p3 kp : Pos} {j} (hc : X.calm = true) (hg : Gl X "max") (hm : X.mg "max" = none) (he : PE X e te) (hn : Bu [e] = true := by rfl) :
  PE X (.Call (.Name "max" p1) [e] [⟨some "default", .Constant (.int 0) j p3, kp⟩] p2) (ii te) := by
 intro pins s σ H Q I h
 refine wpAny_Call_Name_kw (E9 I hg hm NP.Le ?_ (by decide) (by decide))
 refine callWith_kw (thn ((A4 he A1 hn) p2 pins s σ H (fun vs H1 => match vs with | [x] => ∃ a ns, x = .ref a /\ H1 a = some (.lst (ns.map V.int)) /\ Q (.int (Cz ns)) H1 | _ => False) I h) fun us s1 ⟨vs, H1, I1, r1, hv⟩ => kws_cons (wpAny_Constant_int (kws_nil ?_))) ?_ ?_ rfl rfl
 ·match vs, hv, r1 with
  | [x], ⟨a, ns, ea, ha, q⟩, r1 =>
  subst ea
  obtain ⟨u, rfl, ru⟩ := Gh r1
  cases ru
  have I2 := I1.tok (s1.toks + 1)
  obtain ⟨its, rv, hl, hlt⟩ := Aw I2 ha
  have nm : (toString "max" ++ toString ".loop" : String) = "max.loop" := by decide
  have sz : (s1.heap.push { cls := .type "list_iterator", data := .fields #[.ref a, .int 0 0] }).objs.size = s1.heap.objs.size + 1 := Zy4 ..
  refine kmk_tree F.kind_max F.plain_max F.entry_max (Y7 _ _) ?_
  refine wpAny_bind (m := Zy3 "max" ["key", "default"] 0 ⟨[], [(Str.ofString "default", .int 0 s1.toks)]⟩) (wpAny_of_eq (show Zy3 "max" ["key", "default"] 0 ⟨[], [(Str.ofString "default", .int 0 s1.toks)]⟩ = pure [none, some (.int 0 s1.toks)] from rfl) (wpAny_bind (wpAny_pure (wpAny_bind (wpAny_pyIter_list hl (wpAny_bind (wpAny_newObj_type ?_)))))))
  rw [nm]
  refine wpAny_pure ⟨plainId_quiet F.plain_max_loop _, ?_⟩
  by_cases hz : ns = []
  ·subst hz
   have gI : ((s1.heap.push { cls := .type "list_iterator", data := .fields #[.ref a, .int 0 0] }).push { cls := .type "list", data := .seq #[] }).get? s1.heap.objs.size = some { cls := .type "list_iterator", data := .fields #[.ref a, .int 0 0] } := Zzy _ (Zzf _ rfl)
   have gS : ((s1.heap.push { cls := .type "list_iterator", data := .fields #[.ref a, .int 0 0] }).push { cls := .type "list", data := .seq #[] }).get? (s1.heap.push { cls := .type "list_iterator", data := .fields #[.ref a, .int 0 0] }).objs.size = some { cls := .type "list", data := .seq #[] } := Zzf _ rfl
   have e0 : its = [] := by cases rv; rfl
   subst e0
   have nS : (s1.heap.push { cls := .type "list_iterator", data := .fields #[.ref a, .int 0 0] }).objs.size ∉ [s1.heap.objs.size, a] := by
    rw [sz]
    simp only [Zzk, Zz8, or_false, not_or]
    exact ⟨Zw9 _, Zxx (Zxf hlt)⟩
   refine Xc (Walks.list (prog := X.prog) (w := X.w) (A := X.A.in1) (I.ok.hd hc) s1.heap.objs.size a (Zz0 hlt) ([] : List Value).toArray) _ nS ⟨⟨_, gI, rfl, rfl⟩, (hl.push _).push _⟩ gS fun h' tk hk => ?_
   refine ⟨.int 0, H1, I1.kept fun b o e => hk b o ?_ ?_ (Zzy _ (Zzy _ e)), ⟨_, rfl⟩, q⟩
   ·simp only [Zzk, Zz8, or_false]
    exact Zz0 (Zzj e)
   ·rw [sz]
    exact Zz0 (Zxf (Zzj e))
  ·have q' : Q (.int (Ke ns)) H1 := by unfold Cz at q; rw [if_neg hz] at q; exact q
   have := Tq (E := X.xe) (kw := [("default", .int 0 s1.toks)]) hc I2 ha hz q'
   rw [<- sz] at this
   exact this
 ·rw [Bs hn]; rfl
 ·exact C4 hn
end
section
variable {X : Cx}
def rGetL : V -> V -> Hp -> VK -> Prop := fun o i H Q => ∃ p xs k v, o = .ref p /\ i = .int k /\ H p = some (.lst xs) /\ 0 <= k /\ xs[k.toNat]? = some v /\ Q v H
theorem W5 : qz X rGetL := by
 intro pins s σ H o i ov iv Q I ro ri h
 obtain ⟨p, xs, k, v, rfl, rfl, hp, h0, hv, q⟩ := h
 cases ro
 obtain ⟨t, rfl⟩ := ri
 obtain ⟨its, rv, hl, hlt⟩ := Aw I hp
 obtain ⟨u, hu, ru⟩ := rv.get hv
 have hlen := rv.length
 obtain ⟨hz, _⟩ := I.hok p _ hp
 have hk : k.toNat < xs.length := (Zzl.mp hv).1
 have h63 := Ij
 exact wpAny_getItem_list hl h0 (by omega) (by simpa using hu) ⟨v, H, I, ru, q⟩
end
end L2
namespace NP
open PySem L2
def At (n : Nat) (f : Nat -> Int) : List Int := (Zyr n).map f
theorem Ar (n : Nat) (f : Nat -> Int) : (At n f).length = n := by simp [At]
theorem C3 {n : Nat} {f : Nat -> Int} {i : Nat} (h : i < n) : (At n f)[i]? = some (f i) := by simp [At, h]
theorem Bg {n : Nat} {f : Nat -> Int} {i : Nat} (h : i < n) : (At n f).getD i 0 = f i := by rw [Zza, C3 h]; rfl
theorem D2 {n : Nat} {f g : Nat -> Int} (h : ∀ i, i < n -> f i = g i) : At n f = At n g := by
 apply Zxu
 intro i
 by_cases hi : i < n
 ·rw [C3 hi, C3 hi, h i hi]
 ·rw [Zyt (by rw [Ar]; omega), Zyt (by rw [Ar]; omega)]
theorem Kx {n : Nat} {f : Nat -> Int} {j : Nat} {v : Int} : (At n f).set j v = At n fun d => if d = j then v else f d := by
 apply Zxu
 intro i
 by_cases hi : i < n
 ·rw [C3 hi]
  by_cases hj : j = i
  ·subst hj
   rw [Zx2 (by rw [Ar]; exact hi), if_pos rfl]
  ·rw [Zy1 hj, C3 hi, if_neg (fun e => hj e.symm)]
 ·rw [Zyt (by rw [List.length_set, Ar]; omega), Zyt (by rw [Ar]; omega)]
theorem Jf (n : Nat) (f : Nat -> Int) : At (n + 1) f = At n f ++ [f n] := by
 unfold At
 rw [List.range_succ, Zzg]
 rfl
theorem Mw (k : Nat) : (Zyw k [V.int 0]).flatten = (At k fun _ => 0).map V.int := by
 induction k with
 | zero => rfl
 | succ k ih =>
  rw [List.replicate_succ', List.flatten_append, ih, Jf, Zzg]
  rfl
def Bf {α : Type} (f : α -> Int) (xs : List α) : Int := (xs.map f).sum
theorem Jq {α : Type} (f : α -> Int) : Bf f [] = 0 := rfl
theorem Ss {α : Type} (f : α -> Int) (xs ys : List α) : Bf f (xs ++ ys) = Bf f xs + Bf f ys := by unfold Bf; rw [Zzg, List.sum_append]
theorem Sr {α : Type} (f : α -> Int) (x : α) : Bf f [x] = f x := by simp [Bf]
theorem Cr {α : Type} (f : α -> Int) (x : α) (xs : List α) : Bf f (x :: xs) = f x + Bf f xs := by simp [Bf]
theorem Ed {α : Type} (f : α -> Int) {xs : List α} {i : Nat} {x : α} (h : xs[i]? = some x) : Bf f (xs.take (i + 1)) = Bf f (xs.take i) + f x := by
 rw [Zz3, h, Ss]
 rw [show (some x).toList = [x] from rfl, Sr]
theorem Ec {α : Type} {f : α -> Int} {xs : List α} (h : ∀ x ∈ xs, f x = 0) : Bf f xs = 0 := by
 induction xs with
 | nil => rfl
 | cons x r ih => rw [Cr, h x Zzb, ih fun y hy => h y (Zze _ hy)]; rfl
theorem Du {α : Type} {f g : α -> Int} {xs : List α} (h : ∀ x ∈ xs, f x = g x) : Bf f xs = Bf g xs := by
 induction xs with
 | nil => rfl
 | cons x r ih => rw [Cr, Cr, h x Zzb, ih fun y hy => h y (Zze _ hy)]
def daysN (S : Sh) : Nat := (1 + Cz (S.wants.map fun u => u.2.1)).toNat
theorem Hh {ns : List Int} (h : ∀ x ∈ ns, 0 <= x) : 0 <= Cz ns := by
 unfold Cz
 split
 ·exact Zz6 _
 ·rename_i hn
  exact h _ (G3 hn)
theorem Iv {ns : List Int} {x : Int} (h : x ∈ ns) : x <= Cz ns := by
 unfold Cz
 rw [if_neg (List.ne_nil_of_mem h)]
 exact Rp h
theorem Rq {ns : List Int} {b : Int} (hb : 0 < b) (h : ∀ x ∈ ns, x < b) : Cz ns < b := by
 unfold Cz
 split
 ·exact hb
 ·rename_i hn
  exact h _ (G3 hn)
theorem Xe (ns : List Int) (h : ∀ x ∈ ns, 0 <= x) : Ke (0 :: ns) = Cz ns := by
 refine fj ?_ (fun x hx => ?_)
 ·unfold Cz
  split
  ·exact Zzb
  ·rename_i hn
   exact Zze _ (G3 hn)
 ·rcases Zzk.mp hx with e | m
  ·rw [e]; exact Hh h
  ·exact Iv m
def wAt (nm : Str) (d : Nat) (u : Wt) : Int := if u.1 = nm /\ u.2.1 = (d : Int) then u.2.2 else 0
def cAt (d : Nat) (p : Int × Int) : Int := if p.1 = (d : Int) then p.2 else 0
def bAt (lots : List Int) (lag : Int) (d : Nat) : Int := if d + lag.toNat < lots.length then lots.getD (d + lag.toNat) 0 else 0
def Dr (lots : List Int) (lag : Int) : List Int := At lots.length (bAt lots lag)
theorem bb (lots : List Int) (lag : Int) : lots.drop lag.toNat ++ At (min lag.toNat lots.length) (fun _ => 0) = Dr lots lag := by
 unfold Dr bAt
 apply Zxu
 intro i
 by_cases hi : i < lots.length
 ·rw [C3 hi]
  by_cases h : i + lag.toNat < lots.length
  ·rw [if_pos h, Zyo (by rw [Zye]; omega), Zwp, Nat.add_comm lag.toNat i, Zzr h, Zza, Zzr h]
   rfl
  ·rw [if_neg h, Zyf (by rw [Zye]; omega), Zye, C3 (by omega)]
 ·rw [Zyt (by rw [Zyv, Zye, Ar]; omega), Zyt (by rw [Ar]; omega)]
def pAt (plan : Str -> List Int) (nm : Str) (d : Nat) (w : Wr) : Int := Bf (fun p : Str × Int => if p.1 = nm then p.2 * bAt (plan w.name) w.lag d else 0) w.parts
def Ba (S : Sh) (plan : Str -> List Int) (nm : Str) (d : Nat) : Int := Bf (wAt nm d) S.wants + Bf (pAt plan nm d) S.wares
def Ao (S : Sh) (plan : Str -> List Int) (nm : Str) : List Int := At (daysN S) (Ba S plan nm)
def Bh (w : Wr) (d : Nat) : Int := (if d = 0 then w.stock else 0) + Bf (cAt d) w.coming
def Ph (S : Sh) (plan : Str -> List Int) (w : Wr) (d : Nat) : Int := Bh w d + w.gives * (plan w.name).getD d 0 - Ba S plan w.name d
def upS (f : Nat -> Int) : Nat -> Int
 | 0 => 0
 | d + 1 => upS f d + f d
def E6 (S : Sh) (plan : Str -> List Int) (w : Wr) : List Int := At (daysN S) fun d => upS (Ph S plan w) (d + 1)
end NP
namespace L2
open PySem PySem.Spec PyProof.Rows
def ItI (a : Addr) (o : Obj) (kvs : List (Key × V)) : It := ⟨fun i H => H a = some (.frz o (.dK kvs)) /\ i < kvs.length, fun i H x H' => ∃ p k v, x = .ref p /\ H p = none /\ kvs[i]? = some (k, v) /\ H' = upd H p (.tup [kV k, v]), fun i H => H a = some (.frz o (.dK kvs)) /\ kvs.length <= i⟩
theorem iz {κ : Type} : ∀ {kvs : List (κ × V)} {vs : List (κ × Value)} {i : Nat} {k : κ} {v : V}, KV kvs vs -> kvs[i]? = some (k, v) -> ∃ u, vs[i]? = some (k, u) /\ RelV v u
 | _, _, _, _, _, .nil, e => by simp at e
 | _, (k', u') :: _, 0, k, v, .cons r _, e => by
  simp at e
  subst e
  exact ⟨u', by simp; exact r.1.symm, r.2⟩
 | _, _ :: _, i + 1, k, v, .cons _ t, e => by
  obtain ⟨u, h, q⟩ := iz (i := i) t (by simpa using e)
  exact ⟨u, by simpa using h, q⟩
section
variable {X : Cx}
def iItm (te : TE) : TI := fun σ H R => te σ H fun x H1 => ∃ a kvs, x = .ref a /\ H1 a = some (.dK kvs) /\ ∀ o, R (ItI a o kvs) (upd H1 a (.frz o (.dK kvs)))
def jf (H : Hp) (ka kb : List (Key × V)) : Prop := ∀ p ∈ ka, ∃ y d e, C5 kb p.1 = some y /\ RD H d p.2 /\ RD H e y /\ okD d = true /\ okD e = true /\ PyData.eqv d e = true
def rEqK : R2 := fun x y H Q => ∃ a b ka kb, x = .ref a /\ y = .ref b /\ Rd H a (.dK ka) /\ Rd H b (.dK kb) /\ ka.length = kb.length /\ jf H ka kb /\ Q (.bl true) H
def rNeK : R2 := fun x y H Q => ∃ a b ka kb, x = .ref a /\ y = .ref b /\ Rd H a (.dK ka) /\ Rd H b (.dK kb) /\ ka.length = kb.length /\ jf H ka kb /\ Q (.bl false) H
end
end L2
namespace L2
open PySem PySem.Spec PyProof.Rows PySem.W NP
def Ds (n : Nat) (key : Nat -> Int) {α : Type} : KasT α -> (α -> Prop) -> Prop
 | .ret a, Q => Q a
 | .ask i j k, Q => i < n /\ j < n /\ Ds n key (k (decide (key i < key j))) Q
theorem Ep {n : Nat} {key : Nat -> Int} {α β : Type} {f : α -> KasT β} {Q : β -> Prop} : ∀ {t : KasT α}, Ds n key t (fun a => Ds n key (f a) Q) -> Ds n key (t.bind f) Q
 | .ret _, h => h
 | .ask _ _ _, ⟨h1, h2, h3⟩ => ⟨h1, h2, Ep h3⟩
theorem Dw {n : Nat} {key : Nat -> Int} {α : Type} {Q Q' : α -> Prop} (hq : ∀ a, Q a -> Q' a) : ∀ {t : KasT α}, Ds n key t Q -> Ds n key t Q'
 | .ret _, h => hq _ h
 | .ask _ _ _, ⟨h1, h2, h3⟩ => ⟨h1, h2, Dw hq h3⟩
def klt (key : Nat -> Int) (a b : Nat) : Prop := key a < key b \/ (key a = key b /\ a < b)
theorem Xi {key : Nat -> Int} {a b c : Nat} (h1 : klt key a b) (h2 : klt key b c) : klt key a c := by unfold klt at *; omega
theorem Rt {key : Nat -> Int} {a b : Nat} (h : klt key a b) : key a <= key b := by unfold klt at h; omega
section
variable {n : Nat} {key : Nat -> Int}
abbrev pat (p : Array Nat) (k : Nat) : Nat := p.getD k 0
theorem Ra {p : Array Nat} {i j : Nat} (hj : j <= p.size) (k : Nat) : pat (kas_rev p i j) k = if i <= k /\ k < j then pat p (i + j - 1 - k) else pat p k := by
 have e := getElem?_mirror_all (i := i) hj k
 unfold pat kas_rev
 rw [Zys, e]
 by_cases h1 : i <= k /\ k < j
 ·rw [if_pos h1, if_pos h1, Zys]
 ·rw [if_neg h1, if_neg h1, Zys]
theorem e8 {p : Array Nat} {src d : Nat} (hs : src < p.size) (hd : d <= src) (k : Nat) : pat (bubble p src d) k = if k = src - d then pat p src else if src - d < k /\ k <= src then pat p (k - 1) else pat p k := by
 have e := getElem?_bubble hs d hd k
 unfold pat
 rw [Zys, e]
 by_cases h1 : k = src - d
 ·rw [if_pos h1, if_pos h1, Zys]
 ·rw [if_neg h1, if_neg h1]
  by_cases h2 : src - d < k /\ k <= src
  ·rw [if_pos h2, if_pos h2, Zys]
  ·rw [if_neg h2, if_neg h2, Zys]
theorem Mu (p : Array Nat) (i j : Nat) : (kas_rev p i j).size = p.size := mirror_size _ _ _ _
theorem Mv (p : Array Nat) (i j : Nat) : (kas_rev p i j).toList.Perm p.toList := Array.perm_iff_toList_perm.mp (mirror_perm _ _ _ _)
structure Srt (n : Nat) (key : Nat -> Int) (p : Array Nat) (m : Nat) : Prop where
 sz : p.size = n
 pm : p.toList.Perm (Zyr n)
 up : ∀ i j, i < j -> j < m -> klt key (pat p i) (pat p j)
 fix : ∀ k, m <= k -> k < n -> pat p k = k
 low : ∀ k, k < m -> pat p k < m
theorem Srt.lt {p : Array Nat} {m : Nat} (h : Srt n key p m) {k : Nat} (hm : m <= n) (hk : k < n) : pat p k < n := by
 by_cases z : k < m
 ·have := h.low k z; omega
 ·rw [h.fix k (by omega) hk]; exact hk
theorem Va : ∀ (f : Nat) {p : Array Nat} {m : Nat}, Srt n key p m -> 1 <= m -> m + f = n -> Ds n key (kas_asc p f m) fun m' => m <= m' /\ m' <= n /\ Srt n key p m' /\ (m' < n -> key (pat p m') < key (pat p (m' - 1)))
 | 0, p, m, h, h1, h2 => ⟨Zzt _, by omega, h, fun z => by omega⟩
 | f + 1, p, m, h, h1, h2 => by
  refine ⟨h.lt (by omega) (by omega), h.lt (by omega) (by omega), ?_⟩
  show Ds n key (if decide (key (pat p m) < key (pat p (m - 1))) = true then _ else _) _
  by_cases c : key (pat p m) < key (pat p (m - 1))
  ·rw [decide_eq_true c, if_pos rfl]
   exact ⟨Zzt _, by omega, h, fun _ => c⟩
  ·rw [decide_eq_false c, if_neg (by decide)]
   have e := h.fix m (Zzt _) (by omega)
   have h' : Srt n key p (m + 1) := ⟨h.sz, h.pm, fun i j hij hj => by
     by_cases z : j < m
     ·exact h.up i j hij z
     ·have ej : j = m := by omega
      subst ej
      have l1 : klt key (pat p (j - 1)) (pat p j) := by
       have := h.low (j - 1) (by omega)
       unfold klt
       rw [e] at c ⊢
       omega
      by_cases y : i = j - 1
      ·rw [y]; exact l1
      ·exact Xi (h.up i (j - 1) (by omega) (by omega)) l1, fun k hk hkn => h.fix k (by omega) hkn, fun k hk => by
     by_cases z : k < m
     ·have := h.low k z; omega
     ·have ek : k = m := by omega
      rw [ek, e]; omega⟩
   exact Dw (fun a ⟨a1, a2, a3, a4⟩ => ⟨by omega, a2, a3, a4⟩) (Va f h' (by omega) (by omega))
structure Fal (n : Nat) (key : Nat -> Int) (p : Array Nat) (m q : Nat) : Prop where
 sz : p.size = n
 pm : p.toList.Perm (Zyr n)
 q1 : q + 1 <= m
 m1 : m <= n
 dn : ∀ i j, i < j -> j < m - (q + 1) -> klt key (pat p j) (pat p i)
 fix : ∀ k, m - (q + 1) <= k -> k < n -> pat p k = k
 low : ∀ k, k < m - (q + 1) -> pat p k < m - (q + 1)
 cr : ∀ i, i < m - (q + 1) -> key (m - 1) < key (pat p i)
 eq : ∀ k, m - (q + 1) <= k -> k < m -> key k = key (m - 1)
structure Dwn (n : Nat) (key : Nat -> Int) (p : Array Nat) (m : Nat) : Prop where
 sz : p.size = n
 pm : p.toList.Perm (Zyr n)
 dn : ∀ i j, i < j -> j < m -> klt key (pat p j) (pat p i)
 fix : ∀ k, m <= k -> k < n -> pat p k = k
 low : ∀ k, k < m -> pat p k < m
 last : ∀ i, i < m -> key (m - 1) <= key (pat p i)
theorem Fal.turn {p : Array Nat} {m q : Nat} (h : Fal n key p m q) : Dwn n key (kas_rev p (m - (q + 1)) m) m := by
 have hm := h.m1
 have h1 := h.q1
 have pr := fun k => Ra (p := p) (i := m - (q + 1)) (j := m) (by rw [h.sz]; exact hm) k
 refine ⟨by rw [Mu, h.sz], (Mv _ _ _).trans h.pm, fun i j hij hj => ?_, fun k hk hkn => ?_, fun k hk => ?_, fun i hi => ?_⟩
 ·have vi1 : m - (q + 1) <= i -> pat (kas_rev p (m - (q + 1)) m) i = m - (q + 1) + m - 1 - i := fun a => by rw [pr i, if_pos ⟨a, by omega⟩]; exact h.fix _ (by omega) (by omega)
  have vi2 : ¬ m - (q + 1) <= i -> pat (kas_rev p (m - (q + 1)) m) i = pat p i := fun a => by rw [pr i, if_neg (fun z => a z.1)]
  have vj1 : m - (q + 1) <= j -> pat (kas_rev p (m - (q + 1)) m) j = m - (q + 1) + m - 1 - j := fun a => by rw [pr j, if_pos ⟨a, hj⟩]; exact h.fix _ (by omega) (by omega)
  have vj2 : ¬ m - (q + 1) <= j -> pat (kas_rev p (m - (q + 1)) m) j = pat p j := fun a => by rw [pr j, if_neg (fun z => a z.1)]
  by_cases a : m - (q + 1) <= i
  ·rw [vi1 a, vj1 (by omega)]
   have e1 := h.eq (m - (q + 1) + m - 1 - i) (by omega) (by omega)
   have e2 := h.eq (m - (q + 1) + m - 1 - j) (by omega) (by omega)
   unfold klt
   omega
  ·rw [vi2 a]
   by_cases b : m - (q + 1) <= j
   ·rw [vj1 b]
    have e2 := h.eq (m - (q + 1) + m - 1 - j) (by omega) (by omega)
    have e3 := h.cr i (by omega)
    unfold klt
    omega
   ·rw [vj2 b]
    exact h.dn i j hij (by omega)
 ·rw [pr k, if_neg (by omega)]
  exact h.fix k (by omega) hkn
 ·rw [pr k]
  split
  ·rw [h.fix _ (by omega) (by omega)]; omega
  ·have := h.low k (by omega); omega
 ·rw [pr i]
  split
  ·rw [h.fix _ (by omega) (by omega)]
   have := h.eq (m - (q + 1) + m - 1 - i) (by omega) (by omega)
   omega
  ·have := h.cr i (by omega); omega
theorem Fal.one {p : Array Nat} {m : Nat} (h : Fal n key p m 0) : Dwn n key p m := by
 have hm := h.m1
 have h1 := h.q1
 have e := h.fix (m - 1) (by omega) (by omega)
 refine ⟨h.sz, h.pm, fun i j hij hj => ?_, fun k hk hkn => h.fix k (by omega) hkn, fun k hk => ?_, fun i hi => ?_⟩
 ·by_cases z : j = m - 1
  ·rw [z, e]
   have := h.cr i (by omega)
   exact .inl this
  ·exact h.dn i j hij (by omega)
 ·by_cases z : k = m - 1
  ·rw [z, e]; omega
  ·have := h.low k (by omega); omega
 ·by_cases z : i = m - 1
  ·rw [z, e]; exact Zz6 _
  ·have := h.cr i (by omega); omega
theorem Dwn.next {p : Array Nat} {m : Nat} (h : Dwn n key p m) (h1 : 1 <= m) (hm : m < n) (c : key m < key (m - 1)) : Fal n key p (m + 1) 0 :=
 ⟨h.sz, h.pm, by omega, by omega, fun i j hij hj => h.dn i j hij (by omega), fun k hk hkn => h.fix k (by omega) hkn, fun k hk => by have := h.low k (by omega); omega, fun i hi => by
  have := h.last i (by omega)
  show key m < _
  omega, fun k hk hk2 => by
  have : k = m := by omega
  subst this
  rfl⟩
theorem Mb : ∀ (f : Nat) {p : Array Nat} {m q : Nat}, Fal n key p m q -> m + f = n -> Ds n key (kas_desc f p m q) fun r => Fal n key r.1 r.2.1 r.2.2
 | 0, p, m, q, h, _ => h
 | f + 1, p, m, q, h, hf => by
  have h1 := h.q1
  have e1 := h.fix m (by omega) (by omega)
  have e2 := h.fix (m - 1) (by omega) (by omega)
  refine ⟨by show pat p m < n; omega, by show pat p (m - 1) < n; omega, ?_⟩
  show Ds n key (if decide (key (pat p m) < key (pat p (m - 1))) = true then _ else _) _
  rw [e1, e2]
  by_cases c : key m < key (m - 1)
  ·rw [decide_eq_true c, if_pos rfl]
   by_cases hq : q > 0
   ·rw [if_pos hq]
    exact Mb f (h.turn.next (by omega) (by omega) c) (by omega)
   ·rw [if_neg hq]
    have q0 : q = 0 := by omega
    subst q0
    exact Mb f (h.one.next (by omega) (by omega) c) (by omega)
  ·rw [decide_eq_false c, if_neg (by decide)]
   refine ⟨by show pat p (m - 1) < n; omega, by show pat p m < n; omega, ?_⟩
   show Ds n key (if decide (key (pat p (m - 1)) < key (pat p m)) = true then _ else _) _
   rw [e1, e2]
   by_cases d : key (m - 1) < key m
   ·rw [decide_eq_true d, if_pos rfl]
    exact h
   ·rw [decide_eq_false d, if_neg (by decide)]
    have ek : key m = key (m - 1) := by omega
    refine Mb f ⟨h.sz, h.pm, by omega, by omega, fun i j hij hj => h.dn i j hij (by omega), fun k hk hkn => h.fix k (by omega) hkn, fun k hk => by have := h.low k (by omega); omega, fun i hi => by have := h.cr i (by omega); show key m < _; omega, fun k hk hk2 => ?_⟩ (by omega)
    show key k = key m
    by_cases z : k = m
    ·rw [z]
    ·rw [ek]; exact h.eq k (by omega) (by omega)
theorem Vh {p : Array Nat} {m : Nat} (h : Dwn n key p m) (h1 : 1 <= m) (hm : m <= n) : Ds n key (kas_tail3 m n p) fun r => 1 <= r.1 /\ r.1 <= n /\ Srt n key r.2 r.1 := by
 have pr := fun k => Ra (p := p) (i := 0) (j := m) (by rw [h.sz]; exact hm) k
 have hs : Srt n key (kas_rev p 0 m) m := by
  refine ⟨by rw [Mu, h.sz], (Mv _ _ _).trans h.pm, fun i j hij hj => ?_, fun k hk hkn => ?_, fun k hk => ?_⟩
  ·rw [pr i, pr j, if_pos ⟨by omega, by omega⟩, if_pos ⟨by omega, by omega⟩]
   exact h.dn _ _ (by omega) (by omega)
  ·rw [pr k, if_neg (by omega)]
   exact h.fix k hk hkn
  ·rw [pr k, if_pos ⟨by omega, hk⟩]
   exact h.low _ (by omega)
 exact Ep (Dw (fun a ⟨a1, a2, a3, _⟩ => ⟨by show 1 <= a; omega, a2, a3⟩) (Va (n - m) hs h1 (by omega)))
theorem Vt {p : Array Nat} {m : Nat} (h : Fal n key p (m + 1) 0) : Ds n key (kas_descPart m n p) fun r => 1 <= r.1 /\ r.1 <= n /\ Srt n key r.2 r.1 := by
 have := h.m1
 refine Ep (Dw (fun r hr => ?_) (Mb (n - (m + 1)) h (by omega)))
 have r1 := hr.q1
 have r2 := hr.m1
 by_cases z : r.2.2 > 0
 ·rw [if_pos z]
  exact Vh hr.turn (by omega) r2
 ·rw [if_neg z]
  have q0 : r.2.2 = 0 := by omega
  rw [q0] at hr
  exact Vh hr.one (by omega) r2
theorem Bi {k : Nat} (h : k < n) : pat (Zyg (Zyr n)) k = k := by
 unfold pat
 rw [Zys]
 simp [h]
theorem ao (h2 : 2 <= n) : Ds n key (kas_count n (Zyg (Zyr n))) fun r => 1 <= r.1 /\ r.1 <= n /\ Srt n key r.2 r.1 := by
 have s0 : Srt n key (Zyg (Zyr n)) 1 := ⟨by simp, by simp, fun i j hij hj => by omega, fun k _ hk => Bi hk, fun k hk => by rw [Bi (by omega)]; exact hk⟩
 refine Ep (Dw (fun m hm => ?_) (Va (n - 1) s0 (Zzt _) (by omega)))
 obtain ⟨a1, a2, a3, a4⟩ := hm
 by_cases z : m = n
 ·rw [if_pos (by rw [z]; simp)]
  exact ⟨a1, a2, a3⟩
 ·rw [if_neg (by simpa using z)]
  have c := a4 (by omega)
  rw [Bi (by omega), Bi (by omega)] at c
  by_cases y : m > 1
  ·rw [if_pos y]
   have g0 : pat (Zyg (Zyr n)) 0 = 0 := Bi (by omega)
   have g1 : pat (Zyg (Zyr n)) (m - 1) = m - 1 := Bi (by omega)
   refine ⟨by show pat (Zyg (Zyr n)) 0 < n; omega, by show pat (Zyg (Zyr n)) (m - 1) < n; omega, ?_⟩
   show Ds n key (if decide (key (pat (Zyg (Zyr n)) 0) < key (pat (Zyg (Zyr n)) (m - 1))) = true then _ else _) _
   rw [g0, g1]
   by_cases d : key 0 < key (m - 1)
   ·rw [decide_eq_true d, if_pos rfl]
    exact ⟨a1, a2, a3⟩
   ·rw [decide_eq_false d, if_neg (by decide)]
    have up : ∀ i, i < m -> key 0 <= key i /\ key i <= key (m - 1) := fun i hi => by
     constructor
     ·by_cases w : i = 0
      ·rw [w]; exact Zz6 _
      ·have := Rt (a3.up 0 i (by omega) hi)
       rw [Bi (by omega), Bi (by omega)] at this
       exact this
     ·by_cases w : i = m - 1
      ·rw [w]; exact Zz6 _
      ·have := Rt (a3.up i (m - 1) (by omega) (by omega))
       rw [Bi (by omega), Bi (by omega)] at this
       exact this
    have al : ∀ i, i < m -> key i = key (m - 1) := fun i hi => by have := up i hi; omega
    have pr := fun k => Ra (p := Zyg (Zyr n)) (i := 0) (j := m) (by simp; omega) k
    have dw : Dwn n key (kas_rev (Zyg (Zyr n)) 0 m) m := by
     refine ⟨by rw [Mu]; simp, (Mv _ _ _).trans (by simp), fun i j hij hj => ?_, fun k hk hkn => ?_, fun k hk => ?_, fun i hi => ?_⟩
     ·rw [pr i, pr j, if_pos ⟨by omega, by omega⟩, if_pos ⟨by omega, by omega⟩, Bi (by omega), Bi (by omega)]
      have e1 := al (0 + m - 1 - i) (by omega)
      have e2 := al (0 + m - 1 - j) (by omega)
      unfold klt
      omega
     ·rw [pr k, if_neg (by omega), Bi hkn]
     ·rw [pr k, if_pos ⟨by omega, hk⟩, Bi (by omega)]; omega
     ·rw [pr i, if_pos ⟨by omega, hi⟩, Bi (by omega)]
      have := al (0 + m - 1 - i) (by omega)
      omega
    exact Vt (dw.next (by omega) (by omega) c)
  ·rw [if_neg y]
   have m1 : m = 1 := by omega
   subst m1
   have dw : Dwn n key (Zyg (Zyr n)) 1 := ⟨by simp, by simp, fun i j hij hj => by omega, fun k _ hk => Bi hk, fun k hk => by rw [Bi (by omega)]; exact hk, fun i hi => by
    rw [Bi (by omega)]
    have : i = 0 := by omega
    rw [this]
    exact Zz6 _⟩
   exact Vt (dw.next (by omega) (by omega) c)
theorem Mz {p : Array Nat} {k : Nat} (h : Srt n key p k) (hk : k < n) : ∀ (f l r : Nat), l <= r -> r <= k -> r - l <= f -> (∀ i, i < l -> key (pat p i) <= key k) -> (∀ i, r <= i -> i < k -> key k < key (pat p i)) -> Ds n key (kas_place p k f l r) fun l' => l' <= k /\ (∀ i, i < l' -> key (pat p i) <= key k) /\ ∀ i, l' <= i -> i < k -> key k < key (pat p i)
 | 0, l, r, h1, h2, h3, h4, h5 => ⟨by omega, h4, fun i hi => h5 i (by omega)⟩
 | f + 1, l, r, h1, h2, h3, h4, h5 => by
  show Ds n key (if l ≥ r then _ else _) _
  by_cases z : l ≥ r
  ·rw [if_pos z]
   exact ⟨by omega, h4, fun i hi => h5 i (by omega)⟩
  ·rw [if_neg z]
   have e := h.fix k (Zzt _) hk
   refine ⟨by show pat p k < n; omega, by have := h.low ((l + r) / 2) (by omega); show pat p ((l + r) / 2) < n; omega, ?_⟩
   show Ds n key (if decide (key (pat p k) < key (pat p ((l + r) / 2))) = true then _ else _) _
   rw [e]
   have mono : ∀ i j, i <= j -> j < k -> key (pat p i) <= key (pat p j) := fun i j hij hj => by
    by_cases y : i = j
    ·rw [y]; exact Zz6 _
    ·exact Rt (h.up i j (by omega) hj)
   by_cases c : key k < key (pat p ((l + r) / 2))
   ·rw [decide_eq_true c, if_pos rfl]
    exact Mz h hk f l ((l + r) / 2) (by omega) (by omega) (by omega) h4 fun i hi hik => by have := mono _ i hi hik; omega
   ·rw [decide_eq_false c, if_neg (by decide)]
    exact Mz h hk f ((l + r) / 2 + 1) r (by omega) h2 (by omega) (fun i hi => by have := mono i ((l + r) / 2) (by omega) (by omega); omega) h5
theorem ba : ∀ (f : Nat) {p : Array Nat} {k : Nat}, Srt n key p k -> k + f = n -> Ds n key (kas_bin f p k) fun p' => Srt n key p' n
 | 0, p, k, h, hf => by
  have : k = n := by omega
  subst this
  exact h
 | f + 1, p, k, h, hf => by
  refine Ep (Dw (fun l hl => ?_) (Mz h (by omega) k 0 k (Zyq _) (Zzt _) (by omega) (fun i hi => by omega) (fun i hi hik => by omega)))
  obtain ⟨l1, l2, l3⟩ := hl
  have hs := h.sz
  have pb := fun i => e8 (p := p) (src := k) (d := k - l) (by omega) (by omega) i
  have ed : k - (k - l) = l := by omega
  rw [ed] at pb
  have ek := h.fix k (Zzt _) (by omega)
  refine ba f ⟨by rw [bubble_size, hs], (Array.perm_iff_toList_perm.mp (bubble_perm _ _ _)).trans h.pm, fun i j hij hj => ?_, fun i hi hin => ?_, fun i hi => ?_⟩ (by omega)
  ·rw [pb i, pb j]
   by_cases a : i = l
   ·rw [if_pos a, if_neg (by omega), if_pos ⟨by omega, by omega⟩, ek]
    have := l3 (j - 1) (by omega) (by omega)
    exact .inl this
   ·rw [if_neg a]
    by_cases b : j = l
    ·rw [if_pos b, if_neg (by omega), ek]
     have h1 := l2 i (by omega)
     have h2 := h.low i (by omega)
     unfold klt
     omega
    ·rw [if_neg b]
     by_cases c : l < i
     ·rw [if_pos ⟨c, by omega⟩, if_pos ⟨by omega, by omega⟩]
      exact h.up (i - 1) (j - 1) (by omega) (by omega)
     ·rw [if_neg (fun z => c z.1)]
      by_cases d : l < j
      ·rw [if_pos ⟨d, by omega⟩]
       exact h.up i (j - 1) (by omega) (by omega)
      ·rw [if_neg (fun z => d z.1)]
       exact h.up i j hij (by omega)
  ·rw [pb i, if_neg (by omega), if_neg (by omega)]
   exact h.fix i (by omega) hin
  ·rw [pb i]
   split
   ·rw [ek]; omega
   ·split
    ·have := h.low (i - 1) (by omega); omega
    ·have := h.low i (by omega); omega
theorem d8 (h2 : 2 <= n) : Ds n key (kas_sort n) fun p => Srt n key p n := by
 refine Ep (Dw (fun r hr => ?_) (ao h2))
 obtain ⟨r1, r2, r3⟩ := hr
 by_cases z : r.1 < n
 ·rw [if_pos z]
  have e : max r.1 1 = r.1 := by omega
  rw [e]
  exact ba _ r3 (by omega)
 ·rw [if_neg z]
  have e : r.1 = n := by omega
  rw [e] at r3
  exact r3
end
theorem Tv {n : Nat} {key : Nat -> Int} {α : Type} {cmp : Nat -> Nat -> (Bool -> Shared -> Prop) -> Shared -> Prop} {Qp : α -> Prop} {Q : α -> Shared -> Prop} {s : Shared} (hc : ∀ i j (C : Bool -> Shared -> Prop), i < n -> j < n -> C (decide (key i < key j)) s -> cmp i j C s) (hq : ∀ a, Qp a -> Q a s) : ∀ {t : KasT α}, Ds n key t Qp -> t.kasWp cmp Q s
 | .ret _, h => hq _ h
 | .ask i j k, ⟨h1, h2, h3⟩ => hc i j _ h1 h2 (Tv hc hq h3)
def Lz (kz : Str -> Int) (xs ys : List Str) : Prop := ys.Perm xs /\ ys.Pairwise fun a b => kz a <= kz b
def Og (kz : Str -> Int) (xs ys : List Str) : Prop := ∃ ps : List Nat, ps.Perm (Zyr xs.length) /\ ys = ps.map (fun i => xs.getD i "") /\ ps.Pairwise (klt fun i => kz (xs.getD i ""))
theorem Mx (xs : List Str) : (Zyr xs.length).map (fun i => xs.getD i "") = xs := by
 apply Zxu
 intro i
 by_cases hi : i < xs.length
 ·rw [Zzv, List.getElem?_range hi, Zzr hi]
  simp [Zza, hi]
 ·rw [Zyt (by simp; omega), Zyt (by omega)]
theorem Py {kz : Str -> Int} {xs ys : List Str} (h : Og kz xs ys) : Lz kz xs ys := by
 obtain ⟨ps, h1, rfl, h2⟩ := h
 refine ⟨?_, ?_⟩
 ·have := h1.map (fun i => xs.getD i "")
  rw [Mx] at this
  exact this
 ·rw [List.pairwise_map]
  exact h2.imp fun {a b} hab => Rt hab
theorem Uk {kz : Str -> Int} {xs ys : List Str} (h : ys.Perm xs) (hl : xs.length < 2) : Og kz xs ys := by
 refine ⟨Zyr xs.length, List.Perm.refl _, ?_, ?_⟩
 ·rw [Mx]
  match xs, hl with
  | [], _ => exact List.perm_nil.mp h
  | [x], _ => exact List.perm_singleton.mp h
 ·rw [Zxc]
  intro i j hi hj hij
  rw [List.length_range] at hi hj
  omega
theorem jp {n : Nat} {key : Nat -> Int} {p : Array Nat} (h : Srt n key p n) : p.toList.Pairwise (klt key) := by
 rw [Zxc]
 intro i j hi hj hij
 rw [Zxo, h.sz] at hi hj
 have := h.up i j hij hj
 unfold pat at this
 rw [Zys, Zys, Zyd (by rw [h.sz]; exact hi), Zyd (by rw [h.sz]; exact hj)] at this
 simpa using this
theorem fg {P : Program} {w : World} {H : Hp} {h : Heap} {a : Addr} {o : HO} (x : ObjOk P w H h a o) : ∃ ob, h.get? a = some ob := by
 cases o with
 | lst xs => obtain ⟨_, _, _, _, e⟩ := x; exact ⟨_, e⟩
 | tup xs => obtain ⟨_, _, _, o, e, _⟩ := x; exact ⟨_, e⟩
 | dK kvs => obtain ⟨_, _, _, _, o, _, _, e, _⟩ := x; exact ⟨_, e⟩
 | dT kvs => obtain ⟨_, _, _, _, o, _, _, e, _⟩ := x; exact ⟨_, e⟩
 | set S n => obtain ⟨o, _, _, _, e, _⟩ := x; exact ⟨_, e⟩
 | ins C dx fs => obtain ⟨_, _, _, e, _⟩ := x; exact ⟨_, e⟩
 | own y => exact x
 | xd fs => obtain ⟨_, ⟨_, _, _, e, _⟩, _⟩ := x; exact ⟨_, e⟩
 | rng lo hi => obtain ⟨_, _, _, e⟩ := x; exact ⟨_, e⟩
 | frz o u => obtain ⟨e, _⟩ := x; exact ⟨_, e⟩
 | tbl ps => exact ⟨_, x⟩
 | met f y => exact ⟨_, x⟩
 | ext φ => obtain ⟨_, e, _⟩ := x; exact e
def Uf (c : Addr) (q : Str) : HO := .ext fun h => h.CodeRec (.ref c) q
theorem au {P : Program} {w : World} {H : Hp} {h : Heap} {c : Addr} {q : Str} (x : h.CodeRec (.ref c) q) : ObjOk P w H h c (Uf c q) := by
 obtain ⟨c', o, vs, t, e, ho, r⟩ := id x
 cases e
 refine ⟨x, ⟨o, ho⟩, fun h1 h2 y k => ?_⟩
 obtain ⟨c2, o2, vs2, t2, e2, g2, r2⟩ := y
 cases e2
 exact ⟨c, o2, vs2, t2, rfl, k _ g2, r2⟩
theorem av {P : Program} {w : World} {H : Hp} {h : Heap} {c : Addr} {q : Str} (ok : HOk P w H h) (e : H c = some (Uf c q)) : h.CodeRec (.ref c) q := (ok c _ e).1
def TblAt (H : Hp) (P : Addr) (pos : Pos) (q : Str) : Prop := H P = some (.tbl #[]) \/ ∃ c, H P = some (.tbl #[rawInt pos.line, rawInt pos.col, .ref c]) /\ H c = some (Uf c q)
theorem TblAt.same {H H' : Hp} {P : Addr} {pos : Pos} {q : Str} (t : TblAt H P pos q) (s : Same H H') : TblAt H' P pos q := t.elim (fun e => .inl (s _ _ e)) (fun ⟨c, e, e2⟩ => .inr ⟨c, s _ _ e, s _ _ e2⟩)
def Ak (mg : Str -> Option Value) (base : Heap) : Prop := ∃ bm ob, mg "__builtins__" = some (.ref bm) /\ bm ≠ builtinsNs /\ bm ≠ mainGlobals /\ base.get? bm = some ob /\ ob.cls = .type "module" /\ ob.dict = some builtinsNs /\ ob.data = .plain
section
variable {X : Cx} {pins : List (Addr × Obj)} {σ : St} {H : Hp} {s : Shared}
theorem Zn {P c : Addr} {params : Arguments} {body : Expr} {scope : Scope} {pos : Pos} {clos : List (Str × Addr)} {Q : Value -> Shared -> Prop}
  (I : Inv X pins σ H s) (hcd : X.env.code = .ref c) (hC : codeHdIn X.K c P = true) (hB : Ak X.mg X.base) (t : TblAt H P pos (X.env.qual ++ "<lambda>")) (hdef : defaultsOf params X.env = ([], [])) (hcl : closureFor scope X.env = pure clos)
  (h : ∀ f c' ctv H' s', Inv X pins σ H' s' -> s'.heap.get? f = some (kla_obj "<lambda>" (X.env.qual ++ "<lambda>") params body scope clos ((X.mg "__name__").getD .none) c' ctv) -> H' f = none -> H' c' = some (Uf c' (X.env.qual ++ "<lambda>")) -> TblAt H' P pos (X.env.qual ++ "<lambda>") -> But P H H' -> Q (.ref f) s') :
  wpAny (model X.prog X.w) X.A (eval (.Lambda params body scope pos) X.env) Q X.xe s := by
 refine kla_eval hdef ?_
 have hHP : ∃ u, H P = some u := t.elim (fun e => ⟨_, e⟩) (fun ⟨c, e, _⟩ => ⟨_, e⟩)
 obtain ⟨u, hu⟩ := hHP
 have neP : ∀ b o, X.base.get? b = some o -> b ≠ P := fun b o e z => by rw [z] at e; rw [(I.bs P o e).2] at hu; cases hu
 have C : CodeHd s.heap c P := codeHd_of_K I.kIn hC
 have hg : s.heap.Ns mainGlobals X.mg := I.ok.mod.glob.keeps I.bk
 have hgP : mainGlobals ≠ P := by obtain ⟨o, es, ep, e, _⟩ := I.ok.mod.glob; exact neP _ _ e
 have hb : s.heap.BuiltinsAt X.mg P := by
  obtain ⟨bm, ob, b1, b2, b3, b4, b5⟩ := hB
  exact ⟨bm, ob, b1, b2, b3, neP _ _ b4, I.bk _ _ b4, b5⟩
 rcases t with e | ⟨c', e, ec⟩
 ·have hP : s.heap.get? P = some (tabObj #[]) := I.hok P _ e
  refine kla_makeFunction (ps := #[]) hcl I.ok.glob hg hcd C hP trivial rfl hgP hb fun c' ctv h' tk hx hge hlt hrec htb => ?_
  have hc0 : H c' = none := I.hok.fresh hge
  have cP : c' ≠ P := fun z => by rw [z, hu] at hc0; cases hc0
  have k : ∀ b o, b ≠ P -> s.heap.get? b = some o -> (h'.push (kla_obj "<lambda>" (X.env.qual ++ "<lambda>") params body scope clos ((X.mg "__name__").getD .none) c' ctv)).get? b = some o := fun b o nb eb => Zzy _ (hx b o nb eb)
  have hsz : s.heap.objs.size <= h'.objs.size := by omega
  have hf : H h'.objs.size = none := I.hok.fresh hsz
  have cf : h'.objs.size ≠ c' := Zxx hlt
  have fP : h'.objs.size ≠ P := fun z => by rw [z, hu] at hf; cases hf
  refine h h'.objs.size c' ctv (upd (upd H P (.tbl #[rawInt pos.line, rawInt pos.col, .ref c'])) c' (Uf c' (X.env.qual ++ "<lambda>"))) _ (I.un (t' := tk) ⟨fun b o eb n _ _ => k b o (fun z => by rw [z, hu] at n; cases n) eb, fun b o eb n _ _ => ⟨o.slots, k b o (fun z => by rw [z, hu] at n; cases n) eb⟩, fun b o eb n _ => ?_, fun b o eb _ => ?_, fun b xs eb => ?_, fun b o u' eb => ?_, fun b ps eb => ?_⟩ fun b v eb => ?_) (Zzf _ rfl) ?_ A0 ?_ ?_
  ·rw [A5 (Zz0 (Zz9 (Zzj eb) hge)), A5 (fun z => by rw [z, hu] at n; cases n)]
   exact n
  ·by_cases z : b = P
   ·rw [z]
    exact ⟨_, Zzy _ htb⟩
   ·exact ⟨o, k b o z eb⟩
  ·rw [A5 (A3 eb hc0), A5 (fun z => by rw [z, e] at eb; cases eb)]
   exact eb
  ·rw [A5 (A3 eb hc0), A5 (fun z => by rw [z, e] at eb; cases eb)]
   exact eb
  ·by_cases z : b = P
   ·subst z
    rw [e] at eb
    cases eb
    exact ⟨#[rawInt pos.line, rawInt pos.col, .ref c'], by rw [A5 (Zzh cP), A0]; simp⟩
   ·exact ⟨#[], by rw [A5 (A3 eb hc0), A5 z, eb]; simp⟩
  ·by_cases z : b = c'
   ·subst z
    rw [A0] at eb
    cases eb
    exact au (hrec.push _)
   ·rw [A5 z] at eb
    by_cases z2 : b = P
    ·subst z2
     rw [A0] at eb
     cases eb
     exact Zzy _ htb
    ·rw [A5 z2] at eb
     refine (I.hok b v eb).stay (fun b' u' hb' q => k b' u' (fun z3 => ?_) q) (fun b' q => ?_) fun b' xs q => ?_
     ·rcases hb' with r | r
      ·exact z2 (r.symm.trans z3)
      ·rw [z3, e] at r; cases r
     ·rw [A5 (A3 q hc0), A5 (fun z3 => by rw [z3, e] at q; cases q)]; exact q
     ·rw [A5 (A3 q hc0), A5 (fun z3 => by rw [z3, e] at q; cases q)]; exact q
  ·rw [A5 cf, A5 fP]
   exact hf
  ·exact .inr ⟨c', by rw [A5 (Zzh cP), A0], A0⟩
  ·exact fun b o nb eb => by rw [A5 (A3 eb hc0), A5 nb]; exact eb
 ·have hP : s.heap.get? P = some (tabObj #[rawInt pos.line, rawInt pos.col, .ref c']) := I.hok P _ e
  refine kla_makeFunctionHit (cv := .ref c') hcl I.ok.glob hg hcd C hP trivial (by simp [codeAmong, rawInt]) hb fun ctv h' tk hk hsz => ?_
  have k : ∀ b o, s.heap.get? b = some o -> (h'.push (kla_obj "<lambda>" (X.env.qual ++ "<lambda>") params body scope clos ((X.mg "__name__").getD .none) c' ctv)).get? b = some o := fun b o eb => Zzy _ (hk b o eb)
  exact h h'.objs.size c' ctv H _ (I.kept (t' := tk) k) (Zzf _ rfl) (I.hok.fresh hsz) ec (.inr ⟨c', e, ec⟩) (But.refl _ _)
end
section
variable {prog : Program} {w : World} {A : Around} {s : Shared}
theorem fo {f c' d cc : Addr} {q nm lv x : Str} {params : Arguments} {scope : Scope} {p1 p2 p3 : Pos} {pm ctv : Value} {k : Int} {t t0 : Tok} {vs : List (Key × Value)}
  (hf : s.heap.get? f = some (kla_obj "<lambda>" q params (.Subscript (.Name lv p1) (.Name nm p2) p3) scope [(lv, cc)] pm c' ctv)) (hrec : s.heap.CodeRec (.ref c') q) (hcell : s.heap.IsCell cc (some (.ref d))) (hd : s.heap.DictOf (Bk prog w) d vs) (hv : valueAt vs (.inr x) = some (.int k t))
  (hroom : A.depth < recursionLimit) (hlim : s.heap.NoLimit) (hsc : scope.kind = .function /\ scope.isCoroutine = false /\ scope.isGenerator = false /\ scope.names.lookup nm = some .local /\ scope.names.lookup lv = some .free /\ ∀ x ∈ scope.names, x.2 ≠ .cell)
  (hbind : bindArgs (kla_fn "<lambda>" q params (.Subscript (.Name lv p1) (.Name nm p2) p3) scope [(lv, cc)] pm (.ref c') ctv) ⟨[.str x t0], []⟩ = pure [(nm, .str x t0)]) (hn1 : (nm == ("__debug__" : Str)) = false := by decide) (hn2 : (lv == ("__debug__" : Str)) = false := by decide) (hn3 : (lv == ("__classdict__" : Str)) = false := by decide) :
  wpAny (model prog w) A (call (.ref f) [.str x t0]) (fun v s' => ∃ h' tk t', s' = { s with heap := h', toks := tk } /\ v = .int k t' /\ ∀ b o, s.heap.get? b = some o -> h'.get? b = some o) (fun _ _ => False) s := by
 obtain ⟨k1, k2, k3, k4, k5, k6⟩ := hsc
 refine wpAny_call (kla_callFunE hroom hf rfl k2 k3 rfl hrec ?_)
 rw [hbind]
 refine wpAny_pure (wpAny_newFunctionEnv k6 (fun y hy => ?_) (fun h₁ hns hsb => ?_) k1)
 ·rw [Zzd.mp hy]
  exact k4
 have hk : ∀ b o, s.heap.get? b = some o -> h₁.get? b = some o := fun b o e => hsb.extBut b o (Zz0 (Zzj e)) (Zzy _ e)
 refine ⟨hlim.fresh _ hsb, kla_codeExpr ?_⟩
 have hd1 : h₁.DictOf (Bk prog w) d vs := by
  obtain ⟨o, es, ep, ho, r⟩ := hd
  exact ⟨o, es, ep, hk _ _ ho, r⟩
 have hc1 : h₁.IsCell cc (some (.ref d)) := by
  obtain ⟨o, ho, r⟩ := hcell
  exact ⟨o, hk _ _ ho, r⟩
 refine wpAny_Subscript_Name (T := "dict") F.slot_dict_getitem.lookup (wpAny_Name (wpAny_loadName_free k1 k5 (c := cc) (by simp [newEnv]) hc1 (wpAny_Name (wpAny_loadName_local k1 k4 hns (v := .str x t0) (by simp) ⟨hd1.typeIs, ?_⟩) hn1) hn3) hn2)
 refine wpAny_getItem_of (knd := Bk prog w) (k := .inr x) ?_ hd1.mapOf hv ?_
 ·exact Qi (k := .inr x) ⟨t0, rfl⟩
 ·exact ⟨_, _, _, rfl, rfl, hk⟩
end
def strV : Value -> Str
 | .str x _ => x
 | _ => ""
theorem Yc {xs : List Str} {us : List Value} (r : Vals (xs.map V.str) us) : us.map strV = xs /\ ∀ u ∈ us, ∃ t, u = .str (strV u) t := by
 induction xs generalizing us with
 | nil => cases r; exact ⟨rfl, fun _ h => nomatch h⟩
 | cons x xs ih =>
  cases r with
  | cons r1 r2 =>
   obtain ⟨t, rfl⟩ := r1
   obtain ⟨e, h⟩ := ih r2
   refine ⟨by rw [Zz7, e]; rfl, fun u hu => ?_⟩
   rcases Zzk.mp hu with z | z
   ·rw [z]; exact ⟨t, rfl⟩
   ·exact h u z
theorem Li : ∀ {us : List Value}, (∀ u ∈ us, ∃ t, u = .str (strV u) t) -> Vals ((us.map strV).map V.str) us
 | [], _ => .nil
 | u :: us, h => by
  obtain ⟨t, e⟩ := h u Zzb
  exact .cons ⟨t, e⟩ (Li fun v hv => h v (Zze _ hv))
theorem Hj : ∀ {vs : List Value} {ns : List Int} {i : Nat} {n : Int}, IntsAre vs ns -> ns[i]? = some n -> ∃ t, vs[i]? = some (.int n t)
 | _, _, i, n, .nil, e => by simp at e
 | _, _, 0, n, .cons k t _, e => by
  have : k = n := by simpa using e
  subst this
  exact ⟨t, rfl⟩
 | _, _, i + 1, n, .cons _ _ r, e => by
  obtain ⟨t, h⟩ := Hj (i := i) r (by simpa using e)
  exact ⟨t, by simpa using h⟩
theorem Vd {kz : Str -> Int} : ∀ {us : List Value} {p : Int × Value}, p ∈ ((us.map strV).map kz).zip us -> p.2 ∈ us /\ p.1 = kz (strV p.2)
 | [], p, h => by simp at h
 | u :: us, p, h => by
  rw [Zz7, Zz7, List.zip_cons_cons] at h
  rcases Zzk.mp h with z | z
  ·rw [z]; exact ⟨Zzb, rfl⟩
  ·obtain ⟨h1, h2⟩ := Vd z
   exact ⟨Zze _ h1, h2⟩
theorem Wv {kz : Str -> Int} {us out : List Value} (h : KskOut false ((us.map strV).map kz) us out) : (∀ u ∈ out, u ∈ us) /\ Lz kz (us.map strV) (out.map strV) := by
 obtain ⟨ps, hp, rfl, hs⟩ := h
 have hz : ∀ p ∈ ps, p.2 ∈ us /\ p.1 = kz (strV p.2) := fun p hm => Vd (hp.mem_iff.mp hm)
 refine ⟨fun u hu => ?_, ?_, ?_⟩
 ·obtain ⟨p, hm, rfl⟩ := Zzx.mp hu
  exact (hz p hm).1
 ·have e : (((us.map strV).map kz).zip us).map (fun p => strV p.2) = us.map strV := by
   have : (((us.map strV).map kz).zip us).map Prod.snd = us := List.map_snd_zip (by simp)
   have h2 := congrArg (Zxq strV) this
   rw [Zyk] at h2
   exact h2
  rw [Zyk, <- e]
  exact hp.map _
 ·rw [Zyk, List.pairwise_map]
  refine hs.imp_of_mem fun {a b} ha hb hab => ?_
  have hab : a.1 <= b.1 := hab
  rw [(hz a ha).2, (hz b hb).2] at hab
  exact hab
section
variable {X : Cx}
def Me (P : Addr) (pos : Pos) (q : Str) (i : Nat) (σ : St) (Q : VK) (x : V) (H1 : Hp) : Prop := ∃ (l : Addr) (xs : List Str) (d : Addr) (kvs : List (Key × V)) (kz : Str -> Int), x = .ref l /\ H1 l = some (.lst (xs.map V.str)) /\ xs.length < 64 /\ σ[i]? = some (some (.ref d)) /\ H1 d = some (.dK kvs) /\
 (∀ x ∈ xs, C5 kvs (.inr x) = some (.int (kz x))) /\ TblAt H1 P pos q /\ ∀ r ys H2, H1 r = none -> H2 r = some (.lst (ys.map V.str)) -> Lz kz xs ys -> Og kz xs ys -> TblAt H2 P pos q -> But P H1 H2 -> Q (.ref r) H2
def Yl (P : Addr) (pos : Pos) (q : Str) (i : Nat) (te : TE) : TE := fun σ H Q => te σ H (Me P pos q i σ Q)
theorem Yy {e : Expr} {te : TE} {p1 p2 kp lp q1 q2 q3 : Pos} {params : Arguments} {scope : Scope} {i k : Nat} {nm lv : Str} {P c : Addr} (hg : Gl X "sorted") (hm : X.mg "sorted" = none) (he : PE X e te) (hr : Room k X.A)
  (hcd : X.env.code = .ref c) (hC : codeHdIn X.K c P = true) (hB : Ak X.mg X.base) (hdef : defaultsOf params X.env = ([], [])) (hN : X.N[i]? = some lv) (hlv : X.env.scope.names.lookup lv = some .cell) (hcl : ∀ cc, X.env.cells.lookup lv = some cc -> closureFor scope X.env = pure [(lv, cc)])
  (hsc : scope.kind = .function /\ scope.isCoroutine = false /\ scope.isGenerator = false /\ scope.names.lookup nm = some .local /\ scope.names.lookup lv = some .free /\ ∀ x ∈ scope.names, x.2 ≠ .cell)
  (hbind : ∀ (cc c' : Addr) (pm ctv v : Value), bindArgs (kla_fn "<lambda>" (X.env.qual ++ "<lambda>") params (.Subscript (.Name lv q1) (.Name nm q2) q3) scope [(lv, cc)] pm (.ref c') ctv) ⟨[v], []⟩ = pure [(nm, v)])
  (hn1 : (nm == ("__debug__" : Str)) = false := by decide) (hn2 : (lv == ("__debug__" : Str)) = false := by decide) (hn3 : (lv == ("__classdict__" : Str)) = false := by decide) (hn : Bu [e] = true := by rfl) :
  PE X (.Call (.Name "sorted" p1) [e] [⟨some "key", .Lambda params (.Subscript (.Name lv q1) (.Name nm q2) q3) scope lp, kp⟩] p2) (Yl P lp (X.env.qual ++ "<lambda>") i te) := by
 intro pins s σ H Q I h
 refine wpAny_Call_Name_kw (E9 I hg hm NP.Y5 ?_ (by decide) (by decide))
 have hx : ∃ cc, X.env.cells.lookup lv = some cc := I.ok.has lv (.inl hlv)
 obtain ⟨cc, hcc⟩ := hx
 refine callWith_kw (thn ((A4 he A1 hn) p2 pins s σ H (fun vs H1 => match vs with | [x] => Me P lp (X.env.qual ++ "<lambda>") i σ Q x H1 | _ => False) I h) fun us s1 ⟨vs, H1, I1, r1, hv⟩ => ?_) ?_ ?_ rfl rfl
 ·match vs, hv, r1 with
  | [x], ⟨l, xs, d, kvs, kz, ex, hl, h64, hσ, hd, hval, tb, q⟩, r1 =>
  subst ex
  obtain ⟨u, rfl, ru⟩ := Gh r1
  cases ru
  refine kws_cons (Zn I1 hcd hC hB tb hdef (hcl cc hcc) fun f c' ctv H' s2 I2 hf Hf hc' tb' bt => kws_nil ?_)
  have hPs : ∃ u, H1 P = some (.tbl u) := tb.elim (fun e => ⟨_, e⟩) (fun ⟨c, e, _⟩ => ⟨_, e⟩)
  obtain ⟨pt, hPt⟩ := hPs
  have hl2 : H' l = some (.lst (xs.map V.str)) := bt _ _ (fun z => by rw [z, hPt] at hl; cases hl) hl
  have hd2 : H' d = some (.dK kvs) := bt _ _ (fun z => by rw [z, hPt] at hd; cases hd) hd
  obtain ⟨its, rv, hil, hlt⟩ := Aw I2 hl2
  obtain ⟨eit, hit⟩ := Yc rv
  obtain ⟨m, F⟩ := I2.fr
  obtain ⟨zd, nd, dv, rel, hdd⟩ := I2.hok d _ hd2
  have hcell : s2.heap.IsCell cc (some (.ref d)) := by
   obtain ⟨m', hn', hl'⟩ := I2.loc
   obtain ⟨u, ru, lk⟩ := hl' i lv (.ref d) hN hσ (.inr (.inl hlv))
   cases ru
   rcases lk with ⟨hk, _⟩ | ⟨_, c2, e2, e3⟩
   ·have hk : X.env.scope.names.lookup lv = some .local := hk
    rw [hlv] at hk; cases hk
   ·rw [hcc] at e2; cases e2; exact e3
  have hrec : s2.heap.CodeRec (.ref c') (X.env.qual ++ "<lambda>") := av I2.hok hc'
  have nL : ∀ b o, s2.heap.get? b = some o -> (∀ es ep, o.data ≠ .dict es ep) -> b ≠ X.env.locals := fun b o e n z => by
   obtain ⟨oL, es, ep, e2, d2, _⟩ := F.ns
   rw [<- z, e] at e2; cases e2; exact n _ _ d2
  have keepA : ∀ (h : Heap) (own : List (Addr × Obj)), Fr X.base X.env.locals h m -> News X.base X.env.locals h (Dt X.base s2.heap X.env.locals ++ own) -> ∀ b o, b ≠ X.env.locals -> s2.heap.get? b = some o -> h.get? b = some o := fun h own F' N' b o nb e => by
   cases z : X.base.get? b with
   | some u =>
    have := I2.bk b u z
    rw [e] at this; cases this
    exact F'.keep b _ z
   | none => exact (N' (b, o) (Zy7 _ (Ls nb z e))).1
  have hil2 : its.length = xs.length := by have := rv.length; rw [Zzz] at this; exact this.symm
  have step : ∀ (v : Value), v ∈ its -> ∀ (h : Heap) (tk : Nat) (own : List (Addr × Obj)), Fr X.base X.env.locals h m -> News X.base X.env.locals h (Dt X.base s2.heap X.env.locals ++ own) ->
    wpAny (model X.prog X.w) X.A.in1.in1 (call (.ref f) [v]) (fun v' s' => ∃ h' tk' t', s' = { s2 with heap := h', toks := tk' } /\ v' = .int (kz (strV v)) t' /\ ∀ b o, h.get? b = some o -> h'.get? b = some o) (fun _ _ => False) { s2 with heap := h, toks := tk } := by
   intro v hvm h tk own F' N'
   obtain ⟨t, ev⟩ := hit v hvm
   have hmem : strV v ∈ xs := by rw [<- eit]; exact Zzx.mpr ⟨v, hvm, rfl⟩
   have kp := keepA h own F' N'
   obtain ⟨w', hw, rw'⟩ := RelO.some_of (v := .int (kz (strV v))) (o := valueAt dv (.inr (strV v))) (by have := rel.val (.inr (strV v)); rw [hval _ hmem] at this; exact this)
   obtain ⟨tk', ew⟩ := rw'
   subst ew
   have dL : d ≠ X.env.locals := fun z => by rw [z, I2.free] at hd2; cases hd2
   have cL : cc ≠ X.env.locals := I2.cne lv cc hcc
   have fL : f ≠ X.env.locals := nL f _ hf (fun es ep z => by cases z)
   have c'L : c' ≠ X.env.locals := fun z => by rw [z, I2.free] at hc'; cases hc'
   have hroom : X.A.depth < recursionLimit := by have := hr.dp; omega
   have hk1 := fo (prog := X.prog) (w := X.w) (A := X.A.in1.in1) (s := { s2 with heap := h, toks := tk }) (nm := nm) (lv := lv) (x := strV v) (k := kz (strV v)) (t := tk') (t0 := t) (vs := dv) (kp f _ fL hf) (by
    obtain ⟨c2, o, vs, t2, e1, e2, r⟩ := hrec
    cases e1
    exact ⟨c', o, vs, t2, rfl, kp _ _ c'L e2, r⟩) (by
    obtain ⟨o, e1, r⟩ := hcell
    exact ⟨o, kp _ _ cL e1, r⟩) (by
    obtain ⟨o, es, ep, e1, r⟩ := hdd
    exact ⟨o, es, ep, kp _ _ dL e1, r⟩) hw hroom (I2.ok.mod.nolimit.keeps F'.keep) hsc (hbind cc c' _ ctv _) hn1 hn2 hn3
   rw [<- ev] at hk1
   exact hk1
  have fin : ∀ (D : Addr) (h' : Heap) (tk : Nat) (out : Array Value) (c : Nat), Fr X.base X.env.locals h' m -> News X.base X.env.locals h' ((D, seqObj "list" out c) :: Dt X.base s2.heap X.env.locals) -> (∀ q ∈ Dt X.base s2.heap X.env.locals, q.1 < D) -> (∀ u ∈ out.toList, u ∈ its) -> Og kz xs (out.toList.map strV) -> EP X pins σ Q (.ref D) { s2 with heap := h', toks := tk } := by
   intro D h' tk out c F' N' hlt2 hsub hstab
   have hsort := Py hstab
   have hD := N' (D, seqObj "list" out c) Zzb
   have N2 : News X.base X.env.locals h' (Dt X.base s2.heap X.env.locals ++ []) := fun p hp => N' p (Zze _ (by rw [Zxz] at hp; exact hp))
   have kp := keepA h' [] F' N2
   have tL : ∀ b u, H' b = some u -> b ≠ X.env.locals := fun b u e z => by rw [z, I2.free] at e; cases e
   have neD : ∀ b o, s2.heap.get? b = some o -> b ≠ D := fun b o e z => by
    by_cases hb : b = X.env.locals
    ·exact hD.2.1 (z.symm.trans hb)
    ·cases y : X.base.get? b with
     | some u => rw [z] at y; rw [hD.2.2] at y; cases y
     | none => exact absurd (hlt2 (b, o) (Ls hb y e)) (by rw [z]; exact Zxg _)
   have HD : H' D = none := by
    cases y : H' D with
    | none => rfl
    | some u =>
     obtain ⟨o, e⟩ := (show ∃ o, s2.heap.get? D = some o from fg (I2.hok D u y))
     exact absurd rfl (neD D o e)
   have vs2 : Vals ((out.toList.map strV).map V.str) out.toList := Li fun u hu => hit u (hsub u hu)
   have hlen : (out.toList.map strV).length = xs.length := hsort.1.length_eq
   have I3 : Inv X pins σ (upd H' D (.lst ((out.toList.map strV).map V.str))) { s2 with heap := h', gens := s2.gens, drawn := s2.drawn, toks := tk } := by
    refine I2.step (g' := s2.gens) (d' := s2.drawn) (ch := []) (fun _ z => nomatch z) (fun b o nb _ _ e _ => kp b o nb e) (fun b o nb _ _ e _ => ⟨o.slots, kp b o nb e⟩) (fun b o _ e n => by rw [A5 (neD b o e)]; exact n) (fun b o _ e => ?_)
     (fun b ys e => by rw [A5 (A3 e HD)]; exact e) (fun b o u e => by rw [A5 (A3 e HD)]; exact e) (fun b ps e => ⟨#[], by rw [A5 (A3 e HD), e]; simp⟩) (fun m' hm' => ?_) (fun b u e => ?_) I2.bare
    ·by_cases hb : b = X.env.locals
     ·obtain ⟨oL, _, _, e2, _⟩ := F'.ns
      exact ⟨oL, by rw [hb]; exact e2⟩
     ·exact ⟨o, kp b o hb e⟩
    ·have em : m' = m := funext fun x => hm'.agree F.ns x
     rw [em]
     exact F'.ns
    ·by_cases hb : b = D
     ·subst hb
      rw [A0] at e
      cases e
      refine ⟨by rw [Zzz, hlen]; exact Ax (by omega), out.toList, c, vs2, ?_⟩
      rw [Array.toArray_toList]
      exact hD.1
     ·rw [A5 hb] at e
      refine (I2.hok b u e).stay (fun b' u' hb' q' => kp b' u' ?_ q') (fun b' q' => by rw [A5 (A3 q' HD)]; exact q') fun b' ys q' => by rw [A5 (A3 q' HD)]; exact q'
      rcases hb' with r | r
      ·rw [r]; exact tL b u e
      ·exact tL b' _ r
   have H1D : H1 D = none := by
    cases y : H1 D with
    | none => rfl
    | some u =>
     have hDP : D ≠ P := fun z => by
      have : H' P = none := by rw [<- z]; exact HD
      rcases tb' with e | ⟨_, e, _⟩ <;> · rw [this] at e; cases e
     rw [bt _ _ hDP y] at HD; cases HD
   exact ⟨.ref D, _, I3, rfl, q D _ _ H1D A0 hsort hstab (tb'.same (A6 HD)) (bt.new HD)⟩
  by_cases h2 : 2 <= its.length
  ·refine kat_sortedK (f := .ref f) (b := false) F Tm hil h2 (by omega) (ksk_s1 _ _) (fun x => ksk_l1 _ _) (fun x => ksk_t1 _ _) fun D kS e1 h' F' N' hDk hlt2 => ?_
   have keys : ∀ (rest ks don : List Value) (e : Nat) (h : Heap) (tk : Nat), its = don ++ rest -> IntsAre ks ((don.map strV).map kz) -> Fr X.base X.env.locals h m -> News X.base X.env.locals h ((kS, seqObj "list" (Zyg ks) e) :: (D, seqObj "list" #[] e1) :: Dt X.base s2.heap X.env.locals) ->
     KatKeys X.prog X.w X.A.in1.in1 X.base X.env.locals m kS (.ref f) (fun ks e s' => wpAny (model X.prog X.w) X.A.in1.in1 (keyKind' (Zyg ks)) (fun κ s'' => (kas_sort its.length).kasWp (kas_ask X.prog X.w X.A.in1.in1 κ (katRev false ks)) (fun p s3 => KatFin X.base X.env.locals m kS D ks e e1 (katRev false (p.toList.map fun i => (katRev false its).getD i Value.none)) (fun s4 => EP X pins σ Q (.ref D) s4) s3) s'') (fun _ _ => False) s') rest ks e { s2 with heap := h, toks := tk } := by
    intro rest
    induction rest with
    | nil =>
     intro ks don e h tk eq hi Fh Nh
     rw [Zxz] at eq
     subst eq
     have hkl : ks.length = its.length := by have := hi.length; rw [Zzz, Zzz] at this; exact this
     show wpAny (model X.prog X.w) X.A.in1.in1 (keyKind' (Zyg ks)) _ _ _
     rw [ksk_kind (keys := Zyg ks) (kz := (its.map strV).map kz) (by simpa using hi) (by simp; omega)]
     refine wpAny_pure ?_
     have kat : ∀ i, i < its.length -> ∃ t, ks.getD i Value.none = .int (kz (strV (its.getD i Value.none))) t := fun i hi2 => by
      have h1 : ((its.map strV).map kz)[i]? = some (kz (strV (its.getD i Value.none))) := by
       rw [Zzv, Zzv, Zzr hi2, Zza, Zzr hi2]; rfl
      obtain ⟨t, ht⟩ := Hj hi h1
      exact ⟨t, by rw [Zza, ht]; rfl⟩
     refine Tv (n := its.length) (key := fun i => kz (strV (its.getD i Value.none))) (Qp := fun p => Srt its.length (fun i => kz (strV (its.getD i Value.none))) p its.length) (fun i j C hi2 hj2 hC => ?_) (fun p hp => ?_) (d8 h2)
     ·obtain ⟨t1, e1'⟩ := kat i hi2
      obtain ⟨t2, e2'⟩ := kat j hj2
      show wpAny _ _ (keyLt' oneType' (ks.getD i Value.none) (ks.getD j Value.none)) C _ _
      rw [e1', e2']
      exact kat_lt_int hC
     ·have nkD : kS ≠ D := Zxx hDk
      have nall : ∀ q ∈ Dt X.base s2.heap X.env.locals, q.1 ≠ kS /\ q.1 ≠ D := fun q hq => by have := hlt2 q hq; exact ⟨Zz0 (Nat.lt_trans this hDk), Zz0 this⟩
      refine KatFin.intro Fh Nh (.head fun q hq => ?_) fun h3 c3 F3 N3 => KasFin.intro F3 N3 (.tail nkD (.head fun q hq => (nall q hq).2)) fun h4 c4 F4 N4 => ?_
      ·rcases Zzk.mp hq with z | z
       ·rw [z]; exact Zzh nkD
       ·exact (nall q z).1
      ·refine fin D h4 tk (Zyg (p.toList.map fun i => its.getD i Value.none)) c4 F4 (fun q hq => N4 q (Zze _ hq)) hlt2 (fun u hu => ?_) ?_
       ·have hu : u ∈ p.toList.map fun i => its.getD i Value.none := by simpa using hu
        obtain ⟨i, hi2, rfl⟩ := Zzx.mp hu
        have hi3 : i < its.length := Zwm.mp (hp.pm.mem_iff.mp hi2)
        rw [Zza, Zzr hi3]
        exact Zw8 hi3
       ·have exs : ∀ i, xs.getD i "" = strV (its.getD i Value.none) := fun i => by
         rw [<- eit, Zza, Zza, Zzv]
         cases its[i]? <;> rfl
        refine ⟨p.toList, by rw [<- hil2]; exact hp.pm, ?_, ?_⟩
        ·rw [Zyk]
         exact Zy9 fun i _ => (exs i).symm
        ·have : (fun i => kz (xs.getD i "")) = fun i => kz (strV (its.getD i Value.none)) := funext fun i => by rw [exs]
         rw [this]
         exact jp hp
    | cons v r ih =>
     intro ks don e h tk eq hi Fh Nh
     have hvm : v ∈ its := by rw [eq]; simp
     have Nh2 : News X.base X.env.locals h (Dt X.base s2.heap X.env.locals ++ [(kS, seqObj "list" (Zyg ks) e), (D, seqObj "list" #[] e1)]) := fun q hq => by
      rcases Zz4.mp hq with z | z
      ·exact Nh q (Zze _ (Zze _ z))
      ·rcases Zzk.mp z with y | y
       ·rw [y]; exact Nh _ Zzb
       ·rw [Zzd.mp y]; exact Nh _ (Zze _ Zzb)
     refine KatKeys.cons (wpAny_mono (step v hvm h tk _ Fh Nh2) (fun v' s' hh => ?_) (fun _ _ z => z))
     obtain ⟨h3, tk3, t3, e1', e2', k3⟩ := hh
     subst e1' e2'
     have nkD : kS ≠ D := Zxx hDk
     refine KatBack.intro (F := Fh.kept k3) (N := Nh.grown k3) (U := .head fun q hq => ?_) fun h4 c4 F4 N4 => ?_
     ·rcases Zzk.mp hq with z | z
      ·rw [z]; exact Zzh nkD
      ·have := hlt2 q z; exact Zz0 (Nat.lt_trans this hDk)
     ·exact ih (ks ++ [.int (kz (strV v)) t3]) (don ++ [v]) c4 h4 tk3 (by rw [eq]; simp) (by rw [Zzg, Zzg]; exact ksk_snoc hi) F4 N4
   exact keys its [] [] 0 h' s2.toks rfl .nil F' N'
  ·refine ksk_sorted (kz := (its.map strV).map kz) (f := .ref f) (b := false) F Tm hil (by simp) (by omega) (ksk_s1 _ _) (fun x => ksk_l1 _ _) (fun x => ksk_t1 _ _) (fun j v kk hv hk h tk own F' N' => ?_) (fun D h' tk out c F' N' hlt2 hout => ?_)
   ·have ek : kk = kz (strV v) := by
     rw [Zzv, Zzv, hv] at hk
     exact (Zzc hk).symm
    subst ek
    refine wpAny_mono (step v (Zzn hv) h tk own F' N') (fun v' s' hh => ?_) (fun _ _ z => z)
    obtain ⟨h3, tk3, t3, e1, e2, k3⟩ := hh
    subst e1 e2
    exact ⟨h3, tk3, t3, rfl, rfl, F'.kept k3, N'.grown k3⟩
   ·obtain ⟨hsub, hsort⟩ := Wv hout
    rw [eit] at hsort
    exact fin D h' tk out c F' N' hlt2 hsub (Uk hsort.1 (by omega))
 ·rw [Bs hn]; rfl
 ·exact C4 hn
end
def qw (H : Hp) (a Pt : Addr) : Prop := ∀ b u, H b = some u -> (b = Pt /\ u = .tbl #[]) \/ (b = a /\ ∃ o xs, u = .frz o (.lst xs))
theorem U2 {P : Program} {w : World} {K : Frag} {mg mb : Str -> Option Value} {k : Nat} {fa a Pt ct : Addr} {fd : FuncData} {x : Str} {sp : Sp} {s₁ : Shared} {H : Hp}
  (KX : K.In s₁.heap) (hns : s₁.heap.Ns mainGlobals mg) (hb : s₁.heap.Ns builtinsNs mb) (hbb : ∀ x : Str, x ≠ "__name__" -> mb x = bootBuiltins x) (hlim : s₁.heap.NoLimit) (hg : s₁.gens = #[]) (hr : Room k callerA)
  (hT : s₁.heap.TableAt ct Pt #[]) (hBM : Ak mg s₁.heap) (hO : qw H a Pt) (hHK : ∀ b u, H b = some u -> K.lookup b = none) (ok : HOk P w H s₁.heap)
  (F : ∀ base : Heap, K.In base -> base.Ns mainGlobals mg -> Ak mg base -> FnOk P w K mg base CX0 k fa fd [x] sp) (hbind : ∀ (s : Shared) (u : Value), BindsTo s fd ⟨[u], []⟩ [(x, u)])
  (hsp : sp [.ref a] H (fun v _ => v = .bl true) fun _ _ _ => False) :
  codeAny (model P w) callerA (.call (.ref fa) ⟨[.ref a], []⟩) (fun r s' => r = .ok (.ret (.bool true)) /\ OldK s₁.heap s'.heap /\ s'.os = s₁.os /\ AllBare s'.gens) s₁ := by
 have noD : ∀ {b : Addr} {o : Obj}, s₁.heap.get? b = some o -> (∀ vs : Array Value, o.data ≠ .fields vs) -> (∀ vs n, o.data ≠ .seq vs n) -> H b = none := fun {b o} e n1 n2 => by
  cases q : H b with
  | none => rfl
  | some u =>
   have y := ok b u q
   rcases hO b u q with ⟨_, rfl⟩ | ⟨_, ob, xs, rfl⟩
   ·have y : s₁.heap.get? b = some { cls := .none, data := .fields #[] } := y
    rw [e] at y; cases y; exact absurd rfl (n1 _)
   ·obtain ⟨_, _, its, m, _, y3⟩ := y
    rw [e] at y3; cases y3; exact absurd rfl (n2 _ _)
 have baseG : ∀ {b : Addr} {o : Obj}, s₁.heap.get? b = some o -> H b = none -> (Pe s₁.heap H).get? b = some o := fun e n => Zw e n
 have nsB : ∀ {b : Addr} {m : Str -> Option Value}, s₁.heap.Ns b m -> (Pe s₁.heap H).Ns b m := fun {b m} ⟨o, es, ep, e, d, r⟩ => ⟨o, es, ep, baseG e (noD e (fun _ z => by rw [d] at z; cases z) (fun _ _ z => by rw [d] at z; cases z)), d, r⟩
 have kB : K.In (Pe s₁.heap H) := fun b o e => baseG (KX b o e) (by
  cases q : H b with
  | none => rfl
  | some u => rw [hHK b u q] at e; cases e)
 have bB : Ak mg (Pe s₁.heap H) := by
  obtain ⟨bm, ob, b1, b2, b3, b4, b5, b6, b7⟩ := hBM
  exact ⟨bm, ob, b1, b2, b3, baseG b4 (noD b4 (fun _ z => by rw [b7] at z; cases z) (fun _ _ z => by rw [b7] at z; cases z)), b5, b6, b7⟩
 have mB : Mod K mg (Pe s₁.heap H) := ⟨kB, nsB hns, ⟨mb, nsB hb, hbb⟩, let ⟨mc, h1, h2⟩ := hlim; ⟨mc, nsB h1, h2⟩⟩
 have e0 : Env0 P w K mg (Pe s₁.heap H) callerA [] s₁ H := ⟨rfl, mB, fun b o e => ff e, Zx8 (Xq _ _), trivial, (fun b hb => nomatch (show b ∈ ([] : List Addr) from hb)), ok, .of_eq hg⟩
 refine codeAny_mono ((F _ kB (nsB hns) bB).run callerA [] s₁ H ⟨[.ref a], []⟩ [.ref a] [.ref a] _ _ hr e0 (hbind s₁ (.ref a)) (.cons rfl .nil) hsp) fun r s' h => ?_
 cases r with
 | error e => exact h.elim
 | ok fl =>
  cases fl with
  | next => exact h.elim
  | brk => exact h.elim
  | cont => exact h.elim
  | ret u =>
   obtain ⟨v, H', os, bare, un, ok', r', q⟩ := h
   have q : v = .bl true := q
   subst q
   obtain rfl : u = Value.bool true := r'
   have old : ∀ b o, s₁.heap.get? b = some o -> asItWas s₁.heap s'.heap b o := fun b o e => by
    cases y : H b with
    | none => exact .inl (un.keep b o e y (by intro z; cases z) (by simp))
    | some u =>
     have ob := ok b u y
     rcases hO b u y with ⟨rfl, rfl⟩ | ⟨_, oo, xs, rfl⟩
     ·obtain ⟨more, e2⟩ := un.tbls b #[] y
      have ob : s₁.heap.get? b = some { cls := .none, data := .fields #[] } := ob
      rw [e] at ob
      cases ob
      have e3 : s'.heap.get? b = some { cls := .none, data := .fields (#[] ++ more) } := ok' b _ e2
      exact .inr (.inl ⟨hT.isCodeTable, rfl, #[], more, rfl, e3⟩)
     ·have e2 := un.frzs b oo _ y
      have e3 := (ok' b _ e2).1
      have e4 := ob.1
      rw [e] at e4
      cases e4
      exact .inl e3
   exact ⟨rfl, ⟨old, fun b o e => un.there b o e (by simp)⟩, os, bare⟩
theorem Yb {l : OpenLaw} {n k : Nat} {q : Program} {loose : List Str} {XP : (Str -> Option Value) -> Heap -> Prop} {YP : World -> Heap -> Prop} {d dw : DefRec} {K : Params -> Frag} {sp : World -> Addr -> Sp} {x wk : Str}
  (hn : l.most = some n) (hn2 : n <= sizeLine) (hdf : d.params.defaults = []) (hr : Room k callerA) (hY : ∀ (w : World) (h : Heap), YP w h -> (K w.params).In h) (hw : (recsOf q).find? (fun e => e.name == wk) = some dw)
  (F : ∀ (w : World) (mg : Str -> Option Value) (fa : Addr) (h : Heap), (K w.params).In h -> h.Ns mainGlobals mg -> mg d.name = some (.ref fa) ->
   ∃ (fd : FuncData) (ct Pt : Addr), (∀ (s : Shared) (u : Value), BindsTo s fd ⟨[u], []⟩ [(x, u)]) /\ tabIn (K w.params) wk = some (ct, Pt) /\ (K w.params).lookup Pt = none /\
    ∀ base : Heap, (K w.params).In base -> base.Ns mainGlobals mg -> Ak mg base -> FnOk l.prog w (K w.params) mg base CX0 k fa fd [x] (sp w Pt))
  (hsp : ∀ (w : World) (H : Hp) (a Pt : Addr) (ns : List Int), ns.length <= n -> H Pt = some (.tbl #[]) -> SqL (K w.params) H a (ns.map V.int) -> sp w Pt [.ref a] H (fun v _ => v = .bl true) fun _ _ _ => False) :
  WalkO q loose XP YP l.row.toRowW d [] (fun f vs => PySem.call f vs) := by
 refine Att.attach_call hn hdf fun w s₀ s₁ mg mb fa o pm cd doc a vs ns G Y ho hd hcd hmg hobj hints hlen hg => ?_
 have KX := hY w _ Y
 obtain ⟨fd, ct, Pt, hbd, htab, hKP, hF⟩ := F w mg fa _ KX G.T.g hmg
 obtain ⟨hC, hP⟩ := tab_of G.T KX hw htab
 have hT := hC.tab hP
 have aP : a ≠ Pt := fun z => by rw [z, hP] at hobj; cases hobj
 have hBM : Ak mg s₁.heap := by
  obtain ⟨bm, ob, b1, b2, b3, b4, b5, b6⟩ := G.T.bmain
  refine ⟨bm, ob, b1, b2, fun z => ?_, b3, b4, b5, b6⟩
  obtain ⟨og, es, ep, e, dg, _⟩ := G.T.g
  rw [<- z, b3] at e
  cases e
  rw [b6] at dg
  cases dg
 have rv := Pm hints
 have lenV := hints.length
 have okP : ∀ H : Hp, ObjOk l.prog w H s₁.heap Pt (.tbl #[]) := fun _ => hP
 cases hk : (K w.params).lookup a with
 | some oa =>
  have e := KX a oa hk
  rw [hobj] at e
  cases e
  refine U2 (H := upd (fun _ => none) Pt (.tbl #[])) KX G.T.g G.T.b G.T.builtins G.T.nolimit hg hr hT hBM (fun b u y => ?_) (fun b u y => ?_) (fun b u y => ?_) hF hbd (hsp w _ a Pt ns hlen A0 (.inr ⟨_, vs.toArray, _, hk, rfl, rfl, rfl, by rw [Zzp, lenV]; exact Zz5 hlen hn2, by simpa using rv⟩))
  ·by_cases z : b = Pt
   ·subst z; rw [A0] at y; cases y; exact .inl ⟨rfl, rfl⟩
   ·rw [A5 z] at y; cases y
  ·by_cases z : b = Pt
   ·rw [z]; exact hKP
   ·rw [A5 z] at y; cases y
  ·by_cases z : b = Pt
   ·subst z; rw [A0] at y; cases y; exact okP _
   ·rw [A5 z] at y; cases y
 | none =>
  refine U2 (H := upd (upd (fun _ => none) Pt (.tbl #[])) a (.frz { cls := .type "list", data := .seq vs.toArray } (.lst (ns.map V.int)))) KX G.T.g G.T.b G.T.builtins G.T.nolimit hg hr hT hBM (fun b u y => ?_) (fun b u y => ?_) (fun b u y => ?_) hF hbd (hsp w _ a Pt ns hlen (by rw [A5 (Zzh aP), A0]) (.inl (.inr ⟨_, A0⟩)))
  ·by_cases z2 : b = a
   ·subst z2; rw [A0] at y; cases y; exact .inr ⟨rfl, _, _, rfl⟩
   ·rw [A5 z2] at y
    by_cases z : b = Pt
    ·subst z; rw [A0] at y; cases y; exact .inl ⟨rfl, rfl⟩
    ·rw [A5 z] at y; cases y
  ·by_cases z2 : b = a
   ·rw [z2]; exact hk
   ·rw [A5 z2] at y
    by_cases z : b = Pt
    ·rw [z]; exact hKP
    ·rw [A5 z] at y; cases y
  ·by_cases z2 : b = a
   ·subst z2; rw [A0] at y; cases y
    exact ⟨hobj, by rw [Zzz]; exact Zz5 hlen hn2, vs, _, rv, hobj⟩
   ·rw [A5 z2] at y
    by_cases z : b = Pt
    ·subst z; rw [A0] at y; cases y; exact okP _
    ·rw [A5 z] at y; cases y
def aq (vs : Array Value) (c P : Addr) : Bool := (match vs.getD 18 .none with | .str _ _ => true | _ => false) && (match vs.getD 7 .none with | .int _ _ => true | _ => false) && (match vs.getD 9 .none with | .bool _ => true | _ => false) && (match vs.getD 10 .none with | .int _ _ => true | _ => false) && c != P
theorem Xz {K : Frag} {c P : Addr} {od : Option Addr} {vs : Array Value} {sl : Array (Option Value)} (tl : K.lookup c = some ⟨.type "code", od, .fields vs, sl⟩) (h11 : vs[11]? = some (.ref P)) (h : aq vs c P = true) : codeHdIn K c P = true := by
 unfold codeHdIn
 rw [tl]
 simp only [h11, BEq.rfl, Bool.true_and]
 exact h
theorem jm {K : Frag} {x : Str} {f c P : Addr} {oc : Value} {od odc : Option Addr} {fd : FuncData} {sl slc : Array (Option Value)} {vs : Array Value} (hn : nsIn K mainGlobals x = some (some (.ref f))) (hl : K.lookup f = some ⟨oc, od, .func fd, sl⟩) (hc : fd.code = .ref c) (tl : K.lookup c = some ⟨.type "code", odc, .fields vs, slc⟩) (h11 : vs[11]? = some (.ref P)) : tabIn K x = some (c, P) := by
 unfold tabIn
 simp only [hn, hl, hc, tl, h11]
theorem U7 {K : Frag} {x : Str} {f c P : Addr} {oc : Value} {od : Option Addr} {fd : FuncData} {sl : Array (Option Value)} (h : tabIn K x = some (c, P)) (hn : nsIn K mainGlobals x = some (some (.ref f))) (hl : K.lookup f = some ⟨oc, od, .func fd, sl⟩) : fd.code = .ref c := by
 unfold tabIn at h
 simp only [hn, hl] at h
 split at h
 ·rename_i c' hc
  split at h
  ·split at h
   ·cases h
    exact hc
   ·cases h
  ·cases h
 ·cases h
theorem U8 {nm lv : Str} {scope : Scope} {env : Env} {cc : Addr} (hs : scope.names = [(nm, .local), (lv, .free)]) (h : env.cells.lookup lv = some cc) : closureFor scope env = pure [(lv, cc)] := by
 unfold closureFor
 rw [hs]
 simp [cellOf, h]
structure cq (K : Frag) (f c P : Addr) : Prop where
 code : ∀ oc od fd sl, K.lookup f = some ⟨oc, od, .func fd, sl⟩ -> fd.code = .ref c
 hd : codeHdIn K c P = true
theorem Fun.okC {P : Program} {w : World} {K : Frag} {mg : Str -> Option Value} {base : Heap} {x qual : Str} {st : Stmt} {f c Pt : Addr} {fd : FuncData} {N ps : List Str} {k : Nat} {sp : Sp} (F : Fun K x qual st f fd) (C : cq K f c Pt) (S : Aj N ps (A8 st)) (len : ∀ vs H Q E, sp vs H Q E -> vs.length = ps.length)
  (hbody : ∀ (A : Around) (outer : List Env) (s : Shared) (H : Hp) (vs : List V) (Q : VK) (E : XK), Room k (A.deeper (envOfC qual (A8 st) s.heap.objs.size f (.ref c))) -> sp vs H Q E ->
   ∃ t, PSs (Pf CX0 P w K mg base N qual (A8 st) f (.ref c) A outer s H E).nox (Ae st) t /\ t { nx := fun _ H' => Q .non H', rt := Q } (Hu N vs) H) : FnOk P w K mg base CX0 (k + 1) f fd ps sp := by
 obtain ⟨oc, od, kV, doc, pm, an, cdv, ct, osl, rfl, lk, hcd⟩ := F.ex
 have e : cdv = .ref c := C.code _ _ _ _ lk
 subst e
 refine ae lk hcd S len fun A outer s H vs Q E hr hsp => ?_
 obtain ⟨t, h, q⟩ := hbody A outer s H vs Q E hr hsp
 exact ⟨t, h.nox, q⟩
end L2
namespace NP
open PySem L2
def G7 (S : Sh) (x : Str) : List Wr := S.wares.filter fun w => decide (x ∈ w.parts.map (·.1))
def lvF (S : Sh) : Nat -> Str -> Int
 | 0, _ => 0
 | k + 1, x => Cz ((G7 S x).map fun u => 1 + lvF S k u.name)
def lv (S : Sh) (x : Str) : Int := lvF S S.wares.length x
structure Lev (S : Sh) : Prop where
 nd : (S.wares.map (·.name)).Nodup
 own : ∀ w ∈ S.wares, ∀ p ∈ w.parts, p.1 ∈ S.wares.map (·.name)
 low : ∃ r : Str -> Nat, (∀ w ∈ S.wares, r w.name < S.wares.length) /\ ∀ w ∈ S.wares, ∀ p ∈ w.parts, r p.1 < r w.name
theorem mem_users {S : Sh} {x : Str} {w : Wr} : w ∈ G7 S x ↔ w ∈ S.wares /\ x ∈ w.parts.map (·.1) := by
 unfold G7
 rw [Zxt]
 exact ⟨fun ⟨a, b⟩ => ⟨a, of_decide_eq_true b⟩, fun ⟨a, b⟩ => ⟨a, decide_eq_true b⟩⟩
theorem Zh (S : Sh) : ∀ k x, 0 <= lvF S k x
 | 0, _ => Zz6 _
 | k + 1, x => Hh fun y hy => by
  obtain ⟨u, _, rfl⟩ := Zzx.mp hy
  have := Zh S k u.name
  show 0 <= 1 + lvF S k u.name
  omega
theorem Ts {S : Sh} {r : Str -> Nat} (hr : ∀ w ∈ S.wares, r w.name < S.wares.length) (hp : ∀ w ∈ S.wares, ∀ p ∈ w.parts, r p.1 < r w.name) : ∀ k w, w ∈ S.wares -> S.wares.length - r w.name <= k -> lvF S (k + 1) w.name = lvF S k w.name
 | 0, w, hw, h => by have := hr w hw; omega
 | k + 1, w, hw, h => by
  show Cz ((G7 S w.name).map fun u => 1 + lvF S (k + 1) u.name) = Cz ((G7 S w.name).map fun u => 1 + lvF S k u.name)
  congr 1
  apply Zy9
  intro u hu
  obtain ⟨h1, h2⟩ := mem_users.mp hu
  obtain ⟨p, hp1, hp2⟩ := Zzx.mp h2
  have h3 := hp u h1 p hp1
  rw [hp2] at h3
  have := hr u h1
  rw [Ts hr hp k u h1 (by omega)]
theorem pz {S : Sh} (L : Lev S) {w : Wr} (hw : w ∈ S.wares) : lv S w.name = Cz ((G7 S w.name).map fun u => 1 + lv S u.name) := by
 obtain ⟨r, h1, h2⟩ := L.low
 have := Ts h1 h2 S.wares.length w hw (by omega)
 exact this.symm
theorem Tr (S : Sh) (x : Str) : 0 <= lv S x := Zh S _ x
theorem Kf {S : Sh} (L : Lev S) {w : Wr} (hw : w ∈ S.wares) {p : Str × Int} (hp : p ∈ w.parts) : lv S w.name + 1 <= lv S p.1 := by
 obtain ⟨v, hv, e⟩ := Zzx.mp (L.own w hw p hp)
 rw [<- e, pz L hv]
 have : 1 + lv S w.name <= Cz ((G7 S v.name).map fun u => 1 + lv S u.name) := Iv (Zzx.mpr ⟨w, mem_users.mpr ⟨hw, Zzx.mpr ⟨p, hp, e.symm⟩⟩, rfl⟩)
 omega
theorem Zg {S : Sh} {k : Nat} {g : Str -> Int} (h0 : ∀ x, 0 <= g x) (h : ∀ w ∈ S.wares, ∀ p ∈ w.parts, 1 + lvF S k w.name <= g p.1) (x : Str) : lvF S (k + 1) x <= g x := by
 show Cz ((G7 S x).map fun u => 1 + lvF S k u.name) <= g x
 unfold Cz
 split
 ·exact h0 x
 ·rename_i hn
  obtain ⟨u, hu, e⟩ := Zzx.mp (G3 hn)
  rw [<- e]
  obtain ⟨h1, h2⟩ := mem_users.mp hu
  obtain ⟨p, hp1, hp2⟩ := Zzx.mp h2
  rw [<- hp2]
  exact h u h1 p hp1
def fnD (names : List Str) (g : Str -> Int) : List (Key × V) := names.map fun x => (Zy2 x, V.int (g x))
theorem S7 (names : List Str) (g : Str -> Int) : (fnD names g).length = names.length := by unfold fnD; rw [Zzz]
theorem Ix {names : List Str} {g : Str -> Int} {x : Str} (h : x ∈ names) : C5 (fnD names g) (.inr x) = some (.int (g x)) := by
 induction names with
 | nil => cases h
 | cons y r ih =>
  unfold fnD
  rw [Zz7]
  by_cases e : y = x
  ·rw [Cq (by rw [e])]
   rw [e]
  ·rw [Ci (fun z => e (Zx3 z))]
   exact ih ((Zzk.mp h).resolve_left fun z => e z.symm)
theorem af {names : List Str} {g : Str -> Int} {x : Str} (h : x ∉ names) : C5 (fnD names g) (.inr x) = none := by
 induction names with
 | nil => rfl
 | cons y r ih =>
  unfold fnD
  rw [Zz7, Ci (fun z => h (by rw [<- Zx3 z]; exact Zzb))]
  exact ih fun m => h (Zze _ m)
theorem gf {names : List Str} {g : Str -> Int} {y : Str} {v : Int} (h : y ∈ names) : Eu (fnD names g) (.inr y) (.int v) = fnD names fun x => if x = y then v else g x := by
 unfold Eu
 rw [if_pos (by rw [Et, Ix h]; rfl)]
 unfold fnD
 rw [Zyk]
 apply Zy9
 intro x _
 show (if Zy2 x = (Zy2 y : Key) then (Zy2 x, V.int v) else (Zy2 x, V.int (g x))) = (Zy2 x, V.int (if x = y then v else g x))
 by_cases e : x = y
 ·rw [if_pos (by rw [e]), if_pos e]
 ·rw [if_neg (fun z => e (Zx3 z)), if_neg e]
theorem La {names : List Str} {g g' : Str -> Int} (h : ∀ x ∈ names, g x = g' x) : fnD names g = fnD names g' := by
 unfold fnD
 exact Zy9 fun x hx => by rw [h x hx]
theorem W7 {names : List Str} {g : Str -> Int} {y : Str} {v : Int} (h : y ∉ names) : Eu (fnD names g) (.inr y) (.int v) = fnD (names ++ [y]) fun x => if x = y then v else g x := by
 rw [My _ (af h)]
 unfold fnD
 rw [Zzg]
 congr 1
 ·refine Zy9 fun x hx => ?_
  show (Zy2 x, V.int (g x)) = (Zy2 x, V.int (if x = y then v else g x))
  rw [if_neg (fun e : x = y => h (e ▸ hx))]
 ·show [(Zy2 y, V.int v)] = [(Zy2 y, V.int (if y = y then v else g y))]
  rw [if_pos rfl]
theorem Fp {xs : List Str} (nd : xs.Nodup) {i : Nat} {x : Str} (h : xs[i]? = some x) : x ∉ xs.take i := by
 intro m
 obtain ⟨j, hj⟩ := Zw6.mp m
 rw [Zxl] at hj
 split at hj
 ·rename_i hlt
  have hj2 : j < xs.length := (Zzl.mp hj).1
  have := (Zwi hj2 nd).mp (hj.trans h.symm)
  omega
 ·cases hj
end NP
namespace L2
open PySem PySem.Spec PyProof.Rows
def ItV (a : Addr) (xs : List V) : It := ⟨fun i H => H a = some (.lst xs) /\ i < xs.length, fun i H x H' => H' = H /\ xs.reverse[i]? = some x, fun i H => H a = some (.lst xs) /\ i = xs.length⟩
theorem qf (a : Addr) (xs : List V) : Pk (ItV a xs) xs.length (fun i x => xs.reverse[i]? = some x) (fun H => H a = some (.lst xs)) :=
 ⟨fun _ _ h o => ⟨o, h⟩, fun _ _ _ _ _ _ y => y, fun _ o => ⟨o, rfl⟩⟩
theorem Yf {P : Program} {w : World} {K : Zzu} {tg : Expr} (a it : Addr) (xs : List V) : Lg P w K tg (ItV a xs) [it] it (fun i h => i <= xs.length /\ h.IsRevIter it a ((xs.length : Int) - 1 - (i : Int))) where
 mem := by simp
 obj := fun i h st b hb => by
  have e : b = it := by simpa using hb
  subst e
  obtain ⟨_, o, e, c, d⟩ := st
  exact ⟨o, e, fun v z => by rw [d] at z; cases z⟩
 keep := fun i h h' st k => ⟨st.1, st.2.at fun o e => k it (by simp) o e⟩
 item := by
  intro X hP hw hK hc i pins s σ H E I hf st hg
  subst hP hw hK
  obtain ⟨hq, hlt⟩ := hg
  obtain ⟨its, rv, hl, hal⟩ := Aw I hq
  obtain ⟨f0, f1, f2, f3, f4, f5⟩ := hf it (by simp)
  have hai : a ≠ it := A3 hq f0
  have hlen := rv.length
  have hsz : its.toArray.size = xs.length := by rw [Zzp]; exact hlen.symm
  have st2 : s.heap.IsRevIter it a ((its.toArray.size : Int) - 1 - (i : Int)) := by rw [hsz]; exact st.2
  refine (Walks.listRev (prog := X.prog) (w := X.w) (A := X.A) (I.ok.hd hc) it a hai its.toArray).item i s _ E (by omega) ⟨by omega, st2, hl⟩ fun v h' tk hx st3 hk => ?_
  have I1 : Inv X pins σ H { s with heap := h', toks := tk } := I.turned (t' := tk) (fun b o hb e => hk b o (by simpa using hb) e) f0 f1 f3 f4 f5
  obtain ⟨_, ⟨oi, ei, ci, di⟩, _⟩ := id st3
  have hlt2 : its.length - 1 - i < its.length := by omega
  have hx : its[its.length - 1 - i]? = some v := by rw [hsz, hlen] at hx; simpa using hx
  obtain ⟨u, hu, ru⟩ := rv.get (x := xs[xs.length - 1 - i]) (i := xs.length - 1 - i) (by simp [show xs.length - 1 - i < xs.length by omega])
  have eu : u = v := by rw [hlen, hx] at hu; exact (Zzc hu).symm
  subst eu
  refine ⟨u, rfl, Qm (s := { s with heap := h', toks := tk }) ei ci di (by decide) ⟨xs[xs.length - 1 - i], H, I1, ru, ⟨rfl, ?_⟩, ?_, fun b hb => (hf b hb).1⟩⟩
  ·rw [List.getElem?_reverse hlt]
   simp [show xs.length - 1 - i < xs.length by omega]
  ·have := st3.2.1
   rw [hsz] at this
   exact ⟨hlt, this⟩
 done := by
  intro X hP hw hK hc i pins s σ H E I hf st hg
  subst hP hw hK
  obtain ⟨hq, hlt⟩ := hg
  obtain ⟨its, rv, hl, hal⟩ := Aw I hq
  obtain ⟨f0, f1, f2, f3, f4, f5⟩ := hf it (by simp)
  have hai : a ≠ it := A3 hq f0
  have hlen := rv.length
  have hsz : its.toArray.size = xs.length := by rw [Zzp]; exact hlen.symm
  subst hlt
  have st2 : s.heap.IsRevIter it a ((its.toArray.size : Int) - 1 - ((its.toArray.size : Nat) : Int)) := by rw [hsz]; exact st.2
  exact (Walks.listRev (prog := X.prog) (w := X.w) (A := X.A) (I.ok.hd hc) it a hai its.toArray).done s _ E ⟨Zzt _, st2, hl⟩ fun h' tk hk => ⟨rfl, I.turned (t' := tk) (fun b o hb e => hk b o (by simpa using hb) e) f0 f1 f3 f4 f5⟩
 self := fun _ _ _ _ _ st h => wpAny_pyIter_revIter st.2 h
section
variable {X : Cx}
def qb (ta : TA) : TI := fun σ H R => ta σ H fun vs H1 => ∃ a xs, vs = [.ref a] /\ H1 a = some (.lst xs) /\ R (ItV a xs) H1
theorem kj {tg : Expr} {p pos : Pos} {e : Expr} {ta : TA} (hg : Gl X "reversed") (hm : X.mg "reversed" = none) (ha : PA X [e] ta) (hn : Bu [e] = true := by rfl) : PI X tg (.Call (.Name "reversed" p) [e] [] pos) (qb ta) := by
 intro pins s σ H R I h
 refine Call_ (E9 I hg hm NP.Ly (Zyn (thn (ha pos pins s σ H _ I h) fun us s1 ⟨vs, H1, I1, r1, q1⟩ => ?_) (Bs hn) rfl))
 obtain ⟨a, xs, e, hq, q⟩ := q1
 subst e
 obtain ⟨u, rfl, ru⟩ := Gh r1
 cases ru
 obtain ⟨its, rv, hl, hal⟩ := Aw I1 hq
 have hlen := rv.length
 refine call_reversed_list hl ?_
 have hrv : (s1.heap.push (revObj a ((its.toArray.size : Int) - 1))).IsRevIter s1.heap.objs.size a ((xs.length : Int) - 1 - ((0 : Nat) : Int)) := by
  refine ⟨_, Zzf _ rfl, rfl, ?_⟩
  rw [Zzp, <- hlen]
  simp [revObj]
 have I2 : Inv X pins σ H1 { s1 with heap := s1.heap.push (revObj a ((its.toArray.size : Int) - 1)) } := I1.kept (t' := s1.toks) fun b o e => Zzy _ e
 refine wpAny_pyIter_revIter (s := { s1 with heap := s1.heap.push (revObj a ((its.toArray.size : Int) - 1)) }) hrv ⟨_, [_], _, _, H1, rfl, I2, Yf a _ xs, ⟨Zyq _, hrv⟩, fun b hb => ?_, q⟩
 have e := Zzd.mp hb
 subst e
 exact I1.fpOk (Zzt _) (I1.hok.fresh (Zzt _))
end
end L2
namespace NP
open PySem L2
def Hr (S : Sh) (x : Str) : Option Wr := S.wares.find? fun w => decide (w.name = x)
theorem Hq {S : Sh} (nd : (S.wares.map (·.name)).Nodup) {w : Wr} (hw : w ∈ S.wares) : Hr S w.name = some w := by
 unfold Hr
 cases e : S.wares.find? (fun v => decide (v.name = w.name)) with
 | none =>
  have := List.find?_eq_none.mp e w hw
  simp at this
 | some v =>
  have h1 : v.name = w.name := of_decide_eq_true (by simpa using List.find?_some e)
  have h2 := List.mem_of_find?_eq_some e
  obtain ⟨i, hi, ei⟩ := Zy5.mp hw
  obtain ⟨j, hj, ej⟩ := Zy5.mp h2
  have : (S.wares.map (·.name))[i]? = (S.wares.map (·.name))[j]? := by
   rw [Zzv, Zzv, Zzr hi, Zzr hj, ei, ej]
   show some w.name = some v.name
   rw [h1]
  have e2 := (Zwi (by rw [Zzz]; exact hi) nd).mp this
  subst e2
  rw [<- ei, <- ej]
def tmF (S : Sh) : Nat -> Str -> Int
 | 0, _ => 0
 | k + 1, x => match Hr S x with
  | some w => w.lag + Cz (w.parts.map fun p => tmF S k p.1)
  | none => 0
def tm (S : Sh) (x : Str) : Int := tmF S S.wares.length x
theorem Ml {S : Sh} (L : Lev S) (k : Nat) {w : Wr} (hw : w ∈ S.wares) : tmF S (k + 1) w.name = w.lag + Cz (w.parts.map fun p => tmF S k p.1) := by
 rw [tmF, Hq L.nd hw]
theorem So {S : Sh} (L : Lev S) {r : Str -> Nat} (hp : ∀ w ∈ S.wares, ∀ p ∈ w.parts, r p.1 < r w.name) : ∀ k w, w ∈ S.wares -> r w.name < k -> tmF S (k + 1) w.name = tmF S k w.name
 | 0, w, _, h => by omega
 | k + 1, w, hw, h => by
  rw [Ml L _ hw, Ml L _ hw]
  congr 2
  apply Zy9
  intro p hpm
  obtain ⟨v, hv, e⟩ := Zzx.mp (L.own w hw p hpm)
  have h3 := hp w hw p hpm
  rw [<- e] at h3 ⊢
  exact So L hp k v hv (by omega)
theorem Vf {S : Sh} (L : Lev S) {w : Wr} (hw : w ∈ S.wares) : tm S w.name = w.lag + Cz (w.parts.map fun p => tm S p.1) := by
 obtain ⟨r, h1, h2⟩ := L.low
 have h3 := So L h2 S.wares.length w hw (h1 w hw)
 rw [Ml L _ hw] at h3
 exact h3.symm
theorem T9 {S : Sh} (L : Lev S) {ys : List Str} (so : Lz (lv S) (S.wares.map (·.name)) ys) {j : Nat} {w : Wr} (hw : w ∈ S.wares) (hj : ys.reverse[j]? = some w.name) {p : Str × Int} (hp : p ∈ w.parts) : p.1 ∈ ys.reverse.take j := by
 have hlv := Kf L hw hp
 have hm : p.1 ∈ ys.reverse := by rw [List.mem_reverse]; exact so.1.mem_iff.mpr (L.own w hw p hp)
 have pw : ys.reverse.Pairwise fun a b => lv S b <= lv S a := by rw [List.pairwise_reverse]; exact so.2
 obtain ⟨i, hi⟩ := Zw6.mp hm
 obtain ⟨hil, ei⟩ := Zzl.mp hi
 obtain ⟨hjl, ej⟩ := Zzl.mp hj
 have hlt : i < j := by
  rcases Nat.lt_trichotomy i j with z | z | z
  ·exact z
  ·subst z
   rw [ei] at ej
   rw [ej] at hlv
   omega
  ·have := Zxc.mp pw j i hjl hil z
   rw [ei, ej] at this
   omega
 exact Zzn (i := i) (by rw [Zxl, if_pos hlt]; exact hi)
end NP
namespace L2
open PySem PySem.Spec PyProof.Rows PySem.W NP
def qv (a b : Str) : Prop := ¬ b.cps.toList < a.cps.toList
def We (xs ys : List Str) : Prop := ys.Perm xs /\ ys.Pairwise qv
section
variable {X : Cx} {pins : List (Addr × Obj)} {σ : St} {H : Hp} {s : Shared} {h' : Heap}
theorem Inv.laidF {a : Addr} {o : HO} {t' : Nat} (I : Inv X pins σ H s) (k : ∀ b u, s.heap.get? b = some u -> h'.get? b = some u) (fr : ∀ b u, s.heap.get? b = some u -> b ≠ a) (hn : H a = none) (new : ObjOk X.prog X.w (upd H a o) h' a o) :
  Inv X pins σ (upd H a o) { s with heap := h', toks := t' } := by
 refine I.un ⟨fun b u e _ _ _ => k b u e, fun b u e _ _ _ => ⟨u.slots, k b u e⟩, fun b u e n _ => by rw [A5 (fr b u e)]; exact n, fun b u e _ => ⟨u, k b u e⟩, fun b xs e => by rw [A5 (A3 e hn)]; exact e, fun b u v e => by rw [A5 (A3 e hn)]; exact e, fun b ps e => ⟨#[], by rw [A5 (A3 e hn), e]; simp⟩⟩ fun b u e => ?_
 by_cases hb : b = a
 ·subst hb
  rw [A0] at e
  cases e
  exact new
 ·rw [A5 hb] at e
  exact (I.hok b u e).stay (fun b' u' _ q => k b' u' q) (fun b' q => by rw [A5 (A3 q hn)]; exact q) fun b' xs q => by rw [A5 (A3 q hn)]; exact q
end
section
variable {X : Cx}
def jv : List V -> Hp -> VK -> Prop := fun vs H Q => ∃ a xs, vs = [.ref a] /\ H a = some (.lst (xs.map V.str)) /\ xs.length < 64 /\ ∀ p ys, H p = none -> We xs ys -> Q (.ref p) (upd H p (.lst (ys.map V.str)))
def jw : List V -> Hp -> VK -> Prop := fun vs H Q => ∃ a kvs xs, vs = [.ref a] /\ H a = some (.dK kvs) /\ kvs.map (·.1) = xs.map Zy2 /\ xs.length < 64 /\ ∀ p ys, H p = none -> We xs ys -> Q (.ref p) (upd H p (.lst (ys.map V.str)))
def kc : List V -> Hp -> VK -> Prop := fun vs H Q => ∃ a kvs, vs = [.ref a] /\ Rd H a (.dK kvs) /\ ∀ p, H p = none -> Q (.ref p) (upd H p (.dK kvs))
def dh : V -> List V -> Hp -> VK -> Prop := fun x vs H Q => ∃ a kvs, x = .ref a /\ vs = [] /\ H a = some (.dK kvs) /\ Q .non (upd H a (.dK []))
end
end L2
set_option maxHeartbeats 4000000
namespace L2
open PySem PyProof.Rows
def rIndexS : V -> List V -> Hp -> VK -> Prop := fun x vs H Q => ∃ (l : Addr) (xs : List Str) (y : Str), x = .ref l /\ vs = [.str y] /\ H l = some (.lst (xs.map V.str)) /\ y ∈ xs /\ Q (.int (xs.idxOf y : Nat)) H
theorem Kt : ∀ {xs : List Str} {us : List Value}, Vals (xs.map V.str) us -> ∀ j (hj : j < us.length) (y : Str), eqU (.str y) us[j] = (xs.getD j "" == y)
 | [], _, .nil, j, hj, y => absurd hj (Zw1 _)
 | x :: xs, u :: us, .cons r t, 0, hj, y => by
  obtain ⟨t', rfl⟩ := r
  rfl
 | x :: xs, u :: us, .cons r t, j + 1, hj, y => Kt t j (Zwe hj) y
theorem J0 : ∀ xs : List Str, (xs.map V.str).all Gu = true
 | [] => rfl
 | x :: xs => by rw [Zz7, Zvt, J0 xs]; rfl
theorem Zs {xs : List Str} {y : Str} (h : y ∈ xs) : xs.getD (xs.idxOf y) "" = y := by
 have hl : xs.idxOf y < xs.length := Zwo.mpr h
 rw [Zza, Zzr hl, Option.getD_some]
 exact List.getElem_idxOf hl
theorem Kl {y : Str} : ∀ {xs : List Str} {m : Nat}, m < xs.idxOf y -> m < xs.length -> (xs.getD m "" == y) = false
 | [], m, h, hm => absurd hm (Zw1 _)
 | x :: xs, 0, h, _ => by
  rw [List.idxOf_cons] at h
  cases e : x == y with
  | false => exact e
  | true => rw [e] at h; exact absurd h (Zxg _)
 | x :: xs, m + 1, h, hm => by
  rw [List.idxOf_cons] at h
  cases e : x == y with
  | false => rw [e] at h; exact Kl (xs := xs) (m := m) (Zwe h) (Zwe hm)
  | true => rw [e] at h; exact absurd h (Zw1 _)
theorem Zb {X : Cx} : MtM X "list.index" rIndexS := by
 intro pins s σ H x vs v us Q I rx rv h
 obtain ⟨l, xs, y, rfl, rfl, hH, hy, q⟩ := h
 cases rx
 obtain ⟨u, rfl, ru⟩ := rv.one
 obtain ⟨z, its, n, r, hl, e⟩ := I.lstM hH
 rw [Zzz] at hl z
 have hj : xs.idxOf y < xs.length := Zwo.mpr hy
 have hs : its.toArray.size = xs.length := by rw [Zzp, hl]
 rw [sizeLine_eq] at z
 refine call_meets F.slot_list_index ⟨_, e, rfl⟩ F.entry_list_index (F.args_list_index_2 _ _) (SeqAt.list_indexAt l its.toArray n none #[] u (eqU (.str y)) (xs.idxOf y) (by omega) (by omega) ?_ (fun m hm hlt => ?_)) ⟨e, fun w hw => Gq ru rfl r (J0 xs) w (by simpa using hw), ?_⟩
 ·rw [List.getElem_toArray, Kt r, Zs hy]
  exact beq_self_eq_true y
 ·rw [List.getElem_toArray, Kt r]
  exact Kl hlt (by omega)
 ·exact ⟨.int _, H, I.tok _, ⟨_, rfl⟩, q⟩
theorem O4 (x : Str) : ∀ xs : List Str, inV (.str x) (xs.map V.str) = decide (x ∈ xs)
 | [] => rfl
 | y :: xs => by
  show (y == x || inV (.str x) (xs.map V.str)) = decide (x ∈ y :: xs)
  rw [O4 x xs]
  by_cases e : y = x
  ·rw [e]; simp
  ·have e2 : (y == x) = false := by simpa using e
   rw [e2, Bool.false_or]
   exact decide_eq_decide.mpr ⟨fun m => Zze _ m, fun m => (Zzk.mp m).resolve_left fun z => e z.symm⟩
end L2
set_option exponentiation.threshold 4000
namespace L2
open PySem PySem.Spec PyProof.Rows
def oy : V -> V -> Hp -> VK -> Prop := fun o i H Q => ∃ (p : Addr) (kvs : List (Key × V)) (k : Str) (v : V), o = .ref p /\ i = .str k /\ H p = some (.dK kvs) /\ C5 kvs (.inr k) = some v /\ Q v H
end L2
namespace NP
open PySem L2
def Bv (m g : Int) : Int := if -(-m / g) > 0 then -(-m / g) else 0
theorem Xg (m g : Int) : 0 <= Bv m g := by unfold Bv; split <;> omega
theorem P0 {m g : Int} (h : 0 < g) : m <= g * Bv m g := by
 have h1 := Int.mul_ediv_add_emod (-m) g
 have h2 := Zw0 (-m) (b := g) (by omega)
 have h3 : g * (-(-m / g)) = -(g * (-m / g)) := Int.mul_neg ..
 unfold Bv
 split
 ·rw [h3]; omega
 ·rename_i q
  have h4 : 0 <= -m / g := by omega
  have h5 : 0 <= g * (-m / g) := Zwz (by omega) h4
  omega
theorem Rr {m g : Int} (h : 0 < g) (hl : 0 < Bv m g) : g * Bv m g < m + g := by
 have h1 := Int.mul_ediv_add_emod (-m) g
 have h2 := Zwn (-m) h
 have h3 : g * (-(-m / g)) = -(g * (-m / g)) := Int.mul_neg ..
 unfold Bv at hl ⊢
 split
 ·rw [h3]; omega
 ·rename_i q
  rw [if_neg q] at hl
  omega
theorem Xh {m g : Int} (h : 0 < g) (hm : 0 <= m) : Bv m g <= m := by
 by_cases hz : 0 < Bv m g
 ·have h1 := Rr h hz
  have h2 : Bv m g * 1 <= Bv m g * g := Int.mul_le_mul_of_nonneg_left (by omega) (by omega)
  have h3 : g * Bv m g = Bv m g * g := Int.mul_comm ..
  have h4 : (g - 1) * 1 <= (g - 1) * Bv m g := Int.mul_le_mul_of_nonneg_left (by omega) (by omega)
  have h5 : (g - 1) * Bv m g = g * Bv m g - Bv m g := by rw [Int.sub_mul, Int.one_mul]
  omega
 ·omega
def d7 : List Int -> Int
 | [] => 0
 | x :: r => x + d7 r
def cu (us : List Wt) (x : Str) : Int := d7 (us.map fun u => if u.1 = x then u.2.2 else 0)
def jl (L : Str -> Int) (w : Wr) (x : Str) : Int := d7 (w.parts.map fun p => if p.1 = x then L w.name * p.2 else 0)
def cx (ws : List Wr) (L : Str -> Int) (x : Str) : Int := d7 (ws.map fun w => jl L w x)
def lg (S : Sh) (L : Str -> Int) (x : Str) : Int := cu S.wants x + cx S.wares L x
def exF (S : Sh) : Nat -> Str -> Int
 | 0, _ => 0
 | k + 1, x => match Hr S x with
  | some w => Bv (lg S (exF S k) x) w.gives
  | none => 0
def ex (S : Sh) (x : Str) : Int := exF S S.wares.length x
theorem Ks {S : Sh} {x : Str} {w : Wr} (h : Hr S x = some w) : w ∈ S.wares /\ w.name = x := ⟨List.mem_of_find?_eq_some h, of_decide_eq_true (by simpa using List.find?_some h)⟩
theorem Ih {m g : Int} (h : 0 < g) (hm : m <= 0) : Bv m g = 0 := by
 unfold Bv
 have : 0 <= -m / g := Int.ediv_nonneg (by omega) (by omega)
 rw [if_neg (by omega)]
def above (f g : Int) (xs ys : List Int) : Nat -> Int
 | 0 => -f
 | i + 1 => above f g xs ys i + (xs.getD i 0 - ys.getD i 0) + g * Bv (-(above f g xs ys i + (xs.getD i 0 - ys.getD i 0))) g
def G4 (f g : Int) (xs ys : List Int) (i : Nat) : Int := Bv (-(above f g xs ys i + (xs.getD i 0 - ys.getD i 0))) g
def lots (f g : Int) (xs ys : List Int) (n : Nat) : List Int := (Zyr n).map (G4 f g xs ys)
theorem Tt (f g : Int) (xs ys : List Int) (n : Nat) : (lots f g xs ys n).length = n := by simp [lots]
theorem Xf (f g : Int) (xs ys : List Int) (n : Nat) : lots f g xs ys (n + 1) = lots f g xs ys n ++ [G4 f g xs ys n] := by
 unfold lots
 rw [List.range_succ, Zzg]
 rfl
theorem Zj {f g : Int} {xs ys : List Int} {n i : Nat} (h : i < n) : (lots f g xs ys n)[i]? = some (G4 f g xs ys i) := by simp [lots, h]
theorem Eo {f g : Int} {xs ys : List Int} {n i : Nat} (h : i < n) : (lots f g xs ys n).getD i 0 = G4 f g xs ys i := by rw [Zza, Zj h]; rfl
theorem Oe (f g : Int) (xs ys : List Int) (i : Nat) : above f g xs ys (i + 1) = above f g xs ys i + (xs.getD i 0 - ys.getD i 0) + g * G4 f g xs ys i := rfl
theorem Kq {f g : Int} {xs ys : List Int} (hg : 0 < g) (i : Nat) : 0 <= above f g xs ys (i + 1) := by
 have := P0 (m := -(above f g xs ys i + (xs.getD i 0 - ys.getD i 0))) hg
 rw [Oe]
 unfold G4
 omega
theorem Zk (f g : Int) (xs ys : List Int) (i : Nat) : 0 <= G4 f g xs ys i := Xg _ _
theorem bf {f g : Int} {xs ys : List Int} (hg : 0 < g) (hf : 0 <= f) (i : Nat) : -f <= above f g xs ys i := by
 cases i with
 | zero => exact Zz6 _
 | succ i => have := Kq (f := f) (xs := xs) (ys := ys) hg i; omega
theorem Zl {f g : Int} {xs ys : List Int} (hg : 0 < g) (hf : 0 <= f) {i : Nat} (hx : 0 <= xs.getD i 0) (hy : 0 <= ys.getD i 0) : G4 f g xs ys i <= f + ys.getD i 0 := by
 have h1 := bf (f := f) (xs := xs) (ys := ys) hg hf i
 unfold G4
 by_cases h : 0 <= -(above f g xs ys i + (xs.getD i 0 - ys.getD i 0))
 ·have := Xh hg h
  omega
 ·rw [Ih hg (by omega)]
  omega
theorem R3 {f g : Int} {xs ys : List Int} {n : Nat} (ch : Nat -> Int) (hc : ∀ i, i < n -> ch i = xs.getD i 0 + g * G4 f g xs ys i - ys.getD i 0) : ∀ i, i <= n -> above f g xs ys i = upS ch i - f
 | 0, _ => by show -f = 0 - f; omega
 | i + 1, h => by
  rw [Oe, R3 ch hc i (by omega)]
  show _ = upS ch i + ch i - f
  rw [hc i (by omega)]
  omega
def LRF (S : Sh) : Nat -> Str -> List Int
 | 0, _ => []
 | k + 1, x => match Hr S x with
  | some w => lots w.floor w.gives (At (daysN S) (Bh w)) (Ao S (LRF S k) x) (daysN S)
  | none => []
def LR (S : Sh) (x : Str) : List Int := LRF S S.wares.length x
theorem Ro {S : Sh} {plan plan' : Str -> List Int} {nm : Str} (h : ∀ t ∈ S.wares, ∀ p ∈ t.parts, p.1 = nm -> plan t.name = plan' t.name) (d : Nat) : Ba S plan nm d = Ba S plan' nm d := by
 unfold Ba
 congr 1
 refine Du fun t ht => ?_
 unfold pAt
 refine Du fun p hp => ?_
 by_cases e : p.1 = nm
 ·rw [if_pos e, if_pos e, h t ht p hp e]
 ·rw [if_neg e, if_neg e]
theorem No {S : Sh} {plan plan' : Str -> List Int} {nm : Str} (h : ∀ t ∈ S.wares, ∀ p ∈ t.parts, p.1 = nm -> plan t.name = plan' t.name) : Ao S plan nm = Ao S plan' nm := D2 fun d _ => Ro h d
theorem Om {S : Sh} (L : Lev S) (k : Nat) {w : Wr} (hw : w ∈ S.wares) : LRF S (k + 1) w.name = lots w.floor w.gives (At (daysN S) (Bh w)) (Ao S (LRF S k) w.name) (daysN S) := by rw [LRF, Hq L.nd hw]
theorem Uc {S : Sh} (L : Lev S) {r : Str -> Nat} (hr : ∀ w ∈ S.wares, r w.name < S.wares.length) (hp : ∀ w ∈ S.wares, ∀ p ∈ w.parts, r p.1 < r w.name) : ∀ k w, w ∈ S.wares -> S.wares.length - r w.name <= k -> LRF S (k + 1) w.name = LRF S k w.name
 | 0, w, hw, h => by have := hr w hw; omega
 | k + 1, w, hw, h => by
  rw [Om L _ hw, Om L _ hw]
  congr 1
  refine No fun u hu p hpm e => ?_
  have h3 := hp u hu p hpm
  rw [e] at h3
  have := hr u hu
  exact Uc L hr hp k u hu (by omega)
theorem Kr {S : Sh} (L : Lev S) {w : Wr} (hw : w ∈ S.wares) : LR S w.name = lots w.floor w.gives (At (daysN S) (Bh w)) (Ao S (LR S) w.name) (daysN S) := by
 obtain ⟨r, h1, h2⟩ := L.low
 have h3 := Uc L h1 h2 S.wares.length w hw (by omega)
 rw [Om L _ hw] at h3
 exact h3.symm
theorem Io {S : Sh} (L : Lev S) {w : Wr} (hw : w ∈ S.wares) : (LR S w.name).length = daysN S := by rw [Kr L hw, Tt]
theorem Yj {S : Sh} (L : Lev S) {ys : List Str} (so : Lz (lv S) (S.wares.map (·.name)) ys) {i : Nat} {nm : Str} (hi : ys[i]? = some nm) {t : Wr} (ht : t ∈ S.wares) {p : Str × Int} (hp : p ∈ t.parts) (e : p.1 = nm) : t.name ∈ ys.take i := by
 have h1 := Kf L ht hp
 rw [e] at h1
 obtain ⟨j, hj⟩ := Zw6.mp (so.1.mem_iff.mpr (Zzx.mpr ⟨t, ht, rfl⟩))
 obtain ⟨hil, ei⟩ := Zzl.mp hi
 obtain ⟨hjl, ej⟩ := Zzl.mp hj
 have hlt : j < i := by
  rcases Nat.lt_trichotomy j i with z | z | z
  ·exact z
  ·subst z
   rw [ei] at ej
   rw [ej] at h1
   omega
  ·have := Zxc.mp so.2 i j hil hjl z
   rw [ei, ej] at this
   omega
 exact Zzn (i := j) (by rw [Zxl, if_pos hlt]; exact hj)
structure Oh (S : Sh) : Prop where
 wb : ∀ w ∈ S.wares, (1 <= w.gives /\ w.gives <= 10 ^ 41) /\ (0 <= w.floor /\ w.floor <= 10 ^ 41) /\ 0 <= w.stock /\ w.parts.length <= 12 /\ ∀ p ∈ w.parts, 1 <= p.2 /\ p.2 <= 10 ^ 41
 com : ∀ w ∈ S.wares, ∀ p ∈ w.coming, 0 <= p.2
 few : S.wares.length <= 12
 wt : S.wants.length <= 21 /\ ∀ u ∈ S.wants, 0 <= u.2.2 /\ u.2.2 <= 10 ^ 100
theorem Ff {α : Type} {l : List α} {f : α -> Int} (h : ∀ x ∈ l, 0 <= f x) : 0 <= Bf f l := by
 induction l with
 | nil => exact Zz6 _
 | cons x r ih =>
  rw [Cr]
  have h1 := h x Zzb
  have h2 := ih fun y hy => h y (Zze _ hy)
  omega
theorem M4 {α : Type} {l : List α} {f : α -> Int} {c : Int} {n : Nat} (hc : 0 <= c) (hl : l.length <= n) (h : ∀ x ∈ l, f x <= c) : Bf f l <= n * c := by
 induction l generalizing n with
 | nil => exact Zwz (Int.natCast_nonneg n) hc
 | cons x r ih =>
  cases n with
  | zero => cases hl
  | succ n =>
   rw [Cr]
   have h1 := h x Zzb
   have h2 := ih (n := n) (Nat.le_of_succ_le_succ hl) fun y hy => h y (Zze _ hy)
   have e : ((n + 1 : Nat) : Int) * c = n * c + c := by rw [Int.natCast_add, Int.add_mul]; simp
   omega
theorem ge {xs : List Int} {B : Int} (hB : 0 <= B) (h : ∀ x ∈ xs, 0 <= x /\ x <= B) (i : Nat) : 0 <= xs.getD i 0 /\ xs.getD i 0 <= B := by
 rw [Zza]
 cases e : xs[i]? with
 | none => exact ⟨Zz6 _, hB⟩
 | some x => exact h x (Zzn e)
theorem V9 {xs : List Int} {B : Int} (hB : 0 <= B) (h : ∀ x ∈ xs, 0 <= x /\ x <= B) (lag : Int) (d : Nat) : 0 <= bAt xs lag d /\ bAt xs lag d <= B := by
 unfold bAt
 split
 ·exact ge hB h _
 ·exact ⟨Zz6 _, hB⟩
theorem Qc {S : Sh} (E : Oh S) {plan : Str -> List Int} {B : Int} (hB : 0 <= B) (h : ∀ nm, ∀ x ∈ plan nm, 0 <= x /\ x <= B) (nm : Str) (d : Nat) : 0 <= Ba S plan nm d /\ Ba S plan nm d <= 21 * 10 ^ 100 + 12 * (12 * (10 ^ 41 * B)) := by
 have hB2 : 0 <= 10 ^ 41 * B := Zwz (by decide +kernel) hB
 have w0 : 0 <= Bf (wAt nm d) S.wants := Ff fun u hu => by
  unfold wAt
  split
  ·exact (E.wt.2 u hu).1
  ·exact Zz6 _
 have w1 : Bf (wAt nm d) S.wants <= (21 : Nat) * (10 : Int) ^ 100 := M4 (by decide +kernel) E.wt.1 fun u hu => by
  unfold wAt
  split
  ·exact (E.wt.2 u hu).2
  ·decide +kernel
 have p0 : 0 <= Bf (pAt plan nm d) S.wares := Ff fun t ht => Ff fun p hp => by
  split
  ·exact Zwz (by have := ((E.wb t ht).2.2.2.2 p hp).1; omega) (V9 hB (h t.name) t.lag d).1
  ·exact Zz6 _
 have p1 : Bf (pAt plan nm d) S.wares <= (12 : Nat) * (12 * (10 ^ 41 * B)) := M4 (by omega) E.few fun t ht => by
  have : pAt plan nm d t <= (12 : Nat) * (10 ^ 41 * B) := M4 hB2 (E.wb t ht).2.2.2.1 fun p hp => by
   split
   ·have h3 := (E.wb t ht).2.2.2.2 p hp
    have h4 := V9 hB (h t.name) t.lag d
    exact Int.mul_le_mul h3.2 h4.2 h4.1 (by decide +kernel)
   ·exact hB2
  exact this
 unfold Ba
 exact ⟨by omega, Int.add_le_add w1 p1⟩
theorem Od {S : Sh} (E : Oh S) {w : Wr} (hw : w ∈ S.wares) (d : Nat) : 0 <= Bh w d := by
 unfold Bh
 have h1 : 0 <= (if d = 0 then w.stock else 0) := by
  split
  ·exact (E.wb w hw).2.2.1
  ·exact Zz6 _
 have h2 : 0 <= Bf (cAt d) w.coming := Ff fun p hp => by
  unfold cAt
  split
  ·exact E.com w hw p hp
  ·exact Zz6 _
 omega
theorem bw {S : Sh} (E : Oh S) : ∀ (k : Nat) (nm : Str), ∀ x ∈ LRF S k nm, 0 <= x /\ x <= 10 ^ (105 + 45 * k)
 | 0, nm, x, h => by cases h
 | k + 1, nm, x, h => by
  have hB : (0 : Int) <= 10 ^ (105 + 45 * k) := Int.pow_nonneg (by decide)
  have h1 : (1 : Int) <= 10 ^ (105 + 45 * k) := Int.pow_pos (by decide)
  have e : (10 : Int) ^ (105 + 45 * (k + 1)) = 10 ^ (105 + 45 * k) * 10 ^ 45 := by rw [<- Int.pow_add]; rfl
  have hbig : (10 : Int) ^ 105 <= 10 ^ (105 + 45 * k) := by
   have : (10 : Nat) ^ 105 <= 10 ^ (105 + 45 * k) := Zw2 (by decide) (by omega)
   exact_mod_cast this
  rw [LRF] at h
  split at h
  ·rename_i w hw
   have hw2 := (Ks hw).1
   unfold lots at h
   obtain ⟨i, hi, rfl⟩ := Zzx.mp h
   have hi := Zwm.mp hi
   have hwb := E.wb w hw2
   have hn := Qc E hB (fun y => bw E k y) nm i
   have e1 : (At (daysN S) (Bh w)).getD i 0 = Bh w i := Bg hi
   have e2 : (Ao S (LRF S k) nm).getD i 0 = Ba S (LRF S k) nm i := Bg hi
   have h2 := Zl (f := w.floor) (g := w.gives) (xs := At (daysN S) (Bh w)) (ys := Ao S (LRF S k) nm) (i := i) (by omega) hwb.2.1.1 (by rw [e1]; exact Od E hw2 i) (by rw [e2]; exact hn.1)
   rw [e2] at h2
   refine ⟨Zk _ _ _ _ _, ?_⟩
   rw [e]
   have hn2 := hn.2
   have hf := hwb.2.1.2
   generalize (10 : Int) ^ (45 * k) = B at hB h1 hn2 ⊢
   omega
  ·cases h
theorem Ol {S : Sh} (E : Oh S) (nm : Str) : ∀ x ∈ LR S nm, 0 <= x /\ x < 10 ^ 700 := fun x hx => by
 have h1 := bw E S.wares.length nm x hx
 have h2 : (10 : Int) ^ (105 + 45 * S.wares.length) <= 10 ^ (105 + 45 * 12) := by
  have : (10 : Nat) ^ (105 + 45 * S.wares.length) <= 10 ^ (105 + 45 * 12) := Zw2 (by decide) (Nat.add_le_add_left (Nat.mul_le_mul_left _ E.few) _)
  exact_mod_cast this
 exact ⟨h1.1, Zxw (Zxk h1.2 h2) (by decide +kernel)⟩
def Cm (row : List Int) (lag : Int) : Nat -> Option Nat
 | 0 => none
 | n + 1 => match Cm row lag n with
  | some d => some d
  | none => if (n : Int) < lag /\ 0 < row.getD n 0 then some n else none
def Do (row : List Int) (lag : Int) : Option Nat := Cm row lag row.length
theorem Ez {row : List Int} {lag : Int} : ∀ {n : Nat}, Cm row lag n = none -> ∀ e, e < n -> ¬ ((e : Int) < lag /\ 0 < row.getD e 0)
 | 0, _, e, he => absurd he (Zw1 _)
 | n + 1, h, e, he => by
  rw [Cm] at h
  split at h
  ·cases h
  ·rename_i q
   split at h
   ·cases h
   ·rename_i c
    by_cases z : e = n
    ·subst z
     exact c
    ·exact Ez q e (by omega)
theorem Oa {row : List Int} {lag : Int} {n d : Nat} (h : Cm row lag n = some d) : ∀ k, Cm row lag (n + k) = some d
 | 0 => h
 | k + 1 => by
  show Cm row lag ((n + k) + 1) = some d
  rw [Cm, Oa h k]
theorem V0 {row : List Int} {lag : Int} {n d : Nat} (h : Cm row lag n = some d) (hn : n <= row.length) : Do row lag = some d := by
 have := Oa h (row.length - n)
 rw [Zvy hn] at this
 exact this
theorem Lv {row : List Int} {lag : Int} : ∀ {n d : Nat}, Cm row lag n = some d -> d < n /\ (d : Int) < lag /\ 0 < row.getD d 0 /\ ∀ e, e < d -> ¬ ((e : Int) < lag /\ 0 < row.getD e 0)
 | 0, d, h => by cases h
 | n + 1, d, h => by
  rw [Cm] at h
  split at h
  ·rename_i d' e
   obtain rfl := Zzc h
   obtain ⟨h1, h2, h3, h4⟩ := Lv e
   exact ⟨by omega, h2, h3, h4⟩
  ·rename_i e
   split at h
   ·rename_i c
    obtain rfl := Zzc h
    exact ⟨by omega, c.1, c.2, fun i hi => Ez e i hi⟩
   ·cases h
def Gf (S : Sh) (plan : Str -> List Int) (w : Wr) : Nat -> Option (Str × Nat)
 | 0 => none
 | n + 1 => match Gf S plan w n with
  | some x => some x
  | none => if Do (plan w.name) w.lag = some n then some ("early", n) else if (E6 S plan w).getD n 0 < w.floor then some ("below", n) else none
def Iy (S : Sh) (plan : Str -> List Int) (w : Wr) : Option (Str × Nat) := Gf S plan w (daysN S)
theorem O7 {S : Sh} {plan : Str -> List Int} {w : Wr} {n : Nat} {x : Str × Nat} (h : Gf S plan w n = some x) : ∀ k, Gf S plan w (n + k) = some x
 | 0 => h
 | k + 1 => by
  show Gf S plan w ((n + k) + 1) = some x
  rw [Gf, O7 h k]
theorem O6 {S : Sh} {plan : Str -> List Int} {w : Wr} {n : Nat} {x : Str × Nat} (h : Gf S plan w n = some x) (hn : n <= daysN S) : Iy S plan w = some x := by
 have := O7 h (daysN S - n)
 rw [Zvy hn] at this
 exact this
def Nt (S : Sh) (plan : Str -> List Int) (ys : List Str) : Nat -> Option (Str × Str × Nat)
 | 0 => none
 | n + 1 => match Nt S plan ys n with
  | some x => some x
  | none => match ys[n]? with
   | none => none
   | some y => match Hr S y with
    | none => none
    | some w => (Iy S plan w).map fun x => (x.1, y, x.2)
def W2 (S : Sh) (plan : Str -> List Int) (ys : List Str) : Option (Str × Str × Nat) := Nt S plan ys ys.length
theorem Tw {S : Sh} {plan : Str -> List Int} {ys : List Str} {n : Nat} {x : Str × Str × Nat} (h : Nt S plan ys n = some x) : ∀ k, Nt S plan ys (n + k) = some x
 | 0 => h
 | k + 1 => by
  show Nt S plan ys ((n + k) + 1) = some x
  rw [Nt, Tw h k]
theorem Zp {S : Sh} {plan : Str -> List Int} {ys : List Str} {n : Nat} {x : Str × Str × Nat} (h : Nt S plan ys n = some x) (hn : n <= ys.length) : W2 S plan ys = some x := by
 have := Tw h (ys.length - n)
 rw [Zvy hn] at this
 exact this
theorem Xm {S : Sh} {plan : Str -> List Int} {ys : List Str} {n : Nat} {w : Wr} (nd : (S.wares.map (·.name)).Nodup) (h : Nt S plan ys n = none) (hy : ys[n]? = some w.name) (hw : w ∈ S.wares) : Nt S plan ys (n + 1) = (Iy S plan w).map fun x => (x.1, w.name, x.2) := by
 rw [Nt, h, hy]
 show (match Hr S w.name with | none => none | some w' => (Iy S plan w').map fun x : Str × Nat => (x.1, w.name, x.2)) = _
 rw [Hq nd hw]
def judV : Option (Str × Str × Nat) -> List V
 | none => [.str "good"]
 | some (k, nm, d) => [.str k, .str nm, .int d]
end NP
set_option maxHeartbeats 400000
namespace L2
open PySem PySem.Spec PyProof.Rows PySem.W NP
section
variable {prog : Program} {w : World} {A : Around} {E : Value -> Shared -> Prop} {s : Shared}
end
def ju : List V -> Hp -> VK -> Prop := fun vs H Q => ∃ (a : Addr) (as : List Addr) (kz : Nat -> Int), vs = [.ref a] /\ H a = some (.lst (as.map V.ref)) /\ as.length < 64 /\ (∀ i, i < as.length -> H (as.getD i 0) = some (.tup [.int (kz i), .int i])) /\
 ∀ (r : Addr) (ps : List Nat), H r = none -> ps.Perm (Zyr as.length) -> ps.Pairwise (klt kz) -> Q (.ref r) (upd H r (.lst (ps.map fun i => V.ref (as.getD i 0))))
end L2
namespace L2
open PySem PySem.Spec PyProof.Rows
def Uw (ns : Nat -> Int) : Nat -> Int
 | 0 => ns 0
 | k + 1 => if ns (k + 1) < Uw ns k then ns (k + 1) else Uw ns k
section
variable {prog : Program} {w : World} {A : Around} {R : Result -> Shared -> Prop} {I : Addr} {fp wr : List Addr} {n : Nat} {P : Nat -> Value -> Prop} {St : Nat -> Heap -> Prop}
end
def minL (ns : List Int) : Int := Uw (fun i => (ns[i]?).getD 0) (ns.length - 1)
section
variable {X : Cx}
def ow : List V -> Hp -> VK -> Prop := fun vs H Q => ∃ a ns, vs = [.ref a] /\ H a = some (.lst (ns.map V.int)) /\ ns ≠ [] /\ Q (.int (minL ns)) H
end
end L2
namespace L2
open PySem PySem.Spec PyProof.Rows PySem.W NP
section
variable {X : Cx}
end
end L2
namespace L2
open PySem PySem.Spec PyProof.Rows
section
variable {X : Cx}
end
end L2
set_option maxHeartbeats 4000000
namespace L2
open PySem PySem.Spec PyProof.Rows PySem.W
theorem ObjOk.ex {P : Program} {w : World} {H : Hp} {h : Heap} {a : Addr} {o : HO} (x : ObjOk P w H h a o) : ∃ ob, h.get? a = some ob := by
 cases o with
 | lst xs => obtain ⟨_, _, _, _, e⟩ := x; exact ⟨_, e⟩
 | tup xs => obtain ⟨_, _, _, ob, e, _⟩ := x; exact ⟨ob, e⟩
 | dK kvs => obtain ⟨_, _, _, _, o, _, _, e, _⟩ := x; exact ⟨o, e⟩
 | dT kvs => obtain ⟨_, _, _, _, o, _, _, e, _⟩ := x; exact ⟨o, e⟩
 | set S n => obtain ⟨ob, _, _, _, e, _⟩ := x; exact ⟨ob, e⟩
 | ins C dx fs => obtain ⟨_, _, _, e, _⟩ := x; exact ⟨_, e⟩
 | own y => exact x
 | xd fs => obtain ⟨_, ⟨od, _, _, e, _⟩, _⟩ := x; exact ⟨od, e⟩
 | rng lo hi => obtain ⟨_, _, _, e⟩ := x; exact ⟨_, e⟩
 | frz ob u => exact ⟨_, x.1⟩
 | tbl ps => exact ⟨_, x⟩
 | met f y => exact ⟨_, x⟩
 | ext φ => exact x.2.1
structure Fl (P : Program) (w : World) (fs : List Addr) (H : Hp) (h : Heap) (a : Addr) (H' : Hp) (B h' : Heap) : Prop where
 un : Un fs [] H H' h h'
 hok : HOk P w H' h'
 new : h.get? a = none
 free : H' a = none
 k1 : ∀ b o, h.get? b = some o -> H b = none -> b ∉ fs -> B.get? b = some o
 k2 : ∀ b o u, H' b = some u -> h'.get? b = some o -> B.get? b = some o
 k3 : ∀ b o, h.get? b = some o -> b ∉ fs -> ∃ o', B.get? b = some o'
 fr : ∀ b ∈ fs, ∃ o, h.get? b = some o /\ H b = none /\ ∀ vs, o.data ≠ .fields vs
section
variable {P : Program} {w : World} {fs : List Addr} {H H' H0 : Hp} {h h0 h1 h2 B : Heap} {a L : Addr}
theorem Fl.slots (F : Fl P w fs H h a H' B h1) (up : h1.UpToSlots h2) {b : Addr} {o : Obj} (e : h.get? b = some o) (hb : b ∈ fs) : ∃ sl, h2.get? b = some { o with slots := sl } := by
 obtain ⟨o', e', n, hd⟩ := F.fr b hb
 rw [e] at e'
 cases e'
 obtain ⟨sl, q⟩ := F.un.slot b o e n hb (by simp)
 obtain ⟨sl2, q2⟩ := up b _ q hd
 exact ⟨sl2, q2⟩
theorem Fl.on (F : Fl P w fs H h a H' B h1) (st : B.StaysIn h2) (up : h1.UpToSlots h2) : Fl P w fs H h a H' B h2 where
 un := {
  keep := fun b o e n hb _ => st b o (F.k1 b o e n hb)
  slot := fun b o e n hb _ => F.slots up e hb
  free := F.un.free
  there := fun b o e _ => by
   by_cases hb : b ∈ fs
   ·obtain ⟨sl, q⟩ := F.slots up e hb
    exact ⟨_, q⟩
   ·obtain ⟨o', q⟩ := F.k3 b o e hb
    exact ⟨o', st b o' q⟩
  tups := F.un.tups
  frzs := F.un.frzs
  tbls := F.un.tbls }
 hok := fun b u e => (F.hok b u e).stay (fun c o hc q => st c o (by
  rcases hc with rfl | hc
  ·exact F.k2 _ o u e q
  ·exact F.k2 c o _ hc q)) (fun _ q => q) fun _ _ q => q
 new := F.new
 free := F.free
 k1 := F.k1
 k2 := fun b o u e q => by
  obtain ⟨o1, q1⟩ := (F.hok b u e).ex
  have z := F.k2 b o1 u e q1
  have z2 := st _ _ z
  rw [q] at z2
  cases z2
  exact z
 k3 := F.k3
 fr := F.fr
theorem Fl.out (F : Fl P w (L :: fs) H h a H' B h1) (U : Un fs [] H0 H h0 h) (hL : h0.objs.size <= L) (fr : ∀ b ∈ fs, ∃ o, h0.get? b = some o /\ H0 b = none /\ ∀ vs, o.data ≠ .fields vs) : Fl P w fs H0 h0 a H' B h1 := by
 have nL : ∀ b o, h0.get? b = some o -> b ∉ fs -> b ∉ L :: fs := fun b o e hb z => by
  rcases Zzk.mp z with z | z
  ·rw [z] at e
   exact absurd (Zz9 (Zzj e) hL) (Zxg _)
  ·exact hb z
 have nx : ∀ b : Addr, b ∉ ([] : List Addr) := fun b z => by cases z
 refine ⟨⟨fun b o e n hb hx => ?_, fun b o e n hb hx => ?_, fun b o e n hx => ?_, fun b o e hx => ?_, fun b xs e => F.un.tups b xs (U.tups b xs e), fun b o u e => F.un.frzs b o u (U.frzs b o u e), fun b ps e => ?_⟩, F.hok, ?_, F.free, fun b o e n hb => ?_, F.k2, fun b o e hb => ?_, fr⟩
 ·exact F.un.keep b o (U.keep b o e n hb hx) (U.free b o e n hx) (nL b o e hb) hx
 ·obtain ⟨sl, q⟩ := U.slot b o e n hb hx
  obtain ⟨sl2, q2⟩ := F.un.slot b _ q (U.free b o e n hx) (Zze _ hb) hx
  exact ⟨sl2, q2⟩
 ·obtain ⟨o', q⟩ := U.there b o e hx
  exact F.un.free b o' q (U.free b o e n hx) hx
 ·obtain ⟨o', q⟩ := U.there b o e hx
  exact F.un.there b o' q hx
 ·obtain ⟨m1, e1⟩ := U.tbls b ps e
  obtain ⟨m2, e2⟩ := F.un.tbls b _ e1
  exact ⟨m1 ++ m2, by rw [e2, Zvx]⟩
 ·cases e : h0.get? a with
  | none => rfl
  | some o =>
   obtain ⟨o', q⟩ := U.there a o e (nx a)
   rw [F.new] at q
   cases q
 ·exact F.k1 b o (U.keep b o e n hb (nx b)) (U.free b o e n (nx b)) (nL b o e hb)
 ·obtain ⟨o', q⟩ := U.there b o e (nx b)
  exact F.k3 b o' q (nL b o e hb)
end
abbrev CXE (P : Program) (w : World) : CXT := fun outer H s E e s' => ∃ (a : Addr) (cls : Value) (H' : Hp) (B : Heap) (t : Addr), e = .ref a /\ s'.os = s.os /\ AllBare s'.gens /\ Fl P w (frs outer) H s.heap a H' B s'.heap /\ Heap.FlyingW B outer a cls (.ref t) s'.heap /\ E cls none H'
abbrev XG := Value -> St -> Hp -> Prop
def Oi (X : Cx) (G : XG) : Prop := ∀ (pins : List (Addr × Obj)) (σ : St) (H : Hp) (s : Shared) (e : Value) (s' : Shared), Inv X pins σ H s -> CXE X.prog X.w X.stack H s (fun cls _ H' => G cls σ H') e s' -> X.xe e s'
def br (X : Cx) (G : XG) : Prop := ∀ (pins : List (Addr × Obj)) (σ : St) (H : Hp) (s : Shared) (h' : Heap) (e : Addr) (cls : Value) (vs : List Value), Inv X pins σ H s -> Heap.MadeExcOf s.heap h' e cls vs -> G cls σ H -> X.xe (.ref e) { s with heap := h' }
section
variable {P : Program} {w : World} {K : Zzu} {mg : Str -> Option Value} {base : Heap} {N : List Str} {qual : Str} {scope : Scope} {f : Addr} {cd : Value} {A : Around} {outer : List Env} {s : Shared} {H : Hp} {E : XK}
theorem Inv.frfl {X : Cx} {pins : List (Addr × Obj)} {σ : St} {H : Hp} {s : Shared} (I : Inv X pins σ H s) : ∀ b ∈ frs X.stack, ∃ o, s.heap.get? b = some o /\ H b = none /\ ∀ vs, o.data ≠ .fields vs := fun b hb => by
 obtain ⟨_, o, ho, hd⟩ := I.stack.mem hb
 exact ⟨o, ho, I.stkFree b hb, hd⟩
theorem ja {X : Cx} {pins : List (Addr × Obj)} {σ : St} {H : Hp} {s : Shared} (I : Inv X pins σ H s) : ∀ b ∈ frs X.outer, ∃ o, X.s₀.heap.get? b = some o /\ X.H₀ b = none /\ ∀ vs, o.data ≠ .fields vs := fun b hb => by
 obtain ⟨_, o, ho, hd⟩ := I.ok.funs.mem hb
 exact ⟨o, ho, I.ok.frf b hb, hd⟩
theorem D0 : Oi (Pf (CXE P w) P w K mg base N qual scope f cd A outer s H E) fun cls _ H' => E cls none H' := by
 intro pins σ H1 s1 e s' I ⟨a, cls, H2, B, t, he, os, bare, F, fl, hE⟩
 subst he
 refine wpAny_leaves_onW (outer := outer) I.ok.frames rfl fl fun h' fl' up => ?_
 have F1 : Fl P w (s.heap.objs.size :: frs outer) H1 s1.heap a H2 B h' := F.on fl'.1 up
 exact ⟨a, cls, H2, B, t, rfl, os.trans I.os, bare, F1.out I.base (Zzt _) (ja I), fl', hE⟩
theorem Inv.flNew {X : Cx} {pins : List (Addr × Obj)} {σ : St} {H : Hp} {s : Shared} {h' : Heap} {e : Addr} {cls : Value} {vs : List Value} (I : Inv X pins σ H s) (hx : Heap.MadeExcOf s.heap h' e cls vs) : Fl X.prog X.w (frs X.stack) H s.heap e H (hideAll s.heap (frs X.stack)) h' where
 un := Un.kept hx.keeps
 hok := I.hok.kept hx.keeps
 new := hx.new
 free := by
  cases q : H e with
  | none => rfl
  | some u =>
   obtain ⟨ob, z⟩ := (I.hok e u q).ex
   rw [hx.new] at z
   cases z
 k1 := fun b o q _ hb => hideAll_get _ q hb
 k2 := fun b o u q z => by
  obtain ⟨o1, z1⟩ := (I.hok b u q).ex
  have z2 := hx.keeps b o1 z1
  rw [z] at z2
  cases z2
  exact hideAll_get _ z1 fun m => by rw [I.stkFree b m] at q; cases q
 k3 := fun b o q hb => ⟨o, hideAll_get _ q hb⟩
 fr := I.frfl
theorem ix : br (Pf (CXE P w) P w K mg base N qual scope f cd A outer s H E) fun cls _ H' => E cls none H' := by
 intro pins σ H1 s1 h' e cls vs I hx hE
 have F := I.flNew hx
 refine wpAny_leaves_madeW (outer := outer) (h := s1.heap) (base := hideAll s1.heap (frs (envOfC qual scope s.heap.objs.size f cd :: outer))) I.ok.frames rfl (fun b o q => of_hideAll _ q) (funFrames_hide I.stack fun env he b hb => Zxr.mpr ⟨env, he, hb⟩) hx fun h2 t fl _ _ up => ?_
 have F1 : Fl P w (s.heap.objs.size :: frs outer) H1 s1.heap e H1 _ h2 := F.on fl.1 up
 exact ⟨e, cls, H1, _, t, rfl, I.os, I.bare, F1.out I.base (Zzt _) (ja I), fl, hE⟩
end
theorem Fun.okX {P : Program} {w : World} {K : Zzu} {mg : Str -> Option Value} {base : Heap} {x qual : Str} {st : Stmt} {f : Addr} {fd : FuncData} {N ps : List Str} {k : Nat} {sp : Sp} (F : Fun K x qual st f fd) (S : Aj N ps (A8 st)) (len : ∀ vs H Q E, sp vs H Q E -> vs.length = ps.length)
  (hbody : ∀ (cdv : Value) (A : Around) (outer : List Env) (s : Shared) (H : Hp) (vs : List V) (Q : VK) (E : XK), Room k (A.deeper (envOfC qual (A8 st) s.heap.objs.size f cdv)) -> sp vs H Q E ->
   ∃ t, PSs (Pf (CXE P w) P w K mg base N qual (A8 st) f cdv A outer s H E) (Ae st) t /\ t { nx := fun _ H' => Q .non H', rt := Q } (Hu N vs) H) : FnOk P w K mg base (CXE P w) (k + 1) f fd ps sp := by
 obtain ⟨oc, od, kV, doc, pm, an, cdv, ct, osl, rfl, lk, hcd⟩ := F.ex
 exact ae lk hcd S len fun A outer s H vs Q E hr hsp => hbody cdv A outer s H vs Q E hr hsp
def HasX (P : Program) (w : World) (K : Zzu) (mg : Str -> Option Value) (base : Heap) (x : Str) (k : Nat) (ps : List Str) (sp : Sp) : Prop :=
 ∃ f fd, mg x = some (.ref f) /\ Zzo K (.ref f) = true /\ Binds K fd ps [] /\ FnOk P w K mg base (CXE P w) k f fd ps sp
def Yp (sp : Sp) (G : XG) (t : TA) : TE := fun σ H Q => t σ H fun vs H1 => sp vs H1 Q fun cls _ H' => G cls σ H'
theorem Vl {X : Cx} {k : Nat} {f : Addr} {fd : FuncData} {ps : List Str} {sp : Sp} {G : XG} {pins : List (Addr × Obj)} {σ : St} {H : Hp} {s : Shared} {Q : VK} {us : List Value} {vs : List V} (F : FnOk X.prog X.w X.K X.mg X.base (CXE X.prog X.w) k f fd ps sp) (hr : Room k X.A) (hb : Binds X.K fd ps []) (hp : Oi X G)
  (I : Inv X pins σ H s) (r : Vals vs us) (h : sp vs H Q fun cls _ H' => G cls σ H') : wpAny (model X.prog X.w) X.A (call (.ref f) us) (EP X pins σ Q) X.xe s := by
 have hl : us.length = ps.length := by rw [<- r.length]; exact F.len _ _ _ _ h
 have hb' := hb s us I.kIn (by rw [Zxz]; exact hl)
 rw [Zxz] at hb'
 refine wpAny_call (codeAny_mono (F.run X.A X.stack s H ⟨us, []⟩ us vs Q _ hr I.env0 hb' r h) fun r s' hq => ?_)
 cases r with
 | error e => exact hp pins σ H s e s' I hq
 | ok fl =>
  cases fl with
  | ret u => exact I.after hq
  | next => exact False.elim hq
  | brk => exact False.elim hq
  | cont => exact False.elim hq
theorem Bd {X : Cx} {x : Str} {k : Nat} {ps : List Str} {sp : Sp} {G : XG} {e : Expr} {es : List Expr} {t : TA} {p pos : Pos} (h : HasX X.prog X.w X.K X.mg X.base x k ps sp) (hp : Oi X G) (hr : Room k X.A) (hg : Gl X x) (ha : PA X (e :: es) t) (hn : Bu (e :: es) = true := by rfl) (hdb : (x == ("__debug__" : Str)) = false := by decide) :
  PE X (.Call (.Name x p) (e :: es) [] pos) (Yp sp G t) := by
 obtain ⟨f, fd, hm, hk, hb, F⟩ := h
 intro pins s σ H Q I ht
 refine wpAny_Call_Name_kw (Kg I hg hm ?_ hdb)
 refine Zvv (h₀ := X.base) I.ok.mod.kin hk (thn (ha pos pins s σ H _ I ht) fun us s1 ⟨vs, H1, I1, r, q⟩ => ⟨I1.kIn, ?_⟩) (Bb (As hn).1) (C4 (As hn).2)
 exact Vl F hr hb hp I1 r q
abbrev Cx.tried (X : Cx) (pn : List (Addr × Obj)) (W : Value -> Shared -> Prop) : Cx := { X with pn := pn, xe := W }
abbrev Cx.caught (X : Cx) (a : Addr) : Cx := { X with A := X.A.mark (some (.ref a)), calm := false, xe := fun _ _ => False }
def O8 (a : Addr) (cls : Value) : HO := .ext fun h => ∃ o, h.get? a = some o /\ o.cls = cls
section
variable {X : Cx} {pins : List (Addr × Obj)} {σ : St} {H H' : Hp} {s s' : Shared} {W : Value -> Shared -> Prop} {a : Addr} {cls : Value} {B : Heap}
theorem Inv.tried (I : Inv X pins σ H s) (W : Value -> Shared -> Prop) : Inv (X.tried (X.pn ++ pins) W) [] σ H s :=
 ⟨⟨I.ok.mod, I.ok.kind, I.ok.glob, I.ok.blt, I.ok.above, I.ok.inj, I.ok.has, I.ok.cab, I.ok.hd, I.ok.frames, I.ok.stk, I.ok.exf, I.ok.bs, I.ok.bsz, I.ok.noex, I.ok.exfs, I.ok.funs, I.ok.frf⟩, I.os, I.bare, I.base, I.loc, I.cell, I.free, I.freeC, fun p hp => I.pin p (by rw [Zxz] at hp; exact hp), I.hok, I.len⟩
theorem Inv.untried {ps : List (Addr × Obj)} (I : Inv (X.tried (X.pn ++ pins) W) ps σ H s) : Inv X pins σ H s :=
 ⟨⟨I.ok.mod, I.ok.kind, I.ok.glob, I.ok.blt, I.ok.above, I.ok.inj, I.ok.has, I.ok.cab, I.ok.hd, I.ok.frames, I.ok.stk, I.ok.exf, I.ok.bs, I.ok.bsz, I.ok.noex, I.ok.exfs, I.ok.funs, I.ok.frf⟩, I.os, I.bare, I.base, I.loc, I.cell, I.free, I.freeC, fun p hp => I.pin p (Zy7 _ hp), I.hok, I.len⟩
theorem Inv.caught (I : Inv X pins σ H s) (a : Addr) : Inv (X.caught a) pins σ H s :=
 ⟨⟨I.ok.mod, I.ok.kind, I.ok.glob, I.ok.blt, I.ok.above, I.ok.inj, I.ok.has, I.ok.cab, (fun z => by cases z), I.ok.frames, I.ok.stk, I.ok.exf, I.ok.bs, I.ok.bsz, I.ok.noex, I.ok.exfs, I.ok.funs, I.ok.frf⟩, I.os, I.bare, I.base, I.loc, I.cell, I.free, I.freeC, I.pin, I.hok, I.len⟩
theorem Inv.uncaught (I : Inv (X.caught a) pins σ H s) (ok : X.Ok) : Inv X pins σ H s := ⟨ok, I.os, I.bare, I.base, I.loc, I.cell, I.free, I.freeC, I.pin, I.hok, I.len⟩
theorem Inv.lands (I : Inv X pins σ H s) (os : s'.os = s.os) (bare : AllBare s'.gens) (F : Fl X.prog X.w (frs X.stack) H s.heap a H' B s'.heap) (hc : ∃ o, s'.heap.get? a = some o /\ o.cls = cls) : Inv X pins σ (upd H' a (O8 a cls)) s' := by
 have na : ∀ b u, H' b = some u -> b ≠ a := fun b u e z => by rw [z, F.free] at e; cases e
 refine I.call' (ch := []) os ⟨F.un.keep, F.un.slot, fun b o e n hx => ?_, F.un.there, fun b xs e => ?_, fun b o u e => ?_, fun b ps e => ?_⟩ (fun b u e => ?_) bare (fun b z => by cases z)
 ·rw [A5 (fun z => by rw [z, F.new] at e; cases e)]
  exact F.un.free b o e n hx
 ·have q := F.un.tups b xs e
  rw [A5 (na b _ q)]
  exact q
 ·have q := F.un.frzs b o u e
  rw [A5 (na b _ q)]
  exact q
 ·obtain ⟨more, q⟩ := F.un.tbls b ps e
  exact ⟨more, by rw [A5 (na b _ q)]; exact q⟩
 ·by_cases hb : b = a
  ·subst hb
   rw [A0] at e
   cases e
   obtain ⟨o, ho, hcl⟩ := hc
   exact ⟨⟨o, ho, hcl⟩, ⟨o, ho⟩, fun h1 h2 ⟨o, e, c⟩ k => ⟨o, k o e, c⟩⟩
  ·rw [A5 hb] at e
   exact (F.hok b u e).stay (fun c o _ q => q) (fun c q => by rw [A5 (na c _ q)]; exact q) fun c xs q => by rw [A5 (na c _ q)]; exact q
theorem Iu {M : Model} {A : Around} {E : Value -> Shared -> Prop} {i : Nat} {n : Str} {pos : Pos} {Q : Unit -> Shared -> Prop} (I : Inv X pins σ H s) (nd : X.N.Nodup) (hi : X.N[i]? = some n) (hl : X.env.scope.names.lookup n = some .local) (h : ∀ s', Inv X pins (σ.set i none) H s' -> Q () s') :
  wpAny M A (do bindName X.env n .none; unbindBehindTheSuite X.env n pos) Q E s := by
 obtain ⟨m, hn, hlk⟩ := I.loc
 refine wpAny_nameGoes_keeps (m := m) hl hn (by rw [I.ok.kind]; rfl) fun h' v hn' hs => h _ ?_
 have neL : ∀ b o, X.s₀.heap.get? b = some o -> b ≠ X.env.locals := fun b o e => Zz0 (Zz9 (Zzj e) I.ok.above)
 refine ⟨I.ok, I.os, I.bare, ⟨fun b o e n hb hx => (hs.2 b (neL b o e)).trans (I.base.keep b o e n hb hx), fun b o e n hb hx => ?_, I.base.free, fun b o e hx => ?_, I.base.tups, I.base.frzs, I.base.tbls⟩, ⟨_, hn', fun j y v' e1 e2 e3 => ?_⟩, fun y c e => ?_, I.free, I.freeC, fun p hp => ?_, fun b u e => ?_, by rw [List.length_set]; exact I.len⟩
 ·obtain ⟨sl, q⟩ := I.base.slot b o e n hb hx
  exact ⟨sl, (hs.2 b (neL b o e)).trans q⟩
 ·obtain ⟨o', q⟩ := I.base.there b o e hx
  exact ⟨o', (hs.2 b (neL b o e)).trans q⟩
 ·by_cases hj : j = i
  ·subst hj
   rw [List.getElem?_set] at e2
   split at e2 <;> rename_i z
   ·split at e2 <;> cases e2
   ·exact absurd rfl z
  ·rw [Zy1 (Zzh hj)] at e2
   obtain ⟨u', r', q⟩ := hlk j y v' e1 e2 e3
   refine ⟨u', r', ?_⟩
   rcases q with ⟨k, e⟩ | ⟨k, c, e, z⟩
   ·refine .inl ⟨k, ?_⟩
    have : y ≠ n := fun e => hj (Nk nd e1 (e ▸ hi))
    simp [this, e]
   ·exact .inr ⟨k, c, e, z.sameBut hs (I.cne y c e)⟩
 ·obtain ⟨w', z⟩ := I.cell y c e
  exact ⟨w', z.sameBut hs (I.cne y c e)⟩
 ·obtain ⟨e, n, ne, nf, d⟩ := I.pin p hp
  exact ⟨(hs.2 p.1 ne).trans e, n, ne, nf, d⟩
 ·refine (I.hok b u e).stay (fun c o hc q => ?_) (fun _ q => q) fun _ _ q => q
  have nc : c ≠ X.env.locals := fun z => by
   rcases hc with rfl | hc
   ·rw [z, I.free] at e; cases e
   ·rw [z, I.free] at hc; cases hc
  exact (hs.2 c nc).trans q
end
def Ends.lose (D : Ends) (i : Nat) : Ends := { nx := fun σ H => D.nx (σ.set i none) H, rt := D.rt, bk := fun σ H => D.bk (σ.set i none) H, ct := fun σ H => D.ct (σ.set i none) H }
def nj (i : Nat) (fits : Value -> Prop) (tb : XG -> TS) (ts : TS) : TS := fun D σ H => tb (fun cls σ' H' => fits cls /\ ∀ a, H' a = none -> ts (D.lose i) (σ'.set i (some (.ref a))) (upd H' a (O8 a cls))) D σ H
theorem kh {X : Cx} {body suite : List Stmt} {b₀ : Stmt} {c n : Str} {cp hp pos : Pos} {i : Nat} {C0 : Addr} {tb : XG -> TS} {ts : TS} {fits : Value -> Prop} (nd : X.N.Nodup) (hi : X.N[i]? = some n) (hl : X.env.scope.names.lookup n = some .local) (hst : X.stack = X.env :: X.outer) (hfr : X.env.frame = some X.env.locals)
  (hg : Gl X c) (hm : X.mg c = some (.ref C0)) (hf : ∀ cls, fits cls -> exmOne X.K cls (.ref C0) = some true)
  (hb : ∀ (pn : List (Addr × Obj)) (W : Value -> Shared -> Prop) (G : XG), Oi (X.tried pn W) G -> PSs (X.tried pn W) body (tb G)) (hs : ∀ a, PSs (X.caught a) (b₀ :: suite) ts) (hd : (c == ("__debug__" : Str)) = false := by decide) :
  PS X (.Try body [.ExceptHandler (some (.Name c cp)) (some n) (b₀ :: suite) hp] [] [] pos) (nj i fits tb ts) := by
 intro pins s σ H D I h
 refine wpAny_Try_except ?_
 refine wpAny_mono (hb (X.pn ++ pins) (fun e s' => ∃ a cls σ1 H1 s1 H' B t, e = .ref a /\ Inv X pins σ1 H1 s1 /\ s'.os = s1.os /\ AllBare s'.gens /\ Fl X.prog X.w (frs X.stack) H1 s1.heap a H' B s'.heap /\ Heap.FlyingW B X.stack a cls (.ref t) s'.heap /\
  fits cls /\ ∀ a, H' a = none -> ts (D.lose i) (σ1.set i (some (.ref a))) (upd H' a (O8 a cls))) _ (fun ps σ1 H1 s1 e s' I1 ⟨a, cls, H', B, t, he, os, bare, F, fl, q⟩ => ⟨a, cls, σ1, H1, s1, H', B, t, he, I1.untried, os, bare, F, fl, q⟩) [] s σ H D (I.tried _) h) (fun f s1 q => ?_) (fun e s' q => ?_)
 ·cases f with
  | next => obtain ⟨σ', H', I', q⟩ := q; exact wpAny_pure ⟨σ', H', I'.untried, q⟩
  | brk => obtain ⟨σ', H', I', q⟩ := q; exact ⟨σ', H', I'.untried, q⟩
  | cont => obtain ⟨σ', H', I', q⟩ := q; exact ⟨σ', H', I'.untried, q⟩
  | ret u => obtain ⟨v, σ', H', I', r, q⟩ := q; exact ⟨v, σ', H', I'.untried, r, q⟩
 ·obtain ⟨a, cls, σ1, H1, s1, H', B, t, rfl, I1, os, bare, F, fl, hf1, hq⟩ := q
  have fl' := fl
  rw [hst] at fl'
  refine wpAny_looks_onW (outer := X.outer) (by rw [I.ok.frames, hst]) hfr fl' fun h4 held up4 => ?_
  refine wpAny_landsW held fun h5 fl5 up5 => ?_
  have F5 := (F.on held.1 up4).on fl5.1 up5
  have I5 : Inv X pins σ1 H' { s' with heap := h5 } := I1.call' (ch := []) os F5.un F5.hok bare (fun b z => by cases z)
  refine wpAny_handleBy_cons (codeAny_handlers_test ?_) (by intro z; cases z)
  refine Kg (X := X.caught a) (I5.caught a) hg hm ?_ hd
  obtain ⟨oe, hoe, hoc⟩ := fl5.there
  have LT : Looks (model X.prog X.w) h5 (typeOf (.ref a)) cls := hoc ▸ (Looks.ld hoe).andThen .now
  refine (exm_one I5.kIn LT (hf cls hf1)).here ?_
  refine codeAny_handlers_suite_as ?_
  refine lands_againW fl5 fun h6 fl6 up6 => ?_
  have F6 := F5.on fl6.1 up6
  have I6 : Inv X pins σ1 (upd H' a (O8 a cls)) { s' with heap := h6 } := I1.lands os bare F6 fl6.there
  refine Js (X := X.caught a) (I6.caught a) nd hi (.inl hl) (v := .ref a) rfl (fun s7 I7 => ?_) (.inr hl)
  refine wpAny_mono (hs a pins s7 _ _ (D.lose i) I7 (hq a F.free)) (fun f s8 q8 => ?_) (fun e s8 z => z.elim)
  cases f with
  | next => obtain ⟨σ', H2, I', q⟩ := q8; exact Iu (I'.uncaught I.ok) nd hi hl fun s9 I9 => ⟨_, H2, I9, q⟩
  | brk => obtain ⟨σ', H2, I', q⟩ := q8; exact Iu (I'.uncaught I.ok) nd hi hl fun s9 I9 => ⟨_, H2, I9, q⟩
  | cont => obtain ⟨σ', H2, I', q⟩ := q8; exact Iu (I'.uncaught I.ok) nd hi hl fun s9 I9 => ⟨_, H2, I9, q⟩
  | ret u => obtain ⟨v, σ', H2, I', r, q⟩ := q8; exact Iu (I'.uncaught I.ok) nd hi hl fun s9 I9 => ⟨v, _, H2, I9, r, q⟩
def Se : List Value := [.type "ValueError", .type "Exception", .type "BaseException", .type "object"]
def Uz (K : Frag) (C : Addr) : Bool := excIn K C Se "ValueError.__new__"
theorem Xr {K : Frag} {h : Heap} {C : Addr} (Y : K.In h) (z : Uz K C = true) :
  ∃ bm N nm q bs hdct sn sub ab col dd k0 k1 k2 k3 k5 mN, h.get? C = some (excClassObj nm q C N bs bm hdct sn sub ab col dd k0 k1 k2 k3 k5 "ValueError.__new__") /\ h.Ns N mN /\ mN "__init__" = none /\ OwnTail h Se bm := by
 unfold Uz excIn at z
 split at z
 ·rename_i d1 c1 l1 lk
  split at z
  ·rename_i C2 b2 a0 a1 a2 a3 nn a5 em es
   obtain ⟨z, z6⟩ := Zy0.mp z
   obtain ⟨z, z5⟩ := Zy0.mp z
   obtain ⟨z, z4⟩ := Zy0.mp z
   obtain ⟨z, z3⟩ := Zy0.mp z
   obtain ⟨z1, z2⟩ := Zy0.mp z
   have e1 := beq_iff_eq.mp z1
   have e2 := beq_iff_eq.mp z2
   have e6 := beq_iff_eq.mp z6
   subst e1 e2
   cases c1 with
   | mk nm1 bs1 mro1 ns1 qn1 hd1 sn1 sub1 ab1 col1 del1 =>
   have e3 : del1 = false := by simpa using z3
   have em : mro1 = _ := em
   subst e3 em
   have el : l1 = #[a0, a1, a2, a3, some (.builtin "ValueError.__new__"), a5] := by
    cases l1 with
    | mk l => exact congrArg Array.mk es
   subst el
   exact ⟨b2, ns1, nm1, qn1, bs1, hd1, sn1, sub1, ab1, col1, d1, a0, a1, a2, a3, a5, _, Y _ _ lk, .of_isNs (isNs_of_in Y z5), nsMap_none_of_in Y z5 e6, tail_of_in Y z4⟩
  ·cases z
 ·cases z
def Ym (C : Addr) (G : XG) (te : TA) : TS := fun D σ H => te σ H fun vs H1 => vs.length <= sizeLine /\ G (.ref C) σ H1
theorem T6 {X : Cx} {x : Str} {C : Addr} {G : XG} {e : Expr} {ta : TA} {np cpos pos : Pos} (hm : br X G) (hc : X.calm = true) (hg : Gl X x) (hmg : X.mg x = some (.ref C)) (q : Uz X.K C = true) (ha : PA X [e] ta) (hn : Bu [e] = true := by rfl) (hd : (x == ("__debug__" : Str)) = false := by decide) :
  PS X (.Raise (some (.Call (.Name x np) [e] [] cpos)) none pos) (Ym C G ta) := by
 intro pins s σ H D I h
 obtain ⟨bm, N, nm, qn, bs, hdct, sn, sub, ab, col, dd, k0, k1, k2, k3, k5, mN, hC, hN, hni, T⟩ := Xr I.ok.mod.kin q
 refine wpAny_Raise_call_subT (C := C) (nm := nm) (q := qn) (N := N) (bs := bs) (bm := bm) (hdct := hdct) (sn := sn) (sub := sub) (ab := ab) (col := col) (dd := dd) (k0 := k0) (k1 := k1) (k2 := k2) (k3 := k3) (k5 := k5) F.excBase_ValueError (mN := mN) (T.hasType F.excBase_ValueError.hasBase) (I.ok.hd hc) (by rw [Bb hn]; exact C4 rfl) hni ?_
 refine Kg I hg hmg ⟨rfl, ?_⟩ hd
 rw [Bb hn]
 have h1 := ha cpos pins s σ H _ I h
 rw [Bb hn] at h1
 exact Calls.evalArgs_plain (wpAny_mono h1 (fun us s2 ⟨vs, H1, I1, r, hv, hG⟩ => ⟨rfl, by rw [<- r.length]; exact hv, I1.bk _ _ hC, hN.keeps I1.bk, T.keeps I1.bk, fun h' e' hx => hm pins σ H1 s2 h' e' (.ref C) us I1 hx hG⟩) fun _ _ y => y)
abbrev TF := Nat -> St -> Hp -> (Hp -> Prop) -> Prop
def PF (X : Cx) (es : List Expr) (t : TF) : Prop := ∀ (pins : List (Addr × Obj)) (s : Shared) (σ : St) (H : Hp) (acc : Str) (Q : VK) (n : Nat), acc.length <= n -> Inv X pins σ H s -> t n σ H (fun H' => ∀ z : Str, Q (.str z) H') -> wpAny (model X.prog X.w) X.A (joinParts acc (evalEach es X.env)) (EP X pins σ Q) X.xe s
def tFnil : TF := fun n _ H K => n <= 1000000 /\ K H
def io (k : Nat) (t : TF) : TF := fun n σ H K => n + k <= 1000000 /\ t (n + k) σ H K
def il (te : TE) (t : TF) : TF := fun n σ H K => te σ H fun v H1 => ∃ y, v = .str y /\ n + y.length <= 1000000 /\ t (n + y.length) σ H1 K
def im (te : TE) (t : TF) : TF := fun n σ H K => te σ H fun v H1 => ∃ y, v = .str y /\ (∀ c ∈ y.cps.toList, c < 0x110000) /\ n + (10 * y.length + 2) <= 1000000 /\ t (n + (10 * y.length + 2)) σ H1 K
section
variable {X : Cx} {e : Expr} {es : List Expr} {te : TE} {t : TF} {x : Str} {j : Nat} {p q : Pos}
theorem He {n : Nat} (h : n <= 1000000) : n <= sizeLine := Zz5 h (by decide)
theorem Yw : PF X [] tFnil := fun pins s σ H acc Q n ha I h => joinParts_nil ⟨.str acc, H, I.tok _, ⟨_, rfl⟩, h.2 acc⟩ (He (Zz5 ha h.1))
theorem Yx (ht : PF X es t) : PF X (.Constant (.str x) j p :: es) (io x.length t) := fun pins s σ H acc Q n ha I h => by
 refine joinParts_cons (Calls.Constant_str ?_)
 have hl : (acc ++ x).length <= n + x.length := by rw [strLen_append]; omega
 exact ⟨He (Zz5 hl h.1), ht pins _ σ H (acc ++ x) Q _ hl (I.tok _) h.2⟩
theorem kn (he : PE X e te) (ht : PF X es t) : PF X (.FormattedValue e (-1) none p :: es) (il te t) := fun pins s σ H acc Q n ha I h => by
 refine joinParts_cons (FormattedValue_plain (thn (he pins s σ H _ I h) fun u s1 ⟨v, H1, I1, r, y, hv, hy, hq⟩ => ?_))
 subst hv
 obtain ⟨tk, rfl⟩ := r
 have hl : (acc ++ y).length <= n + y.length := by rw [strLen_append]; omega
 exact formatField_str (fun t' tk' => ⟨He (Zz5 hl hy), ht pins _ σ H1 (acc ++ y) Q _ hl (I1.tok _) hq⟩) (He (by omega))
theorem ko (he : PE X e te) (ht : PF X es t) : PF X (.FormattedValue e 114 none p :: es) (im te t) := fun pins s σ H acc Q n ha I h => by
 refine joinParts_cons (wpAny_FormattedValue_repr (thn (he pins s σ H _ I h) fun u s1 ⟨v, H1, I1, r, y, hv, hc, hy, hq⟩ => ?_))
 subst hv
 obtain ⟨tk, rfl⟩ := r
 have hr : (reprText y).length <= 10 * y.length + 2 := PySem.StrLaws.reprText_len y fun c hm => Zz9 (hc c hm) (by decide)
 refine wpAny_pyReprObj_str ?_ (He (by omega))
 have hl : (acc ++ reprText y).length <= n + (10 * y.length + 2) := by rw [strLen_append]; omega
 exact formatField_str (fun t' tk' => ⟨He (Zz5 hl hy), ht pins _ σ H1 (acc ++ reprText y) Q _ hl (I1.tok _) hq⟩) (He (by omega))
def o9 (t : TF) : TE := fun σ H Q => t 0 σ H fun H' => ∀ z : Str, Q (.str z) H'
theorem Yz {e2 : Expr} (h : PF X (e :: e2 :: es) t) : PE X (.JoinedStr (e :: e2 :: es) p) (o9 t) := fun pins s σ H Q I hq => JoinedStr_many (h pins s σ H Str.empty Q 0 (Zzt _) I hq)
end
end L2
set_option maxHeartbeats 1000000
namespace L2
open PySem PySem.Spec PySem.Calls PyProof.Rows PySem.W Builtin Builtin.ObjectAttr Builtin.Getset_descriptor
structure Ja (K : Frag) (D : Addr) : Prop where
 ga : findIn K (.ref D) "__getattribute__" = some (some (.builtin "BaseException.__getattribute__"))
 gt : findIn K (.ref D) "__getattr__" = some none
 cl : findIn K (.ref D) "__class__" = some (some (.builtin "object.__class__"))
 gs : specialIn K (.builtin "object.__class__") "__get__" = some (some (.builtin "getset_descriptor.__get__"))
 tk : takesIn K (.builtin "object.__class__") = some true
 ob : mroIn K D (.type "object") = some true
 be : mroIn K D (.type "BaseException") = some true
 is : (clsIn K D).isSome = true
def On (x D : Addr) (h : Heap) : Prop := ∃ o, h.get? x = some o /\ o.cls = .ref D
theorem Il {M : Model} {h : Heap} {x D : Addr} (p : On x D h) : Looks M h (typeOf (.ref x)) (.ref D) := by
 obtain ⟨o, h1, h2⟩ := p
 exact h2 ▸ (Looks.ld h1).andThen .now
section
variable {prog : Program} {w : World} {A : Around} {E : Value -> Shared -> Prop} {s : Shared} {K : Frag} {x D : Addr}
theorem gg {R : Result -> Shared -> Prop} {tp : Value} (Y : K.In s.heap) (p : On x D s.heap) (k : Ja K D) (h : R (.ok (.ret (.ref D))) s) : codeAny (model prog w) A (.call (.builtin "getset_descriptor.__get__") ⟨[.builtin "object.__class__", .ref x, tp], []⟩) R s := by
 obtain ⟨h0, g, dr, t, os⟩ := s
 have T0 := Il (M := model prog w) p
 have T1 := looks_mroIn (M := model prog w) Y k.ob
 refine codeAny_call_builtin KF.slot_gs.plain KF.entry_gs
  (KF.slot_gs.check _ _ _ _ _ _ _ _ KF.type_class (KF.args_gs _ _ _) ?_)
 unfold Builtin.«getset_descriptor.__get__» descrGet; rw [dga_obj]
 refine wpAny_bind (wpAny_pure ?_); unfold descrGetter descrCheckInstance descrNameAndClass isInstance
 simp only [KF.owner_class]; repeat lk
 refine And.intro (Code.quiet_builtin _ (by decide +kernel)) (codeAny_builtin KF.entry_class ?_)
 unfold Builtin.«object.__class__» shownTypeOf; repeat lk
 exact h
theorem Xs {tk : Tok} {Q : Fin -> Shared -> Prop} (Y : K.In s.heap) (p : On x D s.heap) (k : Ja K D) (h : Q (.done (.ret (.ref D))) s) : wpAny (model prog w) A (Builtin.«object.__getattribute__» ⟨[.ref x, .str "__class__" tk], []⟩) Q E s := by
 obtain ⟨h0, g, dr, t, os⟩ := s
 have T0 := Il (M := model prog w) p
 have T1 := looks_findIn (M := model prog w) Y k.cl
 have T2 := looks_specialIn (M := model prog w) Y k.gs
 have T3 := looks_takesIn (M := model prog w) Y k.tk
 have TF : Looks (model prog w) h0 (find (.ref x) (.ref D) "__class__") (.bind (.builtin "getset_descriptor.__get__") (.builtin "object.__class__")) :=
  T1.andThen (Looks.andThen (show Looks (model prog w) h0 (getOf (some (.builtin "object.__class__"))) (some (.builtin "getset_descriptor.__get__")) from T2) ((show Looks (model prog w) h0 (dataDescriptor? (some (.builtin "object.__class__")) (some (.builtin "getset_descriptor.__get__"))) (some (.builtin "getset_descriptor.__get__", .builtin "object.__class__")) from T3.andThen .now).andThen (Looks.tag .now)))
 refine wpAny_bind (wpAny_pure ?_)
 refine wpAny_bind (wpAny_pure (wpAny_bind (T0.at (wpAny_bind (TF.at ?_)))))
 show wpAny _ _ (holding [Value.builtin "object.__class__"] (call (.builtin "getset_descriptor.__get__") [.builtin "object.__class__", .ref x, .ref D]) >>= ret) _ _ _
 exact wpAny_bind (wpAny_holding (wpAny_call (gg (s := ⟨h0, g, dr, t, os⟩) Y p k (wpAny_pure h))))
theorem Xu {nameV : Value} {Q : Unit -> Shared -> Prop} (Y : K.In s.heap) (p : On x D s.heap) (k : Ja K D) (h : Q () s) : wpAny (model prog w) A (checkBuiltinCall "BaseException.__getattribute__" ⟨[.ref x, nameV], []⟩) Q E s := by
 obtain ⟨h0, g, dr, t, os⟩ := s
 have T0 := Il (M := model prog w) p
 have T1 := looks_mroIn (M := model prog w) Y k.be
 have TI : Looks (model prog w) h0 (isInstance (.ref x) (.type "BaseException")) true := T0.andThen T1
 have b1 : builtinKind "BaseException.__getattribute__" = some .slot := by decide +kernel
 have b2 : splitId "BaseException.__getattribute__" = some ("BaseException", "__getattribute__") := by decide +kernel
 have ar := F.args_bexc_ga (.ref x) nameV
 simp only [checkBuiltinCall, b1, b2]
 refine wpAny_bind (TI.at ?_)
 rw [if_neg (by decide)]
 exact wpAny_of_eq ar h
theorem Xt {Q : Option Value -> Shared -> Prop} (Y : K.In s.heap) (p : On x D s.heap) (k : Ja K D) (h : Q (some (.ref D)) { s with toks := s.toks + 1 }) : wpAny (model prog w) A (getAttr? (.ref x) "__class__") Q E s := by
 obtain ⟨h0, g, dr, t, os⟩ := s
 have T0 := Il (M := model prog w) p
 have T1 := looks_findIn (M := model prog w) Y k.ga
 have T2 := looks_findIn (M := model prog w) Y k.gt
 unfold getAttr? getAttrBy? getAttrBy; refine wpAny_bind (wpAny_mkText (wpAny_bind (wpAny_attempt (wpAny_holding (wpAny_bind (T0.at (wpAny_bind (T1.at ?_))))))))
 show wpAny _ _ (getAttrByItsOwn _ _ _ _ _ _) _ _ _
 unfold getAttrByItsOwn
 refine wpAny_bind (show wpAny _ _ (typeLookup (.ref D) "__getattr__") _ _ _ from T2.at ?_)
 refine wpAny_bind (wpAny_attempt (wpAny_holding ?_))
 show wpAny _ _ (boundAndCalled (.builtin "BaseException.__getattribute__") (.ref x) (.str "__class__" t)) _ _ _
 unfold boundAndCalled
 rw [F.attr_ValueError.ga.bind (.ref x)]
 refine wpAny_bind (wpAny_pure (wpAny_call (codeAny_call_builtin F.attr_ValueError.ga.plain F.entry_bexc_ga (Xu Y p k (Xs Y p k ?_)))))
 exact wpAny_pure (wpAny_pure h)
theorem Lb (k : Ja K D) : KitX K (.ref x) (.ref D) (On x D) where
 ty := fun _ _ _ p => Il p
 it := fun M h Y _ => by
  obtain ⟨cd, hc⟩ := Zxa.mp k.is
  unfold clsIn at hc
  split at hc
  ·rename_i ho
   exact fun A' Q' E' s' kk q => wpAny_bind (wpAny_loadPart (kk _ _ (Y _ _ ho)) (wpAny_pure q))
  ·cases hc
 ne := fun h tp dd its n sl Y htp => by
  obtain ⟨cd, hc⟩ := Zxa.mp k.is
  refine Bool.eq_false_iff.mpr fun q => ?_
  obtain rfl : D = tp := Value.ref.inj (beq_iff_eq.mp q)
  unfold clsIn at hc
  split at hc
  ·rename_i ho
   have z := (Y _ _ ho).symm.trans htp
   cases z
  ·cases hc
 ca := fun Y p h => Xt Y p k h
end
def jy (K : Frag) : List V -> Hp -> VK -> Prop := fun xs H Q => ∃ (a D : Addr) (c : V) (b : Bool), xs = [.ref a, c] /\ H a = some (O8 a (.ref D)) /\ Ja K D /\
 ((∃ C : Addr, c = .ref C /\ kitOne K (.ref D) (.ref C) = some b) \/ (∃ T : String, c = .ty T /\ kitOne K (.ref D) (.type T) = some b) \/ ∃ (tp : Addr) (Cs : List Addr), c = .ref tp /\ H tp = some (.tup (Cs.map V.ref)) /\ kitAny K (.ref D) (Cs.map Value.ref) = some b) /\ Q (.bl b) H
theorem Pl : ∀ {Cs : List Addr} {us : List Value}, Vals (Cs.map V.ref) us -> us = Cs.map Value.ref
 | [], _, .nil => rfl
 | C :: Cs, _, .cons r t => by
  have e : _ = Value.ref C := r
  rw [e, Pl t]
  rfl
theorem aw {X : Cx} : CallR X (.builtin "isinstance") (jy X.K) := by
 intro pins s σ H xs us Q I r h
 obtain ⟨a, D, c, b, rfl, ha, k, hc, q⟩ := h
 obtain ⟨u, v, rfl, ru, rv⟩ := Si r
 have ru : u = Value.ref a := ru
 subst ru
 have p : On a D s.heap := (I.hok a _ ha).1
 have ne : (Value.ref a) ≠ .builtin "__main__.__loader__#opaque" := fun z => by cases z
 rcases hc with ⟨C, rfl, e⟩ | ⟨T, rfl, e⟩ | ⟨tp, Cs, rfl, ht, e⟩
 ·have rv : v = Value.ref C := rv
  subst rv
  exact kia_one (Lb k) I.kIn p e ne fun tk => ⟨.bl b, H, I.tok tk, rfl, q⟩
 ·have rv : v = Value.type T := rv
  subst rv
  exact kia_one (Lb k) I.kIn p e ne fun tk => ⟨.bl b, H, I.tok tk, rfl, q⟩
 ·have rv : v = Value.ref tp := rv
  subst rv
  obtain ⟨its, rt, pt, _⟩ := I.tuple (SqT.of ht)
  have ei := Pl rt
  subst ei
  obtain ⟨⟨c2, dd, data, sl⟩, ho, hcl, n, hd⟩ := id (show s.heap.IsTuple tp (Cs.map Value.ref).toArray from pt)
  simp only at hcl hd
  subst hcl hd
  exact kia_tup (Lb k) I.kIn p ho e ne fun tk => ⟨.bl b, H, I.tok tk, rfl, q⟩
end L2
namespace L2
open PySem PySem.Spec PyProof.Rows PySem.W
section
variable {X : Cx}
theorem Iz {K0 : Frag} (h : X.K = K0) : CallR X (.builtin "isinstance") (jy K0) := by
 subst h
 exact aw
theorem Pj : bootBuiltins "ValueError" = some (.type "ValueError") := by decide +kernel
def oq : List V -> Hp -> VK -> Prop := fun xs H Q => ∃ i : Int, xs = [.int i] /\ i.natAbs < 10 ^ 500 /\ Q (.str (Str.ofString (toString i))) H
def ox : List V -> Hp -> VK -> Prop := fun xs H Q => ∃ (x : Str) (n : Int), xs = [.str x] /\ PySem.intText? x = some n /\ x.length <= 640 /\ Q (.int n) H
def ot : R2 := fun x y H Q => ∃ (z : Str) (n : Int), x = .str z /\ y = .int n /\ z.length <= 1000 /\ 0 <= n /\ n <= 1000 /\ ∀ z' : Str, z'.length <= z.length * n.toNat + z.length -> Q (.str z') H
end
end L2
namespace L2
open PySem PySem.Spec PyProof.Rows PySem.W NP
def Kp (g h : Heap) : Prop := ∀ b o, g.get? b = some o -> h.get? b = some o
theorem Kp.trans {g h k : Heap} (a : Kp g h) (b : Kp h k) : Kp g k := fun x o e => b x o (a x o e)
section
variable {prog : Program} {w : World} {A : Around} {E : Value -> Shared -> Prop} {s : Shared} {I S f : Addr} {fp wr : List Addr} {n : Nat} {P : Nat -> Value -> Prop} {St : Nat -> Heap -> Prop} {R : Result -> Shared -> Prop}
end
section
variable {prog : Program} {w : World} {A : Around} {s : Shared}
end
section
variable {X : Cx}
theorem fu {kvs : List (Key × V)} {dv : List (Key × Value)} (r : KV kvs dv) : dv.map (·.1) = kvs.map (·.1) := by
 induction r with
 | nil => rfl
 | cons r1 _ ih => rw [Zz7, Zz7, ih, r1.1]
end
theorem Sg : ∀ {ys : List V} {us : List Value}, us.length = ys.length -> (∀ (j : Nat) (v : Value), us[j]? = some v -> ∃ y, ys[j]? = some y /\ RelV y v) -> Vals ys us
 | [], [], _, _ => .nil
 | [], _ :: _, e, _ => by simp at e
 | _ :: _, [], e, _ => by simp at e
 | y :: ys, u :: us, e, h => by
  obtain ⟨y', e1, r⟩ := h 0 u rfl
  have e1 : y = y' := by simpa using e1
  subst e1
  exact .cons r (Sg (by simpa using e) fun j v hv => h (j + 1) v hv)
section
variable {X : Cx}
def rListD : List V -> Hp -> VK -> Prop := fun xs H Q => ∃ (d : Addr) (kvs : List (Key × V)), xs = [.ref d] /\ Rd H d (.dK kvs) /\ kvs.length <= 1000 /\ ∀ l, H l = none -> Q (.ref l) (upd H l (.lst (kvs.map fun p => kV p.1)))
theorem V7 (hc : X.calm = true) : CallR X (.type "list") rListD := by
 intro pins s σ H xs us Q I r h
 obtain ⟨d, kvs, rfl, hd, hl, q⟩ := h
 obtain ⟨u, rfl, ru⟩ := Gh r
 cases ru
 obtain ⟨zd, nd, dv, rel, hdd⟩ := Lw I.hok hd
 obtain ⟨ep, hat⟩ := hdd.dictAt
 have hlen : dv.length = kvs.length := rel.length.symm
 have hkk := fu rel
 refine kdl_call (kdl_dict (knd := Bk X.prog X.w) (kvs := dv) (ep := ep) nd) (I.ok.hd hc) hat (by rw [hlen]; exact Ax hl) fun h' tk acc c hk hS hacc => ?_
 have hn : H s.heap.objs.size = none := I.hok.fresh (Zzt _)
 have hal : acc.toList.length = (kvs.map fun p => kV p.1).length := by rw [Zxo, hacc.1, hlen, Zzz]
 have vals : Vals (kvs.map fun p => kV p.1) acc.toList := Sg hal fun j v hv => by
  obtain ⟨k, x, hx, hkv⟩ := hacc.2 j v (by rw [<- Array.getElem?_toList]; exact hv)
  have e1 := congrArg (fun z => z[j]?) hkk
  simp only [Zzv, hx, Zxi] at e1
  cases ex : kvs[j]? with
  | none => rw [ex] at e1; cases e1
  | some y =>
   rw [ex] at e1
   have e2 : k = y.1 := Zzc e1
   subst e2
   exact ⟨kV y.1, by rw [Zzv, ex]; rfl, j0 hkv⟩
 refine ⟨.ref s.heap.objs.size, _, I.laidF (t' := tk) (o := .lst (kvs.map fun p => kV p.1)) (fun b o eb => hk b o eb) (fun b o eb => Zz0 (Zzj eb)) hn ⟨?_, acc.toList, c, vals, ?_⟩, rfl, q _ hn⟩
 ·rw [Zzz]
  exact Ax hl
 ·rw [Array.toArray_toList]
  exact hS
end
end L2
namespace L2
open PySem PySem.Spec PyProof.Rows
end L2
namespace NP
open PySem L2
end NP
namespace L2
open PySem PySem.Spec PyProof.Rows PySem.W
def cg (P : Program) (w : World) (K : Frag) (mg : Str -> Option Value) (base : Heap) (k : Nat) (f : Addr) (sp : Sp) : Prop := ∃ fd ps, Zzo K (.ref f) = true /\ Binds K fd ps [] /\ FnOk P w K mg base (CXE P w) k f fd ps sp
theorem FnOk.wider {P : Program} {w : World} {K : Frag} {mg : Str -> Option Value} {base : Heap} {CX : CXT} {k k' : Nat} {f : Addr} {fd : FuncData} {ps : List Str} {sp sp' : Sp} (F : FnOk P w K mg base CX k f fd ps sp) (hk : k <= k') (h : ∀ vs H Q E, sp' vs H Q E -> sp vs H Q E) : FnOk P w K mg base CX k' f fd ps sp' where
 len := fun vs H Q E z => F.len vs H Q E (h vs H Q E z)
 run := fun A outer s H as us vs Q E hr he hb r z => F.run A outer s H as us vs Q E (hr.mono hk) he hb r (h vs H Q E z)
end L2
namespace NP
open PySem L2
theorem Xj (G : Gr) : Ad (Fc G) = (G.filter fun e => decide (J5 (Ad G) e.2 ≠ [])).map (·.1) := by
 unfold Fc
 generalize Ad G = ks
 induction G with
 | nil => rfl
 | cons e r ih =>
  rw [Zxp, List.filter_cons]
  unfold Bw
  by_cases h : J5 ks e.2 = []
  ·rw [if_pos h, if_neg (by simp [h])]
   exact ih
  ·rw [if_neg h, if_pos (decide_eq_true h)]
   show e.1 :: Ad (r.filterMap (Bw ks)) = _
   rw [ih]
   rfl
theorem Qq {x : Str} {ps qs : List Str} : ∀ {G : Gr}, (G.map (·.1)).Nodup -> (x, ps) ∈ G -> (x, qs) ∈ G -> ps = qs
 | [], _, h, _ => nomatch h
 | e :: r, nd, h1, h2 => by
  rw [Zz7, Zym] at nd
  rcases Zzk.mp h1 with a | a
  ·rcases Zzk.mp h2 with b | b
   ·rw [<- a] at b
    exact (Prod.mk.inj b).2.symm
   ·exact absurd (Zzx.mpr ⟨_, b, by rw [<- a]⟩) nd.1
  ·rcases Zzk.mp h2 with b | b
   ·exact absurd (Zzx.mpr ⟨_, a, by rw [<- b]⟩) nd.1
   ·exact Qq nd.2 a b
theorem Qt {G : Gr} (nd : (Ad G).Nodup) : ∀ (n : Nat) {x y : Str} {ps qs : List Str}, (x, ps) ∈ G -> (x, qs) ∈ Bq n G -> y ∈ ps -> (∀ i, i < n -> y ∈ Ad (Bq i G)) -> y ∈ qs
 | 0, x, y, ps, qs, h1, h2, h3, _ => by
  rw [<- Qq nd h1 h2]
  exact h3
 | n + 1, x, y, ps, qs, h1, h2, h3, hy => by
  have h2 : (x, qs) ∈ Fc (Bq n G) := h2
  unfold Fc at h2
  obtain ⟨e, he, hc⟩ := Zxr.mp h2
  unfold Bw at hc
  split at hc
  ·cases hc
  ·cases hc
   have := Qt nd n (x := e.1) (qs := e.2) h1 he h3 fun i hi => hy i (by omega)
   exact Zxt.mpr ⟨this, decide_eq_true (hy n (by omega))⟩
theorem Nq {G : Gr} : ∀ n, (Ad (Bq (n + 1) G)).Sublist (Ad (Bq n G)) := fun n => keys_filter
theorem W1 {G : Gr} {x : Str} : ∀ (n : Nat), x ∈ Ad (Bq n G) -> ∀ i, i <= n -> x ∈ Ad (Bq i G)
 | 0, h, i, hi => by
  have : i = 0 := by omega
  rw [this]; exact h
 | n + 1, h, i, hi => by
  by_cases e : i = n + 1
  ·rw [e]; exact h
  ·exact W1 n ((Nq n).subset h) i (by omega)
theorem Qg {G : Gr} (nd : (Ad G).Nodup) {x y : Str} {ps : List Str} (h : (x, ps) ∈ G) (hy : y ∈ ps) : ∀ n, x ∈ Ad (Bq n G) -> y ∈ Ad (Bq n G) -> x ∈ Ad (Bq (n + 1) G) := fun n hx hyn => by
 obtain ⟨e, he, ee⟩ := Zzx.mp hx
 have he' : (x, e.2) ∈ Bq n G := by rw [<- ee]; exact he
 have h1 := Qt nd n h he' hy fun i hi => W1 n hyn i (by omega)
 show x ∈ Ad (Fc (Bq n G))
 rw [Xj]
 refine Zzx.mpr ⟨(x, e.2), Zxt.mpr ⟨he', decide_eq_true fun z => ?_⟩, rfl⟩
 have : y ∈ J5 (Ad (Bq n G)) e.2 := Zxt.mpr ⟨h1, decide_eq_true hyn⟩
 have z : J5 (Ad (Bq n G)) e.2 = [] := z
 rw [z] at this
 cases this
theorem Qf {G : Gr} (nd : (Ad G).Nodup) {x y : Str} {ps : List Str} (h : (x, ps) ∈ G) (hy : y ∈ ps) : ∀ n, y ∈ Ad (Bq n G) -> x ∈ Ad (Bq (n + 1) G)
 | 0, hyn => Qg nd h hy 0 (Zzx.mpr ⟨_, h, rfl⟩) hyn
 | n + 1, hyn => Qg nd h hy (n + 1) (Qf nd h hy n ((Nq n).subset hyn)) hyn
def Fb (G : Gr) (x : Str) : Nat -> Nat
 | 0 => 0
 | n + 1 => if x ∈ Ad (Bq (n + 1) G) then n + 1 else Fb G x n
theorem Qd (G : Gr) (x : Str) : ∀ n, Fb G x n <= n
 | 0 => Zzt _
 | n + 1 => by
  unfold Fb
  split
  ·exact Zzt _
  ·exact Nat.le_succ_of_le (Qd G x n)
theorem Ji {G : Gr} {x : Str} (h : x ∈ Ad G) : ∀ n, x ∈ Ad (Bq (Fb G x n) G)
 | 0 => h
 | n + 1 => by
  unfold Fb
  split
  ·assumption
  ·exact Ji h n
theorem Qe {G : Gr} {x : Str} : ∀ n i, i <= n -> x ∈ Ad (Bq i G) -> i <= Fb G x n
 | 0, i, hi, _ => hi
 | n + 1, i, hi, h => by
  unfold Fb
  split
  ·exact hi
  ·rename_i hn
   by_cases e : i = n + 1
   ·rw [e] at h; exact absurd h hn
   ·exact Qe n i (by omega) h
theorem gn {G : Gr} (nd : (Ad G).Nodup) {n : Nat} (h0 : Bq n G = []) (own : ∀ e ∈ G, ∀ y ∈ e.2, y ∈ Ad G) : ∃ r : Str -> Nat, (∀ e ∈ G, r e.1 < n) /\ ∀ e ∈ G, ∀ y ∈ e.2, r y < r e.1 := by
 have no : ∀ x, x ∉ Ad (Bq n G) := fun x hx => by rw [h0] at hx; cases hx
 have lt : ∀ x, x ∈ Ad G -> Fb G x n < n := fun x hx => by
  have h1 := Qd G x n
  have h2 := Ji hx n
  by_cases e : Fb G x n = n
  ·rw [e] at h2; exact absurd h2 (no x)
  ·omega
 refine ⟨fun x => Fb G x n, fun e he => lt _ (Zzx.mpr ⟨e, he, rfl⟩), fun e he y hy => ?_⟩
 have h1 := lt y (own e he y hy)
 have h2 := Qf nd (x := e.1) (ps := e.2) he hy _ (Ji (own e he y hy) n)
 have h3 := Qe n _ (by omega) h2
 show Fb G y n < Fb G e.1 n
 omega
theorem Xy {G : Gr} (h : Ad (Fc G) = Ad G) : Fc (Fc G) = Fc G := by
 have e : ∀ q ∈ Fc G, Bw (Ad G) q = some q := fun q hq => by
  obtain ⟨ps, _, h2, h3, _⟩ := Hl hq
  have z : J5 (Ad G) q.2 = q.2 := List.filter_eq_self.mpr fun x hx => decide_eq_true (h2 x hx).2
  unfold Bw
  rw [z, if_neg h3]
 show (Fc G).filterMap (Bw (Ad (Fc G))) = Fc G
 rw [h]
 generalize hX : Fc G = X at e
 show X.filterMap (Bw (Ad G)) = X
 clear hX
 induction X with
 | nil => rfl
 | cons q r ih =>
  rw [Zxp, e q Zzb]
  exact congrArg _ (ih fun z hz => e z (Zze _ hz))
theorem gp {G : Gr} : ∀ n, G.length <= n -> (∃ i, i < n /\ Ad (Bq (i + 1) G) = Ad (Bq i G)) \/ Bq n G = [] := fun n hn => by
 have key : ∀ k, (∃ i, i < k /\ Ad (Bq (i + 1) G) = Ad (Bq i G)) \/ (Bq k G).length + k <= G.length := fun k => by
  induction k with
  | zero => exact .inr (Zzt _)
  | succ k ih =>
   rcases ih with ⟨i, hi, e⟩ | h
   ·exact .inl ⟨i, by omega, e⟩
   ·by_cases e : (Bq (k + 1) G).length = (Bq k G).length
    ·refine .inl ⟨k, Nat.lt_succ_self _, ?_⟩
     refine (Nq k).eq_of_length ?_
     unfold Ad
     rw [Zzz, Zzz, e]
    ·have h1 : (Bq (k + 1) G).length <= (Bq k G).length := U6 _
     exact .inr (by omega)
 rcases key n with h | h
 ·exact .inl h
 ·exact .inr (Zx1 (by omega))
theorem Qs {G : Gr} {i : Nat} (h : Ad (Bq (i + 1) G) = Ad (Bq i G)) : ∀ j, i + 1 <= j -> Bq j G = Bq (i + 1) G
 | 0, hj => by omega
 | j + 1, hj => by
  by_cases e : j = i
  ·rw [e]
  ·have h1 := Qs h j (by omega)
   show Fc (Bq j G) = _
   rw [h1]
   show Fc (Fc (Bq i G)) = Fc (Bq i G)
   exact Xy h
theorem V1 {G : Gr} {n : Nat} (hn : G.length <= n) {e : Str × List Str} (he : e ∈ Bq n G) : e.2 ≠ [] /\ ∀ y ∈ e.2, y ∈ Ad (Bq n G) := by
 rcases gp n hn with ⟨i, hi, h⟩ | h
 ·have hs := Qs h n (by omega)
  rw [hs] at he ⊢
  obtain ⟨ps, _, h2, h3, _⟩ := Hl (show e ∈ Fc (Bq i G) from he)
  exact ⟨h3, fun y hy => by rw [h]; exact (h2 y hy).2⟩
 ·rw [h] at he
  cases he
end NP
set_option maxHeartbeats 4000000
namespace L2
open PySem PySem.Spec PyProof.Rows
def rJoin : V -> List V -> Hp -> VK -> Prop := fun x vs H Q => ∃ (sep : Str) (l : Addr) (xs : List Str) (B : Nat), x = .str sep /\ vs = [.ref l] /\ H l = some (.lst (xs.map V.str)) /\ (∀ y ∈ xs, y.length <= B) /\ xs.length * B + xs.length * sep.length <= 16777216 /\ Q (.str (Str.join sep xs)) H
theorem Tx {sep : Str} {B : Nat} {xs : List Str} (h : ∀ y ∈ xs, y.length <= B) : (Str.join sep xs).length <= xs.length * B + xs.length * sep.length := by
 rw [<- Zw5, size_glued]
 have h1 := StrLaws.sumLen_le xs h
 have h2 : (xs.length - 1) * sep.length <= xs.length * sep.length := Nat.mul_le_mul_right _ (Nat.sub_le _ _)
 omega
theorem Mi : ∀ {xs : List Str} {us : List Value}, Vals (xs.map V.str) us -> ∃ l : List (Str × Tok), strValues l = us /\ l.map (·.1) = xs
 | [], _, .nil => ⟨[], rfl, rfl⟩
 | x :: xs, u :: us, .cons r t => by
  obtain ⟨l, h1, h2⟩ := Mi t
  obtain ⟨tk, rfl⟩ := r
  exact ⟨(x, tk) :: l, by rw [<- h1]; rfl, by rw [<- h2]; rfl⟩
theorem Vy {X : Cx} : MtM X "str.join" rJoin := by
 intro pins s σ H x vs v us Q I rx hv h
 obtain ⟨sep, l, xs, B, rfl, rfl, hH, hB, hz, q⟩ := h
 obtain ⟨tk, rfl⟩ := rx
 obtain ⟨u, rfl, ru⟩ := hv.one
 cases ru
 obtain ⟨z, its, n, r, hlx, e⟩ := I.lstM hH
 obtain ⟨ps, rfl, hps⟩ := Mi r
 refine call_meets F.slot_str_join (typeIs_str s sep tk) F.entry_str_join (F.args_str_join_2 _ _) (meets_str_join_list sep tk l ps (by rw [hps]; exact StrLaws.joinFits hB hz)) ⟨⟨_, e, rfl, n, rfl⟩, ?_⟩
 have fin : ∀ t, (EP X pins σ Q) (.str (Str.join sep xs) t) s := fun t => ⟨.str (Str.join sep xs), H, I, ⟨t, rfl⟩, q⟩
 have fin2 : ∀ t t', (EP X pins σ Q) (.str (Str.join sep xs) t) { s with toks := t' } := fun t t' => ⟨.str (Str.join sep xs), H, I.tok _, ⟨t, rfl⟩, q⟩
 have hjl : (Builtin.Str.glued sep xs).length <= sizeLine := by
  rw [Zw5, sizeLine_eq]
  exact Zz5 (Tx hB) hz
 subst hps
 match ps with
 | [] => exact ⟨hjl, fin2 _ _⟩
 | [p] => exact fin p.2
 | p :: p2 :: r2 =>
  have e2 := Zw5 sep ((p :: p2 :: r2).map (·.1))
  have f3 := fin2 s.toks (s.toks + 1)
  rw [<- e2] at f3
  exact ⟨hjl, f3⟩
section
variable {prog : Program} {w : World} {A : Around} {I : Addr} {fp wr : List Addr} {G : Array GenState -> Array GenState -> Prop} {St : Nat -> Shared -> Prop}
end
section
variable {prog : Program} {w : World} {A : Around} {s : Shared} {E : Value -> Shared -> Prop}
theorem WalksS.wider {I : Addr} {fp wr : List Addr} {G : Array GenState -> Array GenState -> Prop} {n : Nat} {P P' : Nat -> Value -> Prop} {St : Nat -> Shared -> Prop} (W : WalksS prog w A I fp wr G n P St) (k : ∀ i v, P i v -> P' i v) : WalksS prog w A I fp wr G n P' St :=
 ⟨W.sub, W.grefl, W.gtrans, W.frame, fun i s Q E hi hs h => W.item i s Q E hi hs fun v s' hp => h v s' (k i v hp), W.done, W.self⟩
end
section
variable {X : Cx}
end
end L2
namespace L2
open PySem PySem.Spec PyProof.Rows PySem.W NP
section
variable {X : Cx}
def ij (te : TE) : TE := fun σ H Q => te σ H fun x H1 => ∃ (a : Addr) (kvs : List (Key × V)) (ns : List Int), x = .ref a /\ H1 a = some (.dK kvs) /\ kvs.map (·.2) = ns.map V.int /\ ns ≠ [] /\ Q (.int (Ke ns)) H1
theorem Up {l : Expr} {te : TE} {p apos cpos pos : Pos} (hc : X.calm = true) (hg : Gl X "max") (hm : X.mg "max" = none) (hl : PE X l te) (hbase : attributeBase l "values" X.env (eval l X.env) = eval l X.env := by rfl) (hline : (apos.endLine == cpos.line) = true := by rfl)
  (hn : Bu [.Call (.Attribute l "values" apos) [] [] cpos] = true := by rfl) :
  PE X (.Call (.Name "max" p) [.Call (.Attribute l "values" apos) [] [] cpos] [] pos) (ij te) := by
 intro pins s σ H Q I h
 refine wpAny_Call_Name_kw (E9 I hg hm NP.Le ?_ (by decide) (by decide))
 refine PyProof.Rows.callWith_builtin1 ?_ (Bb hn) (C4 (As hn).2)
 rw [Bb hn]
 show wpAny _ _ (spliced ((false, eval (.Call (.Attribute l "values" apos) [] [] cpos) X.env) :: backTo pos (starEach [] X.env))) _ _ s
 refine Zvw (wpAny_Call_method0_late hbase hline (thn (hl pins s σ H _ I h) fun v s1 ⟨x, H1, I1, r1, q1⟩ => ?_))
 obtain ⟨a, kvs, ns, e, ha, hk, hns, q⟩ := q1
 subst e
 cases r1
 obtain ⟨hz, hS, vs, rel, hdd⟩ := I1.hok a _ ha
 obtain ⟨ep, hat⟩ := hdd.dictAt
 obtain ⟨t1, t2, _⟩ := lx I1 (.inl ⟨kvs, .inl ha⟩)
 refine ⟨"dict", "dict.values", PySem.F.plainAttrs_dict, PySem.F.slot_dict_values, PySem.F.type_dict_values, t1, t2, Calls.callWith_builtin rfl (PySem.evalArgs_none ?_)⟩
 refine call_meetsIn PySem.F.slot_dict_values t1 PySem.F.entry_dict_values (PySem.F.args_dict_values_1 _) (meets_dict_values (Bk X.prog X.w) a hS) ⟨⟨vs, hat.dictOf⟩, ?_⟩
 have I3 : Inv X pins σ H1 { s1 with heap := s1.heap.push { cls := .type "dict_values", data := .fields #[.ref a] } } := I1.kept (t' := s1.toks) fun b o e => Zzy _ e
 refine Calls.spliced_nil ?_
 have K := PySem.W.kdl_values (prog := X.prog) (w := X.w) (knd := Bk X.prog X.w) (r := s1.heap.objs.size) (d := a) (kvs := vs) (ep := ep)
 have hok : (s1.heap.push { cls := .type "dict_values", data := .fields #[.ref a] }).IsValuesView s1.heap.objs.size a /\ (s1.heap.push { cls := .type "dict_values", data := .fields #[.ref a] }).DictAt (Bk X.prog X.w) a vs ep := ⟨⟨_, Zzf _ rfl, rfl, rfl⟩, hat.push _⟩
 have hlv : vs.length = ns.length := by
  have := congrArg Zxb hk
  rw [Zzz, Zzz] at this
  rw [<- rel.length]
  exact this
 have hval : ∀ (i : Nat) (v : Value), (∃ k, vs[i]? = some (k, v)) -> ∃ t, v = .int ((ns[i]?).getD 0) t := fun i v ⟨k, e⟩ => by
  have hi : i < kvs.length := by rw [rel.length]; exact (Zzl.mp e).1
  obtain ⟨u, hu, ru⟩ := iz (k := kvs[i].1) (v := kvs[i].2) (i := i) rel (by simp [hi])
  rw [hu] at e
  have e := Zzc e
  have eu : u = v := congrArg Prod.snd e
  subst eu
  have e1 := congrArg (fun z => z[i]?) hk
  simp only [Zzv, Zzr hi, Zxi] at e1
  cases en : ns[i]? with
  | none => rw [en] at e1; cases e1
  | some n =>
   rw [en] at e1
   have e1 : kvs[i].2 = .int n := Zzc e1
   rw [e1] at ru
   exact ru
 generalize hh3 : s1.heap.push { cls := .type "dict_values", data := .fields #[.ref a] } = h3 at I3 hok
 have hsz : ∀ b o, s1.heap.get? b = some o -> h3.get? b = some o := fun b o e => by rw [<- hh3]; exact Zzy _ e
 obtain ⟨oI, St, hit, W, st⟩ := K.iter X.A.in1 { s1 with heap := h3 } (I3.ok.hd hc) hok
 have nm : (toString "max" ++ toString ".loop" : String) = "max.loop" := by decide
 refine call_function_tree F.kind_max F.plain_max F.entry_max (F.args_max1 _) ?_
 refine wpAny_bind (m := Zy3 "max" ["key", "default"] 0 ⟨[], []⟩) (wpAny_of_eq (show Zy3 "max" ["key", "default"] 0 ⟨[], []⟩ = pure [none, none] from rfl) (wpAny_bind (wpAny_pure (wpAny_bind (hit _ _ (wpAny_bind (wpAny_newObj_type ?_)))))))
 rw [nm]
 refine wpAny_pure ⟨plainId_quiet F.plain_max_loop _, ?_⟩
 have sz : (h3.push oI).objs.size = h3.objs.size + 1 := Zy4 ..
 have hlt := K.there h3 hok
 have nS : (h3.push oI).objs.size ∉ [h3.objs.size, a] := by
  rw [sz]
  simp only [Zzk, Zz8, or_false, not_or]
  exact ⟨Zw9 _, Zxx (Zxf hlt.2)⟩
 have gS : ((h3.push oI).push { cls := .type "list", data := .seq #[] }).get? (h3.push oI).objs.size = some { cls := .type "list", data := .seq #[] } := Zzf _ rfl
 have st2 : St 0 ((h3.push oI).push { cls := .type "list", data := .seq #[] }) := W.frame 0 _ _ st fun b _ o e => Zzy _ e
 have hpos : 0 < vs.length := by rw [hlv]; exact Zx6.mpr hns
 refine Np [] W (fun i => (ns[i]?).getD 0) hval _ nS hpos st2 gS fun t' h' tk hk' => ?_
 rw [hlv]
 refine ⟨.int (Ke ns), H1, I3.kept fun b o e => hk' b o ?_ ?_ (Zzy _ (Zzy _ e)), ⟨_, rfl⟩, q⟩
 ·simp only [Zzk, Zz8, or_false]
  exact Zz0 (Zzj e)
 ·rw [sz]
  exact Zz0 (Zxf (Zzj e))
end
end L2
namespace L2
open PySem PySem.Spec PyProof.Rows
section
variable {X : Cx}
theorem Zq : OpR X (inplaceOp .Mult) (rI CMulB fun i j => .int (i * j)) := opI fun _ _ _ _ _ _ _ hc q => imul_int q hc.ok
theorem fz : PIp X .Mult (rI CMulB fun i j => .int (i * j)) := fun pins s σ H x y v u Q I rx ry q => Zq pins s σ H x y v u Q I rx ry q
end
end L2
namespace L2
open PySem PySem.Spec PyProof.Rows PySem.W
def orS (a b : Sp) : Sp := fun vs H Q E => a vs H Q E \/ b vs H Q E
theorem FnOk.lift {P : Program} {w : World} {K : Frag} {mg : Str -> Option Value} {base : Heap} {CX : CXT} {k : Nat} {f : Addr} {fd : FuncData} {ps : List Str} {sp : Sp} (F : FnOk P w K mg base CX0 k f fd ps sp) : FnOk P w K mg base CX k f fd ps sp where
 len := F.len
 run := fun A outer s H as us vs Q E hr he hb r z => codeAny_mono (F.run A outer s H as us vs Q E hr he hb r z) fun r s' h => by
  match r, h with
  | .ok (.ret u), h => exact h
  | .error e, h => exact h.elim
theorem FnOk.both {P : Program} {w : World} {K : Frag} {mg : Str -> Option Value} {base : Heap} {CX : CXT} {k1 k2 k : Nat} {f : Addr} {fd : FuncData} {ps : List Str} {sp1 sp2 : Sp} (F : FnOk P w K mg base CX0 k1 f fd ps sp1) (G : FnOk P w K mg base CX k2 f fd ps sp2) (h1 : k1 <= k) (h2 : k2 <= k) : FnOk P w K mg base CX k f fd ps (orS sp1 sp2) where
 len := fun vs H Q E z => z.elim (F.len vs H Q E) (G.len vs H Q E)
 run := fun A outer s H as us vs Q E hr he hb r z => z.elim (fun z => (F.lift (CX := CX)).run A outer s H as us vs Q E (hr.mono h1) he hb r z) (fun z => G.run A outer s H as us vs Q E (hr.mono h2) he hb r z)
theorem Room.z {k j : Nat} {A : Around} (h : Room k A) (e : j <= k := by decide) : Room j A := h.mono e
theorem Has.of {P : Program} {w : World} {K : Frag} {mg : Str -> Option Value} {base : Heap} {x : Str} {k : Nat} {f : Addr} {fd : FuncData} {ps : List Str} {sp : Sp} (m : mg x = some (.ref f)) (h : keepIn K (.ref f) = true) (b : Binds K fd ps []) (o : FnOk P w K mg base CX0 k f fd ps sp) : Has P w K mg base x k ps sp := ⟨f, fd, m, h, b, o⟩
theorem HasX.of {P : Program} {w : World} {K : Frag} {mg : Str -> Option Value} {base : Heap} {x : Str} {k : Nat} {f : Addr} {fd : FuncData} {ps : List Str} {sp : Sp} (m : mg x = some (.ref f)) (h : keepIn K (.ref f) = true) (b : Binds K fd ps []) (o : FnOk P w K mg base (CXE P w) k f fd ps sp) : HasX P w K mg base x k ps sp := ⟨f, fd, m, h, b, o⟩
def Yq (A : Addr -> Sp -> Prop) (te : TE) (G : XG) (t : TA) : TE := fun σ H Q => te σ H fun v H1 => ∃ f sp, v = .ref f /\ A f sp /\ t σ H1 fun vs H2 => sp vs H2 Q fun cls _ H' => G cls σ H'
theorem T8 {X : Cx} {P : Program} {w : World} {K : Frag} {mg : Str -> Option Value} {base : Heap} {k : Nat} {G : XG} {v sl e : Expr} {es : List Expr} {te : TE} {t : TA} {p pos : Pos} (e1 : X.prog = P) (e2 : X.w = w) (e3 : X.K = K) (e4 : X.mg = mg) (e5 : X.base = base) (hv : PE X (.Subscript v sl p) te) (hp : Oi X G) (hr : Room k X.A) (ha : PA X (e :: es) t) (hn : Bu (e :: es) = true := by rfl) :
  PE X (.Call (.Subscript v sl p) (e :: es) [] pos) (Yq (cg P w K mg base k) te G t) := by
 subst e1 e2 e3 e4 e5
 intro pins s σ H Q I h
 show wpAny _ _ (do callWith pos (<- eval (.Subscript v sl p) X.env) [] (backTo pos (starEach (e :: es) X.env)) (backToKw pos (keywordEach [] X.env))) _ _ _
 refine wpAny_bind (thn (hv pins s σ H _ I h) fun u s1 ⟨v, H1, I1, r, f, sp, ev, ⟨fd, ps, hk, hb, F⟩, ht⟩ => ?_)
 subst ev
 have r : u = Value.ref f := r
 subst r
 refine Zvv (h₀ := X.base) I1.ok.mod.kin hk (thn (ha pos pins s1 σ H1 _ I1 ht) fun us s2 ⟨vs, H2, I2, r, q⟩ => ⟨I2.kIn, ?_⟩) (Bb (As hn).1) (C4 (As hn).2)
 exact Vl F hr hb hp I2 r q
end L2
namespace K17
open PySem L2 NP PySem.W
seal PE PA PT PS PSs PI PO PC PW
local macro_rules | `(tactic| walk_at "rd") => `(tactic| simp only [Ht, tNext, nt, nk, cz, o0, ip, oj, Fe, qh, Yk, tC, tCB, Pu, tNil, Sq, tOp, tUn, ie, tB, om, tOr, nv, ol, tOrV, nu, tIf, ni, ny, tSl, ig, tNoPart, tBA, tBA0, tDNewK, jo, tYes, rI, rI0, rU, rEq, rNe, rIsA, rIsnotA, rItem, lenA, jz, pi, ou, q9, tupleA, lenQ, lenS, lenD, rSetD, pc, qc, qa, iTxt, rCat, rCatTT, iu, Zu, Zt, qd, ib, ic, ik, tIf, j7, qb, j6, j5, rEqD, rNeD, rEqK, rNeK, iItm, Yl, Me, jv, jw, ju, kc, dh, rSum, rMaxL, ow, ii, rGetL, oy, iq, rRep, df, rMax2, kg, rIndexS, rLtT, rAppend, jx, Yt, rSetA, rSetL, L2.Hu, Im, Yn, cy, g8, nj, Ym, Yp, o9, tFnil, io, il, im, jy, oq, ox, ot, Ends.lose, ij, Yq,  D.ty, Kj, L9, L8, Kh, Jk, Ki, Pd, S5, S4, Pb, Nz, Pc, S1, U1, U0, Rz, P7, S0, Rw, Tz, Ty, Ru, P3, Rv, P6, Ry, Rx, P4, Nx, P5, Nw, P2, P1, Nu, M2, Nv, Pa, S3, S2, P8, Ny, P9, fi, Ze, fh, Zc, Xb, Zd, Nat.reduceAdd, Nat.reduceSub, Nat.zero_add, Nat.sub_self, List.replicate_zero, Zxn, List.getD_cons_zero, List.getD_cons_succ, ↓reduceIte, Zz7, Zwr, Zxz, List.nil_append, Zwb, Zxm, Zw3, List.set_cons_zero, List.set_cons_succ, List.set_nil, List.getElem?_cons_zero, List.getElem?_cons_succ, Option.some.injEq, exists_eq_left', exists_eq_left, V.int.injEq, V.bl.injEq, V.str.injEq, V.ref.injEq, V.ty.injEq, List.cons.injEq, and_true, true_and, and_assoc, exists_and_left, exists_eq_right, reduceCtorEq, false_and, and_false, exists_false, or_false, false_or])
def top (i : Nat) : Stmt := PySem.Challenge.pw_needplan_k17_refused_rings.main.body.getD i (.Pass ⟨0, 0, 0, 0⟩)
abbrev Eh : Stmt := top 20
abbrev Di : Stmt := top 21
abbrev Ee : Stmt := top 22
abbrev Ct : Stmt := top 24
abbrev Ch : Stmt := top 25
abbrev Kv : Stmt := top 26
abbrev Ck : Stmt := top 27
abbrev Fx : Stmt := top 28
abbrev Fv : Stmt := top 29
abbrev Iq : Stmt := top 30
abbrev Gm : Stmt := top 32
abbrev Ei : Stmt := top 33
abbrev Dj : Stmt := top 34
abbrev Em : Stmt := top 36
abbrev Gz : Stmt := top 37
abbrev Gy : Stmt := top 38
abbrev Fw : Stmt := top 39
abbrev Fy : Stmt := top 40
abbrev Eg : Stmt := top 41
abbrev Dn : Stmt := top 43
abbrev E4 : Stmt := top 44
abbrev Dy : Stmt := top 45
abbrev Dx : Stmt := top 46
abbrev Cu : Stmt := top 47
abbrev Dh : Stmt := top 48
abbrev D6 : Stmt := top 49
abbrev D7 : Stmt := top 50
abbrev Ef : Stmt := top 52
abbrev Dc : Stmt := top 53
abbrev Dd : Stmt := top 54
abbrev Je : Stmt := top 55
abbrev Jd : Stmt := top 56
abbrev C1 : Stmt := top 57
abbrev Go : Stmt := top 66
abbrev Kw : Stmt := top 69
abbrev Gn : Stmt := top 70
abbrev D5 : Stmt := top 78
abbrev E2 : Stmt := top 79
abbrev El : Stmt := top 80
abbrev Dm : Stmt := top 81
abbrev Dz : Stmt := top 82
abbrev Dl : Stmt := top 83
abbrev Ek : Stmt := top 84
abbrev E3 : Stmt := top 85
abbrev Ej : Stmt := top 86
abbrev Cg : Stmt := top 87
abbrev Dk : Stmt := top 88
abbrev Jz : Stmt := top 89
structure Txt (mg : Str -> Option Value) : Prop where
 Zuf : mg "range" = none
 Zul : mg "len" = none
 Zsr : mg "list" = none
 Ztj : mg "max" = none
 Zsp : mg "sorted" = none
 Zsw : mg "reversed" = none
 Zss : mg "zip" = none
 Zsl : mg "min" = none
 Zt2 : mg "enumerate" = none
 Zu9 : mg "tuple" = none
 Zsk : mg "int" = none
 Zud : mg "isinstance" = none
 Zsv : mg "ValueError" = none
 Zty : ∃ t, mg "COMING" = some (.int 5 t)
 Zu1 : ∃ t, mg "FLOOR" = some (.int 3 t)
 Zu0 : ∃ t, mg "GIVES" = some (.int 2 t)
 Zu3 : ∃ t, mg "LAG" = some (.int 1 t)
 Zvf : ∃ t, mg "NAME" = some (.int 0 t)
 Ztz : ∃ t, mg "PARTS" = some (.int 6 t)
 Ztl : ∃ t, mg "STOCK" = some (.int 4 t)
 Zv9 : ∃ t, mg "WANT_AMOUNT" = some (.int 2 t)
 Zux : ∃ t, mg "WANT_DAY" = some (.int 1 t)
 Zuq : ∃ t, mg "WANT_NAME" = some (.int 0 t)
structure Cl where
 NeedError : Addr
 NoText : Addr
 NoShop : Addr
 Ring : Addr
 NoName : Addr
 NoDay : Addr
 NoBuy : Addr
 NoPlan : Addr
structure Exc (K : Zzu) (mg : Str -> Option Value) (c : Cl) : Prop where
 Zst : mg "NeedError" = some (.ref c.NeedError)
 Zso : mg "NoText" = some (.ref c.NoText)
 Zsn : mg "NoShop" = some (.ref c.NoShop)
 Zsq : mg "Ring" = some (.ref c.Ring)
 Zsu : mg "NoName" = some (.ref c.NoName)
 Zsj : mg "NoDay" = some (.ref c.NoDay)
 Zsi : mg "NoBuy" = some (.ref c.NoBuy)
 Zsm : mg "NoPlan" = some (.ref c.NoPlan)
 Zt8 : Uz K c.Ring = true
 Zu5 : Ja K c.Ring
 Zvc : exmOne K (.ref c.Ring) (.ref c.NeedError) = some true
 Zuw : kitOne K (.ref c.Ring) (.ref c.NeedError) = some true
 Zuv : kitOne K (.ref c.Ring) (.ref c.NoText) = some false
 Zuu : kitOne K (.ref c.Ring) (.ref c.NoShop) = some false
 Zuj : kitOne K (.ref c.Ring) (.ref c.Ring) = some true
 Zut : kitOne K (.ref c.Ring) (.ref c.NoName) = some false
 Zuo : kitOne K (.ref c.Ring) (.ref c.NoDay) = some false
 Zun : kitOne K (.ref c.Ring) (.ref c.NoBuy) = some false
 Zus : kitOne K (.ref c.Ring) (.ref c.NoPlan) = some false
 Zve : kitOne K (.ref c.Ring) (.type "ValueError") = some true
 Ztx : Uz K c.NoName = true
 Zum : Ja K c.NoName
 Zvh : exmOne K (.ref c.NoName) (.ref c.NeedError) = some true
 Zv8 : kitOne K (.ref c.NoName) (.ref c.NeedError) = some true
 Zv7 : kitOne K (.ref c.NoName) (.ref c.NoText) = some false
 Zv6 : kitOne K (.ref c.NoName) (.ref c.NoShop) = some false
 Zur : kitOne K (.ref c.NoName) (.ref c.Ring) = some false
 Zv5 : kitOne K (.ref c.NoName) (.ref c.NoName) = some true
 Zuz : kitOne K (.ref c.NoName) (.ref c.NoDay) = some false
 Zuy : kitOne K (.ref c.NoName) (.ref c.NoBuy) = some false
 Zv4 : kitOne K (.ref c.NoName) (.ref c.NoPlan) = some false
 Zvj : kitOne K (.ref c.NoName) (.type "ValueError") = some true
def lamP : Pos := ⟨80, 38, 80, 65⟩
def lamQ : Str := ("worked" : Str) ++ ".<locals>." ++ "<lambda>"
def Tb (H : L2.Hp) (Pt : Addr) : Prop := L2.TblAt H Pt lamP lamQ
section
variable {P : Program} {w : World} {K : Zzu} {mg : Str -> Option Value} {base : Heap} {f : Addr} {fd : FuncData} {c : Cl}
def qo (w : Wr) : Prop := w.parts.length <= 1000 /\ w.coming.length <= 1000
structure Lh (S : Sh) : Prop where
 names : (S.wares.map (·.name)).Nodup
 len : S.wares.length <= 1000
 wares : ∀ w ∈ S.wares, qo w
def sp_part_names : Sp := fun vs H Q _ => ∃ (v : V) (w : Wr), vs = [v] /\ RD H w.d v /\ qo w /\ ∀ p H', H p = none -> H' p = some (.lst ((w.parts.map (·.1)).map V.str)) -> Same H H' -> Q (.ref p) H'
theorem Oq : Aj ["ware"] ["ware"] (A8 Di) := by constructor <;> first | rfl | decide +kernel
theorem Ou (F : Fun K "part_names" "part_names" Di f fd) (T : Txt mg) (C : Exc K mg c) : FnOk P w K mg base CX0 1 f fd ["ware"] sp_part_names := by
 refine F.ok Oq (fun vs H Q E h => ?_) (fun cdv A outer s H vs Q E hr h => ?_)
 ·obtain ⟨v, w, rfl, _⟩ := h
  rfl
 ·obtain ⟨v, w, rfl, rw', ok, k⟩ := h
  have hu := Aq hr
  refine ⟨_, (A9 (Af (Fm (own := ["part"]) (cap := []) rfl (Gv rfl) (Cv (by decide)) (De (Ab hu (pv 0) (An rfl T.Ztz) (fun _ _ => rfl)))
 (fun _ _ _ _ _ _ => ⟨(Ah (i := 0) (of_decide_eq_true rfl) rfl (Zzq rfl) (.inr rfl)), E7, (Ab hu (pv 0) A7 (fun _ _ => rfl))⟩)))), ?_⟩
  obtain ⟨a, c, p, rfl, ha, rc, rp⟩ := Bz rw'
  obtain ⟨b, ps, rfl, hb, rps⟩ := RD.tup_of rp
  have hl := Bo rps
  walk_at "rd"
  refine ⟨_, Ag (j := 6) ha rfl, b, rfl, _, hb, ?_⟩
  refine Gw (Ey b _) (Ax (by rw [hl]; exact ok.1)) (fun H' s' => s' _ _ hb) ((w.parts.map (·.1)).map V.str) (by rw [Zzz, Zzz, hl]) (fun i x H' hi hx s' N M hN => ?_) (fun H' s' p hp => ?_)
  ·obtain ⟨y, hy, ry⟩ := C6 rps hx
   obtain ⟨e, rfl, he⟩ := M8 ry
   walk_at "rd"
   exact ⟨_, Ag (j := 0) (s' _ _ he) rfl, hN _ _ s' (by rw [Zzv, Zzv, hy]; rfl)⟩
  ·exact k p _ (Same.free s' hp) A0 (s'.trans (A6 hp))
def sp_ware_of : Sp := fun vs H Q _ => ∃ (v : V) (S : Sh) (n : Str), vs = [v, .str n] /\ RD H S.d v /\ Lh S /\ n ∈ S.wares.map (·.name) /\ ∀ x w, w ∈ S.wares -> w.name = n -> RD H w.d x -> Q x H
def Wd (b : V) (n : Str) (ws : List Wr) (H : Hp) (i : Nat) (σ : St) (H' : Hp) : Prop := ∃ c : Option V, σ = [some b, some (.str n), c] /\ H' = H /\ ∀ w ∈ ws.take i, w.name ≠ n
theorem sc_ware_of : Aj ["shop", "name", "ware"] ["shop", "name"] (A8 Ee) := by constructor <;> first | rfl | decide +kernel
theorem Ur (F : Fun K "ware_of" "ware_of" Ee f fd) (T : Txt mg) (C : Exc K mg c) : FnOk P w K mg base CX0 1 f fd ["shop", "name"] sp_ware_of := by
 refine F.ok sc_ware_of (fun vs H Q E h => ?_) (fun cdv A outer s H vs Q E hr h => ?_)
 ·obtain ⟨v, S, n, rfl, _⟩ := h
  rfl
 ·obtain ⟨v, S, n, rfl, rs, ok, hn, k⟩ := h
  have hu := Aq hr
  refine ⟨_, (A2 (Bl PassesOwn.never rfl (De (Ab hu (pv 0) A7 (fun _ _ => rfl))) (Ah (i := 2) sc_ware_of.nd rfl (Zzq rfl))
 (A9 (Bp (Al (Da hu) (Ab hu (pv 2) (An rfl T.Zvf) (fun _ _ => rfl)) (pv 1) (B2 _)) (A9 (Af (pv 2))) Au)))
 (A9 T7)), ?_⟩
  obtain ⟨a, b, c, ws, us, rfl, ha, hb, hc, rws, rus⟩ := Cj rs
  have hl := Bo rws
  walk_at "rd"
  refine ⟨_, Ag (j := 0) ha rfl, b, rfl, _, hb, ?_⟩
  refine D4 (Ey b _) (Wd (.ref a) n S.wares H) ⟨_, rfl, rfl, by simp⟩ (fun i σ H' _ h => by obtain ⟨_, _, rfl, _⟩ := h; exact hb) (fun i x σ H' hi hx h => ?_) (fun σ H' h => ?_)
  ·obtain ⟨c, rfl, rfl, hno⟩ := h
   obtain ⟨w, hw, rw'⟩ := C6 rws hx
   obtain ⟨e, c1, c2, rfl, he, _⟩ := Bz rw'
   walk_at "rd"
   refine ⟨_, Ag (j := 0) he rfl, rfl, D3 (fun h => ?_) (fun h => ?_)⟩
   ·exact k _ w (Zzn hw) (by have := of_decide_eq_true h; cases this; rfl) rw'
   ·refine ⟨_, rfl, rfl, fun w' hw' => ?_⟩
    rw [Zz3, hw] at hw'
    rcases Zz4.mp hw' with z | z
    ·exact hno w' z
    ·have e : w' = w := by simpa using z
     subst e
     intro e
     exact h (decide_eq_true (by rw [e]))
  ·obtain ⟨c, rfl, rfl, hno⟩ := h
   rw [hl, Zyu] at hno
   obtain ⟨w, hw, e⟩ := Zzx.mp hn
   exact absurd e (hno w hw)
def sp_without_ends : Sp := fun vs H Q _ => ∃ (a : Addr) (kvs : List (Key × V)) (G : Gr), vs = [.ref a] /\ H a = some (.dK kvs) /\ PDk H kvs G /\ (Ad G).Nodup /\ G.length <= 1000 /\ (∀ e ∈ G, e.2.length <= 1000) /\
 ∀ p kvs' H', H p = none -> H' p = some (.dK kvs') -> PDk H' kvs' (Fc G) -> But a H H' -> Q (.ref p) H'
def i9 (a p : Addr) (o : Obj) (kvs : List (Key × V)) (G : Gr) (H : Hp) (i : Nat) (σ : St) (H' : Hp) : Prop := ∃ (n g : Option V) (kvs' : List (Key × V)), σ = [some (.ref a), some (.ref p), n, g] /\ H' a = some (.frz o (.dK kvs)) /\ H' p = some (.dK kvs') /\ PDk H' kvs' ((G.take i).filterMap (Bw (Ad G))) /\ But a H H'
def rf (a p : Addr) (o : Obj) (kvs kvs' : List (Key × V)) (G G' : Gr) (ps : List Str) (H : Hp) (i : Nat) (acc : List V) (H' : Hp) : Prop := acc = (J5 (Ad G) (ps.take i)).map V.str /\ H' a = some (.frz o (.dK kvs)) /\ H' p = some (.dK kvs') /\ PDk H' kvs' G' /\ But a H H' /\ PDk H' kvs G
theorem Qn {ks ps : List Str} {i : Nat} {x : Str} (h : ps[i]? = some x) : J5 ks (ps.take (i + 1)) = J5 ks (ps.take i) ++ if decide (x ∈ ks) = true then [x] else [] := by
 unfold J5
 rw [Zz3, h, Zvu]
 by_cases hx : x ∈ ks
 ·simp [hx]
 ·simp [hx]
theorem sc_without_ends : Aj ["parts", "left", "name", "going_on"] ["parts"] (A8 Ct) := by constructor <;> first | rfl | decide +kernel
theorem M0 (F : Fun K "without_ends" "without_ends" Ct f fd) (T : Txt mg) (C : Exc K mg c) : FnOk P w K mg base CX0 1 f fd ["parts"] sp_without_ends := by
 refine F.ok sc_without_ends (fun vs H Q E h => ?_) (fun cdv A outer s H vs Q E hr h => ?_)
 ·obtain ⟨a, kvs, G, rfl, _⟩ := h
  rfl
 ·obtain ⟨a, kvs, G, rfl, ha, pd, nd, hG, hps, k⟩ := h
  have hu := Aq hr
  have hkl := pd.len
  have ndk : (kvs.map (·.1)).Nodup := by rw [pd.keys]; exact Qk nd
  refine ⟨_, (A2 (Ac (i := 1) sc_without_ends.nd rfl (Zzq rfl) G0)
 (A2 (Bl PassesOwn.never rfl (kl (pv 0)) (Ah (i := 2) sc_without_ends.nd rfl (Zzq rfl))
 (A2 (Hb (own := ["part"]) (cap := [0]) (i := 3) rfl (Gv rfl) (Cv (by decide)) sc_without_ends.nd rfl rfl (Fz (Ab hu (pv 0) (pv 2) (fun _ _ => rfl)))
 (fun _ _ _ _ _ _ => ⟨(Ah (i := 0) (of_decide_eq_true rfl) rfl (Zzq rfl) (.inr rfl)), (Vn (Al (kt hu) (pv 0) (pv 1) rfl)), (pv 0)⟩))
 (A9 (Bp (dj (pv 3)) (A9 (Gc (pv 3) (Gd (pv 1) (pv 2) (Fu hu)))) Au))))
 (A9 (Af (pv 1))))), ?_⟩
  walk_at "rd"
  refine fun p hp => ⟨_, by rw [A5 (A3 ha hp)]; exact ha, fun o => ?_⟩
  have nap : a ≠ p := A3 ha hp
  have b0 : But a H (upd (upd H p (.dK [])) a (.frz o (.dK kvs))) := (Mc hp).trans S9
  have pl : ∀ {H' : Hp}, But a H H' -> PDk H' kvs G := fun {H'} bt => pd.mono fun l xs h => bt l _ (fun z => by rw [z, ha] at h; cases h) h
  refine D4 (qg a o kvs) (i9 a p o kvs G H) ⟨_, _, [], rfl, A0, by rw [A5 (Zzh nap), A0], .nil, b0⟩ (fun i σ H' _ h => let ⟨_, _, _, _, h, _⟩ := h; h) (fun i x σ H' hi hx h => ?_) (fun σ H' h => ?_)
  ·obtain ⟨n, g, kvs', rfl, h1, h2, h3, bt⟩ := h
   obtain ⟨key, val, hk, rfl⟩ := hx
   obtain ⟨e, l, he, rfl, rfl, hl⟩ := PDk.get' (pl bt) hk
   have hv := Jb ndk hk
   have hmem := Zzn he
   refine cut1 (fun σ' H'' => ∃ q : Addr, σ' = [some (.ref a), some (.ref p), some (.str e.1), some (.ref q)] /\ H'' q = some (.lst ((J5 (Ad G) e.2).map V.str)) /\ H'' a = some (.frz o (.dK kvs)) /\ H'' p = some (.dK kvs') /\ PDk H'' kvs' ((G.take i).filterMap (Bw (Ad G))) /\ But a H H'') ?_ (fun KK hK => ?_)
   ·rintro σ' H'' ⟨q, rfl, hq, g1, g2, g3, gb⟩
    walk_at "rd"
    refine ⟨_, hq, ?_⟩
    have et : (G.take (i + 1)).filterMap (Bw (Ad G)) = (G.take i).filterMap (Bw (Ad G)) ++ (Bw (Ad G) e).toList := by
     rw [Zz3, he, List.filterMap_append]
     cases hc : Bw (Ad G) e <;> simp [hc]
    refine D3 (fun hz => ?_) (fun hz => ?_)
    ·have hne : J5 (Ad G) e.2 ≠ [] := fun z => by rw [z] at hz; exact absurd hz (by decide)
     have hc : Bw (Ad G) e = some (e.1, J5 (Ad G) e.2) := by unfold Bw; rw [if_neg hne]
     have nin : e.1 ∉ Ad ((G.take i).filterMap (Bw (Ad G))) := fun m => by
      have m' : e.1 ∈ Ad (G.take i) := (keys_filter (ks := Ad G) (G := G.take i)).subset m
      have nd' : (Ad (G.take i) ++ Ad (G.drop i)).Nodup := by
       have : Ad (G.take i) ++ Ad (G.drop i) = Ad G := by unfold Ad; rw [<- Zzg, Zwy]
       rw [this]; exact nd
      have hlt : i < G.length := (Zzl.mp he).1
      have md : e.1 ∈ Ad (G.drop i) := by
       unfold Ad
       rw [List.drop_eq_getElem_cons hlt]
       have : G[i] = e := (Zzl.mp he).2
       rw [this, Zz7]
       exact Zzb
      exact (Zxe.mp nd').2.2 _ m' _ md rfl
     have hlen' : kvs'.length < sizeLine := by
      have := g3.len
      have h5 : ((G.take i).filterMap (Bw (Ad G))).length <= (G.take i).length := List.length_filterMap_le _ _
      rw [Zyl] at h5
      exact Zyx (m := 1000) (by omega) (by decide)
     refine ⟨kvs', .inr e.1, rfl, g2, hlen', ?_⟩
     have ku : ∀ l xs, H'' l = some (.lst xs) -> upd H'' p (.dK (Eu kvs' (.inr e.1) (.ref q))) l = some (.lst xs) := fun l xs h => by rw [A5 (fun z => by rw [z, g2] at h; cases h)]; exact h
     refine ⟨_, _, _, rfl, by rw [A5 nap]; exact g1, A0, ?_, ?_⟩
     ·rw [et, hc]
      exact (g3.mono ku).snoc nin (ku _ _ hq)
     ·exact fun b o' nb hb => by rw [A5 (A3 hb hp)]; exact gb b o' nb hb
    ·have hne : J5 (Ad G) e.2 = [] := by
      cases hx : J5 (Ad G) e.2 with
      | nil => rfl
      | cons y r => rw [hx] at hz; exact absurd rfl hz
     have hc : Bw (Ad G) e = none := by unfold Bw; rw [if_pos hne]
     exact ⟨_, _, _, rfl, g1, g2, by rw [et, hc]; simpa using g3, gb⟩
   ·walk_at "rd"
    refine ⟨_, Ge (.inr ⟨o, h1⟩) hv, l, rfl, _, hl, ?_⟩
    refine Lc (J8 l _) (Ax (by rw [Zzz]; exact hps e hmem)) (rf a p o kvs kvs' G ((G.take i).filterMap (Bw (Ad G))) e.2 H) ⟨rfl, h1, h2, h3, bt, pl bt⟩ (fun j acc H2 _ h => ?_) (fun j acc H2 h => ?_) (fun j x acc H2 hj hx h => ?_) (fun acc H2 h q hq => ?_)
    ·obtain ⟨_, _, _, _, hb, hpd⟩ := h
     obtain ⟨l2, hl2, hl3⟩ := PDk.get hpd he
     rw [hk] at hl2
     cases hl2
     exact hl3
    ·rw [h.1, Zzz]
     refine Zz5 (Zw7 _ _) ?_
     rw [Zyl]
     exact Nat.min_le_left _ _
    ·obtain ⟨rfl, w1, w2, w3, w4, w5⟩ := h
     rw [Zzv] at hx
     cases ex : e.2[j]? with
     | none => rw [ex] at hx; cases hx
     | some y =>
     rw [ex] at hx
     cases hx
     walk_at "rd"
     refine ⟨_, .inr (.inr ⟨a, kvs, .inr y, rfl, rfl, .inr ⟨o, w1⟩, rfl⟩), ?_⟩
     rw [w5.has y]
     refine D3 (fun hy => ?_) (fun hy => ?_)
     ·exact ⟨by rw [Qn ex, if_pos hy, Zzg]; rfl, w1, w2, w3, w4, w5⟩
     ·exact ⟨by rw [Qn ex, if_neg hy, Zxz], w1, w2, w3, w4, w5⟩
    ·obtain ⟨rfl, w1, w2, w3, w4, w5⟩ := h
     rw [Zzz, Zyu]
     have nq : ∀ {b : Addr} {o' : HO} (o'' : HO), H2 b = some o' -> upd H2 q o'' b = some o' := fun {b o'} o'' hb => by rw [A5 (A3 hb hq)]; exact hb
     exact hK _ _ ⟨q, rfl, A0, nq _ w1, nq _ w2, w3.mono fun l xs h => nq _ h, w4.trans (Mc hq)⟩
  ·obtain ⟨n, g, kvs', rfl, h1, h2, h3, bt⟩ := h
   walk_at "rd"
   rw [hkl, Zyu] at h3
   exact k p kvs' H' hp h2 h3 bt
def sp_endless_parts : Sp := fun vs H Q _ => ∃ (v : V) (S : Sh), vs = [v] /\ RD H S.d v /\ Lh S /\ ∀ p kvs' H', H p = none -> H' p = some (.dK kvs') -> PDk H' kvs' (Bq S.wares.length (Dp S)) -> Same H H' -> Q (.ref p) H'
def ng (v : V) (p : Addr) (S : Sh) (H : Hp) (i : Nat) (σ : St) (H' : Hp) : Prop := ∃ (n g : Option V) (kvs' : List (Key × V)), σ = [some v, some (.ref p), n, g] /\ H' p = some (.dK kvs') /\ PDk H' kvs' ((Dp S).take i) /\ Same H H'
def mx (v : V) (S : Sh) (H : Hp) (i : Nat) (σ : St) (H' : Hp) : Prop := ∃ (q : Addr) (n g : Option V) (kvs' : List (Key × V)), σ = [some v, some (.ref q), n, g] /\ H q = none /\ H' q = some (.dK kvs') /\ PDk H' kvs' (Bq i (Dp S)) /\ Same H H'
theorem M9 (S : Sh) : Ad (Dp S) = S.wares.map (·.name) := by unfold Ad Dp; rw [Zyk]; rfl
theorem O5 (S : Sh) : (Dp S).length = S.wares.length := by unfold Dp; rw [Zzz]
theorem Zx {S : Sh} (ok : Lh S) : ∀ e ∈ Dp S, e.2.length <= 1000 := fun e he => by
 obtain ⟨w, hw, rfl⟩ := Zzx.mp he
 show (w.parts.map (·.1)).length <= 1000
 rw [Zzz]
 exact (ok.wares w hw).1
theorem sc_endless_parts : Aj ["shop", "parts", "ware", "turn"] ["shop"] (A8 Ch) := by constructor <;> first | rfl | decide +kernel
theorem L5 (F : Fun K "endless_parts" "endless_parts" Ch f fd) (T : Txt mg) (C : Exc K mg c) (Zvk : Has P w K mg base "part_names" 1 ["ware"] sp_part_names) (Zu8 : Has P w K mg base "without_ends" 1 ["parts"] sp_without_ends) : FnOk P w K mg base CX0 2 f fd ["shop"] sp_endless_parts := by
 refine F.ok sc_endless_parts (fun vs H Q E h => ?_) (fun cdv A outer s H vs Q E hr h => ?_)
 ·obtain ⟨v, S, rfl, _⟩ := h
  rfl
 ·obtain ⟨v, S, rfl, rs, ok, k⟩ := h
  have hu := Aq hr
  have nd : (Ad (Dp S)).Nodup := by rw [M9]; exact ok.names
  refine ⟨_, (A2 (Ac (i := 1) sc_endless_parts.nd rfl (Zzq rfl) G0)
 (A2 (Bl PassesOwn.never rfl (De (Ab hu (pv 0) A7 (fun _ _ => rfl))) (Ah (i := 2) sc_endless_parts.nd rfl (Zzq rfl))
 (A9 (Gc (Aa Zvk hr.z rfl (A4 (pv 2) A1)) (Gd (pv 1) (Ab hu (pv 2) (An rfl T.Zvf) (fun _ _ => rfl)) (Fu hu)))))
 (A2 (Bl PassesOwn.never rfl (En rfl T.Zuf (A4 (Az Cc rfl T.Zul Er (A4 (Ab hu (pv 0) A7 (fun _ _ => rfl)) A1)) A1)) (Ah (i := 3) sc_endless_parts.nd rfl (Zzq rfl))
 (A9 (Ac (i := 1) sc_endless_parts.nd rfl (Zzq rfl) (Aa Zu8 hr.z rfl (A4 (pv 1) A1)))))
 (A9 (Af (pv 1)))))), ?_⟩
  obtain ⟨a, b, c, ws, us, rfl, ha, hb, hc, rws, rus⟩ := Cj rs
  have hl := Bo rws
  refine gu (fun σ' H' => ∃ (p : Addr) (n g : Option V) (kvs' : List (Key × V)), σ' = [some (.ref a), some (.ref p), n, g] /\ H p = none /\ H' p = some (.dK kvs') /\ PDk H' kvs' (Dp S) /\ Same H H') ?_ (fun KK hK => ?_)
  ·rintro σ' H1 ⟨p, n, g, kvs', rfl, hp, hp1, pd, sm⟩
   walk_at "rd"
   refine ⟨_, Ag (j := 0) (sm _ _ ha) rfl, b, rfl, _, .inr (sm _ _ hb), by omega, by have := ok.len; omega, ?_⟩
   have en : ((ws.length : Nat) : Int).toNat = S.wares.length := by omega
   rw [en]
   refine D4 (Lu 0 _) (mx (.ref a) S H) ⟨p, _, _, _, rfl, hp, hp1, pd, sm⟩ (fun _ _ _ _ _ => trivial) (fun i x σ H2 hi hx h => ?_) (fun σ H2 h => ?_)
   ·obtain ⟨q, n, g, kvs', rfl, hq, hq1, pd, sm⟩ := h
    walk_at "rd"
    refine ⟨q, kvs', _, rfl, hq1, pd, Jl nd i, by have := Ob (Dp S) i; rw [O5] at this; have := ok.len; omega, fun e he => ?_, fun p2 kvs2 H3 hp2 hp3 pd3 bt => ?_⟩
    ·obtain ⟨ps, h1, _, h3⟩ := G5 i he
     have := Zx ok _ h1
     have : ps.length <= 1000 := this
     omega
    ·exact ⟨p2, _, _, kvs2, rfl, Same.free sm hp2, hp3, pd3, fun b' o hb' => bt b' o (A3 hb' hq) (sm b' o hb')⟩
   ·obtain ⟨q, n, g, kvs', rfl, hq, hq1, pd, sm⟩ := h
    walk_at "rd"
    exact k q kvs' H2 hq hq1 pd sm
  ·walk_at "rd"
   refine fun p hp => ?_
   refine ⟨_, Ag (j := 0) (by rw [A5 (A3 ha hp)]; exact ha) rfl, b, rfl, _, by rw [A5 (A3 hb hp)]; exact hb, ?_⟩
   refine D4 (Ey b _) (ng (.ref a) p S H) ⟨_, _, [], rfl, A0, .nil, A6 hp⟩ (fun i σ H' _ h => let ⟨_, _, _, _, _, _, s⟩ := h; s _ _ hb) (fun i x σ H' hi hx h => ?_) (fun σ H' h => ?_)
   ·obtain ⟨n, g, kvs', rfl, h1, h2, sm⟩ := h
    obtain ⟨w, hw, rw'⟩ := C6 rws hx
    have hg : (Dp S)[i]? = some (w.name, w.parts.map (·.1)) := by unfold Dp; rw [Zzv, hw]; rfl
    walk_at "rd"
    refine ⟨x, w, rfl, RD.same sm _ _ rw', ok.wares w (Zzn hw), fun q H2 hq hq2 sm2 => ?_⟩
    obtain ⟨e, c1, c2, rfl, he, _⟩ := Bz rw'
    have sm02 := sm.trans sm2
    have nin : w.name ∉ Ad ((Dp S).take i) := fun m => by
     have nd' : (Ad ((Dp S).take i) ++ Ad ((Dp S).drop i)).Nodup := by
      have : Ad ((Dp S).take i) ++ Ad ((Dp S).drop i) = Ad (Dp S) := by unfold Ad; rw [<- Zzg, Zwy]
      rw [this]; exact nd
     have hlt : i < (Dp S).length := (Zzl.mp hg).1
     have md : w.name ∈ Ad ((Dp S).drop i) := by
      unfold Ad
      rw [List.drop_eq_getElem_cons hlt]
      have : (Dp S)[i] = (w.name, w.parts.map (·.1)) := (Zzl.mp hg).2
      rw [this, Zz7]
      exact Zzb
     exact (Zxe.mp nd').2.2 _ m _ md rfl
    have hp2 := sm2 p _ h1
    refine ⟨_, Ag (j := 0) (sm02 _ _ he) rfl, kvs', .inr w.name, rfl, hp2, ?_, ?_⟩
    ·have := h2.len
     rw [Zyl, O5] at this
     have := ok.len
     exact Zyx (m := 1000) (by omega) (by decide)
    ·have ku : ∀ l xs, H2 l = some (.lst xs) -> upd H2 p (.dK (Eu kvs' (.inr w.name) (.ref q))) l = some (.lst xs) := fun l xs h => by rw [A5 (fun z => by rw [z, hp2] at h; cases h)]; exact h
     refine ⟨_, _, _, rfl, A0, ?_, fun b' o hb' => by rw [A5 (A3 hb' hp)]; exact sm02 b' o hb'⟩
     rw [Zz3, hg]
     exact ((h2.mono fun l xs h => sm2 l _ h).mono ku).snoc nin (ku _ _ hq2)
   ·obtain ⟨n, g, kvs', rfl, h1, h2, sm⟩ := h
    rw [hl, <- O5, Zyu] at h2
    exact hK _ _ ⟨p, _, _, kvs', rfl, hp, h1, h2, sm⟩
def D1 (S : Sh) : Prop := Bq S.wares.length (Dp S) = []
def Oj (G : Gr) (x y : Str) : Prop := ∃ ps, (x, ps) ∈ G /\ y ∈ ps
def Sc (G : Gr) (xs : List Str) : Prop := xs ≠ [] /\ xs.Nodup /\ ∀ (i : Nat) (x : Str), xs[i]? = some x -> ∃ y, xs[if i = 0 then xs.length - 1 else i - 1]? = some y /\ Oj G y x
theorem Z2 {G : Gr} {n : Nat} {x y : Str} (h : Oj (Bq n G) x y) : Oj G x y := by
 obtain ⟨ps, h1, h2⟩ := h
 obtain ⟨qs, q1, q2, _⟩ := G5 n h1
 exact ⟨qs, q1, q2 y h2⟩
def Wk (G : Gr) (xs : List Str) : Prop := ∀ (i : Nat) (x y : Str), xs[i]? = some x -> xs[i + 1]? = some y -> Oj G x y
theorem V5 {G : Gr} {way : List Str} {name : Str} (nd : way.Nodup) (c : Wk G (way ++ [name])) (hm : name ∈ way) : Sc G (way.drop (way.idxOf name)) := by
 have hlt : way.idxOf name < way.length := Zwo.mpr hm
 have hat : way[way.idxOf name]? = some name := by rw [Zzr hlt, List.getElem_idxOf]
 have hl : (way.drop (way.idxOf name)).length = way.length - way.idxOf name := Zye
 refine ⟨fun z => ?_, (List.drop_sublist _ _).nodup nd, fun i x hx => ?_⟩
 ·rw [z] at hl
  have hl : 0 = way.length - way.idxOf name := hl
  omega
 ·rw [Zwp] at hx
  have hi := (Zzl.mp hx).1
  by_cases e : i = 0
  ·subst e
   rw [if_pos rfl, Zwp, hl]
   have hx : way[way.idxOf name]? = some x := hx
   rw [hat] at hx
   have hx : name = x := Zzc hx
   subst hx
   have ei : way.idxOf name + (way.length - way.idxOf name - 1) = way.length - 1 := by omega
   rw [ei]
   have hl1 : way.length - 1 < way.length := by omega
   refine ⟨_, Zzr hl1, c (way.length - 1) _ _ ?_ ?_⟩
   ·rw [Zyo hl1]
    exact Zzr hl1
   ·rw [show way.length - 1 + 1 = way.length by omega, Zyf (Zzt _), Nat.sub_self]
    rfl
  ·rw [if_neg e, Zwp]
   have hj : way.idxOf name + (i - 1) < way.length := by omega
   refine ⟨_, Zzr hj, c (way.idxOf name + (i - 1)) _ _ ?_ ?_⟩
   ·rw [Zyo hj]
    exact Zzr hj
   ·rw [show way.idxOf name + (i - 1) + 1 = way.idxOf name + i by omega, Zyo hi]
    exact hx
theorem V4 {G : Gr} {way : List Str} {name nx : Str} (c : Wk G (way ++ [name])) (h : Oj G name nx) : Wk G (way ++ [name] ++ [nx]) := fun i x y hx hy => by
 by_cases e : i + 1 < (way ++ [name]).length
 ·rw [Zyo (by omega)] at hx
  rw [Zyo e] at hy
  exact c i x y hx hy
 ·have hi := (Zzl.mp hy).1
  rw [Zyv] at hi e
  simp only [Zyy] at hi e
  rw [Zyv] at hi
  simp only [Zyy] at hi
  have ei : i = way.length := by omega
  subst ei
  rw [List.append_assoc, Zyf (Zzt _), Nat.sub_self] at hx
  rw [List.append_assoc, Zyf (by omega), show way.length + 1 - way.length = 1 by omega] at hy
  have hx : some name = some x := hx
  have hy : some nx = some y := hy
  rw [<- Zzc hx, <- Zzc hy]
  exact h
theorem M5 : ∀ {way ks : List Str}, way.Nodup -> (∀ x ∈ way, x ∈ ks) -> way.length <= ks.length
 | [], _, _, _ => Zyq _
 | x :: r, ks, nd, h => by
  rw [Zym] at nd
  have hx := h x Zzb
  have h1 := M5 (way := r) (ks := ks.erase x) nd.2 fun y hy => (List.mem_erase_of_ne (fun z => nd.1 (by rw [<- z]; exact hy))).mpr (h y (Zze _ hy))
  rw [List.length_erase_of_mem hx] at h1
  have h2 := List.length_pos_of_mem hx
  rw [Zxm]
  omega
theorem gq {xs : List V} {i : Int} (hi : 0 <= i) : Dq xs (some i) none = xs.drop i.toNat := by
 unfold Dq
 rw [Ul hi]
 have e : HT.sIx xs.length xs.length none = xs.length := rfl
 rw [e]
 by_cases h : i.toNat <= xs.length
 ·rw [Zvz h, Zwg (by rw [Zye]; exact Zzt _)]
 ·have h : xs.length <= i.toNat := by omega
  rw [Nat.min_eq_right h, List.drop_length, List.drop_of_length_le h, List.take_nil]
def sp_ring : Sp := fun vs H Q _ => ∃ (v : V) (S : Sh), vs = [v] /\ RD H S.d v /\ Lh S /\ (D1 S -> ∀ H', Same H H' -> Q .non H') /\ ∀ p H' (xs : List Str), ¬ D1 S -> H p = none -> H' p = some (.lst (xs.map V.str)) -> xs.length <= 1000 -> Sc (Dp S) xs -> Same H H' -> Q (.ref p) H'
def mj (v : V) (a w : Addr) (kvs : List (Key × V)) (G : Gr) (H : Hp) (m : Nat) (σ : St) (H' : Hp) : Prop := ∃ (way : List Str) (name : Str), σ = [some v, some (.ref a), some (.ref w), some (.str name)] /\ H' a = some (.dK kvs) /\ H' w = some (.lst (way.map V.str)) /\ way.Nodup /\ (∀ x ∈ way, x ∈ Ad G) /\ name ∈ Ad G /\ Wk G (way ++ [name]) /\ m + way.length = G.length /\ Same H H'
theorem sc_ring : Aj ["shop", "parts", "way", "name"] ["shop"] (A8 Kv) := by constructor <;> first | rfl | decide +kernel
theorem fe (F : Fun K "ring" "ring" Kv f fd) (T : Txt mg) (C : Exc K mg c) (Zuc : Has P w K mg base "endless_parts" 2 ["shop"] sp_endless_parts) : FnOk P w K mg base CX0 3 f fd ["shop"] sp_ring := by
 refine F.ok sc_ring (fun vs H Q E h => ?_) (fun cdv A outer s H vs Q E hr h => ?_)
 ·obtain ⟨v, S, rfl, _⟩ := h
  rfl
 ·obtain ⟨v, S, rfl, rs, ok, k, kr⟩ := h
  have hu := Aq hr
  refine ⟨_, (A2 (Ac (i := 1) sc_ring.nd rfl (Zzq rfl) (Aa Zuc hr.z rfl (A4 (pv 0) A1)))
 (A2 (Bp (R8 (dk (pv 1))) (A9 (Af Hc)) Au)
 (A2 (Ac (i := 2) sc_ring.nd rfl (Zzq rfl) (Bm A1))
 (A2 (Ac (i := 3) sc_ring.nd rfl (Zzq rfl) (Ab hu (D8 (V7 rfl) rfl T.Zsr Wa (A4 (pv 1) A1)) A7 (fun _ _ => rfl)))
 (A2 (Ic PassesOwn.never (Al (Q5 hu) (pv 3) (pv 2) rfl) (A2 (Ay (Gp Zyp Zyj Zyi D9 (pv 2) (A4 (pv 3) A1)))
 (A9 (Ac (i := 3) sc_ring.nd rfl (Zzq rfl) (Ab hu (Ab hu (pv 1) (pv 3) (fun _ _ => rfl)) A7 (fun _ _ => rfl))))))
 (A9 (Af (E8 G8 (pv 2) (Fj (Gp Zyp PySem.F.slot_list_index PySem.F.type_list_index Zb (pv 2) (A4 (pv 3) A1))) Fk)))))))), ?_⟩
  walk_at "rd"
  refine ⟨v, S, rfl, rs, ok, fun p kvs H1 hp hp1 pd sm => ⟨p, rfl, kvs, hp1, ?_⟩⟩
  have nd : (Ad (Dp S)).Nodup := by rw [M9]; exact ok.names
  have ndc := Jl nd S.wares.length
  have hG : (Bq S.wares.length (Dp S)).length <= 1000 := by have := Ob (Dp S) S.wares.length; rw [O5] at this; have := ok.len; omega
  have hkl := pd.len
  refine D3 (fun h => ?_) (fun h => ?_)
  ·have : kvs = [] := by simpa using h
   rw [this] at pd
   refine k ?_ H1 sm
   unfold D1
   exact Zx1 (by rw [this] at hkl; exact hkl.symm)
  ·have hne : kvs ≠ [] := by simpa using h
   have hnr : ¬ D1 S := fun z => by
    unfold D1 at z
    rw [z] at hkl
    exact hne (Zx1 hkl)
   have closed : ∀ e ∈ Bq S.wares.length (Dp S), e.2 ≠ [] /\ ∀ y ∈ e.2, y ∈ Ad (Bq S.wares.length (Dp S)) := fun e he => V1 (by rw [O5]; exact Zzt _) he
   have ring_of : ∀ xs, Sc (Bq S.wares.length (Dp S)) xs -> Sc (Dp S) xs := fun xs ⟨h1, h2, h3⟩ => ⟨h1, h2, fun i x hx => let ⟨y, e, z⟩ := h3 i x hx; ⟨y, e, Z2 z⟩⟩
   generalize Bq S.wares.length (Dp S) = G at pd ndc hG hkl closed ring_of
   refine ⟨by decide, fun w hw => ?_⟩
   have u := A6 (o := .lst []) hw
   refine ⟨p, kvs, rfl, .inl (u _ _ hp1), by omega, fun l hl => ?_⟩
   have u2 := A6 (o := .lst (kvs.map fun q => kV q.1)) hl
   obtain ⟨e0, he0⟩ : ∃ e, G[0]? = some e := ⟨_, Zzr (by have := Zx6.mpr hne; omega)⟩
   obtain ⟨l0, hk0, hl0⟩ := pd.get he0
   refine ⟨.str e0.1, C8 (j := 0) A0 (by rw [Zzv, hk0]; rfl), ?_⟩
   refine ⟨mj v p w kvs G H1, ⟨G.length, [], e0.1, rfl, u2 _ _ (u _ _ hp1), u2 _ _ A0, Zx0, (fun x hx => nomatch hx), Zzx.mpr ⟨e0, Zzn he0, rfl⟩, (fun i x y hx hy => ?_), rfl, u.trans u2⟩, ?_⟩
   ·have := (Zzl.mp hy).1
    simp at this
   rintro m σ H2 ⟨way, name, rfl, ha2, hw2, ndw, sub, hnm, ch, hm, s2⟩
   walk_at "rd"
   refine ⟨_, .inl ⟨w, _, rfl, .inl hw2, rfl, J0 way, rfl⟩, ?_⟩
   rw [O4]
   have hkl2 : (Ad G).length = G.length := by unfold Ad; rw [Zzz]
   by_cases hin : name ∈ way
   ·rw [decide_eq_true hin, if_neg (by decide)]
    refine ⟨Ea hw2, way, hw2, hin, _, hw2, fun r hr2 => ?_⟩
    rw [gq (Int.natCast_nonneg _), Int.toNat_natCast, <- Zwc]
    refine kr r _ (way.drop (way.idxOf name)) hnr (Same.free (sm.trans s2) hr2) A0 ?_ (ring_of _ (V5 ndw ch hin)) ((sm.trans s2).trans (A6 hr2))
    have := M5 ndw sub
    rw [Zye]
    omega
   ·rw [decide_eq_false hin, if_pos (by decide)]
    obtain ⟨e, hem, een⟩ := Zzx.mp hnm
    obtain ⟨i, hi⟩ := List.getElem?_of_mem hem
    obtain ⟨l2, hk2, hl2⟩ := pd.get hi
    have hv2 : C5 kvs (.inr name) = some (.ref l2) := by
     rw [<- een]
     exact Jb (by rw [pd.keys]; exact Qk ndc) hk2
    obtain ⟨hne2, hall⟩ := closed e hem
    obtain ⟨nx, hnx⟩ : ∃ nx, e.2[0]? = some nx := ⟨_, Zzr (Zx6.mpr hne2)⟩
    have hnxm := Zzn hnx
    have nd2 : (way ++ [name]).Nodup := Zxe.mpr ⟨ndw, by simp, fun a ha b hb z => by rw [z, Zzd.mp hb] at ha; exact hin ha⟩
    have sub2 : ∀ x ∈ way ++ [name], x ∈ Ad G := fun x hx => by
     rcases Zz4.mp hx with z | z
     ·exact sub x z
     ·rw [Zzd.mp z]; exact hnm
    have hl3 := M5 nd2 sub2
    rw [Zyv, Zyy, hkl2] at hl3
    have pw : ∀ {q : Addr} {o : HO}, H2 q = some o -> (∀ xs, o ≠ .lst (xs : List V)) -> upd H2 w (.lst (way.map V.str ++ [.str name])) q = some o := fun {q o} h1 h2 => by rw [A5 (fun z => by rw [z, hw2] at h1; exact h2 _ (Zzc h1).symm)]; exact h1
    have lw : l2 ≠ w := A3 hl2 hw
    refine ⟨_, fun σ' H' h => h, Ea hw2, _, hw2, by rw [Zzz]; exact Zyx (m := 1000) (by omega) (by decide), .ref l2, Ge (.inl (pw ha2 (fun _ z => by cases z))) hv2, .str nx, C8 (j := 0) (xs := e.2.map V.str) (by rw [A5 lw]; exact s2 _ _ hl2) (by rw [Zzv, hnx]; rfl), m - 1, by omega, way ++ [name], nx, rfl, pw ha2 (fun _ z => by cases z), by rw [A0, Zzg]; rfl, nd2, sub2, hall nx hnxm, V4 ch ⟨e.2, by rw [<- een]; exact hem, hnxm⟩, by rw [Zyv, Zyy]; omega, fun b o hb => by rw [A5 (A3 hb hw)]; exact s2 b o hb⟩
def sp_check_rings : Sp := fun vs H Q _ => ∃ (v : V) (S : Sh), vs = [v] /\ RD H S.d v /\ Lh S /\ D1 S /\ ∀ H', Same H H' -> Q .non H'
theorem sc_check_rings : Aj ["shop", "found", "names"] ["shop"] (A8 Ck) := by constructor <;> first | rfl | decide +kernel
theorem Ng (F : Fun K "check_rings" "check_rings" Ck f fd) (T : Txt mg) (C : Exc K mg c) (Ztk : Has P w K mg base "ring" 3 ["shop"] sp_ring) : FnOk P w K mg base CX0 4 f fd ["shop"] sp_check_rings := by
 refine F.ok sc_check_rings (fun vs H Q E h => ?_) (fun cdv A outer s H vs Q E hr h => ?_)
 ·obtain ⟨v, S, rfl, _⟩ := h
  rfl
 ·obtain ⟨v, S, rfl, rs, ok, no, k⟩ := h
  have hu := Aq hr
  refine ⟨_, (A2 (Ac (i := 1) sc_check_rings.nd rfl (Zzq rfl) (Aa Ztk hr.z rfl (A4 (pv 0) A1)))
 (A9 (Bp (Al Is (pv 1) Hc (B2 _)) (A2 (Ac (i := 2) sc_check_rings.nd rfl (Zzq rfl) (Gp PySem.F.plainAttrs_str PySem.F.slot_str_join PySem.F.type_str_join Vy Ce (A4 (pv 1) A1)))
 (A9 T7)) Au))), ?_⟩
  walk_at "rd"
  refine ⟨v, S, rfl, rs, ok, fun _ H' sm => ?_, fun p H' xs nr => absurd no nr⟩
  walk_at "rd"
  exact j4 trivial (k H' sm)
end
set_option maxHeartbeats 4000000
section
variable {P : Program} {w : World} {K : Zzu} {mg : Str -> Option Value} {base : Heap} {f : Addr} {fd : FuncData} {c : Cl} {Pt : Addr}
structure Wh (S : Sh) : Prop extends Lev S where
 ok : Lh S
 few : S.wares.length < 64
theorem Uv {S : Sh} (h : Lev S) : D1 S := by
 obtain ⟨r, h1, h2⟩ := h.low
 unfold D1
 refine U5 (r := r) (fun e he x hx => ?_) (fun e he => ?_)
 ·obtain ⟨w, hw, rfl⟩ := Zzx.mp he
  obtain ⟨p, hp, rfl⟩ := Zzx.mp hx
  exact h2 w hw p hp
 ·obtain ⟨w, hw, rfl⟩ := Zzx.mp he
  exact h1 w hw
def C7 (S : Sh) : List Str := S.wares.map (·.name)
theorem Dv (S : Sh) : (C7 S).length = S.wares.length := by unfold C7; rw [Zzz]
def sp_names_of : Sp := fun vs H Q _ => ∃ (v : V) (S : Sh), vs = [v] /\ RD H S.d v /\ S.wares.length <= 1000 /\ ∀ p H', H p = none -> H' p = some (.lst ((C7 S).map V.str)) -> Same H H' -> Q (.ref p) H'
theorem Sx : Aj ["shop"] ["shop"] (A8 Eh) := by constructor <;> first | rfl | decide +kernel
theorem Te (F : Fun K "names_of" "names_of" Eh f fd) (T : Txt mg) (C : Exc K mg c) : FnOk P w K mg base CX0 1 f fd ["shop"] sp_names_of := by
 refine F.ok Sx (fun vs H Q E h => ?_) (fun cdv A outer s H vs Q E hr h => ?_)
 ·obtain ⟨v, S, rfl, _⟩ := h
  rfl
 ·obtain ⟨v, S, rfl, rs, hlen, k⟩ := h
  have hu := Aq hr
  refine ⟨_, (A9 (Af (Fm (own := ["ware"]) (cap := []) rfl (Gv rfl) (Cv (by decide)) (De (Ab hu (pv 0) A7 (fun _ _ => rfl)))
 (fun _ _ _ _ _ _ => ⟨(Ah (i := 0) (of_decide_eq_true rfl) rfl (Zzq rfl) (.inr rfl)), E7, (Ab hu (pv 0) (An rfl T.Zvf) (fun _ _ => rfl))⟩)))), ?_⟩
  obtain ⟨a, b, c, ws, us, rfl, ha, hb, hc, rws, rus⟩ := Cj rs
  have hl := Bo rws
  walk_at "rd"
  refine ⟨_, Ag (j := 0) ha rfl, b, rfl, _, hb, ?_⟩
  refine Gw (Ey b _) (Ax (by omega)) (fun H' s' => s' _ _ hb) ((C7 S).map V.str) (by rw [Zzz, Dv, hl]) (fun i x H' hi hx s' N M hN => ?_) (fun H' s' p hp => ?_)
  ·obtain ⟨y, hy, ry⟩ := C6 rws hx
   obtain ⟨e, c1, c2, rfl, he, _⟩ := Bz ry
   walk_at "rd"
   refine ⟨_, Ag (j := 0) (s' _ _ he) rfl, hN _ _ s' ?_⟩
   unfold C7
   rw [Zzv, Zzv, hy]
   rfl
  ·exact k p _ (Same.free s' hp) A0 (s'.trans (A6 hp))
def sp_levels : Sp := fun vs H Q _ => ∃ (v : V) (S : Sh), vs = [v] /\ RD H S.d v /\ Wh S /\ ∀ p H', H p = none -> H' p = some (.dK (fnD (C7 S) (lv S))) -> Same H H' -> Q (.ref p) H'
def gy (v : V) (p : Addr) (S : Sh) (H : Hp) (i : Nat) (σ : St) (H' : Hp) : Prop := ∃ o1 o2 o3 o4 : Option V, σ = [some v, some (.ref p), o1, o2, o3, o4] /\ H' p = some (.dK (fnD ((C7 S).take i) fun _ => 0)) /\ Same H H'
def je (S : Sh) (k i j : Nat) (g : Str -> Int) : Prop := (∀ x, 0 <= g x /\ lvF S k x <= g x /\ (x ∈ C7 S -> g x <= lv S x)) /\ (∀ w ∈ S.wares.take i, ∀ p ∈ w.parts, 1 + lvF S k w.name <= g p.1) /\ ∀ w, S.wares[i]? = some w -> ∀ p ∈ w.parts.take j, 1 + lvF S k w.name <= g p.1
def h9 (v : V) (p : Addr) (S : Sh) (H : Hp) (k : Nat) (σ : St) (H' : Hp) : Prop := ∃ (o1 o2 o3 o4 : Option V) (g : Str -> Int), σ = [some v, some (.ref p), o1, o2, o3, o4] /\ H' p = some (.dK (fnD (C7 S) g)) /\ (∀ x, 0 <= g x /\ lvF S k x <= g x /\ (x ∈ C7 S -> g x <= lv S x)) /\ Same H H'
def i5 (v : V) (p : Addr) (S : Sh) (k : Nat) (H : Hp) (i : Nat) (σ : St) (H' : Hp) : Prop := ∃ (o1 o2 o3 o4 : Option V) (g : Str -> Int), σ = [some v, some (.ref p), o1, o2, o3, o4] /\ H' p = some (.dK (fnD (C7 S) g)) /\ je S k i 0 g /\ Same H H'
def bp (v : V) (p : Addr) (t : V) (S : Sh) (k i : Nat) (H : Hp) (j : Nat) (σ : St) (H' : Hp) : Prop := ∃ (o1 o2 o4 : Option V) (g : Str -> Int), σ = [some v, some (.ref p), o1, o2, some t, o4] /\ H' p = some (.dK (fnD (C7 S) g)) /\ je S k i j g /\ Same H H'
theorem sc_levels : Aj ["shop", "told", "name", "turn", "ware", "part"] ["shop"] (A8 Fx) := by constructor <;> first | rfl | decide +kernel
theorem X8 (F : Fun K "levels" "levels" Fx f fd) (T : Txt mg) (C : Exc K mg c) (Zvr : Has P w K mg base "check_rings" 4 ["shop"] sp_check_rings) (Zuk : Has P w K mg base "names_of" 1 ["shop"] sp_names_of) (Zvk : Has P w K mg base "part_names" 1 ["ware"] sp_part_names) : FnOk P w K mg base CX0 5 f fd ["shop"] sp_levels := by
 refine F.ok sc_levels (fun vs H Q E h => ?_) (fun cdv A outer s H vs Q E hr h => ?_)
 ·obtain ⟨v, S, rfl, _⟩ := h
  rfl
 ·obtain ⟨v, S, rfl, rs, L, k⟩ := h
  have hu := Aq hr
  refine ⟨_, (A2 (Ay (Aa Zvr hr.z rfl (A4 (pv 0) A1)))
 (A2 (Ac (i := 1) sc_levels.nd rfl (Zzq rfl) G0)
 (A2 (Bl PassesOwn.never rfl (Fz (Aa Zuk hr.z rfl (A4 (pv 0) A1))) (Ah (i := 2) sc_levels.nd rfl (Zzq rfl))
 (A9 (Gc A7 (Gd (pv 1) (pv 2) (Fu hu)))))
 (A2 (Bl PassesOwn.never rfl (En rfl T.Zuf (A4 (Az Cc rfl T.Zul Er (A4 (Ab hu (pv 0) A7 (fun _ _ => rfl)) A1)) A1)) (Ah (i := 3) sc_levels.nd rfl (Zzq rfl))
 (A9 (Bl PassesOwn.never rfl (De (Ab hu (pv 0) A7 (fun _ _ => rfl))) (Ah (i := 4) sc_levels.nd rfl (Zzq rfl))
 (A9 (Bl PassesOwn.never rfl (Fz (Aa Zvk hr.z rfl (A4 (pv 4) A1))) (Ah (i := 5) sc_levels.nd rfl (Zzq rfl))
 (A9 (Gc (Az (Ld rfl) rfl T.Ztj Le (A4 (Ab hu (pv 1) (pv 5) (fun _ _ => rfl)) (A4 (Am Ca (Ab hu (pv 1) (Ab hu (pv 4) (An rfl T.Zvf) (fun _ _ => rfl)) (fun _ _ => rfl)) A7) A1))) (Gd (pv 1) (pv 5) (Fu hu)))))))))
 (A9 (Af (pv 1))))))), ?_⟩
  have hfew := L.few
  walk_at "rd"
  refine ⟨v, S, rfl, rs, L.ok, Uv L.toLev, fun H1 sm1 => ?_⟩
  obtain ⟨a, b, c, ws, us, rfl, ha, hb, hc, rws, rus⟩ := Cj rs
  have hl := Bo rws
  intro p hp
  have u1 := sm1.trans (A6 (o := .dK []) hp)
  have fp : H p = none := Same.free sm1 hp
  have hnl := Dv S
  refine ⟨.ref a, S, rfl, RD.same u1 _ _ rs, by omega, fun q H2 hq hq2 sm2 => ⟨q, rfl, _, hq2, ?_⟩⟩
  have hp2 := sm2 p _ A0
  have s2 := u1.trans sm2
  have qp : q ≠ p := fun z => by rw [z, A0] at hq; cases hq
  refine D4 (J8 q _) (fun i σ H' => gy (.ref a) p S H i σ H' /\ H' q = some (.lst ((C7 S).map V.str))) ⟨⟨_, _, _, _, rfl, hp2, s2⟩, hq2⟩ (fun i σ H' _ h => h.2) (fun i x σ H3 hi hx h => ?_) (fun σ H3 h => ?_)
  ·obtain ⟨⟨o1, o2, o3, o4, rfl, hp3, s3⟩, hq3⟩ := h
   rw [Zzz] at hi
   rw [Zzv] at hx
   cases en : (C7 S)[i]? with
   | none => rw [en] at hx; cases hx
   | some nm =>
   rw [en] at hx
   have hx : V.str nm = x := Zzc hx
   subst hx
   walk_at "rd"
   refine ⟨_, .inr nm, rfl, hp3, ?_, ⟨_, _, _, _, rfl, ?_, fun b' o' hb' => by rw [A5 (A3 hb' fp)]; exact s3 b' o' hb'⟩, by rw [A5 qp]; exact hq3⟩
   ·rw [S7, Zyl]
    exact Zyx (m := 1000) (by omega) (by decide)
   ·have nin : nm ∉ (C7 S).take i := Fp L.nd en
    rw [A0, W7 nin, Zz3, en]
    exact congrArg (fun z => some (HO.dK z)) (La fun x _ => by split <;> rfl)
  ·obtain ⟨⟨o1, o2, o3, o4, rfl, hp3, s3⟩, _⟩ := h
   rw [Zzz, Zyu] at hp3
   walk_at "rd"
   refine ⟨_, Ag (j := 0) (s3 _ _ ha) rfl, b, rfl, _, .inr (s3 _ _ hb), by omega, by omega, ?_⟩
   have en : ((ws.length : Nat) : Int).toNat = S.wares.length := by omega
   rw [en]
   refine D4 (Lu 0 _) (h9 (.ref a) p S H) ⟨_, _, _, _, fun _ => 0, rfl, hp3, fun x => ⟨Zz6 _, Zz6 _, fun _ => Tr S x⟩, s3⟩ (fun _ _ _ _ _ => trivial) (fun k' x σ H4 hi hx h => ?_) (fun σ H4 h => ?_)
   ·obtain ⟨o1, o2, o3, o4, g, rfl, hp4, hg, s4⟩ := h
    walk_at "rd"
    refine ⟨_, Ag (j := 0) (s4 _ _ ha) rfl, b, rfl, _, s4 _ _ hb, ?_⟩
    refine D4 (Ey b _) (i5 (.ref a) p S k' H) ⟨_, _, _, _, g, rfl, hp4, ⟨hg, (fun w hw => by cases hw), fun w _ p hp => by cases hp⟩, s4⟩ (fun i σ H' _ h => let ⟨_, _, _, _, _, _, _, _, s⟩ := h; s _ _ hb) (fun i y σ H5 hi2 hy h => ?_) (fun σ H5 h => ?_)
    ·obtain ⟨o1, o2, o3, o4, g, rfl, hp5, hg, s5⟩ := h
     obtain ⟨t, ht, rt⟩ := C6 rws hy
     have htm := Zzn ht
     obtain ⟨te, d1, d2, rfl, hte, _⟩ := Bz rt
     walk_at "rd"
     refine ⟨.ref te, t, rfl, RD.same s5 _ _ rt, L.ok.wares t htm, fun q2 H6 hq6 hq7 sm6 => ⟨q2, rfl, _, hq7, ?_⟩⟩
     have hp6 := sm6 p _ hp5
     have s6 := s5.trans sm6
     have q2p : q2 ≠ p := fun z => by rw [z, hp5] at hq6; cases hq6
     refine D4 (J8 q2 _) (fun j σ H' => bp (.ref a) p (.ref te) S k' i H j σ H' /\ H' q2 = some (.lst ((t.parts.map (·.1)).map V.str))) ⟨⟨_, _, _, g, rfl, hp6, hg, s6⟩, hq7⟩ (fun j σ H' _ h => h.2) (fun j z σ H7 hj hz h => ?_) (fun σ H7 h => ?_)
     ·obtain ⟨⟨o1, o2, o4, g, rfl, hp7, hg, s7⟩, hq8⟩ := h
      rw [Zzz, Zzz] at hj
      obtain ⟨pp, hpp⟩ : ∃ pp, t.parts[j]? = some pp := ⟨_, Zzr hj⟩
      rw [Zzv, Zzv, hpp] at hz
      have hz : V.str pp.1 = z := Zzc hz
      subst hz
      have hpm := Zzn hpp
      have hown : pp.1 ∈ C7 S := L.own t htm pp hpm
      have htn : t.name ∈ C7 S := Zzx.mpr ⟨t, htm, rfl⟩
      walk_at "rd"
      have hg1 := (hg.1 pp.1)
      have hgt := (hg.1 t.name)
      have hup : g t.name + 1 <= lv S pp.1 := by have h1 := hgt.2.2 htn; have h2 := Kf L.toLev htm hpm; omega
      refine ⟨.int (g pp.1), Ge (.inl hp7) (Ix hown), _, Ag (j := 0) (s7 _ _ hte) rfl, .int (g t.name), Ge (.inl hp7) (Ix htn), _, rfl, _, rfl, _, .inr pp.1, rfl, hp7, by rw [S7, hnl]; exact Zyx (m := 1000) (by omega) (by decide), ?_, by rw [A5 q2p]; exact hq8⟩
      rw [gf hown]
      refine ⟨_, _, _, fun x => if x = pp.1 then (if g t.name + 1 > g pp.1 then g t.name + 1 else g pp.1) else g x, rfl, A0, ?_, fun b' o' hb' => by rw [A5 (A3 hb' fp)]; exact s7 b' o' hb'⟩
      have gr : ∀ x, g x <= (if x = pp.1 then (if g t.name + 1 > g pp.1 then g t.name + 1 else g pp.1) else g x) := fun x => by
       split
       ·rename_i e; rw [e]; split <;> omega
       ·exact Zz6 _
      refine ⟨fun x => ⟨Zxk (hg.1 x).1 (gr x), Zxk (hg.1 x).2.1 (gr x), fun hx => ?_⟩, fun w hw p hp => Zxk (hg.2.1 w hw p hp) (gr p.1), fun w hw p hp => ?_⟩
      ·show (if x = pp.1 then (if g t.name + 1 > g pp.1 then g t.name + 1 else g pp.1) else g x) <= lv S x
       split
       ·rename_i e; rw [e]; have := hg1.2.2 hown; split <;> omega
       ·exact (hg.1 x).2.2 hx
      ·rw [ht] at hw
       have e : t = w := Zzc hw
       subst e
       rw [Zz3, hpp] at hp
       rcases Zz4.mp hp with m | m
       ·exact Zxk (hg.2.2 t ht p m) (gr p.1)
       ·have e : p = pp := by simpa using m
        subst e
        show 1 + lvF S k' t.name <= (if p.1 = p.1 then (if g t.name + 1 > g p.1 then g t.name + 1 else g p.1) else g p.1)
        rw [if_pos rfl]
        have := hgt.2.1
        split <;> omega
     ·obtain ⟨⟨o1, o2, o4, g, rfl, hp7, hg, s7⟩, _⟩ := h
      rw [Zzz, Zzz] at hg
      refine ⟨_, _, _, _, g, rfl, hp7, ⟨hg.1, fun w hw p hp => ?_, fun w _ p hp => by cases hp⟩, s7⟩
      rw [Zz3, ht] at hw
      rcases Zz4.mp hw with m | m
      ·exact hg.2.1 w m p hp
      ·have e : w = t := by simpa using m
       subst e
       exact hg.2.2 w ht p (by rw [Zyu]; exact hp)
    ·obtain ⟨o1, o2, o3, o4, g, rfl, hp5, hg, s5⟩ := h
     rw [hl] at hg
     exact ⟨_, _, _, _, g, rfl, hp5, fun x => ⟨(hg.1 x).1, Zg (fun x => (hg.1 x).1) (fun w hw p hp => hg.2.1 w (by rw [Zyu]; exact hw) p hp) x, (hg.1 x).2.2⟩, s5⟩
   ·obtain ⟨o1, o2, o3, o4, g, rfl, hp4, hg, s4⟩ := h
    walk_at "rd"
    refine k p H4 fp ?_ s4
    rw [hp4]
    exact congrArg (fun z => some (HO.dK z)) (La fun x hx => Int.le_antisymm ((hg x).2.2 hx) (hg x).2.1)
def Ip (Pt : Addr) : Sp := fun vs H Q _ => ∃ (v : V) (S : Sh), vs = [v] /\ RD H S.d v /\ Wh S /\ Tb H Pt /\ ∀ p ys H', H p = none -> H' p = some (.lst (ys.map V.str)) -> Lz (lv S) (C7 S) ys -> Og (lv S) (C7 S) ys -> Tb H' Pt -> But Pt H H' -> Q (.ref p) H'
theorem sc_worked : Aj ["shop", "level_of"] ["shop"] (A8 Fv) := by constructor <;> first | rfl | decide +kernel
theorem X5 {ct : Addr} (F : Fun K "worked" "worked" Fv f fd) (T : Txt mg) (C : Exc K mg c) (Zt1 : Has P w K mg base "levels" 5 ["shop"] sp_levels) (Zuk : Has P w K mg base "names_of" 1 ["shop"] sp_names_of) (Cd : cq K f ct Pt) (hB : Ak mg base) : FnOk P w K mg base CX0 6 f fd ["shop"] (Ip Pt) := by
 refine F.okC Cd sc_worked (fun vs H Q E h => ?_) (fun A outer s H vs Q E hr h => ?_)
 ·obtain ⟨v, S, rfl, _⟩ := h
  rfl
 ·obtain ⟨v, S, rfl, rs, L, tb, k⟩ := h
  have hu := Aq hr
  refine ⟨_, (A2 (Ac (i := 1) sc_worked.nd rfl (Or.inr rfl) (Aa Zt1 hr.z rfl (A4 (pv 0) A1)))
 (A9 (Af (Yy (i := 1) (nm := "name") (lv := "level_of") rfl T.Zsp (Aa Zuk hr.z rfl (A4 (pv 0) A1)) hr rfl Cd.hd hB rfl rfl rfl (fun _ h => U8 rfl h) ⟨rfl, rfl, rfl, rfl, rfl, by decide⟩ (fun _ _ _ _ _ => rfl))))), ?_⟩
  have hfew := L.few
  walk_at "rd"
  refine ⟨v, S, rfl, rs, L, fun p H1 hp hp1 sm1 => ?_⟩
  refine ⟨v, S, rfl, RD.same sm1 _ _ rs, by omega, fun q H2 hq hq2 sm2 => ?_⟩
  have s2 := sm1.trans sm2
  unfold Me
  refine ⟨q, C7 S, p, fnD (C7 S) (lv S), lv S, rfl, hq2, by rw [Dv]; exact hfew, rfl, sm2 _ _ hp1, fun x hx => Ix hx, TblAt.same tb s2, fun r ys H3 hr3 hr4 so sb tb3 bt => ?_⟩
  exact k r ys H3 (Same.free s2 hr3) hr4 so sb tb3 (fun b o nb hb => bt b o nb (s2 b o hb))
theorem Tb.same {H H' : Hp} {Pt : Addr} (t : Tb H Pt) (s : Same H H') : Tb H' Pt := TblAt.same t s
theorem Tb.at {H : Hp} {Pt : Addr} (t : Tb H Pt) : ∃ u, H Pt = some (.tbl u) := t.elim (fun e => ⟨_, e⟩) (fun ⟨_, e, _⟩ => ⟨_, e⟩)
theorem Hs {H H' : Hp} {Pt : Addr} (t : Tb H Pt) (b : But Pt H H') : KeepU H H' := fun a xs e => b a _ (fun z => by obtain ⟨u, hu⟩ := t.at; rw [z, hu] at e; cases e) e
theorem Ps {H : Hp} {Pt p : Addr} {o : HO} (t : Tb H Pt) (h : H p = some o) (hn : ∀ u, o ≠ .tbl u) : p ≠ Pt := fun z => by
 obtain ⟨u, e⟩ := t.at
 rw [<- z, h] at e
 exact hn u (Zzc e)
end
set_option maxHeartbeats 4000000
section
variable {P : Program} {w : World} {K : Zzu} {mg : Str -> Option Value} {base : Heap} {f : Addr} {fd : FuncData} {c : Cl} {Pt : Addr}
def StOk2 (H : Hp) (st : Addr) : Prop := ∃ x y : Int, H st = some (.lst [.int x, .int y])
theorem StOk2.same {H H' : Hp} {st : Addr} (h : StOk2 H st) (s : Same H H') : StOk2 H' st := let ⟨x, y, e⟩ := h; ⟨x, y, s _ _ e⟩
theorem StOk2.but {H H' : Hp} {a st : Addr} (h : StOk2 H a) (s : But st H H') (hs : StOk2 H' st) : StOk2 H' a := by
 by_cases e : a = st
 ·rw [e]; exact hs
 ·obtain ⟨x, y, q⟩ := h
  exact ⟨x, y, s _ _ e q⟩
def Qa : List V -> Bool
 | .int _ :: _ => false
 | _ => true
theorem StOk2.ne {H : Hp} {st a : Addr} {xs : List V} (h : StOk2 H st) (ha : H a = some (.lst xs)) (n : Qa xs = true) : a ≠ st := fun e => by
 obtain ⟨x, y, q⟩ := h
 rw [e, q] at ha
 cases ha
 cases n
theorem StOk2.neT {H : Hp} {st a : Addr} {xs : List V} (h : StOk2 H st) (ha : H a = some (.tup xs)) : a ≠ st := fun e => by
 obtain ⟨x, y, q⟩ := h
 rw [e, q] at ha
 cases ha
theorem Gg {H H' : Hp} {st : Addr} (s : But st H H') (h : StOk2 H st) : KeepU H H' := fun a xs e => s a _ (h.neT e) e
def Ia (K : Zzu) : Sp := fun vs H Q _ => ∃ (a : Addr) (ns : List Int) (k : Int), vs = [.ref a, .int k] /\ SqL K H a (ns.map V.int) /\ ns.length <= 63 /\ 0 <= k /\ ∀ c, 0 <= c -> c < 10 ^ 60 -> Q (.int c) H
theorem Mq : Aj ["_law_script", "_law_k"] ["_law_script", "_law_k"] (A8 D5) := by constructor <;> first | rfl | decide +kernel
theorem Nb (F : Fun K "_law_cell_at" "_law_cell_at" D5 f fd) (T : Txt mg) (C : Exc K mg c) : FnOk P w K mg base CX0 1 f fd ["_law_script", "_law_k"] (Ia K) := by
 refine F.ok Mq (fun vs H Q E h => ?_) (fun cdv A outer s H vs Q E hr h => ?_)
 ·obtain ⟨a, ns, k, rfl, _⟩ := h
  rfl
 ·obtain ⟨a, ns, k, rfl, hS, hlen, k0, q⟩ := h
  have hu := Aq hr
  refine ⟨_, (A2 (Bp (Al (F0 hu) (pv 1) (Az Hm rfl T.Zul Er (A4 (pv 0) A1)) (B2 _)) (A9 (Af (Am L3 (iw W3 (pv 0) (pv 1) (fun _ _ => rfl)) (Am Z3 A7 A7)))) Au)
 (A9 (Af A7))), ?_⟩
  walk_at "rd"
  refine ⟨_, .inl hS, D3 (fun h => ?_) (fun h => q 0 (by decide) (by decide))⟩
  have h := of_decide_eq_true h
  rw [Zzz] at h
  have hk : k.toNat < ns.length := by omega
  have e : ((k.toNat : Nat) : Int) = k := by omega
  refine ⟨a, _, k, .int ns[k.toNat], rfl, rfl, hS, ?_, ⟨by decide, by decide, by decide⟩, _, rfl, by decide +kernel, ?_⟩
  ·have q := Md (xs := ns.map V.int) (j := k.toNat) (v := V.int ns[k.toNat]) (by rw [Zzv, Zzr hk]; rfl)
   rw [e] at q
   exact q
  ·exact q _ (Zw0 _ (by decide +kernel)) (Zwn _ (by decide +kernel))
def Fi (K : Zzu) : Sp := fun vs H Q _ => ∃ (a : Addr) (ns : List Int) (k s : Int), vs = [.ref a, .int k, .int s] /\ SqL K H a (ns.map V.int) /\ ns.length <= 63 /\ 0 <= k /\ ∀ st H', H st = none -> StOk2 H' st -> Same H H' -> Q (.ref st) H'
theorem sc_law_drawn : Aj ["_law_script", "_law_k", "_law_salt", "_law_cell", "_law_mixed"] ["_law_script", "_law_k", "_law_salt"] (A8 E2) := by constructor <;> first | rfl | decide +kernel
theorem Rk (F : Fun K "_law_drawn" "_law_drawn" E2 f fd) (T : Txt mg) (C : Exc K mg c) (Zui : Has P w K mg base "_law_cell_at" 1 ["_law_script", "_law_k"] (Ia K)) : FnOk P w K mg base CX0 2 f fd ["_law_script", "_law_k", "_law_salt"] (Fi K) := by
 refine F.ok sc_law_drawn (fun vs H Q E h => ?_) (fun cdv A outer s H vs Q E hr h => ?_)
 ·obtain ⟨a, ns, k, s, rfl, _⟩ := h
  rfl
 ·obtain ⟨a, ns, k, sa, rfl, hS, hlen, k0, q⟩ := h
  have hu := Aq hr
  refine ⟨_, (A2 (Ac (i := 3) sc_law_drawn.nd rfl (Zzq rfl) (Aa Zui hr.z rfl (A4 (pv 0) (A4 (pv 1) A1))))
 (A2 (Ac (i := 4) sc_law_drawn.nd rfl (Zzq rfl) (Am L3 (Am Ca (Am Ca (Am Ga (pv 3) A7) (Am Ga A7 (Am Ca (pv 1) (pv 2)))) A7) A7))
 (A2 (Bp (Al (Da hu) (Am L3 (Aa Zui hr.z rfl (A4 (pv 0) (A4 A7 A1))) A7) A7 (B2 _)) (A9 (Af (Bm (A4 (Am G1 (pv 3) (Am Ca A7 (D8 Qx rfl T.Zsk az (A4 (M7 (Da hu) (pv 1) A7 (B2 _)) A1)))) (A4 (pv 4) A1))))) Au)
 (A9 (Af (Bm (A4 A7 (A4 (pv 4) A1)))))))), ?_⟩
  walk_at "rd"
  refine ⟨a, ns, k, rfl, hS, hlen, k0, fun c c0 c1 => ?_⟩
  walk_at "rd"
  refine ⟨.inl (.inr ⟨by decide, by decide⟩), .inl (.inl ⟨by decide, by decide⟩), by decide, ?_⟩
  refine ⟨a, ns, 0, rfl, hS, hlen, by decide, fun d d0 d1 => ?_⟩
  walk_at "rd"
  refine ⟨by decide, rfl, D3 (fun _ => ?_) (fun _ => ?_)⟩
  ·refine ⟨rfl, ?_⟩
   have hj : ∀ b : Bool, (0 : Int) < 1 + (if b = true then 1 else 0) /\ (1 + (if b = true then 1 else 0) : Int) < 10 ^ 200 := by decide +kernel
   exact ⟨(hj _).1, (hj _).2, by decide, fun p hp => q p _ hp ⟨_, _, A0⟩ (A6 hp)⟩
  ·exact ⟨by decide, fun p hp => q p _ hp ⟨_, _, A0⟩ (A6 hp)⟩
def sp_law_next : Sp := fun vs H Q _ => ∃ st m, vs = [.ref st, .int m] /\ StOk2 H st /\ 0 < m /\ m < 10 ^ 200 /\ ∀ d H', 0 <= d -> d < m -> StOk2 H' st -> But st H H' -> Q (.int d) H'
theorem sc_law_next : Aj ["_law_state", "_law_many", "_law_digit"] ["_law_state", "_law_many"] (A8 El) := by constructor <;> first | rfl | decide +kernel
theorem Tj (F : Fun K "_law_next" "_law_next" El f fd) (T : Txt mg) (C : Exc K mg c) : FnOk P w K mg base CX0 1 f fd ["_law_state", "_law_many"] sp_law_next := by
 refine F.ok sc_law_next (fun vs H Q E h => ?_) (fun cdv A outer s H vs Q E hr h => ?_)
 ·obtain ⟨st, m, rfl, _⟩ := h
  rfl
 ·obtain ⟨st, m, rfl, ⟨x, y, hs⟩, h0, hm, k⟩ := h
  have hu := Aq hr
  refine ⟨_, (A2 (Bp (Al Vu (Ab hu (pv 0) A7 (fun _ _ => rfl)) A7 (B2 _)) (A2 (Ac (i := 2) sc_law_next.nd rfl (Zzq rfl) (Am L3 (Ab hu (pv 0) A7 (fun _ _ => rfl)) (pv 1)))
 (A2 (Gc (Am G1 (Ab hu (pv 0) A7 (fun _ _ => rfl)) (pv 1)) (Gd (pv 0) A7 Gk))
 (A9 (Af (pv 2))))) Au)
 (A2 (Gc (Am L3 (Am Ca (Am Ga (Ab hu (pv 0) A7 (fun _ _ => rfl)) A7) A7) A7) (Gd (pv 0) A7 Gk))
 (A9 (Af (Am L3 (Am G1 (Ab hu (pv 0) A7 (fun _ _ => rfl)) A7) (pv 1)))))), ?_⟩
  walk_at "rd"
  have i0 : Jn H (.ref st) (.int 0) (.int x) := C8 (j := 0) hs rfl
  have i1 : Jn H (.ref st) (.int 1) (.int y) := C8 (j := 1) hs rfl
  refine ⟨_, i0, _, rfl, D3 (fun _ => ?_) (fun _ => ?_)⟩
  ·refine ⟨_, i0, _, rfl, h0, _, i0, _, rfl, h0, hm, _, hs, 0, by simp [ixN], ?_⟩
   exact k _ _ (Zw0 _ (by omega)) (Zwn _ h0) ⟨x / m, y, by rw [A0]; rfl⟩ S9
  ·refine ⟨_, i1, _, rfl, .inl (.inr ⟨by decide, by decide⟩), by decide, _, hs, 1, by simp [ixN], ?_⟩
   refine ⟨_, C8 (j := 1) A0 rfl, _, rfl, by decide, by decide +kernel, h0, ?_⟩
   exact k _ _ (Zw0 _ (by omega)) (Zwn _ h0) ⟨x, _, by rw [A0]; rfl⟩ S9
def sp_law_amount : Sp := fun vs H Q _ => ∃ st, vs = [.ref st] /\ StOk2 H st /\ ∀ n H', 0 <= n -> n < 10 ^ 32 -> StOk2 H' st -> But st H H' -> Q (.int n) H'
theorem sc_law_amount : Aj ["_law_state", "_law_amount_here"] ["_law_state"] (A8 Dm) := by constructor <;> first | rfl | decide +kernel
theorem Oy (F : Fun K "_law_amount" "_law_amount" Dm f fd) (T : Txt mg) (C : Exc K mg c) (Zvq : Has P w K mg base "_law_next" 1 ["_law_state", "_law_many"] sp_law_next) : FnOk P w K mg base CX0 2 f fd ["_law_state"] sp_law_amount := by
 refine F.ok sc_law_amount (fun vs H Q E h => ?_) (fun cdv A outer s H vs Q E hr h => ?_)
 ·obtain ⟨st, rfl, _⟩ := h
  rfl
 ·obtain ⟨st, rfl, hs, k⟩ := h
  have hu := Aq hr
  refine ⟨_, (A2 (Ac (i := 1) sc_law_amount.nd rfl (Zzq rfl) (Aa Zvq hr.z rfl (A4 (pv 0) (A4 A7 A1))))
 (A2 (Bp (Al (Da hu) (Aa Zvq hr.z rfl (A4 (pv 0) (A4 A7 A1))) A7 (B2 _)) (A9 (Af (Am Ca (Am Ga (Am Ca A7 (pv 1)) (Am Z3 A7 A7)) (Aa Zvq hr.z rfl (A4 (pv 0) (A4 A7 A1)))))) Au)
 (A9 (Af (pv 1))))), ?_⟩
  walk_at "rd"
  refine ⟨st, 10, rfl, hs, by decide, by decide +kernel, fun d H1 d0 d1 s1 b1 => ?_⟩
  walk_at "rd"
  refine ⟨st, 8, rfl, s1, by decide, by decide +kernel, fun d' H2 _ _ s2 b2 => ?_⟩
  walk_at "rd"
  have b2 := b1.trans b2
  refine ⟨rfl, D3 (fun _ => ?_) (fun _ => k d H2 d0 (Int.lt_trans d1 (by decide)) s2 b2)⟩
  refine ⟨⟨by decide, by decide, by decide⟩, .inl (.inl ⟨by omega, by omega⟩), ?_⟩
  refine ⟨st, 9, rfl, s2, by decide, by decide +kernel, fun e H3 e0 e1 s3 b3 => ?_⟩
  have q : (0 : Int) <= (1 + d) * 10 ^ Int.toNat 30 + e /\ (1 + d) * 10 ^ Int.toNat 30 + e < 10 ^ 32 := by
   have : (10 : Int) ^ Int.toNat 30 = 1000000000000000000000000000000 := by decide
   rw [this]
   omega
  exact ⟨e, rfl, k _ H3 q.1 q.2 s3 (b2.trans b3)⟩
structure Raw where
 a : Addr
 c : Addr
 q : Addr
 w : Wr
def RawOk (H : Hp) (r : Raw) : Prop := H r.a = some (.lst [.str r.w.name, .int r.w.lag, .int r.w.gives, .int r.w.floor, .int r.w.stock, .ref r.c, .ref r.q]) /\ (∃ cv, H r.c = some (.lst cv) /\ RDs H (r.w.coming.map Lf) cv) /\ ∃ pv, H r.q = some (.lst pv) /\ RDs H (r.w.parts.map Ew) pv
theorem RawOk.mono {H H' : Hp} {r : Raw} (h : RawOk H r) (k : ∀ b xs, b = r.a \/ b = r.c \/ b = r.q -> H b = some (.lst xs) -> H' b = some (.lst xs)) (u : KeepU H H') : RawOk H' r := by
 obtain ⟨h1, ⟨cv, h2, h3⟩, pv, h4, h5⟩ := h
 exact ⟨k _ _ (.inl rfl) h1, ⟨cv, k _ _ (.inr (.inl rfl)) h2, RDs.ku u _ _ (Cb Lf Rn _) h3⟩, pv, k _ _ (.inr (.inr rfl)) h4, RDs.ku u _ _ (Cb Ew Gb _) h5⟩
theorem L7 {H : Hp} {xs : List (Int × Int)} {vs : List V} (h : RDs H (xs.map Lf) vs) : Qa vs = true := by
 cases xs with
 | nil => rw [RDs.nil_of h]; rfl
 | cons x r =>
  obtain ⟨v, t, rfl, hv, _⟩ := RDs.cons_of h
  obtain ⟨a, rfl, _⟩ := bc hv
  rfl
theorem Nn {H : Hp} {xs : List (Str × Int)} {vs : List V} (h : RDs H (xs.map Ew) vs) : Qa vs = true := by
 cases xs with
 | nil => rw [RDs.nil_of h]; rfl
 | cons x r =>
  obtain ⟨v, t, rfl, hv, _⟩ := RDs.cons_of h
  obtain ⟨a, rfl, _⟩ := M8 hv
  rfl
theorem Nl {H : Hp} {xs : List Wt} {vs : List V} (h : RDs H (xs.map Fs) vs) : Qa vs = true := by
 cases xs with
 | nil => rw [RDs.nil_of h]; rfl
 | cons x r =>
  obtain ⟨v, t, rfl, hv, _⟩ := RDs.cons_of h
  obtain ⟨a, rfl, _⟩ := Jo hv
  rfl
theorem G2 (as : List Addr) : Qa (as.map V.ref) = true := by cases as <;> rfl
theorem RawOk.but {H H' : Hp} {r : Raw} {st : Addr} (h : RawOk H r) (b : But st H H') (s : StOk2 H st) : RawOk H' r := by
 refine h.mono (fun x xs e hx => b x _ ?_ hx) (Gg b s)
 obtain ⟨h1, ⟨cv, h2, h3⟩, pv, h4, h5⟩ := h
 rcases e with rfl | rfl | rfl
 ·exact s.ne h1 rfl
 ·exact s.ne h2 (L7 h3)
 ·exact s.ne h4 (Nn h5)
theorem N0 {H : Hp} {p : Addr} {ns : List Int} {d : Int} {lo hi : Int} (h : H p = some (.lst (ns.map V.int))) (d0 : 0 <= d) (d1 : d < ns.length) (hb : ∀ n ∈ ns, lo <= n /\ n <= hi) : ∃ n, lo <= n /\ n <= hi /\ Jn H (.ref p) (.int d) (.int n) := by
 have hd : d.toNat < ns.length := by omega
 have := hb _ (Zw8 hd)
 exact ⟨ns[d.toNat], this.1, this.2, Jj (.inl h) d0 (by rw [Zzv, Zzr hd]; rfl)⟩
structure WB (w : Wr) : Prop where
 lag : 0 <= w.lag /\ w.lag <= 30
 gives : 1 <= w.gives /\ w.gives <= 100
 floor : 0 <= w.floor /\ w.floor <= 100
 stock : 0 <= w.stock /\ w.stock <= 100
 parts : w.parts.length <= 12
 amts : ∀ p ∈ w.parts, 1 <= p.2 /\ p.2 <= 100
 nds : (w.parts.map (·.1)).Nodup
structure RawsOk (H : Hp) (rs : List Raw) : Prop where
 each : ∀ r ∈ rs, RawOk H r
 nd : (rs.map (·.c)).Nodup
 apart : ∀ r ∈ rs, ∀ r' ∈ rs, r.c ≠ r'.a /\ r.c ≠ r'.q
theorem RawsOk.perm {H : Hp} {rs rs' : List Raw} (h : RawsOk H rs) (p : rs'.Perm rs) : RawsOk H rs' :=
 ⟨fun r hr => h.each r (p.mem_iff.mp hr), (p.map _).nodup_iff.mpr h.nd, fun r hr r' hr' => h.apart r (p.mem_iff.mp hr) r' (p.mem_iff.mp hr')⟩
def Kth (Pn : List Str) (m : Nat) (i : Nat) (w : Wr) : Prop := Pn[i]? = some w.name /\ WB w /\ ∀ p ∈ w.parts, ∃ j, i < j /\ j < m /\ Pn[j]? = some p.1
abbrev i8 (x : Str) : Prop := PyData.strOk x = true /\ x.length <= 800 /\ x ≠ "zzzzzzzz"
structure WsOk (ws : List Wr) : Prop where
 nd : (ws.map (·.name)).Nodup
 wb : ∀ w ∈ ws, WB w
 txt : ∀ w ∈ ws, i8 w.name
 own : ∀ w ∈ ws, ∀ p ∈ w.parts, p.1 ∈ ws.map (·.name)
 low : ∃ r : Str -> Nat, (∀ w ∈ ws, r w.name < ws.length) /\ ∀ w ∈ ws, ∀ p ∈ w.parts, r p.1 < r w.name
theorem WsOk.perm {ws ws' : List Wr} (h : WsOk ws) (p : ws'.Perm ws) : WsOk ws' := by
 refine ⟨(p.map _).nodup_iff.mpr h.nd, fun w hw => h.wb w (p.mem_iff.mp hw), fun w hw => h.txt w (p.mem_iff.mp hw), fun w hw q hq => (p.map _).mem_iff.mpr (h.own w (p.mem_iff.mp hw) q hq), ?_⟩
 obtain ⟨r, h1, h2⟩ := h.low
 exact ⟨r, fun w hw => by rw [p.length_eq]; exact h1 w (p.mem_iff.mp hw), fun w hw => h2 w (p.mem_iff.mp hw)⟩
theorem S6 {Pn : List Str} (nd : Pn.Nodup) {i : Nat} {x : Str} (h : Pn[i]? = some x) : Pn.idxOf x = i := by
 obtain ⟨hi, rfl⟩ := Zzl.mp h
 exact nd.idxOf_getElem i hi
theorem nh {Pn : List Str} {ws : List Wr} (nd : Pn.Nodup) (hs : ∀ x ∈ Pn, i8 x) (h : ∀ (i : Nat) (w : Wr), ws[i]? = some w -> Kth Pn ws.length i w) (hm : ws.length <= Pn.length) : WsOk ws := by
 have en : ws.map (·.name) = Pn.take ws.length := by
  apply Zxu
  intro i
  rw [Zzv, Zxl]
  by_cases hi : i < ws.length
  ·rw [if_pos hi, Zzr hi]
   exact (h i _ (Zzr hi)).1.symm
  ·rw [if_neg hi, Zyt (by omega)]
   rfl
 have at' : ∀ w ∈ ws, ∃ i, i < ws.length /\ Kth Pn ws.length i w := fun w hw => by
  obtain ⟨i, hi, e⟩ := Zy5.mp hw
  exact ⟨i, hi, h i w (by rw [Zzr hi, e])⟩
 refine ⟨by rw [en]; exact (List.take_sublist _ _).nodup nd, fun w hw => ?_, fun w hw => ?_, fun w hw p hp => ?_, fun x => ws.length - 1 - Pn.idxOf x, fun w hw => ?_, fun w hw p hp => ?_⟩
 ·obtain ⟨i, _, k⟩ := at' w hw; exact k.2.1
 ·obtain ⟨i, _, k⟩ := at' w hw
  exact hs _ (Zzn k.1)
 ·obtain ⟨i, _, k⟩ := at' w hw
  obtain ⟨j, h1, h2, h3⟩ := k.2.2 p hp
  rw [en]
  refine Zzn (i := j) ?_
  rw [Zxl, if_pos h2]
  exact h3
 ·obtain ⟨i, hi, k⟩ := at' w hw
  show ws.length - 1 - Pn.idxOf w.name < ws.length
  omega
 ·obtain ⟨i, hi, k⟩ := at' w hw
  obtain ⟨j, h1, h2, h3⟩ := k.2.2 p hp
  show ws.length - 1 - Pn.idxOf p.1 < ws.length - 1 - Pn.idxOf w.name
  rw [S6 nd k.1, S6 nd h3]
  omega
theorem Wm {S : Sh} (h : WsOk S.wares) : D1 S := by
 obtain ⟨r, h1, h2⟩ := h.low
 refine U5 (r := r) (fun e he x hx => ?_) (fun e he => ?_)
 ·obtain ⟨w, hw, rfl⟩ := Zzx.mp he
  obtain ⟨p, hp, rfl⟩ := Zzx.mp hx
  exact h2 w hw p hp
 ·obtain ⟨w, hw, rfl⟩ := Zzx.mp he
  exact h1 w hw
end
set_option maxHeartbeats 4000000
section
variable {P : Program} {w : World} {K : Zzu} {mg : Str -> Option Value} {base : Heap} {f : Addr} {fd : FuncData} {c : Cl} {Pt : Addr}
theorem Fq {xs : List V} {i : Int} (hi : 0 <= i) : Dq xs (some i) none = xs.drop i.toNat := by
 unfold Dq
 rw [Ul hi]
 have e : HT.sIx xs.length xs.length none = xs.length := rfl
 rw [e]
 by_cases h : i.toNat <= xs.length
 ·rw [Zvz h, Zwg (by rw [Zye]; exact Zzt _)]
 ·have h : xs.length <= i.toNat := by omega
  rw [Nat.min_eq_right h, List.drop_length, List.drop_of_length_le h, List.take_nil]
theorem RawsOk.but {H H' : Hp} {rs : List Raw} {st : Addr} (h : RawsOk H rs) (b : But st H H') (s : StOk2 H st) : RawsOk H' rs := ⟨fun r hr => (h.each r hr).but b s, h.nd, h.apart⟩
theorem RawsOk.same {H H' : Hp} {rs : List Raw} (h : RawsOk H rs) (s : Same H H') : RawsOk H' rs := ⟨fun r hr => (h.each r hr).mono (fun b xs _ e => s b _ e) s.ku, h.nd, h.apart⟩
def pool0 : List Str := ["a", "ab", "b", "ba", "c", "frame", "nut", "wheel"]
theorem dm : pool0.Nodup := by decide +kernel
theorem dl : ∀ x ∈ pool0, i8 x := by decide +kernel
structure qy (Pn : List Str) : Prop where
 nd : Pn.Nodup
 len : Pn.length = pool0.length
 txt : ∀ x ∈ Pn, i8 x
theorem ki (c : Nat) : qy (pool0.drop c ++ pool0.take c) := by
 have p : (pool0.drop c ++ pool0.take c).Perm pool0 := by
  refine List.perm_append_comm.trans ?_
  rw [Zwy]
 exact ⟨p.nodup_iff.mpr dm, p.length_eq, fun x hx => dl x (p.mem_iff.mp hx)⟩
def Wg (st pl wl : Addr) (m : Nat) (c : Int) (Pn : List Str) (H : Hp) (i : Nat) (σ : St) (H' : Hp) : Prop := ∃ (rs : List Raw) (o1 o2 o3 o4 o5 o6 o7 o8 : Option V),
 σ = [some (.ref st), some (.int m), some (.ref pl), some (.int c), some (.ref wl), o1, o2, o3, o4, o5, o6, o7, o8] /\ rs.length = i /\ H' wl = some (.lst ((rs.map (·.a)).map V.ref)) /\ H' pl = some (.lst (Pn.map V.str)) /\ RawsOk H' rs /\
 (∀ j r, rs[j]? = some r -> Kth Pn m j r.w /\ r.w.coming = [] /\ H r.a = none /\ H r.c = none /\ H r.q = none /\ r.a ≠ wl /\ r.c ≠ wl /\ r.q ≠ wl) /\ StOk2 H' st /\ But st H H'
def MadeB (st pl wl : Addr) (Pn : List Str) (rs : List Raw) (H Hx : Hp) : Prop := Hx wl = some (.lst ((rs.map (·.a)).map V.ref)) /\ Hx pl = some (.lst (Pn.map V.str)) /\ RawsOk Hx rs /\ StOk2 Hx st /\ But st H Hx
theorem MadeB.same {st pl wl : Addr} {Pn : List Str} {rs : List Raw} {H Hx H' : Hp} (h : MadeB st pl wl Pn rs H Hx) (s : Same Hx H') : MadeB st pl wl Pn rs H H' :=
 ⟨s _ _ h.1, s _ _ h.2.1, h.2.2.1.same s, h.2.2.2.1.same s, h.2.2.2.2.same s⟩
theorem Nm (xs : List Str) : Qa (xs.map V.str) = true := by cases xs <;> rfl
theorem MadeB.nx {st pl wl : Addr} {Pn : List Str} {rs : List Raw} {H Hx H' : Hp} (h : MadeB st pl wl Pn rs H Hx) (s : StOk2 H' st) (b : But st Hx H') : MadeB st pl wl Pn rs H H' :=
 ⟨b _ _ (h.2.2.2.1.ne h.1 (G2 _)) h.1, b _ _ (h.2.2.2.1.ne h.2.1 (Nm _)) h.2.1, h.2.2.1.but b h.2.2.2.1, s, h.2.2.2.2.trans b⟩
theorem MadeB.ne {st pl wl p : Addr} {Pn : List Str} {rs : List Raw} {H Hx : Hp} (h : MadeB st pl wl Pn rs H Hx) (hp : Hx p = none) : p ≠ st := fun e => by
 obtain ⟨x, y, q⟩ := h.2.2.2.1
 rw [e, q] at hp
 cases hp
theorem RawOk.ne {H : Hp} {r : Raw} {st b : Addr} (h : RawOk H r) (s : StOk2 H st) (e : b = r.a \/ b = r.c \/ b = r.q) : b ≠ st := by
 obtain ⟨h1, ⟨cv, h2, h3⟩, pv, h4, h5⟩ := h
 rcases e with rfl | rfl | rfl
 ·exact s.ne h1 rfl
 ·exact s.ne h2 (L7 h3)
 ·exact s.ne h4 (Nn h5)
theorem RawOk.fresh {H : Hp} {r : Raw} {p b : Addr} (h : RawOk H r) (hp : H p = none) (e : b = r.a \/ b = r.c \/ b = r.q) : b ≠ p := by
 obtain ⟨h1, ⟨cv, h2, h3⟩, pv, h4, h5⟩ := h
 rcases e with rfl | rfl | rfl
 ·exact A3 h1 hp
 ·exact A3 h2 hp
 ·exact A3 h4 hp
def i7 (st pl wl pa : Addr) (m : Nat) (k : Nat) (c : Int) (lag fl sk : Int) (Pn : List Str) (H1 : Hp) (i : Nat) (σ : St) (H' : Hp) : Prop := ∃ (ps : List (Str × Int)) (pv : List V) (o6 o7 o8 : Option V),
 σ = [some (.ref st), some (.int m), some (.ref pl), some (.int c), some (.ref wl), some (.int k), some (.int lag), some (.int fl), some (.int sk), some (.ref pa), o6, o7, o8] /\ H' pa = some (.lst pv) /\ RDs H' (ps.map Ew) pv /\ ps.length <= i /\
 (∀ p ∈ ps, 1 <= p.2 /\ p.2 <= 100) /\ (∀ p ∈ ps, ∃ j, k < j /\ j < k + 1 + i /\ Pn[j]? = some p.1) /\ (ps.map (·.1)).Nodup /\ StOk2 H' st /\ (∀ b o, b ≠ st -> b ≠ pa -> H1 b = some o -> H' b = some o)
def sp_law_wares : Sp := fun vs H Q _ => ∃ (st : Addr) (m : Nat), vs = [.ref st, .int m] /\ StOk2 H st /\ 1 <= m /\ m <= pool0.length /\ ∀ l (rs : List Raw) H', H l = none -> H' l = some (.lst ((rs.map (·.a)).map V.ref)) -> rs.length = m -> RawsOk H' rs -> WsOk (rs.map (·.w)) -> (∀ r ∈ rs, r.w.coming = [] /\ H r.a = none /\ H r.c = none /\ H r.q = none /\ r.c ≠ l) -> StOk2 H' st -> But st H H' -> Q (.ref l) H'
theorem sc_law_wares : Aj ["_law_state", "_law_many", "_law_pool", "_law_cut", "_law_wares_here", "_law_k", "_law_lag", "_law_floor", "_law_stock", "_law_parts", "_law_j", "_law_amount_here", "_law_spot"] ["_law_state", "_law_many"] (A8 Dz) := by constructor <;> first | rfl | decide +kernel
theorem Rj (F : Fun K "_law_wares" "_law_wares" Dz f fd) (T : Txt mg) (C : Exc K mg c) (Zvq : Has P w K mg base "_law_next" 1 ["_law_state", "_law_many"] sp_law_next) : FnOk P w K mg base CX0 2 f fd ["_law_state", "_law_many"] sp_law_wares := by
 refine F.ok sc_law_wares (fun vs H Q E h => ?_) (fun cdv A outer s H vs Q E hr h => ?_)
 ·obtain ⟨st, m, rfl, _⟩ := h
  rfl
 ·obtain ⟨st, m, rfl, hs, m1, m8, k⟩ := h
  have hp8 : pool0.length = 8 := rfl
  have m200 : (m : Int) < 10 ^ 200 := Zxw (b := 8) (by omega) (by decide +kernel)
  have hu := Aq hr
  refine ⟨_, (A2 (Ac (i := 2) sc_law_wares.nd rfl (Zzq rfl) (Bm (A4 Ce (A4 Ce (A4 Ce (A4 Ce (A4 Ce (A4 Ce (A4 Ce (A4 Ce A1))))))))))
 (A2 (Ac (i := 3) sc_law_wares.nd rfl (Zzq rfl) (Aa Zvq hr.z rfl (A4 (pv 0) (A4 A7 A1))))
 (A2 (Ac (i := 2) sc_law_wares.nd rfl (Zzq rfl) (Am N6 (E8 G8 (pv 2) (Fj (pv 3)) Fk) (E8 G8 (pv 2) Fk (Fj (pv 3)))))
 (A2 (Ac (i := 4) sc_law_wares.nd rfl (Zzq rfl) (Bm A1))
 (A2 (Bl PassesOwn.never rfl (En rfl T.Zuf (A4 (pv 1) A1)) (Ah (i := 5) sc_law_wares.nd rfl (Zzq rfl))
 (A2 (Ac (i := 6) sc_law_wares.nd rfl (Zzq rfl) (Ab hu (Bm (A4 A7 (A4 A7 (A4 A7 (A4 A7 (A4 A7 (A4 A7 A1))))))) (Aa Zvq hr.z rfl (A4 (pv 0) (A4 A7 A1))) (fun _ _ => rfl)))
 (A2 (Ac (i := 7) sc_law_wares.nd rfl (Zzq rfl) (Ab hu (Bm (A4 A7 (A4 A7 (A4 A7 (A4 A7 (A4 A7 (A4 A7 A1))))))) (Aa Zvq hr.z rfl (A4 (pv 0) (A4 A7 A1))) (fun _ _ => rfl)))
 (A2 (Ac (i := 8) sc_law_wares.nd rfl (Zzq rfl) (Ab hu (Bm (A4 A7 (A4 (pv 7) (A4 (Am Ca (pv 7) (Aa Zvq hr.z rfl (A4 (pv 0) (A4 A7 A1)))) (A4 (Am Ga (pv 7) A7) A1))))) (Aa Zvq hr.z rfl (A4 (pv 0) (A4 A7 A1))) (fun _ _ => rfl)))
 (A2 (Ac (i := 9) sc_law_wares.nd rfl (Zzq rfl) (Bm A1))
 (A2 (Bl PassesOwn.never rfl (N1 rfl T.Zuf (A4 (Am Ca (pv 5) A7) (A4 (pv 1) A1))) (Ah (i := 10) sc_law_wares.nd rfl (Zzq rfl))
 (A2 (Ac (i := 11) sc_law_wares.nd rfl (Zzq rfl) (Az (Ld rfl) rfl T.Ztj Le (A4 A7 (A4 (Am Jg (Aa Zvq hr.z rfl (A4 (pv 0) (A4 A7 A1))) A7) A1))))
 (A9 (Bp (Al Vu (pv 11) A7 (B2 _)) (A9 (Ay (Gp Zyp Zyj Zyi D9 (pv 9) (A4 (Br (A4 (Ab hu (pv 2) (pv 10) (fun _ _ => rfl)) (A4 (pv 11) A1))) A1)))) Au))))
 (A9 (Ay (Gp Zyp Zyj Zyi D9 (pv 4) (A4 (Bm (A4 (Ab hu (pv 2) (pv 5) (fun _ _ => rfl)) (A4 (pv 6) (A4 (Am Ca A7 (Aa Zvq hr.z rfl (A4 (pv 0) (A4 A7 A1)))) (A4 (pv 7) (A4 (pv 8) (A4 (Bm A1) (A4 (pv 9) A1)))))))) A1))))))))))
 (A2 (Ac (i := 12) sc_law_wares.nd rfl (Zzq rfl) (Aa Zvq hr.z rfl (A4 (pv 0) (A4 (pv 1) A1))))
 (A9 (Af (Am N6 (E8 G8 (pv 4) (Fj (pv 12)) Fk) (du rfl rfl T.Zsr rfl T.Zsw (E8 G8 (pv 4) Fk (Fj (pv 12))))))))))))), ?_⟩
  refine cut3 (fun σ' H' => ∃ (pl : Addr) (c : Int) (Pn : List Str), σ' = [some (.ref st), some (.int m), some (.ref pl), some (.int c), none, none, none, none, none, none, none, none, none] /\ H' pl = some (.lst (Pn.map V.str)) /\ qy Pn /\ H pl = none /\ StOk2 H' st /\ But st H H') ?_ (fun KK hK => ?_)
  ·rintro σ' H1 ⟨pl, c, Pn, rfl, hpl, pn, fpl, s1, b1⟩
   refine gu (fun σ' H' => ∃ wl : Addr, Wg st pl wl m c Pn H m σ' H' /\ H wl = none) ?_ (fun KK hK => ?_)
   ·rintro σ' H2 ⟨wl, ⟨rs, o1, o2, o3, o4, o5, o6, o7, o8, rfl, hrs, hwl, hpl2, raws, each, s2, b2⟩, fwl⟩
    walk_at "rd"
    refine ⟨st, m, rfl, s2, by omega, m200, fun d H3 d0 d1 s3 b3 => ?_⟩
    have hwl3 := b3 wl _ (s2.ne hwl (G2 _)) hwl
    refine ⟨d, rfl, _, hwl3, fun p hp => ⟨d, rfl, _, by rw [A5 (A3 hwl3 hp)]; exact hwl3, fun p1 hp1 => ⟨_, A0, fun p2 hp2 => ⟨Dq ((rs.map (·.a)).map V.ref) (some d) none, ?_, _, A0, ?_, fun p3 hp3 => ?_⟩⟩⟩⟩
    ·have n1 : p ≠ p1 := A3 A0 hp1
     have e1 : upd (upd H3 p (.lst (Dq ((rs.map (·.a)).map V.ref) (some d) none))) p1 (.lst (Dq ((rs.map (·.a)).map V.ref) none (some d))) p = some (.lst (Dq ((rs.map (·.a)).map V.ref) (some d) none)) := by rw [A5 n1, A0]
     rw [A5 (A3 e1 hp2)]
     exact e1
    ·rw [Fq d0, Hk d0, Zx7, Zye, Zyl, Zzz, Zzz]
     exact Ax (by omega)
    ·have t1 := A6 (o := .lst (Dq ((rs.map (·.a)).map V.ref) (some d) none)) hp
     have t2 := t1.trans (A6 (o := .lst (Dq ((rs.map (·.a)).map V.ref) none (some d))) hp1)
     have t3 := t2.trans (A6 (o := .lst (Dq ((rs.map (·.a)).map V.ref) none (some d)).reverse) hp2)
     have t4 := t3.trans (A6 (o := .lst (Dq ((rs.map (·.a)).map V.ref) (some d) none ++ (Dq ((rs.map (·.a)).map V.ref) none (some d)).reverse)) hp3)
     have pm : (rs.drop d.toNat ++ (rs.take d.toNat).reverse).Perm rs := by
      refine ((List.Perm.refl _).append (List.reverse_perm _)).trans (List.perm_append_comm.trans ?_)
      rw [Zwy]
     have raws3 : RawsOk H3 rs := raws.but b3 s2
     have f3 : H3 p3 = none := Same.free t3 hp3
     refine k p3 (rs.drop d.toNat ++ (rs.take d.toNat).reverse) _ ?_ ?_ (by rw [pm.length_eq]; exact hrs) ((raws3.same t4).perm pm) ?_ (fun r hr => ?_) (s3.same t4) ((b2.trans b3).same t4)
     ·refine (b2.trans b3).none (fun e => ?_) f3
      obtain ⟨x, y, q⟩ := s3
      rw [<- e, f3] at q
      cases q
     ·rw [A0, Fq d0, Hk d0, Zzg, Zzg, <- Zwc, <- Zwc, List.map_reverse, List.map_reverse, <- Zwv, <- Zwv]
     ·rw [Zzg, <- Zzg]
      refine WsOk.perm (ws := rs.map (·.w)) (nh pn.nd pn.txt (fun j w hw => ?_) (by rw [Zzz, pn.len]; omega)) (pm.map _)
      rw [Zzv] at hw
      cases er : rs[j]? with
      | none => rw [er] at hw; cases hw
      | some r =>
       rw [er] at hw
       cases hw
       rw [Zzz, hrs]
       exact (each j r er).1
     ·have hr' := pm.mem_iff.mp hr
      obtain ⟨j, hj, e⟩ := Zy5.mp hr'
      obtain ⟨_, e1, e2, e3, e4, _⟩ := each j r (by rw [Zzr hj, e])
      obtain ⟨_, ⟨cv, hc, _⟩, _⟩ := raws3.each r hr'
      exact ⟨e1, e2, e3, e4, A3 (t3 _ _ hc) hp3⟩
   ·walk_at "rd"
    refine ⟨Zyq _, fun wl hwl => ⟨by omega, by omega, ?_⟩⟩
    have nwp : pl ≠ wl := A3 hpl hwl
    have nws : st ≠ wl := fun e => by obtain ⟨x, y, q⟩ := s1; rw [e, hwl] at q; cases q
    have fwl : H wl = none := b1.none (Zzh nws) hwl
    have em : ((m : Nat) : Int).toNat = m := by omega
    rw [em]
    refine D4 (Lu 0 _) (Wg st pl wl m c Pn H) ⟨[], _, _, _, _, _, _, _, _, rfl, rfl, A0, by rw [A5 nwp]; exact hpl, ⟨(fun _ h => nomatch h), Zx0, (fun _ h => nomatch h)⟩, (fun _ _ h => nomatch h), ?_, b1.new hwl⟩ (fun _ _ _ _ _ => trivial) (fun i x σ H2 hi hx h => ?_) (fun σ H2 h => ?_)
    ·obtain ⟨x, y, q⟩ := s1; exact ⟨x, y, by rw [A5 nws]; exact q⟩
    ·obtain ⟨rs, o1, o2, o3, o4, o5, o6, o7, o8, rfl, hrs, hwl2, hpl2, raws, each, s2, b2⟩ := h
     subst hx
     have ei : (0 : Int) + (i : Int) = i := Int.zero_add _
     rw [ei]
     have B0 : MadeB st pl wl Pn rs H H2 := ⟨hwl2, hpl2, raws, s2, b2⟩
     walk_at "rd"
     refine ⟨by decide, fun p1 hp1 => ?_⟩
     have n1 := B0.ne hp1
     have B1 := B0.same (A6 (o := .lst [V.int 0, V.int 0, V.int 1, V.int 1, V.int 2, V.int 3]) hp1)
     refine ⟨st, 6, rfl, B1.2.2.2.1, by decide, by decide +kernel, fun d1 H3 d10 d11 s3 b3 => ?_⟩
     have B3 := B1.nx s3 b3
     obtain ⟨lag, lag0, lag1, it1⟩ := N0 (ns := [0, 0, 1, 1, 2, 3]) (lo := 0) (hi := 30) (b3 p1 _ n1 A0) d10 (by simpa using d11) (by decide)
     refine ⟨_, it1, by decide, fun p2 hp2 => ?_⟩
     have n2 := B3.ne hp2
     have B4 := B3.same (A6 (o := .lst [V.int 0, V.int 0, V.int 0, V.int 1, V.int 2, V.int 5]) hp2)
     refine ⟨st, 6, rfl, B4.2.2.2.1, by decide, by decide +kernel, fun d2 H5 d20 d21 s5 b5 => ?_⟩
     have B5 := B4.nx s5 b5
     obtain ⟨fl, fl0, fl1, it2⟩ := N0 (ns := [0, 0, 0, 1, 2, 5]) (lo := 0) (hi := 5) (b5 p2 _ n2 A0) d20 (by simpa using d21) (by decide)
     refine ⟨_, it2, st, 10, rfl, s5, by decide, by decide +kernel, fun d3 H6 d30 d31 s6 b6 => ?_⟩
     have B6 := B5.nx s6 b6
     refine ⟨fl, rfl, d3, rfl, fl, rfl, .inl (.inr ⟨by decide, by decide⟩), by decide, fun p3 hp3 => ?_⟩
     have n3 := B6.ne hp3
     have B7 := B6.same (A6 (o := .lst [V.int 0, V.int fl, V.int (fl + d3), V.int (fl * 3)]) hp3)
     refine ⟨st, 4, rfl, B7.2.2.2.1, by decide, by decide +kernel, fun d4 H8 d40 d41 s8 b8 => ?_⟩
     have B8 := B7.nx s8 b8
     obtain ⟨sk, sk0, sk1, it3⟩ := N0 (ns := [0, fl, fl + d3, fl * 3]) (lo := 0) (hi := 100) (b8 p3 _ n3 A0) d40 (by simpa using d41) (by
      intro n hn
      simp only [Zzk, Zz8, or_false] at hn
      rcases hn with rfl | rfl | rfl | rfl <;> omega)
     refine ⟨_, it3, by decide, fun pa hpa => ⟨by omega, by omega, by omega, by omega, ?_⟩⟩
     have npa := B8.ne hpa
     have B9 := B8.same (A6 (o := .lst []) hpa)
     have fpa : H pa = none := B8.2.2.2.2.none npa hpa
     have nwp' : wl ≠ pa := A3 B8.1 hpa
     have npp' : pl ≠ pa := A3 B8.2.1 hpa
     have napart : ∀ r ∈ rs, r.a ≠ pa /\ r.c ≠ pa /\ r.q ≠ pa := fun r hr => by
      obtain ⟨h1, ⟨cv, h2, _⟩, pv, h4, _⟩ := B8.2.2.1.each r hr
      exact ⟨A3 h1 hpa, A3 h2 hpa, A3 h4 hpa⟩
     have lift : ∀ Hx : Hp, StOk2 Hx st -> (∀ b o, b ≠ st -> b ≠ pa -> upd H8 pa (.lst []) b = some o -> Hx b = some o) -> MadeB st pl wl Pn rs H Hx := fun Hx sx kx => by
      obtain ⟨c1, c2, c3, c4, c5⟩ := B9
      refine ⟨kx _ _ (c4.ne c1 (G2 _)) nwp' c1, kx _ _ (c4.ne c2 (Nm _)) npp' c2, ⟨fun r hr => (c3.each r hr).mono (fun b xs e hb => kx b _ ((c3.each r hr).ne c4 e) ?_ hb) (fun a xs h => kx a _ (c4.neT h) (fun e => ?_) h), c3.nd, c3.apart⟩, sx, fun b o nb hb => kx b o nb (A3 hb fpa) (c5 b o nb hb)⟩
      ·obtain ⟨w1, w2, w3⟩ := napart r hr
       rcases e with rfl | rfl | rfl
       ·exact w1
       ·exact w2
       ·exact w3
      ·rw [e, A0] at h; cases h
     have er : ((m : Int) - ((i : Int) + 1)).toNat = m - (i + 1) := by omega
     rw [er]
     refine D4 (Lu _ _) (i7 st pl wl pa m i c lag fl sk Pn (upd H8 pa (.lst []))) ⟨[], [], _, _, _, rfl, A0, RDs.nil, Zzt _, (fun _ h => nomatch h), (fun _ h => nomatch h), Zx0, B9.2.2.2.1, fun b o _ _ h => h⟩ (fun _ _ _ _ _ => trivial) (fun t x σ Hx ht hx h => ?_) (fun σ Hx h => ?_)
     ·obtain ⟨ps, pv, o6, o7, o8, rfl, hpv, rpv, lps, amts, own, ndp, sx, kx⟩ := h
      subst hx
      have Bx := lift Hx sx kx
      have hj : i + 1 + t < Pn.length := by rw [pn.len]; omega
      have hjn : Pn[i + 1 + t]? = some Pn[i + 1 + t] := Zzr hj
      walk_at "rd"
      refine ⟨st, 6, rfl, sx, by decide, by decide +kernel, fun d Hy e0 e1 sy by' => ⟨d, rfl, ?_⟩⟩
      have By := Bx.nx sy by'
      have hpv' := by' pa _ npa hpv
      have rpv' := RDs.ku (Gg by' sx) _ _ (Cb Ew Gb _) rpv
      have ky : ∀ b o, b ≠ st -> b ≠ pa -> upd H8 pa (.lst []) b = some o -> Hy b = some o := fun b o n1 n2 h => by' b o n1 (kx b o n1 n2 h)
      generalize hq : (if d - 2 > 0 then d - 2 else 0) = am
      have am1 : am <= 3 := by rw [<- hq]; split <;> omega
      refine D3 (fun hz => ?_) (fun hz => ?_)
      ·have hz := of_decide_eq_true hz
       refine ⟨Ea hpv', .str Pn[i + 1 + t], Jj (.inl By.2.1) (by omega) ?_, by decide, fun t' ht' => ⟨pv, by rw [A5 (A3 hpv' ht')]; exact hpv', ?_, ?_⟩⟩
       ·have : ((i : Int) + 1 + (t : Int)).toNat = i + 1 + t := by omega
        rw [this, Zzv, hjn]
        rfl
       ·have := RDs.len rpv
        rw [Zzz] at this
        exact Zyx (m := 1000) (by omega) (by decide)
       ·have u1 : KeepU Hy (upd Hy t' (.tup [.str Pn[i + 1 + t], .int am])) := lh ht'
        have h1 : upd Hy t' (.tup [.str Pn[i + 1 + t], .int am]) pa = some (.lst pv) := by rw [A5 (A3 hpv' ht')]; exact hpv'
        have u2 : KeepU Hy (upd (upd Hy t' (.tup [.str Pn[i + 1 + t], .int am])) pa (.lst (pv ++ [.ref t']))) := u1.trans (Rs h1 (fun _ z => by cases z))
        have ntp : t' ≠ pa := fun e => by rw [e, hpv'] at ht'; cases ht'
        have nts : t' ≠ st := By.ne ht'
        refine ⟨ps ++ [(Pn[i + 1 + t], am)], pv ++ [.ref t'], _, _, _, rfl, A0, ?_, by simp; omega, fun p hp => ?_, fun p hp => ?_, ?_, ?_, fun b o n1 n2 h => ?_⟩
        ·rw [Zzg]
         refine RDs.app (RDs.ku u2 _ _ (Cb Ew Gb _) rpv') (RDs.one ?_)
         exact RD.tup_mk (by rw [A5 ntp, A0]) (RDs.cons RD.str_mk (RDs.one RD.int_mk))
        ·rcases Zz4.mp hp with z | z
         ·exact amts p z
         ·rw [Zzd.mp z]; exact ⟨by omega, by omega⟩
        ·rcases Zz4.mp hp with z | z
         ·obtain ⟨j, j1, j2, j3⟩ := own p z
          exact ⟨j, j1, by omega, j3⟩
         ·rw [Zzd.mp z]; exact ⟨i + 1 + t, by omega, by omega, hjn⟩
        ·rw [Zzg]
         refine Zxe.mpr ⟨ndp, by simp, fun x hx y hy e => ?_⟩
         have ey : y = Pn[i + 1 + t] := by simpa using hy
         obtain ⟨p, hp, rfl⟩ := Zzx.mp hx
         obtain ⟨j, j1, j2, j3⟩ := own p hp
         have := S6 pn.nd j3
         rw [e, ey, S6 pn.nd hjn] at this
         omega
        ·obtain ⟨x, y, q⟩ := sy
         exact ⟨x, y, by rw [A5 (Zzh npa), A5 (Zzh nts)]; exact q⟩
        ·have := ky b o n1 n2 h
         rw [A5 n2, A5 (A3 this ht')]
         exact this
      ·exact ⟨ps, pv, _, _, _, rfl, hpv', rpv', by omega, amts, fun p hp => let ⟨j, j1, j2, j3⟩ := own p hp; ⟨j, j1, by omega, j3⟩, ndp, sy, ky⟩
     ·obtain ⟨ps, pv, o6, o7, o8, rfl, hpv, rpv, lps, amts, own, ndp, sx, kx⟩ := h
      have Bx := lift Hx sx kx
      have hil : i < Pn.length := by rw [pn.len]; omega
      obtain ⟨nm, hin⟩ : ∃ x, Pn[i]? = some x := ⟨_, Zzr hil⟩
      walk_at "rd"
      refine ⟨Ea Bx.1, .str nm, C8 (j := i) Bx.2.1 (by rw [Zzv, hin]; rfl), st, 5, rfl, sx, by decide, by decide +kernel, fun x Hy x0 x1 sy by' => ⟨x, rfl, Zyq _, fun cc hcc => ⟨by decide, fun aa haa => ?_⟩⟩⟩
      have By := Bx.nx sy by'
      have hpv' := by' pa _ npa hpv
      have rpv' := RDs.ku (Gg by' sx) _ _ (Cb Ew Gb _) rpv
      have fcs : cc ≠ st := By.ne hcc
      have nca : cc ≠ aa := A3 A0 haa
      have haaY : Hy aa = none := by rw [A5 (Zzh nca)] at haa; exact haa
      have fas : aa ≠ st := By.ne haaY
      have nwc : wl ≠ cc := A3 By.1 hcc
      have nwa : wl ≠ aa := A3 By.1 haaY
      have npc : pa ≠ cc := A3 hpv' hcc
      have npaa : pa ≠ aa := A3 hpv' haaY
      have fcH : H cc = none := By.2.2.2.2.none fcs hcc
      have faH : H aa = none := By.2.2.2.2.none fas haaY
      refine ⟨(rs.map (·.a)).map V.ref, by rw [A5 nwa, A5 nwc]; exact By.1, ?_, ?_⟩
      ·rw [Zzz, Zzz]
       exact Zyx (m := 1000) (by omega) (by decide)
      ·generalize hR : (HO.lst [V.str nm, V.int lag, V.int (1 + x), V.int fl, V.int sk, V.ref cc, V.ref pa]) = oR
       have kf : ∀ b o, b ≠ wl -> Hy b = some o -> upd (upd (upd Hy cc (.lst [])) aa oR) wl (.lst ((rs.map (·.a)).map V.ref ++ [.ref aa])) b = some o := fun b o n h => by
        rw [A5 n, A5 (A3 h haaY), A5 (A3 h hcc)]; exact h
       have uf : KeepU Hy (upd (upd (upd Hy cc (.lst [])) aa oR) wl (.lst ((rs.map (·.a)).map V.ref ++ [.ref aa]))) := fun a xs h => kf a _ (fun e => by rw [e, By.1] at h; cases h) h
       have oldne : ∀ r ∈ rs, (r.a ≠ wl /\ r.c ≠ wl /\ r.q ≠ wl) := fun r hr => by
        obtain ⟨j, hj, e⟩ := Zy5.mp hr
        exact (each j r (by rw [Zzr hj, e])).2.2.2.2.2
       refine ⟨rs ++ [⟨aa, cc, pa, ⟨nm, lag, 1 + x, fl, sk, [], ps⟩⟩], _, _, _, _, _, _, _, _, rfl, by simp [hrs], ?_, kf _ _ (fun e => ?_) By.2.1, ⟨fun r hr => ?_, ?_, fun r hr r' hr' => ?_⟩, fun j r hj => ?_, ?_, fun b o nb hb => ?_⟩
       ·rw [A0, Zzg, Zzg]; rfl
       ·rw [e] at hpl2
        have := By.2.1
        rw [e, By.1] at this
        have z := congrArg (fun o => match o with | some (HO.lst (V.str _ :: _)) => true | _ => false) this
        cases hP : Pn with
        | nil => have := pn.len; rw [hP] at this; cases this
        | cons y r => rw [hP] at z; cases rs <;> cases z
       ·rcases Zz4.mp hr with z | z
        ·refine (By.2.2.1.each r z).mono (fun b xs e hb => kf b _ ?_ hb) uf
         obtain ⟨w1, w2, w3⟩ := oldne r z
         rcases e with rfl | rfl | rfl
         ·exact w1
         ·exact w2
         ·exact w3
        ·have e : r = _ := Zzd.mp z
         subst e
         refine ⟨?_, ⟨[], ?_, RDs.nil⟩, pv, kf _ _ (Zzh nwp') hpv', RDs.ku uf _ _ (Cb Ew Gb _) rpv'⟩
         ·rw [A5 (Zzh nwa), A0, <- hR]
         ·rw [A5 (Zzh nwc), A5 nca, A0]
       ·rw [Zzg]
        refine Zxe.mpr ⟨By.2.2.1.nd, by simp, fun x hx y hy e => ?_⟩
        have ey : y = cc := by simpa using hy
        obtain ⟨r, hr, rfl⟩ := Zzx.mp hx
        exact (By.2.2.1.each r hr).fresh hcc (.inr (.inl rfl)) (e.trans ey)
       ·rcases Zz4.mp hr with z | z <;> rcases Zz4.mp hr' with z' | z'
        ·exact By.2.2.1.apart r z r' z'
        ·have e : r' = _ := Zzd.mp z'
         subst e
         exact ⟨(By.2.2.1.each r z).fresh haaY (.inr (.inl rfl)), (napart r z).2.1⟩
        ·have e : r = _ := Zzd.mp z
         subst e
         exact ⟨Zzh ((By.2.2.1.each r' z').fresh hcc (.inl rfl)), Zzh ((By.2.2.1.each r' z').fresh hcc (.inr (.inr rfl)))⟩
        ·have e : r = _ := Zzd.mp z
         have e' : r' = _ := Zzd.mp z'
         subst e e'
         exact ⟨nca, Zzh npc⟩
       ·by_cases hlt : j < rs.length
        ·rw [Zyo hlt] at hj
         exact each j r hj
        ·have hj2 : j = rs.length := by
          have := (Zzl.mp hj).1
          simp at this
          omega
         rw [hj2, Zyf (Zzt _), Nat.sub_self] at hj
         have e : r = _ := (Zzc hj).symm
         subst e
         refine ⟨⟨by rw [hj2, hrs]; exact hin, ⟨⟨lag0, lag1⟩, ⟨by show 1 <= 1 + x; omega, by show 1 + x <= 100; omega⟩, ⟨fl0, by show fl <= 100; omega⟩, ⟨sk0, sk1⟩, by show ps.length <= 12; omega, amts, ndp⟩, fun p hp => ?_⟩, rfl, faH, fcH, fpa, Zzh nwa, Zzh nwc, Zzh nwp'⟩
         obtain ⟨j', j1, j2, j3⟩ := own p hp
         exact ⟨j', by omega, by omega, j3⟩
       ·obtain ⟨x, y, q⟩ := sy
        exact ⟨x, y, kf _ _ (fun e => by rw [<- e] at fwl; exact absurd (By.2.2.2.1) (fun h => by obtain ⟨x', y', q'⟩ := h; rw [e, By.1] at q'; cases rs <;> cases q')) q⟩
       ·have nbw : b ≠ wl := A3 hb fwl
        exact kf b o nbw (By.2.2.2.2 b o nb hb)
    ·exact hK _ _ ⟨wl, h, fwl⟩
  ·walk_at "rd"
   refine ⟨by decide, fun p0 hp0 => ?_⟩
   have np0 : st ≠ p0 := fun e => by obtain ⟨x, y, q⟩ := hs; rw [e, hp0] at q; cases q
   refine ⟨st, 8, rfl, ?_, by decide, by decide +kernel, fun d H1 d0 d1 s1 b1 => ?_⟩
   ·obtain ⟨x, y, q⟩ := hs; exact ⟨x, y, by rw [A5 np0]; exact q⟩
   walk_at "rd"
   have h0 : H1 p0 = some (.lst (pool0.map V.str)) := b1 p0 _ (Zzh np0) A0
   refine ⟨_, h0, fun p hp => ⟨_, by rw [A5 (A3 h0 hp)]; exact h0, fun p1 hp1 => ⟨_, by rw [A5 (A3 A0 hp1), A0], _, A0, ?_, fun p2 hp2 => ?_⟩⟩⟩
   ·rw [Fq d0, Hk d0, Zye, Zyl, Zzz]
    exact Ax (by omega)
   ·have t1 := A6 (o := .lst (Dq (pool0.map V.str) (some d) none)) hp
    have t2 := t1.trans (A6 (o := .lst (Dq (pool0.map V.str) none (some d))) hp1)
    have t3 := t2.trans (A6 (o := .lst (Dq (pool0.map V.str) (some d) none ++ Dq (pool0.map V.str) none (some d))) hp2)
    have b01 : But st H H1 := (Mc hp0).trans b1
    refine hK _ _ ⟨p2, d, pool0.drop d.toNat ++ pool0.take d.toNat, rfl, ?_, ki _, ?_, s1.same t3, b01.same t3⟩
    ·rw [A0, Fq d0, Hk d0, Zzg, Zwc, Zwv]
    ·refine b01.none (fun e => ?_) (Same.free t2 hp2)
     obtain ⟨x, y, q⟩ := s1
     rw [e] at hp2
     rw [t2 _ _ q] at hp2
     cases hp2
end
set_option maxHeartbeats 4000000
section
variable {P : Program} {w : World} {K : Zzu} {mg : Str -> Option Value} {base : Heap} {f : Addr} {fd : FuncData} {c : Cl} {Pt : Addr}
def core (w : Wr) : Wr := { w with coming := [] }
def cm (sz : Int) (cs : List (Int × Int)) : Prop := cs.length <= 12 /\ ∀ p ∈ cs, (0 <= p.1 /\ p.1 < sz) /\ 0 <= p.2 /\ p.2 < 10 ^ 32
def h8 (sz : Int) (names : List Str) (us : List Wt) : Prop := us.length <= 21 /\ ∀ u ∈ us, u.1 ∈ names /\ (0 <= u.2.1 /\ u.2.1 < sz) /\ 0 <= u.2.2 /\ u.2.2 < 10 ^ 100
def Ub (sz : Int) (names : List Str) (us : List Wt) : Prop := us.length <= 20 /\ ∀ u ∈ us, u.1 ∈ names /\ (0 <= u.2.1 /\ u.2.1 < sz) /\ 0 <= u.2.2 /\ u.2.2 < 10 ^ 32
theorem Hi {α β : Type} {f : α -> β} {l : List α} {i : Nat} {x y : α} (h : l[i]? = some y) (e : f x = f y) : (l.set i x).map f = l.map f := by
 rw [List.map_set, e]
 apply Zxu
 intro j
 by_cases hj : i = j
 ·subst hj
  have hi : i < l.length := (Zzl.mp h).1
  rw [Zx2 (by rw [Zzz]; exact hi), Zzv, h]
  rfl
 ·rw [Zy1 hj]
theorem WsOk.core {ws ws' : List Wr} (h : WsOk ws) (e : ws'.map core = ws.map core) : WsOk ws' := by
 have f : ∀ {β : Type} (g : Wr -> β), (∀ w, g (K17.core w) = g w) -> ws'.map g = ws.map g := fun {β} g hg => by
  have := congrArg (Zxq g) e
  rw [Zyk, Zyk] at this
  have q : g ∘ K17.core = g := funext hg
  rw [q] at this
  exact this
 have fn := f (·.name) (fun _ => rfl)
 have fl : ws'.length = ws.length := by have := congrArg Zxb fn; rw [Zzz, Zzz] at this; exact this
 have mem : ∀ w ∈ ws', ∃ w0 ∈ ws, K17.core w0 = K17.core w := fun w hw => by
  have : K17.core w ∈ ws.map K17.core := by rw [<- e]; exact Zzx.mpr ⟨w, hw, rfl⟩
  obtain ⟨w0, h0, e0⟩ := Zzx.mp this
  exact ⟨w0, h0, e0⟩
 have cn : ∀ {w w0 : Wr}, K17.core w0 = K17.core w -> w.name = w0.name /\ w.parts = w0.parts /\ (WB w0 -> WB w) := fun {w w0} e => by
  have e1 := congrArg Wr.name e
  have e2 := congrArg Wr.parts e
  have e3 := congrArg Wr.lag e
  have e4 := congrArg Wr.gives e
  have e5 := congrArg Wr.floor e
  have e6 := congrArg Wr.stock e
  simp only [K17.core] at e1 e2 e3 e4 e5 e6
  refine ⟨e1.symm, e2.symm, fun h => ?_⟩
  obtain ⟨a, b, c, d, p, q, r⟩ := h
  exact ⟨e3 ▸ a, e4 ▸ b, e5 ▸ c, e6 ▸ d, e2 ▸ p, e2 ▸ q, e2 ▸ r⟩
 refine ⟨by rw [fn]; exact h.nd, fun w hw => ?_, fun w hw => ?_, fun w hw p hp => ?_, ?_⟩
 ·obtain ⟨w0, h0, e0⟩ := mem w hw; exact (cn e0).2.2 (h.wb w0 h0)
 ·obtain ⟨w0, h0, e0⟩ := mem w hw; rw [(cn e0).1]; exact h.txt w0 h0
 ·obtain ⟨w0, h0, e0⟩ := mem w hw; rw [fn]; rw [(cn e0).2.1] at hp; exact h.own w0 h0 p hp
 ·obtain ⟨r, h1, h2⟩ := h.low
  refine ⟨r, fun w hw => ?_, fun w hw p hp => ?_⟩
  ·obtain ⟨w0, h0, e0⟩ := mem w hw; rw [(cn e0).1, fl]; exact h1 w0 h0
  ·obtain ⟨w0, h0, e0⟩ := mem w hw; rw [(cn e0).1]; rw [(cn e0).2.1] at hp; exact h2 w0 h0 p hp
structure FillB (l cl wl : Addr) (sz : Int) (rs rs' : List Raw) (sts : List Addr) (us : List Wt) (uv : List V) (H Hx : Hp) : Prop where
 hl : Hx l = some (.lst ((rs.map (·.a)).map V.ref))
 hcl : Hx cl = some (.lst (sts.map V.ref))
 hwl : Hx wl = some (.lst uv)
 huv : RDs Hx (us.map Fs) uv
 uok : Ub sz ((rs.map (·.w)).map (·.name)) us
 raws : RawsOk Hx rs'
 ma : rs'.map (·.a) = rs.map (·.a)
 mc : rs'.map (·.c) = rs.map (·.c)
 mw : (rs'.map (·.w)).map core = (rs.map (·.w)).map core
 com : ∀ r ∈ rs', cm sz r.w.coming
 nw : ∀ r ∈ rs', r.a ≠ wl /\ r.c ≠ wl /\ r.q ≠ wl /\ r.c ≠ l /\ r.c ≠ cl
 st : ∀ s ∈ sts, StOk2 Hx s
 kp : ∀ b o, b ∉ sts -> b ∉ rs.map (·.c) -> H b = some o -> Hx b = some o
theorem FillB.nx {l cl wl st : Addr} {sz : Int} {rs rs' : List Raw} {sts : List Addr} {us : List Wt} {uv : List V} {H Hx H' : Hp} (h : FillB l cl wl sz rs rs' sts us uv H Hx) (hm : st ∈ sts) (s : StOk2 H' st) (b : But st Hx H') : FillB l cl wl sz rs rs' sts us uv H H' := by
 have s0 := h.st st hm
 exact ⟨b _ _ (s0.ne h.hl (G2 _)) h.hl, b _ _ (s0.ne h.hcl (G2 _)) h.hcl, b _ _ (s0.ne h.hwl (Nl h.huv)) h.hwl, RDs.ku (Gg b s0) _ _ (Cb Fs Kd _) h.huv, h.uok, h.raws.but b s0, h.ma, h.mc, h.mw, h.com, h.nw,
  fun x hx => (h.st x hx).but b s, fun x o n1 n2 hb => b x o (fun e => n1 (e ▸ hm)) (h.kp x o n1 n2 hb)⟩
theorem FillB.same {l cl wl : Addr} {sz : Int} {rs rs' : List Raw} {sts : List Addr} {us : List Wt} {uv : List V} {H Hx H' : Hp} (h : FillB l cl wl sz rs rs' sts us uv H Hx) (s : Same Hx H') : FillB l cl wl sz rs rs' sts us uv H H' :=
 ⟨s _ _ h.hl, s _ _ h.hcl, s _ _ h.hwl, RDs.same s _ _ h.huv, h.uok, h.raws.same s, h.ma, h.mc, h.mw, h.com, h.nw, fun x hx => (h.st x hx).same s, fun x o n1 n2 hb => s x o (h.kp x o n1 n2 hb)⟩
theorem FillB.want {l cl wl t : Addr} {sz : Int} {rs rs' : List Raw} {sts : List Addr} {us : List Wt} {uv : List V} {H Hx : Hp} {u : Wt} (h : FillB l cl wl sz rs rs' sts us uv H Hx) (hw : H wl = none) (ht : Hx t = some (.tup [.str u.1, .int u.2.1, .int u.2.2])) (hl : us.length < 20)
  (hu : u.1 ∈ (rs.map (·.w)).map (·.name) /\ (0 <= u.2.1 /\ u.2.1 < sz) /\ 0 <= u.2.2 /\ u.2.2 < 10 ^ 32) (nl : wl ≠ l /\ wl ≠ cl) : FillB l cl wl sz rs rs' sts (us ++ [u]) (uv ++ [.ref t]) H (upd Hx wl (.lst (uv ++ [.ref t]))) := by
 have ku : KeepU Hx (upd Hx wl (.lst (uv ++ [.ref t]))) := Rs h.hwl (fun _ z => by cases z)
 have ntw : t ≠ wl := fun e => by rw [e, h.hwl] at ht; cases ht
 refine ⟨by rw [A5 (Zzh nl.1)]; exact h.hl, by rw [A5 (Zzh nl.2)]; exact h.hcl, A0, ?_, ⟨by rw [Zyv, Zyy]; omega, fun x hx => ?_⟩, ⟨fun r hr => (h.raws.each r hr).mono (fun b xs e hb => ?_) ku, h.raws.nd, h.raws.apart⟩, h.ma, h.mc, h.mw, h.com, h.nw, fun s hs => ?_, fun b o n1 n2 hb => ?_⟩
 ·rw [Zzg]
  exact RDs.app (RDs.ku ku _ _ (Cb Fs Kd _) h.huv) (RDs.one (RD.tup_mk (by rw [A5 ntw]; exact ht) (RDs.cons RD.str_mk (RDs.cons RD.int_mk (RDs.one RD.int_mk)))))
 ·rcases Zz4.mp hx with z | z
  ·exact h.uok.2 x z
  ·rw [Zzd.mp z]; exact hu
 ·obtain ⟨w1, w2, w3, _⟩ := h.nw r hr
  rcases e with rfl | rfl | rfl
  ·rw [A5 w1]; exact hb
  ·rw [A5 w2]; exact hb
  ·rw [A5 w3]; exact hb
 ·obtain ⟨x, y, q⟩ := h.st s hs
  exact ⟨x, y, by rw [A5 (Zzh ((h.st s hs).ne h.hwl (Nl h.huv)))]; exact q⟩
 ·rw [A5 (A3 hb hw)]
  exact h.kp b o n1 n2 hb
theorem FillB.thing {l cl wl t : Addr} {sz : Int} {rs rs' : List Raw} {sts : List Addr} {us : List Wt} {uv cv : List V} {H Hx : Hp} {i : Nat} {r : Raw} {y : Int × Int} (h : FillB l cl wl sz rs rs' sts us uv H Hx) (hi : rs'[i]? = some r) (hc : Hx r.c = some (.lst cv)) (rc : RDs Hx (r.w.coming.map Lf) cv)
  (ht : Hx t = some (.tup [.int y.1, .int y.2])) (hl : r.w.coming.length < 12) (hy : (0 <= y.1 /\ y.1 < sz) /\ 0 <= y.2 /\ y.2 < 10 ^ 32) :
  FillB l cl wl sz rs (rs'.set i { r with w := { r.w with coming := r.w.coming ++ [y] } }) sts us uv H (upd Hx r.c (.lst (cv ++ [.ref t]))) := by
 have hm := Zzn hi
 have ku : KeepU Hx (upd Hx r.c (.lst (cv ++ [.ref t]))) := Rs hc (fun _ z => by cases z)
 have ntc : t ≠ r.c := fun e => by rw [e, hc] at ht; cases ht
 obtain ⟨w1, w2, w3, w4, w5⟩ := h.nw r hm
 have hil : i < rs'.length := (Zzl.mp hi).1
 have hgi : rs'[i] = r := (Zzl.mp hi).2
 have setmem : ∀ r' ∈ rs'.set i { r with w := { r.w with coming := r.w.coming ++ [y] } }, r' = { r with w := { r.w with coming := r.w.coming ++ [y] } } \/ (r' ∈ rs' /\ r'.c ≠ r.c) := fun r' hr' => by
  obtain ⟨j, hj, e⟩ := Zy5.mp hr'
  have hj' : j < rs'.length := by simpa using hj
  by_cases hij : i = j
  ·subst hij
   rw [List.getElem_set_self] at e
   exact .inl e.symm
  ·rw [List.getElem_set_ne hij] at e
   refine .inr ⟨e ▸ Zw8 hj', fun ec => hij ?_⟩
   have e1 : (rs'.map (·.c))[i]? = (rs'.map (·.c))[j]? := by
    rw [Zzv, Zzv, hi, Zzr hj', e]
    show some r.c = some r'.c
    rw [ec]
   exact (Zwi (by rw [Zzz]; exact hil) h.raws.nd).mp e1
 have mc : (rs'.set i { r with w := { r.w with coming := r.w.coming ++ [y] } }).map (·.c) = rs'.map (·.c) := Hi hi rfl
 refine ⟨by rw [A5 (Zzh w4)]; exact h.hl, by rw [A5 (Zzh w5)]; exact h.hcl, by rw [A5 (Zzh w2)]; exact h.hwl, RDs.ku ku _ _ (Cb Fs Kd _) h.huv, h.uok, ⟨fun r' hr' => ?_, by rw [mc]; exact h.raws.nd, fun r1 hr1 r2 hr2 => ?_⟩,
  (Hi (x := { r with w := { r.w with coming := r.w.coming ++ [y] } }) hi rfl).trans h.ma, mc.trans h.mc, ?_, fun r' hr' => ?_, fun r' hr' => ?_, fun s hs => ?_, fun b o n1 n2 hb => ?_⟩
 ·rcases setmem r' hr' with e | ⟨m, nc⟩
  ·subst e
   obtain ⟨h1, _, pv, h4, h5⟩ := h.raws.each r hm
   obtain ⟨a1, a2⟩ := h.raws.apart r hm r hm
   refine ⟨by rw [A5 (Zzh a1)]; exact h1, ⟨cv ++ [.ref t], A0, ?_⟩, pv, by rw [A5 (Zzh a2)]; exact h4, RDs.ku ku _ _ (Cb Ew Gb _) h5⟩
   rw [Zzg]
   exact RDs.app (RDs.ku ku _ _ (Cb Lf Rn _) rc) (RDs.one (RD.tup_mk (by rw [A5 ntc]; exact ht) (RDs.cons RD.int_mk (RDs.one RD.int_mk))))
  ·refine (h.raws.each r' m).mono (fun b xs e hb => ?_) ku
   obtain ⟨a1, a2⟩ := h.raws.apart r hm r' m
   rcases e with rfl | rfl | rfl
   ·rw [A5 (Zzh a1)]; exact hb
   ·rw [A5 nc]; exact hb
   ·rw [A5 (Zzh a2)]; exact hb
 ·have f : ∀ r1 ∈ rs'.set i { r with w := { r.w with coming := r.w.coming ++ [y] } }, ∃ r0 ∈ rs', r0.a = r1.a /\ r0.c = r1.c /\ r0.q = r1.q := fun r1 hr1 => by
   rcases setmem r1 hr1 with e | ⟨m, _⟩
   ·subst e; exact ⟨r, hm, rfl, rfl, rfl⟩
   ·exact ⟨r1, m, rfl, rfl, rfl⟩
  obtain ⟨r3, m3, e1, e2, e3⟩ := f r1 hr1
  obtain ⟨r4, m4, e4, e5, e6⟩ := f r2 hr2
  have := h.raws.apart r3 m3 r4 m4
  rw [e2, e4, e6] at this
  exact this
 ·have e1 := Hi (f := K17.core ∘ (·.w)) hi (x := { r with w := { r.w with coming := r.w.coming ++ [y] } }) rfl
  have e2 := h.mw
  rw [Zyk] at e2 ⊢
  exact e1.trans e2
 ·rcases setmem r' hr' with e | ⟨m, _⟩
  ·subst e
   obtain ⟨c1, c2⟩ := h.com r hm
   refine ⟨by show (r.w.coming ++ [y]).length <= 12; rw [Zyv, Zyy]; omega, fun p hp => ?_⟩
   rcases Zz4.mp hp with z | z
   ·exact c2 p z
   ·rw [Zzd.mp z]; exact hy
  ·exact h.com r' m
 ·rcases setmem r' hr' with e | ⟨m, _⟩
  ·subst e; exact h.nw r hm
  ·exact h.nw r' m
 ·obtain ⟨x, z, q⟩ := h.st s hs
  exact ⟨x, z, by rw [A5 (Zzh ((h.st s hs).ne hc (L7 rc)))]; exact q⟩
 ·have nb : b ≠ r.c := fun e => n2 (by rw [<- h.mc, e]; exact Zzx.mpr ⟨r, hm, rfl⟩)
  rw [A5 nb]
  exact h.kp b o n1 n2 hb
def Mf (l cl wl : Addr) (sz : Int) (rs : List Raw) (sts : List Addr) (H : Hp) (i : Nat) (σ : St) (H' : Hp) : Prop := ∃ (rs' : List Raw) (us : List Wt) (uv : List V) (o4 o5 o6 o7 : Option V), σ = [some (.ref l), some (.ref cl), some (.int sz), some (.ref wl), o4, o5, o6, o7] /\ FillB l cl wl sz rs rs' sts us uv H H'
def gz (rs : List Raw) (H : Hp) (i : Nat) (acc : List V) (H' : Hp) : Prop := acc.length = i /\ RDs H' ((rs.take i).map fun r => r.w.d) acc /\ Same H H'
def sp_law_filled : Sp := fun vs H Q _ => ∃ (l cl : Addr) (sz : Int) (rs : List Raw) (sts : List Addr), vs = [.ref l, .ref cl, .int sz] /\ 1 <= sz /\ sz <= 1000 /\ H l = some (.lst ((rs.map (·.a)).map V.ref)) /\ H cl = some (.lst (sts.map V.ref)) /\ sts.length <= 100 /\ RawsOk H rs /\ (∀ r ∈ rs, r.w.coming = [] /\ r.c ≠ l /\ r.c ≠ cl) /\
 1 <= rs.length /\ rs.length <= 100 /\ (∀ s ∈ sts, StOk2 H s) /\ ∀ x (S : Sh) H', RD H' S.d x -> S.wares.map core = (rs.map (·.w)).map core -> (∀ w ∈ S.wares, cm sz w.coming) -> Ub sz ((rs.map (·.w)).map (·.name)) S.wants -> (∀ b o, b ∉ sts -> b ∉ rs.map (·.c) -> H b = some o -> H' b = some o) -> Q x H'
theorem sc_law_filled : Aj ["_law_wares_here", "_law_cells", "_law_sized", "_law_wants", "_law_state", "_law_ware", "_law_kind", "_law_thing"] ["_law_wares_here", "_law_cells", "_law_sized"] (A8 Dl) := by constructor <;> first | rfl | decide +kernel
theorem Ox (F : Fun K "_law_filled" "_law_filled" Dl f fd) (T : Txt mg) (C : Exc K mg c) (Zvq : Has P w K mg base "_law_next" 1 ["_law_state", "_law_many"] sp_law_next) (Ztw : Has P w K mg base "_law_amount" 2 ["_law_state"] sp_law_amount) : FnOk P w K mg base CX0 3 f fd ["_law_wares_here", "_law_cells", "_law_sized"] sp_law_filled := by
 refine F.ok sc_law_filled (fun vs H Q E h => ?_) (fun cdv A outer s H vs Q E hr h => ?_)
 ·obtain ⟨l, cl, sz, rs, sts, rfl, _⟩ := h
  rfl
 ·obtain ⟨l, cl, sz, rs, sts, rfl, z1, z2, hl, hcl, hsl, raws, hr0, hr1, hr2, hst, k⟩ := h
  have hu := Aq hr
  refine ⟨_, (A2 (Ac (i := 3) sc_law_filled.nd rfl (Zzq rfl) (Bm A1))
 (A2 (Bl PassesOwn.never rfl (Fz (pv 1)) (Ah (i := 4) sc_law_filled.nd rfl (Zzq rfl))
 (A2 (Ac (i := 5) sc_law_filled.nd rfl (Zzq rfl) (Ab hu (pv 0) (Aa Zvq hr.z rfl (A4 (pv 4) (A4 (Az Cc rfl T.Zul Er (A4 (pv 0) A1)) A1))) (fun _ _ => rfl)))
 (A2 (Ac (i := 6) sc_law_filled.nd rfl (Zzq rfl) (Aa Zvq hr.z rfl (A4 (pv 4) (A4 A7 A1))))
 (A2 (Ac (i := 7) sc_law_filled.nd rfl (Zzq rfl) (Br (A4 (Aa Zvq hr.z rfl (A4 (pv 4) (A4 (pv 2) A1))) (A4 (Aa Ztw hr.z rfl (A4 (pv 4) A1)) A1))))
 (A9 (Bp (PW.pt (Yu (Al (F0 hu) (pv 6) A7 (B2 _)) (Vm (Al (F0 hu) (Az Cc rfl T.Zul Er (A4 (pv 3) A1)) A7 (B2 _))))) (A9 (Ay (Gp Zyp Zyj Zyi D9 (pv 3) (A4 (Br (A4 (Ab hu (pv 5) A7 (fun _ _ => rfl)) (A4 (Ab hu (pv 7) A7 (fun _ _ => rfl)) (A4 (Ab hu (pv 7) A7 (fun _ _ => rfl)) A1)))) A1)))) (A9 (Bp (Al (F0 hu) (Az Cc rfl T.Zul Er (A4 (Ab hu (pv 5) A7 (fun _ _ => rfl)) A1)) A7 (B2 _)) (A9 (Ay (Gp Zyp Zyj Zyi D9 (Ab hu (pv 5) A7 (fun _ _ => rfl)) (A4 (pv 7) A1)))) Au))))))))
 (A9 (Af (Br (A4 (D8 Dg rfl T.Zu9 G6 (A4 (Fm (own := ["_law_ware"]) (cap := []) rfl (Gv rfl) (Cv (by decide)) (Fz (pv 0))
 (fun _ _ _ _ _ _ => ⟨(Ah (i := 0) (of_decide_eq_true rfl) rfl (Zzq rfl) (.inr rfl)), E7, (Am K4 (D8 Dg rfl T.Zu9 G6 (A4 (E8 G8 (pv 0) Fk (Fj A7)) A1)) (Br (A4 (D8 Dg rfl T.Zu9 G6 (A4 (Ab hu (pv 0) A7 (fun _ _ => rfl)) A1)) (A4 (D8 Dg rfl T.Zu9 G6 (A4 (Ab hu (pv 0) A7 (fun _ _ => rfl)) A1)) A1))))⟩)) A1)) (A4 (D8 Dg rfl T.Zu9 G6 (A4 (pv 3) A1)) A1))))))), ?_⟩
  refine gu (fun σ' H' => ∃ wl : Addr, Mf l cl wl sz rs sts H sts.length σ' H') ?_ (fun KK hK => ?_)
  ·rintro σ' H1 ⟨wl, rs', us, uv, o4, o5, o6, o7, rfl, B⟩
   have hlr : rs'.length = rs.length := by have := congrArg Zxb B.ma; rw [Zzz, Zzz] at this; exact this
   have hl1 : H1 l = some (.lst ((rs'.map (·.a)).map V.ref)) := by rw [B.ma]; exact B.hl
   walk_at "rd"
   refine ⟨_, hl1, ?_⟩
   refine Lc (J8 l _) (Ax (by rw [Zzz, Zzz]; omega)) (gz rs' H1) ⟨rfl, RDs.nil, Same.refl _⟩ (fun i acc H' _ h => h.2.2 _ _ hl1) (fun i acc H' h => Zx8 h.1) (fun i x acc H2 hi hx h => ?_) (fun acc H2 h p hp => ?_)
   ·obtain ⟨h1, h2, sm⟩ := h
    rw [Zzv, Zzv] at hx
    cases er : rs'[i]? with
    | none => rw [er] at hx; cases hx
    | some r =>
    rw [er] at hx
    cases hx
    obtain ⟨ra, ⟨cv, rc, rcv⟩, pv, rq, rpv⟩ := (B.raws.same sm).each r (Zzn er)
    walk_at "rd"
    refine ⟨_, ra, fun p1 hp1 => ?_⟩
    have e5 : Dq [V.str r.w.name, V.int r.w.lag, V.int r.w.gives, V.int r.w.floor, V.int r.w.stock, V.ref r.c, V.ref r.q] none (some 5) = [V.str r.w.name, V.int r.w.lag, V.int r.w.gives, V.int r.w.floor, V.int r.w.stock] := by rw [Hk (by decide)]; rfl
    rw [e5]
    have t1 := A6 (o := .lst [V.str r.w.name, V.int r.w.lag, V.int r.w.gives, V.int r.w.floor, V.int r.w.stock]) hp1
    refine ⟨_, .inl ⟨A0, fun q1 hq1 => ?_⟩⟩
    have t2 := t1.trans (A6 (o := .tup [V.str r.w.name, V.int r.w.lag, V.int r.w.gives, V.int r.w.floor, V.int r.w.stock]) hq1)
    refine ⟨.ref r.c, C8 (j := 5) (t2 _ _ ra) rfl, r.c, rfl, cv, .inl ⟨t2 _ _ rc, fun q2 hq2 => ?_⟩⟩
    have t3 := t2.trans (A6 (o := .tup cv) hq2)
    refine ⟨.ref r.q, C8 (j := 6) (t3 _ _ ra) rfl, r.q, rfl, pv, .inl ⟨t3 _ _ rq, fun q3 hq3 => ?_⟩⟩
    have t4 := t3.trans (A6 (o := .tup pv) hq3)
    refine ⟨by decide, fun q4 hq4 => ?_⟩
    have t5 := t4.trans (A6 (o := .tup [V.ref q2, V.ref q3]) hq4)
    have g1 := (A6 (o := .tup cv) hq2).trans ((A6 (o := .tup pv) hq3).trans (A6 (o := .tup [V.ref q2, V.ref q3]) hq4))
    have g2 := (A6 (o := .tup pv) hq3).trans (A6 (o := .tup [V.ref q2, V.ref q3]) hq4)
    refine ⟨_, g1 q1 _ A0, _, A0, (show 5 + 2 <= sizeLine by decide), fun p H3 hp3 sm3 _ => ?_⟩
    refine ⟨by simp [h1], ?_, sm.trans (t5.trans sm3)⟩
    rw [Zz3, er, Zzg]
    refine RDs.app (RDs.same (t5.trans sm3) _ _ h2) (RDs.one ?_)
    show RD H3 r.w.d (.ref p)
    unfold Wr.d
    refine RD.tup_mk hp3 ?_
    refine RDs.cons RD.str_mk (RDs.cons RD.int_mk (RDs.cons RD.int_mk (RDs.cons RD.int_mk (RDs.cons RD.int_mk (RDs.cons ?_ (RDs.one ?_))))))
    ·exact RD.tup_mk (sm3 _ _ (g2 q2 _ A0)) (RDs.same (t5.trans sm3) _ _ rcv)
    ·exact RD.tup_mk (sm3 _ _ (A6 hq4 q3 _ A0)) (RDs.same (t5.trans sm3) _ _ rpv)
   ·obtain ⟨h1, h2, sm⟩ := h
    rw [Zzz, Zzz, Zyu] at h2
    have u1 := A6 (o := .lst acc) hp
    refine ⟨p, rfl, acc, .inl ⟨A0, fun q1 hq1 => ?_⟩⟩
    have u2 := u1.trans (A6 (o := .tup acc) hq1)
    refine ⟨uv, .inl ⟨u2 _ _ (sm _ _ B.hwl), fun q2 hq2 => ⟨by decide, fun q3 hq3 => ?_⟩⟩⟩
    have v1 := (A6 (o := .tup uv) hq2).trans (A6 (o := .tup [V.ref q1, V.ref q2]) hq3)
    have u4 := u2.trans v1
    refine k _ ⟨rs'.map (·.w), us⟩ _ ?_ B.mw (fun w hw => ?_) B.uok (fun b o n1 n2 hb => u4 _ _ (sm _ _ (B.kp b o n1 n2 hb)))
    ·unfold Sh.d
     refine RD.tup_mk A0 (RDs.cons (RD.tup_mk (v1 q1 _ A0) ?_) (RDs.one (RD.tup_mk (A6 hq3 q2 _ A0) (RDs.same (sm.trans u4) _ _ B.huv))))
     rw [Zyk]
     exact RDs.same u4 _ _ h2
    ·obtain ⟨r, hr, rfl⟩ := Zzx.mp hw
     exact B.com r hr
  ·walk_at "rd"
   refine ⟨Zyq _, fun wl hwl => ⟨_, by rw [A5 (A3 hcl hwl)]; exact hcl, ?_⟩⟩
   have sm0 := A6 (o := .lst []) hwl
   refine D4 (J8 cl _) (Mf l cl wl sz rs sts H) ⟨rs, [], [], _, _, _, _, rfl, ⟨sm0 _ _ hl, sm0 _ _ hcl, A0, RDs.nil, ⟨Zyq _, fun _ h => nomatch h⟩, raws.same sm0, rfl, rfl, rfl, fun r hr => by rw [(hr0 r hr).1]; exact ⟨Zyq _, fun _ h => nomatch h⟩, fun r hr => ⟨(raws.each r hr).fresh hwl (.inl rfl), (raws.each r hr).fresh hwl (.inr (.inl rfl)), (raws.each r hr).fresh hwl (.inr (.inr rfl)), (hr0 r hr).2.1, (hr0 r hr).2.2⟩, fun s hs => (hst s hs).same sm0, fun b o _ _ hb => sm0 b o hb⟩⟩ (fun i σ H' _ h => ?_) (fun i x σ H2 hi hx h => ?_) (fun σ H2 h => ?_)
   ·obtain ⟨_, _, _, _, _, _, _, _, B⟩ := h; exact B.hcl
   ·obtain ⟨rs', us, uv, o4, o5, o6, o7, rfl, B⟩ := h
    rw [Zzv] at hx
    cases es : sts[i]? with
    | none => rw [es] at hx; cases hx
    | some st =>
    rw [es] at hx
    cases hx
    have hm := Zzn es
    have hlr : rs'.length = rs.length := by have := congrArg Zxb B.ma; rw [Zzz, Zzz] at this; exact this
    have nwl : wl ≠ l /\ wl ≠ cl := ⟨Zzh (A3 hl hwl), Zzh (A3 hcl hwl)⟩
    walk_at "rd"
    refine ⟨_, .inl B.hl, st, _, rfl, B.st st hm, ?_, ?_, fun d H3 d0 d1 s3 b3 => ?_⟩
    ·rw [Zzz, Zzz]; omega
    ·rw [Zzz, Zzz]
     exact Zxw (b := 100) (by omega) (by decide +kernel)
    rw [Zzz, Zzz] at d1
    have B3 := B.nx hm s3 b3
    have hd : d.toNat < rs'.length := by omega
    obtain ⟨r, hri⟩ : ∃ r, rs'[d.toNat]? = some r := ⟨_, Zzr hd⟩
    have hrm := Zzn hri
    refine ⟨.ref r.a, Jj (.inl B3.hl) d0 ?_, st, 3, rfl, s3, by decide, by decide +kernel, fun kd H4 k0 k1 s4 b4 => ?_⟩
    ·rw [<- B.ma, Zzv, Zzv, hri]
     rfl
    have B4 := B3.nx hm s4 b4
    refine ⟨st, sz, rfl, s4, by omega, Zxw z2 (by decide +kernel), fun dy H5 y0 y1 s5 b5 => ?_⟩
    have B5 := B4.nx hm s5 b5
    refine ⟨st, rfl, s5, fun am H6 a0 a1 s6 b6 => ⟨by decide, fun p hp => ?_⟩⟩
    have B6 := B5.nx hm s6 b6
    have B7 := B6.same (A6 (o := .tup [.int dy, .int am]) hp)
    have ht : upd H6 p (.tup [.int dy, .int am]) p = some (.tup [.int dy, .int am]) := A0
    generalize upd H6 p (.tup [.int dy, .int am]) = H7 at B7 ht
    obtain ⟨ra, ⟨cv, rc, rcv⟩, rq⟩ := B7.raws.each r hrm
    have lcv : cv.length = r.w.coming.length := Bo rcv
    have hcom := B7.com r hrm
    have things : ∃ v_1, Jn H7 (V.ref r.a) (V.int 5) v_1 /\ ∃ p_1, v_1 = V.ref p_1 /\ ∃ x_4, (H7 p_1 = some (HO.lst x_4) \/ H7 p_1 = some (HO.tup x_4)) /\ if decide ((x_4.length : Int) < 12) = true then
      ∃ v_2, Jn H7 (V.ref r.a) (V.int 5) v_2 /\ Mk H7 v_2 = some "list" /\ ∃ l_1, v_2 = V.ref l_1 /\ ∃ x_5, H7 l_1 = some (HO.lst x_5) /\ x_5.length < sizeLine /\
       Mf l cl wl sz rs sts H (i + 1) [some (V.ref l), some (V.ref cl), some (V.int sz), some (V.ref wl), some (V.ref st), some (V.ref r.a), some (V.int kd), some (V.ref p)] (upd H7 l_1 (HO.lst (x_5 ++ [V.ref p])))
      else Mf l cl wl sz rs sts H (i + 1) [some (V.ref l), some (V.ref cl), some (V.int sz), some (V.ref wl), some (V.ref st), some (V.ref r.a), some (V.int kd), some (V.ref p)] H7 := by
     refine ⟨.ref r.c, C8 (j := 5) ra rfl, r.c, rfl, cv, .inl rc, D3 (fun hz => ?_) (fun hz => ⟨rs', us, uv, _, _, _, _, rfl, B7⟩)⟩
     have hz := of_decide_eq_true hz
     exact ⟨.ref r.c, C8 (j := 5) ra rfl, Ea rc, r.c, rfl, cv, rc, Zyx (m := 12) (by omega) (by decide), _, us, uv, _, _, _, _, rfl, B7.thing (y := (dy, am)) hri rc rcv ht (by omega) ⟨⟨y0, y1⟩, a0, a1⟩⟩
    refine ⟨kd, rfl, D3 (fun _ => ?_) (fun _ => things)⟩
    refine ⟨uv, .inl B7.hwl, D3 (fun hz => ?_) (fun _ => things)⟩
    have hz := of_decide_eq_true hz
    have luv : uv.length = us.length := Bo B7.huv
    refine ⟨Ea B7.hwl, .str r.w.name, C8 (j := 0) ra rfl, .int dy, Ag (j := 0) ht rfl, .int am, Ag (j := 1) ht rfl, by decide, fun t ht' => ?_⟩
    have B8 := B7.same (A6 (o := .tup [.str r.w.name, .int dy, .int am]) ht')
    refine ⟨uv, B8.hwl, Zyx (m := 20) (by omega) (by decide), rs', us ++ [(r.w.name, dy, am)], _, _, _, _, _, rfl, B8.want (u := (r.w.name, dy, am)) hwl A0 (by omega) ⟨?_, ⟨y0, y1⟩, a0, a1⟩ nwl⟩
    have en : (rs'.map (·.w)).map (·.name) = (rs.map (·.w)).map (·.name) := by
     have := congrArg (Zxq (·.name)) B.mw
     rw [Zyk (g := fun x => Wr.name x), Zyk (g := fun x => Wr.name x)] at this
     exact this
    rw [<- en]
    exact Zzx.mpr ⟨r.w, Zzx.mpr ⟨r, hrm, rfl⟩, rfl⟩
   ·rw [Zzz] at h
    exact hK _ _ ⟨wl, h⟩
theorem Q4 {H Hx H' : Hp} {st : Addr} (s : Same H Hx) (b : But st Hx H') (h : H st = none) : Same H H' := fun x o hx => b x o (A3 hx h) (s x o hx)
structure Good (sz : Int) (S : Sh) : Prop where
 ws : WsOk S.wares
 len : 1 <= S.wares.length /\ S.wares.length <= 12
 com : ∀ w ∈ S.wares, cm sz w.coming
 wants : h8 sz (S.wares.map (·.name)) S.wants
theorem Good.ok {sz : Int} {S : Sh} (g : Good sz S) : Lh S := ⟨g.ws.nd, by have := g.len.2; omega, fun w hw => ⟨Zz5 (g.ws.wb w hw).parts (by decide), Zz5 (g.com w hw).1 (by decide)⟩⟩
theorem Good.no {sz : Int} {S : Sh} (g : Good sz S) : D1 S := Wm g.ws
theorem Good.txt {sz : Int} {S : Sh} (g : Good sz S) : ∀ x ∈ S.wares.map (·.name), PyData.strOk x = true := fun x hx => by
 obtain ⟨w, hw, rfl⟩ := Zzx.mp hx
 exact (g.ws.txt w hw).1
end
set_option maxHeartbeats 4000000
section
variable {P : Program} {w : World} {K : Zzu} {mg : Str -> Option Value} {base : Heap} {f : Addr} {fd : FuncData} {c : Cl} {Pt : Addr}
def ia (H H1 : Hp) (i : Nat) (acc : List V) (H' : Hp) : Prop := ∃ sts : List Addr, acc = sts.map V.ref /\ sts.length = i /\ (∀ s ∈ sts, StOk2 H' s /\ H s = none /\ H1 s = none) /\ Same H1 H'
theorem V6 {H H5 : Hp} {a l : Addr} {ns : List Int} {n : Nat} {sz : Int} {rs : List Raw} {σ : St} {Q : V -> VK} (hσ : Im [Str.ofString "_law_k"] [0] σ = [none, some (.ref a)]) (hS : SqL K H a (ns.map V.int)) (hlen : ns.length <= 63) (hn : n <= 63) (z0 : 1 <= sz) (z1 : sz <= 1000) (hl : H5 l = some (.lst ((rs.map (·.a)).map V.ref))) (hrs : 1 <= rs.length /\ rs.length <= 12) (raws : RawsOk H5 rs) (ws : WsOk (rs.map (·.w))) (each : ∀ r ∈ rs, r.w.coming = [] /\ r.c ≠ l /\ H r.c = none) (sm5 : Same H H5) (k : ∀ c x (S : Sh) H', RD H' S.d x -> Good sz S -> S.wants.length <= 20 -> Same H H' -> Q c x H') :
  Ue (Itr 2 n) [Str.ofString "_law_k"] [0] (Fe 0) tYes (Sq (Fi K) [] E0 (Pu (Yk 1) (Pu (Yk 0) (Pu (tC (V.int 9)) tNil)))) σ H5 fun x H1 => sp_law_filled [V.ref l, x, V.int sz] H1 (Q x) E0 := by
 refine Lc (Lu 2 _) (Ax (by omega)) (ia H H5) ⟨[], rfl, rfl, (fun _ h => nomatch h), Same.refl _⟩ (fun _ _ _ _ _ => trivial) (fun j acc H' h => by obtain ⟨sts, rfl, e, _⟩ := h; rw [Zzz]; exact Zx8 e) (fun j x acc H6 hj hx h => ?_) (fun acc H6 h q hq => ?_)
 ·obtain ⟨sts, rfl, h2, h3, h4⟩ := h
  subst hx
  rw [hσ]
  walk_at "rd"
  refine ⟨a, ns, _, 9, rfl, (sm5.trans h4).seq hS, hlen, by omega, fun s' H7 fs' s7 sm7 => ?_⟩
  refine ⟨sts ++ [s'], by rw [Zzg]; rfl, by simp [h2], fun z hz => ?_, h4.trans sm7⟩
  rcases Zz4.mp hz with w | w
  ·exact ⟨(h3 z w).1.same sm7, (h3 z w).2⟩
  ·rw [Zzd.mp w]; exact ⟨s7, Same.free (sm5.trans h4) fs', Same.free h4 fs'⟩
 ·obtain ⟨sts, rfl, h2, h3, h4⟩ := h
  have u5 := A6 (o := .lst (sts.map V.ref)) hq
  have sm6 := h4.trans u5
  refine ⟨l, q, sz, rs, sts, rfl, z0, z1, sm6 _ _ hl, A0, by omega, raws.same sm6, fun r hr => ?_, hrs.1, by omega, fun s hs => (h3 s hs).1.same u5, fun x S H7 rx ec com wok kp => ?_⟩
  ·obtain ⟨e1, e2, e3⟩ := each r hr
   obtain ⟨_, ⟨cv, hc, _⟩, _⟩ := raws.each r hr
   exact ⟨e1, e2, A3 (h4 _ _ hc) hq⟩
  ·have en : S.wares.map (·.name) = (rs.map (·.w)).map (·.name) := by
    have := congrArg (Zxq (fun x => Wr.name x)) ec
    rw [Zyk (g := fun x => Wr.name x), Zyk (g := fun x => Wr.name x)] at this
    exact this
   have el : S.wares.length = rs.length := by
    have := congrArg Zxb en
    rw [Zzz, Zzz, Zzz] at this
    exact this
   refine k _ x S H7 rx ⟨ws.core ec, by omega, com, ⟨Nat.le_succ_of_le wok.1, fun u hu => ?_⟩⟩ wok.1 (fun b o hb => ?_)
   ·obtain ⟨q0, q1⟩ := wok.2 u hu
    exact ⟨by rw [en]; exact q0, q1.1, q1.2.1, Int.lt_trans q1.2.2 (by decide +kernel)⟩
   ·refine kp b o (fun w => ?_) (fun w => ?_) ((sm5.trans sm6) b o hb)
    ·have := (h3 b w).2.1
     rw [hb] at this
     cases this
    ·obtain ⟨r, hr, e⟩ := Zzx.mp w
     have := (each r hr).2.2
     rw [show r.c = b from e, hb] at this
     cases this
def Ln (K : Zzu) : Sp := fun vs H Q _ => ∃ (a : Addr) (ns : List Int) (last : Int), vs = [.ref a, .int last] /\ SqL K H a (ns.map V.int) /\ ns.length <= 63 /\ 0 <= last /\ last <= 63 /\ ∀ v (S : Sh) H', RD H' S.d v -> Good 9 S -> S.wants.length <= 20 -> Same H H' -> Q v H'
theorem sc_law_shop : Aj ["_law_script", "_law_last", "_law_state", "_law_wares_here", "_law_cells"] ["_law_script", "_law_last"] (A8 Ek) := by constructor <;> first | rfl | decide +kernel
theorem Ti (F : Fun K "_law_shop" "_law_shop" Ek f fd) (T : Txt mg) (C : Exc K mg c) (Zv2 : Has P w K mg base "_law_drawn" 2 ["_law_script", "_law_k", "_law_salt"] (Fi K)) (Zts : Has P w K mg base "_law_wares" 2 ["_law_state", "_law_many"] sp_law_wares) (Zvq : Has P w K mg base "_law_next" 1 ["_law_state", "_law_many"] sp_law_next) (Ztv : Has P w K mg base "_law_filled" 3 ["_law_wares_here", "_law_cells", "_law_sized"] sp_law_filled) : FnOk P w K mg base CX0 4 f fd ["_law_script", "_law_last"] (Ln K) := by
 refine F.ok sc_law_shop (fun vs H Q E h => ?_) (fun cdv A outer s H vs Q E hr h => ?_)
 ·obtain ⟨a, ns, l, rfl, _⟩ := h
  rfl
 ·obtain ⟨a, ns, last, rfl, hS, hlen, last0, last1, k⟩ := h
  have hu := Aq hr
  refine ⟨_, (A2 (Ac (i := 2) sc_law_shop.nd rfl (Zzq rfl) (Aa Zv2 hr.z rfl (A4 (pv 0) (A4 A7 (A4 A7 A1)))))
 (A2 (Ac (i := 3) sc_law_shop.nd rfl (Zzq rfl) (Aa Zts hr.z rfl (A4 (pv 2) (A4 (Am Ca A7 (Aa Zvq hr.z rfl (A4 (pv 2) (A4 A7 A1)))) A1))))
 (A2 (Hb (own := ["_law_k"]) (cap := [0]) (i := 4) rfl (Gv rfl) (Cv (by decide)) sc_law_shop.nd rfl rfl (N1 rfl T.Zuf (A4 A7 (A4 (Az (Qw rfl) rfl T.Zsl ay (A4 (Az Hm rfl T.Zul Er (A4 (pv 0) A1)) (A4 (pv 1) A1))) A1)))
 (fun _ _ _ _ _ _ => ⟨(Ah (i := 0) (of_decide_eq_true rfl) rfl (Zzq rfl) (.inr rfl)), E7, (Aa Zv2 hr.z rfl (A4 (pv 1) (A4 (pv 0) (A4 A7 A1))))⟩))
 (A9 (Af (Aa Ztv hr.z rfl (A4 (pv 3) (A4 (pv 4) (A4 A7 A1))))))))), ?_⟩
  walk_at "rd"
  refine ⟨a, ns, 1, 5, rfl, hS, hlen, by decide, fun st H1 fst s1 sm1 => ?_⟩
  refine ⟨st, 5, rfl, s1, by decide, by decide +kernel, fun d H2 d0 d1 s2 b2 => ⟨d, rfl, ?_⟩⟩
  have sm2 := Q4 sm1 b2 fst
  have em : (1 : Int) + d = (((1 + d).toNat : Nat) : Int) := by omega
  rw [em]
  refine ⟨st, (1 + d).toNat, rfl, s2, by omega, Zz5 (m := 8) (by omega) (by decide), fun l rs H5 fl hl hrs raws ws each s5 b5 => ?_⟩
  have sm5 := Q4 sm2 b5 fst
  refine ⟨_, .inl (sm5.seq hS), by decide, by decide, by split <;> omega, by rw [Zzz]; split <;> omega, ?_⟩
  rw [Zzz]
  exact V6 rfl hS hlen (by split <;> omega) (by decide) (by decide) hl (by omega) raws ws (fun r hr => ⟨(each r hr).1, (each r hr).2.2.2.2, Same.free sm2 (each r hr).2.2.1⟩) sm5 fun _ x S H' rx g h20 sm => k x S H' rx g h20 sm
end
set_option maxHeartbeats 4000000
section
variable {P : Program} {w : World} {K : Zzu} {mg : Str -> Option Value} {base : Heap} {f : Addr} {fd : FuncData} {c : Cl} {Pt : Addr}
def PlanAt (H : Hp) (a : Addr) (S : Sh) (plan : Str -> List Int) : Prop := ∃ kvs, Rd H a (.dK kvs) /\ ∀ nm ∈ S.wares.map (·.name), ∃ l : Addr, C5 kvs (.inr nm) = some (.ref l) /\ H l = some (.lst ((plan nm).map V.int)) /\ (plan nm).length = daysN S /\ ∀ x ∈ plan nm, 0 <= x /\ x < 10 ^ 2000
def PlanFor (H : Hp) (a : Addr) (S : Sh) (plan : Str -> List Int) (P : Str -> Prop) : Prop := ∃ kvs, Rd H a (.dK kvs) /\ ∀ nm ∈ S.wares.map (·.name), P nm -> ∃ l : Addr, C5 kvs (.inr nm) = some (.ref l) /\ H l = some (.lst ((plan nm).map V.int)) /\ (plan nm).length = daysN S /\ ∀ x ∈ plan nm, 0 <= x /\ x < 10 ^ 2000
theorem PlanAt.for {H : Hp} {a : Addr} {S : Sh} {plan : Str -> List Int} (h : PlanAt H a S plan) (P : Str -> Prop) : PlanFor H a S plan P := let ⟨kvs, h1, h2⟩ := h; ⟨kvs, h1, fun nm hn _ => h2 nm hn⟩
def bh (S : Sh) (x nm : Str) : Prop := ∃ t ∈ S.wares, t.name = nm /\ ∃ p ∈ t.parts, p.1 = x
theorem _root_.L2.Rd.same {H H' : Hp} {a : Addr} {u : HO} (h : Rd H a u) (s : Same H H') : Rd H' a u := h.elim (fun e => .inl (s _ _ e)) (fun ⟨o, e⟩ => .inr ⟨o, s _ _ e⟩)
theorem PlanAt.same {H H' : Hp} {a : Addr} {S : Sh} {plan : Str -> List Int} (h : PlanAt H a S plan) (s : Same H H') : PlanAt H' a S plan := by
 obtain ⟨kvs, h1, h2⟩ := h
 exact ⟨kvs, h1.same s, fun nm hn => let ⟨l, e1, e2, e3⟩ := h2 nm hn; ⟨l, e1, s _ _ e2, e3⟩⟩
theorem PlanFor.same {H H' : Hp} {a : Addr} {S : Sh} {plan : Str -> List Int} {P : Str -> Prop} (h : PlanFor H a S plan P) (s : Same H H') : PlanFor H' a S plan P := by
 obtain ⟨kvs, h1, h2⟩ := h
 exact ⟨kvs, h1.same s, fun nm hn hP => let ⟨l, e1, e2, e3⟩ := h2 nm hn hP; ⟨l, e1, s _ _ e2, e3⟩⟩
theorem Good.days {sz : Int} {S : Sh} (g : Good sz S) (hz : 0 < sz) (hz2 : sz <= 1000) : 1 <= daysN S /\ daysN S <= 1000 /\ ((daysN S : Nat) : Int) = 1 + Cz (S.wants.map fun u => u.2.1) /\ ∀ u ∈ S.wants, u.2.1.toNat < daysN S := by
 have h0 : 0 <= Cz (S.wants.map fun u => u.2.1) := Hh fun x hx => by
  obtain ⟨u, hu, rfl⟩ := Zzx.mp hx
  exact (g.wants.2 u hu).2.1.1
 have h1 : Cz (S.wants.map fun u => u.2.1) < sz := Rq hz fun x hx => by
  obtain ⟨u, hu, rfl⟩ := Zzx.mp hx
  exact (g.wants.2 u hu).2.1.2
 unfold daysN
 refine ⟨by omega, by omega, by omega, fun u hu => ?_⟩
 have h2 : u.2.1 <= Cz (S.wants.map fun u => u.2.1) := Iv (Zzx.mpr ⟨u, hu, rfl⟩)
 have h3 := (g.wants.2 u hu).2.1.1
 omega
def sp_count_days : Sp := fun vs H Q _ => ∃ (v : V) (S : Sh), vs = [v] /\ RD H S.d v /\ S.wants.length <= 1000 /\ ∀ H', Same H H' -> Q (.int (1 + Cz (S.wants.map fun u => u.2.1))) H'
theorem Os : Aj ["shop"] ["shop"] (A8 Dn) := by constructor <;> first | rfl | decide +kernel
theorem Oz (F : Fun K "count_days" "count_days" Dn f fd) (T : Txt mg) (C : Exc K mg c) : FnOk P w K mg base CX0 1 f fd ["shop"] sp_count_days := by
 refine F.ok Os (fun vs H Q E h => ?_) (fun cdv A outer s H vs Q E hr h => ?_)
 ·obtain ⟨v, S, rfl, _⟩ := h
  rfl
 ·obtain ⟨v, S, rfl, rs, hw, k⟩ := h
  have hu := Aq hr
  refine ⟨_, (A9 (Af (Am Ca A7 (Vs rfl rfl T.Ztj (Fm (own := ["want"]) (cap := []) rfl (Gv rfl) (Cv (by decide)) (De (Ab hu (pv 0) A7 (fun _ _ => rfl)))
 (fun _ _ _ _ _ _ => ⟨(Ah (i := 0) (of_decide_eq_true rfl) rfl (Zzq rfl) (.inr rfl)), E7, (Ab hu (pv 0) (An rfl T.Zux) (fun _ _ => rfl))⟩)))))), ?_⟩
  obtain ⟨a, b, c, ws, us, rfl, ha, hb, hc, rws, rus⟩ := Cj rs
  have hl := Bo rus
  walk_at "rd"
  refine ⟨_, Ag (j := 1) ha rfl, c, rfl, us, hc, ?_⟩
  refine Gw (Ey c _) (Ax (by omega)) (fun H' s' => s' _ _ hc) ((S.wants.map fun u => u.2.1).map V.int) (by rw [Zzz, Zzz, hl]) (fun i x H' hi hx s' N M hN => ?_) (fun H' s' p hp => ?_)
  ·obtain ⟨y, hy, ry⟩ := C6 rus hx
   obtain ⟨e, rfl, he⟩ := Jo ry
   walk_at "rd"
   exact ⟨_, Ag (j := 1) (s' _ _ he) rfl, hN _ _ s' (by rw [Zzv, Zzv, hy]; rfl)⟩
  ·exact ⟨p, rfl, _, A0, k _ (s'.trans (A6 hp))⟩
def sp_begun_row : Sp := fun vs H Q _ => ∃ (a : Addr) (v : V) (S : Sh) (plan : Str -> List Int) (w : Wr) (P : Str -> Prop), vs = [.ref a, v] /\ PlanFor H a S plan P /\ P w.name /\ daysN S <= 1000 /\ RD H w.d v /\ w ∈ S.wares /\ 0 <= w.lag /\ w.lag <= 1000 /\ ∀ p H', H p = none -> H' p = some (.lst ((Dr (plan w.name) w.lag).map V.int)) -> Same H H' -> Q (.ref p) H'
theorem sc_begun_row : Aj ["plan", "ware", "lots"] ["plan", "ware"] (A8 E4) := by constructor <;> first | rfl | decide +kernel
theorem Rm (F : Fun K "begun_row" "begun_row" E4 f fd) (T : Txt mg) (C : Exc K mg c) : FnOk P w K mg base CX0 1 f fd ["plan", "ware"] sp_begun_row := by
 refine F.ok sc_begun_row (fun vs H Q E h => ?_) (fun cdv A outer s H vs Q E hr h => ?_)
 ·obtain ⟨a, v, S, plan, w, P, rfl, _⟩ := h
  rfl
 ·obtain ⟨a, v, S, plan, w, P', rfl, ⟨kvs, hk, hpl⟩, hP, hd, rw', hm, l0, l1, k⟩ := h
  have hu := Aq hr
  refine ⟨_, (A2 (Ac (i := 2) sc_begun_row.nd rfl (Zzq rfl) (Ab hu (pv 0) (Ab hu (pv 1) (An rfl T.Zvf) (fun _ _ => rfl)) (fun _ _ => rfl)))
 (A9 (Af (Am N6 (E8 G8 (pv 2) (Fj (Ab hu (pv 1) (An rfl T.Zu3) (fun _ _ => rfl))) Fk) (Am Uq (Bm (A4 A7 A1)) (Az (Qw rfl) rfl T.Zsl ay (A4 (Ab hu (pv 1) (An rfl T.Zu3) (fun _ _ => rfl)) (A4 (Az Cc rfl T.Zul Er (A4 (pv 2) A1)) A1)))))))), ?_⟩
  obtain ⟨e, c1, c2, rfl, he, _⟩ := Bz rw'
  obtain ⟨l, hv, hl, hlen, _⟩ := hpl w.name (Zzx.mpr ⟨w, hm, rfl⟩) hP
  walk_at "rd"
  refine ⟨_, Ag (j := 0) he rfl, .ref l, Ge hk hv, _, Ag (j := 1) he rfl, ?_⟩
  refine ⟨w.lag, rfl, l, rfl, _, hl, fun p1 hp1 => ⟨by decide, fun p2 hp2 => ?_⟩⟩
  have u1 := A6 (o := .lst (Dq ((plan w.name).map V.int) (some w.lag) none)) hp1
  have u2 := u1.trans (A6 (o := .lst [V.int 0]) hp2)
  refine ⟨_, Ag (j := 1) (u2 _ _ he) rfl, l, rfl, _, .inl (u2 _ _ hl), w.lag, rfl, [V.int 0], A0, ?_, ?_, ?_, fun p3 hp3 => ?_⟩
  ·split <;> omega
  ·rw [Zzz]; split <;> omega
  ·refine Ax ?_
   rw [Zzz, Zyy]
   split <;> omega
  ·have emin : (if (((plan w.name).map V.int).length : Int) < w.lag then (((plan w.name).map V.int).length : Int) else w.lag).toNat = min w.lag.toNat (plan w.name).length := by
    rw [Zzz]
    split <;> omega
   rw [emin, Mw, Fq l0]
   have u3 := u2.trans (A6 (o := .lst ((At (min w.lag.toNat (plan w.name).length) fun _ => 0).map V.int)) hp3)
   rw [Fq l0] at u3
   have n12 : p1 ≠ p2 := A3 A0 hp2
   refine ⟨((plan w.name).map V.int).drop w.lag.toNat, ?_, _, A0, ?_, fun p4 hp4 => ?_⟩
   ·rw [A5 (fun e => by rw [<- e, A5 n12, A0] at hp3; cases hp3), A5 n12, A0]
   ·refine Ax ?_
    rw [Zye, Zzz, Zzz, Ar]
    omega
   ·refine k p4 _ (Same.free u3 hp4) ?_ (u3.trans (A6 hp4))
    rw [A0, <- Zwc, <- Zzg, bb]
def sp_wants_row : Sp := fun vs H Q _ => ∃ (v x : V) (S : Sh) (w : Wr) (sz : Int), vs = [v, x] /\ RD H S.d v /\ RD H w.d x /\ Good sz S /\ 0 < sz /\ sz <= 1000 /\ ∀ p H', H p = none -> H' p = some (.lst ((At (daysN S) fun d => Bf (wAt w.name d) S.wants).map V.int)) -> Same H H' -> Q (.ref p) H'
def bg (v x : V) (p : Addr) (S : Sh) (nm : Str) (H : Hp) (i : Nat) (σ : St) (H' : Hp) : Prop := ∃ o : Option V, σ = [some v, some x, some (.ref p), o] /\ H' p = some (.lst ((At (daysN S) fun d => Bf (wAt nm d) (S.wants.take i)).map V.int)) /\ Same H H'
theorem sc_wants_row : Aj ["shop", "ware", "told", "want"] ["shop", "ware"] (A8 Dx) := by constructor <;> first | rfl | decide +kernel
theorem Rf (F : Fun K "wants_row" "wants_row" Dx f fd) (T : Txt mg) (C : Exc K mg c) (Zvm : Has P w K mg base "count_days" 1 ["shop"] sp_count_days) : FnOk P w K mg base CX0 2 f fd ["shop", "ware"] sp_wants_row := by
 refine F.ok sc_wants_row (fun vs H Q E h => ?_) (fun cdv A outer s H vs Q E hr h => ?_)
 ·obtain ⟨v, x, S, w, sz, rfl, _⟩ := h
  rfl
 ·obtain ⟨v, x, S, w, sz, rfl, rs, rx, g, z0, z1, k⟩ := h
  have hu := Aq hr
  obtain ⟨n1, n2, n3, n4⟩ := g.days z0 z1
  refine ⟨_, (A2 (Ac (i := 2) sc_wants_row.nd rfl (Zzq rfl) (Am Uq (Bm (A4 A7 A1)) (Aa Zvm hr.z rfl (A4 (pv 0) A1))))
 (A2 (Bl PassesOwn.never rfl (De (Ab hu (pv 0) A7 (fun _ _ => rfl))) (Ah (i := 3) sc_wants_row.nd rfl (Zzq rfl))
 (A9 (Bp (Al (Da hu) (Ab hu (pv 3) (An rfl T.Zuq) (fun _ _ => rfl)) (Ab hu (pv 1) (An rfl T.Zvf) (fun _ _ => rfl)) (B2 _)) (A9 (Vo (pv 2) (Ab hu (pv 3) (An rfl T.Zux) (fun _ _ => rfl)) W5 (Ab hu (pv 3) (An rfl T.Zv9) (fun _ _ => rfl)) Kk Gk)) Au)))
 (A9 (Af (pv 2))))), ?_⟩
  obtain ⟨a, b, c, ws, us, rfl, ha, hb, hc, rws, rus⟩ := Cj rs
  obtain ⟨xe, c1, c2, rfl, hxe, _⟩ := Bz rx
  have hl := Bo rus
  walk_at "rd"
  refine ⟨by decide, fun p0 hp0 => ?_⟩
  have u0 := A6 (o := .lst [V.int 0]) hp0
  refine ⟨.ref a, S, rfl, RD.same u0 _ _ rs, by have := g.wants.1; omega, fun H1 sm1 => ?_⟩
  have h01 := sm1 p0 _ A0
  have sm01 := u0.trans sm1
  rw [<- n3]
  refine ⟨_, rfl, _, h01, by omega, by omega, by rw [Zyy]; exact Ax (by omega), fun p hp => ?_⟩
  have u1 := sm01.trans (A6 (o := .lst ((At (daysN S) fun _ => 0).map V.int)) hp)
  have en : ((daysN S : Nat) : Int).toNat = daysN S := by omega
  rw [en, Mw]
  refine ⟨_, Ag (j := 1) (u1 _ _ ha) rfl, c, rfl, us, u1 _ _ hc, ?_⟩
  refine D4 (Ey c _) (bg (.ref a) (.ref xe) p S w.name H) ⟨_, rfl, ?_, u1⟩ (fun i σ H' _ h => let ⟨_, _, _, s⟩ := h; s _ _ hc) (fun i y σ H2 hi hy h => ?_) (fun σ H2 h => ?_)
  ·rw [A0]
   exact congrArg (fun z => some (HO.lst (Zxq V.int z))) (D2 fun d _ => by simp [Jq])
  ·obtain ⟨o, rfl, hp2, sm⟩ := h
   obtain ⟨u, hu', ru⟩ := C6 rus hy
   obtain ⟨e, rfl, he⟩ := Jo ru
   have he' := sm _ _ he
   have hx' := sm _ _ hxe
   have hum := Zzn hu'
   walk_at "rd"
   refine ⟨_, Ag (j := 0) he' rfl, _, Ag (j := 0) hx' rfl, rfl, D3 (fun hz => ?_) (fun hz => ?_)⟩
   ·have hz := of_decide_eq_true hz
    have hz : u.1 = w.name := V.str.inj hz
    have hd := n4 u hum
    have hd0 := (g.wants.2 u hum).2.1.1
    refine ⟨_, Ag (j := 1) he' rfl, _, u.2.1, rfl, hp2, hd0, _, by rw [Zzv, C3 hd]; rfl, _, Ag (j := 2) he' rfl, _, rfl, _, rfl, _, _, rfl, hp2, u.2.1.toNat, ?_, ?_⟩
    ·rw [Zzz, Ar]
     unfold ixN
     rw [if_pos hd0, if_pos (by omega)]
    ·refine ⟨_, rfl, ?_, fun b' o' hb' => by rw [A5 (A3 hb' (Same.free sm01 hp))]; exact sm b' o' hb'⟩
     rw [A0, <- List.map_set, Kx]
     refine congrArg (fun z => some (HO.lst (Zxq V.int z))) (D2 fun d _ => ?_)
     rw [Ed _ hu']
     unfold wAt
     by_cases e1 : d = u.2.1.toNat
     ·subst e1
      rw [if_pos rfl, if_pos ⟨hz, by omega⟩]
     ·rw [if_neg e1, if_neg (fun q => e1 (by omega)), Zxj]
   ·refine ⟨_, rfl, ?_, sm⟩
    rw [hp2]
    refine congrArg (fun z => some (HO.lst (Zxq V.int z))) (D2 fun d _ => ?_)
    rw [Ed _ hu']
    unfold wAt
    rw [if_neg (c := u.1 = w.name /\ _) (fun q => hz (decide_eq_true (by rw [q.1]))), Zxj]
  ·obtain ⟨o, rfl, hp2, sm⟩ := h
   walk_at "rd"
   rw [hl, Zyu] at hp2
   exact k p H2 (Same.free sm01 hp) hp2 sm
end
set_option maxHeartbeats 4000000
section
variable {P : Program} {w : World} {K : Zzu} {mg : Str -> Option Value} {base : Heap} {f : Addr} {fd : FuncData} {c : Cl} {Pt : Addr}
def sp_needs_row : Sp := fun vs H Q _ => ∃ (v : V) (a : Addr) (x : V) (S : Sh) (plan : Str -> List Int) (w : Wr) (sz : Int), vs = [v, .ref a, x] /\ RD H S.d v /\ PlanFor H a S plan (bh S w.name) /\ RD H w.d x /\ Good sz S /\ 0 < sz /\ sz <= 1000 /\ ∀ p H', H p = none -> H' p = some (.lst ((Ao S plan w.name).map V.int)) -> Same H H' -> Q (.ref p) H'
def bi (v : V) (a : Addr) (x : V) (S : Sh) (plan : Str -> List Int) (nm : Str) (H : Hp) (i : Nat) (σ : St) (H' : Hp) : Prop := ∃ (q : Addr) (o1 o2 o3 : Option V), σ = [some v, some (.ref a), some x, some (.ref q), o1, o2, o3] /\ H q = none /\
 H' q = some (.lst ((At (daysN S) fun d => Bf (wAt nm d) S.wants + Bf (pAt plan nm d) (S.wares.take i)).map V.int)) /\ Same H H'
def bj (v : V) (a : Addr) (x t : V) (S : Sh) (plan : Str -> List Int) (nm : Str) (w : Wr) (i : Nat) (H : Hp) (j : Nat) (σ : St) (H' : Hp) : Prop := ∃ (q : Addr) (o2 o3 : Option V), σ = [some v, some (.ref a), some x, some (.ref q), some t, o2, o3] /\ H q = none /\
 H' q = some (.lst ((At (daysN S) fun d => Bf (wAt nm d) S.wants + Bf (pAt plan nm d) (S.wares.take i) + Bf (fun p : Str × Int => if p.1 = nm then p.2 * bAt (plan w.name) w.lag d else 0) (w.parts.take j)).map V.int)) /\ Same H H'
def mi (n : Nat) (g : Nat -> Int) (H1 : Hp) (i : Nat) (acc : List V) (H' : Hp) : Prop := acc = ((At n g).take i).map V.int /\ i <= n /\ Same H1 H'
theorem Ha {n i : Nat} {g : Nat -> Int} (h : i <= n) : (At n g).take i = At i g := by
 unfold At
 rw [<- Zwv, List.take_range, Zvz h]
theorem sc_needs_row : Aj ["shop", "plan", "ware", "told", "taker", "part", "amount"] ["shop", "plan", "ware"] (A8 Dy) := by constructor <;> first | rfl | decide +kernel
theorem Rh (F : Fun K "needs_row" "needs_row" Dy f fd) (T : Txt mg) (C : Exc K mg c) (Ztr : Has P w K mg base "wants_row" 2 ["shop", "ware"] sp_wants_row) (Zv1 : Has P w K mg base "begun_row" 1 ["plan", "ware"] sp_begun_row) : FnOk P w K mg base CX0 3 f fd ["shop", "plan", "ware"] sp_needs_row := by
 refine F.ok sc_needs_row (fun vs H Q E h => ?_) (fun cdv A outer s H vs Q E hr h => ?_)
 ·obtain ⟨v, a, x, S, plan, w, sz, rfl, _⟩ := h
  rfl
 ·obtain ⟨v, a, x, S, plan, w, sz, rfl, rs, pl, rx, g, z0, z1, k⟩ := h
  have hu := Aq hr
  obtain ⟨n1, n2, n3, n4⟩ := g.days z0 z1
  refine ⟨_, (A2 (Ac (i := 3) sc_needs_row.nd rfl (Zzq rfl) (Aa Ztr hr.z rfl (A4 (pv 0) (A4 (pv 2) A1))))
 (A2 (Bl PassesOwn.never rfl (De (Ab hu (pv 0) A7 (fun _ _ => rfl))) (Ah (i := 4) sc_needs_row.nd rfl (Zzq rfl))
 (A9 (Bl PassesOwn.never rfl (De (Ab hu (pv 4) (An rfl T.Ztz) (fun _ _ => rfl))) (Id (n := 2) rfl (Bt (Ah (i := 5) sc_needs_row.nd rfl (Zzq rfl)) (Bt (Ah (i := 6) sc_needs_row.nd rfl (Or.inr rfl)) G9)))
 (A9 (Bp (Al (Da hu) (pv 5) (Ab hu (pv 2) (An rfl T.Zvf) (fun _ _ => rfl)) (B2 _)) (A9 (Hb (own := ["goes", "lots"]) (cap := [6]) (i := 3) rfl (Gv rfl) Ql sc_needs_row.nd rfl rfl (Vp rfl T.Zss (A4 (pv 3) (A4 (Aa Zv1 hr.z rfl (A4 (pv 1) (A4 (pv 4) A1))) A1)))
 (fun _ _ _ _ _ _ => ⟨(Id (n := 2) rfl (Bt (Ah (i := 0) (of_decide_eq_true rfl) rfl (Zzq rfl) (.inr rfl)) (Bt (Ah (i := 1) (of_decide_eq_true rfl) rfl (Zzq rfl) (.inr rfl)) G9))), E7, (Am Ca (pv 0) (Am Ga (pv 2) (pv 1)))⟩))) Au)))))
 (A9 (Af (pv 3))))), ?_⟩
  obtain ⟨sa, sb, sc, ws, us, rfl, ha, hb, hc, rws, rus⟩ := Cj rs
  obtain ⟨xe, c1, c2, rfl, hxe, _⟩ := Bz rx
  have hl := Bo rws
  walk_at "rd"
  refine ⟨.ref sa, .ref xe, S, w, sz, rfl, rs, rx, g, z0, z1, fun q0 H1 hq0 hq1 sm1 => ?_⟩
  refine ⟨_, Ag (j := 0) (sm1 _ _ ha) rfl, sb, rfl, ws, sm1 _ _ hb, ?_⟩
  refine D4 (Ey sb _) (bi (.ref sa) a (.ref xe) S plan w.name H) ⟨q0, _, _, _, rfl, hq0, ?_, sm1⟩ (fun i σ H' _ h => let ⟨_, _, _, _, _, _, _, s⟩ := h; s _ _ hb) (fun i y σ H2 hi hy h => ?_) (fun σ H2 h => ?_)
  ·rw [hq1]
   exact congrArg (fun z => some (HO.lst (Zxq V.int z))) (D2 fun d _ => by rw [List.take_zero, Jq, Zxj])
  ·obtain ⟨q, o1, o2, o3, rfl, hq, hq2, sm⟩ := h
   obtain ⟨t, ht, rt⟩ := C6 rws hy
   have htm := Zzn ht
   have wb := g.ws.wb t htm
   obtain ⟨te, d1, d2, rfl, hte, rc, rp⟩ := Bz rt
   obtain ⟨pb, pv, rfl, hpb, rpv⟩ := RD.tup_of rp
   have hlp := Bo rpv
   walk_at "rd"
   refine ⟨_, Ag (j := 6) (sm _ _ hte) rfl, pb, rfl, pv, sm _ _ hpb, ?_⟩
   refine D4 (Ey pb _) (bj (.ref sa) a (.ref xe) (.ref te) S plan w.name t i H) ⟨q, _, _, rfl, hq, ?_, sm⟩ (fun j σ H' _ h => let ⟨_, _, _, _, _, _, s⟩ := h; s _ _ hpb) (fun j y σ H3 hj hy h => ?_) (fun σ H3 h => ?_)
   ·rw [hq2]
    exact congrArg (fun z => some (HO.lst (Zxq V.int z))) (D2 fun d _ => by rw [List.take_zero, Jq, Zxj])
   ·obtain ⟨q, o2, o3, rfl, hq, hq2, sm⟩ := h
    obtain ⟨pp, hpp, rpp⟩ := C6 rpv hy
    have hppm := Zzn hpp
    obtain ⟨pe, rfl, hpe⟩ := M8 rpp
    refine gt2 (sm _ _ hpe) ?_
    walk_at "rd"
    refine ⟨_, Ag (j := 0) (sm _ _ hxe) rfl, rfl, D3 (fun hz => ?_) (fun hz => ?_)⟩
    ·have hz : pp.1 = w.name := V.str.inj (of_decide_eq_true hz)
     have hT : bh S w.name t.name := ⟨t, htm, rfl, pp, hppm, hz⟩
     refine ⟨a, .ref te, S, plan, t, _, rfl, pl.same sm, hT, n2, RD.same sm _ _ rt, htm, wb.lag.1, by have := wb.lag.2; omega, fun b H4 hb4 hb5 sm4 => ?_⟩
     have hq4 := sm4 _ _ hq2
     have sm04 := sm.trans sm4
     refine ⟨b, rfl, _, hq4, _, hb5, ?_⟩
     obtain ⟨kvs, hkv, hpl⟩ := pl
     obtain ⟨l, hv, hll, hlen, hbd⟩ := hpl t.name (Zzx.mpr ⟨t, htm, rfl⟩) hT
     have lb : (Dr (plan t.name) t.lag).length = daysN S := by unfold Dr; rw [Ar, hlen]
     have en : min (((At (daysN S) fun d => Bf (wAt w.name d) S.wants + Bf (pAt plan w.name d) (S.wares.take i) + Bf (fun p : Str × Int => if p.1 = w.name then p.2 * bAt (plan t.name) t.lag d else 0) (t.parts.take j)).map V.int).length) (((Dr (plan t.name) t.lag).map V.int).length) = daysN S := by
      rw [Zzz, Zzz, Ar, lb, Nat.min_self]
     have G := Zy q b ((At (daysN S) fun d => Bf (wAt w.name d) S.wants + Bf (pAt plan w.name d) (S.wares.take i) + Bf (fun p : Str × Int => if p.1 = w.name then p.2 * bAt (plan t.name) t.lag d else 0) (t.parts.take j)).map V.int) ((Dr (plan t.name) t.lag).map V.int)
     rw [en] at G
     refine mf G (Ax n2) (mi (daysN S) (fun d => Bf (wAt w.name d) S.wants + Bf (pAt plan w.name d) (S.wares.take i) + Bf (fun p : Str × Int => if p.1 = w.name then p.2 * bAt (plan t.name) t.lag d else 0) (t.parts.take j) + pp.2 * bAt (plan t.name) t.lag d) H4) ⟨rfl, Zyq _, Same.refl _⟩ (fun r acc H' _ h => ⟨h.2.2 _ _ hq4, h.2.2 _ _ hb5⟩) (fun r acc H' h => ?_) (fun r ys z acc H5 hr hys h hz5 => ?_) (fun acc H5 h p hp => ?_)
     ·rw [h.1, Zzz, Ha h.2.1, Ar]
      exact Zzt _
     ·obtain ⟨rfl, h2, h3⟩ := h
      obtain ⟨y1, y2, e1, e2, rfl⟩ := hys
      rw [Zzv, C3 hr] at e1
      cases e1
      have hbg : (Dr (plan t.name) t.lag)[r]? = some (bAt (plan t.name) t.lag r) := by unfold Dr; rw [C3 (by rw [hlen]; exact hr)]
      rw [Zzv, hbg] at e2
      cases e2
      refine gT2 ?_
      walk_at "rd"
      have hamt := wb.amts pp hppm
      refine ⟨.inl (.inl ⟨by omega, by omega⟩), ?_, hr, h3.trans (A6 hz5)⟩
      rw [Ha (by omega), Ha (by omega), Jf, Zzg]
      rfl
     ·obtain ⟨rfl, h2, h3⟩ := h
      rw [Ha (Zzt _)]
      refine ⟨p, _, _, rfl, Same.free (sm04.trans h3) hp, ?_, (sm04.trans h3).trans (A6 hp)⟩
      rw [A0]
      refine congrArg (fun z => some (HO.lst (Zxq V.int z))) (D2 fun d _ => ?_)
      rw [Ed _ hpp, if_pos hz]
      omega
    ·refine ⟨q, _, _, rfl, hq, ?_, sm⟩
     rw [hq2]
     refine congrArg (fun z => some (HO.lst (Zxq V.int z))) (D2 fun d _ => ?_)
     rw [Ed _ hpp, if_neg (c := pp.1 = w.name) (fun e => hz (decide_eq_true (by rw [e]))), Zxj]
   ·obtain ⟨q, o2, o3, rfl, hq, hq2, sm⟩ := h
    rw [hlp, Zyu] at hq2
    refine ⟨q, _, _, _, rfl, hq, ?_, sm⟩
    rw [hq2]
    refine congrArg (fun z => some (HO.lst (Zxq V.int z))) (D2 fun d _ => ?_)
    rw [Ed _ ht]
    unfold pAt
    omega
  ·obtain ⟨q, o1, o2, o3, rfl, hq, hq2, sm⟩ := h
   walk_at "rd"
   rw [hl, Zyu] at hq2
   exact k q H2 hq hq2 sm
end
set_option maxHeartbeats 4000000
section
variable {P : Program} {w : World} {K : Zzu} {mg : Str -> Option Value} {base : Heap} {f : Addr} {fd : FuncData} {c : Cl} {Pt : Addr}
def Sl (ns : List Int) (j : Nat) : Int := (ns.take j).sum
def cum (ns : List Int) (n : Nat) : List Int := (Zyr n).map fun j => Sl ns (j + 1)
theorem Ku {ns : List Int} {i : Nat} {c : Int} (h : ns[i]? = some c) : Sl ns (i + 1) = Sl ns i + c := by
 unfold Sl
 rw [Zz3, h, List.sum_append]
 simp
theorem aj (ns : List Int) (n : Nat) : cum ns (n + 1) = cum ns n ++ [Sl ns (n + 1)] := by
 unfold cum
 rw [List.range_succ, Zzg]
 rfl
theorem gw (ns : List Int) (n : Nat) : (cum ns n).length = n := by simp [cum]
def mv (r p : Addr) (ns : List Int) (H : Hp) (i : Nat) (σ : St) (H' : Hp) : Prop := ∃ c : Option V, σ = [some (.ref r), some (.ref p), some (.int (Sl ns i)), c] /\ H' p = some (.lst ((cum ns i).map V.int)) /\ Same H H'
def sp_so_far : Sp := fun vs H Q _ => ∃ (r : Addr) (ns : List Int), vs = [.ref r] /\ H r = some (.lst (ns.map V.int)) /\ ns.length <= 1000 /\ ∀ p H', H p = none -> H' p = some (.lst ((cum ns ns.length).map V.int)) -> Same H H' -> Q (.ref p) H'
theorem sc_so_far : Aj ["row", "told", "total", "number"] ["row"] (A8 Gm) := by constructor <;> first | rfl | decide +kernel
theorem X6 (F : Fun K "so_far" "so_far" Gm f fd) (T : Txt mg) (C : Exc K mg c) : FnOk P w K mg base CX0 1 f fd ["row"] sp_so_far := by
 refine F.ok sc_so_far (fun vs H Q E h => ?_) (fun cdv A outer s H vs Q E hr h => ?_)
 ·obtain ⟨r, ns, rfl, _⟩ := h
  rfl
 ·obtain ⟨r, ns, rfl, hr0, hl, k⟩ := h
  have hu := Aq hr
  refine ⟨_, (A2 (Ac (i := 1) sc_so_far.nd rfl (Zzq rfl) (Bm A1))
 (A2 (Ac (i := 2) sc_so_far.nd rfl (Zzq rfl) A7)
 (A2 (Bl PassesOwn.never rfl (Fz (pv 0)) (Ah (i := 3) sc_so_far.nd rfl (Zzq rfl))
 (A2 (R9 (i := 2) sc_so_far.nd rfl (Zzq rfl) (pv 3) Kk)
 (A9 (Ay (Gp Zyp Zyj Zyi D9 (pv 1) (A4 (pv 2) A1))))))
 (A9 (Af (pv 1)))))), ?_⟩
  walk_at "rd"
  refine ⟨Zyq _, fun p hp => ⟨_, by rw [A5 (A3 hr0 hp)]; exact hr0, ?_⟩⟩
  refine D4 (J8 r _) (mv r p ns H) ⟨_, rfl, A0, A6 hp⟩ (fun i σ H' _ h => let ⟨_, _, _, s⟩ := h; s _ _ hr0) (fun i x σ H' hi hx h => ?_) (fun σ H' h => ?_)
  ·obtain ⟨c, rfl, h1, sm⟩ := h
   have hi' : i < ns.length := by simpa using hi
   rw [Zzv] at hx
   cases ec : ns[i]? with
   | none => rw [ec] at hx; cases hx
   | some c =>
   rw [ec] at hx
   cases hx
   walk_at "rd"
   refine ⟨Ea h1, _, h1, Zyx (m := 1000) (by rw [Zzz, gw]; omega) (by decide), ?_⟩
   refine ⟨_, by rw [Ku ec], ?_, fun b o hb => ?_⟩
   ·rw [A0, aj, Zzg, Ku ec]; rfl
   ·rw [A5 (A3 hb hp)]; exact sm b o hb
  ·obtain ⟨c, rfl, h1, sm⟩ := h
   walk_at "rd"
   rw [Zzz] at h1
   exact k p H' hp h1 sm
theorem Sk {n : Nat} {f : Nat -> Int} : ∀ {d : Nat}, d <= n -> Sl (At n f) d = upS f d
 | 0, _ => by simp [Sl, upS]
 | d + 1, h => by rw [Ku (C3 (by omega)), Sk (by omega), upS]
theorem gv {n : Nat} {f : Nat -> Int} : cum (At n f) (At n f).length = At n fun d => upS f (d + 1) := by
 rw [Ar]
 unfold cum
 show _ = (Zyr n).map _
 apply Zy9
 intro d hd
 exact Sk (by have := Zwm.mp hd; omega)
def sp_arrivals_row : Sp := fun vs H Q _ => ∃ (v x : V) (S : Sh) (w : Wr) (sz : Int), vs = [v, x] /\ RD H S.d v /\ RD H w.d x /\ Good sz S /\ 0 < sz /\ sz <= 1000 /\ w.coming.length <= 1000 /\ (∀ p ∈ w.coming, 0 <= p.1) /\ ∀ p H', H p = none -> H' p = some (.lst ((At (daysN S) (Bh w)).map V.int)) -> Same H H' -> Q (.ref p) H'
def mz (v x : V) (p : Addr) (S : Sh) (w : Wr) (H : Hp) (i : Nat) (σ : St) (H' : Hp) : Prop := ∃ o1 o2 : Option V, σ = [some v, some x, some (.ref p), o1, o2] /\ H' p = some (.lst ((At (daysN S) fun d => (if d = 0 then w.stock else 0) + Bf (cAt d) (w.coming.take i)).map V.int)) /\ Same H H'
theorem sc_arrivals_row : Aj ["shop", "ware", "told", "day", "amount"] ["shop", "ware"] (A8 Cu) := by constructor <;> first | rfl | decide +kernel
theorem M1 (F : Fun K "arrivals_row" "arrivals_row" Cu f fd) (T : Txt mg) (C : Exc K mg c) (Zvm : Has P w K mg base "count_days" 1 ["shop"] sp_count_days) : FnOk P w K mg base CX0 2 f fd ["shop", "ware"] sp_arrivals_row := by
 refine F.ok sc_arrivals_row (fun vs H Q E h => ?_) (fun cdv A outer s H vs Q E hr h => ?_)
 ·obtain ⟨v, x, S, w, sz, rfl, _⟩ := h
  rfl
 ·obtain ⟨v, x, S, w, sz, rfl, rs, rx, g, z0, z1, hcl, hcd, k⟩ := h
  have hu := Aq hr
  obtain ⟨n1, n2, n3, n4⟩ := g.days z0 z1
  refine ⟨_, (A2 (Ac (i := 2) sc_arrivals_row.nd rfl (Zzq rfl) (Am Uq (Bm (A4 A7 A1)) (Aa Zvm hr.z rfl (A4 (pv 0) A1))))
 (A2 (Gc (Ab hu (pv 1) (An rfl T.Ztl) (fun _ _ => rfl)) (Gd (pv 2) A7 Gk))
 (A2 (Bl PassesOwn.never rfl (De (Ab hu (pv 1) (An rfl T.Zty) (fun _ _ => rfl))) (Id (n := 2) rfl (Bt (Ah (i := 3) sc_arrivals_row.nd rfl (Zzq rfl)) (Bt (Ah (i := 4) sc_arrivals_row.nd rfl (Zzq rfl)) G9)))
 (A9 (Bp (Al (F0 hu) (pv 3) (Az Cc rfl T.Zul Er (A4 (pv 2) A1)) (B2 _)) (A9 (Vo (pv 2) (pv 3) W5 (pv 4) Kk Gk)) Au)))
 (A9 (Af (pv 2)))))), ?_⟩
  obtain ⟨xe, c1, c2, rfl, hxe, rc, _⟩ := Bz rx
  obtain ⟨cb, cv, rfl, hcb, rcv⟩ := RD.tup_of rc
  have hl := Bo rcv
  walk_at "rd"
  refine ⟨by decide, fun p0 hp0 => ?_⟩
  have u0 := A6 (o := .lst [V.int 0]) hp0
  refine ⟨v, S, rfl, RD.same u0 _ _ rs, by have := g.wants.1; omega, fun H1 sm1 => ?_⟩
  have h01 := sm1 p0 _ A0
  have sm01 := u0.trans sm1
  rw [<- n3]
  refine ⟨_, rfl, _, h01, by omega, by omega, by rw [Zyy]; exact Ax (by omega), fun p hp => ?_⟩
  have u1 := sm01.trans (A6 (o := .lst ((At (daysN S) fun _ => 0).map V.int)) hp)
  have en : ((daysN S : Nat) : Int).toNat = daysN S := by omega
  rw [en, Mw]
  have fp : H p = none := Same.free sm01 hp
  refine ⟨_, Ag (j := 4) (u1 _ _ hxe) rfl, _, A0, 0, ?_, ?_⟩
  ·rw [Zzz, Ar]
   unfold ixN
   rw [if_pos (by decide), if_pos (by omega)]
   rfl
  have kx : ∀ {b : Addr} {o o' o2 : HO}, H b = some o -> upd (upd H1 p o') p o2 b = some o := fun {b o o' o2} hb => by rw [A5 (A3 hb fp), A5 (A3 hb fp)]; exact sm01 b o hb
  refine ⟨_, Ag (j := 5) (kx hxe) rfl, cb, rfl, cv, kx hcb, ?_⟩
  refine D4 (Ey cb _) (mz v (.ref xe) p S w H) ⟨_, _, rfl, ?_, fun b o hb => kx hb⟩ (fun i σ H' _ h => let ⟨_, _, _, _, s⟩ := h; s _ _ hcb) (fun i y σ H2 hi hy h => ?_) (fun σ H2 h => ?_)
  ·rw [A0, <- List.map_set, Kx]
   exact congrArg (fun z => some (HO.lst (Zxq V.int z))) (D2 fun d _ => by rw [List.take_zero, Jq, Zxj])
  ·obtain ⟨o1, o2, rfl, hp2, sm⟩ := h
   obtain ⟨u, hu', ru⟩ := C6 rcv hy
   obtain ⟨e, rfl, he⟩ := bc ru
   refine gt2 (sm _ _ he) ?_
   have hd0 := hcd u (Zzn hu')
   walk_at "rd"
   refine ⟨_, .inl hp2, D3 (fun hz => ?_) (fun hz => ?_)⟩
   ·have hz := of_decide_eq_true hz
    rw [Zzz, Ar] at hz
    have hd : u.1.toNat < daysN S := by omega
    refine ⟨_, hp2, hd0, _, by rw [Zzv, C3 hd]; rfl, _, rfl, _, hp2, u.1.toNat, ?_, ?_⟩
    ·rw [Zzz, Ar]
     unfold ixN
     rw [if_pos hd0, if_pos (by omega)]
    ·refine ⟨_, _, rfl, ?_, fun b' o' hb' => by rw [A5 (A3 hb' fp)]; exact sm b' o' hb'⟩
     rw [A0, <- List.map_set, Kx]
     refine congrArg (fun z => some (HO.lst (Zxq V.int z))) (D2 fun d _ => ?_)
     rw [Ed _ hu']
     unfold cAt
     by_cases e1 : d = u.1.toNat
     ·subst e1
      rw [if_pos rfl, if_pos (c := u.1 = _) (by omega)]
      omega
     ·rw [if_neg e1, if_neg (c := u.1 = _) (fun q => e1 (by omega)), Zxj]
   ·have hz : ¬ u.1 < (daysN S : Int) := fun q => hz (decide_eq_true (by rw [Zzz, Ar]; exact q))
    refine ⟨_, _, rfl, ?_, sm⟩
    rw [hp2]
    refine congrArg (fun z => some (HO.lst (Zxq V.int z))) (D2 fun d hd => ?_)
    rw [Ed _ hu']
    unfold cAt
    rw [if_neg (c := u.1 = _) (fun q => hz (by omega)), Zxj]
  ·obtain ⟨o1, o2, rfl, hp2, sm⟩ := h
   walk_at "rd"
   rw [hl, Zyu] at hp2
   exact k p H2 fp hp2 sm
def sp_stocks_row : Sp := fun vs H Q _ => ∃ (v : V) (a : Addr) (x : V) (S : Sh) (plan : Str -> List Int) (w : Wr) (sz : Int), vs = [v, .ref a, x] /\ RD H S.d v /\ PlanAt H a S plan /\ RD H w.d x /\ w ∈ S.wares /\ Good sz S /\ 0 < sz /\ sz <= 1000 /\ ∀ p H', H p = none -> H' p = some (.lst ((E6 S plan w).map V.int)) -> Same H H' -> Q (.ref p) H'
def my (v : V) (a : Addr) (x : V) (p : Addr) (S : Sh) (plan : Str -> List Int) (w : Wr) (H1 : Hp) (i : Nat) (σ : St) (H' : Hp) : Prop := ∃ o1 o2 o3 : Option V, σ = [some v, some (.ref a), some x, some (.ref p), o1, o2, o3] /\ i <= daysN S /\ H' p = some (.lst ((At i (Ph S plan w)).map V.int)) /\ ∀ b o, b ≠ p -> H1 b = some o -> H' b = some o
theorem sc_stocks_row : Aj ["shop", "plan", "ware", "changes", "comes", "lots", "goes"] ["shop", "plan", "ware"] (A8 Dh) := by constructor <;> first | rfl | decide +kernel
theorem Ot (F : Fun K "stocks_row" "stocks_row" Dh f fd) (T : Txt mg) (C : Exc K mg c) (Zvl : Has P w K mg base "needs_row" 3 ["shop", "plan", "ware"] sp_needs_row) (Zvi : Has P w K mg base "arrivals_row" 2 ["shop", "ware"] sp_arrivals_row) (Zt0 : Has P w K mg base "so_far" 1 ["row"] sp_so_far) : FnOk P w K mg base CX0 4 f fd ["shop", "plan", "ware"] sp_stocks_row := by
 refine F.ok sc_stocks_row (fun vs H Q E h => ?_) (fun cdv A outer s H vs Q E hr h => ?_)
 ·obtain ⟨v, a, x, S, plan, w, sz, rfl, _⟩ := h
  rfl
 ·obtain ⟨v, a, x, S, plan, w, sz, rfl, rs, pl, rx, hm, g, z0, z1, k⟩ := h
  have hu := Aq hr
  obtain ⟨n1, n2, n3, n4⟩ := g.days z0 z1
  have wb := g.ws.wb w hm
  refine ⟨_, (A2 (Ac (i := 3) sc_stocks_row.nd rfl (Zzq rfl) (Bm A1))
 (A2 (Bl PassesOwn.never rfl (dq rfl T.Zss (A4 (Aa Zvi hr.z rfl (A4 (pv 0) (A4 (pv 2) A1))) (A4 (Ab hu (pv 1) (Ab hu (pv 2) (An rfl T.Zvf) (fun _ _ => rfl)) (fun _ _ => rfl)) (A4 (Aa Zvl hr.z rfl (A4 (pv 0) (A4 (pv 1) (A4 (pv 2) A1)))) A1)))) (Id (n := 3) rfl (Bt (Ah (i := 4) sc_stocks_row.nd rfl (Zzq rfl)) (Bt (Ah (i := 5) sc_stocks_row.nd rfl (Zzq rfl)) (Bt (Ah (i := 6) sc_stocks_row.nd rfl (Zzq rfl)) G9))))
 (A9 (Ay (Gp Zyp Zyj Zyi D9 (pv 3) (A4 (Am Jg (Am Ca (pv 4) (Am Ga (Ab hu (pv 2) (An rfl T.Zu0) (fun _ _ => rfl)) (pv 5))) (pv 6)) A1)))))
 (A9 (Af (Aa Zt0 hr.z rfl (A4 (pv 3) A1)))))), ?_⟩
  obtain ⟨xe, c1, c2, rfl, hxe, _⟩ := Bz rx
  obtain ⟨kvs, hkv, hpl⟩ := id pl
  obtain ⟨l, hv, hll, hlen, hbd⟩ := hpl w.name (Zzx.mpr ⟨w, hm, rfl⟩)
  walk_at "rd"
  refine ⟨Zyq _, fun p hp => ?_⟩
  have u0 := A6 (o := .lst []) hp
  have hcom := g.com w hm
  refine ⟨v, .ref xe, S, w, sz, rfl, RD.same u0 _ _ rs, RD.same u0 _ _ rx, g, z0, z1, by have := hcom.1; omega, fun q hq => (hcom.2 q hq).1.1, fun q1 H1 hq1 hq2 sm1 => ?_⟩
  have s01 := u0.trans sm1
  refine ⟨_, Ag (j := 0) (s01 _ _ hxe) rfl, _, Ge (hkv.same s01) hv, ?_⟩
  refine ⟨v, a, .ref xe, S, plan, w, sz, rfl, RD.same s01 _ _ rs, (pl.same s01).for _, RD.same s01 _ _ rx, g, z0, z1, fun q2 H2 hq3 hq4 sm2 => ?_⟩
  have s02 := s01.trans sm2
  have hp2 : H2 p = some (.lst []) := sm2 _ _ (sm1 _ _ A0)
  refine ⟨q1, rfl, l, rfl, q2, rfl, _, sm2 _ _ hq2, _, s02 _ _ hll, _, hq4, ?_⟩
  have lz : min ((At (daysN S) (Bh w)).map V.int).length (min ((plan w.name).map V.int).length ((Ao S plan w.name).map V.int).length) = daysN S := by
   rw [Zzz, Zzz, Zzz, Ar, hlen]
   unfold Ao
   rw [Ar, Nat.min_self, Nat.min_self]
  have G := ly q1 l q2 ((At (daysN S) (Bh w)).map V.int) ((plan w.name).map V.int) ((Ao S plan w.name).map V.int)
  rw [lz] at G
  have q1p : q1 ≠ p := fun e => by rw [e, A0] at hq1; cases hq1
  have lp : l ≠ p := A3 hll hp
  have q2p : q2 ≠ p := fun e => by rw [e, sm1 _ _ A0] at hq3; cases hq3
  have xp : xe ≠ p := A3 hxe hp
  refine W6 G (my v a (.ref xe) p S plan w H2) ⟨_, _, _, rfl, Zyq _, hp2, fun b o _ h => h⟩ (fun i σ H' _ h => let ⟨_, _, _, _, _, _, s⟩ := h; ⟨s _ _ q1p (sm2 _ _ hq2), s _ _ lp (s02 _ _ hll), s _ _ q2p hq4⟩) (fun i ys pt σ H3 hi hys h hpt => ?_) (fun σ H3 h => ?_)
  ·obtain ⟨o1, o2, o3, rfl, hi', hp3, kp⟩ := h
   obtain ⟨y1, y2, y3, e1, e2, e3, rfl⟩ := hys
   have ep : (plan w.name)[i]? = some ((plan w.name).getD i 0) := by
    rw [Zza, Zzr (by omega)]
    rfl
   rw [Zzv, C3 hi] at e1
   cases e1
   rw [Zzv, ep] at e2
   cases e2
   unfold Ao at e3
   rw [Zzv, C3 hi] at e3
   cases e3
   have hb := hbd _ (Zzn ep)
   have hg := wb.gives
   refine gT3 ?_
   walk_at "rd"
   have pp : p ≠ pt := A3 hp3 hpt
   have kx : upd H3 pt (.tup [V.int (Bh w i), V.int ((plan w.name).getD i 0), V.int (Ba S plan w.name i)]) xe = some (.tup [V.str w.name, V.int w.lag, V.int w.gives, V.int w.floor, V.int w.stock, c1, c2]) := by
    rw [A5 (A3 (kp _ _ xp (s02 _ _ hxe)) hpt)]
    exact kp _ _ xp (s02 _ _ hxe)
   have hp4 : upd H3 pt (.tup [V.int (Bh w i), V.int ((plan w.name).getD i 0), V.int (Ba S plan w.name i)]) p = some (.lst ((At i (Ph S plan w)).map V.int)) := by
    rw [A5 pp]
    exact hp3
   refine ⟨Ea hp4, _, Ag (j := 2) kx rfl, _, rfl, .inl (.inl ⟨by omega, by omega⟩), _, hp4, ?_, _, _, _, rfl, hi, ?_, fun b o nb hb => ?_⟩
   ·rw [Zzz, Ar]
    exact Zyx (m := 1000) (by omega) (by decide)
   ·rw [A0, Jf, Zzg]
    rfl
   ·rw [A5 nb, A5 (A3 (kp _ _ nb hb) hpt)]
    exact kp _ _ nb hb
  ·obtain ⟨o1, o2, o3, rfl, hi', hp3, kp⟩ := h
   walk_at "rd"
   refine ⟨p, At (daysN S) (Ph S plan w), rfl, hp3, by rw [Ar]; exact n2, fun r H4 hr hr4 sm4 => ?_⟩
   have sm04 : Same H H4 := fun b o hb => sm4 _ _ (kp _ _ (A3 hb hp) (s02 _ _ hb))
   refine k r H4 ?_ ?_ sm04
   ·cases e : H r with
    | none => rfl
    | some o =>
     rw [kp _ _ (A3 e hp) (s02 _ _ e)] at hr
     cases hr
   ·rw [hr4, gv]
    rfl
end
set_option maxHeartbeats 4000000
section
variable {P : Program} {w : World} {K : Zzu} {mg : Str -> Option Value} {base : Heap} {f : Addr} {fd : FuncData} {c : Cl} {Pt : Addr}
def sp_lots_for : Sp := fun vs H Q _ => ∃ m g, vs = [.int m, .int g] /\ 0 < g /\ g < 10 ^ 200 /\ Q (.int (Bv m g)) H
theorem Sy : Aj ["amount", "gives"] ["amount", "gives"] (A8 Ei) := by constructor <;> first | rfl | decide +kernel
theorem Tf (F : Fun K "lots_for" "lots_for" Ei f fd) (T : Txt mg) (C : Exc K mg c) : FnOk P w K mg base CX0 1 f fd ["amount", "gives"] sp_lots_for := by
 refine F.ok Sy (fun vs H Q E h => ?_) (fun cdv A outer s H vs Q E hr h => ?_)
 ·obtain ⟨m, g, rfl, _⟩ := h
  rfl
 ·obtain ⟨m, g, rfl, h0, h1, k⟩ := h
  have hu := Aq hr
  refine ⟨_, (A9 (Af (Az (Ld rfl) rfl T.Ztj Le (A4 A7 (A4 (Vr R4 (Am G1 (Vr R4 (pv 0)) (pv 1))) A1))))), ?_⟩
  walk_at "rd"
  exact ⟨h0, h1, k⟩
theorem Gs {sz : Int} {S : Sh} (g : Good sz S) : Wh S where
 nd := g.ws.nd
 own := g.ws.own
 low := g.ws.low
 ok := g.ok
 few := by have := g.len.2; omega
theorem Ma {sz : Int} {S : Sh} (g : Good sz S) : Oh S where
 wb := fun w hw => by
  have b := g.ws.wb w hw
  exact ⟨⟨b.gives.1, Zxk b.gives.2 (by decide +kernel)⟩, ⟨b.floor.1, Zxk b.floor.2 (by decide +kernel)⟩, b.stock.1, b.parts, fun p hp => ⟨(b.amts p hp).1, Zxk (b.amts p hp).2 (by decide +kernel)⟩⟩
 com := fun w hw p hp => ((g.com w hw).2 p hp).2.1
 few := g.len.2
 wt := ⟨g.wants.1, fun u hu => ⟨(g.wants.2 u hu).2.2.1, Zxk (Int.le_of_lt (g.wants.2 u hu).2.2.2) (by decide +kernel)⟩⟩
theorem Hj {xs : List Int} {i : Nat} {y : V} (h : (xs.map V.int)[i]? = some y) : y = .int (xs.getD i 0) := by
 rw [Zzv] at h
 rw [Zza]
 cases e : xs[i]? with
 | none => rw [e] at h; cases h
 | some x => rw [e] at h; cases h; rfl
theorem Wn {S : Sh} (nd : (S.wares.map (·.name)).Nodup) {a b : Wr} (h1 : a ∈ S.wares) (h2 : b ∈ S.wares) (e : a.name = b.name) : a = b := by
 have := Hq nd h1
 rw [e, Hq nd h2] at this
 exact (Zzc this).symm
def bu (a b p : Addr) (g f : Int) (xs ys : List Int) (H : Hp) (i : Nat) (σ : St) (H' : Hp) : Prop := ∃ c d e : Option V, σ = [some (.ref a), some (.ref b), some (.int g), some (.int f), some (.ref p), some (.int (above f g xs ys i)), c, d, e] /\
 H' p = some (.lst ((lots f g xs ys i).map V.int)) /\ Same H H'
def sp_least_lots : Sp := fun vs H Q _ => ∃ (a b : Addr) (g f : Int) (xs ys : List Int), vs = [.ref a, .ref b, .int g, .int f] /\ H a = some (.lst (xs.map V.int)) /\ H b = some (.lst (ys.map V.int)) /\ ys.length = xs.length /\ xs.length <= 1000 /\
 0 < g /\ g < 10 ^ 200 /\ (∀ i, i < xs.length -> CMulB g (G4 f g xs ys i)) /\ ∀ p H', H p = none -> H' p = some (.lst ((lots f g xs ys xs.length).map V.int)) -> Same H H' -> Q (.ref p) H'
theorem sc_least_lots : Aj ["have", "need", "gives", "floor", "told", "above_floor", "comes", "goes", "lots"] ["have", "need", "gives", "floor"] (A8 Dj) := by constructor <;> first | rfl | decide +kernel
theorem Ov (F : Fun K "least_lots" "least_lots" Dj f fd) (T : Txt mg) (C : Exc K mg c) (Zti : Has P w K mg base "lots_for" 1 ["amount", "gives"] sp_lots_for) : FnOk P w K mg base CX0 2 f fd ["have", "need", "gives", "floor"] sp_least_lots := by
 refine F.ok sc_least_lots (fun vs H Q E h => ?_) (fun cdv A outer s H vs Q E hr h => ?_)
 ·obtain ⟨a, b, g, f, xs, ys, rfl, _⟩ := h
  rfl
 ·obtain ⟨a, b, g, fl, xs, ys, rfl, ha, hb, hl, hn, g0, g200, hm, k⟩ := h
  have hu := Aq hr
  refine ⟨_, (A2 (Ac (i := 4) sc_least_lots.nd rfl (Zzq rfl) (Bm A1))
 (A2 (Ac (i := 5) sc_least_lots.nd rfl (Zzq rfl) (Vr R4 (pv 3)))
 (A2 (Bl PassesOwn.never rfl (Vp rfl T.Zss (A4 (pv 0) (A4 (pv 1) A1))) (Id (n := 2) rfl (Bt (Ah (i := 6) sc_least_lots.nd rfl (Zzq rfl)) (Bt (Ah (i := 7) sc_least_lots.nd rfl (Zzq rfl)) G9)))
 (A2 (R9 (i := 5) sc_least_lots.nd rfl (Zzq rfl) (Am Jg (pv 6) (pv 7)) Kk)
 (A2 (Ac (i := 8) sc_least_lots.nd rfl (Zzq rfl) (Aa Zti hr.z rfl (A4 (Vr R4 (pv 5)) (A4 (pv 2) A1))))
 (A2 (R9 (i := 5) sc_least_lots.nd rfl (Zzq rfl) (Am Ga (pv 2) (pv 8)) Kk)
 (A9 (Ay (Gp Zyp Zyj Zyi D9 (pv 4) (A4 (pv 8) A1))))))))
 (A9 (Af (pv 4)))))), ?_⟩
  walk_at "rd"
  refine ⟨Zyq _, fun p hp => ⟨_, by rw [A5 (A3 ha hp)]; exact ha, _, by rw [A5 (A3 hb hp)]; exact hb, ?_⟩⟩
  have en : min (xs.map V.int).length (ys.map V.int).length = xs.length := by rw [Zzz, Zzz]; omega
  refine W6 (Zy a b _ _) (bu a b p g fl xs ys H) ⟨_, _, _, rfl, A0, A6 hp⟩ (fun i σ H' _ h => let ⟨_, _, _, _, _, s⟩ := h; ⟨s _ _ ha, s _ _ hb⟩) (fun i us t σ H' hi hy h ht => ?_) (fun σ H' h => ?_)
  ·obtain ⟨c, d, e, rfl, h1, sm⟩ := h
   obtain ⟨y, z, ey, ez, rfl⟩ := hy
   have hy := Hj ey
   have hz := Hj ez
   subst hy hz
   refine gT2 ?_
   walk_at "rd"
   refine ⟨_, _, rfl, g0, g200, ?_⟩
   have eL : Bv (-(above fl g xs ys i + (xs.getD i 0 - ys.getD i 0))) g = G4 fl g xs ys i := rfl
   rw [eL]
   have hp' : upd H' t (.tup [.int (xs.getD i 0), .int (ys.getD i 0)]) p = some (.lst ((lots fl g xs ys i).map V.int)) := by rw [A5 (A3 h1 ht)]; exact h1
   walk_at "rd"
   refine ⟨hm i (by omega), Ea hp', _, hp', Zyx (m := 1000) (by rw [Zzz, Tt]; omega) (by decide), ?_⟩
   refine ⟨_, _, _, rfl, ?_, fun b' o hb' => ?_⟩
   ·rw [A0, Xf, Zzg]; rfl
   ·rw [A5 (A3 hb' hp)]
    exact (sm.trans (A6 ht)) b' o hb'
  ·obtain ⟨c, d, e, rfl, h1, sm⟩ := h
   walk_at "rd"
   rw [en] at h1
   exact k p H' hp h1 sm
def gk : Option Nat -> V
 | some d => .int d
 | none => .non
def sp_first_early : Sp := fun vs H Q _ => ∃ (a : Addr) (row : List Int) (lag : Int), vs = [.ref a, .int lag] /\ H a = some (.lst (row.map V.int)) /\ row.length <= 1000 /\ ∀ H', Same H H' -> Q (gk (Do row lag)) H'
def ck (a : Addr) (lag : Int) (row : List Int) (H : Hp) (i : Nat) (σ : St) (H' : Hp) : Prop := ∃ c d : Option V, σ = [some (.ref a), some (.int lag), c, d] /\ Cm row lag i = none /\ Same H H'
theorem sc_first_early : Aj ["lots", "lag", "day", "count"] ["lots", "lag"] (A8 D7) := by constructor <;> first | rfl | decide +kernel
theorem Nd (F : Fun K "first_early" "first_early" D7 f fd) (T : Txt mg) (C : Exc K mg c) : FnOk P w K mg base CX0 1 f fd ["lots", "lag"] sp_first_early := by
 refine F.ok sc_first_early (fun vs H Q E h => ?_) (fun cdv A outer s H vs Q E hr h => ?_)
 ·obtain ⟨a, row, lag, rfl, _⟩ := h
  rfl
 ·obtain ⟨a, row, lag, rfl, ha, hl, k⟩ := h
  have hu := Aq hr
  refine ⟨_, (A2 (Bl PassesOwn.never rfl (Vq rfl T.Zt2 (A4 (pv 0) A1)) (Id (n := 2) rfl (Bt (Ah (i := 2) sc_first_early.nd rfl (Zzq rfl)) (Bt (Ah (i := 3) sc_first_early.nd rfl (Zzq rfl)) G9)))
 (A9 (Bp (PW.pt (Yu (Al (F0 hu) (pv 2) (pv 1) (B2 _)) (Vm (Al Vu (pv 3) A7 (B2 _))))) (A9 (Af (pv 2))) Au)))
 (A9 (Af Hc))), ?_⟩
  walk_at "rd"
  refine ⟨_, ha, ?_⟩
  refine W6 (j8 a _) (ck a lag row H) ⟨_, _, rfl, rfl, Same.refl _⟩ (fun i σ H' _ h => let ⟨_, _, _, _, s⟩ := h; s _ _ ha) (fun i us t σ H' hi hy h ht => ?_) (fun σ H' h => ?_)
  ·obtain ⟨c, d, rfl, hn, sm⟩ := h
   obtain ⟨y, ey, rfl⟩ := hy
   have hy := Hj ey
   subst hy
   rw [Zzz] at hi
   have s2 := sm.trans (A6 (o := .tup [.int i, .int (row.getD i 0)]) ht)
   have es : Cm row lag (i + 1) = if (i : Int) < lag /\ 0 < row.getD i 0 then some i else none := by rw [Cm, hn]
   refine gT2 ?_
   walk_at "rd"
   refine D3 (fun h1 => D3 (fun h2 => ?_) (fun h2 => ?_)) (fun h1 => ?_)
   ·have h1 := of_decide_eq_true h1
    have h2 := of_decide_eq_true h2
    rw [if_pos ⟨h1, h2⟩] at es
    have e : Do row lag = some i := V0 es (by omega)
    have := k _ s2
    rw [e] at this
    exact this
   ·exact ⟨_, _, rfl, by rw [es, if_neg (fun c => h2 (decide_eq_true c.2))], s2⟩
   ·exact ⟨_, _, rfl, by rw [es, if_neg (fun c => h1 (decide_eq_true c.1))], s2⟩
  ·obtain ⟨c, d, rfl, hn, sm⟩ := h
   rw [Zzz] at hn
   walk_at "rd"
   have := k _ sm
   unfold Do at this
   rw [hn] at this
   exact this
def rj (kvs : List (Key × V)) (l : List Str) : Prop := ∀ nm ∈ l, ∀ nm' ∈ l, ∀ q : Addr, C5 kvs (.inr nm) = some (.ref q) -> C5 kvs (.inr nm') = some (.ref q) -> nm = nm'
def bo (H H' : Hp) (a : Addr) (S : Sh) (l : List Str) : Prop := ∃ kvs, H' a = some (.dK kvs) /\ kvs.map (·.1) = l.map Zy2 /\ (∀ nm ∈ l, ∃ q : Addr, H q = none /\ q ≠ a /\ C5 kvs (.inr nm) = some (.ref q) /\ H' q = some (.lst ((LR S nm).map V.int))) /\ rj kvs l
def Jc (Pt : Addr) : Sp := fun vs H Q _ => ∃ (v : V) (S : Sh) (sz : Int), vs = [v] /\ RD H S.d v /\ Good sz S /\ 0 < sz /\ sz <= 1000 /\ Tb H Pt /\ ∀ (t p : Addr) (ys : List Str) (i : Nat) (H' : Hp), H t = none -> H p = none -> t ≠ p -> Og (lv S) (C7 S) ys -> bo H H' p S (ys.take i) -> (∀ w ∈ S.wares, w.name ∈ ys.take i -> Do (LR S w.name) w.lag = none) -> Tb H' Pt -> But Pt H H' ->
 ((i = ys.length /\ H' t = some (.tup [.str "plan", .ref p])) \/ ∃ (w : Wr) (d : Nat), w ∈ S.wares /\ ys[i]? = some w.name /\ Do (LR S w.name) w.lag = some d /\ H' t = some (.tup [.str "short", .ref p, .str w.name, .int d, .int ((LR S w.name).getD d 0)])) -> Q (.ref t) H'
def i6 (v : V) (p : Addr) (S : Sh) (ys : List Str) (H H1 : Hp) (i : Nat) (σ : St) (H' : Hp) : Prop := ∃ o2 o3 o4 o5 : Option V, σ = [some v, some (.ref p), o2, o3, o4, o5] /\ bo H H' p S (ys.take i) /\ (∀ w ∈ S.wares, w.name ∈ ys.take i -> Do (LR S w.name) w.lag = none) /\ ∀ b o, b ≠ p -> H1 b = some o -> H' b = some o
theorem sc_planned : Aj ["shop", "plan", "name", "ware", "lots", "day"] ["shop"] (A8 Eg) := by constructor <;> first | rfl | decide +kernel
theorem N8 (F : Fun K "planned" "planned" Eg f fd) (T : Txt mg) (C : Exc K mg c) (Zvb : Has P w K mg base "worked" 6 ["shop"] (Ip Pt)) (Zvp : Has P w K mg base "ware_of" 1 ["shop", "name"] sp_ware_of) (Zub : Has P w K mg base "least_lots" 2 ["have", "need", "gives", "floor"] sp_least_lots) (Zvl : Has P w K mg base "needs_row" 3 ["shop", "plan", "ware"] sp_needs_row) (Zvi : Has P w K mg base "arrivals_row" 2 ["shop", "ware"] sp_arrivals_row) (Zvg : Has P w K mg base "first_early" 1 ["lots", "lag"] sp_first_early) : FnOk P w K mg base CX0 7 f fd ["shop"] (Jc Pt) := by
 refine F.ok sc_planned (fun vs H Q E h => ?_) (fun cdv A outer s H vs Q E hr h => ?_)
 ·obtain ⟨v, S, sz, rfl, _⟩ := h
  rfl
 ·obtain ⟨v, S, sz, rfl, rs, g, z0, z1, tb, k⟩ := h
  have hu := Aq hr
  obtain ⟨n1, n2, n3, n4⟩ := g.days z0 z1
  refine ⟨_, (A2 (Ac (i := 1) sc_planned.nd rfl (Zzq rfl) G0)
 (A2 (Bl PassesOwn.never rfl (Fz (Aa Zvb hr.z rfl (A4 (pv 0) A1))) (Ah (i := 2) sc_planned.nd rfl (Zzq rfl))
 (A2 (Ac (i := 3) sc_planned.nd rfl (Zzq rfl) (Aa Zvp hr.z rfl (A4 (pv 0) (A4 (pv 2) A1))))
 (A2 (Ac (i := 4) sc_planned.nd rfl (Zzq rfl) (Aa Zub hr.z rfl (A4 (Aa Zvi hr.z rfl (A4 (pv 0) (A4 (pv 3) A1))) (A4 (Aa Zvl hr.z rfl (A4 (pv 0) (A4 (pv 1) (A4 (pv 3) A1)))) (A4 (Ab hu (pv 3) (An rfl T.Zu0) (fun _ _ => rfl)) (A4 (Ab hu (pv 3) (An rfl T.Zu1) (fun _ _ => rfl)) A1))))))
 (A2 (Ac (i := 5) sc_planned.nd rfl (Zzq rfl) (Aa Zvg hr.z rfl (A4 (pv 4) (A4 (Ab hu (pv 3) (An rfl T.Zu3) (fun _ _ => rfl)) A1))))
 (A2 (Bp (Al Is (pv 5) Hc (B2 _)) (A9 (Af (Br (A4 Ce (A4 (pv 1) (A4 (pv 2) (A4 (pv 5) (A4 (Ab hu (pv 4) (pv 5) (fun _ _ => rfl)) A1)))))))) Au)
 (A9 (Gc (pv 4) (Gd (pv 1) (pv 2) (Fu hu)))))))))
 (A9 (Af (Br (A4 Ce (A4 (pv 1) A1))))))), ?_⟩
  have L := Gs g
  have PL := Ma g
  have hfew := L.few
  walk_at "rd"
  intro p hp
  have u0 := A6 (o := .dK []) hp
  refine ⟨v, S, rfl, RD.same u0 _ _ rs, L, tb.same u0, fun q ys H1 hq hq1 so sb tb1 bt1 => ⟨q, rfl, _, hq1, ?_⟩⟩
  have tb0 := tb.same u0
  have pPt : p ≠ Pt := fun z => by obtain ⟨u, e⟩ := tb.at; rw [<- z, hp] at e; cases e
  have hp1 : H1 p = some (.dK []) := bt1 _ _ pPt A0
  have qp : q ≠ p := Vx hq1 hp1 (fun z => by cases z)
  have hyl : ys.length = S.wares.length := by rw [so.1.length_eq, Dv]
  have ndy : ys.Nodup := so.1.nodup_iff.mpr L.nd
  have so' : Lz (lv S) (S.wares.map (·.name)) ys := so
  have rs1 := RD.ku (Hs tb0 bt1) _ _ (Co S) (RD.same u0 _ _ rs)
  have fresh : ∀ (H' : Hp) (b : Addr), (∀ b o, b ≠ p -> H1 b = some o -> H' b = some o) -> H' b = none -> b ≠ p -> H b = none := fun H' b kp hb nb => by
   cases e : H b with
   | none => rfl
   | some o =>
    by_cases z : b = Pt
    ·obtain ⟨u, e2⟩ := tb1.at
     rw [z, kp _ _ (Zzh pPt) e2] at hb
     cases hb
    ·rw [kp _ _ nb (bt1 _ _ z (u0 _ _ e))] at hb
     cases hb
  have keepB : ∀ (H' : Hp), (∀ b o, b ≠ p -> H1 b = some o -> H' b = some o) -> But Pt H H' := fun H' kp b o nb e => kp _ _ (A3 e hp) (bt1 _ _ nb (u0 _ _ e))
  have keepT : ∀ (H' : Hp), (∀ b o, b ≠ p -> H1 b = some o -> H' b = some o) -> Tb H' Pt := fun H' kp => by
   rcases tb1 with e | ⟨c, e, e2⟩
   ·exact .inl (kp _ _ (Zzh pPt) e)
   ·exact .inr ⟨c, kp _ _ (Zzh pPt) e, kp _ _ (fun z => by rw [z, hp1] at e2; cases e2) e2⟩
  refine D4 (J8 q _) (i6 v p S ys H H1) ⟨_, _, _, _, rfl, ⟨[], hp1, rfl, (fun nm hn => by cases hn), fun nm hn => by cases hn⟩, (fun w _ hn => by cases hn), fun b o _ e => e⟩ (fun i σ H' _ h => let ⟨_, _, _, _, _, _, _, kp⟩ := h; kp _ _ qp hq1) (fun i x σ H2 hi hx h => ?_) (fun σ H2 h => ?_)
  ·obtain ⟨o2, o3, o4, o5, rfl, ⟨kvs, hp2, hks, hrow, hap⟩, hne, kp⟩ := h
   rw [Zzv] at hx
   cases en : ys[i]? with
   | none => rw [en] at hx; cases hx
   | some nm =>
   rw [en] at hx
   have hx : V.str nm = x := Zzc hx
   subst hx
   have hny := Zzn en
   have hnm : nm ∈ S.wares.map (·.name) := so.1.mem_iff.mp hny
   have hil : i < ys.length := (Zzl.mp en).1
   have ku2 : KeepU H1 H2 := fun b xs e => kp b _ (Vx e hp1 (fun z => by cases z)) e
   have rs2 := RD.ku ku2 _ _ (Co S) rs1
   walk_at "rd"
   refine ⟨v, S, nm, rfl, rs2, L.ok, hnm, fun t wt hwt ewt rt => ?_⟩
   subst ewt
   have hcom := g.com wt hwt
   have wb := g.ws.wb wt hwt
   obtain ⟨te, d1, d2, rfl, hte, rc, rp⟩ := Bz rt
   refine ⟨v, .ref te, S, wt, sz, rfl, rs2, rt, g, z0, z1, by have := hcom.1; omega, fun q hq => (hcom.2 q hq).1.1, fun q1 H3 hq1' hq3 sm3 => ?_⟩
   have pf : PlanFor H3 p S (LR S) (bh S wt.name) := ⟨kvs, .inl (sm3 _ _ hp2), fun nm' hn' hT => by
    obtain ⟨u, hu', rfl, pp, hpp, e⟩ := hT
    obtain ⟨qr, _, _, hv, hl⟩ := hrow u.name (Yj L.toLev so' en hu' hpp e)
    exact ⟨qr, hv, sm3 _ _ hl, Io L.toLev hu', fun x hx => ⟨(Ol PL _ x hx).1, Int.lt_trans (Ol PL _ x hx).2 (by decide +kernel)⟩⟩⟩
   refine ⟨v, p, .ref te, S, LR S, wt, sz, rfl, RD.same sm3 _ _ rs2, pf, RD.same sm3 _ _ rt, g, z0, z1, fun q2 H4 hq4 hq5 sm4 => ?_⟩
   have s24 := sm3.trans sm4
   have hte4 := s24 _ _ hte
   refine ⟨_, Ag (j := 2) hte4 rfl, _, Ag (j := 3) hte4 rfl, ?_⟩
   have lrq : lots wt.floor wt.gives (At (daysN S) (Bh wt)) (Ao S (LR S) wt.name) (At (daysN S) (Bh wt)).length = LR S wt.name := by rw [Ar, <- Kr L.toLev hwt]
   refine ⟨q1, q2, wt.gives, wt.floor, At (daysN S) (Bh wt), Ao S (LR S) wt.name, rfl, sm4 _ _ hq3, hq5, by unfold Ao; rw [Ar, Ar], by rw [Ar]; exact n2, by have := wb.gives.1; omega, Zxw wb.gives.2 (by decide +kernel), fun j hj => .inl (.inl ⟨by have := wb.gives.1; omega, by have := wb.gives.2; omega⟩), fun r H5 hr5 hr6 sm5 => ?_⟩
   rw [lrq] at hr6
   have s25 := s24.trans sm5
   refine ⟨_, Ag (j := 1) (s25 _ _ hte) rfl, r, LR S wt.name, wt.lag, rfl, hr6, by rw [Io L.toLev hwt]; exact n2, fun H6 sm6 => ?_⟩
   have s26 := s25.trans sm6
   have hr7 := sm6 _ _ hr6
   have hp6 := s26 _ _ hp2
   have kp6 : ∀ b o, b ≠ p -> H1 b = some o -> H6 b = some o := fun b o nb e => s26 _ _ (kp b o nb e)
   have rp : r ≠ p := fun z => by rw [z, s24 _ _ hp2] at hr5; cases hr5
   have hr0 : H r = none := by
    have h2r : H2 r = none := Same.free s24 hr5
    exact fresh H2 r kp h2r rp
   have hrow6 : ∀ nm' ∈ ys.take i, ∃ q' : Addr, H q' = none /\ q' ≠ p /\ C5 kvs (.inr nm') = some (.ref q') /\ H6 q' = some (.lst ((LR S nm').map V.int)) := fun nm' hn' => let ⟨q', e1, e2, e3, e4⟩ := hrow nm' hn'; ⟨q', e1, e2, e3, s26 _ _ e4⟩
   cases ea : Do (LR S wt.name) wt.lag with
   | some d =>
    have hd := Lv ea
    have hdl : d < (LR S wt.name).length := hd.1
    have eg : (LR S wt.name)[d]? = some ((LR S wt.name).getD d 0) := by rw [Zza, Zzr hdl]; rfl
    show if (!decide (V.int (d : Int) = V.non)) = true then _ else _
    rw [if_pos (by rw [decide_eq_false (fun z => by cases z)]; rfl)]
    refine ⟨.int ((LR S wt.name).getD d 0), C8 hr7 (by rw [Zzv, eg]; rfl), by decide, fun t ht => ?_⟩
    have tp : t ≠ p := fun z => by rw [z, hp6] at ht; cases ht
    have u7 := A6 (o := .tup [.str "short", .ref p, .str wt.name, .int d, .int ((LR S wt.name).getD d 0)]) ht
    have kp7 : ∀ b o, b ≠ p -> H1 b = some o -> upd H6 t (.tup [.str "short", .ref p, .str wt.name, .int d, .int ((LR S wt.name).getD d 0)]) b = some o := fun b o nb e => u7 _ _ (kp6 b o nb e)
    exact k t p ys i _ (fresh H6 t kp6 ht tp) hp tp sb ⟨kvs, u7 _ _ hp6, hks, fun nm' hn' => let ⟨q', e1, e2, e3, e4⟩ := hrow6 nm' hn'; ⟨q', e1, e2, e3, u7 _ _ e4⟩, hap⟩ hne (keepT _ kp7) (keepB _ kp7) (.inr ⟨wt, d, hwt, en, ea, A0⟩)
   | none =>
    show if (!decide (V.non = V.non)) = true then _ else _
    rw [if_neg (by decide)]
    have hkl : kvs.length <= 64 := by
     have := congrArg Zxb hks
     rw [Zzz, Zzz, Zyl] at this
     omega
    refine ⟨kvs, .inr wt.name, rfl, hp6, Zyx hkl (by decide), _, _, _, _, rfl, ⟨_, A0, ?_, fun nm' hn' => ?_, fun nm1 hn1 nm2 hn2 q1' v1 v2 => ?_⟩, fun w' hw' hn' => ?_, fun b o nb e => by rw [A5 nb]; exact kp6 b o nb e⟩
    ·have nn : C5 kvs (.inr wt.name) = none := by
      cases e : C5 kvs (.inr wt.name) with
      | none => rfl
      | some z =>
       have h3 := cw e
       rw [hks] at h3
       obtain ⟨y, hy, e2⟩ := Zzx.mp h3
       rw [Zx3 e2] at hy
       exact absurd hy (Fp ndy en)
     rw [My _ nn, Zzg, hks, Zz3, en, Zzg]
     rfl
    ·rw [Zz3, en] at hn'
     rcases Zz4.mp hn' with z | z
     ·obtain ⟨q', e1, e2, e3, e4⟩ := hrow6 nm' z
      refine ⟨q', e1, e2, by rw [Gi, if_neg (fun z2 => Fp ndy en (by rw [<- Zx3 z2]; exact z))]; exact e3, by rw [A5 e2]; exact e4⟩
     ·have e : nm' = wt.name := by simpa using z
      subst e
      exact ⟨r, hr0, rp, by rw [Gi, if_pos rfl], by rw [A5 rp]; exact hr7⟩
    ·have old : ∀ nm' ∈ ys.take i, ∀ q' : Addr, C5 (Eu kvs (.inr wt.name) (.ref r)) (.inr nm') = some (.ref q') -> C5 kvs (.inr nm') = some (.ref q') /\ q' ≠ r := fun nm' hn' q' e => by
      rw [Gi, if_neg (fun z2 => Fp ndy en (by rw [<- Zx3 z2]; exact hn'))] at e
      refine ⟨e, fun z => ?_⟩
      obtain ⟨q2', _, _, e3, e4⟩ := hrow nm' hn'
      rw [e] at e3
      cases e3
      rw [z, Same.free s24 hr5] at e4
      cases e4
     have new : ∀ nm', nm' ∈ ys.take (i + 1) -> nm' ∈ ys.take i \/ nm' = wt.name := fun nm' hn' => by
      rw [Zz3, en] at hn'
      rcases Zz4.mp hn' with z | z
      ·exact .inl z
      ·exact .inr (by simpa using z)
     rcases new nm1 hn1 with z1 | z1 <;> rcases new nm2 hn2 with z2 | z2
     ·exact hap nm1 z1 nm2 z2 q1' (old nm1 z1 q1' v1).1 (old nm2 z2 q1' v2).1
     ·rw [z2, Gi, if_pos rfl] at v2
      cases v2
      exact absurd rfl (old nm1 z1 _ v1).2
     ·rw [z1, Gi, if_pos rfl] at v1
      cases v1
      exact absurd rfl (old nm2 z2 _ v2).2
     ·rw [z1, z2]
    ·rw [Zz3, en] at hn'
     rcases Zz4.mp hn' with z | z
     ·exact hne w' hw' z
     ·have e : w'.name = wt.name := by simpa using z
      rw [Wn L.nd hw' hwt e]
      exact ea
  ·obtain ⟨o2, o3, o4, o5, rfl, hrow, hne, kp⟩ := h
   rw [Zzz] at hrow hne
   walk_at "rd"
   refine ⟨by decide, fun t ht => ?_⟩
   obtain ⟨kvs, hp2, hks, hr2, hap⟩ := hrow
   have tp : t ≠ p := fun z => by rw [z, hp2] at ht; cases ht
   have u7 := A6 (o := .tup [.str "plan", .ref p]) ht
   have kp7 : ∀ b o, b ≠ p -> H1 b = some o -> upd H2 t (.tup [.str "plan", .ref p]) b = some o := fun b o nb e => u7 _ _ (kp b o nb e)
   exact k t p ys ys.length _ (fresh H2 t kp ht tp) hp tp sb ⟨kvs, u7 _ _ hp2, hks, fun nm' hn' => let ⟨q', e1, e2, e3, e4⟩ := hr2 nm' hn'; ⟨q', e1, e2, e3, u7 _ _ e4⟩, hap⟩ hne (keepT _ kp7) (keepB _ kp7) (.inl ⟨rfl, A0⟩)
end
set_option maxHeartbeats 4000000
section
variable {P : Program} {w : World} {K : Zzu} {mg : Str -> Option Value} {base : Heap} {f : Addr} {fd : FuncData} {c : Cl} {Pt : Addr}
theorem PlanAt.tb {H H' : Hp} {a Pt : Addr} {S : Sh} {plan : Str -> List Int} (h : PlanAt H a S plan) (tb : Tb H Pt) (bt : But Pt H H') : PlanAt H' a S plan := by
 obtain ⟨kvs, h1, h2⟩ := h
 refine ⟨kvs, ?_, fun nm hn => let ⟨l, e1, e2, e3⟩ := h2 nm hn; ⟨l, e1, bt _ _ (Ps tb e2 fun u z => by cases z) e2, e3⟩⟩
 rcases h1 with e | ⟨o, e⟩
 ·exact .inl (bt _ _ (Ps tb e fun u z => by cases z) e)
 ·exact .inr ⟨o, bt _ _ (Ps tb e fun u z => by cases z) e⟩
theorem Yr (i : Int) (o : Option Nat) : jr (.int i) (gk o) = true := by cases o <;> rfl
theorem m9 {i : Nat} {o : Option Nat} (h : V.int i = gk o) : o = some i := by
 cases o with
 | none => cases h
 | some d =>
  have : (i : Int) = d := V.int.inj h
  rw [Int.ofNat.inj this]
def sp_first_fault : Sp := fun vs H Q _ => ∃ (v : V) (a : Addr) (x : V) (S : Sh) (plan : Str -> List Int) (w : Wr) (sz : Int), vs = [v, .ref a, x] /\ RD H S.d v /\ PlanAt H a S plan /\ RD H w.d x /\ w ∈ S.wares /\ Good sz S /\ 0 < sz /\ sz <= 1000 /\
 (∀ H', Same H H' -> Iy S plan w = none -> Q .non H') /\ ∀ t H' y, H t = none -> Same H H' -> Iy S plan w = some y -> H' t = some (.tup [.str y.1, .str w.name, .int y.2]) -> Q (.ref t) H'
def cj (v : V) (a : Addr) (x : V) (S : Sh) (plan : Str -> List Int) (w : Wr) (H : Hp) (i : Nat) (σ : St) (H' : Hp) : Prop := ∃ o4 o5 : Option V, σ = [some v, some (.ref a), some x, some (gk (Do (plan w.name) w.lag)), o4, o5] /\ Gf S plan w i = none /\ Same H H'
theorem sc_first_fault : Aj ["shop", "plan", "ware", "early", "day", "left"] ["shop", "plan", "ware"] (A8 D6) := by constructor <;> first | rfl | decide +kernel
theorem Nc (F : Fun K "first_fault" "first_fault" D6 f fd) (T : Txt mg) (C : Exc K mg c) (Zvg : Has P w K mg base "first_early" 1 ["lots", "lag"] sp_first_early) (Zva : Has P w K mg base "stocks_row" 4 ["shop", "plan", "ware"] sp_stocks_row) : FnOk P w K mg base CX0 5 f fd ["shop", "plan", "ware"] sp_first_fault := by
 refine F.ok sc_first_fault (fun vs H Q E h => ?_) (fun cdv A outer s H vs Q E hr h => ?_)
 ·obtain ⟨v, a, x, S, plan, w, sz, rfl, _⟩ := h
  rfl
 ·obtain ⟨v, a, x, S, plan, w, sz, rfl, rs, pl, rx, hm, g, z0, z1, kN, kS⟩ := h
  have hu := Aq hr
  obtain ⟨n1, n2, n3, n4⟩ := g.days z0 z1
  refine ⟨_, (A2 (Ac (i := 3) sc_first_fault.nd rfl (Zzq rfl) (Aa Zvg hr.z rfl (A4 (Ab hu (pv 1) (Ab hu (pv 2) (An rfl T.Zvf) (fun _ _ => rfl)) (fun _ _ => rfl)) (A4 (Ab hu (pv 2) (An rfl T.Zu3) (fun _ _ => rfl)) A1))))
 (A2 (Bl PassesOwn.never rfl (Vq rfl T.Zt2 (A4 (Aa Zva hr.z rfl (A4 (pv 0) (A4 (pv 1) (A4 (pv 2) A1)))) A1)) (Id (n := 2) rfl (Bt (Ah (i := 4) sc_first_fault.nd rfl (Zzq rfl)) (Bt (Ah (i := 5) sc_first_fault.nd rfl (Zzq rfl)) G9)))
 (A2 (Bp (Al (Da hu) (pv 4) (pv 3) (B2 _)) (A9 (Af (Br (A4 Ce (A4 (Ab hu (pv 2) (An rfl T.Zvf) (fun _ _ => rfl)) (A4 (pv 4) A1)))))) Au)
 (A9 (Bp (Al (F0 hu) (pv 5) (Ab hu (pv 2) (An rfl T.Zu1) (fun _ _ => rfl)) (B2 _)) (A9 (Af (Br (A4 Ce (A4 (Ab hu (pv 2) (An rfl T.Zvf) (fun _ _ => rfl)) (A4 (pv 4) A1)))))) Au))))
 (A9 (Af Hc)))), ?_⟩
  obtain ⟨xe, c1, c2, rfl, hxe, _⟩ := Bz rx
  obtain ⟨kvs, hkv, hpl⟩ := id pl
  obtain ⟨l, hv, hll, hlen, hbd⟩ := hpl w.name (Zzx.mpr ⟨w, hm, rfl⟩)
  walk_at "rd"
  refine ⟨_, Ag (j := 0) hxe rfl, _, Ge hkv hv, _, Ag (j := 1) hxe rfl, l, plan w.name, w.lag, rfl, hll, by rw [hlen]; exact n2, fun H1 sm1 => ?_⟩
  refine ⟨v, a, .ref xe, S, plan, w, sz, rfl, RD.same sm1 _ _ rs, pl.same sm1, RD.same sm1 _ _ rx, hm, g, z0, z1, fun q H2 hq hq2 sm2 => ?_⟩
  have s02 := sm1.trans sm2
  have slen : (E6 S plan w).length = daysN S := by unfold E6; rw [Ar]
  refine ⟨q, rfl, _, hq2, ?_⟩
  refine W6 (j8 q _) (cj v a (.ref xe) S plan w H2) ⟨_, _, rfl, rfl, Same.refl _⟩ (fun i σ H' _ h => let ⟨_, _, _, _, s⟩ := h; s _ _ hq2) (fun i us t σ H3 hi hy h ht => ?_) (fun σ H3 h => ?_)
  ·obtain ⟨o4, o5, rfl, hn, sm⟩ := h
   obtain ⟨y, ey, rfl⟩ := hy
   have hy := Hj ey
   subst hy
   rw [Zzz, slen] at hi
   have s4 := s02.trans (sm.trans (A6 (o := .tup [.int i, .int ((E6 S plan w).getD i 0)]) ht))
   have s24 := sm.trans (A6 (o := .tup [.int i, .int ((E6 S plan w).getD i 0)]) ht)
   have es : Gf S plan w (i + 1) = if Do (plan w.name) w.lag = some i then some (("early" : Str), i) else if (E6 S plan w).getD i 0 < w.floor then some (("below" : Str), i) else none := by rw [Gf, hn]
   refine gT2 ?_
   generalize upd H3 t (.tup [.int i, .int ((E6 S plan w).getD i 0)]) = H4 at s4 s24
   walk_at "rd"
   have hxe4 := s4 _ _ hxe
   refine ⟨Yr _ _, D3 (fun h1 => ?_) (fun h1 => ?_)⟩
   ·have h1 := m9 (of_decide_eq_true h1)
    rw [if_pos h1] at es
    refine ⟨_, Ag (j := 0) hxe4 rfl, by decide, fun t2 ht2 => ?_⟩
    exact kS t2 _ ("early", i) (Same.free s4 ht2) (s4.trans (A6 ht2)) (O6 es (by omega)) A0
   ·have h1 : ¬ Do (plan w.name) w.lag = some i := fun e => h1 (decide_eq_true (by rw [e]; rfl))
    rw [if_neg h1] at es
    refine ⟨_, Ag (j := 3) hxe4 rfl, _, rfl, D3 (fun h2 => ?_) (fun h2 => ?_)⟩
    ·rw [if_pos (of_decide_eq_true h2)] at es
     refine ⟨_, Ag (j := 0) hxe4 rfl, by decide, fun t2 ht2 => ?_⟩
     exact kS t2 _ ("below", i) (Same.free s4 ht2) (s4.trans (A6 ht2)) (O6 es (by omega)) A0
    ·exact ⟨_, _, rfl, by rw [es, if_neg (fun z => h2 (decide_eq_true z))], s24⟩
  ·obtain ⟨o4, o5, rfl, hn, sm⟩ := h
   rw [Zzz, slen] at hn
   walk_at "rd"
   exact kN _ (s02.trans sm) hn
def Q2 (Pt : Addr) : Sp := fun vs H Q _ => ∃ (v : V) (a : Addr) (S : Sh) (plan : Str -> List Int) (sz : Int), vs = [v, .ref a] /\ RD H S.d v /\ PlanAt H a S plan /\ Good sz S /\ 0 < sz /\ sz <= 1000 /\ Tb H Pt /\ ∀ (t : Addr) (ys : List Str) (H' : Hp), H t = none -> Og (lv S) (C7 S) ys -> H' t = some (.tup (judV (W2 S plan ys))) -> Tb H' Pt -> But Pt H H' -> Q (.ref t) H'
def mo (v : V) (a : Addr) (S : Sh) (plan : Str -> List Int) (ys : List Str) (H1 : Hp) (i : Nat) (σ : St) (H' : Hp) : Prop := ∃ o2 o3 : Option V, σ = [some v, some (.ref a), o2, o3] /\ Nt S plan ys i = none /\ Same H1 H'
theorem sc_judged : Aj ["shop", "plan", "name", "fault"] ["shop", "plan"] (A8 Fy) := by constructor <;> first | rfl | decide +kernel
theorem Q9 (F : Fun K "judged" "judged" Fy f fd) (T : Txt mg) (C : Exc K mg c) (Zvb : Has P w K mg base "worked" 6 ["shop"] (Ip Pt)) (Zuh : Has P w K mg base "first_fault" 5 ["shop", "plan", "ware"] sp_first_fault) (Zvp : Has P w K mg base "ware_of" 1 ["shop", "name"] sp_ware_of) : FnOk P w K mg base CX0 7 f fd ["shop", "plan"] (Q2 Pt) := by
 refine F.ok sc_judged (fun vs H Q E h => ?_) (fun cdv A outer s H vs Q E hr h => ?_)
 ·obtain ⟨v, a, S, plan, sz, rfl, _⟩ := h
  rfl
 ·obtain ⟨v, a, S, plan, sz, rfl, rs, pl, g, z0, z1, tb, k⟩ := h
  have hu := Aq hr
  refine ⟨_, (A2 (Bl PassesOwn.never rfl (Fz (Aa Zvb hr.z rfl (A4 (pv 0) A1))) (Ah (i := 2) sc_judged.nd rfl (Zzq rfl))
 (A2 (Ac (i := 3) sc_judged.nd rfl (Zzq rfl) (Aa Zuh hr.z rfl (A4 (pv 0) (A4 (pv 1) (A4 (Aa Zvp hr.z rfl (A4 (pv 0) (A4 (pv 2) A1))) A1)))))
 (A9 (Bp (Al Is (pv 3) Hc (B2 _)) (A9 (Af (pv 3))) Au))))
 (A9 (Af (Br (A4 Ce A1))))), ?_⟩
  have L := Gs g
  walk_at "rd"
  refine ⟨v, S, rfl, rs, L, tb, fun q ys H1 hq hq1 so sb tb1 bt1 => ⟨q, rfl, _, hq1, ?_⟩⟩
  have rs1 := RD.ku (Hs tb bt1) _ _ (Co S) rs
  have pl1 := pl.tb tb bt1
  have fresh : ∀ (H' : Hp) (b : Addr), Same H1 H' -> H' b = none -> H b = none := fun H' b s hb => by
   cases e : H b with
   | none => rfl
   | some o =>
    by_cases z : b = Pt
    ·obtain ⟨u, e2⟩ := tb1.at
     rw [z, s _ _ e2] at hb
     cases hb
    ·rw [s _ _ (bt1 _ _ z e)] at hb
     cases hb
  refine D4 (J8 q _) (mo v a S plan ys H1) ⟨_, _, rfl, rfl, Same.refl _⟩ (fun i σ H' _ h => let ⟨_, _, _, _, s⟩ := h; s _ _ hq1) (fun i x σ H2 hi hx h => ?_) (fun σ H2 h => ?_)
  ·obtain ⟨o2, o3, rfl, hn, s2⟩ := h
   rw [Zzv] at hx
   cases en : ys[i]? with
   | none => rw [en] at hx; cases hx
   | some nm =>
   rw [en] at hx
   have hx : V.str nm = x := Zzc hx
   subst hx
   have hnm : nm ∈ S.wares.map (·.name) := so.1.mem_iff.mp (Zzn en)
   have hil : i < ys.length := (Zzl.mp en).1
   walk_at "rd"
   refine ⟨v, S, nm, rfl, RD.same s2 _ _ rs1, L.ok, hnm, fun t wt hwt ewt rt => ?_⟩
   subst ewt
   have st := Xm L.nd hn en hwt
   refine ⟨v, a, t, S, plan, wt, sz, rfl, RD.same s2 _ _ rs1, pl1.same s2, rt, hwt, g, z0, z1, fun H3 s3 ef => ?_, fun t2 H3 y ht2 s3 ef e2 => ?_⟩
   ·rw [ef] at st
    rw [if_neg (by decide)]
    exact ⟨_, _, rfl, st, s2.trans s3⟩
   ·rw [ef] at st
    rw [if_pos (by rw [decide_eq_false (fun z => by cases z)]; rfl)]
    have ej : W2 S plan ys = some (y.1, wt.name, y.2) := Zp st (by omega)
    refine k t2 ys H3 (fresh H2 t2 s2 ht2) sb ?_ (tb1.same (s2.trans s3)) (fun b o nb e => (s2.trans s3) _ _ (bt1 b o nb e))
    rw [ej]
    exact e2
  ·obtain ⟨o2, o3, rfl, hn, s2⟩ := h
   rw [Zzz] at hn
   walk_at "rd"
   refine ⟨by decide, fun t ht => ?_⟩
   have u3 := A6 (o := .tup [.str "good"]) ht
   refine k t ys _ (fresh H2 t s2 ht) sb ?_ (tb1.same (s2.trans u3)) (fun b o nb e => (s2.trans u3) _ _ (bt1 b o nb e))
   have : W2 S plan ys = none := hn
   rw [this]
   exact A0
end
set_option maxHeartbeats 4000000
section
variable {P : Program} {w : World} {K : Zzu} {mg : Str -> Option Value} {base : Heap} {f : Addr} {fd : FuncData} {c : Cl} {Pt : Addr}
theorem Mg {S : Sh} (nd : (S.wares.map (·.name)).Nodup) {w w' : Wr} (h : w ∈ S.wares) (h' : w' ∈ S.wares) (e : w.name = w'.name) : w = w' := by
 obtain ⟨i, hi, ei⟩ := Zy5.mp h
 obtain ⟨j, hj, ej⟩ := Zy5.mp h'
 have : (S.wares.map (·.name))[i]? = (S.wares.map (·.name))[j]? := by
  rw [Zzv, Zzv, Zzr hi, Zzr hj, ei, ej]
  show some w.name = some w'.name
  rw [e]
 have e2 := (Zwi (by rw [Zzz]; exact hi) nd).mp this
 subst e2
 rw [<- ei, <- ej]
def sp_days_of : Sp := fun vs H Q _ => ∃ (v : V) (S : Sh) (sz : Int), vs = [v] /\ RD H S.d v /\ Good sz S /\ 0 < sz /\ sz <= 1000 /\ ∀ H', Same H H' -> Q (.int (daysN S : Nat)) H'
theorem Mr : Aj ["shop"] ["shop"] (A8 Em) := by constructor <;> first | rfl | decide +kernel
theorem Nf (F : Fun K "days_of" "days_of" Em f fd) (T : Txt mg) (C : Exc K mg c) (Zvr : Has P w K mg base "check_rings" 4 ["shop"] sp_check_rings) (Zvm : Has P w K mg base "count_days" 1 ["shop"] sp_count_days) : FnOk P w K mg base CX0 5 f fd ["shop"] sp_days_of := by
 refine F.ok Mr (fun vs H Q E h => ?_) (fun cdv A outer s H vs Q E hr h => ?_)
 ·obtain ⟨v, S, sz, rfl, _⟩ := h
  rfl
 ·obtain ⟨v, S, sz, rfl, rs, g, z0, z1, k⟩ := h
  have hu := Aq hr
  obtain ⟨n1, n2, n3, n4⟩ := g.days z0 z1
  refine ⟨_, (A2 (Ay (Aa Zvr hr.z rfl (A4 (pv 0) A1)))
 (A9 (Af (Aa Zvm hr.z rfl (A4 (pv 0) A1))))), ?_⟩
  walk_at "rd"
  refine ⟨v, S, rfl, rs, g.ok, g.no, fun H1 sm1 => ?_⟩
  refine ⟨v, S, rfl, RD.same sm1 _ _ rs, by have := g.wants.1; omega, fun H2 sm2 => ?_⟩
  rw [<- n3]
  exact k _ (sm1.trans sm2)
def sp_begun : Sp := fun vs H Q _ => ∃ (v : V) (a : Addr) (S : Sh) (plan : Str -> List Int) (w : Wr) (sz : Int), vs = [v, .ref a, .str w.name] /\ RD H S.d v /\ PlanAt H a S plan /\ w ∈ S.wares /\ Good sz S /\ 0 < sz /\ sz <= 1000 /\ ∀ p H', H p = none -> H' p = some (.lst ((Dr (plan w.name) w.lag).map V.int)) -> Same H H' -> Q (.ref p) H'
theorem T4 : Aj ["shop", "plan", "name"] ["shop", "plan", "name"] (A8 Gz) := by constructor <;> first | rfl | decide +kernel
theorem Tl (F : Fun K "begun" "begun" Gz f fd) (T : Txt mg) (C : Exc K mg c) (Zvr : Has P w K mg base "check_rings" 4 ["shop"] sp_check_rings) (Zv1 : Has P w K mg base "begun_row" 1 ["plan", "ware"] sp_begun_row) (Zvp : Has P w K mg base "ware_of" 1 ["shop", "name"] sp_ware_of) : FnOk P w K mg base CX0 5 f fd ["shop", "plan", "name"] sp_begun := by
 refine F.ok T4 (fun vs H Q E h => ?_) (fun cdv A outer s H vs Q E hr h => ?_)
 ·obtain ⟨v, a, S, plan, w, sz, rfl, _⟩ := h
  rfl
 ·obtain ⟨v, a, S, plan, w, sz, rfl, rs, pl, hm, g, z0, z1, k⟩ := h
  have hu := Aq hr
  obtain ⟨n1, n2, n3, n4⟩ := g.days z0 z1
  refine ⟨_, (A2 (Ay (Aa Zvr hr.z rfl (A4 (pv 0) A1)))
 (A9 (Af (Aa Zv1 hr.z rfl (A4 (pv 1) (A4 (Aa Zvp hr.z rfl (A4 (pv 0) (A4 (pv 2) A1))) A1)))))), ?_⟩
  walk_at "rd"
  refine ⟨v, S, rfl, rs, g.ok, g.no, fun H1 sm1 => ?_⟩
  refine ⟨v, S, w.name, rfl, RD.same sm1 _ _ rs, g.ok, Zzx.mpr ⟨w, hm, rfl⟩, fun x w' hw' en rx => ?_⟩
  have e := Mg g.ws.nd hw' hm en
  subst e
  have wb := g.ws.wb w' hm
  exact ⟨a, x, S, plan, w', fun _ => True, rfl, (pl.same sm1).for _, trivial, n2, rx, hm, wb.lag.1, by have := wb.lag.2; omega, fun p H2 hp hp2 sm2 => k p H2 (Same.free sm1 hp) hp2 (sm1.trans sm2)⟩
def sp_needs : Sp := fun vs H Q _ => ∃ (v : V) (a : Addr) (S : Sh) (plan : Str -> List Int) (w : Wr) (sz : Int), vs = [v, .ref a, .str w.name] /\ RD H S.d v /\ PlanAt H a S plan /\ w ∈ S.wares /\ Good sz S /\ 0 < sz /\ sz <= 1000 /\ ∀ p H', H p = none -> H' p = some (.lst ((Ao S plan w.name).map V.int)) -> Same H H' -> Q (.ref p) H'
theorem Sw : Aj ["shop", "plan", "name"] ["shop", "plan", "name"] (A8 Gy) := by constructor <;> first | rfl | decide +kernel
theorem Td (F : Fun K "needs" "needs" Gy f fd) (T : Txt mg) (C : Exc K mg c) (Zvr : Has P w K mg base "check_rings" 4 ["shop"] sp_check_rings) (Zvl : Has P w K mg base "needs_row" 3 ["shop", "plan", "ware"] sp_needs_row) (Zvp : Has P w K mg base "ware_of" 1 ["shop", "name"] sp_ware_of) : FnOk P w K mg base CX0 5 f fd ["shop", "plan", "name"] sp_needs := by
 refine F.ok Sw (fun vs H Q E h => ?_) (fun cdv A outer s H vs Q E hr h => ?_)
 ·obtain ⟨v, a, S, plan, w, sz, rfl, _⟩ := h
  rfl
 ·obtain ⟨v, a, S, plan, w, sz, rfl, rs, pl, hm, g, z0, z1, k⟩ := h
  have hu := Aq hr
  refine ⟨_, (A2 (Ay (Aa Zvr hr.z rfl (A4 (pv 0) A1)))
 (A9 (Af (Aa Zvl hr.z rfl (A4 (pv 0) (A4 (pv 1) (A4 (Aa Zvp hr.z rfl (A4 (pv 0) (A4 (pv 2) A1))) A1))))))), ?_⟩
  walk_at "rd"
  refine ⟨v, S, rfl, rs, g.ok, g.no, fun H1 sm1 => ?_⟩
  refine ⟨v, S, w.name, rfl, RD.same sm1 _ _ rs, g.ok, Zzx.mpr ⟨w, hm, rfl⟩, fun x w' hw' en rx => ?_⟩
  have e := Mg g.ws.nd hw' hm en
  subst e
  exact ⟨v, a, x, S, plan, w', sz, rfl, RD.same sm1 _ _ rs, (pl.same sm1).for _, rx, g, z0, z1, fun p H2 hp hp2 sm2 => k p H2 (Same.free sm1 hp) hp2 (sm1.trans sm2)⟩
def sp_stocks : Sp := fun vs H Q _ => ∃ (v : V) (a : Addr) (S : Sh) (plan : Str -> List Int) (w : Wr) (sz : Int), vs = [v, .ref a, .str w.name] /\ RD H S.d v /\ PlanAt H a S plan /\ w ∈ S.wares /\ Good sz S /\ 0 < sz /\ sz <= 1000 /\ ∀ p H', H p = none -> H' p = some (.lst ((E6 S plan w).map V.int)) -> Same H H' -> Q (.ref p) H'
theorem Q3 : Aj ["shop", "plan", "name"] ["shop", "plan", "name"] (A8 Fw) := by constructor <;> first | rfl | decide +kernel
theorem Q6 (F : Fun K "stocks" "stocks" Fw f fd) (T : Txt mg) (C : Exc K mg c) (Zvr : Has P w K mg base "check_rings" 4 ["shop"] sp_check_rings) (Zva : Has P w K mg base "stocks_row" 4 ["shop", "plan", "ware"] sp_stocks_row) (Zvp : Has P w K mg base "ware_of" 1 ["shop", "name"] sp_ware_of) : FnOk P w K mg base CX0 5 f fd ["shop", "plan", "name"] sp_stocks := by
 refine F.ok Q3 (fun vs H Q E h => ?_) (fun cdv A outer s H vs Q E hr h => ?_)
 ·obtain ⟨v, a, S, plan, w, sz, rfl, _⟩ := h
  rfl
 ·obtain ⟨v, a, S, plan, w, sz, rfl, rs, pl, hm, g, z0, z1, k⟩ := h
  have hu := Aq hr
  refine ⟨_, (A2 (Ay (Aa Zvr hr.z rfl (A4 (pv 0) A1)))
 (A9 (Af (Aa Zva hr.z rfl (A4 (pv 0) (A4 (pv 1) (A4 (Aa Zvp hr.z rfl (A4 (pv 0) (A4 (pv 2) A1))) A1))))))), ?_⟩
  walk_at "rd"
  refine ⟨v, S, rfl, rs, g.ok, g.no, fun H1 sm1 => ?_⟩
  refine ⟨v, S, w.name, rfl, RD.same sm1 _ _ rs, g.ok, Zzx.mpr ⟨w, hm, rfl⟩, fun x w' hw' en rx => ?_⟩
  have e := Mg g.ws.nd hw' hm en
  subst e
  exact ⟨v, a, x, S, plan, w', sz, rfl, RD.same sm1 _ _ rs, pl.same sm1, rx, hm, g, z0, z1, fun p H2 hp hp2 sm2 => k p H2 (Same.free sm1 hp) hp2 (sm1.trans sm2)⟩
end
set_option maxHeartbeats 4000000
section
variable {P : Program} {w : World} {K : Zzu} {mg : Str -> Option Value} {base : Heap} {f : Addr} {fd : FuncData} {c : Cl} {Pt : Addr}
def Mm (Pt : Addr) : Sp := fun vs H Q _ => ∃ (v : V) (S : Sh), vs = [v] /\ RD H S.d v /\ Wh S /\ Tb H Pt /\ ∀ p ys H', H p = none -> H' p = some (.dK (fnD ys (tm S))) -> ys.Perm (C7 S) -> Tb H' Pt -> But Pt H H' -> Q (.ref p) H'
def i4 (v : V) (p : Addr) (S : Sh) (ys : List Str) (Pt : Addr) (H : Hp) (j : Nat) (σ : St) (H' : Hp) : Prop := ∃ o1 o2 : Option V, σ = [some v, some (.ref p), o1, o2] /\ H' p = some (.dK (fnD (ys.reverse.take j) (tm S))) /\ Tb H' Pt /\ But Pt H H'
theorem sc_times : Aj ["shop", "told", "name", "ware"] ["shop"] (A8 Iq) := by constructor <;> first | rfl | decide +kernel
theorem Z5 (F : Fun K "times" "times" Iq f fd) (T : Txt mg) (C : Exc K mg c) (Zvb : Has P w K mg base "worked" 6 ["shop"] (Ip Pt)) (Zvp : Has P w K mg base "ware_of" 1 ["shop", "name"] sp_ware_of) (Zvk : Has P w K mg base "part_names" 1 ["ware"] sp_part_names) : FnOk P w K mg base CX0 7 f fd ["shop"] (Mm Pt) := by
 refine F.ok sc_times (fun vs H Q E h => ?_) (fun cdv A outer s H vs Q E hr h => ?_)
 ·obtain ⟨v, S, rfl, _⟩ := h
  rfl
 ·obtain ⟨v, S, rfl, rs, L, tb, k⟩ := h
  have hu := Aq hr
  refine ⟨_, (A2 (Ac (i := 1) sc_times.nd rfl (Or.inr rfl) G0)
 (A2 (Bl PassesOwn.never rfl (kj rfl T.Zsw (A4 (Aa Zvb hr.z rfl (A4 (pv 0) A1)) A1)) (Ah (i := 2) sc_times.nd rfl (Zzq rfl))
 (A2 (Ac (i := 3) sc_times.nd rfl (Zzq rfl) (Aa Zvp hr.z rfl (A4 (pv 0) (A4 (pv 2) A1))))
 (A9 (Gc (Am Ca (Ab hu (pv 3) (An rfl T.Zu3) (fun _ _ => rfl)) (Vs rfl rfl T.Ztj (Fm (own := ["part"]) (cap := [1]) rfl (Gv rfl) (Cv (by decide)) (Fz (Aa Zvk hr.z rfl (A4 (pv 3) A1)))
 (fun _ _ _ _ _ _ => ⟨(Ah (i := 0) (of_decide_eq_true rfl) rfl (Zzq rfl) (.inr rfl)), E7, (Ab hu (pv 1) (pv 0) (fun _ _ => rfl))⟩)))) (Gd (pv 1) (pv 2) (Fu hu))))))
 (A9 (Af (pv 1))))), ?_⟩
  have hfew := L.few
  walk_at "rd"
  intro p hp
  have u0 := A6 (o := .dK []) hp
  refine ⟨v, S, rfl, RD.same u0 _ _ rs, L, tb.same u0, fun q ys H1 hq hq1 so _ tb1 bt => ⟨q, rfl, _, hq1, ?_⟩⟩
  have pPt : p ≠ Pt := fun z => by obtain ⟨u, e⟩ := tb.at; rw [<- z, hp] at e; cases e
  have hp1 : H1 p = some (.dK []) := bt _ _ pPt A0
  have bt0 : But Pt H H1 := fun b o nb e => bt b o nb (u0 b o e)
  have so' : Lz (lv S) (S.wares.map (·.name)) ys := so
  have hyl : ys.length = S.wares.length := by rw [so.1.length_eq, Dv]
  have ndy : ys.reverse.Nodup := ((List.reverse_perm ys).trans so.1).nodup_iff.mpr L.nd
  have qp : q ≠ p := fun z => by rw [z, A0] at hq; cases hq
  refine D4 (qf q _) (fun j σ H' => i4 v p S ys Pt H j σ H' /\ H' q = some (.lst (ys.map V.str))) ⟨⟨_, _, rfl, hp1, tb1, bt0⟩, hq1⟩ (fun j σ H' _ h => h.2) (fun j x σ H2 hj hx h => ?_) (fun σ H2 h => ?_)
  ·obtain ⟨⟨o1, o2, rfl, hp2, tb2, bt2⟩, hq2⟩ := h
   rw [Zzz] at hj
   rw [<- List.map_reverse, Zzv] at hx
   cases en : ys.reverse[j]? with
   | none => rw [en] at hx; cases hx
   | some nm =>
   rw [en] at hx
   have hx : V.str nm = x := Zzc hx
   subst hx
   have hnm : nm ∈ S.wares.map (·.name) := so.1.mem_iff.mp (List.mem_reverse.mp (Zzn en))
   have rs2 := RD.ku (Hs tb bt2) _ _ (Co S) rs
   walk_at "rd"
   refine ⟨v, S, nm, rfl, rs2, L.ok, hnm, fun t wt hwt ewt rt => ?_⟩
   subst ewt
   obtain ⟨te, d1, d2, rfl, hte, _⟩ := Bz rt
   refine ⟨_, Ag (j := 1) hte rfl, .ref te, wt, rfl, rt, L.ok.wares wt hwt, fun r H3 hr3 hr4 sm3 => ⟨r, rfl, _, hr4, ?_⟩⟩
   have hp3 := sm3 _ _ hp2
   have hpl := (L.ok.wares wt hwt).1
   have ap : ∀ pp ∈ wt.parts, pp.1 ∈ ys.reverse.take j := fun pp hpp => T9 L.toLev so' hwt en hpp
   refine Gw (J8 r _) (Ax (by rw [Zzz, Zzz]; exact hpl)) (fun H' s' => s' _ _ hr4) ((wt.parts.map fun pp => tm S pp.1).map V.int) (by rw [Zzz, Zzz, Zzz, Zzz]) (fun i y H' hi hy s' N M hN => ?_) (fun H4 s4 z hz => ?_)
   ·rw [Zzv, Zzv] at hy
    cases ep : wt.parts[i]? with
    | none => rw [ep] at hy; cases hy
    | some pp =>
    rw [ep] at hy
    have hy : V.str pp.1 = y := Zzc hy
    subst hy
    walk_at "rd"
    exact ⟨_, Ge (.inl (s' _ _ hp3)) (Ix (ap pp (Zzn ep))), hN _ _ s' (by rw [Zzv, Zzv, ep]; rfl)⟩
   ·have s5 := (sm3.trans s4).trans (A6 (o := .lst ((wt.parts.map fun pp => tm S pp.1).map V.int)) hz)
    have hp5 := s5 _ _ hp2
    have hq5 := s5 _ _ hq2
    have tb5 := tb2.same s5
    refine ⟨z, rfl, _, A0, ?_⟩
    generalize upd H4 z (.lst ((wt.parts.map fun pp => tm S pp.1).map V.int)) = H5 at s5 hp5 hq5 tb5
    refine ⟨_, rfl, _, .inr wt.name, rfl, hp5, ?_, ⟨_, _, rfl, ?_, ?_, fun b o nb e => ?_⟩, by rw [A5 qp]; exact hq5⟩
    ·rw [S7, Zyl, Zx7]
     exact Zyx (m := 1000) (by omega) (by decide)
    ·rw [A0, <- Vf L.toLev hwt, W7 (Fp ndy en), Zz3, en]
     exact congrArg (fun z => some (HO.dK z)) (La fun x _ => by split <;> rename_i e <;> first | rw [e] | rfl)
    ·rcases tb5 with e | ⟨c, e, e2⟩
     ·exact .inl (by rw [A5 (Zzh pPt)]; exact e)
     ·exact .inr ⟨c, by rw [A5 (Zzh pPt)]; exact e, by rw [A5 (fun z => by rw [z, hp5] at e2; cases e2)]; exact e2⟩
    ·rw [A5 (A3 e hp)]
     exact s5 _ _ (bt2 _ _ nb e)
  ·obtain ⟨⟨o1, o2, rfl, hp2, tb2, bt2⟩, hq2⟩ := h
   rw [Zzz, <- Zx7, Zyu] at hp2
   walk_at "rd"
   exact k p ys.reverse H2 hp hp2 ((List.reverse_perm ys).trans so.1) tb2 bt2
def X9 (d : Int) (p : Wt) : Wt := (p.1, p.2.1 + d, p.2.2)
def mm (S : Sh) (d : Int) (H : Hp) (i : Nat) (acc : List V) (H' : Hp) : Prop := acc.length = i /\ RDs H' ((S.wants.take i).map fun p => Fs (X9 d p)) acc /\ Same H H'
def sp_put_off : Sp := fun vs H Q _ => ∃ (v : V) (S : Sh) (d : Int), vs = [v, .int d] /\ RD H S.d v /\ Lh S /\ D1 S /\ S.wants.length <= 1000 /\ ∀ x H', RD H' (Sh.d ⟨S.wares, S.wants.map (X9 d)⟩) x -> Same H H' -> Q x H'
theorem sc_put_off : Aj ["shop", "days", "later"] ["shop", "days"] (A8 Ef) := by constructor <;> first | rfl | decide +kernel
theorem N7 (F : Fun K "put_off" "put_off" Ef f fd) (T : Txt mg) (C : Exc K mg c) (Zvr : Has P w K mg base "check_rings" 4 ["shop"] sp_check_rings) : FnOk P w K mg base CX0 5 f fd ["shop", "days"] sp_put_off := by
 refine F.ok sc_put_off (fun vs H Q E h => ?_) (fun cdv A outer s H vs Q E hr h => ?_)
 ·obtain ⟨v, S, d, rfl, _⟩ := h
  rfl
 ·obtain ⟨v, S, d, rfl, rs, ok, no, hw, k⟩ := h
  have hu := Aq hr
  refine ⟨_, (A2 (Ay (Aa Zvr hr.z rfl (A4 (pv 0) A1)))
 (A2 (Hb (own := ["want"]) (cap := [1]) (i := 2) rfl (Gv rfl) (Cv (by decide)) sc_put_off.nd rfl rfl (De (Ab hu (pv 0) A7 (fun _ _ => rfl)))
 (fun _ _ _ _ _ _ => ⟨(Ah (i := 0) (of_decide_eq_true rfl) rfl (Zzq rfl) (.inr rfl)), E7, (Br (A4 (Ab hu (pv 0) (An rfl T.Zuq) (fun _ _ => rfl)) (A4 (Am Ca (Ab hu (pv 0) (An rfl T.Zux) (fun _ _ => rfl)) (pv 1)) (A4 (Ab hu (pv 0) (An rfl T.Zv9) (fun _ _ => rfl)) A1))))⟩))
 (A9 (Af (Br (A4 (Ab hu (pv 0) A7 (fun _ _ => rfl)) (A4 (D8 Dg rfl T.Zu9 G6 (A4 (pv 2) A1)) A1))))))), ?_⟩
  refine gu (fun σ' H' => ∃ (l : Addr) (acc : List V), σ' = [some v, some (.int d), some (.ref l)] /\ H' l = some (.lst acc) /\ RDs H' (S.wants.map fun p => Fs (X9 d p)) acc /\ Same H H') ?_ (fun KK hK => ?_)
  ·rintro σ' H1 ⟨l, acc, rfl, hl, racc, sm⟩
   obtain ⟨a, b, c, ws, us, rfl, ha, hb, hc, rws, rus⟩ := Cj rs
   walk_at "rd"
   refine ⟨_, Ag (j := 0) (sm _ _ ha) rfl, acc, .inl ⟨hl, fun t ht => ?_⟩⟩
   have s1 := A6 (o := .tup acc) ht
   refine ⟨by show 2 <= sizeLine; decide, fun r hr' => ?_⟩
   have s2 := s1.trans (A6 (o := .tup [.ref b, .ref t]) hr')
   refine k _ _ ?_ (sm.trans s2)
   unfold Sh.d
   refine RD.tup_mk A0 (RDs.cons (RD.tup_mk (s2 _ _ (sm _ _ hb)) (RDs.same (sm.trans s2) _ _ rws)) (RDs.one (RD.tup_mk (xs := acc) ?_ ?_)))
   ·rw [A5 (A3 A0 hr'), A0]
   ·rw [Zyk]
    exact RDs.same s2 _ _ racc
  ·walk_at "rd"
   refine ⟨v, S, rfl, rs, ok, no, fun H1 sm => ?_⟩
   obtain ⟨a, b, c, ws, us, rfl, ha, hb, hc, rws, rus⟩ := Cj rs
   have hl := Bo rus
   refine ⟨_, Ag (j := 1) (sm _ _ ha) rfl, c, rfl, _, sm _ _ hc, ?_⟩
   refine Lc (Ey c _) (Ax (by rw [hl]; exact hw)) (mm S d H) ⟨rfl, RDs.nil, sm⟩ (fun i acc H' _ h => h.2.2 _ _ hc) (fun i acc H' h => Zx8 h.1) (fun i x acc H' hi hx h => ?_) (fun acc H' h p hp => ?_)
   ·obtain ⟨h1, h2, h3⟩ := h
    obtain ⟨y, hy, ry⟩ := C6 rus hx
    obtain ⟨e, rfl, he⟩ := Jo ry
    have he' := h3 _ _ he
    walk_at "rd"
    refine ⟨_, Ag (j := 0) he' rfl, _, Ag (j := 1) he' rfl, _, rfl, _, Ag (j := 2) he' rfl, by show 3 <= sizeLine; decide, fun t ht => ?_⟩
    have s1 := A6 (o := .tup [.str y.1, .int (y.2.1 + d), .int y.2.2]) ht
    refine ⟨by simp [h1], ?_, h3.trans s1⟩
    rw [Zz3, hy, Zzg]
    refine RDs.app (RDs.same s1 _ _ h2) (RDs.one ?_)
    exact RD.tup_mk A0 (RDs.cons RD.str_mk (RDs.cons RD.int_mk (RDs.one RD.int_mk)))
   ·obtain ⟨h1, h2, h3⟩ := h
    rw [hl, Zyu] at h2
    exact hK _ _ ⟨p, acc, rfl, A0, RDs.same (A6 hp) _ _ h2, h3.trans (A6 hp)⟩
theorem O9 {row : List Int} {lag : Int} : ∀ {n : Nat}, (∀ e, e < n -> ¬ ((e : Int) < lag /\ 0 < row.getD e 0)) -> Cm row lag n = none
 | 0, _ => rfl
 | n + 1, h => by
  rw [Cm, O9 fun e he => h e (by omega)]
  show (if (n : Int) < lag /\ 0 < row.getD n 0 then some n else none) = none
  rw [if_neg (h n (by omega))]
def noS (S : Sh) : Sh := ⟨S.wares, []⟩
def Cy (n : Int) (S : Sh) : Sh := ⟨S.wares, S.wants.map (X9 n)⟩
def Bc (S : Sh) : Prop := ∀ w ∈ S.wares, Do (LR S w.name) w.lag = none
theorem Iw {S S' : Sh} (h : Lev S) (e : S'.wares = S.wares) : Lev S' := by
 obtain ⟨ws, us⟩ := S
 obtain ⟨ws', us'⟩ := S'
 obtain rfl : ws' = ws := e
 exact ⟨h.nd, h.own, h.low⟩
theorem Vz {ns : List Int} {b : Int} (hb : 0 <= b) (h : ∀ x ∈ ns, x <= b) : Cz ns <= b := by
 have := Rq (b := b + 1) (by omega) fun x hx => by have := h x hx; omega
 omega
theorem Ui {S : Sh} (hl : ∀ w ∈ S.wares, 0 <= w.lag) : ∀ k x, 0 <= tmF S k x
 | 0, x => Zz6 _
 | k + 1, x => by
  rw [tmF]
  split
  ·rename_i w hw
   have h1 := hl w (Ks hw).1
   have h2 := Hh (ns := w.parts.map fun p => tmF S k p.1) (fun y hy => by obtain ⟨p, _, rfl⟩ := Zzx.mp hy; exact Ui hl k p.1)
   omega
  ·exact Zz6 _
theorem Yi {S : Sh} (hl : ∀ w ∈ S.wares, 0 <= w.lag /\ w.lag <= 30) : ∀ (k : Nat) x, tmF S k x <= 30 * k
 | 0, x => by rw [tmF]; omega
 | k + 1, x => by
  rw [tmF]
  split
  ·rename_i w hw
   have h1 := hl w (Ks hw).1
   have h2 := Vz (ns := w.parts.map fun p => tmF S k p.1) (b := 30 * k) (by omega) (fun y hy => by obtain ⟨p, _, rfl⟩ := Zzx.mp hy; exact Yi hl k p.1)
   omega
  ·omega
theorem Ve {S : Sh} (L : Lev S) {t : Wr} (ht : t ∈ S.wares) {p : Str × Int} (hp : p ∈ t.parts) : t.lag + tm S p.1 <= tm S t.name := by
 rw [Vf L ht]
 have := Iv (ns := t.parts.map fun p => tm S p.1) (Zzx.mpr ⟨p, hp, rfl⟩)
 omega
theorem Yh {S : Sh} (L : Lev S) (hl : ∀ w ∈ S.wares, 0 <= w.lag) {t : Wr} (ht : t ∈ S.wares) : t.lag <= tm S t.name := by
 rw [Vf L ht]
 have := Hh (ns := t.parts.map fun p => tm S p.1) (fun y hy => by obtain ⟨p, _, rfl⟩ := Zzx.mp hy; exact Ui hl _ p.1)
 omega
theorem Kn (S : Sh) : daysN (noS S) = 1 := rfl
theorem E5 {xs : List Int} {d : Nat} (h : xs.length <= d) : xs.getD d 0 = 0 := by
 rw [Zza, Zyt h]
 rfl
theorem Fn (row : List Int) (lag : Int) (d : Nat) : bAt row lag d = row.getD (d + lag.toNat) 0 := by
 unfold bAt
 split
 ·rfl
 ·rw [E5 (by omega)]
theorem Tn {S : Sh} {T : Int} {plan plan0 : Str -> List Int} {nm : Str} {d : Nat} (hd : ∀ u ∈ S.wants, (d : Int) < u.2.1 + T) (h : ∀ t ∈ S.wares, ∀ p ∈ t.parts, p.1 = nm -> bAt (plan t.name) t.lag d = bAt (plan0 t.name) t.lag d) : Ba (Cy T S) plan nm d = Ba (noS S) plan0 nm d := by
 unfold Ba
 have e1 : Bf (wAt nm d) (Cy T S).wants = 0 := Ec fun x hx => by
  obtain ⟨u, hu, rfl⟩ := Zzx.mp hx
  have := hd u hu
  unfold wAt X9
  rw [if_neg (fun z => by have := z.2; simp only at this; omega)]
 have e2 : Bf (wAt nm d) (noS S).wants = 0 := rfl
 rw [e1, e2]
 congr 1
 refine Du fun t ht => ?_
 unfold pAt
 refine Du fun p hp => ?_
 by_cases e : p.1 = nm
 ·rw [if_pos e, if_pos e, h t ht p hp e]
 ·rw [if_neg e, if_neg e]
theorem Z7 {S : Sh} (L : Lev S) (E : Oh S) (hl : ∀ w ∈ S.wares, 0 <= w.lag) {T : Int} (hT : ∀ w ∈ S.wares, tm S w.name <= T) (hw0 : ∀ u ∈ S.wants, 0 <= u.2.1) (h1 : 1 <= daysN (Cy T S)) : ∀ n : Nat, ∀ w ∈ S.wares, lv S w.name <= n -> 0 < tm S w.name ->
  (LR (Cy T S) w.name).getD 0 0 = (LR (noS S) w.name).getD 0 0 /\ ∀ d : Nat, 0 < d -> (d : Int) < tm S w.name -> (LR (Cy T S) w.name).getD d 0 = 0 := by
 intro n
 induction n using Nat.strongRecOn with
 | _ n ih =>
 intro w hw hlv ht
 have L1 : Lev (Cy T S) := Iw L rfl
 have L0 : Lev (noS S) := Iw L rfl
 have hTw := hT w hw
 have user : ∀ t ∈ S.wares, ∀ p ∈ t.parts, p.1 = w.name -> ∀ d : Nat, (d : Int) < tm S w.name -> bAt (LR (Cy T S) t.name) t.lag d = if d + t.lag.toNat = 0 then (LR (noS S) t.name).getD 0 0 else 0 := fun t htm p hp e d hd => by
  have q1 := Kf L htm hp
  have q2 := Ve L htm hp
  rw [e] at q1 q2
  have q3 := Tr S t.name
  have q4 := hl t htm
  obtain ⟨a1, a2⟩ := ih (lv S t.name).toNat (by omega) t htm (by omega) (by omega)
  rw [Fn]
  by_cases z : d + t.lag.toNat = 0
  ·rw [if_pos z, z]; exact a1
  ·rw [if_neg z]; exact a2 _ (by omega) (by omega)
 have nd0 : Ba (Cy T S) (LR (Cy T S)) w.name 0 = Ba (noS S) (LR (noS S)) w.name 0 := Tn (fun u hu => by have := hw0 u hu; omega) fun t htm p hp e => by
  rw [user t htm p hp e 0 (by omega), Fn]
  by_cases z : 0 + t.lag.toNat = 0
  ·rw [if_pos z, z]
  ·rw [if_neg z, E5 (by rw [Io L0 htm, Kn]; omega)]
 have ndd : ∀ d : Nat, 0 < d -> (d : Int) < tm S w.name -> Ba (Cy T S) (LR (Cy T S)) w.name d = 0 := fun d d0 d1 => by
  rw [Tn (plan0 := fun _ => []) (fun u hu => by have := hw0 u hu; omega) fun t htm p hp e => by
   rw [user t htm p hp e d d1, if_neg (by omega), Fn]
   rfl]
  unfold Ba
  rw [show Bf (wAt w.name d) (noS S).wants = 0 from rfl, Ec fun t htm => ?_]
  ·rfl
  ·unfold pAt
   exact Ec fun p hp => by
    rw [Fn]
    split
    ·exact Int.mul_zero _
    ·rfl
 have E1 := (E.wb w hw).1.1
 refine ⟨?_, fun d d0 d1 => ?_⟩
 ·rw [Kr L1 (show w ∈ (Cy T S).wares from hw), Kr L0 (show w ∈ (noS S).wares from hw), Eo (by omega), Eo (by rw [Kn]; omega)]
  have x1 : (At (daysN (Cy T S)) (Bh w)).getD 0 0 = Bh w 0 := Bg (by omega)
  have x0 : (At (daysN (noS S)) (Bh w)).getD 0 0 = Bh w 0 := Bg (by rw [Kn]; omega)
  have y1 : (Ao (Cy T S) (LR (Cy T S)) w.name).getD 0 0 = Ba (Cy T S) (LR (Cy T S)) w.name 0 := Bg (by omega)
  have y0 : (Ao (noS S) (LR (noS S)) w.name).getD 0 0 = Ba (noS S) (LR (noS S)) w.name 0 := Bg (by rw [Kn]; omega)
  show Bv (-(-w.floor + ((At (daysN (Cy T S)) (Bh w)).getD 0 0 - (Ao (Cy T S) (LR (Cy T S)) w.name).getD 0 0))) w.gives = Bv (-(-w.floor + ((At (daysN (noS S)) (Bh w)).getD 0 0 - (Ao (noS S) (LR (noS S)) w.name).getD 0 0))) w.gives
  rw [x1, x0, y1, y0, nd0]
 ·by_cases hd : d < daysN (Cy T S)
  ·rw [Kr L1 (show w ∈ (Cy T S).wares from hw), Eo hd]
   obtain ⟨k, rfl⟩ : ∃ k, d = k + 1 := ⟨d - 1, by omega⟩
   have q1 := Kq (f := w.floor) (g := w.gives) (xs := At (daysN (Cy T S)) (Bh w)) (ys := Ao (Cy T S) (LR (Cy T S)) w.name) (by omega) k
   have q2 := Od E hw (k + 1)
   unfold G4
   refine Ih (by omega) ?_
   have q3 : (At (daysN (Cy T S)) (Bh w)).getD (k + 1) 0 = Bh w (k + 1) := Bg hd
   have q4 : (Ao (Cy T S) (LR (Cy T S)) w.name).getD (k + 1) 0 = 0 := by unfold Ao; rw [Bg hd, ndd _ d0 d1]
   rw [q3, q4]
   omega
  ·exact E5 (by rw [Io L1 (show w ∈ (Cy T S).wares from hw)]; omega)
theorem Tu {S : Sh} (L : Lev S) (E : Oh S) (hl : ∀ w ∈ S.wares, 0 <= w.lag) {T : Int} (hT : ∀ w ∈ S.wares, tm S w.name <= T) (hw0 : ∀ u ∈ S.wants, 0 <= u.2.1) (h1 : 1 <= daysN (Cy T S)) (h0 : Bc (noS S)) : Bc (Cy T S) := fun w hw => by
 have hw : w ∈ S.wares := hw
 have ht := Yh L hl hw
 have hlw := hl w hw
 refine (show Cm (LR (Cy T S) w.name) w.lag (LR (Cy T S) w.name).length = none from O9 fun e he c => ?_)
 obtain ⟨a1, a2⟩ := Z7 L E hl hT hw0 h1 (lv S w.name).toNat w hw (by have := Tr S w.name; omega) (by omega)
 by_cases z : e = 0
 ·subst z
  rw [a1] at c
  have L0 : Lev (noS S) := Iw L rfl
  have q := Ez (show Cm (LR (noS S) w.name) w.lag (LR (noS S) w.name).length = none from h0 w hw) 0 (by rw [Io L0 hw, Kn]; omega)
  exact q c
 ·rw [a2 e (by omega) (by omega)] at c
  omega
theorem Good.off {sz n : Int} {S : Sh} (g : Good sz S) (h : 0 <= n) : Good (sz + n) ⟨S.wares, S.wants.map (X9 n)⟩ := by
 refine ⟨g.ws, g.len, fun w hw => ⟨(g.com w hw).1, fun y hy => ?_⟩, ⟨by rw [Zzz]; exact g.wants.1, fun u hu => ?_⟩⟩
 ·obtain ⟨⟨a, b⟩, c⟩ := (g.com w hw).2 y hy
  exact ⟨⟨a, by omega⟩, c⟩
 ·obtain ⟨y, hy, rfl⟩ := Zzx.mp hu
  obtain ⟨q0, ⟨q1, q2⟩, q3⟩ := g.wants.2 y hy
  exact ⟨q0, ⟨by show 0 <= y.2.1 + n; omega, by show y.2.1 + n < sz + n; omega⟩, q3⟩
theorem Good.none {sz : Int} {S : Sh} (g : Good sz S) : Good sz (noS S) := ⟨g.ws, g.len, g.com, ⟨Zyq _, fun u hu => by cases hu⟩⟩
def Fg (Pt : Addr) : Sp := fun vs H Q _ => ∃ (v : V) (S : Sh) (sz : Int), vs = [v] /\ RD H S.d v /\ Good sz S /\ 0 < sz /\ sz <= 1000 /\ Tb H Pt /\ ∀ (b : Bool) H', (b = true ↔ Bc S) -> Tb H' Pt -> But Pt H H' -> Q (.bl b) H'
theorem Jy : Aj ["shop"] ["shop"] (A8 Dd) := by constructor <;> first | rfl | decide +kernel
theorem Ri (F : Fun K "lets_plan" "lets_plan" Dd f fd) (T : Txt mg) (C : Exc K mg c) (Zt7 : Has P w K mg base "planned" 7 ["shop"] (Jc Pt)) : FnOk P w K mg base CX0 8 f fd ["shop"] (Fg Pt) := by
 refine F.ok Jy (fun vs H Q E h => ?_) (fun cdv A outer s H vs Q E hr h => ?_)
 ·obtain ⟨v, S, sz, rfl, _⟩ := h
  rfl
 ·obtain ⟨v, S, sz, rfl, rs, g, z0, z1, tb, k⟩ := h
  have hu := Aq hr
  refine ⟨_, (A9 (Af (M7 (Da hu) (Ab hu (Aa Zt7 hr.z rfl (A4 (pv 0) A1)) A7 (fun _ _ => rfl)) Ce (B2 _)))), ?_⟩
  walk_at "rd"
  refine ⟨v, S, sz, rfl, rs, g, z0, z1, tb, fun t p ys i H1 ht hp tp sb ra hne tb1 bt1 hcase => ?_⟩
  have so := Py sb
  rcases hcase with ⟨hi, h1⟩ | ⟨wr, d, hwr, hi, hed, h1⟩
  ·refine ⟨_, Ag (j := 0) h1 rfl, rfl, k _ H1 ⟨fun _ w hw => hne w hw ?_, fun _ => by decide⟩ tb1 bt1⟩
   rw [hi, Zyu]
   exact so.1.mem_iff.mpr (Zzx.mpr ⟨w, hw, rfl⟩)
  ·refine ⟨_, Ag (j := 0) h1 rfl, rfl, k _ H1 ⟨fun z => absurd z (by decide), fun z => by rw [z wr hwr] at hed; cases hed⟩ tb1 bt1⟩
def mn (S : Sh) (n : Int) : Prop := 0 <= n /\ Bc (noS S) /\ Bc (Cy n S) /\ (n = 0 \/ ¬ Bc (Cy (n - 1) S)) /\ ∃ w ∈ S.wares, n <= tm S w.name
def Vj (Pt : Addr) : Sp := fun vs H Q _ => ∃ (v : V) (S : Sh) (sz : Int), vs = [v] /\ RD H S.d v /\ Good sz S /\ 0 < sz /\ sz <= 401 /\ Tb H Pt /\ (∀ H', ¬ Bc (noS S) -> Tb H' Pt -> But Pt H H' -> Q .non H') /\ ∀ (n : Int) H', mn S n -> Tb H' Pt -> But Pt H H' -> Q (.int n) H'
def jg (v : V) (S : Sh) (Pt : Addr) (M : Int) (H : Hp) (m : Nat) (σ : St) (H' : Hp) : Prop := ∃ (e l : Int) (o3 : Option V), m = (e - l).toNat /\ σ = [some v, some (.int e), some (.int l), o3] /\ 0 <= l /\ l <= e /\ e <= M /\ Bc (Cy e S) /\ (l = 0 \/ ¬ Bc (Cy (l - 1) S)) /\ Tb H' Pt /\ But Pt H H'
theorem sc_late : Aj ["shop", "enough", "least", "middle"] ["shop"] (A8 Je) := by constructor <;> first | rfl | decide +kernel
theorem Vw (F : Fun K "late" "late" Je f fd) (T : Txt mg) (C : Exc K mg c) (Zvo : Has P w K mg base "lets_plan" 8 ["shop"] (Fg Pt)) (Zue : Has P w K mg base "times" 7 ["shop"] (Mm Pt)) (Ztt : Has P w K mg base "put_off" 5 ["shop", "days"] sp_put_off) : FnOk P w K mg base CX0 9 f fd ["shop"] (Vj Pt) := by
 refine F.ok sc_late (fun vs H Q E h => ?_) (fun cdv A outer s H vs Q E hr h => ?_)
 ·obtain ⟨v, S, sz, rfl, _⟩ := h
  rfl
 ·obtain ⟨v, S, sz, rfl, rs, g, z0, z1, tb, k1, k2⟩ := h
  have hu := Aq hr
  refine ⟨_, (A2 (Bp (R8 (Ky (Aa Zvo hr.z rfl (A4 (Br (A4 (Ab hu (pv 0) A7 (fun _ _ => rfl)) (A4 (Br A1) A1))) A1)))) (A9 (Af Hc)) Au)
 (A2 (Ac (i := 1) sc_late.nd rfl (Zzq rfl) (Up rfl rfl T.Ztj (Aa Zue hr.z rfl (A4 (pv 0) A1))))
 (A2 (Ac (i := 2) sc_late.nd rfl (Zzq rfl) A7)
 (A2 (Ic PassesOwn.never (Al (F0 hu) (pv 2) (pv 1) (B2 _)) (A2 (Ac (i := 3) sc_late.nd rfl (Zzq rfl) (Am G1 (Am Ca (pv 2) (pv 1)) A7))
 (A9 (Bp (Ky (Aa Zvo hr.z rfl (A4 (Aa Ztt hr.z rfl (A4 (pv 0) (A4 (pv 3) A1))) A1))) (A9 (Ac (i := 1) sc_late.nd rfl (Zzq rfl) (pv 3))) (A9 (Ac (i := 2) sc_late.nd rfl (Zzq rfl) (Am Ca (pv 3) A7)))))))
 (A9 (Af (pv 1))))))), ?_⟩
  walk_at "rd"
  obtain ⟨sa, sb, sc, ws, us, ev, ha, hb, hc, rws, rus⟩ := Cj rs
  have L := Gs g
  have E := Ma g
  have hl : ∀ w ∈ S.wares, 0 <= w.lag /\ w.lag <= 30 := fun w hw => (g.ws.wb w hw).lag
  have hfew := g.len
  refine ⟨_, by rw [ev]; exact Ag (j := 0) ha rfl, by decide, fun p hp => ⟨by decide, fun q hq => ?_⟩⟩
  have u1 := A6 (o := .tup []) hp
  have u2 := A6 (o := .tup [.ref sb, .ref p]) hq
  have s2 := u1.trans u2
  have rs0 : RD (upd (upd H p (.tup [])) q (.tup [.ref sb, .ref p])) (noS S).d (.ref q) := by
   unfold noS Sh.d
   exact RD.tup_mk A0 (RDs.cons (RD.tup_mk (s2 _ _ hb) (RDs.same s2 _ _ rws)) (RDs.one (RD.tup_mk (xs := []) (u2 _ _ A0) RDs.nil)))
  generalize upd (upd H p (.tup [])) q (.tup [.ref sb, .ref p]) = H2 at s2 rs0
  refine ⟨.ref q, noS S, sz, rfl, rs0, g.none, z0, by omega, tb.same s2, fun b H3 hb3 tb3 bt3 => ⟨b, rfl, ?_⟩⟩
  have bt03 : But Pt H H3 := (Be s2).trans bt3
  have rs3 := RD.ku (Hs tb bt03) _ _ (Co S) rs
  refine D3 (fun c => ?_) (fun c => ?_)
  ·exact k1 H3 (fun z => by rw [hb3.mpr z] at c; cases c) tb3 bt03
  have h0 : Bc (noS S) := hb3.mp (by cases b with | true => rfl | false => exact absurd rfl c)
  refine ⟨v, S, rfl, rs3, L, tb3, fun p4 ys H4 hp4 hd4 pm tb4 bt4 => ⟨p4, rfl, _, hd4, ys.map (tm S), ?_, ?_, ?_⟩⟩
  ·unfold fnD
   rw [Zyk, Zyk]
   rfl
  ·intro z
   have := congrArg Zxb z
   rw [Zzz, pm.length_eq, Dv, Zw3] at this
   omega
  have bt04 := bt03.trans bt4
  have hne : ys.map (tm S) ≠ [] := fun z => by
   have := congrArg Zxb z
   rw [Zzz, pm.length_eq, Dv, Zw3] at this
   omega
  have mge : ∀ w ∈ S.wares, tm S w.name <= Ke (ys.map (tm S)) := fun w hw => Rp (Zzx.mpr ⟨w.name, pm.mem_iff.mpr (Zzx.mpr ⟨w, hw, rfl⟩), rfl⟩)
  obtain ⟨nm, hnm, enm⟩ := Zzx.mp (G3 hne)
  obtain ⟨wm, hwm, rfl⟩ := Zzx.mp (pm.mem_iff.mp hnm)
  have m360 : tm S wm.name <= 360 := by
   have := Yi hl S.wares.length wm.name
   unfold tm
   omega
  have m0 : 0 <= tm S wm.name := Ui (fun w hw => (hl w hw).1) _ _
  rw [<- enm] at mge ⊢
  have go : ∀ {n : Int}, 0 <= n -> n <= 360 -> Good (sz + n) (Cy n S) := fun h _ => g.off h
  have hw0 : ∀ u ∈ S.wants, 0 <= u.2.1 := fun u hu => (g.wants.2 u hu).2.1.1
  have he : Bc (Cy (tm S wm.name) S) := Tu L.toLev E (fun w hw => (hl w hw).1) mge hw0 ((go m0 m360).days (by omega) (by omega)).1 h0
  have hM : ∃ w ∈ S.wares, tm S wm.name <= tm S w.name := ⟨wm, hwm, Zz6 _⟩
  obtain ⟨M, eM0⟩ : ∃ M, M = tm S wm.name := ⟨_, rfl⟩
  rw [<- eM0] at mge m360 m0 he hM ⊢
  refine ⟨jg v S Pt M H, ⟨_, M, 0, none, rfl, rfl, Zz6 _, m0, Zz6 _, he, .inl rfl, tb4, bt04⟩, fun m σ H5 hW => ?_⟩
  obtain ⟨e, l, o3, rfl, rfl, l0, le, eM, pe, pl, tb5, bt5⟩ := hW
  have rs5 := RD.ku (Hs tb bt5) _ _ (Co S) rs
  walk_at "rd"
  refine D3 (fun c => ?_) (fun c => ?_)
  ·have c := of_decide_eq_true c
   refine ⟨fun σ' H' => ∃ m', m' < (e - l).toNat /\ jg v S Pt M H m' σ' H', fun σ' H' z => z, ?_⟩
   refine ⟨by decide, by decide +kernel, v, S, (l + e) / 2, rfl, rs5, g.ok, g.no, by have := g.wants.1; omega, fun x H6 rx s6 => ?_⟩
   have d0 : l <= (l + e) / 2 := by omega
   have d1 : (l + e) / 2 < e := by omega
   generalize (l + e) / 2 = mid at rx d0 d1
   refine ⟨x, Cy mid S, sz + mid, rfl, rx, go (by omega) (by omega), by omega, by omega, tb5.same s6, fun b7 H7 hb7 tb7 bt7 => ⟨b7, rfl, ?_⟩⟩
   have bt07 := bt5.trans ((Be s6).trans bt7)
   refine D3 (fun c7 => ?_) (fun c7 => ?_)
   ·exact ⟨(mid - l).toNat, by omega, mid, l, _, rfl, rfl, l0, d0, by omega, hb7.mp c7, pl, tb7, bt07⟩
   ·refine ⟨(e - (mid + 1)).toNat, by omega, e, mid + 1, _, rfl, rfl, by omega, by omega, eM, pe, .inr (fun z => ?_), tb7, bt07⟩
    rw [show mid + 1 - 1 = mid by omega] at z
    exact c7 (hb7.mpr z)
  ·have c : ¬ l < e := fun z => c (decide_eq_true z)
   obtain rfl : l = e := by omega
   obtain ⟨w, hw, hwM⟩ := hM
   exact k2 l H5 ⟨l0, h0, pe, pl, w, hw, by omega⟩ tb5 bt5
end
set_option maxHeartbeats 4000000
section
variable {P : Program} {w : World} {K : Zzu} {mg : Str -> Option Value} {base : Heap} {f : Addr} {fd : FuncData} {c : Cl} {Pt : Addr}
theorem Ug {f : Nat -> Int} : ∀ d, (∀ i, i < d -> 0 <= f i) -> 0 <= upS f d
 | 0, _ => Zz6 _
 | d + 1, h => by
  show 0 <= upS f d + f d
  have := Ug d fun i hi => h i (by omega)
  have := h d (by omega)
  omega
theorem Mj {f : Nat -> Int} : ∀ d, (∀ i, i < d -> f i = 0) -> upS f d = 0
 | 0, _ => rfl
 | d + 1, h => by show upS f d + f d = 0; rw [Mj d fun i hi => h i (by omega), h d (by omega)]; rfl
theorem Pp (f : Nat -> Int) (k : Nat) : ∀ d, upS (fun i => f (i + k)) d = upS f (d + k) - upS f k
 | 0 => by show (0 : Int) = upS f (0 + k) - upS f k; rw [Nat.zero_add]; omega
 | d + 1 => by
  show upS (fun i => f (i + k)) d + f (d + k) = upS f (d + 1 + k) - upS f k
  rw [Pp f k d, show d + 1 + k = (d + k) + 1 by omega]
  show _ = upS f (d + k) + f (d + k) - upS f k
  omega
theorem Su {α : Type} (f g : α -> Int) : ∀ l : List α, Bf (fun x => f x + g x) l = Bf f l + Bf g l
 | [] => rfl
 | x :: r => by rw [Cr, Cr, Cr, Su f g r]; omega
theorem Pw {α : Type} {f g : α -> Int} : ∀ {l : List α}, (∀ x ∈ l, f x <= g x) -> Bf f l <= Bf g l
 | [], _ => Zz6 _
 | x :: r, h => by
  rw [Cr, Cr]
  have := h x Zzb
  have := Pw fun y hy => h y (Zze _ hy)
  omega
theorem Wo {S : Sh} (L : Lev S) {P : Wr -> Prop} (h : ∀ w ∈ S.wares, (∀ t ∈ S.wares, ∀ p ∈ t.parts, p.1 = w.name -> P t) -> P w) : ∀ w ∈ S.wares, P w := by
 have : ∀ n : Nat, ∀ w ∈ S.wares, lv S w.name <= n -> P w := by
  intro n
  induction n using Nat.strongRecOn with
  | _ n ih =>
  intro w hw hl
  refine h w hw fun t ht p hp e => ?_
  have h1 := Kf L ht hp
  rw [e] at h1
  have h0 := Tr S t.name
  exact ih (lv S t.name).toNat (by omega) t ht (by omega)
 exact fun w hw => this (lv S w.name).toNat w hw (by have := Tr S w.name; omega)
theorem Of {f g : Int} {xs ys xs' ys' : List Int} : ∀ {i : Nat}, (∀ j, j < i -> xs.getD j 0 = xs'.getD j 0 /\ ys.getD j 0 = ys'.getD j 0) -> above f g xs ys i = above f g xs' ys' i
 | 0, _ => rfl
 | i + 1, h => by
  have a := Of (f := f) (g := g) (i := i) fun j hj => h j (by omega)
  obtain ⟨e1, e2⟩ := h i (by omega)
  rw [above, above, a, e1, e2]
def Bn (u : Wt) (S : Sh) : Sh := ⟨S.wares, S.wants ++ [u]⟩
theorem Xv {S : Sh} (u : Wt) (h0 : ∀ x ∈ S.wants, 0 <= x.2.1) (hu : 0 <= u.2.1) : daysN S <= daysN (Bn u S) := by
 unfold daysN Bn
 have h1 : Cz (S.wants.map fun u => u.2.1) <= Cz ((S.wants ++ [u]).map fun u => u.2.1) := by
  refine Vz (Hh fun x hx => ?_) fun x hx => Iv ?_
  ·obtain ⟨y, hy, rfl⟩ := Zzx.mp hx
   rcases Zz4.mp hy with z | z
   ·exact h0 y z
   ·rw [Zzd.mp z]; exact hu
  ·rw [Zzg]
   exact Zy7 _ hx
 have h2 := Hh (ns := S.wants.map fun u => u.2.1) fun x hx => by obtain ⟨y, hy, rfl⟩ := Zzx.mp hx; exact h0 y hy
 show (1 + Cz (S.wants.map fun u => u.2.1)).toNat <= (1 + Cz ((S.wants ++ [u]).map fun u => u.2.1)).toNat
 omega
theorem ai {S : Sh} {u : Wt} (hu : u ∈ S.wants) : u.2.1 < ((daysN S : Nat) : Int) := by
 unfold daysN
 have := Iv (ns := S.wants.map fun u => u.2.1) (Zzx.mpr ⟨u, hu, rfl⟩)
 omega
theorem Za {S : Sh} (L : Lev S) {nm : Str} {d : Nat} (hd : daysN S <= d) : Ba S (LR S) nm d = 0 := by
 unfold Ba
 have z1 : Bf (wAt nm d) S.wants = 0 := Ec fun u hu => by
  have hu1 := ai hu
  have ne : ¬ (u.1 = nm /\ u.2.1 = (d : Int)) := fun e => by have := e.2; omega
  unfold wAt
  rw [if_neg ne]
 have z2 : Bf (pAt (LR S) nm d) S.wares = 0 := Ec fun t ht => by
  unfold pAt
  refine Ec fun p hp => ?_
  rw [Fn, E5 (by rw [Io L ht]; omega)]
  split
  ·exact Int.mul_zero _
  ·rfl
 rw [z1, z2]
 rfl
theorem bd {S : Sh} {u : Wt} (L : Lev S) (E : Oh S) (hl : ∀ w ∈ S.wares, 0 <= w.lag) (h0 : ∀ x ∈ S.wants, 0 <= x.2.1) (hu : 0 <= u.2.1) (c : u.2.2 = 0 \/ tm S u.1 <= u.2.1) (h1 : 1 <= daysN S) : ∀ w ∈ S.wares, ∀ d : Nat, (u.2.2 = 0 \/ (d : Int) < tm S w.name) -> (LR (Bn u S) w.name).getD d 0 = (LR S w.name).getD d 0 := by
 have L1 : Lev (Bn u S) := Iw L rfl
 have hd := Xv u h0 hu
 refine Wo L fun w hw ih => ?_
 have hg := (E.wb w hw).1.1
 have nd : ∀ d : Nat, (u.2.2 = 0 \/ (d : Int) < tm S w.name) -> Ba (Bn u S) (LR (Bn u S)) w.name d = Ba S (LR S) w.name d := fun d hc => by
  unfold Ba
  have z1 : Bf (wAt w.name d) (Bn u S).wants = Bf (wAt w.name d) S.wants := by
   show Bf (wAt w.name d) (S.wants ++ [u]) = _
   rw [Ss, Sr]
   have : wAt w.name d u = 0 := by
    unfold wAt
    split
    ·rename_i e
     rcases hc with z | z
     ·exact z
     ·rcases c with y | y
      ·exact y
      ·rw [e.1, e.2] at y
       omega
    ·rfl
   omega
  rw [z1]
  congr 1
  refine Du fun t ht => ?_
  unfold pAt
  refine Du fun p hp => ?_
  by_cases e : p.1 = w.name
  ·have q := Ve L ht hp
   rw [e] at q
   have := hl t ht
   rw [if_pos e, if_pos e, Fn, Fn, ih t ht p hp e _ (hc.imp id fun z => by omega)]
  ·rw [if_neg e, if_neg e]
 intro d hc
 by_cases c1 : d < daysN S
 ·rw [Kr L1 (show w ∈ (Bn u S).wares from hw), Kr L hw, Eo (by omega), Eo c1]
  have sm : ∀ j, j <= d -> (At (daysN (Bn u S)) (Bh w)).getD j 0 = (At (daysN S) (Bh w)).getD j 0 /\ (Ao (Bn u S) (LR (Bn u S)) w.name).getD j 0 = (Ao S (LR S) w.name).getD j 0 := fun j hj => by
   unfold Ao
   rw [Bg (by omega), Bg (by omega), Bg (by omega), Bg (by omega), nd j (hc.imp id fun z => by omega)]
   exact ⟨rfl, rfl⟩
  unfold G4
  rw [Of (fun j hj => sm j (by omega)), (sm d (Zzt _)).1, (sm d (Zzt _)).2]
 ·rw [E5 (xs := LR S w.name) (by rw [Io L hw]; omega)]
  by_cases c2 : d < daysN (Bn u S)
  ·rw [Kr L1 (show w ∈ (Bn u S).wares from hw), Eo c2]
   obtain ⟨k, rfl⟩ : ∃ k, d = k + 1 := ⟨d - 1, by omega⟩
   have q1 := Kq (f := w.floor) (g := w.gives) (xs := At (daysN (Bn u S)) (Bh w)) (ys := Ao (Bn u S) (LR (Bn u S)) w.name) (by omega) k
   have q2 := Od E hw (k + 1)
   unfold G4
   refine Ih (by omega) ?_
   have q3 : (At (daysN (Bn u S)) (Bh w)).getD (k + 1) 0 = Bh w (k + 1) := Bg c2
   have q4 : (Ao (Bn u S) (LR (Bn u S)) w.name).getD (k + 1) 0 = 0 := by unfold Ao; rw [Bg c2, nd _ hc, Za L (by omega)]
   rw [q3, q4]
   omega
  ·exact E5 (by rw [Io L1 (show w ∈ (Bn u S).wares from hw)]; omega)
theorem Y8 {S : Sh} {u : Wt} (L : Lev S) (E : Oh S) (hl : ∀ w ∈ S.wares, 0 <= w.lag) (h0 : ∀ x ∈ S.wants, 0 <= x.2.1) (hu : 0 <= u.2.1) (c : u.2.2 = 0 \/ tm S u.1 <= u.2.1) (h1 : 1 <= daysN S) (h : Bc S) : Bc (Bn u S) := fun w hw => by
 have hw : w ∈ S.wares := hw
 have ht := Yh L hl hw
 refine (show Cm (LR (Bn u S) w.name) w.lag (LR (Bn u S) w.name).length = none from O9 fun e he z => ?_)
 rw [bd L E hl h0 hu c h1 w hw e (.inr (by omega))] at z
 have q := Ez (show Cm (LR S w.name) w.lag (LR S w.name).length = none from h w hw) e
 by_cases y : e < (LR S w.name).length
 ·exact q y z
 ·rw [E5 (by omega)] at z
  omega
def cB (A : Int) : Nat -> Int
 | 0 => A
 | k + 1 => A + 100 * cB A k
theorem jb {A : Int} (h : 0 <= A) : ∀ k, A <= cB A k
 | 0 => Zz6 _
 | k + 1 => by rw [cB]; have := jb h k; omega
theorem Sm {f g : Nat -> Int} : ∀ d, (∀ i, i < d -> f i <= g i) -> upS f d <= upS g d
 | 0, _ => Zz6 _
 | d + 1, h => by
  show upS f d + f d <= upS g d + g d
  have := Sm d fun i hi => h i (by omega)
  have := h d (by omega)
  omega
theorem Jr {α : Type} {f : α -> Int} : ∀ {l : List α} {x : α}, (∀ y ∈ l, 0 <= f y) -> x ∈ l -> f x <= Bf f l
 | y :: r, x, h, hx => by
  rw [Cr]
  have h1 := h y Zzb
  have h2 : 0 <= Bf f r := Ff fun z hz => h z (Zze _ hz)
  rcases Zzk.mp hx with z | z
  ·rw [z]; omega
  ·have := Jr (fun z hz => h z (Zze _ hz)) z
   omega
theorem Zf {ns : List Int} (h : 0 < Cz ns) : Cz ns ∈ ns := by
 unfold Cz at h ⊢
 split at h
 ·omega
 ·rename_i e
  rw [if_neg e]
  exact G3 e
theorem Ye (S : Sh) (plan : Str -> List Int) (w : Wr) : ∀ d, upS (Ph S plan w) d = upS (Bh w) d + w.gives * upS (fun e => (plan w.name).getD e 0) d - upS (Ba S plan w.name) d
 | 0 => by show (0 : Int) = 0 + w.gives * 0 - 0; omega
 | d + 1 => by
  show upS (Ph S plan w) d + Ph S plan w d = upS (Bh w) d + Bh w d + w.gives * (upS (fun e => (plan w.name).getD e 0) d + (plan w.name).getD d 0) - (upS (Ba S plan w.name) d + Ba S plan w.name d)
  rw [Ye S plan w d, Int.mul_add]
  unfold Ph
  omega
theorem Qb {S : Sh} (L : Lev S) (E : Oh S) (hl : ∀ w ∈ S.wares, 0 <= w.lag) (g100 : ∀ w ∈ S.wares, w.gives <= 100) {A : Int} (hA : 0 <= A) (arr : ∀ w ∈ S.wares, ∀ n, upS (Bh w) n <= A) (hp : Bc S) {r : Str -> Nat} (r2 : ∀ w ∈ S.wares, ∀ p ∈ w.parts, r p.1 < r w.name) {k : Nat}
  (ih : ∀ k', k = k' + 1 -> ∀ w ∈ S.wares, r w.name <= k' -> ∀ d : Nat, d < daysN S -> (d : Int) < tm S w.name -> upS (Ba S (LR S) w.name) (d + 1) <= cB A k') {w : Wr} (hw : w ∈ S.wares) (hr : r w.name <= k) {d : Nat} (hd : d < daysN S) (ht : (d : Int) < tm S w.name) : upS (Ba S (LR S) w.name) (d + 1) <= cB A k := by
 have hg := (E.wb w hw).1.1
 have hf := (E.wb w hw).2.1.1
 have hlw := hl w hw
 have row_nn : ∀ t ∈ S.wares, ∀ e, 0 <= (LR S t.name).getD e 0 := fun t ht e => by
  rw [Zza]
  cases q : (LR S t.name)[e]? with
  | none => exact Zz6 _
  | some x => exact (Ol E t.name x (Zzn q)).1
 have early0 : ∀ e : Nat, (e : Int) < w.lag -> (LR S w.name).getD e 0 = 0 := fun e he => by
  have q := Ez (show Cm (LR S w.name) w.lag (LR S w.name).length = none from hp w hw) e
  by_cases y : e < (LR S w.name).length
  ·have := q y
   have := row_nn w hw e
   omega
  ·exact E5 (by omega)
 have hab := R3 (f := w.floor) (g := w.gives) (xs := At (daysN S) (Bh w)) (ys := Ao S (LR S) w.name) (n := daysN S) (Ph S (LR S) w) (fun i hi => by
  unfold Ph Ao
  rw [Bg hi, Bg hi, Kr L hw, Eo hi]
  rfl) (d + 1) (by omega)
 have hnn := Kq (f := w.floor) (g := w.gives) (xs := At (daysN S) (Bh w)) (ys := Ao S (LR S) w.name) (by omega) d
 rw [hab, Ye] at hnn
 have ha := arr w hw (d + 1)
 have hA2 := jb hA k
 by_cases c : (d : Int) < w.lag
 ·rw [Mj (d + 1) (fun i hi => early0 i (by omega)), Int.mul_zero] at hnn
  omega
 ·have etm := Vf L hw
  have hm := Zf (ns := w.parts.map fun p => tm S p.1) (by omega)
  obtain ⟨p, hpm, ep⟩ := Zzx.mp hm
  obtain ⟨t, htm, et⟩ := Zzx.mp (L.own w hw p hpm)
  have hrt := r2 w hw p hpm
  obtain ⟨k', rfl⟩ : ∃ k', k = k' + 1 := ⟨k - 1, by omega⟩
  have hb := ih k' rfl t htm (by rw [et]; omega) (d - w.lag.toNat) (by omega) (by rw [et, ep]; omega)
  have hU : upS (fun e => (LR S w.name).getD e 0) (d + 1) <= upS (Ba S (LR S) t.name) (d - w.lag.toNat + 1) := by
   have sh := Pp (fun e => (LR S w.name).getD e 0) w.lag.toNat (d - w.lag.toNat + 1)
   rw [Mj w.lag.toNat (fun i hi => early0 i (by omega)), show d - w.lag.toNat + 1 + w.lag.toNat = d + 1 by omega, Int.sub_zero] at sh
   rw [<- sh]
   refine Sm _ fun i _ => ?_
   show (LR S w.name).getD (i + w.lag.toNat) 0 <= Ba S (LR S) t.name i
   rw [<- Fn]
   have bn : ∀ t' ∈ S.wares, 0 <= bAt (LR S t'.name) t'.lag i := fun t' ht' => by rw [Fn]; exact row_nn t' ht' _
   have pn : ∀ t' ∈ S.wares, ∀ q ∈ t'.parts, 0 <= (if q.1 = t.name then q.2 * bAt (LR S t'.name) t'.lag i else 0) := fun t' ht' q hq => by
    split
    ·exact Zwz (by have := ((E.wb t' ht').2.2.2.2 q hq).1; omega) (bn t' ht')
    ·exact Zz6 _
   have w0 : 0 <= Bf (wAt t.name i) S.wants := Ff fun u hu => by
    unfold wAt
    split
    ·exact (E.wt.2 u hu).1
    ·exact Zz6 _
   have s1 : pAt (LR S) t.name i w <= Bf (pAt (LR S) t.name i) S.wares := Jr (fun t' ht' => Ff fun q hq => pn t' ht' q hq) hw
   have s2 : (if p.1 = t.name then p.2 * bAt (LR S w.name) w.lag i else 0) <= pAt (LR S) t.name i w := Jr (f := fun q : Str × Int => if q.1 = t.name then q.2 * bAt (LR S w.name) w.lag i else 0) (fun q hq => pn w hw q hq) hpm
   rw [if_pos et.symm] at s2
   have s3 : 1 * bAt (LR S w.name) w.lag i <= p.2 * bAt (LR S w.name) w.lag i := Int.mul_le_mul_of_nonneg_right ((E.wb w hw).2.2.2.2 p hpm).1 (bn w hw)
   unfold Ba
   omega
  have hU0 : 0 <= upS (fun e => (LR S w.name).getD e 0) (d + 1) := Ug _ fun i _ => row_nn w hw i
  have h100 : w.gives * upS (fun e => (LR S w.name).getD e 0) (d + 1) <= 100 * upS (fun e => (LR S w.name).getD e 0) (d + 1) := Int.mul_le_mul_of_nonneg_right (g100 w hw) hU0
  rw [cB]
  omega
theorem Us {S : Sh} (L : Lev S) (E : Oh S) (hl : ∀ w ∈ S.wares, 0 <= w.lag) (g100 : ∀ w ∈ S.wares, w.gives <= 100) {A : Int} (hA : 0 <= A) (arr : ∀ w ∈ S.wares, ∀ n, upS (Bh w) n <= A) (hp : Bc S) {r : Str -> Nat} (r2 : ∀ w ∈ S.wares, ∀ p ∈ w.parts, r p.1 < r w.name) :
  ∀ (k : Nat), ∀ w ∈ S.wares, r w.name <= k -> ∀ d : Nat, d < daysN S -> (d : Int) < tm S w.name -> upS (Ba S (LR S) w.name) (d + 1) <= cB A k := by
 intro k
 induction k with
 | zero => exact fun w hw hr d hd ht => Qb L E hl g100 hA arr hp r2 (fun k' e => by cases e) hw hr hd ht
 | succ k ih => exact fun w hw hr d hd ht => Qb L E hl g100 hA arr hp r2 (fun k' e => by cases e; exact ih) hw hr hd ht
theorem Y6 {w : Wr} {A : Int} (h0 : 0 <= w.stock) (hc : ∀ p ∈ w.coming, 0 <= p.1 /\ 0 <= p.2) (hA : w.stock + Bf (fun p : Int × Int => p.2) w.coming <= A) (n : Nat) : upS (Bh w) n <= A := by
 have e : ∀ n, upS (Bh w) n = (if n = 0 then 0 else w.stock) + Bf (fun p : Int × Int => if p.1 < (n : Int) then p.2 else 0) w.coming := fun n => by
  induction n with
  | zero =>
   rw [if_pos rfl, Ec fun p hp => ?_]
   ·rfl
   ·have := (hc p hp).1
    rw [if_neg (by omega)]
  | succ n ih =>
   show upS (Bh w) n + Bh w n = _
   rw [ih, if_neg (Nat.succ_ne_zero n)]
   unfold Bh
   have e2 : Bf (fun p : Int × Int => if p.1 < ((n + 1 : Nat) : Int) then p.2 else 0) w.coming = Bf (fun p : Int × Int => if p.1 < (n : Int) then p.2 else 0) w.coming + Bf (cAt n) w.coming := by
    rw [<- Su]
    refine Du fun p hp => ?_
    unfold cAt
    by_cases c1 : p.1 < (n : Int)
    ·rw [if_pos (by omega), if_pos c1, if_neg (by omega), Zxj]
    ·by_cases c2 : p.1 = (n : Int)
     ·rw [if_pos (by omega), if_neg c1, if_pos c2, Int.zero_add]
     ·rw [if_neg (by omega), if_neg c1, if_neg c2]
      rfl
   rw [e2]
   by_cases z : n = 0
   ·subst z
    rw [if_pos rfl, if_pos rfl]
    omega
   ·rw [if_neg z, if_neg z]
    omega
 rw [e]
 have h2 : Bf (fun p : Int × Int => if p.1 < (n : Int) then p.2 else 0) w.coming <= Bf (fun p : Int × Int => p.2) w.coming := Pw fun p hp => by
  split
  ·exact Zz6 _
  ·exact (hc p hp).2
 split <;> omega
theorem Vg (u : Wt) (S : Sh) : ∀ k x, tmF (Bn u S) k x = tmF S k x
 | 0, x => rfl
 | k + 1, x => by
  rw [tmF, tmF, show Hr (Bn u S) x = Hr S x from rfl]
  cases Hr S x with
  | none => rfl
  | some w =>
   show w.lag + Cz (w.parts.map fun p => tmF (Bn u S) k p.1) = w.lag + Cz (w.parts.map fun p => tmF S k p.1)
   congr 2
   exact Zy9 fun p _ => Vg u S k p.1
theorem jk (u : Wt) (S : Sh) (x : Str) : tm (Bn u S) x = tm S x := Vg u S S.wares.length x
theorem Y9 {S : Sh} {u : Wt} {sz : Int} (g : Good sz (Bn u S)) (hz : 0 < sz) (hz2 : sz <= 1000) (hd : u.2.1 < tm S u.1) (ha : 10 ^ 70 <= u.2.2) : ¬ Bc (Bn u S) := fun hp => by
 have L := (Gs g).toLev
 have E := Ma g
 have hum : u ∈ (Bn u S).wants := Zz1 _ (Zzd.mpr rfl)
 obtain ⟨q0, ⟨q1, q2⟩, _⟩ := g.wants.2 u hum
 obtain ⟨w, hw, ew⟩ := Zzx.mp q0
 obtain ⟨r, r1, r2⟩ := L.low
 have hA : (0 : Int) <= 10 ^ 35 := by decide +kernel
 have arr : ∀ w ∈ (Bn u S).wares, ∀ n, upS (Bh w) n <= 10 ^ 35 := fun w hw n => by
  have b := g.ws.wb w hw
  have c := g.com w hw
  refine Y6 b.stock.1 (fun p hp => ⟨(c.2 p hp).1.1, (c.2 p hp).2.1⟩) ?_ n
  have : Bf (fun p : Int × Int => p.2) w.coming <= (12 : Nat) * (10 : Int) ^ 32 := M4 (by decide +kernel) c.1 fun p hp => Int.le_of_lt (c.2 p hp).2.2
  have := b.stock.2
  omega
 have day := ai hum
 have hb := Us L E (fun w hw => (g.ws.wb w hw).lag.1) (fun w hw => (g.ws.wb w hw).gives.2) hA arr hp r2 12 w hw (by have := r1 w hw; have := g.len.2; omega) u.2.1.toNat (by omega) (by
  rw [ew]
  have := jk u S u.1
  omega)
 have h1 : Ba (Bn u S) (LR (Bn u S)) w.name u.2.1.toNat <= upS (Ba (Bn u S) (LR (Bn u S)) w.name) (u.2.1.toNat + 1) := by
  show _ <= upS (Ba (Bn u S) (LR (Bn u S)) w.name) u.2.1.toNat + Ba (Bn u S) (LR (Bn u S)) w.name u.2.1.toNat
  have : 0 <= upS (Ba (Bn u S) (LR (Bn u S)) w.name) u.2.1.toNat := Ug _ fun i _ => (Qc E (B := 10 ^ 700) (by decide +kernel) (fun nm x hx => ⟨(Ol E nm x hx).1, Int.le_of_lt (Ol E nm x hx).2⟩) w.name i).1
  omega
 have h2 : u.2.2 <= Ba (Bn u S) (LR (Bn u S)) w.name u.2.1.toNat := by
  unfold Ba
  have a1 : wAt w.name u.2.1.toNat u <= Bf (wAt w.name u.2.1.toNat) (Bn u S).wants := Jr (fun y hy => by
   unfold wAt
   split
   ·exact (E.wt.2 y hy).1
   ·exact Zz6 _) hum
  have a2 : wAt w.name u.2.1.toNat u = u.2.2 := by
   unfold wAt
   rw [if_pos ⟨ew.symm, by omega⟩]
  have a3 : 0 <= Bf (pAt (LR (Bn u S)) w.name u.2.1.toNat) (Bn u S).wares := Ff fun t ht => Ff fun p hp => by
   split
   ·exact Zwz (by have := ((E.wb t ht).2.2.2.2 p hp).1; omega) (V9 (B := 10 ^ 700) (by decide +kernel) (fun x hx => ⟨(Ol E t.name x hx).1, Int.le_of_lt (Ol E t.name x hx).2⟩) t.lag _).1
   ·exact Zz6 _
  omega
 have h3 : cB (10 ^ 35) 12 < 10 ^ 70 := by decide +kernel
 omega
end
set_option maxHeartbeats 4000000
section
variable {P : Program} {w : World} {K : Zzu} {mg : Str -> Option Value} {base : Heap} {f : Addr} {fd : FuncData} {c : Cl} {Pt : Addr}
theorem Good.add {sz sz2 : Int} {S : Sh} (g : Good sz S) (hs : sz <= sz2) {u : Wt} (h20 : S.wants.length <= 20) (hn : u.1 ∈ S.wares.map (·.name)) (hd : 0 <= u.2.1 /\ u.2.1 < sz2) (ha : 0 <= u.2.2 /\ u.2.2 < 10 ^ 100) : Good sz2 (Bn u S) := by
 refine ⟨g.ws, g.len, fun w hw => ⟨(g.com w hw).1, fun y hy => ?_⟩, ⟨?_, fun x hx => ?_⟩⟩
 ·obtain ⟨⟨a, b⟩, c⟩ := (g.com w hw).2 y hy
  exact ⟨⟨a, by omega⟩, c⟩
 ·show (S.wants ++ [u]).length <= 21
  rw [Zyv, Zyy]
  omega
 ·rcases Zz4.mp hx with z | z
  ·obtain ⟨q0, ⟨q1, q2⟩, q3⟩ := g.wants.2 x z
   exact ⟨q0, ⟨q1, by omega⟩, q3⟩
  ·rw [Zzd.mp z]
   exact ⟨hn, hd, ha⟩
def sp_with_want : Sp := fun vs H Q _ => ∃ (v : V) (S : Sh) (nm : Str) (d n : Int), vs = [v, .str nm, .int d, .int n] /\ RD H S.d v /\ Lh S /\ D1 S /\ nm ∈ S.wares.map (·.name) /\ S.wants.length <= 1000 /\ ∀ x H', RD H' (Bn (nm, d, n) S).d x -> Same H H' -> Q x H'
theorem Jx : Aj ["shop", "name", "day", "amount"] ["shop", "name", "day", "amount"] (A8 Dc) := by constructor <;> first | rfl | decide +kernel
theorem K6 (F : Fun K "with_want" "with_want" Dc f fd) (T : Txt mg) (C : Exc K mg c) (Zvr : Has P w K mg base "check_rings" 4 ["shop"] sp_check_rings) (Zvp : Has P w K mg base "ware_of" 1 ["shop", "name"] sp_ware_of) : FnOk P w K mg base CX0 5 f fd ["shop", "name", "day", "amount"] sp_with_want := by
 refine F.ok Jx (fun vs H Q E h => ?_) (fun cdv A outer s H vs Q E hr h => ?_)
 ·obtain ⟨v, S, nm, d, n, rfl, _⟩ := h
  rfl
 ·obtain ⟨v, S, nm, d, n, rfl, rs, ok, no, hnm, hw, k⟩ := h
  have hu := Aq hr
  refine ⟨_, (A2 (Ay (Aa Zvr hr.z rfl (A4 (pv 0) A1)))
 (A2 (Ay (Aa Zvp hr.z rfl (A4 (pv 0) (A4 (pv 1) A1))))
 (A9 (Af (Br (A4 (Ab hu (pv 0) A7 (fun _ _ => rfl)) (A4 (Am K4 (Ab hu (pv 0) A7 (fun _ _ => rfl)) (Br (A4 (Br (A4 (pv 1) (A4 (pv 2) (A4 (pv 3) A1)))) A1))) A1))))))), ?_⟩
  obtain ⟨a, b, c, ws, us, rfl, ha, hb, hc, rws, rus⟩ := Cj rs
  have hlu := Bo rus
  walk_at "rd"
  refine ⟨.ref a, S, rfl, rs, ok, no, fun H1 s1 => ⟨.ref a, S, nm, rfl, RD.same s1 _ _ rs, ok, hnm, fun x w hwm ew rw' => ?_⟩⟩
  refine ⟨_, Ag (j := 0) (s1 _ _ ha) rfl, _, Ag (j := 1) (s1 _ _ ha) rfl, ?_⟩
  refine ⟨by decide, fun p hp => ⟨by decide, fun q hq => ⟨c, rfl, us, ?_⟩⟩⟩
  have u1 := A6 (o := .tup [.str nm, .int d, .int n]) hp
  have u2 := A6 (o := .tup [.ref p]) hq
  have s3 := s1.trans (u1.trans u2)
  have hp3 := u2 _ _ (A0 (H := H1) (a := p) (o := .tup [.str nm, .int d, .int n]))
  have hq3 := A0 (H := upd H1 p (.tup [.str nm, .int d, .int n])) (a := q) (o := .tup [.ref p])
  generalize upd (upd H1 p (.tup [.str nm, .int d, .int n])) q (.tup [.ref p]) = H3 at s3 hp3 hq3 ⊢
  refine ⟨s3 _ _ hc, _, hq3, Zz5 (m := 1001) (by rw [Zyy]; omega) (by decide), fun r H4 hr4 s4 _ => ⟨by decide, fun t ht => ?_⟩⟩
  have s5 := s4.trans (A6 (o := .tup [.ref b, .ref r]) ht)
  have s05 := s3.trans s5
  refine k _ _ ?_ s05
  unfold Bn Sh.d
  refine RD.tup_mk A0 (RDs.cons (RD.tup_mk (s05 _ _ hb) (RDs.same s05 _ _ rws)) (RDs.one (RD.tup_mk (A6 ht _ _ hr4) ?_)))
  rw [Zzg]
  exact RDs.app (RDs.same s05 _ _ rus) (RDs.one (RD.tup_mk (xs := [.str nm, .int d, .int n]) (s5 _ _ hp3) (RDs.cons RD.str_mk (RDs.cons RD.int_mk (RDs.one RD.int_mk)))))
def rh (v : V) (nm : Str) (d : Int) (S : Sh) (Pt : Addr) (H : Hp) (m : Nat) (σ : St) (H' : Hp) : Prop := ∃ (t : Int) (o4 o5 : Option V), m = (10 ^ 71 - t).toNat /\ σ = [some v, some (.str nm), some (.int d), some (.int t), o4, o5] /\ 1 <= t /\ t < 2 * 10 ^ 70 /\ Bc (Bn (nm, d, t / 2) S) /\ Tb H' Pt /\ But Pt H H'
def jh (v : V) (nm : Str) (d : Int) (S : Sh) (Pt : Addr) (H : Hp) (m : Nat) (σ : St) (H' : Hp) : Prop := ∃ (t a : Int) (o5 : Option V), m = (t - a).toNat /\ σ = [some v, some (.str nm), some (.int d), some (.int t), some (.int a), o5] /\ 0 <= a /\ a < t /\ t < 2 * 10 ^ 70 /\ Bc (Bn (nm, d, a) S) /\ ¬ Bc (Bn (nm, d, t) S) /\ Tb H' Pt /\ But Pt H H'
def Ft (Pt : Addr) : Sp := fun vs H Q _ => ∃ (v : V) (S : Sh) (nm : Str) (d sz : Int), vs = [v, .str nm, .int d] /\ RD H S.d v /\ Good sz S /\ 0 < sz /\ sz <= 900 /\ S.wants.length <= 20 /\ nm ∈ S.wares.map (·.name) /\ 0 <= d /\ d < 20 /\ d < tm S nm /\ Bc S /\ Tb H Pt /\
 ∀ n H', 0 <= n -> n < 10 ^ 99 -> Bc (Bn (nm, d, n) S) -> ¬ Bc (Bn (nm, d, n + 1) S) -> Tb H' Pt -> But Pt H H' -> Q (.int n) H'
theorem sc_greatest_amount : Aj ["shop", "name", "day", "too_great", "amount", "middle"] ["shop", "name", "day"] (A8 C1) := by constructor <;> first | rfl | decide +kernel
theorem Jh (F : Fun K "greatest_amount" "greatest_amount" C1 f fd) (T : Txt mg) (C : Exc K mg c) (Zvo : Has P w K mg base "lets_plan" 8 ["shop"] (Fg Pt)) (Zu7 : Has P w K mg base "with_want" 5 ["shop", "name", "day", "amount"] sp_with_want) : FnOk P w K mg base CX0 9 f fd ["shop", "name", "day"] (Ft Pt) := by
 refine F.ok sc_greatest_amount (fun vs H Q E h => ?_) (fun cdv A outer s H vs Q E hr h => ?_)
 ·obtain ⟨v, S, nm, d, sz, rfl, _⟩ := h
  rfl
 ·obtain ⟨v, S, nm, d, sz, rfl, rs, g, z0, z1, h20, hnm, d0, d1, dt, hp, tb, k⟩ := h
  have hu := Aq hr
  refine ⟨_, (A2 (Ac (i := 3) sc_greatest_amount.nd rfl (Zzq rfl) A7)
 (A2 (Ic PassesOwn.never (Ky (Aa Zvo hr.z rfl (A4 (Aa Zu7 hr.z rfl (A4 (pv 0) (A4 (pv 1) (A4 (pv 2) (A4 (pv 3) A1))))) A1))) (A9 (R9 (i := 3) sc_greatest_amount.nd rfl (Zzq rfl) A7 fz)))
 (A2 (Ac (i := 4) sc_greatest_amount.nd rfl (Zzq rfl) (Am G1 (pv 3) A7))
 (A2 (Ic PassesOwn.never (Al Vu (Am Jg (pv 3) (pv 4)) A7 (B2 _)) (A2 (Ac (i := 5) sc_greatest_amount.nd rfl (Zzq rfl) (Am G1 (Am Ca (pv 4) (pv 3)) A7))
 (A9 (Bp (Ky (Aa Zvo hr.z rfl (A4 (Aa Zu7 hr.z rfl (A4 (pv 0) (A4 (pv 1) (A4 (pv 2) (A4 (pv 5) A1))))) A1))) (A9 (Ac (i := 4) sc_greatest_amount.nd rfl (Zzq rfl) (pv 5))) (A9 (Ac (i := 3) sc_greatest_amount.nd rfl (Zzq rfl) (pv 5)))))))
 (A9 (Af (pv 4))))))), ?_⟩
  walk_at "rd"
  have L := (Gs g).toLev
  have E := Ma g
  have hl : ∀ w ∈ S.wares, 0 <= w.lag := fun w hw => (g.ws.wb w hw).lag.1
  have h0 : ∀ x ∈ S.wants, 0 <= x.2.1 := fun u hu => (g.wants.2 u hu).2.1.1
  have gd := g.days z0 (by omega)
  have go : ∀ {n : Int}, 0 <= n -> n < 10 ^ 99 -> Good (sz + 20) (Bn (nm, d, n) S) := fun {n} n0 n1 => g.add (u := (nm, d, n)) (by omega) h20 hnm ⟨d0, show d < sz + 20 by omega⟩ ⟨n0, Int.lt_trans n1 (by decide +kernel)⟩
  have p0 : Bc (Bn (nm, d, 0) S) := Y8 (u := (nm, d, 0)) L E hl h0 d0 (.inl rfl) gd.1 hp
  have hb70 : (2 : Int) * 10 ^ 70 < 10 ^ 99 := by decide +kernel
  refine ⟨rh v nm d S Pt H, ⟨_, 1, none, none, rfl, rfl, by decide, by decide +kernel, p0, tb, But.refl _ _⟩, fun m σ H1 hW => ?_⟩
  obtain ⟨t, o4, o5, rfl, rfl, t0, t1, ph, tb1, bt1⟩ := hW
  have rs1 := RD.ku (Hs tb bt1) _ _ (Co S) rs
  walk_at "rd"
  refine ⟨v, S, nm, d, t, rfl, rs1, g.ok, g.no, hnm, by omega, fun x H2 rx s2 => ?_⟩
  refine ⟨x, Bn (nm, d, t) S, sz + 20, rfl, rx, go (by omega) (by omega), by omega, by omega, tb1.same s2, fun b3 H3 hb3 tb3 bt3 => ⟨b3, rfl, ?_⟩⟩
  have bt03 := bt1.trans ((Be s2).trans bt3)
  refine D3 (fun c => ?_) (fun c => ?_)
  ·have pt := hb3.mp c
   have tl : t < 10 ^ 70 := by
    by_cases z : t < 10 ^ 70
    ·exact z
    ·exact absurd pt (Y9 (u := (nm, d, t)) (go (by omega) (by omega)) (by omega) (by omega) dt (show (10 : Int) ^ 70 <= t by omega))
   refine ⟨_, fun σ' H' z => z, .inr ⟨Zz9 (m := 10 ^ 72) (by omega) (by decide +kernel), by decide +kernel⟩, (10 ^ 71 - t * 2).toNat, by omega, t * 2, _, _, rfl, rfl, by omega, by omega, ?_, tb3, bt03⟩
   rw [show t * 2 / 2 = t by omega]
   exact pt
  ·have pt : ¬ Bc (Bn (nm, d, t) S) := fun z => c (hb3.mpr z)
   refine ⟨by decide, by decide +kernel, jh v nm d S Pt H, ⟨_, t, t / 2, o5, rfl, rfl, by omega, by omega, t1, ph, pt, tb3, bt03⟩, fun m σ H4 hW => ?_⟩
   clear ph pt
   obtain ⟨t, a, o5, rfl, rfl, a0, at', t1, pa, pt, tb4, bt4⟩ := hW
   have rs4 := RD.ku (Hs tb bt4) _ _ (Co S) rs
   walk_at "rd"
   refine D3 (fun c => ?_) (fun c => ?_)
   ·have c := of_decide_eq_true c
    refine ⟨fun σ' H' => ∃ m', m' < (t - a).toNat /\ jh v nm d S Pt H m' σ' H', fun σ' H' z => z, by decide, by decide +kernel, v, S, nm, d, (a + t) / 2, rfl, rs4, g.ok, g.no, hnm, by omega, fun x H5 rx s5 => ?_⟩
    have m0 : a < (a + t) / 2 := by omega
    have m1 : (a + t) / 2 < t := by omega
    generalize (a + t) / 2 = mid at rx m0 m1 ⊢
    refine ⟨x, Bn (nm, d, mid) S, sz + 20, rfl, rx, go (by omega) (by omega), by omega, by omega, tb4.same s5, fun b6 H6 hb6 tb6 bt6 => ⟨b6, rfl, ?_⟩⟩
    have bt06 := bt4.trans ((Be s5).trans bt6)
    refine D3 (fun c6 => ?_) (fun c6 => ?_)
    ·exact ⟨(t - mid).toNat, by omega, t, mid, _, rfl, rfl, by omega, by omega, t1, hb6.mp c6, pt, tb6, bt06⟩
    ·exact ⟨(mid - a).toNat, by omega, mid, a, _, rfl, rfl, a0, by omega, by omega, pa, fun z => c6 (hb6.mpr z), tb6, bt06⟩
   ·have c : ¬ 1 < t - a := fun z => c (decide_eq_true z)
    obtain rfl : t = a + 1 := by omega
    exact k a H4 a0 (by omega) pa pt tb4 bt4
def Vi (Pt : Addr) : Sp := fun vs H Q _ => ∃ (v : V) (S : Sh) (nm : Str) (d sz : Int), vs = [v, .str nm, .int d] /\ RD H S.d v /\ Good sz S /\ 0 < sz /\ sz <= 900 /\ S.wants.length <= 20 /\ nm ∈ S.wares.map (·.name) /\ 0 <= d /\ d < 20 /\ Tb H Pt /\
 (¬ Bc S -> ∀ p H', H' p = some (.tup [.str "none"]) -> Tb H' Pt -> But Pt H H' -> Q (.ref p) H') /\ (Bc S -> tm S nm <= d -> ∀ p H', H' p = some (.tup [.str "any"]) -> Tb H' Pt -> But Pt H H' -> Q (.ref p) H') /\
 (Bc S -> d < tm S nm -> ∀ p n H', 0 <= n -> n < 10 ^ 99 -> Bc (Bn (nm, d, n) S) -> ¬ Bc (Bn (nm, d, n + 1) S) -> H' p = some (.tup [.str "most", .int n]) -> Tb H' Pt -> But Pt H H' -> Q (.ref p) H')
theorem Vk : Aj ["shop", "name", "day"] ["shop", "name", "day"] (A8 Jd) := by constructor <;> first | rfl | decide +kernel
theorem Vv (F : Fun K "most" "most" Jd f fd) (T : Txt mg) (C : Exc K mg c) (Zvr : Has P w K mg base "check_rings" 4 ["shop"] sp_check_rings) (Zvp : Has P w K mg base "ware_of" 1 ["shop", "name"] sp_ware_of) (Zvo : Has P w K mg base "lets_plan" 8 ["shop"] (Fg Pt)) (Zue : Has P w K mg base "times" 7 ["shop"] (Mm Pt)) (Zv0 : Has P w K mg base "greatest_amount" 9 ["shop", "name", "day"] (Ft Pt)) : FnOk P w K mg base CX0 10 f fd ["shop", "name", "day"] (Vi Pt) := by
 refine F.ok Vk (fun vs H Q E h => ?_) (fun cdv A outer s H vs Q E hr h => ?_)
 ·obtain ⟨v, S, nm, d, sz, rfl, _⟩ := h
  rfl
 ·obtain ⟨v, S, nm, d, sz, rfl, rs, g, z0, z1, h20, hnm, d0, d1, tb, k1, k2, k3⟩ := h
  have hu := Aq hr
  refine ⟨_, (A2 (Ay (Aa Zvr hr.z rfl (A4 (pv 0) A1)))
 (A2 (Ay (Aa Zvp hr.z rfl (A4 (pv 0) (A4 (pv 1) A1))))
 (A2 (Bp (R8 (Ky (Aa Zvo hr.z rfl (A4 (pv 0) A1)))) (A9 (Af (Br (A4 Ce A1)))) Au)
 (A2 (Bp (Al px (pv 2) (Ab hu (Aa Zue hr.z rfl (A4 (pv 0) A1)) (pv 1) (fun _ _ => rfl)) (B2 _)) (A9 (Af (Br (A4 Ce A1)))) Au)
 (A9 (Af (Br (A4 Ce (A4 (Aa Zv0 hr.z rfl (A4 (pv 0) (A4 (pv 1) (A4 (pv 2) A1)))) A1))))))))), ?_⟩
  walk_at "rd"
  have L := Gs g
  refine ⟨v, S, rfl, rs, g.ok, g.no, fun H1 s1 => ⟨v, S, nm, rfl, RD.same s1 _ _ rs, g.ok, hnm, fun x w hwm ew rw' => ?_⟩⟩
  refine ⟨v, S, sz, rfl, RD.same s1 _ _ rs, g, z0, by omega, tb.same s1, fun b2 H2 hb2 tb2 bt2 => ⟨b2, rfl, ?_⟩⟩
  have bt02 := (Be (st := Pt) s1).trans bt2
  refine D3 (fun c => ?_) (fun c => ?_)
  ·have np : ¬ Bc S := fun z => by rw [hb2.mpr z] at c; cases c
   exact ⟨by decide, fun p hp => k1 np p _ A0 (tb2.same (A6 hp)) (bt02.trans (Be (A6 hp)))⟩
  ·have ps : Bc S := hb2.mp (by cases b2 with | true => rfl | false => exact absurd rfl c)
   have rs2 := RD.ku (Hs tb bt02) _ _ (Co S) rs
   refine ⟨v, S, rfl, rs2, L, tb2, fun q ys H3 hq hq3 pm tb3 bt3 => ⟨_, Ge (.inl hq3) (Ix (pm.mem_iff.mpr hnm)), _, rfl, ?_⟩⟩
   have bt03 := bt02.trans bt3
   refine D3 (fun c3 => ?_) (fun c3 => ?_)
   ·exact ⟨by decide, fun p hp => k2 ps (of_decide_eq_true c3) p _ A0 (tb3.same (A6 hp)) (bt03.trans (Be (A6 hp)))⟩
   ·have c3 : ¬ tm S nm <= d := fun z => c3 (decide_eq_true z)
    have rs3 := RD.ku (Hs tb bt03) _ _ (Co S) rs
    refine ⟨v, S, nm, d, sz, rfl, rs3, g, z0, z1, h20, hnm, d0, d1, by omega, ps, tb3, fun n H4 n0 n1 pn pn1 tb4 bt4 => ⟨by decide, fun p hp => ?_⟩⟩
    exact k3 ps (by omega) p n _ n0 n1 pn pn1 A0 (tb4.same (A6 hp)) ((bt03.trans bt4).trans (Be (A6 hp)))
end
set_option maxHeartbeats 4000000
section
variable {P : Program} {w : World} {K : Zzu} {mg : Str -> Option Value} {base : Heap} {f : Addr} {fd : FuncData} {c : Cl} {Pt : Addr}
def Av (c : Cl) : Sp := fun vs H Q E => ∃ (v : V) (S : Sh), vs = [v] /\ RD H S.d v /\ Lh S /\ (∀ w ∈ S.wares, w.name.length <= 800) /\ (∀ w ∈ S.wares, ∀ p ∈ w.parts, p.1 ∈ S.wares.map (·.name)) /\ (D1 S -> ∀ H', Same H H' -> Q .non H') /\ (¬ D1 S -> ∀ H', Same H H' -> E (.ref c.Ring) none H')
theorem L6 (F : Fun K "check_rings" "check_rings" Ck f fd) (T : Txt mg) (C : Exc K mg c) (Ztk : Has P w K mg base "ring" 3 ["shop"] sp_ring) : FnOk P w K mg base (CXE P w) 4 f fd ["shop"] (Av c) := by
 refine F.okX sc_check_rings (fun vs H Q E h => ?_) (fun cdv A outer s H vs Q E hr h => ?_)
 ·obtain ⟨v, S, rfl, _⟩ := h
  rfl
 ·obtain ⟨v, S, rfl, rs, ok, hn, own, k, ke⟩ := h
  have hu := Aq hr
  refine ⟨_, (A2 (Ac (i := 1) sc_check_rings.nd rfl (Zzq rfl) (Aa Ztk hr.z rfl (A4 (pv 0) A1)))
 (A9 (Bp (Al Is (pv 1) Hc (B2 _)) (A2 (Ac (i := 2) sc_check_rings.nd rfl (Zzq rfl) (Gp PySem.F.plainAttrs_str PySem.F.slot_str_join PySem.F.type_str_join Vy Ce (A4 (pv 1) A1)))
 (A9 (T6 ix rfl rfl C.Zsq C.Zt8 (A4 (Yz (Yx (kn (pv 2) Yw))) A1)))) Au))), ?_⟩
  walk_at "rd"
  refine ⟨v, S, rfl, rs, ok, fun no H1 s1 => ?_, fun p H1 xs no hp hp1 hx rg s1 => ?_⟩
  ·walk_at "rd"
   exact j4 trivial (k no H1 s1)
  ·walk_at "rd"
   have mem : ∀ y ∈ xs, y ∈ S.wares.map (·.name) := fun y hy => by
    obtain ⟨i, hi⟩ := List.getElem?_of_mem hy
    obtain ⟨z, _, ps, h1, h2⟩ := rg.2.2 i y hi
    obtain ⟨u, hu1, hu2⟩ := Zzx.mp h1
    cases hu2
    obtain ⟨pp, hp1, hp2⟩ := Zzx.mp h2
    rw [<- hp2]
    exact own u hu1 pp hp1
   have hB : ∀ y ∈ xs, y.length <= 800 := fun y hy => by
    obtain ⟨u, hu1, hu2⟩ := Zzx.mp (mem y hy)
    rw [<- hu2]
    exact hn u hu1
   have l1 : (Str.ofString " ").length = 1 := by decide +kernel
   have l17 : (Str.ofString "a ring of parts: ").length = 17 := by decide +kernel
   have hj := Tx (sep := Str.ofString " ") hB
   have hm : xs.length * 800 <= 1000 * 800 := Nat.mul_le_mul_right _ hx
   have hs : xs.length * (Str.ofString " ").length <= 1000 := by rw [l1, Nat.mul_one]; exact hx
   rw [decide_eq_false (fun z => z), if_pos (by decide)]
   refine ⟨rfl, _, p, xs, 800, rfl, rfl, hp1, hB, by omega, by omega, _, rfl, by omega, by omega, fun _ => ⟨by decide, ke no H1 s1⟩⟩
structure Rg (S : Sh) : Prop where
 ok : Lh S
 nl : ∀ w ∈ S.wares, w.name.length <= 800
 own : ∀ w ∈ S.wares, ∀ p ∈ w.parts, p.1 ∈ S.wares.map (·.name)
 ring : ¬ D1 S
theorem Rg.none {S : Sh} (r : Rg S) : Rg (noS S) := ⟨⟨r.ok.names, r.ok.len, r.ok.wares⟩, r.nl, r.own, r.ring⟩
def rg1 (c : Cl) : Sp := fun vs H Q E => ∃ (v : V) (S : Sh), vs = [v] /\ RD H S.d v /\ Rg S /\ ∀ H', Same H H' -> E (.ref c.Ring) none H'
def rg2 (c : Cl) : Sp := fun vs H Q E => ∃ (v v2 : V) (S : Sh), vs = [v, v2] /\ RD H S.d v /\ Rg S /\ ∀ H', Same H H' -> E (.ref c.Ring) none H'
def rg3 (c : Cl) : Sp := fun vs H Q E => ∃ (v v2 v3 : V) (S : Sh), vs = [v, v2, v3] /\ RD H S.d v /\ Rg S /\ ∀ H', Same H H' -> E (.ref c.Ring) none H'
def rg4 (c : Cl) : Sp := fun vs H Q E => ∃ (v v2 v3 v4 : V) (S : Sh), vs = [v, v2, v3, v4] /\ RD H S.d v /\ Rg S /\ ∀ H', Same H H' -> E (.ref c.Ring) none H'
abbrev Ll (c : Cl) : Sp := rg1 c
theorem Tg (F : Fun K "levels" "levels" Fx f fd) (T : Txt mg) (C : Exc K mg c) (Zvs : HasX P w K mg base "check_rings" 4 ["shop"] (Av c)) : FnOk P w K mg base (CXE P w) 5 f fd ["shop"] (Ll c) := by
 refine F.okX sc_levels (fun vs H Q E h => ?_) (fun cdv A outer s H vs Q E hr h => ?_)
 ·obtain ⟨v, S, rfl, _⟩ := h
  rfl
 ·obtain ⟨v, S, rfl, rs, rg, ke⟩ := h
  have hu := Aq hr
  refine ⟨_, (A2 (Ay (Bd Zvs D0 hr.z rfl (A4 (pv 0) A1)))
 Bj), ?_⟩
  walk_at "rd"
  exact ⟨v, S, rfl, rs, rg.ok, rg.nl, rg.own, fun no => absurd no rg.ring, fun _ H1 s1 => ke H1 s1⟩
abbrev Hv (c : Cl) : Sp := rg1 c
theorem Ta (F : Fun K "worked" "worked" Fv f fd) (T : Txt mg) (C : Exc K mg c) (Zth : HasX P w K mg base "levels" 5 ["shop"] (Ll c)) : FnOk P w K mg base (CXE P w) 6 f fd ["shop"] (Hv c) := by
 refine F.okX sc_worked (fun vs H Q E h => ?_) (fun cdv A outer s H vs Q E hr h => ?_)
 ·obtain ⟨v, S, rfl, _⟩ := h
  rfl
 ·obtain ⟨v, S, rfl, rs, rg, ke⟩ := h
  have hu := Aq hr
  refine ⟨_, (A2 (Ac (i := 1) sc_worked.nd rfl (Or.inr rfl) (Bd Zth D0 hr.z rfl (A4 (pv 0) A1)))
 Bj), ?_⟩
  walk_at "rd"
  exact ⟨v, S, rfl, rs, rg, ke⟩
abbrev Gx (c : Cl) : Sp := rg1 c
theorem Ka (F : Fun K "planned" "planned" Eg f fd) (T : Txt mg) (C : Exc K mg c) (Zv3 : HasX P w K mg base "worked" 6 ["shop"] (Hv c)) : FnOk P w K mg base (CXE P w) 7 f fd ["shop"] (Gx c) := by
 refine F.okX sc_planned (fun vs H Q E h => ?_) (fun cdv A outer s H vs Q E hr h => ?_)
 ·obtain ⟨v, S, rfl, _⟩ := h
  rfl
 ·obtain ⟨v, S, rfl, rs, rg, ke⟩ := h
  have hu := Aq hr
  refine ⟨_, (A2 (Ac (i := 1) sc_planned.nd rfl (Zzq rfl) G0)
 (A2 (Bl PassesOwn.leaving rfl (Fz (Bd Zv3 D0 hr.z rfl (A4 (pv 0) A1))) (Ah (i := 2) sc_planned.nd rfl (Zzq rfl))
 Bj)
 Bj)), ?_⟩
  walk_at "rd"
  intro p hp
  exact ⟨v, S, rfl, RD.same (A6 hp) _ _ rs, rg, fun H1 s1 => ke H1 ((A6 hp).trans s1)⟩
abbrev Hz (c : Cl) : Sp := rg1 c
theorem Na (F : Fun K "lets_plan" "lets_plan" Dd f fd) (T : Txt mg) (C : Exc K mg c) (Ztq : HasX P w K mg base "planned" 7 ["shop"] (Gx c)) : FnOk P w K mg base (CXE P w) 8 f fd ["shop"] (Hz c) := by
 refine F.okX Jy (fun vs H Q E h => ?_) (fun cdv A outer s H vs Q E hr h => ?_)
 ·obtain ⟨v, S, rfl, _⟩ := h
  rfl
 ·obtain ⟨v, S, rfl, rs, rg, ke⟩ := h
  have hu := Aq hr
  refine ⟨_, (A2 (Af (M7 (Da hu) (Ab hu (Bd Ztq D0 hr.z rfl (A4 (pv 0) A1)) A7 (fun _ _ => rfl)) Ce (B2 _)))
 Bj), ?_⟩
  walk_at "rd"
  exact ⟨v, S, rfl, rs, rg, ke⟩
abbrev Lo (c : Cl) : Sp := rg2 c
theorem Lr (F : Fun K "judged" "judged" Fy f fd) (T : Txt mg) (C : Exc K mg c) (Zv3 : HasX P w K mg base "worked" 6 ["shop"] (Hv c)) : FnOk P w K mg base (CXE P w) 7 f fd ["shop", "plan"] (Lo c) := by
 refine F.okX sc_judged (fun vs H Q E h => ?_) (fun cdv A outer s H vs Q E hr h => ?_)
 ·obtain ⟨v, v2, S, rfl, _⟩ := h
  rfl
 ·obtain ⟨v, v2, S, rfl, rs, rg, ke⟩ := h
  have hu := Aq hr
  refine ⟨_, (A2 (Bl PassesOwn.leaving rfl (Fz (Bd Zv3 D0 hr.z rfl (A4 (pv 0) A1))) (Ah (i := 2) sc_judged.nd rfl (Zzq rfl))
 Bj)
 Bj), ?_⟩
  walk_at "rd"
  exact ⟨v, S, rfl, rs, rg, ke⟩
abbrev Jw (c : Cl) : Sp := rg1 c
theorem Kb (F : Fun K "days_of" "days_of" Em f fd) (T : Txt mg) (C : Exc K mg c) (Zvs : HasX P w K mg base "check_rings" 4 ["shop"] (Av c)) : FnOk P w K mg base (CXE P w) 5 f fd ["shop"] (Jw c) := by
 refine F.okX Mr (fun vs H Q E h => ?_) (fun cdv A outer s H vs Q E hr h => ?_)
 ·obtain ⟨v, S, rfl, _⟩ := h
  rfl
 ·obtain ⟨v, S, rfl, rs, rg, ke⟩ := h
  have hu := Aq hr
  refine ⟨_, (A2 (Ay (Bd Zvs D0 hr.z rfl (A4 (pv 0) A1)))
 Bj), ?_⟩
  walk_at "rd"
  exact ⟨v, S, rfl, rs, rg.ok, rg.nl, rg.own, fun no => absurd no rg.ring, fun _ H1 s1 => ke H1 s1⟩
abbrev Mo (c : Cl) : Sp := rg3 c
theorem Ni (F : Fun K "begun" "begun" Gz f fd) (T : Txt mg) (C : Exc K mg c) (Zvs : HasX P w K mg base "check_rings" 4 ["shop"] (Av c)) : FnOk P w K mg base (CXE P w) 5 f fd ["shop", "plan", "name"] (Mo c) := by
 refine F.okX T4 (fun vs H Q E h => ?_) (fun cdv A outer s H vs Q E hr h => ?_)
 ·obtain ⟨v, v2, v3, S, rfl, _⟩ := h
  rfl
 ·obtain ⟨v, v2, v3, S, rfl, rs, rg, ke⟩ := h
  have hu := Aq hr
  refine ⟨_, (A2 (Ay (Bd Zvs D0 hr.z rfl (A4 (pv 0) A1)))
 Bj), ?_⟩
  walk_at "rd"
  exact ⟨v, S, rfl, rs, rg.ok, rg.nl, rg.own, fun no => absurd no rg.ring, fun _ H1 s1 => ke H1 s1⟩
abbrev Mn (c : Cl) : Sp := rg3 c
theorem N9 (F : Fun K "needs" "needs" Gy f fd) (T : Txt mg) (C : Exc K mg c) (Zvs : HasX P w K mg base "check_rings" 4 ["shop"] (Av c)) : FnOk P w K mg base (CXE P w) 5 f fd ["shop", "plan", "name"] (Mn c) := by
 refine F.okX Sw (fun vs H Q E h => ?_) (fun cdv A outer s H vs Q E hr h => ?_)
 ·obtain ⟨v, v2, v3, S, rfl, _⟩ := h
  rfl
 ·obtain ⟨v, v2, v3, S, rfl, rs, rg, ke⟩ := h
  have hu := Aq hr
  refine ⟨_, (A2 (Ay (Bd Zvs D0 hr.z rfl (A4 (pv 0) A1)))
 Bj), ?_⟩
  walk_at "rd"
  exact ⟨v, S, rfl, rs, rg.ok, rg.nl, rg.own, fun no => absurd no rg.ring, fun _ H1 s1 => ke H1 s1⟩
abbrev Lj (c : Cl) : Sp := rg3 c
theorem Lq (F : Fun K "stocks" "stocks" Fw f fd) (T : Txt mg) (C : Exc K mg c) (Zvs : HasX P w K mg base "check_rings" 4 ["shop"] (Av c)) : FnOk P w K mg base (CXE P w) 5 f fd ["shop", "plan", "name"] (Lj c) := by
 refine F.okX Q3 (fun vs H Q E h => ?_) (fun cdv A outer s H vs Q E hr h => ?_)
 ·obtain ⟨v, v2, v3, S, rfl, _⟩ := h
  rfl
 ·obtain ⟨v, v2, v3, S, rfl, rs, rg, ke⟩ := h
  have hu := Aq hr
  refine ⟨_, (A2 (Ay (Bd Zvs D0 hr.z rfl (A4 (pv 0) A1)))
 Bj), ?_⟩
  walk_at "rd"
  exact ⟨v, S, rfl, rs, rg.ok, rg.nl, rg.own, fun no => absurd no rg.ring, fun _ H1 s1 => ke H1 s1⟩
abbrev Ju (c : Cl) : Sp := rg2 c
theorem K8 (F : Fun K "put_off" "put_off" Ef f fd) (T : Txt mg) (C : Exc K mg c) (Zvs : HasX P w K mg base "check_rings" 4 ["shop"] (Av c)) : FnOk P w K mg base (CXE P w) 5 f fd ["shop", "days"] (Ju c) := by
 refine F.okX sc_put_off (fun vs H Q E h => ?_) (fun cdv A outer s H vs Q E hr h => ?_)
 ·obtain ⟨v, v2, S, rfl, _⟩ := h
  rfl
 ·obtain ⟨v, v2, S, rfl, rs, rg, ke⟩ := h
  have hu := Aq hr
  refine ⟨_, (A2 (Ay (Bd Zvs D0 hr.z rfl (A4 (pv 0) A1)))
 Bj), ?_⟩
  walk_at "rd"
  exact ⟨v, S, rfl, rs, rg.ok, rg.nl, rg.own, fun no => absurd no rg.ring, fun _ H1 s1 => ke H1 s1⟩
abbrev Hw (c : Cl) : Sp := rg4 c
theorem Ig (F : Fun K "with_want" "with_want" Dc f fd) (T : Txt mg) (C : Exc K mg c) (Zvs : HasX P w K mg base "check_rings" 4 ["shop"] (Av c)) : FnOk P w K mg base (CXE P w) 5 f fd ["shop", "name", "day", "amount"] (Hw c) := by
 refine F.okX Jx (fun vs H Q E h => ?_) (fun cdv A outer s H vs Q E hr h => ?_)
 ·obtain ⟨v, v2, v3, v4, S, rfl, _⟩ := h
  rfl
 ·obtain ⟨v, v2, v3, v4, S, rfl, rs, rg, ke⟩ := h
  have hu := Aq hr
  refine ⟨_, (A2 (Ay (Bd Zvs D0 hr.z rfl (A4 (pv 0) A1)))
 Bj), ?_⟩
  walk_at "rd"
  exact ⟨v, S, rfl, rs, rg.ok, rg.nl, rg.own, fun no => absurd no rg.ring, fun _ H1 s1 => ke H1 s1⟩
abbrev Pz (c : Cl) : Sp := rg3 c
theorem Wx : Aj ["shop", "plan", "name", "ware"] ["shop", "plan", "name"] (A8 Kw) := by constructor <;> first | rfl | decide +kernel
theorem X7 (F : Fun K "pegs" "pegs" Kw f fd) (T : Txt mg) (C : Exc K mg c) (Zvs : HasX P w K mg base "check_rings" 4 ["shop"] (Av c)) : FnOk P w K mg base (CXE P w) 5 f fd ["shop", "plan", "name"] (Pz c) := by
 refine F.okX Wx (fun vs H Q E h => ?_) (fun cdv A outer s H vs Q E hr h => ?_)
 ·obtain ⟨v, v2, v3, S, rfl, _⟩ := h
  rfl
 ·obtain ⟨v, v2, v3, S, rfl, rs, rg, ke⟩ := h
  have hu := Aq hr
  refine ⟨_, (A2 (Ay (Bd Zvs D0 hr.z rfl (A4 (pv 0) A1)))
 Bj), ?_⟩
  walk_at "rd"
  exact ⟨v, S, rfl, rs, rg.ok, rg.nl, rg.own, fun no => absurd no rg.ring, fun _ H1 s1 => ke H1 s1⟩
abbrev Lk (c : Cl) : Sp := rg4 c
theorem Sv : Aj ["shop", "plan", "name", "day", "served", "met", "supply", "need", "amount", "numbers"] ["shop", "plan", "name", "day"] (A8 Gn) := by constructor <;> first | rfl | decide +kernel
theorem Tc (F : Fun K "serves" "serves" Gn f fd) (T : Txt mg) (C : Exc K mg c) (Zvs : HasX P w K mg base "check_rings" 4 ["shop"] (Av c)) : FnOk P w K mg base (CXE P w) 5 f fd ["shop", "plan", "name", "day"] (Lk c) := by
 refine F.okX Sv (fun vs H Q E h => ?_) (fun cdv A outer s H vs Q E hr h => ?_)
 ·obtain ⟨v, v2, v3, v4, S, rfl, _⟩ := h
  rfl
 ·obtain ⟨v, v2, v3, v4, S, rfl, rs, rg, ke⟩ := h
  have hu := Aq hr
  refine ⟨_, (A2 (Ay (Bd Zvs D0 hr.z rfl (A4 (pv 0) A1)))
 Bj), ?_⟩
  walk_at "rd"
  exact ⟨v, S, rfl, rs, rg.ok, rg.nl, rg.own, fun no => absurd no rg.ring, fun _ H1 s1 => ke H1 s1⟩
abbrev Lp (c : Cl) : Sp := rg3 c
theorem Sz : Aj ["shop", "name", "terms", "ware", "wanted"] ["shop", "name", "terms"] (A8 Go) := by constructor <;> first | rfl | decide +kernel
theorem Tk (F : Fun K "bought" "bought" Go f fd) (T : Txt mg) (C : Exc K mg c) (Zvs : HasX P w K mg base "check_rings" 4 ["shop"] (Av c)) : FnOk P w K mg base (CXE P w) 5 f fd ["shop", "name", "terms"] (Lp c) := by
 refine F.okX Sz (fun vs H Q E h => ?_) (fun cdv A outer s H vs Q E hr h => ?_)
 ·obtain ⟨v, v2, v3, S, rfl, _⟩ := h
  rfl
 ·obtain ⟨v, v2, v3, S, rfl, rs, rg, ke⟩ := h
  have hu := Aq hr
  refine ⟨_, (A2 (Ay (Bd Zvs D0 hr.z rfl (A4 (pv 0) A1)))
 Bj), ?_⟩
  walk_at "rd"
  exact ⟨v, S, rfl, rs, rg.ok, rg.nl, rg.own, fun no => absurd no rg.ring, fun _ H1 s1 => ke H1 s1⟩
abbrev Q1 (c : Cl) : Sp := rg1 c
theorem Q8 (F : Fun K "late" "late" Je f fd) (T : Txt mg) (C : Exc K mg c) (Zug : HasX P w K mg base "lets_plan" 8 ["shop"] (Hz c)) : FnOk P w K mg base (CXE P w) 9 f fd ["shop"] (Q1 c) := by
 refine F.okX sc_late (fun vs H Q E h => ?_) (fun cdv A outer s H vs Q E hr h => ?_)
 ·obtain ⟨v, S, rfl, _⟩ := h
  rfl
 ·obtain ⟨v, S, rfl, rs, rg, ke⟩ := h
  have hu := Aq hr
  refine ⟨_, (A2 (Bp (R8 (Ky (Bd Zug D0 hr.z rfl (A4 (Br (A4 (Ab hu (pv 0) A7 (fun _ _ => rfl)) (A4 (Br A1) A1))) A1)))) (A9 (Af Hc)) Au)
 Bj), ?_⟩
  walk_at "rd"
  obtain ⟨sa, sb, sc, ws, us, ev, ha, hb, hc, rws, rus⟩ := Cj rs
  refine ⟨_, by rw [ev]; exact Ag (j := 0) ha rfl, by decide, fun p hp => ⟨by decide, fun q hq => ?_⟩⟩
  have u1 := A6 (o := .tup []) hp
  have u2 := A6 (o := .tup [.ref sb, .ref p]) hq
  have s2 := u1.trans u2
  have rs0 : RD (upd (upd H p (.tup [])) q (.tup [.ref sb, .ref p])) (noS S).d (.ref q) := by
   unfold noS Sh.d
   exact RD.tup_mk A0 (RDs.cons (RD.tup_mk (s2 _ _ hb) (RDs.same s2 _ _ rws)) (RDs.one (RD.tup_mk (xs := []) (u2 _ _ A0) RDs.nil)))
  exact ⟨.ref q, noS S, rfl, rs0, rg.none, fun H1 s1 => ke H1 (s2.trans s1)⟩
def Jt (c : Cl) : Sp := fun vs H Q E => ∃ (v : V) (S : Sh) (n : Str), vs = [v, .str n] /\ RD H S.d v /\ n ∉ S.wares.map (·.name) /\ n.length <= 1000 /\ (∀ c ∈ n.cps.toList, c < 1114112) /\ ∀ H', Same H H' -> E (.ref c.NoName) none H'
theorem Re (F : Fun K "ware_of" "ware_of" Ee f fd) (T : Txt mg) (C : Exc K mg c) : FnOk P w K mg base (CXE P w) 1 f fd ["shop", "name"] (Jt c) := by
 refine F.okX sc_ware_of (fun vs H Q E h => ?_) (fun cdv A outer s H vs Q E hr h => ?_)
 ·obtain ⟨v, S, n, rfl, _⟩ := h
  rfl
 ·obtain ⟨v, S, n, rfl, rs, hn, hx, htx, ke⟩ := h
  have hu := Aq hr
  refine ⟨_, (A2 (Bl PassesOwn.leaving rfl (De (Ab hu (pv 0) A7 (fun _ _ => rfl))) (Ah (i := 2) sc_ware_of.nd rfl (Zzq rfl))
 (A9 (Bp (Al (Da hu) (Ab hu (pv 2) (An rfl T.Zvf) (fun _ _ => rfl)) (pv 1) (B2 _)) (A9 (Af (pv 2))) Au)))
 (A9 (T6 ix rfl rfl C.Zsu C.Ztx (A4 (Yz (Yx (ko (pv 1) Yw))) A1)))), ?_⟩
  obtain ⟨a, b, c', ws, us, rfl, ha, hb, hc, rws, rus⟩ := Cj rs
  have hl := Bo rws
  walk_at "rd"
  refine ⟨_, Ag (j := 0) ha rfl, b, rfl, _, hb, ?_⟩
  refine D4 (Ey b _) (Wd (.ref a) n S.wares H) ⟨_, rfl, rfl, fun w hw => by cases hw⟩ (fun i σ H' _ h => by obtain ⟨_, _, rfl, _⟩ := h; exact hb) (fun i y σ H2 hi hy h => ?_) (fun σ H2 h => ?_)
  ·obtain ⟨o, rfl, rfl, hno⟩ := h
   obtain ⟨u, hu', ru⟩ := C6 rws hy
   obtain ⟨te, c1, c2, rfl, hte, _⟩ := Bz ru
   walk_at "rd"
   refine ⟨_, Ag (j := 0) hte rfl, rfl, ?_⟩
   have ne : u.name ≠ n := fun z => hn (Zzx.mpr ⟨u, Zzn hu', z⟩)
   rw [if_neg (by simpa using ne)]
   refine ⟨_, rfl, rfl, fun w hw => ?_⟩
   rw [Zz3, hu'] at hw
   rcases Zz4.mp hw with z | z
   ·exact hno w z
   ·have : w = u := by simpa using z
    rw [this]; exact ne
  ·obtain ⟨o, rfl, rfl, hno⟩ := h
   walk_at "rd"
   have l18 : (Str.ofString "no ware is called ").length = 18 := by decide +kernel
   exact ⟨by omega, htx, by omega, by omega, fun _ => ⟨by decide, ke _ (Same.refl _)⟩⟩
def Q0 (c : Cl) : Sp := fun vs H Q E => ∃ (v : V) (S : Sh) (nm : Str) (v3 : V), vs = [v, .str nm, v3] /\ RD H S.d v /\ ((Rg S /\ ∀ H', Same H H' -> E (.ref c.Ring) none H') \/ (Lh S /\ D1 S /\ (∀ w ∈ S.wares, w.name.length <= 800) /\ (∀ w ∈ S.wares, ∀ p ∈ w.parts, p.1 ∈ S.wares.map (·.name)) /\ nm ∉ S.wares.map (·.name) /\ nm.length <= 1000 /\ (∀ c ∈ nm.cps.toList, c < 1114112) /\ ∀ H', Same H H' -> E (.ref c.NoName) none H'))
theorem Q7 (F : Fun K "most" "most" Jd f fd) (T : Txt mg) (C : Exc K mg c) (Zvs : HasX P w K mg base "check_rings" 4 ["shop"] (Av c)) (Zu6 : HasX P w K mg base "ware_of" 1 ["shop", "name"] (Jt c)) : FnOk P w K mg base (CXE P w) 5 f fd ["shop", "name", "day"] (Q0 c) := by
 refine F.okX Vk (fun vs H Q E h => ?_) (fun cdv A outer s H vs Q E hr h => ?_)
 ·obtain ⟨v, S, nm, v3, rfl, _⟩ := h
  rfl
 ·obtain ⟨v, S, nm, v3, rfl, rs, hcase⟩ := h
  have hu := Aq hr
  refine ⟨_, (A2 (Ay (Bd Zvs D0 hr.z rfl (A4 (pv 0) A1)))
 (A2 (Ay (Bd Zu6 D0 hr.z rfl (A4 (pv 0) (A4 (pv 1) A1))))
 Bj)), ?_⟩
  walk_at "rd"
  rcases hcase with ⟨rg, ke⟩ | ⟨ok, no, nl, own, hnm, h1, h2, ke⟩
  ·exact ⟨v, S, rfl, rs, rg.ok, rg.nl, rg.own, fun no => absurd no rg.ring, fun _ H1 s1 => ke H1 s1⟩
  ·exact ⟨v, S, rfl, rs, ok, nl, own, fun _ H1 s1 => ⟨v, S, nm, rfl, RD.same s1 _ _ rs, hnm, h1, h2, fun H2 s2 => ke H2 (s1.trans s2)⟩, fun z => absurd no z⟩
end
set_option maxHeartbeats 4000000
section
variable {P : Program} {w : World} {K : Zzu} {mg : Str -> Option Value} {base : Heap} {f : Addr} {fd : FuncData} {c : Cl} {Pt : Addr}
inductive Reach (S : Sh) (a : Str) : Str -> Prop
 | refl : Reach S a a
 | step {w : Wr} {p : Str × Int} : Reach S a w.name -> w ∈ S.wares -> p ∈ w.parts -> Reach S a p.1
theorem Wy {S : Sh} {r : Str -> Nat} (r2 : ∀ w ∈ S.wares, ∀ p ∈ w.parts, r p.1 < r w.name) {a x : Str} (h : Reach S a x) : r x <= r a := by
 induction h with
 | refl => exact Zzt _
 | step _ hw hp ih => have := r2 _ hw _ hp; omega
structure UnOk (S : Sh) (nm : Str) (xs : List Str) : Prop where
 nd : xs.Nodup
 each : ∀ x ∈ xs, x ∈ S.wares.map (·.name) /\ Reach S nm x
 has : nm ∈ xs
theorem UnOk.len {S : Sh} {nm : Str} {xs : List Str} (h : UnOk S nm xs) : xs.length <= S.wares.length := by
 have := M5 h.nd (fun x hx => (h.each x hx).1)
 rw [Zzz] at this
 exact this
theorem UnOk.more {S : Sh} {nm : Str} {xs : List Str} (h : UnOk S nm xs) (ws : WsOk S.wares) {w : Wr} (hw : w ∈ S.wares) (hx : w.name ∈ xs) : UnOk S nm (xs ++ (w.parts.map (·.1)).filter fun x => decide (x ∉ xs)) := by
 refine ⟨Zxe.mpr ⟨h.nd, (List.filter_sublist).nodup (ws.wb w hw).nds, fun a ha b hb z => ?_⟩, fun x hx2 => ?_, Zy7 _ h.has⟩
 ·have := of_decide_eq_true (Zxt.mp hb).2
  rw [<- z] at this
  exact this ha
 ·rcases Zz4.mp hx2 with z | z
  ·exact h.each x z
  ·obtain ⟨p, hp, rfl⟩ := Zzx.mp (Zxt.mp z).1
   exact ⟨ws.own w hw p hp, .step (h.each _ hx).2 hw hp⟩
def sp_law_all_under : Sp := fun vs H Q _ => ∃ (v : V) (S : Sh) (nm : Str), vs = [v, .str nm] /\ RD H S.d v /\ WsOk S.wares /\ S.wares.length <= 12 /\ nm ∈ S.wares.map (·.name) /\ ∀ p xs H', H p = none -> H' p = some (.lst (xs.map V.str)) -> UnOk S nm xs -> Same H H' -> Q (.ref p) H'
def qq (v : V) (nm : Str) (S : Sh) (H : Hp) (m : Nat) (σ : St) (H' : Hp) : Prop := ∃ (q : Addr) (xs : List Str) (sp : Nat) (o : Option V), m = S.wares.length - sp /\ σ = [some v, some (.str nm), some (.ref q), some (.int sp), o] /\ H q = none /\ H' q = some (.lst (xs.map V.str)) /\ UnOk S nm xs /\ sp <= xs.length /\ Same H H'
def qt (v : V) (nm : Str) (S : Sh) (H : Hp) (sp : Nat) (y : Str) (i : Nat) (σ : St) (H' : Hp) : Prop := ∃ (q : Addr) (xs : List Str) (o : Option V), σ = [some v, some (.str nm), some (.ref q), some (.int sp), o] /\ H q = none /\ H' q = some (.lst (xs.map V.str)) /\ UnOk S nm xs /\ xs[sp]? = some y /\ Same H H'
def qu (xs : List Str) (ps : List Str) (q : Addr) (H : Hp) (j : Nat) (acc : List V) (H' : Hp) : Prop := acc = ((ps.take j).filter fun x => decide (x ∉ xs)).map V.str /\ Same H H'
theorem sc_law_all_under : Aj ["_law_shop_here", "_law_name", "_law_found", "_law_spot", "_law_ware"] ["_law_shop_here", "_law_name"] (A8 Cg) := by constructor <;> first | rfl | decide +kernel
theorem L4 (F : Fun K "_law_all_under" "_law_all_under" Cg f fd) (T : Txt mg) (C : Exc K mg c) : FnOk P w K mg base CX0 1 f fd ["_law_shop_here", "_law_name"] sp_law_all_under := by
 refine F.ok sc_law_all_under (fun vs H Q E h => ?_) (fun cdv A outer s H vs Q E hr h => ?_)
 ·obtain ⟨v, S, nm, rfl, _⟩ := h
  rfl
 ·obtain ⟨v, S, nm, rfl, rs, ws, h12, hnm, k⟩ := h
  have hu := Aq hr
  refine ⟨_, (A2 (Ac (i := 2) sc_law_all_under.nd rfl (Or.inr rfl) (Bm (A4 (pv 1) A1)))
 (A2 (Ac (i := 3) sc_law_all_under.nd rfl (Zzq rfl) A7)
 (A2 (Ic PassesOwn.never (Al (F0 hu) (pv 3) (Az Cc rfl T.Zul Er (A4 (pv 2) A1)) (B2 _)) (A2 (Bl PassesOwn.never rfl (De (Ab hu (pv 0) A7 (fun _ _ => rfl))) (Ah (i := 4) sc_law_all_under.nd rfl (Zzq rfl))
 (A9 (Bp (Al (Da hu) (Ab hu (pv 4) A7 (fun _ _ => rfl)) (Ab hu (pv 2) (pv 3) (fun _ _ => rfl)) (B2 _)) (A9 (Ac (i := 2) sc_law_all_under.nd rfl (Or.inr rfl) (Am N6 (pv 2) (Fm (own := ["_law_part", "_law_amount_here"]) (cap := [2]) rfl (Gv rfl) Ql (De (Ab hu (pv 4) A7 (fun _ _ => rfl)))
 (fun _ _ _ _ _ _ => ⟨(Id (n := 2) rfl (Bt (Ah (i := 0) (of_decide_eq_true rfl) rfl (Zzq rfl) (.inr rfl)) (Bt (Ah (i := 1) (of_decide_eq_true rfl) rfl (Zzq rfl) (.inr rfl)) G9))), (Vn (Al (Q5 hu) (pv 0) (pv 2) rfl)), (pv 0)⟩))))) Au)))
 (A9 (Ac (i := 3) sc_law_all_under.nd rfl (Zzq rfl) (Am Ca (pv 3) A7)))))
 (A9 (Af (pv 2)))))), ?_⟩
  obtain ⟨a, b, c', wv, us, rfl, ha, hb, hc, rws, rus⟩ := Cj rs
  have hlw := Bo rws
  walk_at "rd"
  refine ⟨by decide, fun p hp => ?_⟩
  refine ⟨qq (.ref a) nm S H, ⟨_, p, [nm], 0, none, rfl, rfl, hp, A0, ⟨by simp, fun x hx => ?_, Zzd.mpr rfl⟩, by simp, A6 hp⟩, fun m σ H1 hW => ?_⟩
  ·rw [Zzd.mp hx]
   exact ⟨hnm, .refl⟩
  obtain ⟨q, xs, sp, o, rfl, rfl, fq, hq, un, hsp, s1⟩ := hW
  have hxl := un.len
  walk_at "rd"
  have e1 : (xs.map V.str).length = xs.length := Zzz ..
  refine ⟨_, .inl hq, ?_⟩
  rw [e1]
  refine D3 (fun c => ?_) (fun c => ?_)
  ·have c : (sp : Int) < xs.length := of_decide_eq_true c
   obtain ⟨y, hy⟩ : ∃ y, xs[sp]? = some y := ⟨_, Zzr (by omega)⟩
   refine ⟨_, fun σ' H' z => z, _, Ag (j := 0) (s1 _ _ ha) rfl, b, rfl, wv, s1 _ _ hb, ?_⟩
   refine D4 (Ey b _) (qt (.ref a) nm S H sp y) ⟨q, xs, _, rfl, fq, hq, un, hy, s1⟩ (fun i σ H' _ h => let ⟨_, _, _, _, _, _, _, _, s⟩ := h; s _ _ hb) (fun i x σ H2 hi hx h => ?_) (fun σ H2 h => ?_)
   ·obtain ⟨q, xs, o, rfl, fq, hq, un, hy, s2⟩ := h
    have hxl := un.len
    obtain ⟨t, ht, rt⟩ := C6 rws hx
    obtain ⟨te, c5, c6, rfl, hte, rc, rp⟩ := Bz rt
    obtain ⟨pb, pv, rfl, hpb, rpv⟩ := RD.tup_of rp
    have hlp := Bo rpv
    have htm := Zzn ht
    have hpl := (ws.wb t htm).parts
    walk_at "rd"
    refine ⟨_, Ag (j := 0) (s2 _ _ hte) rfl, _, Jj (.inl hq) (by omega) (by rw [Int.toNat_natCast, Zzv, hy]; rfl), rfl, ?_⟩
    refine D3 (fun cn => ?_) (fun cn => ⟨q, xs, _, rfl, fq, hq, un, hy, s2⟩)
    have en : t.name = y := by have := of_decide_eq_true cn; cases this; rfl
    refine ⟨_, Ag (j := 6) (s2 _ _ hte) rfl, pb, rfl, pv, s2 _ _ hpb, ?_⟩
    refine Lc (Ey pb _) (Ax (by omega)) (qu xs (t.parts.map (·.1)) q H2) ⟨rfl, Same.refl _⟩ (fun j acc H' _ h => h.2 _ _ (s2 _ _ hpb)) (fun j acc H' h => ?_) (fun j z acc H3 hj hz h => ?_) (fun acc H3 h r hr3 => ?_)
    ·rw [h.1, Zzz]
     refine Zz5 (Zw7 _ _) ?_
     rw [Zyl]
     omega
    ·obtain ⟨hacc, s3⟩ := h
     obtain ⟨pp, hpp, rpp⟩ := C6 rpv hz
     obtain ⟨pe, rfl, hpe⟩ := M8 rpp
     have hq1 : (t.parts.map (·.1))[j]? = some pp.1 := by rw [Zzv, hpp]; rfl
     refine gt2 (s3 _ _ (s2 _ _ hpe)) ?_
     walk_at "rd"
     refine ⟨_, .inl ⟨q, _, rfl, .inl (s3 _ _ hq), rfl, J0 xs, rfl⟩, ?_⟩
     rw [O4]
     by_cases z : pp.1 ∈ xs
     ·rw [decide_eq_true z, if_neg (by decide)]
      refine ⟨?_, s3⟩
      rw [Zz3, hq1, Zvu, hacc]
      simp [z]
     ·rw [decide_eq_false z, if_pos (by decide)]
      refine ⟨?_, s3⟩
      rw [Zz3, hq1, Zvu, hacc]
      simp [z]
    ·obtain ⟨hacc, s3⟩ := h
     rw [hlp, <- Zzz (f := fun p : Str × Int => p.1), Zyu] at hacc
     have u3 := A6 (o := .lst acc) hr3
     have hq3 := u3 _ _ (s3 _ _ hq)
     have un2 := un.more ws htm (by rw [en]; exact Zzn hy)
     have hl2 := un2.len
     refine ⟨r, rfl, _, hq3, _, A0, Zz5 (m := 1000) (by
      rw [hacc, Zzz, Zzz, <- Zyv]
      omega) (Ax (Zzt _)), fun p2 hp2 => ?_⟩
     have s4 := (s2.trans s3).trans (u3.trans (A6 (o := .lst (xs.map V.str ++ acc)) hp2))
     refine ⟨p2, xs ++ (t.parts.map (·.1)).filter fun x => decide (x ∉ xs), _, rfl, Same.free ((s2.trans s3).trans u3) hp2, ?_, un2, ?_, s4⟩
     ·rw [A0, hacc, Zzg]
     ·rw [Zyo (Zzl.mp hy).1]
      exact hy
   ·obtain ⟨q, xs, o, rfl, fq, hq, un, hy, s2⟩ := h
    have hxl := un.len
    have hsl := (Zzl.mp hy).1
    walk_at "rd"
    exact ⟨S.wares.length - (sp + 1), by omega, q, xs, sp + 1, _, rfl, rfl, fq, hq, un, by omega, s2⟩
  ·exact k q xs H1 fq hq un s1
def Ev (u : Str) (pt : Str × Int) (w : Wr) : Wr := if w.name = u then { w with parts := w.parts ++ [pt] } else w
def Ib (u : Str) (pt : Str × Int) (S : Sh) : Sh := ⟨S.wares.map (Ev u pt), S.wants⟩
theorem Ir (u : Str) (pt : Str × Int) (w : Wr) : (Ev u pt w).name = w.name := by unfold Ev; split <;> rfl
theorem Mt (u : Str) (pt : Str × Int) (S : Sh) : (Ib u pt S).wares.map (·.name) = S.wares.map (·.name) := by
 unfold Ib
 rw [Zyk]
 exact Zy9 fun w _ => Ir u pt w
theorem Um {S : Sh} {u : Str} {pt : Str × Int} {a x : Str} (h : Reach S a x) : Reach (Ib u pt S) a x := by
 induction h with
 | refl => exact .refl
 | @step w p _ hw hp ih =>
  refine Reach.step (w := Ev u pt w) (p := p) (by rw [Ir]; exact ih) (Zzx.mpr ⟨w, hw, rfl⟩) ?_
  unfold Ev
  split
  ·exact Zy7 _ hp
  ·exact hp
theorem de {sz : Int} {S : Sh} (g : Good sz S) {u nm : Str} {n : Int} (hu : u ∈ S.wares.map (·.name)) (hn : nm ∈ S.wares.map (·.name)) (hr : Reach S nm u) : Rg (Ib u (nm, n) S) := by
 have ok : Lh (Ib u (nm, n) S) := by
  refine ⟨by rw [Mt]; exact g.ok.names, by show (S.wares.map _).length <= 1000; rw [Zzz]; exact g.ok.len, fun w hw => ?_⟩
  obtain ⟨t, ht, rfl⟩ := Zzx.mp hw
  have b := g.ws.wb t ht
  have c := g.com t ht
  unfold Ev
  split
  ·exact ⟨by show (t.parts ++ [(nm, n)]).length <= 1000; rw [Zyv, Zyy]; have := b.parts; omega, by have := c.1; show t.coming.length <= 1000; omega⟩
  ·exact g.ok.wares t ht
 have own : ∀ w ∈ (Ib u (nm, n) S).wares, ∀ p ∈ w.parts, p.1 ∈ (Ib u (nm, n) S).wares.map (·.name) := fun w hw p hp => by
  rw [Mt]
  obtain ⟨t, ht, rfl⟩ := Zzx.mp hw
  unfold Ev at hp
  split at hp
  ·rcases Zz4.mp hp with z | z
   ·exact g.ws.own t ht p z
   ·rw [Zzd.mp z]; exact hn
  ·exact g.ws.own t ht p hp
 refine ⟨ok, fun w hw => ?_, own, fun no => ?_⟩
 ·obtain ⟨t, ht, rfl⟩ := Zzx.mp hw
  rw [Ir]
  exact (g.ws.txt t ht).2.1
 ·have nd : (Ad (Dp (Ib u (nm, n) S))).Nodup := by rw [M9]; exact ok.names
  obtain ⟨r, h1, h2⟩ := gn nd no fun e he y hy => by
   obtain ⟨t, ht, hz⟩ := Zzx.mp he
   cases hz
   obtain ⟨pp, hp1, hp2⟩ := Zzx.mp hy
   rw [<- hp2, M9]
   exact own t ht pp hp1
  have r2 : ∀ w ∈ (Ib u (nm, n) S).wares, ∀ p ∈ w.parts, r p.1 < r w.name := fun w hw p hp => h2 _ (Zzx.mpr ⟨w, hw, rfl⟩) _ (Zzx.mpr ⟨p, hp, rfl⟩)
  obtain ⟨t, ht, et⟩ := Zzx.mp hu
  have hp : (nm, n) ∈ (Ev u (nm, n) t).parts := by
   unfold Ev
   rw [if_pos et]
   exact Zz1 _ (Zzd.mpr rfl)
  have q1 := r2 _ (Zzx.mpr ⟨t, ht, rfl⟩) _ hp
  have q2 := Wy r2 (Um (u := u) (pt := (nm, n)) hr)
  rw [Ir] at q1
  have e2 : r t.name = r u := by rw [show t.name = u from et]
  have q1 : r nm < r t.name := q1
  omega
def sp_law_ringed : Sp := fun vs H Q _ => ∃ (v : V) (st : Addr) (S : Sh) (sz : Int), vs = [v, .ref st] /\ RD H S.d v /\ Good sz S /\ StOk2 H st /\ ∀ x (S' : Sh) H', RD H' S'.d x -> Rg S' -> StOk2 H' st -> But st H H' -> Q x H'
def jd (v : V) (st p : Addr) (nm u : Str) (S : Sh) (x3 : V) (H : Hp) (i : Nat) (σ : St) (H' : Hp) : Prop := ∃ (n : Int) (vs : List V) (o : Option V), σ = [some v, some (.ref st), some (.str nm), some x3, some (.str u), some (.ref p), o] /\ H' p = some (.lst vs) /\ RDs H' (((S.wares.take i).map (Ev u (nm, n))).map Wr.d) vs /\ StOk2 H' st /\ But st H H'
theorem sc_law_ringed : Aj ["_law_shop_here", "_law_state", "_law_name", "_law_under", "_law_user", "_law_wares_here", "_law_ware"] ["_law_shop_here", "_law_state"] (A8 Dk) := by constructor <;> first | rfl | decide +kernel
theorem Ow (F : Fun K "_law_ringed" "_law_ringed" Dk f fd) (T : Txt mg) (C : Exc K mg c) (Zvq : Has P w K mg base "_law_next" 1 ["_law_state", "_law_many"] sp_law_next) (Zua : Has P w K mg base "_law_all_under" 1 ["_law_shop_here", "_law_name"] sp_law_all_under) : FnOk P w K mg base CX0 2 f fd ["_law_shop_here", "_law_state"] sp_law_ringed := by
 refine F.ok sc_law_ringed (fun vs H Q E h => ?_) (fun cdv A outer s H vs Q E hr h => ?_)
 ·obtain ⟨v, st, S, sz, rfl, _⟩ := h
  rfl
 ·obtain ⟨v, st, S, sz, rfl, rs, g, hs, k⟩ := h
  have hu := Aq hr
  refine ⟨_, (A2 (Ac (i := 2) sc_law_ringed.nd rfl (Zzq rfl) (Ab hu (Ab hu (Ab hu (pv 0) A7 (fun _ _ => rfl)) (Aa Zvq hr.z rfl (A4 (pv 1) (A4 (Az Cc rfl T.Zul Er (A4 (Ab hu (pv 0) A7 (fun _ _ => rfl)) A1)) A1))) (fun _ _ => rfl)) A7 (fun _ _ => rfl)))
 (A2 (Ac (i := 3) sc_law_ringed.nd rfl (Zzq rfl) (Aa Zua hr.z rfl (A4 (pv 0) (A4 (pv 2) A1))))
 (A2 (Ac (i := 4) sc_law_ringed.nd rfl (Zzq rfl) (Ab hu (pv 3) (Aa Zvq hr.z rfl (A4 (pv 1) (A4 (Az Cc rfl T.Zul Er (A4 (pv 3) A1)) A1))) (fun _ _ => rfl)))
 (A2 (Ac (i := 5) sc_law_ringed.nd rfl (Zzq rfl) (Bm A1))
 (A2 (Bl PassesOwn.never rfl (De (Ab hu (pv 0) A7 (fun _ _ => rfl))) (Ah (i := 6) sc_law_ringed.nd rfl (Zzq rfl))
 (A2 (Bp (Al (Da hu) (Ab hu (pv 6) A7 (fun _ _ => rfl)) (pv 4) (B2 _)) (A9 (Ac (i := 6) sc_law_ringed.nd rfl (Zzq rfl) (Am K4 (E8 da (pv 6) Fk (Fj A7)) (Br (A4 (Am K4 (Ab hu (pv 6) A7 (fun _ _ => rfl)) (Br (A4 (Br (A4 (pv 2) (A4 (Am Ca A7 (Aa Zvq hr.z rfl (A4 (pv 1) (A4 A7 A1)))) A1))) A1))) A1))))) Au)
 (A9 (Ay (Gp Zyp Zyj Zyi D9 (pv 5) (A4 (pv 6) A1))))))
 (A9 (Af (Br (A4 (D8 Dg rfl T.Zu9 G6 (A4 (pv 5) A1)) (A4 (Ab hu (pv 0) A7 (fun _ _ => rfl)) A1)))))))))), ?_⟩
  obtain ⟨a, b, c', wv, us, rfl, ha, hb, hc, rws, rus⟩ := Cj rs
  have hlw := Bo rws
  walk_at "rd"
  have hlen := g.len
  refine ⟨_, Ag (j := 0) ha rfl, _, Ag (j := 0) ha rfl, b, rfl, wv, .inr hb, st, wv.length, rfl, hs, by omega, Zxw (b := 12) (by omega) (by decide +kernel), fun d H1 d0 d1 s1 b1 => ?_⟩
  have ku1 := Gg b1 hs
  have rws1 := RDs.ku ku1 _ _ (Cb Wr.d Hd _) rws
  obtain ⟨x, hx⟩ : ∃ x, wv[d.toNat]? = some x := ⟨_, Zzr (by omega)⟩
  obtain ⟨t, ht, rt⟩ := C6 rws1 hx
  obtain ⟨te, c1, c2, rfl, hte, _⟩ := Bz rt
  have htm := Zzn ht
  have hnm : t.name ∈ S.wares.map (·.name) := Zzx.mpr ⟨t, htm, rfl⟩
  have rs1 := RD.ku ku1 _ _ (Co S) rs
  refine ⟨_, Jj (.inr (ku1 _ _ hb)) d0 hx, _, Ag (j := 0) hte rfl, .ref a, S, t.name, rfl, rs1, g.ws, hlen.2, hnm, fun q xs H2 fq hq un s2 => ?_⟩
  have hxl := un.len
  have hpos : 0 < xs.length := List.length_pos_of_mem un.has
  have e1 : (xs.map V.str).length = xs.length := Zzz ..
  refine ⟨q, rfl, _, .inl hq, st, xs.length, by rw [e1], s1.same s2, by omega, Zxw (b := 12) (by omega) (by decide +kernel), fun e H3 e0 e1' s3 b3 => ?_⟩
  have qst : q ≠ st := fun z => by obtain ⟨_, _, e⟩ := s1; rw [<- z, fq] at e; cases e
  obtain ⟨u, hu2⟩ : ∃ u, xs[e.toNat]? = some u := ⟨_, Zzr (by omega)⟩
  have hum := un.each u (Zzn hu2)
  refine ⟨.str u, Jj (.inl (b3 _ _ qst hq)) e0 (by rw [Zzv, hu2]; rfl), by decide, fun p hp => ?_⟩
  have b03 : But st H H3 := (b1.trans (Be s2)).trans b3
  have pst : p ≠ st := fun z => by obtain ⟨_, _, e⟩ := s3; rw [<- z, hp] at e; cases e
  have fp : H p = none := b03.none pst hp
  have ku3 := Gg b03 hs
  have u3 := A6 (o := .lst []) hp
  have hb3 := u3 _ _ (ku3 _ _ hb)
  refine ⟨_, Ag (j := 0) (u3 _ _ (ku3 _ _ ha)) rfl, b, rfl, wv, hb3, ?_⟩
  have ab : ∀ {Hx : Hp}, But st H Hx -> KeepU H Hx := fun bx => Gg bx hs
  refine D4 (Ey b _) (jd (.ref a) st p t.name u S (.ref q) H) ⟨0, [], _, rfl, A0, RDs.nil, s3.same u3, b03.new hp⟩ (fun i σ H' _ h => let ⟨_, _, _, _, _, _, _, bt⟩ := h; ab bt _ _ hb) (fun i y σ H4 hi hy h => ?_) (fun σ H4 h => ?_)
  ·obtain ⟨n, vs, o, rfl, hp4, r4, s4, b4⟩ := h
   have ku4 := ab b4
   obtain ⟨w, hw, rw0⟩ := C6 rws hy
   have rw4 := RD.ku ku4 _ _ (Hd w) rw0
   obtain ⟨we, c5, c6, rfl, hwe, rc, rp⟩ := Bz rw4
   obtain ⟨pb, pv, rfl, hpb, rpv⟩ := RD.tup_of rp
   have hlp := Bo rpv
   have hwm := Zzn hw
   have hpl := (g.ws.wb w hwm).parts
   have hvl := Bo r4
   rw [Zzz, Zyl] at hvl
   have app : ∀ (n : Int) (z : V) (H5 : Hp), RDs H5 (((S.wares.take i).map (Ev u (t.name, n))).map Wr.d) vs -> RD H5 (Ev u (t.name, n) w).d z -> H5 p = some (.lst vs) -> StOk2 H5 st -> But st H H5 -> jd (.ref a) st p t.name u S (.ref q) H (i + 1) [some (.ref a), some (.ref st), some (.str t.name), some (.ref q), some (.str u), some (.ref p), some z] (upd H5 p (.lst (vs ++ [z]))) := fun n z H5 r5 rz hp5 s5 b5 => by
    have kk : KeepU H5 (upd H5 p (.lst (vs ++ [z]))) := Rs hp5 (fun _ y => by cases y)
    refine ⟨n, _, _, rfl, A0, ?_, ?_, b5.upd fp⟩
    ·rw [Zz3, hw, Zzg, Zzg]
     exact RDs.app (RDs.ku kk _ _ (Cb Wr.d Hd _) r5) (RDs.one (RD.ku kk _ _ (Hd _) rz))
    ·obtain ⟨x, y, q⟩ := s5
     exact ⟨x, y, by rw [A5 (Zzh pst)]; exact q⟩
   walk_at "rd"
   refine ⟨_, Ag (j := 0) hwe rfl, rfl, ?_⟩
   refine D3 (fun c => ?_) (fun c => ?_)
   ·have eu : w.name = u := by have := of_decide_eq_true c; cases this; rfl
    have rest : ∀ m : Int, ((S.wares.take i).map (Ev u (t.name, n))).map Wr.d = ((S.wares.take i).map (Ev u (t.name, m))).map Wr.d := fun m => by
     congr 1
     refine Zy9 fun z hz => ?_
     have : z.name ≠ u := fun e => by
      have nd := g.ws.nd
      have hi2 : i < S.wares.length := (Zzl.mp hw).1
      have h1 : u ∈ (S.wares.map (·.name)).take i := by rw [<- Zwv]; exact Zzx.mpr ⟨z, hz, e⟩
      exact Fp nd (i := i) (by rw [Zzv, hw]; exact congrArg some eu) h1
     unfold Ev
     rw [if_neg this, if_neg this]
    refine ⟨_, hwe, fun a1 H5 x1 s5 _ => ⟨_, Ag (j := 6) (s5 _ _ hwe) rfl, st, 3, rfl, s4.same s5, by decide, by decide +kernel, fun e2 H6 _ _ s6 b6 => ⟨e2, rfl, by decide, fun a2 ha2 => ⟨by decide, fun a3 ha3 => ?_⟩⟩⟩⟩
    rw [Hk (by decide)] at x1
    have ku6 := Gg b6 (s4.same s5)
    have v1 := A6 (o := .tup [V.str t.name, V.int (1 + e2)]) ha2
    have v2 := A6 (o := .tup [V.ref a2]) ha3
    have x2 := v2 _ _ (A0 (H := H6) (a := a2) (o := .tup [V.str t.name, V.int (1 + e2)]))
    have x3 := A0 (H := upd H6 a2 (.tup [V.str t.name, V.int (1 + e2)])) (a := a3) (o := .tup [V.ref a2])
    have s7 := v1.trans v2
    generalize upd (upd H6 a2 (.tup [V.str t.name, V.int (1 + e2)])) a3 (.tup [V.ref a2]) = H7 at x2 x3 s7 ⊢
    have ku47 : KeepU H4 H7 := (s5.ku.trans ku6).trans s7.ku
    refine ⟨pb, rfl, pv, ku47 _ _ hpb, _, x3, Zz5 (m := 1000) (by rw [Zyy]; omega) (Ax (Zzt _)), fun a4 H8 x4 s8 _ => ⟨by decide, fun a5 ha5 => ?_⟩⟩
    have v3 := A6 (o := .tup [V.ref a4]) ha5
    have x5 := A0 (H := H8) (a := a5) (o := .tup [V.ref a4])
    have s79 := s8.trans v3
    have x49 := v3 _ _ x4
    generalize upd H8 a5 (.tup [V.ref a4]) = H9 at x5 s79 x49 ⊢
    have ku59 : KeepU H5 H9 := (ku6.trans s7.ku).trans s79.ku
    refine ⟨_, ku59 _ _ x1, _, x5, Zz5 (m := 1000) (by rw [Zyl, Zyy]; simp) (Ax (Zzt _)), fun a6 H10 x6 s10 _ => ?_⟩
    have s710 := s79.trans s10
    have ku410 : KeepU H4 H10 := ku47.trans s710.ku
    have b410 : But st H4 H10 := ((Be s5).trans b6).trans (Be (s7.trans s710))
    have hp10 := b410 _ _ pst hp4
    refine ⟨Ea hp10, vs, hp10, Zz9 (show vs.length < 1000 by omega) (Ax (Zzt _)), app (1 + e2) _ H10 ?_ ?_ hp10 (s6.same (s7.trans s710)) (b4.trans b410)⟩
    ·rw [<- rest (1 + e2)]
     exact RDs.ku ku410 _ _ (Cb Wr.d Hd _) r4
    ·unfold Ev
     rw [if_pos eu]
     unfold Wr.d
     refine RD.tup_mk (xs := [V.str w.name, .int w.lag, .int w.gives, .int w.floor, .int w.stock, c5, .ref a4]) x6 (RDs.cons RD.str_mk (RDs.cons RD.int_mk (RDs.cons RD.int_mk (RDs.cons RD.int_mk (RDs.cons RD.int_mk (RDs.cons (RD.ku ku410 _ _ ?_ rc) (RDs.one ?_)))))))
     ·simp only [Ex]; exact Cb Lf Rn _
     ·refine RD.tup_mk (s10 _ _ x49) ?_
      rw [Zzg]
      exact RDs.app (RDs.ku ku410 _ _ (Cb Ew Gb _) rpv) (RDs.one (RD.tup_mk (xs := [V.str t.name, .int (1 + e2)]) (s710 _ _ x2) (RDs.cons RD.str_mk (RDs.one RD.int_mk))))
   ·have eu : w.name ≠ u := fun z => c (decide_eq_true (by rw [z]))
    refine ⟨Ea hp4, vs, hp4, Zz9 (show vs.length < 1000 by omega) (Ax (Zzt _)), app n _ H4 r4 ?_ hp4 s4 b4⟩
    unfold Ev
    rw [if_neg eu]
    exact rw4
  ·obtain ⟨n, vs, o, rfl, hp4, r4, s4, b4⟩ := h
   rw [hlw, Zyu] at r4
   have ku4 := ab b4
   walk_at "rd"
   refine ⟨vs, .inl ⟨hp4, fun tw htw => ⟨_, Ag (j := 1) (A6 htw _ _ (ku4 _ _ ha)) rfl, by decide, fun r hr2 => ?_⟩⟩⟩
   have u4 := (A6 (o := .tup vs) htw).trans (A6 (o := .tup [.ref tw, .ref c']) hr2)
   have ku5 := ku4.trans u4.ku
   refine k (.ref r) (Ib u (t.name, n) S) _ ?_ (de g hum.1 hnm hum.2) (s4.same u4) (b4.trans (Be u4))
   unfold Ib Sh.d
   exact RD.tup_mk A0 (RDs.cons (RD.tup_mk (A6 hr2 _ _ A0) (RDs.same u4 _ _ r4)) (RDs.one (RD.tup_mk (ku5 _ _ hc) (RDs.ku ku5 _ _ (Cb Fs Kd _) rus))))
end
set_option maxHeartbeats 4000000
section
variable {P : Program} {w : World} {K : Zzu} {mg : Str -> Option Value} {base : Heap} {f : Addr} {fd : FuncData} {c : Cl} {Pt : Addr}
def Asks (c : Cl) (Pt : Addr) (S : Sh) (H : Hp) (Q : VK) (E : XK) : Prop := (Rg S /\ ∀ H', Same H H' -> E (.ref c.Ring) none H') \/ (Good 9 S /\ S.wants.length <= 20 /\ ∀ u H', Tb H' Pt -> But Pt H H' -> Q u H')
theorem Asks.same {c : Cl} {Pt : Addr} {S : Sh} {H H' : Hp} {Q : VK} {E : XK} (h : Asks c Pt S H Q E) (s : Same H H') : Asks c Pt S H' Q E := h.imp (fun ⟨a, b⟩ => ⟨a, fun H2 s2 => b H2 (s.trans s2)⟩) (fun ⟨a, b, d⟩ => ⟨a, b, fun u H2 t b2 => d u H2 t ((Be s).trans b2)⟩)
def Wj (c : Cl) (P : Program) (w : World) (K : Zzu) (mg : Str -> Option Value) (base : Heap) (Pt f : Addr) : Prop := ∃ sp, cg P w K mg base 9 f sp /\ ∀ (H : Hp) (v : V) (S : Sh) (Q : VK) (E : XK), RD H S.d v -> Tb H Pt -> Asks c Pt S H Q E -> sp [v] H Q E
def Wi (c : Cl) (P : Program) (w : World) (K : Zzu) (mg : Str -> Option Value) (base : Heap) (Pt f : Addr) : Prop := ∃ sp, cg P w K mg base 9 f sp /\ ∀ (H : Hp) (v : V) (a : Addr) (nm : Str) (S : Sh) (plan : Str -> List Int) (Q : VK) (E : XK), RD H S.d v -> Tb H Pt -> (D1 S -> nm ∈ S.wares.map (·.name) /\ PlanAt H a S plan) -> Asks c Pt S H Q E -> sp [v, .ref a, .str nm] H Q E
def RowAt3 (H : Hp) (a : Addr) (nm : Str) : Prop := ∃ (kvs : List (Key × V)) (l : Addr) (xs : List V), H a = some (.dK kvs) /\ C5 kvs (.inr nm) = some (.ref l) /\ H l = some (.lst xs) /\ xs.length <= 1000
def ml (H : Hp) (j : Nat) (acc : List V) (H' : Hp) : Prop := acc.length = j /\ Same H H'
def Jv (c : Cl) (Pt : Addr) : Sp := fun vs H Q E => ∃ (v : V) (a : Addr) (nm : Str) (way : Int) (S : Sh) (plan : Str -> List Int), vs = [v, .ref a, .str nm, .int way] /\ RD H S.d v /\ Tb H Pt /\ 0 <= way /\ RowAt3 H a nm /\ (D1 S -> nm ∈ S.wares.map (·.name) /\ PlanAt H a S plan) /\
 ((way < 15 /\ Rg S /\ ∀ H', Same H H' -> E (.ref c.Ring) none H') \/ (way < 10 /\ Good 9 S /\ S.wants.length <= 20 /\ ∀ u H', Tb H' Pt -> But Pt H H' -> Q u H') \/ (way = 10 /\ Good 9 S /\ ∀ H', Same H H' -> E (.ref c.NoName) none H'))
theorem R7 : Aj ["_law_shop_here", "_law_plan", "_law_name", "_law_way"] ["_law_shop_here", "_law_plan", "_law_name", "_law_way"] (A8 E3) := by constructor <;> first | rfl | decide +kernel
theorem Rl (F : Fun K "_law_asked" "_law_asked" E3 f fd) (T : Txt mg) (C : Exc K mg c) (Zsz : HasX P w K mg base "late" 9 ["shop"] (orS (Vj Pt) (Q1 c))) (Ztp : HasX P w K mg base "planned" 7 ["shop"] (orS (Jc Pt) (Gx c))) (Zto : HasX P w K mg base "days_of" 5 ["shop"] (orS sp_days_of (Jw c))) (Ztg : HasX P w K mg base "stocks" 5 ["shop", "plan", "name"] (orS sp_stocks (Lj c))) (Zt6 : HasX P w K mg base "needs" 5 ["shop", "plan", "name"] (orS sp_needs (Mn c))) (Zt5 : HasX P w K mg base "begun" 5 ["shop", "plan", "name"] (orS sp_begun (Mo c))) (Ztf : HasX P w K mg base "judged" 7 ["shop", "plan"] (orS (Q2 Pt) (Lo c))) (Ztn : HasX P w K mg base "put_off" 5 ["shop", "days"] (orS sp_put_off (Ju c))) (Zu4 : HasX P w K mg base "with_want" 5 ["shop", "name", "day", "amount"] (orS sp_with_want (Hw c))) (Zsy : HasX P w K mg base "most" 10 ["shop", "name", "day"] (orS (Vi Pt) (Q0 c))) (Zsx : HasX P w K mg base "pegs" 5 ["shop", "plan", "name"] (Pz c)) (Zte : HasX P w K mg base "serves" 5 ["shop", "plan", "name", "day"] (Lk c)) (Ztd : HasX P w K mg base "bought" 5 ["shop", "name", "terms"] (Lp c)) : FnOk P w K mg base (CXE P w) 11 f fd ["_law_shop_here", "_law_plan", "_law_name", "_law_way"] (Jv c Pt) := by
 refine F.okX R7 (fun vs H Q E h => ?_) (fun cdv A outer s H vs Q E hr h => ?_)
 ·obtain ⟨v, a, nm, way, S, plan, rfl, _⟩ := h
  rfl
 ·obtain ⟨v, a, nm, way, S, plan, rfl, rs, tb, w0, rows, hpl, hcase⟩ := h
  have hu := Aq hr
  obtain ⟨f_days_of, fd1, m_days_of, k1, b1, o1⟩ := id Zto
  obtain ⟨f_planned, fd2, m_planned, k2, b2, o2⟩ := id Ztp
  obtain ⟨f_late, fd3, m_late, k3, b3, o3⟩ := id Zsz
  obtain ⟨f_begun, fd4, m_begun, k4, b4, o4⟩ := id Zt5
  obtain ⟨f_needs, fd5, m_needs, k5, b5, o5⟩ := id Zt6
  obtain ⟨f_stocks, fd6, m_stocks, k6, b6, o6⟩ := id Ztg
  have d1 : Wj c P w K mg base Pt f_days_of := ⟨_, ⟨fd1, _, k1, b1, o1.wider (by decide) fun _ _ _ _ z => z⟩, fun H v S Q E rs tb h => by
   rcases h with ⟨rg, ke⟩ | ⟨g, h20, k⟩
   ·exact .inr ⟨v, S, rfl, rs, rg, ke⟩
   ·exact .inl ⟨v, S, 9, rfl, rs, g, by decide, by decide, fun H' s => k _ H' (tb.same s) (Be s)⟩⟩
  have d2 : Wj c P w K mg base Pt f_planned := ⟨_, ⟨fd2, _, k2, b2, o2.wider (by decide) fun _ _ _ _ z => z⟩, fun H v S Q E rs tb h => by
   rcases h with ⟨rg, ke⟩ | ⟨g, h20, k⟩
   ·exact .inr ⟨v, S, rfl, rs, rg, ke⟩
   ·exact .inl ⟨v, S, 9, rfl, rs, g, by decide, by decide, tb, fun t p ys i H1 _ _ _ _ _ _ tb1 bt1 _ => k _ H1 tb1 bt1⟩⟩
  have d3 : Wj c P w K mg base Pt f_late := ⟨_, ⟨fd3, _, k3, b3, o3.wider (by decide) fun _ _ _ _ z => z⟩, fun H v S Q E rs tb h => by
   rcases h with ⟨rg, ke⟩ | ⟨g, h20, k⟩
   ·exact .inr ⟨v, S, rfl, rs, rg, ke⟩
   ·exact .inl ⟨v, S, 9, rfl, rs, g, by decide, by decide, tb, fun H1 _ tb1 bt1 => k _ H1 tb1 bt1, fun n H1 _ tb1 bt1 => k _ H1 tb1 bt1⟩⟩
  have d4 : Wi c P w K mg base Pt f_begun := ⟨_, ⟨fd4, _, k4, b4, o4.wider (by decide) fun _ _ _ _ z => z⟩, fun H v a nm S plan Q E rs tb hp h => by
   rcases h with ⟨rg, ke⟩ | ⟨g, h20, k⟩
   ·exact .inr ⟨v, _, _, S, rfl, rs, rg, ke⟩
   ·obtain ⟨hn, pl⟩ := hp g.no
    obtain ⟨t, ht, rfl⟩ := Zzx.mp hn
    exact .inl ⟨v, a, S, plan, t, 9, rfl, rs, pl, ht, g, by decide, by decide, fun p H' _ _ s => k _ H' (tb.same s) (Be s)⟩⟩
  have d5 : Wi c P w K mg base Pt f_needs := ⟨_, ⟨fd5, _, k5, b5, o5.wider (by decide) fun _ _ _ _ z => z⟩, fun H v a nm S plan Q E rs tb hp h => by
   rcases h with ⟨rg, ke⟩ | ⟨g, h20, k⟩
   ·exact .inr ⟨v, _, _, S, rfl, rs, rg, ke⟩
   ·obtain ⟨hn, pl⟩ := hp g.no
    obtain ⟨t, ht, rfl⟩ := Zzx.mp hn
    exact .inl ⟨v, a, S, plan, t, 9, rfl, rs, pl, ht, g, by decide, by decide, fun p H' _ _ s => k _ H' (tb.same s) (Be s)⟩⟩
  have d6 : Wi c P w K mg base Pt f_stocks := ⟨_, ⟨fd6, _, k6, b6, o6.wider (by decide) fun _ _ _ _ z => z⟩, fun H v a nm S plan Q E rs tb hp h => by
   rcases h with ⟨rg, ke⟩ | ⟨g, h20, k⟩
   ·exact .inr ⟨v, _, _, S, rfl, rs, rg, ke⟩
   ·obtain ⟨hn, pl⟩ := hp g.no
    obtain ⟨t, ht, rfl⟩ := Zzx.mp hn
    exact .inl ⟨v, a, S, plan, t, 9, rfl, rs, pl, ht, g, by decide, by decide, fun p H' _ _ s => k _ H' (tb.same s) (Be s)⟩⟩
  refine ⟨_, (A2 (Bp (Al (F0 hu) (pv 3) A7 (B2 _)) (A9 (Af (T8 (k := 9) rfl rfl rfl rfl rfl (Ab hu (Bm (A4 (Db (v := .ref f_days_of) rfl m_days_of rfl) (A4 (Db (v := .ref f_planned) rfl m_planned rfl) (A4 (Db (v := .ref f_late) rfl m_late rfl) A1)))) (pv 3) (fun _ _ => rfl)) D0 hr.z (A4 (pv 0) A1)))) Au)
 (A2 (Bp (Al (F0 hu) (pv 3) A7 (B2 _)) (A9 (Af (T8 (k := 9) rfl rfl rfl rfl rfl (Ab hu (Bm (A4 (Db (v := .ref f_begun) rfl m_begun rfl) (A4 (Db (v := .ref f_needs) rfl m_needs rfl) (A4 (Db (v := .ref f_stocks) rfl m_stocks rfl) A1)))) (Am Jg (pv 3) A7) (fun _ _ => rfl)) D0 hr.z (A4 (pv 0) (A4 (pv 1) (A4 (pv 2) A1)))))) Au)
 (A2 (Bp (Al (Da hu) (pv 3) A7 (B2 _)) (A9 (Af (Bd Ztf D0 hr.z rfl (A4 (pv 0) (A4 (pv 1) A1))))) Au)
 (A2 (Bp (Al (Da hu) (pv 3) A7 (B2 _)) (A9 (Af (Bd Ztn D0 hr.z rfl (A4 (pv 0) (A4 A7 A1))))) Au)
 (A2 (Bp (Al (Da hu) (pv 3) A7 (B2 _)) (A9 (Af (Bd Zu4 D0 hr.z rfl (A4 (pv 0) (A4 (pv 2) (A4 A7 (A4 A7 A1))))))) Au)
 (A2 (Bp (Al (F0 hu) (pv 3) A7 (B2 _)) (A9 (Af (Bd Zsy D0 hr.z rfl (A4 (pv 0) (A4 (Ab hu (Bm (A4 (pv 2) (A4 Ce A1))) (Am Jg (pv 3) A7) (fun _ _ => rfl)) (A4 A7 A1)))))) Au)
 (A2 (Bp (Al (Da hu) (pv 3) A7 (B2 _)) (A9 (Af (Bd Zsx D0 hr.z rfl (A4 (pv 0) (A4 (pv 1) (A4 (pv 2) A1)))))) Au)
 (A2 (Bp (Al (Da hu) (pv 3) A7 (B2 _)) (A9 (Af (Bd Zte D0 hr.z rfl (A4 (pv 0) (A4 (pv 1) (A4 (pv 2) (A4 A7 A1))))))) Au)
 (A9 (Af (Bd Ztd D0 hr.z rfl (A4 (pv 0) (A4 (Ab hu (Bm (A4 (pv 2) (A4 Ce A1))) (Am Jg (pv 3) A7) (fun _ _ => rfl)) (A4 (Fm (own := ["_law_lots"]) (cap := []) rfl (Gv rfl) (Cv (by decide)) (km (Ab hu (pv 1) (pv 2) (fun _ _ => rfl)))
 (fun _ _ _ _ _ _ => ⟨(Ah (i := 0) (of_decide_eq_true rfl) rfl (Zzq rfl) (.inr rfl)), E7, (Br (A4 A7 (A4 A7 (A4 A7 A1))))⟩)) A1)))))))))))))), ?_⟩
  walk_at "rd"
  have ask : way < 10 -> Asks c Pt S H Q (fun cls _ H' => E cls none H') := fun h => by
   rcases hcase with ⟨_, rg, ke⟩ | ⟨_, g, h20, k⟩ | ⟨z, _⟩
   ·exact .inl ⟨rg, ke⟩
   ·exact .inr ⟨g, h20, k⟩
   ·omega
  have rgs : 10 < way -> Rg S /\ (∀ H', Same H H' -> E (.ref c.Ring) none H') /\ way < 15 := fun h => by
   rcases hcase with ⟨z, rg, ke⟩ | ⟨z, _⟩ | ⟨z, _⟩
   ·exact ⟨rg, ke, z⟩
   ·omega
   ·omega
  refine D3 (fun h => ?_) (fun h => ?_)
  ·have h := of_decide_eq_true h
   refine ⟨by decide, fun p hp => ?_⟩
   have u := A6 (o := .lst [V.ref f_days_of, V.ref f_planned, V.ref f_late]) hp
   have hp1 := A0 (H := H) (a := p) (o := .lst [V.ref f_days_of, V.ref f_planned, V.ref f_late])
   have ak := (ask (by omega)).same u
   have go : ∀ fa, Wj c P w K mg base Pt fa -> Jn (upd H p (.lst [V.ref f_days_of, V.ref f_planned, V.ref f_late])) (.ref p) (.int way) (.ref fa) -> _ := fun fa ⟨sp, fn, hs⟩ hi => (⟨_, hi, fa, rfl, sp, fn, hs _ v S _ _ (RD.same u _ _ rs) (tb.same u) ak⟩ : ∃ v_1, Jn (upd H p (.lst [V.ref f_days_of, V.ref f_planned, V.ref f_late])) (.ref p) (.int way) v_1 /\ ∃ f_1, v_1 = V.ref f_1 /\ ∃ x, cg P w K mg base 9 f_1 x /\ x [v] (upd H p (.lst [V.ref f_days_of, V.ref f_planned, V.ref f_late])) Q fun cls x H' => E cls none H')
   have : way = 0 \/ way = 1 \/ way = 2 := by omega
   rcases this with rfl | rfl | rfl
   ·exact go _ d1 (C8 (j := 0) hp1 rfl)
   ·exact go _ d2 (C8 (j := 1) hp1 rfl)
   ·exact go _ d3 (C8 (j := 2) hp1 rfl)
  have h3 : ¬ way < 3 := fun z => h (decide_eq_true z)
  clear h
  refine D3 (fun h => ?_) (fun h => ?_)
  ·have h := of_decide_eq_true h
   refine ⟨by decide, fun p hp => ?_⟩
   have u := A6 (o := .lst [V.ref f_begun, V.ref f_needs, V.ref f_stocks]) hp
   have hp1 := A0 (H := H) (a := p) (o := .lst [V.ref f_begun, V.ref f_needs, V.ref f_stocks])
   have ak := (ask (by omega)).same u
   have go : ∀ fa, Wi c P w K mg base Pt fa -> Jn (upd H p (.lst [V.ref f_begun, V.ref f_needs, V.ref f_stocks])) (.ref p) (.int (way - 3)) (.ref fa) -> _ := fun fa ⟨sp, fn, hs⟩ hi => (⟨_, hi, fa, rfl, sp, fn, hs _ v a nm S plan _ _ (RD.same u _ _ rs) (tb.same u) (fun no => ⟨(hpl no).1, (hpl no).2.same u⟩) ak⟩ : ∃ v_1, Jn (upd H p (.lst [V.ref f_begun, V.ref f_needs, V.ref f_stocks])) (.ref p) (.int (way - 3)) v_1 /\ ∃ f_1, v_1 = V.ref f_1 /\ ∃ x, cg P w K mg base 9 f_1 x /\ x [v, .ref a, .str nm] (upd H p (.lst [V.ref f_begun, V.ref f_needs, V.ref f_stocks])) Q fun cls x H' => E cls none H')
   have : way = 3 \/ way = 4 \/ way = 5 := by omega
   rcases this with rfl | rfl | rfl
   ·exact go _ d4 (C8 (j := 0) hp1 rfl)
   ·exact go _ d5 (C8 (j := 1) hp1 rfl)
   ·exact go _ d6 (C8 (j := 2) hp1 rfl)
  have h6 : ¬ way < 6 := fun z => h (decide_eq_true z)
  clear h
  refine ⟨rfl, D3 (fun h => ?_) (fun h => ?_)⟩
  ·have h := of_decide_eq_true h
   rcases ask (by omega) with ⟨rg, ke⟩ | ⟨g, h20, k⟩
   ·exact .inr ⟨v, _, S, rfl, rs, rg, ke⟩
   ·exact .inl ⟨v, a, S, plan, 9, rfl, rs, (hpl g.no).2, g, by decide, by decide, tb, fun t ys H' _ _ _ tb' bt' => k _ H' tb' bt'⟩
  have n6 : way ≠ 6 := fun z => h (decide_eq_true z)
  clear h
  refine ⟨rfl, D3 (fun h => ?_) (fun h => ?_)⟩
  ·have h := of_decide_eq_true h
   rcases ask (by omega) with ⟨rg, ke⟩ | ⟨g, h20, k⟩
   ·exact .inr ⟨v, _, S, rfl, rs, rg, ke⟩
   ·exact .inl ⟨v, S, 2, rfl, rs, g.ok, g.no, by omega, fun x H' _ s => k _ H' (tb.same s) (Be s)⟩
  have n7 : way ≠ 7 := fun z => h (decide_eq_true z)
  clear h
  refine ⟨rfl, D3 (fun h => ?_) (fun h => ?_)⟩
  ·have h := of_decide_eq_true h
   rcases ask (by omega) with ⟨rg, ke⟩ | ⟨g, h20, k⟩
   ·exact .inr ⟨v, _, _, _, S, rfl, rs, rg, ke⟩
   ·exact .inl ⟨v, S, nm, 3, 1, rfl, rs, g.ok, g.no, (hpl g.no).1, by omega, fun x H' _ s => k _ H' (tb.same s) (Be s)⟩
  have n8 : way ≠ 8 := fun z => h (decide_eq_true z)
  clear h
  refine D3 (fun h => ?_) (fun h => ?_)
  ·have h := of_decide_eq_true h
   refine ⟨by decide, fun p hp => ?_⟩
   have u := A6 (o := .lst [V.str nm, V.str (Str.ofString "zzzzzzzz")]) hp
   have hp1 := A0 (H := H) (a := p) (o := .lst [V.str nm, V.str (Str.ofString "zzzzzzzz")])
   have rs1 := RD.same u _ _ rs
   have tb1 := tb.same u
   generalize upd H p (.lst [V.str nm, V.str (Str.ofString "zzzzzzzz")]) = H1 at u hp1 rs1 tb1 ⊢
   have : way = 9 \/ way = 10 := by omega
   rcases this with rfl | rfl
   ·refine ⟨_, C8 (j := 0) hp1 rfl, ?_⟩
    rcases (ask (by omega)).same u with ⟨rg, ke⟩ | ⟨g, h20, k⟩
    ·exact .inr ⟨v, S, nm, _, rfl, rs1, .inl ⟨rg, ke⟩⟩
    ·exact .inl ⟨v, S, nm, 2, 9, rfl, rs1, g, by decide, by decide, h20, (hpl g.no).1, by decide, by decide, tb1, fun _ p H' _ t' b' => k _ H' t' b', fun _ _ p H' _ t' b' => k _ H' t' b', fun _ _ p n H' _ _ _ _ _ t' b' => k _ H' t' b'⟩
   ·refine ⟨_, C8 (j := 1) hp1 rfl, .inr ⟨v, S, _, _, rfl, rs1, ?_⟩⟩
    rcases hcase with ⟨_, rg, ke⟩ | ⟨z, _⟩ | ⟨_, g, ke⟩
    ·exact .inl ⟨rg, fun H' s => ke H' (u.trans s)⟩
    ·omega
    ·refine .inr ⟨g.ok, g.no, fun w hw => (g.ws.txt w hw).2.1, g.ws.own, fun z => ?_, by decide +kernel, by decide +kernel, fun H' s => ke H' (u.trans s)⟩
     obtain ⟨t, ht, et⟩ := Zzx.mp z
     exact (g.ws.txt t ht).2.2 et
  have h11 : ¬ way < 11 := fun z => h (decide_eq_true z)
  clear h
  obtain ⟨rg, ke, h15⟩ := rgs (by omega)
  refine ⟨rfl, D3 (fun h => ?_) (fun h => ?_)⟩
  ·exact ⟨v, _, _, S, rfl, rs, rg, ke⟩
  have n11 : way ≠ 11 := fun z => h (decide_eq_true z)
  clear h
  refine ⟨rfl, D3 (fun h => ?_) (fun h => ?_)⟩
  ·exact ⟨v, _, _, _, S, rfl, rs, rg, ke⟩
  have n12 : way ≠ 12 := fun z => h (decide_eq_true z)
  clear h
  obtain ⟨kvs, l, xs, hka, hkv, hkl, hxs⟩ := rows
  refine ⟨by decide, fun p hp => ?_⟩
  have u := A6 (o := .lst [V.str nm, V.str (Str.ofString "zzzzzzzz")]) hp
  have hp1 := A0 (H := H) (a := p) (o := .lst [V.str nm, V.str (Str.ofString "zzzzzzzz")])
  generalize upd H p (.lst [V.str nm, V.str (Str.ofString "zzzzzzzz")]) = H1 at u hp1 ⊢
  obtain ⟨x1, hi1⟩ : ∃ x1, Jn H1 (.ref p) (.int (way - 13)) x1 := by
   have : way = 13 \/ way = 14 := by omega
   rcases this with rfl | rfl
   ·exact ⟨_, C8 (j := 0) hp1 rfl⟩
   ·exact ⟨_, C8 (j := 1) hp1 rfl⟩
  refine ⟨x1, hi1, _, Ge (.inl (u _ _ hka)) hkv, .inl ⟨l, rfl, xs, u _ _ hkl, ?_⟩⟩
  refine Lc (J8 l _) (Ax hxs) (ml H1) ⟨rfl, Same.refl _⟩ (fun j acc H' _ h => h.2 _ _ (u _ _ hkl)) (fun j acc H' h => Zx8 h.1) (fun j z acc H2 hj hz h => ?_) (fun acc H2 h r hr2 => ?_)
  ·obtain ⟨h1, s2⟩ := h
   walk_at "rd"
   exact ⟨by decide, fun t ht => ⟨by simp [h1], s2.trans (A6 ht)⟩⟩
  ·obtain ⟨h1, s2⟩ := h
   have s3 := (u.trans s2).trans (A6 (o := .lst acc) hr2)
   exact ⟨v, _, _, S, rfl, RD.same s3 _ _ rs, rg, fun H' s => ke H' (s3.trans s)⟩
def Lm (Pt : Addr) : Sp := fun vs H Q _ => ∃ (v : V) (a : Addr) (nm : Str) (way : Int) (S : Sh) (plan : Str -> List Int), vs = [v, .ref a, .str nm, .int way] /\ RD H S.d v /\ Tb H Pt /\ 0 <= way /\ RowAt3 H a nm /\ (D1 S -> nm ∈ S.wares.map (·.name) /\ PlanAt H a S plan) /\
 ((way < 15 /\ Rg S /\ ∀ p H', H' p = some (.lst [.bl true, .bl false, .bl true, .bl false]) -> Tb H' Pt -> But Pt H H' -> Q (.ref p) H') \/ (way < 10 /\ Good 9 S /\ S.wants.length <= 20 /\ ∀ p H', H' p = some (.lst []) -> Tb H' Pt -> But Pt H H' -> Q (.ref p) H') \/ (way = 10 /\ Good 9 S /\ ∀ p H', H' p = some (.lst [.bl false, .bl true, .bl true, .bl false]) -> Tb H' Pt -> But Pt H H' -> Q (.ref p) H'))
theorem RowAt3.same {H H' : Hp} {a : Addr} {nm : Str} (h : RowAt3 H a nm) (s : Same H H') : RowAt3 H' a nm := let ⟨kvs, l, xs, h1, h2, h3, h4⟩ := h; ⟨kvs, l, xs, s _ _ h1, h2, s _ _ h3, h4⟩
theorem sc_law_word : Aj ["_law_shop_here", "_law_plan", "_law_name", "_law_way", "_law_words", "e"] ["_law_shop_here", "_law_plan", "_law_name", "_law_way"] (A8 Ej) := by constructor <;> first | rfl | decide +kernel
theorem Th (F : Fun K "_law_word" "_law_word" Ej f fd) (T : Txt mg) (C : Exc K mg c) (Ztm : HasX P w K mg base "_law_asked" 11 ["_law_shop_here", "_law_plan", "_law_name", "_law_way"] (Jv c Pt)) : FnOk P w K mg base CX0 12 f fd ["_law_shop_here", "_law_plan", "_law_name", "_law_way"] (Lm Pt) := by
 refine F.ok sc_law_word (fun vs H Q E h => ?_) (fun cdv A outer s H vs Q E hr h => ?_)
 ·obtain ⟨v, a, nm, way, S, plan, rfl, _⟩ := h
  rfl
 ·obtain ⟨v, a, nm, way, S, plan, rfl, rs, tb, w0, rows, hpl, hcase⟩ := h
  have hu := Aq hr
  refine ⟨_, (A2 (Ac (i := 4) sc_law_word.nd rfl (Zzq rfl) (Bm A1))
 (A2 (kh (i := 5) (fits := fun cls => exmOne K cls (.ref c.NeedError) = some true) sc_law_word.nd rfl rfl rfl rfl rfl C.Zst (fun _ h => h) (fun _ _ _ hp => (A9 (Ay (Bd Ztm hp hr.z rfl (A4 (pv 0) (A4 (pv 1) (A4 (pv 2) (A4 (pv 3) A1)))))))) (fun _ => (A2 (Ac (i := 4) sc_law_word.nd rfl (Zzq rfl) (Bm (A4 (Az (Iz (K0 := K) rfl) rfl T.Zud Es (A4 (pv 5) (A4 (Db (v := .ref c.Ring) rfl C.Zsq rfl) A1))) (A4 (Az (Iz (K0 := K) rfl) rfl T.Zud Es (A4 (pv 5) (A4 (Db (v := .ref c.NoName) rfl C.Zsu rfl) A1))) (A4 (Az (Iz (K0 := K) rfl) rfl T.Zud Es (A4 (pv 5) (A4 (e7 (v := .ty "ValueError") rfl T.Zsv Pj rfl) A1))) A1)))))
 (A9 (Ay (Gp Zyp Zyj Zyi D9 (pv 4) (A4 (Az (Iz (K0 := K) rfl) rfl T.Zud Es (A4 (pv 5) (A4 (Br (A4 (Db (v := .ref c.NoText) rfl C.Zso rfl) (A4 (Db (v := .ref c.NoShop) rfl C.Zsn rfl) (A4 (Db (v := .ref c.NoDay) rfl C.Zsj rfl) (A4 (Db (v := .ref c.NoBuy) rfl C.Zsi rfl) (A4 (Db (v := .ref c.NoPlan) rfl C.Zsm rfl) A1)))))) A1))) A1)))))))
 (A9 (Af (pv 4))))), ?_⟩
  walk_at "rd"
  refine ⟨by decide, fun p hp => ?_⟩
  have u := A6 (o := .lst []) hp
  have ppt : p ≠ Pt := fun z => by obtain ⟨t, e⟩ := tb.at; rw [<- z, hp] at e; cases e
  refine ⟨v, a, nm, way, S, plan, rfl, RD.same u _ _ rs, tb.same u, w0, rows.same u, fun no => ⟨(hpl no).1, (hpl no).2.same u⟩, ?_⟩
  rcases hcase with ⟨w15, rg, ke⟩ | ⟨w10, g, h20, k⟩ | ⟨w10, g, ke⟩
  ·refine .inl ⟨w15, rg, fun H1 s1 => ⟨C.Zvc, fun e he => ?_⟩⟩
   have u2 := A6 (o := O8 e (.ref c.Ring)) he
   have q2 := A0 (H := H1) (a := e) (o := O8 e (.ref c.Ring))
   generalize upd H1 e (O8 e (.ref c.Ring)) = H2 at u2 q2 ⊢
   have s2 := (u.trans s1).trans u2
   refine ⟨c.Ring, q2, C.Zu5, true, .inl C.Zuj, c.Ring, q2, C.Zu5, false, .inl C.Zut, c.Ring, q2, C.Zu5, true, C.Zve, by decide, fun t ht => ⟨Ea A0, by decide, fun r hr2 => ?_⟩⟩
   have v1 := A6 (o := .lst [V.bl true, V.bl false, V.bl true]) ht
   have v2 := A6 (o := .tup [V.ref c.NoText, V.ref c.NoShop, V.ref c.NoDay, V.ref c.NoBuy, V.ref c.NoPlan]) hr2
   refine ⟨c.Ring, v2 _ _ (v1 _ _ q2), C.Zu5, false, .inr ⟨[c.NoText, c.NoShop, c.NoDay, c.NoBuy, c.NoPlan], A0, ?_⟩, _, v2 _ _ A0, Zyx (m := 3) (by simp) (by decide), ?_⟩
   ·simp only [Zz7, Zwr, kitAny, C.Zuv, C.Zuu, C.Zuo, C.Zun, C.Zus]
   ·have ht3 := v2 _ _ (A0 (H := H2) (a := t) (o := .lst [V.bl true, V.bl false, V.bl true]))
    have s3 := s2.trans (v1.trans v2)
    have ft : H t = none := Same.free s2 ht
    have s4 : Same H (upd (upd (upd H2 t (.lst [V.bl true, V.bl false, V.bl true])) r (.tup [V.ref c.NoText, V.ref c.NoShop, V.ref c.NoDay, V.ref c.NoBuy, V.ref c.NoPlan])) t (.lst ([V.bl true, V.bl false, V.bl true] ++ [V.bl false]))) := fun b o hb => by rw [A5 (A3 hb ft)]; exact s3 b o hb
    exact ke t _ A0 (tb.same s4) (Be s4)
  ·exact .inr (.inl ⟨w10, g, h20, fun x H1 tb1 b1 => k p H1 (b1 _ _ ppt A0) tb1 (fun b o nb e => b1 b o nb (u b o e))⟩)
  ·refine .inr (.inr ⟨w10, g, fun H1 s1 => ⟨C.Zvh, fun e he => ?_⟩⟩)
   have u2 := A6 (o := O8 e (.ref c.NoName)) he
   have q2 := A0 (H := H1) (a := e) (o := O8 e (.ref c.NoName))
   generalize upd H1 e (O8 e (.ref c.NoName)) = H2 at u2 q2 ⊢
   have s2 := (u.trans s1).trans u2
   refine ⟨c.NoName, q2, C.Zum, false, .inl C.Zur, c.NoName, q2, C.Zum, true, .inl C.Zv5, c.NoName, q2, C.Zum, true, C.Zvj, by decide, fun t ht => ⟨Ea A0, by decide, fun r hr2 => ?_⟩⟩
   have v1 := A6 (o := .lst [V.bl false, V.bl true, V.bl true]) ht
   have v2 := A6 (o := .tup [V.ref c.NoText, V.ref c.NoShop, V.ref c.NoDay, V.ref c.NoBuy, V.ref c.NoPlan]) hr2
   refine ⟨c.NoName, v2 _ _ (v1 _ _ q2), C.Zum, false, .inr ⟨[c.NoText, c.NoShop, c.NoDay, c.NoBuy, c.NoPlan], A0, ?_⟩, _, v2 _ _ A0, Zyx (m := 3) (by simp) (by decide), ?_⟩
   ·simp only [Zz7, Zwr, kitAny, C.Zv7, C.Zv6, C.Zuz, C.Zuy, C.Zv4]
   ·have ht3 := v2 _ _ (A0 (H := H2) (a := t) (o := .lst [V.bl false, V.bl true, V.bl true]))
    have s3 := s2.trans (v1.trans v2)
    have ft : H t = none := Same.free s2 ht
    have s4 : Same H (upd (upd (upd H2 t (.lst [V.bl false, V.bl true, V.bl true])) r (.tup [V.ref c.NoText, V.ref c.NoShop, V.ref c.NoDay, V.ref c.NoBuy, V.ref c.NoPlan])) t (.lst ([V.bl false, V.bl true, V.bl true] ++ [V.bl false]))) := fun b o hb => by rw [A5 (A3 hb ft)]; exact s3 b o hb
    exact ke t _ A0 (tb.same s4) (Be s4)
end
set_option maxHeartbeats 4000000
section
variable {P : Program} {w : World} {K : Zzu} {mg : Str -> Option Value} {base : Heap} {f : Addr} {fd : FuncData} {c : Cl} {Pt : Addr}
theorem qm {t t2 t3 t4 t5 u : TS} {D : Ends} {σ : St} {H : Hp} (M : St -> Hp -> Prop) (hrest : ∀ σ' H', M σ' H' -> u D σ' H')
  (h : ∀ KK : St -> Hp -> Prop, (∀ σ' H', M σ' H' -> KK σ' H') -> Ht t (Ht t2 (Ht t3 (Ht t4 t5))) { D with nx := KK } σ H) : Ht t (Ht t2 (Ht t3 (Ht t4 (Ht t5 u)))) D σ H := h (u D) hrest
def Oo (S : Sh) : List Int := Zyw (daysN S) 0
def ZAt (st : Addr) (H : Hp) (kvs : List (Key × V)) (S : Sh) (ws : List Wr) : Prop := ∀ w ∈ ws, ∃ l : Addr, l ≠ st /\ C5 kvs (.inr w.name) = some (.ref l) /\ H l = some (.lst ((Oo S).map V.int))
def r9 (a : Addr) (Pt : Addr) (σ : St) (H : Hp) : Prop := ∃ (v bv : V) (st p : Addr) (o5 o6 o7 o8 : Option V) (S S' : Sh) (kvs : List (Key × V)), σ = [some (.ref a), some v, some (.ref st), some bv, some (.ref p), o5, o6, o7, o8] /\ RD H S.d v /\ Good 9 S /\ S.wants.length <= 20 /\ RD H S'.d bv /\ Rg S' /\ StOk2 H st /\ H p = some (.dK kvs) /\ ZAt st H kvs S S.wares /\ Tb H Pt
def qx (a st p : Addr) (v bv : V) (S : Sh) (H : Hp) (i : Nat) (σ : St) (H' : Hp) : Prop := ∃ (kvs : List (Key × V)) (o5 o6 o7 o8 : Option V), σ = [some (.ref a), some v, some (.ref st), some bv, some (.ref p), o5, o6, o7, o8] /\ H' p = some (.dK kvs) /\ kvs.length <= i /\ ZAt st H' kvs S (S.wares.take i) /\ Same H H'
def jc (a st p : Addr) (v bv : V) (nm : Str) (H : Hp) (Pt : Addr) (i : Nat) (σ : St) (H' : Hp) : Prop := ∃ o5 o7 o8 : Option V, σ = [some (.ref a), some v, some (.ref st), some bv, some (.ref p), o5, some (.str nm), o7, o8] /\ Tb H' Pt /\ But Pt H H'
def ac (a b c d : Bool) : PyData := .list [.bool a, .bool b, .bool c, .bool d]
theorem M6 {H : Hp} {p : Addr} {a b c d : Bool} (h : H p = some (.lst [V.bl a, V.bl b, V.bl c, V.bl d])) : RD H (ac a b c d) (.ref p) := by
 unfold ac
 rw [RD]
 refine ⟨p, _, rfl, h, RDs.cons ?_ (RDs.cons ?_ (RDs.cons ?_ (RDs.one ?_)))⟩ <;> rw [RD]
theorem Kc (a b c d : Bool) : okD (ac a b c d) = true := by cases a <;> cases b <;> cases c <;> cases d <;> decide +kernel
theorem U3 (a b c d : Bool) : PyData.eqv (ac a b c d) (ac a b c d) = true := by cases a <;> cases b <;> cases c <;> cases d <;> decide +kernel
theorem Ys {H : Hp} {a : Addr} (h : H a = some (.lst [])) : RD H (.list []) (.ref a) := by
 rw [RD]
 exact ⟨a, [], rfl, h, RDs.nil⟩
def R5 (K : Zzu) (Pt : Addr) : Sp := fun vs H Q _ => ∃ (a : Addr) (ns : List Int), vs = [.ref a] /\ SqL K H a (ns.map V.int) /\ ns.length <= 63 /\ Tb H Pt /\ ∀ H', Q (.bl true) H'
theorem sc_law : Aj ["_law_script", "_law_shop_here", "_law_state", "_law_bad", "_law_plan", "_law_ware", "_law_name", "_law_way", "_law_due"] ["_law_script"] (A8 Jz) := by constructor <;> first | rfl | decide +kernel
theorem lf (F : Fun K "law" "law" Jz f fd) (T : Txt mg) (C : Exc K mg c) (Ztc : Has P w K mg base "_law_shop" 4 ["_law_script", "_law_last"] (Ln K)) (Zv2 : Has P w K mg base "_law_drawn" 2 ["_law_script", "_law_k", "_law_salt"] (Fi K)) (Ztu : Has P w K mg base "_law_ringed" 2 ["_law_shop_here", "_law_state"] sp_law_ringed) (Zvq : Has P w K mg base "_law_next" 1 ["_law_state", "_law_many"] sp_law_next) (Zu2 : Has P w K mg base "_law_word" 12 ["_law_shop_here", "_law_plan", "_law_name", "_law_way"] (Lm Pt)) : FnOk P w K mg base CX0 13 f fd ["_law_script"] (R5 K Pt) := by
 refine F.ok sc_law (fun vs H Q E h => ?_) (fun cdv A outer s H vs Q E hr h => ?_)
 ·obtain ⟨a, ns, rfl, _⟩ := h
  rfl
 ·obtain ⟨a, ns, rfl, hS, hlen, tb, k⟩ := h
  have hu := Aq hr
  have hu4 := g9 hr
  refine ⟨_, (A2 (Ac (i := 1) sc_law.nd rfl (Zzq rfl) (Aa Ztc hr.z rfl (A4 (pv 0) (A4 A7 A1))))
 (A2 (Ac (i := 2) sc_law.nd rfl (Zzq rfl) (Aa Zv2 hr.z rfl (A4 (pv 0) (A4 A7 (A4 A7 A1)))))
 (A2 (Ac (i := 3) sc_law.nd rfl (Zzq rfl) (Aa Ztu hr.z rfl (A4 (pv 1) (A4 (pv 2) A1))))
 (A2 (Ac (i := 4) sc_law.nd rfl (Zzq rfl) G0)
 (A2 (Bl PassesOwn.never rfl (De (Ab hu (pv 1) A7 (fun _ _ => rfl))) (Ah (i := 5) sc_law.nd rfl (Zzq rfl))
 (A9 (Gc (E8 G8 (Fm (own := ["_law_day"]) (cap := []) rfl (Gv rfl) (Cv (by decide)) (En rfl T.Zuf (A4 A7 A1))
 (fun _ _ _ _ _ _ => ⟨(Ah (i := 0) (of_decide_eq_true rfl) rfl (Zzq rfl) (.inr rfl)), E7, A7⟩)) Fk (Fj (Am Ca A7 (Az (Y2 rfl) rfl T.Ztj Le (A4 (Am N6 (Bm (A4 A7 A1)) (Fm (own := ["_law_want"]) (cap := []) rfl (Gv rfl) (Cv (by decide)) (De (Ab hu (pv 1) A7 (fun _ _ => rfl)))
 (fun _ _ _ _ _ _ => ⟨(Ah (i := 0) (of_decide_eq_true rfl) rfl (Zzq rfl) (.inr rfl)), E7, (Ab hu (pv 0) A7 (fun _ _ => rfl))⟩))) A1))))) (Gd (pv 4) (Ab hu (pv 5) A7 (fun _ _ => rfl)) (Fu hu)))))
 (A2 (Ac (i := 6) sc_law.nd rfl (Zzq rfl) (Ab hu (Ab hu (Ab hu (pv 1) A7 (fun _ _ => rfl)) (Aa Zvq hr.z rfl (A4 (pv 2) (A4 (Az Cc rfl T.Zul Er (A4 (Ab hu (pv 1) A7 (fun _ _ => rfl)) A1)) A1))) (fun _ _ => rfl)) A7 (fun _ _ => rfl)))
 (A2 (Bl PassesOwn.never rfl (En rfl T.Zuf (A4 A7 A1)) (Ah (i := 7) sc_law.nd rfl (Zzq rfl))
 (A9 (Bp (Al (Z4 hu4) (Aa Zu2 hr.z rfl (A4 (pv 3) (A4 (pv 4) (A4 (pv 6) (A4 (pv 7) A1))))) (Bm (A4 Ie (A4 Ie (A4 Ie (A4 Ie A1))))) (B2 _)) (A9 (Af Ie)) Au)))
 (A2 (Bl PassesOwn.never rfl (En rfl T.Zuf (A4 A7 A1)) (Ah (i := 7) sc_law.nd rfl (Zzq rfl))
 (A2 (Ac (i := 8) sc_law.nd rfl (Zzq rfl) (Ab hu (Bm (A4 (Bm A1) (A4 (Bm (A4 Ie (A4 Ie (A4 Ie (A4 Ie A1))))) A1))) (D8 Qx rfl T.Zsk az (A4 (M7 (Da hu) (pv 7) A7 (B2 _)) A1)) (fun _ _ => rfl)))
 (A9 (Bp (Al (Z4 hu4) (Aa Zu2 hr.z rfl (A4 (pv 1) (A4 (pv 4) (A4 (pv 6) (A4 (pv 7) A1))))) (pv 8) (B2 _)) (A9 (Af Ie)) Au))))
 (A9 (Af Ie)))))))))), ?_⟩
  refine qm (r9 a Pt) (fun σ1 H1 h1 => ?_) (fun KK hK => ?_)
  ·obtain ⟨v, bv, st, p, o5, o6, o7, o8, S, S', kvs, rfl, rs, g, h20, rb, rg, s1, hp, za, tb1⟩ := h1
   obtain ⟨sa, sb, sc, ws, us, ev, ha, hb, hc, rws, rus⟩ := Cj rs
   walk_at "rd"
   have hlw := Bo rws
   have hlen1 := g.len
   refine ⟨_, by rw [ev]; exact Ag (j := 0) ha rfl, _, by rw [ev]; exact Ag (j := 0) ha rfl, sb, rfl, ws, .inr hb, st, ws.length, rfl, s1, by omega, Zxw (b := 12) (by omega) (by decide +kernel), fun d H2 d0 d1 s2 b2 => ?_⟩
   have ku2 := Gg b2 s1
   have rws2 := RDs.ku ku2 _ _ (Cb Wr.d Hd _) rws
   obtain ⟨x, hx⟩ : ∃ x, ws[d.toNat]? = some x := ⟨_, Zzr (by omega)⟩
   obtain ⟨t, ht, rt⟩ := C6 rws2 hx
   obtain ⟨te, c1, c2, rfl, hte, _⟩ := Bz rt
   have htm := Zzn ht
   have hnm : t.name ∈ S.wares.map (·.name) := Zzx.mpr ⟨t, htm, rfl⟩
   have rs2 := RD.ku ku2 _ _ (Co S) rs
   have rb2 := RD.ku ku2 _ _ (Co S') rb
   have tb2 : Tb H2 Pt := by
    obtain ⟨x, y, es⟩ := s1
    rcases tb1 with e | ⟨c, e, e2⟩
    ·exact .inl (b2 _ _ (fun z => by rw [z, es] at e; cases e) e)
    ·exact .inr ⟨c, b2 _ _ (fun z => by rw [z, es] at e; cases e) e, b2 _ _ (fun z => by rw [z, es] at e2; cases e2) e2⟩
   have dst : ∀ {b : Addr} {kv : List (Key × V)}, H1 b = some (.dK kv) -> b ≠ st := fun e z => by obtain ⟨_, _, q⟩ := s1; rw [z, q] at e; cases e
   have hp2 := b2 _ _ (dst hp) hp
   have gd := g.days (by decide) (by decide)
   have za2 : ZAt st H2 kvs S S.wares := fun w hw => let ⟨l, e0, e1, e2⟩ := za w hw; ⟨l, e0, e1, b2 _ _ e0 e2⟩
   refine ⟨_, Jj (.inr (ku2 _ _ hb)) d0 hx, _, Ag (j := 0) hte rfl, by decide, by decide, ?_⟩
   have zl : (Oo S).length = daysN S := List.length_replicate ..
   have nPt : ∀ {b : Addr} {o : HO}, H2 b = some o -> (∀ u, o ≠ .tbl u) -> b ≠ Pt := fun e n => Ps tb2 e n
   have pl : ∀ {Hx : Hp}, But Pt H2 Hx -> PlanAt Hx p S (fun _ => Oo S) := fun {Hx} bx => ⟨kvs, .inl (bx _ _ (nPt hp2 (fun _ z => by cases z)) hp2), fun nm hn => by
    obtain ⟨w, hw, rfl⟩ := Zzx.mp hn
    obtain ⟨l, e0, e1, e2⟩ := za2 w hw
    refine ⟨l, e1, bx _ _ (nPt e2 (fun _ z => by cases z)) e2, zl, fun x hx => ?_⟩
    rw [List.eq_of_mem_replicate hx]
    exact ⟨Zz6 _, by decide +kernel⟩⟩
   have rw3 : ∀ {Hx : Hp}, But Pt H2 Hx -> RowAt3 Hx p t.name := fun {Hx} bx => by
    obtain ⟨l, e0, e1, e2⟩ := za2 t htm
    exact ⟨kvs, l, _, bx _ _ (nPt hp2 (fun _ z => by cases z)) hp2, e1, bx _ _ (nPt e2 (fun _ z => by cases z)) e2, by rw [Zzz, zl]; exact gd.2.1⟩
   refine D4 (Lu 0 _) (jc a st p v bv t.name H2 Pt) ⟨_, _, _, rfl, tb2, But.refl _ _⟩ (fun _ _ _ _ _ => trivial) (fun i x σ H3 hi hx h => ?_) (fun σ H3 h => ?_)
   ·obtain ⟨o5, o7, o8, rfl, tb3, b3⟩ := h
    subst hx
    have hi : i < 15 := hi
    walk_at "rd"
    refine ⟨bv, p, t.name, 0 + (i : Int), S', fun _ => [], rfl, RD.ku (Hs tb2 b3) _ _ (Co S') rb2, tb3, by omega, rw3 b3, fun no => absurd no rg.ring, .inl ⟨by omega, rg, fun q H4 hq tb4 b4 => ⟨by decide, fun r hr4 => ⟨_, M6 (A6 hr4 _ _ hq), _, M6 A0, Kc _ _ _ _, Kc _ _ _ _, ?_⟩⟩⟩⟩
    rw [U3, if_neg (by decide)]
    exact ⟨_, _, _, rfl, tb4.same (A6 hr4), fun b o nb e => A6 hr4 _ _ (b4 b o nb (b3 b o nb e))⟩
   ·obtain ⟨o5, o7, o8, rfl, tb3, b3⟩ := h
    walk_at "rd"
    refine ⟨by decide, by decide, ?_⟩
    refine D4 (Lu 0 _) (jc a st p v bv t.name H2 Pt) ⟨_, _, _, rfl, tb3, b3⟩ (fun _ _ _ _ _ => trivial) (fun i x σ H4 hi hx h => ?_) (fun σ H4 h => ?_)
    ·obtain ⟨o5, o7, o8, rfl, tb4, b4⟩ := h
     subst hx
     have hi : i < 11 := hi
     walk_at "rd"
     refine ⟨by decide, fun q1 hq1 => ⟨by decide, fun q2 hq2 => ⟨by decide, fun q3 hq3 => ⟨rfl, ?_⟩⟩⟩⟩
     have v1 := A6 (o := .lst []) hq1
     have v2 := A6 (o := .lst [V.bl false, V.bl true, V.bl true, V.bl false]) hq2
     have v3 := A6 (o := .lst [V.ref q1, V.ref q2]) hq3
     have x1 := v3 _ _ (v2 _ _ (A0 (H := H4) (a := q1) (o := .lst [])))
     have x2 := v3 _ _ (A0 (H := upd H4 q1 (.lst [])) (a := q2) (o := .lst [V.bl false, V.bl true, V.bl true, V.bl false]))
     have x3 := A0 (H := upd (upd H4 q1 (.lst [])) q2 (.lst [V.bl false, V.bl true, V.bl true, V.bl false])) (a := q3) (o := .lst [V.ref q1, V.ref q2])
     have s5 := v1.trans (v2.trans v3)
     generalize upd (upd (upd H4 q1 (.lst [])) q2 (.lst [V.bl false, V.bl true, V.bl true, V.bl false])) q3 (.lst [V.ref q1, V.ref q2]) = H5 at x1 x2 x3 s5 ⊢
     have tb5 := tb4.same s5
     have b5 : But Pt H2 H5 := b4.trans (Be s5)
     have q1P : q1 ≠ Pt := Ps tb5 x1 (fun _ z => by cases z)
     have q2P : q2 ≠ Pt := Ps tb5 x2 (fun _ z => by cases z)
     have rs5 := RD.ku (Hs tb2 b5) _ _ (Co S) rs2
     by_cases e10 : i = 10
     ·subst e10
      refine ⟨.ref q2, C8 (j := 1) x3 rfl, v, p, t.name, _, S, fun _ => Oo S, rfl, rs5, tb5, by decide, rw3 b5, fun _ => ⟨hnm, pl b5⟩, .inr (.inr ⟨rfl, g, fun r H6 hr6 tb6 b6 => ⟨_, M6 hr6, _, M6 (b6 _ _ q2P x2), Kc _ _ _ _, Kc _ _ _ _, ?_⟩⟩)⟩
      rw [U3, if_neg (by decide)]
      exact ⟨_, _, _, rfl, tb6, b5.trans b6⟩
     ·have ne : ¬ (0 + (i : Int) = 10) := by omega
      rw [decide_eq_false ne]
      refine ⟨.ref q1, C8 (j := 0) x3 rfl, v, p, t.name, _, S, fun _ => Oo S, rfl, rs5, tb5, by omega, rw3 b5, fun _ => ⟨hnm, pl b5⟩, .inr (.inl ⟨by omega, g, h20, fun r H6 hr6 tb6 b6 => ⟨_, Ys hr6, _, Ys (b6 _ _ q1P x1), rfl, rfl, ?_⟩⟩)⟩
      rw [if_neg (by decide)]
      exact ⟨_, _, _, rfl, tb6, b5.trans b6⟩
    ·obtain ⟨o5, o7, o8, rfl, tb4, b4⟩ := h
     walk_at "rd"
     exact k _
  ·walk_at "rd"
   refine ⟨a, ns, 32, rfl, hS, hlen, by decide, by decide, fun v S H1 rs g h20 sm1 => ?_⟩
   refine ⟨a, ns, 0, 3, rfl, sm1.seq hS, hlen, by decide, fun st H2 fst s2 sm2 => ?_⟩
   have rs2 := RD.same sm2 _ _ rs
   refine ⟨v, st, S, 9, rfl, rs2, g, s2, fun bv S' H3 rb rg s3 b3 => ?_⟩
   have ku3 := Gg b3 s2
   have rs3 := RD.ku ku3 _ _ (Co S) rs2
   have tb3 : Tb H3 Pt := by
    have t2 := (tb.same sm1).same sm2
    obtain ⟨x, y, es⟩ := s2
    rcases t2 with e | ⟨c, e, e2⟩
    ·exact .inl (b3 _ _ (fun z => by rw [z, es] at e; cases e) e)
    ·exact .inr ⟨c, b3 _ _ (fun z => by rw [z, es] at e; cases e) e, b3 _ _ (fun z => by rw [z, es] at e2; cases e2) e2⟩
   refine fun p hp => ?_
   obtain ⟨sa, sb, sc, ws, us, ev, ha, hb, hc, rws, rus⟩ := Cj rs3
   have hlw := Bo rws
   have hlu := Bo rus
   have u := A6 (o := .dK []) hp
   refine ⟨_, by rw [ev]; exact Ag (j := 0) (u _ _ ha) rfl, sb, rfl, ws, u _ _ hb, ?_⟩
   refine D4 (Ey sb _) (qx a st p v bv S H3) ⟨[], _, _, _, _, rfl, A0, Zzt _, (fun w hw => by cases hw), u⟩ (fun i σ H' _ h => let ⟨_, _, _, _, _, _, _, _, _, s⟩ := h; s _ _ hb) (fun i y σ H4 hi hy h => ?_) (fun σ H4 h => ?_)
   ·obtain ⟨kvs, o5, o6, o7, o8, rfl, hp4, hkl, za, s4⟩ := h
    obtain ⟨w, hw, rw0⟩ := C6 rws hy
    obtain ⟨we, c5, c6, rfl, hwe, _⟩ := Bz rw0
    walk_at "rd"
    refine ⟨by decide, by decide, ?_⟩
    refine Gw (Lu 0 _) (Ax (by decide)) (fun _ _ => trivial) ((Zyw 9 (0 : Int)).map V.int) (by decide) (fun j y H' hj hy s' N M hN => ?_) (fun H5 s5 z hz => ?_)
    ·walk_at "rd"
     have hj : j < 9 := hj
     exact hN _ _ s' (by rw [Zzv, List.getElem?_replicate, if_pos hj]; rfl)
    have u5 := s5.trans (A6 (o := .lst ((Zyw 9 (0 : Int)).map V.int)) hz)
    have hz5 := A0 (H := H5) (a := z) (o := .lst ((Zyw 9 (0 : Int)).map V.int))
    generalize upd H5 z (.lst ((Zyw 9 (0 : Int)).map V.int)) = H6 at u5 hz5 ⊢
    refine ⟨by decide, fun q1 hq1 => ?_⟩
    have u6 := A6 (o := .lst [V.int 0]) hq1
    have s36 := (s4.trans u5).trans u6
    have hz6 := u6 _ _ hz5
    have hq6 := A0 (H := H6) (a := q1) (o := .lst [V.int 0])
    have hp6 := u6 _ _ (u5 _ _ hp4)
    have za6 : ZAt st (upd H6 q1 (.lst [V.int 0])) kvs S (S.wares.take i) := fun w hw => let ⟨l, e0, e1, e2⟩ := za w hw; ⟨l, e0, e1, u6 _ _ (u5 _ _ e2)⟩
    generalize upd H6 q1 (.lst [V.int 0]) = H7 at s36 hz6 hq6 hp6 za6 ⊢
    refine ⟨_, by rw [ev]; exact Ag (j := 1) (s36 _ _ ha) rfl, sc, rfl, us, s36 _ _ hc, ?_⟩
    refine Gw (Ey sc _) (Ax (by omega)) (fun H' s' => s' _ _ (s36 _ _ hc)) ((S.wants.map fun u => u.2.1).map V.int) (by rw [Zzz, Zzz, hlu]) (fun j y H' hj hy s' N M hN => ?_) (fun H8 s8 q2 hq2 => ?_)
    ·obtain ⟨t, ht, rt⟩ := C6 rus hy
     obtain ⟨te, rfl, hte⟩ := Jo rt
     walk_at "rd"
     exact ⟨_, Ag (j := 1) (s' _ _ (s36 _ _ hte)) rfl, hN _ _ s' (by rw [Zzv, Zzv, ht]; rfl)⟩
    have u8 := s8.trans (A6 (o := .lst ((S.wants.map fun u => u.2.1).map V.int)) hq2)
    have hq8 := A0 (H := H8) (a := q2) (o := .lst ((S.wants.map fun u => u.2.1).map V.int))
    generalize upd H8 q2 (.lst ((S.wants.map fun u => u.2.1).map V.int)) = H9 at u8 hq8 ⊢
    refine ⟨q2, rfl, _, u8 _ _ hq6, _, hq8, Zz5 (m := 1000) (by rw [Zzz, Zzz, Zyy]; omega) (Ax (Zzt _)), fun q3 hq3 => ?_⟩
    have u9 := A6 (o := .lst ([V.int 0] ++ (S.wants.map fun u => u.2.1).map V.int)) hq3
    have z9 := u9 _ _ (u8 _ _ hz6)
    have m0 : Cz (S.wants.map fun u => u.2.1) = Ke (0 :: S.wants.map fun u => u.2.1) := (Xe _ fun x hx => by obtain ⟨y, hy, rfl⟩ := Zzx.mp hx; exact (g.wants.2 y hy).2.1.1).symm
    refine ⟨0 :: S.wants.map fun u => u.2.1, by rw [A0]; rfl, (fun z => by cases z), z, rfl, _, z9, fun q4 hq4 => ?_⟩
    rw [<- m0]
    have gd := g.days (by decide) (by decide)
    have hd9 : daysN S <= 9 := by
     have := Rq (ns := S.wants.map fun u => u.2.1) (b := 9) (by decide) fun x hx => by obtain ⟨y, hy, rfl⟩ := Zzx.mp hx; exact (g.wants.2 y hy).2.1.2
     omega
    have ecut : Dq ((Zyw 9 (0 : Int)).map V.int) none (some (1 + Cz (S.wants.map fun u => u.2.1))) = (Oo S).map V.int := by
     rw [Hk (by omega), <- Zwv, List.take_replicate, show (1 + Cz (S.wants.map fun u => u.2.1)).toNat = daysN S from rfl, Zvz hd9]
     rfl
    rw [ecut]
    have u10 := u9.trans (A6 (o := .lst ((Oo S).map V.int)) hq4)
    have q4st : q4 ≠ st := fun z => by
     obtain ⟨_, _, e⟩ := (s3.same s36).same (u8.trans u9)
     rw [<- z, hq4] at e
     cases e
    have s310 := s36.trans (u8.trans u10)
    have hp10 := u10 _ _ (u8 _ _ hp6)
    have hq10 := A0 (H := upd H9 q3 (.lst ([V.int 0] ++ (S.wants.map fun u => u.2.1).map V.int))) (a := q4) (o := .lst ((Oo S).map V.int))
    have za10 : ZAt st (upd (upd H9 q3 (.lst ([V.int 0] ++ (S.wants.map fun u => u.2.1).map V.int))) q4 (.lst ((Oo S).map V.int))) kvs S (S.wares.take i) := fun w hw => let ⟨l, e0, e1, e2⟩ := za6 w hw; ⟨l, e0, e1, u10 _ _ (u8 _ _ e2)⟩
    generalize upd (upd H9 q3 (.lst ([V.int 0] ++ (S.wants.map fun u => u.2.1).map V.int))) q4 (.lst ((Oo S).map V.int)) = H10 at s310 hp10 hq10 za10 ⊢
    have hi12 := g.len.2
    refine ⟨_, Ag (j := 0) (s310 _ _ hwe) rfl, kvs, .inr w.name, rfl, hp10, Zyx (m := 1000) (by omega) (by decide), ?_⟩
    have lst_ne : ∀ {l : Addr} {xs : List V}, H10 l = some (.lst xs) -> upd H10 p (.dK (Eu kvs (.inr w.name) (.ref q4))) l = some (.lst xs) := fun {l xs} e => by rw [A5 (fun z => by rw [z, hp10] at e; cases e)]; exact e
    refine ⟨_, _, _, _, _, rfl, A0, Zz5 (Ik ..) (by omega), fun w2 hw2 => ?_, fun b' o hb' => by rw [A5 (A3 hb' hp)]; exact s310 b' o hb'⟩
    rw [Zz3, hw] at hw2
    rw [Gi]
    by_cases e : w2.name = w.name
    ·rw [if_pos (by rw [e])]
     exact ⟨q4, q4st, rfl, lst_ne hq10⟩
    ·rw [if_neg (fun z => e (Zx3 z))]
     rcases Zz4.mp hw2 with y | y
     ·obtain ⟨l, e0, e1, e2⟩ := za10 w2 y
      exact ⟨l, e0, e1, lst_ne e2⟩
     ·have : w2 = w := by simpa using y
      rw [this] at e
      exact absurd rfl e
   ·obtain ⟨kvs, o5, o6, o7, o8, rfl, hp4, hkl, za, s4⟩ := h
    rw [hlw, Zyu] at za
    exact hK _ _ ⟨v, bv, st, p, _, _, _, _, S, S', kvs, rfl, RD.same s4 _ _ rs3, g, h20, RD.same s4 _ _ rb, rg, s3.same s4, hp4, za, tb3.same s4⟩
end
theorem all_mk {l : PySem.W.OpenLaw} {w : World} {K : Zzu} {h : Heap} {mg : Str -> Option Value} {fa : Addr} (X : K.In h) (G : h.Ns mainGlobals mg) (hfa : mg "law" = some (.ref fa))
  {f1 f2 f3 f4 f5 f6 f7 f8 f9 f10 f11 f12 f13 f14 f15 f16 f17 f18 f19 f20 f21 f22 f23 f24 f25 f26 f27 f28 f29 f30 f31 f32 f33 f34 f35 f36 f37 f38 f39 f40 f41 f42 f43 f44 f45 f46 f47 f48 : Addr} {od1 an1 od2 an2 od3 an3 od4 an4 od5 an5 od6 an6 od7 an7 od8 an8 od9 an9 od10 an10 od11 an11 od12 an12 od13 an13 od14 an14 od15 an15 od16 an16 od17 an17 od18 an18 od19 an19 od20 an20 od21 an21 od22 an22 od23 an23 od24 an24 od25 an25 od26 an26 od27 an27 od28 an28 od29 an29 od30 an30 od31 an31 od32 an32 od33 an33 od34 an34 od35 an35 od36 an36 od37 an37 od38 an38 od39 an39 od40 an40 od41 an41 od42 an42 od43 an43 od44 an44 od45 an45 od46 an46 od47 an47 od48 an48 : Option Addr} {sl1 sl2 sl3 sl4 sl5 sl6 sl7 sl8 sl9 sl10 sl11 sl12 sl13 sl14 sl15 sl16 sl17 sl18 sl19 sl20 sl21 sl22 sl23 sl24 sl25 sl26 sl27 sl28 sl29 sl30 sl31 sl32 sl33 sl34 sl35 sl36 sl37 sl38 sl39 sl40 sl41 sl42 sl43 sl44 sl45 sl46 sl47 sl48 : Array (Option Value)} {oc1 kV1 dc1 pm1 cd1 ct1 oc2 kV2 dc2 pm2 cd2 ct2 oc3 kV3 dc3 pm3 cd3 ct3 oc4 kV4 dc4 pm4 cd4 ct4 oc5 kV5 dc5 pm5 cd5 ct5 oc6 kV6 dc6 pm6 cd6 ct6 oc7 kV7 dc7 pm7 cd7 ct7 oc8 kV8 dc8 pm8 cd8 ct8 oc9 kV9 dc9 pm9 cd9 ct9 oc10 kV10 dc10 pm10 cd10 ct10 oc11 kV11 dc11 pm11 cd11 ct11 oc12 kV12 dc12 pm12 cd12 ct12 oc13 kV13 dc13 pm13 cd13 ct13 oc14 kV14 dc14 pm14 cd14 ct14 oc15 kV15 dc15 pm15 cd15 ct15 oc16 kV16 dc16 pm16 cd16 ct16 oc17 kV17 dc17 pm17 cd17 ct17 oc18 kV18 dc18 pm18 cd18 ct18 oc19 kV19 dc19 pm19 cd19 ct19 oc20 kV20 dc20 pm20 cd20 ct20 oc21 kV21 dc21 pm21 cd21 ct21 oc22 kV22 dc22 pm22 cd22 ct22 oc23 kV23 dc23 pm23 cd23 ct23 oc24 kV24 dc24 pm24 cd24 ct24 oc25 kV25 dc25 pm25 cd25 ct25 oc26 kV26 dc26 pm26 cd26 ct26 oc27 kV27 dc27 pm27 cd27 ct27 oc28 kV28 dc28 pm28 cd28 ct28 oc29 kV29 dc29 pm29 cd29 ct29 oc30 kV30 dc30 pm30 cd30 ct30 oc31 kV31 dc31 pm31 cd31 ct31 oc32 kV32 dc32 pm32 cd32 ct32 oc33 kV33 dc33 pm33 cd33 ct33 oc34 kV34 dc34 pm34 cd34 ct34 oc35 kV35 dc35 pm35 cd35 ct35 oc36 kV36 dc36 pm36 cd36 ct36 oc37 kV37 dc37 pm37 cd37 ct37 oc38 kV38 dc38 pm38 cd38 ct38 oc39 kV39 dc39 pm39 cd39 ct39 oc40 kV40 dc40 pm40 cd40 ct40 oc41 kV41 dc41 pm41 cd41 ct41 oc42 kV42 dc42 pm42 cd42 ct42 oc43 kV43 dc43 pm43 cd43 ct43 oc44 kV44 dc44 pm44 cd44 ct44 oc45 kV45 dc45 pm45 cd45 ct45 oc46 kV46 dc46 pm46 cd46 ct46 oc47 kV47 dc47 pm47 cd47 ct47 oc48 kV48 dc48 pm48 cd48 ct48 : Value} {t_COMING : Tok} {t_FLOOR : Tok} {t_GIVES : Tok} {t_LAG : Tok} {t_NAME : Tok} {t_PARTS : Tok} {t_STOCK : Tok} {t_WANT_AMOUNT : Tok} {t_WANT_DAY : Tok} {t_WANT_NAME : Tok} {Zup : Addr} {Ztb : Addr} {Zta : Addr} {Zvd : Addr} {Zvn : Addr} {Zt4 : Addr} {Zt3 : Addr} {Zt9 : Addr} {ct Pt : Addr} {odc : Option Addr} {vsc : Array Value} {slc : Array (Option Value)}
  (a1 : Zzs K mainGlobals "_law_cell_at" = some (some (.ref f1))) (l1 : K.lookup f1 = some ⟨oc1, od1, .func (Zzi "_law_cell_at" "_law_cell_at" (Ai D5) (Ae D5) (A8 D5) .none kV1 dc1 pm1 an1 cd1 ct1), sl1⟩) (c1 : Zzm K cd1 "_law_cell_at" = true) (k1 : Zzo K (.ref f1) = true)
  (a2 : Zzs K mainGlobals "_law_drawn" = some (some (.ref f2))) (l2 : K.lookup f2 = some ⟨oc2, od2, .func (Zzi "_law_drawn" "_law_drawn" (Ai E2) (Ae E2) (A8 E2) .none kV2 dc2 pm2 an2 cd2 ct2), sl2⟩) (c2 : Zzm K cd2 "_law_drawn" = true) (k2 : Zzo K (.ref f2) = true)
  (a3 : Zzs K mainGlobals "_law_next" = some (some (.ref f3))) (l3 : K.lookup f3 = some ⟨oc3, od3, .func (Zzi "_law_next" "_law_next" (Ai El) (Ae El) (A8 El) .none kV3 dc3 pm3 an3 cd3 ct3), sl3⟩) (c3 : Zzm K cd3 "_law_next" = true) (k3 : Zzo K (.ref f3) = true)
  (a4 : Zzs K mainGlobals "_law_wares" = some (some (.ref f4))) (l4 : K.lookup f4 = some ⟨oc4, od4, .func (Zzi "_law_wares" "_law_wares" (Ai Dz) (Ae Dz) (A8 Dz) .none kV4 dc4 pm4 an4 cd4 ct4), sl4⟩) (c4 : Zzm K cd4 "_law_wares" = true) (k4 : Zzo K (.ref f4) = true)
  (a5 : Zzs K mainGlobals "_law_amount" = some (some (.ref f5))) (l5 : K.lookup f5 = some ⟨oc5, od5, .func (Zzi "_law_amount" "_law_amount" (Ai Dm) (Ae Dm) (A8 Dm) .none kV5 dc5 pm5 an5 cd5 ct5), sl5⟩) (c5 : Zzm K cd5 "_law_amount" = true) (k5 : Zzo K (.ref f5) = true)
  (a6 : Zzs K mainGlobals "_law_filled" = some (some (.ref f6))) (l6 : K.lookup f6 = some ⟨oc6, od6, .func (Zzi "_law_filled" "_law_filled" (Ai Dl) (Ae Dl) (A8 Dl) .none kV6 dc6 pm6 an6 cd6 ct6), sl6⟩) (c6 : Zzm K cd6 "_law_filled" = true) (k6 : Zzo K (.ref f6) = true)
  (a7 : Zzs K mainGlobals "_law_shop" = some (some (.ref f7))) (l7 : K.lookup f7 = some ⟨oc7, od7, .func (Zzi "_law_shop" "_law_shop" (Ai Ek) (Ae Ek) (A8 Ek) .none kV7 dc7 pm7 an7 cd7 ct7), sl7⟩) (c7 : Zzm K cd7 "_law_shop" = true) (k7 : Zzo K (.ref f7) = true)
  (a8 : Zzs K mainGlobals "_law_all_under" = some (some (.ref f8))) (l8 : K.lookup f8 = some ⟨oc8, od8, .func (Zzi "_law_all_under" "_law_all_under" (Ai Cg) (Ae Cg) (A8 Cg) .none kV8 dc8 pm8 an8 cd8 ct8), sl8⟩) (c8 : Zzm K cd8 "_law_all_under" = true) (k8 : Zzo K (.ref f8) = true)
  (a9 : Zzs K mainGlobals "_law_ringed" = some (some (.ref f9))) (l9 : K.lookup f9 = some ⟨oc9, od9, .func (Zzi "_law_ringed" "_law_ringed" (Ai Dk) (Ae Dk) (A8 Dk) .none kV9 dc9 pm9 an9 cd9 ct9), sl9⟩) (c9 : Zzm K cd9 "_law_ringed" = true) (k9 : Zzo K (.ref f9) = true)
  (a10 : Zzs K mainGlobals "part_names" = some (some (.ref f10))) (l10 : K.lookup f10 = some ⟨oc10, od10, .func (Zzi "part_names" "part_names" (Ai Di) (Ae Di) (A8 Di) .none kV10 dc10 pm10 an10 cd10 ct10), sl10⟩) (c10 : Zzm K cd10 "part_names" = true) (k10 : Zzo K (.ref f10) = true)
  (a11 : Zzs K mainGlobals "without_ends" = some (some (.ref f11))) (l11 : K.lookup f11 = some ⟨oc11, od11, .func (Zzi "without_ends" "without_ends" (Ai Ct) (Ae Ct) (A8 Ct) .none kV11 dc11 pm11 an11 cd11 ct11), sl11⟩) (c11 : Zzm K cd11 "without_ends" = true) (k11 : Zzo K (.ref f11) = true)
  (a12 : Zzs K mainGlobals "endless_parts" = some (some (.ref f12))) (l12 : K.lookup f12 = some ⟨oc12, od12, .func (Zzi "endless_parts" "endless_parts" (Ai Ch) (Ae Ch) (A8 Ch) .none kV12 dc12 pm12 an12 cd12 ct12), sl12⟩) (c12 : Zzm K cd12 "endless_parts" = true) (k12 : Zzo K (.ref f12) = true)
  (a13 : Zzs K mainGlobals "ring" = some (some (.ref f13))) (l13 : K.lookup f13 = some ⟨oc13, od13, .func (Zzi "ring" "ring" (Ai Kv) (Ae Kv) (A8 Kv) .none kV13 dc13 pm13 an13 cd13 ct13), sl13⟩) (c13 : Zzm K cd13 "ring" = true) (k13 : Zzo K (.ref f13) = true)
  (a14 : Zzs K mainGlobals "check_rings" = some (some (.ref f14))) (l14 : K.lookup f14 = some ⟨oc14, od14, .func (Zzi "check_rings" "check_rings" (Ai Ck) (Ae Ck) (A8 Ck) .none kV14 dc14 pm14 an14 cd14 ct14), sl14⟩) (c14 : Zzm K cd14 "check_rings" = true) (k14 : Zzo K (.ref f14) = true)
  (a15 : Zzs K mainGlobals "names_of" = some (some (.ref f15))) (l15 : K.lookup f15 = some ⟨oc15, od15, .func (Zzi "names_of" "names_of" (Ai Eh) (Ae Eh) (A8 Eh) .none kV15 dc15 pm15 an15 cd15 ct15), sl15⟩) (c15 : Zzm K cd15 "names_of" = true) (k15 : Zzo K (.ref f15) = true)
  (a16 : Zzs K mainGlobals "levels" = some (some (.ref f16))) (l16 : K.lookup f16 = some ⟨oc16, od16, .func (Zzi "levels" "levels" (Ai Fx) (Ae Fx) (A8 Fx) .none kV16 dc16 pm16 an16 cd16 ct16), sl16⟩) (c16 : Zzm K cd16 "levels" = true) (k16 : Zzo K (.ref f16) = true)
  (a17 : Zzs K mainGlobals "worked" = some (some (.ref f17))) (l17 : K.lookup f17 = some ⟨oc17, od17, .func (Zzi "worked" "worked" (Ai Fv) (Ae Fv) (A8 Fv) .none kV17 dc17 pm17 an17 cd17 ct17), sl17⟩) (c17 : Zzm K cd17 "worked" = true) (k17 : Zzo K (.ref f17) = true)
  (a18 : Zzs K mainGlobals "ware_of" = some (some (.ref f18))) (l18 : K.lookup f18 = some ⟨oc18, od18, .func (Zzi "ware_of" "ware_of" (Ai Ee) (Ae Ee) (A8 Ee) .none kV18 dc18 pm18 an18 cd18 ct18), sl18⟩) (c18 : Zzm K cd18 "ware_of" = true) (k18 : Zzo K (.ref f18) = true)
  (a19 : Zzs K mainGlobals "lots_for" = some (some (.ref f19))) (l19 : K.lookup f19 = some ⟨oc19, od19, .func (Zzi "lots_for" "lots_for" (Ai Ei) (Ae Ei) (A8 Ei) .none kV19 dc19 pm19 an19 cd19 ct19), sl19⟩) (c19 : Zzm K cd19 "lots_for" = true) (k19 : Zzo K (.ref f19) = true)
  (a20 : Zzs K mainGlobals "least_lots" = some (some (.ref f20))) (l20 : K.lookup f20 = some ⟨oc20, od20, .func (Zzi "least_lots" "least_lots" (Ai Dj) (Ae Dj) (A8 Dj) .none kV20 dc20 pm20 an20 cd20 ct20), sl20⟩) (c20 : Zzm K cd20 "least_lots" = true) (k20 : Zzo K (.ref f20) = true)
  (a21 : Zzs K mainGlobals "count_days" = some (some (.ref f21))) (l21 : K.lookup f21 = some ⟨oc21, od21, .func (Zzi "count_days" "count_days" (Ai Dn) (Ae Dn) (A8 Dn) .none kV21 dc21 pm21 an21 cd21 ct21), sl21⟩) (c21 : Zzm K cd21 "count_days" = true) (k21 : Zzo K (.ref f21) = true)
  (a22 : Zzs K mainGlobals "wants_row" = some (some (.ref f22))) (l22 : K.lookup f22 = some ⟨oc22, od22, .func (Zzi "wants_row" "wants_row" (Ai Dx) (Ae Dx) (A8 Dx) .none kV22 dc22 pm22 an22 cd22 ct22), sl22⟩) (c22 : Zzm K cd22 "wants_row" = true) (k22 : Zzo K (.ref f22) = true)
  (a23 : Zzs K mainGlobals "begun_row" = some (some (.ref f23))) (l23 : K.lookup f23 = some ⟨oc23, od23, .func (Zzi "begun_row" "begun_row" (Ai E4) (Ae E4) (A8 E4) .none kV23 dc23 pm23 an23 cd23 ct23), sl23⟩) (c23 : Zzm K cd23 "begun_row" = true) (k23 : Zzo K (.ref f23) = true)
  (a24 : Zzs K mainGlobals "needs_row" = some (some (.ref f24))) (l24 : K.lookup f24 = some ⟨oc24, od24, .func (Zzi "needs_row" "needs_row" (Ai Dy) (Ae Dy) (A8 Dy) .none kV24 dc24 pm24 an24 cd24 ct24), sl24⟩) (c24 : Zzm K cd24 "needs_row" = true) (k24 : Zzo K (.ref f24) = true)
  (a25 : Zzs K mainGlobals "arrivals_row" = some (some (.ref f25))) (l25 : K.lookup f25 = some ⟨oc25, od25, .func (Zzi "arrivals_row" "arrivals_row" (Ai Cu) (Ae Cu) (A8 Cu) .none kV25 dc25 pm25 an25 cd25 ct25), sl25⟩) (c25 : Zzm K cd25 "arrivals_row" = true) (k25 : Zzo K (.ref f25) = true)
  (a26 : Zzs K mainGlobals "first_early" = some (some (.ref f26))) (l26 : K.lookup f26 = some ⟨oc26, od26, .func (Zzi "first_early" "first_early" (Ai D7) (Ae D7) (A8 D7) .none kV26 dc26 pm26 an26 cd26 ct26), sl26⟩) (c26 : Zzm K cd26 "first_early" = true) (k26 : Zzo K (.ref f26) = true)
  (a27 : Zzs K mainGlobals "planned" = some (some (.ref f27))) (l27 : K.lookup f27 = some ⟨oc27, od27, .func (Zzi "planned" "planned" (Ai Eg) (Ae Eg) (A8 Eg) .none kV27 dc27 pm27 an27 cd27 ct27), sl27⟩) (c27 : Zzm K cd27 "planned" = true) (k27 : Zzo K (.ref f27) = true)
  (a28 : Zzs K mainGlobals "lets_plan" = some (some (.ref f28))) (l28 : K.lookup f28 = some ⟨oc28, od28, .func (Zzi "lets_plan" "lets_plan" (Ai Dd) (Ae Dd) (A8 Dd) .none kV28 dc28 pm28 an28 cd28 ct28), sl28⟩) (c28 : Zzm K cd28 "lets_plan" = true) (k28 : Zzo K (.ref f28) = true)
  (a29 : Zzs K mainGlobals "times" = some (some (.ref f29))) (l29 : K.lookup f29 = some ⟨oc29, od29, .func (Zzi "times" "times" (Ai Iq) (Ae Iq) (A8 Iq) .none kV29 dc29 pm29 an29 cd29 ct29), sl29⟩) (c29 : Zzm K cd29 "times" = true) (k29 : Zzo K (.ref f29) = true)
  (a30 : Zzs K mainGlobals "put_off" = some (some (.ref f30))) (l30 : K.lookup f30 = some ⟨oc30, od30, .func (Zzi "put_off" "put_off" (Ai Ef) (Ae Ef) (A8 Ef) .none kV30 dc30 pm30 an30 cd30 ct30), sl30⟩) (c30 : Zzm K cd30 "put_off" = true) (k30 : Zzo K (.ref f30) = true)
  (a31 : Zzs K mainGlobals "late" = some (some (.ref f31))) (l31 : K.lookup f31 = some ⟨oc31, od31, .func (Zzi "late" "late" (Ai Je) (Ae Je) (A8 Je) .none kV31 dc31 pm31 an31 cd31 ct31), sl31⟩) (c31 : Zzm K cd31 "late" = true) (k31 : Zzo K (.ref f31) = true)
  (a32 : Zzs K mainGlobals "days_of" = some (some (.ref f32))) (l32 : K.lookup f32 = some ⟨oc32, od32, .func (Zzi "days_of" "days_of" (Ai Em) (Ae Em) (A8 Em) .none kV32 dc32 pm32 an32 cd32 ct32), sl32⟩) (c32 : Zzm K cd32 "days_of" = true) (k32 : Zzo K (.ref f32) = true)
  (a33 : Zzs K mainGlobals "so_far" = some (some (.ref f33))) (l33 : K.lookup f33 = some ⟨oc33, od33, .func (Zzi "so_far" "so_far" (Ai Gm) (Ae Gm) (A8 Gm) .none kV33 dc33 pm33 an33 cd33 ct33), sl33⟩) (c33 : Zzm K cd33 "so_far" = true) (k33 : Zzo K (.ref f33) = true)
  (a34 : Zzs K mainGlobals "stocks_row" = some (some (.ref f34))) (l34 : K.lookup f34 = some ⟨oc34, od34, .func (Zzi "stocks_row" "stocks_row" (Ai Dh) (Ae Dh) (A8 Dh) .none kV34 dc34 pm34 an34 cd34 ct34), sl34⟩) (c34 : Zzm K cd34 "stocks_row" = true) (k34 : Zzo K (.ref f34) = true)
  (a35 : Zzs K mainGlobals "stocks" = some (some (.ref f35))) (l35 : K.lookup f35 = some ⟨oc35, od35, .func (Zzi "stocks" "stocks" (Ai Fw) (Ae Fw) (A8 Fw) .none kV35 dc35 pm35 an35 cd35 ct35), sl35⟩) (c35 : Zzm K cd35 "stocks" = true) (k35 : Zzo K (.ref f35) = true)
  (a36 : Zzs K mainGlobals "needs" = some (some (.ref f36))) (l36 : K.lookup f36 = some ⟨oc36, od36, .func (Zzi "needs" "needs" (Ai Gy) (Ae Gy) (A8 Gy) .none kV36 dc36 pm36 an36 cd36 ct36), sl36⟩) (c36 : Zzm K cd36 "needs" = true) (k36 : Zzo K (.ref f36) = true)
  (a37 : Zzs K mainGlobals "begun" = some (some (.ref f37))) (l37 : K.lookup f37 = some ⟨oc37, od37, .func (Zzi "begun" "begun" (Ai Gz) (Ae Gz) (A8 Gz) .none kV37 dc37 pm37 an37 cd37 ct37), sl37⟩) (c37 : Zzm K cd37 "begun" = true) (k37 : Zzo K (.ref f37) = true)
  (a38 : Zzs K mainGlobals "first_fault" = some (some (.ref f38))) (l38 : K.lookup f38 = some ⟨oc38, od38, .func (Zzi "first_fault" "first_fault" (Ai D6) (Ae D6) (A8 D6) .none kV38 dc38 pm38 an38 cd38 ct38), sl38⟩) (c38 : Zzm K cd38 "first_fault" = true) (k38 : Zzo K (.ref f38) = true)
  (a39 : Zzs K mainGlobals "judged" = some (some (.ref f39))) (l39 : K.lookup f39 = some ⟨oc39, od39, .func (Zzi "judged" "judged" (Ai Fy) (Ae Fy) (A8 Fy) .none kV39 dc39 pm39 an39 cd39 ct39), sl39⟩) (c39 : Zzm K cd39 "judged" = true) (k39 : Zzo K (.ref f39) = true)
  (a40 : Zzs K mainGlobals "with_want" = some (some (.ref f40))) (l40 : K.lookup f40 = some ⟨oc40, od40, .func (Zzi "with_want" "with_want" (Ai Dc) (Ae Dc) (A8 Dc) .none kV40 dc40 pm40 an40 cd40 ct40), sl40⟩) (c40 : Zzm K cd40 "with_want" = true) (k40 : Zzo K (.ref f40) = true)
  (a41 : Zzs K mainGlobals "greatest_amount" = some (some (.ref f41))) (l41 : K.lookup f41 = some ⟨oc41, od41, .func (Zzi "greatest_amount" "greatest_amount" (Ai C1) (Ae C1) (A8 C1) .none kV41 dc41 pm41 an41 cd41 ct41), sl41⟩) (c41 : Zzm K cd41 "greatest_amount" = true) (k41 : Zzo K (.ref f41) = true)
  (a42 : Zzs K mainGlobals "most" = some (some (.ref f42))) (l42 : K.lookup f42 = some ⟨oc42, od42, .func (Zzi "most" "most" (Ai Jd) (Ae Jd) (A8 Jd) .none kV42 dc42 pm42 an42 cd42 ct42), sl42⟩) (c42 : Zzm K cd42 "most" = true) (k42 : Zzo K (.ref f42) = true)
  (a43 : Zzs K mainGlobals "pegs" = some (some (.ref f43))) (l43 : K.lookup f43 = some ⟨oc43, od43, .func (Zzi "pegs" "pegs" (Ai Kw) (Ae Kw) (A8 Kw) .none kV43 dc43 pm43 an43 cd43 ct43), sl43⟩) (c43 : Zzm K cd43 "pegs" = true) (k43 : Zzo K (.ref f43) = true)
  (a44 : Zzs K mainGlobals "serves" = some (some (.ref f44))) (l44 : K.lookup f44 = some ⟨oc44, od44, .func (Zzi "serves" "serves" (Ai Gn) (Ae Gn) (A8 Gn) .none kV44 dc44 pm44 an44 cd44 ct44), sl44⟩) (c44 : Zzm K cd44 "serves" = true) (k44 : Zzo K (.ref f44) = true)
  (a45 : Zzs K mainGlobals "bought" = some (some (.ref f45))) (l45 : K.lookup f45 = some ⟨oc45, od45, .func (Zzi "bought" "bought" (Ai Go) (Ae Go) (A8 Go) .none kV45 dc45 pm45 an45 cd45 ct45), sl45⟩) (c45 : Zzm K cd45 "bought" = true) (k45 : Zzo K (.ref f45) = true)
  (a46 : Zzs K mainGlobals "_law_asked" = some (some (.ref f46))) (l46 : K.lookup f46 = some ⟨oc46, od46, .func (Zzi "_law_asked" "_law_asked" (Ai E3) (Ae E3) (A8 E3) .none kV46 dc46 pm46 an46 cd46 ct46), sl46⟩) (c46 : Zzm K cd46 "_law_asked" = true) (k46 : Zzo K (.ref f46) = true)
  (a47 : Zzs K mainGlobals "_law_word" = some (some (.ref f47))) (l47 : K.lookup f47 = some ⟨oc47, od47, .func (Zzi "_law_word" "_law_word" (Ai Ej) (Ae Ej) (A8 Ej) .none kV47 dc47 pm47 an47 cd47 ct47), sl47⟩) (c47 : Zzm K cd47 "_law_word" = true) (k47 : Zzo K (.ref f47) = true)
  (a48 : Zzs K mainGlobals "law" = some (some (.ref f48))) (l48 : K.lookup f48 = some ⟨oc48, od48, .func (Zzi "law" "law" (Ai Jz) (Ae Jz) (A8 Jz) .none kV48 dc48 pm48 an48 cd48 ct48), sl48⟩) (c48 : Zzm K cd48 "law" = true) (k48 : Zzo K (.ref f48) = true)
  (z_range : Zzs K mainGlobals "range" = some none)
  (z_len : Zzs K mainGlobals "len" = some none)
  (z_list : Zzs K mainGlobals "list" = some none)
  (z_max : Zzs K mainGlobals "max" = some none)
  (z_sorted : Zzs K mainGlobals "sorted" = some none)
  (z_reversed : Zzs K mainGlobals "reversed" = some none)
  (z_zip : Zzs K mainGlobals "zip" = some none)
  (z_min : Zzs K mainGlobals "min" = some none)
  (z_enumerate : Zzs K mainGlobals "enumerate" = some none)
  (z_tuple : Zzs K mainGlobals "tuple" = some none)
  (z_int : Zzs K mainGlobals "int" = some none)
  (z_isinstance : Zzs K mainGlobals "isinstance" = some none)
  (z_ValueError : Zzs K mainGlobals "ValueError" = some none)
  (Zty : Zzs K mainGlobals "COMING" = some (some (.int 5 t_COMING)))
  (Zu1 : Zzs K mainGlobals "FLOOR" = some (some (.int 3 t_FLOOR)))
  (Zu0 : Zzs K mainGlobals "GIVES" = some (some (.int 2 t_GIVES)))
  (Zu3 : Zzs K mainGlobals "LAG" = some (some (.int 1 t_LAG)))
  (Zvf : Zzs K mainGlobals "NAME" = some (some (.int 0 t_NAME)))
  (Ztz : Zzs K mainGlobals "PARTS" = some (some (.int 6 t_PARTS)))
  (Ztl : Zzs K mainGlobals "STOCK" = some (some (.int 4 t_STOCK)))
  (Zv9 : Zzs K mainGlobals "WANT_AMOUNT" = some (some (.int 2 t_WANT_AMOUNT)))
  (Zux : Zzs K mainGlobals "WANT_DAY" = some (some (.int 1 t_WANT_DAY)))
  (Zuq : Zzs K mainGlobals "WANT_NAME" = some (some (.int 0 t_WANT_NAME)))
  (q_NeedError : Zzs K mainGlobals "NeedError" = some (some (.ref Zup)))
  (q_NoText : Zzs K mainGlobals "NoText" = some (some (.ref Ztb)))
  (q_NoShop : Zzs K mainGlobals "NoShop" = some (some (.ref Zta)))
  (q_Ring : Zzs K mainGlobals "Ring" = some (some (.ref Zvd)))
  (q_NoName : Zzs K mainGlobals "NoName" = some (some (.ref Zvn)))
  (q_NoDay : Zzs K mainGlobals "NoDay" = some (some (.ref Zt4)))
  (q_NoBuy : Zzs K mainGlobals "NoBuy" = some (some (.ref Zt3)))
  (q_NoPlan : Zzs K mainGlobals "NoPlan" = some (some (.ref Zt9)))
  (Zt8 : Uz K Zvd = true)
  (Zu5 : Ja K Zvd)
  (Zvc : exmOne K (.ref Zvd) (.ref Zup) = some true)
  (Zuw : kitOne K (.ref Zvd) (.ref Zup) = some true)
  (Zuv : kitOne K (.ref Zvd) (.ref Ztb) = some false)
  (Zuu : kitOne K (.ref Zvd) (.ref Zta) = some false)
  (Zuj : kitOne K (.ref Zvd) (.ref Zvd) = some true)
  (Zut : kitOne K (.ref Zvd) (.ref Zvn) = some false)
  (Zuo : kitOne K (.ref Zvd) (.ref Zt4) = some false)
  (Zun : kitOne K (.ref Zvd) (.ref Zt3) = some false)
  (Zus : kitOne K (.ref Zvd) (.ref Zt9) = some false)
  (Zve : kitOne K (.ref Zvd) (.type "ValueError") = some true)
  (Ztx : Uz K Zvn = true)
  (Zum : Ja K Zvn)
  (Zvh : exmOne K (.ref Zvn) (.ref Zup) = some true)
  (Zv8 : kitOne K (.ref Zvn) (.ref Zup) = some true)
  (Zv7 : kitOne K (.ref Zvn) (.ref Ztb) = some false)
  (Zv6 : kitOne K (.ref Zvn) (.ref Zta) = some false)
  (Zur : kitOne K (.ref Zvn) (.ref Zvd) = some false)
  (Zv5 : kitOne K (.ref Zvn) (.ref Zvn) = some true)
  (Zuz : kitOne K (.ref Zvn) (.ref Zt4) = some false)
  (Zuy : kitOne K (.ref Zvn) (.ref Zt3) = some false)
  (Zv4 : kitOne K (.ref Zvn) (.ref Zt9) = some false)
  (Zvj : kitOne K (.ref Zvn) (.type "ValueError") = some true)
  (tq : cd17 = .ref ct) (tl : K.lookup ct = some ⟨.type "code", odc, .fields vsc, slc⟩) (tv : vsc[11]? = some (.ref Pt)) (tw : aq vsc ct Pt = true) (tp : K.lookup Pt = none) :
  ∃ (fd : FuncData) (ct Pt : Addr), (∀ (s : Shared) (v : Value), BindsTo s fd ⟨[v], []⟩ [("_law_script", v)]) /\ PySem.W.tabIn K "worked" = some (ct, Pt) /\ K.lookup Pt = none /\ ∀ base : Heap, K.In base -> base.Ns mainGlobals mg -> Ak mg base -> FnOk l.prog w K mg base CX0 13 fa fd ["_law_script"] (R5 K Pt) := by
 have e := hfa.symm.trans (Zzw X G a48)
 cases e
 have T : Txt mg := ⟨Zyh X G z_range, Zyh X G z_len, Zyh X G z_list, Zyh X G z_max, Zyh X G z_sorted, Zyh X G z_reversed, Zyh X G z_zip, Zyh X G z_min, Zyh X G z_enumerate, Zyh X G z_tuple, Zyh X G z_int, Zyh X G z_isinstance, Zyh X G z_ValueError, ⟨_, Zzw X G Zty⟩, ⟨_, Zzw X G Zu1⟩, ⟨_, Zzw X G Zu0⟩, ⟨_, Zzw X G Zu3⟩, ⟨_, Zzw X G Zvf⟩, ⟨_, Zzw X G Ztz⟩, ⟨_, Zzw X G Ztl⟩, ⟨_, Zzw X G Zv9⟩, ⟨_, Zzw X G Zux⟩, ⟨_, Zzw X G Zuq⟩⟩
 have tb := jm a17 l17 tq tl tv
 have tc := Xz tl tv tw
 have C : Exc K mg ⟨Zup, Ztb, Zta, Zvd, Zvn, Zt4, Zt3, Zt9⟩ := ⟨Zzw X G q_NeedError, Zzw X G q_NoText, Zzw X G q_NoShop, Zzw X G q_Ring, Zzw X G q_NoName, Zzw X G q_NoDay, Zzw X G q_NoBuy, Zzw X G q_NoPlan, Zt8, Zu5, Zvc, Zuw, Zuv, Zuu, Zuj, Zut, Zuo, Zun, Zus, Zve, Ztx, Zum, Zvh, Zv8, Zv7, Zv6, Zur, Zv5, Zuz, Zuy, Zv4, Zvj⟩
 have F1 := Ap (st := D5) l1 c1 k1
 have b1 := F1.binds (ps := ["_law_script", "_law_k"]) fun _ _ _ _ _ _ us hl => match us, hl with | [_, _], _ => rfl
 have Zui := fun base (hB : Ak mg base) => Has.of (Zzw X G a1) k1 b1 (Nb (P := l.prog) (w := w) (base := base) F1 T C)
 have F2 := Ap (st := E2) l2 c2 k2
 have b2 := F2.binds (ps := ["_law_script", "_law_k", "_law_salt"]) fun _ _ _ _ _ _ us hl => match us, hl with | [_, _, _], _ => rfl
 have Zv2 := fun base (hB : Ak mg base) => Has.of (Zzw X G a2) k2 b2 (Rk (P := l.prog) (w := w) (base := base) F2 T C (Zui base hB))
 have F3 := Ap (st := El) l3 c3 k3
 have b3 := F3.binds (ps := ["_law_state", "_law_many"]) fun _ _ _ _ _ _ us hl => match us, hl with | [_, _], _ => rfl
 have Zvq := fun base (hB : Ak mg base) => Has.of (Zzw X G a3) k3 b3 (Tj (P := l.prog) (w := w) (base := base) F3 T C)
 have F4 := Ap (st := Dz) l4 c4 k4
 have b4 := F4.binds (ps := ["_law_state", "_law_many"]) fun _ _ _ _ _ _ us hl => match us, hl with | [_, _], _ => rfl
 have Zts := fun base (hB : Ak mg base) => Has.of (Zzw X G a4) k4 b4 (Rj (P := l.prog) (w := w) (base := base) F4 T C (Zvq base hB))
 have F5 := Ap (st := Dm) l5 c5 k5
 have b5 := F5.binds (ps := ["_law_state"]) fun _ _ _ _ _ _ us hl => match us, hl with | [_], _ => rfl
 have Ztw := fun base (hB : Ak mg base) => Has.of (Zzw X G a5) k5 b5 (Oy (P := l.prog) (w := w) (base := base) F5 T C (Zvq base hB))
 have F6 := Ap (st := Dl) l6 c6 k6
 have b6 := F6.binds (ps := ["_law_wares_here", "_law_cells", "_law_sized"]) fun _ _ _ _ _ _ us hl => match us, hl with | [_, _, _], _ => rfl
 have Ztv := fun base (hB : Ak mg base) => Has.of (Zzw X G a6) k6 b6 (Ox (P := l.prog) (w := w) (base := base) F6 T C (Zvq base hB) (Ztw base hB))
 have F7 := Ap (st := Ek) l7 c7 k7
 have b7 := F7.binds (ps := ["_law_script", "_law_last"]) fun _ _ _ _ _ _ us hl => match us, hl with | [_, _], _ => rfl
 have Ztc := fun base (hB : Ak mg base) => Has.of (Zzw X G a7) k7 b7 (Ti (P := l.prog) (w := w) (base := base) F7 T C (Zv2 base hB) (Zts base hB) (Zvq base hB) (Ztv base hB))
 have F8 := Ap (st := Cg) l8 c8 k8
 have b8 := F8.binds (ps := ["_law_shop_here", "_law_name"]) fun _ _ _ _ _ _ us hl => match us, hl with | [_, _], _ => rfl
 have Zua := fun base (hB : Ak mg base) => Has.of (Zzw X G a8) k8 b8 (L4 (P := l.prog) (w := w) (base := base) F8 T C)
 have F9 := Ap (st := Dk) l9 c9 k9
 have b9 := F9.binds (ps := ["_law_shop_here", "_law_state"]) fun _ _ _ _ _ _ us hl => match us, hl with | [_, _], _ => rfl
 have Ztu := fun base (hB : Ak mg base) => Has.of (Zzw X G a9) k9 b9 (Ow (P := l.prog) (w := w) (base := base) F9 T C (Zvq base hB) (Zua base hB))
 have F10 := Ap (st := Di) l10 c10 k10
 have b10 := F10.binds (ps := ["ware"]) fun _ _ _ _ _ _ us hl => match us, hl with | [_], _ => rfl
 have Zvk := fun base (hB : Ak mg base) => Has.of (Zzw X G a10) k10 b10 (Ou (P := l.prog) (w := w) (base := base) F10 T C)
 have F11 := Ap (st := Ct) l11 c11 k11
 have b11 := F11.binds (ps := ["parts"]) fun _ _ _ _ _ _ us hl => match us, hl with | [_], _ => rfl
 have Zu8 := fun base (hB : Ak mg base) => Has.of (Zzw X G a11) k11 b11 (M0 (P := l.prog) (w := w) (base := base) F11 T C)
 have F12 := Ap (st := Ch) l12 c12 k12
 have b12 := F12.binds (ps := ["shop"]) fun _ _ _ _ _ _ us hl => match us, hl with | [_], _ => rfl
 have Zuc := fun base (hB : Ak mg base) => Has.of (Zzw X G a12) k12 b12 (L5 (P := l.prog) (w := w) (base := base) F12 T C (Zvk base hB) (Zu8 base hB))
 have F13 := Ap (st := Kv) l13 c13 k13
 have b13 := F13.binds (ps := ["shop"]) fun _ _ _ _ _ _ us hl => match us, hl with | [_], _ => rfl
 have Ztk := fun base (hB : Ak mg base) => Has.of (Zzw X G a13) k13 b13 (fe (P := l.prog) (w := w) (base := base) F13 T C (Zuc base hB))
 have F14 := Ap (st := Ck) l14 c14 k14
 have b14 := F14.binds (ps := ["shop"]) fun _ _ _ _ _ _ us hl => match us, hl with | [_], _ => rfl
 have Zvr := fun base (hB : Ak mg base) => Has.of (Zzw X G a14) k14 b14 (Ng (P := l.prog) (w := w) (base := base) F14 T C (Ztk base hB))
 have F15 := Ap (st := Eh) l15 c15 k15
 have b15 := F15.binds (ps := ["shop"]) fun _ _ _ _ _ _ us hl => match us, hl with | [_], _ => rfl
 have Zuk := fun base (hB : Ak mg base) => Has.of (Zzw X G a15) k15 b15 (Te (P := l.prog) (w := w) (base := base) F15 T C)
 have F16 := Ap (st := Fx) l16 c16 k16
 have b16 := F16.binds (ps := ["shop"]) fun _ _ _ _ _ _ us hl => match us, hl with | [_], _ => rfl
 have Zt1 := fun base (hB : Ak mg base) => Has.of (Zzw X G a16) k16 b16 (X8 (P := l.prog) (w := w) (base := base) F16 T C (Zvr base hB) (Zuk base hB) (Zvk base hB))
 have F17 := Ap (st := Fv) l17 c17 k17
 have b17 := F17.binds (ps := ["shop"]) fun _ _ _ _ _ _ us hl => match us, hl with | [_], _ => rfl
 have Zvb := fun base (hB : Ak mg base) => Has.of (Zzw X G a17) k17 b17 (X5 (P := l.prog) (w := w) (base := base) F17 T C (Zt1 base hB) (Zuk base hB) ⟨fun _ _ _ _ e => U7 tb a17 e, tc⟩ hB)
 have F18 := Ap (st := Ee) l18 c18 k18
 have b18 := F18.binds (ps := ["shop", "name"]) fun _ _ _ _ _ _ us hl => match us, hl with | [_, _], _ => rfl
 have Zvp := fun base (hB : Ak mg base) => Has.of (Zzw X G a18) k18 b18 (Ur (P := l.prog) (w := w) (base := base) F18 T C)
 have F19 := Ap (st := Ei) l19 c19 k19
 have b19 := F19.binds (ps := ["amount", "gives"]) fun _ _ _ _ _ _ us hl => match us, hl with | [_, _], _ => rfl
 have Zti := fun base (hB : Ak mg base) => Has.of (Zzw X G a19) k19 b19 (Tf (P := l.prog) (w := w) (base := base) F19 T C)
 have F20 := Ap (st := Dj) l20 c20 k20
 have b20 := F20.binds (ps := ["have", "need", "gives", "floor"]) fun _ _ _ _ _ _ us hl => match us, hl with | [_, _, _, _], _ => rfl
 have Zub := fun base (hB : Ak mg base) => Has.of (Zzw X G a20) k20 b20 (Ov (P := l.prog) (w := w) (base := base) F20 T C (Zti base hB))
 have F21 := Ap (st := Dn) l21 c21 k21
 have b21 := F21.binds (ps := ["shop"]) fun _ _ _ _ _ _ us hl => match us, hl with | [_], _ => rfl
 have Zvm := fun base (hB : Ak mg base) => Has.of (Zzw X G a21) k21 b21 (Oz (P := l.prog) (w := w) (base := base) F21 T C)
 have F22 := Ap (st := Dx) l22 c22 k22
 have b22 := F22.binds (ps := ["shop", "ware"]) fun _ _ _ _ _ _ us hl => match us, hl with | [_, _], _ => rfl
 have Ztr := fun base (hB : Ak mg base) => Has.of (Zzw X G a22) k22 b22 (Rf (P := l.prog) (w := w) (base := base) F22 T C (Zvm base hB))
 have F23 := Ap (st := E4) l23 c23 k23
 have b23 := F23.binds (ps := ["plan", "ware"]) fun _ _ _ _ _ _ us hl => match us, hl with | [_, _], _ => rfl
 have Zv1 := fun base (hB : Ak mg base) => Has.of (Zzw X G a23) k23 b23 (Rm (P := l.prog) (w := w) (base := base) F23 T C)
 have F24 := Ap (st := Dy) l24 c24 k24
 have b24 := F24.binds (ps := ["shop", "plan", "ware"]) fun _ _ _ _ _ _ us hl => match us, hl with | [_, _, _], _ => rfl
 have Zvl := fun base (hB : Ak mg base) => Has.of (Zzw X G a24) k24 b24 (Rh (P := l.prog) (w := w) (base := base) F24 T C (Ztr base hB) (Zv1 base hB))
 have F25 := Ap (st := Cu) l25 c25 k25
 have b25 := F25.binds (ps := ["shop", "ware"]) fun _ _ _ _ _ _ us hl => match us, hl with | [_, _], _ => rfl
 have Zvi := fun base (hB : Ak mg base) => Has.of (Zzw X G a25) k25 b25 (M1 (P := l.prog) (w := w) (base := base) F25 T C (Zvm base hB))
 have F26 := Ap (st := D7) l26 c26 k26
 have b26 := F26.binds (ps := ["lots", "lag"]) fun _ _ _ _ _ _ us hl => match us, hl with | [_, _], _ => rfl
 have Zvg := fun base (hB : Ak mg base) => Has.of (Zzw X G a26) k26 b26 (Nd (P := l.prog) (w := w) (base := base) F26 T C)
 have F27 := Ap (st := Eg) l27 c27 k27
 have b27 := F27.binds (ps := ["shop"]) fun _ _ _ _ _ _ us hl => match us, hl with | [_], _ => rfl
 have Zt7 := fun base (hB : Ak mg base) => Has.of (Zzw X G a27) k27 b27 (N8 (P := l.prog) (w := w) (base := base) F27 T C (Zvb base hB) (Zvp base hB) (Zub base hB) (Zvl base hB) (Zvi base hB) (Zvg base hB))
 have F28 := Ap (st := Dd) l28 c28 k28
 have b28 := F28.binds (ps := ["shop"]) fun _ _ _ _ _ _ us hl => match us, hl with | [_], _ => rfl
 have Zvo := fun base (hB : Ak mg base) => Has.of (Zzw X G a28) k28 b28 (Ri (P := l.prog) (w := w) (base := base) F28 T C (Zt7 base hB))
 have F29 := Ap (st := Iq) l29 c29 k29
 have b29 := F29.binds (ps := ["shop"]) fun _ _ _ _ _ _ us hl => match us, hl with | [_], _ => rfl
 have Zue := fun base (hB : Ak mg base) => Has.of (Zzw X G a29) k29 b29 (Z5 (P := l.prog) (w := w) (base := base) F29 T C (Zvb base hB) (Zvp base hB) (Zvk base hB))
 have F30 := Ap (st := Ef) l30 c30 k30
 have b30 := F30.binds (ps := ["shop", "days"]) fun _ _ _ _ _ _ us hl => match us, hl with | [_, _], _ => rfl
 have Ztt := fun base (hB : Ak mg base) => Has.of (Zzw X G a30) k30 b30 (N7 (P := l.prog) (w := w) (base := base) F30 T C (Zvr base hB))
 have F31 := Ap (st := Je) l31 c31 k31
 have b31 := F31.binds (ps := ["shop"]) fun _ _ _ _ _ _ us hl => match us, hl with | [_], _ => rfl
 have Zs3 := fun base (hB : Ak mg base) => Has.of (Zzw X G a31) k31 b31 (Vw (P := l.prog) (w := w) (base := base) F31 T C (Zvo base hB) (Zue base hB) (Ztt base hB))
 have Zvs := fun base (hB : Ak mg base) => HasX.of (Zzw X G a14) k14 b14 (L6 (P := l.prog) (w := w) (base := base) F14 T C (Ztk base hB))
 have Zth := fun base (hB : Ak mg base) => HasX.of (Zzw X G a16) k16 b16 (Tg (P := l.prog) (w := w) (base := base) F16 T C (Zvs base hB))
 have Zv3 := fun base (hB : Ak mg base) => HasX.of (Zzw X G a17) k17 b17 (Ta (P := l.prog) (w := w) (base := base) F17 T C (Zth base hB))
 have Ztq := fun base (hB : Ak mg base) => HasX.of (Zzw X G a27) k27 b27 (Ka (P := l.prog) (w := w) (base := base) F27 T C (Zv3 base hB))
 have Zug := fun base (hB : Ak mg base) => HasX.of (Zzw X G a28) k28 b28 (Na (P := l.prog) (w := w) (base := base) F28 T C (Ztq base hB))
 have Zs9 := fun base (hB : Ak mg base) => HasX.of (Zzw X G a31) k31 b31 (Q8 (P := l.prog) (w := w) (base := base) F31 T C (Zug base hB))
 have Zsz := fun base (hB : Ak mg base) => HasX.of (Zzw X G a31) k31 b31 (FnOk.both (k := 9) (Vw (P := l.prog) (w := w) (base := base) F31 T C (Zvo base hB) (Zue base hB) (Ztt base hB)) (Q8 (P := l.prog) (w := w) (base := base) F31 T C (Zug base hB)) (by decide) (by decide))
 have Ztp := fun base (hB : Ak mg base) => HasX.of (Zzw X G a27) k27 b27 (FnOk.both (k := 7) (N8 (P := l.prog) (w := w) (base := base) F27 T C (Zvb base hB) (Zvp base hB) (Zub base hB) (Zvl base hB) (Zvi base hB) (Zvg base hB)) (Ka (P := l.prog) (w := w) (base := base) F27 T C (Zv3 base hB)) (by decide) (by decide))
 have F32 := Ap (st := Em) l32 c32 k32
 have b32 := F32.binds (ps := ["shop"]) fun _ _ _ _ _ _ us hl => match us, hl with | [_], _ => rfl
 have Zsc := fun base (hB : Ak mg base) => Has.of (Zzw X G a32) k32 b32 (Nf (P := l.prog) (w := w) (base := base) F32 T C (Zvr base hB) (Zvm base hB))
 have Zsg := fun base (hB : Ak mg base) => HasX.of (Zzw X G a32) k32 b32 (Kb (P := l.prog) (w := w) (base := base) F32 T C (Zvs base hB))
 have Zto := fun base (hB : Ak mg base) => HasX.of (Zzw X G a32) k32 b32 (FnOk.both (k := 5) (Nf (P := l.prog) (w := w) (base := base) F32 T C (Zvr base hB) (Zvm base hB)) (Kb (P := l.prog) (w := w) (base := base) F32 T C (Zvs base hB)) (by decide) (by decide))
 have F33 := Ap (st := Gm) l33 c33 k33
 have b33 := F33.binds (ps := ["row"]) fun _ _ _ _ _ _ us hl => match us, hl with | [_], _ => rfl
 have Zt0 := fun base (hB : Ak mg base) => Has.of (Zzw X G a33) k33 b33 (X6 (P := l.prog) (w := w) (base := base) F33 T C)
 have F34 := Ap (st := Dh) l34 c34 k34
 have b34 := F34.binds (ps := ["shop", "plan", "ware"]) fun _ _ _ _ _ _ us hl => match us, hl with | [_, _, _], _ => rfl
 have Zva := fun base (hB : Ak mg base) => Has.of (Zzw X G a34) k34 b34 (Ot (P := l.prog) (w := w) (base := base) F34 T C (Zvl base hB) (Zvi base hB) (Zt0 base hB))
 have F35 := Ap (st := Fw) l35 c35 k35
 have b35 := F35.binds (ps := ["shop", "plan", "name"]) fun _ _ _ _ _ _ us hl => match us, hl with | [_, _, _], _ => rfl
 have Zs8 := fun base (hB : Ak mg base) => Has.of (Zzw X G a35) k35 b35 (Q6 (P := l.prog) (w := w) (base := base) F35 T C (Zvr base hB) (Zva base hB) (Zvp base hB))
 have Zse := fun base (hB : Ak mg base) => HasX.of (Zzw X G a35) k35 b35 (Lq (P := l.prog) (w := w) (base := base) F35 T C (Zvs base hB))
 have Ztg := fun base (hB : Ak mg base) => HasX.of (Zzw X G a35) k35 b35 (FnOk.both (k := 5) (Q6 (P := l.prog) (w := w) (base := base) F35 T C (Zvr base hB) (Zva base hB) (Zvp base hB)) (Lq (P := l.prog) (w := w) (base := base) F35 T C (Zvs base hB)) (by decide) (by decide))
 have F36 := Ap (st := Gy) l36 c36 k36
 have b36 := F36.binds (ps := ["shop", "plan", "name"]) fun _ _ _ _ _ _ us hl => match us, hl with | [_, _, _], _ => rfl
 have Zs5 := fun base (hB : Ak mg base) => Has.of (Zzw X G a36) k36 b36 (Td (P := l.prog) (w := w) (base := base) F36 T C (Zvr base hB) (Zvl base hB) (Zvp base hB))
 have Zsb := fun base (hB : Ak mg base) => HasX.of (Zzw X G a36) k36 b36 (N9 (P := l.prog) (w := w) (base := base) F36 T C (Zvs base hB))
 have Zt6 := fun base (hB : Ak mg base) => HasX.of (Zzw X G a36) k36 b36 (FnOk.both (k := 5) (Td (P := l.prog) (w := w) (base := base) F36 T C (Zvr base hB) (Zvl base hB) (Zvp base hB)) (N9 (P := l.prog) (w := w) (base := base) F36 T C (Zvs base hB)) (by decide) (by decide))
 have F37 := Ap (st := Gz) l37 c37 k37
 have b37 := F37.binds (ps := ["shop", "plan", "name"]) fun _ _ _ _ _ _ us hl => match us, hl with | [_, _, _], _ => rfl
 have Zs4 := fun base (hB : Ak mg base) => Has.of (Zzw X G a37) k37 b37 (Tl (P := l.prog) (w := w) (base := base) F37 T C (Zvr base hB) (Zv1 base hB) (Zvp base hB))
 have Zsa := fun base (hB : Ak mg base) => HasX.of (Zzw X G a37) k37 b37 (Ni (P := l.prog) (w := w) (base := base) F37 T C (Zvs base hB))
 have Zt5 := fun base (hB : Ak mg base) => HasX.of (Zzw X G a37) k37 b37 (FnOk.both (k := 5) (Tl (P := l.prog) (w := w) (base := base) F37 T C (Zvr base hB) (Zv1 base hB) (Zvp base hB)) (Ni (P := l.prog) (w := w) (base := base) F37 T C (Zvs base hB)) (by decide) (by decide))
 have F38 := Ap (st := D6) l38 c38 k38
 have b38 := F38.binds (ps := ["shop", "plan", "ware"]) fun _ _ _ _ _ _ us hl => match us, hl with | [_, _, _], _ => rfl
 have Zuh := fun base (hB : Ak mg base) => Has.of (Zzw X G a38) k38 b38 (Nc (P := l.prog) (w := w) (base := base) F38 T C (Zvg base hB) (Zva base hB))
 have F39 := Ap (st := Fy) l39 c39 k39
 have b39 := F39.binds (ps := ["shop", "plan"]) fun _ _ _ _ _ _ us hl => match us, hl with | [_, _], _ => rfl
 have Zs7 := fun base (hB : Ak mg base) => Has.of (Zzw X G a39) k39 b39 (Q9 (P := l.prog) (w := w) (base := base) F39 T C (Zvb base hB) (Zuh base hB) (Zvp base hB))
 have Zsd := fun base (hB : Ak mg base) => HasX.of (Zzw X G a39) k39 b39 (Lr (P := l.prog) (w := w) (base := base) F39 T C (Zv3 base hB))
 have Ztf := fun base (hB : Ak mg base) => HasX.of (Zzw X G a39) k39 b39 (FnOk.both (k := 7) (Q9 (P := l.prog) (w := w) (base := base) F39 T C (Zvb base hB) (Zuh base hB) (Zvp base hB)) (Lr (P := l.prog) (w := w) (base := base) F39 T C (Zv3 base hB)) (by decide) (by decide))
 have Zsf := fun base (hB : Ak mg base) => HasX.of (Zzw X G a30) k30 b30 (K8 (P := l.prog) (w := w) (base := base) F30 T C (Zvs base hB))
 have Ztn := fun base (hB : Ak mg base) => HasX.of (Zzw X G a30) k30 b30 (FnOk.both (k := 5) (N7 (P := l.prog) (w := w) (base := base) F30 T C (Zvr base hB)) (K8 (P := l.prog) (w := w) (base := base) F30 T C (Zvs base hB)) (by decide) (by decide))
 have F40 := Ap (st := Dc) l40 c40 k40
 have b40 := F40.binds (ps := ["shop", "name", "day", "amount"]) fun _ _ _ _ _ _ us hl => match us, hl with | [_, _, _, _], _ => rfl
 have Zu7 := fun base (hB : Ak mg base) => Has.of (Zzw X G a40) k40 b40 (K6 (P := l.prog) (w := w) (base := base) F40 T C (Zvr base hB) (Zvp base hB))
 have Zsh := fun base (hB : Ak mg base) => HasX.of (Zzw X G a40) k40 b40 (Ig (P := l.prog) (w := w) (base := base) F40 T C (Zvs base hB))
 have Zu4 := fun base (hB : Ak mg base) => HasX.of (Zzw X G a40) k40 b40 (FnOk.both (k := 5) (K6 (P := l.prog) (w := w) (base := base) F40 T C (Zvr base hB) (Zvp base hB)) (Ig (P := l.prog) (w := w) (base := base) F40 T C (Zvs base hB)) (by decide) (by decide))
 have F41 := Ap (st := C1) l41 c41 k41
 have b41 := F41.binds (ps := ["shop", "name", "day"]) fun _ _ _ _ _ _ us hl => match us, hl with | [_, _, _], _ => rfl
 have Zv0 := fun base (hB : Ak mg base) => Has.of (Zzw X G a41) k41 b41 (Jh (P := l.prog) (w := w) (base := base) F41 T C (Zvo base hB) (Zu7 base hB))
 have F42 := Ap (st := Jd) l42 c42 k42
 have b42 := F42.binds (ps := ["shop", "name", "day"]) fun _ _ _ _ _ _ us hl => match us, hl with | [_, _, _], _ => rfl
 have Zs2 := fun base (hB : Ak mg base) => Has.of (Zzw X G a42) k42 b42 (Vv (P := l.prog) (w := w) (base := base) F42 T C (Zvr base hB) (Zvp base hB) (Zvo base hB) (Zue base hB) (Zv0 base hB))
 have Zu6 := fun base (hB : Ak mg base) => HasX.of (Zzw X G a18) k18 b18 (Re (P := l.prog) (w := w) (base := base) F18 T C)
 have Zs6 := fun base (hB : Ak mg base) => HasX.of (Zzw X G a42) k42 b42 (Q7 (P := l.prog) (w := w) (base := base) F42 T C (Zvs base hB) (Zu6 base hB))
 have Zsy := fun base (hB : Ak mg base) => HasX.of (Zzw X G a42) k42 b42 (FnOk.both (k := 10) (Vv (P := l.prog) (w := w) (base := base) F42 T C (Zvr base hB) (Zvp base hB) (Zvo base hB) (Zue base hB) (Zv0 base hB)) (Q7 (P := l.prog) (w := w) (base := base) F42 T C (Zvs base hB) (Zu6 base hB)) (by decide) (by decide))
 have F43 := Ap (st := Kw) l43 c43 k43
 have b43 := F43.binds (ps := ["shop", "plan", "name"]) fun _ _ _ _ _ _ us hl => match us, hl with | [_, _, _], _ => rfl
 have Zsx := fun base (hB : Ak mg base) => HasX.of (Zzw X G a43) k43 b43 (X7 (P := l.prog) (w := w) (base := base) F43 T C (Zvs base hB))
 have F44 := Ap (st := Gn) l44 c44 k44
 have b44 := F44.binds (ps := ["shop", "plan", "name", "day"]) fun _ _ _ _ _ _ us hl => match us, hl with | [_, _, _, _], _ => rfl
 have Zte := fun base (hB : Ak mg base) => HasX.of (Zzw X G a44) k44 b44 (Tc (P := l.prog) (w := w) (base := base) F44 T C (Zvs base hB))
 have F45 := Ap (st := Go) l45 c45 k45
 have b45 := F45.binds (ps := ["shop", "name", "terms"]) fun _ _ _ _ _ _ us hl => match us, hl with | [_, _, _], _ => rfl
 have Ztd := fun base (hB : Ak mg base) => HasX.of (Zzw X G a45) k45 b45 (Tk (P := l.prog) (w := w) (base := base) F45 T C (Zvs base hB))
 have F46 := Ap (st := E3) l46 c46 k46
 have b46 := F46.binds (ps := ["_law_shop_here", "_law_plan", "_law_name", "_law_way"]) fun _ _ _ _ _ _ us hl => match us, hl with | [_, _, _, _], _ => rfl
 have Ztm := fun base (hB : Ak mg base) => HasX.of (Zzw X G a46) k46 b46 (Rl (P := l.prog) (w := w) (base := base) F46 T C (Zsz base hB) (Ztp base hB) (Zto base hB) (Ztg base hB) (Zt6 base hB) (Zt5 base hB) (Ztf base hB) (Ztn base hB) (Zu4 base hB) (Zsy base hB) (Zsx base hB) (Zte base hB) (Ztd base hB))
 have F47 := Ap (st := Ej) l47 c47 k47
 have b47 := F47.binds (ps := ["_law_shop_here", "_law_plan", "_law_name", "_law_way"]) fun _ _ _ _ _ _ us hl => match us, hl with | [_, _, _, _], _ => rfl
 have Zu2 := fun base (hB : Ak mg base) => Has.of (Zzw X G a47) k47 b47 (Th (P := l.prog) (w := w) (base := base) F47 T C (Ztm base hB))
 have F48 := Ap (st := Jz) l48 c48 k48
 exact ⟨Zzi "law" "law" (Ai Jz) (Ae Jz) (A8 Jz) .none kV48 dc48 pm48 an48 cd48 ct48, ct, Pt, fun s v => .of_eq rfl, tb, tp, fun base _ _ hB => lf F48 T C (Ztc base hB) (Zv2 base hB) (Ztu base hB) (Zvq base hB) (Zu2 base hB)⟩
theorem walk {l : PySem.W.OpenLaw} {q : Program} {loose : List Str} {XP : (Str -> Option Value) -> Heap -> Prop} {YP : World -> Heap -> Prop} {d dw : DefRec} {K : Params -> Zzu} (hn : l.most = some 63) (hdf : d.params.defaults = [])
  (hY : ∀ (w : World) (h : Heap), YP w h -> (K w.params).In h) (hw : (PyProof.Rows.recsOf q).find? (fun e => e.name == ("worked" : Str)) = some dw)
  (F : ∀ (w : World) (mg : Str -> Option Value) (fa : Addr) (h : Heap), (K w.params).In h -> h.Ns mainGlobals mg -> mg d.name = some (.ref fa) ->
   ∃ (fd : FuncData) (ct Pt : Addr), (∀ (s : Shared) (u : Value), BindsTo s fd ⟨[u], []⟩ [("_law_script", u)]) /\ PySem.W.tabIn (K w.params) "worked" = some (ct, Pt) /\ (K w.params).lookup Pt = none /\ ∀ base : Heap, (K w.params).In base -> base.Ns mainGlobals mg -> Ak mg base -> FnOk l.prog w (K w.params) mg base CX0 13 fa fd ["_law_script"] (R5 (K w.params) Pt)) :
  PySem.W.WalkO q loose XP YP l.row.toRowW d [] (fun f vs => PySem.call f vs) :=
 L2.Yb (n := 63) (k := 13) (x := "_law_script") (wk := "worked") (sp := fun w Pt => R5 (K w.params) Pt) hn (by decide) hdf ⟨rfl, by decide, by decide⟩ hY hw F (fun _ _ a Pt ns hl ht hS => ⟨a, ns, rfl, hS, hl, .inl ht, fun _ => rfl⟩)
end K17
namespace PySem.W.Fast
def tw15532868612167438783:=0
def tw16656472559360071298:=0
def tw1211120363617103843:=0
def tw9986448008874098983:=0
def tw14575226798728193009:=0
def tw17568228797899255864:=0
def tw2385642842153725467:=0
def tw7773958743349262389:=0
def tw7130930632898097921:=0
def tw17351372328643746605:=0
def tw15299459226977489806:=0
def tw11529112117609006349:=0
def tw4867199210396687620:=0
def tw7257216952943212561:=0
def tw17224191142878236480:=0
def tw4388766186432479382:=0
def tw4390907586126847070:=0
def tw4117480642594048774:=0
def tw16862628821122971016:=0
def tw14097278050877410252:=0
def tw810271605624530300:=0
def tw4375173278392193990:=0
def tw14504190058926366360:=0
def tw10560373348349480448:=0
def tw3139821996924826588:=0
def tw10177654549748176144:=0
def tw16978931504488118186:=0
def tw15448441345153065662:=0
def tw4276670252384580757:=0
def tw7627056095760763222:=0
def tw18265238309051736850:=0
def tw10991386426020187393:=0
def tw9976169694048897109:=0
def tw2516334938522601409:=0
def tw14310154874470810447:=0
def tw13194639526703100668:=0
def tw1020138871103024752:=0
def tw7006413417491982622:=0
def tw5692262515072945177:=0
def tw936343747047578605:=0
def tw3739164657068267527:=0
def tw3689918342672863515:=0
def tw4243884489466350602:=0
def tw14295976385476959857:=0
def tw4385427170423420473:=0
def tw2875351153586580682:=0
def tw12459416734672275712:=0
def tw7208851996468678088:=0
def tw809525057390123606:=0
def tw15169386073678970724:=0
def tw359352911413938437:=0
def tw8714554526281799021:=0
def tw14041379771527324478:=0
def tw12086805536093203276:=0
def tw11952990777950778715:=0
def tw10052105671398077419:=0
def tw12559779873928414015:=0
def tw9703728952678004367:=0
def tw4918175493418580934:=0
def tw7175394309565021077:=0
def tw7774372402189777077:=0
def tw15543351394735542790:=0
def tw4247476122340009899:=0
def tw8729357839126569927:=0
def tw8045633886673707217:=0
def tw2270233826637793530:=0
def tw11600827286756444178:=0
def tw14725404505333900135:=0
def tw4507699738981051372:=0
def tw6526978683570758908:=0
def tw5999776765362840259:=0
def tw997774481459152246:=0
def tw8056333446499759491:=0
def tw10674389980083023294:=0
def tw17896172036630432938:=0
def tw10567973164162209386:=0
def tw4273375311076210331:=0
def tw6666814555869411961:=0
def tw9649119076487911246:=0
end PySem.W.Fast
open PySem PySem.W PyProof.Rows
set_option maxRecDepth 100000 in
set_option maxHeartbeats 0 in
theorem PySem.Challenge.cw_needplan_k17_refused_rings_holds : PySem.Challenge.rw_needplan_k17_refused_rings.Holds := by
 w_on; o_law; k_head; (case hw => w_witness2)
 k_fill
 refine K17.walk (l := PySem.Challenge.rw_needplan_k17_refused_rings) rfl rfl (fun w h Y => PySem.W.km_in_of Y) rfl ?F
 case F =>
  intro w mg fa h KX G hmg
  refine' K17.all_mk KX G hmg ?a1 ?l1 ?c1 ?k1 ?a2 ?l2 ?c2 ?k2 ?a3 ?l3 ?c3 ?k3 ?a4 ?l4 ?c4 ?k4 ?a5 ?l5 ?c5 ?k5 ?a6 ?l6 ?c6 ?k6 ?a7 ?l7 ?c7 ?k7 ?a8 ?l8 ?c8 ?k8 ?a9 ?l9 ?c9 ?k9 ?a10 ?l10 ?c10 ?k10 ?a11 ?l11 ?c11 ?k11 ?a12 ?l12 ?c12 ?k12 ?a13 ?l13 ?c13 ?k13 ?a14 ?l14 ?c14 ?k14 ?a15 ?l15 ?c15 ?k15 ?a16 ?l16 ?c16 ?k16 ?a17 ?l17 ?c17 ?k17 ?a18 ?l18 ?c18 ?k18 ?a19 ?l19 ?c19 ?k19 ?a20 ?l20 ?c20 ?k20 ?a21 ?l21 ?c21 ?k21 ?a22 ?l22 ?c22 ?k22 ?a23 ?l23 ?c23 ?k23 ?a24 ?l24 ?c24 ?k24 ?a25 ?l25 ?c25 ?k25 ?a26 ?l26 ?c26 ?k26 ?a27 ?l27 ?c27 ?k27 ?a28 ?l28 ?c28 ?k28 ?a29 ?l29 ?c29 ?k29 ?a30 ?l30 ?c30 ?k30 ?a31 ?l31 ?c31 ?k31 ?a32 ?l32 ?c32 ?k32 ?a33 ?l33 ?c33 ?k33 ?a34 ?l34 ?c34 ?k34 ?a35 ?l35 ?c35 ?k35 ?a36 ?l36 ?c36 ?k36 ?a37 ?l37 ?c37 ?k37 ?a38 ?l38 ?c38 ?k38 ?a39 ?l39 ?c39 ?k39 ?a40 ?l40 ?c40 ?k40 ?a41 ?l41 ?c41 ?k41 ?a42 ?l42 ?c42 ?k42 ?a43 ?l43 ?c43 ?k43 ?a44 ?l44 ?c44 ?k44 ?a45 ?l45 ?c45 ?k45 ?a46 ?l46 ?c46 ?k46 ?a47 ?l47 ?c47 ?k47 ?a48 ?l48 ?c48 ?k48 ?z_range ?z_len ?z_list ?z_max ?z_sorted ?z_reversed ?z_zip ?z_min ?z_enumerate ?z_tuple ?z_int ?z_isinstance ?z_ValueError ?Zty ?Zu1 ?Zu0 ?Zu3 ?Zvf ?Ztz ?Ztl ?Zv9 ?Zux ?Zuq ?q_NeedError ?q_NoText ?q_NoShop ?q_Ring ?q_NoName ?q_NoDay ?q_NoBuy ?q_NoPlan ?Zt8 ?Zu5 ?Zvc ?Zuw ?Zuv ?Zuu ?Zuj ?Zut ?Zuo ?Zun ?Zus ?Zve ?Ztx ?Zum ?Zvh ?Zv8 ?Zv7 ?Zv6 ?Zur ?Zv5 ?Zuz ?Zuy ?Zv4 ?Zvj ?tq ?tl ?tv ?tw ?tp
  (case a1 => k_is)
  (case l1 => k_is)
  (case c1 => k_is)
  (case k1 => k_is)
  (case a2 => k_is)
  (case l2 => k_is)
  (case c2 => k_is)
  (case k2 => k_is)
  (case a3 => k_is)
  (case l3 => k_is)
  (case c3 => k_is)
  (case k3 => k_is)
  (case a4 => k_is)
  (case l4 => k_is)
  (case c4 => k_is)
  (case k4 => k_is)
  (case a5 => k_is)
  (case l5 => k_is)
  (case c5 => k_is)
  (case k5 => k_is)
  (case a6 => k_is)
  (case l6 => k_is)
  (case c6 => k_is)
  (case k6 => k_is)
  (case a7 => k_is)
  (case l7 => k_is)
  (case c7 => k_is)
  (case k7 => k_is)
  (case a8 => k_is)
  (case l8 => k_is)
  (case c8 => k_is)
  (case k8 => k_is)
  (case a9 => k_is)
  (case l9 => k_is)
  (case c9 => k_is)
  (case k9 => k_is)
  (case a10 => k_is)
  (case l10 => k_is)
  (case c10 => k_is)
  (case k10 => k_is)
  (case a11 => k_is)
  (case l11 => k_is)
  (case c11 => k_is)
  (case k11 => k_is)
  (case a12 => k_is)
  (case l12 => k_is)
  (case c12 => k_is)
  (case k12 => k_is)
  (case a13 => k_is)
  (case l13 => k_is)
  (case c13 => k_is)
  (case k13 => k_is)
  (case a14 => k_is)
  (case l14 => k_is)
  (case c14 => k_is)
  (case k14 => k_is)
  (case a15 => k_is)
  (case l15 => k_is)
  (case c15 => k_is)
  (case k15 => k_is)
  (case a16 => k_is)
  (case l16 => k_is)
  (case c16 => k_is)
  (case k16 => k_is)
  (case a17 => k_is)
  (case l17 => k_is)
  (case c17 => k_is)
  (case k17 => k_is)
  (case a18 => k_is)
  (case l18 => k_is)
  (case c18 => k_is)
  (case k18 => k_is)
  (case a19 => k_is)
  (case l19 => k_is)
  (case c19 => k_is)
  (case k19 => k_is)
  (case a20 => k_is)
  (case l20 => k_is)
  (case c20 => k_is)
  (case k20 => k_is)
  (case a21 => k_is)
  (case l21 => k_is)
  (case c21 => k_is)
  (case k21 => k_is)
  (case a22 => k_is)
  (case l22 => k_is)
  (case c22 => k_is)
  (case k22 => k_is)
  (case a23 => k_is)
  (case l23 => k_is)
  (case c23 => k_is)
  (case k23 => k_is)
  (case a24 => k_is)
  (case l24 => k_is)
  (case c24 => k_is)
  (case k24 => k_is)
  (case a25 => k_is)
  (case l25 => k_is)
  (case c25 => k_is)
  (case k25 => k_is)
  (case a26 => k_is)
  (case l26 => k_is)
  (case c26 => k_is)
  (case k26 => k_is)
  (case a27 => k_is)
  (case l27 => k_is)
  (case c27 => k_is)
  (case k27 => k_is)
  (case a28 => k_is)
  (case l28 => k_is)
  (case c28 => k_is)
  (case k28 => k_is)
  (case a29 => k_is)
  (case l29 => k_is)
  (case c29 => k_is)
  (case k29 => k_is)
  (case a30 => k_is)
  (case l30 => k_is)
  (case c30 => k_is)
  (case k30 => k_is)
  (case a31 => k_is)
  (case l31 => k_is)
  (case c31 => k_is)
  (case k31 => k_is)
  (case a32 => k_is)
  (case l32 => k_is)
  (case c32 => k_is)
  (case k32 => k_is)
  (case a33 => k_is)
  (case l33 => k_is)
  (case c33 => k_is)
  (case k33 => k_is)
  (case a34 => k_is)
  (case l34 => k_is)
  (case c34 => k_is)
  (case k34 => k_is)
  (case a35 => k_is)
  (case l35 => k_is)
  (case c35 => k_is)
  (case k35 => k_is)
  (case a36 => k_is)
  (case l36 => k_is)
  (case c36 => k_is)
  (case k36 => k_is)
  (case a37 => k_is)
  (case l37 => k_is)
  (case c37 => k_is)
  (case k37 => k_is)
  (case a38 => k_is)
  (case l38 => k_is)
  (case c38 => k_is)
  (case k38 => k_is)
  (case a39 => k_is)
  (case l39 => k_is)
  (case c39 => k_is)
  (case k39 => k_is)
  (case a40 => k_is)
  (case l40 => k_is)
  (case c40 => k_is)
  (case k40 => k_is)
  (case a41 => k_is)
  (case l41 => k_is)
  (case c41 => k_is)
  (case k41 => k_is)
  (case a42 => k_is)
  (case l42 => k_is)
  (case c42 => k_is)
  (case k42 => k_is)
  (case a43 => k_is)
  (case l43 => k_is)
  (case c43 => k_is)
  (case k43 => k_is)
  (case a44 => k_is)
  (case l44 => k_is)
  (case c44 => k_is)
  (case k44 => k_is)
  (case a45 => k_is)
  (case l45 => k_is)
  (case c45 => k_is)
  (case k45 => k_is)
  (case a46 => k_is)
  (case l46 => k_is)
  (case c46 => k_is)
  (case k46 => k_is)
  (case a47 => k_is)
  (case l47 => k_is)
  (case c47 => k_is)
  (case k47 => k_is)
  (case a48 => k_is)
  (case l48 => k_is)
  (case c48 => k_is)
  (case k48 => k_is)
  (case z_range => k_is)
  (case z_len => k_is)
  (case z_list => k_is)
  (case z_max => k_is)
  (case z_sorted => k_is)
  (case z_reversed => k_is)
  (case z_zip => k_is)
  (case z_min => k_is)
  (case z_enumerate => k_is)
  (case z_tuple => k_is)
  (case z_int => k_is)
  (case z_isinstance => k_is)
  (case z_ValueError => k_is)
  (case Zty => k_is)
  (case Zu1 => k_is)
  (case Zu0 => k_is)
  (case Zu3 => k_is)
  (case Zvf => k_is)
  (case Ztz => k_is)
  (case Ztl => k_is)
  (case Zv9 => k_is)
  (case Zux => k_is)
  (case Zuq => k_is)
  (case q_NeedError => k_is)
  (case q_NoText => k_is)
  (case q_NoShop => k_is)
  (case q_Ring => k_is)
  (case q_NoName => k_is)
  (case q_NoDay => k_is)
  (case q_NoBuy => k_is)
  (case q_NoPlan => k_is)
  (case Zt8 => kernel_rfl)
  (case Zu5 => exact ⟨by kernel_rfl, by kernel_rfl, by kernel_rfl, by kernel_rfl, by kernel_rfl, by kernel_rfl, by kernel_rfl, by kernel_rfl⟩)
  (case Zvc => kernel_rfl)
  (case Zuw => kernel_rfl)
  (case Zuv => kernel_rfl)
  (case Zuu => kernel_rfl)
  (case Zuj => kernel_rfl)
  (case Zut => kernel_rfl)
  (case Zuo => kernel_rfl)
  (case Zun => kernel_rfl)
  (case Zus => kernel_rfl)
  (case Zve => kernel_rfl)
  (case Ztx => kernel_rfl)
  (case Zum => exact ⟨by kernel_rfl, by kernel_rfl, by kernel_rfl, by kernel_rfl, by kernel_rfl, by kernel_rfl, by kernel_rfl, by kernel_rfl⟩)
  (case Zvh => kernel_rfl)
  (case Zv8 => kernel_rfl)
  (case Zv7 => kernel_rfl)
  (case Zv6 => kernel_rfl)
  (case Zur => kernel_rfl)
  (case Zv5 => kernel_rfl)
  (case Zuz => kernel_rfl)
  (case Zuy => kernel_rfl)
  (case Zv4 => kernel_rfl)
  (case Zvj => kernel_rfl)
  (case tq => rfl)
  (case tl => k_is)
  (case tv => rfl)
  (case tw => rfl)
  (case tp => rfl)
#print axioms PySem.Challenge.cw_needplan_k17_refused_rings_holds
