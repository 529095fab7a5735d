import PyProof.Rows.All
import Wide.All
import OpenK.AllK
import Wide.FinOn
import Lean
import PyProof.EqAt
import PyProof.EqKinds
import PyProof.TupleCall
import PySem.Challenge.RW_needplan_k46_whole_bought
open List renaming length_map → Zzz, getElem?_map → Zzx, getD_eq_getElem?_getD → Zzv, getElem?_eq_getElem → Zzq, size_toArray → Zzp, mem_of_getElem? → Zzn, mem_map → Zzl, mem_cons → Zzk, getElem?_eq_some_iff → Zzj, map_append → Zzg, mem_singleton → Zzb, mem_append_right → Zz9, take_add_one → Zz8, mem_cons_of_mem → Zz7, mem_cons_self → Zz6, length_take → Zz5, map_cons → Zz4, not_mem_nil → Zz3, getElem?_eq_none → Zz2, range → Zyy, length_append → Zyx, take_length → Zyv, mem_append → Zyu, length_drop → Zym, getElem?_take_of_lt → Zyj, toArray → Zyi, nodup_cons → Zyh, getElem?_append_right → Zyg, mem_append_left → Zyf, getElem?_set_ne → Zye, getElem?_drop → Zyc, replicate → Zyb, append_nil → Zya, lookup_cons → Zy9, mem_range → Zy8, all_eq_true → Zy4, getElem?_append_left → Zy3, map_congr_left → Zy2, map → Zxy, mem_iff_getElem? → Zxu, map_map → Zxt, ext_getElem? → Zxp, take_of_length_le → Zxl, mem_filter → Zxh, sum_append → Zxg, replicate_succ → Zxe, mem_filterMap → Zxc, getElem?_take → Zxa, length_filter_le → Zx6, map_drop → Zx4, mem_iff_getElem → Zx3, pairwise_iff_getElem → Zx2, map_nil → Zx0, any_cons → Zwy, map_take → Zwx, find?_cons → Zww, getElem?_inj → Zwu, length_singleton → Zwt, length_cons → Zwr, all_cons → Zwq, filterMap_cons → Zwn, range_succ → Zwl, filter_append → Zwh, take_zero → Zwd, flatten_cons → Zwc, length_range → Zwb, getElem?_set_self → Zwa, cons_append → Zw7, getElem_mem → Zw4, take_append_drop → Zw3, length_set → Zw0, mem_of_mem_take → Zvx, length_pos_iff → Zvv, length → Zvu
open PySem.Heap renaming get?_push_of_some → Zzy, lt_size → Zzo, get?_push_size → Zzm, get?_update_other → Zyo, SameBut → Zy7, size_push → Zy1, get?_update_self → Zxi, FlyingW → Zwi, get?_none_of_le → Zw2, ExtBut → Zvt
open Nat renaming le_refl → Zzw, lt_of_lt_of_le → Zzi, ne_of_lt → Zz0, le_trans → Zyz, lt_of_le_of_lt → Zyq, zero_le → Zyn, not_lt_zero → Zxn, lt_irrefl → Zxk, lt_succ_of_lt → Zxf, ne_of_gt → Zxb, sub_self → Zx8, succ_ne_self → Zw5, min_eq_left → Zvz, le_of_eq → Zvy
open PySem.W renaming Frag → Zzu, nsIn → Zzs, mg_of → Zzr, keepIn → Zzh, codeIn → Zze, fnOf → Zzd, mg_none_of → Zyk, kia_one → Zy0, tabIn → Zvr
open Or renaming inl → Zzt
open Ne renaming symm → Zzf
open Bool renaming false_ne_true → Zzc, and_eq_true_iff → Zyl, and_eq_true → Zy5, and_true → Zxj, true_and → Zx5, eq_iff_iff → Zw1
open Option.some renaming inj → Zza
open PySem.NameKind renaming free → Zz1, cell → Zwp
open PySem.F renaming plainAttrs_list → Zyw, slot_list_append → Zyt, type_list_append → Zys, plain_min_loop → Zxw, entry_min_loop → Zw8
open Int renaming le_refl → Zyr, add_zero → Zy6, le_trans → Zxs, toNat_natCast → Zxo, mul_nonneg → Zxd, mul_le_mul_of_nonneg_right → Zwv, mul_zero → Zws, lt_trans → Zwg, lt_of_lt_of_le → Zwf, toNat_of_nonneg → Zvw, emod_lt_of_pos → Zvs
open Array renaming getD_eq_getD_getElem? → Zyp, getElem?_eq_getElem → Zyd, length_toList → Zwm, getElem?_eq_none → Zw9
open PyProof.Rows renaming callWith_type1 → Zxz
open Sum renaming inr → Zxx, inl → Zwe
open PySem.Builtin.SmallTypes renaming nextOf → Zxv, ownedTupleIsFree → Zxr, ownedTupleHandOut → Zwj
open PySem.Around renaming under_plainId → Zxq
open PySem renaming mem_of_lookup → Zxm
open PySem.Builtin.Builtins renaming bindParams → Zx9
open Option renaming map_some → Zx7, isSome_iff_exists → Zx1, getD_some → Zw6
open PySem.Heap.SameBut renaming update → Zwz
open Sum.inr renaming inj → Zwo
open PySem.Builtin.List renaming listTooLong → Zwk
set_option maxRecDepth 100000
set_option maxHeartbeats 4000000
set_option Elab.async false
set_option linter.all false
namespace L2
open PySem PySem.Spec PyProof.Rows
abbrev Key := Sum Int Str
def M7 : Key -> Value -> Bool
 | .inl k, v => Value.isInt k v
 | .inr x, v => Value.isStrOf x v
def keyH (w : World) : Key -> Int
 | .inl k => hashInt k
 | .inr x => hashStr w x
theorem Bl : ∀ {k : Key} {v : Value}, M7 k v = true -> (∃ i t, k = Zwe i /\ v = Value.int i t) \/ (∃ x t, k = Zxx x /\ v = Value.str x t)
 | .inl i, v, h => by
  obtain ⟨t, e⟩ := Value.isInt_shape (k := i) (v := v) h
  exact .inl ⟨i, t, rfl, e⟩
 | .inr x, v, h => by
  obtain ⟨t, e⟩ := Value.isStrOf_shape (x := x) (v := v) h
  exact .inr ⟨x, t, rfl, e⟩
theorem Wv (i : Int) (t : Tok) : M7 (.inl i) (.int i t) = true := by simp [M7, Value.isInt]
theorem Wu (x : Str) (t : Tok) : M7 (.inr x) (.str x t) = true := by simp [M7, Value.isStrOf]
theorem jc (a b : Int) : decide ((Zwe a : Key) = Zwe b) = (a == b) := by
 by_cases e : a = b
 ·subst e; simp
 ·have h : ¬ (Zwe a : Key) = Zwe b := λq => e (Sum.inl.inj q)
  rw [decide_eq_false h]
  exact (beq_eq_false_iff_ne.mpr e).symm
theorem j9 (a b : Str) : decide ((Zxx a : Key) = Zxx b) = decide (a = b) := by
 by_cases e : a = b
 ·subst e; simp
 ·have h : ¬ (Zxx a : Key) = Zxx b := λq => e (Zwo q)
  rw [decide_eq_false h, decide_eq_false e]
theorem jb (a : Int) (b : Str) : decide ((Zwe a : Key) = Zxx b) = false := decide_eq_false (λq => nomatch q)
theorem ja (a : Str) (b : Int) : decide ((Zxx a : Key) = Zwe b) = false := decide_eq_false (λq => nomatch q)
def Ay (prog : Program) (w : World) : PySem.KeyKind prog w Key where
 is := M7
 hash := keyH w
 inj := λv a b ha hb => by
  rcases Bl ha with ⟨i, t, rfl, rfl⟩ | ⟨x, t, rfl, rfl⟩
  ·rcases Bl hb with ⟨j, u, rfl, e⟩ | ⟨y, u, rfl, e⟩
   ·injection e with e1 _; rw [e1]
   ·exact nomatch e
  ·rcases Bl hb with ⟨j, u, rfl, e⟩ | ⟨y, u, rfl, e⟩
   ·exact nomatch e
   ·injection e with e1 _; rw [e1]
 byValue := λk v h => by
  rcases Bl h with ⟨i, t, rfl, rfl⟩ | ⟨x, t, rfl, rfl⟩ <;> rfl
 pyHash := λhv h => by
  rcases Bl hv with ⟨i, t, rfl, rfl⟩ | ⟨x, t, rfl, rfl⟩
  ·exact wpAny_pyHash_int h
  ·exact wpAny_pyHash_str h
 eqBool := λhu hv h => by
  rcases Bl hu with ⟨i, t, rfl, rfl⟩ | ⟨x, t, rfl, rfl⟩
  ·rcases Bl hv with ⟨j, u, rfl, rfl⟩ | ⟨y, u, rfl, rfl⟩
   ·rw [jc] at h; exact wpAny_eqBool_int h
   ·rw [jb] at h; exact SeqAt.EqAt.int_str i t y u _ _ _ _ h
  ·rcases Bl hv with ⟨j, u, rfl, rfl⟩ | ⟨y, u, rfl, rfl⟩
   ·rw [ja] at h; exact SeqAt.EqAt.str_int x t j u _ _ _ _ h
   ·rw [j9] at h; exact wpAny_eqBool_str h
 «strs» := λk x t v h => by
  rcases Bl h with ⟨i, u, rfl, e⟩ | ⟨y, u, rfl, e⟩
  ·exact nomatch e
  ·injection e with e1 _
   subst e1
   cases v <;> rfl
theorem Rr (prog : Program) (w : World) (i : Int) (t : Tok) : (Ay prog w).is (.inl i) (.int i t) = true := Wv i t
theorem Rq (prog : Program) (w : World) (x : Str) (t : Tok) : (Ay prog w).is (.inr x) (.str x t) = true := Wu x t
inductive V where
 | non | bl (b : Bool) | int (i : Int) | str (x : Str) | byt (b : Array UInt8) | flt (b : UInt64) | ref (a : Addr) | ty (n : String)
 deriving DecidableEq
def RelV : V -> Value -> Prop
 | .non, u => u = Value.none
 | .bl b, u => u = Value.bool b
 | .int i, u => ∃ t, u = Value.int i t
 | .str x, u => ∃ t, u = Value.str x t
 | .byt b, u => ∃ t, u = Value.bytes b t
 | .flt b, u => ∃ t, u = Value.float b t
 | .ref a, u => u = Value.ref a
 | .ty n, u => u = Value.type n
abbrev Vals : List V -> List Value -> Prop := Paired RelV
theorem Vals.length {xs : List V} {us : List Value} (r : Vals xs us) : xs.length = us.length := Paired.length r
theorem Vals.get : ∀ {xs : List V} {us : List Value} {i : Nat} {x : V}, Vals xs us -> xs[i]? = some x -> ∃ u, us[i]? = some u /\ RelV x u
 | _, _, _, _, .nil, e => by simp at e
 | _, _, 0, _, .cons r _, e => by simp at e; subst e; exact ⟨_, rfl, r⟩
 | _, _, i + 1, x, .cons _ t, e => by
  obtain ⟨u, h1, h2⟩ := Vals.get (i := i) (x := x) t (by simpa using e)
  exact ⟨u, by simpa using h1, h2⟩
theorem Vals.set {x : V} {u : Value} (r : RelV x u) : ∀ {xs : List V} {us : List Value} (i : Nat), Vals xs us -> Vals (xs.set i x) (us.set i u)
 | _, _, _, .nil => .nil
 | _, _, 0, .cons _ t => .cons r t
 | _, _, i + 1, .cons q t => .cons q (Vals.set r i t)
theorem Vals.append : ∀ {xs ys : List V} {us ws : List Value}, Vals xs us -> Vals ys ws -> Vals (xs ++ ys) (us ++ ws)
 | _, _, _, _, .nil, s => s
 | _, _, _, _, .cons r t, s => .cons r (Vals.append t s)
theorem Vals.take : ∀ {xs : List V} {us : List Value} (n : Nat), Vals xs us -> Vals (xs.take n) (us.take n)
 | _, _, 0, _ => .nil
 | _, _, _ + 1, .nil => .nil
 | _, _, n + 1, .cons r t => .cons r (Vals.take n t)
theorem Vals.drop : ∀ {xs : List V} {us : List Value} (n : Nat), Vals xs us -> Vals (xs.drop n) (us.drop n)
 | _, _, 0, r => r
 | _, _, _ + 1, .nil => .nil
 | _, _, n + 1, .cons _ t => Vals.drop n t
def RelO : Option V -> Option Value -> Prop
 | some v, some u => RelV v u
 | none, none => True
 | _, _ => False
def KV {κ : Type} : List (κ × V) -> List (κ × Value) -> Prop := Paired λ(p : κ × V) (q : κ × Value) => p.1 = q.1 /\ RelV p.2 q.2
def kV : Key -> V
 | .inl i => .int i
 | .inr x => .str x
inductive HO where
 | lst (xs : List V)
 | tup (xs : List V)
 | dK (kvs : List (Key × V)) | dT (kvs : List (List Key × V))
 | set (S : Int -> Bool) (n : Nat)
 | ins (C dx : Addr) (fs : List (Str × V))
 | own (x : Addr)
 | xd (fs : List (Str × V))
 | met (f x : Addr)
 | rng (lo hi : Int)
 | frz (o : Obj) (u : HO)
 | tbl (ps : Array Value)
 | ext (φ : Heap -> Prop)
abbrev Hp := Addr -> Option HO
def upd (H : Hp) (a : Addr) (o : HO) : Hp := λb => if b = a then some o else H b
theorem A0 {H : Hp} {a : Addr} {o : HO} : upd H a o a = some o := by unfold upd; rw [if_pos rfl]
theorem A3 {H : Hp} {a b : Addr} {o : HO} (h : b ≠ a) : upd H a o b = H b := by unfold upd; rw [if_neg h]
theorem Ur {H : Hp} {a b : Addr} {o u : HO} (h : H a = some o) (h' : H b = some u) (d : o ≠ u) : a ≠ b := by
 intro e; subst e; rw [h] at h'; exact d (Zza h')
theorem A5 {H : Hp} {a b : Addr} {o : HO} (h : H a = some o) (h' : H b = none) : a ≠ b := by
 intro e; subst e; rw [h] at h'; cases h'
section
variable (P : Program) (w : World)
def ObjOk (H : Hp) (h : Heap) (a : Addr) : HO -> Prop
 | .lst xs => xs.length <= sizeLine /\ ∃ (its : List Value) (n : Nat), Vals xs its /\ h.get? a = some { cls := .type "list", data := .seq its.toArray n }
 | .tup xs => xs.length <= sizeLine /\ ∃ its : List Value, Vals xs its /\ IsTup h a its.toArray
 | .dK kvs => kvs.length <= sizeLine /\ (a == sysModules) = false /\ ∃ vs, KV kvs vs /\ h.DictOf (Ay P w) a vs
 | .dT kvs => kvs.length <= sizeLine /\ (a == sysModules) = false /\ ∃ xs : List (List Key × Addr × Value),
   Paired (λ(p : List Key × V) (q : List Key × Addr × Value) => p.1 = q.1 /\ H q.2.1 = some (.tup (p.1.map kV)) /\ RelV p.2 q.2.2) kvs xs /\
   ∃ o es ep, h.get? a = some o /\ o.ExactDict /\ o.data = .dict es ep /\ es.toList = xs.map (entryOfKey (tupleKind (Ay P w))) /\ (xs.map (·.1)).Nodup
 | .set S n => h.SetOf (intKind P w) a S n
 | .ins C dx fs => H dx = some (.own a) /\ fs.length <= 1000 /\ dx ≠ a /\ h.get? a = some (PySem.W.instObj C dx) /\
   ∃ mA, h.Ns1 dx mA /\ (∀ f, RelO (fs.lookup f) (mA f)) /\ PySem.Within mA (fs.map (·.1))
 | .own _ => ∃ o, h.get? a = some o
 | .xd fs => ∃ mA, h.Ns1 a mA /\ ∀ f, RelO (fs.lookup f) (mA f)
 | .rng lo hi => ∃ t u v, h.get? a = some { cls := .type "range", data := .fields #[.int lo t, .int hi u, .int 1 v] }
 | .frz o u => h.get? a = some o /\ ObjOk H h a u
 | .tbl ps => h.get? a = some { cls := .none, data := .fields ps }
 | .met f x => h.get? a = some (PySem.W.methodObj (.ref f) (.ref x))
 | .ext φ => φ h /\ (∃ o, h.get? a = some o) /\ ∀ h1 h2 : Heap, φ h1 -> (∀ o, h1.get? a = some o -> h2.get? a = some o) -> φ h2
def HOk (H : Hp) (h : Heap) : Prop := ∀ a o, H a = some o -> ObjOk P w H h a o
end
section
variable {P : Program} {w : World} {H H' : Hp} {h h' : Heap} {a : Addr} {o : HO}
theorem ObjOk.lt (x : ObjOk P w H h a o) : a < h.objs.size := by
 cases o with
 | lst xs => obtain ⟨_, _, _, _, e⟩ := x; exact Zzo e
 | tup xs => obtain ⟨_, _, _, p⟩ := x; exact p.lt
 | dK kvs => obtain ⟨_, _, _, _, o, _, _, e, _⟩ := x; exact Zzo e
 | dT kvs => obtain ⟨_, _, _, _, o, _, _, e, _⟩ := x; exact Zzo e
 | set S n => obtain ⟨o, _, _, _, e, _⟩ := x; exact Zzo e
 | ins C dx fs => obtain ⟨_, _, _, e, _⟩ := x; exact Zzo e
 | own y => obtain ⟨_, e⟩ := x; exact Zzo e
 | xd fs => obtain ⟨_, ⟨_, _, _, e, _⟩, _⟩ := x; exact Zzo e
 | rng lo hi => obtain ⟨_, _, _, e⟩ := x; exact Zzo e
 | frz ob u => obtain ⟨e, _⟩ := x; exact Zzo e
 | tbl ps => exact Zzo (show h.get? a = some _ from x)
 | met f y => exact Zzo (show h.get? a = some _ from x)
 | ext φ => obtain ⟨_, ⟨_, e⟩, _⟩ := x; exact Zzo e
theorem Paired.mapP {α β : Type} {F G : α -> β -> Prop} : ∀ {l₁ : List α} {l₂ : List β}, Paired F l₁ l₂ -> (∀ a b, F a b -> G a b) -> Paired G l₁ l₂
 | _, _, .nil, _ => .nil
 | _, _, .cons r t, f => .cons (f _ _ r) (Paired.mapP t f)
theorem ObjOk.stay (x : ObjOk P w H h a o) (k : ∀ b u, (b = a \/ H b = some (.own a)) -> h.get? b = some u -> h'.get? b = some u)
  (ho : ∀ b, H b = some (.own a) -> H' b = some (.own a)) (ht : ∀ b xs, H b = some (.tup xs) -> H' b = some (.tup xs)) : ObjOk P w H' h' a o := by
 induction o with
 | lst xs => obtain ⟨z, its, n, r, e⟩ := x; exact ⟨z, its, n, r, k _ _ (.inl rfl) e⟩
 | tup xs => obtain ⟨z, its, r, ob, e, c⟩ := x; exact ⟨z, its, r, ob, k _ _ (.inl rfl) e, c⟩
 | dK kvs => obtain ⟨z, y, vs, r, ob, es, ep, e, c⟩ := x; exact ⟨z, y, vs, r, ob, es, ep, k _ _ (.inl rfl) e, c⟩
 | dT kvs =>
  obtain ⟨z, y, xs, r, ob, es, ep, e, c⟩ := x
  exact ⟨z, y, xs, Paired.mapP r λp q z => ⟨z.1, ht _ _ z.2.1, z.2.2⟩, ob, es, ep, k _ _ (.inl rfl) e, c⟩
 | set S n => obtain ⟨ob, es, ep, t, e, c⟩ := x; exact ⟨ob, es, ep, t, k _ _ (.inl rfl) e, c⟩
 | ins C dx fs =>
  obtain ⟨d, z, ne, e, mA, ⟨od, es, ep, e2, c⟩, r⟩ := x
  exact ⟨ho _ d, z, ne, k _ _ (.inl rfl) e, mA, ⟨od, es, ep, k _ _ (.inr d) e2, c⟩, r⟩
 | own y => obtain ⟨ob, e⟩ := x; exact ⟨ob, k _ _ (.inl rfl) e⟩
 | xd fs => obtain ⟨mA, ⟨od, es, ep, e, c⟩, r⟩ := x; exact ⟨mA, ⟨od, es, ep, k _ _ (.inl rfl) e, c⟩, r⟩
 | rng lo hi => obtain ⟨t, u, v, e⟩ := x; exact ⟨t, u, v, k _ _ (.inl rfl) e⟩
 | frz ob u ih => obtain ⟨e, q⟩ := x; exact ⟨k _ _ (.inl rfl) e, ih q⟩
 | tbl ps =>
  have e : h.get? a = some { cls := .none, data := .fields ps } := x
  show h'.get? a = some { cls := .none, data := .fields ps }
  exact k a _ (.inl rfl) e
 | met f y =>
  have e : h.get? a = some (PySem.W.methodObj (.ref f) (.ref y)) := x
  show h'.get? a = some (PySem.W.methodObj (.ref f) (.ref y))
  exact k a _ (.inl rfl) e
 | ext φ => obtain ⟨p, ⟨o, e⟩, st⟩ := x; exact ⟨st _ _ p λo q => k _ _ (.inl rfl) q, ⟨o, k _ _ (.inl rfl) e⟩, st⟩
theorem HOk.lt (x : HOk P w H h) (e : H a = some o) : a < h.objs.size := (x a o e).lt
theorem HOk.fresh (x : HOk P w H h) (e : h.objs.size <= a) : H a = none := by
 cases q : H a with
 | none => rfl
 | some u => exact absurd (Zzi (x.lt q) e) (Zxk _)
theorem HOk.kept (x : HOk P w H h) (k : ∀ b u, h.get? b = some u -> h'.get? b = some u) : HOk P w H h' := λa o e =>
 (x a o e).stay (λb u _ q => k b u q) (λ_ q => q) λ_ _ q => q
theorem HOk.laid (x : HOk P w H h) (k : ∀ b u, h.get? b = some u -> h'.get? b = some u) (hp : h.objs.size <= a) (new : ObjOk P w (upd H a o) h' a o) : HOk P w (upd H a o) h' := λb u e => by
 have hn := x.fresh hp
 by_cases hb : b = a
 ·subst hb; rw [A0] at e; cases e; exact new
 ·rw [A3 hb] at e
  exact (x b u e).stay (λc v _ q => k c v q) (λc q => by rw [A3 (A5 q hn)]; exact q) λc xs q => by rw [A3 (A5 q hn)]; exact q
end
def Rd (H : Hp) (a : Addr) (u : HO) : Prop := H a = some u \/ ∃ o, H a = some (.frz o u)
theorem Rd.ok {P : Program} {w : World} {H : Hp} {h : Heap} {a : Addr} {u : HO} (r : Rd H a u) (x : HOk P w H h) : ObjOk P w H h a u := by
 rcases r with r | ⟨o, r⟩
 ·exact x a u r
 ·obtain ⟨_, q⟩ := x a _ r
  exact q
def Mut : Option HO -> Prop
 | some (.lst _) => True
 | some (.dK _) => True
 | some (.dT _) => True
 | some (.set _ _) => True
 | some (.ins _ _ _) => True
 | some (.ext _) => True
 | _ => False
section
variable {P : Program} {w : World} {H : Hp} {h h' : Heap} {x e : Addr} {o' : HO}
theorem HOk.write (ok : HOk P w H h) (mu : Mut (H x)) (he : e = x \/ H e = some (.own x)) (k : ∀ b u, b ≠ e -> h.get? b = some u -> h'.get? b = some u) (heo : ∃ u, h'.get? e = some u)
  (new : ObjOk P w (upd H x o') h' x o') : HOk P w (upd H x o') h' := λb u q => by
 have nown : ∀ c y, H c = some (.own y) -> c ≠ x := λc y r z => by subst z; rw [r] at mu; exact mu
 have ntup : ∀ c xs, H c = some (.tup xs) -> c ≠ x := λc xs r z => by subst z; rw [r] at mu; exact mu
 by_cases hb : b = x
 ·subst hb; rw [A0] at q; cases q; exact new
 ·rw [A3 hb] at q
  by_cases hbe : b = e
  ·have q' : H b = some (.own x) := by
    rcases he with z | z
    ·exact absurd (hbe.trans z) hb
    ·rw [hbe]; exact z
   rw [q] at q'; cases q'
   obtain ⟨v, hv⟩ := heo
   exact ⟨v, by rw [hbe]; exact hv⟩
  ·refine (ok b u q).stay (λc v hc r => k c v ?_ r) (λc r => by rw [A3 (nown c b r)]; exact r) λc xs r => by rw [A3 (ntup c xs r)]; exact r
   rcases hc with rfl | hc
   ·exact hbe
   ·rintro rfl
    rcases he with z | z
    ·exact nown c b hc z
    ·rw [hc] at z; cases z; exact hb rfl
end
structure Un (fs ex : List Addr) (H H' : Hp) (h h' : Heap) : Prop where
 keep : ∀ b o, h.get? b = some o -> H b = none -> b ∉ fs -> b ∉ ex -> h'.get? b = some o
 slot : ∀ b o, h.get? b = some o -> H b = none -> b ∈ fs -> b ∉ ex -> ∃ sl, h'.get? b = some { o with slots := sl }
 free : ∀ b o, h.get? b = some o -> H b = none -> b ∉ ex -> H' b = none
 there : ∀ b o, h.get? b = some o -> b ∉ ex -> ∃ o', h'.get? b = some o'
 tups : ∀ b xs, H b = some (.tup xs) -> H' b = some (.tup xs)
 frzs : ∀ b o u, H b = some (.frz o u) -> H' b = some (.frz o u)
 tbls : ∀ b ps, H b = some (.tbl ps) -> ∃ more, H' b = some (.tbl (ps ++ more))
section
variable {fs fs' ex ex' : List Addr} {H H1 H2 : Hp} {h h1 h2 h' : Heap} {a x e : Addr} {o : HO}
theorem Un.any (u : Un fs ex H H1 h h1) {b : Addr} {ob : Obj} (q : h.get? b = some ob) (n : H b = none) (hx : b ∉ ex) : ∃ sl, h1.get? b = some { ob with slots := sl } := by
 by_cases hb : b ∈ fs
 ·exact u.slot b ob q n hb hx
 ·exact ⟨ob.slots, u.keep b ob q n hb hx⟩
theorem Un.kept (k : ∀ b u, h.get? b = some u -> h'.get? b = some u) : Un fs ex H H h h' :=
 ⟨λb ob q _ _ _ => k b ob q, λb ob q _ _ _ => ⟨ob.slots, k b ob q⟩, λ_ _ _ n _ => n, λb ob q _ => ⟨ob, k b ob q⟩, λ_ _ q => q, λ_ _ _ q => q, λ_ ps q => ⟨#[], by rw [q]; simp⟩⟩
theorem Un.refl : Un fs ex H H h h := Un.kept λ_ _ q => q
theorem Un.laid (k : ∀ b u, h.get? b = some u -> h'.get? b = some u) (hp : h.objs.size <= a) (hn : H a = none) : Un fs ex H (upd H a o) h h' where
 keep := λb u q _ _ _ => k b u q
 slot := λb u q _ _ _ => ⟨u.slots, k b u q⟩
 free := λb u q n _ => by rw [A3 (Zz0 (Zzi (Zzo q) hp))]; exact n
 there := λb u q _ => ⟨u, k b u q⟩
 tups := λb xs q => by rw [A3 (A5 q hn)]; exact q
 frzs := λb u xs q => by rw [A3 (A5 q hn)]; exact q
 tbls := λb ps q => ⟨#[], by rw [A3 (A5 q hn), q]; simp⟩
theorem Un.write (mu : Mut (H x)) (he : e = x \/ H e = some (.own x)) (k : ∀ b u, b ≠ e -> h.get? b = some u -> h'.get? b = some u) (heo : ∃ u, h'.get? e = some u) : Un fs ex H (upd H x o) h h' := by
 have hx : ∀ b, H b = none -> b ≠ x := λb n z => by subst z; rw [n] at mu; exact mu
 have hb : ∀ b, H b = none -> b ≠ e := λb n z => by
  subst z
  rcases he with r | r
  ·exact hx b n r
  ·rw [n] at r; cases r
 have hm : ∀ b u, H b = some u -> ¬ Mut (some u) -> b ≠ x := λb u q nm z => by subst z; rw [q] at mu; exact nm mu
 refine ⟨λb u q n _ _ => k b u (hb b n) q, λb u q n _ _ => ⟨u.slots, k b u (hb b n) q⟩, λb u q n _ => by rw [A3 (hx b n)]; exact n, λb u q _ => ?_,
  λb xs q => by rw [A3 (hm b _ q λz => z)]; exact q, λb u xs q => by rw [A3 (hm b _ q λz => z)]; exact q, λb ps q => ⟨#[], by rw [A3 (hm b _ q λz => z), q]; simp⟩⟩
 by_cases hbe : b = e
 ·subst hbe; exact heo
 ·exact ⟨u, k b u hbe q⟩
end
def trk (h : Heap) (H : Hp) : List Addr := (Zyy h.objs.size).filter λa => (H a).isSome
def Nt (h : Heap) (H : Hp) : Heap := PySem.W.hideAll h (trk h H)
theorem X0 (h : Heap) (H : Hp) : (Nt h H).objs.size = h.objs.size := PySem.W.hideAll_size _ _
theorem Z2 {h : Heap} {H : Hp} {b : Addr} {o : Obj} (e : h.get? b = some o) (n : H b = none) : (Nt h H).get? b = some o :=
 PySem.W.hideAll_get _ e λhm => by
  have q : (H b).isSome = true := (Zxh.mp hm).2
  rw [n] at q; simp at q
theorem cn {h : Heap} {H : Hp} {b : Addr} {o : Obj} (e : (Nt h H).get? b = some o) : h.get? b = some o /\ H b = none := by
 have e' : h.get? b = some o := PySem.W.of_hideAll (trk h H) e
 refine ⟨e', ?_⟩
 cases q : H b with
 | none => rfl
 | some x =>
  have hm : b ∈ trk h H := Zxh.mpr ⟨Zy8.mpr (Zzo e'), by simp [q]⟩
  have z : (Nt h H).get? b = none := PySem.W.hideAll_none (trk h H) hm
  rw [z] at e; cases e
def Di (g h : Heap) (L : Addr) : List (Addr × Obj) := (Zyy h.objs.size).filterMap λa => if a = L \/ (g.get? a).isSome = true then none else (h.get? a).map λo => (a, o)
theorem Ko {g h : Heap} {L a : Addr} {o : Obj} (h1 : a ≠ L) (h2 : g.get? a = none) (h3 : h.get? a = some o) : (a, o) ∈ Di g h L :=
 Zxc.mpr ⟨a, Zy8.mpr (Zzo h3), by simp [h1, h2, h3]⟩
theorem M2 {g h : Heap} {L : Addr} {p : Addr × Obj} (hp : p ∈ Di g h L) : p.1 ≠ L /\ g.get? p.1 = none /\ h.get? p.1 = some p.2 := by
 obtain ⟨b, _, e⟩ := Zxc.mp hp
 split at e
 ·cases e
 ·rename_i hn
  cases q : h.get? b with
  | none => rw [q] at e; simp at e
  | some u =>
   rw [q] at e
   simp only [Zx7, Option.some.injEq] at e
   subst e
   refine ⟨λz => hn (.inl z), ?_, q⟩
   show g.get? b = none
   cases r : g.get? b with
   | none => rfl
   | some v => exact (hn (.inr (by simp [r]))).elim
def rest (g h : Heap) (L d : Addr) : List (Addr × Obj) := (Di g h L).filter λp => decide (p.1 ≠ d)
theorem Rp {g h : Heap} {L : Addr} : News g L h (Di g h L) := λp hp => by obtain ⟨a, b, c⟩ := M2 hp; exact ⟨c, a, b⟩
structure Mod (K : Zzu) (mg : Str -> Option Value) (base : Heap) : Prop where
 kin : K.In base
 glob : base.Ns mainGlobals mg
 blt : ∃ mb, base.Ns builtinsNs mb /\ ∀ x : Str, x ≠ "__name__" -> mb x = bootBuiltins x
 nolimit : base.NoLimit
structure Cx where
 prog : Program
 w : World
 K : Zzu
 mg : Str -> Option Value
 base : Heap
 A : Around
 N : List Str
 s₀ : Shared
 H₀ : Hp
 env : Env
 outer : List Env
 stack : List Env
 ex : List Addr
 fn : Str -> Bool
 calm : Bool
 pn : List (Addr × Obj)
 xe : Value -> Shared -> Prop
def frs (l : List Env) : List Addr := l.filterMap (·.frame)
abbrev Cx.fs (X : Cx) : List Addr := frs X.outer
def Vis (sc : Scope) (x : Str) : Prop := sc.names.lookup x = some .local \/ sc.names.lookup x = some .cell \/ sc.names.lookup x = some .free
def Loc (sc : Scope) (x : Str) : Prop := sc.names.lookup x = some .local \/ sc.names.lookup x = some .cell
def Look (env : Env) (h : Heap) (m : Str -> Option Value) (x : Str) (u : Value) : Prop :=
 (env.kindOf x = some .local /\ m x = some u) \/ ((env.kindOf x = some .cell \/ env.kindOf x = some .free) /\ ∃ c, env.cells.lookup x = some c /\ h.IsCell c (some u))
structure Cx.Ok (X : Cx) : Prop where
 mod : Mod X.K X.mg X.base
 kind : X.env.scope.kind = .function
 glob : X.env.globals = mainGlobals
 blt : X.env.builtins = builtinsNs
 above : X.s₀.heap.objs.size <= X.env.locals
 inj : ∀ x y c, X.env.cells.lookup x = some c -> X.env.cells.lookup y = some c -> x = y
 has : ∀ x, (X.env.kindOf x = some .cell \/ X.env.kindOf x = some .free) -> ∃ c, X.env.cells.lookup x = some c
 cab : ∀ x c, X.fn x = true -> X.env.cells.lookup x = some c -> X.s₀.heap.objs.size <= c
 hd : X.calm = true -> X.A.handled = none
 frames : X.A.frames = some X.stack
 stk : X.stack = X.outer \/ (X.stack = X.env :: X.outer /\ X.env.frame = some X.env.locals)
 exf : ∀ b ∈ X.ex, b ≠ X.env.locals /\ ∀ x c, X.env.cells.lookup x = some c -> c ≠ b
 bs : ∀ b o, X.base.get? b = some o -> X.s₀.heap.get? b = some o /\ X.H₀ b = none
 bsz : X.base.objs.size <= X.s₀.heap.objs.size
 noex : ∀ b o, X.base.get? b = some o -> b ∉ X.ex
 exfs : ∀ b ∈ X.ex, b ∉ X.fs
 funs : X.s₀.heap.FunFrames X.base X.outer
 frf : ∀ b ∈ X.fs, X.H₀ b = none
structure Inv (X : Cx) (pins : List (Addr × Obj)) (Z : List (Option V)) (H : Hp) (s : Shared) : Prop where
 ok : X.Ok
 os : s.os = X.s₀.os
 bare : AllBare s.gens
 base : Un X.fs X.ex X.H₀ H X.s₀.heap s.heap
 loc : ∃ m, s.heap.Ns X.env.locals m /\ ∀ (i : Nat) (x : Str) (v : V), X.N[i]? = some x -> Z[i]? = some (some v) -> Vis X.env.scope x -> ∃ u, RelV v u /\ Look X.env s.heap m x u
 cell : ∀ x c, X.env.cells.lookup x = some c -> ∃ v, s.heap.IsCell c v
 free : H X.env.locals = none
 freeC : ∀ x c, X.env.cells.lookup x = some c -> H c = none
 pin : ∀ p ∈ X.pn ++ pins, s.heap.get? p.1 = some p.2 /\ H p.1 = none /\ p.1 ≠ X.env.locals /\ p.1 ∉ X.fs /\ ∀ v, p.2.data ≠ .cell v
 hok : HOk X.prog X.w H s.heap
 len : Z.length = X.N.length
section
variable {X : Cx} {pins : List (Addr × Obj)} {Z : List (Option V)} {H H' : Hp} {s : Shared} {h' : Heap}
theorem Cx.Ok.nofr (ok : X.Ok) {b : Addr} {o : Obj} (e : X.base.get? b = some o) : b ∉ X.fs := λhb => by
 have := (ok.funs.mem hb).1
 rw [e] at this; cases this
theorem Inv.bs (I : Inv X pins Z H s) : ∀ b o, X.base.get? b = some o -> s.heap.get? b = some o /\ H b = none := λb o e =>
 ⟨I.base.keep b o (I.ok.bs b o e).1 (I.ok.bs b o e).2 (I.ok.nofr e) (I.ok.noex b o e), I.base.free b o (I.ok.bs b o e).1 (I.ok.bs b o e).2 (I.ok.noex b o e)⟩
theorem Inv.bk (I : Inv X pins Z H s) : ∀ b o, X.base.get? b = some o -> s.heap.get? b = some o := λb o e => (I.bs b o e).1
theorem Inv.mod (I : Inv X pins Z H s) : Mod X.K X.mg X.base := I.ok.mod
theorem Inv.kIn (I : Inv X pins Z H s) : X.K.In s.heap := I.ok.mod.kin.keeps I.bk
theorem Inv.fr (I : Inv X pins Z H s) : ∃ m, Fr X.base X.env.locals s.heap m :=
 let ⟨m, hn, _⟩ := I.loc
 ⟨m, hn, I.bk, Zyz I.ok.bsz I.ok.above⟩
theorem Inv.lt (I : Inv X pins Z H s) : X.env.locals < s.heap.objs.size := by obtain ⟨_, hn, _⟩ := I.loc; exact hn.lt
theorem Inv.sz (I : Inv X pins Z H s) : X.s₀.heap.objs.size <= s.heap.objs.size := Zyz I.ok.above (Nat.le_of_lt I.lt)
theorem Inv.nofs (I : Inv X pins Z H s) {a : Addr} (h : s.heap.objs.size <= a) : a ∉ X.fs := λhb => by
 obtain ⟨_, o, ho, _⟩ := I.ok.funs.mem hb
 exact absurd (Zzi (Zzo ho) (Zyz I.sz h)) (Zxk _)
theorem Inv.cne (I : Inv X pins Z H s) : ∀ x c, X.env.cells.lookup x = some c -> c ≠ X.env.locals := λx c e z => by
 obtain ⟨v, o, ho, hd⟩ := I.cell x c e
 obtain ⟨m, ⟨o', es, ep, ho', hd', _⟩, _⟩ := I.loc
 rw [z, ho'] at ho; cases ho; rw [hd'] at hd; cases hd
theorem Inv.funs (I : Inv X pins Z H s) : s.heap.FunFrames X.base X.outer := by
 have all : ∀ (l : List Env), (∀ b ∈ frs l, b ∈ X.fs) -> X.s₀.heap.FunFrames X.base l -> s.heap.FunFrames X.base l := by
  intro l
  induction l with
  | nil => intro _ _; trivial
  | cons env r ih =>
   intro hs hl
   obtain ⟨hk, ⟨L, o, hf, hn, ho, hd⟩, hr⟩ := hl
   have hL : L ∈ X.fs := hs L (by unfold frs; rw [Zwn, hf]; exact Zz6)
   obtain ⟨sl, e⟩ := I.base.slot L o ho (I.ok.frf L hL) hL λz => I.ok.exfs L z hL
   exact ⟨hk, ⟨L, _, hf, hn, e, hd⟩, ih (λb hb => hs b (by unfold frs; rw [Zwn, hf]; exact Zz7 _ hb)) hr⟩
 exact all X.outer (λ_ hb => hb) I.ok.funs
theorem Inv.stack (I : Inv X pins Z H s) : s.heap.FunFrames X.base X.stack := by
 rcases I.ok.stk with e | ⟨e, hf⟩
 ·rw [e]; exact I.funs
 ·rw [e]
  obtain ⟨m, hn, _⟩ := I.loc
  refine .cons (by rw [I.ok.kind]; decide) hf hn ?_ I.funs
  exact Zw2 (Zyz I.ok.bsz I.ok.above)
theorem Inv.stkSub (I : Inv X pins Z H s) : ∀ b ∈ frs X.stack, b ∈ X.env.locals :: X.fs := λb hb => by
 rcases I.ok.stk with e | ⟨e, hf⟩
 ·rw [e] at hb; exact Zz7 _ hb
 ·rw [e] at hb
  unfold frs at hb
  rw [Zwn, hf] at hb
  exact hb
theorem Inv.stkFree (I : Inv X pins Z H s) : ∀ b ∈ frs X.stack, H b = none := λb hb => by
 rcases Zzk.mp (I.stkSub b hb) with e | hb
 ·rw [e]; exact I.free
 ·obtain ⟨_, o, ho, _⟩ := I.ok.funs.mem hb
  exact I.base.free b o ho (I.ok.frf b hb) λz => I.ok.exfs b z hb
theorem Inv.step {g' : Array GenState} {t' : Nat} {d' : Drawn} {ch : List Addr} (I : Inv X pins Z H s)
  (hch : ∀ b ∈ ch, (b ∈ X.ex \/ X.s₀.heap.objs.size <= b) /\ b ≠ X.env.locals /\ (∀ x c, X.env.cells.lookup x = some c -> c ≠ b) /\ ∀ p ∈ X.pn ++ pins, p.1 ≠ b)
  (keep : ∀ b o, b ≠ X.env.locals -> b ∉ X.fs -> b ∉ ch -> s.heap.get? b = some o -> H b = none -> h'.get? b = some o)
  (slot : ∀ b o, b ≠ X.env.locals -> b ∈ X.fs -> b ∉ ch -> s.heap.get? b = some o -> H b = none -> ∃ sl, h'.get? b = some { o with slots := sl }) (free : ∀ b o, b ∉ ch -> s.heap.get? b = some o -> H b = none -> H' b = none)
  (there : ∀ b o, b ∉ ch -> s.heap.get? b = some o -> ∃ o', h'.get? b = some o')
  (tups : ∀ b xs, H b = some (.tup xs) -> H' b = some (.tup xs)) (frzs : ∀ b o u, H b = some (.frz o u) -> H' b = some (.frz o u)) (tbls : ∀ b ps, H b = some (.tbl ps) -> ∃ more, H' b = some (.tbl (ps ++ more)))
  (ns : ∀ m, s.heap.Ns X.env.locals m -> h'.Ns X.env.locals m) (hok : HOk X.prog X.w H' h') (hg : AllBare g') :
  Inv X pins Z H' { s with heap := h', gens := g', drawn := d', toks := t' } := by
 have neL : ∀ b o, X.s₀.heap.get? b = some o -> b ≠ X.env.locals := λb o e => Zz0 (Zzi (Zzo e) I.ok.above)
 have neC : ∀ b o, X.s₀.heap.get? b = some o -> b ∉ X.ex -> b ∉ ch := λb o e hx hb => by
  rcases (hch b hb).1 with z | z
  ·exact hx z
  ·exact absurd (Zzi (Zzo e) z) (Zxk _)
 have cellK : ∀ x c, X.env.cells.lookup x = some c -> ∀ v, s.heap.IsCell c v -> h'.IsCell c v := λx c e v ⟨o, ho, hd⟩ => by
  have nch : c ∉ ch := λz => (hch c z).2.2.1 x c e rfl
  by_cases hc : c ∈ X.fs
  ·obtain ⟨sl, q⟩ := slot c o (I.cne x c e) hc nch ho (I.freeC x c e)
   exact ⟨_, q, hd⟩
  ·exact ⟨o, keep c o (I.cne x c e) hc nch ho (I.freeC x c e), hd⟩
 refine ⟨I.ok, I.os, hg, ⟨λb o e n hb hx => ?_, λb o e n hb hx => ?_, λb o e n hx => ?_, λb o e hx => ?_, λb xs e => tups b xs (I.base.tups b xs e), λb o xs e => frzs b o xs (I.base.frzs b o xs e), λb ps e => ?_⟩, ?_, λx c e => ?_, ?_, λx c e => ?_, λp hp => ?_, hok, I.len⟩
 ·exact keep b o (neL b o e) hb (neC b o e hx) (I.base.keep b o e n hb hx) (I.base.free b o e n hx)
 ·obtain ⟨sl, e1⟩ := I.base.slot b o e n hb hx
  obtain ⟨sl', e2⟩ := slot b _ (neL b o e) hb (neC b o e hx) e1 (I.base.free b o e n hx)
  exact ⟨sl', e2⟩
 ·obtain ⟨o', e1⟩ := I.base.there b o e hx
  exact free b o' (neC b o e hx) e1 (I.base.free b o e n hx)
 ·obtain ⟨o', e1⟩ := I.base.there b o e hx
  exact there b o' (neC b o e hx) e1
 ·obtain ⟨m1, e1⟩ := I.base.tbls b ps e
  obtain ⟨m2, e2⟩ := tbls b _ e1
  exact ⟨m1 ++ m2, by rw [e2, Array.append_assoc]⟩
 ·obtain ⟨m, hn, hl⟩ := I.loc
  refine ⟨m, ns m hn, λi x v e1 e2 e3 => ?_⟩
  obtain ⟨u, r, l⟩ := hl i x v e1 e2 e3
  refine ⟨u, r, ?_⟩
  rcases l with l | ⟨k, c, e, z⟩
  ·exact .inl l
  ·exact .inr ⟨k, c, e, cellK x c e _ z⟩
 ·obtain ⟨v, z⟩ := I.cell x c e
  exact ⟨v, cellK x c e v z⟩
 ·obtain ⟨m, ⟨o, _, _, ho, _⟩, _⟩ := I.loc
  exact free _ o (λz => (hch _ z).2.1 rfl) ho I.free
 ·obtain ⟨v, o, ho, hd⟩ := I.cell x c e
  exact free c o (λz => (hch c z).2.2.1 x c e rfl) ho (I.freeC x c e)
 ·obtain ⟨e, n, ne, nf, d⟩ := I.pin p hp
  have nch : p.1 ∉ ch := λz => (hch p.1 z).2.2.2 p hp rfl
  exact ⟨keep p.1 p.2 ne nf nch e n, free p.1 p.2 nch e n, ne, nf, d⟩
theorem Inv.un {t' : Nat} (I : Inv X pins Z H s) (u : Un X.fs [] H H' s.heap h') (hok : HOk X.prog X.w H' h') : Inv X pins Z H' { s with heap := h', toks := t' } := by
 obtain ⟨m, ⟨o, es, ep, ho, r⟩, _⟩ := id I.loc
 obtain ⟨sl, hL⟩ := u.any ho I.free (by simp)
 exact I.step (g' := s.gens) (d' := s.drawn) (ch := []) (λ_ z => nomatch z) (λb o _ hb _ e n => u.keep b o e n hb (by simp)) (λb o _ hb _ e n => u.slot b o e n hb (by simp)) (λb o _ e n => u.free b o e n (by simp)) (λb o _ e => u.there b o e (by simp)) u.tups u.frzs u.tbls (λm' hm => by
  obtain ⟨o', es', ep', ho', r'⟩ := hm
  rw [ho] at ho'; cases ho'
  exact ⟨_, es', ep', hL, r'⟩) hok I.bare
theorem Inv.call {g' : Array GenState} {t' : Nat} {d' : Drawn} {ch : List Addr} (I : Inv X pins Z H s) (u : Un (frs X.stack) ch H H' s.heap h') (hok : HOk X.prog X.w H' h') (hg : AllBare g')
  (hch : ∀ b ∈ ch, (b ∈ X.ex \/ X.s₀.heap.objs.size <= b) /\ b ≠ X.env.locals /\ (∀ x c, X.env.cells.lookup x = some c -> c ≠ b) /\ ∀ p ∈ X.pn ++ pins, p.1 ≠ b) :
  Inv X pins Z H' { s with heap := h', gens := g', drawn := d', toks := t' } := by
 obtain ⟨m, ⟨o, es, ep, ho, r⟩, _⟩ := id I.loc
 obtain ⟨sl, hL⟩ := u.any ho I.free λz => (hch _ z).2.1 rfl
 exact I.step (ch := ch) hch (λb o hL hb hc e n => u.keep b o e n (λz => (Zzk.mp (I.stkSub b z)).elim hL hb) hc) (λb o _ _ hc e n => u.any e n hc) (λb o hc e n => u.free b o e n hc) (λb o hc e => u.there b o e hc) u.tups u.frzs u.tbls (λm' hm => by
  obtain ⟨o', es', ep', ho', r'⟩ := hm
  rw [ho] at ho'; cases ho'
  exact ⟨_, es', ep', hL, r'⟩) hok hg
theorem Inv.turned {t' : Nat} {it : Addr} (I : Inv X pins Z H s) (k : ∀ b o, b ≠ it -> s.heap.get? b = some o -> h'.get? b = some o) (hn : H it = none) (hL : it ≠ X.env.locals)
  (h1 : it ∈ X.ex \/ X.s₀.heap.objs.size <= it) (h2 : ∀ x c, X.env.cells.lookup x = some c -> c ≠ it) (h3 : ∀ p ∈ X.pn ++ pins, p.1 ≠ it) : Inv X pins Z H { s with heap := h', toks := t' } := by
 have nit : ∀ b u, H b = some u -> b ≠ it := λb u e z => by rw [z, hn] at e; cases e
 refine I.step (g' := s.gens) (d' := s.drawn) (ch := [it]) (λb hb => ?_) (λb o _ _ hc e _ => k b o (λz => hc (by simp [z])) e) (λb o _ _ hc e _ => ⟨o.slots, k b o (λz => hc (by simp [z])) e⟩) (λ_ _ _ _ n => n)
  (λb o hc e => ⟨o, k b o (λz => hc (by simp [z])) e⟩) (λ_ _ e => e) (λ_ _ _ e => e) (λb ps e => ⟨#[], by rw [e]; simp⟩) (λm hm => ?_) (λb u e => ?_) I.bare
 ·have e : b = it := by simpa using hb
  subst e
  exact ⟨h1, hL, h2, h3⟩
 ·obtain ⟨o, es, ep, ho, r⟩ := hm
  exact ⟨o, es, ep, k _ o (Zzf hL) ho, r⟩
 ·refine (I.hok b u e).stay (λc v hc q => k c v ?_ q) (λ_ q => q) λ_ _ q => q
  rcases hc with z | z
  ·rw [z]; exact nit b u e
  ·exact nit c _ z
theorem Inv.tok (I : Inv X pins Z H s) (t : Nat) : Inv X pins Z H { s with toks := t } := I.un (h' := s.heap) (t' := t) Un.refl I.hok
theorem Inv.kept {t' : Nat} (I : Inv X pins Z H s) (k : ∀ b u, s.heap.get? b = some u -> h'.get? b = some u) : Inv X pins Z H { s with heap := h', toks := t' } := I.un (Un.kept k) (I.hok.kept k)
theorem Inv.laid {a : Addr} {o : HO} {t' : Nat} (I : Inv X pins Z H s) (k : ∀ b u, s.heap.get? b = some u -> h'.get? b = some u) (hp : s.heap.objs.size <= a) (new : ObjOk X.prog X.w (upd H a o) h' a o) :
  Inv X pins Z (upd H a o) { s with heap := h', toks := t' } := I.un (Un.laid k hp (I.hok.fresh hp)) (I.hok.laid k hp new)
theorem Inv.write {x e : Addr} {o : HO} {t' : Nat} (I : Inv X pins Z H s) (mu : Mut (H x)) (he : e = x \/ H e = some (.own x)) (k : ∀ b u, b ≠ e -> s.heap.get? b = some u -> h'.get? b = some u) (heo : ∃ u, h'.get? e = some u)
  (new : ObjOk X.prog X.w (upd H x o) h' x o) : Inv X pins Z (upd H x o) { s with heap := h', toks := t' } := I.un (Un.write mu he k heo) (I.hok.write mu he k heo new)
theorem Inv.weak {Z' : List (Option V)} (I : Inv X pins Z H s) (hl : Z'.length = Z.length) (w : ∀ (i : Nat) v, Z'[i]? = some (some v) -> Z[i]? = some (some v)) : Inv X pins Z' H s :=
 ⟨I.ok, I.os, I.bare, I.base, by obtain ⟨m, hn, hl'⟩ := I.loc; exact ⟨m, hn, λi x v e1 e2 e3 => hl' i x v e1 (w i v e2) e3⟩, I.cell, I.free, I.freeC, I.pin, I.hok, hl.trans I.len⟩
theorem Inv.pins_of {pins' : List (Addr × Obj)} (I : Inv X pins Z H s) (h : ∀ p ∈ pins', s.heap.get? p.1 = some p.2 /\ H p.1 = none /\ p.1 ≠ X.env.locals /\ p.1 ∉ X.fs /\ ∀ v, p.2.data ≠ .cell v) : Inv X pins' Z H s :=
 ⟨I.ok, I.os, I.bare, I.base, I.loc, I.cell, I.free, I.freeC, λp hp => (Zyu.mp hp).elim (λz => I.pin p (Zyf _ z)) (h p), I.hok, I.len⟩
theorem M3 {N : List Str} (hN : N.Nodup) {i j : Nat} {x : Str} (a : N[i]? = some x) (b : N[j]? = some x) : i = j := by
 obtain ⟨h1, e1⟩ := Zzj.mp a
 obtain ⟨h2, e2⟩ := Zzj.mp b
 exact (List.getElem_inj hN).mp (e1.trans e2.symm)
theorem O7 {M : Model} {A : Around} {E : Value -> Shared -> Prop} {i : Nat} {x : Str} {v : V} {u : Value} {Q : Unit -> Shared -> Prop} (I : Inv X pins Z H s) (hN : X.N.Nodup) (hi : X.N[i]? = some x) (hx : Loc X.env.scope x) (r : RelV v u)
  (h : ∀ s', Inv X pins (Z.set i (some v)) H s' -> (∃ a, Zy7 a s.heap s'.heap /\ (a = X.env.locals \/ X.env.cells.lookup x = some a)) -> Q () s') (hf : X.fn x = true \/ X.env.scope.names.lookup x = some .local := by first | exact .inl rfl | exact .inr rfl | assumption) : wpAny M A (storeName X.env x u) Q E s := by
 obtain ⟨m, hn, hl⟩ := id I.loc
 have hcls : (X.env.scope.kind == .class || (X.env.scope.kind == .module && X.env.locals != X.env.globals)) = false := by rw [I.ok.kind]; rfl
 have hiσ : i < Z.length := by rw [I.len]; exact (Zzj.mp hi).1
 have cne := I.cne
 have tracked : ∀ {a : Addr} {h' : Heap}, (∃ o, s.heap.get? a = some o /\ H a = none) -> Zy7 a s.heap h' -> HOk X.prog X.w H h' := λ{a h'} ha hs b ob e => by
  obtain ⟨_, _, hfree⟩ := ha
  refine (I.hok b ob e).stay (λc w' hc q => (hs.2 c ?_).trans q) (λ_ q => q) λ_ _ q => q
  rintro rfl
  rcases hc with rfl | hc
  ·rw [hfree] at e; cases e
  ·rw [hfree] at hc; cases hc
 rcases hx with hk | hk
 ·refine wpAny_storeName_local hk hn (λh' hn' hs => ?_) hcls
  obtain ⟨oL, _, _, hoL, _⟩ := id hn
  refine h _ ⟨I.ok, I.os, I.bare, ⟨λb o e n hb hx => ?_, λb o e n hb hx => ?_, I.base.free, λb o e hx => ?_, I.base.tups, I.base.frzs, I.base.tbls⟩, ⟨_, hn', λj y v' e1 e2 e3 => ?_⟩, λy c e => ?_, I.free, I.freeC, λp hp => ?_, tracked ⟨oL, hoL, I.free⟩ hs, by simpa using I.len⟩ ⟨_, hs, .inl rfl⟩
  ·exact (hs.2 b (Zz0 (Zzi (Zzo e) I.ok.above))).trans (I.base.keep b o e n hb hx)
  ·obtain ⟨sl, e1⟩ := I.base.slot b o e n hb hx
   exact ⟨sl, (hs.2 b (Zz0 (Zzi (Zzo e) I.ok.above))).trans e1⟩
  ·obtain ⟨o', e1⟩ := I.base.there b o e hx
   exact ⟨o', (hs.2 b (Zz0 (Zzi (Zzo e) I.ok.above))).trans e1⟩
  ·by_cases hj : j = i
   ·subst hj
    rw [hi] at e1; cases e1
    rw [Zwa hiσ] at e2
    cases e2
    exact ⟨u, r, .inl ⟨hk, by simp⟩⟩
   ·rw [Zye (Zzf hj)] at e2
    obtain ⟨u', r', q⟩ := hl j y v' e1 e2 e3
    refine ⟨u', r', ?_⟩
    rcases q with ⟨k, e⟩ | ⟨k, c, e, z⟩
    ·refine .inl ⟨k, ?_⟩
     have : y ≠ x := λe => hj (M3 hN e1 (e ▸ hi))
     simp [this, e]
    ·exact .inr ⟨k, c, e, z.sameBut hs (cne y c e)⟩
  ·obtain ⟨w', z⟩ := I.cell y c e
   exact ⟨w', z.sameBut hs (cne y c e)⟩
  ·obtain ⟨e, n, ne, nf, d⟩ := I.pin p hp
   exact ⟨(hs.2 p.1 ne).trans e, n, ne, nf, d⟩
 ·have hfn : X.fn x = true := by
   rcases hf with z | z
   ·exact z
   ·rw [z] at hk; cases hk
  obtain ⟨c, hc⟩ := I.ok.has x (.inl hk)
  obtain ⟨w', z⟩ := I.cell x c hc
  refine wpAny_storeName_cell I.ok.kind hk hc z (λh' hc' hs => ?_)
  obtain ⟨oc, hoc, hocd⟩ := id z
  refine h { s with heap := h' } ⟨I.ok, I.os, I.bare, ⟨λb o e n hb hx => ?_, λb o e n hb hx => ?_, I.base.free, λb o e hx => ?_, I.base.tups, I.base.frzs, I.base.tbls⟩, ⟨m, hn.sameBut hs (Zzf (cne x c hc)), λj y v' e1 e2 e3 => ?_⟩, λy c' e => ?_, I.free, I.freeC, λp hp => ?_, tracked ⟨oc, hoc, I.freeC x c hc⟩ hs, by simpa using I.len⟩ ⟨c, hs, .inr hc⟩
  ·exact (hs.2 b (Zz0 (Zzi (Zzo e) (I.ok.cab x c hfn hc)))).trans (I.base.keep b o e n hb hx)
  ·obtain ⟨sl, e1⟩ := I.base.slot b o e n hb hx
   exact ⟨sl, (hs.2 b (Zz0 (Zzi (Zzo e) (I.ok.cab x c hfn hc)))).trans e1⟩
  ·obtain ⟨o', e1⟩ := I.base.there b o e hx
   exact ⟨o', (hs.2 b (Zz0 (Zzi (Zzo e) (I.ok.cab x c hfn hc)))).trans e1⟩
  ·by_cases hj : j = i
   ·subst hj
    rw [hi] at e1; cases e1
    rw [Zwa hiσ] at e2
    cases e2
    exact ⟨u, r, .inr ⟨.inl hk, c, hc, hc'⟩⟩
   ·rw [Zye (Zzf hj)] at e2
    obtain ⟨u', r', q⟩ := hl j y v' e1 e2 e3
    refine ⟨u', r', ?_⟩
    rcases q with q | ⟨k, c', e, z'⟩
    ·exact .inl q
    ·refine .inr ⟨k, c', e, z'.sameBut hs ?_⟩
     rintro rfl
     exact hj (M3 hN e1 (I.ok.inj _ _ _ e hc ▸ hi))
  ·by_cases hcc : c' = c
   ·subst hcc; exact ⟨_, hc'⟩
   ·obtain ⟨w2, z2⟩ := I.cell y c' e
    exact ⟨w2, z2.sameBut hs hcc⟩
  ·obtain ⟨e, n, ne, nf, d⟩ := I.pin p hp
   refine ⟨(hs.2 p.1 ?_).trans e, n, ne, nf, d⟩
   intro q
   rw [q, hoc] at e
   have q' : oc = p.2 := Zza e
   exact d w' (by rw [<- q']; exact hocd)
theorem J0 {M : Model} {A : Around} {E : Value -> Shared -> Prop} {i : Nat} {x : Str} {v : V} {u : Value} {Q : Unit -> Shared -> Prop} (I : Inv X pins Z H s) (hN : X.N.Nodup) (hi : X.N[i]? = some x) (hx : Loc X.env.scope x) (r : RelV v u)
  (h : ∀ s', Inv X pins (Z.set i (some v)) H s' -> Q () s') (hf : X.fn x = true \/ X.env.scope.names.lookup x = some .local := by first | exact .inl rfl | exact .inr rfl | assumption) : wpAny M A (storeName X.env x u) Q E s :=
 O7 I hN hi hx r (λs' I' _ => h s' I') hf
theorem Inv.call' {s' : Shared} {ch : List Addr} (I : Inv X pins Z H s) (ho : s'.os = s.os) (u : Un (frs X.stack) ch H H' s.heap s'.heap) (hok : HOk X.prog X.w H' s'.heap) (hg : AllBare s'.gens)
  (hch : ∀ b ∈ ch, (b ∈ X.ex \/ X.s₀.heap.objs.size <= b) /\ b ≠ X.env.locals /\ (∀ x c, X.env.cells.lookup x = some c -> c ≠ b) /\ ∀ p ∈ X.pn ++ pins, p.1 ≠ b) : Inv X pins Z H' s' := by
 obtain ⟨h', g', d', t', o'⟩ := s'
 have e : o' = s.os := ho
 subst e
 exact I.call (g' := g') (t' := t') (d' := d') u hok hg hch
end
abbrev XK := Value -> Option Addr -> Hp -> Prop
abbrev St := List (Option V)
abbrev VK := V -> Hp -> Prop
abbrev TE := St -> Hp -> VK -> Prop
abbrev TT := St -> Hp -> (Bool -> Hp -> Prop) -> Prop
abbrev TA := St -> Hp -> (List V -> Hp -> Prop) -> Prop
structure Ends where
 nx : St -> Hp -> Prop
 rt : VK
 bk : St -> Hp -> Prop := λ_ _ => False
 ct : St -> Hp -> Prop := λ_ _ => False
abbrev TS := Ends -> St -> Hp -> Prop
def EP (X : Cx) (pins : List (Addr × Obj)) (Z : St) (Q : VK) (u : Value) (s' : Shared) : Prop := ∃ v H', Inv X pins Z H' s' /\ RelV v u /\ Q v H'
def TP (X : Cx) (pins : List (Addr × Obj)) (Z : St) (Q : Bool -> Hp -> Prop) (b : Bool) (s' : Shared) : Prop := ∃ H', Inv X pins Z H' s' /\ Q b H'
def AP (X : Cx) (pins : List (Addr × Obj)) (Z : St) (Q : List V -> Hp -> Prop) (us : List Value) (s' : Shared) : Prop := ∃ vs H', Inv X pins Z H' s' /\ Vals vs us /\ Q vs H'
def SP (X : Cx) (pins : List (Addr × Obj)) (D : Ends) (f : Flow) (s' : Shared) : Prop :=
 match f with
 | .next => ∃ Z' H', Inv X pins Z' H' s' /\ D.nx Z' H'
 | .brk => ∃ Z' H', Inv X pins Z' H' s' /\ D.bk Z' H'
 | .cont => ∃ Z' H', Inv X pins Z' H' s' /\ D.ct Z' H'
 | .ret u => ∃ v Z' H', Inv X pins Z' H' s' /\ RelV v u /\ D.rt v H'
def PE (X : Cx) (e : Expr) (t : TE) : Prop :=
 ∀ (pins : List (Addr × Obj)) (s : Shared) (Z : St) (H : Hp) (Q : VK), Inv X pins Z H s -> t Z H Q -> wpAny (model X.prog X.w) X.A (eval e X.env) (EP X pins Z Q) X.xe s
def PT (X : Cx) (e : Expr) (t : TT) : Prop :=
 ∀ (pins : List (Addr × Obj)) (s : Shared) (Z : St) (H : Hp) (Q : Bool -> Hp -> Prop), Inv X pins Z H s -> t Z H Q -> wpAny (model X.prog X.w) X.A (isTrue e X.env (eval e X.env)) (TP X pins Z Q) X.xe s
def PW (X : Cx) (e : Expr) (t : TT) : Prop :=
 ∀ (whole : Sem Value) (pins : List (Addr × Obj)) (s : Shared) (Z : St) (H : Hp) (Q : Bool -> Hp -> Prop), Inv X pins Z H s -> t Z H Q -> wpAny (model X.prog X.w) X.A (isTrue e X.env whole) (TP X pins Z Q) X.xe s
theorem PW.pt {X : Cx} {e : Expr} {t : TT} (h : PW X e t) : PT X e t := h _
def PA (X : Cx) (es : List Expr) (t : TA) : Prop :=
 ∀ (pos : Pos) (pins : List (Addr × Obj)) (s : Shared) (Z : St) (H : Hp) (Q : List V -> Hp -> Prop), Inv X pins Z H s -> t Z H Q -> wpAny (model X.prog X.w) X.A (spliced (backTo pos (starEach es X.env))) (AP X pins Z Q) X.xe s
def PS (X : Cx) (st : Stmt) (t : TS) : Prop :=
 ∀ (pins : List (Addr × Obj)) (s : Shared) (Z : St) (H : Hp) (D : Ends), Inv X pins Z H s -> t D Z H -> wpAny (model X.prog X.w) X.A (exec st X.env) (SP X pins D) X.xe s
def PSs (X : Cx) (st : List Stmt) (t : TS) : Prop :=
 ∀ (pins : List (Addr × Obj)) (s : Shared) (Z : St) (H : Hp) (D : Ends), Inv X pins Z H s -> t D Z H -> wpAny (model X.prog X.w) X.A (execs st X.env) (SP X pins D) X.xe s
theorem thn {α : Type} {t : Sem α} {Q Q' : α -> Shared -> Prop} {M : Model} {A : Around} {E : Value -> Shared -> Prop} {s : Shared} (h : wpAny M A t Q E s) (hQ : ∀ a s, Q a s -> Q' a s) : wpAny M A t Q' E s := wpAny_mono h hQ λ_ _ x => x
section
variable {X : Cx}
def av (i : Nat) : TE := λZ H Q => ∃ v, Z[i]? = some (some v) /\ Q v H
def tC (v : V) : TE := λ_ H Q => Q v H
theorem iu {i : Nat} {x : Str} {pos : Pos} (hN : X.N[i]? = some x) (hv : Vis X.env.scope x) (hd : (x == ("__debug__" : Str)) = false := by decide) (hcd : (x == ("__classdict__" : Str)) = false := by decide) : PE X (.Name x pos) (av i) := by
 intro pins s Z H Q I h
 obtain ⟨v, e, h⟩ := h
 obtain ⟨m, hn, hl⟩ := I.loc
 obtain ⟨u, r, l⟩ := hl i x v hN e hv
 have fin : EP X pins Z Q u s := ⟨v, H, I, r, h⟩
 rcases l with ⟨hk, hm⟩ | ⟨hk, c, hc, hcell⟩
 ·exact wpAny_Name (wpAny_loadName_local I.ok.kind hk hn hm fin) hd
 ·rcases hk with hk | hk
  ·exact wpAny_Name (wpAny_loadName_cell I.ok.kind hk hc hcell fin) hd
  ·exact wpAny_Name (wpAny_loadName_free I.ok.kind hk hc hcell fin hcd) hd
theorem A8 {i j pos} : PE X (.Constant (.int i) j pos) (tC (.int i)) := λ_ _ _ H _ I h => wpAny_Constant_int ⟨.int i, H, I.tok _, ⟨_, rfl⟩, h⟩
theorem Je {b j pos} : PE X (.Constant (.bool b) j pos) (tC (.bl b)) := λ_ _ _ H _ I h => Constant_bool ⟨.bl b, H, I, rfl, h⟩
theorem Cz {j pos} : PE X (.Constant .none j pos) (tC .non) := λ_ _ _ H _ I h => Constant_none ⟨.non, H, I, rfl, h⟩
theorem Cm {x j pos} : PE X (.Constant (.str x) j pos) (tC (.str x)) := λ_ _ _ H _ I h => Calls.Constant_str ⟨.str x, H, I.tok _, ⟨_, rfl⟩, h⟩
def Gl (X : Cx) (x : Str) : Prop := X.env.kindOf x = some .globalImplicit
theorem Jj {E : Value -> Shared -> Prop} {pins : List (Addr × Obj)} {s : Shared} {Z : St} {H : Hp} {x : Str} {u : Value} {pos : Pos} {Q : Value -> Shared -> Prop} (I : Inv X pins Z H s) (hg : Gl X x) (hm : X.mg x = some u) (h : Q u s)
  (hd : (x == ("__debug__" : Str)) = false := by decide) : wpAny (model X.prog X.w) X.A (eval (.Name x pos) X.env) Q E s :=
 Calls.Name_function_global I.ok.kind hg (Calls.loadGlobal_global (by rw [I.ok.glob]; exact I.mod.glob.keeps I.bk) hm h) hd
theorem Fv {E : Value -> Shared -> Prop} {pins : List (Addr × Obj)} {s : Shared} {Z : St} {H : Hp} {x : Str} {u : Value} {pos : Pos} {Q : Value -> Shared -> Prop} (I : Inv X pins Z H s) (hg : Gl X x) (hm : X.mg x = none) (hv : bootBuiltins x = some u) (h : Q u s)
  (hn : x ≠ "__name__" := by decide) (hd : (x == ("__debug__" : Str)) = false := by decide) : wpAny (model X.prog X.w) X.A (eval (.Name x pos) X.env) Q E s := by
 obtain ⟨mb, h1, h2⟩ := I.mod.blt
 exact Calls.Name_function_global I.ok.kind hg (Calls.loadGlobal_builtin (by rw [I.ok.glob]; exact I.mod.glob.keeps I.bk) hm (by rw [I.ok.blt]; exact h1.keeps I.bk) ((h2 x hn).trans hv) h) hd
theorem Jc {x : Str} {v : V} {u : Value} {pos : Pos} (hg : Gl X x) (hm : X.mg x = some u) (r : RelV v u) (hd : (x == ("__debug__" : Str)) = false := by decide) : PE X (.Name x pos) (tC v) :=
 λ_ _ _ H _ I h => Jj I hg hm ⟨v, H, I, r, h⟩ hd
theorem br {x : Str} {v : V} {u : Value} {pos : Pos} (hg : Gl X x) (hm : X.mg x = none) (hv : bootBuiltins x = some u) (r : RelV v u) (hn : x ≠ "__name__" := by decide) (hd : (x == ("__debug__" : Str)) = false := by decide) : PE X (.Name x pos) (tC v) :=
 λ_ _ _ H _ I h => Fv I hg hm hv ⟨v, H, I, r, h⟩ hn hd
variable {a b : Expr} {ta tb : TE} {pos : Pos}
def PC (X : Cx) (op : CmpOp) (a b : Expr) (t : TE) : Prop :=
 ∀ (pins : List (Addr × Obj)) (s : Shared) (Z : St) (H : Hp) (Q : VK), Inv X pins Z H s -> t Z H Q ->
  wpAny (model X.prog X.w) X.A (eval a X.env) (λv s₁ => wpAny (model X.prog X.w) X.A (eval b X.env) (λu s₂ => wpAny (model X.prog X.w) X.A (compareOp op v u) (EP X pins Z Q) X.xe s₂) X.xe s₁) X.xe s
def tB (t : TE) : TT := λZ H Q => t Z H λx H1 => ∃ c, x = .bl c /\ Q c H1
theorem Y3 {e : Expr} {t : TE} (h : PE X e t) (he : ∀ whole, isTrue e X.env whole = (do let v <- whole; standAt e.pos; holding [v] (truthy v)) := by intro _; rfl) : PT X e (tB t) := by
 intro pins s Z H Q I hw
 refine isTrue_plain (thn (h pins s Z H _ I hw) λv s1 ⟨x, H1, I1, r1, q1⟩ => ?_) (he _)
 obtain ⟨d, rfl, q⟩ := q1
 cases r1
 exact wpAny_truthy_bool ⟨H1, I1, q⟩
variable {tA tB' : TT} {rest : List Expr}
def lg (t u : TT) : TT := λZ H Q => t Z H λc H1 => if c = true then u Z H1 Q else Q false H1
def tOr (t u : TT) : TT := λZ H Q => t Z H λc H1 => if c = true then Q true H1 else u Z H1 Q
def km (t : TT) : TT := λZ H Q => t Z H λc H1 => Q (!c) H1
theorem Hv (ha : PT X a tA) : PW X (.BoolOp .And [a] pos) tA := by
 intro wh pins s Z H Q I h
 refine isTrue_and (thn (ha pins s Z H Q I h) λc s1 e => ?_)
 cases c with
 | true => exact isTrue_and_nil e
 | false => exact e
theorem Lr (ha : PT X a tA) : PW X (.BoolOp .Or [a] pos) tA := by
 intro wh pins s Z H Q I h
 refine isTrue_or (thn (ha pins s Z H Q I h) λc s1 e => ?_)
 cases c with
 | false => exact isTrue_or_nil e
 | true => exact e
theorem Jz (ha : PT X a tA) (hb : PW X (.BoolOp .And (b :: rest) pos) tB') : PW X (.BoolOp .And (a :: b :: rest) pos) (lg tA tB') := by
 intro wh pins s Z H Q I h
 refine isTrue_and (thn (ha pins s Z H _ I h) λc s1 ⟨H1, I1, q1⟩ => ?_)
 cases c with
 | true => exact hb wh pins s1 Z H1 Q I1 q1
 | false => exact ⟨H1, I1, q1⟩
theorem Ls (ha : PT X a tA) (hb : PW X (.BoolOp .Or (b :: rest) pos) tB') : PW X (.BoolOp .Or (a :: b :: rest) pos) (tOr tA tB') := by
 intro wh pins s Z H Q I h
 refine isTrue_or (thn (ha pins s Z H _ I h) λc s1 ⟨H1, I1, q1⟩ => ?_)
 cases c with
 | true => exact ⟨H1, I1, q1⟩
 | false => exact hb wh pins s1 Z H1 Q I1 q1
theorem T4 (ha : PT X a tA) : PT X (.UnaryOp .Not a pos) (km tA) := by
 intro pins s Z H Q I h
 exact isTrue_not (ha pins s Z H (λc H1 => Q (!c) H1) I h)
def g9 (ta tb : TE) : TE := λZ H Q => ta Z H λx H1 => ∃ c, x = .bl c /\ if c = true then tb Z H1 Q else Q (.bl false) H1
theorem iw {op} {t : TE} (h : PE X a t) : PE X (.BoolOp op [a] pos) t := λpins s Z H Q I hw => BoolOp_one (h pins s Z H Q I hw)
theorem Yd (ha : PE X a ta) (hb : PE X (.BoolOp .And (b :: rest) pos) tb) : PE X (.BoolOp .And (a :: b :: rest) pos) (g9 ta tb) := by
 intro pins s Z H Q I h
 refine BoolOp_and (thn (ha pins s Z H _ I h) λv s1 ⟨x, H1, I1, r1, q1⟩ => ?_)
 obtain ⟨c, rfl, q1⟩ := q1
 cases r1
 refine wpAny_truthy_bool ?_
 cases c with
 | true => exact hb pins s1 Z H1 Q I1 q1
 | false => exact ⟨.bl false, H1, I1, rfl, q1⟩
def tIf (t : TT) (ta tb : TE) : TE := λZ H Q => t Z H λc H1 => if c = true then ta Z H1 Q else tb Z H1 Q
theorem Rc {c : Expr} (hc : PT X c tA) (ha : PE X a ta) (hb : PE X b tb) : PE X (.IfExp c a b pos) (tIf tA ta tb) := by
 intro pins s Z H Q I h
 refine wpAny_IfExp (thn (hc pins s Z H _ I h) λd s1 ⟨H1, I1, q1⟩ => ?_)
 cases d with
 | true => exact ha pins s1 Z H1 Q I1 q1
 | false => exact hb pins s1 Z H1 Q I1 q1
end
def SqL (K : Zzu) (H : Hp) (a : Addr) (xs : List V) : Prop :=
 Rd H a (.lst xs) \/
  ∃ (o : Obj) (its : Array Value) (n : Nat), K.lookup a = some o /\ o.cls = .type "list" /\ o.dict = none /\ o.data = .seq its n /\ its.size <= sizeLine /\ Vals xs its.toList
def SqT (K : Zzu) (H : Hp) (a : Addr) (xs : List V) : Prop :=
 Rd H a (.tup xs) \/
  ∃ (o : Obj) (its : Array Value) (n : Nat), K.lookup a = some o /\ o.cls = .type "tuple" /\ o.data = .seq its n /\ its.size <= sizeLine /\ Vals xs its.toList
def absV : Value -> Option V
 | .none => some .non
 | .bool b => some (.bl b)
 | .int i _ => some (.int i)
 | .str x _ => some (.str x)
 | .bytes b _ => some (.byt b)
 | .float b _ => some (.flt b)
 | .ref a => some (.ref a)
 | .type n => some (.ty n)
 | _ => none
theorem RelV.abs {x : V} {u : Value} (r : RelV x u) : absV u = some x := by
 cases x with
 | non => cases r; rfl
 | bl _ => cases r; rfl
 | int _ => obtain ⟨t, rfl⟩ := r; rfl
 | str _ => obtain ⟨t, rfl⟩ := r; rfl
 | byt _ => obtain ⟨t, rfl⟩ := r; rfl
 | flt _ => obtain ⟨t, rfl⟩ := r; rfl
 | ref _ => cases r; rfl
 | ty _ => cases r; rfl
theorem RelV.inj {x y : V} {u : Value} (r : RelV x u) (q : RelV y u) : x = y := Zza (r.abs.symm.trans q.abs)
theorem Vals.inj : ∀ {xs ys : List V} {us : List Value}, Vals xs us -> Vals ys us -> xs = ys
 | _, _, _, .nil, .nil => rfl
 | _, _, _, .cons r t, .cons r' t' => by rw [r.inj r', Vals.inj t t']
section
variable {X : Cx} {pins : List (Addr × Obj)} {Z : St} {H : Hp} {s : Shared} {a : Addr} {xs ys : List V}
theorem SqL.of {K : Zzu} (h : H a = some (.lst xs)) : SqL K H a xs := .inl (.inl h)
theorem SqT.of {K : Zzu} (h : H a = some (.tup xs)) : SqT K H a xs := .inl (.inl h)
theorem Inv.list (I : Inv X pins Z H s) (h : SqL X.K H a xs) : ∃ its : List Value, Vals xs its /\ PlainL s.heap a its.toArray /\ xs.length <= sizeLine := by
 rcases h with h | ⟨o, its, n, hk, hc, hd, hs, hz, r⟩
 ·obtain ⟨z, its, n, r, e⟩ := h.ok I.hok
  exact ⟨its, r, ⟨_, n, e, rfl, rfl, rfl⟩, z⟩
 ·refine ⟨its.toList, r, ⟨o, n, I.kIn a o hk, hc, hd, by simpa using hs⟩, ?_⟩
  have e := r.length
  simp only [Zwm] at e
  omega
theorem Inv.tuple (I : Inv X pins Z H s) (h : SqT X.K H a xs) : ∃ its : List Value, Vals xs its /\ IsTup s.heap a its.toArray /\ xs.length <= sizeLine := by
 rcases h with h | ⟨o, its, n, hk, hc, hs, hz, r⟩
 ·obtain ⟨z, its, r, p⟩ := h.ok I.hok
  exact ⟨its, r, p, z⟩
 ·refine ⟨its.toList, r, ⟨o, I.kIn a o hk, hc, n, by simpa using hs⟩, ?_⟩
  have e := r.length
  simp only [Zwm] at e
  omega
theorem Inv.list_inj (I : Inv X pins Z H s) (h : SqL X.K H a xs) (h' : SqL X.K H a ys) : xs = ys := by
 obtain ⟨its, r, ⟨o, n, e, _, _, d⟩, _⟩ := I.list h
 obtain ⟨its', r', ⟨o', n', e', _, _, d'⟩, _⟩ := I.list h'
 rw [e] at e'; cases e'
 rw [d] at d'
 injection d' with d1 _
 have : its = its' := by simpa using congrArg Array.toList d1
 subst this
 exact r.inj r'
theorem Inv.tuple_inj (I : Inv X pins Z H s) (h : SqT X.K H a xs) (h' : SqT X.K H a ys) : xs = ys := by
 obtain ⟨its, r, ⟨o, e, _, n, d⟩, _⟩ := I.tuple h
 obtain ⟨its', r', ⟨o', e', _, n', d'⟩, _⟩ := I.tuple h'
 rw [e] at e'; cases e'
 rw [d] at d'
 injection d' with d1 _
 have : its = its' := by simpa using congrArg Array.toList d1
 subst this
 exact r.inj r'
end
abbrev Cx.wish (X : Cx) (E : Value -> Shared -> Prop) : Cx := { X with xe := E }
abbrev Cx.nox (X : Cx) : Cx := X.wish λ_ _ => False
theorem Cx.Ok.wish {X : Cx} (ok : X.Ok) (E : Value -> Shared -> Prop) : (X.wish E).Ok :=
 ⟨ok.mod, ok.kind, ok.glob, ok.blt, ok.above, ok.inj, ok.has, ok.cab, ok.hd, ok.frames, ok.stk, ok.exf, ok.bs, ok.bsz, ok.noex, ok.exfs, ok.funs, ok.frf⟩
theorem Cx.Ok.unwish {X : Cx} {E : Value -> Shared -> Prop} (ok : (X.wish E).Ok) : X.Ok :=
 ⟨ok.mod, ok.kind, ok.glob, ok.blt, ok.above, ok.inj, ok.has, ok.cab, ok.hd, ok.frames, ok.stk, ok.exf, ok.bs, ok.bsz, ok.noex, ok.exfs, ok.funs, ok.frf⟩
section
variable {X : Cx} {pins : List (Addr × Obj)} {Z : St} {H : Hp} {s : Shared} {E : Value -> Shared -> Prop}
theorem Inv.wish (I : Inv X pins Z H s) (E : Value -> Shared -> Prop) : Inv (X.wish E) pins Z H s := ⟨I.ok.wish E, I.os, I.bare, I.base, I.loc, I.cell, I.free, I.freeC, I.pin, I.hok, I.len⟩
theorem Inv.unwish (I : Inv (X.wish E) pins Z H s) : Inv X pins Z H s := ⟨I.ok.unwish, I.os, I.bare, I.base, I.loc, I.cell, I.free, I.freeC, I.pin, I.hok, I.len⟩
theorem SP.unwish {D : Ends} {f : Flow} {s' : Shared} (h : SP (X.wish E) pins D f s') : SP X pins D f s' := by
 cases f with
 | next => obtain ⟨Z', H', I, q⟩ := h; exact ⟨Z', H', I.unwish, q⟩
 | brk => obtain ⟨Z', H', I, q⟩ := h; exact ⟨Z', H', I.unwish, q⟩
 | cont => obtain ⟨Z', H', I, q⟩ := h; exact ⟨Z', H', I.unwish, q⟩
 | ret u => obtain ⟨v, Z', H', I, r, q⟩ := h; exact ⟨v, Z', H', I.unwish, r, q⟩
theorem PSs.nox {st : List Stmt} {t : TS} (h : PSs X.nox st t) : PSs X st t := λpins s Z H D I hw =>
 wpAny_mono (h pins s Z H D (I.wish _) hw) (λ_ _ q => q.unwish) λ_ _ z => False.elim z
end
section
variable {X : Cx} {st : Stmt} {rest : List Stmt} {t u : TS} {e : Expr} {te : TE} {pos : Pos}
def tNext : TS := λD Z H => D.nx Z H
def R5 (t u : TS) : TS := λD Z H => t { D with nx := u D } Z H
theorem At : PSs X [] tNext := λ_ _ Z H _ I h => wpAny_execs_nil ⟨Z, H, I, h⟩
theorem A1 (h1 : PS X st t) (h2 : PSs X rest u) : PSs X (st :: rest) (R5 t u) := by
 intro pins s Z H D I h
 refine wpAny_execs_cons (thn (h1 pins s Z H { D with nx := u D } I h) λf s1 q => ?_)
 cases f with
 | next =>
  obtain ⟨Z', H', I', q⟩ := q
  exact h2 pins s1 Z' H' D I' q
 | ret v => exact q
 | brk => exact q
 | cont => exact q
theorem Aa (h1 : PS X st t) : PSs X [st] t := by
 intro pins s Z H D I h
 refine wpAny_execs_cons (thn (h1 pins s Z H D I h) λf s1 q => ?_)
 cases f with
 | next => exact wpAny_execs_nil q
 | ret v => exact q
 | brk => exact q
 | cont => exact q
theorem Inv.quiet {pins : List (Addr × Obj)} {Z : St} {H : Hp} {s : Shared} (I : Inv X pins Z H s) : interactive X.env = false := by simp [interactive, I.ok.kind]
def g7 (te : TE) : TS := λD Z H => te Z H λ_ H1 => D.nx Z H1
theorem Ce (he : PE X e te) (hs : swapsWith e none pos.line X.env = pure false := by rfl) : PS X (.Expr e pos) (g7 te) := by
 intro pins s Z H D I h
 exact wpAny_Expr_any (thn (he pins s Z H _ I h) λv s1 ⟨x, H1, I1, r1, q1⟩ => ⟨Z, H1, I1, q1⟩) I.quiet hs
def kl (te : TE) : TS := λD Z H => te Z H D.rt
theorem Ak (he : PE X e te) : PS X (.Return (some e) pos) (kl te) := by
 intro pins s Z H D I h
 exact wpAny_Return_some (thn (he pins s Z H _ I h) λv s1 ⟨x, H1, I1, r1, q1⟩ => ⟨x, Z, H1, I1, r1, q1⟩)
def kq (c : TT) (t u : TS) : TS := λD Z H => c Z H λb H1 => if b = true then t D Z H1 else u D Z H1
theorem Bm {c : Expr} {a b : List Stmt} {tc : TT} (hc : PT X c tc) (ha : PSs X a t) (hb : PSs X b u) : PS X (.If c a b pos) (kq tc t u) := by
 intro pins s Z H D I h
 refine wpAny_If (thn (hc pins s Z H _ I h) λd s1 ⟨H1, I1, q1⟩ => ?_)
 cases d with
 | true => exact ha pins s1 Z H1 D I1 q1
 | false => exact hb pins s1 Z H1 D I1 q1
def tNever : TS := λ_ _ _ => False
theorem Y5 : PS X st tNever := λ_ _ _ _ _ _ h => h.elim
theorem Ob {sts : List Stmt} : PSs X sts tNever := λ_ _ _ _ _ _ h => h.elim
end
abbrev TG := V -> St -> Hp -> (St -> Hp -> Prop) -> Prop
abbrev TGs := List V -> St -> Hp -> (St -> Hp -> Prop) -> Prop
def PG (X : Cx) (target : Expr) (t : TG) : Prop :=
 ∀ (pins : List (Addr × Obj)) (s : Shared) (Z : St) (H : Hp) (v : V) (u : Value) (Q : St -> Hp -> Prop), Inv X pins Z H s -> RelV v u -> t v Z H Q ->
  wpAny (model X.prog X.w) X.A (assign target X.env u) (λ_ s' => ∃ Z' H', Inv X pins Z' H' s' /\ Q Z' H') X.xe s
def PGs (X : Cx) (ts : List Expr) (t : TGs) : Prop :=
 ∀ (pins : List (Addr × Obj)) (s : Shared) (Z : St) (H : Hp) (vs : List V) (us : List Value) (Q : St -> Hp -> Prop), Inv X pins Z H s -> Vals vs us -> t vs Z H Q ->
  wpAny (model X.prog X.w) X.A (assignInOrder ((assignEach ts X.env).map (·.2)) us) (λ_ s' => ∃ Z' H', Inv X pins Z' H' s' /\ Q Z' H') X.xe s
abbrev TSet := V -> V -> V -> Hp -> (Hp -> Prop) -> Prop
def ac (X : Cx) (t : TSet) : Prop :=
 ∀ (pins : List (Addr × Obj)) (s : Shared) (Z : St) (H : Hp) (o i v : V) (ov iv u : Value) (Q : Hp -> Prop), Inv X pins Z H s -> RelV o ov -> RelV i iv -> RelV v u -> t o i v H Q ->
  wpAny (model X.prog X.w) X.A (setItem ov iv u) (λ_ s' => ∃ H', Inv X pins Z H' s' /\ Q H') X.xe s
abbrev TIp := V -> V -> Hp -> VK -> Prop
def PIp (X : Cx) (op : Operator) (t : TIp) : Prop :=
 ∀ (pins : List (Addr × Obj)) (s : Shared) (Z : St) (H : Hp) (x y : V) (v u : Value) (Q : VK), Inv X pins Z H s -> RelV x v -> RelV y u -> t x y H Q ->
  wpAny (model X.prog X.w) X.A (inplaceOp op v u) (EP X pins Z Q) X.xe s
section
variable {X : Cx} {pos : Pos}
def Db (i : Nat) : TG := λv Z H Q => Q (Z.set i (some v)) H
theorem Ac {i : Nat} {x : Str} (hN : X.N.Nodup) (hi : X.N[i]? = some x) (hx : Loc X.env.scope x) (hf : X.fn x = true \/ X.env.scope.names.lookup x = some .local := by first | exact .inl rfl | exact .inr rfl | assumption) : PG X (.Name x pos) (Db i) := by
 intro pins s Z H v u Q I r h
 exact wpAny_assign_Name (J0 I hN hi hx r (λs' I' => ⟨_, H, I', h⟩) hf)
def gNil : TGs := λvs Z H Q => vs = [] /\ Q Z H
def Fa (t : TG) (u : TGs) : TGs := λvs Z H Q => ∃ v r, vs = v :: r /\ t v Z H λZ' H' => u r Z' H' Q
theorem Cw : PGs X [] gNil := by
 intro pins s Z H vs us Q I r h
 obtain ⟨e, h⟩ := h
 subst e
 cases r
 exact assignInOrder_nil ⟨Z, H, I, h⟩
theorem As {e : Expr} {es : List Expr} {t : TG} {u : TGs} (h1 : PG X e t) (h2 : PGs X es u)
  (hs : (assignEach (e :: es) X.env).map (·.2) = assign e X.env :: (assignEach es X.env).map (·.2) := by rfl) : PGs X (e :: es) (Fa t u) := by
 intro pins s Z H vs us Q I r h
 obtain ⟨v, vr, e1, h⟩ := h
 subst e1
 cases r with
 | cons r rr =>
  rw [hs]
  refine assignInOrder_cons (thn (h1 pins s Z H _ _ _ I r h) λ_ s1 ⟨σ1, H1, I1, q1⟩ => ?_)
  exact h2 pins s1 σ1 H1 _ _ Q I1 rr q1
def Tq (K : Zzu) (n : Nat) (t : TGs) : TG := λv Z H Q => ∃ a xs, v = .ref a /\ SqT K H a xs /\ xs.length = n /\ t xs Z H Q
theorem Dx {es : List Expr} {k : Nat} {t : TGs} {n : Nat} (hc : X.calm = true) (h : PGs X es t)
  (hn : (assignEach es X.env).length = n := by rfl) (hst : (assignEach es X.env).findIdx? (·.1) = none := by rfl) : PG X (.Tuple es k pos) (Tq X.K n t) := by
 intro pins s Z H v u Q I r hw
 obtain ⟨a, xs, e1, hq, hl, hw⟩ := hw
 subst e1
 cases r
 obtain ⟨its, rv, ht, hz⟩ := I.tuple hq
 refine assign_Tuple_tuple (I.ok.hd hc) ht (by simp [hn, <- hl, rv.length]) hst λh' hx => ?_
 have I1 : Inv X pins Z H { s with heap := h' } := I.kept (t' := s.toks) λb o e => hx b o (Zz0 (Zzo e)) e
 exact h pins _ Z H xs _ Q I1 (by simpa using rv) hw
def mh (to ti : TE) (t : TSet) : TG := λv Z H Q => to Z H λo H1 => ti Z H1 λi H2 => t o i v H2 λH3 => Q Z H3
theorem Fu {o i : Expr} {to ti : TE} {t : TSet} (ho : PE X o to) (hi : PE X i ti) (hs : ac X t)
  (ha : ∀ v, assign (.Subscript o i pos) X.env v = (do
   let ov <- holding [v] (eval o X.env)
   let iv <- holding [v, ov] (eval i X.env)
   standAt pos
   holding [v, ov, iv] (setItem ov iv v)
   release [v, ov, iv] []) := by intro _; rfl) : PG X (.Subscript o i pos) (mh to ti t) := by
 intro pins s Z H v u Q I r h
 rw [ha]
 refine wpAny_bind (wpAny_holding (thn (ho pins s Z H _ I h) λov s1 ⟨x, H1, I1, r1, q1⟩ => ?_))
 refine wpAny_bind (wpAny_holding (thn (hi pins s1 Z H1 _ I1 q1) λiv s2 ⟨y, H2, I2, r2, q2⟩ => ?_))
 refine wpAny_bind (wpAny_standAt (wpAny_bind (wpAny_holding (thn (hs pins s2 Z H2 x y v ov iv u _ I2 r1 r2 r q2) λ_ s3 ⟨H3, I3, q3⟩ => ?_))))
 exact wpAny_release ⟨Z, H3, I3, q3⟩
def ax (te : TE) (g : TG) : TS := λD Z H => te Z H λx H1 => g x Z H1 D.nx
theorem Ek {tg e : Expr} {te : TE} {g : TG} (he : PE X e te) (hg : PG X tg g) (hs : swapsWithSole [tg] e pos.line X.env = pure false := by rfl) (hw : swappedStores [tg] e X.env = pure none := by rfl)
  (h1 : (assignEach [tg] X.env).map (·.2) = [assign tg X.env] := by rfl) : PS X (.Assign [tg] e pos) (ax te g) := by
 intro pins s Z H D I h
 refine wpAny_Assign_stores (thn (he pins s Z H _ I h) λv s1 ⟨x, H1, I1, r1, q1⟩ => ?_) hs hw
 rw [h1]
 exact thn (hg pins s1 Z H1 x v _ I1 r1 q1) λ_ s2 q => q
theorem Ae {i : Nat} {x : Str} {e : Expr} {te : TE} {pos' : Pos} (hN : X.N.Nodup) (hi : X.N[i]? = some x) (hx : Loc X.env.scope x) (he : PE X e te) (hs : swapsWith e (some (.Name x pos')) pos.line X.env = pure false := by rfl) (hf : X.fn x = true \/ X.env.scope.names.lookup x = some .local := by first | exact .inl rfl | exact .inr rfl | assumption) :
  PS X (.Assign [.Name x pos'] e pos) (ax te (Db i)) := by
 intro pins s Z H D I h
 refine wpAny_Assign_Name (thn (he pins s Z H _ I h) λv s1 ⟨y, H1, I1, r1, q1⟩ => ?_) hs
 exact J0 I1 hN hi hx r1 (λs2 I2 => ⟨_, H1, I2, q1⟩) hf
def lf (i : Nat) (te : TE) (ti : TIp) : TS := λD Z H => ∃ x, Z[i]? = some (some x) /\ te Z H λy H1 => ti x y H1 λz H2 => D.nx (Z.set i (some z)) H2
theorem Hc {i : Nat} {x : Str} {e : Expr} {te : TE} {op : Operator} {ti : TIp} {pos' : Pos} (hN : X.N.Nodup) (hi : X.N[i]? = some x) (hx : Loc X.env.scope x) (he : PE X e te) (ho : PIp X op ti) (hf : X.fn x = true \/ X.env.scope.names.lookup x = some .local := by first | exact .inl rfl | exact .inr rfl | assumption) :
  PS X (.AugAssign (.Name x pos') op e pos) (lf i te ti) := by
 intro pins s Z H D I h
 obtain ⟨v, e1, h⟩ := h
 obtain ⟨m, hn, hl⟩ := I.loc
 have vis : Vis X.env.scope x := by rcases hx with k | k; exact .inl k; exact .inr (.inl k)
 obtain ⟨u, r, l⟩ := hl i x v hi e1 vis
 refine wpAny_AugAssign_Name ?_
 have go : wpAny (model X.prog X.w) X.A (eval e X.env) (λw s₂ => wpAny (model X.prog X.w) X.A (inplaceOp op u w) (λr s₃ => wpAny (model X.prog X.w) X.A (storeName X.env x r) (λ_ => SP X pins D .next) X.xe s₃) X.xe s₂) X.xe s := by
  refine thn (he pins s Z H _ I h) λw s1 ⟨y, H1, I1, r1, q1⟩ => ?_
  refine thn (ho pins s1 Z H1 v y u w _ I1 r r1 q1) λz s2 ⟨zv, H2, I2, r2, q2⟩ => ?_
  exact J0 I2 hN hi hx r2 (λs3 I3 => ⟨_, H2, I3, q2⟩) hf
 rcases l with ⟨hk, hm⟩ | ⟨hk, c, hc, hcell⟩
 ·exact wpAny_loadName_local I.ok.kind hk hn hm go
 ·rcases hk with hk | hk
  ·exact wpAny_loadName_cell I.ok.kind hk hc hcell go
  ·rcases hx with k | k
   ·have : X.env.scope.names.lookup x = some .free := hk
    rw [k] at this; cases this
   ·have : X.env.scope.names.lookup x = some .free := hk
    rw [k] at this; cases this
def g8 (to ti te : TE) (tget : V -> V -> Hp -> VK -> Prop) (tip : TIp) (tset : TSet) : TS := λD Z H => to Z H λo H1 => ti Z H1 λi H2 => tget o i H2 λx H3 => te Z H3 λy H4 => tip x y H4 λz H5 => tset o i z H5 λH6 => D.nx Z H6
def js (X : Cx) (t : V -> V -> Hp -> VK -> Prop) : Prop :=
 ∀ (pins : List (Addr × Obj)) (s : Shared) (Z : St) (H : Hp) (o i : V) (ov iv : Value) (Q : VK), Inv X pins Z H s -> RelV o ov -> RelV i iv -> t o i H Q ->
  wpAny (model X.prog X.w) X.A (getItem ov iv) (EP X pins Z Q) X.xe s
theorem L6 {o i e : Expr} {to ti te : TE} {tget : V -> V -> Hp -> VK -> Prop} {tip : TIp} {tset : TSet} {op : Operator} {tpos : Pos} (ho : PE X o to) (hi : PE X i ti) (hg : js X tget) (he : PE X e te) (hp : PIp X op tip) (hs : ac X tset)
  (ha : ∀ ov iv new, augStore i ov iv new = (do holding [new, ov, iv] (setItem ov iv new); release [new, ov, iv] []; pure .next) := by intros; rfl) : PS X (.AugAssign (.Subscript o i tpos) op e pos) (g8 to ti te tget tip tset) := by
 intro pins s Z H D I h
 refine wpAny_AugAssign_SubscriptAny (thn (ho pins s Z H _ I h) λov s1 ⟨x1, H1, I1, r1, q1⟩ => ?_) ha
 refine thn (hi pins s1 Z H1 _ I1 q1) λiv s2 ⟨x2, H2, I2, r2, q2⟩ => ?_
 refine thn (hg pins s2 Z H2 x1 x2 ov iv _ I2 r1 r2 q2) λold s3 ⟨x3, H3, I3, r3, q3⟩ => ?_
 refine thn (he pins s3 Z H3 _ I3 q3) λv s4 ⟨x4, H4, I4, r4, q4⟩ => ?_
 refine thn (hp pins s4 Z H4 x3 x4 old v _ I4 r3 r4 q4) λnew s5 ⟨x5, H5, I5, r5, q5⟩ => ?_
 exact thn (hs pins s5 Z H5 x1 x2 x5 ov iv new _ I5 r1 r2 r5 q5) λ_ s6 ⟨H6, I6, q6⟩ => ⟨Z, H6, I6, q6⟩
end
section
variable {X : Cx} {pos : Pos}
def ig (c : TT) (tb : TS) : TS := λD Z H => ∃ W : Nat -> St -> Hp -> Prop, (∃ m, W m Z H) /\ ∀ m Z H, W m Z H ->
 c Z H λb H1 => if b = true then ∃ N : St -> Hp -> Prop, (∀ Z' H', N Z' H' -> ∃ m', m' < m /\ W m' Z' H') /\ tb { D with nx := N, ct := N, bk := D.nx } Z H1 else D.nx Z H1
theorem Y4 {c : Expr} {body : List Stmt} {tc : TT} {tb : TS} (hp : PassesOwn (model X.prog X.w) X.A X.env X.xe) (hc : PT X c tc) (hb : PSs X body tb) : PS X (.While c body [] pos) (ig tc tb) := by
 intro pins s Z H D I h
 obtain ⟨W, ⟨m0, w0⟩, turn⟩ := h
 refine wpAny_While (codeAny_whileLoop (λn s' => ∃ Z' H', Inv X pins Z' H' s' /\ W n Z' H') ?_ m0 ⟨Z, H, I, w0⟩)
 rintro n s1 ⟨σ1, H1, I1, w1⟩
 refine wpAny_passesOwn hp (thn (hc pins s1 σ1 H1 _ I1 (turn n σ1 H1 w1)) λb s2 ⟨H2, I2, q2⟩ => ?_)
 cases b with
 | true =>
  obtain ⟨N, hN, q2⟩ := q2
  rw [if_pos rfl]
  refine wpAny_passesOwn hp (thn (hb pins s2 σ1 H2 _ I2 q2) λf s3 q3 => ?_)
  cases f with
  | next =>
   obtain ⟨σ3, H3, I3, n3⟩ := q3
   obtain ⟨m', hm, w3⟩ := hN σ3 H3 n3
   exact ⟨m', hm, σ3, H3, I3, w3⟩
  | cont =>
   obtain ⟨σ3, H3, I3, n3⟩ := q3
   obtain ⟨m', hm, w3⟩ := hN σ3 H3 n3
   exact ⟨m', hm, σ3, H3, I3, w3⟩
  | brk => exact q3
  | ret v => exact q3
 | false =>
  rw [if_neg Zzc]
  exact wpAny_execs_nil ⟨σ1, H2, I2, q2⟩
end
structure It where
 go : Nat -> Hp -> Prop
 yld : Nat -> Hp -> V -> Hp -> Prop
 stop : Nat -> Hp -> Prop
def Fz (X : Cx) (pins : List (Addr × Obj)) (H : Hp) (b : Addr) : Prop :=
 H b = none /\ b ≠ X.env.locals /\ b ∉ X.fs /\ (b ∈ X.ex \/ X.s₀.heap.objs.size <= b) /\ (∀ x c, X.env.cells.lookup x = some c -> c ≠ b) /\ ∀ p ∈ X.pn ++ pins, p.1 ≠ b
theorem Inv.fpOk {X : Cx} {pins : List (Addr × Obj)} {Z : St} {H H' : Hp} {s : Shared} {b : Addr} (I : Inv X pins Z H s) (hb : s.heap.objs.size <= b) (hn : H' b = none) : Fz X pins H' b := by
 refine ⟨hn, Zxb (Zzi I.lt hb), I.nofs hb, .inr (Zyz I.sz hb), λx c e z => ?_, λp hp z => ?_⟩
 ·obtain ⟨v, q⟩ := I.cell x c e
  exact absurd (Zzi q.lt (by rw [z]; exact hb)) (Zxk _)
 ·exact absurd (Zzi (Zzo (I.pin p hp).1) (by rw [z]; exact hb)) (Zxk _)
structure L4 (P : Program) (w : World) (K : Zzu) (tg : Expr) (J : It) (fp : List Addr) (it : Addr) (tn : Nat -> Heap -> Prop) : Prop where
 mem : it ∈ fp
 obj : ∀ i h, tn i h -> ∀ b ∈ fp, ∃ o, h.get? b = some o /\ ∀ v, o.data ≠ .cell v
 keep : ∀ i h h', tn i h -> (∀ b ∈ fp, ∀ o, h.get? b = some o -> h'.get? b = some o) -> tn i h'
 item : ∀ (X : Cx), X.prog = P -> X.w = w -> X.K = K -> X.calm = true -> ∀ (i : Nat) (pins : List (Addr × Obj)) (s : Shared) (Z : St) (H : Hp) (E : Value -> Shared -> Prop), Inv X pins Z H s -> (∀ b ∈ fp, Fz X pins H b) -> tn i s.heap -> J.go i H ->
  wpAny (model P w) X.A (pyNext (.ref it)) (λr s1 => ∃ u, r = some u /\
   wpAny (model P w) X.A (letOwnedTupleGo tg (.ref it) u) (λ_ s2 => ∃ x H', Inv X pins Z H' s2 /\ RelV x u /\ J.yld i H x H' /\ tn (i + 1) s2.heap /\ ∀ b ∈ fp, H' b = none) E s1) E s
 done : ∀ (X : Cx), X.prog = P -> X.w = w -> X.K = K -> X.calm = true -> ∀ (i : Nat) (pins : List (Addr × Obj)) (s : Shared) (Z : St) (H : Hp) (E : Value -> Shared -> Prop), Inv X pins Z H s -> (∀ b ∈ fp, Fz X pins H b) -> tn i s.heap -> J.stop i H ->
  wpAny (model P w) X.A (pyNext (.ref it)) (λr s1 => r = none /\ Inv X pins Z H s1) E s
 self : ∀ (A : Around) (i : Nat) (s : Shared) (Q : Value -> Shared -> Prop) (E : Value -> Shared -> Prop), tn i s.heap -> Q (.ref it) s -> wpAny (model P w) A (pyIter (.ref it)) Q E s
abbrev TI := St -> Hp -> (It -> Hp -> Prop) -> Prop
def PIE (X : Cx) (pins : List (Addr × Obj)) (Z : St) (tg : Expr) (R : It -> Hp -> Prop) (itv : Value) (s2 : Shared) : Prop :=
 ∃ (it : Addr) (fp : List Addr) (tn : Nat -> Heap -> Prop) (J : It) (H' : Hp), itv = .ref it /\ Inv X pins Z H' s2 /\ L4 X.prog X.w X.K tg J fp it tn /\ tn 0 s2.heap /\ (∀ b ∈ fp, Fz X pins H' b) /\ R J H'
def PI (X : Cx) (tg iter : Expr) (wi : TI) : Prop :=
 ∀ (pins : List (Addr × Obj)) (s : Shared) (Z : St) (H : Hp) (R : It -> Hp -> Prop), Inv X pins Z H s -> wi Z H R ->
  wpAny (model X.prog X.w) X.A (eval iter X.env) (λv s1 => wpAny (model X.prog X.w) X.A (pyIter v) (PIE X pins Z tg R) X.xe s1) X.xe s
theorem On {M : Model} {A : Around} {E : Value -> Shared -> Prop} {s : Shared} {tg : Expr} {it : Addr} {u : Value} {o : Obj} {n : String} {vs : Array Value} {Q : Unit -> Shared -> Prop} (ho : s.heap.get? it = some o) (hc : o.cls = .type n) (hd : o.data = .fields vs)
  (hn : ["enumerate", "zip", "dict_itemiterator", "dict_reverseitemiterator", "odict_iterator", "itertools.zip_longest", "itertools.pairwise"].contains n = false) (hQ : Q () s) : wpAny M A (letOwnedTupleGo tg (.ref it) u) Q E s := by
 unfold letOwnedTupleGo
 cases tg <;> first
  | exact wpAny_pure hQ
  | (cases u <;> first
    | exact wpAny_pure hQ
    | (refine wpAny_bind (wpAny_load ho ?_)
       rw [hc, hd]
       show wpAny M A (if (["enumerate", "zip", "dict_itemiterator", "dict_reverseitemiterator", "odict_iterator", "itertools.zip_longest", "itertools.pairwise"].contains n && vs[0]? == some (rawInt _)) = true then _ else _) Q E s
       rw [if_neg (by intro h; rw [hn, Bool.false_and] at h; cases h)]
       exact wpAny_pure hQ))
def Itl (K : Zzu) (a : Addr) : It :=
 ⟨λi H => ∃ xs x, SqL K H a xs /\ xs[i]? = some x, λi H x H' => H' = H /\ ∀ xs, SqL K H a xs -> xs[i]? = some x, λi H => ∃ xs, SqL K H a xs /\ xs.length <= i⟩
def Itt (K : Zzu) (a : Addr) : It :=
 ⟨λi H => ∃ xs x, SqT K H a xs /\ xs[i]? = some x, λi H x H' => H' = H /\ ∀ xs, SqT K H a xs -> xs[i]? = some x, λi H => ∃ xs, SqT K H a xs /\ xs.length <= i⟩
def Itr (lo : Int) (n : Nat) : It := ⟨λi _ => i < n, λi H x H' => H' = H /\ x = .int (lo + i), λi _ => n <= i⟩
theorem Cp {P : Program} {w : World} {K : Zzu} {tg : Expr} (a it : Addr) : L4 P w K tg (Itl K a) [it] it (λi h => h.IsListIter it a i) where
 mem := by simp
 obj := λi h st b hb => by
  have e : b = it := by simpa using hb
  subst e
  obtain ⟨o, e, c, d⟩ := st
  exact ⟨o, e, λv z => by rw [d] at z; cases z⟩
 keep := λi h h' st k => st.at λo e => k it (by simp) o e
 item := by
  intro X hP hw hK hc i pins s Z H E I hf st hg
  subst hP hw hK
  obtain ⟨xs, x, hq, hx⟩ := hg
  obtain ⟨its, rv, p, hz⟩ := I.list hq
  obtain ⟨u, hu, ru⟩ := rv.get hx
  obtain ⟨f0, f1, f2, f3, f4, f5⟩ := hf it (by simp)
  refine wpAny_pyNext_list_item st p.isList (x := u) (by simpa using hu) λh' st' sb => ?_
  have I1 : Inv X pins Z H { s with heap := h' } := I.turned (t' := s.toks) (λb o hb e => (sb.2 b hb).trans e) f0 f1 f3 f4 f5
  obtain ⟨o, e, c, d⟩ := id st'
  exact ⟨u, rfl, On (s := { s with heap := h' }) e c d (by decide) ⟨x, H, I1, ru, ⟨rfl, λys hy => by rw [I.list_inj hy hq]; exact hx⟩, st', λb hb => (hf b hb).1⟩⟩
 done := by
  intro X hP hw hK hc i pins s Z H E I hf st hg
  subst hP hw hK
  obtain ⟨xs, hq, hx⟩ := hg
  obtain ⟨its, rv, p, hz⟩ := I.list hq
  obtain ⟨f0, f1, f2, f3, f4, f5⟩ := hf it (by simp)
  have hl := rv.length
  exact wpAny_pyNext_list_end (I.ok.hd hc) st p.isList (by simp; omega) λh' eb => ⟨rfl, I.turned (t' := s.toks) (λb o hb e => eb b o hb e) f0 f1 f3 f4 f5⟩
 self := λ_ _ _ _ _ st h => wpAny_pyIter_listiter st h
theorem E6 {P : Program} {w : World} {K : Zzu} {tg : Expr} (a it : Addr) : L4 P w K tg (Itt K a) [it] it (λi h => h.IsTupleIter it a i) where
 mem := by simp
 obj := λi h st b hb => by
  have e : b = it := by simpa using hb
  subst e
  obtain ⟨o, e, c, d⟩ := st
  exact ⟨o, e, λv z => by rw [d] at z; cases z⟩
 keep := λi h h' st k => st.at λo e => k it (by simp) o e
 item := by
  intro X hP hw hK hc i pins s Z H E I hf st hg
  subst hP hw hK
  obtain ⟨xs, x, hq, hx⟩ := hg
  obtain ⟨its, rv, p, hz⟩ := I.tuple hq
  obtain ⟨u, hu, ru⟩ := rv.get hx
  obtain ⟨f0, f1, f2, f3, f4, f5⟩ := hf it (by simp)
  refine wpAny_pyNext_tuple_item st (show s.heap.IsTuple a its.toArray from p) (x := u) (by simpa using hu) λh' st' sb => ?_
  have I1 : Inv X pins Z H { s with heap := h' } := I.turned (t' := s.toks) (λb o hb e => (sb.2 b hb).trans e) f0 f1 f3 f4 f5
  obtain ⟨o, e, c, d⟩ := id st'
  exact ⟨u, rfl, On (s := { s with heap := h' }) e c d (by decide) ⟨x, H, I1, ru, ⟨rfl, λys hy => by rw [I.tuple_inj hy hq]; exact hx⟩, st', λb hb => (hf b hb).1⟩⟩
 done := by
  intro X hP hw hK hc i pins s Z H E I hf st hg
  subst hP hw hK
  obtain ⟨xs, hq, hx⟩ := hg
  obtain ⟨its, rv, p, hz⟩ := I.tuple hq
  obtain ⟨f0, f1, f2, f3, f4, f5⟩ := hf it (by simp)
  have hl := rv.length
  exact wpAny_pyNext_tuple_end (I.ok.hd hc) st (show s.heap.IsTuple a its.toArray from p) (by simp; omega) λh' eb => ⟨rfl, I.turned (t' := s.toks) (λb o hb e => eb b o hb e) f0 f1 f3 f4 f5⟩
 self := λ_ _ _ _ _ st h => wpAny_pyIter_tupleiter st h
theorem Ss {P : Program} {w : World} {K : Zzu} {tg : Expr} (it : Addr) (lo : Int) (n : Nat) : L4 P w K tg (Itr lo n) [it] it (λi h => IsRangeIter h it (lo + (i : Nat) * 1) ((n : Int) - (i : Nat)) 1) where
 mem := by simp
 obj := λi h st b hb => by
  have e : b = it := by simpa using hb
  subst e
  exact ⟨_, st, λv z => by
   have z' : Data.fields _ = Data.cell v := z
   cases z'⟩
 keep := λi h h' st k => k it (by simp) _ st
 item := by
  intro X hP hw hK hc i pins s Z H E I hf st hg
  subst hP hw hK
  obtain ⟨f0, f1, f2, f3, f4, f5⟩ := hf it (by simp)
  have W := Walks.range (prog := X.prog) (w := X.w) (I.ok.hd hc) it lo 1 n
  refine W.item i s _ _ hg st λv h' tk hv st' kk => ?_
  obtain ⟨t, rfl⟩ := hv
  have I1 : Inv X pins Z H { s with heap := h', toks := tk } := I.turned (λb o hb e => kk b o (by simpa using hb) e) f0 f1 f3 f4 f5
  refine ⟨_, rfl, On (s := { s with heap := h', toks := tk }) (n := "range_iterator") st' rfl rfl (by decide) ⟨.int (lo + i), H, I1, ⟨t, ?_⟩, ⟨rfl, rfl⟩, st', λb hb => (hf b hb).1⟩⟩
  rw [Int.mul_one]
 done := by
  intro X hP hw hK hc i pins s Z H E I hf st hg
  subst hP hw hK
  obtain ⟨f0, f1, f2, f3, f4, f5⟩ := hf it (by simp)
  exact wpAny_pyNext_range_end (I.ok.hd hc) st (by have : n <= i := hg; omega) λh' eb => ⟨rfl, I.turned (t' := s.toks) (λb o hb e => eb b o hb e) f0 f1 f3 f4 f5⟩
 self := λ_ _ _ _ _ st h => wpAny_pyIter_rangeiter st h
section
variable {X : Cx} {tg : Expr}
def gl (K : Zzu) (tl : TE) : TI := λZ H R => tl Z H λx H1 => ∃ a, x = .ref a /\ (∃ xs, SqL K H1 a xs) /\ R (Itl K a) H1
theorem bn {l : Expr} {tl : TE} (hl : PE X l tl) : PI X tg l (gl X.K tl) := by
 intro pins s Z H R I h
 refine thn (hl pins s Z H _ I h) λv s1 ⟨x, H1, I1, r1, q1⟩ => ?_
 obtain ⟨a, e, ⟨xs, hq⟩, q⟩ := q1
 subst e
 cases r1
 obtain ⟨its, rv, p, hz⟩ := I1.list hq
 refine wpAny_pyIter_list p.isList ?_
 refine ⟨s1.heap.objs.size, [s1.heap.objs.size], _, _, H1, rfl, I1.kept (t' := s1.toks) λb o e => Zzy _ e, Cp a _, ⟨_, Zzm _ rfl, rfl, rfl⟩, λb hb => ?_, q⟩
 have e : b = s1.heap.objs.size := by simpa using hb
 subst e
 exact I1.fpOk (Zzw _) (I1.hok.fresh (Zzw _))
theorem Rb {pins : List (Addr × Obj)} {Z : St} {H : Hp} {s : Shared} {R : It -> Hp -> Prop} {E : Value -> Shared -> Prop} {lo hi : Int} {t u v : Tok} {tk : Nat} (I : Inv X pins Z H s) (h1 : -(2 ^ 62) <= lo) (h2 : lo < 2 ^ 62) (h3 : -(2 ^ 62) <= hi) (h4 : hi < 2 ^ 62)
  (q : R (Itr lo (hi - lo).toNat) H) : wpAny (model X.prog X.w) X.A (pyIter (.ref s.heap.objs.size)) (PIE X pins Z tg R) E { s with heap := s.heap.push { cls := .type "range", data := .fields #[.int lo t, .int hi u, .int 1 v] }, toks := tk } := by
 refine wpAny_pyIter_range (IsRange.new ..) (small_one h1 h2 h3 h4) ?_
 have I1 : Inv X pins Z H { s with heap := s.heap.push { cls := .type "range", data := .fields #[.int lo t, .int hi u, .int 1 v] }, toks := tk } := I.kept λb o e => Zzy _ e
 refine ⟨(s.heap.push { cls := .type "range", data := .fields #[.int lo t, .int hi u, .int 1 v] }).objs.size, [(s.heap.push { cls := .type "range", data := .fields #[.int lo t, .int hi u, .int 1 v] }).objs.size], _, _, H, rfl,
  I1.kept (t' := tk) λb o e => Zzy _ e, Ss _ lo (hi - lo).toNat, ?_, λb hb => ?_, q⟩
 ·have e1 : lo + ((0 : Nat) : Int) * 1 = lo := by simp
  have e2 : (((hi - lo).toNat : Nat) : Int) - ((0 : Nat) : Int) = Builtin.Range.rangeSize lo hi 1 := by rw [rangeSize_one]; split <;> omega
  show IsRangeIter _ _ (lo + ((0 : Nat) : Int) * 1) ((((hi - lo).toNat : Nat) : Int) - ((0 : Nat) : Int)) 1
  rw [e1, e2]
  exact Zzm _ rfl
 ·have e : b = (s.heap.push { cls := .type "range", data := .fields #[.int lo t, .int hi u, .int 1 v] }).objs.size := by simpa using hb
  subst e
  exact I1.fpOk (Zzw _) (I1.hok.fresh (Zzw _))
def Z1 (ta : TA) : TI := λZ H R => ta Z H λvs H1 => ∃ j : Int, vs = [.int j] /\ -(2 ^ 62) <= j /\ j < 2 ^ 62 /\ R (Itr 0 j.toNat) H1
def Z0 (ta : TA) : TI := λZ H R => ta Z H λvs H1 => ∃ i j : Int, vs = [.int i, .int j] /\ (-(2 ^ 62) <= i /\ i < 2 ^ 62 /\ -(2 ^ 62) <= j /\ j < 2 ^ 62) /\ R (Itr i (j - i).toNat) H1
theorem W2 {a : Expr} {ta : TA} {p pos : Pos} (hg : Gl X "range") (hm : X.mg "range" = none) (ha : PA X [a] ta) (hs : starEach [a] X.env = [(false, eval a X.env)] := by rfl) : PI X tg (.Call (.Name "range" p) [a] [] pos) (Z1 ta) := by
 intro pins s Z H R I h
 refine Call_ (Fv I hg hm boot_range (Zxz (thn (ha pos pins s Z H _ I h) λus s1 ⟨vs, H1, I1, r1, q1⟩ => ?_) hs rfl))
 obtain ⟨j, e, q1, q2, q⟩ := q1
 subst e
 cases r1 with
 | cons r rr =>
  cases rr
  obtain ⟨t, rfl⟩ := r
  exact call_range_1 (Rb I1 (by omega) (by omega) q1 q2 (by simpa using q))
theorem W1 {a b : Expr} {ta : TA} {p pos : Pos} (hg : Gl X "range") (hm : X.mg "range" = none) (ha : PA X [a, b] ta) (hs : starEach [a, b] X.env = [(false, eval a X.env), (false, eval b X.env)] := by rfl) (hs2 : starEach [b] X.env = [(false, eval b X.env)] := by rfl) :
  PI X tg (.Call (.Name "range" p) [a, b] [] pos) (Z0 ta) := by
 intro pins s Z H R I h
 refine Call_ (Fv I hg hm boot_range (Zxz (thn (ha pos pins s Z H _ I h) λus s1 ⟨vs, H1, I1, r1, q1⟩ => ?_) (by rw [hs, hs2]) (by rw [hs2]; rfl)))
 obtain ⟨i, j, e, ⟨q1, q2, q3, q4⟩, q⟩ := q1
 subst e
 cases r1 with
 | cons r rr =>
  cases rr with
  | cons r' rr =>
   cases rr
   obtain ⟨t, rfl⟩ := r
   obtain ⟨t', rfl⟩ := r'
   exact call_range_2 (Rb I1 q1 q2 q3 q4 q)
def la (wi : TI) (g : TG) (tb : TS) : TS := λD Z H => wi Z H λJ H1 => ∃ W : Nat -> Nat -> St -> Hp -> Prop, (∃ m, W 0 m Z H1) /\ ∀ i m Z H, W i m Z H ->
 (J.stop i H /\ D.nx Z H) \/ (J.go i H /\ ∃ N : St -> Hp -> Prop, (∀ Z' H', N Z' H' -> ∃ m', m' < m /\ W (i + 1) m' Z' H') /\ ∀ x H', J.yld i H x H' -> g x Z H' λσ2 H2 => tb { D with nx := N, ct := N, bk := D.nx } σ2 H2)
def Hd (fp : List Addr) (h : Heap) : List (Addr × Obj) := fp.filterMap λb => (h.get? b).map λo => (b, o)
theorem Em {fp : List Addr} {h : Heap} {b : Addr} {o : Obj} (hb : b ∈ fp) (e : h.get? b = some o) : (b, o) ∈ Hd fp h := Zxc.mpr ⟨b, hb, by rw [e]; rfl⟩
theorem Wd {fp : List Addr} {h : Heap} {p : Addr × Obj} (hp : p ∈ Hd fp h) : p.1 ∈ fp /\ h.get? p.1 = some p.2 := by
 obtain ⟨b, hb, e⟩ := Zxc.mp hp
 cases q : h.get? b with
 | none => rw [q] at e; cases e
 | some o =>
  rw [q] at e
  have e' : (b, o) = p := Zza e
  subst e'
  exact ⟨hb, q⟩
theorem Inv.pinned {pins : List (Addr × Obj)} {Z : St} {H : Hp} {s : Shared} {fp : List Addr} (I : Inv X pins Z H s) (hf : ∀ b ∈ fp, Fz X pins H b) (ho : ∀ b ∈ fp, ∃ o, s.heap.get? b = some o /\ ∀ v, o.data ≠ .cell v) : Inv X (pins ++ Hd fp s.heap) Z H s :=
 I.pins_of λp hp => (Zyu.mp hp).elim (λz => I.pin p (Zz9 _ z)) λz => by
  obtain ⟨hb, e⟩ := Wd z
  obtain ⟨f0, f1, f2, _⟩ := hf p.1 hb
  obtain ⟨o, e', d⟩ := ho p.1 hb
  rw [e] at e'; cases e'
  exact ⟨e, f0, f1, f2, d⟩
theorem Inv.unpinned {pins pl : List (Addr × Obj)} {Z : St} {H : Hp} {s : Shared} (I : Inv X (pins ++ pl) Z H s) : Inv X pins Z H s := I.pins_of λp hp => I.pin p (Zz9 _ (Zyf _ hp))
theorem B3 {iter : Expr} {body : List Stmt} {wi : TI} {g : TG} {tb : TS} {pos : Pos} (hp : PassesOwn (model X.prog X.w) X.A X.env X.xe) (hc : X.calm = true) (hi : PI X tg iter wi) (hg : PG X tg g) (hb : PSs X body tb)
  (hs : ∀ x, foldedSetIterable iter X.env x = pure x := by intro _; rfl) : PS X (.For tg iter body [] pos) (la wi g tb) := by
 intro pins s Z H D I h
 refine wpAny_For (thn (hi pins s Z H _ I h) λv s1 h1 => thn h1 λitv s2 h2 => ?_) hs
 obtain ⟨it, fp, tn, J, H2, e, I2, T, st2, f2, W, ⟨m0, w0⟩, turn⟩ := h2
 subst e
 have stat : ∀ {H' : Hp}, (∀ b ∈ fp, H' b = none) -> ∀ b ∈ fp, Fz X pins H' b := λhn b hb => ⟨hn b hb, (f2 b hb).2⟩
 refine codeAny_forLoop_any (λn s' => ∃ i Z' H', Inv X pins Z' H' s' /\ tn i s'.heap /\ (∀ b ∈ fp, H' b = none) /\ W i n Z' H') ?_ m0 ⟨0, Z, H2, I2, st2, λb hb => (f2 b hb).1, w0⟩
 rintro n s3 ⟨i, σ3, H3, I3, st3, fr3, w3⟩
 rcases turn i n σ3 H3 w3 with ⟨stop, qn⟩ | ⟨go, N, hN, step⟩
 ·refine wpAny_passesOwn hp (thn (T.done X rfl rfl rfl hc i pins s3 σ3 H3 X.xe I3 (stat fr3) st3 stop) λr s4 ⟨hr, I4⟩ => ?_)
  subst hr
  exact wpAny_execs_nil ⟨σ3, H3, I4, qn⟩
 ·refine wpAny_passesOwn hp (thn (T.item X rfl rfl rfl hc i pins s3 σ3 H3 X.xe I3 (stat fr3) st3 go) λr s4 ⟨u, hr, h4⟩ => ?_)
  subst hr
  refine wpAny_passesOwn hp (thn h4 λ_ s5 ⟨x, H5, I5, r5, y5, st5, fr5⟩ => ?_)
  have I5' := I5.pinned (stat fr5) (T.obj _ _ st5)
  refine wpAny_passesOwn hp (thn (hg _ s5 σ3 H5 x u _ I5' r5 (step x H5 y5)) λ_ s6 ⟨σ6, H6, I6, q6⟩ => ?_)
  refine wpAny_passesOwn hp (thn (hb _ s6 σ6 H6 _ I6 q6) λf s7 q7 => ?_)
  have again : ∀ {σ7 : St} {H7 : Hp}, Inv X (pins ++ Hd fp s5.heap) σ7 H7 s7 -> N σ7 H7 -> ∃ m, m < n /\ ∃ i Z' H', Inv X pins Z' H' s7 /\ tn i s7.heap /\ (∀ b ∈ fp, H' b = none) /\ W i m Z' H' := λ{σ7 H7} I7 n7 => by
   obtain ⟨m', hm, w7⟩ := hN σ7 H7 n7
   refine ⟨m', hm, i + 1, σ7, H7, I7.unpinned, T.keep _ _ _ st5 λb hb o e => (I7.pin (b, o) (Zz9 _ (Zz9 _ (Em hb e)))).1, λb hb => ?_, w7⟩
   obtain ⟨o, e, d⟩ := T.obj _ _ st5 b hb
   exact (I7.pin (b, o) (Zz9 _ (Zz9 _ (Em hb e)))).2.1
  cases f with
  | next => obtain ⟨σ7, H7, I7, n7⟩ := q7; exact again I7 n7
  | cont => obtain ⟨σ7, H7, I7, n7⟩ := q7; exact again I7 n7
  | brk => obtain ⟨σ7, H7, I7, q7⟩ := q7; exact ⟨σ7, H7, I7.unpinned, q7⟩
  | ret v => obtain ⟨x7, σ7, H7, I7, r7, q7⟩ := q7; exact ⟨x7, σ7, H7, I7.unpinned, r7, q7⟩
end
theorem Z5 {K : Zzu} {a : Addr} {xs : List V} {g : TG} {tb : TS} {D : Ends} {Z : St} {H : Hp} (Pv : Nat -> St -> Hp -> Prop) (h0 : Pv 0 Z H) (hl : ∀ i Z H, i <= xs.length -> Pv i Z H -> SqL K H a xs)
  (hs : ∀ i x Z H, xs[i]? = some x -> Pv i Z H -> g x Z H λσ2 H2 => tb { D with nx := Pv (i + 1), ct := Pv (i + 1), bk := D.nx } σ2 H2) (hd : ∀ Z H, Pv xs.length Z H -> D.nx Z H) :
  ∃ W : Nat -> Nat -> St -> Hp -> Prop, (∃ m, W 0 m Z H) /\ ∀ i m Z H, W i m Z H ->
   ((Itl K a).stop i H /\ D.nx Z H) \/ ((Itl K a).go i H /\ ∃ N : St -> Hp -> Prop, (∀ Z' H', N Z' H' -> ∃ m', m' < m /\ W (i + 1) m' Z' H') /\ ∀ x H', (Itl K a).yld i H x H' -> g x Z H' λσ2 H2 => tb { D with nx := N, ct := N, bk := D.nx } σ2 H2) := by
 refine ⟨λi m Z H => m = xs.length - i /\ i <= xs.length /\ Pv i Z H, ⟨xs.length, by simp, Zyn _, h0⟩, ?_⟩
 rintro i m Z H ⟨rfl, hi, p⟩
 have q := hl i Z H hi p
 by_cases hlt : i < xs.length
 ·refine .inr ⟨⟨xs, xs[i], q, by simp [hlt]⟩, Pv (i + 1), λZ' H' p' => ⟨xs.length - (i + 1), by omega, rfl, hlt, p'⟩, λx H' y => ?_⟩
  obtain ⟨e, y⟩ := y
  subst e
  exact hs i x Z _ (y xs q) p
 ·have e : i = xs.length := by omega
  subst e
  exact .inl ⟨⟨xs, q, Zzw _⟩, hd Z H p⟩
abbrev R2 := V -> V -> Hp -> VK -> Prop
def OpR (X : Cx) (f : Value -> Value -> Sem Value) (r : R2) : Prop :=
 ∀ (pins : List (Addr × Obj)) (s : Shared) (Z : St) (H : Hp) (x y : V) (v u : Value) (Q : VK), Inv X pins Z H s -> RelV x v -> RelV y u -> r x y H Q ->
  wpAny (model X.prog X.w) X.A (f v u) (EP X pins Z Q) X.xe s
def UnR (X : Cx) (f : Value -> Sem Value) (r : V -> Hp -> VK -> Prop) : Prop :=
 ∀ (pins : List (Addr × Obj)) (s : Shared) (Z : St) (H : Hp) (x : V) (v : Value) (Q : VK), Inv X pins Z H s -> RelV x v -> r x H Q ->
  wpAny (model X.prog X.w) X.A (f v) (EP X pins Z Q) X.xe s
def CallR (X : Cx) (f : Value) (r : List V -> Hp -> VK -> Prop) : Prop :=
 ∀ (pins : List (Addr × Obj)) (s : Shared) (Z : St) (H : Hp) (xs : List V) (us : List Value) (Q : VK), Inv X pins Z H s -> Vals xs us -> r xs H Q ->
  wpAny (model X.prog X.w) X.A (call f us) (EP X pins Z Q) X.xe s
def TruR (X : Cx) (r : V -> Hp -> (Bool -> Hp -> Prop) -> Prop) : Prop :=
 ∀ (pins : List (Addr × Obj)) (s : Shared) (Z : St) (H : Hp) (x : V) (v : Value) (Q : Bool -> Hp -> Prop), Inv X pins Z H s -> RelV x v -> r x H Q ->
  wpAny (model X.prog X.w) X.A (truthy v) (TP X pins Z Q) X.xe s
def tOp (r : R2) (ta tb : TE) : TE := λZ H Q => ta Z H λx H1 => tb Z H1 λy H2 => r x y H2 Q
def tUn (r : V -> Hp -> VK -> Prop) (ta : TE) : TE := λZ H Q => ta Z H λx H1 => r x H1 Q
def rI (C : Int -> Int -> Prop) (g : Int -> Int -> V) : R2 := λx y H Q => ∃ i j, x = .int i /\ y = .int j /\ C i j /\ Q (g i j) H
def rI0 (g : Int -> Int -> V) : R2 := λx y H Q => ∃ i j, x = .int i /\ y = .int j /\ Q (g i j) H
def rU (g : Int -> V) : V -> Hp -> VK -> Prop := λx H Q => ∃ i, x = .int i /\ Q (g i) H
section
variable {X : Cx} {a b c : Expr} {ta tb tc : TE} {pos : Pos}
theorem jo (ha : PE X a ta) (hb : PE X b tb) {pins : List (Addr × Obj)} {s : Shared} {Z : St} {H : Hp} {R : V -> V -> Hp -> Prop} (I : Inv X pins Z H s)
  (h : ta Z H λx H1 => tb Z H1 λy H2 => R x y H2) {Q : Value -> Shared -> Prop} {f : Value -> Value -> Sem Value}
  (hf : ∀ v u s2 x y H2, Inv X pins Z H2 s2 -> RelV x v -> RelV y u -> R x y H2 -> wpAny (model X.prog X.w) X.A (f v u) Q X.xe s2) :
  wpAny (model X.prog X.w) X.A (eval a X.env) (λv s₁ => wpAny (model X.prog X.w) X.A (eval b X.env) (λu s₂ => wpAny (model X.prog X.w) X.A (f v u) Q X.xe s₂) X.xe s₁) X.xe s := by
 refine thn (ha pins s Z H _ I h) λv s1 ⟨x, H1, I1, r1, q1⟩ => ?_
 refine thn (hb pins s1 Z H1 _ I1 q1) λu s2 ⟨y, H2, I2, r2, q2⟩ => ?_
 exact hf v u s2 x y H2 I2 r1 r2 q2
theorem An {op : Operator} {r : R2} (ho : OpR X (binaryOp op) r) (ha : PE X a ta) (hb : PE X b tb) : PE X (.BinOp a op b pos) (tOp r ta tb) := by
 intro pins s Z H Q I h
 exact wpAny_BinOp (jo ha hb I h λv u s2 x y H2 I2 rx ry q => ho pins s2 Z H2 x y v u Q I2 rx ry q)
theorem Oc {op : UnaryOp} {r : V -> Hp -> VK -> Prop} (ho : UnR X (unaryOp op) r) (ha : PE X a ta) : PE X (.UnaryOp op a pos) (tUn r ta) := by
 intro pins s Z H Q I h
 exact UnaryOp_ (thn (ha pins s Z H _ I h) λv s1 ⟨x, H1, I1, r1, q1⟩ => ho pins s1 Z H1 x v Q I1 r1 q1)
theorem opI {f : Value -> Value -> Sem Value} {C : Int -> Int -> Prop} {g : Int -> Int -> Int}
  (rule : ∀ (i j : Int) (t u : Tok) (s : Shared) (Q : Value -> Shared -> Prop) (E : Value -> Shared -> Prop), C i j -> Q (.int (g i j) s.toks) { s with toks := s.toks + 1 } -> wpAny (model X.prog X.w) X.A (f (.int i t) (.int j u)) Q E s) :
  OpR X f (rI C λi j => .int (g i j)) := by
 intro pins s Z H x y v u Q I rx ry h
 obtain ⟨i, j, rfl, rfl, hc, q⟩ := h
 obtain ⟨t, rfl⟩ := rx
 obtain ⟨t', rfl⟩ := ry
 exact rule i j t t' s _ _ hc ⟨.int (g i j), H, I.tok _, ⟨_, rfl⟩, q⟩
theorem ce {f : Value -> Value -> Sem Value} {g : Int -> Int -> Int}
  (rule : ∀ (i j : Int) (t u : Tok) (s : Shared) (Q : Value -> Shared -> Prop) (E : Value -> Shared -> Prop), Q (.int (g i j) s.toks) { s with toks := s.toks + 1 } -> wpAny (model X.prog X.w) X.A (f (.int i t) (.int j u)) Q E s) :
  OpR X f (rI0 λi j => .int (g i j)) := by
 intro pins s Z H x y v u Q I rx ry h
 obtain ⟨i, j, rfl, rfl, q⟩ := h
 obtain ⟨t, rfl⟩ := rx
 obtain ⟨t', rfl⟩ := ry
 exact rule i j t t' s _ _ ⟨.int (g i j), H, I.tok _, ⟨_, rfl⟩, q⟩
theorem iz {f : Value -> Value -> Sem Value} {g : Int -> Int -> Bool}
  (rule : ∀ (i j : Int) (t u : Tok) (s : Shared) (Q : Value -> Shared -> Prop) (E : Value -> Shared -> Prop), Q (.bool (g i j)) s -> wpAny (model X.prog X.w) X.A (f (.int i t) (.int j u)) Q E s) :
  OpR X f (rI0 λi j => .bl (g i j)) := by
 intro pins s Z H x y v u Q I rx ry h
 obtain ⟨i, j, rfl, rfl, q⟩ := h
 obtain ⟨t, rfl⟩ := rx
 obtain ⟨t', rfl⟩ := ry
 exact rule i j t t' s _ _ ⟨.bl (g i j), H, I, rfl, q⟩
def CPow (i j : Int) : Prop := 0 <= j /\ j <= 1000000 /\ i.natAbs < 2 ^ 64
def CMul (i j : Int) : Prop := (-(2 ^ 64) < i /\ i < 2 ^ 64) \/ (-(2 ^ 64) < j /\ j < 2 ^ 64)
theorem CMul.ok {i j : Int} (h : CMul i j) : IntMulOk i j := by
 rcases h with ⟨h1, h2⟩ | ⟨h1, h2⟩
 ·exact .of_left (intBits_le_64 h1 h2)
 ·exact .of_right (intBits_le_64 h1 h2)
theorem Bi : OpR X (binaryOp .Add) (rI0 λi j => .int (i + j)) := ce λ_ _ _ _ _ _ _ q => add_int q
theorem Gn : OpR X (binaryOp .Sub) (rI0 λi j => .int (i - j)) := ce λ_ _ _ _ _ _ _ q => sub_int q
theorem Yh : OpR X (binaryOp .Mult) (rI CMul λi j => .int (i * j)) := opI λ_ _ _ _ _ _ _ hc q => mul_int q hc.ok
theorem Hg : OpR X (binaryOp .Mod) (rI (λ_ j => 0 < j) λi j => .int (i % j)) := opI λi j _ _ _ _ _ hc q => by
 have h1 : (0 : Int) < j := hc
 exact mod_int' (by omega) (by rw [Int.fmod_eq_emod_of_nonneg i (by omega)]; exact q)
theorem T9 : OpR X (binaryOp .Pow) (rI CPow λi j => .int (i ^ j.toNat)) := opI λ_ _ _ _ _ _ _ hc q => pow_int_small hc.1 hc.2.1 hc.2.2 q
theorem de : OpR X (inplaceOp .Add) (rI0 λi j => .int (i + j)) := ce λ_ _ _ _ _ _ _ q => iadd_int q
theorem dc : OpR X (inplaceOp .Sub) (rI0 λi j => .int (i - j)) := ce λ_ _ _ _ _ _ _ q => isub_int q
theorem unI {f : Value -> Sem Value} {g : Int -> Int}
  (rule : ∀ (i : Int) (t : Tok) (s : Shared) (Q : Value -> Shared -> Prop) (E : Value -> Shared -> Prop), Q (.int (g i) s.toks) { s with toks := s.toks + 1 } -> wpAny (model X.prog X.w) X.A (f (.int i t)) Q E s) :
  UnR X f (rU λi => .int (g i)) := by
 intro pins s Z H x v Q I rx h
 obtain ⟨i, rfl, q⟩ := h
 obtain ⟨t, rfl⟩ := rx
 exact rule i t s _ _ ⟨.int (g i), H, I.tok _, ⟨_, rfl⟩, q⟩
theorem Ju : UnR X (unaryOp .USub) (rU λi => .int (-i)) := unI λ_ _ _ _ _ q => neg_int q
end
def lh : V -> V -> Bool
 | .non, .non => true | .non, .int _ => true | .int _, .non => true | .non, .bl _ => true | .bl _, .non => true | .non, .str _ => true | .str _, .non => true
 | .int _, .int _ => true | .bl _, .bl _ => true | .str _, .str _ => true | .byt _, .byt _ => true
 | .int _, .str _ => true | .str _, .int _ => true | .bl _, .str _ => true | .str _, .bl _ => true
 | _, _ => false
def rEq : R2 := λx y H Q => lh x y = true /\ Q (.bl (decide (x = y))) H
def rNe : R2 := λx y H Q => lh x y = true /\ Q (.bl (!decide (x = y))) H
theorem Va {i j : Int} : decide (V.int i = V.int j) = (i == j) := by
 rw [Zw1]
 simp
theorem Zd {i j : Bool} : decide (V.bl i = V.bl j) = (i == j) := by
 rw [Zw1]
 simp
theorem V9 {i j : Str} : decide (V.str i = V.str j) = (i == j) := by
 rw [Zw1]
 simp
theorem Vb {i j : Array UInt8} : decide (V.byt i = V.byt j) = (i.toList == j.toList) := by
 rw [Zw1]
 cases i
 cases j
 simp
section
variable {X : Cx} {a b c : Expr} {ta tb tc : TE} {pos : Pos}
theorem B7 {pins : List (Addr × Obj)} {Z : St} {H : Hp} {s : Shared} {Q : VK} {k k' : Bool} (I : Inv X pins Z H s) (q : Q (.bl k) H) (e : k = k') : EP X pins Z Q (.bool k') s := by
 subst e
 exact ⟨.bl k, H, I, rfl, q⟩
theorem lx : OpR X (compareOp .Eq) rEq := by
 intro pins s Z H x y v u Q I rx ry h
 obtain ⟨hs, q⟩ := h
 cases x with
 | non =>
  cases rx
  cases y with
  | non => cases ry; exact PySem.EqNone.eq_none_none (B7 I q (by simp))
  | bl j => cases ry; exact PySem.EqNone.eq_none_bool (B7 I q (by simp))
  | int j => obtain ⟨t', rfl⟩ := ry; exact PySem.EqNone.eq_none_int (B7 I q (by simp))
  | str j => obtain ⟨t', rfl⟩ := ry; exact PySem.EqNone.eq_none_str (B7 I q (by simp))
  | _ => exact absurd (show false = true from hs) Zzc
 | bl i =>
  cases rx
  cases y with
  | non => cases ry; exact PySem.EqNone.eq_bool_none (B7 I q (by simp))
  | bl j => cases ry; exact eq_bool (B7 I q Zd)
  | str j => obtain ⟨t', rfl⟩ := ry; exact PySem.EqMixed.eq_bool_str (B7 I q (by simp))
  | _ => exact absurd (show false = true from hs) Zzc
 | int i =>
  obtain ⟨t, rfl⟩ := rx
  cases y with
  | non => cases ry; exact PySem.EqNone.eq_int_none (B7 I q (by simp))
  | int j => obtain ⟨t', rfl⟩ := ry; exact eq_int (B7 I q Va)
  | str j => obtain ⟨t', rfl⟩ := ry; exact PySem.EqMixed.eq_int_str (B7 I q (by simp))
  | _ => exact absurd (show false = true from hs) Zzc
 | str i =>
  obtain ⟨t, rfl⟩ := rx
  cases y with
  | non => cases ry; exact PySem.EqNone.eq_str_none (B7 I q (by simp))
  | bl j => cases ry; exact PySem.EqMixed.eq_str_bool (B7 I q (by simp))
  | int j => obtain ⟨t', rfl⟩ := ry; exact PySem.EqMixed.eq_str_int (B7 I q (by simp))
  | str j => obtain ⟨t', rfl⟩ := ry; exact eq_str (B7 I q V9)
  | _ => exact absurd (show false = true from hs) Zzc
 | byt i =>
  obtain ⟨t, rfl⟩ := rx
  cases y with
  | byt j => obtain ⟨t', rfl⟩ := ry; exact PySem.W.eq_bytes (B7 I q Vb)
  | _ => exact absurd (show false = true from hs) Zzc
 | _ => cases y <;> exact absurd (show false = true from hs) Zzc
theorem lr : OpR X (compareOp .NotEq) rNe := by
 intro pins s Z H x y v u Q I rx ry h
 obtain ⟨hs, q⟩ := h
 cases x with
 | non =>
  cases rx
  cases y with
  | non => cases ry; exact PySem.EqNone.ne_none_none (B7 I q (by simp))
  | bl j => cases ry; exact PySem.EqNone.ne_none_bool (B7 I q (by simp))
  | int j => obtain ⟨t', rfl⟩ := ry; exact PySem.EqNone.ne_none_int (B7 I q (by simp))
  | str j => obtain ⟨t', rfl⟩ := ry; exact PySem.EqNone.ne_none_str (B7 I q (by simp))
  | _ => exact absurd (show false = true from hs) Zzc
 | bl i =>
  cases rx
  cases y with
  | non => cases ry; exact PySem.EqNone.ne_bool_none (B7 I q (by simp))
  | bl j => cases ry; exact ne_bool (B7 I q (congrArg not Zd))
  | str j => obtain ⟨t', rfl⟩ := ry; exact PySem.EqMixed.ne_bool_str (B7 I q (by simp))
  | _ => exact absurd (show false = true from hs) Zzc
 | int i =>
  obtain ⟨t, rfl⟩ := rx
  cases y with
  | non => cases ry; exact PySem.EqNone.ne_int_none (B7 I q (by simp))
  | int j => obtain ⟨t', rfl⟩ := ry; exact ne_int (B7 I q (congrArg not Va))
  | str j => obtain ⟨t', rfl⟩ := ry; exact PySem.EqMixed.ne_int_str (B7 I q (by simp))
  | _ => exact absurd (show false = true from hs) Zzc
 | str i =>
  obtain ⟨t, rfl⟩ := rx
  cases y with
  | non => cases ry; exact PySem.EqNone.ne_str_none (B7 I q (by simp))
  | bl j => cases ry; exact PySem.EqMixed.ne_str_bool (B7 I q (by simp))
  | int j => obtain ⟨t', rfl⟩ := ry; exact PySem.EqMixed.ne_str_int (B7 I q (by simp))
  | str j => obtain ⟨t', rfl⟩ := ry; exact ne_str (B7 I q (congrArg not V9))
  | _ => exact absurd (show false = true from hs) Zzc
 | byt i =>
  obtain ⟨t, rfl⟩ := rx
  cases y with
  | byt j => obtain ⟨t', rfl⟩ := ry; exact PySem.W.ne_bytes (B7 I q (congrArg not Vb))
  | _ => exact absurd (show false = true from hs) Zzc
 | _ => cases y <;> exact absurd (show false = true from hs) Zzc
theorem lu : OpR X (compareOp .Lt) (rI0 λi j => .bl (decide (i < j))) := iz λ_ _ _ _ _ _ _ q => lt_int q
theorem Km : OpR X (compareOp .Gt) (rI0 λi j => .bl (decide (j < i))) := iz λ_ _ _ _ _ _ _ q => gt_int q
theorem gg : OpR X (compareOp .GtE) (rI0 λi j => .bl (decide (j <= i))) := iz λ_ _ _ _ _ _ _ q => ge_int q
theorem W4 : OpR X (compareOp .In) (λx y H Q => ∃ i j, x = .str i /\ y = .str j /\ Q (.bl (!(Builtin.Str.occurrences j i 0 j.length 1).isEmpty)) H) := by
 intro pins s Z H x y v u Q I rx ry h
 obtain ⟨i, j, rfl, rfl, q⟩ := h
 obtain ⟨t, rfl⟩ := rx
 obtain ⟨t', rfl⟩ := ry
 exact in_str (B7 I q rfl)
theorem ix : OpR X (compareOp .Is) (λx y H Q => y = .non /\ Q (.bl (decide (x = .non))) H) := by
 intro pins s Z H x y v u Q I rx ry h
 obtain ⟨rfl, q⟩ := h
 cases ry
 refine is_none_gen (B7 I q ?_)
 cases x <;> first
  | (cases rx; rfl)
  | (obtain ⟨t, rfl⟩ := rx; rfl)
theorem bz : OpR X (compareOp .IsNot) (λx y H Q => y = .non /\ Q (.bl (!decide (x = .non))) H) := by
 intro pins s Z H x y v u Q I rx ry h
 obtain ⟨rfl, q⟩ := h
 cases ry
 refine isnot_none_gen (B7 I q ?_)
 cases x <;> first
  | (cases rx; rfl)
  | (obtain ⟨t, rfl⟩ := rx; rfl)
theorem OpR.or {f : Value -> Value -> Sem Value} {r r' : R2} (h : OpR X f r) (h' : OpR X f r') : OpR X f (λx y H Q => r x y H Q \/ r' x y H Q) := by
 intro pins s Z H x y v u Q I rx ry q
 rcases q with q | q
 ·exact h pins s Z H x y v u Q I rx ry q
 ·exact h' pins s Z H x y v u Q I rx ry q
theorem Ar (b : Expr) {op : CmpOp} (h : op ≠ .In := by decide) (h2 : op ≠ .NotIn := by decide) : behindInMarks op b = false := by
 have e1 : (op == CmpOp.In) = false := by cases op <;> first | rfl | exact absurd rfl h
 have e2 : (op == CmpOp.NotIn) = false := by cases op <;> first | rfl | exact absurd rfl h2
 cases b <;> simp [behindInMarks, e1, e2]
theorem Jd {op : CmpOp} {r : R2} (ho : OpR X (compareOp op) r) (ha : PE X a ta) (hb : PE X b tb) (hm : behindInMarks op b = false) : PE X (.Compare a [op] [b] pos) (tOp r ta tb) := by
 intro pins s Z H Q I h
 exact wpAny_Compare1 (jo ha hb I h λv u s2 x y H2 I2 rx ry q => ho pins s2 Z H2 x y v u Q I2 rx ry q) hm
def fm (t : TE) : TT := λZ H Q => t Z H λx H' => ∃ k, x = .bl k /\ Q k H'
theorem Ai {op : CmpOp} {r : R2} (ho : OpR X (compareOp op) r) (ha : PE X a ta) (hb : PE X b tb) (hm : behindInMarks op b = false) : PT X (.Compare a [op] [b] pos) (fm (tOp r ta tb)) := by
 intro pins s Z H Q I h
 refine wpAny_isTrue_Compare1 (thn (ha pins s Z H _ I h) λv s1 ⟨x, H1, I1, r1, q1⟩ => thn (hb pins s1 Z H1 _ I1 q1) λu s2 ⟨y, H2, I2, r2, q2⟩ =>
  thn (ho pins s2 Z H2 x y v u _ I2 r1 r2 q2) λc s3 ⟨z, H3, I3, r3, k, e, q3⟩ => ?_) hm
 subst e
 cases r3
 exact wpAny_truthy_bool ⟨H3, I3, q3⟩
def TruV (K : Zzu) (x : V) (H : Hp) (k : Bool) : Prop :=
 match x with
 | .non => k = false
 | .bl b => k = b
 | .int i => k = (i != 0)
 | .str y => y.length <= sizeLine /\ k = ((y.length : Int) != 0)
 | .byt y => y.size <= sizeLine /\ k = ((y.size : Int) != 0)
 | .ref p => (∃ xs, SqL K H p xs /\ k = !xs.isEmpty) \/ (∃ xs, SqT K H p xs /\ k = !xs.isEmpty) \/ ∃ kvs, H p = some (.dK kvs) /\ k = !kvs.isEmpty
 | _ => False
theorem To {κ : Type} {kvs : List (κ × V)} {vs : List (κ × Value)} (r : KV kvs vs) : (!vs.isEmpty) = !kvs.isEmpty := by
 cases r <;> rfl
theorem Me {xs : List V} {its : List Value} (r : Vals xs its) : (!its.toArray.isEmpty) = !xs.isEmpty := by
 cases r <;> simp
theorem Hj : (sizeLine : Nat) < 2 ^ 63 := by rw [sizeLine_eq]; decide
theorem Sv : TruR X (λx H Q => ∃ k, TruV X.K x H k /\ Q k H) := by
 intro pins s Z H x v Q I rx h
 obtain ⟨k, e, q⟩ := h
 have hl := Hj
 have hs : sizeLine = 16777216 := sizeLine_eq
 cases x with
 | non =>
  cases rx
  have e' : k = false := e
  subst e'
  exact truthy_none ⟨H, I, q⟩
 | bl b =>
  cases rx
  have e' : k = b := e
  subst e'
  exact wpAny_truthy_bool ⟨H, I, q⟩
 | int i =>
  obtain ⟨t, rfl⟩ := rx
  have e' : k = (i != 0) := e
  subst e'
  exact PySem.P.truthy_int ⟨H, I, q⟩
 | str y =>
  obtain ⟨t, rfl⟩ := rx
  obtain ⟨hy, e'⟩ : y.length <= sizeLine /\ k = ((y.length : Int) != 0) := e
  subst e'
  exact PySem.P.truthy_str (by omega) ⟨H, I.tok _, q⟩
 | byt y =>
  obtain ⟨t, rfl⟩ := rx
  obtain ⟨hy, e'⟩ : y.size <= sizeLine /\ k = ((y.size : Int) != 0) := e
  subst e'
  exact PySem.W.truthy_bytes (by omega) ⟨H, I.tok _, q⟩
 | ref p =>
  cases rx
  have e' : (∃ xs, SqL X.K H p xs /\ k = !xs.isEmpty) \/ (∃ xs, SqT X.K H p xs /\ k = !xs.isEmpty) \/ ∃ kvs, H p = some (.dK kvs) /\ k = !kvs.isEmpty := e
  rcases e' with ⟨xs, hx, e'⟩ | ⟨xs, hx, e'⟩ | ⟨kvs, hx, e'⟩
  ·subst e'
   obtain ⟨its, r, pl, hz⟩ := I.list hx
   have hlen := r.length
   exact wpAny_truthy_list pl.isList (by simp only [Zzp]; omega) ⟨H, I.tok _, by rw [Me r]; exact q⟩
  ·subst e'
   obtain ⟨its, r, pl, hz⟩ := I.tuple hx
   have hlen := r.length
   exact truthy_tuple pl (by simp only [Zzp]; omega) ⟨H, I.tok _, by rw [Me r]; exact q⟩
  ·subst e'
   obtain ⟨hz, hS, vs, r, m⟩ : kvs.length <= sizeLine /\ (p == sysModules) = false /\ ∃ vs, KV kvs vs /\ s.heap.DictOf (Ay X.prog X.w) p vs := I.hok p _ hx
   have hlen : kvs.length = vs.length := Paired.length r
   exact wpAny_truthy_dict hS m (by omega) ⟨H, I.tok _, by rw [To r]; exact q⟩
 | _ => exact (show False from e).elim
theorem S3 : OpR X (inplaceOp .Add) (λx y H Q => ∃ i j, x = .str i /\ y = .str j /\ i.length + j.length <= sizeLine /\ Q (.str (i ++ j)) H) := by
 intro pins s Z H x y v u Q I rx ry h
 obtain ⟨i, j, rfl, rfl, hz, q⟩ := h
 obtain ⟨t, rfl⟩ := rx
 obtain ⟨t', rfl⟩ := ry
 exact iadd_str (λt' tk => ⟨.str (i ++ j), H, I.tok _, ⟨_, rfl⟩, q⟩) hz
theorem Fn {x : V} {us : List Value} (r : Vals [x] us) : ∃ u, us = [u] /\ RelV x u := by
 cases r with
 | cons r1 r2 => cases r2; exact ⟨_, rfl, r1⟩
theorem O0 {x y : V} {us : List Value} (r : Vals [x, y] us) : ∃ u w', us = [u, w'] /\ RelV x u /\ RelV y w' := by
 cases r with
 | cons r1 r2 =>
  cases r2 with
  | cons r3 r4 => cases r4; exact ⟨_, _, rfl, r1, r3⟩
theorem Xe (hc : X.calm = true) : CallR X (.builtin "max") (λxs H Q => ∃ i j, xs = [.int i, .int j] /\ Q (.int (if j > i then j else i)) H) := by
 intro pins s Z H xs us Q I r h
 obtain ⟨i, j, rfl, q⟩ := h
 obtain ⟨u, w', rfl, ⟨t, rfl⟩, ⟨t', rfl⟩⟩ := O0 r
 refine max_two_ints (I.ok.hd hc) λh' tk k => ⟨_, H, I.kept k, ?_, q⟩
 by_cases hj : j > i
 ·rw [if_pos hj, if_pos hj]; exact ⟨_, rfl⟩
 ·rw [if_neg hj, if_neg hj]; exact ⟨_, rfl⟩
theorem Xd (hc : X.calm = true) : CallR X (.builtin "min") (λxs H Q => ∃ i j, xs = [.int i, .int j] /\ Q (.int (if j < i then j else i)) H) := by
 intro pins s Z H xs us Q I r h
 obtain ⟨i, j, rfl, q⟩ := h
 obtain ⟨u, w', rfl, ⟨t, rfl⟩, ⟨t', rfl⟩⟩ := O0 r
 refine min_two_ints (I.ok.hd hc) λh' tk k => ⟨_, H, I.kept k, ?_, q⟩
 by_cases hj : j < i
 ·rw [if_pos hj, if_pos hj]; exact ⟨_, rfl⟩
 ·rw [if_neg hj, if_neg hj]; exact ⟨_, rfl⟩
theorem Kf : CallR X (.type "int") (λxs H Q => (∃ i, xs = [.int i] /\ Q (.int i) H) \/ ∃ k, xs = [.bl k] /\ Q (.int (if k then 1 else 0)) H) := by
 intro pins s Z H xs us Q I r h
 rcases h with ⟨i, rfl, q⟩ | ⟨k, rfl, q⟩
 ·obtain ⟨u, rfl, t, rfl⟩ := Fn r
  exact call_int_int ⟨.int i, H, I, ⟨_, rfl⟩, q⟩
 ·obtain ⟨u, rfl, r1⟩ := Fn r
  cases r1
  exact call_int_bool ⟨.int (if k then 1 else 0), H, I.tok _, ⟨_, rfl⟩, q⟩
end
structure ObjM (h : Heap) (x dx C : Addr) (mA : Str -> Option Value) : Prop where
 obj : h.get? x = some (PySem.W.instObj C dx)
 ns : h.Ns1 dx mA
 ne : dx ≠ x
theorem Wq {h : Heap} {dx : Addr} {mA : Str -> Option Value} (n : h.Ns1 dx mA) : ∃ od, h.get? dx = some od /\ ∀ name, PySem.W.lookIn name od = some (mA name) := by
 obtain ⟨o, es, ep, ho, hd, hk, _, hm⟩ := n
 refine ⟨o, ho, λname => ?_⟩
 have e := hm name
 unfold nsFind findBy at e
 rw [<- Array.find?_toList] at e
 unfold PySem.W.lookIn
 rw [hd]
 dsimp only
 split
 ·rename_i y q
  rw [q] at e
  exact congrArg some e
 ·rename_i q
  rw [q] at e
  have a : es.toList.any (·.refKey) = false := by
   rw [List.any_eq_false]
   intro y hy
   obtain ⟨z, t, hkey⟩ := hk y (Array.mem_toList_iff.mp hy)
   simp [DictEntry.refKey, hkey]
  have a' : ¬ es.toList.any (·.refKey) = true := by rw [a]; exact Zzc
  rw [if_neg a']
  exact congrArg some e
theorem ObjM.look {h : Heap} {x dx C : Addr} {mA : Str -> Option Value} (I : ObjM h x dx C mA) : ∃ od, PySem.W.InstAt h x (PySem.W.instObj C dx) C (some od) /\ ∀ name, PySem.W.lookIn name od = some (mA name) :=
 let ⟨od, ho, hl⟩ := Wq I.ns
 ⟨od, ⟨I.obj, rfl, rfl, ho⟩, hl⟩
section
variable {prog : Program} {w : World} {A : Around} {E : Value -> Shared -> Prop} {s : Shared} {K : Zzu} {x dx C f : Addr} {mA : Str -> Option Value} {name : Str} {v : Value}
theorem Et {expr : Bool} {Q : Value -> Shared -> Prop} (X : K.In s.heap) (I : ObjM s.heap x dx C mA) (hg : PySem.W.plainGet K C name = true) (hh : PySem.W.hasDictIn K C = true)
  (ha : PySem.W.findIn K (.ref C) name = some none) (hv : mA name = some v) (hv' : PySem.W.handedIn v = true) (h : Q v { s with toks := s.toks + 1 }) :
  wpAny (model prog w) A (getAttr (.ref x) name expr) Q E s := by
 obtain ⟨od, J, hl⟩ := I.look
 exact PySem.W.get_value X J (PySem.W.plainGet_of hg).1 (PySem.W.findObj_own hh ha rfl (by rw [hl, hv])) hv' h
end
theorem RelO.some_of {v : V} {o : Option Value} (r : RelO (some v) o) : ∃ u, o = some u /\ RelV v u := by
 cases o with
 | none => exact (show False from r).elim
 | some u => exact ⟨u, rfl, r⟩
section
variable {P : Program} {w : World} {H H' : Hp} {h h' : Heap} {a C dx : Addr} {fs fs' : List (Str × V)}
theorem df (hok : HOk P w H h) (e : H a = some (.ins C dx fs)) : ∃ mA, ObjM h a dx C mA /\ (∀ f, RelO (fs.lookup f) (mA f)) /\ PySem.Within mA (fs.map (·.1)) /\ fs.length <= 1000 /\ H dx = some (.own a) := by
 obtain ⟨d, z, ne, ob, mA, n, r, q⟩ := (show ObjOk P w H h a (.ins C dx fs) from hok a _ e)
 exact ⟨mA, ⟨ob, n, ne⟩, r, q, z, d⟩
end
structure Cls (K : Zzu) (C : Addr) : Prop where
 pg : PySem.W.plainGet K C Str.empty = true
 hd : PySem.W.hasDictIn K C = true
 po : PySem.W.plainOver K C = true
 sa : PySem.W.findIn K (.ref C) "__setattr__" = some (some (.builtin "object.__setattr__"))
theorem Cls.get {K : Zzu} {C : Addr} (c : Cls K C) (f : Str) : PySem.W.plainGet K C f = true := c.pg
section
variable {X : Cx} {pins : List (Addr × Obj)} {Z : St} {H : Hp} {s : Shared} {a C dx : Addr} {fs : List (Str × V)} {f : Str} {v : V} {A : Around} {E : Value -> Shared -> Prop}
end
section
variable {X : Cx} {o e value : Expr} {f : Str} {pos pos' tpos : Pos} {ta tv : TE}
end
section
variable {X : Cx} {pins : List (Addr × Obj)} {Z : St} {H : Hp} {s : Shared} {A : Around} {E : Value -> Shared -> Prop} {Q : Value -> Shared -> Prop} {c : Value} {b : Bool}
inductive Kg (K : Zzu) (H : Hp) : V -> Value -> Prop where
 | non : Kg K H .non (.type "NoneType")
 | bl (x : Bool) : Kg K H (.bl x) (.type "bool")
 | int (i : Int) : Kg K H (.int i) (.type "int")
 | str (x : Str) : Kg K H (.str x) (.type "str")
 | flt (x : UInt64) : Kg K H (.flt x) (.type "float")
 | lst {a : Addr} {xs : List V} (e : H a = some (.lst xs)) : Kg K H (.ref a) (.type "list")
 | frz {a : Addr} {o : Obj} {xs : List V} (e : H a = some (.frz o (.lst xs))) : Kg K H (.ref a) (.type "list")
 | tup {a : Addr} {xs : List V} (e : H a = some (.tup xs)) : Kg K H (.ref a) (.type "tuple")
 | dK {a : Addr} {kvs : List (Key × V)} (e : H a = some (.dK kvs)) : Kg K H (.ref a) (.type "dict")
 | dT {a : Addr} {kvs : List (List Key × V)} (e : H a = some (.dT kvs)) : Kg K H (.ref a) (.type "dict")
 | ins {a C dx : Addr} {fs : List (Str × V)} (e : H a = some (.ins C dx fs)) (cl : Cls K C) (ha : PySem.W.findIn K (.ref C) "__class__" = some (some (.builtin "object.__class__")))
   (hn : PySem.W.specialIn K (.builtin "object.__class__") "__get__" = some (some (.builtin "getset_descriptor.__get__"))) (htk : PySem.W.takesIn K (.builtin "object.__class__") = some true)
   (hm : PySem.W.mroIn K C (.type "object") = some true) : Kg K H (.ref a) (.ref C)
theorem Ww {x : V} {u t : Value} (I : Inv X pins Z H s) (rx : RelV x u) (ty : Kg X.K H x t) (e : PySem.W.kitOne X.K t c = some b) (h : ∀ tk, Q (.bool b) { s with toks := tk }) :
  wpAny (model X.prog X.w) A (call (.builtin "isinstance") [u, c]) Q E s := by
 cases ty with
 | non => cases (show u = Value.none from rx); exact Zy0 PySem.W.kitx_none I.kIn True.intro e (λz => nomatch z) h
 | bl y => cases (show u = Value.bool y from rx); exact Zy0 PySem.W.kitx_bool I.kIn True.intro e (λz => nomatch z) h
 | int i => obtain ⟨t, q⟩ := (show ∃ t, u = Value.int i t from rx); cases q; exact Zy0 PySem.W.kitx_int I.kIn True.intro e (λz => nomatch z) h
 | str y => obtain ⟨t, q⟩ := (show ∃ t, u = Value.str y t from rx); cases q; exact Zy0 PySem.W.kitx_str I.kIn True.intro e (λz => nomatch z) h
 | flt y => obtain ⟨t, q⟩ := (show ∃ t, u = Value.float y t from rx); cases q; exact Zy0 PySem.W.kitx_float I.kIn True.intro e (λz => nomatch z) h
 | @lst a xs ea =>
  cases (show u = Value.ref a from rx)
  obtain ⟨_, _, n, _, h1⟩ := (show ObjOk X.prog X.w H s.heap a (.lst xs) from I.hok a _ ea)
  exact Zy0 PySem.W.kitx_list I.kIn ⟨_, h1, rfl⟩ e (λz => nomatch z) h
 | @frz a ob xs ea =>
  cases (show u = Value.ref a from rx)
  obtain ⟨_, _, _, n, _, h1⟩ := (show ObjOk X.prog X.w H s.heap a (.frz ob (.lst xs)) from I.hok a _ ea)
  exact Zy0 PySem.W.kitx_list I.kIn ⟨_, h1, rfl⟩ e (λz => nomatch z) h
 | @tup a xs ea =>
  cases (show u = Value.ref a from rx)
  obtain ⟨_, _, _, p⟩ := (show ObjOk X.prog X.w H s.heap a (.tup xs) from I.hok a _ ea)
  obtain ⟨o, h1, h2, _⟩ := p
  exact Zy0 PySem.W.kitx_tuple I.kIn ⟨o, h1, h2⟩ e (λz => nomatch z) h
 | @dK a kvs ea =>
  cases (show u = Value.ref a from rx)
  obtain ⟨_, _, vs, _, p⟩ := (show ObjOk X.prog X.w H s.heap a (.dK kvs) from I.hok a _ ea)
  obtain ⟨o, es, ep, h1, h2, _⟩ := p
  exact Zy0 PySem.W.kitx_dict I.kIn ⟨o, h1, h2.1⟩ e (λz => nomatch z) h
 | @dT a kvs ea =>
  cases (show u = Value.ref a from rx)
  obtain ⟨_, _, xs, _, o, es, ep, h1, h2, _⟩ := (show ObjOk X.prog X.w H s.heap a (.dT kvs) from I.hok a _ ea)
  exact Zy0 PySem.W.kitx_dict I.kIn ⟨o, h1, h2.1⟩ e (λz => nomatch z) h
 | @ins a C dx fs ea cl ha hn htk hm =>
  cases (show u = Value.ref a from rx)
  obtain ⟨mA, O, _⟩ := df I.hok ea
  obtain ⟨od, J, _⟩ := O.look
  exact Zy0 (PySem.W.kitx_own (cl.get _) cl.hd ha hn htk hm) I.kIn J e (λz => nomatch z) h
end
structure Room (k : Nat) (A : Around) : Prop where
 hd : A.handled = none
 dp : A.depth + 3 * k + 5 < recursionLimit
 un : A.units + 16 * k + 200 < cLine
theorem Room.mono {j k : Nat} {A : Around} (r : Room k A) (h : j <= k) : Room j A := ⟨r.hd, by have := r.dp; omega, by have := r.un; omega⟩
theorem Room.deeper {k : Nat} {A : Around} (r : Room (k + 1) A) (env : Env) : Room k (A.deeper env) :=
 ⟨r.hd, by have := r.dp; show A.depth + 1 + 3 * k + 5 < _; omega, by have := r.un; show A.units + 3 + 16 * k + 200 < _; omega⟩
theorem Room.depth {k : Nat} {A : Around} (r : Room k A) : A.depth < recursionLimit := by have := r.dp; omega
theorem Room.units {k : Nat} {A : Around} (r : Room k A) : A.units + 64 < cLine := by have := r.un; omega
def tNil : TA := λ_ H Q => Q [] H
def Ug (ta : TE) (tr : TA) : TA := λZ H Q => ta Z H λx H1 => tr Z H1 λxs H2 => Q (x :: xs) H2
section
variable {X : Cx} {e : Expr} {es : List Expr} {te : TE} {t : TA} {pos : Pos}
theorem A2 : PA X [] tNil := λ_ _ _ _ H Q I h => Calls.spliced_nil ⟨[], H, I, .nil, h⟩
theorem bx (ha : PE X e te) (hr : PA X es t) (hs : starEach (e :: es) X.env = (false, eval e X.env) :: starEach es X.env := by rfl) : PA X (e :: es) (Ug te t) := by
 intro pos pins s Z H Q I h
 rw [hs]
 show wpAny _ _ (spliced ((false, eval e X.env) :: backTo pos (starEach es X.env))) _ _ s
 refine Calls.spliced_cons (thn (ha pins s Z H _ I h) λu s1 ⟨x, H1, I1, r1, q1⟩ => ?_)
 exact thn (hr pos pins s1 Z H1 _ I1 q1) λus s2 ⟨xs, H2, I2, r2, q2⟩ => ⟨x :: xs, H2, I2, .cons r1 r2, q2⟩
def ki (t : TA) : TE := λZ H Q => t Z H λxs H1 => xs.length <= sizeLine /\ ∀ p, H1 p = none -> Q (.ref p) (upd H1 p (.tup xs))
def ko (t : TA) : TE := λZ H Q => t Z H λxs H1 => xs.length <= sizeLine /\ ∀ p, H1 p = none -> Q (.ref p) (upd H1 p (.lst xs))
theorem Dy {x1} (h : PA X es t) : PE X (.Tuple es x1 pos) (ki t) := by
 intro pins s Z H Q I hq
 refine wpAny_Tuple_spliced (thn (h pos pins s Z H _ I hq) λus s1 ⟨xs, H1, I1, r, z, q⟩ => ⟨by rw [<- r.length]; exact z, ?_⟩)
 have hf : H1 s1.heap.objs.size = none := I1.hok.fresh (Zzw _)
 refine ⟨.ref s1.heap.objs.size, upd H1 s1.heap.objs.size (.tup xs), I1.laid (t' := s1.toks) (λb u e => Zzy _ e) (Zzw _) ?_, rfl, q _ hf⟩
 exact ⟨z, us, r, ⟨_, Zzm _ rfl, rfl, _, rfl⟩⟩
theorem Bt (h : PA X es t) : PE X (.List es pos) (ko t) := by
 intro pins s Z H Q I hq
 refine wpAny_List_spliced (thn (h pos pins s Z H _ I hq) λus s1 ⟨xs, H1, I1, r, z, q⟩ => ⟨by rw [<- r.length]; exact z, ?_⟩)
 have hf : H1 s1.heap.objs.size = none := I1.hok.fresh (Zzw _)
 refine ⟨.ref s1.heap.objs.size, upd H1 s1.heap.objs.size (.lst xs), I1.laid (t' := s1.toks) (λb u e => Zzy _ e) (Zzw _) ?_, rfl, q _ hf⟩
 exact ⟨z, us, 0, r, Zzm _ rfl⟩
end
abbrev Sp := List V -> Hp -> VK -> XK -> Prop
abbrev CXT := List Env -> Hp -> Shared -> XK -> Value -> Shared -> Prop
structure fb (P : Program) (w : World) (K : Zzu) (mg : Str -> Option Value) (base : Heap) (A : Around) (outer : List Env) (s : Shared) (H : Hp) : Prop where
 frames : A.frames = some outer
 mod : Mod K mg base
 bs : ∀ b o, base.get? b = some o -> s.heap.get? b = some o /\ H b = none
 bsz : base.objs.size <= s.heap.objs.size
 funs : s.heap.FunFrames base outer
 frf : ∀ b ∈ frs outer, H b = none
 hok : HOk P w H s.heap
 bare : AllBare s.gens
def CE (outer : List Env) (P : Program) (w : World) (H : Hp) (s : Shared) (Q : VK) (u : Value) (s' : Shared) : Prop :=
 ∃ v H', s'.os = s.os /\ AllBare s'.gens /\ Un (frs outer) [] H H' s.heap s'.heap /\ HOk P w H' s'.heap /\ RelV v u /\ Q v H'
def CR (CX : CXT) (outer : List Env) (P : Program) (w : World) (H : Hp) (s : Shared) (Q : VK) (E : XK) (r : Result) (s' : Shared) : Prop :=
 match r with
 | .ok (.ret u) => CE outer P w H s Q u s'
 | .ok _ => False
 | .error e => CX outer H s E e s'
structure FnOk (P : Program) (w : World) (K : Zzu) (mg : Str -> Option Value) (base : Heap) (CX : CXT) (k : Nat) (f : Addr) (fd : FuncData) (ps : List Str) (sp : Sp) : Prop where
 len : ∀ vs H Q E, sp vs H Q E -> vs.length = ps.length
 run : ∀ (A : Around) (outer : List Env) (s : Shared) (H : Hp) (args : Args) (us : List Value) (vs : List V) (Q : VK) (E : XK), Room k A -> fb P w K mg base A outer s H -> BindsTo s fd args (ps.zip us) -> Vals vs us -> sp vs H Q E ->
  codeAny (model P w) A (.call (.ref f) args) (CR CX outer P w H s Q E) s
section
variable {X : Cx} {pins : List (Addr × Obj)} {Z : St} {H : Hp} {s s' : Shared}
theorem Inv.env0 (I : Inv X pins Z H s) : fb X.prog X.w X.K X.mg X.base X.A X.stack s H :=
 ⟨I.ok.frames, I.ok.mod, I.bs, Zyz I.ok.bsz I.sz, I.stack, I.stkFree, I.hok, I.bare⟩
theorem Inv.after {Q : VK} {u : Value} (I : Inv X pins Z H s) (h : CE X.stack X.prog X.w H s Q u s') : EP X pins Z Q u s' := by
 obtain ⟨v, H', os, bare, un, hok, r, q⟩ := h
 obtain ⟨hh, g, d, t, os'⟩ := s'
 obtain rfl : os' = s.os := os
 exact ⟨v, H', I.call (h' := hh) (g' := g) (d' := d) (t' := t) (ch := []) un hok bare (λb z => absurd z (by simp)), r, q⟩
end
def Ui (sp : Sp) (dvs : List V) (E : XK) (t : TA) : TE := λZ H Q => t Z H λvs H1 => sp (vs ++ dvs) H1 Q E
def Binds (K : Zzu) (fd : FuncData) (ps : List Str) (ds : List Value) : Prop :=
 ∀ (s : Shared) (us : List Value), K.In s.heap -> (us ++ ds).length = ps.length -> BindsTo s fd ⟨us, []⟩ (ps.zip (us ++ ds))
theorem Binds.all {K : Zzu} {fd : FuncData} {ps : List Str} (h : ∀ us : List Value, us.length = ps.length -> bindArgs fd ⟨us, []⟩ = pure (ps.zip us)) : Binds K fd ps [] := λs us _ hl => by
 rw [Zya] at hl ⊢
 exact .of_eq (h us hl)
def U7 (CX : CXT) (X : Cx) (E : XK) : Prop := ∀ (pins : List (Addr × Obj)) (Z : St) (H : Hp) (s : Shared) (e : Value) (s' : Shared), Inv X pins Z H s -> CX X.stack H s E e s' -> X.xe e s'
section
variable {X : Cx} {CX : CXT} {k : Nat} {f C : Addr} {fd : FuncData} {ps : List Str} {sp : Sp} {dvs : List V} {ds : List Value} {E : XK} {x m : Str} {p pos apos : Pos} {e o : Expr} {es : List Expr} {ta : TE} {t : TA}
theorem ik {pins : List (Addr × Obj)} {Z : St} {H : Hp} {s : Shared} {Q : VK} {us : List Value} {vs : List V} (F : FnOk X.prog X.w X.K X.mg X.base CX k f fd ps sp) (hr : Room k X.A) (hb : Binds X.K fd ps ds) (hd : Vals dvs ds) (hx : U7 CX X E)
  (I : Inv X pins Z H s) (r : Vals vs us) (h : sp (vs ++ dvs) H Q E) : wpAny (model X.prog X.w) X.A (call (.ref f) us) (EP X pins Z Q) X.xe s := by
 have r2 : Vals (vs ++ dvs) (us ++ ds) := r.append hd
 have hl : (us ++ ds).length = ps.length := by rw [<- r2.length]; exact F.len _ _ _ _ h
 refine wpAny_call (codeAny_mono (F.run X.A X.stack s H ⟨us, []⟩ (us ++ ds) (vs ++ dvs) Q E hr I.env0 (hb s us I.kIn hl) r2 h) λr s' hq => ?_)
 cases r with
 | error e => exact hx pins Z H s e s' I hq
 | ok fl =>
  cases fl with
  | ret u => exact I.after hq
  | next => exact False.elim hq
  | brk => exact False.elim hq
  | cont => exact False.elim hq
theorem bq (F : FnOk X.prog X.w X.K X.mg X.base CX k f fd ps sp) (hr : Room k X.A) (hg : Gl X x) (hm : X.mg x = some (.ref f)) (hk : Zzh X.K (.ref f) = true) (hb : Binds X.K fd ps ds) (hd : Vals dvs ds) (hx : U7 CX X E)
  (ha : PA X (e :: es) t) (hdb : (x == ("__debug__" : Str)) = false := by decide) (he : starEach (e :: es) X.env = (false, eval e X.env) :: starEach es X.env := by rfl) (hpl : (backTo pos (starEach es X.env)).any (·.1) = false := by rfl) :
  PE X (.Call (.Name x p) (e :: es) [] pos) (Ui sp dvs E t) := by
 intro pins s Z H Q I h
 refine wpAny_Call_Name_kw (Jj I hg hm ?_ hdb)
 refine PySem.W.callWith_K (h₀ := X.base) I.ok.mod.kin hk (thn (ha pos pins s Z H _ I h) λus s1 ⟨vs, H1, I1, r, q⟩ => ⟨I1.kIn, ?_⟩) he hpl
 exact ik F hr hb hd hx I1 r q
end
section
variable {X : Cx} {CX : CXT} {k : Nat} {f C : Addr} {fd : FuncData} {ps ks : List Str} {sp : Sp} {E : XK} {x m : Str} {p pos apos kpos : Pos} {e o : Expr} {es : List Expr} {kws : List Keyword} {te ta : TE} {t tk : TA} {nm : Option Str}
variable {g : List Value -> List Value -> List Value} {gV : List V -> List V -> List V}
end
structure Aj (N P : List Str) (sc : Scope) : Prop where
 kind : sc.kind = .function
 co : sc.isCoroutine = false
 gen : sc.isGenerator = false
 nd : N.Nodup
 pre : N.take P.length = P
 par : ∀ x ∈ P, sc.names.lookup x = some .local \/ sc.names.lookup x = some .cell
 nofree : ∀ y ∈ sc.names, y.2 ≠ .free
theorem Oz {kindOf : Str -> Option NameKind} {x : Str} : ∀ {binds : List (Str × Value)} {m : Str -> Option Value}, (∀ v, (x, v) ∉ binds) -> bindL kindOf binds m x = m x
 | [], _, _ => rfl
 | (n, v) :: r, m, h => by
  unfold bindL
  rw [Oz λw hw => h w (Zz7 _ hw)]
  split
  ·have : x ≠ n := by rintro rfl; exact h v Zz6
   simp [this]
  ·rfl
theorem P1 {kindOf : Str -> Option NameKind} {x : Str} : ∀ {binds : List (Str × Value)} {m : Str -> Option Value}, (∀ v, (x, v) ∉ binds) -> bindC kindOf binds m x = m x
 | [], _, _ => rfl
 | (n, v) :: r, m, h => by
  unfold bindC
  rw [P1 λw hw => h w (Zz7 _ hw)]
  split
  ·rfl
  ·have : x ≠ n := by rintro rfl; exact h v Zz6
   simp [this]
theorem P0 {kindOf : Str -> Option NameKind} {x : Str} {v : Value} : ∀ {P : List Str} {vs : List Value} {i : Nat} {m : Str -> Option Value}, P.Nodup -> P[i]? = some x -> vs[i]? = some v -> kindOf x = some .local ->
  bindL kindOf (P.zip vs) m x = some v
 | [], _, _, _, _, h, _, _ => by simp at h
 | _ :: _, [], _, _, _, _, h, _ => by simp at h
 | p :: P, w :: vs, 0, m, nd, h1, h2, hk => by
  simp at h1 h2; subst h1; subst h2
  show bindL kindOf ((p, w) :: P.zip vs) m p = _
  unfold bindL
  rw [Oz λv hv => (Zyh.mp nd).1 (List.of_mem_zip hv).1, if_pos hk]
  simp
 | p :: P, w :: vs, i + 1, m, nd, h1, h2, hk => by
  show bindL kindOf ((p, w) :: P.zip vs) m x = _
  unfold bindL
  exact P0 (i := i) (Zyh.mp nd).2 (by simpa using h1) (by simpa using h2) hk
theorem P2 {kindOf : Str -> Option NameKind} {x : Str} {v : Value} : ∀ {P : List Str} {vs : List Value} {i : Nat} {m : Str -> Option Value}, P.Nodup -> P[i]? = some x -> vs[i]? = some v -> kindOf x ≠ some .local ->
  bindC kindOf (P.zip vs) m x = some v
 | [], _, _, _, _, h, _, _ => by simp at h
 | _ :: _, [], _, _, _, _, h, _ => by simp at h
 | p :: P, w :: vs, 0, m, nd, h1, h2, hk => by
  simp at h1 h2; subst h1; subst h2
  show bindC kindOf ((p, w) :: P.zip vs) m p = _
  unfold bindC
  rw [P1 λv hv => (Zyh.mp nd).1 (List.of_mem_zip hv).1, if_neg hk]
  simp
 | p :: P, w :: vs, i + 1, m, nd, h1, h2, hk => by
  show bindC kindOf ((p, w) :: P.zip vs) m x = _
  unfold bindC
  exact P2 (i := i) (Zyh.mp nd).2 (by simpa using h1) (by simpa using h2) hk
def Gw (N : List Str) (vs : List V) : St := vs.map some ++ Zyb (N.length - vs.length) none
def Mk (CX : CXT) (P : Program) (w : World) (K : Zzu) (mg : Str -> Option Value) (base : Heap) (N : List Str) (qual : Str) (scope : Scope) (f : Addr) (cd : Value) (A : Around) (outer : List Env) (s : Shared) (H : Hp) (E : XK) : Cx where
 prog := P
 w := w
 K := K
 mg := mg
 base := base
 A := A.deeper (envOfC qual scope s.heap.objs.size f cd)
 N := N
 s₀ := s
 H₀ := H
 env := envOfC qual scope s.heap.objs.size f cd
 outer := outer
 stack := envOfC qual scope s.heap.objs.size f cd :: outer
 ex := []
 calm := true
 fn := λ_ => true
 pn := []
 xe := λe s' => wpAny (model P w) (A.deeper (envOfC qual scope s.heap.objs.size f cd)) (leaving (envOfC qual scope s.heap.objs.size f cd) e) (λ_ s'' => CX outer H s E e s'') (λe' s'' => CX outer H s E e' s'') s'
theorem Sf {sc : Scope} {n : Nat} {x : Str} (h : sc.names.lookup x = some .cell) : ∃ c, (cellsFrom n sc.names []).lookup x = some c := by
 have q := PySem.W.cellsFrom_some sc.names n [] (.inl h)
 exact Zx1.mp q
theorem Wx {CX : CXT} {P : Program} {w : World} {K : Zzu} {mg : Str -> Option Value} {base : Heap} {N ps : List Str} {qual : Str} {scope : Scope} {f : Addr} {cd : Value} {A : Around} {outer : List Env} {s s1 : Shared} {H : Hp} {E : XK} {us : List Value} {vs : List V}
  (S : Aj N ps scope) (hd : A.handled = none) (e0 : fb P w K mg base A outer s H) (hl : vs.length = ps.length) (r : Vals vs us)
  (x : InCallC s s.heap.objs.size (bindL (envOfC qual scope s.heap.objs.size f cd).kindOf (ps.zip us) λ_ => none) (cellsFrom (s.heap.objs.size + 1) scope.names []) (bindC (envOfC qual scope s.heap.objs.size f cd).kindOf (ps.zip us) λ_ => none) s1) :
  Inv (Mk CX P w K mg base N qual scope f cd A outer s H E) [] (Gw N vs) H s1 := by
 have hpl : ps.length <= N.length := by have := congrArg Zvu S.pre; rw [Zz5] at this; omega
 obtain ⟨h1, tk, rfl, hk⟩ := x.done
 have noA : ∀ b : Addr, b ∉ (Mk CX P w K mg base N qual scope f cd A outer s H E).ex := λb z => absurd (show b ∈ ([] : List Addr) from z) (by simp)
 refine ⟨⟨e0.mod, S.kind, rfl, rfl, Zzw _, λy z c h1 h2 => ?_, λy hy => ?_, λy c _ h => ?_, λ_ => hd, Around.frames_deeper e0.frames, .inr ⟨rfl, rfl⟩, λb z => absurd z (noA b), e0.bs, e0.bsz, λb _ _ => noA b, λb z => absurd z (noA b), e0.funs, e0.frf⟩,
  rfl, e0.bare, Un.kept hk, ⟨_, x.toInCall.ns, λi y v h1 h2 h3 => ?_⟩, λy c h => ⟨_, x.cell y c h⟩, e0.hok.fresh (Zzw _), λy c h => ?_, λp hp => absurd (show p ∈ ([] : List (Addr × Obj)) from hp) (by simp), e0.hok.kept hk, ?_⟩
 ·exact name_of_addr x.apart (Zxm h1) (Zxm h2)
 ·have hy : scope.names.lookup y = some .cell \/ scope.names.lookup y = some .free := hy
  rcases hy with hy | hy
  ·exact Sf hy
  ·exact absurd rfl (S.nofree _ (Zxm hy))
 ·exact Nat.le_of_lt (x.above y c (Zxm h))
 ·have hi : i < vs.length := by
   unfold Gw at h2
   by_cases hi : i < vs.length
   ·exact hi
   ·rw [Zyg (by simpa using hi)] at h2
    rw [List.getElem?_replicate] at h2
    split at h2 <;> cases h2
  have ha : vs[i]? = some v := by
   unfold Gw at h2
   rw [Zy3 (by simpa using hi), Zzx] at h2
   cases e : vs[i]? with
   | none => rw [e] at h2; cases h2
   | some a => rw [e] at h2; cases h2; rfl
  obtain ⟨u, hu, rv⟩ := r.get ha
  have hp : ps[i]? = some y := by
   rw [<- S.pre, Zyj (by omega)]; exact h1
  have ndP : ps.Nodup := by rw [<- S.pre]; exact S.nd.sublist (List.take_sublist _ _)
  refine ⟨u, rv, ?_⟩
  rcases S.par y (Zzn hp) with k | k
  ·exact .inl ⟨k, P0 ndP hp hu k⟩
  ·obtain ⟨c, e⟩ := Sf (n := s.heap.objs.size + 1) k
   refine .inr ⟨.inl k, c, e, ?_⟩
   have q := x.cell y c e
   rw [P2 ndP hp hu (by show scope.names.lookup y ≠ _; rw [k]; decide)] at q
   exact q
 ·exact e0.hok.fresh (Nat.le_of_lt (x.above y c (Zxm h)))
 ·unfold Gw
  show _ = N.length
  rw [Zyx, Zzz, List.length_replicate]
  omega
theorem V3 {CX : CXT} {P : Program} {w : World} {K : Zzu} {mg : Str -> Option Value} {base : Heap} {k : Nat} {f : Addr} {name qual : Str} {params : Arguments} {body : List Stmt} {scope : Scope} {dV kV doc pm cdv ct oc : Value} {an od : Option Addr}
  {osl : Array (Option Value)} {N ps : List Str} {sp : Sp} (lk : K.lookup f = some ⟨oc, od, .func (Zzd name qual params body scope dV kV doc pm an cdv ct), osl⟩) (hcd : Zze K cdv qual = true) (S : Aj N ps scope)
  (len : ∀ vs H Q E, sp vs H Q E -> vs.length = ps.length)
  (hbody : ∀ (A : Around) (outer : List Env) (s : Shared) (H : Hp) (vs : List V) (Q : VK) (E : XK), Room k (A.deeper (envOfC qual scope s.heap.objs.size f cdv)) -> sp vs H Q E ->
   ∃ t, PSs (Mk CX P w K mg base N qual scope f cdv A outer s H E) body t /\ t { nx := λ_ H' => Q .non H', rt := Q } (Gw N vs) H) :
  FnOk P w K mg base CX (k + 1) f (Zzd name qual params body scope dV kV doc pm an cdv ct) ps sp := by
 refine ⟨len, λA outer s H args us vs Q E hr e0 hb r hsp => ?_⟩
 have hl := len _ _ _ _ hsp
 have KX : K.In s.heap := e0.mod.kin.keeps λb o e => (e0.bs b o e).1
 have lim : s.heap.NoLimit := e0.mod.nolimit.keeps λb o e => (e0.bs b o e).1
 have hkind : ∀ y ∈ ps.zip us, scope.names.lookup y.1 = some .local \/ (scope.names.lookup y.1 = some .cell /\ ((cellsFrom (s.heap.objs.size + 1) scope.names []).lookup y.1).isSome = true) := λ⟨n, v⟩ hy => by
  rcases S.par n (List.of_mem_zip hy).1 with q | q
  ·exact .inl q
  ·exact .inr ⟨q, PySem.W.cellsFrom_some _ _ _ (.inl q)⟩
 refine codeAny_call_function hr.depth (KX _ _ lk) rfl S.co S.gen rfl (PySem.W.codeRec_of KX hcd) (hb _ _ _ _ ?_)
 refine wpAny_newFunctionEnv_cells S.kind hkind λenv he s1 x => ?_
 subst he
 refine ⟨lim.keeps x.toInCall.keep, codeAny_func ?_⟩
 obtain ⟨t, ht, hq⟩ := hbody A outer s H vs Q E (hr.deeper _) hsp
 have I : Inv (Mk CX P w K mg base N qual scope f cdv A outer s H E) [] (Gw N vs) H s1 := Wx S hr.hd e0 hl r x
 refine wpAny_mono (ht [] s1 (Gw N vs) H _ I hq) (λfl s' hs => ?_) λe s' hs => hs
 have fin : ∀ {Z' : St} {H' : Hp} {v : V} {u : Value}, Inv (Mk CX P w K mg base N qual scope f cdv A outer s H E) [] Z' H' s' -> RelV v u -> Q v H' -> CE outer P w H s Q u s' :=
  λ{Z' H' v u} J rv q => ⟨v, H', J.os, J.bare, J.base, J.hok, rv, q⟩
 cases fl with
 | ret u =>
  obtain ⟨v, Z', H', J, rv, q⟩ := hs
  exact fin J rv q
 | next =>
  obtain ⟨Z', H', J, q⟩ := hs
  exact fin (v := V.non) (u := Value.none) J rfl q
 | brk =>
  obtain ⟨_, _, _, q⟩ := hs
  exact False.elim q
 | cont =>
  obtain ⟨_, _, _, q⟩ := hs
  exact False.elim q
section
variable {X : Cx} {x : Str} {p pos : Pos} {e : Expr} {es : List Expr} {t : TA} {id T : String} {r : List V -> Hp -> VK -> Prop}
def tCB (r : List V -> Hp -> VK -> Prop) (t : TA) : TE := λZ H Q => t Z H λvs H1 => r vs H1 Q
theorem Yc (hc : CallR X (.builtin id) r) (hg : Gl X x) (hm : X.mg x = none) (hv : bootBuiltins x = some (.builtin id)) (ha : PA X (e :: es) t) (hn : x ≠ "__name__" := by decide) (hdb : (x == ("__debug__" : Str)) = false := by decide)
  (he : starEach (e :: es) X.env = (false, eval e X.env) :: starEach es X.env := by rfl) (hpl : (backTo pos (starEach es X.env)).any (·.1) = false := by rfl) : PE X (.Call (.Name x p) (e :: es) [] pos) (tCB r t) := by
 intro pins s Z H Q I h
 refine wpAny_Call_Name_kw (Fv I hg hm hv ?_ hn hdb)
 exact PyProof.Rows.callWith_builtin1 (thn (ha pos pins s Z H _ I h) λus s1 ⟨vs, H1, I1, r1, q1⟩ => hc pins s1 Z H1 vs us Q I1 r1 q1) he hpl
theorem W3 (hc : CallR X (.type T) r) (hg : Gl X x) (hm : X.mg x = none) (hv : bootBuiltins x = some (.type T)) (ha : PA X (e :: es) t) (hn : x ≠ "__name__" := by decide) (hdb : (x == ("__debug__" : Str)) = false := by decide)
  (he : starEach (e :: es) X.env = (false, eval e X.env) :: starEach es X.env := by rfl) (hpl : (backTo pos (starEach es X.env)).any (·.1) = false := by rfl) : PE X (.Call (.Name x p) (e :: es) [] pos) (tCB r t) := by
 intro pins s Z H Q I h
 refine wpAny_Call_Name_kw (Fv I hg hm hv ?_ hn hdb)
 exact Zxz (thn (ha pos pins s Z H _ I h) λus s1 ⟨vs, H1, I1, r1, q1⟩ => hc pins s1 Z H1 vs us Q I1 r1 q1) he hpl
end
end L2
namespace HT
open PySem PyProof.Rows
section
open PySem.SeqAt
open PySem.AutoSeq1 (wpAny_loadPart')
open PySem.MeetsSeq PySem.MeetsSeq2 PySem.MeetsSeq3
end
section
variable {prog : Program} {w : World} {A : Around} {E : Value -> Shared -> Prop} {s : Shared}
def sIx (n d : Nat) : Option Int -> Nat
 | none => d
 | some v => if v < 0 then (v + (n : Int)).toNat else min v.toNat n
end
end HT
namespace L2
open PySem PySem.Spec PyProof.Rows
abbrev TO := St -> Hp -> (Option Int -> Hp -> Prop) -> Prop
def PO (X : Cx) (e : Option Expr) (t : TO) : Prop :=
 ∀ (pins : List (Addr × Obj)) (s : Shared) (Z : St) (H : Hp) (Q : Option Int -> Hp -> Prop), Inv X pins Z H s -> t Z H Q ->
  wpAny (model X.prog X.w) X.A (evalPart e X.env) (λu s' => ∃ o H', Inv X pins Z H' s' /\ IsPart u o /\ Q o H') X.xe s
def tNoPart : TO := λ_ H Q => Q none H
def fo (t : TE) : TO := λZ H Q => t Z H λx H1 => ∃ i, x = .int i /\ Q (some i) H1
section
variable {X : Cx} {e : Expr} {te : TE} {lo hi : Option Expr} {tl th : TO} {pos p2 : Pos}
theorem Er : PO X none tNoPart := by
 intro pins s Z H Q I h
 rw [evalPart_none]
 exact wpAny_pure ⟨none, H, I, .none, h⟩
theorem Bn (h : PE X e te) : PO X (some e) (fo te) := by
 intro pins s Z H Q I hw
 rw [evalPart_some]
 refine thn (h pins s Z H _ I hw) λu s1 ⟨x, H1, I1, r1, q1⟩ => ?_
 obtain ⟨i, rfl, q⟩ := q1
 obtain ⟨t, rfl⟩ := r1
 exact ⟨some i, H1, I1, .int i t, q⟩
def SlR (X : Cx) (r : V -> Option Int -> Option Int -> Hp -> VK -> Prop) : Prop :=
 ∀ (pins : List (Addr × Obj)) (s : Shared) (Z : St) (H : Hp) (x : V) (v vl vu : Value) (lo hi : Option Int) (sl : Addr) (Q : VK), Inv X pins Z H s -> RelV x v -> s.heap.IsSliceOf sl vl vu .none -> IsPart vl lo -> IsPart vu hi -> r x lo hi H Q ->
  ∃ T id, typeLookup (.type T) "__getitem__" = pure (some (.builtin id)) /\ s.TypeIs v T /\ wpAny (model X.prog X.w) X.A (getItem v (.ref sl)) (EP X pins Z Q) X.xe s
def tSl (r : V -> Option Int -> Option Int -> Hp -> VK -> Prop) (te : TE) (tl th : TO) : TE := λZ H Q => te Z H λx H1 => tl Z H1 λl H2 => th Z H2 λu H3 => r x l u H3 Q
theorem By {r : V -> Option Int -> Option Int -> Hp -> VK -> Prop} (hr : SlR X r) (he : PE X e te) (hl : PO X lo tl) (hu : PO X hi th) : PE X (.Subscript e (.Slice lo hi none p2) pos) (tSl r te tl th) := by
 intro pins s Z H Q I h
 refine Subscript_ (thn (he pins s Z H _ I h) λv s1 ⟨x, H1, I1, r1, q1⟩ => ?_)
 refine wpAny_Slice (thn (hl pins s1 Z H1 _ I1 q1) λvl s2 ⟨l, H2, I2, pl, q2⟩ => thn (hu pins s2 Z H2 _ I2 q2) λvu s3 ⟨u, H3, I3, pu, q3⟩ => ?_)
 rw [evalPart_none]
 refine wpAny_pure ?_
 have I4 : Inv X pins Z H3 { s3 with heap := s3.heap.push { cls := .type "slice", data := .fields #[vl, vu, .none] } } := I3.kept (t' := s3.toks) λb ob q => Zzy _ q
 obtain ⟨T, id, hT, ht, hg⟩ := hr pins { s3 with heap := s3.heap.push { cls := .type "slice", data := .fields #[vl, vu, .none] } } Z H3 x v vl vu l u s3.heap.objs.size Q I4 r1 (Heap.IsSliceOf.new ..) pl pu q3
 show wpAny (model X.prog X.w) X.A (subscriptTail e (.Slice lo hi none p2) v (.ref s3.heap.objs.size)) (EP X pins Z Q) X.xe { s3 with heap := s3.heap.push { cls := .type "slice", data := .fields #[vl, vu, .none] } }
 exact tail_any (ops := [.ref s3.heap.objs.size, v]) ht hT hg (by with_unfolding_all rfl)
def E4 (xs : List V) (lo hi : Option Int) : List V := (xs.drop (HT.sIx xs.length 0 lo)).take (HT.sIx xs.length xs.length hi - HT.sIx xs.length 0 lo)
theorem Kv (xs : List V) (lo hi : Option Int) : (E4 xs lo hi).length <= xs.length := by
 unfold E4
 rw [Zz5, Zym]
 omega
end
def ixN (n : Nat) (i : Int) : Option Nat := if 0 <= i then (if i < n then some i.toNat else none) else if -(n : Int) <= i then some (i + n).toNat else none
def atI {α : Type} (xs : List α) (i : Int) : Option α := (ixN xs.length i).bind λj => xs[j]?
theorem Uz {n : Nat} {i : Int} {j : Nat} (h : ixN n i = some j) : seqIndex? i n = some j /\ j < n /\ -(n : Int) <= i /\ i < n := by
 unfold ixN at h
 by_cases h0 : 0 <= i
 ·rw [if_pos h0] at h
  by_cases h1 : i < n
  ·rw [if_pos h1] at h
   have e : i.toNat = j := Zza h
   exact ⟨by rw [seqIndex_of h0 h1, e], by omega, by omega, h1⟩
  ·rw [if_neg h1] at h; cases h
 ·rw [if_neg h0] at h
  by_cases h1 : -(n : Int) <= i
  ·rw [if_pos h1] at h
   have e : (i + n).toNat = j := Zza h
   exact ⟨by rw [seqIndex_neg (by omega) h1, e], by omega, h1, by omega⟩
  ·rw [if_neg h1] at h; cases h
theorem Qn {α : Type} {xs : List α} {i : Int} {v : α} (h : atI xs i = some v) : ∃ j, seqIndex? i xs.length = some j /\ xs[j]? = some v /\ j < xs.length /\ -(xs.length : Int) <= i /\ i < xs.length := by
 unfold atI at h
 cases e : ixN xs.length i with
 | none => rw [e] at h; cases h
 | some j =>
  rw [e] at h
  obtain ⟨h1, h2, h3, h4⟩ := Uz e
  exact ⟨j, h1, h, h2, h3, h4⟩
theorem Ii {α : Type} {xs : List α} {j : Nat} {v : α} (h : xs[j]? = some v) : atI xs (j : Int) = some v := by
 have hj : j < xs.length := (Zzj.mp h).1
 have e : ixN xs.length (j : Int) = some j := by
  unfold ixN
  rw [if_pos (by omega), if_pos (by omega)]; simp
 unfold atI; rw [e]; exact h
theorem Zs {α : Type} (xs : List α) (v : α) : atI (xs ++ [v]) (-1) = some v := by
 have hl : (xs ++ [v]).length = xs.length + 1 := by simp
 have e : ixN (xs ++ [v]).length (-1) = some xs.length := by
  unfold ixN
  rw [hl, if_neg (by decide), if_pos (by omega)]
  congr 1
  omega
 unfold atI
 rw [e]
 show (xs ++ [v])[xs.length]? = some v
 simp
def Vj (b : Expr) : Prop := ∀ o i, subscripted b false o i = operate [o, i] (getItem o i)
def IxR (X : Cx) (r : R2) : Prop :=
 ∀ (value slice : Expr) (pins : List (Addr × Obj)) (s : Shared) (Z : St) (H : Hp) (x y : V) (v u : Value) (Q : VK), Inv X pins Z H s -> RelV x v -> RelV y u -> r x y H Q ->
  subscripted slice false v u = operate [v, u] (getItem v u) -> wpAny (model X.prog X.w) X.A (subscriptTail value slice v u) (EP X pins Z Q) X.xe s
def MtR (X : Cx) (id : String) (r : V -> List V -> Hp -> VK -> Prop) : Prop :=
 ∀ (pins : List (Addr × Obj)) (s : Shared) (Z : St) (H : Hp) (x : V) (xs : List V) (v : Value) (us : List Value) (Q : VK), Inv X pins Z H s -> RelV x v -> Vals xs us -> r x xs H Q ->
  wpAny (model X.prog X.w) X.A (call (.builtin id) (v :: us)) (EP X pins Z Q) X.xe s
section
variable {X : Cx} {a b : Expr} {ta tb : TE} {pos : Pos}
theorem Y9 {r : R2} (hr : IxR X r) (ha : PE X a ta) (hb : PE X b tb) (hs : Vj b) : PE X (.Subscript a b pos) (tOp r ta tb) := by
 intro pins s Z H Q I h
 exact Subscript_ (jo ha hb I h λv u s2 x y H2 I2 rx ry q => hr a b pins s2 Z H2 x y v u Q I2 rx ry q (hs _ _))
def lj (K : Zzu) : R2 := λx y H Q => ∃ p xs i v, x = .ref p /\ y = .int i /\ SqL K H p xs /\ atI xs i = some v /\ Q v H
def rIxT (K : Zzu) : R2 := λx y H Q => ∃ p xs i v, x = .ref p /\ y = .int i /\ SqT K H p xs /\ atI xs i = some v /\ Q v H
def rIxS : R2 := λx y H Q => ∃ z i c, x = .str z /\ y = .int i /\ z.length <= sizeLine /\ atI z.cps.toList i = some c /\ Q (.str ⟨#[c]⟩) H
theorem Q2 : IxR X (lj X.K) := by
 intro value slice pins s Z H x y v u Q I rx ry h hs
 obtain ⟨p, xs, i, z, rfl, rfl, hq, he, q⟩ := h
 cases rx
 obtain ⟨t, rfl⟩ := ry
 obtain ⟨its, r, pl, hz⟩ := I.list hq
 obtain ⟨j, h1, h2, h3, h4, h5⟩ := Qn he
 obtain ⟨w, ew, rw'⟩ := r.get h2
 have hl := r.length
 have hn := Hj
 have fin : EP X pins Z Q w s := ⟨z, H, I, rw', q⟩
 by_cases h0 : 0 <= i
 ·have hj : i.toNat = j := by
   rw [seqIndex_of h0 h5] at h1
   exact Zza h1
  exact item_listR pl.isList h0 (by omega) (by rw [hj]; simpa using ew) fin hs
 ·have hj : (i + (its.toArray.size : Int)).toNat = j := by
   rw [seqIndex_neg (by omega) h4] at h1
   rw [Zzp, <- hl]
   exact Zza h1
  exact subscriptTail_builtinR (x := w) pl.isList.typeIs slot_list_getitem.lookup
   (wpAny_getItem_list_neg (Q := λr s' => r = w /\ EP X pins Z Q r s') pl.isList (by omega) (by rw [Zzp] <;> omega) (by omega) (by rw [hj]; simpa using ew) ⟨rfl, fin⟩) hs
theorem jd : IxR X (rIxT X.K) := by
 intro value slice pins s Z H x y v u Q I rx ry h hs
 obtain ⟨p, xs, i, z, rfl, rfl, hq, he, q⟩ := h
 cases rx
 obtain ⟨t, rfl⟩ := ry
 obtain ⟨its, r, pl, hz⟩ := I.tuple hq
 obtain ⟨j, h1, h2, h3, h4, h5⟩ := Qn he
 obtain ⟨w, ew, rw'⟩ := r.get h2
 have hl := r.length
 have hn := Hj
 have fin : EP X pins Z Q w s := ⟨z, H, I, rw', q⟩
 exact subscriptTail_builtinR (x := w) pl.typeIs slot_tuple_getitem.lookup
  (getItem_tuple (j := j) (Q := λr s' => r = w /\ EP X pins Z Q r s') pl (by omega) (by omega) (by rw [Zzp, <- hl]; exact h1) (by simpa using ew) ⟨rfl, fin⟩) hs
theorem je : IxR X rIxS := by
 intro value slice pins s Z H x y v u Q I rx ry h hs
 obtain ⟨z, i, c, rfl, rfl, hz, he, q⟩ := h
 obtain ⟨t, rfl⟩ := rx
 obtain ⟨t', rfl⟩ := ry
 obtain ⟨j, h1, h2, h3, h4, h5⟩ := Qn he
 have hl : z.cps.toList.length = z.length := by simp [Str.length]
 rw [hl] at h1 h4 h5
 have hn := Hj
 exact tail_any (typeIs_str s z t) slot_str_getitem.lookup (getItem_str (c := c) (by
  have e1 : decide (i < -(2 ^ 63 : Int)) = false := decide_eq_false (by omega)
  have e2 : decide (i ≥ 2 ^ 63) = false := decide_eq_false (by omega)
  rw [e1, e2, Bool.or_false]) (by rw [h1]; simpa using h2) ⟨.str ⟨#[c]⟩, H, I.tok _, ⟨_, rfl⟩, q⟩) hs
theorem Ti (its : List Value) (n j : Nat) (u : Value) : Obj.mapSeq (·.setIfInBounds j u) { cls := .type "list", data := .seq its.toArray n } = { cls := .type "list", data := .seq (its.set j u).toArray n } := by
 simp [Obj.mapSeq]
theorem Inv.lst {pins : List (Addr × Obj)} {Z : St} {H : Hp} {s : Shared} {p : Addr} {xs : List V} (I : Inv X pins Z H s) (h : H p = some (.lst xs)) :
  ∃ (its : List Value) (n : Nat), Vals xs its /\ s.heap.get? p = some { cls := .type "list", data := .seq its.toArray n } /\ xs.length <= sizeLine := by
 obtain ⟨z, its, n, r, e⟩ := I.hok p _ h
 exact ⟨its, n, r, e, z⟩
theorem Inv.lstUpd {pins : List (Addr × Obj)} {Z : St} {H : Hp} {s : Shared} {p : Addr} {xs ys : List V} {its its' : List Value} {n n' : Nat} {f : Obj -> Obj} (I : Inv X pins Z H s) (h : H p = some (.lst xs))
  (ho : s.heap.get? p = some { cls := .type "list", data := .seq its.toArray n }) (hf : f { cls := .type "list", data := .seq its.toArray n } = { cls := .type "list", data := .seq its'.toArray n' }) (r : Vals ys its') (hz : ys.length <= sizeLine) (t : Nat) :
  Inv X pins Z (upd H p (.lst ys)) { s with heap := s.heap.update p f, toks := t } := by
 have e : (s.heap.update p f).get? p = some { cls := .type "list", data := .seq its'.toArray n' } := by
  rw [Zxi f ho (by rw [hf] <;> rfl), hf]
 refine I.write (x := p) (e := p) (by rw [h]; trivial) (.inl rfl) (λb u hb q => (Zyo _ _ (Zzf hb)).trans q) ⟨_, e⟩ ?_
 exact ⟨hz, its', n', r, e⟩
def rSetL : V -> V -> V -> Hp -> (Hp -> Prop) -> Prop := λo i v H Q => ∃ p xs k j, o = .ref p /\ i = .int k /\ H p = some (.lst xs) /\ ixN xs.length k = some j /\ Q (upd H p (.lst (xs.set j v)))
theorem Fp : ac X rSetL := by
 intro pins s Z H o i v ov iv u Q I ro ri rv h
 obtain ⟨p, xs, k, j, rfl, rfl, hp, hj, q⟩ := h
 cases ro
 obtain ⟨t, rfl⟩ := ri
 obtain ⟨its, n, r, ho, hz⟩ := I.lst hp
 obtain ⟨h1, h2, h3, h4⟩ := Uz hj
 have hl := r.length
 have hn := Hj
 have I' : Inv X pins Z (upd H p (.lst (xs.set j v))) { s with heap := s.heap.update p (Obj.mapSeq (·.setIfInBounds j u)) } :=
  I.lstUpd hp ho (Ti its n j u) (r.set rv j) (by rw [Zw0]; exact hz) s.toks
 by_cases h0 : 0 <= k
 ·have hk : k.toNat = j := by
   rw [seqIndex_of h0 h4] at h1
   exact Zza h1
  exact PySem.W.ki_setAt ho h0 (by omega) (by rw [Zzp, <- hl]; exact h4) (by rw [hk]; exact ⟨_, I', q⟩)
 ·have hk : (k + (its.toArray.size : Int)).toNat = j := by
   rw [seqIndex_neg (by omega) h3] at h1
   rw [Zzp, <- hl]
   exact Zza h1
  exact PySem.W.ki_setBack ho (by omega) (by rw [Zzp, <- hl]; exact h3) (by omega) (by rw [hk]; exact ⟨_, I', q⟩)
theorem Pf (lo hi : Option Int) (n : Nat) : (sliceBounds lo hi none n).1 = ((HT.sIx n 0 lo : Nat) : Int) /\ (sliceBounds lo hi none n).2.1 = ((HT.sIx n n hi : Nat) : Int) /\ (sliceBounds lo hi none n).2.2 = 1 := by
 refine ⟨?_, ?_, rfl⟩
 ·cases lo with
  | none => simp [sliceBounds, HT.sIx]
  | some i =>
   simp only [sliceBounds, HT.sIx, Option.getD_none, show (1 : Int) > 0 by decide, if_true]
   by_cases h : i < 0
   ·simp only [h, if_true] <;> omega
   ·simp only [h, if_false] <;> omega
 ·cases hi with
  | none => simp [sliceBounds, HT.sIx]
  | some i =>
   simp only [sliceBounds, HT.sIx, Option.getD_none, show (1 : Int) > 0 by decide, if_true]
   by_cases h : i < 0
   ·simp only [h, if_true] <;> omega
   ·simp only [h, if_false] <;> omega
theorem Mz (its : List Value) (lo hi : Option Int) : slicePick its.toArray lo hi none = ((its.drop (HT.sIx its.length 0 lo)).take (HT.sIx its.length its.length hi - HT.sIx its.length 0 lo)).toArray := by
 obtain ⟨h1, h2, h3⟩ := Pf lo hi its.toArray.size
 unfold slicePick
 rw [h1, h2, h3]
 simp only [sliceRange_one, pick_run, Zzp] <;> rfl
def li (K : Zzu) : V -> Option Int -> Option Int -> Hp -> VK -> Prop := λx lo hi H Q => ∃ a xs, x = .ref a /\ SqL K H a xs /\ ∀ p, H p = none -> Q (.ref p) (upd H p (.lst (E4 xs lo hi)))
theorem Uj : SlR X (li X.K) := by
 intro pins s Z H x v vl vu lo hi sl Q I rx hs pl pu h
 obtain ⟨a, xs, rfl, hx, q⟩ := h
 cases rx
 obtain ⟨its, r, ht, hz⟩ := I.list hx
 have hlen := r.length
 refine ⟨"list", _, slot_list_getitem.lookup, ht.isList.typeIs, ?_⟩
 refine wpAny_getItem_list_slice ht.isList hs pl pu .none (by simp) ?_ (by rw [Zzp] <;> omega)
 rw [Mz, <- hlen]
 refine ⟨.ref s.heap.objs.size, _, I.laid (t' := s.toks) (o := .lst (E4 xs lo hi)) (λb ob q => Zzy _ q) (Zzw _) ?_, rfl, q _ (I.hok.fresh (Zzw _))⟩
 exact ⟨Zyz (Kv xs lo hi) hz, _, 0, (r.drop (HT.sIx xs.length 0 lo)).take (HT.sIx xs.length xs.length hi - HT.sIx xs.length 0 lo), Zzm _ rfl⟩
def Hl : V -> Bool
 | .non => true
 | .bl _ => true
 | .int _ => true
 | .str _ => true
 | _ => false
def eqV : V -> V -> Bool
 | .non, .non => true
 | .bl a, .bl b => a == b
 | .bl a, .int b => (if a then 1 else 0) == b
 | .int a, .bl b => a == (if b then 1 else 0)
 | .int a, .int b => a == b
 | .str a, .str b => a == b
 | _, _ => false
theorem jk {A : Around} {s : Shared} {y x : V} {u v : Value} (ry : RelV y u) (rx : RelV x v) (fy : Hl y = true) (fx : Hl x = true) : SeqAt.EqAt A s u v (eqV y x) := by
 cases y with
 | non =>
  cases ry
  cases x with
  | non => cases rx; exact SeqAt.EqAt.same _
  | bl b => cases rx; exact SeqAt.EqAt.none_bool b
  | int b => obtain ⟨t, rfl⟩ := rx; exact SeqAt.EqAt.none_int b t
  | str b => obtain ⟨t, rfl⟩ := rx; exact SeqAt.EqAt.none_str b t
  | _ => exact absurd (show false = true from fx) Zzc
 | bl a =>
  cases ry
  cases x with
  | non => cases rx; exact SeqAt.EqAt.bool_none a
  | bl b => cases rx; exact SeqAt.EqAt.bool_bool a b
  | int b => obtain ⟨t, rfl⟩ := rx; exact SeqAt.EqAt.bool_int a b t
  | str b => obtain ⟨t, rfl⟩ := rx; exact SeqAt.EqAt.bool_str a b t
  | _ => exact absurd (show false = true from fx) Zzc
 | int a =>
  obtain ⟨t', rfl⟩ := ry
  cases x with
  | non => cases rx; exact SeqAt.EqAt.int_none a t'
  | bl b => cases rx; exact SeqAt.EqAt.int_bool a t' b
  | int b => obtain ⟨t, rfl⟩ := rx; exact SeqAt.EqAt.int_int a t' b t
  | str b => obtain ⟨t, rfl⟩ := rx; exact SeqAt.EqAt.int_str a t' b t
  | _ => exact absurd (show false = true from fx) Zzc
 | str a =>
  obtain ⟨t', rfl⟩ := ry
  cases x with
  | non => cases rx; exact SeqAt.EqAt.str_none a t'
  | bl b => cases rx; exact SeqAt.EqAt.str_bool a t' b
  | int b => obtain ⟨t, rfl⟩ := rx; exact SeqAt.EqAt.str_int a t' b t
  | str b => obtain ⟨t, rfl⟩ := rx; exact SeqAt.EqAt.str_str a t' b t
  | _ => exact absurd (show false = true from fx) Zzc
 | _ => exact absurd (show false = true from fy) Zzc
def eqU (x : V) (u : Value) : Bool := match u with
 | .none => eqV .non x
 | .bool b => eqV (.bl b) x
 | .int i _ => eqV (.int i) x
 | .str z _ => eqV (.str z) x
 | _ => false
theorem Za {x y : V} {u : Value} (r : RelV y u) (f : Hl y = true) : eqU x u = eqV y x := by
 cases y with
 | non => cases r; rfl
 | bl b => cases r; rfl
 | int i => obtain ⟨t, rfl⟩ := r; rfl
 | str z => obtain ⟨t, rfl⟩ := r; rfl
 | _ => exact absurd (show false = true from f) Zzc
theorem Qo {x : V} : ∀ {xs : List V} {us : List Value}, Vals xs us -> xs.all Hl = true -> us.any (eqU x) = xs.any λy => eqV y x
 | _, _, .nil, _ => rfl
 | y :: xs, u :: us, .cons r t, f => by
  rw [Zwq, Zy5] at f
  rw [Zwy, Zwy, Za r f.1, Qo t f.2]
theorem Jh {A : Around} {s : Shared} {x : V} {v : Value} (rx : RelV x v) (fx : Hl x = true) : ∀ {xs : List V} {us : List Value}, Vals xs us -> xs.all Hl = true -> ∀ u ∈ us, SeqAt.EqAt A s u v (eqU x u)
 | _, _, .nil, _ => λu hu => by cases hu
 | y :: xs, u :: us, .cons r t, f => λu' hu => by
  rw [Zwq, Zy5] at f
  rcases Zzk.mp hu with rfl | hu
  ·rw [Za r f.1]; exact jk r rx f.1 fx
  ·exact Jh rx fx t f.2 u' hu
def inV (x : V) (xs : List V) : Bool := xs.any λy => eqV y x
def rIn (K : Zzu) (neg : Bool) : R2 := λx y H Q => ∃ p xs, y = .ref p /\ (SqL K H p xs \/ SqT K H p xs) /\ Hl x = true /\ xs.all Hl = true /\ Q (.bl (if neg then !inV x xs else inV x xs)) H
theorem W5 : OpR X (compareOp .In) (rIn X.K false) := by
 intro pins s Z H x y v u Q I rx ry h
 obtain ⟨p, xs, rfl, hq, fx, fs, q⟩ := h
 cases ry
 rcases hq with hq | hq
 ·obtain ⟨its, r, pl, hz⟩ := I.list hq
  refine SeqAt.in_listAt (eqU x) pl.isList (λw hw => Jh rx fx r fs w (by simpa using hw)) ⟨.bl _, H, I, rfl, ?_⟩
  rw [show its.toArray.any (eqU x) = its.any (eqU x) by simp, Qo r fs]
  exact q
 ·obtain ⟨its, r, pl, hz⟩ := I.tuple hq
  refine SeqAt.in_tupleAt (eqU x) pl (λw hw => Jh rx fx r fs w (by simpa using hw)) ⟨.bl _, H, I, rfl, ?_⟩
  rw [show its.toArray.any (eqU x) = its.any (eqU x) by simp, Qo r fs]
  exact q
theorem Jq : CallR X (.builtin "len") (λxs H Q => ∃ p ys, xs = [.ref p] /\ (SqL X.K H p ys \/ SqT X.K H p ys) /\ Q (.int ys.length) H) := by
 intro pins s Z H xs us Q I r h
 obtain ⟨p, ys, rfl, hq, q⟩ := h
 obtain ⟨u, rfl, rx⟩ := Fn r
 cases rx
 have hn := Hj
 rcases hq with hq | hq
 ·obtain ⟨its, r', pl, hz⟩ := I.list hq
  have hlen := r'.length
  exact Calls.call_len_list pl.isList (by simp only [Zzp] <;> omega) ⟨.int ys.length, H, I.tok _, ⟨s.toks + 1, by rw [Zzp, hlen]⟩, q⟩
 ·obtain ⟨its, r', pl, hz⟩ := I.tuple hq
  have hlen := r'.length
  exact len_tuple pl (by simp only [Zzp] <;> omega) ⟨.int ys.length, H, I.tok _, ⟨s.toks + 1, by rw [Zzp, hlen]⟩, q⟩
theorem Qk : CallR X (.builtin "len") (λxs H Q => ∃ z, xs = [.str z] /\ z.length <= sizeLine /\ Q (.int z.length) H) := by
 intro pins s Z H xs us Q I r h
 obtain ⟨z, rfl, hz, q⟩ := h
 obtain ⟨u, rfl, t, rfl⟩ := Fn r
 have hn := Hj
 exact len_str (by omega) ⟨.int z.length, H, I.tok _, ⟨_, rfl⟩, q⟩
theorem Qj : CallR X (.type "list") (λxs H Q => ∃ p ys, xs = [.ref p] /\ (SqL X.K H p ys \/ SqT X.K H p ys) /\ ∀ l, H l = none -> Q (.ref l) (upd H l (.lst ys))) := by
 intro pins s Z H xs us Q I r h
 obtain ⟨p, ys, rfl, hq, q⟩ := h
 obtain ⟨u, rfl, rx⟩ := Fn r
 cases rx
 have fin : ∀ (its : List Value), Vals ys its -> ys.length <= sizeLine -> ∀ (h' : Heap) (c' : Nat), (∀ b o', s.heap.get? b = some o' -> h'.get? b = some o') ->
   h'.get? s.heap.objs.size = some { cls := .type "list", dict := none, data := .seq its.toArray c', slots := #[] } -> EP X pins Z Q (.ref s.heap.objs.size) { s with heap := h' } := λits r' hz h' c' kp e =>
  ⟨.ref s.heap.objs.size, _, I.laid (t' := s.toks) kp (Zzw _) (show ObjOk X.prog X.w _ h' _ (.lst ys) from ⟨hz, its, c', r', e⟩), rfl, q _ (I.hok.fresh (Zzw _))⟩
 rcases hq with hq | hq
 ·obtain ⟨its, r', pl, hz⟩ := I.list hq
  have hlen := r'.length
  obtain ⟨o, ho, hc, n, hd⟩ := pl.isList
  exact call_list_seq p (.inl rfl) ho hc hd (λh' c' kp e => fin its r' hz h' c' kp e) (by simp only [Zzp] <;> omega)
 ·obtain ⟨its, r', pl, hz⟩ := I.tuple hq
  have hlen := r'.length
  obtain ⟨o, ho, hc, n, hd⟩ := pl
  exact call_list_seq p (.inr rfl) ho hc hd (λh' c' kp e => fin its r' hz h' c' kp e) (by simp only [Zzp] <;> omega)
theorem Nw : CallR X (.type "tuple") (λxs H Q => ∃ p ys, xs = [.ref p] /\ ((SqL X.K H p ys /\ ∀ l, H l = none -> Q (.ref l) (upd H l (.tup ys))) \/ (SqT X.K H p ys /\ Q (.ref p) H))) := by
 intro pins s Z H xs us Q I r h
 obtain ⟨p, ys, rfl, h⟩ := h
 obtain ⟨u, rfl, rx⟩ := Fn r
 cases rx
 rcases h with ⟨hq, q⟩ | ⟨hq, q⟩
 ·obtain ⟨its, r', pl, hz⟩ := I.list hq
  have hlen := r'.length
  refine call_tuple_list pl.isList (λh' kp => ?_) (by simp only [Zzp] <;> omega)
  have I1 : Inv X pins Z H { s with heap := h' } := I.kept (t' := s.toks) kp
  have I2 : Inv X pins Z (upd H h'.objs.size (.tup ys)) { s with heap := h'.push { cls := .type "tuple", data := .seq its.toArray } } :=
   I1.laid (t' := s.toks) (λb o e => Zzy _ e) (Zzw _) (show ObjOk X.prog X.w _ _ _ (.tup ys) from ⟨hz, its, r', IsTup.new _ _⟩)
  exact ⟨.ref h'.objs.size, _, I2, rfl, q _ (I1.hok.fresh (Zzw _))⟩
 ·obtain ⟨its, r', pl, hz⟩ := I.tuple hq
  exact call_tuple_same pl ⟨.ref p, H, I, rfl, q⟩
def tyV (K : Zzu) (T : String) (x : V) (H : Hp) : Prop := match x with
 | .str _ => T = "str"
 | .int _ => T = "int"
 | .ref p => (T = "list" /\ ∃ xs, SqL K H p xs) \/ (T = "tuple" /\ ∃ o, K.lookup p = some o /\ o.cls = .type "tuple" /\ o.dict = none) \/
   (T = "dict" /\ ((∃ kvs, H p = some (.dK kvs)) \/ ∃ kvs, H p = some (.dT kvs))) \/ (T = "set" /\ ∃ S n, H p = some (.set S n))
 | _ => False
theorem i9 {pins : List (Addr × Obj)} {Z : St} {H : Hp} {s : Shared} {T : String} {x : V} {v : Value} (I : Inv X pins Z H s) (r : RelV x v) (ty : tyV X.K T x H) :
  s.TypeIs v T /\ ∀ a, v = .ref a -> ∃ ob, s.heap.get? a = some ob /\ ob.dict = none := by
 cases x with
 | str z =>
  obtain ⟨t, rfl⟩ := r
  cases (show T = "str" from ty)
  exact ⟨typeIs_str s z t, λ_ e => nomatch e⟩
 | int i =>
  obtain ⟨t, rfl⟩ := r
  cases (show T = "int" from ty)
  exact ⟨typeIs_int s i t, λ_ e => nomatch e⟩
 | ref p =>
  cases r
  rcases ty with ⟨rfl, xs, hq⟩ | ⟨rfl, o, hk, hc, hd⟩ | ⟨rfl, hk⟩ | ⟨rfl, S, n, hk⟩
  ·obtain ⟨its, _, pl, _⟩ := I.list hq
   refine ⟨pl.isList.typeIs, λa e => ?_⟩
   cases e
   obtain ⟨o, n, e, c, hd, _⟩ := pl
   exact ⟨o, e, hd⟩
  ·refine ⟨⟨o, I.kIn p o hk, hc⟩, λa e => ?_⟩
   cases e
   exact ⟨o, I.kIn _ o hk, hd⟩
  ·have z : ∃ o, s.heap.get? p = some o /\ o.ExactDict := by
    rcases hk with ⟨kvs, hk⟩ | ⟨kvs, hk⟩
    ·obtain ⟨_, _, _, _, o, _, _, e, ex, _⟩ := I.hok p _ hk
     exact ⟨o, e, ex⟩
    ·obtain ⟨_, _, _, _, o, _, _, e, ex, _⟩ := I.hok p _ hk
     exact ⟨o, e, ex⟩
   obtain ⟨o, e, ex⟩ := z
   refine ⟨⟨o, e, ex.1⟩, λa e2 => ?_⟩
   cases e2
   exact ⟨o, e, ex.2.1⟩
  ·obtain ⟨o, _, _, _, e, ex, _⟩ := I.hok p _ hk
   refine ⟨⟨o, e, ex.1⟩, λa e2 => ?_⟩
   cases e2
   exact ⟨o, e, ex.2.1⟩
 | _ => exact False.elim ty
variable {o e : Expr} {es : List Expr} {to : TE} {t : TA} {name : Str} {apos cpos : Pos} {T id : String} {r : V -> List V -> Hp -> VK -> Prop}
end
def MtM (X : Cx) (id : String) (r : V -> List V -> Hp -> VK -> Prop) : Prop :=
 ∀ (pins : List (Addr × Obj)) (s : Shared) (Z : St) (H : Hp) (x : V) (xs : List V) (v : Value) (us : List Value) (Q : VK), Inv X pins Z H s -> RelV x v -> Vals xs us -> r x xs H Q ->
  wpAny (model X.prog X.w) X.A (call (.builtin id) (v :: us)) (EP X pins Z Q) X.xe s
theorem Vals.one : ∀ {x : V} {us : List Value}, Vals [x] us -> ∃ u, us = [u] /\ RelV x u
 | _, _, .cons r .nil => ⟨_, rfl, r⟩
theorem Vals.eraseIdx : ∀ {xs : List V} {us : List Value} (i : Nat), Vals xs us -> Vals (xs.eraseIdx i) (us.eraseIdx i)
 | _, _, _, .nil => .nil
 | _, _, 0, .cons _ t => t
 | _, _, i + 1, .cons r t => .cons r (Vals.eraseIdx i t)
theorem Vals.rep {xs : List V} {us : List Value} (h : Vals xs us) : ∀ k : Nat, Vals (Zyb k xs).flatten (Zyb k us).flatten
 | 0 => .nil
 | k + 1 => by
  rw [Zxe, Zxe, Zwc, Zwc]
  exact Vals.append h (Vals.rep h k)
theorem Og {α : Type} : ∀ (l : List α) (i : Nat), (l.eraseIdx i).length <= l.length
 | [], _ => Zzw _
 | _ :: _, 0 => Nat.le_succ _
 | _ :: r, i + 1 => Nat.succ_le_succ (Og r i)
theorem Oq (its : List Value) : ∀ (k : Nat) (acc : List Value),
  List.foldl (λx1 x2 => x1 ++ x2) acc.toArray (Zyb k its.toArray) = (acc ++ (Zyb k its).flatten).toArray
 | 0, acc => by simp
 | k + 1, acc => by
  have e : acc.toArray ++ its.toArray = (acc ++ its).toArray := by simp
  have e2 : (acc ++ its) ++ (Zyb k its).flatten = acc ++ (Zyb (k + 1) its).flatten := by
   rw [Zxe, Zwc, List.append_assoc]
  rw [<- e2, <- Oq its k (acc ++ its), <- e, Zxe, List.foldl_cons]
section
variable {X : Cx} {pins : List (Addr × Obj)} {Z : St} {H : Hp} {s : Shared} {l b : Addr} {xs ys zs : List V}
theorem Inv.lset {its its' : List Value} {n : Nat} {f : Array Value -> Array Value} {t' : Nat} (I : Inv X pins Z H s) (hH : H l = some (.lst xs))
  (e : s.heap.get? l = some { cls := .type "list", data := .seq its.toArray n }) (hf : f its.toArray = its'.toArray) (hv : Vals ys its') (hz : ys.length <= sizeLine) :
  Inv X pins Z (upd H l (.lst ys)) { s with heap := s.heap.update l (Obj.mapSeq f), toks := t' } := by
 have q := PySem.IsL.update e f
 rw [hf] at q
 refine I.write (x := l) (e := l) (by rw [hH]; exact trivial) (.inl rfl) (λb' u hb hu => (Zyo s.heap (Obj.mapSeq f) (Zzf hb)).trans hu) ⟨_, q⟩ ?_
 exact ⟨hz, its', _, hv, q⟩
theorem Inv.lnew {its : List Value} {t' : Nat} (I : Inv X pins Z H s) (hv : Vals ys its) (hz : ys.length <= sizeLine) :
  Inv X pins Z (upd H s.heap.objs.size (.lst ys)) { s with heap := s.heap.push { cls := .type "list", data := .seq its.toArray }, toks := t' } :=
 I.laid (λ_ _ q => Zzy _ q) (Zzw _) ⟨hz, its, 0, hv, Zzm _ rfl⟩
theorem Inv.fresh (I : Inv X pins Z H s) : H s.heap.objs.size = none := I.hok.fresh (Zzw _)
theorem Inv.lstM (I : Inv X pins Z H s) (hH : H l = some (.lst xs)) : xs.length <= sizeLine /\ ∃ (its : List Value) (n : Nat), Vals xs its /\ xs.length = its.length /\ s.heap.get? l = some { cls := .type "list", data := .seq its.toArray n } := by
 obtain ⟨z, its, n, r, e⟩ := I.hok l _ hH
 exact ⟨z, its, n, r, r.length, e⟩
theorem Yk {n : Nat} (h : n <= sizeLine) : Zwk n = false := by
 unfold Zwk
 exact decide_eq_false (by omega)
end
section
variable {X : Cx}
def rAppend : V -> List V -> Hp -> VK -> Prop := λx vs H Q => ∃ l xs y, x = .ref l /\ vs = [y] /\ H l = some (.lst xs) /\ xs.length < sizeLine /\ Q .non (upd H l (.lst (xs ++ [y])))
theorem C8 : MtM X "list.append" rAppend := by
 intro pins s Z H x vs v us Q I rx rv h
 obtain ⟨l, xs, y, rfl, rfl, hH, hz, q⟩ := h
 cases rx
 obtain ⟨u, rfl, ru⟩ := rv.one
 obtain ⟨z, its, n, r, hl, e⟩ := I.lstM hH
 refine call_meets F.slot_list_append ⟨_, e, rfl⟩ F.entry_list_append (F.args_list_append_2 _ _) (PySem.list_append l its.toArray n u (by rw [Zzp]; omega)) ⟨e, ?_⟩
 refine ⟨.non, _, I.lset (its' := its ++ [u]) hH e (by simp) (r.append (.cons ru .nil)) ?_, rfl, q⟩
 rw [Zyx, Zwt]
 omega
def rPopAt : V -> List V -> Hp -> VK -> Prop := λx vs H Q => ∃ l xs i k y, x = .ref l /\ vs = [.int i] /\ H l = some (.lst xs) /\ -(2 ^ 63) <= i /\ i < 2 ^ 63 /\ seqIndex? i xs.length = some k /\ xs[k]? = some y /\ Q y (upd H l (.lst (xs.eraseIdx k)))
theorem Yo : MtM X "list.pop" rPopAt := by
 intro pins s Z H x vs v us Q I rx rv h
 obtain ⟨l, xs, i, k, y, rfl, rfl, hH, h1, h2, hk, hy, q⟩ := h
 cases rx
 obtain ⟨u, rfl, ru⟩ := rv.one
 obtain ⟨t, rfl⟩ := ru
 obtain ⟨z, its, n, r, hl, e⟩ := I.lstM hH
 obtain ⟨w, hw, rw'⟩ := r.get hy
 refine call_meets F.slot_list_pop ⟨_, e, rfl⟩ F.entry_list_pop (F.args_list_pop_2 _ _)
  (MeetsSeq.list_pop_at l its.toArray n i t k w (fitsIndex_both h1 h2) (by rw [Zzp, <- hl]; exact hk) (by rw [<- Array.getElem?_toList]; exact hw) (by rw [Zzp]; omega)) ⟨e, ?_⟩
 refine ⟨y, _, I.lset (its' := its.eraseIdx k) hH e ?_ (r.eraseIdx k) ?_, rw', q⟩
 ·show its.toArray.eraseIdxIfInBounds k = (its.eraseIdx k).toArray
  rw [List.eraseIdxIfInBounds_toArray]
 ·have := Og xs k
  omega
def rCat : R2 := λx y H Q => ∃ l b xs zs, x = .ref l /\ y = .ref b /\ H l = some (.lst xs) /\ H b = some (.lst zs) /\ xs.length + zs.length <= sizeLine /\ ∀ p, H p = none -> Q (.ref p) (upd H p (.lst (xs ++ zs)))
theorem Lx : OpR X (binaryOp .Add) rCat := by
 intro pins s Z H x y v u Q I rx ry h
 obtain ⟨l, b, xs, zs, rfl, rfl, hH, hB, hz, q⟩ := h
 cases rx
 cases ry
 obtain ⟨z, its, n, r, hl, e⟩ := I.lstM hH
 obtain ⟨z2, its2, n2, r2, hl2, e2⟩ := I.lstM hB
 refine PySem.P.add_list e e2 ?_ (by rw [Zzp, Zzp]; omega)
 have ea : its.toArray ++ its2.toArray = (its ++ its2).toArray := by simp
 rw [ea]
 exact ⟨.ref _, _, I.lnew (t' := s.toks) (r.append r2) (by rw [Zyx]; omega), rfl, q _ I.fresh⟩
def rRep : R2 := λx y H Q => ∃ l k xs, x = .ref l /\ y = .int k /\ H l = some (.lst xs) /\ -(2 ^ 63) <= k /\ k < 2 ^ 63 /\ xs.length * k.toNat <= sizeLine /\
 ∀ p, H p = none -> Q (.ref p) (upd H p (.lst (Zyb k.toNat xs).flatten))
theorem d4 {α : Type} (xs : List α) (k : Nat) : (Zyb k xs).flatten.length = k * xs.length := by
 induction k with
 | zero => simp
 | succ k ih => rw [Zxe, Zwc, Zyx, ih, Nat.succ_mul, Nat.add_comm]
theorem Pl : OpR X (binaryOp .Mult) rRep := by
 intro pins s Z H x y v u Q I rx ry h
 obtain ⟨l, k, xs, rfl, rfl, hH, h1, h2, hz, q⟩ := h
 cases rx
 obtain ⟨t, rfl⟩ := ry
 obtain ⟨z, its, n, r, hl, e⟩ := I.lstM hH
 have hlen : its.toArray.size * k.toNat <= sizeLine := by rw [Zzp, <- hl]; exact hz
 have hcap : ¬ its.toArray.size * k.toNat > (2 ^ 63 - 1) / 8 := by
  have : (sizeLine : Nat) <= (2 ^ 63 - 1) / 8 := by decide
  omega
 have hfit : ¬ (!Builtin.List.listFitsIndex k) = true := by
  rw [fitsIndex_both h1 h2]
  exact Zzc
 have hlong : ¬ Zwk (its.toArray.size * k.toNat) = true := by
  rw [Yk hlen]
  exact Zzc
 have hnew : List.foldl (λx1 x2 => x1 ++ x2) #[] (Zyb (if its.toArray.isEmpty = true then 0 else k.toNat) its.toArray) = (Zyb k.toNat its).flatten.toArray := by
  have f0 : ∀ m : Nat, List.foldl (λx1 x2 => x1 ++ x2) #[] (Zyb m its.toArray) = (Zyb m its).flatten.toArray := λm => by
   have := Oq its m []
   rw [List.nil_append] at this
   exact this
  rw [f0]
  cases its with
  | nil => simp
  | cons a r' => rw [if_neg (by simp)]
 refine wpAny_binaryOp_repeat_ref (T := "list") (U := "int") (by decide) ⟨_, e, rfl⟩ (λs' => typeIs_int s' k t) noFill_list_mul F.fills_int_mul F.slot_int_rmul repeat_list F.slot_int_index.lookup
  (call_meets F.slot_int_rmul (typeIs_int s k t) F.entry_int_rmul (F.args_int_rmul_2 _ _) (int___rmul___int_list k t l its.toArray n)
   ⟨e, rfl, ⟨_, e, rfl⟩, call_meets F.slot_list_mul ⟨_, e, rfl⟩ F.entry_list_mul (F.args_list_mul_2 _ _) (AutoListH.list___mul___list_int_3 l its.toArray n k t hfit hcap hlong) ⟨e, ?_⟩⟩)
 rw [hnew]
 exact ⟨.ref _, _, I.lnew (t' := s.toks) (r.rep k.toNat) (by rw [d4, Nat.mul_comm]; exact hz), rfl, q _ I.fresh⟩
end
section
variable {prog : Program} {w : World} {A : Around} {E : Value -> Shared -> Prop} {s : Shared}
end
section
variable {X : Cx}
end
section
variable {κ : Type} [DecidableEq κ]
def Br (kvs : List (κ × V)) (k : κ) : Option V := (kvs.find? λkv => decide (kv.1 = k)).map (·.2)
def Ei (kvs : List (κ × V)) (k : κ) (v : V) : List (κ × V) :=
 if (kvs.any λkv => decide (kv.1 = k)) = true then kvs.map (λkv => if kv.1 = k then (kv.1, v) else kv) else kvs ++ [(k, v)]
theorem Ca {p : κ × V} {r : List (κ × V)} {k : κ} (e : p.1 = k) : Br (p :: r) k = some p.2 := by simp [Br, Zww, e]
theorem Bq {p : κ × V} {r : List (κ × V)} {k : κ} (e : ¬ p.1 = k) : Br (p :: r) k = Br r k := by simp [Br, Zww, e]
theorem Du (k : κ) : ∀ kvs : List (κ × V), (kvs.any λkv => decide (kv.1 = k)) = (Br kvs k).isSome
 | [] => rfl
 | p :: r => by
  rw [Zwy]
  by_cases e : p.1 = k
  ·simp only [Ca e, decide_eq_true e, Bool.true_or, Option.isSome_some]
  ·rw [Bq e, decide_eq_false e, Bool.false_or]; exact Du k r
theorem Qx (k j : κ) (y : V) : ∀ kvs : List (κ × V), Br (kvs.map λkv => if kv.1 = k then (kv.1, y) else kv) j = (Br kvs j).map λx => if j = k then y else x
 | [] => rfl
 | p :: r => by
  have ih := Qx k j y r
  rw [Zz4]
  by_cases h : p.1 = k
  ·rw [if_pos h]
   by_cases e : p.1 = j
   ·rw [Ca (p := (p.1, y)) e, Ca e, Zx7, if_pos (e.symm.trans h)]
   ·rw [Bq (p := (p.1, y)) e, Bq e, ih]
  ·rw [if_neg h]
   by_cases e : p.1 = j
   ·rw [Ca (p := p) e, Ca e, Zx7, if_neg (λz => h (e.trans z))]
   ·rw [Bq (p := p) e, Bq e, ih]
theorem O4 (k j : κ) (y : V) : ∀ kvs : List (κ × V), Br kvs k = none -> Br (kvs ++ [(k, y)]) j = if j = k then some y else Br kvs j
 | [], _ => by
  by_cases e : k = j
  ·rw [if_pos e.symm]; exact Ca (p := (k, y)) e
  ·rw [if_neg (λz => e z.symm)]; exact Bq (p := (k, y)) e
 | p :: r, hn => by
  rw [Zw7]
  have hk : ¬ p.1 = k := λz => by rw [Ca z] at hn; cases hn
  rw [Bq hk] at hn
  have ih := O4 k j y r hn
  by_cases e : p.1 = j
  ·rw [Ca e, Ca e, if_neg (λz => hk (e.trans z))]
  ·rw [Bq e, Bq e, ih]
theorem Gy (kvs : List (κ × V)) (k j : κ) (y : V) : Br (Ei kvs k y) j = if j = k then some y else Br kvs j := by
 unfold Ei
 by_cases a : (kvs.any λkv => decide (kv.1 = k)) = true
 ·rw [if_pos a, Qx]
  rw [Du] at a
  by_cases e : j = k
  ·obtain ⟨x, hx⟩ := Zx1.mp a
   rw [if_pos e, e, hx, Zx7, if_pos rfl]
  ·rw [if_neg e]
   cases Br kvs j with
   | none => rfl
   | some x => rw [Zx7, if_neg e]
 ·rw [if_neg a]
  refine O4 k j y kvs ?_
  rw [Du] at a
  cases q : Br kvs k with
  | none => rfl
  | some x => rw [q] at a; exact (a rfl).elim
theorem Kr (kvs : List (κ × V)) (k : κ) (v : V) : (Ei kvs k v).length <= kvs.length + 1 := by
 unfold Ei
 split
 ·rw [Zzz]; omega
 ·rw [Zyx, Zwr, List.length_nil]; omega
theorem Ja {kvs : List (κ × V)} {k : κ} (v : V) (h : Br kvs k = none) : Ei kvs k v = kvs ++ [(k, v)] := by
 unfold Ei
 rw [Du, h]
 exact if_neg (by decide)
theorem RelO.isSome_eq {o : Option V} {u : Option Value} (r : RelO o u) : o.isSome = u.isSome := by
 cases o with
 | none => cases u with
  | none => rfl
  | some _ => exact (show False from r).elim
 | some _ => cases u with
  | none => exact (show False from r).elim
  | some _ => rfl
theorem KV.val {kvs : List (κ × V)} {vs : List (κ × Value)} (r : KV kvs vs) (k : κ) : RelO (Br kvs k) (valueAt vs k) := by
 unfold KV at r
 induction r with
 | nil => exact True.intro
 | @cons p q ps qs h t ih =>
  obtain ⟨h1, h2⟩ := h
  by_cases e : p.1 = k
  ·have e' : q.1 = k := h1.symm.trans e
   have b : valueAt (q :: qs) k = some q.2 := by simp [valueAt, Zww, e']
   rw [Ca e, b]; exact h2
  ·have e' : ¬ q.1 = k := λz => e (h1.trans z)
   have b : valueAt (q :: qs) k = valueAt qs k := by simp [valueAt, Zww, e']
   rw [Bq e, b]; exact ih
theorem KV.any {kvs : List (κ × V)} {vs : List (κ × Value)} (r : KV kvs vs) (k : κ) : (kvs.any λkv => decide (kv.1 = k)) = vs.any λkv => decide (kv.1 = k) := by
 unfold KV at r
 induction r with
 | nil => rfl
 | cons h t ih => rw [Zwy, Zwy, ih, h.1]
theorem KV.repl {kvs : List (κ × V)} {vs : List (κ × Value)} (r : KV kvs vs) (k : κ) {y : V} {u : Value} (ry : RelV y u) :
  KV (kvs.map λkv => if kv.1 = k then (kv.1, y) else kv) (vs.map λkv => if kv.1 = k then (kv.1, u) else kv) := by
 unfold KV at r ⊢
 induction r with
 | nil => exact .nil
 | @cons p q ps qs h t ih =>
  rw [Zz4, Zz4]
  refine .cons ?_ ih
  obtain ⟨h1, h2⟩ := h
  by_cases e : p.1 = k
  ·rw [if_pos e, if_pos (h1.symm.trans e)]; exact ⟨h1, ry⟩
  ·rw [if_neg e, if_neg (λz => e (h1.trans z))]; exact ⟨h1, h2⟩
theorem KV.put {kvs : List (κ × V)} {vs : List (κ × Value)} (r : KV kvs vs) (k : κ) {y : V} {u : Value} (ry : RelV y u) : KV (Ei kvs k y) (stored vs k u) := by
 unfold Ei stored
 rw [r.any k]
 by_cases e : (vs.any λkv => decide (kv.1 = k)) = true
 ·rw [if_pos e, if_pos e]; exact r.repl k ry
 ·rw [if_neg e, if_neg e]; exact Paired.snoc r ⟨rfl, ry⟩
theorem KV.length {kvs : List (κ × V)} {vs : List (κ × Value)} (r : KV kvs vs) : kvs.length = vs.length := Paired.length r
end
theorem Ry {P : Program} {w : World} {k : Key} {u : Value} (r : RelV (kV k) u) : (Ay P w).is k u = true := by
 cases k with
 | inl i => obtain ⟨t, e⟩ := (show ∃ t, u = Value.int i t from r); subst e; exact Rr P w i t
 | inr x => obtain ⟨t, e⟩ := (show ∃ t, u = Value.str x t from r); subst e; exact Rq P w x t
theorem Oi {P : Program} {w : World} : ∀ {ks : List Key} {us : List Value}, Vals (ks.map kV) us -> ItemsAre (Ay P w) ks us
 | [], _, r => by rw [Zx0] at r; cases r; exact .nil
 | k :: ks, _, r => by
  rw [Zz4] at r
  cases r with
  | cons h t => exact .cons (Ry h) (Oi t)
abbrev KT (H : Hp) : List (List Key × V) -> List (List Key × Addr × Value) -> Prop := Paired λp q => p.1 = q.1 /\ H q.2.1 = some (.tup (p.1.map kV)) /\ RelV p.2 q.2.2
theorem KT.val {H : Hp} {kvs : List (List Key × V)} {xs : List (List Key × Addr × Value)} (r : KT H kvs xs) (k : List Key) : RelO (Br kvs k) ((atKey xs k).map (·.2)) := by
 induction r with
 | nil => exact True.intro
 | @cons p q ps qs h t ih =>
  obtain ⟨h1, _, h2⟩ := h
  by_cases e : p.1 = k
  ·have e' : q.1 = k := h1.symm.trans e
   have b : atKey (q :: qs) k = some q.2 := by simp [atKey, Zww, e']
   rw [Ca e, b]; exact h2
  ·have e' : ¬ q.1 = k := λz => e (h1.trans z)
   have b : atKey (q :: qs) k = atKey qs k := by simp [atKey, Zww, e']
   rw [Bq e, b]; exact ih
theorem KT.repl {H : Hp} {kvs : List (List Key × V)} {xs : List (List Key × Addr × Value)} (r : KT H kvs xs) (k : List Key) {y : V} {u : Value} (ry : RelV y u) :
  KT H (kvs.map λkv => if kv.1 = k then (kv.1, y) else kv) (xs.map (putAt k u)) := by
 induction r with
 | nil => exact .nil
 | @cons p q ps qs h t ih =>
  rw [Zz4, Zz4]
  refine .cons ?_ ih
  obtain ⟨h1, h2, h3⟩ := h
  unfold putAt
  by_cases e : p.1 = k
  ·rw [if_pos e, if_pos (h1.symm.trans e)]; exact ⟨h1, h2, ry⟩
  ·rw [if_neg e, if_neg (λz => e (h1.trans z))]; exact ⟨h1, h2, h3⟩
theorem KT.put {H : Hp} {kvs : List (List Key × V)} {xs : List (List Key × Addr × Value)} (r : KT H kvs xs) (k : List Key) {b : Addr} {y : V} {u : Value} (hb : H b = some (.tup (k.map kV))) (ry : RelV y u) :
  KT H (Ei kvs k y) (storedH xs k b u) := by
 have e : (kvs.any λkv => decide (kv.1 = k)) = (atKey xs k).isSome := by
  rw [Du, (r.val k).isSome_eq, Option.isSome_map]
 unfold Ei storedH
 rw [e]
 by_cases q : (atKey xs k).isSome = true
 ·rw [if_pos q, if_pos q]; exact r.repl k ry
 ·rw [if_neg q, if_neg q]; exact Paired.snoc r ⟨rfl, hb, ry⟩
theorem KT.keeps {H H' : Hp} {kvs : List (List Key × V)} {xs : List (List Key × Addr × Value)} (r : KT H kvs xs) (ht : ∀ b ys, H b = some (.tup ys) -> H' b = some (.tup ys)) : KT H' kvs xs :=
 Paired.mapP r λ_ _ z => ⟨z.1, ht _ _ z.2.1, z.2.2⟩
section
variable {P : Program} {w : World} {H : Hp} {h : Heap} {a : Addr}
theorem gd {u : HO} (ok : HOk P w H h) (e : Rd H a u) : ObjOk P w H h a u := e.ok ok
theorem Ot {kvs : List (Key × V)} (ok : HOk P w H h) (e : Rd H a (.dK kvs)) : kvs.length <= sizeLine /\ (a == sysModules) = false /\ ∃ vs, KV kvs vs /\ h.DictOf (Ay P w) a vs :=
 show ObjOk P w H h a (.dK kvs) from gd ok e
theorem mm {kvs : List (Key × V)} (ok : HOk P w H h) (e : H a = some (.dK kvs)) : kvs.length <= sizeLine /\ (a == sysModules) = false /\ ∃ vs, KV kvs vs /\ h.DictOf (Ay P w) a vs := Ot ok (.inl e)
theorem Q1 {ks : List Key} (ok : HOk P w H h) (e : H a = some (.tup (ks.map kV))) : (tupleKind (Ay P w)).is h ks a := by
 obtain ⟨_, its, r, o, h1, h2, n, h3⟩ := (show ObjOk P w H h a (.tup (ks.map kV)) from ok a _ e)
 exact ⟨o, its.toArray, n, h1, h2, h3, by simpa using Oi r⟩
theorem V8 {kvs : List (List Key × V)} (ok : HOk P w H h) (e : Rd H a (.dT kvs)) : kvs.length <= sizeLine /\ (a == sysModules) = false /\
  ∃ xs, KT H kvs xs /\ h.DictOfH (tupleKind (Ay P w)) a xs := by
 obtain ⟨z, y, xs, r, o, es, ep, h1, h2, h3, h4, h5⟩ := (show ObjOk P w H h a (.dT kvs) from gd ok e)
 refine ⟨z, y, xs, r, o, es, ep, h1, h2, h3, h4, λx hx => ?_, h5⟩
 have all : ∀ {l : List (List Key × V)} {m : List (List Key × Addr × Value)}, KT H l m -> ∀ x ∈ m, (tupleKind (Ay P w)).is h x.1 x.2.1 := by
  intro l m q
  induction q with
  | nil => intro x hx; exact nomatch hx
  | @cons p q ps qs hq t ih =>
   intro x hx
   rcases Zzk.mp hx with e | hx
   ·subst e
    exact Q1 ok (by rw [<- hq.1]; exact hq.2.1)
   ·exact ih x hx
 exact all r x hx
theorem ml {kvs : List (List Key × V)} (ok : HOk P w H h) (e : H a = some (.dT kvs)) : kvs.length <= sizeLine /\ (a == sysModules) = false /\
  ∃ xs, KT H kvs xs /\ h.DictOfH (tupleKind (Ay P w)) a xs := V8 ok (.inl e)
end
def Xi (H : Hp) (a : Addr) (y : V) (r : Option V) : Prop :=
 (∃ kvs k, Rd H a (.dK kvs) /\ y = kV k /\ r = Br kvs k) \/ ∃ kvs k b, Rd H a (.dT kvs) /\ y = .ref b /\ H b = some (.tup (k.map kV)) /\ r = Br kvs k
def DPut (H : Hp) (a : Addr) (y v : V) (H' : Hp) : Prop :=
 (∃ kvs k, H a = some (.dK kvs) /\ y = kV k /\ kvs.length < sizeLine /\ H' = upd H a (.dK (Ei kvs k v))) \/
 ∃ kvs k b, H a = some (.dT kvs) /\ y = .ref b /\ H b = some (.tup (k.map kV)) /\ kvs.length < sizeLine /\ H' = upd H a (.dT (Ei kvs k v))
theorem DPut.k {H : Hp} {a : Addr} {kvs : List (Key × V)} {k : Key} {v : V} (e : H a = some (.dK kvs)) (hl : kvs.length < sizeLine) : DPut H a (kV k) v (upd H a (.dK (Ei kvs k v))) := .inl ⟨kvs, k, e, rfl, hl, rfl⟩
section
variable {X : Cx} {pins : List (Addr × Obj)} {Z : St} {H : Hp} {s : Shared} {a : Addr} {y v : V} {u r : Value} {o : Option V} {A : Around} {E : Value -> Shared -> Prop}
theorem Inv.big (I : Inv X pins Z H s) : sysModules < s.heap.objs.size := by
 have h : mainGlobals < s.heap.objs.size := (I.mod.glob.keeps I.bk).lt
 exact Nat.lt_trans (by decide) h
theorem Ou {Q : Value -> Shared -> Prop} (hu : A.units + 1 < cLine) (I : Inv X pins Z H s) (g : Xi H a y (some v)) (ry : RelV y u) (h : ∀ w' s', Inv X pins Z H s' -> RelV v w' -> Q w' s') :
  wpAny (model X.prog X.w) A (getItem (.ref a) u) Q E s := by
 rcases g with ⟨kvs, k, e, ey, l⟩ | ⟨kvs, k, b, e, ey, eb, l⟩
 ·subst ey
  obtain ⟨z, hd, vs, rel, dd⟩ := Ot I.hok e
  obtain ⟨w', hw, rw'⟩ := RelO.some_of (v := v) (o := valueAt vs k) (by rw [l]; exact rel.val k)
  exact wpAny_getItem_of (Ry ry) dd.mapOf hw (h w' _ (I.tok _) rw')
 ·subst ey
  cases (show u = Value.ref b from ry)
  obtain ⟨z, hd, xs, rel, dd⟩ := V8 I.hok e
  obtain ⟨w', hw, rw'⟩ := RelO.some_of (v := v) (o := (atKey xs k).map (·.2)) (by rw [l]; exact rel.val k)
  obtain ⟨p, hp, hp2⟩ := Option.map_eq_some_iff.mp hw
  refine wpAny_getItem_heap (tupleKind_room_in1 hu) (Q1 I.hok eb) dd hp ?_
  rw [hp2]
  exact h w' _ (I.tok _) rw'
theorem d_in {Q : Value -> Shared -> Prop} (hu : A.units + 1 < cLine) (I : Inv X pins Z H s) (g : Xi H a y o) (ry : RelV y u) (h : ∀ s', Inv X pins Z H s' -> Q (.bool o.isSome) s') :
  wpAny (model X.prog X.w) A (compareOp .In u (.ref a)) Q E s := by
 rcases g with ⟨kvs, k, e, ey, l⟩ | ⟨kvs, k, b, e, ey, eb, l⟩
 ·subst ey
  obtain ⟨z, hd, vs, rel, dd⟩ := Ot I.hok e
  refine wpAny_in_of (Ry ry) hd dd.mapOf ?_
  rw [<- (rel.val k).isSome_eq, <- l]
  exact h _ (I.tok _)
 ·subst ey
  cases (show u = Value.ref b from ry)
  obtain ⟨z, hd, xs, rel, dd⟩ := V8 I.hok e
  refine wpAny_in_heap (tupleKind_room_in1 hu) (Q1 I.hok eb) hd dd ?_
  have q := (rel.val k).isSome_eq
  rw [Option.isSome_map] at q
  rw [<- q, <- l]
  exact h _ (I.tok _)
theorem Vc {h' : Heap} {t' : Nat} {ob : HO} (I : Inv X pins Z H s) (mu : Mut (H a)) (hs : Zy7 a s.heap h') (he : ∃ q, h'.get? a = some q) (new : ObjOk X.prog X.w (upd H a ob) h' a ob) :
  Inv X pins Z (upd H a ob) { s with heap := h', toks := t' } :=
 I.write (x := a) (e := a) mu (.inl rfl) (λb q hb z => (hs.2 b hb).trans z) he new
theorem jl {P : Program} {w : World} {H' : Hp} {h' : Heap} {kvs : List (Key × V)} {vs : List (Key × Value)} (z : kvs.length <= sizeLine) (hd : (a == sysModules) = false) (rel : KV kvs vs) (dd : h'.DictOf (Ay P w) a vs) :
  ObjOk P w H' h' a (.dK kvs) := ⟨z, hd, vs, rel, dd⟩
theorem X6 {H' : Hp} {Q : Unit -> Shared -> Prop} (hu : A.units + 1 < cLine) (I : Inv X pins Z H s) (g : DPut H a y v H') (ry : RelV y u) (rv : RelV v r) (h : ∀ s', Inv X pins Z H' s' -> Q () s') :
  wpAny (model X.prog X.w) A (setItem (.ref a) u r) Q E s := by
 rcases g with ⟨kvs, k, e, ey, l, eH⟩ | ⟨kvs, k, b, e, ey, eb, l, eH⟩
 ·subst ey eH
  obtain ⟨z, hd, vs, rel, dd⟩ := mm I.hok e
  have hz : vs.length <= sizeLine := by rw [<- rel.length]; exact z
  have hl : (Ei kvs k v).length <= sizeLine := by have := Kr kvs k v; omega
  refine wpAny_setItem_pairs (hsz := hz) (Ry ry) dd λh' dd' hs => h _ ?_
  have he : ∃ q, h'.get? a = some q := by obtain ⟨q, _, _, hq, _⟩ := dd'; exact ⟨q, hq⟩
  exact Vc I (by rw [e]; exact True.intro) hs he (jl hl hd (rel.put k rv) dd')
 ·subst ey eH
  cases (show u = Value.ref b from ry)
  obtain ⟨z, hd, xs, rel, dd⟩ := ml I.hok e
  have hz : xs.length <= sizeLine := by rw [<- Paired.length rel]; exact z
  have hl : (Ei kvs k v).length <= sizeLine := by have := Kr kvs k v; omega
  refine wpAny_setItem_heap (hsz := hz) (tupleKind_room_in1 hu) (Q1 I.hok eb) dd λh' dd' hs => h _ ?_
  obtain ⟨q, es, ep, hq, h2, h3, h4, _, h5⟩ := dd'
  refine Vc I (by rw [e]; exact True.intro) hs ⟨q, hq⟩ ⟨hl, hd, _, (rel.put k eb rv).keeps λc ys ec => ?_, q, es, ep, hq, h2, h3, h4, h5⟩
  rw [A3 (Ur ec e (λz => nomatch z))]
  exact ec
end
section
variable {X : Cx} {pins : List (Addr × Obj)} {Z : St} {H : Hp} {s : Shared} {a : Addr} {kvs : List (Key × V)} {k : Key} {u : Value} {A : Around} {E : Value -> Shared -> Prop}
theorem mn {Q : Value -> Shared -> Prop} (I : Inv X pins Z H s) (e : Rd H a (.dK kvs)) (h : ∀ t s', Inv X pins Z H s' -> Q (.int kvs.length t) s') : wpAny (model X.prog X.w) A (call (.builtin "len") [.ref a]) Q E s := by
 obtain ⟨z, hd, vs, rel, dd⟩ := Ot I.hok e
 refine call_len_dict hd dd (by rw [<- rel.length]; rw [sizeLine_eq] at z; omega) ?_
 rw [<- rel.length]
 exact h _ _ (I.tok _)
end
theorem S9 {X : Cx} {pins : List (Addr × Obj)} {Z : St} {H : Hp} {s : Shared} {a : Addr} {y : V} {o : Option V} (I : Inv X pins Z H s) (g : Xi H a y o) : s.TypeIs (.ref a) "dict" := by
 rcases g with ⟨kvs, k, e, _, _⟩ | ⟨kvs, k, b, e, _, _, _⟩
 ·obtain ⟨_, _, vs, _, dd⟩ := Ot I.hok e
  exact dd.typeIs
 ·obtain ⟨_, _, xs, _, dd⟩ := V8 I.hok e
  exact dd.typeIs
section
variable {X : Cx} {o i e value : Expr} {pos pos' tpos : Pos} {td ty tv : TE}
end
theorem Zc {P : Program} {w : World} {H : Hp} (h : Heap) (hb : sysModules < h.objs.size) : ObjOk P w H (h.push { cls := .type "dict", data := .dict #[] }) h.objs.size (.dK []) :=
 ⟨Zyn _, beq_eq_false_iff_ne.mpr (Zzf (Zz0 hb)), [], .nil, Heap.DictOf.new h⟩
def tDNewK : TE := λ_ H Q => ∀ p, H p = none -> Q (.ref p) (upd H p (.dK []))
section
variable {X : Cx} {pos : Pos}
theorem Gh : PE X (.Dict [] [] pos) tDNewK := λpins s Z H Q I h =>
 wpAny_Dict_empty ⟨.ref s.heap.objs.size, _, I.laid (a := s.heap.objs.size) (o := .dK []) (t' := s.toks) (λ_ _ q => Zzy _ q) (Zzw _) (Zc s.heap I.big), rfl, h _ (I.hok.fresh (Zzw _))⟩
end
section
variable {X : Cx} {pins : List (Addr × Obj)} {Z : St} {H : Hp} {s : Shared} {a : Addr} {y d : V} {u r : Value} {o : Option V} {A : Around} {E : Value -> Shared -> Prop}
end
section
variable {X : Cx} {o e f : Expr} {apos cpos : Pos} {td ty tx : TE}
end
section
variable {X : Cx} {pins : List (Addr × Obj)} {Z : St} {H : Hp} {s : Shared} {a : Addr} {kvs : List (Key × V)} {A : Around} {E : Value -> Shared -> Prop}
end
section
variable {X : Cx} {pins : List (Addr × Obj)} {Z : St} {H : Hp} {s : Shared} {a : Addr} {y : V} {u : Value} {A : Around} {E : Value -> Shared -> Prop}
end
end L2
namespace Att
open PySem PySem.W PySem.Calls PyProof.Rows
theorem L3 {P : Params} {h : Heap} : ∀ (ns : List Int) (vs : List Value), WellAll P h vs (ns.map WData.int) -> IntsAre vs ns := by
 intro ns
 induction ns with
 | nil =>
  intro vs w
  rw [Zx0] at w
  cases w
  exact .nil
 | cons n ns ih =>
  intro vs w
  rw [Zz4] at w
  cases w with
  | cons a b =>
   cases a
   exact .cons _ _ (ih _ b)
theorem Vx {l : OpenLaw} {n : Nat} (hn : l.most = some n) {P : Params} {h : Heap} {args : List WData} {vals : List Value}
  (hpre : l.row.toRowW.claim.pre args = true) (hwl : WellAll P h vals args) :
  ∃ a vs ns, vals = [Value.ref a] /\ args = [WData.list (ns.map WData.int)] /\ h.get? a = some { cls := .type "list", data := .seq vs.toArray } /\ IntsAre vs ns /\ ns.length <= n := by
 have hsh : WShape.hasAll [] args [.list .int] = true := (pre_splitW hpre).1
 have hc : l.pre.holds [] { args := args } = true := (pre_splitW hpre).2
 obtain ⟨d, r, rfl, h1, h2⟩ := hasAllW_cons hsh
 obtain rfl := hasAllW_nil h2
 obtain ⟨xs, rfl, h3⟩ := hasW_list h1
 obtain ⟨ns, rfl⟩ := items_int h3
 have hlen : ns.length <= n := by
  unfold OpenLaw.pre at hc
  have h4 : (WTm.not (.lt (.lit (.int (n : Int))) (.len (.arg 0)))).holds [] { args := [.list (ns.map .int)] } = true := by
   have h4 := (holds_andW hc).1
   rw [hn] at h4
   exact h4
  have h5 := condW_of h4 (w_not (w_lt w_lit (w_len_list (w_arg rfl))))
  rw [Zzz] at h5
  refine Nat.le_of_not_lt λq => ?_
  have q' : (n : Int) < ((ns.length : Nat) : Int) := by omega
  first
   | (rw [decide_eq_true q'] at h5; exact absurd h5 (by decide))
   | (simp at h5; omega)
 cases hwl with
 | cons w1 w2 =>
  cases w2
  cases w1 with
  | list ho hall => exact ⟨_, _, ns, rfl, rfl, ho, L3 ns _ hall, hlen⟩
theorem W0 (l : OpenLaw) (args : List WData) : l.row.toRowW.claim.post args (.bool true) args = true :=
 postW_of (r := l.row.toRowW) (X := (true == true))
  (show WShape.has [] (.bool true) .bool = true by first | rfl | decide | simp [WShape.has, WShape.arms, WShape.armsAll])
  (show (WTm.eq .res (.lit (.bool true))).value [] { args := args, res := some (.bool true), after := args } = some (.bool (true == true)) from w_eq_bool (w_res rfl) w_lit) rfl
theorem attach_call {l : OpenLaw} {n : Nat} {q : Program} {loose : List Str} {XP : (Str -> Option Value) -> Heap -> Prop} {YP : World -> Heap -> Prop} {d : DefRec}
  (hn : l.most = some n) (hdf : d.params.defaults = [])
  (call : ∀ (w : World) (s₀ s₁ : Shared) (mg mb : Str -> Option Value) (fa : Addr) (o : Obj) (pm cd doc : Value) (a : Addr) (vs : List Value) (ns : List Int),
   Ground q loose [] XP w s₀ mg mb s₁.heap -> YP w s₁.heap ->
   s₁.heap.get? fa = some o -> o.data = .func (docDef d.name d.params d.body d.scope pm cd doc) -> s₁.heap.CodeRec cd d.name -> mg d.name = some (.ref fa) ->
   s₁.heap.get? a = some { cls := .type "list", data := .seq vs.toArray } -> IntsAre vs ns -> ns.length <= n -> s₁.gens = #[] ->
   codeAny (model l.prog w) callerA (.call (.ref fa) ⟨[.ref a], []⟩) (λr s' => r = .ok (.ret (.bool true)) /\ OldK s₁.heap s'.heap /\ s'.os = s₁.os /\ AllBare s'.gens) s₁) :
  WalkO q loose XP YP l.row.toRowW d [] (λf vs => PySem.call f vs) := by
 intro w s₀ s₁ mg mb G Y fa o pm cd doc dV kV ho hd hcd hD hmg hg args vals as hpre hlay hrd hwl hlo
 obtain rfl : dV = .none := Dflts.none hD hdf
 obtain rfl : kV = .none := Dflts.noKw hD
 obtain ⟨a, vs, ns, rfl, rfl, hobj, hints, hlen⟩ := Vx hn hpre hwl
 refine enter_call (codeAny_mono (call w s₀ s₁ mg mb fa o pm cd doc a vs ns G Y ho (fd_plain hd) hcd hmg hobj hints hlen hg) λr s' hq => ?_)
 obtain ⟨rfl, h2, h3, h4⟩ := hq
 exact ⟨.inl ⟨.bool true, .bool true, [], rfl, λ_ => rfl, .bool true, W0 l _, λ_ => ⟨List.Pairwise.nil, λ_ hm => (nomatch hm)⟩⟩, h2, h3, h4⟩
section
variable {prog : Program} {w : World} {A : Around} {E : Value -> Shared -> Prop} {s : Shared} {K : Frag}
end
end Att
namespace L2
open PySem PySem.Spec PyProof.Rows
theorem Nz : ∀ {vs : List Value} {ns : List Int}, IntsAre vs ns -> Vals (ns.map V.int) vs
 | _, _, .nil => .nil
 | _, _, .cons n t h => .cons ⟨t, rfl⟩ (Nz h)
def Am (s : Stmt) : Arguments := match s with
 | .FunctionDef _ a _ _ _ _ _ _ _ _ => a
 | _ => { posonlyargs := [], args := [], vararg := none, kwonlyargs := [], kw_defaults := [], kwarg := none, defaults := [] }
def Ah (s : Stmt) : List Stmt := match s with
 | .FunctionDef _ _ b _ _ _ _ _ _ _ => b
 | _ => []
def A9 (s : Stmt) : Scope := match s with
 | .FunctionDef _ _ _ _ _ _ sc _ _ _ => sc
 | _ => { kind := .function, names := [], isGenerator := false, isCoroutine := false }
abbrev CX0 : CXT := λ_ _ _ _ _ _ => False
abbrev E0 : XK := λ_ _ _ => False
theorem ln {X : Cx} : U7 CX0 X E0 := λ_ _ _ _ _ _ _ h => h.elim
structure Fun (K : Zzu) (x qual : Str) (st : Stmt) (f : Addr) (fd : FuncData) : Prop where
 ex : ∃ (oc : Value) (od : Option Addr) (kV doc pm : Value) (an : Option Addr) (cdv ct : Value) (osl : Array (Option Value)),
  fd = Zzd x qual (Am st) (Ah st) (A9 st) .none kV doc pm an cdv ct /\ K.lookup f = some ⟨oc, od, .func fd, osl⟩ /\ Zze K cdv qual = true
 kp : Zzh K (.ref f) = true
section
variable {P : Program} {w : World} {K : Zzu} {mg : Str -> Option Value} {base : Heap}
theorem Fun.ok {x qual : Str} {st : Stmt} {f : Addr} {fd : FuncData} {N ps : List Str} {k : Nat} {sp : Sp} (F : Fun K x qual st f fd) (S : Aj N ps (A9 st)) (len : ∀ vs H Q E, sp vs H Q E -> vs.length = ps.length)
  (hbody : ∀ (cdv : Value) (A : Around) (outer : List Env) (s : Shared) (H : Hp) (vs : List V) (Q : VK) (E : XK), Room k (A.deeper (envOfC qual (A9 st) s.heap.objs.size f cdv)) -> sp vs H Q E ->
   ∃ t, PSs (Mk CX0 P w K mg base N qual (A9 st) f cdv A outer s H E).nox (Ah st) t /\ t { nx := λ_ H' => Q .non H', rt := Q } (Gw N vs) H) : FnOk P w K mg base CX0 (k + 1) f fd ps sp := by
 obtain ⟨oc, od, kV, doc, pm, an, cdv, ct, osl, rfl, lk, hcd⟩ := F.ex
 refine V3 lk hcd S len λA outer s H vs Q E hr hsp => ?_
 obtain ⟨t, h, q⟩ := hbody cdv A outer s H vs Q E hr hsp
 exact ⟨t, h.nox, q⟩
theorem Fun.binds {x qual : Str} {st : Stmt} {f : Addr} {fd : FuncData} {ps : List Str} (F : Fun K x qual st f fd)
  (h : ∀ (kV doc pm : Value) (an : Option Addr) (cdv ct : Value) (us : List Value), us.length = ps.length -> bindArgs (Zzd x qual (Am st) (Ah st) (A9 st) .none kV doc pm an cdv ct) ⟨us, []⟩ = pure (ps.zip us)) : Binds K fd ps [] := by
 obtain ⟨oc, od, kV, doc, pm, an, cdv, ct, osl, rfl, lk, hcd⟩ := F.ex
 exact .all (h kV doc pm an cdv ct)
theorem Az {x qual : Str} {st : Stmt} {f : Addr} {oc : Value} {od an : Option Addr} {osl : Array (Option Value)} {kV doc pm cdv ct : Value} (l : K.lookup f = some ⟨oc, od, .func (Zzd x qual (Am st) (Ah st) (A9 st) .none kV doc pm an cdv ct), osl⟩)
  (c : Zze K cdv qual = true) (k : Zzh K (.ref f) = true) : Fun K x qual st f (Zzd x qual (Am st) (Ah st) (A9 st) .none kV doc pm an cdv ct) := ⟨⟨oc, od, kV, doc, pm, an, cdv, ct, osl, rfl, l, c⟩, k⟩
end
theorem Bc {A : Around} {k : Nat} (hr : Room k A) : A.units + 1 < cLine := Zyq (Nat.add_le_add_left (by decide : 1 <= 64) _) hr.units
section
variable {X : Cx}
theorem pv (i : Nat) {x : Str} {pos : Pos} (hN : X.N[i]? = some x := by rfl) (hv : Vis X.env.scope x := by first | exact Zzt rfl | exact Or.inr (Zzt rfl) | exact Or.inr (Or.inr rfl)) (hd : (x == ("__debug__" : Str)) = false := by decide)
  (hcd : (x == ("__classdict__" : Str)) = false := by decide) : PE X (.Name x pos) (av i) := iu hN hv hd hcd
theorem Xf : CallR X (.builtin "len") (λxs H Q => ∃ a kvs, xs = [V.ref a] /\ H a = some (.dK kvs) /\ Q (.int kvs.length) H) := by
 intro pins s Z H xs us Q I r h
 obtain ⟨a, kvs, rfl, ha, q⟩ := h
 obtain ⟨u, rfl, ru⟩ := Fn r
 cases ru
 exact mn I (.inl ha) λt s' I' => ⟨.int kvs.length, H, I', ⟨t, rfl⟩, q⟩
end
theorem iteF {A B : Prop} (h : B) : if false = true then A else B := by
 rw [if_neg Zzc]
 exact h
theorem iteT {A B : Prop} (h : A) : if true = true then A else B := by
 rw [if_pos rfl]
 exact h
theorem Ey {c A B : Prop} [Decidable c] (h1 : c -> A) (h2 : ¬ c -> B) : if c then A else B := by
 by_cases h : c
 ·rw [if_pos h]
  exact h1 h
 ·rw [if_neg h]
  exact h2 h
theorem m8 {c A B : Prop} [Decidable c] (hc : c) (h : B) : if (!decide c) = true then A else B := by
 rw [decide_eq_true hc]
 exact iteF h
def Same (H H' : Hp) : Prop := ∀ b o, H b = some o -> H' b = some o
theorem Same.refl (H : Hp) : Same H H := λ_ _ h => h
theorem Same.trans {H H1 H2 : Hp} (a : Same H H1) (b : Same H1 H2) : Same H H2 := λc o h => b c o (a c o h)
theorem Same.free {H H' : Hp} (e : Same H H') {l : Addr} (h : H' l = Option.none) : H l = Option.none := by
 cases q : H l with
 | none => rfl
 | some o =>
  rw [e l o q] at h
  cases h
theorem Same.seq {K : Zzu} {H H' : Hp} {a : Addr} {xs : List V} (e : Same H H') (h : SqL K H a xs) : SqL K H' a xs := by
 rcases h with (h | ⟨o, h⟩) | h
 ·exact .inl (.inl (e _ _ h))
 ·exact .inl (.inr ⟨o, e _ _ h⟩)
 ·exact .inr h
section
variable {κ : Type} [DecidableEq κ]
theorem aq {kvs : List (κ × V)} {k : κ} {v : V} (h : Br kvs k = some v) : k ∈ kvs.map (·.1) := by
 have q : (kvs.any λkv => decide (kv.1 = k)) = true := by
  rw [Du, h]
  all_goals rfl
 obtain ⟨p, hp, e⟩ := List.any_eq_true.mp q
 exact Zzl.mpr ⟨p, hp, of_decide_eq_true e⟩
end
theorem Nv {env : Env} : ∀ (names : List (Str × NameKind)) (acc : List (Str × Addr)), (∀ y ∈ names, y.2 = .free -> ∃ c, env.cells.lookup y.1 = some c) -> (∀ x c, acc.lookup x = some c -> env.cells.lookup x = some c) ->
  ∃ cl, (forIn names acc (λx r => if (x.2 == Zz1) = true then do let c <- cellOf env x.1; pure (ForInStep.yield ((x.1, c) :: r)) else pure (ForInStep.yield r)) : Sem _) = pure cl /\
   (∀ x c, cl.lookup x = some c -> env.cells.lookup x = some c) /\ (∀ x, ((x, Zz1) ∈ names \/ ∃ c, acc.lookup x = some c) -> ∃ c, cl.lookup x = some c) := by
 intro names
 induction names with
 | nil => intro acc h ha; exact ⟨acc, rfl, ha, λx hx => by simpa using hx⟩
 | cons y r ih =>
  intro acc h ha
  obtain ⟨n, k⟩ := y
  have hr : ∀ y ∈ r, y.2 = .free -> ∃ c, env.cells.lookup y.1 = some c := λy hy => h y (Zz7 _ hy)
  rw [List.forIn_cons]
  by_cases hk : k = .free
  ·subst hk
   obtain ⟨c, hc⟩ := h (n, .free) Zz6 rfl
   have e : cellOf env n = pure c := by unfold cellOf; rw [hc]
   obtain ⟨cl, e1, a, b⟩ := ih ((n, c) :: acc) hr (λx c' hx => by
    rw [Zy9] at hx
    cases hxn : x == n with
    | true =>
     rw [hxn] at hx
     cases hx
     rw [eq_of_beq hxn]
     exact hc
    | false =>
     rw [hxn] at hx
     exact ha x c' hx)
   refine ⟨cl, ?_, a, λx hx => b x ?_⟩
   ·rw [<- e1]
    show (if (Zz1 == Zz1) = true then (cellOf env n >>= _) else _) >>= _ = _
    rw [if_pos (show (Zz1 == Zz1) = true from rfl), e]
    rfl
   ·rcases hx with hx | ⟨c', hx⟩
    ·rcases Zzk.mp hx with e2 | hx
     ·have e3 : x = n := congrArg Prod.fst e2
      exact .inr ⟨c, by rw [Zy9, e3]; simp⟩
     ·exact .inl hx
    ·refine .inr ?_
     rw [Zy9]
     cases x == n with
     | true => exact ⟨c, rfl⟩
     | false => exact ⟨c', hx⟩
  ·obtain ⟨cl, e1, a, b⟩ := ih acc hr ha
   refine ⟨cl, ?_, a, λx hx => b x ?_⟩
   ·rw [<- e1]
    have hb : (k == Zz1) = false := by simpa using hk
    show (if (k == Zz1) = true then _ else _) >>= _ = _
    rw [if_neg (by rw [hb]; simp)]
    rfl
   ·rcases hx with hx | hx
    ·rcases Zzk.mp hx with e2 | hx
     ·exact absurd (congrArg Prod.snd e2).symm hk
     ·exact .inl hx
    ·exact .inr hx
theorem Ez {scope : Scope} {env : Env} (h : ∀ y ∈ scope.names, y.2 = .free -> ∃ c, env.cells.lookup y.1 = some c) :
  ∃ cl, closureFor scope env = pure cl /\ (∀ x c, cl.lookup x = some c -> env.cells.lookup x = some c) /\ (∀ x, (x, Zz1) ∈ scope.names -> ∃ c, cl.lookup x = some c) := by
 obtain ⟨cl, e, a, b⟩ := Nv scope.names [] h (by intro x c e; cases e)
 refine ⟨cl, ?_, a, λx hx => b x (.inl hx)⟩
 unfold closureFor
 exact congrArg (λm => m >>= λx => pure x) e
def cpN (N own : List Str) (cap : List Nat) : List Str := own ++ cap.map λj => N.getD j ""
def Gb (own : List Str) (cap : List Nat) (Z : St) : St := own.map (λ_ => none) ++ cap.map λj => Z.getD j none
structure G9 (N : List Str) (osc sc : Scope) (own : List Str) (cap : List Nat) : Prop where
 kind : sc.kind = .function
 names : ∀ x ∈ sc.names, x.2 = .local -> sc.names.lookup x.1 = some .local
 nocell : ∀ y ∈ sc.names, y.2 ≠ .cell
 free : ∀ y ∈ sc.names, y.2 = .free -> osc.names.lookup y.1 = some .cell \/ osc.names.lookup y.1 = some .free
 cap : ∀ j ∈ cap, j < N.length /\ sc.names.lookup (N.getD j "") = some .free
def B2 (X : Cx) (sc : Scope) (own : List Str) (cap : List Nat) (cl : List (Str × Addr)) (C : Addr) (s : Shared) (H : Hp) (fp : List Addr) (pins : List (Addr × Obj)) : Cx :=
 { X with N := cpN X.N own cap, s₀ := s, H₀ := H, env := compEnvC sc cl C X.env, outer := X.stack, ex := fp, fn := λ_ => false, pn := X.pn ++ pins, xe := λ_ _ => False }
def PTs (X : Cx) (ifs : List Expr) (tt : TT) : Prop :=
 ∀ (pins : List (Addr × Obj)) (s : Shared) (Z : St) (H : Hp) (Q : Bool -> Hp -> Prop), Inv X pins Z H s -> tt Z H Q ->
  wpAny (model X.prog X.w) X.A (forIn ifs true λc r => if r = true then do let ok <- isTrue c X.env (eval c X.env); pure (ForInStep.yield ok) else pure (ForInStep.yield r)) (TP X pins Z Q) X.xe s
def tYes : TT := λ_ H Q => Q true H
theorem D8 {X : Cx} : PTs X [] tYes := λ_ _ _ H _ I h => wpAny_tests_nil ⟨H, I, h⟩
theorem Pi {X : Cx} {c : Expr} {tt : TT} (h : PT X c tt) : PTs X [c] tt := λpins s Z H Q I hq => wpAny_tests_one (h pins s Z H Q I hq)
def Sm (n : Nat) (g : TG) : Prop := ∀ v Z H Q, g v Z H Q -> g v Z H λZ' H' => (Z'.length = Z.length /\ ∀ j, n <= j -> Z'[j]? = Z[j]?) /\ Q Z' H'
theorem C9 {n i : Nat} (h : i < n) : Sm n (Db i) := λv Z H Q q => ⟨⟨by simp, λj hj => by rw [Zye (by omega)]⟩, q⟩
def Uh (own : List Str) (cap : List Nat) (wi : TI) (g : TG) (tt : TT) (te : TE) : TE := λZ H Q => wi Z H λJ H1 => ∃ W : Nat -> Nat -> List V -> Hp -> Prop, (∃ m, W 0 m [] H1) /\ ∀ i m acc H, W i m acc H -> acc.length <= sizeLine /\
 ((J.stop i H /\ ∀ p, H p = none -> Q (.ref p) (upd H p (.lst acc))) \/
  (J.go i H /\ acc.length < sizeLine /\ ∃ N : List V -> Hp -> Prop, (∀ acc' H', N acc' H' -> ∃ m', m' < m /\ W (i + 1) m' acc' H') /\ ∀ x H', J.yld i H x H' -> g x (Gb own cap Z) H' λσ2 H2 => tt σ2 H2 λb H3 => if b = true then te σ2 H3 λy H4 => N (acc ++ [y]) H4 else N acc H3))
section
variable {prog : Program} {w : World} {A : Around} {R : Result -> Shared -> Prop} {s : Shared}
theorem Fc {elt target iter : Expr} {ifs : List Expr} {scope : Scope} {pos : Pos} {it acc : Value} {env : Env} (I : Nat -> Shared -> Prop)
  (turn : ∀ n s, I n s -> wpAny (model prog w) A (pyNext it) (λr s₁ => match r with
   | none => R (.ok .next) s₁
   | some v => wpAny (model prog w) A (letOwnedTupleGo target it v) (λ_ s₁' => wpAny (model prog w) A (assign target env v) (λ_ s₂ =>
     wpAny (model prog w) A (forIn ifs true λc r => if r = true then do let ok <- isTrue c env (eval c env); pure (ForInStep.yield ok) else pure (ForInStep.yield r)) (λok s₃ =>
      if ok = true then wpAny (model prog w) A (eval elt env) (λx s₄ =>
       wpAny (model prog w) A (call (.builtin "list.append") [acc, x]) (λ_ s₅ => ∃ m, m < n /\ I m s₅) (λ_ _ => False) s₄) (λ_ _ => False) s₃
      else ∃ m, m < n /\ I m s₃) (λ_ _ => False) s₂) (λ_ _ => False) s₁') (λ_ _ => False) s₁) (λ_ _ => False) s)
  (n : Nat) (h : I n s) :
  codeAny (model prog w) A (.compLoop (.ListComp elt [⟨target, iter, ifs, 0⟩] scope pos) 0 it acc env) R s := by
 refine codeAny_loop rfl I (λn s hI => ?_) n h
 show wpAny _ A ((compTurn (.ListComp elt [⟨target, iter, ifs, 0⟩] scope pos) 0 it acc env).onRaise (λx => do noteFrame x env; theTreesLotGoes x)) _ _ s
 refine wpAny_noted ?_
 rw [compTurn_list]
 refine wpAny_bind (wpAny_standAt (wpAny_bind (wpAny_mono (turn n s hI) (λr s₁ h₁ => ?_) λ_ _ h' => h'.elim)))
 cases r with
 | none => exact wpAny_pure h₁
 | some v =>
  refine wpAny_bind (wpAny_mono h₁ (λ_ s₁' h₁' => ?_) λ_ _ h' => h'.elim)
  refine wpAny_bind (wpAny_mono h₁' (λ_ s₂ h₂ => wpAny_bind (wpAny_mono h₂ (λok s₃ h₃ => ?_) λ_ _ h' => h'.elim)) λ_ _ h' => h'.elim)
  cases ok with
  | false => exact wpAny_pure ⟨rfl, h₃⟩
  | true =>
   exact wpAny_bind (wpAny_bind (wpAny_mono h₃ (λx s₄ h₄ => wpAny_bind (wpAny_mono h₄ (λ_ s₅ h₅ => wpAny_pure (wpAny_pure ⟨rfl, h₅⟩)) λ_ _ h' => h'.elim)) λ_ _ h' => h'.elim))
end
section
variable {X : Cx}
theorem Kc {own : List Str} {cap : List Nat} {Z : St} {i : Nat} {v : V} (h : (Gb own cap Z)[i]? = some (some v)) : own.length <= i /\ ∃ j, cap[i - own.length]? = some j /\ Z[j]? = some (some v) := by
 unfold Gb at h
 by_cases hi : i < own.length
 ·rw [Zy3 (by simpa using hi), Zzx] at h
  cases e : own[i]? with
  | none => rw [e] at h; cases h
  | some a => rw [e] at h; cases h
 ·have hi' : own.length <= i := by omega
  rw [Zyg (by simpa using hi'), Zzz, Zzx] at h
  refine ⟨hi', ?_⟩
  cases e : cap[i - own.length]? with
  | none => rw [e] at h; cases h
  | some j =>
   rw [e] at h
   have h2 : Z.getD j none = some v := Zza h
   refine ⟨j, rfl, ?_⟩
   rw [Zzv] at h2
   cases e2 : Z[j]? with
   | none => rw [e2] at h2; cases h2
   | some o => rw [e2] at h2; simp at h2; rw [h2]
theorem Hi {env : Env} {x : Str} {k : NameKind} : ∀ {names : List (Str × NameKind)}, names.lookup x = some k ->
  (names.map λ(n, k) => if (k == Zz1 && env.scope.kind == .function && env.kindOf n == some .cell) then (n, Zwp) else (n, k)).lookup x = some (if (k == Zz1 && env.scope.kind == .function && env.kindOf x == some .cell) = true then .cell else k)
 | [], h => by simp at h
 | (n, k') :: r, h => by
  have ih := @Hi env x k r
  show List.lookup x ((if (k' == Zz1 && env.scope.kind == .function && env.kindOf n == some .cell) = true then (n, Zwp) else (n, k')) :: _) = _
  cases hx : x == n with
  | true =>
   simp only [Zy9, hx] at h
   cases h
   have e := eq_of_beq hx
   subst e
   by_cases hc : (k == Zz1 && env.scope.kind == .function && env.kindOf x == some .cell) = true
   ·rw [if_pos hc, if_pos hc]; simp [Zy9]
   ·rw [if_neg hc, if_neg hc]; simp [Zy9]
  | false =>
   simp only [Zy9, hx] at h
   by_cases hc : (k' == Zz1 && env.scope.kind == .function && env.kindOf n == some .cell) = true
   ·rw [if_pos hc]; simp only [Zy9, hx]; exact ih h
   ·rw [if_neg hc]; simp only [Zy9, hx]; exact ih h
theorem F0 {env : Env} {x : Str} : ∀ {names : List (Str × NameKind)}, (∀ y ∈ names, y.2 ≠ .cell) ->
  ((names.map λ(n, k) => if (k == Zz1 && env.scope.kind == .function && env.kindOf n == some .cell) then (n, Zwp) else (n, k)).lookup x = some .cell \/
   (names.map λ(n, k) => if (k == Zz1 && env.scope.kind == .function && env.kindOf n == some .cell) then (n, Zwp) else (n, k)).lookup x = some .free) -> (x, Zz1) ∈ names
 | [], _, h => by simp at h
 | (n, k') :: r, hn, h => by
  have ih := @F0 env x r λy hy => hn y (Zz7 _ hy)
  have hk' : k' ≠ .cell := hn (n, k') Zz6
  have h : List.lookup x ((if (k' == Zz1 && env.scope.kind == .function && env.kindOf n == some .cell) = true then (n, Zwp) else (n, k')) :: _) = some .cell \/
   List.lookup x ((if (k' == Zz1 && env.scope.kind == .function && env.kindOf n == some .cell) = true then (n, Zwp) else (n, k')) :: _) = some .free := h
  cases hx : x == n with
  | true =>
   have e := eq_of_beq hx
   subst e
   by_cases hc : (k' == Zz1 && env.scope.kind == .function && env.kindOf x == some .cell) = true
   ·have : k' = .free := by
     rw [Zy5, Zy5] at hc
     exact eq_of_beq hc.1.1
    rw [this]
    exact Zz6
   ·rw [if_neg hc] at h
    simp [Zy9] at h
    rcases h with h | h
    ·exact absurd h hk'
    ·rw [h]; exact Zz6
  | false =>
   by_cases hc : (k' == Zz1 && env.scope.kind == .function && env.kindOf n == some .cell) = true
   ·rw [if_pos hc] at h; simp only [Zy9, hx] at h; exact Zz7 _ (ih h)
   ·rw [if_neg hc] at h; simp only [Zy9, hx] at h; exact Zz7 _ (ih h)
end
theorem Bd {a b : Addr} {n : Nat} (h1 : a < n) (h2 : n <= b) : a ≠ b := Zz0 (Zzi h1 h2)
section
variable {X : Cx} {pins : List (Addr × Obj)} {Z : St} {H : Hp} {s : Shared} {sc : Scope} {own : List Str} {cap : List Nat} {cl : List (Str × Addr)} {C : Addr} {fp : List Addr}
theorem gp (S : G9 X.N X.env.scope sc own cap) (cl1 : ∀ x c, cl.lookup x = some c -> X.env.cells.lookup x = some c) (cl2 : ∀ x, (x, Zz1) ∈ sc.names -> ∃ c, cl.lookup x = some c)
  (I : Inv X pins Z H s) (f : ∀ b ∈ fp, Fz X pins H b) (live : ∀ b ∈ fp, b < s.heap.objs.size) (hC : s.heap.objs.size <= C) : (B2 X sc own cap cl C s H fp pins).Ok where
 mod := I.ok.mod
 kind := S.kind
 glob := I.ok.glob
 blt := I.ok.blt
 above := hC
 inj := λx y c h1 h2 => I.ok.inj x y c (cl1 x c h1) (cl1 y c h2)
 has := λx hx => cl2 x (F0 S.nocell hx)
 cab := λx c h => by cases h
 hd := I.ok.hd
 frames := I.ok.frames
 stk := .inl rfl
 exf := λb hb => ⟨λz => Bd (live b hb) hC z, λx c e => (f b hb).2.2.2.2.1 x c (cl1 x c e)⟩
 bs := I.bs
 bsz := Zyz I.ok.bsz I.sz
 noex := λb o e hb => by
  rcases (f b hb).2.2.2.1 with z | z
  ·exact I.ok.noex b o e z
  ·exact Bd (Zzi (Zzo e) I.ok.bsz) z rfl
 exfs := λb hb z => by
  rcases Zzk.mp (I.stkSub b z) with q | q
  ·exact (f b hb).2.1 q
  ·exact (f b hb).2.2.1 q
 funs := I.stack
 frf := I.stkFree
theorem Ze (S : G9 X.N X.env.scope sc own cap) (cl1 : ∀ x c, cl.lookup x = some c -> X.env.cells.lookup x = some c) (cl2 : ∀ x, (x, Zz1) ∈ sc.names -> ∃ c, cl.lookup x = some c)
  (I : Inv X pins Z H s) (ok : (B2 X sc own cap cl C s H fp pins).Ok) (hC : s.heap.objs.size <= C) {h₁ : Heap} {tk : Nat} {m : Str -> Option Value} (hns : h₁.Ns C m) (old : ∀ b o, s.heap.get? b = some o -> h₁.get? b = some o) :
  Inv (B2 X sc own cap cl C s H fp pins) [] (Gb own cap Z) H { s with heap := h₁, toks := tk } := by
 have cellK : ∀ x c v, X.env.cells.lookup x = some c -> s.heap.IsCell c v -> h₁.IsCell c v := λx c v _ z => by
  obtain ⟨o, ho, hd⟩ := z
  exact ⟨o, old c o ho, hd⟩
 refine ⟨ok, rfl, I.bare, Un.kept old, ⟨m, hns, λi x v e1 e2 e3 => ?_⟩, λx c e => ?_, I.hok.fresh hC, λx c e => I.freeC x c (cl1 x c e), λp hp => ?_, I.hok.kept old, ?_⟩
 ·have e1 : (cpN X.N own cap)[i]? = some x := e1
  obtain ⟨hi, j, hj, hσ⟩ := Kc e2
  unfold cpN at e1
  rw [Zyg hi, Zzx, hj] at e1
  have e1 : X.N.getD j "" = x := Zza e1
  obtain ⟨hjl, hfr⟩ := S.cap j (Zzn hj)
  have hx : X.N[j]? = some x := by rw [<- e1, Zzv]; simp [hjl]
  rw [e1] at hfr
  have hfree := S.free (x, .free) (Zxm hfr) rfl
  obtain ⟨m0, _, hl⟩ := I.loc
  obtain ⟨u, r, l⟩ := hl j x v hx hσ (.inr hfree)
  refine ⟨u, r, ?_⟩
  rcases l with ⟨k, _⟩ | ⟨k, c, hc, z⟩
  ·have k : X.env.scope.names.lookup x = some .local := k
   rcases hfree with q | q <;> (rw [q] at k; cases k)
  ·obtain ⟨c', hc'⟩ := cl2 x (Zxm hfr)
   have e4 := cl1 x c' hc'
   rw [hc] at e4
   cases e4
   refine .inr ⟨?_, c, hc', cellK x c _ hc z⟩
   have q := Hi (env := X.env) hfr
   show (relabel sc X.env).names.lookup x = some .cell \/ (relabel sc X.env).names.lookup x = some .free
   have q' : (relabel sc X.env).names.lookup x = some (if (Zz1 == Zz1 && X.env.scope.kind == .function && X.env.kindOf x == some .cell) = true then .cell else .free) := q
   rw [q']
   split
   ·exact .inl rfl
   ·exact .inr rfl
 ·obtain ⟨v, z⟩ := I.cell x c (cl1 x c e)
  exact ⟨v, cellK x c v (cl1 x c e) z⟩
 ·have hp : p ∈ (X.pn ++ pins) ++ [] := hp
  rw [Zya] at hp
  obtain ⟨e, n, ne, nf, d⟩ := I.pin p hp
  refine ⟨old _ _ e, n, λz => ?_, λz => ?_, d⟩
  ·exact Bd (Zzo e) hC z
  ·rcases Zzk.mp (I.stkSub p.1 z) with q | q
   ·exact ne q
   ·exact nf q
 ·show (Gb own cap Z).length = (cpN X.N own cap).length
  unfold Gb cpN
  simp
theorem Vd (I : Inv X pins Z H s) (f : ∀ b ∈ fp, Fz X pins H b) (hC : s.heap.objs.size <= C) {D : Addr} (hD : s.heap.objs.size <= D) (hDC : D ≠ C) {Z' : St} {pl : List (Addr × Obj)} {H' : Hp} {s' : Shared} {acc : List V} {its : List Value} {nn : Nat}
  (J : Inv (B2 X sc own cap cl C s H fp pins) pl Z' H' s') (hDn : H' D = none) (hDo : s'.heap.get? D = some { cls := .type "list", data := .seq its.toArray nn }) (hv : Vals acc its) (hz : acc.length <= sizeLine) :
  Inv X pins Z (upd H' D (.lst acc)) s' /\ (∃ m, s'.heap.Ns C m) /\ Fz X pins (upd H' D (.lst acc)) C := by
 have u : Un (frs X.stack) fp H H' s.heap s'.heap := J.base
 have lt : ∀ b o, s.heap.get? b = some o -> b ≠ D := λb o e z => Bd (Zzo e) hD z
 have trk : ∀ b o, H b = some o -> b ≠ D := λb o e z => Bd (I.hok.lt e) hD z
 have CH : H' C = none := J.free
 refine ⟨I.call' (ch := fp) J.os ⟨u.keep, u.slot, λb o e n hx => by rw [A3 (lt b o e)]; exact u.free b o e n hx, u.there, λb xs e => by rw [A3 (trk b _ e)]; exact u.tups b xs e, λb o xs e => by rw [A3 (trk b _ e)]; exact u.frzs b o xs e, λb ps e => by rw [A3 (trk b _ e)]; exact u.tbls b ps e⟩ (λb o e => ?_) J.bare λb hb => ?_, ?_, ?_⟩
 ·by_cases hb : b = D
  ·subst hb
   rw [A0] at e
   cases e
   exact ⟨hz, its, nn, hv, hDo⟩
  ·rw [A3 hb] at e
   refine (J.hok b o e).stay (λc v _ q => q) (λc q => ?_) λc xs q => ?_
   ·rw [A3 (A5 q hDn)]; exact q
   ·rw [A3 (A5 q hDn)]; exact q
 ·obtain ⟨f0, f1, f2, f3, f4, f5⟩ := f b hb
  exact ⟨f3, f1, f4, f5⟩
 ·obtain ⟨m, hn, _⟩ := J.loc
  exact ⟨m, hn⟩
 ·refine I.fpOk hC ?_
  rw [A3 (Zzf hDC)]
  exact CH
theorem Mq {elt tg iter : Expr} {ifs : List Expr} {pos : Pos} {g : TG} {tt : TT} {te : TE} {E : Value -> Shared -> Prop}
  {it : Addr} {tn : Nat -> Heap -> Prop} {J : It} {Q : VK} {RR : Value -> Addr -> Result -> Shared -> Prop}
  (hc : X.calm = true) (S : G9 X.N X.env.scope sc own cap) (hown : Sm own.length g)
  (cl1 : ∀ x c, cl.lookup x = some c -> X.env.cells.lookup x = some c) (cl2 : ∀ x, (x, Zz1) ∈ sc.names -> ∃ c, cl.lookup x = some c)
  (hb : ∀ cl C s H fp pins, PG (B2 X sc own cap cl C s H fp pins) tg g /\ PTs (B2 X sc own cap cl C s H fp pins) ifs tt /\ PE (B2 X sc own cap cl C s H fp pins) elt te)
  (I : Inv X pins Z H s) (T : L4 X.prog X.w X.K tg J fp it tn) (st : tn 0 s.heap) (f : ∀ b ∈ fp, Fz X pins H b)
  (W : Nat -> Nat -> List V -> Hp -> Prop) (w0 : ∃ m, W 0 m [] H)
  (turn : ∀ i m acc H, W i m acc H -> acc.length <= sizeLine /\ ((J.stop i H /\ ∀ p, H p = none -> Q (.ref p) (upd H p (.lst acc))) \/ (J.go i H /\ acc.length < sizeLine /\ ∃ N : List V -> Hp -> Prop, (∀ acc' H', N acc' H' -> ∃ m', m' < m /\ W (i + 1) m' acc' H') /\ ∀ x H', J.yld i H x H' -> g x (Gb own cap Z) H' λσ2 H2 => tt σ2 H2 λb H3 => if b = true then te σ2 H3 λy H4 => N (acc ++ [y]) H4 else N acc H3)))
  (hRR : ∀ D C H' s', Inv X pins Z H' s' -> (∃ m, s'.heap.Ns C m) -> Fz X pins H' C -> Q (.ref D) H' -> RR (.ref D) C (.ok .next) s') :
  wpAny (model X.prog X.w) X.A (newList []) (λacc s₃ => wpAny (model X.prog X.w) X.A (newFunctionEnv sc X.env.globals cl [] X.env.qual none .none (some X.env)) (λcenv s₄ =>
   codeAny (model X.prog X.w) X.A (.compStart (.ListComp elt [⟨tg, iter, ifs, 0⟩] sc pos) 0 (.ref it) acc { cenv with scope := relabel sc X.env }) (RR acc cenv.locals) s₄) E s₃) E s := by
 refine wpAny_newObj_type (wpAny_newFunctionEnv S.nocell (by intro y hy; simp at hy) (λh₁ hns₁ hsb₁ => ?_) S.kind)
 dsimp only at hns₁ hsb₁ ⊢
 generalize hH2 : s.heap.push { cls := .type "list", dict := none, data := .seq ([] : List Value).toArray } = H2 at hns₁ hsb₁ ⊢
 have hCs : H2.objs.size = s.heap.objs.size + 1 := by rw [<- hH2, Zy1]
 have hDC : s.heap.objs.size ≠ H2.objs.size := by omega
 have hCle : s.heap.objs.size <= H2.objs.size := by omega
 have old : ∀ b o, s.heap.get? b = some o -> h₁.get? b = some o := λb o e => by
  exact hsb₁.extBut b o (Bd (Zzo e) hCle) (Zzy _ (hH2 ▸ Zzy _ e))
 have hacc : h₁.get? s.heap.objs.size = some { cls := .type "list", data := .seq ([] : List Value).toArray 0 } := hsb₁.extBut _ _ hDC (Zzy _ (hH2 ▸ Zzm _ rfl))
 have live : ∀ b ∈ fp, b < s.heap.objs.size := λb hb => by
  obtain ⟨o, e, _⟩ := T.obj _ _ st b hb
  exact Zzo e
 have ok := gp (C := H2.objs.size) S cl1 cl2 I f live hCle
 have hDst : s.heap.objs.size ∉ frs X.stack := λz => by
  rcases Zzk.mp (I.stkSub _ z) with q | q
  ·exact Bd I.lt (Zzw _) q.symm
  ·exact I.nofs (Zzw _) q
 have fpX : ∀ (H' : Hp) (pl : List (Addr × Obj)), (∀ b ∈ fp, H' b = none) -> (∀ p ∈ pl, ∀ b ∈ fp, p.1 ≠ b) -> ∀ b ∈ fp, Fz (B2 X sc own cap cl H2.objs.size s H fp pins) pl H' b := λH' pl hn hp b hb => by
  obtain ⟨f0, f1, f2, f3, f4, f5⟩ := f b hb
  refine ⟨hn b hb, λz => ?_, λz => ?_, .inl hb, λx c e => f4 x c (cl1 x c e), λp hpp => ?_⟩
  ·exact Bd (live b hb) hCle z
  ·rcases Zzk.mp (I.stkSub b z) with q | q
   ·exact f1 q
   ·exact f2 q
  ·rcases Zyu.mp hpp with q | q
   ·exact f5 p q
   ·exact hp p q b hb
 have loop : ∀ s₃ : Shared, s₃ = { s with heap := h₁, toks := s.toks + ([] : List (Str × Value)).length } ->
   codeAny (model X.prog X.w) X.A (.compLoop (.ListComp elt [⟨tg, iter, ifs, 0⟩] sc pos) 0 (.ref it) (.ref s.heap.objs.size) (compEnvC sc cl H2.objs.size X.env))
    (RR (.ref s.heap.objs.size) H2.objs.size) s₃ := by
  rintro s₃ rfl
  obtain ⟨m0, w0⟩ := w0
  obtain ⟨hg, ht, he⟩ := hb cl H2.objs.size s H fp pins
  have I0 : Inv (B2 X sc own cap cl H2.objs.size s H fp pins) [] (Gb own cap Z) H { s with heap := h₁, toks := s.toks + ([] : List (Str × Value)).length } := Ze S cl1 cl2 I ok hCle hns₁ old
  refine Fc (λn s' => ∃ i acc its nn H', Inv (B2 X sc own cap cl H2.objs.size s H fp pins) [] (Gb own cap Z) H' s' /\ tn i s'.heap /\ (∀ b ∈ fp, H' b = none) /\
   s'.heap.get? s.heap.objs.size = some { cls := .type "list", data := .seq its.toArray nn } /\ Vals acc its /\ H' s.heap.objs.size = none /\ W i n acc H') ?_ m0
   ⟨0, [], [], 0, H, I0, T.keep _ _ _ st (λb _ o e => old b o e), λb hb => (f b hb).1, hacc, .nil, I.hok.fresh (Zzw _), w0⟩
  rintro n s3 ⟨i, acc, its, nn, H3, I3, st3, fr3, hD3, rv3, hDn, w3⟩
  obtain ⟨hz, hcase⟩ := turn i n acc H3 w3
  have hpl : ∀ p ∈ [((s.heap.objs.size : Addr), ({ cls := .type "list", data := .seq its.toArray nn } : Obj))], ∀ b ∈ fp, p.1 ≠ b := λp hp b hb z => by
   have e : p = _ := Zzb.mp hp
   rw [e] at z
   exact Bd (live b hb) (Zzw _) z.symm
  have I3' : Inv (B2 X sc own cap cl H2.objs.size s H fp pins) [((s.heap.objs.size : Addr), ({ cls := .type "list", data := .seq its.toArray nn } : Obj))] (Gb own cap Z) H3 s3 := I3.pins_of λp hp => by
   have e : p = _ := Zzb.mp hp
   subst e
   exact ⟨hD3, hDn, hDC, hDst, λv z => by cases z⟩
  rcases hcase with ⟨stop, fin⟩ | ⟨go, hlt, N, hN, step⟩
  ·refine thn (T.done (B2 X sc own cap cl H2.objs.size s H fp pins) rfl rfl rfl hc i _ s3 _ H3 _ I3' (fpX H3 _ fr3 hpl) st3 stop) λr s4 ⟨hr, I4⟩ => ?_
   subst hr
   have hD4 := (I4.pin (_, _) (Zz9 _ (Zzb.mpr rfl))).1
   obtain ⟨J1, J2, J3⟩ := Vd I f hCle (Zzw _) hDC I4 hDn hD4 rv3 hz
   exact hRR _ _ _ _ J1 J2 J3 (fin _ hDn)
  ·refine thn (T.item (B2 X sc own cap cl H2.objs.size s H fp pins) rfl rfl rfl hc i _ s3 _ H3 _ I3' (fpX H3 _ fr3 hpl) st3 go) λr s4 ⟨u, hr, h4⟩ => ?_
   subst hr
   refine thn h4 λ_ s5 ⟨x, H5, I5, r5, y5, st5, fr5⟩ => ?_
   have I5' := I5.pinned (fpX H5 _ fr5 hpl) (T.obj _ _ st5)
   refine thn (hg _ s5 _ H5 x u _ I5' r5 (hown _ _ _ _ (step x H5 y5))) λ_ s6 ⟨σ6, H6, I6, ⟨hx1, hx2⟩, q6⟩ => ?_
   refine thn (ht _ s6 σ6 H6 _ I6 q6) λb s7 ⟨H7, I7, q7⟩ => ?_
   have wk : ∀ {H7 : Hp} {s7 : Shared} {pl : List (Addr × Obj)}, Inv (B2 X sc own cap cl H2.objs.size s H fp pins) pl σ6 H7 s7 -> Inv (B2 X sc own cap cl H2.objs.size s H fp pins) pl (Gb own cap Z) H7 s7 := λI => I.weak hx1.symm λj v e => by
    rw [hx2 j (Kc e).1]
    exact e
   have stay : ∀ {H7 : Hp} {s7 : Shared} {σ7 : St}, Inv (B2 X sc own cap cl H2.objs.size s H fp pins) ([((s.heap.objs.size : Addr), ({ cls := .type "list", data := .seq its.toArray nn } : Obj))] ++ Hd fp s5.heap) σ7 H7 s7 ->
     tn (i + 1) s7.heap /\ (∀ b ∈ fp, H7 b = none) /\ s7.heap.get? s.heap.objs.size = some { cls := .type "list", data := .seq its.toArray nn } /\ H7 s.heap.objs.size = none := λ{H7 s7 σ7} I7 => by
    refine ⟨T.keep _ _ _ st5 λb hb o e => (I7.pin (b, o) (Zz9 _ (Zz9 _ (Em hb e)))).1, λb hb => ?_, ?_, ?_⟩
    ·obtain ⟨o, e, d⟩ := T.obj _ _ st5 b hb
     exact (I7.pin (b, o) (Zz9 _ (Zz9 _ (Em hb e)))).2.1
    ·exact (I7.pin (_, _) (Zz9 _ (Zyf _ (Zzb.mpr rfl)))).1
    ·exact (I7.pin (_, _) (Zz9 _ (Zyf _ (Zzb.mpr rfl)))).2.1
   cases b with
   | false =>
    rw [if_neg Zzc] at q7 ⊢
    obtain ⟨m', hm, w7⟩ := hN _ _ q7
    obtain ⟨a1, a2, a3, a4⟩ := stay I7
    exact ⟨m', hm, i + 1, acc, its, nn, H7, (wk I7).pins_of (λp hp => absurd hp (by simp)), a1, a2, a3, rv3, a4, w7⟩
   | true =>
    rw [if_pos rfl] at q7 ⊢
    refine thn (he _ s7 σ6 H7 _ I7 q7) λy s8 ⟨v, H8, I8, r8, n8⟩ => ?_
    obtain ⟨m', hm, w8⟩ := hN _ _ n8
    obtain ⟨a1, a2, a3, a4⟩ := stay I8
    have hlen := rv3.length
    refine call_meets F.slot_list_append ⟨_, a3, rfl⟩ F.entry_list_append (F.args_list_append_2 _ _) (PySem.list_append s.heap.objs.size its.toArray nn y (by rw [Zzp]; omega)) ⟨a3, ?_⟩
    obtain ⟨n', q⟩ : ∃ n', (s8.heap.update s.heap.objs.size (Obj.mapSeq (·.push y))).get? s.heap.objs.size = some { cls := .type "list", data := .seq (its ++ [y]).toArray n' } := by
     have q := PySem.IsL.update a3 (·.push y)
     have e : (its.toArray.push y) = (its ++ [y]).toArray := by simp
     rw [<- e]
     exact ⟨_, q⟩
    have I9 := (wk I8).pins_of (pins' := Hd fp s5.heap) λp hp => (wk I8).pin p (Zz9 _ (Zz9 _ hp))
    have kk : ∀ b o, b ≠ s.heap.objs.size -> s8.heap.get? b = some o -> (s8.heap.update s.heap.objs.size (Obj.mapSeq (·.push y))).get? b = some o := λb o hb e => (Zyo s8.heap (Obj.mapSeq (·.push y)) (Zzf hb)).trans e
    refine ⟨m', hm, i + 1, acc ++ [v], its ++ [y], n', H8, (I9.pins_of (pins' := []) λp hp => absurd hp (by simp)).turned (it := s.heap.objs.size) kk a4 hDC (.inr (Zzw _)) (λx c e z => ?_) (λp hp z => ?_), T.keep _ _ _ a1 λb hb o e => kk b o (λz => ?_) e, a2, q, rv3.append (.cons r8 .nil), a4, w8⟩
    ·have e := cl1 x c e
     obtain ⟨w', o, ho, _⟩ := I.cell x c e
     exact Bd (Zzo ho) (Zzw _) z
    ·have hp : p ∈ (X.pn ++ pins) ++ [] := hp
     rw [Zya] at hp
     exact Bd (Zzo (I.pin p hp).1) (Zzw _) z
    ·exact Bd (live b hb) (Zzw _) z
 exact codeAny_compStart_list (loop _ rfl) (T.self _ 0 _ _ _ (T.keep _ _ _ st λb _ o e => old b o e) (loop _ rfl))
theorem Fe {elt tg iter : Expr} {ifs : List Expr} {pos : Pos} {wi : TI} {g : TG} {tt : TT} {te : TE} (hc : X.calm = true) (S : G9 X.N X.env.scope sc own cap) (hown : Sm own.length g) (hi : PI X tg iter wi)
  (hb : ∀ cl C s H fp pins, PG (B2 X sc own cap cl C s H fp pins) tg g /\ PTs (B2 X sc own cap cl C s H fp pins) ifs tt /\ PE (B2 X sc own cap cl C s H fp pins) elt te)
  (hs : ∀ x, foldedSetIterable iter X.env x = pure x := by intro _; rfl) : PE X (.ListComp elt [⟨tg, iter, ifs, 0⟩] sc pos) (Uh own cap wi g tt te) := by
 intro pins s Z H Q I h
 obtain ⟨cl, hcl, cl1, cl2⟩ := Ez (env := X.env) (scope := sc) λy hy hf => I.ok.has y.1 (S.free y hy hf)
 rw [eval_ListComp]
 refine wpAny_comprehension_free (use := none) rfl hs hcl S.kind S.names (thn (hi pins s Z H _ I h) λxv s1 h1 => thn h1 λitv s2 h2 => ?_)
 obtain ⟨it, fp, tn, J, H2, e, I2, T, st2, f2, W, w0, turn⟩ := h2
 subst e
 refine Mq (RR := λacc C => compPost (model X.prog X.w) X.A X.xe none (EP X pins Z Q) acc C) hc S hown cl1 cl2 hb I2 T st2 f2 W w0 turn ?_
 intro D C H' s' J1 ⟨m, J2⟩ ⟨c0, c1, c2, c3, c4, c5⟩ q
 exact ⟨m, J2, λh' sb => ⟨.ref D, H', J1.turned (t' := s'.toks) (λb o hb e => (sb.2 b hb).trans e) c0 c1 c3 c4 c5, rfl, q⟩⟩
theorem Ej {elt tg iter : Expr} {ifs : List Expr} {pos pos' spos : Pos} {wi : TI} {g : TG} {tt : TT} {te : TE} {i : Nat} {x : Str} (hc : X.calm = true) (S : G9 X.N X.env.scope sc own cap) (hown : Sm own.length g) (hN : X.N.Nodup) (hx : X.N[i]? = some x) (hl : X.env.scope.names.lookup x = some .local) (hi : PI X tg iter wi)
  (hb : ∀ cl C s H fp pins, PG (B2 X sc own cap cl C s H fp pins) tg g /\ PTs (B2 X sc own cap cl C s H fp pins) ifs tt /\ PE (B2 X sc own cap cl C s H fp pins) elt te)
  (hsw : swapsWith (.ListComp elt [⟨tg, iter, ifs, 0⟩] sc pos) (some (.Name x pos')) spos.line X.env = pure true := by rfl)
  (hs : ∀ x, foldedSetIterable iter X.env x = pure x := by intro _; rfl) : PS X (.Assign [.Name x pos'] (.ListComp elt [⟨tg, iter, ifs, 0⟩] sc pos) spos) (ax (Uh own cap wi g tt te) (Db i)) := by
 intro pins s Z H D I h
 obtain ⟨cl, hcl, cl1, cl2⟩ := Ez (env := X.env) (scope := sc) λy hy hf => I.ok.has y.1 (S.free y hy hf)
 rw [exec_Assign_Name_used _ _ _ _ hsw]
 refine wpAny_bind (wpAny_standAt (wpAny_bind ?_))
 show wpAny _ _ (do let _ <- comprehension (.ListComp elt [⟨tg, iter, ifs, 0⟩] sc pos) sc X.env _ (newList []) false (eval iter X.env) (some (assign (.Name x pos') X.env))) _ _ s
 refine wpAny_bind (wpAny_mono (wpAny_comprehension_free (use := some (assign (.Name x pos') X.env)) (Q := λ_ s' => SP X pins D .next s') rfl hs hcl S.kind S.names (thn (hi pins s Z H _ I h) λxv s1 h1 => thn h1 λitv s2 h2 => ?_)) (λ_ s' hq => wpAny_pure (wpAny_pure hq)) λ_ _ e => e)
 obtain ⟨it, fp, tn, J, H2, e, I2, T, st2, f2, W, w0, turn⟩ := h2
 subst e
 refine Mq (Q := λx H1 => Db i x Z H1 D.nx) (RR := λacc C => compPost (model X.prog X.w) X.A X.xe (some (assign (.Name x pos') X.env)) (λ_ s' => SP X pins D .next s') acc C) hc S hown cl1 cl2 hb I2 T st2 f2 W w0 turn ?_
 intro L C H' s' J1 ⟨m, J2⟩ ⟨c0, c1, c2, c3, c4, c5⟩ q
 show wpAny _ _ (assign (.Name x pos') X.env (.ref L)) _ _ s'
 refine wpAny_assign_Name (O7 (v := .ref L) J1 hN hx (.inl hl) rfl (λs'' J3 ⟨a, sb, ha⟩ => ?_) (.inr hl))
 have hCa : C ≠ a := by
  rcases ha with z | z
  ·rw [z]; exact c1
  ·exact Zzf (c4 _ _ z)
 refine ⟨m, J2.sameBut sb hCa, λh' sb' => ⟨_, H', J3.turned (t' := s''.toks) (λb o hb e => (sb'.2 b hb).trans e) c0 c1 c3 c4 c5, q⟩⟩
end
def My (H : Hp) : V -> Option String
 | .non => some "NoneType"
 | .bl _ => some "bool"
 | .int _ => some "int"
 | .str _ => some "str"
 | .ref a => match H a with
  | some (.lst _) => some "list"
  | some (.tup _) => some "tuple"
  | some (.dK _) => some "dict"
  | _ => none
 | _ => none
def C6 (t T : String) : Bool := t == T || (t == "bool" && T == "int")
theorem d6 (K : Zzu) {t T : String} (ht : t ∈ ["NoneType", "bool", "int", "str", "list", "tuple", "dict"]) (hT : T ∈ ["bool", "int", "str", "list", "tuple", "dict"]) : PySem.W.kitOne K (.type t) (.type T) = some (C6 t T) := by
 simp only [Zzk, Zz3, or_false] at ht hT
 rcases ht with rfl | rfl | rfl | rfl | rfl | rfl | rfl <;> rcases hT with rfl | rfl | rfl | rfl | rfl | rfl <;> first | rfl | decide +kernel
section
variable {X : Cx}
theorem Sg : CallR X (.builtin "isinstance") (λxs H Q => ∃ x T t, xs = [x, .ty T] /\ My H x = some t /\ T ∈ ["bool", "int", "str", "list", "tuple", "dict"] /\ Q (.bl (C6 t T)) H) := by
 intro pins s Z H xs us Q I r h
 obtain ⟨x, T, t, rfl, ht, hT, q⟩ := h
 obtain ⟨u, w', rfl, ru, rw'⟩ := O0 r
 have rw' : w' = Value.type T := rw'
 subst rw'
 have key : ∀ {t' : String}, Kg X.K H x (.type t') -> t' = t -> t ∈ ["NoneType", "bool", "int", "str", "list", "tuple", "dict"] -> wpAny (model X.prog X.w) X.A (call (.builtin "isinstance") [u, .type T]) (EP X pins Z Q) X.xe s := λ{t'} ty e hm => by
  subst e
  exact Ww I ru ty (d6 X.K hm hT) λtk => ⟨.bl (C6 t' T), H, I.tok tk, rfl, q⟩
 cases x with
 | non => cases ht; exact key .non rfl (by decide)
 | bl b => cases ht; exact key (.bl b) rfl (by decide)
 | int i => cases ht; exact key (.int i) rfl (by decide)
 | str z => cases ht; exact key (.str z) rfl (by decide)
 | ref a =>
  unfold My at ht
  simp only at ht
  cases e : H a with
  | none => rw [e] at ht; cases ht
  | some o =>
   rw [e] at ht
   cases o with
   | lst xs => cases ht; exact key (.lst e) rfl (by decide)
   | tup xs => cases ht; exact key (.tup e) rfl (by decide)
   | dK kvs => cases ht; exact key (.dK e) rfl (by decide)
   | _ => cases ht
 | _ => cases ht
theorem Inv.walked {pins : List (Addr × Obj)} {Z : St} {H : Hp} {s : Shared} {o : Obj} {h' : Heap} {tk : Nat} (I : Inv X pins Z H s) (k : ∀ b ob, b ∉ [s.heap.objs.size] -> (s.heap.push o).get? b = some ob -> h'.get? b = some ob) : Inv X pins Z H { s with heap := h', toks := tk } :=
 I.kept λb u e => k b u (by
  intro z
  exact Bd (Zzo e) (Zzw _) (Zzb.mp z)) (Zzy _ e)
theorem Uc : ∀ {bs : List Bool} {us : List Value}, Vals (bs.map V.bl) us -> us = bs.map Value.bool
 | [], _, .nil => rfl
 | b :: r, _, .cons h t => by
  have h : _ = Value.bool b := h
  rw [h, Uc t]
  rfl
theorem Sz (bs : List Bool) : ((Zyy bs.length).all λi => (bs[i]?).getD true) = bs.all id := by
 induction bs with
 | nil => rfl
 | cons b r ih =>
  rw [Zwr, List.range_succ_eq_map, Zwq, Zwq, List.all_map]
  show ((b :: r)[0]?.getD true && _) = _
  congr 1
theorem Av {pins : List (Addr × Obj)} {Z : St} {H : Hp} {s : Shared} {a : Addr} {xs : List V} (I : Inv X pins Z H s) (h : H a = some (.lst xs)) : ∃ its : List Value, Vals xs its /\ s.heap.IsList a its.toArray /\ a < s.heap.objs.size := by
 obtain ⟨hz, its, n, r, e⟩ := I.hok a _ h
 exact ⟨its, r, ⟨_, e, rfl, n, rfl⟩, Zzo e⟩
theorem Zm (hc : X.calm = true) : CallR X (.builtin "all") (λxs H Q => ∃ (a : Addr) (bs : List Bool), xs = [.ref a] /\ H a = some (.lst (bs.map V.bl)) /\ Q (.bl (bs.all id)) H) := by
 intro pins s Z H xs us Q I r h
 obtain ⟨a, bs, rfl, ha, q⟩ := h
 obtain ⟨u, rfl, ru⟩ := Fn r
 cases ru
 obtain ⟨its, rv, hl, hlt⟩ := Av I ha
 have e := Uc rv
 subst e
 refine call_all_walk (wpAny_pyIter_list hl ?_)
 refine ⟨s.heap.objs.size, [s.heap.objs.size, a], [s.heap.objs.size], (bs.map Value.bool).toArray.size, _, _, λi => (bs[i]?).getD true, rfl, Walks.list (A := X.A.in1) (I.ok.hd hc) _ a (Zz0 hlt) (bs.map Value.bool).toArray,
  ⟨⟨_, Zzm _ rfl, rfl, rfl⟩, hl.push _⟩, λi v s' Q' E' hP hQ => ?_, λh' tk hk => ?_⟩
 ·have hP : (bs.map Value.bool)[i]? = some v := by simpa using hP
  rw [Zzx] at hP
  cases e : bs[i]? with
  | none => rw [e] at hP; cases hP
  | some b =>
   rw [e] at hP
   cases hP
   simp only [e, Zw6] at hQ
   exact wpAny_truthy_bool hQ
 ·have e : ((Zyy (bs.map Value.bool).toArray.size).all λi => (bs[i]?).getD true) = bs.all id := by
   rw [Zzp, Zzz]; exact Sz bs
  rw [e]
  exact ⟨.bl (bs.all id), H, I.walked hk, rfl, q⟩
theorem op_isB : OpR X (compareOp .Is) (λx y H Q => ∃ i j, x = .bl i /\ y = .bl j /\ Q (.bl (i == j)) H) := by
 intro pins s Z H x y v u Q I rx ry h
 obtain ⟨i, j, rfl, rfl, q⟩ := h
 cases rx
 cases ry
 exact is_bool ⟨.bl (i == j), H, I, rfl, q⟩
theorem op_isnotB : OpR X (compareOp .IsNot) (λx y H Q => ∃ i j, x = .bl i /\ y = .bl j /\ Q (.bl (i != j)) H) := by
 intro pins s Z H x y v u Q I rx ry h
 obtain ⟨i, j, rfl, rfl, q⟩ := h
 cases rx
 cases ry
 exact isnot_bool ⟨.bl (i != j), H, I, rfl, q⟩
def Its (x : Str) : It := ⟨λi _ => i < x.cps.size, λi H v H' => H' = H /\ ∃ c, x.cps[i]? = some c /\ v = .str ⟨#[c]⟩, λi _ => x.cps.size <= i⟩
theorem R0 {P : Program} {w : World} {K : Zzu} {tg : Expr} (it : Addr) (x : Str) (t : Tok) (ty : String) (hty : ty = "str_ascii_iterator" \/ ty = "str_iterator") : L4 P w K tg (Its x) [it] it (λi h => h.IsStrIter it ty x t i) where
 mem := by simp
 obj := λi h st b hb => by
  have e : b = it := by simpa using hb
  subst e
  obtain ⟨o, e, c, d⟩ := st
  exact ⟨o, e, λv z => by rw [d] at z; cases z⟩
 keep := λi h h' st k => by obtain ⟨o, ho, r⟩ := st; exact ⟨o, k it (by simp) o ho, r⟩
 item := by
  intro X hP hw hK hc i pins s Z H E I hf st hg
  subst hP hw hK
  obtain ⟨f0, f1, f2, f3, f4, f5⟩ := hf it (by simp)
  have hg : i < x.cps.size := hg
  have fin : ∀ h', h'.IsStrIter it ty x t (i + 1) -> Zy7 it s.heap h' -> ∃ u, some (Value.str ⟨#[x.cps[i]]⟩ s.toks) = some u /\ wpAny (model X.prog X.w) X.A (letOwnedTupleGo tg (.ref it) u) (λ_ s2 => ∃ x' H', Inv X pins Z H' s2 /\ RelV x' u /\ (Its x).yld i H x' H' /\ s2.heap.IsStrIter it ty x t (i + 1) /\ ∀ b ∈ [it], H' b = none) E { s with heap := h', toks := s.toks + 1 } := λh' st' sb => by
   have I1 : Inv X pins Z H { s with heap := h', toks := s.toks + 1 } := I.turned (t' := s.toks + 1) (λb o hb e => (sb.2 b hb).trans e) f0 f1 f3 f4 f5
   obtain ⟨o, e, c, d⟩ := id st'
   refine ⟨_, rfl, On (s := { s with heap := h', toks := s.toks + 1 }) e c d (by rcases hty with rfl | rfl <;> decide) ⟨.str ⟨#[x.cps[i]]⟩, H, I1, ⟨_, rfl⟩, ⟨rfl, _, by simp [hg], rfl⟩, st', λb hb => (hf b hb).1⟩⟩
  rcases hty with rfl | rfl
  ·exact wpAny_pyNext_ascii_item st (c := x.cps[i]) (by simp [hg]) fin
  ·exact wpAny_pyNext_wide_item st (c := x.cps[i]) (by simp [hg]) fin
 done := by
  intro X hP hw hK hc i pins s Z H E I hf st hg
  subst hP hw hK
  obtain ⟨f0, f1, f2, f3, f4, f5⟩ := hf it (by simp)
  have hg : x.cps.size <= i := hg
  rcases hty with rfl | rfl
  ·exact wpAny_pyNext_ascii_end (I.ok.hd hc) st (by simp; omega) λh' eb => ⟨rfl, I.turned (t' := s.toks) (λb o hb e => eb b o hb e) f0 f1 f3 f4 f5⟩
  ·exact wpAny_pyNext_wide_end (I.ok.hd hc) st (by simp; omega) λh' eb => ⟨rfl, I.turned (t' := s.toks) (λb o hb e => eb b o hb e) f0 f1 f3 f4 f5⟩
 self := λ_ _ _ _ _ st h => by
  rcases hty with rfl | rfl
  ·exact wpAny_pyIter_striter_ascii st h
  ·exact wpAny_pyIter_striter_wide st h
theorem O6 {P : Program} {w : World} {K : Zzu} {tg : Expr} (a it : Addr) (xs : List V) : L4 P w K tg ⟨λi H => H a = some (.lst xs) /\ i < xs.length, λi H x H' => H' = H /\ xs[i]? = some x, λi H => H a = some (.lst xs) /\ xs.length <= i⟩ [it] it (λi h => h.IsListIter it a i) where
 mem := (Cp (P := P) (w := w) (K := K) (tg := tg) a it).mem
 obj := (Cp (P := P) (w := w) (K := K) (tg := tg) a it).obj
 keep := (Cp (P := P) (w := w) (K := K) (tg := tg) a it).keep
 item := by
  intro X hP hw hK hc i pins s Z H E I hf st hg
  obtain ⟨h1, h2⟩ := hg
  refine thn ((Cp (P := P) (w := w) (K := K) (tg := tg) a it).item X hP hw hK hc i pins s Z H E I hf st ⟨xs, xs[i], SqL.of h1, by simp [h2]⟩) λr s1 ⟨u, hr, h3⟩ => ⟨u, hr, thn h3 λ_ s2 ⟨x, H', I2, rx, ⟨y1, y2⟩, st2, f2⟩ => ⟨x, H', I2, rx, ⟨y1, y2 xs (SqL.of h1)⟩, st2, f2⟩⟩
 done := by
  intro X hP hw hK hc i pins s Z H E I hf st hg
  obtain ⟨h1, h2⟩ := hg
  exact (Cp (P := P) (w := w) (K := K) (tg := tg) a it).done X hP hw hK hc i pins s Z H E I hf st ⟨xs, SqL.of h1, h2⟩
 self := (Cp (P := P) (w := w) (K := K) (tg := tg) a it).self
theorem O5 {P : Program} {w : World} {K : Zzu} {tg : Expr} (a it : Addr) (xs : List V) : L4 P w K tg ⟨λi H => H a = some (.tup xs) /\ i < xs.length, λi H x H' => H' = H /\ xs[i]? = some x, λi H => H a = some (.tup xs) /\ xs.length <= i⟩ [it] it (λi h => h.IsTupleIter it a i) where
 mem := (E6 (P := P) (w := w) (K := K) (tg := tg) a it).mem
 obj := (E6 (P := P) (w := w) (K := K) (tg := tg) a it).obj
 keep := (E6 (P := P) (w := w) (K := K) (tg := tg) a it).keep
 item := by
  intro X hP hw hK hc i pins s Z H E I hf st hg
  obtain ⟨h1, h2⟩ := hg
  refine thn ((E6 (P := P) (w := w) (K := K) (tg := tg) a it).item X hP hw hK hc i pins s Z H E I hf st ⟨xs, xs[i], SqT.of h1, by simp [h2]⟩) λr s1 ⟨u, hr, h3⟩ => ⟨u, hr, thn h3 λ_ s2 ⟨x, H', I2, rx, ⟨y1, y2⟩, st2, f2⟩ => ⟨x, H', I2, rx, ⟨y1, y2 xs (SqT.of h1)⟩, st2, f2⟩⟩
 done := by
  intro X hP hw hK hc i pins s Z H E I hf st hg
  obtain ⟨h1, h2⟩ := hg
  exact (E6 (P := P) (w := w) (K := K) (tg := tg) a it).done X hP hw hK hc i pins s Z H E I hf st ⟨xs, SqT.of h1, h2⟩
 self := (E6 (P := P) (w := w) (K := K) (tg := tg) a it).self
def ItL (a : Addr) (xs : List V) : It := ⟨λi H => H a = some (.lst xs) /\ i < xs.length, λi H x H' => H' = H /\ xs[i]? = some x, λi H => H a = some (.lst xs) /\ xs.length <= i⟩
def ItT (a : Addr) (xs : List V) : It := ⟨λi H => H a = some (.tup xs) /\ i < xs.length, λi H x H' => H' = H /\ xs[i]? = some x, λi H => H a = some (.tup xs) /\ xs.length <= i⟩
def mf (te : TE) : TI := λZ H R => te Z H λx H1 => (∃ a xs, x = .ref a /\ H1 a = some (.lst xs) /\ R (ItL a xs) H1) \/ (∃ a xs, x = .ref a /\ H1 a = some (.tup xs) /\ R (ItT a xs) H1) \/ (∃ z, x = .str z /\ R (Its z) H1)
theorem iq {tg l : Expr} {te : TE} (hl : PE X l te) : PI X tg l (mf te) := by
 intro pins s Z H R I h
 refine thn (hl pins s Z H _ I h) λv s1 ⟨x, H1, I1, r1, q1⟩ => ?_
 have fp : ∀ b ∈ [s1.heap.objs.size], Fz X pins H1 b := λb hb => by
  have e : b = s1.heap.objs.size := by simpa using hb
  subst e
  exact I1.fpOk (Zzw _) (I1.hok.fresh (Zzw _))
 rcases q1 with ⟨a, xs, e, ha, q⟩ | ⟨a, xs, e, ha, q⟩ | ⟨z, e, q⟩
 ·subst e
  cases r1
  obtain ⟨its, rv, hli, hlt⟩ := Av I1 ha
  refine wpAny_pyIter_list hli ?_
  exact ⟨s1.heap.objs.size, [s1.heap.objs.size], _, _, H1, rfl, I1.kept (t' := s1.toks) λb o e => Zzy _ e, O6 a _ xs, ⟨_, Zzm _ rfl, rfl, rfl⟩, fp, q⟩
 ·subst e
  cases r1
  obtain ⟨hz, its, rv, p⟩ := I1.hok a _ ha
  refine wpAny_pyIter_tuple (show s1.heap.IsTuple a its.toArray from p) ?_
  exact ⟨s1.heap.objs.size, [s1.heap.objs.size], _, _, H1, rfl, I1.kept (t' := s1.toks) λb o e => Zzy _ e, O5 a _ xs, ⟨_, Zzm _ rfl, rfl, rfl⟩, fp, q⟩
 ·subst e
  obtain ⟨t, rfl⟩ := r1
  cases hasc : z.cps.all (· < 128)
  ·refine wpAny_pyIter_wide hasc ?_
   exact ⟨s1.heap.objs.size, [s1.heap.objs.size], _, _, H1, rfl, I1.kept (t' := s1.toks) λb o e => Zzy _ e, R0 _ z t _ (.inr rfl), ⟨_, Zzm _ rfl, rfl, rfl⟩, fp, q⟩
  ·refine wpAny_pyIter_ascii hasc ?_
   exact ⟨s1.heap.objs.size, [s1.heap.objs.size], _, _, H1, rfl, I1.kept (t' := s1.toks) λb o e => Zzy _ e, R0 _ z t _ (.inl rfl), ⟨_, Zzm _ rfl, rfl, rfl⟩, fp, q⟩
end
structure Nx (J : It) (n : Nat) (yl : Nat -> V -> Prop) (ok : Hp -> Prop) : Prop where
 go : ∀ i H, i < n -> ok H -> J.go i H
 yld : ∀ i H x H', i < n -> ok H -> J.yld i H x H' -> H' = H /\ yl i x
 stop : ∀ H, ok H -> J.stop n H
theorem Gx (a : Addr) (xs : List V) : Nx (ItL a xs) xs.length (λi x => xs[i]? = some x) (λH => H a = some (.lst xs)) := ⟨λ_ _ h o => ⟨o, h⟩, λ_ _ _ _ _ _ y => y, λ_ o => ⟨o, Zzw _⟩⟩
theorem G5 (a : Addr) (xs : List V) : Nx (ItT a xs) xs.length (λi x => xs[i]? = some x) (λH => H a = some (.tup xs)) := ⟨λ_ _ h o => ⟨o, h⟩, λ_ _ _ _ _ _ y => y, λ_ o => ⟨o, Zzw _⟩⟩
theorem G6 (lo : Int) (n : Nat) : Nx (Itr lo n) n (λi x => x = .int (lo + i)) (λ_ => True) := ⟨λ_ _ h _ => h, λ_ _ _ _ _ _ y => y, λ_ _ => Zzw _⟩
theorem Z6 {J : It} {n : Nat} {yl : Nat -> V -> Prop} {ok : Hp -> Prop} {g : TG} {tb : TS} {D : Ends} {Z : St} {H : Hp} (G : Nx J n yl ok) (Pv : Nat -> St -> Hp -> Prop) (h0 : Pv 0 Z H) (hok : ∀ i Z H, i <= n -> Pv i Z H -> ok H)
  (hs : ∀ i x Z H, i < n -> yl i x -> Pv i Z H -> g x Z H λσ2 H2 => tb { D with nx := Pv (i + 1), ct := Pv (i + 1), bk := D.nx } σ2 H2) (hd : ∀ Z H, Pv n Z H -> D.nx Z H) :
  ∃ W : Nat -> Nat -> St -> Hp -> Prop, (∃ m, W 0 m Z H) /\ ∀ i m Z H, W i m Z H ->
   (J.stop i H /\ D.nx Z H) \/ (J.go i H /\ ∃ N : St -> Hp -> Prop, (∀ Z' H', N Z' H' -> ∃ m', m' < m /\ W (i + 1) m' Z' H') /\ ∀ x H', J.yld i H x H' -> g x Z H' λσ2 H2 => tb { D with nx := N, ct := N, bk := D.nx } σ2 H2) := by
 refine ⟨λi m Z H => m = n - i /\ i <= n /\ Pv i Z H, ⟨n, by simp, Zyn _, h0⟩, ?_⟩
 rintro i m Z H ⟨rfl, hi, p⟩
 have q := hok i Z H hi p
 by_cases hlt : i < n
 ·refine .inr ⟨G.go i H hlt q, Pv (i + 1), λZ' H' p' => ⟨n - (i + 1), by omega, rfl, hlt, p'⟩, λx H' y => ?_⟩
  obtain ⟨e, y'⟩ := G.yld i H x H' hlt q y
  subst e
  exact hs i x Z _ hlt y' p
 ·have e : i = n := by omega
  subst e
  exact .inl ⟨G.stop H q, hd Z H p⟩
theorem Ox {J : It} {n : Nat} {yl : Nat -> V -> Prop} {ok : Hp -> Prop} {g : TG} {tt : TT} {te : TE} {σ0 : St} {H : Hp} {Q : VK} (G : Nx J n yl ok) (hn : n <= sizeLine) (Pv : Nat -> List V -> Hp -> Prop) (h0 : Pv 0 [] H) (hok : ∀ i acc H, i <= n -> Pv i acc H -> ok H)
  (hlen : ∀ i acc H, Pv i acc H -> acc.length <= i)
  (hs : ∀ i x acc H, i < n -> yl i x -> Pv i acc H -> g x σ0 H λσ2 H2 => tt σ2 H2 λb H3 => if b = true then te σ2 H3 λy H4 => Pv (i + 1) (acc ++ [y]) H4 else Pv (i + 1) acc H3)
  (hd : ∀ acc H, Pv n acc H -> ∀ p, H p = none -> Q (.ref p) (upd H p (.lst acc))) :
  ∃ W : Nat -> Nat -> List V -> Hp -> Prop, (∃ m, W 0 m [] H) /\ ∀ i m acc H, W i m acc H -> acc.length <= sizeLine /\
   ((J.stop i H /\ ∀ p, H p = none -> Q (.ref p) (upd H p (.lst acc))) \/
    (J.go i H /\ acc.length < sizeLine /\ ∃ N : List V -> Hp -> Prop, (∀ acc' H', N acc' H' -> ∃ m', m' < m /\ W (i + 1) m' acc' H') /\ ∀ x H', J.yld i H x H' -> g x σ0 H' λσ2 H2 => tt σ2 H2 λb H3 => if b = true then te σ2 H3 λy H4 => N (acc ++ [y]) H4 else N acc H3)) := by
 refine ⟨λi m acc H => m = n - i /\ i <= n /\ Pv i acc H, ⟨n, by simp, Zyn _, h0⟩, ?_⟩
 rintro i m acc H ⟨rfl, hi, p⟩
 have q := hok i acc H hi p
 have hl := hlen i acc H p
 refine ⟨by omega, ?_⟩
 by_cases hlt : i < n
 ·refine .inr ⟨G.go i H hlt q, by omega, Pv (i + 1), λacc' H' p' => ⟨n - (i + 1), by omega, rfl, hlt, p'⟩, λx H' y => ?_⟩
  obtain ⟨e, y'⟩ := G.yld i H x H' hlt q y
  subst e
  exact hs i x acc _ hlt y' p
 ·have e : i = n := by omega
  subst e
  exact .inl ⟨G.stop H q, hd acc H p⟩
section
variable {X : Cx} {a b c e o : Expr} {ta tb tc te to : TE} {pos p apos cpos : Pos} {es : List Expr} {t : TA}
theorem Hh : OpR X (binaryOp .FloorDiv) (rI (λ_ j => 0 < j /\ j < 10 ^ 200) λi j => .int (i / j)) := opI λi j _ _ _ _ _ hc q => by
 have h : j.natAbs.log2 < 9000 := by
  have h1 : j.natAbs ≠ 0 := by omega
  rw [Nat.log2_lt h1]
  have h2 : j.natAbs < 10 ^ 200 := by have := hc.2; omega
  exact Zzi h2 (by decide +kernel)
 refine floordiv_int (by omega) ?_ (.inl (PyProof.noPylong_of_log2 h))
 rw [Int.fdiv_eq_ediv_of_nonneg i (by omega)]
 exact q
def Ki (H : Hp) (x y v : V) : Prop :=
 (∃ p xs i, x = .ref p /\ y = .int i /\ (H p = some (.lst xs) \/ H p = some (.tup xs)) /\ atI xs i = some v) \/
 (∃ z i c, x = .str z /\ y = .int i /\ z.length <= sizeLine /\ atI z.cps.toList i = some c /\ v = .str ⟨#[c]⟩) \/
 (∃ p kvs k, x = .ref p /\ y = kV k /\ Rd H p (.dK kvs) /\ Br kvs k = some v)
def rItem : R2 := λx y H Q => ∃ v, Ki H x y v /\ Q v H
theorem d9 (hu : X.A.units + 1 < cLine) : IxR X (λx y H Q => ∃ a v, x = .ref a /\ Xi H a y (some v) /\ Q v H) := by
 intro value slice pins s Z H x y v u Q I rx ry h hs
 obtain ⟨a, z, rfl, g, q⟩ := h
 cases rx
 exact tail_any (S9 I g) PySem.F.slot_dict_getitem.lookup (Ou hu I g ry λw' s3 I3 rw' => ⟨z, H, I3, rw', q⟩) hs
theorem d8 (hu : X.A.units + 1 < cLine) : IxR X rItem := by
 intro value slice pins s Z H x y v u Q I rx ry h hs
 obtain ⟨z, h, q⟩ := h
 rcases h with ⟨p, xs, i, rfl, rfl, h | h, he⟩ | ⟨z', i, c, rfl, rfl, hz, he, rfl⟩ | ⟨p, kvs, k, rfl, rfl, h, he⟩
 ·exact Q2 value slice pins s Z H _ _ v u Q I rx ry ⟨p, xs, i, z, rfl, rfl, SqL.of h, he, q⟩ hs
 ·exact jd value slice pins s Z H _ _ v u Q I rx ry ⟨p, xs, i, z, rfl, rfl, SqT.of h, he, q⟩ hs
 ·exact je value slice pins s Z H _ _ v u Q I rx ry ⟨z', i, c, rfl, rfl, hz, he, q⟩ hs
 ·refine d9 hu value slice pins s Z H _ _ v u Q I rx ry ⟨p, z, rfl, ?_, q⟩ hs
  have g : Xi H p (kV k) (Br kvs k) := .inl ⟨kvs, k, h, rfl, rfl⟩
  rw [he] at g
  exact g
theorem A7 (hu : X.A.units + 1 < cLine) (ha : PE X a ta) (hb : PE X b tb) (hs : Vj b) : PE X (.Subscript a b pos) (tOp rItem ta tb) := Y9 (d8 hu) ha hb hs
theorem Ad {H : Hp} {p : Addr} {xs : List V} {j : Nat} {v : V} (h : H p = some (.tup xs)) (e : xs[j]? = some v) : Ki H (.ref p) (.int j) v := .inl ⟨p, xs, j, rfl, rfl, .inr h, Ii e⟩
theorem Gq {H : Hp} {p : Addr} {xs : List V} {j : Nat} {v : V} (h : H p = some (.lst xs)) (e : xs[j]? = some v) : Ki H (.ref p) (.int j) v := .inl ⟨p, xs, j, rfl, rfl, .inl h, Ii e⟩
theorem Ci {H : Hp} {p : Addr} {xs : List V} {i : Int} {v : V} (h : H p = some (.lst xs) \/ H p = some (.tup xs)) (h0 : 0 <= i) (e : xs[i.toNat]? = some v) : Ki H (.ref p) (.int i) v := by
 refine .inl ⟨p, xs, i, rfl, rfl, h, ?_⟩
 have q := Ii e
 rw [Zvw h0] at q
 exact q
theorem jg {H : Hp} {z : Str} {i : Int} {c : Nat} (hz : z.length <= sizeLine) (h0 : 0 <= i) (e : z.cps.toList[i.toNat]? = some c) : Ki H (.str z) (.int i) (.str ⟨#[c]⟩) := by
 refine .inr (.inl ⟨z, i, c, rfl, rfl, hz, ?_, rfl⟩)
 have q := Ii e
 rw [Zvw h0] at q
 exact q
theorem Hk {H : Hp} {p : Addr} {kvs : List (Key × V)} {k : Str} {v : V} (h : Rd H p (.dK kvs)) (e : Br kvs (Zxx k) = some v) : Ki H (.ref p) (.str k) v := .inr (.inr ⟨p, kvs, Zxx k, rfl, rfl, h, e⟩)
def lenA : List V -> Hp -> VK -> Prop := λxs H Q => (∃ p ys, xs = [.ref p] /\ (H p = some (.lst ys) \/ H p = some (.tup ys)) /\ Q (.int ys.length) H) \/ (∃ z, xs = [.str z] /\ z.length <= sizeLine /\ Q (.int z.length) H) \/ (∃ p kvs, xs = [.ref p] /\ H p = some (.dK kvs) /\ Q (.int kvs.length) H)
theorem call_lenA : CallR X (.builtin "len") lenA := by
 intro pins s Z H xs us Q I r h
 rcases h with ⟨p, ys, rfl, h, q⟩ | ⟨z, rfl, hz, q⟩ | ⟨p, kvs, rfl, h, q⟩
 ·exact Jq pins s Z H _ us Q I r ⟨p, ys, rfl, h.imp SqL.of SqT.of, q⟩
 ·exact Qk pins s Z H _ us Q I r ⟨z, rfl, hz, q⟩
 ·exact Xf pins s Z H _ us Q I r ⟨p, kvs, rfl, h, q⟩
def InA (H : Hp) (x y : V) (b : Bool) : Prop :=
 (∃ p xs, y = .ref p /\ (H p = some (.lst xs) \/ H p = some (.tup xs)) /\ Hl x = true /\ xs.all Hl = true /\ b = inV x xs) \/
 (∃ i j, x = .str i /\ y = .str j /\ b = !(Builtin.Str.occurrences j i 0 j.length 1).isEmpty) \/
 (∃ p kvs k, y = .ref p /\ x = kV k /\ Rd H p (.dK kvs) /\ b = (Br kvs k).isSome)
theorem Yi (hu : X.A.units + 1 < cLine) : OpR X (compareOp .In) (λx y H Q => ∃ b, InA H x y b /\ Q (.bl b) H) := by
 intro pins s Z H x y v u Q I rx ry h
 obtain ⟨b, h, q⟩ := h
 rcases h with ⟨p, xs, rfl, hp, fx, fxs, rfl⟩ | ⟨i, j, rfl, rfl, rfl⟩ | ⟨p, kvs, k, rfl, rfl, hp, rfl⟩
 ·exact W5 pins s Z H _ _ v u Q I rx ry ⟨p, xs, rfl, hp.imp SqL.of SqT.of, fx, fxs, q⟩
 ·exact W4 pins s Z H _ _ v u Q I rx ry ⟨i, j, rfl, rfl, q⟩
 ·cases ry
  exact d_in hu I (.inl ⟨kvs, k, hp, rfl, rfl⟩) rx λs' I' => ⟨.bl _, H, I', rfl, q⟩
def rSetA : V -> V -> V -> Hp -> (Hp -> Prop) -> Prop := λo i v H Q => rSetL o i v H Q \/ (∃ p kvs k, o = .ref p /\ i = kV k /\ H p = some (.dK kvs) /\ kvs.length < sizeLine /\ Q (upd H p (.dK (Ei kvs k v))))
theorem bc (hu : X.A.units + 1 < cLine) : ac X rSetA := by
 intro pins s Z H o i v ov iv u Q I ro ri rv h
 rcases h with h | ⟨p, kvs, k, rfl, rfl, hp, hl, q⟩
 ·exact Fp pins s Z H o i v ov iv u Q I ro ri rv h
 ·cases ro
  exact X6 hu I (DPut.k hp hl) ri rv λs' I' => ⟨_, I', q⟩
theorem i8 {K : Zzu} {H : Hp} {x : V} {T : String} (h : My H x = some T) (hT : T = "list" \/ T = "dict" \/ T = "str") : tyV K T x H := by
 cases x with
 | str z => cases h; rfl
 | ref a =>
  unfold My at h
  simp only at h
  cases e : H a with
  | none => rw [e] at h; cases h
  | some o =>
   rw [e] at h
   cases o with
   | lst xs => cases h; exact .inl ⟨rfl, xs, SqL.of e⟩
   | tup xs => cases h; exact absurd hT (by decide)
   | dK kvs => cases h; exact .inr (.inr (.inl ⟨rfl, .inl ⟨kvs, e⟩⟩))
   | _ => cases h
 | int i => cases h; exact absurd hT (by decide)
 | bl i => cases h; exact absurd hT (by decide)
 | non => cases h; exact absurd hT (by decide)
 | _ => cases h
def tBA (T : String) (r : V -> List V -> Hp -> VK -> Prop) (to : TE) (t : TA) : TE := λZ H Q => to Z H λx H1 => My H1 x = some T /\ t Z H1 λxs H2 => r x xs H2 Q
variable {name : Str} {T id : String} {r : V -> List V -> Hp -> VK -> Prop}
theorem lm (pa : PlainAttrs T) (slot : Slot T name id) (hty : typeOf (.builtin id) = pure (.type "method_descriptor")) (hm : MtR X id r) (ho : PE X o to) (ha : PA X (e :: es) t) (hT : T = "list" \/ T = "dict" \/ T = "str" := by decide)
  (hbase : attributeBase o name X.env (eval o X.env) = eval o X.env := by rfl)
  (hfew : ((backTo cpos (starEach (e :: es) X.env)).all (λx => !x.1) && (backToKw cpos (keywordEach [] X.env)).all (λx => x.1.isSome)
   && decide ((e :: es).length + ([] : List Keyword).length + (if ([] : List Keyword).isEmpty then 0 else 1) < 30)) = true := by rfl)
  (hline : (apos.endLine == cpos.line) = true := by rfl) (hs : starEach (e :: es) X.env = (false, eval e X.env) :: starEach es X.env := by rfl) (hplain : (backTo cpos (starEach es X.env)).any (·.1) = false := by rfl) :
  PE X (.Call (.Attribute o name apos) (e :: es) [] cpos) (tBA T r to t) := by
 intro pins s Z H Q I h
 refine wpAny_Call_method_late hbase hfew hline rfl (thn (ho pins s Z H _ I h) λv s1 ⟨x, H1, I1, r1, ty, q1⟩ => ?_)
 obtain ⟨h1, h2⟩ := i9 I1 r1 (i8 ty hT)
 refine ⟨T, id, pa, slot, hty, h1, h2, ?_⟩
 have hA := ha cpos pins s1 Z H1 _ I1 q1
 rw [hs] at hA ⊢
 refine Calls.callWith_builtin (by show (false || (backTo cpos (starEach es X.env)).any (·.1)) = false; rw [hplain] <;> rfl) (Calls.evalArgs_plain ?_)
 exact thn hA λus s2 ⟨vs, H2, I2, r2, q2⟩ => hm pins s2 Z H2 x vs v us Q I2 r1 r2 q2
end
def Has (P : Program) (w : World) (K : Zzu) (mg : Str -> Option Value) (base : Heap) (x : Str) (k : Nat) (ps : List Str) (sp : Sp) : Prop :=
 ∃ f fd, mg x = some (.ref f) /\ Zzh K (.ref f) = true /\ Binds K fd ps [] /\ FnOk P w K mg base CX0 k f fd ps sp
theorem Yb {X : Cx} {x : Str} {k : Nat} {ps : List Str} {sp : Sp} {e : Expr} {es : List Expr} {t : TA} {p pos : Pos} (h : Has X.prog X.w X.K X.mg X.base x k ps sp) (hr : Room k X.A) (hg : Gl X x) (ha : PA X (e :: es) t)
  (hdb : (x == ("__debug__" : Str)) = false := by decide) (he : starEach (e :: es) X.env = (false, eval e X.env) :: starEach es X.env := by rfl) (hpl : (backTo pos (starEach es X.env)).any (·.1) = false := by rfl) :
  PE X (.Call (.Name x p) (e :: es) [] pos) (Ui sp [] E0 t) := by
 obtain ⟨f, fd, hm, hk, hb, F⟩ := h
 exact bq F hr hg hm hk hb .nil ln ha hdb he hpl
end L2
namespace HT
open PySem PyProof.Rows
section
variable {prog : Program} {w : World} {A : Around} {E : Value -> Shared -> Prop} {s : Shared}
end
end HT
namespace L2
open PySem PySem.Spec PyProof.Rows
section
variable {X : Cx} {a b c e o : Expr} {ta tb tc te to : TE} {pos p apos cpos : Pos} {es : List Expr} {t : TA}
theorem Cv : SlR X (λx lo hi H Q => ∃ a xs, x = .ref a /\ H a = some (.lst xs) /\ ∀ p, H p = none -> Q (.ref p) (upd H p (.lst (E4 xs lo hi)))) := by
 intro pins s Z H x v vl vu lo hi sl Q I rx hs pl pu h
 obtain ⟨a, xs, rfl, hx, q⟩ := h
 exact Uj pins s Z H _ v vl vu lo hi sl Q I rx hs pl pu ⟨a, xs, rfl, SqL.of hx, q⟩
theorem Aq {x : Str} {i : Int} {pos : Pos} (hg : Gl X x) (hm : ∃ t, X.mg x = some (.int i t)) (hd : (x == ("__debug__" : Str)) = false := by decide) : PE X (.Name x pos) (tC (.int i)) := by
 obtain ⟨t, hm⟩ := hm
 exact Jc hg hm ⟨t, rfl⟩ hd
theorem Dj (hu : X.A.units + 1 < cLine) : OpR X (compareOp .Eq) rEq := lx
theorem Im (hu : X.A.units + 1 < cLine) : OpR X (compareOp .NotEq) rNe := lr
theorem K4 (hu : X.A.units + 1 < cLine) : OpR X (compareOp .Lt) (rI0 λi j => .bl (decide (i < j))) := lu
def rIsA : R2 := λx y H Q => (∃ i j, x = .bl i /\ y = .bl j /\ Q (.bl (i == j)) H) \/ (y = .non /\ Q (.bl (decide (x = .non))) H)
theorem Pm : OpR X (compareOp .Is) rIsA := op_isB.or ix
def rIsnotA : R2 := λx y H Q => (∃ i j, x = .bl i /\ y = .bl j /\ Q (.bl (i != j)) H) \/ (y = .non /\ Q (.bl (!decide (x = .non))) H)
theorem Gi : OpR X (compareOp .IsNot) rIsnotA := op_isnotB.or bz
theorem Xc (hc : X.calm = true) : CallR X (.builtin "min") (λxs H Q => ∃ i j, xs = [.int i, .int j] /\ Q (.int (if j < i then j else i)) H) := Xd hc
def tupleA : List V -> Hp -> VK -> Prop := λxs H Q => ∃ p ys, xs = [.ref p] /\ ((H p = some (.lst ys) /\ ∀ l, H l = none -> Q (.ref l) (upd H l (.tup ys))) \/ (H p = some (.tup ys) /\ Q (.ref p) H))
theorem G7 : CallR X (.type "tuple") tupleA := by
 intro pins s Z H xs us Q I r h
 obtain ⟨p, ys, rfl, h⟩ := h
 exact Nw pins s Z H _ us Q I r ⟨p, ys, rfl, h.imp (λh => ⟨SqL.of h.1, h.2⟩) λh => ⟨SqT.of h.1, h.2⟩⟩
def listA : List V -> Hp -> VK -> Prop := λxs H Q => ∃ p ys, xs = [.ref p] /\ (H p = some (.lst ys) \/ H p = some (.tup ys)) /\ ∀ l, H l = none -> Q (.ref l) (upd H l (.lst ys))
theorem U1 : CallR X (.type "list") listA := by
 intro pins s Z H xs us Q I r h
 obtain ⟨p, ys, rfl, h, q⟩ := h
 exact Qj pins s Z H _ us Q I r ⟨p, ys, rfl, h.imp SqL.of SqT.of, q⟩
def cpB (N : List Str) (osc sc : Scope) (own : List Str) (cap : List Nat) : Bool :=
 decide (sc.kind = .function) && sc.names.all (λx => x.2 != .local || decide (sc.names.lookup x.1 = some .local)) && sc.names.all (λy => y.2 != .cell) &&
 sc.names.all (λy => y.2 != .free || decide (osc.names.lookup y.1 = some .cell) || decide (osc.names.lookup y.1 = some .free)) && cap.all λj => decide (j < N.length) && decide (sc.names.lookup (N.getD j "") = some .free)
theorem Fb {N : List Str} {osc sc : Scope} {own : List Str} {cap : List Nat} (h : cpB N osc sc own cap = true) : G9 N osc sc own cap := by
 unfold cpB at h
 rw [Zy5, Zy5, Zy5, Zy5] at h
 obtain ⟨⟨⟨⟨h1, h2⟩, h3⟩, h4⟩, h5⟩ := h
 refine ⟨of_decide_eq_true h1, λx hx hl => ?_, λy hy hc => ?_, λy hy hf => ?_, λj hj => ?_⟩
 ·have q := Zy4.mp h2 x hx
  rw [hl] at q
  exact of_decide_eq_true (by simpa using q)
 ·have q := Zy4.mp h3 y hy
  rw [hc] at q
  exact absurd q (by decide)
 ·have q := Zy4.mp h4 y hy
  rw [hf] at q
  rw [Bool.or_eq_true, Bool.or_eq_true] at q
  rcases q with (q | q) | q
  ·exact absurd q (by decide)
  ·exact .inl (of_decide_eq_true q)
  ·exact .inr (of_decide_eq_true q)
 ·have q := Zy4.mp h5 j hj
  rw [Zy5] at q
  exact ⟨of_decide_eq_true q.1, of_decide_eq_true q.2⟩
end
section
variable {X : Cx}
theorem CallR.weak {f : Value} {r r' : List V -> Hp -> VK -> Prop} (h : CallR X f r) (w : ∀ xs H Q, r' xs H Q -> r xs H Q) : CallR X f r' := λpins s Z H xs us Q I rv q => h pins s Z H xs us Q I rv (w _ _ _ q)
def lenQ : List V -> Hp -> VK -> Prop := λxs H Q => ∃ p ys, xs = [.ref p] /\ (H p = some (.lst ys) \/ H p = some (.tup ys)) /\ Q (.int ys.length) H
theorem B4 : CallR X (.builtin "len") lenQ := call_lenA.weak λ_ _ _ h => .inl h
def rSetD : V -> V -> V -> Hp -> (Hp -> Prop) -> Prop := λo i v H Q => ∃ p kvs k, o = .ref p /\ i = kV k /\ H p = some (.dK kvs) /\ kvs.length < sizeLine /\ Q (upd H p (.dK (Ei kvs k v)))
theorem Dv (hu : X.A.units + 1 < cLine) : ac X rSetD := λpins s Z H o i v ov iv u Q I ro ri rv h => bc hu pins s Z H o i v ov iv u Q I ro ri rv (.inr h)
theorem Es : PIp X .Add (rI0 λi j => .int (i + j)) := λpins s Z H x y v u Q I rx ry q => de pins s Z H x y v u Q I rx ry q
def rAddS : R2 := λx y H Q => ∃ i j, x = .str i /\ y = .str j /\ i.length + j.length <= sizeLine /\ Q (.str (i ++ j)) H
theorem db : PIp X .Add rAddS := λpins s Z H x y v u Q I rx ry q => S3 pins s Z H x y v u Q I rx ry q
def ma (te : TE) : TI := λZ H R => te Z H λx H1 => ∃ a xs, x = .ref a /\ H1 a = some (.lst xs) /\ R (ItL a xs) H1
def m9 (te : TE) : TI := λZ H R => te Z H λx H1 => ∃ a xs, x = .ref a /\ H1 a = some (.tup xs) /\ R (ItT a xs) H1
theorem Ft {tg l : Expr} {te : TE} (hl : PE X l te) : PI X tg l (ma te) := by
 intro pins s Z H R I h
 refine thn (hl pins s Z H _ I h) λv s1 ⟨x, H1, I1, r1, q1⟩ => ?_
 obtain ⟨a, xs, e, ha, q⟩ := q1
 subst e
 cases r1
 obtain ⟨its, rv, hli, hlt⟩ := Av I1 ha
 refine wpAny_pyIter_list hli ?_
 refine ⟨s1.heap.objs.size, [s1.heap.objs.size], _, _, H1, rfl, I1.kept (t' := s1.toks) λb o e => Zzy _ e, O6 a _ xs, ⟨_, Zzm _ rfl, rfl, rfl⟩, λb hb => ?_, q⟩
 have e : b = s1.heap.objs.size := by simpa using hb
 subst e
 exact I1.fpOk (Zzw _) (I1.hok.fresh (Zzw _))
theorem Dw {tg l : Expr} {te : TE} (hl : PE X l te) : PI X tg l (m9 te) := by
 intro pins s Z H R I h
 refine thn (hl pins s Z H _ I h) λv s1 ⟨x, H1, I1, r1, q1⟩ => ?_
 obtain ⟨a, xs, e, ha, q⟩ := q1
 subst e
 cases r1
 obtain ⟨hz, its, rv, p⟩ := I1.hok a _ ha
 refine wpAny_pyIter_tuple (show s1.heap.IsTuple a its.toArray from p) ?_
 refine ⟨s1.heap.objs.size, [s1.heap.objs.size], _, _, H1, rfl, I1.kept (t' := s1.toks) λb o e => Zzy _ e, O5 a _ xs, ⟨_, Zzm _ rfl, rfl, rfl⟩, λb hb => ?_, q⟩
 have e : b = s1.heap.objs.size := by simpa using hb
 subst e
 exact I1.fpOk (Zzw _) (I1.hok.fresh (Zzw _))
end
end L2
namespace NP
open PySem L2
theorem De : bootBuiltins "isinstance" = some (.builtin "isinstance") := by decide +kernel
theorem jn : bootBuiltins "all" = some (.builtin "all") := by decide +kernel
theorem Zo : bootBuiltins "min" = some (.builtin "min") := by decide +kernel
theorem Ql : bootBuiltins "max" = some (.builtin "max") := by decide +kernel
theorem Co : bootBuiltins "len" = some (.builtin "len") := by decide +kernel
theorem Xg : bootBuiltins "sorted" = some (.builtin "sorted") := by decide +kernel
theorem Hr : bootBuiltins "sum" = some (.builtin "sum") := by decide +kernel
theorem U2 : bootBuiltins "int" = some (.type "int") := by decide +kernel
theorem Hq : bootBuiltins "tuple" = some (.type "tuple") := by decide +kernel
theorem Ve : bootBuiltins "list" = some (.type "list") := by decide +kernel
theorem Qm : bootBuiltins "enumerate" = some (.type "enumerate") := by decide +kernel
theorem Zn : bootBuiltins "zip" = some (.type "zip") := by decide +kernel
def But (st : Addr) (H H' : Hp) : Prop := ∀ b o, b ≠ st -> H b = some o -> H' b = some o
theorem But.refl (st : Addr) (H : Hp) : But st H H := λ_ _ _ h => h
theorem But.trans {st : Addr} {H H1 H2 : Hp} (a : But st H H1) (b : But st H1 H2) : But st H H2 := λc o n h => b c o n (a c o n h)
theorem Ha {st : Addr} {H H' : Hp} (s : Same H H') : But st H H' := λb o _ h => s b o h
theorem A4 {H : Hp} {p : Addr} {o : HO} (hp : H p = none) : Same H (upd H p o) := λb u h => by rw [A3 (A5 h hp)]; exact h
theorem Gu {st : Addr} {H : Hp} {p : Addr} {o : HO} (hp : H p = none) : But st H (upd H p o) := Ha (A4 hp)
theorem but_set {st : Addr} {H : Hp} {o : HO} : But st H (upd H st o) := λb u n h => by rw [A3 n]; exact h
def StOk (H : Hp) (st : Addr) : Prop := ∃ ns : List Int, ns ≠ [] /\ H st = some (.lst (ns.map V.int))
theorem StOk.same {H H' : Hp} {st : Addr} (h : StOk H st) (s : Same H H') : StOk H' st := by obtain ⟨ns, n, e⟩ := h; exact ⟨ns, n, s _ _ e⟩
inductive D where
 | non | bl (b : Bool) | int (i : Int) | str (x : Str) | tup (ds : List D) | lst | dct
mutual
def Rep (H : Hp) : D -> V -> Prop
 | .non, v => v = .non
 | .bl b, v => v = .bl b
 | .int i, v => v = .int i
 | .str x, v => v = .str x /\ x.length <= 1000
 | .tup ds, v => ∃ a xs, v = .ref a /\ H a = some (.tup xs) /\ ds.length <= 1000 /\ Reps H ds xs
 | .lst, v => ∃ a xs, v = .ref a /\ H a = some (.lst xs)
 | .dct, v => ∃ a kvs, v = .ref a /\ H a = some (.dK kvs)
def Reps (H : Hp) : List D -> List V -> Prop
 | [], xs => xs = []
 | d :: ds, xs => ∃ x r, xs = x :: r /\ Rep H d x /\ Reps H ds r
end
def i4 (H H' : Hp) : Prop := (∀ a xs, H a = some (.tup xs) -> H' a = some (.tup xs)) /\ (∀ a xs, H a = some (.lst xs) -> ∃ ys, H' a = some (.lst ys)) /\ ∀ a kvs, H a = some (.dK kvs) -> ∃ kvs', H' a = some (.dK kvs')
mutual
theorem Rep.keep {H H' : Hp} (k : i4 H H') : ∀ (d : D) (v : V), Rep H d v -> Rep H' d v
 | .non, v, h => by rw [Rep] at h ⊢; exact h
 | .bl b, v, h => by rw [Rep] at h ⊢; exact h
 | .int i, v, h => by rw [Rep] at h ⊢; exact h
 | .str x, v, h => by rw [Rep] at h ⊢; exact h
 | .tup ds, v, h => by
  rw [Rep] at h ⊢
  obtain ⟨a, xs, e, h, z, r⟩ := h
  exact ⟨a, xs, e, k.1 a xs h, z, Reps.keep k ds xs r⟩
 | .lst, v, h => by
  rw [Rep] at h ⊢
  obtain ⟨a, xs, e, h⟩ := h
  obtain ⟨ys, h'⟩ := k.2.1 a xs h
  exact ⟨a, ys, e, h'⟩
 | .dct, v, h => by
  rw [Rep] at h ⊢
  obtain ⟨a, kvs, e, h⟩ := h
  obtain ⟨ys, h'⟩ := k.2.2 a kvs h
  exact ⟨a, ys, e, h'⟩
theorem Reps.keep {H H' : Hp} (k : i4 H H') : ∀ (ds : List D) (xs : List V), Reps H ds xs -> Reps H' ds xs
 | [], xs, h => by rw [Reps] at h ⊢; exact h
 | d :: ds, xs, h => by
  rw [Reps] at h ⊢
  obtain ⟨x, r, e, h1, h2⟩ := h
  exact ⟨x, r, e, Rep.keep k d x h1, Reps.keep k ds r h2⟩
end
def Sn (J : It) (own : List Str) (cap : List Nat) (g : TG) (tt : TT) (te : TE) (Z : St) (H1 : Hp) (Q : VK) : Prop := ∃ W : Nat -> Nat -> List V -> Hp -> Prop, (∃ m, W 0 m [] H1) /\ ∀ i m acc H, W i m acc H -> acc.length <= sizeLine /\
 ((J.stop i H /\ ∀ p, H p = none -> Q (.ref p) (upd H p (.lst acc))) \/
  (J.go i H /\ acc.length < sizeLine /\ ∃ N : List V -> Hp -> Prop, (∀ acc' H', N acc' H' -> ∃ m', m' < m /\ W (i + 1) m' acc' H') /\ ∀ x H', J.yld i H x H' -> g x (Gb own cap Z) H' λσ2 H2 => tt σ2 H2 λb H3 => if b = true then te σ2 H3 λy H4 => N (acc ++ [y]) H4 else N acc H3))
theorem Xw (own : List Str) (cap : List Nat) (wi : TI) (g : TG) (tt : TT) (te : TE) (Z : St) (H : Hp) (Q : VK) : Uh own cap wi g tt te Z H Q = wi Z H λJ H1 => Sn J own cap g tt te Z H1 Q := rfl
def jv (J : It) (g : TG) (tb : TS) (D : Ends) (Z : St) (H1 : Hp) : Prop := ∃ W : Nat -> Nat -> St -> Hp -> Prop, (∃ m, W 0 m Z H1) /\ ∀ i m Z H, W i m Z H ->
 (J.stop i H /\ D.nx Z H) \/ (J.go i H /\ ∃ N : St -> Hp -> Prop, (∀ Z' H', N Z' H' -> ∃ m', m' < m /\ W (i + 1) m' Z' H') /\ ∀ x H', J.yld i H x H' -> g x Z H' λσ2 H2 => tb { D with nx := N, ct := N, bk := D.nx } σ2 H2)
theorem aw (wi : TI) (g : TG) (tb : TS) (D : Ends) (Z : St) (H : Hp) : la wi g tb D Z H = wi Z H λJ H1 => jv J g tb D Z H1 := rfl
theorem dh (te : TE) (Z : St) (H : Hp) (R : It -> Hp -> Prop) : mf te Z H R = te Z H λx H1 => (∃ a xs, x = .ref a /\ H1 a = some (.lst xs) /\ R (ItL a xs) H1) \/ (∃ a xs, x = .ref a /\ H1 a = some (.tup xs) /\ R (ItT a xs) H1) \/ (∃ z, x = .str z /\ R (Its z) H1) := rfl
theorem cy : ("int" ∈ ["bool", "int", "str", "list", "tuple", "dict"]) = True := eq_true (by decide)
theorem Yr : ("bool" ∈ ["bool", "int", "str", "list", "tuple", "dict"]) = True := eq_true (by decide)
theorem cx : ("str" ∈ ["bool", "int", "str", "list", "tuple", "dict"]) = True := eq_true (by decide)
theorem Yp : ("list" ∈ ["bool", "int", "str", "list", "tuple", "dict"]) = True := eq_true (by decide)
theorem Wj : ("tuple" ∈ ["bool", "int", "str", "list", "tuple", "dict"]) = True := eq_true (by decide)
theorem Yq : ("dict" ∈ ["bool", "int", "str", "list", "tuple", "dict"]) = True := eq_true (by decide)
theorem Jn : C6 "NoneType" "bool" = false := by decide
theorem Ka : C6 "NoneType" "int" = false := by decide
theorem K8 : C6 "NoneType" "str" = false := by decide
theorem Jl : C6 "NoneType" "list" = false := by decide
theorem Ip : C6 "NoneType" "tuple" = false := by decide
theorem Jm : C6 "NoneType" "dict" = false := by decide
theorem Nr : C6 "bool" "bool" = true := by decide
theorem Qe : C6 "bool" "int" = true := by decide
theorem Qd : C6 "bool" "str" = false := by decide
theorem Np : C6 "bool" "list" = false := by decide
theorem Md : C6 "bool" "tuple" = false := by decide
theorem Nq : C6 "bool" "dict" = false := by decide
theorem Qa : C6 "int" "bool" = false := by decide
theorem S2 : C6 "int" "int" = true := by decide
theorem S1 : C6 "int" "str" = false := by decide
theorem Q8 : C6 "int" "list" = false := by decide
theorem Nl : C6 "int" "tuple" = false := by decide
theorem Q9 : C6 "int" "dict" = false := by decide
theorem Q5 : C6 "str" "bool" = false := by decide
theorem S0 : C6 "str" "int" = false := by decide
theorem Rz : C6 "str" "str" = true := by decide
theorem Q3 : C6 "str" "list" = false := by decide
theorem Ng : C6 "str" "tuple" = false := by decide
theorem Q4 : C6 "str" "dict" = false := by decide
theorem Nk : C6 "list" "bool" = false := by decide
theorem Q7 : C6 "list" "int" = false := by decide
theorem Q6 : C6 "list" "str" = false := by decide
theorem Ni : C6 "list" "list" = true := by decide
theorem Mb : C6 "list" "tuple" = false := by decide
theorem Nj : C6 "list" "dict" = false := by decide
theorem Ma : C6 "tuple" "bool" = false := by decide
theorem Nf : C6 "tuple" "int" = false := by decide
theorem Nd : C6 "tuple" "str" = false := by decide
theorem M8 : C6 "tuple" "list" = false := by decide
theorem L1 : C6 "tuple" "tuple" = true := by decide
theorem M9 : C6 "tuple" "dict" = false := by decide
theorem No : C6 "dict" "bool" = false := by decide
theorem Qc : C6 "dict" "int" = false := by decide
theorem Qb : C6 "dict" "str" = false := by decide
theorem Nm : C6 "dict" "list" = false := by decide
theorem Mc : C6 "dict" "tuple" = false := by decide
theorem Nn : C6 "dict" "dict" = true := by decide
theorem Eu {J : It} {n : Nat} {yl : Nat -> V -> Prop} {ok : Hp -> Prop} {own : List Str} {cap : List Nat} {g : TG} {tt : TT} {te : TE} {Z : St} {H : Hp} {Q : VK} (G : Nx J n yl ok) (hn : n <= sizeLine) (hok : ∀ H', Same H H' -> ok H') (ys : List V) (hl : ys.length = n)
  (hs : ∀ i x H', i < n -> yl i x -> Same H H' -> ∀ (N : V -> Hp -> Prop) (M : Hp -> Prop), (∀ y H4, Same H H4 -> ys[i]? = some y -> N y H4) -> g x (Gb own cap Z) H' λσ2 H2 => tt σ2 H2 λb H3 => if b = true then te σ2 H3 N else M H3)
  (hd : ∀ H', Same H H' -> ∀ p, H' p = none -> Q (.ref p) (upd H' p (.lst ys))) : Sn J own cap g tt te Z H Q := by
 refine Ox G hn (λi acc H' => Same H H' /\ acc = ys.take i) ⟨Same.refl H, by simp⟩ (λi acc H' _ h => hok H' h.1) (λi acc H' h => by rw [h.2, Zz5]; omega) (λi x acc H' hi hx h => ?_) (λacc H' h p hp => ?_)
 ·obtain ⟨s', rfl⟩ := h
  refine hs i x H' hi hx s' _ _ λy H4 s4 hy => ⟨s4, ?_⟩
  rw [Zz8, hy]
  rfl
 ·obtain ⟨s', e⟩ := h
  rw [e, Zxl (by omega)]
  exact hd H' s' p hp
theorem Cb {J : It} {n : Nat} {yl : Nat -> V -> Prop} {ok : Hp -> Prop} {g : TG} {tb : TS} {D : Ends} {Z : St} {H : Hp} (G : Nx J n yl ok) (Pv : Nat -> St -> Hp -> Prop) (h0 : Pv 0 Z H) (hok : ∀ i Z H, i <= n -> Pv i Z H -> ok H)
  (hs : ∀ i x Z H, i < n -> yl i x -> Pv i Z H -> g x Z H λσ2 H2 => tb { D with nx := Pv (i + 1), ct := Pv (i + 1), bk := D.nx } σ2 H2) (hd : ∀ Z H, Pv n Z H -> D.nx Z H) : jv J g tb D Z H := Z6 G Pv h0 hok hs hd
theorem StOk.upd {H : Hp} {st l : Addr} {o : HO} (h : StOk H st) (n : st ≠ l) : StOk (upd H l o) st := by obtain ⟨ns, hn, e⟩ := h; exact ⟨ns, hn, by rw [A3 n]; exact e⟩
theorem StOk.ne {H : Hp} {st l : Addr} (h : StOk H st) (n : H l = none) : st ≠ l := by obtain ⟨_, _, e⟩ := h; exact A5 e n
theorem StOk.neT {H : Hp} {st l : Addr} {xs : List V} (h : StOk H st) (n : H l = some (.tup xs)) : l ≠ st := by
 obtain ⟨_, _, e⟩ := h
 exact Ur n e (λz => by cases z)
theorem But.upd {H H1 : Hp} {st l : Addr} {o : HO} (h : But st H H1) (hl : H l = none) : But st H (L2.upd H1 l o) := λb u n e => by rw [A3 (A5 e hl)]; exact h b u n e
theorem But.new {H H1 : Hp} {st l : Addr} {o : HO} (h : But st H H1) (hl : H1 l = none) : But st H (L2.upd H1 l o) := h.trans (Gu hl)
theorem But.same {H H1 H2 : Hp} {st : Addr} (h : But st H H1) (s : Same H1 H2) : But st H H2 := h.trans (Ha s)
theorem But.none {H H1 : Hp} {st l : Addr} (h : But st H H1) (n : l ≠ st) (hl : H1 l = none) : H l = none := by
 cases e : H l with
 | none => rfl
 | some o => rw [h l o n e] at hl; cases hl
theorem Ao {n : Nat} (h : n <= 1000) : n <= sizeLine := Zyz h (by decide)
end NP
namespace L2
open PySem PySem.Spec PyProof.Rows
def Bz : List Expr -> Bool
 | [] => true
 | .Starred .. :: _ => false
 | _ :: r => Bz r
theorem Bw {env : Env} : ∀ {es : List Expr}, Bz es = true -> starEach es env = es.map λe => (false, eval e env)
 | [], _ => rfl
 | e :: r, h => by
  cases e <;> first
   | (exact absurd h Zzc)
   | (rw [Zz4, <- Bw (env := env) (es := r) h]; rfl)
theorem Ba {env : Env} {e : Expr} {es : List Expr} (h : Bz [e] = true) : starEach (e :: es) env = (false, eval e env) :: starEach es env := by
 cases e <;> first
  | (exact absurd h Zzc)
  | rfl
theorem B0 {e : Expr} {es : List Expr} (h : Bz (e :: es) = true) : Bz [e] = true /\ Bz es = true := by
 cases e <;> first
  | (exact absurd h Zzc)
  | exact ⟨rfl, h⟩
theorem C1 {env : Env} {pos : Pos} {es : List Expr} (h : Bz es = true) : (backTo pos (starEach es env)).any (·.1) = false := by
 rw [Bw h]
 unfold backTo
 rw [Zxt, List.any_map]
 induction es with
 | nil => rfl
 | cons e r ih =>
  rw [Zwy]
  exact ih (B0 h).2
theorem U3 {env : Env} {pos : Pos} {es : List Expr} (h : Bz es = true) : (backTo pos (starEach es env)).all (λx => !x.1) = true := by
 rw [Bw h]
 unfold backTo
 rw [Zxt, List.all_map]
 induction es with
 | nil => rfl
 | cons e r ih =>
  rw [Zwq]
  exact ih (B0 h).2
section
variable {X : Cx} {x : Str} {p pos apos cpos : Pos} {e o tg : Expr} {es : List Expr} {te to : TE} {t : TA} {id T : String} {r : List V -> Hp -> VK -> Prop} {rm : V -> List V -> Hp -> VK -> Prop} {k : Nat} {ps : List Str} {sp : Sp} {name : Str}
theorem A6 (ha : PE X e te) (hr : PA X es t) (hn : Bz [e] = true := by rfl) : PA X (e :: es) (Ug te t) := bx ha hr (Ba hn)
theorem Ab (h : Has X.prog X.w X.K X.mg X.base x k ps sp) (hr : Room k X.A) (hg : Gl X x) (ha : PA X (e :: es) t) (hn : Bz (e :: es) = true := by rfl) (hdb : (x == ("__debug__" : Str)) = false := by decide) :
  PE X (.Call (.Name x p) (e :: es) [] pos) (Ui sp [] E0 t) := Yb h hr hg ha hdb (Ba (B0 hn).1) (C1 (B0 hn).2)
theorem Ag (hc : CallR X (.builtin id) r) (hg : Gl X x) (hm : X.mg x = none) (hv : bootBuiltins x = some (.builtin id)) (ha : PA X (e :: es) t) (hn : Bz (e :: es) = true := by rfl) (hnm : x ≠ "__name__" := by decide) (hdb : (x == ("__debug__" : Str)) = false := by decide) :
  PE X (.Call (.Name x p) (e :: es) [] pos) (tCB r t) := Yc hc hg hm hv ha hnm hdb (Ba (B0 hn).1) (C1 (B0 hn).2)
theorem D9 (hc : CallR X (.type T) r) (hg : Gl X x) (hm : X.mg x = none) (hv : bootBuiltins x = some (.type T)) (ha : PA X (e :: es) t) (hn : Bz (e :: es) = true := by rfl) (hnm : x ≠ "__name__" := by decide) (hdb : (x == ("__debug__" : Str)) = false := by decide) :
  PE X (.Call (.Name x p) (e :: es) [] pos) (tCB r t) := W3 hc hg hm hv ha hnm hdb (Ba (B0 hn).1) (C1 (B0 hn).2)
theorem G3 (pa : PlainAttrs T) (slot : Slot T name id) (hty : typeOf (.builtin id) = pure (.type "method_descriptor")) (hm : MtR X id rm) (ho : PE X o to) (ha : PA X (e :: es) t) (hT : T = "list" \/ T = "dict" \/ T = "str" := by decide)
  (hbase : attributeBase o name X.env (eval o X.env) = eval o X.env := by rfl) (hn : Bz (e :: es) = true := by rfl) (hlen : (e :: es).length < 20 := by decide) (hline : (apos.endLine == cpos.line) = true := by rfl) :
  PE X (.Call (.Attribute o name apos) (e :: es) [] cpos) (tBA T rm to t) := by
 refine lm pa slot hty hm ho ha hT hbase ?_ hline (Ba (B0 hn).1) (C1 (B0 hn).2)
 rw [U3 hn, Zx5]
 have e1 : (backToKw cpos (keywordEach [] X.env)).all (λx => x.1.isSome) = true := rfl
 rw [e1, Zx5]
 refine decide_eq_true ?_
 show (e :: es).length + 0 + 0 < 30
 omega
theorem Bh {ta : TA} (hg : Gl X "range") (hm : X.mg "range" = none) (ha : PA X [e] ta) (hn : Bz [e] = true := by rfl) : PI X tg (.Call (.Name "range" p) [e] [] pos) (Z1 ta) := W2 hg hm ha (Bw hn)
theorem T5 {ta : TA} {e2 : Expr} (hg : Gl X "range") (hm : X.mg "range" = none) (ha : PA X [e, e2] ta) (hn : Bz [e, e2] = true := by rfl) : PI X tg (.Call (.Name "range" p) [e, e2] [] pos) (Z0 ta) := W1 hg hm ha (Bw hn) (Bw (B0 hn).2)
end
mutual
def RD (H : Hp) : PyData -> V -> Prop
 | .none, v => v = .non
 | .bool b, v => v = .bl b
 | .int i, v => v = .int i
 | .str x, v => v = .str x
 | .list ds, v => ∃ a xs, v = .ref a /\ H a = some (.lst xs) /\ RDs H ds xs
 | .tuple ds, v => ∃ a xs, v = .ref a /\ H a = some (.tup xs) /\ RDs H ds xs
 | .dict _, _ => False
def RDs (H : Hp) : List PyData -> List V -> Prop
 | [], xs => xs = []
 | d :: ds, xs => ∃ x r, xs = x :: r /\ RD H d x /\ RDs H ds r
end
mutual
theorem RD.reads {P : Program} {w : World} {H : Hp} {h : Heap} (ok : HOk P w H h) : ∀ (d : PyData) (v : V) (u : Value), RD H d v -> RelV v u -> ∃ as, Reads h u d as
 | .none, v, u, r, e => by
  rw [RD] at r; subst r; cases e; exact ⟨_, .none⟩
 | .bool b, v, u, r, e => by
  rw [RD] at r; subst r; cases e; exact ⟨_, .bool b⟩
 | .int i, v, u, r, e => by
  rw [RD] at r; subst r; obtain ⟨t, rfl⟩ := e; exact ⟨_, .int i t⟩
 | .str x, v, u, r, e => by
  rw [RD] at r; subst r; obtain ⟨t, rfl⟩ := e; exact ⟨_, .str x t⟩
 | .list ds, v, u, r, e => by
  rw [RD] at r
  obtain ⟨a, xs, rfl, ha, r⟩ := r
  cases e
  obtain ⟨hz, its, n, rv, eo⟩ := ok a _ ha
  obtain ⟨as, q⟩ := RDs.reads ok ds xs its r rv
  exact ⟨_, .list (vs := its.toArray) eo rfl rfl q⟩
 | .tuple ds, v, u, r, e => by
  rw [RD] at r
  obtain ⟨a, xs, rfl, ha, r⟩ := r
  cases e
  obtain ⟨hz, its, rv, o, ho, hc, n, hd⟩ := ok a _ ha
  obtain ⟨as, q⟩ := RDs.reads ok ds xs its r rv
  exact ⟨_, .tuple (vs := its.toArray) ho hc hd q⟩
 | .dict _, v, u, r, e => by
  rw [RD] at r; exact r.elim
theorem RDs.reads {P : Program} {w : World} {H : Hp} {h : Heap} (ok : HOk P w H h) : ∀ (ds : List PyData) (xs : List V) (us : List Value), RDs H ds xs -> Vals xs us -> ∃ as, ReadsAll h us ds as
 | [], xs, us, r, e => by
  rw [RDs] at r; subst r; cases e; exact ⟨_, .nil⟩
 | d :: ds, xs, us, r, e => by
  rw [RDs] at r
  obtain ⟨x, r', rfl, h1, h2⟩ := r
  cases e with
  | cons r1 r2 =>
   obtain ⟨as, q1⟩ := RD.reads ok d x _ h1 r1
   obtain ⟨bs, q2⟩ := RDs.reads ok ds r' _ h2 r2
   exact ⟨_, .cons q1 q2⟩
end
def okD (d : PyData) : Bool := d.canLay0 && decide (d.depth <= 50)
def rEqD : R2 := λx y H Q => ∃ d e, RD H d x /\ RD H e y /\ okD d = true /\ okD e = true /\ Q (.bl (PyData.eqv d e)) H
def rNeD : R2 := λx y H Q => ∃ d e, RD H d x /\ RD H e y /\ okD d = true /\ okD e = true /\ Q (.bl (!PyData.eqv d e)) H
theorem Rn {A : Around} {d e : PyData} (h : okD d = true) (hu : A.units + 64 < cLine) : A.units + min d.depth e.depth < cLine := by
 have h1 : d.depth <= 50 := of_decide_eq_true (Zyl.mp h).2
 have h2 : min d.depth e.depth <= d.depth := Nat.min_le_left _ _
 omega
section
variable {X : Cx}
theorem iy (hu : X.A.units + 64 < cLine) : OpR X (compareOp .Eq) rEqD := by
 intro pins s Z H x y v u Q I rx ry h
 obtain ⟨d, e, rd, re, hd, he, q⟩ := h
 obtain ⟨as, r1⟩ := RD.reads I.hok d x v rd rx
 obtain ⟨bs, r2⟩ := RD.reads I.hok e y u re ry
 exact SeqAt.compareEq_reads r1 r2 (Zyl.mp hd).1 (Zyl.mp he).1 (Rn hd hu) ⟨.bl _, H, I, rfl, q⟩
theorem Yg (hu : X.A.units + 64 < cLine) : OpR X (compareOp .NotEq) rNeD := by
 intro pins s Z H x y v u Q I rx ry h
 obtain ⟨d, e, rd, re, hd, he, q⟩ := h
 obtain ⟨as, r1⟩ := RD.reads I.hok d x v rd rx
 obtain ⟨bs, r2⟩ := RD.reads I.hok e y u re ry
 exact SeqAt.compareNe_reads r1 r2 (Zyl.mp hd).1 (Zyl.mp he).1 (Rn hd hu) ⟨.bl _, H, I, rfl, q⟩
end
theorem V1 {A : Around} {k : Nat} (hr : Room k A) : A.units + 64 < cLine := by
 have := hr.un
 omega
section
variable {X : Cx} {pins : List (Addr × Obj)} {Z : St} {H : Hp} {s : Shared} {h' : Heap}
theorem HOk.but {P : Program} {w : World} {h : Heap} {wr : List Addr} (x : HOk P w H h) (k : ∀ b o, b ∉ wr -> h.get? b = some o -> h'.get? b = some o) (n : ∀ b ∈ wr, H b = none) : HOk P w H h' := λa o e =>
 (x a o e).stay (λb u hb q => k b u (λz => by
  rcases hb with hb | hb
  ·rw [hb] at z; rw [n a z] at e; cases e
  ·rw [n b z] at hb; cases hb) q) (λ_ q => q) λ_ _ q => q
theorem Inv.turnedL {t' : Nat} {wr : List Addr} (I : Inv X pins Z H s) (k : ∀ b o, b ∉ wr -> s.heap.get? b = some o -> h'.get? b = some o) (f : ∀ b ∈ wr, Fz X pins H b) : Inv X pins Z H { s with heap := h', toks := t' } := by
 refine I.step (g' := s.gens) (d' := s.drawn) (ch := wr) (λb hb => ?_) (λb o _ _ hc e _ => k b o hc e) (λb o _ _ hc e _ => ⟨o.slots, k b o hc e⟩) (λ_ _ _ _ n => n)
  (λb o hc e => ⟨o, k b o hc e⟩) (λ_ _ e => e) (λ_ _ _ e => e) (λb ps e => ⟨#[], by rw [e]; simp⟩) (λm hm => ?_) (I.hok.but k λb hb => (f b hb).1) I.bare
 ·obtain ⟨f0, f1, f2, f3, f4, f5⟩ := f b hb
  exact ⟨f3, f1, f4, f5⟩
 ·obtain ⟨o, es, ep, ho, r⟩ := hm
  exact ⟨o, es, ep, k _ o (λz => (f _ z).2.1 rfl) ho, r⟩
theorem Inv.turnedT {t' : Nat} {wr : List Addr} {p : Addr} {xs : List V} {its : List Value} (I : Inv X pins Z H s) (k : ∀ b o, b ∉ wr -> s.heap.get? b = some o -> h'.get? b = some o) (f : ∀ b ∈ wr, Fz X pins H b) (hp : s.heap.objs.size <= p)
  (ht : IsTup h' p its.toArray) (rv : Vals xs its) (hz : xs.length <= sizeLine) : Inv X pins Z (upd H p (.tup xs)) { s with heap := h', toks := t' } := by
 have hn : H p = none := I.hok.fresh hp
 have ne : ∀ b o, s.heap.get? b = some o -> b ≠ p := λb o e => Bd (Zzo e) hp
 refine I.step (g' := s.gens) (d' := s.drawn) (ch := wr) (λb hb => ?_) (λb o _ _ hc e _ => k b o hc e) (λb o _ _ hc e _ => ⟨o.slots, k b o hc e⟩) (λb o _ e n => by rw [A3 (ne b o e)]; exact n)
  (λb o hc e => ⟨o, k b o hc e⟩) (λb ys e => by rw [A3 (A5 e hn)]; exact e) (λb o u e => by rw [A3 (A5 e hn)]; exact e) (λb ps e => ⟨#[], by rw [A3 (A5 e hn), e]; simp⟩) (λm hm => ?_) (λb u e => ?_) I.bare
 ·obtain ⟨f0, f1, f2, f3, f4, f5⟩ := f b hb
  exact ⟨f3, f1, f4, f5⟩
 ·obtain ⟨o, es, ep, ho, r⟩ := hm
  exact ⟨o, es, ep, k _ o (λz => (f _ z).2.1 rfl) ho, r⟩
 ·by_cases hb : b = p
  ·subst hb
   rw [A0] at e
   cases e
   exact ⟨hz, its, rv, ht⟩
  ·rw [A3 hb] at e
   refine (I.hok.but k (λb hb => (f b hb).1) b u e).stay (λ_ _ _ q => q) (λc q => ?_) λc ys q => ?_
   ·rw [A3 (A5 q hn)]; exact q
   ·rw [A3 (A5 q hn)]; exact q
theorem Tn {P : Program} {w : World} {it : Addr} {fp wr : List Addr} {n i : Nat} {Pt : Nat -> Array Value -> Prop} {St : Nat -> Heap -> Prop} {Mid : Nat -> Addr -> Heap -> Prop} {elts : List Expr} {k : Nat} {pos : Pos} {E : Value -> Shared -> Prop} {Y : List V -> Prop}
  (W : WalksT P w X.A it fp wr n Pt St Mid) (hi : i < n) (I : Inv X pins Z H s) (st : St i s.heap) (hf : ∀ b ∈ wr, Fz X pins H b) (hv : ∀ vals, Pt i vals -> ∃ xs, Vals xs vals.toList /\ xs.length <= 100 /\ Y xs) :
  wpAny (model P w) X.A (pyNext (.ref it)) (λr s1 => ∃ u, r = some u /\ wpAny (model P w) X.A (letOwnedTupleGo (.Tuple elts k pos) (.ref it) u) (λ_ s2 =>
   ∃ p xs, u = .ref p /\ s.heap.objs.size <= p /\ H p = none /\ Inv X pins Z (upd H p (.tup xs)) s2 /\ Y xs /\ St (i + 1) s2.heap) E s1) E s := by
 refine W.item i s _ E hi st λT vals h1 tk hP hT ht hm hk => ⟨.ref T, rfl, ?_⟩
 obtain ⟨xs, rv, hz, hY⟩ := hv vals hP
 refine W.go elts k pos i T { s with heap := h1, toks := tk } _ E hm λh2 st2 hk2 => ?_
 have hTw : T ∉ wr := W.apart i T h1 hm
 have ht2 : IsTup h2 T vals.toList.toArray := by
  obtain ⟨o, ho, hc, m, hd⟩ := ht
  exact ⟨o, hk2 T o hTw ho, hc, m, by simpa using hd⟩
 exact ⟨T, xs, rfl, hT, I.hok.fresh hT, I.turnedT (t' := tk) (λb o hb e => hk2 b o hb (hk b o hb e)) hf hT ht2 rv (Zyz hz (by decide)), hY, st2⟩
end
structure Sl (J : It) (n : Nat) (yl : Nat -> List V -> Prop) (ok : Hp -> Prop) : Prop where
 go : ∀ i H, i < n -> ok H -> J.go i H
 yld : ∀ i H x H', i < n -> ok H -> J.yld i H x H' -> ∃ p ys, x = .ref p /\ H p = none /\ H' = upd H p (.tup ys) /\ yl i ys
 stop : ∀ H, ok H -> J.stop n H
theorem Op {J : It} {n : Nat} {yl : Nat -> List V -> Prop} {ok : Hp -> Prop} {g : TG} {tb : TS} {D : Ends} {Z : St} {H : Hp} (G : Sl J n yl ok) (Pv : Nat -> St -> Hp -> Prop) (h0 : Pv 0 Z H) (hok : ∀ i Z H, i <= n -> Pv i Z H -> ok H)
  (hs : ∀ i ys p Z H, i < n -> yl i ys -> Pv i Z H -> H p = none -> g (.ref p) Z (upd H p (.tup ys)) λσ2 H2 => tb { D with nx := Pv (i + 1), ct := Pv (i + 1), bk := D.nx } σ2 H2) (hd : ∀ Z H, Pv n Z H -> D.nx Z H) : NP.jv J g tb D Z H := by
 refine ⟨λi m Z H => m = n - i /\ i <= n /\ Pv i Z H, ⟨n, by simp, Zyn _, h0⟩, ?_⟩
 rintro i m Z H ⟨rfl, hi, p⟩
 have q := hok i Z H hi p
 by_cases hlt : i < n
 ·refine .inr ⟨G.go i H hlt q, Pv (i + 1), λZ' H' p' => ⟨n - (i + 1), by omega, rfl, hlt, p'⟩, λx H' y => ?_⟩
  obtain ⟨a, ys, e1, e2, e3, y'⟩ := G.yld i H x H' hlt q y
  subst e1 e3
  exact hs i ys a Z H hlt y' p e2
 ·have e : i = n := by omega
  subst e
  exact .inl ⟨G.stop H q, hd Z H p⟩
theorem gT2 {K : Zzu} {i j : Nat} {p : Addr} {x y : V} {Z : St} {H : Hp} {Q : St -> Hp -> Prop} (h : Q ((Z.set i (some x)).set j (some y)) (upd H p (.tup [x, y]))) : Tq K 2 (Fa (Db i) (Fa (Db j) gNil)) (.ref p) Z (upd H p (.tup [x, y])) Q :=
 ⟨p, _, rfl, SqT.of A0, rfl, _, _, rfl, _, _, rfl, rfl, h⟩
theorem gT3 {K : Zzu} {i j k : Nat} {p : Addr} {x y z : V} {Z : St} {H : Hp} {Q : St -> Hp -> Prop} (h : Q (((Z.set i (some x)).set j (some y)).set k (some z)) (upd H p (.tup [x, y, z]))) :
  Tq K 3 (Fa (Db i) (Fa (Db j) (Fa (Db k) gNil))) (.ref p) Z (upd H p (.tup [x, y, z])) Q :=
 ⟨p, _, rfl, SqT.of A0, rfl, _, _, rfl, _, _, rfl, _, _, rfl, rfl, h⟩
def ItE (a : Addr) (xs : List V) : It := ⟨λi H => H a = some (.lst xs) /\ i < xs.length, λi H x H' => ∃ p y, x = .ref p /\ H p = none /\ xs[i]? = some y /\ H' = upd H p (.tup [.int i, y]), λi H => H a = some (.lst xs) /\ i = xs.length⟩
theorem Z4 (a : Addr) (xs : List V) : Sl (ItE a xs) xs.length (λi ys => ∃ y, xs[i]? = some y /\ ys = [.int i, y]) (λH => H a = some (.lst xs)) :=
 ⟨λi H h o => ⟨o, h⟩, λi H x H' h o y => by obtain ⟨p, z, e1, e2, e3, e4⟩ := y; exact ⟨p, _, e1, e2, e4, z, e3, rfl⟩, λH o => ⟨o, rfl⟩⟩
theorem Vt {P : Program} {w : World} {K : Zzu} {elts : List Expr} {k : Nat} {pos : Pos} (e it a : Addr) (xs : List V) (hei : e ≠ it) : L4 P w K (.Tuple elts k pos) (ItE a xs) [e, it] e (λi h => (∃ old, IsEnum h e it i old) /\ h.IsListIter it a i) where
 mem := by simp
 obj := λi h st b hb => by
  obtain ⟨⟨old, he⟩, o, ho, c, d⟩ := st
  rcases Zzk.mp hb with q | q
  ·rw [q]; exact ⟨_, he, λv z => by cases z⟩
  ·rw [Zzb.mp q]; exact ⟨o, ho, λv z => by rw [d] at z; cases z⟩
 keep := λi h h' st k => by
  obtain ⟨⟨old, he⟩, hi⟩ := st
  exact ⟨⟨old, k e (by simp) _ he⟩, hi.at λo q => k it (by simp) o q⟩
 item := by
  intro X hP hw hK hc i pins s Z H E I hf st hg
  subst hP hw hK
  obtain ⟨hq, hlt⟩ := hg
  obtain ⟨its, rv, hl, hal⟩ := Av I hq
  have f1 := hf e (by simp)
  have f2 := hf it (by simp)
  have hae : a ≠ e := A5 hq f1.1
  have hai : a ≠ it := A5 hq f2.1
  have hlen := rv.length
  have hv : ∀ vals : Array Value, (∃ t x, its.toArray[i]? = some x /\ vals = #[.int i t, x]) -> ∃ ys, Vals ys vals.toList /\ ys.length <= 100 /\ ∃ y, xs[i]? = some y /\ ys = [V.int i, y] := by
   rintro vals ⟨t, x, hx, rfl⟩
   obtain ⟨u, hu, ru⟩ := rv.get (x := xs[i]) (i := i) (by simp [hlt])
   have hx : its[i]? = some x := by simpa using hx
   rw [hx] at hu
   cases hu
   exact ⟨[.int i, xs[i]], .cons ⟨t, rfl⟩ (.cons ru .nil), by simp, xs[i], by simp [hlt], rfl⟩
  refine thn (Tn (E := E) (WalksT.enumerate (I.ok.hd hc) e it a hei hae hai its.toArray) (by rw [Zzp]; omega) I ⟨st.1, st.2, hl⟩ hf hv) λr s1 ⟨u, hr, h3⟩ => ⟨u, hr, thn h3 λ_ s2 ⟨p, ys, hu, hp, hn, I2, ⟨y, hy, e2⟩, st2⟩ => ?_⟩
  subst hu e2
  refine ⟨.ref p, _, I2, rfl, ⟨p, y, rfl, hn, hy, rfl⟩, ⟨st2.1, st2.2.1⟩, λb hb => ?_⟩
  have hbl : b < s.heap.objs.size := by
   obtain ⟨⟨old, he⟩, o, ho, c, d⟩ := st
   rcases Zzk.mp hb with q | q
   ·rw [q]; exact Zzo he
   ·rw [Zzb.mp q]; exact Zzo ho
  rw [A3 (Bd hbl hp)]
  exact (hf b hb).1
 done := by
  intro X hP hw hK hc i pins s Z H E I hf st hg
  subst hP hw hK
  obtain ⟨hq, hlt⟩ := hg
  obtain ⟨its, rv, hl, hal⟩ := Av I hq
  have f1 := hf e (by simp)
  have f2 := hf it (by simp)
  have hlen := rv.length
  have hi : its.toArray.size = i := by rw [Zzp]; omega
  refine (WalksT.enumerate (I.ok.hd hc) e it a hei (A5 hq f1.1) (A5 hq f2.1) its.toArray).done s _ E ?_ λh' tk hk => ⟨rfl, I.turnedL hk hf⟩
  rw [hi]
  exact ⟨st.1, st.2, hl⟩
 self := λ_ _ _ _ _ st h => by
  obtain ⟨⟨old, he⟩, _⟩ := st
  exact wpAny_pyIter_enum he h
section
variable {X : Cx}
def gm (ta : TA) : TI := λZ H R => ta Z H λvs H1 => ∃ a xs, vs = [.ref a] /\ H1 a = some (.lst xs) /\ R (ItE a xs) H1
theorem Pj {elts : List Expr} {k : Nat} {pt p pos : Pos} {e : Expr} {ta : TA} (hg : Gl X "enumerate") (hm : X.mg "enumerate" = none) (ha : PA X [e] ta) (hn : Bz [e] = true := by rfl) : PI X (.Tuple elts k pt) (.Call (.Name "enumerate" p) [e] [] pos) (gm ta) := by
 intro pins s Z H R I h
 refine Call_ (Fv I hg hm NP.Qm (Zxz (thn (ha pos pins s Z H _ I h) λus s1 ⟨vs, H1, I1, r1, q1⟩ => ?_) (Bw hn) rfl))
 obtain ⟨a, xs, e, hq, q⟩ := q1
 subst e
 obtain ⟨u, rfl, ru⟩ := Fn r1
 cases ru
 obtain ⟨its, rv, hl, hal⟩ := Av I1 hq
 refine call_enumerate_list hl λh' he hi hz hk => wpAny_pyIter_enum he ?_
 have I2 : Inv X pins Z H1 { s1 with heap := h' } := I1.kept (t' := s1.toks) hk
 refine ⟨s1.heap.objs.size + 1, [s1.heap.objs.size + 1, s1.heap.objs.size], _, _, H1, rfl, I2, Vt _ _ a xs (Zw5 _), ⟨⟨_, he⟩, hi⟩, λb hb => ?_, q⟩
 have hb' : s1.heap.objs.size <= b := by
  rcases Zzk.mp hb with z | z
  ·rw [z]; exact Nat.le_succ _
  ·rw [Zzb.mp z]; exact Zzw _
 exact I1.fpOk hb' (I1.hok.fresh hb')
end
theorem Kl (ns : List Int) : ∀ n, n <= ns.length -> preSum (λi => (ns[i]?).getD 0) n = (ns.take n).sum
 | 0, _ => by simp [preSum]
 | n + 1, h => by
  have hn : n < ns.length := h
  rw [preSum, Kl ns n (by omega), Zz8, Zxg]
  simp only [Zzq hn, Zw6, Option.toList_some, List.sum_cons, List.sum_nil, Zy6]
theorem Lu (ns : List Int) : preSum (λi => (ns[i]?).getD 0) ns.length = ns.sum := by
 rw [Kl ns _ (Zzw _), Zyv]
theorem Iw : ∀ {ns : List Int} {us : List Value} {i : Nat} {u : Value}, Vals (ns.map V.int) us -> us[i]? = some u -> ∃ t, u = .int ((ns[i]?).getD 0) t
 | [], _, i, u, .nil, e => by simp at e
 | n :: r, _, 0, u, .cons h t, e => by
  obtain ⟨t', h⟩ := h
  simp at e
  subst e
  exact ⟨t', by rw [h]; rfl⟩
 | n :: r, _, i + 1, u, .cons h t, e => by
  obtain ⟨t', q⟩ := Iw (ns := r) (i := i) (u := u) t (by simpa using e)
  exact ⟨t', by rw [q]; simp⟩
section
variable {X : Cx}
def rSum : List V -> Hp -> VK -> Prop := λxs H Q => ∃ (a : Addr) (ns : List Int), xs = [.ref a] /\ H a = some (.lst (ns.map V.int)) /\ Q (.int ns.sum) H
theorem Eo (hc : X.calm = true) : CallR X (.builtin "sum") rSum := by
 intro pins s Z H xs us Q I r h
 obtain ⟨a, ns, rfl, ha, q⟩ := h
 obtain ⟨u, rfl, ru⟩ := Fn r
 cases ru
 obtain ⟨its, rv, hl, hlt⟩ := Av I ha
 have hlen : its.length = ns.length := by have := rv.length; rw [Zzz] at this; exact this.symm
 refine call_sum_walkG (wpAny_pyIter_list hl ?_)
 refine ⟨s.heap.objs.size, [s.heap.objs.size, a], [s.heap.objs.size], its.toArray.size, _, _, λi => (ns[i]?).getD 0, rfl, Walks.list (A := X.A.in1) (I.ok.hd hc) _ a (Zz0 hlt) its.toArray,
  ⟨⟨_, Zzm _ rfl, rfl, rfl⟩, hl.push _⟩, λb hb => ?_, λi v hP => ?_, λh' tk t' hk => ?_⟩
 ·have e : (s.heap.push { cls := .type "list_iterator", data := .fields #[.ref a, .int 0 0] }).objs.size = s.heap.objs.size + 1 := Zy1 ..
  show b < (s.heap.push { cls := .type "list_iterator", data := .fields #[.ref a, .int 0 0] }).objs.size
  rw [e]
  rcases Zzk.mp hb with z | z
  ·rw [z]; exact Nat.lt_succ_self _
  ·rw [Zzb.mp z]; exact Zxf hlt
 ·have hP : its[i]? = some v := by simpa using hP
  exact Iw rv hP
 ·rw [Zzp, hlen, Lu]
  exact ⟨.int ns.sum, H, I.walked hk, ⟨_, rfl⟩, q⟩
def rMax2 : List V -> Hp -> VK -> Prop := λxs H Q => ∃ i j, xs = [.int i, .int j] /\ Q (.int (if j > i then j else i)) H
theorem Ke (hc : X.calm = true) : CallR X (.builtin "max") rMax2 := Xe hc
end
theorem Pg {n d : Nat} {k : Int} (h : 0 <= k) : HT.sIx n d (some k) = min k.toNat n := by
 unfold HT.sIx
 simp only
 split <;> omega
theorem Lb {xs : List V} {i j : Int} (hi : 0 <= i) (hj : 0 <= j) : E4 xs (some i) (some j) = (xs.drop i.toNat).take (j.toNat - i.toNat) := by
 unfold E4
 rw [Pg hi, Pg hj]
 apply Zxp
 intro k
 simp only [Zxa, Zyc]
 by_cases h1 : i.toNat <= xs.length
 ·rw [Zvz h1]
  by_cases h2 : j.toNat <= xs.length
  ·rw [Zvz h2]
  ·have h2 : xs.length <= j.toNat := by omega
   rw [Nat.min_eq_right h2]
   by_cases h3 : k < xs.length - i.toNat
   ·rw [if_pos h3, if_pos (by omega)]
   ·rw [if_neg h3]
    split
    ·rw [Zz2 (by omega)]
    ·rfl
 ·have h1 : xs.length <= i.toNat := by omega
  rw [Nat.min_eq_right h1]
  have : xs[xs.length + k]? = none := Zz2 (by omega)
  rw [this, Zz2 (by omega)]
  split <;> split <;> rfl
theorem Qi {xs : List V} {j : Int} (hj : 0 <= j) : E4 xs none (some j) = xs.take j.toNat := by
 unfold E4
 rw [Pg hj]
 have e : HT.sIx xs.length 0 none = 0 := rfl
 rw [e, List.drop_zero, Nat.sub_zero]
 apply Zxp
 intro k
 simp only [Zxa]
 by_cases h : k < xs.length
 ·by_cases h2 : k < j.toNat
  ·rw [if_pos (by omega), if_pos h2]
  ·rw [if_neg (by omega), if_neg h2]
 ·rw [Zz2 (by omega)]
  split <;> split <;> rfl
def CMulB (i j : Int) : Prop := CMul i j \/ (i.natAbs < 10 ^ 3000 /\ j.natAbs < 10 ^ 3000)
theorem Vf {i : Int} (h : i.natAbs < 10 ^ 3000) : Builtin.Int.intBits i <= 2 ^ 20 := by
 unfold Builtin.Int.intBits
 split
 ·exact Zyn _
 ·rename_i h0
  have h1 : i.natAbs ≠ 0 := by
   intro e
   exact h0 (by simpa using e)
  have h2 : i.natAbs.log2 < 2 ^ 19 := by
   rw [Nat.log2_lt h1]
   refine Zzi h (Zyz (Nat.pow_le_pow_left (by decide : (10 : Nat) <= 2 ^ 4) 3000) ?_)
   rw [<- Nat.pow_mul]
   exact Nat.pow_le_pow_right (by decide) (by decide)
  have : (2 : Nat) ^ 20 = 2 ^ 19 + 2 ^ 19 := by decide
  have : (1 : Nat) <= 2 ^ 19 := by decide
  omega
theorem CMulB.ok {i j : Int} (h : CMulB i j) : IntMulOk i j := h.elim CMul.ok λh => .of_bits (Vf h.1) (Vf h.2)
section
variable {X : Cx}
theorem Dz : OpR X (binaryOp .Mult) (rI CMulB λi j => .int (i * j)) := opI λ_ _ _ _ _ _ _ hc q => mul_int q hc.ok
end
def ju (a b : Addr) (xs ys : List V) : It := ⟨λi H => H a = some (.lst xs) /\ H b = some (.lst ys) /\ i < min xs.length ys.length,
 λi H x H' => ∃ p y z, x = .ref p /\ H p = none /\ xs[i]? = some y /\ ys[i]? = some z /\ H' = upd H p (.tup [y, z]), λi H => H a = some (.lst xs) /\ H b = some (.lst ys) /\ i = min xs.length ys.length⟩
theorem Qf (a b : Addr) (xs ys : List V) : Sl (ju a b xs ys) (min xs.length ys.length) (λi us => ∃ y z, xs[i]? = some y /\ ys[i]? = some z /\ us = [y, z]) (λH => H a = some (.lst xs) /\ H b = some (.lst ys)) :=
 ⟨λi H h o => ⟨o.1, o.2, h⟩, λi H x H' h o y => by obtain ⟨p, u, v, e1, e2, e3, e4, e5⟩ := y; exact ⟨p, _, e1, e2, e5, u, v, e3, e4, rfl⟩, λH o => ⟨o.1, o.2, rfl⟩⟩
theorem Vs {P : Program} {w : World} {K : Zzu} {elts : List Expr} {k : Nat} {pos : Pos} (z TI TO i1 i2 a b : Addr) (xs ys : List V) (nd : [z, TI, TO, i1, i2].Nodup) :
  L4 P w K (.Tuple elts k pos) (ju a b xs ys) [z, TI, TO, i1, i2] z (λi h => IsZip h z TI TO .none /\ IsPair h TI (.ref i1) (.ref i2) /\ (∃ u v, IsPair h TO u v) /\ h.IsListIter i1 a i /\ h.IsListIter i2 b i) := by
 have nd' := nd
 simp only [Zyh, Zzk, Zz3, or_false, not_or] at nd'
 obtain ⟨⟨n1, n2, n3, n4⟩, ⟨n5, n6, n7⟩, ⟨n8, n9⟩, n10, _⟩ := nd'
 have objs : ∀ (i : Nat) (h : Heap), (IsZip h z TI TO .none /\ IsPair h TI (.ref i1) (.ref i2) /\ (∃ u v, IsPair h TO u v) /\ h.IsListIter i1 a i /\ h.IsListIter i2 b i) -> ∀ c ∈ [z, TI, TO, i1, i2], ∃ o, h.get? c = some o /\ ∀ v, o.data ≠ .cell v := by
  rintro i h ⟨hz, hT, ⟨u, v, hO⟩, ⟨o1, g1, c1, d1⟩, ⟨o2, g2, c2, d2⟩⟩ c hc
  simp only [Zzk, Zz3, or_false] at hc
  rcases hc with q | q | q | q | q <;> subst q
  ·exact ⟨_, hz, λ_ y => by cases y⟩
  ·exact ⟨_, hT, λ_ y => by cases y⟩
  ·exact ⟨_, hO, λ_ y => by cases y⟩
  ·exact ⟨o1, g1, λ_ y => by rw [d1] at y; cases y⟩
  ·exact ⟨o2, g2, λ_ y => by rw [d2] at y; cases y⟩
 have apart : ∀ {X : Cx} {pins : List (Addr × Obj)} {H : Hp}, (∀ c ∈ [z, TI, TO, i1, i2], Fz X pins H c) -> ∀ {us vs : List V}, H a = some (.lst us) -> H b = some (.lst vs) -> ZipApart z TI TO i1 i2 a b := by
  intro X pins H hf us vs ha hb
  have fr : ∀ c ∈ [z, TI, TO, i1, i2], a ≠ c /\ b ≠ c := λc hc => ⟨A5 ha (hf c hc).1, A5 hb (hf c hc).1⟩
  exact ⟨λe => n1 e.symm, λe => n2 e.symm, λe => n3 e.symm, λe => n4 e.symm, n5, n6, n7, n8, n9, n10, (fr z (by simp)).1, (fr TO (by simp)).1, (fr i1 (by simp)).1, (fr i2 (by simp)).1, (fr z (by simp)).2, (fr TO (by simp)).2, (fr i1 (by simp)).2, (fr i2 (by simp)).2⟩
 refine ⟨by simp, objs, ?_, ?_, ?_, ?_⟩
 ·rintro i h h' ⟨hz, hT, ⟨u, v, hO⟩, g1, g2⟩ kp
  exact ⟨kp z (by simp) _ hz, kp TI (by simp) _ hT, ⟨u, v, kp TO (by simp) _ hO⟩, g1.at λo e => kp i1 (by simp) o e, g2.at λo e => kp i2 (by simp) o e⟩
 ·intro X hP hw hK hc i pins s Z H E I hf st hg
  subst hP hw hK
  obtain ⟨ha, hb, hlt⟩ := hg
  obtain ⟨its, rv, hl, hal⟩ := Av I ha
  obtain ⟨its2, rv2, hl2, hal2⟩ := Av I hb
  have len1 := rv.length
  have len2 := rv2.length
  obtain ⟨s1, s2, s3, s4, s5⟩ := id st
  have hv : ∀ vals : Array Value, (∃ x y, its.toArray[i]? = some x /\ its2.toArray[i]? = some y /\ vals = #[x, y]) -> ∃ us, Vals us vals.toList /\ us.length <= 100 /\ ∃ y z, xs[i]? = some y /\ ys[i]? = some z /\ us = [y, z] := by
   rintro vals ⟨x, y, hx, hy, rfl⟩
   have l1 : i < xs.length := by omega
   have l2 : i < ys.length := by omega
   obtain ⟨u, hu, ru⟩ := rv.get (x := xs[i]) (i := i) (by simp [l1])
   obtain ⟨u', hu', ru'⟩ := rv2.get (x := ys[i]) (i := i) (by simp [l2])
   have hx : its[i]? = some x := by simpa using hx
   have hy : its2[i]? = some y := by simpa using hy
   rw [hx] at hu
   rw [hy] at hu'
   cases hu
   cases hu'
   exact ⟨[xs[i], ys[i]], .cons ru (.cons ru' .nil), by simp, xs[i], ys[i], by simp [l1], by simp [l2], rfl⟩
  have sub : ∀ c ∈ [z, TO, i1, i2], c ∈ [z, TI, TO, i1, i2] := λc hc => by simp at hc ⊢; rcases hc with h | h | h | h <;> simp [h]
  refine thn (Tn (E := E) (WalksT.zip2 (I.ok.hd hc) z TI TO i1 i2 a b (apart hf ha hb) its.toArray its2.toArray) (by rw [Zzp, Zzp]; omega) I ⟨s1, s2, s3, s4, s5, hl, hl2⟩ (λc hc => hf c (sub c hc)) hv) λr t1 ⟨u, hr, h3⟩ =>
   ⟨u, hr, thn h3 λ_ t2 ⟨p, us, hu, hp, hn, I2, ⟨y, y', hy, hy', e2⟩, st2⟩ => ?_⟩
  subst hu e2
  refine ⟨.ref p, _, I2, rfl, ⟨p, y, y', rfl, hn, hy, hy', rfl⟩, ⟨st2.1, st2.2.1, st2.2.2.1, st2.2.2.2.1, st2.2.2.2.2.1⟩, λc hc => ?_⟩
  obtain ⟨o, ho, _⟩ := objs i _ st c hc
  rw [A3 (Bd (Zzo ho) hp)]
  exact (hf c hc).1
 ·intro X hP hw hK hc i pins s Z H E I hf st hg
  subst hP hw hK
  obtain ⟨ha, hb, hlt⟩ := hg
  obtain ⟨its, rv, hl, hal⟩ := Av I ha
  obtain ⟨its2, rv2, hl2, hal2⟩ := Av I hb
  have len1 := rv.length
  have len2 := rv2.length
  obtain ⟨s1, s2, s3, s4, s5⟩ := id st
  have sub : ∀ c ∈ [z, TO, i1, i2], c ∈ [z, TI, TO, i1, i2] := λc hc => by simp at hc ⊢; rcases hc with h | h | h | h <;> simp [h]
  have hi : min its.toArray.size its2.toArray.size = i := by rw [Zzp, Zzp]; omega
  refine (WalksT.zip2 (I.ok.hd hc) z TI TO i1 i2 a b (apart hf ha hb) its.toArray its2.toArray).done s _ E ?_ λh' tk hk => ⟨rfl, I.turnedL hk λc hc => hf c (sub c hc)⟩
  rw [hi]
  exact ⟨s1, s2, s3, s4, s5, hl, hl2⟩
 ·intro A i s Q E st h
  exact wpAny_pyIter_zip st.1 h
section
variable {X : Cx}
def gj (ta : TA) : TI := λZ H R => ta Z H λvs H1 => ∃ a b xs ys, vs = [.ref a, .ref b] /\ H1 a = some (.lst xs) /\ H1 b = some (.lst ys) /\ R (ju a b xs ys) H1
theorem L7 {elts : List Expr} {k : Nat} {pt p pos : Pos} {e e2 : Expr} {ta : TA} (hg : Gl X "zip") (hm : X.mg "zip" = none) (ha : PA X [e, e2] ta) (hn : Bz [e, e2] = true := by rfl) : PI X (.Tuple elts k pt) (.Call (.Name "zip" p) [e, e2] [] pos) (gj ta) := by
 intro pins s Z H R I h
 refine Call_ (Fv I hg hm NP.Zn (Zxz (thn (ha pos pins s Z H _ I h) λus s1 ⟨vs, H1, I1, r1, q1⟩ => ?_) (Ba (B0 hn).1) (C1 (B0 hn).2)))
 obtain ⟨a, b, xs, ys, e, ha, hb, q⟩ := q1
 subst e
 obtain ⟨u, u', rfl, ru, ru'⟩ := O0 r1
 cases ru
 cases ru'
 obtain ⟨its, rv, hl, hal⟩ := Av I1 ha
 obtain ⟨its2, rv2, hl2, hal2⟩ := Av I1 hb
 refine call_zip_2 hl hl2 λh' g1 g2 g3 g4 g5 hz hk => wpAny_pyIter_zip g1 ?_
 have I2 : Inv X pins Z H1 { s1 with heap := h' } := I1.kept (t' := s1.toks) hk
 have nd : [s1.heap.objs.size + 4, s1.heap.objs.size + 2, s1.heap.objs.size + 3, s1.heap.objs.size, s1.heap.objs.size + 1].Nodup := by
  simp only [Zyh, Zzk, Zz3, or_false, not_or, List.nodup_nil, and_true, not_false_eq_true]
  refine ⟨⟨?_, ?_, ?_, ?_⟩, ⟨?_, ?_, ?_⟩, ⟨?_, ?_⟩, ?_⟩ <;> (intro z; have z' : (_ : Nat) = _ := z; omega)
 refine ⟨s1.heap.objs.size + 4, [s1.heap.objs.size + 4, s1.heap.objs.size + 2, s1.heap.objs.size + 3, s1.heap.objs.size, s1.heap.objs.size + 1], _, _, H1, rfl, I2, Vs _ _ _ _ _ a b xs ys nd, ⟨g1, g2, ⟨_, _, g3⟩, g4, g5⟩, λc hc => ?_, q⟩
 have hb' : s1.heap.objs.size <= c := by
  simp only [Zzk, Zz3, or_false] at hc
  rcases hc with q | q | q | q | q <;> rw [q] <;> first | exact Nat.le_add_right _ _ | exact Zzw _
 exact I1.fpOk hb' (I1.hok.fresh hb')
end
abbrev Cj (h : Heap) (T : Addr) (a b c : Value) : Prop := h.get? T = some { cls := .type "tuple", data := .seq #[a, b, c] }
section
variable {prog : Program} {w : World} {A : Around} {E : Value -> Shared -> Prop} {s : Shared}
theorem Ix {T : Addr} {a b c x : Value} {k : Nat} {Q : Unit -> Shared -> Prop} (hT : Cj s.heap T a b c)
  (h : ∀ h', h'.get? T = some { cls := .type "tuple", data := .seq ((#[a, b, c] : Array Value).setIfInBounds k x) } -> Zy7 T s.heap h' -> Q () { s with heap := h' }) :
  wpAny (model prog w) A (updateSeq T (·.setIfInBounds k x)) Q E s := wpAny_updateSeq hT rfl (h _ (by rw [Zxi _ hT rfl]; simp [Obj.mapSeq]) (Zwz ..))
structure Qt (z TI TO i1 i2 i3 : Addr) (ls : List Addr) : Prop where
 nd : [z, TI, TO, i1, i2, i3].Nodup
 ls : ∀ l ∈ ls, l ∉ [z, TI, TO, i1, i2, i3]
theorem Vk {z TI TO i1 i2 i3 l1 l2 l3 : Addr} {k : Nat} {xs ys zs : Array Value} {x y v a b c : Value} {Q : Value -> Shared -> Prop} (D : Qt z TI TO i1 i2 i3 [l1, l2, l3])
  (hZ : IsZip s.heap z TI TO .none) (hI : Cj s.heap TI (.ref i1) (.ref i2) (.ref i3)) (hO : Cj s.heap TO a b c)
  (g1 : s.heap.IsListIter i1 l1 k) (g2 : s.heap.IsListIter i2 l2 k) (g3 : s.heap.IsListIter i3 l3 k) (m1 : s.heap.IsList l1 xs) (m2 : s.heap.IsList l2 ys) (m3 : s.heap.IsList l3 zs) (e1 : xs[k]? = some x) (e2 : ys[k]? = some y) (e3 : zs[k]? = some v)
  (hQ : ∀ h', IsZip h' z TI TO (rawInt s.heap.objs.size) -> Cj h' TO x y v -> h'.IsListIter i1 l1 (k + 1) -> h'.IsListIter i2 l2 (k + 1) -> h'.IsListIter i3 l3 (k + 1) -> Cj h' s.heap.objs.size x y v -> h'.objs.size = s.heap.objs.size + 1 ->
   (∀ c o, c ∉ [z, TO, i1, i2, i3] -> s.heap.get? c = some o -> h'.get? c = some o) -> Q (.ref s.heap.objs.size) { s with heap := h' }) :
  wpAny (model prog w) A (Builtin.«zip.__next__» ⟨[.ref z], []⟩) (λfin s' => ∃ v, fin = .done (.ret v) /\ Q v s') E s := by
 obtain ⟨nd, ls⟩ := D
 have a1 := ls l1 (by simp)
 have a2 := ls l2 (by simp)
 have a3 := ls l3 (by simp)
 simp only [Zyh, Zzk, Zz3, or_false, not_or] at nd a1 a2 a3
 obtain ⟨⟨zI, zO, z1, z2, z3⟩, ⟨IO, I1, I2, I3⟩, ⟨O1, O2, O3⟩, ⟨n12, n13⟩, n23, _⟩ := nd
 obtain ⟨a1z, a1I, a1O, a11, a12, a13⟩ := a1
 obtain ⟨a2z, a2I, a2O, a21, a22, a23⟩ := a2
 obtain ⟨a3z, a3I, a3O, a31, a32, a33⟩ := a3
 show wpAny _ _ (field (.ref z) 2 >>= _) _ _ _
 refine wpAny_bind (wpAny_field hZ rfl (x := .bool false) rfl (show wpAny _ _ (field (.ref z) 3 >>= _) _ _ _ from ?_))
 refine wpAny_bind (wpAny_field hZ rfl (x := .ref TI) rfl (wpAny_bind (wpAny_seqItems hI rfl ?_)))
 refine wpAny_bind (m := Zxr (.ref z)) ?_
 unfold Zxr
 refine wpAny_bind (wpAny_field hZ rfl (x := .none) rfl (wpAny_pure ?_))
 simp only [if_true]
 refine wpAny_bind (wpAny_rule (wpAny_bind (wpAny_field hZ rfl (x := .ref TO) rfl (wpAny_bind (wpAny_setField_rec hZ (by simp) λh₁ w₁ s₁ => ?_)))))
 replace w₁ : IsZip h₁ z TI TO .ellipsis := w₁
 have K1 : ∀ c o, c ≠ z -> s.heap.get? c = some o -> h₁.get? c = some o := λc o n e => s₁.extBut c o n e
 refine wpAny_bind ?_
 simp only [List.zipIdx_cons, List.zipIdx_nil, List.forIn_cons, List.forIn_nil]
 refine wpAny_bind (wpAny_bind (wpAny_onRaise (show wpAny _ _ (Zxv (.ref i1) >>= _) _ _ _ from ?_)))
 refine wpAny_bind (wpAny_nextOf_list_item (g1.at λo e => K1 _ o (Zzf z1) e) (m1.at λo e => K1 _ o a1z e) e1 λh₂ q₂ s₂ => wpAny_pure ?_)
 replace s₂ : Zy7 i1 h₁ h₂ := s₂
 have K2 : ∀ c o, c ≠ z -> c ≠ i1 -> s.heap.get? c = some o -> h₂.get? c = some o := λc o n n' e => s₂.extBut c o n' (K1 c o n e)
 have O₂ : Cj h₂ TO a b c := K2 _ _ (Zzf zO) O1 hO
 refine wpAny_bind (wpAny_seqItems O₂ rfl (wpAny_bind (Ix O₂ λh₃ O₃ s₃ => wpAny_bind (wpAny_letGo (wpAny_pure ?_)))))
 replace O₃ : Cj h₃ TO x b c := O₃
 replace s₃ : Zy7 TO h₂ h₃ := s₃
 have K3 : ∀ c o, c ≠ z -> c ≠ i1 -> c ≠ TO -> s.heap.get? c = some o -> h₃.get? c = some o := λc o n n' n2 e => s₃.extBut c o n2 (K2 c o n n' e)
 refine wpAny_bind (wpAny_bind (wpAny_onRaise (show wpAny _ _ (Zxv (.ref i2) >>= _) _ _ _ from ?_)))
 refine wpAny_bind (wpAny_nextOf_list_item (g2.at λo e => K3 _ o (Zzf z2) (Zzf n12) (Zzf O2) e) (m2.at λo e => K3 _ o a2z a21 a2O e) e2 λh₄ q₄ s₄ => wpAny_pure ?_)
 replace s₄ : Zy7 i2 h₃ h₄ := s₄
 have O₄ : Cj h₄ TO x b c := s₄.extBut _ _ O2 O₃
 refine wpAny_bind (wpAny_seqItems O₄ rfl (wpAny_bind (Ix O₄ λh₅ O₅ s₅ => wpAny_bind (wpAny_letGo (wpAny_pure ?_)))))
 replace O₅ : Cj h₅ TO x y c := O₅
 replace s₅ : Zy7 TO h₄ h₅ := s₅
 have K5 : ∀ c o, c ≠ z -> c ≠ i1 -> c ≠ TO -> c ≠ i2 -> s.heap.get? c = some o -> h₅.get? c = some o := λc o n n' n2 n3 e => s₅.extBut c o n2 (s₄.extBut c o n3 (K3 c o n n' n2 e))
 refine wpAny_bind (wpAny_bind (wpAny_onRaise (show wpAny _ _ (Zxv (.ref i3) >>= _) _ _ _ from ?_)))
 refine wpAny_bind (wpAny_nextOf_list_item (g3.at λo e => K5 _ o (Zzf z3) (Zzf n13) (Zzf O3) (Zzf n23) e) (m3.at λo e => K5 _ o a3z a31 a3O a32 e) e3 λh₆ q₆ s₆ => wpAny_pure ?_)
 replace s₆ : Zy7 i3 h₅ h₆ := s₆
 have O₆ : Cj h₆ TO x y c := s₆.extBut _ _ O3 O₅
 refine wpAny_bind (wpAny_seqItems O₆ rfl (wpAny_bind (Ix O₆ λh₇ O₇ s₇ => wpAny_bind (wpAny_letGo (wpAny_pure (wpAny_pure ?_))))))
 replace O₇ : Cj h₇ TO x y v := O₇
 replace s₇ : Zy7 TO h₆ h₇ := s₇
 have K7 : ∀ c o, c ∉ [z, TO, i1, i2, i3] -> s.heap.get? c = some o -> h₇.get? c = some o := λc o n e => by
  simp only [Zzk, Zz3, or_false, not_or] at n
  exact s₇.extBut c o n.2.1 (s₆.extBut c o n.2.2.2.2 (K5 c o n.1 n.2.2.1 n.2.1 n.2.2.2.1 e))
 refine wpAny_bind (wpAny_seqItems O₇ rfl (wpAny_bind (wpAny_newTuple ?_)))
 have sz : h₇.objs.size = s.heap.objs.size := by rw [s₇.1, s₆.1, s₅.1, s₄.1, s₃.1, s₂.1, s₁.1]
 have Z₇ : IsZip h₇ z TI TO .ellipsis := s₇.extBut _ _ zO (s₆.extBut _ _ z3 (s₅.extBut _ _ zO (s₄.extBut _ _ z2 (s₃.extBut _ _ zO (s₂.extBut _ _ z1 w₁)))))
 have r1 : h₇.IsListIter i1 l1 (k + 1) := ((((q₂.extBut s₃.extBut (Zzf O1)).extBut s₄.extBut n12).extBut s₅.extBut (Zzf O1)).extBut s₆.extBut n13).extBut s₇.extBut (Zzf O1)
 have r2 : h₇.IsListIter i2 l2 (k + 1) := ((q₄.extBut s₅.extBut (Zzf O2)).extBut s₆.extBut n23).extBut s₇.extBut (Zzf O2)
 have r3 : h₇.IsListIter i3 l3 (k + 1) := q₆.extBut s₇.extBut (Zzf O3)
 have zl : z < h₇.objs.size := Zzo Z₇
 refine wpAny_bind (m := Zwj (.ref z) (.ref h₇.objs.size)) ?_
 unfold Zwj
 have Z₈ : IsZip (h₇.push { cls := .type "tuple", data := .seq #[x, y, v] }) z TI TO .ellipsis := Zzy _ Z₇
 refine wpAny_bind (wpAny_setField_rec Z₈ (by simp) λh₈ w₈ s₈ => ?_)
 replace w₈ : IsZip h₈ z TI TO (rawInt h₇.objs.size) := w₈
 refine wpAny_setField_rec w₈ (by simp) λh₉ w₉ s₉ => ?_
 replace w₉ : IsZip h₉ z TI TO (rawInt h₇.objs.size) := w₉
 have K9 : ∀ c o, c ≠ z -> h₇.get? c = some o -> h₉.get? c = some o := λc o n e => s₉.extBut _ _ n (s₈.extBut _ _ n (Zzy _ e))
 have T₉ : Cj h₉ h₇.objs.size x y v := s₉.extBut _ _ (Zxb zl) (s₈.extBut _ _ (Zxb zl) (Zzm _ rfl))
 have sz9 : h₉.objs.size = h₇.objs.size + 1 := by rw [s₉.1, s₈.1, Zy1]
 rw [sz] at w₉ T₉ sz9
 refine wpAny_pure ⟨_, rfl, (show Q (.ref h₇.objs.size) _ from ?_)⟩
 rw [sz]
 refine hQ h₉ w₉ (K9 _ _ (Zzf zO) O₇) (r1.at λo e => K9 _ o (Zzf z1) e) (r2.at λo e => K9 _ o (Zzf z2) e) (r3.at λo e => K9 _ o (Zzf z3) e) T₉ sz9 λc o n e => K9 c o (λq => n (by simp [q])) (K7 c o n e)
theorem Xj {z TI TO i1 i2 i3 l1 l2 l3 : Addr} {k : Nat} {xs ys zs : Array Value} {a b c : Value} {Q : Fin -> Shared -> Prop} (hh : A.handled = none) (D : Qt z TI TO i1 i2 i3 [l1, l2, l3])
  (hZ : IsZip s.heap z TI TO .none) (hI : Cj s.heap TI (.ref i1) (.ref i2) (.ref i3)) (hO : Cj s.heap TO a b c)
  (g1 : s.heap.IsListIter i1 l1 k) (g2 : s.heap.IsListIter i2 l2 k) (g3 : s.heap.IsListIter i3 l3 k) (m1 : s.heap.IsList l1 xs) (m2 : s.heap.IsList l2 ys) (m3 : s.heap.IsList l3 zs) (he : xs[k]? = none \/ ys[k]? = none \/ zs[k]? = none)
  (hE : ∀ h' e, (∀ c o, c ∉ [z, TO, i1, i2, i3] -> s.heap.get? c = some o -> h'.get? c = some o) -> (∃ o, h'.get? e = some o /\ o.cls = .type "StopIteration") -> E (.ref e) { s with heap := h' }) :
  wpAny (model prog w) A (Builtin.«zip.__next__» ⟨[.ref z], []⟩) Q E s := by
 obtain ⟨nd, ls⟩ := D
 have a1 := ls l1 (by simp)
 have a2 := ls l2 (by simp)
 have a3 := ls l3 (by simp)
 simp only [Zyh, Zzk, Zz3, or_false, not_or] at nd a1 a2 a3
 obtain ⟨⟨zI, zO, z1, z2, z3⟩, ⟨IO, I1, I2, I3⟩, ⟨O1, O2, O3⟩, ⟨n12, n13⟩, n23, _⟩ := nd
 obtain ⟨a1z, a1I, a1O, a11, a12, a13⟩ := a1
 obtain ⟨a2z, a2I, a2O, a21, a22, a23⟩ := a2
 obtain ⟨a3z, a3I, a3O, a31, a32, a33⟩ := a3
 show wpAny _ _ (field (.ref z) 2 >>= _) _ _ _
 refine wpAny_bind (wpAny_field hZ rfl (x := .bool false) rfl (show wpAny _ _ (field (.ref z) 3 >>= _) _ _ _ from ?_))
 refine wpAny_bind (wpAny_field hZ rfl (x := .ref TI) rfl (wpAny_bind (wpAny_seqItems hI rfl ?_)))
 refine wpAny_bind (m := Zxr (.ref z)) ?_
 unfold Zxr
 refine wpAny_bind (wpAny_field hZ rfl (x := .none) rfl (wpAny_pure ?_))
 simp only [if_true]
 refine wpAny_bind (wpAny_rule (wpAny_bind (wpAny_field hZ rfl (x := .ref TO) rfl (wpAny_bind (wpAny_setField_rec hZ (by simp) λh₁ w₁ s₁ => ?_)))))
 replace w₁ : IsZip h₁ z TI TO .ellipsis := w₁
 have K1 : ∀ c o, c ≠ z -> s.heap.get? c = some o -> h₁.get? c = some o := λc o n e => s₁.extBut c o n e
 refine wpAny_bind ?_
 simp only [List.zipIdx_cons, List.zipIdx_nil, List.forIn_cons, List.forIn_nil]
 have fin : ∀ {h : Heap} {e : Addr} {Q' : Unit -> Shared -> Prop}, IsZip h z TI TO .ellipsis -> (∃ o, h.get? e = some o /\ o.cls = .type "StopIteration") -> (∀ c o, c ∉ [z, TO, i1, i2, i3] -> s.heap.get? c = some o -> h.get? c = some o) ->
   wpAny (model prog w) A (setField (.ref z) 0 .none) (λ_ s' => E (.ref e) s') E { s with heap := h } := λ{h e Q'} w ⟨o, ho, hc⟩ kk => by
  have ne : e ≠ z := λq => by subst q; rw [w] at ho; cases ho; simp at hc
  refine wpAny_setField_rec w (by simp) λh' _ s' => hE h' e (λc o n q => s'.extBut _ _ (λq => n (by simp [q])) (kk c o n q)) ⟨o, s'.extBut _ _ ne ho, hc⟩
 refine wpAny_bind (wpAny_bind (wpAny_onRaise (show wpAny _ _ (Zxv (.ref i1) >>= _) _ _ _ from ?_)))
 cases e1 : xs[k]? with
 | none =>
  refine wpAny_bind (wpAny_nextOf_list_end hh (g1.at λo e => K1 _ o (Zzf z1) e) (m1.at λo e => K1 _ o a1z e) e1 λh₂ e s₂ he => ?_)
  replace s₂ : Zvt i1 h₁ h₂ := s₂
  refine fin (Q' := λ_ _ => True) (s₂ _ _ z1 w₁) he λc o n q => ?_
  simp only [Zzk, Zz3, or_false, not_or] at n
  exact s₂ _ _ n.2.2.1 (K1 _ _ n.1 q)
 | some x =>
 refine wpAny_bind (wpAny_nextOf_list_item (g1.at λo e => K1 _ o (Zzf z1) e) (m1.at λo e => K1 _ o a1z e) e1 λh₂ q₂ s₂ => wpAny_pure ?_)
 replace s₂ : Zy7 i1 h₁ h₂ := s₂
 have K2 : ∀ c o, c ≠ z -> c ≠ i1 -> s.heap.get? c = some o -> h₂.get? c = some o := λc o n n' e => s₂.extBut c o n' (K1 c o n e)
 have O₂ : Cj h₂ TO a b c := K2 _ _ (Zzf zO) O1 hO
 refine wpAny_bind (wpAny_seqItems O₂ rfl (wpAny_bind (Ix O₂ λh₃ O₃ s₃ => wpAny_bind (wpAny_letGo (wpAny_pure ?_)))))
 replace O₃ : Cj h₃ TO x b c := O₃
 replace s₃ : Zy7 TO h₂ h₃ := s₃
 have K3 : ∀ c o, c ≠ z -> c ≠ i1 -> c ≠ TO -> s.heap.get? c = some o -> h₃.get? c = some o := λc o n n' n2 e => s₃.extBut c o n2 (K2 c o n n' e)
 have Z₃ : IsZip h₃ z TI TO .ellipsis := s₃.extBut _ _ zO (s₂.extBut _ _ z1 w₁)
 refine wpAny_bind (wpAny_bind (wpAny_onRaise (show wpAny _ _ (Zxv (.ref i2) >>= _) _ _ _ from ?_)))
 cases e2 : ys[k]? with
 | none =>
  refine wpAny_bind (wpAny_nextOf_list_end hh (g2.at λo e => K3 _ o (Zzf z2) (Zzf n12) (Zzf O2) e) (m2.at λo e => K3 _ o a2z a21 a2O e) e2 λh₄ e s₄ he => ?_)
  replace s₄ : Zvt i2 h₃ h₄ := s₄
  refine fin (Q' := λ_ _ => True) (s₄ _ _ z2 Z₃) he λc o n q => ?_
  simp only [Zzk, Zz3, or_false, not_or] at n
  exact s₄ _ _ n.2.2.2.1 (K3 _ _ n.1 n.2.2.1 n.2.1 q)
 | some y =>
 refine wpAny_bind (wpAny_nextOf_list_item (g2.at λo e => K3 _ o (Zzf z2) (Zzf n12) (Zzf O2) e) (m2.at λo e => K3 _ o a2z a21 a2O e) e2 λh₄ q₄ s₄ => wpAny_pure ?_)
 replace s₄ : Zy7 i2 h₃ h₄ := s₄
 have O₄ : Cj h₄ TO x b c := s₄.extBut _ _ O2 O₃
 refine wpAny_bind (wpAny_seqItems O₄ rfl (wpAny_bind (Ix O₄ λh₅ O₅ s₅ => wpAny_bind (wpAny_letGo (wpAny_pure ?_)))))
 replace s₅ : Zy7 TO h₄ h₅ := s₅
 have K5 : ∀ c o, c ≠ z -> c ≠ i1 -> c ≠ TO -> c ≠ i2 -> s.heap.get? c = some o -> h₅.get? c = some o := λc o n n' n2 n3 e => s₅.extBut c o n2 (s₄.extBut c o n3 (K3 c o n n' n2 e))
 have Z₅ : IsZip h₅ z TI TO .ellipsis := s₅.extBut _ _ zO (s₄.extBut _ _ z2 Z₃)
 refine wpAny_bind (wpAny_bind (wpAny_onRaise (show wpAny _ _ (Zxv (.ref i3) >>= _) _ _ _ from ?_)))
 have e3 : zs[k]? = none := by
  rcases he with h | h | h
  ·rw [e1] at h; cases h
  ·rw [e2] at h; cases h
  ·exact h
 refine wpAny_bind (wpAny_nextOf_list_end hh (g3.at λo e => K5 _ o (Zzf z3) (Zzf n13) (Zzf O3) (Zzf n23) e) (m3.at λo e => K5 _ o a3z a31 a3O a32 e) e3 λh₆ e s₆ he => ?_)
 replace s₆ : Zvt i3 h₅ h₆ := s₆
 refine fin (Q' := λ_ _ => True) (s₆ _ _ z3 Z₅) he λc o n q => ?_
 simp only [Zzk, Zz3, or_false, not_or] at n
 exact s₆ _ _ n.2.2.2.2 (K5 _ _ n.1 n.2.2.1 n.2.1 n.2.2.2.1 q)
end
theorem Sw (a b c : Value) : checkTypeCall "zip" ⟨[a, b, c], []⟩ = pure () := by kernel_rfl
theorem Tf (a b c : Value) : checkBuiltinCall "zip.__new__" ⟨[.type "zip", a, b, c], []⟩ = pure () := by kernel_rfl
theorem Wz (a b c d : Value) : argsOk "object.__init__" ⟨[a, b, c, d], []⟩ := by
 unfold argsOk
 rw [signature?_of (id := "object.__init__") (n := ['_', '_', 't', 'i', 'n', 'i', '_', '_']) (o := ['t', 'c', 'e', 'j', 'b', 'o']) (by kernel_rfl) F.owner_object]
 kernel_rfl
abbrev z3a (h : Heap) (l : Addr) : Heap := h.push { cls := .type "list_iterator", data := .fields #[.ref l, .int 0 0] }
abbrev z3t (h : Heap) (x y z : Value) : Heap := h.push { cls := .type "tuple", data := .seq #[x, y, z] }
abbrev z3i (h : Heap) (l1 l2 l3 : Addr) : Heap := z3t (z3a (z3a (z3a h l1) l2) l3) (.ref h.objs.size) (.ref (z3a h l1).objs.size) (.ref (z3a (z3a h l1) l2).objs.size)
abbrev z3o (h : Heap) (l1 l2 l3 : Addr) : Heap := z3t (z3i h l1 l2 l3) .none .none .none
abbrev z3z (h : Heap) (l1 l2 l3 : Addr) : Heap := (z3o h l1 l2 l3).push { cls := .type "zip", data := .fields #[.none, .bool false, .bool false, .ref (z3a (z3a (z3a h l1) l2) l3).objs.size, .ref (z3i h l1 l2 l3).objs.size] }
theorem Yl (l1 l2 l3 : Addr) (xs ys zs : Array Value) :
  Meets (Builtin.«zip.__new__» ⟨[.type "zip", .ref l1, .ref l2, .ref l3], []⟩) (λ_ R s => s.heap.IsList l1 xs /\ s.heap.IsList l2 ys /\ s.heap.IsList l3 zs /\ R (.ok (.ret (.ref (z3o s.heap l1 l2 l3).objs.size))) { s with heap := z3z s.heap l1 l2 l3 }) :=
 .of_wp λprog w A R s h => by
  obtain ⟨hp, g, d, tk, os⟩ := s
  obtain ⟨m1, m2, m3, h⟩ := h
  have hsub := sub_zip
  have q1 : Heap.IsList (Shared.heap ⟨hp, g, d, tk, os⟩) l1 xs := m1
  have q2 : Heap.IsList (Shared.heap ⟨z3a hp l1, g, d, tk, os⟩) l2 ys := m2.push _
  have q3 : Heap.IsList (Shared.heap ⟨z3a (z3a hp l1) l2, g, d, tk, os⟩) l3 zs := (m3.push _).push _
  wp_walk using wpAny_pyIter_list q1, wpAny_pyIter_list q2, wpAny_pyIter_list q3
  exact ⟨_, rfl, h⟩
section
variable {prog : Program} {w : World} {A : Around} {E : Value -> Shared -> Prop} {s : Shared}
theorem Xa {l1 l2 l3 : Addr} {xs ys zs : Array Value} {Q : Value -> Shared -> Prop} (m1 : s.heap.IsList l1 xs) (m2 : s.heap.IsList l2 ys) (m3 : s.heap.IsList l3 zs)
  (h : ∀ h' n, n = s.heap.objs.size -> IsZip h' (n + 5) (n + 3) (n + 4) .none -> Cj h' (n + 3) (.ref n) (.ref (n + 1)) (.ref (n + 2)) -> Cj h' (n + 4) .none .none .none -> h'.IsListIter n l1 0 -> h'.IsListIter (n + 1) l2 0 -> h'.IsListIter (n + 2) l3 0 ->
   (∀ c o, s.heap.get? c = some o -> h'.get? c = some o) -> Q (.ref (n + 5)) { s with heap := h' }) :
  wpAny (model prog w) A (call (.type "zip") [.ref l1, .ref l2, .ref l3]) Q E s := by
 refine callType_new F.called_zip (by decide) (Sw _ _ _) (Tf _ _ _) (λobj => Wz obj _ _ _) F.entry_zip_new (Yl l1 l2 l3 xs ys zs) ⟨m1, m2, m3, ?_⟩
 have y1 : (z3a s.heap l1).objs.size = s.heap.objs.size + 1 := Zy1 ..
 have y2 : (z3a (z3a s.heap l1) l2).objs.size = s.heap.objs.size + 2 := by rw [Zy1, y1]
 have y3 : (z3a (z3a (z3a s.heap l1) l2) l3).objs.size = s.heap.objs.size + 3 := by rw [Zy1, y2]
 have y4 : (z3i s.heap l1 l2 l3).objs.size = s.heap.objs.size + 4 := by rw [Zy1, y3]
 have y5 : (z3o s.heap l1 l2 l3).objs.size = s.heap.objs.size + 5 := by rw [Zy1, y4]
 have k5 : (z3z s.heap l1 l2 l3).get? (z3o s.heap l1 l2 l3).objs.size = some _ := Zzm _ rfl
 have k4 : (z3z s.heap l1 l2 l3).get? (z3i s.heap l1 l2 l3).objs.size = some _ := Zzy _ (Zzm _ rfl)
 have k3 : (z3z s.heap l1 l2 l3).get? (z3a (z3a (z3a s.heap l1) l2) l3).objs.size = some _ := Zzy _ (Zzy _ (Zzm _ rfl))
 have k2 : (z3z s.heap l1 l2 l3).get? (z3a (z3a s.heap l1) l2).objs.size = some _ := Zzy _ (Zzy _ (Zzy _ (Zzm _ rfl)))
 have k1 : (z3z s.heap l1 l2 l3).get? (z3a s.heap l1).objs.size = some _ := Zzy _ (Zzy _ (Zzy _ (Zzy _ (Zzm _ rfl))))
 have k0 : (z3z s.heap l1 l2 l3).get? s.heap.objs.size = some _ := Zzy _ (Zzy _ (Zzy _ (Zzy _ (Zzy _ (Zzm _ rfl)))))
 show _ /\ _
 rw [y5, y3, y4] at k5
 rw [y4] at k4
 rw [y3, y1, y2] at k3
 rw [y2] at k2
 rw [y1] at k1
 rw [y5]
 exact ⟨⟨_, k5, rfl⟩, h _ _ rfl k5 k3 k4 ⟨_, k0, rfl, rfl⟩ ⟨_, k1, rfl, rfl⟩ ⟨_, k2, rfl, rfl⟩ λc o e =>
  Zzy _ (Zzy _ (Zzy _ (Zzy _ (Zzy _ (Zzy _ e)))))⟩
end
theorem Lg {prog : Program} {w : World} {A : Around} (hh : A.handled = none) (z TI TO i1 i2 i3 l1 l2 l3 : Addr) (D : Qt z TI TO i1 i2 i3 [l1, l2, l3]) (xs ys zs : Array Value) :
  WalksT prog w A z [z, TI, TO, i1, i2, i3, l1, l2, l3] [z, TO, i1, i2, i3] (min xs.size (min ys.size zs.size))
   (λi vals => ∃ x y v, xs[i]? = some x /\ ys[i]? = some y /\ zs[i]? = some v /\ vals = #[x, y, v])
   (λi h => IsZip h z TI TO .none /\ Cj h TI (.ref i1) (.ref i2) (.ref i3) /\ (∃ a b c, Cj h TO a b c) /\ h.IsListIter i1 l1 i /\ h.IsListIter i2 l2 i /\ h.IsListIter i3 l3 i /\ h.IsList l1 xs /\ h.IsList l2 ys /\ h.IsList l3 zs)
   (λi T h => (IsZip h z TI TO (rawInt T) /\ Cj h TI (.ref i1) (.ref i2) (.ref i3) /\ (∃ a b c, Cj h TO a b c) /\ h.IsListIter i1 l1 (i + 1) /\ h.IsListIter i2 l2 (i + 1) /\ h.IsListIter i3 l3 (i + 1) /\ h.IsList l1 xs /\ h.IsList l2 ys /\ h.IsList l3 zs) /\ T ∉ [z, TO, i1, i2, i3]) := by
 have hTI : TI ∉ [z, TO, i1, i2, i3] := by
  have nd := D.nd
  simp only [Zyh, Zzk, Zz3, or_false, not_or] at nd ⊢
  exact ⟨λe => nd.1.1 e.symm, nd.2.1⟩
 have hls : ∀ l ∈ [l1, l2, l3], l ∉ [z, TO, i1, i2, i3] := λl hl hm => D.ls l hl (by
  simp only [Zzk, Zz3, or_false] at hm ⊢
  rcases hm with e | e | e | e | e <;> simp [e])
 have nz : ∀ c ∈ [TI, TO, i1, i2, i3], c ≠ z := λc hc e => by
  have nd := D.nd
  rw [Zyh] at nd
  exact nd.1 (e ▸ hc)
 have nzl : ∀ c ∈ [l1, l2, l3], c ≠ z := λc hc e => hls c hc (by simp [e])
 refine ⟨λb hb => ?_, λi h h' st kp => ?_, λi s Q E hi st hQ => ?_, λelts k pos i T s Q E hm hQ => ?_, λi T h hm => hm.2, λs Q E st hQ => ?_, λi s Q E st hQ => wpAny_pyIter_zip st.1 hQ⟩
 ·simp only [Zzk, Zz3, or_false] at hb ⊢
  rcases hb with e | e | e | e | e <;> simp [e]
 ·obtain ⟨p1, p2, ⟨a, b, c, p3⟩, p4, p5, p6, p7, p8, p9⟩ := st
  exact ⟨kp z (by simp) _ p1, kp TI (by simp) _ p2, ⟨a, b, c, kp TO (by simp) _ p3⟩, p4.at λo e => kp i1 (by simp) o e, p5.at λo e => kp i2 (by simp) o e, p6.at λo e => kp i3 (by simp) o e,
   p7.at λo e => kp l1 (by simp) o e, p8.at λo e => kp l2 (by simp) o e, p9.at λo e => kp l3 (by simp) o e⟩
 ·obtain ⟨p1, p2, ⟨a, b, c, p3⟩, p4, p5, p6, p7, p8, p9⟩ := st
  have b1 : i < xs.size := by omega
  have b2 : i < ys.size := by omega
  have b3 : i < zs.size := by omega
  have hT : s.TypeIs (.ref z) "zip" := ⟨_, p1, rfl⟩
  unfold pyNext
  refine wpAny_bind (wpAny_attempt (wpAny_callSpecial?_slot (name := Str.ofString "__next__") hT F.slot_zip_next (wpAny_call_entry F.slot_zip_next hT F.entry_zip_next
   (Vk D p1 p2 p3 p4 p5 p6 p7 p8 p9 (Zyd b1) (Zyd b2) (Zyd b3) λh' r1 r2 r3 r4 r5 r6 r7 r8 => wpAny_pure ?_) (F.args_zip_next_1 _))))
  have lt : ∀ {c o}, s.heap.get? c = some o -> s.heap.objs.size ≠ c := λe => Zxb (Zzo e)
  refine hQ s.heap.objs.size #[xs[i], ys[i], zs[i]] h' s.toks ⟨_, _, _, Zyd b1, Zyd b2, Zyd b3, rfl⟩ (Zzw _) ⟨_, r6, rfl, _, rfl⟩
   ⟨⟨r1, r8 _ _ hTI p2, ⟨_, _, _, r2⟩, r3, r4, r5, p7.at λo e => r8 _ o (hls l1 (by simp)) e, p8.at λo e => r8 _ o (hls l2 (by simp)) e, p9.at λo e => r8 _ o (hls l3 (by simp)) e⟩, λhm => ?_⟩ r8
  simp only [Zzk, Zz3, or_false] at hm
  obtain ⟨o4, q4, _⟩ := p4
  obtain ⟨o5, q5, _⟩ := p5
  obtain ⟨o6, q6, _⟩ := p6
  rcases hm with e | e | e | e | e
  ·exact lt p1 e
  ·exact lt p3 e
  ·exact lt q4 e
  ·exact lt q5 e
  ·exact lt q6 e
 ·obtain ⟨⟨p1, p2, ⟨a, b, c, p3⟩, p4, p5, p6, p7, p8, p9⟩, _⟩ := hm
  refine wpAny_letOwnedTupleGo_zip p1 λh' z' s' => hQ h' ⟨z', s'.extBut _ _ (nz TI (by simp)) p2, ⟨a, b, c, s'.extBut _ _ (nz TO (by simp)) p3⟩, p4.extBut s'.extBut (nz i1 (by simp)), p5.extBut s'.extBut (nz i2 (by simp)), p6.extBut s'.extBut (nz i3 (by simp)),
   p7.extBut s'.extBut (nzl l1 (by simp)), p8.extBut s'.extBut (nzl l2 (by simp)), p9.extBut s'.extBut (nzl l3 (by simp))⟩ λc o hc e => s'.extBut _ _ (λq => hc (by simp [q])) e
 ·obtain ⟨p1, p2, ⟨a, b, c, p3⟩, p4, p5, p6, p7, p8, p9⟩ := st
  have hT : s.TypeIs (.ref z) "zip" := ⟨_, p1, rfl⟩
  have fin : xs[min xs.size (min ys.size zs.size)]? = none \/ ys[min xs.size (min ys.size zs.size)]? = none \/ zs[min xs.size (min ys.size zs.size)]? = none := by
   have : min xs.size (min ys.size zs.size) = xs.size \/ min xs.size (min ys.size zs.size) = ys.size \/ min xs.size (min ys.size zs.size) = zs.size := by omega
   rcases this with e | e | e
   ·exact .inl (Zw9 (Zvy e.symm))
   ·exact .inr (.inl (Zw9 (Zvy e.symm)))
   ·exact .inr (.inr (Zw9 (Zvy e.symm)))
  unfold pyNext
  refine wpAny_bind (wpAny_attempt (wpAny_callSpecial?_slot (name := Str.ofString "__next__") hT F.slot_zip_next (wpAny_call_entry F.slot_zip_next hT F.entry_zip_next
   (Xj hh D p1 p2 p3 p4 p5 p6 p7 p8 p9 fin λh' e kp ⟨o, ho, hc⟩ => ?_) (F.args_zip_next_1 _))))
  exact wpAny_bind (wpAny_isInstance (T := "StopIteration") (b := true) ⟨o, ho, hc⟩ isSubtype_stop (wpAny_pure (hQ _ s.toks kp)))
def jt (a b c : Addr) (xs ys zs : List V) : It := ⟨λi H => (H a = some (.lst xs) /\ H b = some (.lst ys) /\ H c = some (.lst zs)) /\ i < min xs.length (min ys.length zs.length),
 λi H x H' => ∃ p y z v, x = .ref p /\ H p = none /\ xs[i]? = some y /\ ys[i]? = some z /\ zs[i]? = some v /\ H' = upd H p (.tup [y, z, v]), λi H => (H a = some (.lst xs) /\ H b = some (.lst ys) /\ H c = some (.lst zs)) /\ i = min xs.length (min ys.length zs.length)⟩
theorem ji (a b c : Addr) (xs ys zs : List V) : Sl (jt a b c xs ys zs) (min xs.length (min ys.length zs.length)) (λi us => ∃ y z v, xs[i]? = some y /\ ys[i]? = some z /\ zs[i]? = some v /\ us = [y, z, v]) (λH => H a = some (.lst xs) /\ H b = some (.lst ys) /\ H c = some (.lst zs)) :=
 ⟨λi H h o => ⟨o, h⟩, λi H x H' h o y => by obtain ⟨p, u, v, w, e1, e2, e3, e4, e5, e6⟩ := y; exact ⟨p, _, e1, e2, e6, u, v, w, e3, e4, e5, rfl⟩, λH o => ⟨o, rfl⟩⟩
theorem Vr {P : Program} {w : World} {K : Zzu} {elts : List Expr} {k : Nat} {pos : Pos} (z TI TO i1 i2 i3 a b c : Addr) (xs ys zs : List V) (nd : [z, TI, TO, i1, i2, i3].Nodup) :
  L4 P w K (.Tuple elts k pos) (jt a b c xs ys zs) [z, TI, TO, i1, i2, i3] z (λi h => IsZip h z TI TO .none /\ Cj h TI (.ref i1) (.ref i2) (.ref i3) /\ (∃ u v t, Cj h TO u v t) /\ h.IsListIter i1 a i /\ h.IsListIter i2 b i /\ h.IsListIter i3 c i) := by
 have objs : ∀ (i : Nat) (h : Heap), (IsZip h z TI TO .none /\ Cj h TI (.ref i1) (.ref i2) (.ref i3) /\ (∃ u v t, Cj h TO u v t) /\ h.IsListIter i1 a i /\ h.IsListIter i2 b i /\ h.IsListIter i3 c i) -> ∀ d ∈ [z, TI, TO, i1, i2, i3], ∃ o, h.get? d = some o /\ ∀ v, o.data ≠ .cell v := by
  rintro i h ⟨hz, hT, ⟨u, v, t, hO⟩, ⟨o1, g1, c1, d1⟩, ⟨o2, g2, c2, d2⟩, ⟨o3, g3, c3, d3⟩⟩ d hd
  simp only [Zzk, Zz3, or_false] at hd
  rcases hd with q | q | q | q | q | q <;> subst q
  ·exact ⟨_, hz, λ_ y => by cases y⟩
  ·exact ⟨_, hT, λ_ y => by cases y⟩
  ·exact ⟨_, hO, λ_ y => by cases y⟩
  ·exact ⟨o1, g1, λ_ y => by rw [d1] at y; cases y⟩
  ·exact ⟨o2, g2, λ_ y => by rw [d2] at y; cases y⟩
  ·exact ⟨o3, g3, λ_ y => by rw [d3] at y; cases y⟩
 have apart : ∀ {X : Cx} {pins : List (Addr × Obj)} {H : Hp}, (∀ d ∈ [z, TI, TO, i1, i2, i3], Fz X pins H d) -> ∀ {us vs ws : List V}, H a = some (.lst us) -> H b = some (.lst vs) -> H c = some (.lst ws) -> Qt z TI TO i1 i2 i3 [a, b, c] := by
  intro X pins H hf us vs ws ha hb hc
  refine ⟨nd, λl hl hm => ?_⟩
  have hn := (hf l hm).1
  simp only [Zzk, Zz3, or_false] at hl
  rcases hl with e | e | e <;> rw [e] at hn
  ·rw [hn] at ha; cases ha
  ·rw [hn] at hb; cases hb
  ·rw [hn] at hc; cases hc
 have sub : ∀ d ∈ [z, TO, i1, i2, i3], d ∈ [z, TI, TO, i1, i2, i3] := λd hd => by simp at hd ⊢; rcases hd with h | h | h | h | h <;> simp [h]
 refine ⟨by simp, objs, ?_, ?_, ?_, ?_⟩
 ·rintro i h h' ⟨hz, hT, ⟨u, v, t, hO⟩, g1, g2, g3⟩ kp
  exact ⟨kp z (by simp) _ hz, kp TI (by simp) _ hT, ⟨u, v, t, kp TO (by simp) _ hO⟩, g1.at λo e => kp i1 (by simp) o e, g2.at λo e => kp i2 (by simp) o e, g3.at λo e => kp i3 (by simp) o e⟩
 ·intro X hP hw hK hc i pins s Z H E I hf st hg
  subst hP hw hK
  obtain ⟨⟨ha, hb, hd⟩, hlt⟩ := hg
  obtain ⟨its, rv, hl, _⟩ := Av I ha
  obtain ⟨its2, rv2, hl2, _⟩ := Av I hb
  obtain ⟨its3, rv3, hl3, _⟩ := Av I hd
  have len1 := rv.length
  have len2 := rv2.length
  have len3 := rv3.length
  obtain ⟨s1, s2, s3, s4, s5, s6⟩ := id st
  have hv : ∀ vals : Array Value, (∃ x y v, its.toArray[i]? = some x /\ its2.toArray[i]? = some y /\ its3.toArray[i]? = some v /\ vals = #[x, y, v]) -> ∃ us, Vals us vals.toList /\ us.length <= 100 /\ ∃ y z v, xs[i]? = some y /\ ys[i]? = some z /\ zs[i]? = some v /\ us = [y, z, v] := by
   rintro vals ⟨x, y, v, hx, hy, hv, rfl⟩
   have l1 : i < xs.length := by omega
   have l2 : i < ys.length := by omega
   have l3 : i < zs.length := by omega
   obtain ⟨u, hu, ru⟩ := rv.get (x := xs[i]) (i := i) (by simp [l1])
   obtain ⟨u', hu', ru'⟩ := rv2.get (x := ys[i]) (i := i) (by simp [l2])
   obtain ⟨u'', hu'', ru''⟩ := rv3.get (x := zs[i]) (i := i) (by simp [l3])
   have hx : its[i]? = some x := by simpa using hx
   have hy : its2[i]? = some y := by simpa using hy
   have hv : its3[i]? = some v := by simpa using hv
   rw [hx] at hu
   rw [hy] at hu'
   rw [hv] at hu''
   cases hu
   cases hu'
   cases hu''
   exact ⟨[xs[i], ys[i], zs[i]], .cons ru (.cons ru' (.cons ru'' .nil)), by simp, xs[i], ys[i], zs[i], by simp [l1], by simp [l2], by simp [l3], rfl⟩
  refine thn (Tn (E := E) (Lg (I.ok.hd hc) z TI TO i1 i2 i3 a b c (apart hf ha hb hd) its.toArray its2.toArray its3.toArray) (by rw [Zzp, Zzp, Zzp]; omega) I ⟨s1, s2, s3, s4, s5, s6, hl, hl2, hl3⟩ (λc hc => hf c (sub c hc)) hv) λr t1 ⟨u, hr, h3⟩ =>
   ⟨u, hr, thn h3 λ_ t2 ⟨p, us, hu, hp, hn, I2, ⟨y, y', y'', hy, hy', hy'', e2⟩, st2⟩ => ?_⟩
  subst hu e2
  refine ⟨.ref p, _, I2, rfl, ⟨p, y, y', y'', rfl, hn, hy, hy', hy'', rfl⟩, ⟨st2.1, st2.2.1, st2.2.2.1, st2.2.2.2.1, st2.2.2.2.2.1, st2.2.2.2.2.2.1⟩, λc hc => ?_⟩
  obtain ⟨o, ho, _⟩ := objs i _ st c hc
  rw [A3 (Bd (Zzo ho) hp)]
  exact (hf c hc).1
 ·intro X hP hw hK hc i pins s Z H E I hf st hg
  subst hP hw hK
  obtain ⟨⟨ha, hb, hd⟩, hlt⟩ := hg
  obtain ⟨its, rv, hl, _⟩ := Av I ha
  obtain ⟨its2, rv2, hl2, _⟩ := Av I hb
  obtain ⟨its3, rv3, hl3, _⟩ := Av I hd
  have len1 := rv.length
  have len2 := rv2.length
  have len3 := rv3.length
  obtain ⟨s1, s2, s3, s4, s5, s6⟩ := id st
  have hi : min its.toArray.size (min its2.toArray.size its3.toArray.size) = i := by rw [Zzp, Zzp, Zzp]; omega
  refine (Lg (I.ok.hd hc) z TI TO i1 i2 i3 a b c (apart hf ha hb hd) its.toArray its2.toArray its3.toArray).done s _ E ?_ λh' tk hk => ⟨rfl, I.turnedL hk λc hc => hf c (sub c hc)⟩
  rw [hi]
  exact ⟨s1, s2, s3, s4, s5, s6, hl, hl2, hl3⟩
 ·intro A i s Q E st h
  exact wpAny_pyIter_zip st.1 h
section
variable {X : Cx}
def gi (ta : TA) : TI := λZ H R => ta Z H λvs H1 => ∃ a b c xs ys zs, vs = [.ref a, .ref b, .ref c] /\ H1 a = some (.lst xs) /\ H1 b = some (.lst ys) /\ H1 c = some (.lst zs) /\ R (jt a b c xs ys zs) H1
theorem bj {elts : List Expr} {k : Nat} {pt p pos : Pos} {e e2 e3 : Expr} {ta : TA} (hg : Gl X "zip") (hm : X.mg "zip" = none) (ha : PA X [e, e2, e3] ta) (hn : Bz [e, e2, e3] = true := by rfl) : PI X (.Tuple elts k pt) (.Call (.Name "zip" p) [e, e2, e3] [] pos) (gi ta) := by
 intro pins s Z H R I h
 refine Call_ (Fv I hg hm NP.Zn (Zxz (thn (ha pos pins s Z H _ I h) λus s1 ⟨vs, H1, I1, r1, q1⟩ => ?_) (Ba (B0 hn).1) (C1 (B0 hn).2)))
 obtain ⟨a, b, c, xs, ys, zs, e, ha, hb, hc, q⟩ := q1
 subst e
 cases r1 with
 | cons ru r2 =>
 obtain ⟨u', u'', rfl, ru', ru''⟩ := O0 r2
 cases ru
 cases ru'
 cases ru''
 obtain ⟨its, rv, hl, _⟩ := Av I1 ha
 obtain ⟨its2, rv2, hl2, _⟩ := Av I1 hb
 obtain ⟨its3, rv3, hl3, _⟩ := Av I1 hc
 refine Xa hl hl2 hl3 λh' n hn g1 g2 g3 g4 g5 g6 hk => wpAny_pyIter_zip g1 ?_
 have I2 : Inv X pins Z H1 { s1 with heap := h' } := I1.kept (t' := s1.toks) hk
 have nd : [n + 5, n + 3, n + 4, n, n + 1, n + 2].Nodup := by
  simp only [Zyh, Zzk, Zz3, or_false, not_or, List.nodup_nil, and_true, not_false_eq_true]
  refine ⟨⟨?_, ?_, ?_, ?_, ?_⟩, ⟨?_, ?_, ?_, ?_⟩, ⟨?_, ?_, ?_⟩, ⟨?_, ?_⟩, ?_⟩ <;> (intro z; have z' : (_ : Nat) = _ := z; omega)
 refine ⟨n + 5, [n + 5, n + 3, n + 4, n, n + 1, n + 2], _, _, H1, rfl, I2, Vr _ _ _ _ _ _ a b c xs ys zs nd, ⟨g1, g2, ⟨_, _, _, g3⟩, g4, g5, g6⟩, λd hd => ?_, q⟩
 have hb' : s1.heap.objs.size <= d := by
  rw [<- hn]
  simp only [Zzk, Zz3, or_false] at hd
  rcases hd with q | q | q | q | q | q <;> rw [q] <;> first | exact Nat.le_add_right _ _ | exact Zzw _
 exact I1.fpOk hb' (I1.hok.fresh hb')
end
theorem jm {t u : TS} {D : Ends} {Z : St} {H : Hp} (M : St -> Hp -> Prop) (hrest : ∀ Z' H', M Z' H' -> u D Z' H') (h : ∀ KK : St -> Hp -> Prop, (∀ Z' H', M Z' H' -> KK Z' H') -> t { D with nx := KK } Z H) : R5 t u D Z H := h (u D) hrest
theorem cut2 {t t2 u : TS} {D : Ends} {Z : St} {H : Hp} (M : St -> Hp -> Prop) (hrest : ∀ Z' H', M Z' H' -> u D Z' H') (h : ∀ KK : St -> Hp -> Prop, (∀ Z' H', M Z' H' -> KK Z' H') -> t { D with nx := λZ H => t2 { D with nx := KK } Z H } Z H) : R5 t (R5 t2 u) D Z H := h (u D) hrest
theorem cut3 {t t2 t3 u : TS} {D : Ends} {Z : St} {H : Hp} (M : St -> Hp -> Prop) (hrest : ∀ Z' H', M Z' H' -> u D Z' H')
  (h : ∀ KK : St -> Hp -> Prop, (∀ Z' H', M Z' H' -> KK Z' H') -> t { D with nx := λZ H => t2 { D with nx := λZ H => t3 { D with nx := KK } Z H } Z H } Z H) : R5 t (R5 t2 (R5 t3 u)) D Z H := h (u D) hrest
theorem Dc {H : Hp} {a : Addr} {xs : List V} (h : H a = some (.lst xs)) : My H (.ref a) = some "list" := by unfold My; simp only [h]
theorem i7 {H : Hp} {a : Addr} {xs : List V} (h : H a = some (.tup xs)) : My H (.ref a) = some "tuple" := by unfold My; simp only [h]
theorem gt2 {K : Zzu} {i j : Nat} {p : Addr} {x y : V} {Z : St} {H : Hp} {Q : St -> Hp -> Prop} (e : H p = some (.tup [x, y])) (h : Q ((Z.set i (some x)).set j (some y)) H) : Tq K 2 (Fa (Db i) (Fa (Db j) gNil)) (.ref p) Z H Q :=
 ⟨p, _, rfl, SqT.of e, rfl, _, _, rfl, _, _, rfl, rfl, h⟩
section
variable {X : Cx} {pins : List (Addr × Obj)} {Z : St} {H : Hp} {s : Shared}
theorem Inv.freeze {a : Addr} {kvs : List (Key × V)} (I : Inv X pins Z H s) (h : H a = some (.dK kvs)) : ∃ o, s.heap.get? a = some o /\ Inv X pins Z (upd H a (.frz o (.dK kvs))) s := by
 obtain ⟨hz, hS, vs, r, o, es, ep, ho, rest⟩ := I.hok a _ h
 have ne : ∀ b u, H b = some u -> u ≠ .dK kvs -> b ≠ a := λb u e n z => by rw [z, h] at e; exact n (Zza e).symm
 refine ⟨o, ho, I.un (t' := s.toks) ⟨λb ob e n _ _ => e, λb ob e n _ _ => ⟨ob.slots, e⟩, λb ob e n _ => ?_, λb ob e _ => ⟨ob, e⟩, λb xs e => ?_, λb ob u e => ?_, λb ps e => ⟨#[], ?_⟩⟩ λb u e => ?_⟩
 ·rw [A3 (λz => by rw [z, h] at n; cases n)]; exact n
 ·rw [A3 (ne b _ e (λz => by cases z))]; exact e
 ·rw [A3 (ne b _ e (λz => by cases z))]; exact e
 ·rw [A3 (ne b _ e (λz => by cases z)), e]; simp
 ·by_cases hb : b = a
  ·subst hb
   rw [A0] at e
   cases e
   exact ⟨ho, hz, hS, vs, r, o, es, ep, ho, rest⟩
  ·rw [A3 hb] at e
   refine (I.hok b u e).stay (λ_ _ _ q => q) (λc q => ?_) λc ys q => ?_
   ·rw [A3 (ne c _ q (λz => by cases z))]; exact q
   ·rw [A3 (ne c _ q (λz => by cases z))]; exact q
end
def ItD (a : Addr) (o : Obj) (kvs : List (Key × V)) : It := ⟨λi H => H a = some (.frz o (.dK kvs)) /\ i < kvs.length, λi H x H' => H' = H /\ ∃ k v, kvs[i]? = some (k, v) /\ x = kV k, λi H => H a = some (.frz o (.dK kvs)) /\ kvs.length <= i⟩
theorem gn (a : Addr) (o : Obj) (kvs : List (Key × V)) : Nx (ItD a o kvs) kvs.length (λi x => ∃ k v, kvs[i]? = some (k, v) /\ x = kV k) (λH => H a = some (.frz o (.dK kvs))) :=
 ⟨λ_ _ h o => ⟨o, h⟩, λ_ _ _ _ _ _ y => y, λ_ o => ⟨o, Zzw _⟩⟩
theorem Yz {κ : Type} : ∀ {kvs : List (κ × V)} {vs : List (κ × Value)} {i : Nat} {k : κ} {v : V}, KV kvs vs -> kvs[i]? = some (k, v) -> ∃ u, vs[i]? = some (k, u)
 | _, _, _, _, _, .nil, e => by simp at e
 | _, (k', u') :: _, 0, k, v, .cons r _, e => by
  simp at e
  subst e
  exact ⟨u', by simp; exact r.1.symm⟩
 | _, _ :: _, i + 1, k, v, .cons _ t, e => by
  obtain ⟨u, h⟩ := Yz (i := i) t (by simpa using e)
  exact ⟨u, by simpa using h⟩
theorem gh {P : Program} {w : World} {k : Key} {u : Value} (h : (Ay P w).is k u = true) : RelV (kV k) u := by
 rcases Bl h with ⟨i, t, rfl, rfl⟩ | ⟨x, t, rfl, rfl⟩
 ·exact ⟨t, rfl⟩
 ·exact ⟨t, rfl⟩
theorem Vu {P : Program} {w : World} {K : Zzu} {tg : Expr} (a it : Addr) (o : Obj) (kvs : List (Key × V)) (es : Array DictEntry) (ep : Nat) (hd : o.data = .dict es ep) :
  L4 P w K tg (ItD a o kvs) [it] it (λi h => h.IsKeyIter it a i kvs.length ep) where
 mem := by simp
 obj := λi h st b hb => by
  have e : b = it := by simpa using hb
  subst e
  obtain ⟨o, e, c, d⟩ := st
  exact ⟨o, e, λv z => by rw [d] at z; cases z⟩
 keep := λi h h' st k => st.at λo e => k it (by simp) o e
 item := by
  intro X hP hw hK hc i pins s Z H E I hf st hg
  subst hP hw hK
  obtain ⟨hq, hlt⟩ := hg
  obtain ⟨ho, hz, hS, vs, rel, o', es', ep', ho', c', d', kk, pp, nn⟩ := I.hok a _ hq
  rw [ho] at ho'
  cases ho'
  rw [hd] at d'
  cases d'
  have hm : s.heap.DictAt (Ay X.prog X.w) a vs ep := ⟨o, es, ho, c', hd, kk, pp, nn⟩
  obtain ⟨f0, f1, f2, f3, f4, f5⟩ := hf it (by simp)
  have hlen : kvs.length = vs.length := rel.length
  obtain ⟨u, hu⟩ := Yz (k := kvs[i].1) (v := kvs[i].2) (i := i) rel (by simp [hlt])
  have st' : s.heap.IsKeyIter it a i vs.length ep := by rw [<- hlen]; exact st
  refine wpAny_pyNext_dict_item st' hm hu λkey h' hk hit sb => ?_
  have I1 : Inv X pins Z H { s with heap := h' } := I.turned (t' := s.toks) (λb o hb e => (sb.2 b hb).trans e) f0 f1 f3 f4 f5
  obtain ⟨oi, ei, ci, di⟩ := id hit
  refine ⟨key, rfl, On (s := { s with heap := h' }) ei ci di (by decide) ⟨kV kvs[i].1, H, I1, gh hk, ⟨rfl, kvs[i].1, kvs[i].2, by simp [hlt], rfl⟩, ?_, λb hb => (hf b hb).1⟩⟩
  rw [hlen]
  exact hit
 done := by
  intro X hP hw hK hc i pins s Z H E I hf st hg
  subst hP hw hK
  obtain ⟨hq, hlt⟩ := hg
  obtain ⟨ho, hz, hS, vs, rel, o', es', ep', ho', c', d', kk, pp, nn⟩ := I.hok a _ hq
  rw [ho] at ho'
  cases ho'
  rw [hd] at d'
  cases d'
  have hm : s.heap.DictAt (Ay X.prog X.w) a vs ep := ⟨o, es, ho, c', hd, kk, pp, nn⟩
  obtain ⟨f0, f1, f2, f3, f4, f5⟩ := hf it (by simp)
  have hlen : kvs.length = vs.length := rel.length
  have st' : s.heap.IsKeyIter it a i vs.length ep := by rw [<- hlen]; exact st
  exact wpAny_pyNext_dict_end (I.ok.hd hc) st' hm (by simp; omega) λh' eb => ⟨rfl, I.turned (t' := s.toks) (λb o hb e => eb b o hb e) f0 f1 f3 f4 f5⟩
 self := λ_ _ _ _ _ st h => wpAny_pyIter_keyiter st h
section
variable {X : Cx}
def me (te : TE) : TI := λZ H R => te Z H λx H1 => ∃ a kvs, x = .ref a /\ H1 a = some (.dK kvs) /\ ∀ o, R (ItD a o kvs) (upd H1 a (.frz o (.dK kvs)))
theorem Y6 {tg l : Expr} {te : TE} (hl : PE X l te) : PI X tg l (me te) := by
 intro pins s Z H R I h
 refine thn (hl pins s Z H _ I h) λv s1 ⟨x, H1, I1, r1, q1⟩ => ?_
 obtain ⟨a, kvs, e, ha, q⟩ := q1
 subst e
 cases r1
 obtain ⟨o, ho, I2⟩ := I1.freeze ha
 obtain ⟨hz, hS, vs, rel, o', es, ep, ho', c', d', kk, pp, nn⟩ := I1.hok a _ ha
 rw [ho] at ho'
 cases ho'
 have hm : s1.heap.DictAt (Ay X.prog X.w) a vs ep := ⟨o, es, ho, c', d', kk, pp, nn⟩
 have hlen : kvs.length = vs.length := rel.length
 refine wpAny_pyIter_dict hS hm ?_
 refine ⟨s1.heap.objs.size, [s1.heap.objs.size], _, _, _, rfl, I2.kept (t' := s1.toks) λb o e => Zzy _ e, Vu a _ o kvs es ep d', ?_, λb hb => ?_, q o⟩
 ·rw [hlen]
  exact ⟨_, Zzm _ rfl, rfl, rfl⟩
 ·have e : b = s1.heap.objs.size := by simpa using hb
  subst e
  exact I2.fpOk (Zzw _) (I2.hok.fresh (Zzw _))
def fi (ta : TE) : TT := λZ H Q => ta Z H λx H' => ∃ a xs, x = .ref a /\ H' a = some (.lst xs) /\ Q (!xs.isEmpty) H'
def fj (ta : TE) : TT := λZ H Q => ta Z H λx H' => ∃ a kvs, x = .ref a /\ H' a = some (.dK kvs) /\ Q (!kvs.isEmpty) H'
theorem bh {a : Expr} {ta : TE} (ha : PE X a ta) (he : ∀ whole, isTrue a X.env whole = (do let v <- whole; standAt a.pos; holding [v] (truthy v)) := by intro _; rfl) : PT X a (fi ta) := by
 intro pins s Z H Q I h
 refine isTrue_plain (thn (ha pins s Z H _ I h) λv s1 ⟨x, H1, I1, r1, q1⟩ => ?_) (he _)
 obtain ⟨a, xs, e, hx, q⟩ := q1
 exact Sv pins s1 Z H1 x v Q I1 r1 ⟨_, by subst e; exact .inl ⟨xs, SqL.of hx, rfl⟩, q⟩
theorem Uk {a : Expr} {ta : TE} (ha : PE X a ta) (he : ∀ whole, isTrue a X.env whole = (do let v <- whole; standAt a.pos; holding [v] (truthy v)) := by intro _; rfl) : PT X a (fj ta) := by
 intro pins s Z H Q I h
 refine isTrue_plain (thn (ha pins s Z H _ I h) λv s1 ⟨x, H1, I1, r1, q1⟩ => ?_) (he _)
 obtain ⟨a, xs, e, hx, q⟩ := q1
 exact Sv pins s1 Z H1 x v Q I1 r1 ⟨_, by subst e; exact .inr (.inr ⟨xs, hx, rfl⟩), q⟩
end
mutual
def Dd : PyData -> Bool
 | .none | .bool _ | .int _ | .str _ => true
 | .list _ => false
 | .tuple ds => El ds
 | .dict _ => false
def El : List PyData -> Bool
 | [] => true
 | d :: ds => Dd d && El ds
end
def KeepU (H H' : Hp) : Prop := ∀ a xs, H a = some (.tup xs) -> H' a = some (.tup xs)
theorem KeepU.trans {H H1 H2 : Hp} (a : KeepU H H1) (b : KeepU H1 H2) : KeepU H H2 := λc xs h => b c xs (a c xs h)
theorem Same.ku {H H' : Hp} (s : Same H H') : KeepU H H' := λa xs h => s a _ h
theorem j8 {H : Hp} {p : Addr} {o u : HO} (h : H p = some u) (n : ∀ xs, u ≠ .tup xs) : KeepU H (upd H p o) := λa xs e => by
 rw [A3 (λz => by rw [z, h] at e; exact n xs (Zza e))]; exact e
mutual
theorem RD.ku {H H' : Hp} (k : KeepU H H') : ∀ (d : PyData) (v : V), Dd d = true -> RD H d v -> RD H' d v
 | .none, v, _, h => by rw [RD] at h ⊢; exact h
 | .bool b, v, _, h => by rw [RD] at h ⊢; exact h
 | .int i, v, _, h => by rw [RD] at h ⊢; exact h
 | .str x, v, _, h => by rw [RD] at h ⊢; exact h
 | .list ds, v, n, h => by rw [Dd] at n; cases n
 | .tuple ds, v, n, h => by
  rw [Dd] at n
  rw [RD] at h ⊢
  obtain ⟨a, xs, e, ha, r⟩ := h
  exact ⟨a, xs, e, k a xs ha, RDs.ku k ds xs n r⟩
 | .dict _, v, n, h => by rw [Dd] at n; cases n
theorem RDs.ku {H H' : Hp} (k : KeepU H H') : ∀ (ds : List PyData) (xs : List V), El ds = true -> RDs H ds xs -> RDs H' ds xs
 | [], xs, _, h => by rw [RDs] at h ⊢; exact h
 | d :: ds, xs, n, h => by
  rw [El, Zy5] at n
  rw [RDs] at h ⊢
  obtain ⟨x, r, e, h1, h2⟩ := h
  exact ⟨x, r, e, RD.ku k d x n.1 h1, RDs.ku k ds r n.2 h2⟩
end
mutual
theorem RD.same {H H' : Hp} (k : Same H H') : ∀ (d : PyData) (v : V), RD H d v -> RD H' d v
 | .none, v, h => by rw [RD] at h ⊢; exact h
 | .bool b, v, h => by rw [RD] at h ⊢; exact h
 | .int i, v, h => by rw [RD] at h ⊢; exact h
 | .str x, v, h => by rw [RD] at h ⊢; exact h
 | .list ds, v, h => by
  rw [RD] at h ⊢
  obtain ⟨a, xs, e, ha, r⟩ := h
  exact ⟨a, xs, e, k a _ ha, RDs.same k ds xs r⟩
 | .tuple ds, v, h => by
  rw [RD] at h ⊢
  obtain ⟨a, xs, e, ha, r⟩ := h
  exact ⟨a, xs, e, k a _ ha, RDs.same k ds xs r⟩
 | .dict _, v, h => by rw [RD] at h; exact h.elim
theorem RDs.same {H H' : Hp} (k : Same H H') : ∀ (ds : List PyData) (xs : List V), RDs H ds xs -> RDs H' ds xs
 | [], xs, h => by rw [RDs] at h ⊢; exact h
 | d :: ds, xs, h => by
  rw [RDs] at h ⊢
  obtain ⟨x, r, e, h1, h2⟩ := h
  exact ⟨x, r, e, RD.same k d x h1, RDs.same k ds r h2⟩
end
theorem RDs.len {H : Hp} : ∀ {ds : List PyData} {xs : List V}, RDs H ds xs -> xs.length = ds.length
 | [], xs, h => by rw [RDs] at h; rw [h]; rfl
 | d :: ds, xs, h => by
  rw [RDs] at h
  obtain ⟨x, r, e, _, h2⟩ := h
  rw [e, Zwr, Zwr, RDs.len h2]
theorem RDs.get {H : Hp} : ∀ {ds : List PyData} {xs : List V} {i : Nat} {d : PyData}, RDs H ds xs -> ds[i]? = some d -> ∃ x, xs[i]? = some x /\ RD H d x
 | [], xs, i, d, h, e => by cases e
 | d0 :: ds, xs, i, d, h, e => by
  rw [RDs] at h
  obtain ⟨y, r, ey, h1, h2⟩ := h
  rw [ey]
  cases i with
  | zero => cases e; exact ⟨y, rfl, h1⟩
  | succ i =>
   obtain ⟨x, h3, h4⟩ := RDs.get (ds := ds) (xs := r) (i := i) (d := d) h2 (by simpa using e)
   exact ⟨x, by simpa using h3, h4⟩
theorem RDs.get' {H : Hp} : ∀ {ds : List PyData} {xs : List V} {i : Nat} {x : V}, RDs H ds xs -> xs[i]? = some x -> ∃ d, ds[i]? = some d /\ RD H d x
 | [], xs, i, x, h, e => by rw [RDs] at h; rw [h] at e; cases e
 | d :: ds, xs, i, x, h, e => by
  rw [RDs] at h
  obtain ⟨y, r, ey, h1, h2⟩ := h
  rw [ey] at e
  cases i with
  | zero => cases e; exact ⟨d, rfl, h1⟩
  | succ i => exact RDs.get' (ds := ds) (xs := r) (i := i) h2 (by simpa using e)
theorem RDs.app {H : Hp} : ∀ {ds es : List PyData} {xs ys : List V}, RDs H ds xs -> RDs H es ys -> RDs H (ds ++ es) (xs ++ ys)
 | [], es, xs, ys, h, h' => by rw [RDs] at h; rw [h]; exact h'
 | d :: ds, es, xs, ys, h, h' => by
  rw [RDs] at h
  obtain ⟨x, r, e, h1, h2⟩ := h
  rw [e, Zw7, Zw7, RDs]
  exact ⟨x, _, rfl, h1, RDs.app h2 h'⟩
theorem RDs.one {H : Hp} {d : PyData} {x : V} (h : RD H d x) : RDs H [d] [x] := by
 rw [RDs]
 refine ⟨x, _, rfl, h, ?_⟩
 rw [RDs]
theorem RDs.nil {H : Hp} : RDs H [] [] := by rw [RDs]
theorem RDs.cons {H : Hp} {d : PyData} {x : V} {ds : List PyData} {xs : List V} (h : RD H d x) (t : RDs H ds xs) : RDs H (d :: ds) (x :: xs) := by
 rw [RDs]
 exact ⟨x, _, rfl, h, t⟩
theorem RD.str_mk {H : Hp} {x : Str} : RD H (.str x) (.str x) := by rw [RD]
theorem RD.int_mk {H : Hp} {i : Int} : RD H (.int i) (.int i) := by rw [RD]
theorem RD.tup_mk {H : Hp} {a : Addr} {xs : List V} {ds : List PyData} (h : H a = some (.tup xs)) (r : RDs H ds xs) : RD H (.tuple ds) (.ref a) := by
 rw [RD]
 exact ⟨a, xs, rfl, h, r⟩
theorem RD.tup_of {H : Hp} {v : V} {ds : List PyData} (h : RD H (.tuple ds) v) : ∃ a xs, v = .ref a /\ H a = some (.tup xs) /\ RDs H ds xs := by rw [RD] at h; exact h
theorem RD.str_of {H : Hp} {v : V} {x : Str} (h : RD H (.str x) v) : v = .str x := by rw [RD] at h; exact h
theorem RD.int_of {H : Hp} {v : V} {x : Int} (h : RD H (.int x) v) : v = .int x := by rw [RD] at h; exact h
theorem RDs.nil_of {H : Hp} {xs : List V} (h : RDs H [] xs) : xs = [] := by rw [RDs] at h; exact h
theorem RDs.cons_of {H : Hp} {d : PyData} {ds : List PyData} {xs : List V} (h : RDs H (d :: ds) xs) : ∃ x r, xs = x :: r /\ RD H d x /\ RDs H ds r := by rw [RDs] at h; exact h
end L2
namespace NP
open PySem L2
structure Wr where
 name : Str
 lag : Int
 gives : Int
 floor : Int
 stock : Int
 coming : List (Int × Int)
 parts : List (Str × Int)
def Gv (p : Int × Int) : PyData := .tuple [.int p.1, .int p.2]
def Ds (p : Str × Int) : PyData := .tuple [.str p.1, .int p.2]
def Wr.d (w : Wr) : PyData := .tuple [.str w.name, .int w.lag, .int w.gives, .int w.floor, .int w.stock, .tuple (w.coming.map Gv), .tuple (w.parts.map Ds)]
abbrev Wt := Str × Int × Int
def Iv (p : Wt) : PyData := .tuple [.str p.1, .int p.2.1, .int p.2.2]
structure Sh where
 wares : List Wr
 wants : List Wt
def Sh.d (S : Sh) : PyData := .tuple [.tuple (S.wares.map Wr.d), .tuple (S.wants.map Iv)]
theorem C5 {α : Type} (f : α -> PyData) (h : ∀ x, Dd (f x) = true) : ∀ xs : List α, El (xs.map f) = true
 | [] => by rw [Zx0, El]
 | x :: r => by rw [Zz4, El, h x, C5 f h r]; rfl
theorem M4 (p : Int × Int) : Dd (Gv p) = true := by unfold Gv; simp only [Dd, El, Zxj]
theorem L8 (p : Str × Int) : Dd (Ds p) = true := by unfold Ds; simp only [Dd, El, Zxj]
theorem Uq (p : Wt) : Dd (Iv p) = true := by unfold Iv; simp only [Dd, El, Zxj]
theorem Hw (w : Wr) : Dd w.d = true := by
 unfold Wr.d
 simp only [Dd, El, C5 Gv M4, C5 Ds L8, Zxj]
theorem Hx (S : Sh) : Dd S.d = true := by
 unfold Sh.d
 simp only [Dd, El, C5 Wr.d Hw, C5 Iv Uq, Zxj]
theorem C3 {H : Hp} {w : Wr} {v : V} (h : RD H w.d v) : ∃ (a : Addr) (c p : V), v = .ref a /\ H a = some (.tup [.str w.name, .int w.lag, .int w.gives, .int w.floor, .int w.stock, c, p]) /\ RD H (.tuple (w.coming.map Gv)) c /\ RD H (.tuple (w.parts.map Ds)) p := by
 unfold Wr.d at h
 obtain ⟨a, xs, rfl, ha, r⟩ := RD.tup_of h
 obtain ⟨x1, r1, rfl, h1, r⟩ := RDs.cons_of r
 obtain ⟨x2, r2, rfl, h2, r⟩ := RDs.cons_of r
 obtain ⟨x3, r3, rfl, h3, r⟩ := RDs.cons_of r
 obtain ⟨x4, r4, rfl, h4, r⟩ := RDs.cons_of r
 obtain ⟨x5, r5, rfl, h5, r⟩ := RDs.cons_of r
 obtain ⟨x6, r6, rfl, h6, r⟩ := RDs.cons_of r
 obtain ⟨x7, r7, rfl, h7, r⟩ := RDs.cons_of r
 have := RDs.nil_of r
 subst this
 rw [RD.str_of h1, RD.int_of h2, RD.int_of h3, RD.int_of h4, RD.int_of h5] at ha
 exact ⟨a, x6, x7, rfl, ha, h6, h7⟩
theorem Dh {H : Hp} {S : Sh} {v : V} (h : RD H S.d v) : ∃ (a b c : Addr) (ws us : List V), v = .ref a /\ H a = some (.tup [.ref b, .ref c]) /\ H b = some (.tup ws) /\ H c = some (.tup us) /\ RDs H (S.wares.map Wr.d) ws /\ RDs H (S.wants.map Iv) us := by
 unfold Sh.d at h
 obtain ⟨a, xs, rfl, ha, r⟩ := RD.tup_of h
 obtain ⟨x1, r1, rfl, h1, r⟩ := RDs.cons_of r
 obtain ⟨x2, r2, rfl, h2, r⟩ := RDs.cons_of r
 have := RDs.nil_of r
 subst this
 obtain ⟨b, ws, rfl, hb, rb⟩ := RD.tup_of h1
 obtain ⟨c, us, rfl, hc, rc⟩ := RD.tup_of h2
 exact ⟨a, b, c, ws, us, rfl, ha, hb, hc, rb, rc⟩
theorem P9 {H : Hp} {p : Wt} {v : V} (h : RD H (Iv p) v) : ∃ a : Addr, v = .ref a /\ H a = some (.tup [.str p.1, .int p.2.1, .int p.2.2]) := by
 unfold Iv at h
 obtain ⟨a, xs, rfl, ha, r⟩ := RD.tup_of h
 obtain ⟨x1, r1, rfl, h1, r⟩ := RDs.cons_of r
 obtain ⟨x2, r2, rfl, h2, r⟩ := RDs.cons_of r
 obtain ⟨x3, r3, rfl, h3, r⟩ := RDs.cons_of r
 have := RDs.nil_of r
 subst this
 rw [RD.str_of h1, RD.int_of h2, RD.int_of h3] at ha
 exact ⟨a, rfl, ha⟩
theorem Up {H : Hp} {p : Str × Int} {v : V} (h : RD H (Ds p) v) : ∃ a : Addr, v = .ref a /\ H a = some (.tup [.str p.1, .int p.2]) := by
 unfold Ds at h
 obtain ⟨a, xs, rfl, ha, r⟩ := RD.tup_of h
 obtain ⟨x1, r1, rfl, h1, r⟩ := RDs.cons_of r
 obtain ⟨x2, r2, rfl, h2, r⟩ := RDs.cons_of r
 have := RDs.nil_of r
 subst this
 rw [RD.str_of h1, RD.int_of h2] at ha
 exact ⟨a, rfl, ha⟩
theorem jp {H : Hp} {p : Int × Int} {v : V} (h : RD H (Gv p) v) : ∃ a : Addr, v = .ref a /\ H a = some (.tup [.int p.1, .int p.2]) := by
 unfold Gv at h
 obtain ⟨a, xs, rfl, ha, r⟩ := RD.tup_of h
 obtain ⟨x1, r1, rfl, h1, r⟩ := RDs.cons_of r
 obtain ⟨x2, r2, rfl, h2, r⟩ := RDs.cons_of r
 have := RDs.nil_of r
 subst this
 rw [RD.int_of h1, RD.int_of h2] at ha
 exact ⟨a, rfl, ha⟩
theorem C4 {α : Type} {H : Hp} {f : α -> PyData} {xs : List α} {vs : List V} {i : Nat} {v : V} (h : RDs H (xs.map f) vs) (e : vs[i]? = some v) : ∃ x, xs[i]? = some x /\ RD H (f x) v := by
 obtain ⟨d, hd, r⟩ := RDs.get' h e
 rw [Zzx] at hd
 cases ex : xs[i]? with
 | none => rw [ex] at hd; cases hd
 | some x => rw [ex] at hd; cases hd; exact ⟨x, rfl, r⟩
theorem Hb {α : Type} {H : Hp} {f : α -> PyData} {xs : List α} {vs : List V} {i : Nat} {x : α} (h : RDs H (xs.map f) vs) (e : xs[i]? = some x) : ∃ v, vs[i]? = some v /\ RD H (f x) v := RDs.get h (by rw [Zzx, e]; rfl)
theorem Ax {α : Type} {H : Hp} {f : α -> PyData} {xs : List α} {vs : List V} (h : RDs H (xs.map f) vs) : vs.length = xs.length := by have := RDs.len h; rw [Zzz] at this; exact this
abbrev Gr := List (Str × List Str)
def Aw (G : Gr) : List Str := G.map (·.1)
def Mf (ks : List Str) (ps : List Str) : List Str := ps.filter λx => decide (x ∈ ks)
def Cn (ks : List Str) (e : Str × List Str) : Option (Str × List Str) := if Mf ks e.2 = [] then none else some (e.1, Mf ks e.2)
def X8 (G : Gr) : Gr := G.filterMap (Cn (Aw G))
def Mm : Nat -> Gr -> Gr
 | 0, G => G
 | n + 1, G => X8 (Mm n G)
def Fw (S : Sh) : Gr := S.wares.map λw => (w.name, w.parts.map (·.1))
theorem keys_filter {ks : List Str} : ∀ {G : Gr}, (Aw (G.filterMap (Cn ks))).Sublist (Aw G)
 | [] => .slnil
 | e :: r => by
  unfold Aw
  rw [Zwn]
  cases h : Cn ks e with
  | none => exact .cons _ (keys_filter (G := r))
  | some q =>
   have e1 : q.1 = e.1 := by
    unfold Cn at h
    split at h
    ·cases h
    ·cases h; rfl
   show (q.1 :: Aw (r.filterMap (Cn ks))).Sublist (e.1 :: Aw r)
   rw [e1]
   exact .cons₂ _ (keys_filter (G := r))
theorem Tt {G : Gr} (h : (Aw G).Nodup) : (Aw (X8 G)).Nodup := keys_filter.nodup h
theorem Ml {G : Gr} (h : (Aw G).Nodup) : ∀ n, (Aw (Mm n G)).Nodup
 | 0 => h
 | n + 1 => Tt (Ml h n)
theorem Zf (G : Gr) : (X8 G).length <= G.length := List.length_filterMap_le _ _
theorem Sb (G : Gr) : ∀ n, (Mm n G).length <= G.length
 | 0 => Zzw _
 | n + 1 => Zyz (Zf _) (Sb G n)
theorem Mn {G : Gr} {e : Str × List Str} (h : e ∈ X8 G) : ∃ ps, (e.1, ps) ∈ G /\ (∀ x ∈ e.2, x ∈ ps /\ x ∈ Aw G) /\ e.2 ≠ [] /\ e.2.length <= ps.length := by
 unfold X8 at h
 obtain ⟨q, hq, hc⟩ := Zxc.mp h
 unfold Cn at hc
 split at hc
 ·cases hc
 ·rename_i hn
  cases hc
  refine ⟨q.2, hq, λx hx => ?_, hn, Zx6 _ _⟩
  have := Zxh.mp hx
  exact ⟨this.1, of_decide_eq_true this.2⟩
theorem Gs {G : Gr} : ∀ (n : Nat) {e : Str × List Str}, e ∈ Mm n G -> ∃ ps, (e.1, ps) ∈ G /\ (∀ x ∈ e.2, x ∈ ps) /\ e.2.length <= ps.length
 | 0, e, h => ⟨e.2, h, λx hx => hx, Zzw _⟩
 | n + 1, e, h => by
  obtain ⟨ps, h1, h2, _, h3⟩ := Mn h
  obtain ⟨qs, q1, q2, q3⟩ := Gs n h1
  exact ⟨qs, q1, λx hx => q2 x (h2 x hx).1, by have h3' : e.2.length <= ps.length := h3; have q3' : ps.length <= qs.length := q3; omega⟩
def Low (G : Gr) (r : Str -> Nat) : Prop := ∀ e ∈ G, ∀ x ∈ e.2, r x < r e.1
theorem Ux {G : Gr} {r : Str -> Nat} (h : Low G r) : ∀ (n : Nat) (e : Str × List Str), e ∈ Mm n G -> n <= r e.1
 | 0, e, _ => Zyn _
 | n + 1, e, he => by
  obtain ⟨ps, h1, h2, h3, _⟩ := Mn he
  obtain ⟨qs, q1, q2, _⟩ := Gs n h1
  cases hx : e.2 with
  | nil => exact absurd hx h3
  | cons x t =>
   have hm : x ∈ e.2 := by rw [hx]; exact Zz6
   obtain ⟨m1, m2⟩ := h2 x hm
   obtain ⟨y, hy, ey⟩ := Zzl.mp m2
   have lo := Ux h n y hy
   have lt := h _ q1 x (q2 x m1)
   rw [ey] at lo
   have lt : r x < r e.1 := lt
   omega
theorem Sa {G : Gr} {r : Str -> Nat} {n : Nat} (h : Low G r) (hr : ∀ e ∈ G, r e.1 < n) : Mm n G = [] := by
 cases hc : Mm n G with
 | nil => rfl
 | cons e t =>
  have he : e ∈ Mm n G := by rw [hc]; exact Zz6
  have h1 := Ux h n e he
  obtain ⟨ps, h2, _⟩ := Gs n he
  have h3 := hr _ h2
  have h3 : r e.1 < n := h3
  omega
def PDk (H : Hp) (kvs : List (Key × V)) (G : Gr) : Prop := Paired (λ(e : Str × List Str) (kv : Key × V) => kv.1 = .inr e.1 /\ ∃ l, kv.2 = .ref l /\ H l = some (.lst (e.2.map V.str))) G kvs
theorem PDk.mono {H H' : Hp} {kvs : List (Key × V)} {G : Gr} (h : PDk H kvs G) (k : ∀ l xs, H l = some (.lst xs) -> H' l = some (.lst xs)) : PDk H' kvs G :=
 Paired.mapP h λe kv ⟨h1, l, h2, h3⟩ => ⟨h1, l, h2, k l _ h3⟩
theorem PDk.keys : ∀ {H : Hp} {kvs : List (Key × V)} {G : Gr}, PDk H kvs G -> kvs.map (·.1) = (Aw G).map Zxx
 | _, _, _, .nil => rfl
 | _, _, _, .cons r t => by
  unfold Aw
  rw [Zz4, Zz4, Zz4, r.1]
  exact congrArg _ (PDk.keys t)
theorem PDk.get : ∀ {H : Hp} {kvs : List (Key × V)} {G : Gr} {i : Nat} {e : Str × List Str}, PDk H kvs G -> G[i]? = some e -> ∃ l, kvs[i]? = some (.inr e.1, .ref l) /\ H l = some (.lst (e.2.map V.str))
 | _, _, _, _, _, .nil, h => by simp at h
 | _, (k, v) :: _, _, 0, e, .cons r _, h => by
  simp at h
  subst h
  obtain ⟨h1, l, h2, h3⟩ := r
  have h1 : k = _ := h1
  have h2 : v = _ := h2
  exact ⟨l, by rw [h1, h2]; rfl, h3⟩
 | _, _ :: _, _, i + 1, e, .cons _ t, h => by
  obtain ⟨l, q⟩ := PDk.get (i := i) (e := e) t (by simpa using h)
  exact ⟨l, by simpa using q.1, q.2⟩
theorem PDk.get' : ∀ {H : Hp} {kvs : List (Key × V)} {G : Gr} {i : Nat} {k : Key} {v : V}, PDk H kvs G -> kvs[i]? = some (k, v) -> ∃ e l, G[i]? = some e /\ k = .inr e.1 /\ v = .ref l /\ H l = some (.lst (e.2.map V.str))
 | _, _, _, _, _, _, .nil, h => by simp at h
 | _, _, e :: _, 0, k, v, .cons r _, h => by
  simp at h
  subst h
  obtain ⟨h1, l, h2, h3⟩ := r
  exact ⟨e, l, rfl, h1, h2, h3⟩
 | _, _, _ :: _, i + 1, k, v, .cons _ t, h => by
  obtain ⟨e, l, q⟩ := PDk.get' (i := i) t (by simpa using h)
  exact ⟨e, l, by simpa using q.1, q.2⟩
theorem Li {κ : Type} [DecidableEq κ] : ∀ {kvs : List (κ × V)} {i : Nat} {k : κ} {v : V}, (kvs.map (·.1)).Nodup -> kvs[i]? = some (k, v) -> Br kvs k = some v
 | [], _, _, _, _, h => by simp at h
 | p :: r, 0, k, v, hn, h => by
  simp at h
  subst h
  exact Ca rfl
 | p :: r, i + 1, k, v, hn, h => by
  have h' : r[i]? = some (k, v) := by simpa using h
  have hn' : (p.1 :: r.map (·.1)).Nodup := hn
  obtain ⟨h1, h2⟩ := Zyh.mp hn'
  have hm : k ∈ r.map (·.1) := Zzl.mpr ⟨(k, v), Zzn h', rfl⟩
  rw [Bq (λe => h1 (e ▸ hm))]
  exact Li h2 h'
theorem Xo {κ : Type} [DecidableEq κ] (kvs : List (κ × V)) (k : κ) : (Br kvs k).isSome = decide (k ∈ kvs.map (·.1)) := by
 rw [<- Du]
 induction kvs with
 | nil => rfl
 | cons p r ih =>
  rw [Zwy, ih, Zz4]
  by_cases h : p.1 = k
  ·subst h; simp
  ·have h' : ¬ k = p.1 := λe => h e.symm
   simp [h, h']
theorem Wy {xs : List Str} (h : xs.Nodup) : (xs.map (Zxx : Str -> Key)).Nodup := by
 induction xs with
 | nil => exact List.nodup_nil
 | cons x r ih =>
  obtain ⟨h1, h2⟩ := Zyh.mp h
  rw [Zz4]
  refine Zyh.mpr ⟨λm => ?_, ih h2⟩
  obtain ⟨y, hy, e⟩ := Zzl.mp m
  cases e
  exact h1 hy
theorem PDk.has {H : Hp} {kvs : List (Key × V)} {G : Gr} (h : PDk H kvs G) (x : Str) : (Br kvs (.inr x)).isSome = decide (x ∈ Aw G) := by
 rw [Xo, h.keys]
 congr 1
 apply propext
 constructor
 ·intro m
  obtain ⟨y, hy, e⟩ := Zzl.mp m
  cases e
  exact hy
 ·exact λm => Zzl.mpr ⟨x, m, rfl⟩
theorem Lw {α β : Type} {F : α -> β -> Prop} : ∀ {a c : List α} {b d : List β}, Paired F a b -> Paired F c d -> Paired F (a ++ c) (b ++ d)
 | _, _, _, _, .nil, s => s
 | _, _, _, _, .cons r t, s => .cons r (Lw t s)
theorem PDk.snoc {H : Hp} {kvs : List (Key × V)} {G : Gr} {n : Str} {l : Addr} {ps : List Str} (h : PDk H kvs G) (hn : n ∉ Aw G) (hl : H l = some (.lst (ps.map V.str))) : PDk H (Ei kvs (.inr n) (.ref l)) (G ++ [(n, ps)]) := by
 have hv : Br kvs (.inr n) = none := by
  have := h.has n
  rw [decide_eq_false hn] at this
  cases e : Br kvs (.inr n) with
  | none => rfl
  | some v => rw [e] at this; cases this
 rw [Ja _ hv]
 exact Lw h (.cons ⟨rfl, l, rfl, hl⟩ .nil)
theorem PDk.len {H : Hp} {kvs : List (Key × V)} {G : Gr} (h : PDk H kvs G) : kvs.length = G.length := (Paired.length h).symm
end NP
namespace L2
open PySem PySem.Spec PyProof.Rows
section
variable {prog : Program} {w : World} {A : Around} {E : Value -> Shared -> Prop} {s : Shared}
end
section
variable {X : Cx}
end
theorem Om {K : Zzu} : Sm 2 (Tq K 2 (Fa (Db 0) (Fa (Db 1) gNil))) := λv Z H Q h => by
 obtain ⟨a, xs, e, hq, hl, v1, r1, e1, v2, r2, e2, e3, q⟩ := h
 exact ⟨a, xs, e, hq, hl, v1, r1, e1, v2, r2, e2, e3, ⟨⟨by simp, λj hj => by rw [Zye (by omega), Zye (by omega)]⟩, q⟩⟩
theorem Ol {K : Zzu} : Sm 3 (Tq K 3 (Fa (Db 0) (Fa (Db 1) (Fa (Db 2) gNil)))) := λv Z H Q h => by
 obtain ⟨a, xs, e, hq, hl, v1, r1, e1, v2, r2, e2, v3, r3, e3, e4, q⟩ := h
 exact ⟨a, xs, e, hq, hl, v1, r1, e1, v2, r2, e2, v3, r3, e3, e4, ⟨⟨by simp, λj hj => by rw [Zye (by omega), Zye (by omega), Zye (by omega)]⟩, q⟩⟩
theorem gt3 {K : Zzu} {i j k : Nat} {p : Addr} {x y z : V} {Z : St} {H : Hp} {Q : St -> Hp -> Prop} (e : H p = some (.tup [x, y, z])) (h : Q (((Z.set i (some x)).set j (some y)).set k (some z)) H) :
  Tq K 3 (Fa (Db i) (Fa (Db j) (Fa (Db k) gNil))) (.ref p) Z H Q := ⟨p, _, rfl, SqT.of e, rfl, _, _, rfl, _, _, rfl, _, _, rfl, rfl, h⟩
theorem Zi {J : It} {n : Nat} {yl : Nat -> List V -> Prop} {ok : Hp -> Prop} {own : List Str} {cap : List Nat} {g : TG} {tt : TT} {te : TE} {Z : St} {H : Hp} {Q : VK} (G : Sl J n yl ok) (hn : n <= sizeLine) (Pv : Nat -> List V -> Hp -> Prop) (h0 : Pv 0 [] H) (hok : ∀ i acc H, i <= n -> Pv i acc H -> ok H)
  (hlen : ∀ i acc H, Pv i acc H -> acc.length <= i)
  (hs : ∀ i ys p acc H, i < n -> yl i ys -> Pv i acc H -> H p = none -> g (.ref p) (Gb own cap Z) (upd H p (.tup ys)) λσ2 H2 => tt σ2 H2 λb H3 => if b = true then te σ2 H3 λy H4 => Pv (i + 1) (acc ++ [y]) H4 else Pv (i + 1) acc H3)
  (hd : ∀ acc H, Pv n acc H -> ∀ p, H p = none -> Q (.ref p) (upd H p (.lst acc))) : NP.Sn J own cap g tt te Z H Q := by
 refine ⟨λi m acc H => m = n - i /\ i <= n /\ Pv i acc H, ⟨n, by simp, Zyn _, h0⟩, ?_⟩
 rintro i m acc H ⟨rfl, hi, p⟩
 have q := hok i acc H hi p
 have hl := hlen i acc H p
 refine ⟨by omega, ?_⟩
 by_cases hlt : i < n
 ·refine .inr ⟨G.go i H hlt q, by omega, Pv (i + 1), λacc' H' p' => ⟨n - (i + 1), by omega, rfl, hlt, p'⟩, λx H' y => ?_⟩
  obtain ⟨a, ys, e1, e2, e3, y'⟩ := G.yld i H x H' hlt q y
  subst e1 e3
  exact hs i ys a acc H hlt y' p e2
 ·have e : i = n := by omega
  subst e
  exact .inl ⟨G.stop H q, hd acc H p⟩
theorem Kd {J : It} {n : Nat} {yl : Nat -> V -> Prop} {ok : Hp -> Prop} {own : List Str} {cap : List Nat} {g : TG} {tt : TT} {te : TE} {Z : St} {H : Hp} {Q : VK} (G : Nx J n yl ok) (hn : n <= sizeLine) (Pv : Nat -> List V -> Hp -> Prop) (h0 : Pv 0 [] H) (hok : ∀ i acc H, i <= n -> Pv i acc H -> ok H)
  (hlen : ∀ i acc H, Pv i acc H -> acc.length <= i)
  (hs : ∀ i x acc H, i < n -> yl i x -> Pv i acc H -> g x (Gb own cap Z) H λσ2 H2 => tt σ2 H2 λb H3 => if b = true then te σ2 H3 λy H4 => Pv (i + 1) (acc ++ [y]) H4 else Pv (i + 1) acc H3)
  (hd : ∀ acc H, Pv n acc H -> ∀ p, H p = none -> Q (.ref p) (upd H p (.lst acc))) : NP.Sn J own cap g tt te Z H Q := Ox G hn Pv h0 hok hlen hs hd
def Ir (ns : Nat -> Int) : Nat -> Int
 | 0 => ns 0
 | k + 1 => if ns (k + 1) > Ir ns k then ns (k + 1) else Ir ns k
section
variable {prog : Program} {w : World} {A : Around} {R : Result -> Shared -> Prop} {I : Addr} {fp wr : List Addr} {n : Nat} {P : Nat -> Value -> Prop} {St : Nat -> Heap -> Prop}
theorem dj {a b : Int} {t u : Tok} {Q : Value -> Shared -> Prop} {E : Value -> Shared -> Prop} {s : Shared} (h : Q (.bool (decide (b < a))) s) : wpAny (model prog w) A (richCompare .Gt (.int a t) (.int b u)) Q E s := show wpAny _ _ (compareOp .Gt _ _) _ _ _ from gt_int h
theorem Wl (kw : List (Str × Value)) (W : Walks prog w A.in1 I fp wr n P St) (ns : Nat -> Int) (hv : ∀ i v, P i v -> ∃ t, v = .int (ns i) t) (S : Addr) (hSf : S ∉ fp) :
  ∀ (k j : Nat) (s : Shared) (t : Tok) (c : Nat), n - (j + 1) = k -> j + 1 <= n -> St (j + 1) s.heap -> s.heap.get? S = some { cls := .type "list", dict := none, data := .seq #[.int (Ir ns j) t, .int (Ir ns j) t] c, slots := #[] } ->
  (∀ t' h' tk, (∀ b o, b ∉ wr -> b ≠ S -> s.heap.get? b = some o -> h'.get? b = some o) -> R (.ok (.ret (.int (Ir ns (n - 1)) t'))) { s with heap := h', toks := tk }) ->
  codeAny (model prog w) A (.builtin "max.loop" ⟨[.ref I, .none, .ref S], kw⟩) R s := by
 have nSw : S ∉ wr := λh => hSf (W.sub _ h)
 have nm : (toString "max" ++ toString ".loop" : String) = "max.loop" := by decide
 intro k
 induction k with
 | zero =>
  intro j s t c hk hj hst hS hR
  have hin : j + 1 = n := by omega
  refine codeAny_builtin F.entry_max_loop ?_
  rw [Zxq F.plain_max_loop _]
  refine wpAny_bind (m := seqItems? (.ref S)) (wpAny_seqItems hS rfl (wpAny_bind (m := tryCatch (pyNext (.ref I)) _) (wpAny_tryCatch (W.done s _ _ (hin ▸ hst) λh' tk hk' => ?_))))
  refine wpAny_bind (m := updateSeq S (λ_ => #[])) (wpAny_updateSeq (hk' S _ nSw hS) rfl (wpAny_bind (wpAny_letGo (wpAny_pure ?_))))
  have e : n - 1 = j := by omega
  rw [e] at hR
  exact hR t _ tk λb o n1 n2 q => (Zyo _ _ (Zzf n2)).trans (hk' b o n1 q)
 | succ k ih =>
  intro j s t c hk hj hst hS hR
  have hlt : j + 1 < n := by omega
  refine codeAny_builtin F.entry_max_loop ?_
  rw [Zxq F.plain_max_loop _]
  refine wpAny_bind (m := seqItems? (.ref S)) (wpAny_seqItems hS rfl (wpAny_bind (m := tryCatch (pyNext (.ref I)) _) (wpAny_tryCatch (W.item (j + 1) s _ _ hlt hst λv h' tk hP hst' hk' => ?_))))
  obtain ⟨u, rfl⟩ := hv _ _ hP
  have hS' := hk' S _ nSw hS
  refine wpAny_bind (m := tryCatch (holding _ (richCompare .Gt _ _ >>= _)) _) (wpAny_tryCatch (wpAny_holding (wpAny_bind (dj (wpAny_bind (wpAny_holding (wpAny_truthy_bool (wpAny_bind (wpAny_letGo (wpAny_pure ?_))))))))))
  by_cases hb : Ir ns j < ns (j + 1)
  ·rw [decide_eq_true hb]
   simp only [if_true]
   refine wpAny_bind (wpAny_updateSeq hS' rfl (wpAny_bind (wpAny_letGo ?_)))
   rw [nm]
   have eb : Ir ns (j + 1) = ns (j + 1) := if_pos hb
   refine wpAny_pure ⟨plainId_quiet F.plain_max_loop _, ih (j + 1) _ u _ (by omega) hlt (W.frame _ _ _ hst' λb hbf o e => ?_) (by rw [eb]; exact Zxi _ hS' rfl) λt' h'' tk' hk2 => ?_⟩
   ·exact (Zyo _ _ (λh : S = b => hSf (by rw [h]; exact hbf))).trans e
   ·exact hR t' h'' tk' λb o n1 n2 e => hk2 b o n1 n2 ((Zyo _ _ (Zzf n2)).trans (hk' b o n1 e))
  ·rw [decide_eq_false hb]
   simp only [Bool.false_eq_true, if_false]
   refine wpAny_bind (wpAny_letGo ?_)
   rw [nm]
   have eb : Ir ns (j + 1) = Ir ns j := if_neg hb
   refine wpAny_pure ⟨plainId_quiet F.plain_max_loop _, ih (j + 1) _ t c (by omega) hlt hst' (by rw [eb]; exact hS') λt' h'' tk' hk2 => ?_⟩
   exact hR t' h'' tk' λb o n1 n2 e => hk2 b o n1 n2 (hk' b o n1 e)
theorem Tg (kw : List (Str × Value)) (W : Walks prog w A.in1 I fp wr n P St) (ns : Nat -> Int) (hv : ∀ i v, P i v -> ∃ t, v = .int (ns i) t) (S : Addr) (hSf : S ∉ fp) (hn : 0 < n) {s : Shared} {c : Nat} (hst : St 0 s.heap)
  (hS : s.heap.get? S = some { cls := .type "list", dict := none, data := .seq #[] c, slots := #[] })
  (hR : ∀ t' h' tk, (∀ b o, b ∉ wr -> b ≠ S -> s.heap.get? b = some o -> h'.get? b = some o) -> R (.ok (.ret (.int (Ir ns (n - 1)) t'))) { s with heap := h', toks := tk }) :
  codeAny (model prog w) A (.builtin "max.loop" ⟨[.ref I, .none, .ref S], kw⟩) R s := by
 have nSw : S ∉ wr := λh => hSf (W.sub _ h)
 have nm : (toString "max" ++ toString ".loop" : String) = "max.loop" := by decide
 refine codeAny_builtin F.entry_max_loop ?_
 rw [Zxq F.plain_max_loop _]
 refine wpAny_bind (m := seqItems? (.ref S)) (wpAny_seqItems hS rfl (wpAny_bind (m := tryCatch (pyNext (.ref I)) _) (wpAny_tryCatch (W.item 0 s _ _ hn hst λv h' tk hP hst' hk' => ?_))))
 obtain ⟨u, rfl⟩ := hv _ _ hP
 have hS' := hk' S _ nSw hS
 refine wpAny_bind (m := updateSeq S _) (wpAny_updateSeq hS' rfl ?_)
 rw [nm]
 refine wpAny_pure ⟨plainId_quiet F.plain_max_loop _, Wl kw W ns hv S hSf _ 0 _ u _ rfl hn (W.frame _ _ _ hst' λb hbf o e => ?_) (Zxi _ hS' rfl) λt' h'' tk' hk2 => ?_⟩
 ·exact (Zyo _ _ (λh : S = b => hSf (by rw [h]; exact hbf))).trans e
 ·exact hR t' h'' tk' λb o n1 n2 e => hk2 b o n1 n2 ((Zyo _ _ (Zzf n2)).trans (hk' b o n1 e))
theorem Wk {d : Value} (W : Walks prog w A.in1 I fp wr 0 P St) (S : Addr) (hSf : S ∉ fp) {s : Shared} {c : Nat} (hst : St 0 s.heap)
  (hS : s.heap.get? S = some { cls := .type "list", dict := none, data := .seq #[] c, slots := #[] })
  (hR : ∀ h' tk, (∀ b o, b ∉ wr -> b ≠ S -> s.heap.get? b = some o -> h'.get? b = some o) -> R (.ok (.ret d)) { s with heap := h', toks := tk }) :
  codeAny (model prog w) A (.builtin "max.loop" ⟨[.ref I, .none, .ref S], [("default", d)]⟩) R s := by
 refine codeAny_builtin F.entry_max_loop ?_
 rw [Zxq F.plain_max_loop _]
 refine wpAny_bind (m := seqItems? (.ref S)) (wpAny_seqItems hS rfl (wpAny_bind (m := tryCatch (pyNext (.ref I)) _) (wpAny_tryCatch (W.done s _ _ hst λh' tk hk' => ?_))))
 exact wpAny_bind (wpAny_rule (wpAny_pure (hR h' tk λb o n1 _ e => hk' b o n1 e)))
end
def Th (ns : List Int) : Int := Ir (λi => (ns[i]?).getD 0) (ns.length - 1)
def Ex (ns : List Int) : Int := if ns = [] then 0 else Th ns
theorem Si (f : Nat -> Int) : ∀ k, ∃ i, i <= k /\ Ir f k = f i
 | 0 => ⟨0, Zzw _, rfl⟩
 | k + 1 => by
  rw [Ir]
  split
  ·exact ⟨k + 1, Zzw _, rfl⟩
  ·obtain ⟨i, h1, h2⟩ := Si f k
   exact ⟨i, by omega, h2⟩
theorem Vg (f : Nat -> Int) : ∀ k i, i <= k -> f i <= Ir f k
 | 0, i, h => by
  have : i = 0 := by omega
  subst this
  exact Zyr _
 | k + 1, i, h => by
  rw [Ir]
  by_cases hi : i = k + 1
  ·subst hi
   split <;> omega
  ·have := Vg f k i (by omega)
   split <;> omega
theorem M6 {ns : List Int} (h : ns ≠ []) : Th ns ∈ ns := by
 have hl : 0 < ns.length := Zvv.mpr h
 obtain ⟨i, h1, h2⟩ := Si (λi => (ns[i]?).getD 0) (ns.length - 1)
 unfold Th
 rw [h2]
 have hi : i < ns.length := by omega
 simp only [Zzq hi, Zw6]
 exact Zw4 hi
theorem cz {ns : List Int} {x : Int} (h : x ∈ ns) : x <= Th ns := by
 obtain ⟨i, hi, e⟩ := Zx3.mp h
 have := Vg (λi => (ns[i]?).getD 0) (ns.length - 1) i (by omega)
 simp only [Zzq hi, Zw6, e] at this
 exact this
theorem Xh (a d : Value) : argsOk "max" ⟨[a], [(Str.ofString "default", d)]⟩ := by unfold argsOk; kernel_rfl
section
variable {X : Cx}
theorem Ys {pins : List (Addr × Obj)} {Z : St} {H : Hp} {s : Shared} {a : Addr} {ns : List Int} {Q : VK} {E : Value -> Shared -> Prop} {kw : List (Str × Value)} (hc : X.calm = true) (I : Inv X pins Z H s) (ha : H a = some (.lst (ns.map V.int))) (hn : ns ≠ []) (q : Q (.int (Th ns)) H) :
  codeAny (model X.prog X.w) X.A (.builtin "max.loop" ⟨[.ref s.heap.objs.size, .none, .ref (s.heap.objs.size + 1)], kw⟩) (λr s' => match r with | .ok (.ret v) => EP X pins Z Q v s' | .ok _ => False | .error e => E e s')
   { s with heap := (s.heap.push { cls := .type "list_iterator", data := .fields #[.ref a, .int 0 0] }).push { cls := .type "list", data := .seq #[] } } := by
 obtain ⟨its, rv, hl, hlt⟩ := Av I ha
 have hlen : its.length = ns.length := by have := rv.length; rw [Zzz] at this; exact this.symm
 have sz : (s.heap.push { cls := .type "list_iterator", data := .fields #[.ref a, .int 0 0] }).objs.size = s.heap.objs.size + 1 := Zy1 ..
 have gI : ((s.heap.push { cls := .type "list_iterator", data := .fields #[.ref a, .int 0 0] }).push { cls := .type "list", data := .seq #[] }).get? s.heap.objs.size = some { cls := .type "list_iterator", data := .fields #[.ref a, .int 0 0] } := Zzy _ (Zzm _ rfl)
 have gS : ((s.heap.push { cls := .type "list_iterator", data := .fields #[.ref a, .int 0 0] }).push { cls := .type "list", data := .seq #[] }).get? (s.heap.objs.size + 1) = some { cls := .type "list", data := .seq #[] } := by
  have := Zzm (s.heap.push { cls := .type "list_iterator", data := .fields #[.ref a, .int 0 0] }) (o := { cls := .type "list", data := .seq #[] }) rfl
  rw [sz] at this
  exact this
 have hpos : 0 < its.toArray.size := by rw [Zzp, hlen]; exact Zvv.mpr hn
 have nS : (s.heap.objs.size + 1 : Addr) ∉ [s.heap.objs.size, a] := by
  simp only [Zzk, Zz3, or_false, not_or]
  exact ⟨Zw5 _, Zxb (Zxf hlt)⟩
 refine Tg kw (Walks.list (prog := X.prog) (w := X.w) (A := X.A.in1) (I.ok.hd hc) s.heap.objs.size a (Zz0 hlt) its.toArray) (λi => (ns[i]?).getD 0) (λi v hP => Iw rv (by simpa using hP)) (s.heap.objs.size + 1) nS hpos ⟨⟨_, gI, rfl, rfl⟩, (hl.push _).push _⟩ gS λt' h' tk hk => ?_
 rw [Zzp, hlen]
 refine ⟨.int (Th ns), H, I.kept λb o e => hk b o ?_ ?_ (Zzy _ (Zzy _ e)), ⟨_, rfl⟩, q⟩
 ·simp only [Zzk, Zz3, or_false]
  exact Zz0 (Zzo e)
 ·exact Zz0 (Zxf (Zzo e))
def ft (te : TE) : TE := λZ H Q => te Z H λx H1 => ∃ a ns, x = .ref a /\ H1 a = some (.lst (ns.map V.int)) /\ Q (.int (Ex ns)) H1
theorem Ul {e : Expr} {te : TE} {p1 p2 p3 kp : Pos} {j} (hc : X.calm = true) (hg : Gl X "max") (hm : X.mg "max" = none) (he : PE X e te) (hn : Bz [e] = true := by rfl) :
  PE X (.Call (.Name "max" p1) [e] [⟨some "default", .Constant (.int 0) j p3, kp⟩] p2) (ft te) := by
 intro pins s Z H Q I h
 refine wpAny_Call_Name_kw (Fv I hg hm NP.Ql ?_ (by decide) (by decide))
 refine callWith_kw (thn ((A6 he A2 hn) p2 pins s Z H (λvs H1 => match vs with | [x] => ∃ a ns, x = .ref a /\ H1 a = some (.lst (ns.map V.int)) /\ Q (.int (Ex ns)) H1 | _ => False) I h) λus s1 ⟨vs, H1, I1, r1, hv⟩ => kws_cons (wpAny_Constant_int (kws_nil ?_))) ?_ ?_ rfl rfl
 ·match vs, hv, r1 with
  | [x], ⟨a, ns, ea, ha, q⟩, r1 =>
  subst ea
  obtain ⟨u, rfl, ru⟩ := Fn r1
  cases ru
  have I2 := I1.tok (s1.toks + 1)
  obtain ⟨its, rv, hl, hlt⟩ := Av I2 ha
  have nm : (toString "max" ++ toString ".loop" : String) = "max.loop" := by decide
  have sz : (s1.heap.push { cls := .type "list_iterator", data := .fields #[.ref a, .int 0 0] }).objs.size = s1.heap.objs.size + 1 := Zy1 ..
  refine kmk_tree F.kind_max F.plain_max F.entry_max (Xh _ _) ?_
  refine wpAny_bind (m := Zx9 "max" ["key", "default"] 0 ⟨[], [(Str.ofString "default", .int 0 s1.toks)]⟩) (wpAny_of_eq (show Zx9 "max" ["key", "default"] 0 ⟨[], [(Str.ofString "default", .int 0 s1.toks)]⟩ = pure [none, some (.int 0 s1.toks)] from rfl) (wpAny_bind (wpAny_pure (wpAny_bind (wpAny_pyIter_list hl (wpAny_bind (wpAny_newObj_type ?_)))))))
  rw [nm]
  refine wpAny_pure ⟨plainId_quiet F.plain_max_loop _, ?_⟩
  by_cases hz : ns = []
  ·subst hz
   have gI : ((s1.heap.push { cls := .type "list_iterator", data := .fields #[.ref a, .int 0 0] }).push { cls := .type "list", data := .seq #[] }).get? s1.heap.objs.size = some { cls := .type "list_iterator", data := .fields #[.ref a, .int 0 0] } := Zzy _ (Zzm _ rfl)
   have gS : ((s1.heap.push { cls := .type "list_iterator", data := .fields #[.ref a, .int 0 0] }).push { cls := .type "list", data := .seq #[] }).get? (s1.heap.push { cls := .type "list_iterator", data := .fields #[.ref a, .int 0 0] }).objs.size = some { cls := .type "list", data := .seq #[] } := Zzm _ rfl
   have e0 : its = [] := by cases rv; rfl
   subst e0
   have nS : (s1.heap.push { cls := .type "list_iterator", data := .fields #[.ref a, .int 0 0] }).objs.size ∉ [s1.heap.objs.size, a] := by
    rw [sz]
    simp only [Zzk, Zz3, or_false, not_or]
    exact ⟨Zw5 _, Zxb (Zxf hlt)⟩
   refine Wk (Walks.list (prog := X.prog) (w := X.w) (A := X.A.in1) (I.ok.hd hc) s1.heap.objs.size a (Zz0 hlt) ([] : List Value).toArray) _ nS ⟨⟨_, gI, rfl, rfl⟩, (hl.push _).push _⟩ gS λh' tk hk => ?_
   refine ⟨.int 0, H1, I1.kept λb o e => hk b o ?_ ?_ (Zzy _ (Zzy _ e)), ⟨_, rfl⟩, q⟩
   ·simp only [Zzk, Zz3, or_false]
    exact Zz0 (Zzo e)
   ·rw [sz]
    exact Zz0 (Zxf (Zzo e))
  ·have q' : Q (.int (Th ns)) H1 := by unfold Ex at q; rw [if_neg hz] at q; exact q
   have := Ys (E := X.xe) (kw := [("default", .int 0 s1.toks)]) hc I2 ha hz q'
   rw [<- sz] at this
   exact this
 ·rw [Bw hn]; rfl
 ·exact C1 hn
end
section
variable {X : Cx}
def rGetL : V -> V -> Hp -> VK -> Prop := λo i H Q => ∃ p xs k v, o = .ref p /\ i = .int k /\ H p = some (.lst xs) /\ 0 <= k /\ xs[k.toNat]? = some v /\ Q v H
theorem V2 : js X rGetL := by
 intro pins s Z H o i ov iv Q I ro ri h
 obtain ⟨p, xs, k, v, rfl, rfl, hp, h0, hv, q⟩ := h
 cases ro
 obtain ⟨t, rfl⟩ := ri
 obtain ⟨its, rv, hl, hlt⟩ := Av I hp
 obtain ⟨u, hu, ru⟩ := rv.get hv
 have hlen := rv.length
 obtain ⟨hz, _⟩ := I.hok p _ hp
 have hk : k.toNat < xs.length := (Zzj.mp hv).1
 have h63 := Hj
 exact wpAny_getItem_list hl h0 (by omega) (by simpa using hu) ⟨v, H, I, ru, q⟩
end
end L2
namespace NP
open PySem L2
def Af (n : Nat) (f : Nat -> Int) : List Int := (Zyy n).map f
theorem Al (n : Nat) (f : Nat -> Int) : (Af n f).length = n := by simp [Af]
theorem Bg {n : Nat} {f : Nat -> Int} {i : Nat} (h : i < n) : (Af n f)[i]? = some (f i) := by simp [Af, h]
theorem Cy {n : Nat} {f : Nat -> Int} {i : Nat} (h : i < n) : (Af n f).getD i 0 = f i := by rw [Zzv, Bg h]; rfl
theorem Ch {n : Nat} {f g : Nat -> Int} (h : ∀ i, i < n -> f i = g i) : Af n f = Af n g := by
 apply Zxp
 intro i
 by_cases hi : i < n
 ·rw [Bg hi, Bg hi, h i hi]
 ·rw [Zz2 (by rw [Al]; omega), Zz2 (by rw [Al]; omega)]
theorem Jx {n : Nat} {f : Nat -> Int} {j : Nat} {v : Int} : (Af n f).set j v = Af n λd => if d = j then v else f d := by
 apply Zxp
 intro i
 by_cases hi : i < n
 ·rw [Bg hi]
  by_cases hj : j = i
  ·subst hj
   rw [Zwa (by rw [Al]; exact hi), if_pos rfl]
  ·rw [Zye hj, Bg hi, if_neg (λe => hj e.symm)]
 ·rw [Zz2 (by rw [Zw0, Al]; omega), Zz2 (by rw [Al]; omega)]
theorem Fq (n : Nat) (f : Nat -> Int) : Af (n + 1) f = Af n f ++ [f n] := by
 unfold Af
 rw [Zwl, Zzg]
 rfl
theorem Sy (xs : List Int) : Af xs.length (λd => xs.getD d 0) = xs := by
 apply Zxp
 intro i
 by_cases hi : i < xs.length
 ·rw [Bg hi, Zzq hi, Zzv, Zzq hi]; rfl
 ·rw [Zz2 (by rw [Al]; omega), Zz2 (by omega)]
theorem J8 (k : Nat) : (Zyb k [V.int 0]).flatten = (Af k λ_ => 0).map V.int := by
 induction k with
 | zero => rfl
 | succ k ih =>
  rw [List.replicate_succ', List.flatten_append, ih, Fq, Zzg]
  rfl
def Cc {α : Type} (f : α -> Int) (xs : List α) : Int := (xs.map f).sum
theorem Iz {α : Type} (f : α -> Int) : Cc f [] = 0 := rfl
theorem Xz {α : Type} (f : α -> Int) (xs ys : List α) : Cc f (xs ++ ys) = Cc f xs + Cc f ys := by unfold Cc; rw [Zzg, Zxg]
theorem Xy {α : Type} (f : α -> Int) (x : α) : Cc f [x] = f x := by simp [Cc]
theorem Ht {α : Type} (f : α -> Int) (x : α) (xs : List α) : Cc f (x :: xs) = f x + Cc f xs := by simp [Cc]
theorem E7 {α : Type} (f : α -> Int) {xs : List α} {i : Nat} {x : α} (h : xs[i]? = some x) : Cc f (xs.take (i + 1)) = Cc f (xs.take i) + f x := by
 rw [Zz8, h, Xz]
 rw [show (some x).toList = [x] from rfl, Xy]
theorem Lk {α : Type} {f g : α -> Int} {xs : List α} (h : ∀ x ∈ xs, f x = g x) : Cc f xs = Cc g xs := by
 induction xs with
 | nil => rfl
 | cons x r ih => rw [Ht, Ht, h x Zz6, ih λy hy => h y (Zz7 _ hy)]
def daysN (S : Sh) : Nat := (1 + Ex (S.wants.map λu => u.2.1)).toNat
theorem Us {ns : List Int} (h : ∀ x ∈ ns, 0 <= x) : 0 <= Ex ns := by
 unfold Ex
 split
 ·exact Zyr _
 ·rename_i hn
  exact h _ (M6 hn)
theorem Uu {ns : List Int} {x : Int} (h : x ∈ ns) : x <= Ex ns := by
 unfold Ex
 rw [if_neg (List.ne_nil_of_mem h)]
 exact cz h
theorem Ut {ns : List Int} {b : Int} (hb : 0 < b) (h : ∀ x ∈ ns, x < b) : Ex ns < b := by
 unfold Ex
 split
 ·exact hb
 ·rename_i hn
  exact h _ (M6 hn)
def wAt (nm : Str) (d : Nat) (u : Wt) : Int := if u.1 = nm /\ u.2.1 = (d : Int) then u.2.2 else 0
def cAt (d : Nat) (p : Int × Int) : Int := if p.1 = (d : Int) then p.2 else 0
def bAt (lots : List Int) (lag : Int) (d : Nat) : Int := if d + lag.toNat < lots.length then lots.getD (d + lag.toNat) 0 else 0
def E3 (lots : List Int) (lag : Int) : List Int := Af lots.length (bAt lots lag)
theorem Zq (lots : List Int) (lag : Int) : lots.drop lag.toNat ++ Af (min lag.toNat lots.length) (λ_ => 0) = E3 lots lag := by
 unfold E3 bAt
 apply Zxp
 intro i
 by_cases hi : i < lots.length
 ·rw [Bg hi]
  by_cases h : i + lag.toNat < lots.length
  ·rw [if_pos h, Zy3 (by rw [Zym]; omega), Zyc, Nat.add_comm lag.toNat i, Zzq h, Zzv, Zzq h]
   rfl
  ·rw [if_neg h, Zyg (by rw [Zym]; omega), Zym, Bg (by omega)]
 ·rw [Zz2 (by rw [Zyx, Zym, Al]; omega), Zz2 (by rw [Al]; omega)]
def pAt (plan : Str -> List Int) (nm : Str) (d : Nat) (w : Wr) : Int := Cc (λp : Str × Int => if p.1 = nm then p.2 * bAt (plan w.name) w.lag d else 0) w.parts
def Ew (S : Sh) (plan : Str -> List Int) (nm : Str) (d : Nat) : Int := Cc (wAt nm d) S.wants + Cc (pAt plan nm d) S.wares
def Bb (S : Sh) (plan : Str -> List Int) (nm : Str) : List Int := Af (daysN S) (Ew S plan nm)
def Df (w : Wr) (d : Nat) : Int := (if d = 0 then w.stock else 0) + Cc (cAt d) w.coming
def Tz (S : Sh) (plan : Str -> List Int) (w : Wr) (d : Nat) : Int := Df w d + w.gives * (plan w.name).getD d 0 - Ew S plan w.name d
def upS (f : Nat -> Int) : Nat -> Int
 | 0 => 0
 | d + 1 => upS f d + f d
def Fo (S : Sh) (plan : Str -> List Int) (w : Wr) : List Int := Af (daysN S) λd => upS (Tz S plan w) (d + 1)
end NP
namespace L2
open PySem PySem.Spec PyProof.Rows
section
variable {X : Cx}
end
end L2
namespace L2
open PySem PySem.Spec PyProof.Rows PySem.W NP
def Dg (n : Nat) (key : Nat -> Int) {α : Type} : KasT α -> (α -> Prop) -> Prop
 | .ret a, Q => Q a
 | .ask i j k, Q => i < n /\ j < n /\ Dg n key (k (decide (key i < key j))) Q
theorem En {n : Nat} {key : Nat -> Int} {α β : Type} {f : α -> KasT β} {Q : β -> Prop} : ∀ {t : KasT α}, Dg n key t (λa => Dg n key (f a) Q) -> Dg n key (t.bind f) Q
 | .ret _, h => h
 | .ask _ _ _, ⟨h1, h2, h3⟩ => ⟨h1, h2, En h3⟩
theorem Dk {n : Nat} {key : Nat -> Int} {α : Type} {Q Q' : α -> Prop} (hq : ∀ a, Q a -> Q' a) : ∀ {t : KasT α}, Dg n key t Q -> Dg n key t Q'
 | .ret _, h => hq _ h
 | .ask _ _ _, ⟨h1, h2, h3⟩ => ⟨h1, h2, Dk hq h3⟩
def klt (key : Nat -> Int) (a b : Nat) : Prop := key a < key b \/ (key a = key b /\ a < b)
theorem Ws {key : Nat -> Int} {a b c : Nat} (h1 : klt key a b) (h2 : klt key b c) : klt key a c := by unfold klt at *; omega
theorem Q0 {key : Nat -> Int} {a b : Nat} (h : klt key a b) : key a <= key b := by unfold klt at h; omega
section
variable {n : Nat} {key : Nat -> Int}
abbrev pat (p : Array Nat) (k : Nat) : Nat := p.getD k 0
theorem Pk {p : Array Nat} {i j : Nat} (hj : j <= p.size) (k : Nat) : pat (kas_rev p i j) k = if i <= k /\ k < j then pat p (i + j - 1 - k) else pat p k := by
 have e := getElem?_mirror_all (i := i) hj k
 unfold pat kas_rev
 rw [Zyp, e]
 by_cases h1 : i <= k /\ k < j
 ·rw [if_pos h1, if_pos h1, Zyp]
 ·rw [if_neg h1, if_neg h1, Zyp]
theorem bu {p : Array Nat} {src d : Nat} (hs : src < p.size) (hd : d <= src) (k : Nat) : pat (bubble p src d) k = if k = src - d then pat p src else if src - d < k /\ k <= src then pat p (k - 1) else pat p k := by
 have e := getElem?_bubble hs d hd k
 unfold pat
 rw [Zyp, e]
 by_cases h1 : k = src - d
 ·rw [if_pos h1, if_pos h1, Zyp]
 ·rw [if_neg h1, if_neg h1]
  by_cases h2 : src - d < k /\ k <= src
  ·rw [if_pos h2, if_pos h2, Zyp]
  ·rw [if_neg h2, if_neg h2, Zyp]
theorem Ln (p : Array Nat) (i j : Nat) : (kas_rev p i j).size = p.size := mirror_size _ _ _ _
theorem Lo (p : Array Nat) (i j : Nat) : (kas_rev p i j).toList.Perm p.toList := Array.perm_iff_toList_perm.mp (mirror_perm _ _ _ _)
structure Srt (n : Nat) (key : Nat -> Int) (p : Array Nat) (m : Nat) : Prop where
 sz : p.size = n
 pm : p.toList.Perm (Zyy n)
 up : ∀ i j, i < j -> j < m -> klt key (pat p i) (pat p j)
 fix : ∀ k, m <= k -> k < n -> pat p k = k
 low : ∀ k, k < m -> pat p k < m
theorem Srt.lt {p : Array Nat} {m : Nat} (h : Srt n key p m) {k : Nat} (hm : m <= n) (hk : k < n) : pat p k < n := by
 by_cases z : k < m
 ·have := h.low k z; omega
 ·rw [h.fix k (by omega) hk]; exact hk
theorem U4 : ∀ (f : Nat) {p : Array Nat} {m : Nat}, Srt n key p m -> 1 <= m -> m + f = n -> Dg n key (kas_asc p f m) λm' => m <= m' /\ m' <= n /\ Srt n key p m' /\ (m' < n -> key (pat p m') < key (pat p (m' - 1)))
 | 0, p, m, h, h1, h2 => ⟨Zzw _, by omega, h, λz => by omega⟩
 | f + 1, p, m, h, h1, h2 => by
  refine ⟨h.lt (by omega) (by omega), h.lt (by omega) (by omega), ?_⟩
  show Dg n key (if decide (key (pat p m) < key (pat p (m - 1))) = true then _ else _) _
  by_cases c : key (pat p m) < key (pat p (m - 1))
  ·rw [decide_eq_true c, if_pos rfl]
   exact ⟨Zzw _, by omega, h, λ_ => c⟩
  ·rw [decide_eq_false c, if_neg (by decide)]
   have e := h.fix m (Zzw _) (by omega)
   have h' : Srt n key p (m + 1) := ⟨h.sz, h.pm, λi j hij hj => by
     by_cases z : j < m
     ·exact h.up i j hij z
     ·have ej : j = m := by omega
      subst ej
      have l1 : klt key (pat p (j - 1)) (pat p j) := by
       have := h.low (j - 1) (by omega)
       unfold klt
       rw [e] at c ⊢
       omega
      by_cases y : i = j - 1
      ·rw [y]; exact l1
      ·exact Ws (h.up i (j - 1) (by omega) (by omega)) l1, λk hk hkn => h.fix k (by omega) hkn, λk hk => by
     by_cases z : k < m
     ·have := h.low k z; omega
     ·have ek : k = m := by omega
      rw [ek, e]; omega⟩
   exact Dk (λa ⟨a1, a2, a3, a4⟩ => ⟨by omega, a2, a3, a4⟩) (U4 f h' (by omega) (by omega))
structure Fal (n : Nat) (key : Nat -> Int) (p : Array Nat) (m q : Nat) : Prop where
 sz : p.size = n
 pm : p.toList.Perm (Zyy n)
 q1 : q + 1 <= m
 m1 : m <= n
 dn : ∀ i j, i < j -> j < m - (q + 1) -> klt key (pat p j) (pat p i)
 fix : ∀ k, m - (q + 1) <= k -> k < n -> pat p k = k
 low : ∀ k, k < m - (q + 1) -> pat p k < m - (q + 1)
 cr : ∀ i, i < m - (q + 1) -> key (m - 1) < key (pat p i)
 eq : ∀ k, m - (q + 1) <= k -> k < m -> key k = key (m - 1)
structure Dwn (n : Nat) (key : Nat -> Int) (p : Array Nat) (m : Nat) : Prop where
 sz : p.size = n
 pm : p.toList.Perm (Zyy n)
 dn : ∀ i j, i < j -> j < m -> klt key (pat p j) (pat p i)
 fix : ∀ k, m <= k -> k < n -> pat p k = k
 low : ∀ k, k < m -> pat p k < m
 last : ∀ i, i < m -> key (m - 1) <= key (pat p i)
theorem Fal.turn {p : Array Nat} {m q : Nat} (h : Fal n key p m q) : Dwn n key (kas_rev p (m - (q + 1)) m) m := by
 have hm := h.m1
 have h1 := h.q1
 have pr := λk => Pk (p := p) (i := m - (q + 1)) (j := m) (by rw [h.sz]; exact hm) k
 refine ⟨by rw [Ln, h.sz], (Lo _ _ _).trans h.pm, λi j hij hj => ?_, λk hk hkn => ?_, λk hk => ?_, λi hi => ?_⟩
 ·have vi1 : m - (q + 1) <= i -> pat (kas_rev p (m - (q + 1)) m) i = m - (q + 1) + m - 1 - i := λa => by rw [pr i, if_pos ⟨a, by omega⟩]; exact h.fix _ (by omega) (by omega)
  have vi2 : ¬ m - (q + 1) <= i -> pat (kas_rev p (m - (q + 1)) m) i = pat p i := λa => by rw [pr i, if_neg (λz => a z.1)]
  have vj1 : m - (q + 1) <= j -> pat (kas_rev p (m - (q + 1)) m) j = m - (q + 1) + m - 1 - j := λa => by rw [pr j, if_pos ⟨a, hj⟩]; exact h.fix _ (by omega) (by omega)
  have vj2 : ¬ m - (q + 1) <= j -> pat (kas_rev p (m - (q + 1)) m) j = pat p j := λa => by rw [pr j, if_neg (λz => a z.1)]
  by_cases a : m - (q + 1) <= i
  ·rw [vi1 a, vj1 (by omega)]
   have e1 := h.eq (m - (q + 1) + m - 1 - i) (by omega) (by omega)
   have e2 := h.eq (m - (q + 1) + m - 1 - j) (by omega) (by omega)
   unfold klt
   omega
  ·rw [vi2 a]
   by_cases b : m - (q + 1) <= j
   ·rw [vj1 b]
    have e2 := h.eq (m - (q + 1) + m - 1 - j) (by omega) (by omega)
    have e3 := h.cr i (by omega)
    unfold klt
    omega
   ·rw [vj2 b]
    exact h.dn i j hij (by omega)
 ·rw [pr k, if_neg (by omega)]
  exact h.fix k (by omega) hkn
 ·rw [pr k]
  split
  ·rw [h.fix _ (by omega) (by omega)]; omega
  ·have := h.low k (by omega); omega
 ·rw [pr i]
  split
  ·rw [h.fix _ (by omega) (by omega)]
   have := h.eq (m - (q + 1) + m - 1 - i) (by omega) (by omega)
   omega
  ·have := h.cr i (by omega); omega
theorem Fal.one {p : Array Nat} {m : Nat} (h : Fal n key p m 0) : Dwn n key p m := by
 have hm := h.m1
 have h1 := h.q1
 have e := h.fix (m - 1) (by omega) (by omega)
 refine ⟨h.sz, h.pm, λi j hij hj => ?_, λk hk hkn => h.fix k (by omega) hkn, λk hk => ?_, λi hi => ?_⟩
 ·by_cases z : j = m - 1
  ·rw [z, e]
   have := h.cr i (by omega)
   exact .inl this
  ·exact h.dn i j hij (by omega)
 ·by_cases z : k = m - 1
  ·rw [z, e]; omega
  ·have := h.low k (by omega); omega
 ·by_cases z : i = m - 1
  ·rw [z, e]; exact Zyr _
  ·have := h.cr i (by omega); omega
theorem Dwn.next {p : Array Nat} {m : Nat} (h : Dwn n key p m) (h1 : 1 <= m) (hm : m < n) (c : key m < key (m - 1)) : Fal n key p (m + 1) 0 :=
 ⟨h.sz, h.pm, by omega, by omega, λi j hij hj => h.dn i j hij (by omega), λk hk hkn => h.fix k (by omega) hkn, λk hk => by have := h.low k (by omega); omega, λi hi => by
  have := h.last i (by omega)
  show key m < _
  omega, λk hk hk2 => by
  have : k = m := by omega
  subst this
  rfl⟩
theorem La : ∀ (f : Nat) {p : Array Nat} {m q : Nat}, Fal n key p m q -> m + f = n -> Dg n key (kas_desc f p m q) λr => Fal n key r.1 r.2.1 r.2.2
 | 0, p, m, q, h, _ => h
 | f + 1, p, m, q, h, hf => by
  have h1 := h.q1
  have e1 := h.fix m (by omega) (by omega)
  have e2 := h.fix (m - 1) (by omega) (by omega)
  refine ⟨by show pat p m < n; omega, by show pat p (m - 1) < n; omega, ?_⟩
  show Dg n key (if decide (key (pat p m) < key (pat p (m - 1))) = true then _ else _) _
  rw [e1, e2]
  by_cases c : key m < key (m - 1)
  ·rw [decide_eq_true c, if_pos rfl]
   by_cases hq : q > 0
   ·rw [if_pos hq]
    exact La f (h.turn.next (by omega) (by omega) c) (by omega)
   ·rw [if_neg hq]
    have q0 : q = 0 := by omega
    subst q0
    exact La f (h.one.next (by omega) (by omega) c) (by omega)
  ·rw [decide_eq_false c, if_neg (by decide)]
   refine ⟨by show pat p (m - 1) < n; omega, by show pat p m < n; omega, ?_⟩
   show Dg n key (if decide (key (pat p (m - 1)) < key (pat p m)) = true then _ else _) _
   rw [e1, e2]
   by_cases d : key (m - 1) < key m
   ·rw [decide_eq_true d, if_pos rfl]
    exact h
   ·rw [decide_eq_false d, if_neg (by decide)]
    have ek : key m = key (m - 1) := by omega
    refine La f ⟨h.sz, h.pm, by omega, by omega, λi j hij hj => h.dn i j hij (by omega), λk hk hkn => h.fix k (by omega) hkn, λk hk => by have := h.low k (by omega); omega, λi hi => by have := h.cr i (by omega); show key m < _; omega, λk hk hk2 => ?_⟩ (by omega)
    show key k = key m
    by_cases z : k = m
    ·rw [z]
    ·rw [ek]; exact h.eq k (by omega) (by omega)
theorem Uf {p : Array Nat} {m : Nat} (h : Dwn n key p m) (h1 : 1 <= m) (hm : m <= n) : Dg n key (kas_tail3 m n p) λr => 1 <= r.1 /\ r.1 <= n /\ Srt n key r.2 r.1 := by
 have pr := λk => Pk (p := p) (i := 0) (j := m) (by rw [h.sz]; exact hm) k
 have hs : Srt n key (kas_rev p 0 m) m := by
  refine ⟨by rw [Ln, h.sz], (Lo _ _ _).trans h.pm, λi j hij hj => ?_, λk hk hkn => ?_, λk hk => ?_⟩
  ·rw [pr i, pr j, if_pos ⟨by omega, by omega⟩, if_pos ⟨by omega, by omega⟩]
   exact h.dn _ _ (by omega) (by omega)
  ·rw [pr k, if_neg (by omega)]
   exact h.fix k hk hkn
  ·rw [pr k, if_pos ⟨by omega, hk⟩]
   exact h.low _ (by omega)
 exact En (Dk (λa ⟨a1, a2, a3, _⟩ => ⟨by show 1 <= a; omega, a2, a3⟩) (U4 (n - m) hs h1 (by omega)))
theorem Uo {p : Array Nat} {m : Nat} (h : Fal n key p (m + 1) 0) : Dg n key (kas_descPart m n p) λr => 1 <= r.1 /\ r.1 <= n /\ Srt n key r.2 r.1 := by
 have := h.m1
 refine En (Dk (λr hr => ?_) (La (n - (m + 1)) h (by omega)))
 have r1 := hr.q1
 have r2 := hr.m1
 by_cases z : r.2.2 > 0
 ·rw [if_pos z]
  exact Uf hr.turn (by omega) r2
 ·rw [if_neg z]
  have q0 : r.2.2 = 0 := by omega
  rw [q0] at hr
  exact Uf hr.one (by omega) r2
theorem B9 {k : Nat} (h : k < n) : pat (Zyi (Zyy n)) k = k := by
 unfold pat
 rw [Zyp]
 simp [h]
theorem Zh (h2 : 2 <= n) : Dg n key (kas_count n (Zyi (Zyy n))) λr => 1 <= r.1 /\ r.1 <= n /\ Srt n key r.2 r.1 := by
 have s0 : Srt n key (Zyi (Zyy n)) 1 := ⟨by simp, by simp, λi j hij hj => by omega, λk _ hk => B9 hk, λk hk => by rw [B9 (by omega)]; exact hk⟩
 refine En (Dk (λm hm => ?_) (U4 (n - 1) s0 (Zzw _) (by omega)))
 obtain ⟨a1, a2, a3, a4⟩ := hm
 by_cases z : m = n
 ·rw [if_pos (by rw [z]; simp)]
  exact ⟨a1, a2, a3⟩
 ·rw [if_neg (by simpa using z)]
  have c := a4 (by omega)
  rw [B9 (by omega), B9 (by omega)] at c
  by_cases y : m > 1
  ·rw [if_pos y]
   have g0 : pat (Zyi (Zyy n)) 0 = 0 := B9 (by omega)
   have g1 : pat (Zyi (Zyy n)) (m - 1) = m - 1 := B9 (by omega)
   refine ⟨by show pat (Zyi (Zyy n)) 0 < n; omega, by show pat (Zyi (Zyy n)) (m - 1) < n; omega, ?_⟩
   show Dg n key (if decide (key (pat (Zyi (Zyy n)) 0) < key (pat (Zyi (Zyy n)) (m - 1))) = true then _ else _) _
   rw [g0, g1]
   by_cases d : key 0 < key (m - 1)
   ·rw [decide_eq_true d, if_pos rfl]
    exact ⟨a1, a2, a3⟩
   ·rw [decide_eq_false d, if_neg (by decide)]
    have up : ∀ i, i < m -> key 0 <= key i /\ key i <= key (m - 1) := λi hi => by
     constructor
     ·by_cases w : i = 0
      ·rw [w]; exact Zyr _
      ·have := Q0 (a3.up 0 i (by omega) hi)
       rw [B9 (by omega), B9 (by omega)] at this
       exact this
     ·by_cases w : i = m - 1
      ·rw [w]; exact Zyr _
      ·have := Q0 (a3.up i (m - 1) (by omega) (by omega))
       rw [B9 (by omega), B9 (by omega)] at this
       exact this
    have al : ∀ i, i < m -> key i = key (m - 1) := λi hi => by have := up i hi; omega
    have pr := λk => Pk (p := Zyi (Zyy n)) (i := 0) (j := m) (by simp; omega) k
    have dw : Dwn n key (kas_rev (Zyi (Zyy n)) 0 m) m := by
     refine ⟨by rw [Ln]; simp, (Lo _ _ _).trans (by simp), λi j hij hj => ?_, λk hk hkn => ?_, λk hk => ?_, λi hi => ?_⟩
     ·rw [pr i, pr j, if_pos ⟨by omega, by omega⟩, if_pos ⟨by omega, by omega⟩, B9 (by omega), B9 (by omega)]
      have e1 := al (0 + m - 1 - i) (by omega)
      have e2 := al (0 + m - 1 - j) (by omega)
      unfold klt
      omega
     ·rw [pr k, if_neg (by omega), B9 hkn]
     ·rw [pr k, if_pos ⟨by omega, hk⟩, B9 (by omega)]; omega
     ·rw [pr i, if_pos ⟨by omega, hi⟩, B9 (by omega)]
      have := al (0 + m - 1 - i) (by omega)
      omega
    exact Uo (dw.next (by omega) (by omega) c)
  ·rw [if_neg y]
   have m1 : m = 1 := by omega
   subst m1
   have dw : Dwn n key (Zyi (Zyy n)) 1 := ⟨by simp, by simp, λi j hij hj => by omega, λk _ hk => B9 hk, λk hk => by rw [B9 (by omega)]; exact hk, λi hi => by
    rw [B9 (by omega)]
    have : i = 0 := by omega
    rw [this]
    exact Zyr _⟩
   exact Uo (dw.next (by omega) (by omega) c)
theorem Lv {p : Array Nat} {k : Nat} (h : Srt n key p k) (hk : k < n) : ∀ (f l r : Nat), l <= r -> r <= k -> r - l <= f -> (∀ i, i < l -> key (pat p i) <= key k) -> (∀ i, r <= i -> i < k -> key k < key (pat p i)) -> Dg n key (kas_place p k f l r) λl' => l' <= k /\ (∀ i, i < l' -> key (pat p i) <= key k) /\ ∀ i, l' <= i -> i < k -> key k < key (pat p i)
 | 0, l, r, h1, h2, h3, h4, h5 => ⟨by omega, h4, λi hi => h5 i (by omega)⟩
 | f + 1, l, r, h1, h2, h3, h4, h5 => by
  show Dg n key (if l ≥ r then _ else _) _
  by_cases z : l ≥ r
  ·rw [if_pos z]
   exact ⟨by omega, h4, λi hi => h5 i (by omega)⟩
  ·rw [if_neg z]
   have e := h.fix k (Zzw _) hk
   refine ⟨by show pat p k < n; omega, by have := h.low ((l + r) / 2) (by omega); show pat p ((l + r) / 2) < n; omega, ?_⟩
   show Dg n key (if decide (key (pat p k) < key (pat p ((l + r) / 2))) = true then _ else _) _
   rw [e]
   have mono : ∀ i j, i <= j -> j < k -> key (pat p i) <= key (pat p j) := λi j hij hj => by
    by_cases y : i = j
    ·rw [y]; exact Zyr _
    ·exact Q0 (h.up i j (by omega) hj)
   by_cases c : key k < key (pat p ((l + r) / 2))
   ·rw [decide_eq_true c, if_pos rfl]
    exact Lv h hk f l ((l + r) / 2) (by omega) (by omega) (by omega) h4 λi hi hik => by have := mono _ i hi hik; omega
   ·rw [decide_eq_false c, if_neg (by decide)]
    exact Lv h hk f ((l + r) / 2 + 1) r (by omega) h2 (by omega) (λi hi => by have := mono i ((l + r) / 2) (by omega) (by omega); omega) h5
theorem Zp : ∀ (f : Nat) {p : Array Nat} {k : Nat}, Srt n key p k -> k + f = n -> Dg n key (kas_bin f p k) λp' => Srt n key p' n
 | 0, p, k, h, hf => by
  have : k = n := by omega
  subst this
  exact h
 | f + 1, p, k, h, hf => by
  refine En (Dk (λl hl => ?_) (Lv h (by omega) k 0 k (Zyn _) (Zzw _) (by omega) (λi hi => by omega) (λi hi hik => by omega)))
  obtain ⟨l1, l2, l3⟩ := hl
  have hs := h.sz
  have pb := λi => bu (p := p) (src := k) (d := k - l) (by omega) (by omega) i
  have ed : k - (k - l) = l := by omega
  rw [ed] at pb
  have ek := h.fix k (Zzw _) (by omega)
  refine Zp f ⟨by rw [bubble_size, hs], (Array.perm_iff_toList_perm.mp (bubble_perm _ _ _)).trans h.pm, λi j hij hj => ?_, λi hi hin => ?_, λi hi => ?_⟩ (by omega)
  ·rw [pb i, pb j]
   by_cases a : i = l
   ·rw [if_pos a, if_neg (by omega), if_pos ⟨by omega, by omega⟩, ek]
    have := l3 (j - 1) (by omega) (by omega)
    exact .inl this
   ·rw [if_neg a]
    by_cases b : j = l
    ·rw [if_pos b, if_neg (by omega), ek]
     have h1 := l2 i (by omega)
     have h2 := h.low i (by omega)
     unfold klt
     omega
    ·rw [if_neg b]
     by_cases c : l < i
     ·rw [if_pos ⟨c, by omega⟩, if_pos ⟨by omega, by omega⟩]
      exact h.up (i - 1) (j - 1) (by omega) (by omega)
     ·rw [if_neg (λz => c z.1)]
      by_cases d : l < j
      ·rw [if_pos ⟨d, by omega⟩]
       exact h.up i (j - 1) (by omega) (by omega)
      ·rw [if_neg (λz => d z.1)]
       exact h.up i j hij (by omega)
  ·rw [pb i, if_neg (by omega), if_neg (by omega)]
   exact h.fix i (by omega) hin
  ·rw [pb i]
   split
   ·rw [ek]; omega
   ·split
    ·have := h.low (i - 1) (by omega); omega
    ·have := h.low i (by omega); omega
theorem az (h2 : 2 <= n) : Dg n key (kas_sort n) λp => Srt n key p n := by
 refine En (Dk (λr hr => ?_) (Zh h2))
 obtain ⟨r1, r2, r3⟩ := hr
 by_cases z : r.1 < n
 ·rw [if_pos z]
  have e : max r.1 1 = r.1 := by omega
  rw [e]
  exact Zp _ r3 (by omega)
 ·rw [if_neg z]
  have e : r.1 = n := by omega
  rw [e] at r3
  exact r3
end
theorem Rx {n : Nat} {key : Nat -> Int} {α : Type} {cmp : Nat -> Nat -> (Bool -> Shared -> Prop) -> Shared -> Prop} {Qp : α -> Prop} {Q : α -> Shared -> Prop} {s : Shared} (hc : ∀ i j (C : Bool -> Shared -> Prop), i < n -> j < n -> C (decide (key i < key j)) s -> cmp i j C s) (hq : ∀ a, Qp a -> Q a s) : ∀ {t : KasT α}, Dg n key t Qp -> t.kasWp cmp Q s
 | .ret _, h => hq _ h
 | .ask i j k, ⟨h1, h2, h3⟩ => hc i j _ h1 h2 (Rx hc hq h3)
def P6 (kz : Str -> Int) (xs ys : List Str) : Prop := ys.Perm xs /\ ys.Pairwise λa b => kz a <= kz b
def P5 (kz : Str -> Int) (xs ys : List Str) : Prop := ∃ ps : List Nat, ps.Perm (Zyy xs.length) /\ ys = ps.map (λi => xs.getD i "") /\ ps.Pairwise (klt λi => kz (xs.getD i ""))
theorem Lq (xs : List Str) : (Zyy xs.length).map (λi => xs.getD i "") = xs := by
 apply Zxp
 intro i
 by_cases hi : i < xs.length
 ·rw [Zzx, List.getElem?_range hi, Zzq hi]
  simp [Zzv, hi]
 ·rw [Zz2 (by simp; omega), Zz2 (by omega)]
theorem Jv {kz : Str -> Int} {xs ys : List Str} (h : P5 kz xs ys) : P6 kz xs ys := by
 obtain ⟨ps, h1, rfl, h2⟩ := h
 refine ⟨?_, ?_⟩
 ·have := h1.map (λi => xs.getD i "")
  rw [Lq] at this
  exact this
 ·rw [List.pairwise_map]
  exact h2.imp λ{a b} hab => Q0 hab
theorem Sx {kz : Str -> Int} {xs ys : List Str} (h : ys.Perm xs) (hl : xs.length < 2) : P5 kz xs ys := by
 refine ⟨Zyy xs.length, List.Perm.refl _, ?_, ?_⟩
 ·rw [Lq]
  match xs, hl with
  | [], _ => exact List.perm_nil.mp h
  | [x], _ => exact List.perm_singleton.mp h
 ·rw [Zx2]
  intro i j hi hj hij
  rw [Zwb] at hi hj
  omega
theorem ij {n : Nat} {key : Nat -> Int} {p : Array Nat} (h : Srt n key p n) : p.toList.Pairwise (klt key) := by
 rw [Zx2]
 intro i j hi hj hij
 rw [Zwm, h.sz] at hi hj
 have := h.up i j hij hj
 unfold pat at this
 rw [Zyp, Zyp, Zyd (by rw [h.sz]; exact hi), Zyd (by rw [h.sz]; exact hj)] at this
 simpa using this
theorem cq {P : Program} {w : World} {H : Hp} {h : Heap} {a : Addr} {o : HO} (x : ObjOk P w H h a o) : ∃ ob, h.get? a = some ob := by
 cases o with
 | lst xs => obtain ⟨_, _, _, _, e⟩ := x; exact ⟨_, e⟩
 | tup xs => obtain ⟨_, _, _, o, e, _⟩ := x; exact ⟨_, e⟩
 | dK kvs => obtain ⟨_, _, _, _, o, _, _, e, _⟩ := x; exact ⟨_, e⟩
 | dT kvs => obtain ⟨_, _, _, _, o, _, _, e, _⟩ := x; exact ⟨_, e⟩
 | set S n => obtain ⟨o, _, _, _, e, _⟩ := x; exact ⟨_, e⟩
 | ins C dx fs => obtain ⟨_, _, _, e, _⟩ := x; exact ⟨_, e⟩
 | own y => exact x
 | xd fs => obtain ⟨_, ⟨_, _, _, e, _⟩, _⟩ := x; exact ⟨_, e⟩
 | rng lo hi => obtain ⟨_, _, _, e⟩ := x; exact ⟨_, e⟩
 | frz o u => obtain ⟨e, _⟩ := x; exact ⟨_, e⟩
 | tbl ps => exact ⟨_, x⟩
 | met f y => exact ⟨_, x⟩
 | ext φ => obtain ⟨_, e, _⟩ := x; exact e
def So (c : Addr) (q : Str) : HO := .ext λh => h.CodeRec (.ref c) q
theorem Zj {P : Program} {w : World} {H : Hp} {h : Heap} {c : Addr} {q : Str} (x : h.CodeRec (.ref c) q) : ObjOk P w H h c (So c q) := by
 obtain ⟨c', o, vs, t, e, ho, r⟩ := id x
 cases e
 refine ⟨x, ⟨o, ho⟩, λh1 h2 y k => ?_⟩
 obtain ⟨c2, o2, vs2, t2, e2, g2, r2⟩ := y
 cases e2
 exact ⟨c, o2, vs2, t2, rfl, k _ g2, r2⟩
theorem Se {P : Program} {w : World} {H : Hp} {h : Heap} {c : Addr} {q : Str} (ok : HOk P w H h) (e : H c = some (So c q)) : h.CodeRec (.ref c) q := (ok c _ e).1
def TblAt (H : Hp) (P : Addr) (pos : Pos) (q : Str) : Prop := H P = some (.tbl #[]) \/ ∃ c, H P = some (.tbl #[rawInt pos.line, rawInt pos.col, .ref c]) /\ H c = some (So c q)
theorem TblAt.same {H H' : Hp} {P : Addr} {pos : Pos} {q : Str} (t : TblAt H P pos q) (s : Same H H') : TblAt H' P pos q := t.elim (λe => .inl (s _ _ e)) (λ⟨c, e, e2⟩ => .inr ⟨c, s _ _ e, s _ _ e2⟩)
def B1 (mg : Str -> Option Value) (base : Heap) : Prop := ∃ bm ob, mg "__builtins__" = some (.ref bm) /\ bm ≠ builtinsNs /\ bm ≠ mainGlobals /\ base.get? bm = some ob /\ ob.cls = .type "module" /\ ob.dict = some builtinsNs /\ ob.data = .plain
section
variable {X : Cx} {pins : List (Addr × Obj)} {Z : St} {H : Hp} {s : Shared}
theorem Rv {P c : Addr} {params : Arguments} {body : Expr} {scope : Scope} {pos : Pos} {clos : List (Str × Addr)} {Q : Value -> Shared -> Prop}
  (I : Inv X pins Z H s) (hcd : X.env.code = .ref c) (hC : codeHdIn X.K c P = true) (hB : B1 X.mg X.base) (t : TblAt H P pos (X.env.qual ++ "<lambda>")) (hdef : defaultsOf params X.env = ([], [])) (hcl : closureFor scope X.env = pure clos)
  (h : ∀ f c' ctv H' s', Inv X pins Z H' s' -> s'.heap.get? f = some (kla_obj "<lambda>" (X.env.qual ++ "<lambda>") params body scope clos ((X.mg "__name__").getD .none) c' ctv) -> H' f = none -> H' c' = some (So c' (X.env.qual ++ "<lambda>")) -> TblAt H' P pos (X.env.qual ++ "<lambda>") -> But P H H' -> Q (.ref f) s') :
  wpAny (model X.prog X.w) X.A (eval (.Lambda params body scope pos) X.env) Q X.xe s := by
 refine kla_eval hdef ?_
 have hHP : ∃ u, H P = some u := t.elim (λe => ⟨_, e⟩) (λ⟨c, e, _⟩ => ⟨_, e⟩)
 obtain ⟨u, hu⟩ := hHP
 have neP : ∀ b o, X.base.get? b = some o -> b ≠ P := λb o e z => by rw [z] at e; rw [(I.bs P o e).2] at hu; cases hu
 have C : CodeHd s.heap c P := codeHd_of_K I.kIn hC
 have hg : s.heap.Ns mainGlobals X.mg := I.ok.mod.glob.keeps I.bk
 have hgP : mainGlobals ≠ P := by obtain ⟨o, es, ep, e, _⟩ := I.ok.mod.glob; exact neP _ _ e
 have hb : s.heap.BuiltinsAt X.mg P := by
  obtain ⟨bm, ob, b1, b2, b3, b4, b5⟩ := hB
  exact ⟨bm, ob, b1, b2, b3, neP _ _ b4, I.bk _ _ b4, b5⟩
 rcases t with e | ⟨c', e, ec⟩
 ·have hP : s.heap.get? P = some (tabObj #[]) := I.hok P _ e
  refine kla_makeFunction (ps := #[]) hcl I.ok.glob hg hcd C hP trivial rfl hgP hb λc' ctv h' tk hx hge hlt hrec htb => ?_
  have hc0 : H c' = none := I.hok.fresh hge
  have cP : c' ≠ P := λz => by rw [z, hu] at hc0; cases hc0
  have k : ∀ b o, b ≠ P -> s.heap.get? b = some o -> (h'.push (kla_obj "<lambda>" (X.env.qual ++ "<lambda>") params body scope clos ((X.mg "__name__").getD .none) c' ctv)).get? b = some o := λb o nb eb => Zzy _ (hx b o nb eb)
  have hsz : s.heap.objs.size <= h'.objs.size := by omega
  have hf : H h'.objs.size = none := I.hok.fresh hsz
  have cf : h'.objs.size ≠ c' := Zxb hlt
  have fP : h'.objs.size ≠ P := λz => by rw [z, hu] at hf; cases hf
  refine h h'.objs.size c' ctv (upd (upd H P (.tbl #[rawInt pos.line, rawInt pos.col, .ref c'])) c' (So c' (X.env.qual ++ "<lambda>"))) _ (I.un (t' := tk) ⟨λb o eb n _ _ => k b o (λz => by rw [z, hu] at n; cases n) eb, λb o eb n _ _ => ⟨o.slots, k b o (λz => by rw [z, hu] at n; cases n) eb⟩, λb o eb n _ => ?_, λb o eb _ => ?_, λb xs eb => ?_, λb o u' eb => ?_, λb ps eb => ?_⟩ λb v eb => ?_) (Zzm _ rfl) ?_ A0 ?_ ?_
  ·rw [A3 (Zz0 (Zzi (Zzo eb) hge)), A3 (λz => by rw [z, hu] at n; cases n)]
   exact n
  ·by_cases z : b = P
   ·rw [z]
    exact ⟨_, Zzy _ htb⟩
   ·exact ⟨o, k b o z eb⟩
  ·rw [A3 (A5 eb hc0), A3 (λz => by rw [z, e] at eb; cases eb)]
   exact eb
  ·rw [A3 (A5 eb hc0), A3 (λz => by rw [z, e] at eb; cases eb)]
   exact eb
  ·by_cases z : b = P
   ·subst z
    rw [e] at eb
    cases eb
    exact ⟨#[rawInt pos.line, rawInt pos.col, .ref c'], by rw [A3 (Zzf cP), A0]; simp⟩
   ·exact ⟨#[], by rw [A3 (A5 eb hc0), A3 z, eb]; simp⟩
  ·by_cases z : b = c'
   ·subst z
    rw [A0] at eb
    cases eb
    exact Zj (hrec.push _)
   ·rw [A3 z] at eb
    by_cases z2 : b = P
    ·subst z2
     rw [A0] at eb
     cases eb
     exact Zzy _ htb
    ·rw [A3 z2] at eb
     refine (I.hok b v eb).stay (λb' u' hb' q => k b' u' (λz3 => ?_) q) (λb' q => ?_) λb' xs q => ?_
     ·rcases hb' with r | r
      ·exact z2 (r.symm.trans z3)
      ·rw [z3, e] at r; cases r
     ·rw [A3 (A5 q hc0), A3 (λz3 => by rw [z3, e] at q; cases q)]; exact q
     ·rw [A3 (A5 q hc0), A3 (λz3 => by rw [z3, e] at q; cases q)]; exact q
  ·rw [A3 cf, A3 fP]
   exact hf
  ·exact .inr ⟨c', by rw [A3 (Zzf cP), A0], A0⟩
  ·exact λb o nb eb => by rw [A3 (A5 eb hc0), A3 nb]; exact eb
 ·have hP : s.heap.get? P = some (tabObj #[rawInt pos.line, rawInt pos.col, .ref c']) := I.hok P _ e
  refine kla_makeFunctionHit (cv := .ref c') hcl I.ok.glob hg hcd C hP trivial (by simp [codeAmong, rawInt]) hb λctv h' tk hk hsz => ?_
  have k : ∀ b o, s.heap.get? b = some o -> (h'.push (kla_obj "<lambda>" (X.env.qual ++ "<lambda>") params body scope clos ((X.mg "__name__").getD .none) c' ctv)).get? b = some o := λb o eb => Zzy _ (hk b o eb)
  exact h h'.objs.size c' ctv H _ (I.kept (t' := tk) k) (Zzm _ rfl) (I.hok.fresh hsz) ec (.inr ⟨c', e, ec⟩) (But.refl _ _)
end
section
variable {prog : Program} {w : World} {A : Around} {s : Shared}
theorem d5 {f c' d cc : Addr} {q nm lv x : Str} {params : Arguments} {scope : Scope} {p1 p2 p3 : Pos} {pm ctv : Value} {k : Int} {t t0 : Tok} {vs : List (Key × Value)}
  (hf : s.heap.get? f = some (kla_obj "<lambda>" q params (.Subscript (.Name lv p1) (.Name nm p2) p3) scope [(lv, cc)] pm c' ctv)) (hrec : s.heap.CodeRec (.ref c') q) (hcell : s.heap.IsCell cc (some (.ref d))) (hd : s.heap.DictOf (Ay prog w) d vs) (hv : valueAt vs (.inr x) = some (.int k t))
  (hroom : A.depth < recursionLimit) (hlim : s.heap.NoLimit) (hsc : scope.kind = .function /\ scope.isCoroutine = false /\ scope.isGenerator = false /\ scope.names.lookup nm = some .local /\ scope.names.lookup lv = some .free /\ ∀ x ∈ scope.names, x.2 ≠ .cell)
  (hbind : bindArgs (kla_fn "<lambda>" q params (.Subscript (.Name lv p1) (.Name nm p2) p3) scope [(lv, cc)] pm (.ref c') ctv) ⟨[.str x t0], []⟩ = pure [(nm, .str x t0)]) (hn1 : (nm == ("__debug__" : Str)) = false := by decide) (hn2 : (lv == ("__debug__" : Str)) = false := by decide) (hn3 : (lv == ("__classdict__" : Str)) = false := by decide) :
  wpAny (model prog w) A (call (.ref f) [.str x t0]) (λv s' => ∃ h' tk t', s' = { s with heap := h', toks := tk } /\ v = .int k t' /\ ∀ b o, s.heap.get? b = some o -> h'.get? b = some o) (λ_ _ => False) s := by
 obtain ⟨k1, k2, k3, k4, k5, k6⟩ := hsc
 refine wpAny_call (kla_callFunE hroom hf rfl k2 k3 rfl hrec ?_)
 rw [hbind]
 refine wpAny_pure (wpAny_newFunctionEnv k6 (λy hy => ?_) (λh₁ hns hsb => ?_) k1)
 ·rw [Zzb.mp hy]
  exact k4
 have hk : ∀ b o, s.heap.get? b = some o -> h₁.get? b = some o := λb o e => hsb.extBut b o (Zz0 (Zzo e)) (Zzy _ e)
 refine ⟨hlim.fresh _ hsb, kla_codeExpr ?_⟩
 have hd1 : h₁.DictOf (Ay prog w) d vs := by
  obtain ⟨o, es, ep, ho, r⟩ := hd
  exact ⟨o, es, ep, hk _ _ ho, r⟩
 have hc1 : h₁.IsCell cc (some (.ref d)) := by
  obtain ⟨o, ho, r⟩ := hcell
  exact ⟨o, hk _ _ ho, r⟩
 refine wpAny_Subscript_Name (T := "dict") F.slot_dict_getitem.lookup (wpAny_Name (wpAny_loadName_free k1 k5 (c := cc) (by simp [newEnv]) hc1 (wpAny_Name (wpAny_loadName_local k1 k4 hns (v := .str x t0) (by simp) ⟨hd1.typeIs, ?_⟩) hn1) hn3) hn2)
 refine wpAny_getItem_of (knd := Ay prog w) (k := .inr x) ?_ hd1.mapOf hv ?_
 ·exact Ry (k := .inr x) ⟨t0, rfl⟩
 ·exact ⟨_, _, _, rfl, rfl, hk⟩
end
def strV : Value -> Str
 | .str x _ => x
 | _ => ""
theorem Xn {xs : List Str} {us : List Value} (r : Vals (xs.map V.str) us) : us.map strV = xs /\ ∀ u ∈ us, ∃ t, u = .str (strV u) t := by
 induction xs generalizing us with
 | nil => cases r; exact ⟨rfl, λ_ h => nomatch h⟩
 | cons x xs ih =>
  cases r with
  | cons r1 r2 =>
   obtain ⟨t, rfl⟩ := r1
   obtain ⟨e, h⟩ := ih r2
   refine ⟨by rw [Zz4, e]; rfl, λu hu => ?_⟩
   rcases Zzk.mp hu with z | z
   ·rw [z]; exact ⟨t, rfl⟩
   ·exact h u z
theorem Kj : ∀ {us : List Value}, (∀ u ∈ us, ∃ t, u = .str (strV u) t) -> Vals ((us.map strV).map V.str) us
 | [], _ => .nil
 | u :: us, h => by
  obtain ⟨t, e⟩ := h u Zz6
  exact .cons ⟨t, e⟩ (Kj λv hv => h v (Zz7 _ hv))
theorem Hz : ∀ {vs : List Value} {ns : List Int} {i : Nat} {n : Int}, IntsAre vs ns -> ns[i]? = some n -> ∃ t, vs[i]? = some (.int n t)
 | _, _, i, n, .nil, e => by simp at e
 | _, _, 0, n, .cons k t _, e => by
  have : k = n := by simpa using e
  subst this
  exact ⟨t, rfl⟩
 | _, _, i + 1, n, .cons _ _ r, e => by
  obtain ⟨t, h⟩ := Hz (i := i) r (by simpa using e)
  exact ⟨t, by simpa using h⟩
theorem U9 {kz : Str -> Int} : ∀ {us : List Value} {p : Int × Value}, p ∈ ((us.map strV).map kz).zip us -> p.2 ∈ us /\ p.1 = kz (strV p.2)
 | [], p, h => by simp at h
 | u :: us, p, h => by
  rw [Zz4, Zz4, List.zip_cons_cons] at h
  rcases Zzk.mp h with z | z
  ·rw [z]; exact ⟨Zz6, rfl⟩
  ·obtain ⟨h1, h2⟩ := U9 z
   exact ⟨Zz7 _ h1, h2⟩
theorem Vv {kz : Str -> Int} {us out : List Value} (h : KskOut false ((us.map strV).map kz) us out) : (∀ u ∈ out, u ∈ us) /\ P6 kz (us.map strV) (out.map strV) := by
 obtain ⟨ps, hp, rfl, hs⟩ := h
 have hz : ∀ p ∈ ps, p.2 ∈ us /\ p.1 = kz (strV p.2) := λp hm => U9 (hp.mem_iff.mp hm)
 refine ⟨λu hu => ?_, ?_, ?_⟩
 ·obtain ⟨p, hm, rfl⟩ := Zzl.mp hu
  exact (hz p hm).1
 ·have e : (((us.map strV).map kz).zip us).map (λp => strV p.2) = us.map strV := by
   have : (((us.map strV).map kz).zip us).map Prod.snd = us := List.map_snd_zip (by simp)
   have h2 := congrArg (Zxy strV) this
   rw [Zxt] at h2
   exact h2
  rw [Zxt, <- e]
  exact hp.map _
 ·rw [Zxt, List.pairwise_map]
  refine hs.imp_of_mem λ{a b} ha hb hab => ?_
  have hab : a.1 <= b.1 := hab
  rw [(hz a ha).2, (hz b hb).2] at hab
  exact hab
section
variable {X : Cx}
def Lc (P : Addr) (pos : Pos) (q : Str) (i : Nat) (Z : St) (Q : VK) (x : V) (H1 : Hp) : Prop := ∃ (l : Addr) (xs : List Str) (d : Addr) (kvs : List (Key × V)) (kz : Str -> Int), x = .ref l /\ H1 l = some (.lst (xs.map V.str)) /\ xs.length < 64 /\ Z[i]? = some (some (.ref d)) /\ H1 d = some (.dK kvs) /\
 (∀ x ∈ xs, Br kvs (.inr x) = some (.int (kz x))) /\ TblAt H1 P pos q /\ ∀ r ys H2, H1 r = none -> H2 r = some (.lst (ys.map V.str)) -> P6 kz xs ys -> P5 kz xs ys -> TblAt H2 P pos q -> But P H1 H2 -> Q (.ref r) H2
def Xu (P : Addr) (pos : Pos) (q : Str) (i : Nat) (te : TE) : TE := λZ H Q => te Z H (Lc P pos q i Z Q)
theorem Y8 {e : Expr} {te : TE} {p1 p2 kp lp q1 q2 q3 : Pos} {params : Arguments} {scope : Scope} {i k : Nat} {nm lv : Str} {P c : Addr} (hg : Gl X "sorted") (hm : X.mg "sorted" = none) (he : PE X e te) (hr : Room k X.A)
  (hcd : X.env.code = .ref c) (hC : codeHdIn X.K c P = true) (hB : B1 X.mg X.base) (hdef : defaultsOf params X.env = ([], [])) (hN : X.N[i]? = some lv) (hlv : X.env.scope.names.lookup lv = some .cell) (hcl : ∀ cc, X.env.cells.lookup lv = some cc -> closureFor scope X.env = pure [(lv, cc)])
  (hsc : scope.kind = .function /\ scope.isCoroutine = false /\ scope.isGenerator = false /\ scope.names.lookup nm = some .local /\ scope.names.lookup lv = some .free /\ ∀ x ∈ scope.names, x.2 ≠ .cell)
  (hbind : ∀ (cc c' : Addr) (pm ctv v : Value), bindArgs (kla_fn "<lambda>" (X.env.qual ++ "<lambda>") params (.Subscript (.Name lv q1) (.Name nm q2) q3) scope [(lv, cc)] pm (.ref c') ctv) ⟨[v], []⟩ = pure [(nm, v)])
  (hn1 : (nm == ("__debug__" : Str)) = false := by decide) (hn2 : (lv == ("__debug__" : Str)) = false := by decide) (hn3 : (lv == ("__classdict__" : Str)) = false := by decide) (hn : Bz [e] = true := by rfl) :
  PE X (.Call (.Name "sorted" p1) [e] [⟨some "key", .Lambda params (.Subscript (.Name lv q1) (.Name nm q2) q3) scope lp, kp⟩] p2) (Xu P lp (X.env.qual ++ "<lambda>") i te) := by
 intro pins s Z H Q I h
 refine wpAny_Call_Name_kw (Fv I hg hm NP.Xg ?_ (by decide) (by decide))
 have hx : ∃ cc, X.env.cells.lookup lv = some cc := I.ok.has lv (.inl hlv)
 obtain ⟨cc, hcc⟩ := hx
 refine callWith_kw (thn ((A6 he A2 hn) p2 pins s Z H (λvs H1 => match vs with | [x] => Lc P lp (X.env.qual ++ "<lambda>") i Z Q x H1 | _ => False) I h) λus s1 ⟨vs, H1, I1, r1, hv⟩ => ?_) ?_ ?_ rfl rfl
 ·match vs, hv, r1 with
  | [x], ⟨l, xs, d, kvs, kz, ex, hl, h64, hσ, hd, hval, tb, q⟩, r1 =>
  subst ex
  obtain ⟨u, rfl, ru⟩ := Fn r1
  cases ru
  refine kws_cons (Rv I1 hcd hC hB tb hdef (hcl cc hcc) λf c' ctv H' s2 I2 hf Hf hc' tb' bt => kws_nil ?_)
  have hPs : ∃ u, H1 P = some (.tbl u) := tb.elim (λe => ⟨_, e⟩) (λ⟨c, e, _⟩ => ⟨_, e⟩)
  obtain ⟨pt, hPt⟩ := hPs
  have hl2 : H' l = some (.lst (xs.map V.str)) := bt _ _ (λz => by rw [z, hPt] at hl; cases hl) hl
  have hd2 : H' d = some (.dK kvs) := bt _ _ (λz => by rw [z, hPt] at hd; cases hd) hd
  obtain ⟨its, rv, hil, hlt⟩ := Av I2 hl2
  obtain ⟨eit, hit⟩ := Xn rv
  obtain ⟨m, F⟩ := I2.fr
  obtain ⟨zd, nd, dv, rel, hdd⟩ := I2.hok d _ hd2
  have hcell : s2.heap.IsCell cc (some (.ref d)) := by
   obtain ⟨m', hn', hl'⟩ := I2.loc
   obtain ⟨u, ru, lk⟩ := hl' i lv (.ref d) hN hσ (.inr (.inl hlv))
   cases ru
   rcases lk with ⟨hk, _⟩ | ⟨_, c2, e2, e3⟩
   ·have hk : X.env.scope.names.lookup lv = some .local := hk
    rw [hlv] at hk; cases hk
   ·rw [hcc] at e2; cases e2; exact e3
  have hrec : s2.heap.CodeRec (.ref c') (X.env.qual ++ "<lambda>") := Se I2.hok hc'
  have nL : ∀ b o, s2.heap.get? b = some o -> (∀ es ep, o.data ≠ .dict es ep) -> b ≠ X.env.locals := λb o e n z => by
   obtain ⟨oL, es, ep, e2, d2, _⟩ := F.ns
   rw [<- z, e] at e2; cases e2; exact n _ _ d2
  have keepA : ∀ (h : Heap) (own : List (Addr × Obj)), Fr X.base X.env.locals h m -> News X.base X.env.locals h (Di X.base s2.heap X.env.locals ++ own) -> ∀ b o, b ≠ X.env.locals -> s2.heap.get? b = some o -> h.get? b = some o := λh own F' N' b o nb e => by
   cases z : X.base.get? b with
   | some u =>
    have := I2.bk b u z
    rw [e] at this; cases this
    exact F'.keep b _ z
   | none => exact (N' (b, o) (Zyf _ (Ko nb z e))).1
  have hil2 : its.length = xs.length := by have := rv.length; rw [Zzz] at this; exact this.symm
  have step : ∀ (v : Value), v ∈ its -> ∀ (h : Heap) (tk : Nat) (own : List (Addr × Obj)), Fr X.base X.env.locals h m -> News X.base X.env.locals h (Di X.base s2.heap X.env.locals ++ own) ->
    wpAny (model X.prog X.w) X.A.in1.in1 (call (.ref f) [v]) (λv' s' => ∃ h' tk' t', s' = { s2 with heap := h', toks := tk' } /\ v' = .int (kz (strV v)) t' /\ ∀ b o, h.get? b = some o -> h'.get? b = some o) (λ_ _ => False) { s2 with heap := h, toks := tk } := by
   intro v hvm h tk own F' N'
   obtain ⟨t, ev⟩ := hit v hvm
   have hmem : strV v ∈ xs := by rw [<- eit]; exact Zzl.mpr ⟨v, hvm, rfl⟩
   have kp := keepA h own F' N'
   obtain ⟨w', hw, rw'⟩ := RelO.some_of (v := .int (kz (strV v))) (o := valueAt dv (.inr (strV v))) (by have := rel.val (.inr (strV v)); rw [hval _ hmem] at this; exact this)
   obtain ⟨tk', ew⟩ := rw'
   subst ew
   have dL : d ≠ X.env.locals := λz => by rw [z, I2.free] at hd2; cases hd2
   have cL : cc ≠ X.env.locals := I2.cne lv cc hcc
   have fL : f ≠ X.env.locals := nL f _ hf (λes ep z => by cases z)
   have c'L : c' ≠ X.env.locals := λz => by rw [z, I2.free] at hc'; cases hc'
   have hroom : X.A.depth < recursionLimit := by have := hr.dp; omega
   have hk1 := d5 (prog := X.prog) (w := X.w) (A := X.A.in1.in1) (s := { s2 with heap := h, toks := tk }) (nm := nm) (lv := lv) (x := strV v) (k := kz (strV v)) (t := tk') (t0 := t) (vs := dv) (kp f _ fL hf) (by
    obtain ⟨c2, o, vs, t2, e1, e2, r⟩ := hrec
    cases e1
    exact ⟨c', o, vs, t2, rfl, kp _ _ c'L e2, r⟩) (by
    obtain ⟨o, e1, r⟩ := hcell
    exact ⟨o, kp _ _ cL e1, r⟩) (by
    obtain ⟨o, es, ep, e1, r⟩ := hdd
    exact ⟨o, es, ep, kp _ _ dL e1, r⟩) hw hroom (I2.ok.mod.nolimit.keeps F'.keep) hsc (hbind cc c' _ ctv _) hn1 hn2 hn3
   rw [<- ev] at hk1
   exact hk1
  have fin : ∀ (D : Addr) (h' : Heap) (tk : Nat) (out : Array Value) (c : Nat), Fr X.base X.env.locals h' m -> News X.base X.env.locals h' ((D, seqObj "list" out c) :: Di X.base s2.heap X.env.locals) -> (∀ q ∈ Di X.base s2.heap X.env.locals, q.1 < D) -> (∀ u ∈ out.toList, u ∈ its) -> P5 kz xs (out.toList.map strV) -> EP X pins Z Q (.ref D) { s2 with heap := h', toks := tk } := by
   intro D h' tk out c F' N' hlt2 hsub hstab
   have hsort := Jv hstab
   have hD := N' (D, seqObj "list" out c) Zz6
   have N2 : News X.base X.env.locals h' (Di X.base s2.heap X.env.locals ++ []) := λp hp => N' p (Zz7 _ (by rw [Zya] at hp; exact hp))
   have kp := keepA h' [] F' N2
   have tL : ∀ b u, H' b = some u -> b ≠ X.env.locals := λb u e z => by rw [z, I2.free] at e; cases e
   have neD : ∀ b o, s2.heap.get? b = some o -> b ≠ D := λb o e z => by
    by_cases hb : b = X.env.locals
    ·exact hD.2.1 (z.symm.trans hb)
    ·cases y : X.base.get? b with
     | some u => rw [z] at y; rw [hD.2.2] at y; cases y
     | none => exact absurd (hlt2 (b, o) (Ko hb y e)) (by rw [z]; exact Zxk _)
   have HD : H' D = none := by
    cases y : H' D with
    | none => rfl
    | some u =>
     obtain ⟨o, e⟩ := (show ∃ o, s2.heap.get? D = some o from cq (I2.hok D u y))
     exact absurd rfl (neD D o e)
   have vs2 : Vals ((out.toList.map strV).map V.str) out.toList := Kj λu hu => hit u (hsub u hu)
   have hlen : (out.toList.map strV).length = xs.length := hsort.1.length_eq
   have I3 : Inv X pins Z (upd H' D (.lst ((out.toList.map strV).map V.str))) { s2 with heap := h', gens := s2.gens, drawn := s2.drawn, toks := tk } := by
    refine I2.step (g' := s2.gens) (d' := s2.drawn) (ch := []) (λ_ z => nomatch z) (λb o nb _ _ e _ => kp b o nb e) (λb o nb _ _ e _ => ⟨o.slots, kp b o nb e⟩) (λb o _ e n => by rw [A3 (neD b o e)]; exact n) (λb o _ e => ?_)
     (λb ys e => by rw [A3 (A5 e HD)]; exact e) (λb o u e => by rw [A3 (A5 e HD)]; exact e) (λb ps e => ⟨#[], by rw [A3 (A5 e HD), e]; simp⟩) (λm' hm' => ?_) (λb u e => ?_) I2.bare
    ·by_cases hb : b = X.env.locals
     ·obtain ⟨oL, _, _, e2, _⟩ := F'.ns
      exact ⟨oL, by rw [hb]; exact e2⟩
     ·exact ⟨o, kp b o hb e⟩
    ·have em : m' = m := funext λx => hm'.agree F.ns x
     rw [em]
     exact F'.ns
    ·by_cases hb : b = D
     ·subst hb
      rw [A0] at e
      cases e
      refine ⟨by rw [Zzz, hlen]; exact Ao (by omega), out.toList, c, vs2, ?_⟩
      rw [Array.toArray_toList]
      exact hD.1
     ·rw [A3 hb] at e
      refine (I2.hok b u e).stay (λb' u' hb' q' => kp b' u' ?_ q') (λb' q' => by rw [A3 (A5 q' HD)]; exact q') λb' ys q' => by rw [A3 (A5 q' HD)]; exact q'
      rcases hb' with r | r
      ·rw [r]; exact tL b u e
      ·exact tL b' _ r
   have H1D : H1 D = none := by
    cases y : H1 D with
    | none => rfl
    | some u =>
     have hDP : D ≠ P := λz => by
      have : H' P = none := by rw [<- z]; exact HD
      rcases tb' with e | ⟨_, e, _⟩ <;> · rw [this] at e; cases e
     rw [bt _ _ hDP y] at HD; cases HD
   exact ⟨.ref D, _, I3, rfl, q D _ _ H1D A0 hsort hstab (tb'.same (A4 HD)) (bt.new HD)⟩
  by_cases h2 : 2 <= its.length
  ·refine kat_sortedK (f := .ref f) (b := false) F Rp hil h2 (by omega) (ksk_s1 _ _) (λx => ksk_l1 _ _) (λx => ksk_t1 _ _) λD kS e1 h' F' N' hDk hlt2 => ?_
   have keys : ∀ (rest ks don : List Value) (e : Nat) (h : Heap) (tk : Nat), its = don ++ rest -> IntsAre ks ((don.map strV).map kz) -> Fr X.base X.env.locals h m -> News X.base X.env.locals h ((kS, seqObj "list" (Zyi ks) e) :: (D, seqObj "list" #[] e1) :: Di X.base s2.heap X.env.locals) ->
     KatKeys X.prog X.w X.A.in1.in1 X.base X.env.locals m kS (.ref f) (λks e s' => wpAny (model X.prog X.w) X.A.in1.in1 (keyKind' (Zyi ks)) (λκ s'' => (kas_sort its.length).kasWp (kas_ask X.prog X.w X.A.in1.in1 κ (katRev false ks)) (λp s3 => KatFin X.base X.env.locals m kS D ks e e1 (katRev false (p.toList.map λi => (katRev false its).getD i Value.none)) (λs4 => EP X pins Z Q (.ref D) s4) s3) s'') (λ_ _ => False) s') rest ks e { s2 with heap := h, toks := tk } := by
    intro rest
    induction rest with
    | nil =>
     intro ks don e h tk eq hi Fh Nh
     rw [Zya] at eq
     subst eq
     have hkl : ks.length = its.length := by have := hi.length; rw [Zzz, Zzz] at this; exact this
     show wpAny (model X.prog X.w) X.A.in1.in1 (keyKind' (Zyi ks)) _ _ _
     rw [ksk_kind (keys := Zyi ks) (kz := (its.map strV).map kz) (by simpa using hi) (by simp; omega)]
     refine wpAny_pure ?_
     have kat : ∀ i, i < its.length -> ∃ t, ks.getD i Value.none = .int (kz (strV (its.getD i Value.none))) t := λi hi2 => by
      have h1 : ((its.map strV).map kz)[i]? = some (kz (strV (its.getD i Value.none))) := by
       rw [Zzx, Zzx, Zzq hi2, Zzv, Zzq hi2]; rfl
      obtain ⟨t, ht⟩ := Hz hi h1
      exact ⟨t, by rw [Zzv, ht]; rfl⟩
     refine Rx (n := its.length) (key := λi => kz (strV (its.getD i Value.none))) (Qp := λp => Srt its.length (λi => kz (strV (its.getD i Value.none))) p its.length) (λi j C hi2 hj2 hC => ?_) (λp hp => ?_) (az h2)
     ·obtain ⟨t1, e1'⟩ := kat i hi2
      obtain ⟨t2, e2'⟩ := kat j hj2
      show wpAny _ _ (keyLt' oneType' (ks.getD i Value.none) (ks.getD j Value.none)) C _ _
      rw [e1', e2']
      exact kat_lt_int hC
     ·have nkD : kS ≠ D := Zxb hDk
      have nall : ∀ q ∈ Di X.base s2.heap X.env.locals, q.1 ≠ kS /\ q.1 ≠ D := λq hq => by have := hlt2 q hq; exact ⟨Zz0 (Nat.lt_trans this hDk), Zz0 this⟩
      refine KatFin.intro Fh Nh (.head λq hq => ?_) λh3 c3 F3 N3 => KasFin.intro F3 N3 (.tail nkD (.head λq hq => (nall q hq).2)) λh4 c4 F4 N4 => ?_
      ·rcases Zzk.mp hq with z | z
       ·rw [z]; exact Zzf nkD
       ·exact (nall q z).1
      ·refine fin D h4 tk (Zyi (p.toList.map λi => its.getD i Value.none)) c4 F4 (λq hq => N4 q (Zz7 _ hq)) hlt2 (λu hu => ?_) ?_
       ·have hu : u ∈ p.toList.map λi => its.getD i Value.none := by simpa using hu
        obtain ⟨i, hi2, rfl⟩ := Zzl.mp hu
        have hi3 : i < its.length := Zy8.mp (hp.pm.mem_iff.mp hi2)
        rw [Zzv, Zzq hi3]
        exact Zw4 hi3
       ·have exs : ∀ i, xs.getD i "" = strV (its.getD i Value.none) := λi => by
         rw [<- eit, Zzv, Zzv, Zzx]
         cases its[i]? <;> rfl
        refine ⟨p.toList, by rw [<- hil2]; exact hp.pm, ?_, ?_⟩
        ·rw [Zxt]
         exact Zy2 λi _ => (exs i).symm
        ·have : (λi => kz (xs.getD i "")) = λi => kz (strV (its.getD i Value.none)) := funext λi => by rw [exs]
         rw [this]
         exact ij hp
    | cons v r ih =>
     intro ks don e h tk eq hi Fh Nh
     have hvm : v ∈ its := by rw [eq]; simp
     have Nh2 : News X.base X.env.locals h (Di X.base s2.heap X.env.locals ++ [(kS, seqObj "list" (Zyi ks) e), (D, seqObj "list" #[] e1)]) := λq hq => by
      rcases Zyu.mp hq with z | z
      ·exact Nh q (Zz7 _ (Zz7 _ z))
      ·rcases Zzk.mp z with y | y
       ·rw [y]; exact Nh _ Zz6
       ·rw [Zzb.mp y]; exact Nh _ (Zz7 _ Zz6)
     refine KatKeys.cons (wpAny_mono (step v hvm h tk _ Fh Nh2) (λv' s' hh => ?_) (λ_ _ z => z))
     obtain ⟨h3, tk3, t3, e1', e2', k3⟩ := hh
     subst e1' e2'
     have nkD : kS ≠ D := Zxb hDk
     refine KatBack.intro (F := Fh.kept k3) (N := Nh.grown k3) (U := .head λq hq => ?_) λh4 c4 F4 N4 => ?_
     ·rcases Zzk.mp hq with z | z
      ·rw [z]; exact Zzf nkD
      ·have := hlt2 q z; exact Zz0 (Nat.lt_trans this hDk)
     ·exact ih (ks ++ [.int (kz (strV v)) t3]) (don ++ [v]) c4 h4 tk3 (by rw [eq]; simp) (by rw [Zzg, Zzg]; exact ksk_snoc hi) F4 N4
   exact keys its [] [] 0 h' s2.toks rfl .nil F' N'
  ·refine ksk_sorted (kz := (its.map strV).map kz) (f := .ref f) (b := false) F Rp hil (by simp) (by omega) (ksk_s1 _ _) (λx => ksk_l1 _ _) (λx => ksk_t1 _ _) (λj v kk hv hk h tk own F' N' => ?_) (λD h' tk out c F' N' hlt2 hout => ?_)
   ·have ek : kk = kz (strV v) := by
     rw [Zzx, Zzx, hv] at hk
     exact (Zza hk).symm
    subst ek
    refine wpAny_mono (step v (Zzn hv) h tk own F' N') (λv' s' hh => ?_) (λ_ _ z => z)
    obtain ⟨h3, tk3, t3, e1, e2, k3⟩ := hh
    subst e1 e2
    exact ⟨h3, tk3, t3, rfl, rfl, F'.kept k3, N'.grown k3⟩
   ·obtain ⟨hsub, hsort⟩ := Vv hout
    rw [eit] at hsort
    exact fin D h' tk out c F' N' hlt2 hsub (Sx hsort.1 (by omega))
 ·rw [Bw hn]; rfl
 ·exact C1 hn
end
def Tw (vs : Array Value) (c P : Addr) : Bool := (match vs.getD 18 .none with | .str _ _ => true | _ => false) && (match vs.getD 7 .none with | .int _ _ => true | _ => false) && (match vs.getD 9 .none with | .bool _ => true | _ => false) && (match vs.getD 10 .none with | .int _ _ => true | _ => false) && c != P
theorem Oy {K : Frag} {c P : Addr} {od : Option Addr} {vs : Array Value} {sl : Array (Option Value)} (tl : K.lookup c = some ⟨.type "code", od, .fields vs, sl⟩) (h11 : vs[11]? = some (.ref P)) (h : Tw vs c P = true) : codeHdIn K c P = true := by
 unfold codeHdIn
 rw [tl]
 simp only [h11, BEq.rfl, Zx5]
 exact h
theorem Xt {K : Frag} {x : Str} {f c P : Addr} {oc : Value} {od odc : Option Addr} {fd : FuncData} {sl slc : Array (Option Value)} {vs : Array Value} (hn : nsIn K mainGlobals x = some (some (.ref f))) (hl : K.lookup f = some ⟨oc, od, .func fd, sl⟩) (hc : fd.code = .ref c) (tl : K.lookup c = some ⟨.type "code", odc, .fields vs, slc⟩) (h11 : vs[11]? = some (.ref P)) : tabIn K x = some (c, P) := by
 unfold tabIn
 simp only [hn, hl, hc, tl, h11]
theorem Kw {K : Frag} {x : Str} {f c P : Addr} {oc : Value} {od : Option Addr} {fd : FuncData} {sl : Array (Option Value)} (h : tabIn K x = some (c, P)) (hn : nsIn K mainGlobals x = some (some (.ref f))) (hl : K.lookup f = some ⟨oc, od, .func fd, sl⟩) : fd.code = .ref c := by
 unfold tabIn at h
 simp only [hn, hl] at h
 split at h
 ·rename_i c' hc
  split at h
  ·split at h
   ·cases h
    exact hc
   ·cases h
  ·cases h
 ·cases h
theorem Kx {nm lv : Str} {scope : Scope} {env : Env} {cc : Addr} (hs : scope.names = [(nm, .local), (lv, .free)]) (h : env.cells.lookup lv = some cc) : closureFor scope env = pure [(lv, cc)] := by
 unfold closureFor
 rw [hs]
 simp [cellOf, h]
structure Qs (K : Frag) (f c P : Addr) : Prop where
 code : ∀ oc od fd sl, K.lookup f = some ⟨oc, od, .func fd, sl⟩ -> fd.code = .ref c
 hd : codeHdIn K c P = true
theorem Fun.okC {P : Program} {w : World} {K : Frag} {mg : Str -> Option Value} {base : Heap} {x qual : Str} {st : Stmt} {f c Pt : Addr} {fd : FuncData} {N ps : List Str} {k : Nat} {sp : Sp} (F : Fun K x qual st f fd) (C : Qs K f c Pt) (S : Aj N ps (A9 st)) (len : ∀ vs H Q E, sp vs H Q E -> vs.length = ps.length)
  (hbody : ∀ (A : Around) (outer : List Env) (s : Shared) (H : Hp) (vs : List V) (Q : VK) (E : XK), Room k (A.deeper (envOfC qual (A9 st) s.heap.objs.size f (.ref c))) -> sp vs H Q E ->
   ∃ t, PSs (Mk CX0 P w K mg base N qual (A9 st) f (.ref c) A outer s H E).nox (Ah st) t /\ t { nx := λ_ H' => Q .non H', rt := Q } (Gw N vs) H) : FnOk P w K mg base CX0 (k + 1) f fd ps sp := by
 obtain ⟨oc, od, kV, doc, pm, an, cdv, ct, osl, rfl, lk, hcd⟩ := F.ex
 have e : cdv = .ref c := C.code _ _ _ _ lk
 subst e
 refine V3 lk hcd S len λA outer s H vs Q E hr hsp => ?_
 obtain ⟨t, h, q⟩ := hbody A outer s H vs Q E hr hsp
 exact ⟨t, h.nox, q⟩
end L2
namespace NP
open PySem L2
def G1 (S : Sh) (x : Str) : List Wr := S.wares.filter λw => decide (x ∈ w.parts.map (·.1))
def lvF (S : Sh) : Nat -> Str -> Int
 | 0, _ => 0
 | k + 1, x => Ex ((G1 S x).map λu => 1 + lvF S k u.name)
def lv (S : Sh) (x : Str) : Int := lvF S S.wares.length x
structure Lev (S : Sh) : Prop where
 nd : (S.wares.map (·.name)).Nodup
 own : ∀ w ∈ S.wares, ∀ p ∈ w.parts, p.1 ∈ S.wares.map (·.name)
 low : ∃ r : Str -> Nat, (∀ w ∈ S.wares, r w.name < S.wares.length) /\ ∀ w ∈ S.wares, ∀ p ∈ w.parts, r p.1 < r w.name
theorem mem_users {S : Sh} {x : Str} {w : Wr} : w ∈ G1 S x ↔ w ∈ S.wares /\ x ∈ w.parts.map (·.1) := by
 unfold G1
 rw [Zxh]
 exact ⟨λ⟨a, b⟩ => ⟨a, of_decide_eq_true b⟩, λ⟨a, b⟩ => ⟨a, decide_eq_true b⟩⟩
theorem Yu (S : Sh) : ∀ k x, 0 <= lvF S k x
 | 0, _ => Zyr _
 | k + 1, x => Us λy hy => by
  obtain ⟨u, _, rfl⟩ := Zzl.mp hy
  have := Yu S k u.name
  show 0 <= 1 + lvF S k u.name
  omega
theorem Rs {S : Sh} {r : Str -> Nat} (hr : ∀ w ∈ S.wares, r w.name < S.wares.length) (hp : ∀ w ∈ S.wares, ∀ p ∈ w.parts, r p.1 < r w.name) : ∀ k w, w ∈ S.wares -> S.wares.length - r w.name <= k -> lvF S (k + 1) w.name = lvF S k w.name
 | 0, w, hw, h => by have := hr w hw; omega
 | k + 1, w, hw, h => by
  show Ex ((G1 S w.name).map λu => 1 + lvF S (k + 1) u.name) = Ex ((G1 S w.name).map λu => 1 + lvF S k u.name)
  congr 1
  apply Zy2
  intro u hu
  obtain ⟨h1, h2⟩ := mem_users.mp hu
  obtain ⟨p, hp1, hp2⟩ := Zzl.mp h2
  have h3 := hp u h1 p hp1
  rw [hp2] at h3
  have := hr u h1
  rw [Rs hr hp k u h1 (by omega)]
theorem m5 {S : Sh} (L : Lev S) {w : Wr} (hw : w ∈ S.wares) : lv S w.name = Ex ((G1 S w.name).map λu => 1 + lv S u.name) := by
 obtain ⟨r, h1, h2⟩ := L.low
 have := Rs h1 h2 S.wares.length w hw (by omega)
 exact this.symm
theorem m4 (S : Sh) (x : Str) : 0 <= lv S x := Yu S _ x
theorem Uw {S : Sh} (L : Lev S) {w : Wr} (hw : w ∈ S.wares) {p : Str × Int} (hp : p ∈ w.parts) : lv S w.name + 1 <= lv S p.1 := by
 obtain ⟨v, hv, e⟩ := Zzl.mp (L.own w hw p hp)
 rw [<- e, m5 L hv]
 have : 1 + lv S w.name <= Ex ((G1 S v.name).map λu => 1 + lv S u.name) := Uu (Zzl.mpr ⟨w, mem_users.mpr ⟨hw, Zzl.mpr ⟨p, hp, e.symm⟩⟩, rfl⟩)
 omega
theorem Yt {S : Sh} {k : Nat} {g : Str -> Int} (h0 : ∀ x, 0 <= g x) (h : ∀ w ∈ S.wares, ∀ p ∈ w.parts, 1 + lvF S k w.name <= g p.1) (x : Str) : lvF S (k + 1) x <= g x := by
 show Ex ((G1 S x).map λu => 1 + lvF S k u.name) <= g x
 unfold Ex
 split
 ·exact h0 x
 ·rename_i hn
  obtain ⟨u, hu, e⟩ := Zzl.mp (M6 hn)
  rw [<- e]
  obtain ⟨h1, h2⟩ := mem_users.mp hu
  obtain ⟨p, hp1, hp2⟩ := Zzl.mp h2
  rw [<- hp2]
  exact h u h1 p hp1
def fnD (names : List Str) (g : Str -> Int) : List (Key × V) := names.map λx => (Zxx x, V.int (g x))
theorem V6 (names : List Str) (g : Str -> Int) : (fnD names g).length = names.length := by unfold fnD; rw [Zzz]
theorem L9 {names : List Str} {g : Str -> Int} {x : Str} (h : x ∈ names) : Br (fnD names g) (.inr x) = some (.int (g x)) := by
 induction names with
 | nil => cases h
 | cons y r ih =>
  unfold fnD
  rw [Zz4]
  by_cases e : y = x
  ·rw [Ca (by rw [e])]
   rw [e]
  ·rw [Bq (λz => e (Zwo z))]
   exact ih ((Zzk.mp h).resolve_left λz => e z.symm)
theorem Z9 {names : List Str} {g : Str -> Int} {x : Str} (h : x ∉ names) : Br (fnD names g) (.inr x) = none := by
 induction names with
 | nil => rfl
 | cons y r ih =>
  unfold fnD
  rw [Zz4, Bq (λz => h (by rw [<- Zwo z]; exact Zz6))]
  exact ih λm => h (Zz7 _ m)
theorem dm {names : List Str} {g : Str -> Int} {y : Str} {v : Int} (h : y ∈ names) : Ei (fnD names g) (.inr y) (.int v) = fnD names λx => if x = y then v else g x := by
 unfold Ei
 rw [if_pos (by rw [Du, L9 h]; rfl)]
 unfold fnD
 rw [Zxt]
 apply Zy2
 intro x _
 show (if Zxx x = (Zxx y : Key) then (Zxx x, V.int v) else (Zxx x, V.int (g x))) = (Zxx x, V.int (if x = y then v else g x))
 by_cases e : x = y
 ·rw [if_pos (by rw [e]), if_pos e]
 ·rw [if_neg (λz => e (Zwo z)), if_neg e]
theorem Os {names : List Str} {g g' : Str -> Int} (h : ∀ x ∈ names, g x = g' x) : fnD names g = fnD names g' := by
 unfold fnD
 exact Zy2 λx hx => by rw [h x hx]
theorem dq {names : List Str} {g : Str -> Int} {y : Str} {v : Int} (h : y ∉ names) : Ei (fnD names g) (.inr y) (.int v) = fnD (names ++ [y]) λx => if x = y then v else g x := by
 rw [Ja _ (Z9 h)]
 unfold fnD
 rw [Zzg]
 congr 1
 ·refine Zy2 λx hx => ?_
  show (Zxx x, V.int (g x)) = (Zxx x, V.int (if x = y then v else g x))
  rw [if_neg (λe : x = y => h (e ▸ hx))]
 ·show [(Zxx y, V.int v)] = [(Zxx y, V.int (if y = y then v else g y))]
  rw [if_pos rfl]
theorem Hs {xs : List Str} (nd : xs.Nodup) {i : Nat} {x : Str} (h : xs[i]? = some x) : x ∉ xs.take i := by
 intro m
 obtain ⟨j, hj⟩ := Zxu.mp m
 rw [Zxa] at hj
 split at hj
 ·rename_i hlt
  have hj2 : j < xs.length := (Zzj.mp hj).1
  have := (Zwu hj2 nd).mp (hj.trans h.symm)
  omega
 ·cases hj
end NP
namespace L2
open PySem PySem.Spec PyProof.Rows
section
variable {X : Cx}
end
end L2
namespace NP
open PySem L2
def Qu (S : Sh) (x : Str) : Option Wr := S.wares.find? λw => decide (w.name = x)
theorem Lf {S : Sh} (nd : (S.wares.map (·.name)).Nodup) {w : Wr} (hw : w ∈ S.wares) : Qu S w.name = some w := by
 unfold Qu
 cases e : S.wares.find? (λv => decide (v.name = w.name)) with
 | none =>
  have := List.find?_eq_none.mp e w hw
  simp at this
 | some v =>
  have h1 : v.name = w.name := of_decide_eq_true (by simpa using List.find?_some e)
  have h2 := List.mem_of_find?_eq_some e
  obtain ⟨i, hi, ei⟩ := Zx3.mp hw
  obtain ⟨j, hj, ej⟩ := Zx3.mp h2
  have : (S.wares.map (·.name))[i]? = (S.wares.map (·.name))[j]? := by
   rw [Zzx, Zzx, Zzq hi, Zzq hj, ei, ej]
   show some w.name = some v.name
   rw [h1]
  have e2 := (Zwu (by rw [Zzz]; exact hi) nd).mp this
  subst e2
  rw [<- ei, <- ej]
end NP
namespace L2
open PySem PySem.Spec PyProof.Rows PySem.W NP
section
variable {X : Cx} {pins : List (Addr × Obj)} {Z : St} {H : Hp} {s : Shared} {h' : Heap}
theorem Inv.laidF {a : Addr} {o : HO} {t' : Nat} (I : Inv X pins Z H s) (k : ∀ b u, s.heap.get? b = some u -> h'.get? b = some u) (fr : ∀ b u, s.heap.get? b = some u -> b ≠ a) (hn : H a = none) (new : ObjOk X.prog X.w (upd H a o) h' a o) :
  Inv X pins Z (upd H a o) { s with heap := h', toks := t' } := by
 refine I.un ⟨λb u e _ _ _ => k b u e, λb u e _ _ _ => ⟨u.slots, k b u e⟩, λb u e n _ => by rw [A3 (fr b u e)]; exact n, λb u e _ => ⟨u, k b u e⟩, λb xs e => by rw [A3 (A5 e hn)]; exact e, λb u v e => by rw [A3 (A5 e hn)]; exact e, λb ps e => ⟨#[], by rw [A3 (A5 e hn), e]; simp⟩⟩ λb u e => ?_
 by_cases hb : b = a
 ·subst hb
  rw [A0] at e
  cases e
  exact new
 ·rw [A3 hb] at e
  exact (I.hok b u e).stay (λb' u' _ q => k b' u' q) (λb' q => by rw [A3 (A5 q hn)]; exact q) λb' xs q => by rw [A3 (A5 q hn)]; exact q
end
section
variable {X : Cx}
end
end L2
set_option maxHeartbeats 4000000
namespace L2
open PySem PyProof.Rows
end L2
set_option exponentiation.threshold 4000
namespace L2
open PySem PySem.Spec PyProof.Rows
end L2
namespace NP
open PySem L2
def Bv (m g : Int) : Int := if -(-m / g) > 0 then -(-m / g) else 0
theorem Wo (m g : Int) : 0 <= Bv m g := by unfold Bv; split <;> omega
theorem Nc {m g : Int} (h : 0 < g) : m <= g * Bv m g := by
 have h1 := Int.mul_ediv_add_emod (-m) g
 have h2 := Int.emod_nonneg (-m) (b := g) (by omega)
 have h3 : g * (-(-m / g)) = -(g * (-m / g)) := Int.mul_neg ..
 unfold Bv
 split
 ·rw [h3]; omega
 ·rename_i q
  have h4 : 0 <= -m / g := by omega
  have h5 : 0 <= g * (-m / g) := Zxd (by omega) h4
  omega
theorem Pz {m g : Int} (h : 0 < g) (hl : 0 < Bv m g) : g * Bv m g < m + g := by
 have h1 := Int.mul_ediv_add_emod (-m) g
 have h2 := Zvs (-m) h
 have h3 : g * (-(-m / g)) = -(g * (-m / g)) := Int.mul_neg ..
 unfold Bv at hl ⊢
 split
 ·rw [h3]; omega
 ·rename_i q
  rw [if_neg q] at hl
  omega
theorem Wp {m g : Int} (h : 0 < g) (hm : 0 <= m) : Bv m g <= m := by
 by_cases hz : 0 < Bv m g
 ·have h1 := Pz h hz
  have h2 : Bv m g * 1 <= Bv m g * g := Int.mul_le_mul_of_nonneg_left (by omega) (by omega)
  have h3 : g * Bv m g = Bv m g * g := Int.mul_comm ..
  have h4 : (g - 1) * 1 <= (g - 1) * Bv m g := Int.mul_le_mul_of_nonneg_left (by omega) (by omega)
  have h5 : (g - 1) * Bv m g = g * Bv m g - Bv m g := by rw [Int.sub_mul, Int.one_mul]
  omega
 ·omega
def ay : List Int -> Int
 | [] => 0
 | x :: r => x + ay r
def ap (us : List Wt) (x : Str) : Int := ay (us.map λu => if u.1 = x then u.2.2 else 0)
def ie (L : Str -> Int) (w : Wr) (x : Str) : Int := ay (w.parts.map λp => if p.1 = x then L w.name * p.2 else 0)
def au (ws : List Wr) (L : Str -> Int) (x : Str) : Int := ay (ws.map λw => ie L w x)
def j7 (S : Sh) (L : Str -> Int) (x : Str) : Int := ap S.wants x + au S.wares L x
def exF (S : Sh) : Nat -> Str -> Int
 | 0, _ => 0
 | k + 1, x => match Qu S x with
  | some w => Bv (j7 S (exF S k) x) w.gives
  | none => 0
def ex (S : Sh) (x : Str) : Int := exF S S.wares.length x
theorem Vn {S : Sh} {x : Str} {w : Wr} (h : Qu S x = some w) : w ∈ S.wares /\ w.name = x := ⟨List.mem_of_find?_eq_some h, of_decide_eq_true (by simpa using List.find?_some h)⟩
theorem Ru {m g : Int} (h : 0 < g) (hm : m <= 0) : Bv m g = 0 := by
 unfold Bv
 have : 0 <= -m / g := Int.ediv_nonneg (by omega) (by omega)
 rw [if_neg (by omega)]
def above (f g : Int) (xs ys : List Int) : Nat -> Int
 | 0 => -f
 | i + 1 => above f g xs ys i + (xs.getD i 0 - ys.getD i 0) + g * Bv (-(above f g xs ys i + (xs.getD i 0 - ys.getD i 0))) g
def G4 (f g : Int) (xs ys : List Int) (i : Nat) : Int := Bv (-(above f g xs ys i + (xs.getD i 0 - ys.getD i 0))) g
def lots (f g : Int) (xs ys : List Int) (n : Nat) : List Int := (Zyy n).map (G4 f g xs ys)
theorem Rt (f g : Int) (xs ys : List Int) (n : Nat) : (lots f g xs ys n).length = n := by simp [lots]
theorem Wm (f g : Int) (xs ys : List Int) (n : Nat) : lots f g xs ys (n + 1) = lots f g xs ys n ++ [G4 f g xs ys n] := by
 unfold lots
 rw [Zwl, Zzg]
 rfl
theorem Yv {f g : Int} {xs ys : List Int} {n i : Nat} (h : i < n) : (lots f g xs ys n)[i]? = some (G4 f g xs ys i) := by simp [lots, h]
theorem Wn {f g : Int} {xs ys : List Int} {n i : Nat} (h : i < n) : (lots f g xs ys n).getD i 0 = G4 f g xs ys i := by rw [Zzv, Yv h]; rfl
theorem Ms (f g : Int) (xs ys : List Int) (i : Nat) : above f g xs ys (i + 1) = above f g xs ys i + (xs.getD i 0 - ys.getD i 0) + g * G4 f g xs ys i := rfl
theorem Sj {f g : Int} {xs ys : List Int} (hg : 0 < g) (i : Nat) : 0 <= above f g xs ys (i + 1) := by
 have := Nc (m := -(above f g xs ys i + (xs.getD i 0 - ys.getD i 0))) hg
 rw [Ms]
 unfold G4
 omega
theorem Yw (f g : Int) (xs ys : List Int) (i : Nat) : 0 <= G4 f g xs ys i := Wo _ _
theorem Zu {f g : Int} {xs ys : List Int} (hg : 0 < g) (hf : 0 <= f) (i : Nat) : -f <= above f g xs ys i := by
 cases i with
 | zero => exact Zyr _
 | succ i => have := Sj (f := f) (xs := xs) (ys := ys) hg i; omega
theorem Yx {f g : Int} {xs ys : List Int} (hg : 0 < g) (hf : 0 <= f) {i : Nat} (hx : 0 <= xs.getD i 0) (hy : 0 <= ys.getD i 0) : G4 f g xs ys i <= f + ys.getD i 0 := by
 have h1 := Zu (f := f) (xs := xs) (ys := ys) hg hf i
 unfold G4
 by_cases h : 0 <= -(above f g xs ys i + (xs.getD i 0 - ys.getD i 0))
 ·have := Wp hg h
  omega
 ·rw [Ru hg (by omega)]
  omega
theorem P4 {f g : Int} {xs ys : List Int} {n : Nat} (ch : Nat -> Int) (hc : ∀ i, i < n -> ch i = xs.getD i 0 + g * G4 f g xs ys i - ys.getD i 0) : ∀ i, i <= n -> above f g xs ys i = upS ch i - f
 | 0, _ => by show -f = 0 - f; omega
 | i + 1, h => by
  rw [Ms, P4 ch hc i (by omega)]
  show _ = upS ch i + ch i - f
  rw [hc i (by omega)]
  omega
def LRF (S : Sh) : Nat -> Str -> List Int
 | 0, _ => []
 | k + 1, x => match Qu S x with
  | some w => lots w.floor w.gives (Af (daysN S) (Df w)) (Bb S (LRF S k) x) (daysN S)
  | none => []
def LR (S : Sh) (x : Str) : List Int := LRF S S.wares.length x
theorem Py {S : Sh} {plan plan' : Str -> List Int} {nm : Str} (h : ∀ t ∈ S.wares, ∀ p ∈ t.parts, p.1 = nm -> plan t.name = plan' t.name) (d : Nat) : Ew S plan nm d = Ew S plan' nm d := by
 unfold Ew
 congr 1
 refine Lk λt ht => ?_
 unfold pAt
 refine Lk λp hp => ?_
 by_cases e : p.1 = nm
 ·rw [if_pos e, if_pos e, h t ht p hp e]
 ·rw [if_neg e, if_neg e]
theorem M5 {S : Sh} {plan plan' : Str -> List Int} {nm : Str} (h : ∀ t ∈ S.wares, ∀ p ∈ t.parts, p.1 = nm -> plan t.name = plan' t.name) : Bb S plan nm = Bb S plan' nm := Ch λd _ => Py h d
theorem Mw {S : Sh} (L : Lev S) (k : Nat) {w : Wr} (hw : w ∈ S.wares) : LRF S (k + 1) w.name = lots w.floor w.gives (Af (daysN S) (Df w)) (Bb S (LRF S k) w.name) (daysN S) := by rw [LRF, Lf L.nd hw]
theorem Sk {S : Sh} (L : Lev S) {r : Str -> Nat} (hr : ∀ w ∈ S.wares, r w.name < S.wares.length) (hp : ∀ w ∈ S.wares, ∀ p ∈ w.parts, r p.1 < r w.name) : ∀ k w, w ∈ S.wares -> S.wares.length - r w.name <= k -> LRF S (k + 1) w.name = LRF S k w.name
 | 0, w, hw, h => by have := hr w hw; omega
 | k + 1, w, hw, h => by
  rw [Mw L _ hw, Mw L _ hw]
  congr 1
  refine M5 λu hu p hpm e => ?_
  have h3 := hp u hu p hpm
  rw [e] at h3
  have := hr u hu
  exact Sk L hr hp k u hu (by omega)
theorem ag {S : Sh} (L : Lev S) {w : Wr} (hw : w ∈ S.wares) : LR S w.name = lots w.floor w.gives (Af (daysN S) (Df w)) (Bb S (LR S) w.name) (daysN S) := by
 obtain ⟨r, h1, h2⟩ := L.low
 have h3 := Sk L h1 h2 S.wares.length w hw (by omega)
 rw [Mw L _ hw] at h3
 exact h3.symm
theorem Mu {S : Sh} (L : Lev S) {w : Wr} (hw : w ∈ S.wares) : (LR S w.name).length = daysN S := by rw [ag L hw, Rt]
theorem Xs {S : Sh} (L : Lev S) {ys : List Str} (so : P6 (lv S) (S.wares.map (·.name)) ys) {i : Nat} {nm : Str} (hi : ys[i]? = some nm) {t : Wr} (ht : t ∈ S.wares) {p : Str × Int} (hp : p ∈ t.parts) (e : p.1 = nm) : t.name ∈ ys.take i := by
 have h1 := Uw L ht hp
 rw [e] at h1
 obtain ⟨j, hj⟩ := Zxu.mp (so.1.mem_iff.mpr (Zzl.mpr ⟨t, ht, rfl⟩))
 obtain ⟨hil, ei⟩ := Zzj.mp hi
 obtain ⟨hjl, ej⟩ := Zzj.mp hj
 have hlt : j < i := by
  rcases Nat.lt_trichotomy j i with z | z | z
  ·exact z
  ·subst z
   rw [ei] at ej
   rw [ej] at h1
   omega
  ·have := Zx2.mp so.2 i j hil hjl z
   rw [ei, ej] at this
   omega
 exact Zzn (i := j) (by rw [Zxa, if_pos hlt]; exact hj)
structure U6 (S : Sh) : Prop where
 wb : ∀ w ∈ S.wares, (1 <= w.gives /\ w.gives <= 10 ^ 41) /\ (0 <= w.floor /\ w.floor <= 10 ^ 41) /\ 0 <= w.stock /\ w.parts.length <= 12 /\ ∀ p ∈ w.parts, 1 <= p.2 /\ p.2 <= 10 ^ 41
 com : ∀ w ∈ S.wares, ∀ p ∈ w.coming, 0 <= p.2
 few : S.wares.length <= 12
 wt : S.wants.length <= 20 /\ ∀ u ∈ S.wants, 0 <= u.2.2 /\ u.2.2 <= 10 ^ 41
theorem L5 {α : Type} {l : List α} {f : α -> Int} (h : ∀ x ∈ l, 0 <= f x) : 0 <= Cc f l := by
 induction l with
 | nil => exact Zyr _
 | cons x r ih =>
  rw [Ht]
  have h1 := h x Zz6
  have h2 := ih λy hy => h y (Zz7 _ hy)
  omega
theorem Pc {α : Type} {l : List α} {f : α -> Int} {c : Int} {n : Nat} (hc : 0 <= c) (hl : l.length <= n) (h : ∀ x ∈ l, f x <= c) : Cc f l <= n * c := by
 induction l generalizing n with
 | nil => exact Zxd (Int.natCast_nonneg n) hc
 | cons x r ih =>
  cases n with
  | zero => cases hl
  | succ n =>
   rw [Ht]
   have h1 := h x Zz6
   have h2 := ih (n := n) (Nat.le_of_succ_le_succ hl) λy hy => h y (Zz7 _ hy)
   have e : ((n + 1 : Nat) : Int) * c = n * c + c := by rw [Int.natCast_add, Int.add_mul]; simp
   omega
theorem dk {xs : List Int} {B : Int} (hB : 0 <= B) (h : ∀ x ∈ xs, 0 <= x /\ x <= B) (i : Nat) : 0 <= xs.getD i 0 /\ xs.getD i 0 <= B := by
 rw [Zzv]
 cases e : xs[i]? with
 | none => exact ⟨Zyr _, hB⟩
 | some x => exact h x (Zzn e)
theorem Zr {xs : List Int} {B : Int} (hB : 0 <= B) (h : ∀ x ∈ xs, 0 <= x /\ x <= B) (lag : Int) (d : Nat) : 0 <= bAt xs lag d /\ bAt xs lag d <= B := by
 unfold bAt
 split
 ·exact dk hB h _
 ·exact ⟨Zyr _, hB⟩
theorem Wf {S : Sh} (E : U6 S) {plan : Str -> List Int} {B : Int} (hB : 0 <= B) (h : ∀ nm, ∀ x ∈ plan nm, 0 <= x /\ x <= B) (nm : Str) (d : Nat) : 0 <= Ew S plan nm d /\ Ew S plan nm d <= 20 * 10 ^ 41 + 12 * (12 * (10 ^ 41 * B)) := by
 have hB2 : 0 <= 10 ^ 41 * B := Zxd (by decide +kernel) hB
 have w0 : 0 <= Cc (wAt nm d) S.wants := L5 λu hu => by
  unfold wAt
  split
  ·exact (E.wt.2 u hu).1
  ·exact Zyr _
 have w1 : Cc (wAt nm d) S.wants <= (20 : Nat) * (10 : Int) ^ 41 := Pc (by decide +kernel) E.wt.1 λu hu => by
  unfold wAt
  split
  ·exact (E.wt.2 u hu).2
  ·decide +kernel
 have p0 : 0 <= Cc (pAt plan nm d) S.wares := L5 λt ht => L5 λp hp => by
  split
  ·exact Zxd (by have := ((E.wb t ht).2.2.2.2 p hp).1; omega) (Zr hB (h t.name) t.lag d).1
  ·exact Zyr _
 have p1 : Cc (pAt plan nm d) S.wares <= (12 : Nat) * (12 * (10 ^ 41 * B)) := Pc (by omega) E.few λt ht => by
  have : pAt plan nm d t <= (12 : Nat) * (10 ^ 41 * B) := Pc hB2 (E.wb t ht).2.2.2.1 λp hp => by
   split
   ·have h3 := (E.wb t ht).2.2.2.2 p hp
    have h4 := Zr hB (h t.name) t.lag d
    exact Int.mul_le_mul h3.2 h4.2 h4.1 (by decide +kernel)
   ·exact hB2
  exact this
 unfold Ew
 exact ⟨by omega, Int.add_le_add w1 p1⟩
theorem Zt {S : Sh} (E : U6 S) {w : Wr} (hw : w ∈ S.wares) (d : Nat) : 0 <= Df w d := by
 unfold Df
 have h1 : 0 <= (if d = 0 then w.stock else 0) := by
  split
  ·exact (E.wb w hw).2.2.1
  ·exact Zyr _
 have h2 : 0 <= Cc (cAt d) w.coming := L5 λp hp => by
  unfold cAt
  split
  ·exact E.com w hw p hp
  ·exact Zyr _
 omega
theorem ah {S : Sh} (E : U6 S) : ∀ (k : Nat) (nm : Str), ∀ x ∈ LRF S k nm, 0 <= x /\ x <= 10 ^ (45 * k)
 | 0, nm, x, h => by cases h
 | k + 1, nm, x, h => by
  have hB : (0 : Int) <= 10 ^ (45 * k) := Int.pow_nonneg (by decide)
  have h1 : (1 : Int) <= 10 ^ (45 * k) := Int.pow_pos (by decide)
  have e : (10 : Int) ^ (45 * (k + 1)) = 10 ^ (45 * k) * 10 ^ 45 := by rw [<- Int.pow_add]; rfl
  rw [LRF] at h
  split at h
  ·rename_i w hw
   have hw2 := (Vn hw).1
   unfold lots at h
   obtain ⟨i, hi, rfl⟩ := Zzl.mp h
   have hi := Zy8.mp hi
   have hwb := E.wb w hw2
   have hn := Wf E hB (λy => ah E k y) nm i
   have e1 : (Af (daysN S) (Df w)).getD i 0 = Df w i := Cy hi
   have e2 : (Bb S (LRF S k) nm).getD i 0 = Ew S (LRF S k) nm i := Cy hi
   have h2 := Yx (f := w.floor) (g := w.gives) (xs := Af (daysN S) (Df w)) (ys := Bb S (LRF S k) nm) (i := i) (by omega) hwb.2.1.1 (by rw [e1]; exact Zt E hw2 i) (by rw [e2]; exact hn.1)
   rw [e2] at h2
   refine ⟨Yw _ _ _ _ _, ?_⟩
   rw [e]
   have hn2 := hn.2
   have hf := hwb.2.1.2
   generalize (10 : Int) ^ (45 * k) = B at hB h1 hn2 ⊢
   omega
  ·cases h
theorem Mv {S : Sh} (E : U6 S) (nm : Str) : ∀ x ∈ LR S nm, 0 <= x /\ x < 10 ^ 600 := λx hx => by
 have h1 := ah E S.wares.length nm x hx
 have h2 : (10 : Int) ^ (45 * S.wares.length) <= 10 ^ (45 * 12) := by
  have : (10 : Nat) ^ (45 * S.wares.length) <= 10 ^ (45 * 12) := Nat.pow_le_pow_right (by decide) (Nat.mul_le_mul_left _ E.few)
  exact_mod_cast this
 exact ⟨h1.1, Int.lt_of_le_of_lt (Zxs h1.2 h2) (by decide +kernel)⟩
def E1 (row : List Int) (lag : Int) : Nat -> Option Nat
 | 0 => none
 | n + 1 => match E1 row lag n with
  | some d => some d
  | none => if (n : Int) < lag /\ 0 < row.getD n 0 then some n else none
def Bo (row : List Int) (lag : Int) : Option Nat := E1 row lag row.length
theorem Ku {row : List Int} {lag : Int} : ∀ {n : Nat}, E1 row lag n = none -> ∀ e, e < n -> ¬ ((e : Int) < lag /\ 0 < row.getD e 0)
 | 0, _, e, he => absurd he (Zxn _)
 | n + 1, h, e, he => by
  rw [E1] at h
  split at h
  ·cases h
  ·rename_i q
   split at h
   ·cases h
   ·rename_i c
    by_cases z : e = n
    ·subst z
     exact c
    ·exact Ku q e (by omega)
theorem Mi {row : List Int} {lag : Int} {n d : Nat} (h : E1 row lag n = some d) : ∀ k, E1 row lag (n + k) = some d
 | 0 => h
 | k + 1 => by
  show E1 row lag ((n + k) + 1) = some d
  rw [E1, Mi h k]
theorem Tr {row : List Int} {lag : Int} {n d : Nat} (h : E1 row lag n = some d) (hn : n <= row.length) : Bo row lag = some d := by
 have := Mi h (row.length - n)
 rw [Nat.add_sub_cancel' hn] at this
 exact this
theorem Ks {row : List Int} {lag : Int} : ∀ {n d : Nat}, E1 row lag n = some d -> d < n /\ (d : Int) < lag /\ 0 < row.getD d 0 /\ ∀ e, e < d -> ¬ ((e : Int) < lag /\ 0 < row.getD e 0)
 | 0, d, h => by cases h
 | n + 1, d, h => by
  rw [E1] at h
  split at h
  ·rename_i d' e
   obtain rfl := Zza h
   obtain ⟨h1, h2, h3, h4⟩ := Ks e
   exact ⟨by omega, h2, h3, h4⟩
  ·rename_i e
   split at h
   ·rename_i c
    obtain rfl := Zza h
    exact ⟨by omega, c.1, c.2, λi hi => Ku e i hi⟩
   ·cases h
end NP
set_option maxHeartbeats 400000
namespace L2
open PySem PySem.Spec PyProof.Rows PySem.W NP
section
variable {prog : Program} {w : World} {A : Around} {E : Value -> Shared -> Prop} {s : Shared}
end
end L2
namespace L2
open PySem PySem.Spec PyProof.Rows
section
variable {prog : Program} {w : World} {A : Around} {R : Result -> Shared -> Prop} {I : Addr} {fp wr : List Addr} {n : Nat} {P : Nat -> Value -> Prop} {St : Nat -> Heap -> Prop}
end
section
variable {X : Cx}
end
end L2
namespace L2
open PySem PySem.Spec PyProof.Rows PySem.W NP
section
variable {X : Cx}
end
end L2
namespace L2
open PySem PySem.Spec PyProof.Rows
section
variable {X : Cx}
theorem da : PIp X .Sub (rI0 λi j => .int (i - j)) := λpins s Z H x y v u Q I rx ry q => dc pins s Z H x y v u Q I rx ry q
end
end L2
set_option maxHeartbeats 4000000
namespace L2
open PySem PySem.Spec PyProof.Rows PySem.W
def N2 (e : Addr) (h : Heap) : Prop := ∃ (o : Obj) (vs : Array Value), h.get? e = some o /\ o.data = .fields vs /\ vs[2]? = some Value.none
def Kn {α : Type} (e : Addr) (t : Sem α) : Prop := ∀ (M : Model) (Γ : PySem.Ctx) (Q : α -> Pos -> Shared -> Prop) (E : Value -> Pos -> Shared -> Prop) (p : Pos) (s : Shared), N2 e s.heap -> Sem.wp M Γ t Q E p s -> Sem.wp M Γ t (λa p s => Q a p s /\ N2 e s.heap) E p s
section
variable {α β : Type} {e a : Addr}
theorem Kn.pure (x : α) : Kn e (Pure.pure x : Sem α) := λM Γ Q E p s n h => by
 rw [Sem.wp_pure'] at h ⊢
 exact ⟨h, n⟩
theorem Kn.bind {t : Sem α} {k : α -> Sem β} (ht : Kn e t) (hk : ∀ a, Kn e (k a)) : Kn e (t >>= k) := λM Γ Q E p s n h => by
 rw [Sem.wp_bind'] at h ⊢
 exact Sem.wp_mono M Γ t (λa p s z => hk a M Γ Q E p s z.2 z.1) (λ_ _ _ x => x) p s (ht M Γ _ E p s n h)
theorem Kn.uns (m : String) : Kn e (unsupported m : Sem α) := λM Γ Q E p s n h => False.elim h
theorem Kn.load : Kn e (load a) := λM Γ Q E p s n h => by
 obtain ⟨o, h1, h2⟩ := h
 exact ⟨o, h1, h2, n⟩
theorem Kn.stack : Kn e stack := λM Γ Q E p s n h => ⟨h, n⟩
theorem Kn.alloc (o : Obj) : Kn e (alloc o) := λM Γ Q E p s n h => by
 refine ⟨h, ?_⟩
 obtain ⟨o', vs, h1, h2⟩ := n
 exact ⟨o', vs, Zzy _ h1, h2⟩
theorem Kn.update (f : Obj -> Obj) (hf : ∀ (o : Obj) (vs : Array Value), o.data = .fields vs -> vs[2]? = some Value.none -> ∃ vs' : Array Value, (f o).data = .fields vs' /\ vs'[2]? = some Value.none) : Kn e (update a f) := λM Γ Q E p s n h => by
 obtain ⟨h1, h2⟩ := h
 refine ⟨h1, h2, ?_⟩
 obtain ⟨o, vs, e1, e2, e3⟩ := n
 by_cases z : e = a
 ·subst z
  obtain ⟨vs', e4, e5⟩ := hf o vs e2 e3
  exact ⟨f o, vs', Zxi _ e1 (Obj.isFreed_of_fields e4), e4, e5⟩
 ·exact ⟨o, vs, (Zyo _ _ (Zzf z)).trans e1, e2, e3⟩
theorem Kn.fieldsOf (v : Value) : Kn e (fieldsOf v) := by
 unfold PySem.fieldsOf
 repeat (first | exact Kn.pure _ | exact Kn.uns _ | exact Kn.load | (refine Kn.bind ?_ λ_ => ?_) | split)
theorem Kn.field (v : Value) (i : Nat) : Kn e (field v i) := by
 unfold PySem.field
 refine Kn.bind (Kn.fieldsOf v) λ_ => ?_
 repeat (first | exact Kn.pure _ | exact Kn.uns _ | exact Kn.load | (refine Kn.bind ?_ λ_ => ?_) | split)
theorem Kn.setField (v x : Value) {i : Nat} (hi : i ≠ 2) : Kn e (setField v i x) := by
 unfold PySem.setField updateField
 split
 ·refine Kn.bind Kn.load λo => ?_
  split
  ·split
   ·refine Kn.update _ λo vs h1 h2 => ⟨_, Obj.data_mapFields h1 _, ?_⟩
    rw [Array.getElem?_setIfInBounds_ne hi]
    exact h2
   ·exact Kn.uns _
  ·exact Kn.uns _
 ·exact Kn.uns _
theorem Kn.setFlight (v : Value) (f : Option Addr) : Kn e (setFlight v f) := by
 unfold PySem.setFlight
 refine Kn.bind (Kn.field _ _) λ_ => ?_
 split
 ·exact Kn.setField _ _ (by decide)
 ·exact Kn.pure _
theorem Kn.ready : ∀ l : List Env, Kn e (readyFrames l)
 | [] => Kn.pure _
 | env :: outer => by
  have hb : Kn e (behindIsImport env outer) := by
   unfold behindIsImport
   repeat (first | exact Kn.pure _ | exact Kn.uns _ | exact Kn.field _ _ | (refine Kn.bind ?_ λ_ => ?_) | split)
  have hk : ∀ b, Kn e (keptBack env b outer) := λb => by
   unfold keptBack underTheClaimsCaller
   repeat (first | exact Kn.pure _ | exact Kn.stack | (refine Kn.bind ?_ λ_ => ?_) | split)
  unfold readyFrames
  split
  ·refine Kn.bind Kn.load λo => ?_
   split
   ·exact Kn.pure _
   ·refine Kn.bind hb λb => Kn.bind (hk b) λv => Kn.bind (Kn.update _ λo vs h1 h2 => ⟨vs, h1, h2⟩) λ_ => Kn.ready outer
  ·exact Kn.uns _
theorem Kn.frameOf (env : Env) : Kn e (frameOf env) := by
 unfold PySem.frameOf frameEnvs
 refine Kn.bind (Kn.bind Kn.stack λ_ => Kn.pure _) λl => Kn.bind ?_ λo => ?_
 ·unfold frameObject
  split
  ·exact Kn.pure _
  ·exact Kn.bind (Kn.ready _) λ_ => Kn.pure _
 ·split
  ·exact Kn.pure _
  ·exact Kn.uns _
theorem Kn.newFields (ty : String) (vs : List Value) : Kn e (newFields ty vs) := by
 unfold PySem.newFields newObj newObjAsIs
 dsimp only
 repeat (first | exact Kn.pure _ | exact Kn.uns _ | exact Kn.alloc _ | (refine Kn.bind ?_ λ_ => ?_) | split)
theorem Kn.place (f : Addr) (b : Bool) : Kn e (entryPlaceOf f b) := by
 unfold entryPlaceOf
 refine Kn.bind Kn.stack λ_ => ?_
 split
 ·exact Kn.pure _
 ·exact Kn.pure _
theorem Kn.noteFrame (v : Value) (env : Env) : Kn e (noteFrame v env) := by
 unfold PySem.noteFrame EntryCells.newEntry
 repeat (first | exact Kn.pure _ | exact Kn.uns _ | exact Kn.field _ _ | exact Kn.setField _ _ (by decide) | exact Kn.frameOf _ | exact Kn.place _ _ | exact Kn.newFields _ _ | (refine Kn.bind ?_ λ_ => ?_) | split)
theorem Kn.leaving (v : Value) (env : Env) : Kn e (leaving env v) := Kn.bind (Kn.noteFrame v env) λ_ => Kn.setFlight v none
theorem Kn.any {t : Sem α} {M : Model} {A : Around} {Q : α -> Shared -> Prop} {E : Value -> Shared -> Prop} {s : Shared} (k : Kn e t) (n : N2 e s.heap) (h : wpAny M A t Q E s) : wpAny M A t (λa s' => Q a s' /\ N2 e s'.heap) E s := λΓ p hΓ => k M Γ _ _ p s n (h Γ p hΓ)
theorem Kn.with {t : Sem Unit} {M : Model} {A : Around} {Q : Unit -> Shared -> Prop} {E : Value -> Shared -> Prop} {s : Shared} {C : Heap -> Prop} (k : Kn e t) (n : N2 e s.heap) (h : ∀ Q' : Unit -> Shared -> Prop, (∀ h', C h' -> Q' () { s with heap := h' }) -> wpAny M A t Q' E s) (hq : ∀ h', C h' -> N2 e h' -> Q () { s with heap := h' }) : wpAny M A t Q E s := by
 refine wpAny_mono (k.any n (h (λ_ s' => ∃ h', s' = { s with heap := h' } /\ C h') λh' c => ⟨h', rfl, c⟩)) (λ_ s' z => ?_) λ_ _ x => x
 obtain ⟨⟨h', rfl, c⟩, n'⟩ := z
 exact hq h' c n'
end
theorem ObjOk.ex {P : Program} {w : World} {H : Hp} {h : Heap} {a : Addr} {o : HO} (x : ObjOk P w H h a o) : ∃ ob, h.get? a = some ob := by
 cases o with
 | lst xs => obtain ⟨_, _, _, _, e⟩ := x; exact ⟨_, e⟩
 | tup xs => obtain ⟨_, _, _, ob, e, _⟩ := x; exact ⟨ob, e⟩
 | dK kvs => obtain ⟨_, _, _, _, o, _, _, e, _⟩ := x; exact ⟨o, e⟩
 | dT kvs => obtain ⟨_, _, _, _, o, _, _, e, _⟩ := x; exact ⟨o, e⟩
 | set S n => obtain ⟨ob, _, _, _, e, _⟩ := x; exact ⟨ob, e⟩
 | ins C dx fs => obtain ⟨_, _, _, e, _⟩ := x; exact ⟨_, e⟩
 | own y => exact x
 | xd fs => obtain ⟨_, ⟨od, _, _, e, _⟩, _⟩ := x; exact ⟨od, e⟩
 | rng lo hi => obtain ⟨_, _, _, e⟩ := x; exact ⟨_, e⟩
 | frz ob u => exact ⟨_, x.1⟩
 | tbl ps => exact ⟨_, x⟩
 | met f y => exact ⟨_, x⟩
 | ext φ => exact x.2.1
structure Fl (P : Program) (w : World) (fs : List Addr) (H : Hp) (h : Heap) (a : Addr) (H' : Hp) (B h' : Heap) : Prop where
 un : Un fs [] H H' h h'
 hok : HOk P w H' h'
 new : h.get? a = none
 free : H' a = none
 k1 : ∀ b o, h.get? b = some o -> H b = none -> b ∉ fs -> B.get? b = some o
 k2 : ∀ b o u, H' b = some u -> h'.get? b = some o -> B.get? b = some o
 k3 : ∀ b o, h.get? b = some o -> b ∉ fs -> ∃ o', B.get? b = some o'
 fr : ∀ b ∈ fs, ∃ o, h.get? b = some o /\ H b = none /\ ∀ vs, o.data ≠ .fields vs
section
variable {P : Program} {w : World} {fs : List Addr} {H H' H0 : Hp} {h h0 h1 h2 B : Heap} {a L : Addr}
theorem Fl.slots (F : Fl P w fs H h a H' B h1) (up : h1.UpToSlots h2) {b : Addr} {o : Obj} (e : h.get? b = some o) (hb : b ∈ fs) : ∃ sl, h2.get? b = some { o with slots := sl } := by
 obtain ⟨o', e', n, hd⟩ := F.fr b hb
 rw [e] at e'
 cases e'
 obtain ⟨sl, q⟩ := F.un.slot b o e n hb (by simp)
 obtain ⟨sl2, q2⟩ := up b _ q hd
 exact ⟨sl2, q2⟩
theorem Fl.on (F : Fl P w fs H h a H' B h1) (st : B.StaysIn h2) (up : h1.UpToSlots h2) : Fl P w fs H h a H' B h2 where
 un := {
  keep := λb o e n hb _ => st b o (F.k1 b o e n hb)
  slot := λb o e n hb _ => F.slots up e hb
  free := F.un.free
  there := λb o e _ => by
   by_cases hb : b ∈ fs
   ·obtain ⟨sl, q⟩ := F.slots up e hb
    exact ⟨_, q⟩
   ·obtain ⟨o', q⟩ := F.k3 b o e hb
    exact ⟨o', st b o' q⟩
  tups := F.un.tups
  frzs := F.un.frzs
  tbls := F.un.tbls }
 hok := λb u e => (F.hok b u e).stay (λc o hc q => st c o (by
  rcases hc with rfl | hc
  ·exact F.k2 _ o u e q
  ·exact F.k2 c o _ hc q)) (λ_ q => q) λ_ _ q => q
 new := F.new
 free := F.free
 k1 := F.k1
 k2 := λb o u e q => by
  obtain ⟨o1, q1⟩ := (F.hok b u e).ex
  have z := F.k2 b o1 u e q1
  have z2 := st _ _ z
  rw [q] at z2
  cases z2
  exact z
 k3 := F.k3
 fr := F.fr
theorem Fl.out (F : Fl P w (L :: fs) H h a H' B h1) (U : Un fs [] H0 H h0 h) (hL : h0.objs.size <= L) (fr : ∀ b ∈ fs, ∃ o, h0.get? b = some o /\ H0 b = none /\ ∀ vs, o.data ≠ .fields vs) : Fl P w fs H0 h0 a H' B h1 := by
 have nL : ∀ b o, h0.get? b = some o -> b ∉ fs -> b ∉ L :: fs := λb o e hb z => by
  rcases Zzk.mp z with z | z
  ·rw [z] at e
   exact absurd (Zzi (Zzo e) hL) (Zxk _)
  ·exact hb z
 have nx : ∀ b : Addr, b ∉ ([] : List Addr) := λb z => by cases z
 refine ⟨⟨λb o e n hb hx => ?_, λb o e n hb hx => ?_, λb o e n hx => ?_, λb o e hx => ?_, λb xs e => F.un.tups b xs (U.tups b xs e), λb o u e => F.un.frzs b o u (U.frzs b o u e), λb ps e => ?_⟩, F.hok, ?_, F.free, λb o e n hb => ?_, F.k2, λb o e hb => ?_, fr⟩
 ·exact F.un.keep b o (U.keep b o e n hb hx) (U.free b o e n hx) (nL b o e hb) hx
 ·obtain ⟨sl, q⟩ := U.slot b o e n hb hx
  obtain ⟨sl2, q2⟩ := F.un.slot b _ q (U.free b o e n hx) (Zz7 _ hb) hx
  exact ⟨sl2, q2⟩
 ·obtain ⟨o', q⟩ := U.there b o e hx
  exact F.un.free b o' q (U.free b o e n hx) hx
 ·obtain ⟨o', q⟩ := U.there b o e hx
  exact F.un.there b o' q hx
 ·obtain ⟨m1, e1⟩ := U.tbls b ps e
  obtain ⟨m2, e2⟩ := F.un.tbls b _ e1
  exact ⟨m1 ++ m2, by rw [e2, Array.append_assoc]⟩
 ·cases e : h0.get? a with
  | none => rfl
  | some o =>
   obtain ⟨o', q⟩ := U.there a o e (nx a)
   rw [F.new] at q
   cases q
 ·exact F.k1 b o (U.keep b o e n hb (nx b)) (U.free b o e n (nx b)) (nL b o e hb)
 ·obtain ⟨o', q⟩ := U.there b o e (nx b)
  exact F.k3 b o' q (nL b o e hb)
end
abbrev CXE (P : Program) (w : World) : CXT := λouter H s E e s' => ∃ (a : Addr) (cls : Value) (H' : Hp) (B : Heap) (t : Addr), e = .ref a /\ s'.os = s.os /\ AllBare s'.gens /\ Fl P w (frs outer) H s.heap a H' B s'.heap /\ (Zwi B outer a cls (.ref t) s'.heap /\ N2 a s'.heap) /\ E cls none H'
abbrev XG := Value -> St -> Hp -> Prop
def Qq (X : Cx) (G : XG) : Prop := ∀ (pins : List (Addr × Obj)) (Z : St) (H : Hp) (s : Shared) (e : Value) (s' : Shared), Inv X pins Z H s -> CXE X.prog X.w X.stack H s (λcls _ H' => G cls Z H') e s' -> X.xe e s'
def ad (X : Cx) (G : XG) : Prop := ∀ (pins : List (Addr × Obj)) (Z : St) (H : Hp) (s : Shared) (h' : Heap) (e : Addr) (cls : Value) (vs : List Value), Inv X pins Z H s -> Heap.MadeExcOf s.heap h' e cls vs -> G cls Z H -> X.xe (.ref e) { s with heap := h' }
section
variable {P : Program} {w : World} {K : Zzu} {mg : Str -> Option Value} {base : Heap} {N : List Str} {qual : Str} {scope : Scope} {f : Addr} {cd : Value} {A : Around} {outer : List Env} {s : Shared} {H : Hp} {E : XK}
theorem Inv.frfl {X : Cx} {pins : List (Addr × Obj)} {Z : St} {H : Hp} {s : Shared} (I : Inv X pins Z H s) : ∀ b ∈ frs X.stack, ∃ o, s.heap.get? b = some o /\ H b = none /\ ∀ vs, o.data ≠ .fields vs := λb hb => by
 obtain ⟨_, o, ho, hd⟩ := I.stack.mem hb
 exact ⟨o, ho, I.stkFree b hb, hd⟩
theorem gq {X : Cx} {pins : List (Addr × Obj)} {Z : St} {H : Hp} {s : Shared} (I : Inv X pins Z H s) : ∀ b ∈ frs X.outer, ∃ o, X.s₀.heap.get? b = some o /\ X.H₀ b = none /\ ∀ vs, o.data ≠ .fields vs := λb hb => by
 obtain ⟨_, o, ho, hd⟩ := I.ok.funs.mem hb
 exact ⟨o, ho, I.ok.frf b hb, hd⟩
theorem Um : Qq (Mk (CXE P w) P w K mg base N qual scope f cd A outer s H E) λcls _ H' => E cls none H' := by
 intro pins Z H1 s1 e s' I ⟨a, cls, H2, B, t, he, os, bare, F, fl, hE⟩
 subst he
 refine (Kn.leaving (.ref a) _).with fl.2 (C := λh' => Zwi B outer a cls (.ref t) h' /\ s'.heap.UpToSlots h') (λQ' hq => wpAny_leaves_onW (outer := outer) I.ok.frames rfl fl.1 λh' x y => hq h' ⟨x, y⟩) λh' z n' => ?_
 obtain ⟨fl', up⟩ := z
 have F1 : Fl P w (s.heap.objs.size :: frs outer) H1 s1.heap a H2 B h' := F.on fl'.1 up
 exact ⟨a, cls, H2, B, t, rfl, os.trans I.os, bare, F1.out I.base (Zzw _) (gq I), ⟨fl', n'⟩, hE⟩
theorem Inv.flNew {X : Cx} {pins : List (Addr × Obj)} {Z : St} {H : Hp} {s : Shared} {h' : Heap} {e : Addr} {cls : Value} {vs : List Value} (I : Inv X pins Z H s) (hx : Heap.MadeExcOf s.heap h' e cls vs) : Fl X.prog X.w (frs X.stack) H s.heap e H (hideAll s.heap (frs X.stack)) h' where
 un := Un.kept hx.keeps
 hok := I.hok.kept hx.keeps
 new := hx.new
 free := by
  cases q : H e with
  | none => rfl
  | some u =>
   obtain ⟨ob, z⟩ := (I.hok e u q).ex
   rw [hx.new] at z
   cases z
 k1 := λb o q _ hb => hideAll_get _ q hb
 k2 := λb o u q z => by
  obtain ⟨o1, z1⟩ := (I.hok b u q).ex
  have z2 := hx.keeps b o1 z1
  rw [z] at z2
  cases z2
  exact hideAll_get _ z1 λm => by rw [I.stkFree b m] at q; cases q
 k3 := λb o q hb => ⟨o, hideAll_get _ q hb⟩
 fr := I.frfl
theorem Uv : ad (Mk (CXE P w) P w K mg base N qual scope f cd A outer s H E) λcls _ H' => E cls none H' := by
 intro pins Z H1 s1 h' e cls vs I hx hE
 have F := I.flNew hx
 have n0 : N2 e h' := by
  obtain ⟨t, he, _⟩ := hx.there
  exact ⟨_, _, he, rfl, rfl⟩
 refine (Kn.leaving (.ref e) _).with (s := { s1 with heap := h' }) n0 (C := λh2 => ∃ t, Zwi (hideAll s1.heap (frs (envOfC qual scope s.heap.objs.size f cd :: outer))) outer e cls (.ref t) h2 /\ h'.UpToSlots h2) (λQ' hq => wpAny_leaves_madeW (outer := outer) (h := s1.heap) I.ok.frames rfl (λb o q => of_hideAll _ q) (funFrames_hide I.stack λenv he b hb => Zxc.mpr ⟨env, he, hb⟩) hx λh2 t fl _ _ up => hq h2 ⟨t, fl, up⟩) λh2 z n2 => ?_
 obtain ⟨t, fl, up⟩ := z
 have F1 : Fl P w (s.heap.objs.size :: frs outer) H1 s1.heap e H1 _ h2 := F.on fl.1 up
 exact ⟨e, cls, H1, _, t, rfl, I.os, I.bare, F1.out I.base (Zzw _) (gq I), ⟨fl, n2⟩, hE⟩
end
theorem Fun.okX {P : Program} {w : World} {K : Zzu} {mg : Str -> Option Value} {base : Heap} {x qual : Str} {st : Stmt} {f : Addr} {fd : FuncData} {N ps : List Str} {k : Nat} {sp : Sp} (F : Fun K x qual st f fd) (S : Aj N ps (A9 st)) (len : ∀ vs H Q E, sp vs H Q E -> vs.length = ps.length)
  (hbody : ∀ (cdv : Value) (A : Around) (outer : List Env) (s : Shared) (H : Hp) (vs : List V) (Q : VK) (E : XK), Room k (A.deeper (envOfC qual (A9 st) s.heap.objs.size f cdv)) -> sp vs H Q E ->
   ∃ t, PSs (Mk (CXE P w) P w K mg base N qual (A9 st) f cdv A outer s H E) (Ah st) t /\ t { nx := λ_ H' => Q .non H', rt := Q } (Gw N vs) H) : FnOk P w K mg base (CXE P w) (k + 1) f fd ps sp := by
 obtain ⟨oc, od, kV, doc, pm, an, cdv, ct, osl, rfl, lk, hcd⟩ := F.ex
 exact V3 lk hcd S len λA outer s H vs Q E hr hsp => hbody cdv A outer s H vs Q E hr hsp
def HasX (P : Program) (w : World) (K : Zzu) (mg : Str -> Option Value) (base : Heap) (x : Str) (k : Nat) (ps : List Str) (sp : Sp) : Prop :=
 ∃ f fd, mg x = some (.ref f) /\ Zzh K (.ref f) = true /\ Binds K fd ps [] /\ FnOk P w K mg base (CXE P w) k f fd ps sp
def Xx (sp : Sp) (G : XG) (t : TA) : TE := λZ H Q => t Z H λvs H1 => sp vs H1 Q λcls _ H' => G cls Z H'
theorem bd {X : Cx} {k : Nat} {f : Addr} {fd : FuncData} {ps : List Str} {sp : Sp} {G : XG} {pins : List (Addr × Obj)} {Z : St} {H : Hp} {s : Shared} {Q : VK} {us : List Value} {vs : List V} (F : FnOk X.prog X.w X.K X.mg X.base (CXE X.prog X.w) k f fd ps sp) (hr : Room k X.A) (hb : Binds X.K fd ps []) (hp : Qq X G)
  (I : Inv X pins Z H s) (r : Vals vs us) (h : sp vs H Q λcls _ H' => G cls Z H') : wpAny (model X.prog X.w) X.A (call (.ref f) us) (EP X pins Z Q) X.xe s := by
 have hl : us.length = ps.length := by rw [<- r.length]; exact F.len _ _ _ _ h
 have hb' := hb s us I.kIn (by rw [Zya]; exact hl)
 rw [Zya] at hb'
 refine wpAny_call (codeAny_mono (F.run X.A X.stack s H ⟨us, []⟩ us vs Q _ hr I.env0 hb' r h) λr s' hq => ?_)
 cases r with
 | error e => exact hp pins Z H s e s' I hq
 | ok fl =>
  cases fl with
  | ret u => exact I.after hq
  | next => exact False.elim hq
  | brk => exact False.elim hq
  | cont => exact False.elim hq
theorem He {X : Cx} {x : Str} {k : Nat} {ps : List Str} {sp : Sp} {G : XG} {e : Expr} {es : List Expr} {t : TA} {p pos : Pos} (h : HasX X.prog X.w X.K X.mg X.base x k ps sp) (hp : Qq X G) (hr : Room k X.A) (hg : Gl X x) (ha : PA X (e :: es) t) (hn : Bz (e :: es) = true := by rfl) (hdb : (x == ("__debug__" : Str)) = false := by decide) :
  PE X (.Call (.Name x p) (e :: es) [] pos) (Xx sp G t) := by
 obtain ⟨f, fd, hm, hk, hb, F⟩ := h
 intro pins s Z H Q I ht
 refine wpAny_Call_Name_kw (Jj I hg hm ?_ hdb)
 refine PySem.W.callWith_K (h₀ := X.base) I.ok.mod.kin hk (thn (ha pos pins s Z H _ I ht) λus s1 ⟨vs, H1, I1, r, q⟩ => ⟨I1.kIn, ?_⟩) (Ba (B0 hn).1) (C1 (B0 hn).2)
 exact bd F hr hb hp I1 r q
abbrev Cx.tried (X : Cx) (pn : List (Addr × Obj)) (W : Value -> Shared -> Prop) : Cx := { X with pn := pn, xe := W }
abbrev Cx.caught (X : Cx) (a : Addr) : Cx := { X with A := X.A.mark (some (.ref a)), calm := false, xe := λ_ _ => False }
def Qg (a : Addr) (cls : Value) : HO := .ext λh => (∃ o, h.get? a = some o /\ o.cls = cls) /\ N2 a h
section
variable {X : Cx} {pins : List (Addr × Obj)} {Z : St} {H H' : Hp} {s s' : Shared} {W : Value -> Shared -> Prop} {a : Addr} {cls : Value} {B : Heap}
theorem Inv.tried (I : Inv X pins Z H s) (W : Value -> Shared -> Prop) : Inv (X.tried (X.pn ++ pins) W) [] Z H s :=
 ⟨⟨I.ok.mod, I.ok.kind, I.ok.glob, I.ok.blt, I.ok.above, I.ok.inj, I.ok.has, I.ok.cab, I.ok.hd, I.ok.frames, I.ok.stk, I.ok.exf, I.ok.bs, I.ok.bsz, I.ok.noex, I.ok.exfs, I.ok.funs, I.ok.frf⟩, I.os, I.bare, I.base, I.loc, I.cell, I.free, I.freeC, λp hp => I.pin p (by rw [Zya] at hp; exact hp), I.hok, I.len⟩
theorem Inv.untried {ps : List (Addr × Obj)} (I : Inv (X.tried (X.pn ++ pins) W) ps Z H s) : Inv X pins Z H s :=
 ⟨⟨I.ok.mod, I.ok.kind, I.ok.glob, I.ok.blt, I.ok.above, I.ok.inj, I.ok.has, I.ok.cab, I.ok.hd, I.ok.frames, I.ok.stk, I.ok.exf, I.ok.bs, I.ok.bsz, I.ok.noex, I.ok.exfs, I.ok.funs, I.ok.frf⟩, I.os, I.bare, I.base, I.loc, I.cell, I.free, I.freeC, λp hp => I.pin p (Zyf _ hp), I.hok, I.len⟩
theorem Inv.caught (I : Inv X pins Z H s) (a : Addr) : Inv (X.caught a) pins Z H s :=
 ⟨⟨I.ok.mod, I.ok.kind, I.ok.glob, I.ok.blt, I.ok.above, I.ok.inj, I.ok.has, I.ok.cab, (λz => by cases z), I.ok.frames, I.ok.stk, I.ok.exf, I.ok.bs, I.ok.bsz, I.ok.noex, I.ok.exfs, I.ok.funs, I.ok.frf⟩, I.os, I.bare, I.base, I.loc, I.cell, I.free, I.freeC, I.pin, I.hok, I.len⟩
theorem Inv.uncaught (I : Inv (X.caught a) pins Z H s) (ok : X.Ok) : Inv X pins Z H s := ⟨ok, I.os, I.bare, I.base, I.loc, I.cell, I.free, I.freeC, I.pin, I.hok, I.len⟩
theorem Inv.lands (I : Inv X pins Z H s) (os : s'.os = s.os) (bare : AllBare s'.gens) (F : Fl X.prog X.w (frs X.stack) H s.heap a H' B s'.heap) (hc : ∃ o, s'.heap.get? a = some o /\ o.cls = cls) (hn : N2 a s'.heap) : Inv X pins Z (upd H' a (Qg a cls)) s' := by
 have na : ∀ b u, H' b = some u -> b ≠ a := λb u e z => by rw [z, F.free] at e; cases e
 refine I.call' (ch := []) os ⟨F.un.keep, F.un.slot, λb o e n hx => ?_, F.un.there, λb xs e => ?_, λb o u e => ?_, λb ps e => ?_⟩ (λb u e => ?_) bare (λb z => by cases z)
 ·rw [A3 (λz => by rw [z, F.new] at e; cases e)]
  exact F.un.free b o e n hx
 ·have q := F.un.tups b xs e
  rw [A3 (na b _ q)]
  exact q
 ·have q := F.un.frzs b o u e
  rw [A3 (na b _ q)]
  exact q
 ·obtain ⟨more, q⟩ := F.un.tbls b ps e
  exact ⟨more, by rw [A3 (na b _ q)]; exact q⟩
 ·by_cases hb : b = a
  ·subst hb
   rw [A0] at e
   cases e
   obtain ⟨o, ho, hcl⟩ := hc
   exact ⟨⟨⟨o, ho, hcl⟩, hn⟩, ⟨o, ho⟩, λh1 h2 ⟨⟨o, e, c⟩, o', vs, e', r⟩ k => ⟨⟨o, k o e, c⟩, o', vs, k o' e', r⟩⟩
  ·rw [A3 hb] at e
   exact (F.hok b u e).stay (λc o _ q => q) (λc q => by rw [A3 (na c _ q)]; exact q) λc xs q => by rw [A3 (na c _ q)]; exact q
theorem Hy {M : Model} {A : Around} {E : Value -> Shared -> Prop} {i : Nat} {n : Str} {pos : Pos} {Q : Unit -> Shared -> Prop} (I : Inv X pins Z H s) (nd : X.N.Nodup) (hi : X.N[i]? = some n) (hl : X.env.scope.names.lookup n = some .local) (h : ∀ s', Inv X pins (Z.set i none) H s' -> Q () s') :
  wpAny M A (do bindName X.env n .none; unbindBehindTheSuite X.env n pos) Q E s := by
 obtain ⟨m, hn, hlk⟩ := I.loc
 refine wpAny_nameGoes_keeps (m := m) hl hn (by rw [I.ok.kind]; rfl) λh' v hn' hs => h _ ?_
 have neL : ∀ b o, X.s₀.heap.get? b = some o -> b ≠ X.env.locals := λb o e => Zz0 (Zzi (Zzo e) I.ok.above)
 refine ⟨I.ok, I.os, I.bare, ⟨λb o e n hb hx => (hs.2 b (neL b o e)).trans (I.base.keep b o e n hb hx), λb o e n hb hx => ?_, I.base.free, λb o e hx => ?_, I.base.tups, I.base.frzs, I.base.tbls⟩, ⟨_, hn', λj y v' e1 e2 e3 => ?_⟩, λy c e => ?_, I.free, I.freeC, λp hp => ?_, λb u e => ?_, by rw [Zw0]; exact I.len⟩
 ·obtain ⟨sl, q⟩ := I.base.slot b o e n hb hx
  exact ⟨sl, (hs.2 b (neL b o e)).trans q⟩
 ·obtain ⟨o', q⟩ := I.base.there b o e hx
  exact ⟨o', (hs.2 b (neL b o e)).trans q⟩
 ·by_cases hj : j = i
  ·subst hj
   rw [List.getElem?_set] at e2
   split at e2 <;> rename_i z
   ·split at e2 <;> cases e2
   ·exact absurd rfl z
  ·rw [Zye (Zzf hj)] at e2
   obtain ⟨u', r', q⟩ := hlk j y v' e1 e2 e3
   refine ⟨u', r', ?_⟩
   rcases q with ⟨k, e⟩ | ⟨k, c, e, z⟩
   ·refine .inl ⟨k, ?_⟩
    have : y ≠ n := λe => hj (M3 nd e1 (e ▸ hi))
    simp [this, e]
   ·exact .inr ⟨k, c, e, z.sameBut hs (I.cne y c e)⟩
 ·obtain ⟨w', z⟩ := I.cell y c e
  exact ⟨w', z.sameBut hs (I.cne y c e)⟩
 ·obtain ⟨e, n, ne, nf, d⟩ := I.pin p hp
  exact ⟨(hs.2 p.1 ne).trans e, n, ne, nf, d⟩
 ·refine (I.hok b u e).stay (λc o hc q => ?_) (λ_ q => q) λ_ _ q => q
  have nc : c ≠ X.env.locals := λz => by
   rcases hc with rfl | hc
   ·rw [z, I.free] at e; cases e
   ·rw [z, I.free] at hc; cases hc
  exact (hs.2 c nc).trans q
end
def Ends.lose (D : Ends) (i : Nat) : Ends := { nx := λZ H => D.nx (Z.set i none) H, rt := D.rt, bk := λZ H => D.bk (Z.set i none) H, ct := λZ H => D.ct (Z.set i none) H }
def kj (i : Nat) (fits : Value -> Prop) (tb : XG -> TS) (ts : Addr -> TS) : TS := λD Z H => tb (λcls Z' H' => fits cls /\ ∀ a, H' a = none -> ts a (D.lose i) (Z'.set i (some (.ref a))) (upd H' a (Qg a cls))) D Z H
theorem ip {X : Cx} {body suite : List Stmt} {b₀ : Stmt} {c n : Str} {cp hp pos : Pos} {i : Nat} {C0 : Addr} {tb : XG -> TS} {ts : Addr -> TS} {fits : Value -> Prop} (nd : X.N.Nodup) (hi : X.N[i]? = some n) (hl : X.env.scope.names.lookup n = some .local) (hst : X.stack = X.env :: X.outer) (hfr : X.env.frame = some X.env.locals)
  (hg : Gl X c) (hm : X.mg c = some (.ref C0)) (hf : ∀ cls, fits cls -> exmOne X.K cls (.ref C0) = some true)
  (hb : ∀ (pn : List (Addr × Obj)) (W : Value -> Shared -> Prop) (G : XG), Qq (X.tried pn W) G -> PSs (X.tried pn W) body (tb G)) (hs : ∀ a, PSs (X.caught a) (b₀ :: suite) (ts a)) (hd : (c == ("__debug__" : Str)) = false := by decide) :
  PS X (.Try body [.ExceptHandler (some (.Name c cp)) (some n) (b₀ :: suite) hp] [] [] pos) (kj i fits tb ts) := by
 intro pins s Z H D I h
 refine wpAny_Try_except ?_
 refine wpAny_mono (hb (X.pn ++ pins) (λe s' => ∃ a cls σ1 H1 s1 H' B t, e = .ref a /\ Inv X pins σ1 H1 s1 /\ s'.os = s1.os /\ AllBare s'.gens /\ Fl X.prog X.w (frs X.stack) H1 s1.heap a H' B s'.heap /\ (Zwi B X.stack a cls (.ref t) s'.heap /\ N2 a s'.heap) /\
  fits cls /\ ∀ a, H' a = none -> ts a (D.lose i) (σ1.set i (some (.ref a))) (upd H' a (Qg a cls))) _ (λps σ1 H1 s1 e s' I1 ⟨a, cls, H', B, t, he, os, bare, F, fl, q⟩ => ⟨a, cls, σ1, H1, s1, H', B, t, he, I1.untried, os, bare, F, fl, q⟩) [] s Z H D (I.tried _) h) (λf s1 q => ?_) (λe s' q => ?_)
 ·cases f with
  | next => obtain ⟨Z', H', I', q⟩ := q; exact wpAny_pure ⟨Z', H', I'.untried, q⟩
  | brk => obtain ⟨Z', H', I', q⟩ := q; exact ⟨Z', H', I'.untried, q⟩
  | cont => obtain ⟨Z', H', I', q⟩ := q; exact ⟨Z', H', I'.untried, q⟩
  | ret u => obtain ⟨v, Z', H', I', r, q⟩ := q; exact ⟨v, Z', H', I'.untried, r, q⟩
 ·obtain ⟨a, cls, σ1, H1, s1, H', B, t, rfl, I1, os, bare, F, fl, hf1, hq⟩ := q
  obtain ⟨fl, n3⟩ := fl
  have fl' := fl
  rw [hst] at fl'
  refine (Kn.noteFrame (.ref a) _).with n3 (C := λh' => Heap.HeldW B (X.env :: X.outer) a cls (.ref t) X.env.locals h' /\ s'.heap.UpToSlots h') (λQ' hq => wpAny_looks_onW (outer := X.outer) (by rw [I.ok.frames, hst]) hfr fl' λh' x y => hq h' ⟨x, y⟩) λh4 z4 n4 => ?_
  obtain ⟨held, up4⟩ := z4
  refine (Kn.setFlight (.ref a) none).with (s := { s' with heap := h4 }) n4 (C := λh' => Zwi B (X.env :: X.outer) a cls (.ref t) h' /\ h4.UpToSlots h') (λQ' hq => wpAny_landsW held λh' x y => hq h' ⟨x, y⟩) λh5 z5 n5 => ?_
  obtain ⟨fl5, up5⟩ := z5
  have F5 := (F.on held.1 up4).on fl5.1 up5
  have I5 : Inv X pins σ1 H' { s' with heap := h5 } := I1.call' (ch := []) os F5.un F5.hok bare (λb z => by cases z)
  refine wpAny_handleBy_cons (codeAny_handlers_test ?_) (by intro z; cases z)
  refine Jj (X := X.caught a) (I5.caught a) hg hm ?_ hd
  obtain ⟨oe, hoe, hoc⟩ := fl5.there
  have LT : Looks (model X.prog X.w) h5 (typeOf (.ref a)) cls := hoc ▸ (Looks.ld hoe).andThen .now
  refine (exm_one I5.kIn LT (hf cls hf1)).here ?_
  refine codeAny_handlers_suite_as ?_
  refine (Kn.setFlight (.ref a) none).with (s := { s' with heap := h5 }) n5 (C := λh' => Zwi B (X.env :: X.outer) a cls (.ref t) h' /\ h5.UpToSlots h') (λQ' hq => lands_againW fl5 λh' x y => hq h' ⟨x, y⟩) λh6 z6 n6 => ?_
  obtain ⟨fl6, up6⟩ := z6
  have F6 := F5.on fl6.1 up6
  have I6 : Inv X pins σ1 (upd H' a (Qg a cls)) { s' with heap := h6 } := I1.lands os bare F6 fl6.there n6
  refine J0 (X := X.caught a) (I6.caught a) nd hi (.inl hl) (v := .ref a) rfl (λs7 I7 => ?_) (.inr hl)
  refine wpAny_mono (hs a pins s7 _ _ (D.lose i) I7 (hq a F.free)) (λf s8 q8 => ?_) (λe s8 z => z.elim)
  cases f with
  | next => obtain ⟨Z', H2, I', q⟩ := q8; exact Hy (I'.uncaught I.ok) nd hi hl λs9 I9 => ⟨_, H2, I9, q⟩
  | brk => obtain ⟨Z', H2, I', q⟩ := q8; exact Hy (I'.uncaught I.ok) nd hi hl λs9 I9 => ⟨_, H2, I9, q⟩
  | cont => obtain ⟨Z', H2, I', q⟩ := q8; exact Hy (I'.uncaught I.ok) nd hi hl λs9 I9 => ⟨_, H2, I9, q⟩
  | ret u => obtain ⟨v, Z', H2, I', r, q⟩ := q8; exact Hy (I'.uncaught I.ok) nd hi hl λs9 I9 => ⟨v, _, H2, I9, r, q⟩
def Qv : List Value := [.type "ValueError", .type "Exception", .type "BaseException", .type "object"]
def Mh (K : Frag) (C : Addr) : Bool := excIn K C Qv "ValueError.__new__"
theorem X1 {K : Frag} {h : Heap} {C : Addr} (Y : K.In h) (z : Mh K C = true) :
  ∃ bm N nm q bs hdct sn sub ab col dd k0 k1 k2 k3 k5 mN, h.get? C = some (excClassObj nm q C N bs bm hdct sn sub ab col dd k0 k1 k2 k3 k5 "ValueError.__new__") /\ h.Ns N mN /\ mN "__init__" = none /\ OwnTail h Qv bm := by
 unfold Mh excIn at z
 split at z
 ·rename_i d1 c1 l1 lk
  split at z
  ·rename_i C2 b2 a0 a1 a2 a3 nn a5 em es
   obtain ⟨z, z6⟩ := Zyl.mp z
   obtain ⟨z, z5⟩ := Zyl.mp z
   obtain ⟨z, z4⟩ := Zyl.mp z
   obtain ⟨z, z3⟩ := Zyl.mp z
   obtain ⟨z1, z2⟩ := Zyl.mp z
   have e1 := beq_iff_eq.mp z1
   have e2 := beq_iff_eq.mp z2
   have e6 := beq_iff_eq.mp z6
   subst e1 e2
   cases c1 with
   | mk nm1 bs1 mro1 ns1 qn1 hd1 sn1 sub1 ab1 col1 del1 =>
   have e3 : del1 = false := by simpa using z3
   have em : mro1 = _ := em
   subst e3 em
   have el : l1 = #[a0, a1, a2, a3, some (.builtin "ValueError.__new__"), a5] := by
    cases l1 with
    | mk l => exact congrArg Array.mk es
   subst el
   exact ⟨b2, ns1, nm1, qn1, bs1, hd1, sn1, sub1, ab1, col1, d1, a0, a1, a2, a3, a5, _, Y _ _ lk, .of_isNs (isNs_of_in Y z5), nsMap_none_of_in Y z5 e6, tail_of_in Y z4⟩
  ·cases z
 ·cases z
def Xv (C : Addr) (G : XG) (te : TA) : TS := λD Z H => te Z H λvs H1 => vs.length <= sizeLine /\ G (.ref C) Z H1
theorem Jb {X : Cx} {x : Str} {C : Addr} {G : XG} {e : Expr} {ta : TA} {np cpos pos : Pos} (hm : ad X G) (hc : X.calm = true) (hg : Gl X x) (hmg : X.mg x = some (.ref C)) (q : Mh X.K C = true) (ha : PA X [e] ta) (hn : Bz [e] = true := by rfl) (hd : (x == ("__debug__" : Str)) = false := by decide) :
  PS X (.Raise (some (.Call (.Name x np) [e] [] cpos)) none pos) (Xv C G ta) := by
 intro pins s Z H D I h
 obtain ⟨bm, N, nm, qn, bs, hdct, sn, sub, ab, col, dd, k0, k1, k2, k3, k5, mN, hC, hN, hni, T⟩ := X1 I.ok.mod.kin q
 refine wpAny_Raise_call_subT (C := C) (nm := nm) (q := qn) (N := N) (bs := bs) (bm := bm) (hdct := hdct) (sn := sn) (sub := sub) (ab := ab) (col := col) (dd := dd) (k0 := k0) (k1 := k1) (k2 := k2) (k3 := k3) (k5 := k5) F.excBase_ValueError (mN := mN) (T.hasType F.excBase_ValueError.hasBase) (I.ok.hd hc) (by rw [Ba hn]; exact C1 rfl) hni ?_
 refine Jj I hg hmg ⟨rfl, ?_⟩ hd
 rw [Ba hn]
 have h1 := ha cpos pins s Z H _ I h
 rw [Ba hn] at h1
 exact Calls.evalArgs_plain (wpAny_mono h1 (λus s2 ⟨vs, H1, I1, r, hv, hG⟩ => ⟨rfl, by rw [<- r.length]; exact hv, I1.bk _ _ hC, hN.keeps I1.bk, T.keeps I1.bk, λh' e' hx => hm pins Z H1 s2 h' e' (.ref C) us I1 hx hG⟩) λ_ _ y => y)
abbrev TF := Nat -> St -> Hp -> (Hp -> Prop) -> Prop
def PF (X : Cx) (es : List Expr) (t : TF) : Prop := ∀ (pins : List (Addr × Obj)) (s : Shared) (Z : St) (H : Hp) (acc : Str) (Q : VK) (n : Nat), acc.length <= n -> Inv X pins Z H s -> t n Z H (λH' => ∀ z : Str, Q (.str z) H') -> wpAny (model X.prog X.w) X.A (joinParts acc (evalEach es X.env)) (EP X pins Z Q) X.xe s
def tFnil : TF := λn _ H K => n <= 1000000 /\ K H
def fz (k : Nat) (t : TF) : TF := λn Z H K => n + k <= 1000000 /\ t (n + k) Z H K
def fu (te : TE) (t : TF) : TF := λn Z H K => te Z H λv H1 => ∃ y, v = .str y /\ n + y.length <= 1000000 /\ t (n + y.length) Z H1 K
def fv (te : TE) (t : TF) : TF := λn Z H K => te Z H λv H1 => ∃ y, v = .str y /\ (∀ c ∈ y.cps.toList, c < 0x110000) /\ n + (10 * y.length + 2) <= 1000000 /\ t (n + (10 * y.length + 2)) Z H1 K
section
variable {X : Cx} {e : Expr} {es : List Expr} {te : TE} {t : TF} {x : Str} {j : Nat} {p q : Pos}
theorem Gp {n : Nat} (h : n <= 1000000) : n <= sizeLine := Zyz h (by decide)
theorem T6 : PF X [] tFnil := λpins s Z H acc Q n ha I h => joinParts_nil ⟨.str acc, H, I.tok _, ⟨_, rfl⟩, h.2 acc⟩ (Gp (Zyz ha h.1))
theorem T7 (ht : PF X es t) : PF X (.Constant (.str x) j p :: es) (fz x.length t) := λpins s Z H acc Q n ha I h => by
 refine joinParts_cons (Calls.Constant_str ?_)
 have hl : (acc ++ x).length <= n + x.length := by rw [strLen_append]; omega
 exact ⟨Gp (Zyz hl h.1), ht pins _ Z H (acc ++ x) Q _ hl (I.tok _) h.2⟩
theorem Y7 (he : PE X e te) (ht : PF X es t) : PF X (.FormattedValue e (-1) none p :: es) (fu te t) := λpins s Z H acc Q n ha I h => by
 refine joinParts_cons (FormattedValue_plain (thn (he pins s Z H _ I h) λu s1 ⟨v, H1, I1, r, y, hv, hy, hq⟩ => ?_))
 subst hv
 obtain ⟨tk, rfl⟩ := r
 have hl : (acc ++ y).length <= n + y.length := by rw [strLen_append]; omega
 exact formatField_str (λt' tk' => ⟨Gp (Zyz hl hy), ht pins _ Z H1 (acc ++ y) Q _ hl (I1.tok _) hq⟩) (Gp (by omega))
theorem ir (he : PE X e te) (ht : PF X es t) : PF X (.FormattedValue e 114 none p :: es) (fv te t) := λpins s Z H acc Q n ha I h => by
 refine joinParts_cons (wpAny_FormattedValue_repr (thn (he pins s Z H _ I h) λu s1 ⟨v, H1, I1, r, y, hv, hc, hy, hq⟩ => ?_))
 subst hv
 obtain ⟨tk, rfl⟩ := r
 have hr : (reprText y).length <= 10 * y.length + 2 := PySem.StrLaws.reprText_len y λc hm => Zzi (hc c hm) (by decide)
 refine wpAny_pyReprObj_str ?_ (Gp (by omega))
 have hl : (acc ++ reprText y).length <= n + (10 * y.length + 2) := by rw [strLen_append]; omega
 exact formatField_str (λt' tk' => ⟨Gp (Zyz hl hy), ht pins _ Z H1 (acc ++ reprText y) Q _ hl (I1.tok _) hq⟩) (Gp (by omega))
def kr (t : TF) : TE := λZ H Q => t 0 Z H λH' => ∀ z : Str, Q (.str z) H'
theorem T8 {e2 : Expr} (h : PF X (e :: e2 :: es) t) : PE X (.JoinedStr (e :: e2 :: es) p) (kr t) := λpins s Z H Q I hq => JoinedStr_many (h pins s Z H Str.empty Q 0 (Zzw _) I hq)
end
end L2
set_option maxHeartbeats 1000000
namespace L2
open PySem PySem.Spec PySem.Calls PyProof.Rows PySem.W Builtin Builtin.ObjectAttr Builtin.Getset_descriptor
structure G8 (K : Frag) (D : Addr) : Prop where
 ga : findIn K (.ref D) "__getattribute__" = some (some (.builtin "BaseException.__getattribute__"))
 gt : findIn K (.ref D) "__getattr__" = some none
 cl : findIn K (.ref D) "__class__" = some (some (.builtin "object.__class__"))
 gs : specialIn K (.builtin "object.__class__") "__get__" = some (some (.builtin "getset_descriptor.__get__"))
 tk : takesIn K (.builtin "object.__class__") = some true
 ob : mroIn K D (.type "object") = some true
 be : mroIn K D (.type "BaseException") = some true
 is : (clsIn K D).isSome = true
def Mx (x D : Addr) (h : Heap) : Prop := ∃ o, h.get? x = some o /\ o.cls = .ref D
theorem Hm {M : Model} {h : Heap} {x D : Addr} (p : Mx x D h) : Looks M h (typeOf (.ref x)) (.ref D) := by
 obtain ⟨o, h1, h2⟩ := p
 exact h2 ▸ (Looks.ld h1).andThen .now
section
variable {prog : Program} {w : World} {A : Around} {E : Value -> Shared -> Prop} {s : Shared} {K : Frag} {x D : Addr}
theorem du {R : Result -> Shared -> Prop} {tp : Value} (Y : K.In s.heap) (p : Mx x D s.heap) (k : G8 K D) (h : R (.ok (.ret (.ref D))) s) : codeAny (model prog w) A (.call (.builtin "getset_descriptor.__get__") ⟨[.builtin "object.__class__", .ref x, tp], []⟩) R s := by
 obtain ⟨h0, g, dr, t, os⟩ := s
 have T0 := Hm (M := model prog w) p
 have T1 := looks_mroIn (M := model prog w) Y k.ob
 refine codeAny_call_builtin KF.slot_gs.plain KF.entry_gs
  (KF.slot_gs.check _ _ _ _ _ _ _ _ KF.type_class (KF.args_gs _ _ _) ?_)
 unfold Builtin.«getset_descriptor.__get__» descrGet; rw [dga_obj]
 refine wpAny_bind (wpAny_pure ?_); unfold descrGetter descrCheckInstance descrNameAndClass isInstance
 simp only [KF.owner_class]; repeat lk
 refine And.intro (Code.quiet_builtin _ (by decide +kernel)) (codeAny_builtin KF.entry_class ?_)
 unfold Builtin.«object.__class__» shownTypeOf; repeat lk
 exact h
theorem X2 {tk : Tok} {Q : Fin -> Shared -> Prop} (Y : K.In s.heap) (p : Mx x D s.heap) (k : G8 K D) (h : Q (.done (.ret (.ref D))) s) : wpAny (model prog w) A (Builtin.«object.__getattribute__» ⟨[.ref x, .str "__class__" tk], []⟩) Q E s := by
 obtain ⟨h0, g, dr, t, os⟩ := s
 have T0 := Hm (M := model prog w) p
 have T1 := looks_findIn (M := model prog w) Y k.cl
 have T2 := looks_specialIn (M := model prog w) Y k.gs
 have T3 := looks_takesIn (M := model prog w) Y k.tk
 have TF : Looks (model prog w) h0 (find (.ref x) (.ref D) "__class__") (.bind (.builtin "getset_descriptor.__get__") (.builtin "object.__class__")) :=
  T1.andThen (Looks.andThen (show Looks (model prog w) h0 (getOf (some (.builtin "object.__class__"))) (some (.builtin "getset_descriptor.__get__")) from T2) ((show Looks (model prog w) h0 (dataDescriptor? (some (.builtin "object.__class__")) (some (.builtin "getset_descriptor.__get__"))) (some (.builtin "getset_descriptor.__get__", .builtin "object.__class__")) from T3.andThen .now).andThen (Looks.tag .now)))
 refine wpAny_bind (wpAny_pure ?_)
 refine wpAny_bind (wpAny_pure (wpAny_bind (T0.at (wpAny_bind (TF.at ?_)))))
 show wpAny _ _ (holding [Value.builtin "object.__class__"] (call (.builtin "getset_descriptor.__get__") [.builtin "object.__class__", .ref x, .ref D]) >>= ret) _ _ _
 exact wpAny_bind (wpAny_holding (wpAny_call (du (s := ⟨h0, g, dr, t, os⟩) Y p k (wpAny_pure h))))
theorem X4 {nameV : Value} {Q : Unit -> Shared -> Prop} (Y : K.In s.heap) (p : Mx x D s.heap) (k : G8 K D) (h : Q () s) : wpAny (model prog w) A (checkBuiltinCall "BaseException.__getattribute__" ⟨[.ref x, nameV], []⟩) Q E s := by
 obtain ⟨h0, g, dr, t, os⟩ := s
 have T0 := Hm (M := model prog w) p
 have T1 := looks_mroIn (M := model prog w) Y k.be
 have TI : Looks (model prog w) h0 (isInstance (.ref x) (.type "BaseException")) true := T0.andThen T1
 have b1 : builtinKind "BaseException.__getattribute__" = some .slot := by decide +kernel
 have b2 : splitId "BaseException.__getattribute__" = some ("BaseException", "__getattribute__") := by decide +kernel
 have ar := F.args_bexc_ga (.ref x) nameV
 simp only [checkBuiltinCall, b1, b2]
 refine wpAny_bind (TI.at ?_)
 rw [if_neg (by decide)]
 exact wpAny_of_eq ar h
theorem X3 {Q : Option Value -> Shared -> Prop} (Y : K.In s.heap) (p : Mx x D s.heap) (k : G8 K D) (h : Q (some (.ref D)) { s with toks := s.toks + 1 }) : wpAny (model prog w) A (getAttr? (.ref x) "__class__") Q E s := by
 obtain ⟨h0, g, dr, t, os⟩ := s
 have T0 := Hm (M := model prog w) p
 have T1 := looks_findIn (M := model prog w) Y k.ga
 have T2 := looks_findIn (M := model prog w) Y k.gt
 unfold getAttr? getAttrBy? getAttrBy; refine wpAny_bind (wpAny_mkText (wpAny_bind (wpAny_attempt (wpAny_holding (wpAny_bind (T0.at (wpAny_bind (T1.at ?_))))))))
 show wpAny _ _ (getAttrByItsOwn _ _ _ _ _ _) _ _ _
 unfold getAttrByItsOwn
 refine wpAny_bind (show wpAny _ _ (typeLookup (.ref D) "__getattr__") _ _ _ from T2.at ?_)
 refine wpAny_bind (wpAny_attempt (wpAny_holding ?_))
 show wpAny _ _ (boundAndCalled (.builtin "BaseException.__getattribute__") (.ref x) (.str "__class__" t)) _ _ _
 unfold boundAndCalled
 rw [F.attr_ValueError.ga.bind (.ref x)]
 refine wpAny_bind (wpAny_pure (wpAny_call (codeAny_call_builtin F.attr_ValueError.ga.plain F.entry_bexc_ga (X4 Y p k (X2 Y p k ?_)))))
 exact wpAny_pure (wpAny_pure h)
theorem Kb (k : G8 K D) : KitX K (.ref x) (.ref D) (Mx x D) where
 ty := λ_ _ _ p => Hm p
 it := λM h Y _ => by
  obtain ⟨cd, hc⟩ := Zx1.mp k.is
  unfold clsIn at hc
  split at hc
  ·rename_i ho
   exact λA' Q' E' s' kk q => wpAny_bind (wpAny_loadPart (kk _ _ (Y _ _ ho)) (wpAny_pure q))
  ·cases hc
 ne := λh tp dd its n sl Y htp => by
  obtain ⟨cd, hc⟩ := Zx1.mp k.is
  refine Bool.eq_false_iff.mpr λq => ?_
  obtain rfl : D = tp := Value.ref.inj (beq_iff_eq.mp q)
  unfold clsIn at hc
  split at hc
  ·rename_i ho
   have z := (Y _ _ ho).symm.trans htp
   cases z
  ·cases hc
 ca := λY p h => X3 Y p k h
end
def im (K : Frag) : List V -> Hp -> VK -> Prop := λxs H Q => ∃ (a D : Addr) (c : V) (b : Bool), xs = [.ref a, c] /\ H a = some (Qg a (.ref D)) /\ G8 K D /\
 ((∃ C : Addr, c = .ref C /\ kitOne K (.ref D) (.ref C) = some b) \/ (∃ T : String, c = .ty T /\ kitOne K (.ref D) (.type T) = some b) \/ ∃ (tp : Addr) (Cs : List Addr), c = .ref tp /\ H tp = some (.tup (Cs.map V.ref)) /\ kitAny K (.ref D) (Cs.map Value.ref) = some b) /\ Q (.bl b) H
theorem Ny : ∀ {Cs : List Addr} {us : List Value}, Vals (Cs.map V.ref) us -> us = Cs.map Value.ref
 | [], _, .nil => rfl
 | C :: Cs, _, .cons r t => by
  have e : _ = Value.ref C := r
  rw [e, Ny t]
  rfl
theorem Zl {X : Cx} : CallR X (.builtin "isinstance") (im X.K) := by
 intro pins s Z H xs us Q I r h
 obtain ⟨a, D, c, b, rfl, ha, k, hc, q⟩ := h
 obtain ⟨u, v, rfl, ru, rv⟩ := O0 r
 have ru : u = Value.ref a := ru
 subst ru
 have p : Mx a D s.heap := (I.hok a _ ha).1.1
 have ne : (Value.ref a) ≠ .builtin "__main__.__loader__#opaque" := λz => by cases z
 rcases hc with ⟨C, rfl, e⟩ | ⟨T, rfl, e⟩ | ⟨tp, Cs, rfl, ht, e⟩
 ·have rv : v = Value.ref C := rv
  subst rv
  exact kia_one (Kb k) I.kIn p e ne λtk => ⟨.bl b, H, I.tok tk, rfl, q⟩
 ·have rv : v = Value.type T := rv
  subst rv
  exact kia_one (Kb k) I.kIn p e ne λtk => ⟨.bl b, H, I.tok tk, rfl, q⟩
 ·have rv : v = Value.ref tp := rv
  subst rv
  obtain ⟨its, rt, pt, _⟩ := I.tuple (SqT.of ht)
  have ei := Ny rt
  subst ei
  obtain ⟨⟨c2, dd, data, sl⟩, ho, hcl, n, hd⟩ := id (show s.heap.IsTuple tp (Cs.map Value.ref).toArray from pt)
  simp only at hcl hd
  subst hcl hd
  exact kia_tup (Kb k) I.kIn p ho e ne λtk => ⟨.bl b, H, I.tok tk, rfl, q⟩
end L2
namespace L2
open PySem PySem.Spec PyProof.Rows PySem.W
section
variable {X : Cx}
theorem Ih {K0 : Frag} (h : X.K = K0) : CallR X (.builtin "isinstance") (im K0) := by
 subst h
 exact Zl
end
end L2
namespace L2
open PySem PySem.Spec PyProof.Rows PySem.W NP
def Kp (g h : Heap) : Prop := ∀ b o, g.get? b = some o -> h.get? b = some o
theorem Kp.trans {g h k : Heap} (a : Kp g h) (b : Kp h k) : Kp g k := λx o e => b x o (a x o e)
section
variable {prog : Program} {w : World} {A : Around} {E : Value -> Shared -> Prop} {s : Shared} {I S f : Addr} {fp wr : List Addr} {n : Nat} {P : Nat -> Value -> Prop} {St : Nat -> Heap -> Prop} {R : Result -> Shared -> Prop}
theorem Ji : (toString "min" ++ toString ".loop" : String) = "min.loop" := by decide
theorem Wh (W : Walks prog w A.in1 I fp wr n P St) (kf : Nat -> Int) (g : Heap) (hS : S ∉ fp) (gS : g.get? S = none) (gw : ∀ b ∈ wr, g.get? b = none)
  (ask : ∀ (i : Nat) (v : Value) (h : Heap) (tk : Nat), i < n -> P i v -> Kp g h -> wpAny (model prog w) A.in1 (call (.ref f) [v]) (λv' s' => ∃ h' tk' t', s' = { s with heap := h', toks := tk' } /\ v' = .int (kf i) t' /\ Kp h h') (λ_ _ => False) { s with heap := h, toks := tk })
  (fin : ∀ (i : Nat) (v : Value) (h : Heap) (tk : Nat), i < n -> P i v -> (∀ j, j < n -> kf i <= kf j) -> Kp g h -> R (.ok (.ret v)) { s with heap := h, toks := tk }) :
  ∀ (r j i : Nat) (h : Heap) (tk : Nat) (v : Value) (t : Tok) (c : Nat), n - (j + 1) = r -> j < n -> i <= j -> P i v -> (∀ j', j' <= j -> kf i <= kf j') -> Kp g h -> St (j + 1) h -> h.get? S = some (seqObj "list" #[v, .int (kf i) t] c) ->
   codeAny (model prog w) A (.builtin "min.loop" ⟨[.ref I, .ref f, .ref S], []⟩) R { s with heap := h, toks := tk } := by
 have nS : S ∉ wr := λz => hS (W.sub S z)
 intro r
 induction r with
 | zero =>
  intro j i h tk v t c hr hj hij hP hb K st hs
  have e : j + 1 = n := by omega
  rw [e] at st
  (refine codeAny_builtin Zw8 ?_); (rw [Zxq Zxw _])
  refine (show wpAny _ A.in1 (seqItems? (.ref S) >>= _) _ _ _ from wpAny_bind (wpAny_seqItems hs rfl ?_))
  refine (show wpAny _ A.in1 (tryCatch (pyNext (.ref I)) _ >>= _) _ _ _ from wpAny_bind (wpAny_tryCatch (W.done _ _ _ st λh1 tk1 k1 => ?_)))
  have hs1 := k1 S _ nS hs
  refine (show wpAny _ A.in1 (updateSeq S (λ_ => #[]) >>= _) _ _ _ from wpAny_bind (wpAny_updateSeq hs1 rfl (wpAny_bind (wpAny_letGo (wpAny_pure ?_)))))
  have u1 := Zwz h1 S (Obj.mapSeq λ_ => (#[] : Array Value))
  exact fin i v _ _ (by omega) hP (λj' hj' => hb j' (by omega)) λb o eb => (u1.2 b (λz => by rw [z, gS] at eb; cases eb)).trans (k1 b o (λz => by rw [gw b z] at eb; cases eb) (K b o eb))
 | succ r ih =>
  intro j i h tk v t c hr hj hij hP hb K st hs
  (refine codeAny_builtin Zw8 ?_); (rw [Zxq Zxw _])
  refine (show wpAny _ A.in1 (seqItems? (.ref S) >>= _) _ _ _ from wpAny_bind (wpAny_seqItems hs rfl ?_))
  refine (show wpAny _ A.in1 (tryCatch (pyNext (.ref I)) _ >>= _) _ _ _ from wpAny_bind (wpAny_tryCatch (W.item (j + 1) _ _ _ (by omega) st λu h1 tk1 hPu st1 k1 => ?_)))
  have hs1 := k1 S _ nS hs
  have K1 : Kp g h1 := λb o eb => k1 b o (λz => by rw [gw b z] at eb; cases eb) (K b o eb)
  refine (show wpAny _ A.in1 (tryCatch (holding [u] (call (.ref f) [u])) _ >>= _) _ _ _ from wpAny_bind (wpAny_tryCatch (wpAny_holding (wpAny_mono (ask (j + 1) u h1 tk1 (by omega) hPu K1) (λx s2 he => ?_) λ_ _ z => z.elim))))
  obtain ⟨h2, tk2, t2, rfl, rfl, K2⟩ := he
  have hs2 := K2 S _ hs1
  have st2 : St (j + 1 + 1) h2 := W.frame _ _ _ st1 λb _ o e => K2 b o e
  refine (show wpAny _ A.in1 (tryCatch (holding [u, .int (kf (j + 1)) t2] (richCompare .Lt (.int (kf (j + 1)) t2) (.int (kf i) t) >>= _)) _ >>= _) _ _ _ from wpAny_bind (wpAny_tryCatch (wpAny_holding (wpAny_bind ?_))))
  refine CmpOf.ints_lt (prog := prog) (w := w) (A := A.in1) (P := λi v => ∃ t, v = .int (kf i) t) kf (λ_ _ y => y) (j + 1) i _ _ _ _ _ ⟨t2, rfl⟩ ⟨t, rfl⟩ (wpAny_bind (wpAny_holding (wpAny_truthy_bool (wpAny_bind (wpAny_letGo (wpAny_pure ?_))))))
  by_cases lt : kf (j + 1) < kf i
  ·have u2 := Zwz h2 S (Obj.mapSeq λ_ => #[u, .int (kf (j + 1)) t2])
   obtain ⟨c2, hc2⟩ : ∃ c2, (h2.update S (Obj.mapSeq λ_ => #[u, .int (kf (j + 1)) t2])).get? S = some (seqObj "list" #[u, .int (kf (j + 1)) t2] c2) := ⟨_, get?_update_seq hs2 λ_ => #[u, .int (kf (j + 1)) t2]⟩
   simp only [lt, decide_true, if_true]
   refine wpAny_bind (wpAny_updateSeq hs2 rfl (wpAny_bind (wpAny_letGo ?_)))
   (rw [Ji]); refine wpAny_pure ⟨plainId_quiet Zxw _, ih (j + 1) (j + 1) _ _ u t2 c2 (by omega) (by omega) (Zzw _) hPu (λj' hj' => ?_) (λb o eb => ?_) (W.frame _ _ _ st2 λb hb o e => ?_) hc2⟩
   ·by_cases z : j' = j + 1
    ·rw [z]; exact Zyr _
    ·have := hb j' (by omega)
     omega
   ·exact (u2.2 b (λz => by rw [z, gS] at eb; cases eb)).trans (K2 b o (K1 b o eb))
   ·exact (u2.2 b (λz => hS (z ▸ hb))).trans e
  ·simp only [lt, decide_false, Bool.false_eq_true, if_false]
   refine wpAny_bind (wpAny_letGo ?_)
   (rw [Ji]); refine wpAny_pure ⟨plainId_quiet Zxw _, ih (j + 1) i _ _ v t c (by omega) (by omega) (by omega) hP (λj' hj' => ?_) (K1.trans K2) st2 hs2⟩
   by_cases z : j' = j + 1
   ·rw [z]; omega
   ·exact hb j' (by omega)
theorem Wi {d : Addr} {kvs : List (Key × Value)} {ep : Nat} {Q : Value -> Shared -> Prop} (hh : A.handled = none) (hd : (d == sysModules) = false) (hm : s.heap.DictAt (Ay prog w) d kvs ep) (hne : 0 < kvs.length) (kf : Nat -> Int)
  (ask : ∀ (i : Nat) (v : Value) (h : Heap) (tk : Nat), i < kvs.length -> (∃ k x, kvs[i]? = some (k, x) /\ (Ay prog w).is k v = true) -> Kp s.heap h -> wpAny (model prog w) A.in1 (call (.ref f) [v]) (λv' s' => ∃ h' tk' t', s' = { s with heap := h', toks := tk' } /\ v' = .int (kf i) t' /\ Kp h h') (λ_ _ => False) { s with heap := h, toks := tk })
  (fin : ∀ (i : Nat) (v : Value) (h : Heap) (tk : Nat), i < kvs.length -> (∃ k x, kvs[i]? = some (k, x) /\ (Ay prog w).is k v = true) -> (∀ j, j < kvs.length -> kf i <= kf j) -> Kp s.heap h -> Q v { s with heap := h, toks := tk }) :
  wpAny (model prog w) A (call (.builtin "min") [.ref d] [(Str.ofString "key", .ref f)]) Q E s := by
 refine kmk_tree PySem.F.kind_min PySem.F.plain_min PySem.F.entry_min (kmk_min_key _ _) (show wpAny _ A.in1 (Zx9 "min" ["key", "default"] 0 ⟨[], [(Str.ofString "key", .ref f)]⟩ >>= _) _ _ s from ?_)
 refine wpAny_bind (wpAny_of_eq (show Zx9 "min" ["key", "default"] 0 ⟨[], [(Str.ofString "key", .ref f)]⟩ = pure [some (.ref f), none] from rfl) (wpAny_bind (wpAny_pure (wpAny_bind (wpAny_pyIter_dict hd hm (wpAny_bind (wpAny_newList ?_ (Zyn _))))))))
 (rw [Ji]); refine wpAny_pure ⟨plainId_quiet Zxw _, ?_⟩
 obtain ⟨od, _, hod, _⟩ := id hm
 have dlt : d < s.heap.objs.size := Zzo hod
 have W := Walks.dictKeys (prog := prog) (w := w) (knd := Ay prog w) (A := A.in1) hh s.heap.objs.size d (Zz0 dlt) kvs ep
 have hI : (s.heap.push { cls := .type "dict_keyiterator", data := .fields #[.ref d, .int 0 0, .int kvs.length 0, .int ep 0] }).get? s.heap.objs.size = some { cls := .type "dict_keyiterator", data := .fields #[.ref d, .int 0 0, .int kvs.length 0, .int ep 0] } := Zzm _ rfl
 have hz : (s.heap.push { cls := .type "dict_keyiterator", data := .fields #[.ref d, .int 0 0, .int kvs.length 0, .int ep 0] }).objs.size = s.heap.objs.size + 1 := size_push' ..
 have k0 : Kp s.heap (s.heap.push { cls := .type "dict_keyiterator", data := .fields #[.ref d, .int 0 0, .int kvs.length 0, .int ep 0] }) := λb o e => Zzy _ e
 generalize (s.heap.push { cls := .type "dict_keyiterator", data := .fields #[.ref d, .int 0 0, .int kvs.length 0, .int ep 0] }) = g1 at hI hz k0 ⊢
 have hS : g1.objs.size ∉ [s.heap.objs.size, d] := by
  rw [hz]
  intro z
  rcases Zzk.mp z with z | z
  ·exact absurd z (Zw5 _)
  ·have e := Zzb.mp z
   rw [<- e] at dlt
   exact absurd dlt (Nat.not_lt.mpr (Nat.le_succ _))
 have gS : s.heap.get? g1.objs.size = none := Zw2 (by rw [hz]; exact Nat.le_succ _)
 have gw : ∀ b ∈ [s.heap.objs.size], s.heap.get? b = none := λb hb => by
  rw [Zzb.mp hb]
  exact Zw2 (Zzw _)
 have nS : g1.objs.size ∉ [s.heap.objs.size] := λz => hS (W.sub _ z)
 have k1 : Kp s.heap (g1.push (seqObj "list" #[] 0)) := λb o e => Zzy _ (k0 b o e)
 have st0 : (g1.push (seqObj "list" #[] 0)).IsKeyIter s.heap.objs.size d 0 kvs.length ep /\ (g1.push (seqObj "list" #[] 0)).DictAt (Ay prog w) d kvs ep := ⟨⟨_, Zzy _ hI, rfl, rfl⟩, hm.at' λo e => k1 d o e⟩
 have hs0 : (g1.push (seqObj "list" #[] 0)).get? g1.objs.size = some (seqObj "list" #[] 0) := Zzm _ rfl
 generalize g1.objs.size = S at hS gS nS hs0 ⊢
 generalize g1.push (seqObj "list" #[] 0) = h0 at k1 st0 hs0 ⊢
 (refine codeAny_builtin Zw8 ?_); (rw [Zxq Zxw _])
 refine (show wpAny _ A.in1 (seqItems? (.ref S) >>= _) _ _ _ from wpAny_bind (wpAny_seqItems hs0 rfl ?_))
 refine (show wpAny _ A.in1 (tryCatch (pyNext (.ref s.heap.objs.size)) _ >>= _) _ _ _ from wpAny_bind (wpAny_tryCatch (W.item 0 _ _ _ hne st0 λu h1 tk1 hPu st1 kk => ?_)))
 have hs1 := kk S _ nS hs0
 have K1 : Kp s.heap h1 := λb o eb => kk b o (λz => by rw [gw b z] at eb; cases eb) (k1 b o eb)
 refine (show wpAny _ A.in1 (tryCatch (holding [u] (call (.ref f) [u])) _ >>= _) _ _ _ from wpAny_bind (wpAny_tryCatch (wpAny_holding (wpAny_mono (ask 0 u h1 tk1 hne hPu K1) (λx s2 he => ?_) λ_ _ z => z.elim))))
 obtain ⟨h2, tk2, t2, rfl, rfl, K2⟩ := he
 have hs2 := K2 S _ hs1
 have st2 := W.frame _ _ _ st1 λb _ o e => K2 b o e
 have u2 := Zwz h2 S (Obj.mapSeq λ_ => #[u, .int (kf 0) t2])
 obtain ⟨c2, hc2⟩ : ∃ c2, (h2.update S (Obj.mapSeq λ_ => #[u, .int (kf 0) t2])).get? S = some (seqObj "list" #[u, .int (kf 0) t2] c2) := ⟨_, get?_update_seq hs2 λ_ => #[u, .int (kf 0) t2]⟩
 refine (show wpAny _ A.in1 (updateSeq S (λ_ => #[u, .int (kf 0) t2]) >>= _) _ _ _ from wpAny_bind (wpAny_updateSeq hs2 rfl ?_))
 (rw [Ji]); refine wpAny_pure ⟨plainId_quiet Zxw _, Wh W kf s.heap hS gS gw ask (λi v h tk hi hP hb K => fin i v h tk hi hP hb K) _ 0 0 _ _ u t2 c2 rfl hne (Zzw _) hPu (λj' hj' => ?_) (λb o eb => ?_) (W.frame _ _ _ st2 λb hb o e => ?_) hc2⟩
 ·have : j' = 0 := by omega
  rw [this]
  exact Zyr _
 ·exact (u2.2 b (λz => by rw [z, gS] at eb; cases eb)).trans (K2 b o (K1 b o eb))
 ·exact (u2.2 b (λz => hS (z ▸ hb))).trans e
end
section
variable {prog : Program} {w : World} {A : Around} {s : Shared}
theorem Yy {f c' d cc : Addr} {q nm lv : Str} {u : Value} {kk : Key} {params : Arguments} {scope : Scope} {p1 p2 p3 : Pos} {pm ctv : Value} {k : Int} {t : Tok} {vs : List (Key × Value)}
  (hf : s.heap.get? f = some (kla_obj "<lambda>" q params (.Subscript (.Name lv p1) (.Name nm p2) p3) scope [(lv, cc)] pm c' ctv)) (hrec : s.heap.CodeRec (.ref c') q) (hcell : s.heap.IsCell cc (some (.ref d))) (hd : s.heap.DictOf (Ay prog w) d vs) (hu : (Ay prog w).is kk u = true) (hv : valueAt vs kk = some (.int k t))
  (hroom : A.depth < recursionLimit) (hlim : s.heap.NoLimit) (hsc : scope.kind = .function /\ scope.isCoroutine = false /\ scope.isGenerator = false /\ scope.names.lookup nm = some .local /\ scope.names.lookup lv = some .free /\ ∀ x ∈ scope.names, x.2 ≠ .cell)
  (hbind : bindArgs (kla_fn "<lambda>" q params (.Subscript (.Name lv p1) (.Name nm p2) p3) scope [(lv, cc)] pm (.ref c') ctv) ⟨[u], []⟩ = pure [(nm, u)]) (hn1 : (nm == ("__debug__" : Str)) = false := by decide) (hn2 : (lv == ("__debug__" : Str)) = false := by decide) (hn3 : (lv == ("__classdict__" : Str)) = false := by decide) :
  wpAny (model prog w) A (call (.ref f) [u]) (λv s' => ∃ h' tk t', s' = { s with heap := h', toks := tk } /\ v = .int k t' /\ Kp s.heap h') (λ_ _ => False) s := by
 obtain ⟨k1, k2, k3, k4, k5, k6⟩ := hsc
 refine wpAny_call (kla_callFunE hroom hf rfl k2 k3 rfl hrec ?_)
 rw [hbind]
 refine wpAny_pure (wpAny_newFunctionEnv k6 (λy hy => ?_) (λh₁ hns hsb => ?_) k1)
 ·rw [Zzb.mp hy]
  exact k4
 have hk : Kp s.heap h₁ := λb o e => hsb.extBut b o (Zz0 (Zzo e)) (Zzy _ e)
 refine ⟨hlim.fresh _ hsb, kla_codeExpr ?_⟩
 have hd1 : h₁.DictOf (Ay prog w) d vs := by
  obtain ⟨o, es, ep, ho, r⟩ := hd
  exact ⟨o, es, ep, hk _ _ ho, r⟩
 have hc1 : h₁.IsCell cc (some (.ref d)) := by
  obtain ⟨o, ho, r⟩ := hcell
  exact ⟨o, hk _ _ ho, r⟩
 refine wpAny_Subscript_Name (T := "dict") F.slot_dict_getitem.lookup (wpAny_Name (wpAny_loadName_free k1 k5 (c := cc) (by simp [newEnv]) hc1 (wpAny_Name (wpAny_loadName_local k1 k4 hns (v := u) (by simp) ⟨hd1.typeIs, ?_⟩) hn1) hn3) hn2)
 exact wpAny_getItem_of (knd := Ay prog w) (k := kk) hu hd1.mapOf hv ⟨_, _, _, rfl, rfl, hk⟩
end
section
variable {X : Cx}
def U8 (P : Addr) (pos : Pos) (q : Str) (i : Nat) (Z : St) (Q : VK) (x : V) (H1 : Hp) : Prop := ∃ (d : Addr) (kvs : List (Key × V)) (ks : List Int) (kz : Int -> Int), x = .ref d /\ H1 d = some (.dK kvs) /\ kvs.map (·.1) = ks.map Zwe /\ ks ≠ [] /\ Z[i]? = some (some (.ref d)) /\
 (∀ k ∈ ks, Br kvs (.inl k) = some (.int (kz k))) /\ TblAt H1 P pos q /\ ∀ (k : Int) (H2 : Hp), k ∈ ks -> (∀ j ∈ ks, kz k <= kz j) -> TblAt H2 P pos q -> But P H1 H2 -> Q (.int k) H2
def fq (P : Addr) (pos : Pos) (q : Str) (i : Nat) (te : TE) : TE := λZ H Q => te Z H (U8 P pos q i Z Q)
theorem Uy {kvs : List (Key × V)} {dv : List (Key × Value)} (r : KV kvs dv) : dv.map (·.1) = kvs.map (·.1) := by
 induction r with
 | nil => rfl
 | cons r1 _ ih => rw [Zz4, Zz4, ih, r1.1]
theorem bp {e : Expr} {te : TE} {p1 p2 kp lp q1 q2 q3 : Pos} {params : Arguments} {scope : Scope} {i k : Nat} {nm lv : Str} {P c : Addr} (hcm : X.calm = true) (hg : Gl X "min") (hm : X.mg "min" = none) (he : PE X e te) (hr : Room k X.A)
  (hcd : X.env.code = .ref c) (hC : codeHdIn X.K c P = true) (hB : B1 X.mg X.base) (hdef : defaultsOf params X.env = ([], [])) (hN : X.N[i]? = some lv) (hlv : X.env.scope.names.lookup lv = some .cell) (hcl : ∀ cc, X.env.cells.lookup lv = some cc -> closureFor scope X.env = pure [(lv, cc)])
  (hsc : scope.kind = .function /\ scope.isCoroutine = false /\ scope.isGenerator = false /\ scope.names.lookup nm = some .local /\ scope.names.lookup lv = some .free /\ ∀ x ∈ scope.names, x.2 ≠ .cell)
  (hbind : ∀ (cc c' : Addr) (pm ctv v : Value), bindArgs (kla_fn "<lambda>" (X.env.qual ++ "<lambda>") params (.Subscript (.Name lv q1) (.Name nm q2) q3) scope [(lv, cc)] pm (.ref c') ctv) ⟨[v], []⟩ = pure [(nm, v)])
  (hn1 : (nm == ("__debug__" : Str)) = false := by decide) (hn2 : (lv == ("__debug__" : Str)) = false := by decide) (hn3 : (lv == ("__classdict__" : Str)) = false := by decide) (hn : Bz [e] = true := by rfl) :
  PE X (.Call (.Name "min" p1) [e] [⟨some "key", .Lambda params (.Subscript (.Name lv q1) (.Name nm q2) q3) scope lp, kp⟩] p2) (fq P lp (X.env.qual ++ "<lambda>") i te) := by
 intro pins s Z H Q I h
 refine wpAny_Call_Name_kw (Fv I hg hm NP.Zo ?_ (by decide) (by decide))
 have hx : ∃ cc, X.env.cells.lookup lv = some cc := I.ok.has lv (.inl hlv)
 obtain ⟨cc, hcc⟩ := hx
 refine callWith_kw (thn ((A6 he A2 hn) p2 pins s Z H (λvs H1 => match vs with | [x] => U8 P lp (X.env.qual ++ "<lambda>") i Z Q x H1 | _ => False) I h) λus s1 ⟨vs, H1, I1, r1, hv⟩ => ?_) ?_ ?_ rfl rfl
 ·match vs, hv, r1 with
  | [x], ⟨d, kvs, ks, kz, ex, hd, hks, hne, hσ, hval, tb, q⟩, r1 =>
  subst ex
  obtain ⟨u, rfl, ru⟩ := Fn r1
  cases ru
  refine kws_cons (Rv I1 hcd hC hB tb hdef (hcl cc hcc) λf c' ctv H' s2 I2 hf Hf hc' tb' bt => kws_nil ?_)
  have hPs : ∃ u, H1 P = some (.tbl u) := tb.elim (λe => ⟨_, e⟩) (λ⟨c, e, _⟩ => ⟨_, e⟩)
  obtain ⟨pt, hPt⟩ := hPs
  have hd2 : H' d = some (.dK kvs) := bt _ _ (λz => by rw [z, hPt] at hd; cases hd) hd
  obtain ⟨zd, nd, dv, rel, hdd⟩ := I2.hok d _ hd2
  have hcell : s2.heap.IsCell cc (some (.ref d)) := by
   obtain ⟨m', hn', hl'⟩ := I2.loc
   obtain ⟨u, ru, lk⟩ := hl' i lv (.ref d) hN hσ (.inr (.inl hlv))
   cases ru
   rcases lk with ⟨hk, _⟩ | ⟨_, c2, e2, e3⟩
   ·have hk : X.env.scope.names.lookup lv = some .local := hk
    rw [hlv] at hk; cases hk
   ·rw [hcc] at e2; cases e2; exact e3
  have hrec : s2.heap.CodeRec (.ref c') (X.env.qual ++ "<lambda>") := Se I2.hok hc'
  have hkk : dv.map (·.1) = ks.map Zwe := by rw [Uy rel, hks]
  have hlen : dv.length = ks.length := by have := congrArg Zvu hkk; rw [Zzz, Zzz] at this; exact this
  have key : ∀ (j : Nat) (v : Value), (∃ k x, dv[j]? = some (k, x) /\ (Ay X.prog X.w).is k v = true) -> ∃ kk t, ks[j]? = some kk /\ v = .int kk t /\ (Ay X.prog X.w).is (.inl kk) v = true := λj v ⟨k, x, e1, e2⟩ => by
   have e3 := congrArg (λz => z[j]?) hkk
   simp only [Zzx, e1, Zx7] at e3
   cases e4 : ks[j]? with
   | none => rw [e4] at e3; cases e3
   | some kk =>
    rw [e4] at e3
    have e5 : k = .inl kk := Zza e3
    subst e5
    rcases Bl (show M7 (.inl kk) v = true from e2) with ⟨i2, t, z1, z2⟩ | ⟨_, _, z1, _⟩
    ·cases z1
     exact ⟨_, t, rfl, z2, e2⟩
    ·cases z1
  obtain ⟨ep, hat⟩ := hdd.dictAt
  have hroom : X.A.depth < recursionLimit := by have := hr.dp; omega
  refine Wi (f := f) (I2.ok.hd hcm) nd hat (by rw [hlen]; exact Zvv.mpr hne) (λj => kz (ks.getD j 0)) (λj v h tk hj hP K => ?_) (λj v h tk hj hP hb K => ?_)
  ·obtain ⟨kk, t, e1, e2, e3⟩ := key j v hP
   have eg : ks.getD j 0 = kk := by rw [Zzv, e1]; rfl
   rw [eg]
   obtain ⟨w', hw, rw'⟩ := RelO.some_of (v := .int (kz kk)) (o := valueAt dv (.inl kk)) (by have := rel.val (.inl kk); rw [hval _ (Zzn e1)] at this; exact this)
   obtain ⟨tk', ew⟩ := rw'
   subst ew
   exact Yy (prog := X.prog) (w := X.w) (A := X.A.in1) (s := { s2 with heap := h, toks := tk }) (nm := nm) (lv := lv) (u := v) (kk := .inl kk) (k := kz kk) (t := tk') (vs := dv) (K f _ hf) (by
    obtain ⟨c2, o, vs, t2, e1, e2, r⟩ := hrec
    cases e1
    exact ⟨c', o, vs, t2, rfl, K _ _ e2, r⟩) (by
    obtain ⟨o, e1, r⟩ := hcell
    exact ⟨o, K _ _ e1, r⟩) (by
    obtain ⟨o, es, ep, e1, r⟩ := hdd
    exact ⟨o, es, ep, K _ _ e1, r⟩) e3 hw hroom (I2.ok.mod.nolimit.keeps λb o e => K b o (I2.bk b o e)) hsc (hbind cc c' _ ctv _) hn1 hn2 hn3
  ·obtain ⟨kk, t, e1, e2, e3⟩ := key j v hP
   subst e2
   have eg : ks.getD j 0 = kk := by rw [Zzv, e1]; rfl
   refine ⟨.int kk, H', I2.kept (t' := tk) K, ⟨t, rfl⟩, q kk H' (Zzn e1) (λy hy => ?_) tb' bt⟩
   obtain ⟨l, hl⟩ := Zxu.mp hy
   have := hb l (by rw [hlen]; exact (Zzj.mp hl).1)
   rw [eg, Zzv, hl] at this
   exact this
 ·rw [Bw hn]; rfl
 ·exact C1 hn
end
theorem Qw : ∀ {ys : List V} {us : List Value}, us.length = ys.length -> (∀ (j : Nat) (v : Value), us[j]? = some v -> ∃ y, ys[j]? = some y /\ RelV y v) -> Vals ys us
 | [], [], _, _ => .nil
 | [], _ :: _, e, _ => by simp at e
 | _ :: _, [], e, _ => by simp at e
 | y :: ys, u :: us, e, h => by
  obtain ⟨y', e1, r⟩ := h 0 u rfl
  have e1 : y = y' := by simpa using e1
  subst e1
  exact .cons r (Qw (by simpa using e) λj v hv => h (j + 1) v hv)
section
variable {X : Cx}
def rListD : List V -> Hp -> VK -> Prop := λxs H Q => ∃ (d : Addr) (kvs : List (Key × V)), xs = [.ref d] /\ Rd H d (.dK kvs) /\ kvs.length <= 1000 /\ ∀ l, H l = none -> Q (.ref l) (upd H l (.lst (kvs.map λp => kV p.1)))
theorem U0 (hc : X.calm = true) : CallR X (.type "list") rListD := by
 intro pins s Z H xs us Q I r h
 obtain ⟨d, kvs, rfl, hd, hl, q⟩ := h
 obtain ⟨u, rfl, ru⟩ := Fn r
 cases ru
 obtain ⟨zd, nd, dv, rel, hdd⟩ := Ot I.hok hd
 obtain ⟨ep, hat⟩ := hdd.dictAt
 have hlen : dv.length = kvs.length := rel.length.symm
 have hkk := Uy rel
 refine kdl_call (kdl_dict (knd := Ay X.prog X.w) (kvs := dv) (ep := ep) nd) (I.ok.hd hc) hat (by rw [hlen]; exact Ao hl) λh' tk acc c hk hS hacc => ?_
 have hn : H s.heap.objs.size = none := I.hok.fresh (Zzw _)
 have hal : acc.toList.length = (kvs.map λp => kV p.1).length := by rw [Zwm, hacc.1, hlen, Zzz]
 have vals : Vals (kvs.map λp => kV p.1) acc.toList := Qw hal λj v hv => by
  obtain ⟨k, x, hx, hkv⟩ := hacc.2 j v (by rw [<- Array.getElem?_toList]; exact hv)
  have e1 := congrArg (λz => z[j]?) hkk
  simp only [Zzx, hx, Zx7] at e1
  cases ex : kvs[j]? with
  | none => rw [ex] at e1; cases e1
  | some y =>
   rw [ex] at e1
   have e2 : k = y.1 := Zza e1
   subst e2
   exact ⟨kV y.1, by rw [Zzx, ex]; rfl, gh hkv⟩
 refine ⟨.ref s.heap.objs.size, _, I.laidF (t' := tk) (o := .lst (kvs.map λp => kV p.1)) (λb o eb => hk b o eb) (λb o eb => Zz0 (Zzo eb)) hn ⟨?_, acc.toList, c, vals, ?_⟩, rfl, q _ hn⟩
 ·rw [Zzz]
  exact Ao hl
 ·rw [Array.toArray_toList]
  exact hS
theorem Inv.thaw {pins : List (Addr × Obj)} {Z : St} {H : Hp} {s : Shared} {a : Addr} {o : Obj} {kvs : List (Key × V)} (I : Inv X pins Z H s) (h : H a = some (.frz o (.dK kvs))) (h0 : X.H₀ a = none) : Inv X pins Z (upd H a (.dK kvs)) s := by
 have ne : ∀ b, H b = none -> b ≠ a := λb e z => by rw [z, h] at e; cases e
 have ne2 : ∀ b u, X.H₀ b = some u -> b ≠ a := λb u e z => by rw [z, h0] at e; cases e
 refine ⟨I.ok, I.os, I.bare, ⟨I.base.keep, I.base.slot, λb ob e n hx => ?_, I.base.there, λb xs e => ?_, λb ob u e => ?_, λb ps e => ?_⟩, I.loc, I.cell, ?_, λx c e => ?_, λp hp => ?_, λb u e => ?_, I.len⟩
 ·have := I.base.free b ob e n hx
  rw [A3 (ne b this)]
  exact this
 ·rw [A3 (ne2 b _ e)]
  exact I.base.tups b xs e
 ·rw [A3 (ne2 b _ e)]
  exact I.base.frzs b ob u e
 ·rw [A3 (ne2 b _ e)]
  exact I.base.tbls b ps e
 ·rw [A3 (ne _ I.free)]
  exact I.free
 ·rw [A3 (ne _ (I.freeC x c e))]
  exact I.freeC x c e
 ·obtain ⟨p1, p2, p3⟩ := I.pin p hp
  exact ⟨p1, by rw [A3 (ne _ p2)]; exact p2, p3⟩
 ·by_cases hb : b = a
  ·subst hb
   rw [A0] at e
   cases e
   exact (I.hok b _ h).2
  ·rw [A3 hb] at e
   have nq : ∀ c w, H c = some w -> w ≠ .frz o (.dK kvs) -> c ≠ a := λc w q n z => by rw [z, h] at q; exact n (Zza q).symm
   refine (I.hok b u e).stay (λ_ _ _ q => q) (λc q => ?_) λc ys q => ?_
   ·rw [A3 (nq c _ q (λz => by cases z))]; exact q
   ·rw [A3 (nq c _ q (λz => by cases z))]; exact q
def Thaw (H0 H H' : Hp) : Prop := H' = H \/ ∃ a o kvs, H0 a = none /\ H a = some (.frz o (.dK kvs)) /\ H' = upd H a (.dK kvs)
def fk (H0 : Hp) (t : TS) : TS := λD Z H => t { D with nx := λZ' H' => ∃ H2, Thaw H0 H' H2 /\ D.nx Z' H2 } Z H
theorem bi {st : Stmt} {t : TS} {H0 : Hp} (e : X.H₀ = H0) (h : PS X st t) : PS X st (fk H0 t) := by
 subst e
 intro pins s Z H D I q
 refine wpAny_mono (h pins s Z H _ I q) (λf s' hs => ?_) λ_ _ z => z
 cases f with
 | next =>
  obtain ⟨Z', H', I', H2, th, q2⟩ := hs
  rcases th with e | ⟨a, o, kvs, h0, ha, e⟩
  ·subst e; exact ⟨Z', _, I', q2⟩
  ·subst e; exact ⟨Z', _, I'.thaw ha h0, q2⟩
 | ret u => exact hs
 | brk => exact hs
 | cont => exact hs
end
end L2
namespace L2
open PySem PySem.Spec PyProof.Rows
def rGetK : V -> V -> Hp -> VK -> Prop := λo i H Q => ∃ (p : Addr) (kvs : List (Key × V)) (k : Key) (v : V), o = .ref p /\ i = kV k /\ H p = some (.dK kvs) /\ Br kvs k = some v /\ Q v H
theorem S4 {X : Cx} (hu : X.A.units + 1 < cLine) : js X rGetK := by
 intro pins s Z H o i ov iv Q I ro ri h
 obtain ⟨p, kvs, k, v, rfl, rfl, hp, hv, q⟩ := h
 cases ro
 have g : Xi H p (kV k) (Br kvs k) := .inl ⟨kvs, k, .inl hp, rfl, rfl⟩
 rw [hv] at g
 exact Ou hu I g ri λw' s' I' rw' => ⟨v, H, I', rw', q⟩
theorem V0 {H : Hp} {p : Addr} {kvs : List (Key × V)} {k : Key} {v : V} (h : Rd H p (.dK kvs)) (e : Br kvs k = some v) : Ki H (.ref p) (kV k) v := .inr (.inr ⟨p, kvs, k, rfl, rfl, h, e⟩)
end L2
namespace NP
open PySem L2
def nk (j : Nat) : Key := Zwe (j : Int)
theorem Te {i j : Nat} (h : nk i = nk j) : i = j := by
 have := Sum.inl.inj h
 omega
def fnI (ks : List Nat) (g : Nat -> Int) : List (Key × V) := ks.map λx => (nk x, V.int (g x))
theorem Z8 (ks : List Nat) (g : Nat -> Int) : (fnI ks g).map (·.1) = ks.map nk := by unfold fnI; rw [Zxt]; rfl
theorem Ie (ks : List Nat) (g : Nat -> Int) : (fnI ks g).length = ks.length := by unfold fnI; rw [Zzz]
theorem Ic {ks : List Nat} {g : Nat -> Int} {x : Nat} (h : x ∈ ks) : Br (fnI ks g) (nk x) = some (.int (g x)) := by
 induction ks with
 | nil => cases h
 | cons y r ih =>
  unfold fnI
  rw [Zz4]
  by_cases e : y = x
  ·rw [Ca (by rw [e])]
   rw [e]
  ·rw [Bq (λz => e (Te z))]
   exact ih ((Zzk.mp h).resolve_left λz => e z.symm)
theorem Z7 {ks : List Nat} {g : Nat -> Int} {x : Nat} (h : x ∉ ks) : Br (fnI ks g) (nk x) = none := by
 induction ks with
 | nil => rfl
 | cons y r ih =>
  unfold fnI
  rw [Zz4, Bq (λz => h (by rw [<- Te z]; exact Zz6))]
  exact ih λm => h (Zz7 _ m)
theorem V4 {ks : List Nat} {g : Nat -> Int} {y : Nat} {v : Int} (h : y ∈ ks) : Ei (fnI ks g) (nk y) (.int v) = fnI ks λx => if x = y then v else g x := by
 unfold Ei
 rw [if_pos (by rw [Du, Ic h]; rfl)]
 unfold fnI
 rw [Zxt]
 apply Zy2
 intro x _
 show (if nk x = nk y then (nk x, V.int v) else (nk x, V.int (g x))) = (nk x, V.int (if x = y then v else g x))
 by_cases e : x = y
 ·rw [if_pos (by rw [e]), if_pos e]
 ·rw [if_neg (λz => e (Te z)), if_neg e]
theorem Da {ks : List Nat} {g g' : Nat -> Int} (h : ∀ x ∈ ks, g x = g' x) : fnI ks g = fnI ks g' := by
 unfold fnI
 exact Zy2 λx hx => by rw [h x hx]
theorem V5 {ks : List Nat} {g : Nat -> Int} {y : Nat} {v : Int} (h : y ∉ ks) : Ei (fnI ks g) (nk y) (.int v) = fnI (ks ++ [y]) λx => if x = y then v else g x := by
 rw [Ja _ (Z7 h)]
 unfold fnI
 rw [Zzg]
 congr 1
 ·refine Zy2 λx hx => ?_
  show (nk x, V.int (g x)) = (nk x, V.int (if x = y then v else g x))
  rw [if_neg (λe : x = y => h (e ▸ hx))]
 ·show [(nk y, V.int v)] = [(nk y, V.int (if y = y then v else g y))]
  rw [if_pos rfl]
end NP
namespace L2
open PySem PySem.Spec PyProof.Rows PySem.W
theorem Fun.okCX {P : Program} {w : World} {K : Frag} {mg : Str -> Option Value} {base : Heap} {x qual : Str} {st : Stmt} {f c Pt : Addr} {fd : FuncData} {N ps : List Str} {k : Nat} {sp : Sp} (F : Fun K x qual st f fd) (C : Qs K f c Pt) (S : Aj N ps (A9 st)) (len : ∀ vs H Q E, sp vs H Q E -> vs.length = ps.length)
  (hbody : ∀ (A : Around) (outer : List Env) (s : Shared) (H : Hp) (vs : List V) (Q : VK) (E : XK), Room k (A.deeper (envOfC qual (A9 st) s.heap.objs.size f (.ref c))) -> sp vs H Q E ->
   ∃ t, PSs (Mk (CXE P w) P w K mg base N qual (A9 st) f (.ref c) A outer s H E) (Ah st) t /\ t { nx := λ_ H' => Q .non H', rt := Q } (Gw N vs) H) : FnOk P w K mg base (CXE P w) (k + 1) f fd ps sp := by
 obtain ⟨oc, od, kV, doc, pm, an, cdv, ct, osl, rfl, lk, hcd⟩ := F.ex
 have e : cdv = .ref c := C.code _ _ _ _ lk
 subst e
 exact V3 lk hcd S len λA outer s H vs Q E hr hsp => hbody A outer s H vs Q E hr hsp
end L2
namespace NP
open PySem L2
end NP
set_option maxHeartbeats 4000000
namespace L2
open PySem PySem.Spec PyProof.Rows
section
variable {prog : Program} {w : World} {A : Around} {I : Addr} {fp wr : List Addr} {G : Array GenState -> Array GenState -> Prop} {St : Nat -> Shared -> Prop}
end
section
variable {prog : Program} {w : World} {A : Around} {s : Shared} {E : Value -> Shared -> Prop}
end
section
variable {X : Cx}
end
end L2
namespace L2
open PySem PySem.Spec PyProof.Rows PySem.W NP
section
variable {X : Cx}
end
end L2
namespace L2
open PySem PySem.Spec PyProof.Rows
section
variable {X : Cx}
end
end L2
namespace L2
open PySem PySem.Spec PyProof.Rows PySem.W
def orS (a b : Sp) : Sp := λvs H Q E => a vs H Q E \/ b vs H Q E
theorem FnOk.lift {P : Program} {w : World} {K : Frag} {mg : Str -> Option Value} {base : Heap} {CX : CXT} {k : Nat} {f : Addr} {fd : FuncData} {ps : List Str} {sp : Sp} (F : FnOk P w K mg base CX0 k f fd ps sp) : FnOk P w K mg base CX k f fd ps sp where
 len := F.len
 run := λA outer s H as us vs Q E hr he hb r z => codeAny_mono (F.run A outer s H as us vs Q E hr he hb r z) λr s' h => by
  match r, h with
  | .ok (.ret u), h => exact h
  | .error e, h => exact h.elim
theorem FnOk.both {P : Program} {w : World} {K : Frag} {mg : Str -> Option Value} {base : Heap} {CX : CXT} {k1 k2 k : Nat} {f : Addr} {fd : FuncData} {ps : List Str} {sp1 sp2 : Sp} (F : FnOk P w K mg base CX0 k1 f fd ps sp1) (G : FnOk P w K mg base CX k2 f fd ps sp2) (h1 : k1 <= k) (h2 : k2 <= k) : FnOk P w K mg base CX k f fd ps (orS sp1 sp2) where
 len := λvs H Q E z => z.elim (F.len vs H Q E) (G.len vs H Q E)
 run := λA outer s H as us vs Q E hr he hb r z => z.elim (λz => (F.lift (CX := CX)).run A outer s H as us vs Q E (hr.mono h1) he hb r z) (λz => G.run A outer s H as us vs Q E (hr.mono h2) he hb r z)
theorem Room.z {k j : Nat} {A : Around} (h : Room k A) (e : j <= k := by decide) : Room j A := h.mono e
theorem Has.of {P : Program} {w : World} {K : Frag} {mg : Str -> Option Value} {base : Heap} {x : Str} {k : Nat} {f : Addr} {fd : FuncData} {ps : List Str} {sp : Sp} (m : mg x = some (.ref f)) (h : keepIn K (.ref f) = true) (b : Binds K fd ps []) (o : FnOk P w K mg base CX0 k f fd ps sp) : Has P w K mg base x k ps sp := ⟨f, fd, m, h, b, o⟩
theorem HasX.of {P : Program} {w : World} {K : Frag} {mg : Str -> Option Value} {base : Heap} {x : Str} {k : Nat} {f : Addr} {fd : FuncData} {ps : List Str} {sp : Sp} (m : mg x = some (.ref f)) (h : keepIn K (.ref f) = true) (b : Binds K fd ps []) (o : FnOk P w K mg base (CXE P w) k f fd ps sp) : HasX P w K mg base x k ps sp := ⟨f, fd, m, h, b, o⟩
end L2
namespace L2
open PySem PySem.Spec PyProof.Rows PySem.W NP
def jr (H : Hp) (a Pt Pu : Addr) : Prop := ∀ b u, H b = some u -> ((b = Pt \/ b = Pu) /\ u = .tbl #[]) \/ (b = a /\ ∃ o xs, u = .frz o (.lst xs))
theorem Oj {P : Program} {w : World} {K : Frag} {mg mb : Str -> Option Value} {k : Nat} {fa a Pt ct Pu cu : Addr} {fd : FuncData} {x : Str} {sp : Sp} {s₁ : Shared} {H : Hp}
  (KX : K.In s₁.heap) (hns : s₁.heap.Ns mainGlobals mg) (hb : s₁.heap.Ns builtinsNs mb) (hbb : ∀ x : Str, x ≠ "__name__" -> mb x = bootBuiltins x) (hlim : s₁.heap.NoLimit) (hg : s₁.gens = #[]) (hr : Room k callerA)
  (hT : s₁.heap.TableAt ct Pt #[]) (hU : s₁.heap.TableAt cu Pu #[]) (hBM : B1 mg s₁.heap) (hO : jr H a Pt Pu) (hHK : ∀ b u, H b = some u -> K.lookup b = none) (ok : HOk P w H s₁.heap)
  (F : ∀ base : Heap, K.In base -> base.Ns mainGlobals mg -> B1 mg base -> FnOk P w K mg base CX0 k fa fd [x] sp) (hbind : ∀ (s : Shared) (u : Value), BindsTo s fd ⟨[u], []⟩ [(x, u)])
  (hsp : sp [.ref a] H (λv _ => v = .bl true) λ_ _ _ => False) :
  codeAny (model P w) callerA (.call (.ref fa) ⟨[.ref a], []⟩) (λr s' => r = .ok (.ret (.bool true)) /\ OldK s₁.heap s'.heap /\ s'.os = s₁.os /\ AllBare s'.gens) s₁ := by
 have noD : ∀ {b : Addr} {o : Obj}, s₁.heap.get? b = some o -> (∀ vs : Array Value, o.data ≠ .fields vs) -> (∀ vs n, o.data ≠ .seq vs n) -> H b = none := λ{b o} e n1 n2 => by
  cases q : H b with
  | none => rfl
  | some u =>
   have y := ok b u q
   rcases hO b u q with ⟨_, rfl⟩ | ⟨_, ob, xs, rfl⟩
   ·have y : s₁.heap.get? b = some { cls := .none, data := .fields #[] } := y
    rw [e] at y; cases y; exact absurd rfl (n1 _)
   ·obtain ⟨_, _, its, m, _, y3⟩ := y
    rw [e] at y3; cases y3; exact absurd rfl (n2 _ _)
 have baseG : ∀ {b : Addr} {o : Obj}, s₁.heap.get? b = some o -> H b = none -> (Nt s₁.heap H).get? b = some o := λe n => Z2 e n
 have nsB : ∀ {b : Addr} {m : Str -> Option Value}, s₁.heap.Ns b m -> (Nt s₁.heap H).Ns b m := λ{b m} ⟨o, es, ep, e, d, r⟩ => ⟨o, es, ep, baseG e (noD e (λ_ z => by rw [d] at z; cases z) (λ_ _ z => by rw [d] at z; cases z)), d, r⟩
 have kB : K.In (Nt s₁.heap H) := λb o e => baseG (KX b o e) (by
  cases q : H b with
  | none => rfl
  | some u => rw [hHK b u q] at e; cases e)
 have bB : B1 mg (Nt s₁.heap H) := by
  obtain ⟨bm, ob, b1, b2, b3, b4, b5, b6, b7⟩ := hBM
  exact ⟨bm, ob, b1, b2, b3, baseG b4 (noD b4 (λ_ z => by rw [b7] at z; cases z) (λ_ _ z => by rw [b7] at z; cases z)), b5, b6, b7⟩
 have mB : Mod K mg (Nt s₁.heap H) := ⟨kB, nsB hns, ⟨mb, nsB hb, hbb⟩, by obtain ⟨mc, h1, h2⟩ := hlim; exact ⟨mc, nsB h1, h2⟩⟩
 have e0 : fb P w K mg (Nt s₁.heap H) callerA [] s₁ H := ⟨rfl, mB, λb o e => cn e, Zvy (X0 _ _), trivial, (λb hb => nomatch (show b ∈ ([] : List Addr) from hb)), ok, .of_eq hg⟩
 refine codeAny_mono ((F _ kB (nsB hns) bB).run callerA [] s₁ H ⟨[.ref a], []⟩ [.ref a] [.ref a] _ _ hr e0 (hbind s₁ (.ref a)) (.cons rfl .nil) hsp) λr s' h => ?_
 cases r with
 | error e => exact h.elim
 | ok fl =>
  cases fl with
  | next => exact h.elim
  | brk => exact h.elim
  | cont => exact h.elim
  | ret u =>
   obtain ⟨v, H', os, bare, un, ok', r', q⟩ := h
   have q : v = .bl true := q
   subst q
   obtain rfl : u = Value.bool true := r'
   have old : ∀ b o, s₁.heap.get? b = some o -> asItWas s₁.heap s'.heap b o := λb o e => by
    cases y : H b with
    | none => exact .inl (un.keep b o e y (by intro z; cases z) (by simp))
    | some u =>
     have ob := ok b u y
     rcases hO b u y with ⟨hb, rfl⟩ | ⟨_, oo, xs, rfl⟩
     ·obtain ⟨more, e2⟩ := un.tbls b #[] y
      have ob : s₁.heap.get? b = some { cls := .none, data := .fields #[] } := ob
      rw [e] at ob
      cases ob
      have e3 : s'.heap.get? b = some { cls := .none, data := .fields (#[] ++ more) } := ok' b _ e2
      rcases hb with rfl | rfl
      ·exact .inr (.inl ⟨hT.isCodeTable, rfl, #[], more, rfl, e3⟩)
      ·exact .inr (.inl ⟨hU.isCodeTable, rfl, #[], more, rfl, e3⟩)
     ·have e2 := un.frzs b oo _ y
      have e3 := (ok' b _ e2).1
      have e4 := ob.1
      rw [e] at e4
      cases e4
      exact .inl e3
   exact ⟨rfl, ⟨old, λb o e => un.there b o e (by simp)⟩, os, bare⟩
theorem Vo {l : OpenLaw} {n k : Nat} {q : Program} {loose : List Str} {XP : (Str -> Option Value) -> Heap -> Prop} {YP : World -> Heap -> Prop} {d dw dl : DefRec} {K : Params -> Frag} {sp : World -> Addr -> Addr -> Sp} {x wk wl : Str}
  (hn : l.most = some n) (hn2 : n <= sizeLine) (hdf : d.params.defaults = []) (hr : Room k callerA) (hY : ∀ (w : World) (h : Heap), YP w h -> (K w.params).In h) (hw : (recsOf q).find? (λe => e.name == wk) = some dw) (hw2 : (recsOf q).find? (λe => e.name == wl) = some dl)
  (F : ∀ (w : World) (mg : Str -> Option Value) (fa : Addr) (h : Heap), (K w.params).In h -> h.Ns mainGlobals mg -> mg d.name = some (.ref fa) ->
   ∃ (fd : FuncData) (ct Pt cu Pu : Addr), (∀ (s : Shared) (u : Value), BindsTo s fd ⟨[u], []⟩ [(x, u)]) /\ (tabIn (K w.params) wk = some (ct, Pt) /\ (K w.params).lookup Pt = none) /\ (tabIn (K w.params) wl = some (cu, Pu) /\ (K w.params).lookup Pu = none) /\ Pt ≠ Pu /\
    ∀ base : Heap, (K w.params).In base -> base.Ns mainGlobals mg -> B1 mg base -> FnOk l.prog w (K w.params) mg base CX0 k fa fd [x] (sp w Pt Pu))
  (hsp : ∀ (w : World) (H : Hp) (a Pt Pu : Addr) (ns : List Int), ns.length <= n -> H Pt = some (.tbl #[]) -> H Pu = some (.tbl #[]) -> Pt ≠ Pu -> SqL (K w.params) H a (ns.map V.int) -> sp w Pt Pu [.ref a] H (λv _ => v = .bl true) λ_ _ _ => False) :
  WalkO q loose XP YP l.row.toRowW d [] (λf vs => PySem.call f vs) := by
 refine Att.attach_call hn hdf λw s₀ s₁ mg mb fa o pm cd doc a vs ns G Y ho hd hcd hmg hobj hints hlen hg => ?_
 have KX := hY w _ Y
 obtain ⟨fd, ct, Pt, cu, Pu, hbd, ⟨htab, hKP⟩, ⟨htab2, hKP2⟩, ne, hF⟩ := F w mg fa _ KX G.T.g hmg
 obtain ⟨hC, hP⟩ := tab_of G.T KX hw htab
 obtain ⟨hC2, hP2⟩ := tab_of G.T KX hw2 htab2
 have hT := hC.tab hP
 have hU := hC2.tab hP2
 have aP : a ≠ Pt := λz => by rw [z, hP] at hobj; cases hobj
 have aP2 : a ≠ Pu := λz => by rw [z, hP2] at hobj; cases hobj
 have hBM : B1 mg s₁.heap := by
  obtain ⟨bm, ob, b1, b2, b3, b4, b5, b6⟩ := G.T.bmain
  refine ⟨bm, ob, b1, b2, λz => ?_, b3, b4, b5, b6⟩
  obtain ⟨og, es, ep, e, dg, _⟩ := G.T.g
  rw [<- z, b3] at e
  cases e
  rw [b6] at dg
  cases dg
 have rv := Nz hints
 have lenV := hints.length
 have okP : ∀ H : Hp, ObjOk l.prog w H s₁.heap Pt (.tbl #[]) := λ_ => hP
 have okP2 : ∀ H : Hp, ObjOk l.prog w H s₁.heap Pu (.tbl #[]) := λ_ => hP2
 have two : ∀ {b : Addr} {u : HO}, upd (upd (λ_ => none) Pt (.tbl #[])) Pu (.tbl #[]) b = some u -> (b = Pt \/ b = Pu) /\ u = .tbl #[] := λ{b u} y => by
  by_cases z : b = Pu
  ·subst z; rw [A0] at y; cases y; exact ⟨.inr rfl, rfl⟩
  ·rw [A3 z] at y
   by_cases z2 : b = Pt
   ·subst z2; rw [A0] at y; cases y; exact ⟨.inl rfl, rfl⟩
   ·rw [A3 z2] at y; cases y
 have ok2 : ∀ {H : Hp} {b : Addr}, b = Pt \/ b = Pu -> ObjOk l.prog w H s₁.heap b (.tbl #[]) := λh => by
  rcases h with rfl | rfl
  ·exact okP _
  ·exact okP2 _
 cases hk : (K w.params).lookup a with
 | some oa =>
  have e := KX a oa hk
  rw [hobj] at e
  cases e
  refine Oj (H := upd (upd (λ_ => none) Pt (.tbl #[])) Pu (.tbl #[])) KX G.T.g G.T.b G.T.builtins G.T.nolimit hg hr hT hU hBM (λb u y => ?_) (λb u y => ?_) (λb u y => ?_) hF hbd (hsp w _ a Pt Pu ns hlen (by rw [A3 ne, A0]) A0 ne (.inr ⟨_, vs.toArray, _, hk, rfl, rfl, rfl, by rw [Zzp, lenV]; exact Zyz hlen hn2, by simpa using rv⟩))
  ·exact .inl (two y)
  ·rcases (two y).1 with rfl | rfl
   ·exact hKP
   ·exact hKP2
  ·obtain ⟨h1, rfl⟩ := two y
   exact ok2 h1
 | none =>
  refine Oj (H := upd (upd (upd (λ_ => none) Pt (.tbl #[])) Pu (.tbl #[])) a (.frz { cls := .type "list", data := .seq vs.toArray } (.lst (ns.map V.int)))) KX G.T.g G.T.b G.T.builtins G.T.nolimit hg hr hT hU hBM (λb u y => ?_) (λb u y => ?_) (λb u y => ?_) hF hbd (hsp w _ a Pt Pu ns hlen (by rw [A3 (Zzf aP), A3 ne, A0]) (by rw [A3 (Zzf aP2), A0]) ne (.inl (.inr ⟨_, A0⟩)))
  ·by_cases z2 : b = a
   ·subst z2; rw [A0] at y; cases y; exact .inr ⟨rfl, _, _, rfl⟩
   ·rw [A3 z2] at y
    exact .inl (two y)
  ·by_cases z2 : b = a
   ·rw [z2]; exact hk
   ·rw [A3 z2] at y
    rcases (two y).1 with rfl | rfl
    ·exact hKP
    ·exact hKP2
  ·by_cases z2 : b = a
   ·subst z2; rw [A0] at y; cases y
    exact ⟨hobj, by rw [Zzz]; exact Zyz hlen hn2, vs, _, rv, hobj⟩
   ·rw [A3 z2] at y
    obtain ⟨h1, rfl⟩ := two y
    exact ok2 h1
section
variable {X : Cx}
def fh (ta : TE) : TT := λZ H Q => ta Z H λx H' => ∃ a xs, x = .ref a /\ H' a = some (.tup xs) /\ Q (!xs.isEmpty) H'
theorem bg {a : Expr} {ta : TE} (ha : PE X a ta) (he : ∀ whole, isTrue a X.env whole = (do let v <- whole; standAt a.pos; holding [v] (truthy v)) := by intro _; rfl) : PT X a (fh ta) := by
 intro pins s Z H Q I h
 refine isTrue_plain (thn (ha pins s Z H _ I h) λv s1 ⟨x, H1, I1, r1, q1⟩ => ?_) (he _)
 obtain ⟨a, xs, e, hx, q⟩ := q1
 exact Sv pins s1 Z H1 x v Q I1 r1 ⟨_, by subst e; exact .inr (.inl ⟨xs, SqT.of hx, rfl⟩), q⟩
end
def rIndexB : V -> List V -> Hp -> VK -> Prop := λx vs H Q => ∃ (l : Addr) (xs : List Bool) (n : Nat), x = .ref l /\ vs = [.bl true] /\ H l = some (.lst (xs.map V.bl)) /\ xs[n]? = some true /\ (∀ m, m < n -> xs.getD m false = false) /\ Q (.int n) H
theorem Lh : ∀ {xs : List Bool} {us : List Value}, Vals (xs.map V.bl) us -> ∀ j (hj : j < us.length), eqU (.bl true) us[j] = xs.getD j false
 | [], _, .nil, j, hj => absurd hj (Zxn _)
 | x :: xs, u :: us, .cons r t, 0, hj => by
  cases r
  cases x <;> rfl
 | x :: xs, u :: us, .cons r t, j + 1, hj => Lh t j (Nat.lt_of_succ_lt_succ hj)
theorem P3 : ∀ xs : List Bool, (xs.map V.bl).all Hl = true
 | [] => rfl
 | x :: xs => by rw [Zz4, Zwq, P3 xs]; rfl
theorem Wg {X : Cx} : MtM X "list.index" rIndexB := by
 intro pins s Z H x vs v us Q I rx rv h
 obtain ⟨l, xs, j, rfl, rfl, hH, hy, hno, q⟩ := h
 cases rx
 obtain ⟨u, rfl, ru⟩ := rv.one
 obtain ⟨z, its, n, r, hl, e⟩ := I.lstM hH
 rw [Zzz] at hl z
 have hj : j < xs.length := (Zzj.mp hy).1
 have hs : its.toArray.size = xs.length := by rw [Zzp, hl]
 rw [sizeLine_eq] at z
 refine call_meets F.slot_list_index ⟨_, e, rfl⟩ F.entry_list_index (F.args_list_index_2 _ _) (SeqAt.list_indexAt l its.toArray n none #[] u (eqU (.bl true)) j (by omega) (by omega) ?_ (λm hm hlt => ?_)) ⟨e, λw hw => Jh ru rfl r (P3 xs) w (by simpa using hw), ?_⟩
 ·rw [List.getElem_toArray, Lh r, Zzv, hy]
  rfl
 ·rw [List.getElem_toArray, Lh r]
  exact hno m hlt
 ·exact ⟨.int _, H, I.tok _, ⟨_, rfl⟩, q⟩
theorem Nu : entryFor table "proto.unchain" = some Builtin.«proto.unchain» := entryFor_of_fast (by kernel_rfl)
section
variable {prog : Program} {w : World} {A : Around} {E : Value -> Shared -> Prop} {s : Shared}
theorem Vq {ea : Addr} {v : Value} {Q : Value -> Shared -> Prop} (n : N2 ea s.heap) (hq : Q .none s) : wpAny (model prog w) A (runValue (.builtin "proto.unchain" ⟨[v, .ref ea, .ref ea, .bool false], []⟩)) Q E s := by
 obtain ⟨o, vs, h1, h2, h3⟩ := n
 refine wpAny_runValue (codeAny_builtin Nu ?_)
 show wpAny _ _ (field (.ref ea) 2 >>= _) _ _ s
 refine wpAny_bind (wpAny_field h1 h2 h3 ?_)
 exact wpAny_pure hq
theorem Oe {it l ea : Addr} {i : Nat} {xs} {Q : Option Value -> Shared -> Prop} (hh : A.handled = some (.ref ea)) (n : N2 ea s.heap) (st : s.heap.IsListIter it l i) (hl : s.heap.IsList l xs) (hx : xs[i]? = none)
  (hq : ∀ h', Zvt it s.heap h' -> Q none { s with heap := h' }) : wpAny (model prog w) A (pyNext (.ref it)) Q E s := by
 obtain ⟨oi, ei, ci, di⟩ := id st
 obtain ⟨ol, el, _, nl, dl⟩ := hl
 have nea : ea ≠ it := λz => by
  obtain ⟨o, vs, h1, h2, h3⟩ := n
  rw [z, ei] at h1
  cases h1
  rw [di] at h2
  cases h2
  cases h3
 unfold pyNext
 refine wpAny_bind (wpAny_attempt (wpAny_callSpecial?_slot (name := Str.ofString "__next__") st.typeIs slot_listiter_next (wpAny_call_entry slot_listiter_next st.typeIs entry_listiter_next ?_ (args_listiter_next _))))
 show wpAny _ _ (field (.ref it) 0 >>= _) _ _ s; refine wpAny_bind (wpAny_field ei di (x := .ref l) rfl ?_)
 show wpAny _ _ (if (Value.ref l == Value.none) = true then _ else _) _ _ s; rw [if_neg (λz : (Value.ref l == Value.none) = true => Zzc z)]
 show wpAny _ _ (field (.ref it) 1 >>= _) _ _ s; refine wpAny_bind (wpAny_field ei di (x := .int i 0) rfl ?_)
 show wpAny _ _ (seqItems? (.ref l) >>= _) _ _ s; refine wpAny_bind (wpAny_seqItems el dl ?_)
 simp only [hx, Zxo]
 refine wpAny_bind (wpAny_rule (wpAny_bind (wpAny_setField ei di (by simp) ?_))); show wpAny _ _ (newExc (.type "StopIteration") [] >>= _) _ _ _
 refine wpAny_bind ?_; simp only [newExc, newTuple]
 refine wpAny_bind (wpAny_newObj_type ?_ (by size_fits)); refine wpAny_bind (m := firstArgMember _ _) (wpAny_of_eq (a := Value.none) (by first | rfl | (simp only [firstArgMember]; rfl)) ?_)
 refine wpAny_newObj_type ?_ (by size_fits); simp only [raiseNew]
 refine wpAny_bind (wpAny_handled ?_); rw [show A.in1.handled = some (.ref ea) from hh]
 have n1 : N2 ea (s.heap.update it (Obj.mapFields λx => x.setIfInBounds 0 Value.none)) := by
  obtain ⟨o, vs, h1, h2, h3⟩ := n
  exact ⟨o, vs, (Zyo _ _ (Zzf nea)).trans h1, h2, h3⟩
 have eb0 : Zvt it s.heap (s.heap.update it (Obj.mapFields λx => x.setIfInBounds 0 Value.none)) := (Zwz ..).extBut
 generalize (s.heap.update it (Obj.mapFields λx => x.setIfInBounds 0 Value.none)) = h1 at n1 eb0 ⊢
 have n2 : N2 ea (h1.push { cls := Value.type "tuple", data := Data.seq #[] }) := by
  obtain ⟨o, vs, e1, e2⟩ := n1
  exact ⟨o, vs, Zzy _ e1, e2⟩
 have eb2 := eb0.push { cls := Value.type "tuple", data := Data.seq #[] }
 generalize (h1.push { cls := Value.type "tuple", data := Data.seq #[] }) = h2 at n2 eb2 ⊢
 have ne : ea ≠ h2.objs.size := λz => by
  obtain ⟨o, vs, e1, _⟩ := n2
  have := Zzo e1
  rw [z] at this
  exact absurd this (Zxk _)
 dsimp only
 have hc : (Value.ref ea != Value.ref h2.objs.size) = true := by simpa using ne
 rw [if_pos hc]
 have n3 : ∀ o, N2 ea (h2.push o) := λo => by
  obtain ⟨o', vs, e1, e2⟩ := n2
  exact ⟨o', vs, Zzy _ e1, e2⟩
 refine wpAny_bind (wpAny_holding (Vq (n3 _) ?_))
 show wpAny _ _ (setField (.ref h2.objs.size) 2 (.ref ea) >>= _) _ _ _
 refine wpAny_bind (wpAny_setField (Zzm _ rfl) rfl (by rw [Array.size_append]; exact Zzi (show 2 < 6 by decide) (Nat.le_add_right _ _)) ?_)
 refine wpAny_throw (wpAny_bind (wpAny_isInstance (T := "StopIteration") (b := true) ⟨_, Zxi _ (Zzm _ rfl) (Obj.isFreed_of_fields (Obj.data_mapFields rfl _)), Obj.cls_mapFields ..⟩ isSubtype_stop ?_))
 refine wpAny_pure (hq _ λb o hb e => ?_)
 have e2 := eb2 b o hb e
 have nb : h2.objs.size ≠ b := λz => by
  have := Zzo e2
  rw [z] at this
  exact absurd this (Zxk _)
 exact (Zyo _ _ nb).trans (Zzy _ e2)
end
structure gv (P : Program) (w : World) (K : Frag) (tg : Expr) (J : It) (fp : List Addr) (it : Addr) (tn : Nat -> Heap -> Prop) (ea : Addr) : Prop where
 obj : ∀ i h, tn i h -> ∀ b ∈ fp, ∃ o, h.get? b = some o /\ ∀ v, o.data ≠ .cell v
 keep : ∀ i h h', tn i h -> (∀ b ∈ fp, ∀ o, h.get? b = some o -> h'.get? b = some o) -> tn i h'
 item : ∀ (X : Cx), X.prog = P -> X.w = w -> X.K = K -> X.A.handled = some (.ref ea) -> ∀ (i : Nat) (pins : List (Addr × Obj)) (s : Shared) (Z : St) (H : Hp) (E : Value -> Shared -> Prop), Inv X pins Z H s -> (∀ b ∈ fp, Fz X pins H b) -> tn i s.heap -> J.go i H -> wpAny (model P w) X.A (pyNext (.ref it)) (λr s1 => ∃ u, r = some u /\ wpAny (model P w) X.A (letOwnedTupleGo tg (.ref it) u) (λ_ s2 => ∃ x H', Inv X pins Z H' s2 /\ RelV x u /\ J.yld i H x H' /\ tn (i + 1) s2.heap /\ ∀ b ∈ fp, H' b = none) E s1) E s
 done : ∀ (X : Cx), X.prog = P -> X.w = w -> X.K = K -> X.A.handled = some (.ref ea) -> ∀ (i : Nat) (pins : List (Addr × Obj)) (s : Shared) (Z : St) (H : Hp) (E : Value -> Shared -> Prop), Inv X pins Z H s -> (∀ b ∈ fp, Fz X pins H b) -> tn i s.heap -> J.stop i H -> wpAny (model P w) X.A (pyNext (.ref it)) (λr s1 => r = none /\ Inv X pins Z H s1) E s
 self : ∀ (A : Around) (i : Nat) (s : Shared) (Q : Value -> Shared -> Prop) (E : Value -> Shared -> Prop), tn i s.heap -> Q (.ref it) s -> wpAny (model P w) A (pyIter (.ref it)) Q E s
def eu (ea a : Addr) (xs : List V) : It := ⟨λi H => H a = some (.lst xs) /\ i < xs.length, λi H x H' => H' = H /\ xs[i]? = some x, λi H => (H a = some (.lst xs) /\ ∃ cls, H ea = some (Qg ea cls)) /\ xs.length <= i⟩
theorem jj (ea a : Addr) (xs : List V) : Nx (eu ea a xs) xs.length (λi x => xs[i]? = some x) (λH => H a = some (.lst xs) /\ ∃ cls, H ea = some (Qg ea cls)) := ⟨λ_ _ h o => ⟨o.1, h⟩, λ_ _ _ _ _ _ y => y, λ_ o => ⟨o, Zzw _⟩⟩
theorem Su {P : Program} {w : World} {K : Frag} {tg : Expr} (ea a it : Addr) (xs : List V) : gv P w K tg (eu ea a xs) [it] it (λi h => h.IsListIter it a i) ea where
 obj := (Cp (P := P) (w := w) (K := K) (tg := tg) a it).obj
 keep := (Cp (P := P) (w := w) (K := K) (tg := tg) a it).keep
 item := λX hP hw hK hc i pins s Z H E I hf st hg => by
  subst hP hw hK
  obtain ⟨ha, hi⟩ := hg
  have hx : xs[i]? = some xs[i] := Zzq hi
  obtain ⟨its, rv, p, _⟩ := I.list (SqL.of ha)
  obtain ⟨u, hu, ru⟩ := rv.get hx
  obtain ⟨f0, f1, _, f3, f4, f5⟩ := hf it (by simp)
  refine wpAny_pyNext_list_item st p.isList (x := u) (by simpa using hu) λh2 st2 sb => ?_
  have I2 : Inv X pins Z H { s with heap := h2 } := I.turned (t' := s.toks) (λb o hb e => (sb.2 b hb).trans e) f0 f1 f3 f4 f5
  obtain ⟨o, e, c, d⟩ := id st2
  exact ⟨u, rfl, On (s := { s with heap := h2 }) e c d (by decide) ⟨xs[i], H, I2, ru, ⟨rfl, hx⟩, st2, λb hb => (hf b hb).1⟩⟩
 done := λX hP hw hK hc i pins s Z H E I hf st hg => by
  subst hP hw hK
  obtain ⟨⟨ha, cls, he⟩, hi⟩ := hg
  obtain ⟨its, rv, p, _⟩ := I.list (SqL.of ha)
  obtain ⟨f0, f1, _, f3, f4, f5⟩ := hf it (by simp)
  have hl := rv.length
  exact Oe hc (I.hok ea _ he).1.2 st p.isList (by simp; omega) λh2 eb => ⟨rfl, I.turned (t' := s.toks) (λb o hb e => eb b o hb e) f0 f1 f3 f4 f5⟩
 self := (Cp (P := P) (w := w) (K := K) (tg := tg) a it).self
section
variable {X : Cx} {pins : List (Addr × Obj)} {Z : St} {H : Hp} {s : Shared} {sc : Scope} {own : List Str} {cap : List Nat} {cl : List (Str × Addr)} {C : Addr} {fp : List Addr}
theorem Sd {ea : Addr} {elt tg iter : Expr} {ifs : List Expr} {pos : Pos} {g : TG} {tt : TT} {te : TE} {E : Value -> Shared -> Prop}
  {it : Addr} {tn : Nat -> Heap -> Prop} {J : It} {Q : VK} {RR : Value -> Addr -> Result -> Shared -> Prop}
  (hc : X.A.handled = some (.ref ea)) (S : G9 X.N X.env.scope sc own cap) (hown : Sm own.length g)
  (cl1 : ∀ x c, cl.lookup x = some c -> X.env.cells.lookup x = some c) (cl2 : ∀ x, (x, Zz1) ∈ sc.names -> ∃ c, cl.lookup x = some c)
  (hb : ∀ cl C s H fp pins, PG (B2 X sc own cap cl C s H fp pins) tg g /\ PTs (B2 X sc own cap cl C s H fp pins) ifs tt /\ PE (B2 X sc own cap cl C s H fp pins) elt te)
  (I : Inv X pins Z H s) (T : gv X.prog X.w X.K tg J fp it tn ea) (st : tn 0 s.heap) (f : ∀ b ∈ fp, Fz X pins H b)
  (W : Nat -> Nat -> List V -> Hp -> Prop) (w0 : ∃ m, W 0 m [] H)
  (turn : ∀ i m acc H, W i m acc H -> acc.length <= sizeLine /\ ((J.stop i H /\ ∀ p, H p = none -> Q (.ref p) (upd H p (.lst acc))) \/ (J.go i H /\ acc.length < sizeLine /\ ∃ N : List V -> Hp -> Prop, (∀ acc' H', N acc' H' -> ∃ m', m' < m /\ W (i + 1) m' acc' H') /\ ∀ x H', J.yld i H x H' -> g x (Gb own cap Z) H' λσ2 H2 => tt σ2 H2 λb H3 => if b = true then te σ2 H3 λy H4 => N (acc ++ [y]) H4 else N acc H3)))
  (hRR : ∀ D C H' s', Inv X pins Z H' s' -> (∃ m, s'.heap.Ns C m) -> Fz X pins H' C -> Q (.ref D) H' -> RR (.ref D) C (.ok .next) s') :
  wpAny (model X.prog X.w) X.A (newList []) (λacc s₃ => wpAny (model X.prog X.w) X.A (newFunctionEnv sc X.env.globals cl [] X.env.qual none .none (some X.env)) (λcenv s₄ =>
   codeAny (model X.prog X.w) X.A (.compStart (.ListComp elt [⟨tg, iter, ifs, 0⟩] sc pos) 0 (.ref it) acc { cenv with scope := relabel sc X.env }) (RR acc cenv.locals) s₄) E s₃) E s := by
 refine wpAny_newObj_type (wpAny_newFunctionEnv S.nocell (by intro y hy; simp at hy) (λh₁ hns₁ hsb₁ => ?_) S.kind)
 dsimp only at hns₁ hsb₁ ⊢
 generalize hH2 : s.heap.push { cls := .type "list", dict := none, data := .seq ([] : List Value).toArray } = H2 at hns₁ hsb₁ ⊢
 have hCs : H2.objs.size = s.heap.objs.size + 1 := by rw [<- hH2, Zy1]
 have hDC : s.heap.objs.size ≠ H2.objs.size := by omega
 have hCle : s.heap.objs.size <= H2.objs.size := by omega
 have old : ∀ b o, s.heap.get? b = some o -> h₁.get? b = some o := λb o e => by
  exact hsb₁.extBut b o (Bd (Zzo e) hCle) (Zzy _ (hH2 ▸ Zzy _ e))
 have hacc : h₁.get? s.heap.objs.size = some { cls := .type "list", data := .seq ([] : List Value).toArray 0 } := hsb₁.extBut _ _ hDC (Zzy _ (hH2 ▸ Zzm _ rfl))
 have live : ∀ b ∈ fp, b < s.heap.objs.size := λb hb => by
  obtain ⟨o, e, _⟩ := T.obj _ _ st b hb
  exact Zzo e
 have ok := gp (C := H2.objs.size) S cl1 cl2 I f live hCle
 have hDst : s.heap.objs.size ∉ frs X.stack := λz => by
  rcases Zzk.mp (I.stkSub _ z) with q | q
  ·exact Bd I.lt (Zzw _) q.symm
  ·exact I.nofs (Zzw _) q
 have fpX : ∀ (H' : Hp) (pl : List (Addr × Obj)), (∀ b ∈ fp, H' b = none) -> (∀ p ∈ pl, ∀ b ∈ fp, p.1 ≠ b) -> ∀ b ∈ fp, Fz (B2 X sc own cap cl H2.objs.size s H fp pins) pl H' b := λH' pl hn hp b hb => by
  obtain ⟨f0, f1, f2, f3, f4, f5⟩ := f b hb
  refine ⟨hn b hb, λz => ?_, λz => ?_, .inl hb, λx c e => f4 x c (cl1 x c e), λp hpp => ?_⟩
  ·exact Bd (live b hb) hCle z
  ·rcases Zzk.mp (I.stkSub b z) with q | q
   ·exact f1 q
   ·exact f2 q
  ·rcases Zyu.mp hpp with q | q
   ·exact f5 p q
   ·exact hp p q b hb
 have loop : ∀ s₃ : Shared, s₃ = { s with heap := h₁, toks := s.toks + ([] : List (Str × Value)).length } ->
   codeAny (model X.prog X.w) X.A (.compLoop (.ListComp elt [⟨tg, iter, ifs, 0⟩] sc pos) 0 (.ref it) (.ref s.heap.objs.size) (compEnvC sc cl H2.objs.size X.env))
    (RR (.ref s.heap.objs.size) H2.objs.size) s₃ := by
  rintro s₃ rfl
  obtain ⟨m0, w0⟩ := w0
  obtain ⟨hg, ht, he⟩ := hb cl H2.objs.size s H fp pins
  have I0 : Inv (B2 X sc own cap cl H2.objs.size s H fp pins) [] (Gb own cap Z) H { s with heap := h₁, toks := s.toks + ([] : List (Str × Value)).length } := Ze S cl1 cl2 I ok hCle hns₁ old
  refine Fc (λn s' => ∃ i acc its nn H', Inv (B2 X sc own cap cl H2.objs.size s H fp pins) [] (Gb own cap Z) H' s' /\ tn i s'.heap /\ (∀ b ∈ fp, H' b = none) /\
   s'.heap.get? s.heap.objs.size = some { cls := .type "list", data := .seq its.toArray nn } /\ Vals acc its /\ H' s.heap.objs.size = none /\ W i n acc H') ?_ m0
   ⟨0, [], [], 0, H, I0, T.keep _ _ _ st (λb _ o e => old b o e), λb hb => (f b hb).1, hacc, .nil, I.hok.fresh (Zzw _), w0⟩
  rintro n s3 ⟨i, acc, its, nn, H3, I3, st3, fr3, hD3, rv3, hDn, w3⟩
  obtain ⟨hz, hcase⟩ := turn i n acc H3 w3
  have hpl : ∀ p ∈ [((s.heap.objs.size : Addr), ({ cls := .type "list", data := .seq its.toArray nn } : Obj))], ∀ b ∈ fp, p.1 ≠ b := λp hp b hb z => by
   have e : p = _ := Zzb.mp hp
   rw [e] at z
   exact Bd (live b hb) (Zzw _) z.symm
  have I3' : Inv (B2 X sc own cap cl H2.objs.size s H fp pins) [((s.heap.objs.size : Addr), ({ cls := .type "list", data := .seq its.toArray nn } : Obj))] (Gb own cap Z) H3 s3 := I3.pins_of λp hp => by
   have e : p = _ := Zzb.mp hp
   subst e
   exact ⟨hD3, hDn, hDC, hDst, λv z => by cases z⟩
  rcases hcase with ⟨stop, fin⟩ | ⟨go, hlt, N, hN, step⟩
  ·refine thn (T.done (B2 X sc own cap cl H2.objs.size s H fp pins) rfl rfl rfl hc i _ s3 _ H3 _ I3' (fpX H3 _ fr3 hpl) st3 stop) λr s4 ⟨hr, I4⟩ => ?_
   subst hr
   have hD4 := (I4.pin (_, _) (Zz9 _ (Zzb.mpr rfl))).1
   obtain ⟨J1, J2, J3⟩ := Vd I f hCle (Zzw _) hDC I4 hDn hD4 rv3 hz
   exact hRR _ _ _ _ J1 J2 J3 (fin _ hDn)
  ·refine thn (T.item (B2 X sc own cap cl H2.objs.size s H fp pins) rfl rfl rfl hc i _ s3 _ H3 _ I3' (fpX H3 _ fr3 hpl) st3 go) λr s4 ⟨u, hr, h4⟩ => ?_
   subst hr
   refine thn h4 λ_ s5 ⟨x, H5, I5, r5, y5, st5, fr5⟩ => ?_
   have I5' := I5.pinned (fpX H5 _ fr5 hpl) (T.obj _ _ st5)
   refine thn (hg _ s5 _ H5 x u _ I5' r5 (hown _ _ _ _ (step x H5 y5))) λ_ s6 ⟨σ6, H6, I6, ⟨hx1, hx2⟩, q6⟩ => ?_
   refine thn (ht _ s6 σ6 H6 _ I6 q6) λb s7 ⟨H7, I7, q7⟩ => ?_
   have wk : ∀ {H7 : Hp} {s7 : Shared} {pl : List (Addr × Obj)}, Inv (B2 X sc own cap cl H2.objs.size s H fp pins) pl σ6 H7 s7 -> Inv (B2 X sc own cap cl H2.objs.size s H fp pins) pl (Gb own cap Z) H7 s7 := λI => I.weak hx1.symm λj v e => by
    rw [hx2 j (Kc e).1]
    exact e
   have stay : ∀ {H7 : Hp} {s7 : Shared} {σ7 : St}, Inv (B2 X sc own cap cl H2.objs.size s H fp pins) ([((s.heap.objs.size : Addr), ({ cls := .type "list", data := .seq its.toArray nn } : Obj))] ++ Hd fp s5.heap) σ7 H7 s7 ->
     tn (i + 1) s7.heap /\ (∀ b ∈ fp, H7 b = none) /\ s7.heap.get? s.heap.objs.size = some { cls := .type "list", data := .seq its.toArray nn } /\ H7 s.heap.objs.size = none := λ{H7 s7 σ7} I7 => by
    refine ⟨T.keep _ _ _ st5 λb hb o e => (I7.pin (b, o) (Zz9 _ (Zz9 _ (Em hb e)))).1, λb hb => ?_, ?_, ?_⟩
    ·obtain ⟨o, e, d⟩ := T.obj _ _ st5 b hb
     exact (I7.pin (b, o) (Zz9 _ (Zz9 _ (Em hb e)))).2.1
    ·exact (I7.pin (_, _) (Zz9 _ (Zyf _ (Zzb.mpr rfl)))).1
    ·exact (I7.pin (_, _) (Zz9 _ (Zyf _ (Zzb.mpr rfl)))).2.1
   cases b with
   | false =>
    rw [if_neg Zzc] at q7 ⊢
    obtain ⟨m', hm, w7⟩ := hN _ _ q7
    obtain ⟨a1, a2, a3, a4⟩ := stay I7
    exact ⟨m', hm, i + 1, acc, its, nn, H7, (wk I7).pins_of (λp hp => absurd hp (by simp)), a1, a2, a3, rv3, a4, w7⟩
   | true =>
    rw [if_pos rfl] at q7 ⊢
    refine thn (he _ s7 σ6 H7 _ I7 q7) λy s8 ⟨v, H8, I8, r8, n8⟩ => ?_
    obtain ⟨m', hm, w8⟩ := hN _ _ n8
    obtain ⟨a1, a2, a3, a4⟩ := stay I8
    have hlen := rv3.length
    refine call_meets F.slot_list_append ⟨_, a3, rfl⟩ F.entry_list_append (F.args_list_append_2 _ _) (PySem.list_append s.heap.objs.size its.toArray nn y (by rw [Zzp]; omega)) ⟨a3, ?_⟩
    obtain ⟨n', q⟩ : ∃ n', (s8.heap.update s.heap.objs.size (Obj.mapSeq (·.push y))).get? s.heap.objs.size = some { cls := .type "list", data := .seq (its ++ [y]).toArray n' } := by
     have q := PySem.IsL.update a3 (·.push y)
     have e : (its.toArray.push y) = (its ++ [y]).toArray := by simp
     rw [<- e]
     exact ⟨_, q⟩
    have I9 := (wk I8).pins_of (pins' := Hd fp s5.heap) λp hp => (wk I8).pin p (Zz9 _ (Zz9 _ hp))
    have kk : ∀ b o, b ≠ s.heap.objs.size -> s8.heap.get? b = some o -> (s8.heap.update s.heap.objs.size (Obj.mapSeq (·.push y))).get? b = some o := λb o hb e => (Zyo s8.heap (Obj.mapSeq (·.push y)) (Zzf hb)).trans e
    refine ⟨m', hm, i + 1, acc ++ [v], its ++ [y], n', H8, (I9.pins_of (pins' := []) λp hp => absurd hp (by simp)).turned (it := s.heap.objs.size) kk a4 hDC (.inr (Zzw _)) (λx c e z => ?_) (λp hp z => ?_), T.keep _ _ _ a1 λb hb o e => kk b o (λz => ?_) e, a2, q, rv3.append (.cons r8 .nil), a4, w8⟩
    ·have e := cl1 x c e
     obtain ⟨w', o, ho, _⟩ := I.cell x c e
     exact Bd (Zzo ho) (Zzw _) z
    ·have hp : p ∈ (X.pn ++ pins) ++ [] := hp
     rw [Zya] at hp
     exact Bd (Zzo (I.pin p hp).1) (Zzw _) z
    ·exact Bd (live b hb) (Zzw _) z
 exact codeAny_compStart_list (loop _ rfl) (T.self _ 0 _ _ _ (T.keep _ _ _ st λb _ o e => old b o e) (loop _ rfl))
def gk (ea : Addr) (te : TE) : TI := λZ H R => te Z H λx H1 => ∃ a xs, x = .ref a /\ H1 a = some (.lst xs) /\ R (eu ea a xs) H1
theorem Ya {ea : Addr} {elt tg iter : Expr} {pos : Pos} {ti : TE} {g : TG} {tt : TT} {te : TE} {ifs : List Expr} (hc : X.A.handled = some (.ref ea)) (S : G9 X.N X.env.scope sc own cap) (hown : Sm own.length g) (hi : PE X iter ti)
  (hb : ∀ cl C s H fp pins, PG (B2 X sc own cap cl C s H fp pins) tg g /\ PTs (B2 X sc own cap cl C s H fp pins) ifs tt /\ PE (B2 X sc own cap cl C s H fp pins) elt te)
  (hs : ∀ x, foldedSetIterable iter X.env x = pure x := by intro _; rfl) : PE X (.ListComp elt [⟨tg, iter, ifs, 0⟩] sc pos) (Uh own cap (gk ea ti) g tt te) := by
 intro pins s Z H Q I h
 obtain ⟨cl, hcl, cl1, cl2⟩ := Ez (env := X.env) (scope := sc) λy hy hf => I.ok.has y.1 (S.free y hy hf)
 rw [eval_ListComp]
 refine wpAny_comprehension_free (use := none) rfl hs hcl S.kind S.names (thn (hi pins s Z H _ I h) λxv s1 h1 => ?_)
 obtain ⟨x, H1, I1, r1, a, xs, e, ha, W, w0, turn⟩ := h1
 subst e
 cases r1
 obtain ⟨its, rv, hli, hlt⟩ := Av I1 ha
 refine wpAny_pyIter_list hli ?_
 have I2 : Inv X pins Z H1 { s1 with heap := s1.heap.push { cls := .type "list_iterator", data := .fields #[.ref a, .int 0 0] } } := I1.kept (t' := s1.toks) λb o e => Zzy _ e
 refine Sd (RR := λacc C => compPost (model X.prog X.w) X.A X.xe none (EP X pins Z Q) acc C) (fp := [s1.heap.objs.size]) (it := s1.heap.objs.size) hc S hown cl1 cl2 hb I2 (Su ea a s1.heap.objs.size xs) ⟨_, Zzm _ rfl, rfl, rfl⟩ (λb hb => ?_) W w0 turn ?_
 ·have e : b = s1.heap.objs.size := by simpa using hb
  subst e
  exact I1.fpOk (Zzw _) (I1.hok.fresh (Zzw _))
 ·intro D C H' s' J1 ⟨m, J2⟩ ⟨c0, c1, c2, c3, c4, c5⟩ q
  exact ⟨m, J2, λh' sb => ⟨.ref D, H', J1.turned (t' := s'.toks) (λb o hb e => (sb.2 b hb).trans e) c0 c1 c3 c4 c5, rfl, q⟩⟩
end
theorem N2.at {e : Addr} {h h' : Heap} (n : N2 e h) (k : ∀ o, h.get? e = some o -> h'.get? e = some o) : N2 e h' := by obtain ⟨o, vs, e1, r⟩ := n; exact ⟨o, vs, k o e1, r⟩
theorem i6 {P : Program} {w : World} {A : Around} {ea : Addr} (hh : A.handled = some (.ref ea)) (I l : Addr) (ne : l ≠ I) (xs : Array Value) : Walks P w A I [I, l, ea] [I] xs.size (λi v => xs[i]? = some v) (λi h => (h.IsListIter I l i /\ h.IsList l xs) /\ N2 ea h) where
 sub := λb hb => by
  rw [Zzb.mp hb]
  exact Zz6
 frame := λ_ _ _ st k => ⟨⟨st.1.1.at λo e => k I (by simp) o e, st.1.2.at λo e => k l (by simp) o e⟩, st.2.at λo e => k ea (by simp) o e⟩
 item := λi s Q E hi st hq => by
  obtain ⟨⟨h1, h2⟩, n⟩ := st
  have nI : ea ≠ I := λz => by
   obtain ⟨oi, ei, ci, di⟩ := h1
   obtain ⟨o, vs, e1, e2, e3⟩ := n
   rw [z, ei] at e1
   cases e1
   rw [di] at e2
   cases e2
   cases e3
  refine wpAny_pyNext_list_item h1 h2 (x := xs[i]) (by simp [hi]) λh' st' sb => hq _ h' s.toks (by simp [hi]) ⟨⟨st', h2.extBut sb.extBut ne⟩, n.at λo e => sb.extBut _ o nI e⟩ λb o hb e => sb.extBut b o (λz => hb (by simp [z])) e
 done := λs Q E st hq => Oe hh st.2 st.1.1 st.1.2 (by simp) λh' eb => hq h' s.toks λb o hb e => eb b o (λz => hb (by simp [z])) e
 self := λ_ _ _ _ st hq => wpAny_pyIter_listiter st.1.1 hq
def gf (ea : Addr) : List V -> Hp -> VK -> Prop := λxs H Q => ∃ (a : Addr) (ns : List Int) (cls : Value), xs = [.ref a] /\ H a = some (.lst (ns.map V.int)) /\ H ea = some (Qg ea cls) /\ Q (.int ns.sum) H
theorem Xb {X : Cx} {ea : Addr} (hc : X.A.handled = some (.ref ea)) : CallR X (.builtin "sum") (gf ea) := by
 intro pins s Z H xs us Q I r h
 obtain ⟨a, ns, cls, rfl, ha, he, q⟩ := h
 obtain ⟨u, rfl, ru⟩ := Fn r
 cases ru
 obtain ⟨its, rv, hl, hlt⟩ := Av I ha
 have n := (I.hok ea _ he).1.2
 have hlen : its.length = ns.length := by have := rv.length; rw [Zzz] at this; exact this.symm
 have up : (s.heap.push { cls := .type "list_iterator", data := .fields #[.ref a, .int 0 0] }).objs.size = s.heap.objs.size + 1 := Zy1 ..
 refine call_sum_walkG (wpAny_pyIter_list hl ⟨s.heap.objs.size, [s.heap.objs.size, a, ea], [s.heap.objs.size], its.toArray.size, _, _, λi => (ns[i]?).getD 0, rfl, i6 (A := X.A.in1) hc _ a (Zz0 hlt) its.toArray, ⟨⟨⟨_, Zzm _ rfl, rfl, rfl⟩, hl.push _⟩, n.at λo e => Zzy _ e⟩, λb hb => ?_, λi v hP => ?_, λh' tk t' hk => ?_⟩)
 ·show b < (s.heap.push { cls := .type "list_iterator", data := .fields #[.ref a, .int 0 0] }).objs.size
  rw [up]
  rcases Zzk.mp hb with z | z
  ·rw [z]; exact Nat.lt_succ_self _
  ·rcases Zzk.mp z with z | z
   ·rw [z]; exact Zxf hlt
   ·rw [Zzb.mp z]
    obtain ⟨o, vs, e1, _⟩ := n
    exact Zxf (Zzo e1)
 ·have hP : its[i]? = some v := by simpa using hP
  exact Iw rv hP
 ·rw [Zzp, hlen, Lu]
  exact ⟨.int ns.sum, H, I.walked hk, ⟨_, rfl⟩, q⟩
end L2
namespace K46
open PySem L2 NP PySem.W
seal PE PA PT PS PSs PI PO PC PW
local macro_rules | `(tactic| walk_at "rd") => `(tactic| simp only [R5, tNext, kl, ax, kq, g7, lf, Db, mh, av, tC, tCB, Ug, tNil, Ui, tOp, tUn, fm, tB, lg, tOr, km, g9, tIf, ki, ko, tSl, fo, tNoPart, tBA, tDNewK, tYes, rI, rI0, rU, rEq, rNe, rIsA, rIsnotA, rItem, lenA, listA, tupleA, lenQ, rSetD, rAddS, ma, m9, rCat, Z1, Z0, me, fi, fj, tIf, gm, gj, gi, rEqD, rNeD, Xu, Lc, rSum, ft, rGetL, g8, rRep, rMax2, rAppend, rPopAt, rSetA, rSetL, L2.Gw, Gb, Xw, aw, dh, kj, Xv, Xx, kr, tFnil, fz, fu, fv, im, Ends.lose, fq, U8, rListD, fk, rGetK, fh, rIndexB, gk, gf, Jn, Ka, K8, Jl, Ip, Jm, Nr, Qe, Qd, Np, Md, Nq, Qa, S2, S1, Q8, Nl, Q9, Q5, S0, Rz, Q3, Ng, Q4, Nk, Q7, Q6, Ni, Mb, Nj, Ma, Nf, Nd, M8, L1, M9, No, Qc, Qb, Nm, Mc, Nn, cy, Yr, cx, Yp, Wj, Yq, Nat.reduceAdd, Nat.reduceSub, Nat.zero_add, Zx8, List.replicate_zero, Zxe, List.getD_cons_zero, List.getD_cons_succ, ↓reduceIte, Zz4, Zx0, Zya, List.nil_append, Zw7, Zwr, List.length_nil, List.set_cons_zero, List.set_cons_succ, List.set_nil, List.getElem?_cons_zero, List.getElem?_cons_succ, Option.some.injEq, exists_eq_left', exists_eq_left, V.int.injEq, V.bl.injEq, V.str.injEq, V.ref.injEq, V.ty.injEq, List.cons.injEq, and_true, true_and, and_assoc, exists_and_left, exists_eq_right, reduceCtorEq, false_and, and_false, exists_false, or_false, false_or])
local macro_rules | `(tactic| walk_at "sc") => `(tactic| (constructor <;> first | rfl | decide +kernel))
def top (i : Nat) : Stmt := PySem.Challenge.pw_needplan_k46_whole_bought.main.body.getD i (.Pass ⟨0, 0, 0, 0⟩)
abbrev E9 : Stmt := top 18
abbrev D4 : Stmt := top 19
abbrev E8 : Stmt := top 20
abbrev Cf : Stmt := top 22
abbrev C7 : Stmt := top 23
abbrev Jw : Stmt := top 24
abbrev Ct : Stmt := top 25
abbrev Gf : Stmt := top 26
abbrev Gc : Stmt := top 27
abbrev Ge : Stmt := top 29
abbrev Ea : Stmt := top 30
abbrev D5 : Stmt := top 31
abbrev Gd : Stmt := top 33
abbrev Ff : Stmt := top 34
abbrev Fg : Stmt := top 35
abbrev D7 : Stmt := top 36
abbrev Dr : Stmt := top 37
abbrev Dn : Stmt := top 38
abbrev Dl : Stmt := top 39
abbrev Cg : Stmt := top 40
abbrev D3 : Stmt := top 41
abbrev Cr : Stmt := top 42
abbrev Eh : Stmt := top 47
abbrev Hu : Stmt := top 48
abbrev Bx : Stmt := top 49
abbrev Dm : Stmt := top 50
abbrev Gg : Stmt := top 51
abbrev D2 : Stmt := top 52
abbrev Ee : Stmt := top 54
abbrev Dq : Stmt := top 55
abbrev Dp : Stmt := top 56
abbrev Ec : Stmt := top 57
abbrev Ed : Stmt := top 58
abbrev Eg : Stmt := top 59
abbrev Cq : Stmt := top 60
abbrev Do : Stmt := top 61
abbrev D6 : Stmt := top 62
abbrev Eb : Stmt := top 63
abbrev Ef : Stmt := top 64
abbrev J7 : Stmt := top 65
structure Txt (mg : Str -> Option Value) : Prop where
 Zvh : mg "range" = none
 Zve : mg "len" = none
 Zsv : mg "max" = none
 Zsk : mg "sorted" = none
 Zsu : mg "zip" = none
 Zsj : mg "min" = none
 Ztn : mg "enumerate" = none
 Zsl : mg "list" = none
 Ztp : mg "sum" = none
 Zsm : mg "int" = none
 Ztf : mg "tuple" = none
 Zuj : mg "isinstance" = none
 Zsh : mg "all" = none
 Ztw : ∃ t, mg "COMING" = some (.int 5 t)
 Zte : ∃ t, mg "FLOOR" = some (.int 3 t)
 Zu3 : ∃ t, mg "GIVES" = some (.int 2 t)
 Ztd : ∃ t, mg "KEEP" = some (.int 2 t)
 Zto : ∃ t, mg "LAG" = some (.int 1 t)
 Zv0 : ∃ t, mg "NAME" = some (.int 0 t)
 Zu2 : ∃ t, mg "PARTS" = some (.int 6 t)
 Ztx : ∃ t, mg "PRICE" = some (.int 1 t)
 Zu1 : ∃ t, mg "SETUP" = some (.int 0 t)
 Ztc : ∃ t, mg "STOCK" = some (.int 4 t)
 Zup : ∃ t, mg "WANT_AMOUNT" = some (.int 2 t)
 Zug : ∃ t, mg "WANT_DAY" = some (.int 1 t)
 Zue : ∃ t, mg "WANT_NAME" = some (.int 0 t)
structure Cl where
 NeedError : Addr
 Ring : Addr
 NoName : Addr
 NoDay : Addr
 NoBuy : Addr
 NoPlan : Addr
structure Exc (K : Zzu) (mg : Str -> Option Value) (c : Cl) : Prop where
 Zsp : mg "NeedError" = some (.ref c.NeedError)
 Zsg : mg "Ring" = some (.ref c.Ring)
 Zss : mg "NoName" = some (.ref c.NoName)
 Zso : mg "NoDay" = some (.ref c.NoDay)
 Zsn : mg "NoBuy" = some (.ref c.NoBuy)
 Zsr : mg "NoPlan" = some (.ref c.NoPlan)
 Ztv : Mh K c.NoPlan = true
 Zui : G8 K c.NoPlan
 Zvj : exmOne K (.ref c.NoPlan) (.ref c.NeedError) = some true
 Zva : kitOne K (.ref c.NoPlan) (.ref c.NeedError) = some true
 Zud : kitOne K (.ref c.NoPlan) (.ref c.Ring) = some false
 Zv9 : kitOne K (.ref c.NoPlan) (.ref c.NoName) = some false
 Zuz : kitOne K (.ref c.NoPlan) (.ref c.NoDay) = some false
 Zuy : kitOne K (.ref c.NoPlan) (.ref c.NoBuy) = some false
 Zv8 : kitOne K (.ref c.NoPlan) (.ref c.NoPlan) = some true
 Zvc : kitOne K (.ref c.NoPlan) (.type "ValueError") = some true
 Ztb : Mh K c.NoDay = true
 Zua : G8 K c.NoDay
 Zvg : exmOne K (.ref c.NoDay) (.ref c.NeedError) = some true
 Zv2 : kitOne K (.ref c.NoDay) (.ref c.NeedError) = some true
 Zu6 : kitOne K (.ref c.NoDay) (.ref c.Ring) = some false
 Zux : kitOne K (.ref c.NoDay) (.ref c.NoName) = some false
 Zuo : kitOne K (.ref c.NoDay) (.ref c.NoDay) = some true
 Zun : kitOne K (.ref c.NoDay) (.ref c.NoBuy) = some false
 Zuw : kitOne K (.ref c.NoDay) (.ref c.NoPlan) = some false
 Zv7 : kitOne K (.ref c.NoDay) (.type "ValueError") = some true
 Zta : Mh K c.NoBuy = true
 Zu9 : G8 K c.NoBuy
 Zvf : exmOne K (.ref c.NoBuy) (.ref c.NeedError) = some true
 Zv1 : kitOne K (.ref c.NoBuy) (.ref c.NeedError) = some true
 Zu5 : kitOne K (.ref c.NoBuy) (.ref c.Ring) = some false
 Zuv : kitOne K (.ref c.NoBuy) (.ref c.NoName) = some false
 Zum : kitOne K (.ref c.NoBuy) (.ref c.NoDay) = some false
 Zul : kitOne K (.ref c.NoBuy) (.ref c.NoBuy) = some true
 Zuu : kitOne K (.ref c.NoBuy) (.ref c.NoPlan) = some false
 Zv6 : kitOne K (.ref c.NoBuy) (.type "ValueError") = some true
 Ztu : Mh K c.NoName = true
 Zuh : G8 K c.NoName
 Zvi : exmOne K (.ref c.NoName) (.ref c.NeedError) = some true
 Zv5 : kitOne K (.ref c.NoName) (.ref c.NeedError) = some true
 Zuc : kitOne K (.ref c.NoName) (.ref c.Ring) = some false
 Zv4 : kitOne K (.ref c.NoName) (.ref c.NoName) = some true
 Zut : kitOne K (.ref c.NoName) (.ref c.NoDay) = some false
 Zus : kitOne K (.ref c.NoName) (.ref c.NoBuy) = some false
 Zv3 : kitOne K (.ref c.NoName) (.ref c.NoPlan) = some false
 Zvb : kitOne K (.ref c.NoName) (.type "ValueError") = some true
def lamP : Pos := ⟨76, 38, 76, 65⟩
def lamQ : Str := ("worked" : Str) ++ ".<locals>." ++ "<lambda>"
def Tb (H : L2.Hp) (Pt : Addr) : Prop := L2.TblAt H Pt lamP lamQ
def m7 : Pos := ⟨179, 25, 179, 50⟩
def m6 : Str := ("cheapest_start" : Str) ++ ".<locals>." ++ "<lambda>"
def Tc (H : L2.Hp) (Pt : Addr) : Prop := L2.TblAt H Pt m7 m6
section
variable {P : Program} {w : World} {K : Zzu} {mg : Str -> Option Value} {base : Heap} {f : Addr} {fd : FuncData} {c : Cl}
def mq (w : Wr) : Prop := w.parts.length <= 1000 /\ w.coming.length <= 1000
structure U5 (S : Sh) : Prop where
 names : (S.wares.map (·.name)).Nodup
 len : S.wares.length <= 1000
 wares : ∀ w ∈ S.wares, mq w
def sp_part_names : Sp := λvs H Q _ => ∃ (v : V) (w : Wr), vs = [v] /\ RD H w.d v /\ mq w /\ ∀ p H', H p = none -> H' p = some (.lst ((w.parts.map (·.1)).map V.str)) -> Same H H' -> Q (.ref p) H'
theorem N0 : Aj ["ware"] ["ware"] (A9 D4) := by walk_at "sc"
theorem N8 (F : Fun K "part_names" "part_names" D4 f fd) (T : Txt mg) (C : Exc K mg c) : FnOk P w K mg base CX0 1 f fd ["ware"] sp_part_names := by
 refine F.ok N0 (λvs H Q E h => ?_) (λcdv A outer s H vs Q E hr h => ?_)
 ·obtain ⟨v, w, rfl, _⟩ := h
  rfl
 ·obtain ⟨v, w, rfl, rw', ok, k⟩ := h
  have hu := Bc hr
  refine ⟨_, (Aa (Ak (Fe (own := ["part"]) (cap := []) rfl (Fb rfl) (C9 (by decide)) (Dw (A7 hu (pv 0) (Aq rfl T.Zu2) (λ_ _ => rfl)))
 (λ_ _ _ _ _ _ => ⟨(Ac (i := 0) (of_decide_eq_true rfl) rfl (Zzt rfl) (.inr rfl)), D8, (A7 hu (pv 0) A8 (λ_ _ => rfl))⟩)))), ?_⟩
  obtain ⟨a, c, p, rfl, ha, rc, rp⟩ := C3 rw'
  obtain ⟨b, ps, rfl, hb, rps⟩ := RD.tup_of rp
  have hl := Ax rps
  walk_at "rd"
  refine ⟨_, Ad (j := 6) ha rfl, b, rfl, _, hb, ?_⟩
  refine Eu (G5 b _) (Ao (by rw [hl]; exact ok.1)) (λH' s' => s' _ _ hb) ((w.parts.map (·.1)).map V.str) (by rw [Zzz, Zzz, hl]) (λi x H' hi hx s' N M hN => ?_) (λH' s' p hp => ?_)
  ·obtain ⟨y, hy, ry⟩ := C4 rps hx
   obtain ⟨e, rfl, he⟩ := Up ry
   walk_at "rd"
   exact ⟨_, Ad (j := 0) (s' _ _ he) rfl, hN _ _ s' (by rw [Zzx, Zzx, hy]; rfl)⟩
  ·exact k p _ (Same.free s' hp) A0 (s'.trans (A4 hp))
def sp_ware_of : Sp := λvs H Q _ => ∃ (v : V) (S : Sh) (n : Str), vs = [v, .str n] /\ RD H S.d v /\ U5 S /\ n ∈ S.wares.map (·.name) /\ ∀ x w, w ∈ S.wares -> w.name = n -> RD H w.d x -> Q x H
def Vh (b : V) (n : Str) (ws : List Wr) (H : Hp) (i : Nat) (Z : St) (H' : Hp) : Prop := ∃ c : Option V, Z = [some b, some (.str n), c] /\ H' = H /\ ∀ w ∈ ws.take i, w.name ≠ n
theorem sc_ware_of : Aj ["shop", "name", "ware"] ["shop", "name"] (A9 E8) := by walk_at "sc"
theorem Ly (F : Fun K "ware_of" "ware_of" E8 f fd) (T : Txt mg) (C : Exc K mg c) : FnOk P w K mg base CX0 1 f fd ["shop", "name"] sp_ware_of := by
 refine F.ok sc_ware_of (λvs H Q E h => ?_) (λcdv A outer s H vs Q E hr h => ?_)
 ·obtain ⟨v, S, n, rfl, _⟩ := h
  rfl
 ·obtain ⟨v, S, n, rfl, rs, ok, hn, k⟩ := h
  have hu := Bc hr
  refine ⟨_, (A1 (B3 PassesOwn.never rfl (Dw (A7 hu (pv 0) A8 (λ_ _ => rfl))) (Ac (i := 2) sc_ware_of.nd rfl (Zzt rfl))
 (Aa (Bm (Ai (Dj hu) (A7 hu (pv 2) (Aq rfl T.Zv0) (λ_ _ => rfl)) (pv 1) (Ar _)) (Aa (Ak (pv 2))) At)))
 (Aa Y5)), ?_⟩
  obtain ⟨a, b, c, ws, us, rfl, ha, hb, hc, rws, rus⟩ := Dh rs
  have hl := Ax rws
  walk_at "rd"
  refine ⟨_, Ad (j := 0) ha rfl, b, rfl, _, hb, ?_⟩
  refine Cb (G5 b _) (Vh (.ref a) n S.wares H) ⟨_, rfl, rfl, by simp⟩ (λi Z H' _ h => by obtain ⟨_, _, rfl, _⟩ := h; exact hb) (λi x Z H' hi hx h => ?_) (λZ H' h => ?_)
  ·obtain ⟨c, rfl, rfl, hno⟩ := h
   obtain ⟨w, hw, rw'⟩ := C4 rws hx
   obtain ⟨e, c1, c2, rfl, he, _⟩ := C3 rw'
   walk_at "rd"
   refine ⟨_, Ad (j := 0) he rfl, rfl, Ey (λh => ?_) (λh => ?_)⟩
   ·exact k _ w (Zzn hw) (by have := of_decide_eq_true h; cases this; rfl) rw'
   ·refine ⟨_, rfl, rfl, λw' hw' => ?_⟩
    rw [Zz8, hw] at hw'
    rcases Zyu.mp hw' with z | z
    ·exact hno w' z
    ·have e : w' = w := by simpa using z
     subst e
     intro e
     exact h (decide_eq_true (by rw [e]))
  ·obtain ⟨c, rfl, rfl, hno⟩ := h
   rw [hl, Zyv] at hno
   obtain ⟨w, hw, e⟩ := Zzl.mp hn
   exact absurd e (hno w hw)
def sp_without_ends : Sp := λvs H Q _ => ∃ (a : Addr) (kvs : List (Key × V)) (G : Gr), vs = [.ref a] /\ H a = some (.dK kvs) /\ PDk H kvs G /\ (Aw G).Nodup /\ G.length <= 1000 /\ (∀ e ∈ G, e.2.length <= 1000) /\
 ∀ p kvs' H', H p = none -> H' p = some (.dK kvs') -> PDk H' kvs' (X8 G) -> But a H H' -> Q (.ref p) H'
def fc (a p : Addr) (o : Obj) (kvs : List (Key × V)) (G : Gr) (H : Hp) (i : Nat) (Z : St) (H' : Hp) : Prop := ∃ (n g : Option V) (kvs' : List (Key × V)), Z = [some (.ref a), some (.ref p), n, g] /\ H' a = some (.frz o (.dK kvs)) /\ H' p = some (.dK kvs') /\ PDk H' kvs' ((G.take i).filterMap (Cn (Aw G))) /\ But a H H'
def nj (a p : Addr) (o : Obj) (kvs kvs' : List (Key × V)) (G G' : Gr) (ps : List Str) (H : Hp) (i : Nat) (acc : List V) (H' : Hp) : Prop := acc = (Mf (Aw G) (ps.take i)).map V.str /\ H' a = some (.frz o (.dK kvs)) /\ H' p = some (.dK kvs') /\ PDk H' kvs' G' /\ But a H H' /\ PDk H' kvs G
theorem Oo {ks ps : List Str} {i : Nat} {x : Str} (h : ps[i]? = some x) : Mf ks (ps.take (i + 1)) = Mf ks (ps.take i) ++ if decide (x ∈ ks) = true then [x] else [] := by
 unfold Mf
 rw [Zz8, h, Zwh]
 by_cases hx : x ∈ ks
 ·simp [hx]
 ·simp [hx]
theorem sc_without_ends : Aj ["parts", "left", "name", "going_on"] ["parts"] (A9 Cf) := by walk_at "sc"
theorem Ky (F : Fun K "without_ends" "without_ends" Cf f fd) (T : Txt mg) (C : Exc K mg c) : FnOk P w K mg base CX0 1 f fd ["parts"] sp_without_ends := by
 refine F.ok sc_without_ends (λvs H Q E h => ?_) (λcdv A outer s H vs Q E hr h => ?_)
 ·obtain ⟨a, kvs, G, rfl, _⟩ := h
  rfl
 ·obtain ⟨a, kvs, G, rfl, ha, pd, nd, hG, hps, k⟩ := h
  have hu := Bc hr
  have hkl := pd.len
  have ndk : (kvs.map (·.1)).Nodup := by rw [pd.keys]; exact Wy nd
  refine ⟨_, (A1 (Ae (i := 1) sc_without_ends.nd rfl (Zzt rfl) Gh)
 (A1 (B3 PassesOwn.never rfl (Y6 (pv 0)) (Ac (i := 2) sc_without_ends.nd rfl (Zzt rfl))
 (A1 (Ej (own := ["part"]) (cap := [0]) (i := 3) rfl (Fb rfl) (C9 (by decide)) sc_without_ends.nd rfl rfl (Ft (A7 hu (pv 0) (pv 2) (λ_ _ => rfl)))
 (λ_ _ _ _ _ _ => ⟨(Ac (i := 0) (of_decide_eq_true rfl) rfl (Zzt rfl) (.inr rfl)), (Pi (Ai (Yi hu) (pv 0) (pv 1) rfl)), (pv 0)⟩))
 (Aa (Bm (bh (pv 3)) (Aa (Ek (pv 3) (Fu (pv 1) (pv 2) (Dv hu)))) At))))
 (Aa (Ak (pv 1))))), ?_⟩
  walk_at "rd"
  refine λp hp => ⟨_, by rw [A3 (A5 ha hp)]; exact ha, λo => ?_⟩
  have nap : a ≠ p := A5 ha hp
  have b0 : But a H (upd (upd H p (.dK [])) a (.frz o (.dK kvs))) := (Gu hp).trans but_set
  have pl : ∀ {H' : Hp}, But a H H' -> PDk H' kvs G := λ{H'} bt => pd.mono λl xs h => bt l _ (λz => by rw [z, ha] at h; cases h) h
  refine Cb (gn a o kvs) (fc a p o kvs G H) ⟨_, _, [], rfl, A0, by rw [A3 (Zzf nap), A0], .nil, b0⟩ (λi Z H' _ h => by obtain ⟨_, _, _, _, h, _⟩ := h; exact h) (λi x Z H' hi hx h => ?_) (λZ H' h => ?_)
  ·obtain ⟨n, g, kvs', rfl, h1, h2, h3, bt⟩ := h
   obtain ⟨key, val, hk, rfl⟩ := hx
   obtain ⟨e, l, he, rfl, rfl, hl⟩ := PDk.get' (pl bt) hk
   have hv := Li ndk hk
   have hmem := Zzn he
   refine jm (λZ' H'' => ∃ q : Addr, Z' = [some (.ref a), some (.ref p), some (.str e.1), some (.ref q)] /\ H'' q = some (.lst ((Mf (Aw G) e.2).map V.str)) /\ H'' a = some (.frz o (.dK kvs)) /\ H'' p = some (.dK kvs') /\ PDk H'' kvs' ((G.take i).filterMap (Cn (Aw G))) /\ But a H H'') ?_ (λKK hK => ?_)
   ·rintro Z' H'' ⟨q, rfl, hq, g1, g2, g3, gb⟩
    walk_at "rd"
    refine ⟨_, hq, ?_⟩
    have et : (G.take (i + 1)).filterMap (Cn (Aw G)) = (G.take i).filterMap (Cn (Aw G)) ++ (Cn (Aw G) e).toList := by
     rw [Zz8, he, List.filterMap_append]
     cases hc : Cn (Aw G) e <;> simp [hc]
    refine Ey (λhz => ?_) (λhz => ?_)
    ·have hne : Mf (Aw G) e.2 ≠ [] := λz => by rw [z] at hz; exact absurd hz (by decide)
     have hc : Cn (Aw G) e = some (e.1, Mf (Aw G) e.2) := by unfold Cn; rw [if_neg hne]
     have nin : e.1 ∉ Aw ((G.take i).filterMap (Cn (Aw G))) := λm => by
      have m' : e.1 ∈ Aw (G.take i) := (keys_filter (ks := Aw G) (G := G.take i)).subset m
      have nd' : (Aw (G.take i) ++ Aw (G.drop i)).Nodup := by
       have : Aw (G.take i) ++ Aw (G.drop i) = Aw G := by unfold Aw; rw [<- Zzg, Zw3]
       rw [this]; exact nd
      have hlt : i < G.length := (Zzj.mp he).1
      have md : e.1 ∈ Aw (G.drop i) := by
       unfold Aw
       rw [List.drop_eq_getElem_cons hlt]
       have : G[i] = e := (Zzj.mp he).2
       rw [this, Zz4]
       exact Zz6
      exact (List.nodup_append.mp nd').2.2 _ m' _ md rfl
     have hlen' : kvs'.length < sizeLine := by
      have := g3.len
      have h5 : ((G.take i).filterMap (Cn (Aw G))).length <= (G.take i).length := List.length_filterMap_le _ _
      rw [Zz5] at h5
      exact Zyq (m := 1000) (by omega) (by decide)
     refine ⟨kvs', .inr e.1, rfl, g2, hlen', ?_⟩
     have ku : ∀ l xs, H'' l = some (.lst xs) -> upd H'' p (.dK (Ei kvs' (.inr e.1) (.ref q))) l = some (.lst xs) := λl xs h => by rw [A3 (λz => by rw [z, g2] at h; cases h)]; exact h
     refine ⟨_, _, _, rfl, by rw [A3 nap]; exact g1, A0, ?_, ?_⟩
     ·rw [et, hc]
      exact (g3.mono ku).snoc nin (ku _ _ hq)
     ·exact λb o' nb hb => by rw [A3 (A5 hb hp)]; exact gb b o' nb hb
    ·have hne : Mf (Aw G) e.2 = [] := by
      cases hx : Mf (Aw G) e.2 with
      | nil => rfl
      | cons y r => rw [hx] at hz; exact absurd rfl hz
     have hc : Cn (Aw G) e = none := by unfold Cn; rw [if_pos hne]
     exact ⟨_, _, _, rfl, g1, g2, by rw [et, hc]; simpa using g3, gb⟩
   ·walk_at "rd"
    refine ⟨_, Hk (.inr ⟨o, h1⟩) hv, l, rfl, _, hl, ?_⟩
    refine Kd (Gx l _) (Ao (by rw [Zzz]; exact hps e hmem)) (nj a p o kvs kvs' G ((G.take i).filterMap (Cn (Aw G))) e.2 H) ⟨rfl, h1, h2, h3, bt, pl bt⟩ (λj acc H2 _ h => ?_) (λj acc H2 h => ?_) (λj x acc H2 hj hx h => ?_) (λacc H2 h q hq => ?_)
    ·obtain ⟨_, _, _, _, hb, hpd⟩ := h
     obtain ⟨l2, hl2, hl3⟩ := PDk.get hpd he
     rw [hk] at hl2
     cases hl2
     exact hl3
    ·rw [h.1, Zzz]
     refine Zyz (Zx6 _ _) ?_
     rw [Zz5]
     exact Nat.min_le_left _ _
    ·obtain ⟨rfl, w1, w2, w3, w4, w5⟩ := h
     rw [Zzx] at hx
     cases ex : e.2[j]? with
     | none => rw [ex] at hx; cases hx
     | some y =>
     rw [ex] at hx
     cases hx
     walk_at "rd"
     refine ⟨_, .inr (.inr ⟨a, kvs, .inr y, rfl, rfl, .inr ⟨o, w1⟩, rfl⟩), ?_⟩
     rw [w5.has y]
     refine Ey (λhy => ?_) (λhy => ?_)
     ·exact ⟨by rw [Oo ex, if_pos hy, Zzg]; rfl, w1, w2, w3, w4, w5⟩
     ·exact ⟨by rw [Oo ex, if_neg hy, Zya], w1, w2, w3, w4, w5⟩
    ·obtain ⟨rfl, w1, w2, w3, w4, w5⟩ := h
     rw [Zzz, Zyv]
     have nq : ∀ {b : Addr} {o' : HO} (o'' : HO), H2 b = some o' -> upd H2 q o'' b = some o' := λ{b o'} o'' hb => by rw [A3 (A5 hb hq)]; exact hb
     exact hK _ _ ⟨q, rfl, A0, nq _ w1, nq _ w2, w3.mono λl xs h => nq _ h, w4.trans (Gu hq)⟩
  ·obtain ⟨n, g, kvs', rfl, h1, h2, h3, bt⟩ := h
   walk_at "rd"
   rw [hkl, Zyv] at h3
   exact k p kvs' H' hp h2 h3 bt
def sp_endless_parts : Sp := λvs H Q _ => ∃ (v : V) (S : Sh), vs = [v] /\ RD H S.d v /\ U5 S /\ ∀ p kvs' H', H p = none -> H' p = some (.dK kvs') -> PDk H' kvs' (Mm S.wares.length (Fw S)) -> Same H H' -> Q (.ref p) H'
def ka (v : V) (p : Addr) (S : Sh) (H : Hp) (i : Nat) (Z : St) (H' : Hp) : Prop := ∃ (n g : Option V) (kvs' : List (Key × V)), Z = [some v, some (.ref p), n, g] /\ H' p = some (.dK kvs') /\ PDk H' kvs' ((Fw S).take i) /\ Same H H'
def jx (v : V) (S : Sh) (H : Hp) (i : Nat) (Z : St) (H' : Hp) : Prop := ∃ (q : Addr) (n g : Option V) (kvs' : List (Key × V)), Z = [some v, some (.ref q), n, g] /\ H q = none /\ H' q = some (.dK kvs') /\ PDk H' kvs' (Mm i (Fw S)) /\ Same H H'
theorem d7 (S : Sh) : Aw (Fw S) = S.wares.map (·.name) := by unfold Aw Fw; rw [Zxt]; rfl
theorem Tp (S : Sh) : (Fw S).length = S.wares.length := by unfold Fw; rw [Zzz]
theorem Z3 {S : Sh} (ok : U5 S) : ∀ e ∈ Fw S, e.2.length <= 1000 := λe he => by
 obtain ⟨w, hw, rfl⟩ := Zzl.mp he
 show (w.parts.map (·.1)).length <= 1000
 rw [Zzz]
 exact (ok.wares w hw).1
theorem sc_endless_parts : Aj ["shop", "parts", "ware", "turn"] ["shop"] (A9 C7) := by walk_at "sc"
theorem K6 (F : Fun K "endless_parts" "endless_parts" C7 f fd) (T : Txt mg) (C : Exc K mg c) (Zur : Has P w K mg base "part_names" 1 ["ware"] sp_part_names) (Zu0 : Has P w K mg base "without_ends" 1 ["parts"] sp_without_ends) : FnOk P w K mg base CX0 2 f fd ["shop"] sp_endless_parts := by
 refine F.ok sc_endless_parts (λvs H Q E h => ?_) (λcdv A outer s H vs Q E hr h => ?_)
 ·obtain ⟨v, S, rfl, _⟩ := h
  rfl
 ·obtain ⟨v, S, rfl, rs, ok, k⟩ := h
  have hu := Bc hr
  have nd : (Aw (Fw S)).Nodup := by rw [d7]; exact ok.names
  refine ⟨_, (A1 (Ae (i := 1) sc_endless_parts.nd rfl (Zzt rfl) Gh)
 (A1 (B3 PassesOwn.never rfl (Dw (A7 hu (pv 0) A8 (λ_ _ => rfl))) (Ac (i := 2) sc_endless_parts.nd rfl (Zzt rfl))
 (Aa (Ek (Ab Zur hr.z rfl (A6 (pv 2) A2)) (Fu (pv 1) (A7 hu (pv 2) (Aq rfl T.Zv0) (λ_ _ => rfl)) (Dv hu)))))
 (A1 (B3 PassesOwn.never rfl (Bh rfl T.Zvh (A6 (Ag B4 rfl T.Zve Co (A6 (A7 hu (pv 0) A8 (λ_ _ => rfl)) A2)) A2)) (Ac (i := 3) sc_endless_parts.nd rfl (Zzt rfl))
 (Aa (Ae (i := 1) sc_endless_parts.nd rfl (Zzt rfl) (Ab Zu0 hr.z rfl (A6 (pv 1) A2)))))
 (Aa (Ak (pv 1)))))), ?_⟩
  obtain ⟨a, b, c, ws, us, rfl, ha, hb, hc, rws, rus⟩ := Dh rs
  have hl := Ax rws
  refine cut2 (λZ' H' => ∃ (p : Addr) (n g : Option V) (kvs' : List (Key × V)), Z' = [some (.ref a), some (.ref p), n, g] /\ H p = none /\ H' p = some (.dK kvs') /\ PDk H' kvs' (Fw S) /\ Same H H') ?_ (λKK hK => ?_)
  ·rintro Z' H1 ⟨p, n, g, kvs', rfl, hp, hp1, pd, sm⟩
   walk_at "rd"
   refine ⟨_, Ad (j := 0) (sm _ _ ha) rfl, b, rfl, _, .inr (sm _ _ hb), by omega, by have := ok.len; omega, ?_⟩
   have en : ((ws.length : Nat) : Int).toNat = S.wares.length := by omega
   rw [en]
   refine Cb (G6 0 _) (jx (.ref a) S H) ⟨p, _, _, _, rfl, hp, hp1, pd, sm⟩ (λ_ _ _ _ _ => trivial) (λi x Z H2 hi hx h => ?_) (λZ H2 h => ?_)
   ·obtain ⟨q, n, g, kvs', rfl, hq, hq1, pd, sm⟩ := h
    walk_at "rd"
    refine ⟨q, kvs', _, rfl, hq1, pd, Ml nd i, by have := Sb (Fw S) i; rw [Tp] at this; have := ok.len; omega, λe he => ?_, λp2 kvs2 H3 hp2 hp3 pd3 bt => ?_⟩
    ·obtain ⟨ps, h1, _, h3⟩ := Gs i he
     have := Z3 ok _ h1
     have : ps.length <= 1000 := this
     omega
    ·exact ⟨p2, _, _, kvs2, rfl, Same.free sm hp2, hp3, pd3, λb' o hb' => bt b' o (A5 hb' hq) (sm b' o hb')⟩
   ·obtain ⟨q, n, g, kvs', rfl, hq, hq1, pd, sm⟩ := h
    walk_at "rd"
    exact k q kvs' H2 hq hq1 pd sm
  ·walk_at "rd"
   refine λp hp => ?_
   refine ⟨_, Ad (j := 0) (by rw [A3 (A5 ha hp)]; exact ha) rfl, b, rfl, _, by rw [A3 (A5 hb hp)]; exact hb, ?_⟩
   refine Cb (G5 b _) (ka (.ref a) p S H) ⟨_, _, [], rfl, A0, .nil, A4 hp⟩ (λi Z H' _ h => by obtain ⟨_, _, _, _, _, _, s⟩ := h; exact s _ _ hb) (λi x Z H' hi hx h => ?_) (λZ H' h => ?_)
   ·obtain ⟨n, g, kvs', rfl, h1, h2, sm⟩ := h
    obtain ⟨w, hw, rw'⟩ := C4 rws hx
    have hg : (Fw S)[i]? = some (w.name, w.parts.map (·.1)) := by unfold Fw; rw [Zzx, hw]; rfl
    walk_at "rd"
    refine ⟨x, w, rfl, RD.same sm _ _ rw', ok.wares w (Zzn hw), λq H2 hq hq2 sm2 => ?_⟩
    obtain ⟨e, c1, c2, rfl, he, _⟩ := C3 rw'
    have sm02 := sm.trans sm2
    have nin : w.name ∉ Aw ((Fw S).take i) := λm => by
     have nd' : (Aw ((Fw S).take i) ++ Aw ((Fw S).drop i)).Nodup := by
      have : Aw ((Fw S).take i) ++ Aw ((Fw S).drop i) = Aw (Fw S) := by unfold Aw; rw [<- Zzg, Zw3]
      rw [this]; exact nd
     have hlt : i < (Fw S).length := (Zzj.mp hg).1
     have md : w.name ∈ Aw ((Fw S).drop i) := by
      unfold Aw
      rw [List.drop_eq_getElem_cons hlt]
      have : (Fw S)[i] = (w.name, w.parts.map (·.1)) := (Zzj.mp hg).2
      rw [this, Zz4]
      exact Zz6
     exact (List.nodup_append.mp nd').2.2 _ m _ md rfl
    have hp2 := sm2 p _ h1
    refine ⟨_, Ad (j := 0) (sm02 _ _ he) rfl, kvs', .inr w.name, rfl, hp2, ?_, ?_⟩
    ·have := h2.len
     rw [Zz5, Tp] at this
     have := ok.len
     exact Zyq (m := 1000) (by omega) (by decide)
    ·have ku : ∀ l xs, H2 l = some (.lst xs) -> upd H2 p (.dK (Ei kvs' (.inr w.name) (.ref q))) l = some (.lst xs) := λl xs h => by rw [A3 (λz => by rw [z, hp2] at h; cases h)]; exact h
     refine ⟨_, _, _, rfl, A0, ?_, λb' o hb' => by rw [A3 (A5 hb' hp)]; exact sm02 b' o hb'⟩
     rw [Zz8, hg]
     exact ((h2.mono λl xs h => sm2 l _ h).mono ku).snoc nin (ku _ _ hq2)
   ·obtain ⟨n, g, kvs', rfl, h1, h2, sm⟩ := h
    rw [hl, <- Tp, Zyv] at h2
    exact hK _ _ ⟨p, _, _, kvs', rfl, hp, h1, h2, sm⟩
def Kh (S : Sh) : Prop := Mm S.wares.length (Fw S) = []
def sp_ring : Sp := λvs H Q _ => ∃ (v : V) (S : Sh), vs = [v] /\ RD H S.d v /\ U5 S /\ Kh S /\ ∀ H', Same H H' -> Q .non H'
theorem sc_ring : Aj ["shop", "parts", "way", "name"] ["shop"] (A9 Jw) := by walk_at "sc"
theorem cj (F : Fun K "ring" "ring" Jw f fd) (T : Txt mg) (C : Exc K mg c) (Zu4 : Has P w K mg base "endless_parts" 2 ["shop"] sp_endless_parts) : FnOk P w K mg base CX0 3 f fd ["shop"] sp_ring := by
 refine F.ok sc_ring (λvs H Q E h => ?_) (λcdv A outer s H vs Q E hr h => ?_)
 ·obtain ⟨v, S, rfl, _⟩ := h
  rfl
 ·obtain ⟨v, S, rfl, rs, ok, no, k⟩ := h
  have hu := Bc hr
  refine ⟨_, (A1 (Ae (i := 1) sc_ring.nd rfl (Zzt rfl) (Ab Zu4 hr.z rfl (A6 (pv 0) A2)))
 (A1 (Bm (T4 (Uk (pv 1))) (Aa (Ak Cz)) At)
 Ob)), ?_⟩
  walk_at "rd"
  refine ⟨v, S, rfl, rs, ok, λp kvs H' hp hp' pd sm => ?_⟩
  rw [no] at pd
  cases pd
  exact ⟨p, rfl, [], hp', iteT (k H' sm)⟩
def sp_check_rings : Sp := λvs H Q _ => ∃ (v : V) (S : Sh), vs = [v] /\ RD H S.d v /\ U5 S /\ Kh S /\ ∀ H', Same H H' -> Q .non H'
theorem sc_check_rings : Aj ["shop", "found", "names"] ["shop"] (A9 Ct) := by walk_at "sc"
theorem M1 (F : Fun K "check_rings" "check_rings" Ct f fd) (T : Txt mg) (C : Exc K mg c) (Zsq : Has P w K mg base "ring" 3 ["shop"] sp_ring) : FnOk P w K mg base CX0 4 f fd ["shop"] sp_check_rings := by
 refine F.ok sc_check_rings (λvs H Q E h => ?_) (λcdv A outer s H vs Q E hr h => ?_)
 ·obtain ⟨v, S, rfl, _⟩ := h
  rfl
 ·obtain ⟨v, S, rfl, rs, ok, no, k⟩ := h
  have hu := Bc hr
  refine ⟨_, (A1 (Ae (i := 1) sc_check_rings.nd rfl (Zzt rfl) (Ab Zsq hr.z rfl (A6 (pv 0) A2)))
 (Aa (Bm (Ai Gi (pv 1) Cz (Ar _)) Ob At))), ?_⟩
  walk_at "rd"
  refine ⟨v, S, rfl, rs, ok, no, λH' sm => ?_⟩
  walk_at "rd"
  exact m8 trivial (k H' sm)
end
set_option maxHeartbeats 4000000
section
variable {P : Program} {w : World} {K : Zzu} {mg : Str -> Option Value} {base : Heap} {f : Addr} {fd : FuncData} {c : Cl} {Pt Pu : Addr}
structure ae (S : Sh) : Prop extends Lev S where
 ok : U5 S
 few : S.wares.length < 64
theorem Tj {S : Sh} (h : Lev S) : Kh S := by
 obtain ⟨r, h1, h2⟩ := h.low
 unfold Kh
 refine Sa (r := r) (λe he x hx => ?_) (λe he => ?_)
 ·obtain ⟨w, hw, rfl⟩ := Zzl.mp he
  obtain ⟨p, hp, rfl⟩ := Zzl.mp hx
  exact h2 w hw p hp
 ·obtain ⟨w, hw, rfl⟩ := Zzl.mp he
  exact h1 w hw
def Bu (S : Sh) : List Str := S.wares.map (·.name)
theorem Go (S : Sh) : (Bu S).length = S.wares.length := by unfold Bu; rw [Zzz]
def sp_names_of : Sp := λvs H Q _ => ∃ (v : V) (S : Sh), vs = [v] /\ RD H S.d v /\ S.wares.length <= 1000 /\ ∀ p H', H p = none -> H' p = some (.lst ((Bu S).map V.str)) -> Same H H' -> Q (.ref p) H'
theorem R6 : Aj ["shop"] ["shop"] (A9 E9) := by walk_at "sc"
theorem Re (F : Fun K "names_of" "names_of" E9 f fd) (T : Txt mg) (C : Exc K mg c) : FnOk P w K mg base CX0 1 f fd ["shop"] sp_names_of := by
 refine F.ok R6 (λvs H Q E h => ?_) (λcdv A outer s H vs Q E hr h => ?_)
 ·obtain ⟨v, S, rfl, _⟩ := h
  rfl
 ·obtain ⟨v, S, rfl, rs, hlen, k⟩ := h
  have hu := Bc hr
  refine ⟨_, (Aa (Ak (Fe (own := ["ware"]) (cap := []) rfl (Fb rfl) (C9 (by decide)) (Dw (A7 hu (pv 0) A8 (λ_ _ => rfl)))
 (λ_ _ _ _ _ _ => ⟨(Ac (i := 0) (of_decide_eq_true rfl) rfl (Zzt rfl) (.inr rfl)), D8, (A7 hu (pv 0) (Aq rfl T.Zv0) (λ_ _ => rfl))⟩)))), ?_⟩
  obtain ⟨a, b, c, ws, us, rfl, ha, hb, hc, rws, rus⟩ := Dh rs
  have hl := Ax rws
  walk_at "rd"
  refine ⟨_, Ad (j := 0) ha rfl, b, rfl, _, hb, ?_⟩
  refine Eu (G5 b _) (Ao (by omega)) (λH' s' => s' _ _ hb) ((Bu S).map V.str) (by rw [Zzz, Go, hl]) (λi x H' hi hx s' N M hN => ?_) (λH' s' p hp => ?_)
  ·obtain ⟨y, hy, ry⟩ := C4 rws hx
   obtain ⟨e, c1, c2, rfl, he, _⟩ := C3 ry
   walk_at "rd"
   refine ⟨_, Ad (j := 0) (s' _ _ he) rfl, hN _ _ s' ?_⟩
   unfold Bu
   rw [Zzx, Zzx, hy]
   rfl
  ·exact k p _ (Same.free s' hp) A0 (s'.trans (A4 hp))
def sp_levels : Sp := λvs H Q _ => ∃ (v : V) (S : Sh), vs = [v] /\ RD H S.d v /\ ae S /\ ∀ p H', H p = none -> H' p = some (.dK (fnD (Bu S) (lv S))) -> Same H H' -> Q (.ref p) H'
def e8 (v : V) (p : Addr) (S : Sh) (H : Hp) (i : Nat) (Z : St) (H' : Hp) : Prop := ∃ o1 o2 o3 o4 : Option V, Z = [some v, some (.ref p), o1, o2, o3, o4] /\ H' p = some (.dK (fnD ((Bu S).take i) λ_ => 0)) /\ Same H H'
def gy (S : Sh) (k i j : Nat) (g : Str -> Int) : Prop := (∀ x, 0 <= g x /\ lvF S k x <= g x /\ (x ∈ Bu S -> g x <= lv S x)) /\ (∀ w ∈ S.wares.take i, ∀ p ∈ w.parts, 1 + lvF S k w.name <= g p.1) /\ ∀ w, S.wares[i]? = some w -> ∀ p ∈ w.parts.take j, 1 + lvF S k w.name <= g p.1
def e9 (v : V) (p : Addr) (S : Sh) (H : Hp) (k : Nat) (Z : St) (H' : Hp) : Prop := ∃ (o1 o2 o3 o4 : Option V) (g : Str -> Int), Z = [some v, some (.ref p), o1, o2, o3, o4] /\ H' p = some (.dK (fnD (Bu S) g)) /\ (∀ x, 0 <= g x /\ lvF S k x <= g x /\ (x ∈ Bu S -> g x <= lv S x)) /\ Same H H'
def ee (v : V) (p : Addr) (S : Sh) (k : Nat) (H : Hp) (i : Nat) (Z : St) (H' : Hp) : Prop := ∃ (o1 o2 o3 o4 : Option V) (g : Str -> Int), Z = [some v, some (.ref p), o1, o2, o3, o4] /\ H' p = some (.dK (fnD (Bu S) g)) /\ gy S k i 0 g /\ Same H H'
def aa (v : V) (p : Addr) (t : V) (S : Sh) (k i : Nat) (H : Hp) (j : Nat) (Z : St) (H' : Hp) : Prop := ∃ (o1 o2 o4 : Option V) (g : Str -> Int), Z = [some v, some (.ref p), o1, o2, some t, o4] /\ H' p = some (.dK (fnD (Bu S) g)) /\ gy S k i j g /\ Same H H'
theorem sc_levels : Aj ["shop", "told", "name", "turn", "ware", "part"] ["shop"] (A9 Gf) := by walk_at "sc"
theorem W9 (F : Fun K "levels" "levels" Gf f fd) (T : Txt mg) (C : Exc K mg c) (Zvn : Has P w K mg base "check_rings" 4 ["shop"] sp_check_rings) (Zuf : Has P w K mg base "names_of" 1 ["shop"] sp_names_of) (Zur : Has P w K mg base "part_names" 1 ["ware"] sp_part_names) : FnOk P w K mg base CX0 5 f fd ["shop"] sp_levels := by
 refine F.ok sc_levels (λvs H Q E h => ?_) (λcdv A outer s H vs Q E hr h => ?_)
 ·obtain ⟨v, S, rfl, _⟩ := h
  rfl
 ·obtain ⟨v, S, rfl, rs, L, k⟩ := h
  have hu := Bc hr
  refine ⟨_, (A1 (Ce (Ab Zvn hr.z rfl (A6 (pv 0) A2)))
 (A1 (Ae (i := 1) sc_levels.nd rfl (Zzt rfl) Gh)
 (A1 (B3 PassesOwn.never rfl (Ft (Ab Zuf hr.z rfl (A6 (pv 0) A2))) (Ac (i := 2) sc_levels.nd rfl (Zzt rfl))
 (Aa (Ek A8 (Fu (pv 1) (pv 2) (Dv hu)))))
 (A1 (B3 PassesOwn.never rfl (Bh rfl T.Zvh (A6 (Ag B4 rfl T.Zve Co (A6 (A7 hu (pv 0) A8 (λ_ _ => rfl)) A2)) A2)) (Ac (i := 3) sc_levels.nd rfl (Zzt rfl))
 (Aa (B3 PassesOwn.never rfl (Dw (A7 hu (pv 0) A8 (λ_ _ => rfl))) (Ac (i := 4) sc_levels.nd rfl (Zzt rfl))
 (Aa (B3 PassesOwn.never rfl (Ft (Ab Zur hr.z rfl (A6 (pv 4) A2))) (Ac (i := 5) sc_levels.nd rfl (Zzt rfl))
 (Aa (Ek (Ag (Ke rfl) rfl T.Zsv Ql (A6 (A7 hu (pv 1) (pv 5) (λ_ _ => rfl)) (A6 (An Bi (A7 hu (pv 1) (A7 hu (pv 4) (Aq rfl T.Zv0) (λ_ _ => rfl)) (λ_ _ => rfl)) A8) A2))) (Fu (pv 1) (pv 5) (Dv hu)))))))))
 (Aa (Ak (pv 1))))))), ?_⟩
  have hfew := L.few
  walk_at "rd"
  refine ⟨v, S, rfl, rs, L.ok, Tj L.toLev, λH1 sm1 => ?_⟩
  obtain ⟨a, b, c, ws, us, rfl, ha, hb, hc, rws, rus⟩ := Dh rs
  have hl := Ax rws
  intro p hp
  have u1 := sm1.trans (A4 (o := .dK []) hp)
  have fp : H p = none := Same.free sm1 hp
  have hnl := Go S
  refine ⟨.ref a, S, rfl, RD.same u1 _ _ rs, by omega, λq H2 hq hq2 sm2 => ⟨q, rfl, _, hq2, ?_⟩⟩
  have hp2 := sm2 p _ A0
  have s2 := u1.trans sm2
  have qp : q ≠ p := λz => by rw [z, A0] at hq; cases hq
  refine Cb (Gx q _) (λi Z H' => e8 (.ref a) p S H i Z H' /\ H' q = some (.lst ((Bu S).map V.str))) ⟨⟨_, _, _, _, rfl, hp2, s2⟩, hq2⟩ (λi Z H' _ h => h.2) (λi x Z H3 hi hx h => ?_) (λZ H3 h => ?_)
  ·obtain ⟨⟨o1, o2, o3, o4, rfl, hp3, s3⟩, hq3⟩ := h
   rw [Zzz] at hi
   rw [Zzx] at hx
   cases en : (Bu S)[i]? with
   | none => rw [en] at hx; cases hx
   | some nm =>
   rw [en] at hx
   have hx : V.str nm = x := Zza hx
   subst hx
   walk_at "rd"
   refine ⟨_, .inr nm, rfl, hp3, ?_, ⟨_, _, _, _, rfl, ?_, λb' o' hb' => by rw [A3 (A5 hb' fp)]; exact s3 b' o' hb'⟩, by rw [A3 qp]; exact hq3⟩
   ·rw [V6, Zz5]
    exact Zyq (m := 1000) (by omega) (by decide)
   ·have nin : nm ∉ (Bu S).take i := Hs L.nd en
    rw [A0, dq nin, Zz8, en]
    exact congrArg (λz => some (HO.dK z)) (Os λx _ => by split <;> rfl)
  ·obtain ⟨⟨o1, o2, o3, o4, rfl, hp3, s3⟩, _⟩ := h
   rw [Zzz, Zyv] at hp3
   walk_at "rd"
   refine ⟨_, Ad (j := 0) (s3 _ _ ha) rfl, b, rfl, _, .inr (s3 _ _ hb), by omega, by omega, ?_⟩
   have en : ((ws.length : Nat) : Int).toNat = S.wares.length := by omega
   rw [en]
   refine Cb (G6 0 _) (e9 (.ref a) p S H) ⟨_, _, _, _, λ_ => 0, rfl, hp3, λx => ⟨Zyr _, Zyr _, λ_ => m4 S x⟩, s3⟩ (λ_ _ _ _ _ => trivial) (λk' x Z H4 hi hx h => ?_) (λZ H4 h => ?_)
   ·obtain ⟨o1, o2, o3, o4, g, rfl, hp4, hg, s4⟩ := h
    walk_at "rd"
    refine ⟨_, Ad (j := 0) (s4 _ _ ha) rfl, b, rfl, _, s4 _ _ hb, ?_⟩
    refine Cb (G5 b _) (ee (.ref a) p S k' H) ⟨_, _, _, _, g, rfl, hp4, ⟨hg, (λw hw => by cases hw), λw _ p hp => by cases hp⟩, s4⟩ (λi Z H' _ h => by obtain ⟨_, _, _, _, _, _, _, _, s⟩ := h; exact s _ _ hb) (λi y Z H5 hi2 hy h => ?_) (λZ H5 h => ?_)
    ·obtain ⟨o1, o2, o3, o4, g, rfl, hp5, hg, s5⟩ := h
     obtain ⟨t, ht, rt⟩ := C4 rws hy
     have htm := Zzn ht
     obtain ⟨te, d1, d2, rfl, hte, _⟩ := C3 rt
     walk_at "rd"
     refine ⟨.ref te, t, rfl, RD.same s5 _ _ rt, L.ok.wares t htm, λq2 H6 hq6 hq7 sm6 => ⟨q2, rfl, _, hq7, ?_⟩⟩
     have hp6 := sm6 p _ hp5
     have s6 := s5.trans sm6
     have q2p : q2 ≠ p := λz => by rw [z, hp5] at hq6; cases hq6
     refine Cb (Gx q2 _) (λj Z H' => aa (.ref a) p (.ref te) S k' i H j Z H' /\ H' q2 = some (.lst ((t.parts.map (·.1)).map V.str))) ⟨⟨_, _, _, g, rfl, hp6, hg, s6⟩, hq7⟩ (λj Z H' _ h => h.2) (λj z Z H7 hj hz h => ?_) (λZ H7 h => ?_)
     ·obtain ⟨⟨o1, o2, o4, g, rfl, hp7, hg, s7⟩, hq8⟩ := h
      rw [Zzz, Zzz] at hj
      obtain ⟨pp, hpp⟩ : ∃ pp, t.parts[j]? = some pp := ⟨_, Zzq hj⟩
      rw [Zzx, Zzx, hpp] at hz
      have hz : V.str pp.1 = z := Zza hz
      subst hz
      have hpm := Zzn hpp
      have hown : pp.1 ∈ Bu S := L.own t htm pp hpm
      have htn : t.name ∈ Bu S := Zzl.mpr ⟨t, htm, rfl⟩
      walk_at "rd"
      have hg1 := (hg.1 pp.1)
      have hgt := (hg.1 t.name)
      have hup : g t.name + 1 <= lv S pp.1 := by have h1 := hgt.2.2 htn; have h2 := Uw L.toLev htm hpm; omega
      refine ⟨.int (g pp.1), Hk (.inl hp7) (L9 hown), _, Ad (j := 0) (s7 _ _ hte) rfl, .int (g t.name), Hk (.inl hp7) (L9 htn), _, rfl, _, rfl, _, .inr pp.1, rfl, hp7, by rw [V6, hnl]; exact Zyq (m := 1000) (by omega) (by decide), ?_, by rw [A3 q2p]; exact hq8⟩
      rw [dm hown]
      refine ⟨_, _, _, λx => if x = pp.1 then (if g t.name + 1 > g pp.1 then g t.name + 1 else g pp.1) else g x, rfl, A0, ?_, λb' o' hb' => by rw [A3 (A5 hb' fp)]; exact s7 b' o' hb'⟩
      have gr : ∀ x, g x <= (if x = pp.1 then (if g t.name + 1 > g pp.1 then g t.name + 1 else g pp.1) else g x) := λx => by
       split
       ·rename_i e; rw [e]; split <;> omega
       ·exact Zyr _
      refine ⟨λx => ⟨Zxs (hg.1 x).1 (gr x), Zxs (hg.1 x).2.1 (gr x), λhx => ?_⟩, λw hw p hp => Zxs (hg.2.1 w hw p hp) (gr p.1), λw hw p hp => ?_⟩
      ·show (if x = pp.1 then (if g t.name + 1 > g pp.1 then g t.name + 1 else g pp.1) else g x) <= lv S x
       split
       ·rename_i e; rw [e]; have := hg1.2.2 hown; split <;> omega
       ·exact (hg.1 x).2.2 hx
      ·rw [ht] at hw
       have e : t = w := Zza hw
       subst e
       rw [Zz8, hpp] at hp
       rcases Zyu.mp hp with m | m
       ·exact Zxs (hg.2.2 t ht p m) (gr p.1)
       ·have e : p = pp := by simpa using m
        subst e
        show 1 + lvF S k' t.name <= (if p.1 = p.1 then (if g t.name + 1 > g p.1 then g t.name + 1 else g p.1) else g p.1)
        rw [if_pos rfl]
        have := hgt.2.1
        split <;> omega
     ·obtain ⟨⟨o1, o2, o4, g, rfl, hp7, hg, s7⟩, _⟩ := h
      rw [Zzz, Zzz] at hg
      refine ⟨_, _, _, _, g, rfl, hp7, ⟨hg.1, λw hw p hp => ?_, λw _ p hp => by cases hp⟩, s7⟩
      rw [Zz8, ht] at hw
      rcases Zyu.mp hw with m | m
      ·exact hg.2.1 w m p hp
      ·have e : w = t := by simpa using m
       subst e
       exact hg.2.2 w ht p (by rw [Zyv]; exact hp)
    ·obtain ⟨o1, o2, o3, o4, g, rfl, hp5, hg, s5⟩ := h
     rw [hl] at hg
     exact ⟨_, _, _, _, g, rfl, hp5, λx => ⟨(hg.1 x).1, Yt (λx => (hg.1 x).1) (λw hw p hp => hg.2.1 w (by rw [Zyv]; exact hw) p hp) x, (hg.1 x).2.2⟩, s5⟩
   ·obtain ⟨o1, o2, o3, o4, g, rfl, hp4, hg, s4⟩ := h
    walk_at "rd"
    refine k p H4 fp ?_ s4
    rw [hp4]
    exact congrArg (λz => some (HO.dK z)) (Os λx hx => Int.le_antisymm ((hg x).2.2 hx) (hg x).2.1)
def O8 (Pt : Addr) : Sp := λvs H Q _ => ∃ (v : V) (S : Sh), vs = [v] /\ RD H S.d v /\ ae S /\ Tb H Pt /\ ∀ p ys H', H p = none -> H' p = some (.lst (ys.map V.str)) -> P6 (lv S) (Bu S) ys -> P5 (lv S) (Bu S) ys -> Tb H' Pt -> But Pt H H' -> Q (.ref p) H'
theorem sc_worked : Aj ["shop", "level_of"] ["shop"] (A9 Gc) := by walk_at "sc"
theorem W6 {ct : Addr} (F : Fun K "worked" "worked" Gc f fd) (T : Txt mg) (C : Exc K mg c) (Zt0 : Has P w K mg base "levels" 5 ["shop"] sp_levels) (Zuf : Has P w K mg base "names_of" 1 ["shop"] sp_names_of) (Cd : Qs K f ct Pt) (hB : B1 mg base) : FnOk P w K mg base CX0 6 f fd ["shop"] (O8 Pt) := by
 refine F.okC Cd sc_worked (λvs H Q E h => ?_) (λA outer s H vs Q E hr h => ?_)
 ·obtain ⟨v, S, rfl, _⟩ := h
  rfl
 ·obtain ⟨v, S, rfl, rs, L, tb, k⟩ := h
  have hu := Bc hr
  refine ⟨_, (A1 (Ae (i := 1) sc_worked.nd rfl (Or.inr rfl) (Ab Zt0 hr.z rfl (A6 (pv 0) A2)))
 (Aa (Ak (Y8 (i := 1) (nm := "name") (lv := "level_of") rfl T.Zsk (Ab Zuf hr.z rfl (A6 (pv 0) A2)) hr rfl Cd.hd hB rfl rfl rfl (λ_ h => Kx rfl h) ⟨rfl, rfl, rfl, rfl, rfl, by decide⟩ (λ_ _ _ _ _ => rfl))))), ?_⟩
  have hfew := L.few
  walk_at "rd"
  refine ⟨v, S, rfl, rs, L, λp H1 hp hp1 sm1 => ?_⟩
  refine ⟨v, S, rfl, RD.same sm1 _ _ rs, by omega, λq H2 hq hq2 sm2 => ?_⟩
  have s2 := sm1.trans sm2
  unfold Lc
  refine ⟨q, Bu S, p, fnD (Bu S) (lv S), lv S, rfl, hq2, by rw [Go]; exact hfew, rfl, sm2 _ _ hp1, λx hx => L9 hx, TblAt.same tb s2, λr ys H3 hr3 hr4 so sb tb3 bt => ?_⟩
  exact k r ys H3 (Same.free s2 hr3) hr4 so sb tb3 (λb o nb hb => bt b o nb (s2 b o hb))
theorem Tb.same {H H' : Hp} {Pt : Addr} (t : Tb H Pt) (s : Same H H') : Tb H' Pt := TblAt.same t s
theorem Tb.at {H : Hp} {Pt : Addr} (t : Tb H Pt) : ∃ u, H Pt = some (.tbl u) := t.elim (λe => ⟨_, e⟩) (λ⟨_, e, _⟩ => ⟨_, e⟩)
theorem Ue {H H' : Hp} {Pt : Addr} (t : Tb H Pt) (b : But Pt H H') : KeepU H H' := λa xs e => b a _ (λz => by obtain ⟨u, hu⟩ := t.at; rw [z, hu] at e; cases e) e
theorem Pb {H H' : Hp} {Pt st : Addr} (t : Tb H Pt) (b : But st H H') (s : StOk H st) : Tb H' Pt := by
 obtain ⟨ns, _, es⟩ := s
 rcases t with e | ⟨c, e, e2⟩
 ·exact .inl (b _ _ (λz => by rw [z, es] at e; cases e) e)
 ·exact .inr ⟨c, b _ _ (λz => by rw [z, es] at e; cases e) e, b _ _ (λz => by rw [z, es] at e2; cases e2) e2⟩
theorem R3 {H : Hp} {Pt p : Addr} {o : HO} (t : Tb H Pt) (h : H p = some o) (hn : ∀ u, o ≠ .tbl u) : p ≠ Pt := λz => by
 obtain ⟨u, e⟩ := t.at
 rw [<- z, h] at e
 exact hn u (Zza e)
theorem ii {H H' : Hp} {Pt st : Addr} (s : StOk H st) (t : Tb H Pt) (b : But Pt H H') : StOk H' st := by
 obtain ⟨ms, e1, e2⟩ := s
 exact ⟨ms, e1, b _ _ (R3 t e2 λu z => by cases z) e2⟩
end
set_option maxHeartbeats 4000000
section
variable {P : Program} {w : World} {K : Zzu} {mg : Str -> Option Value} {base : Heap} {f : Addr} {fd : FuncData} {c : Cl} {Pt Pu : Addr}
def letters : List Nat := ("abcdefghijklmnopqrstuvwxyz" : Str).cps.toList
theorem E2 {H H' : Hp} {st : Addr} (s : But st H H') (h : StOk H st) : KeepU H H' := λa xs e => s a _ (h.neT e) e
theorem Io {H : Hp} {l : Addr} {xs ys : List V} (h : H l = some (.lst xs)) : KeepU H (upd H l (.lst ys)) := j8 h (λ_ z => by cases z)
def sp_law_next : Sp := λvs H Q _ => ∃ st m, vs = [.ref st, .int m] /\ StOk H st /\ 0 < m /\ m < 10 ^ 200 /\ ∀ d H', 0 <= d -> d < m -> StOk H' st -> But st H H' -> Q (.int d) H'
theorem sc_law_next : Aj ["_law_state", "_law_many", "_law_digit"] ["_law_state", "_law_many"] (A9 Ee) := by walk_at "sc"
theorem Rj (F : Fun K "_law_next" "_law_next" Ee f fd) (T : Txt mg) (C : Exc K mg c) : FnOk P w K mg base CX0 1 f fd ["_law_state", "_law_many"] sp_law_next := by
 refine F.ok sc_law_next (λvs H Q E h => ?_) (λcdv A outer s H vs Q E hr h => ?_)
 ·obtain ⟨st, m, rfl, _⟩ := h
  rfl
 ·obtain ⟨st, m, rfl, ⟨ns, hne, hs⟩, h0, hm, k⟩ := h
  have hu := Bc hr
  refine ⟨_, (A1 (Bm (Ai Km (Ag B4 rfl T.Zve Co (A6 (pv 0) A2)) A8 (Ar _)) (A1 (Ae (i := 2) sc_law_next.nd rfl (Zzt rfl) (An Hg (A7 hu (pv 0) A8 (λ_ _ => rfl)) (pv 1)))
 (A1 (Ek (An Hh (A7 hu (pv 0) A8 (λ_ _ => rfl)) (pv 1)) (Fu (pv 0) A8 Fp))
 (A1 (Bm (Ai (Yi hu) (A7 hu (pv 0) A8 (λ_ _ => rfl)) (Dy (A6 A8 (A6 (Oc Ju A8) A2))) rfl) (Aa (Ce (G3 Zyw PySem.F.slot_list_pop PySem.F.type_list_pop Yo (pv 0) (A6 A8 A2)))) At)
 (Aa (Ak (pv 2)))))) At)
 (A1 (Ek (An Hg (An Bi (An Yh (A7 hu (pv 0) A8 (λ_ _ => rfl)) A8) A8) (An Gn (An T9 A8 A8) A8)) (Fu (pv 0) A8 Fp))
 (Aa (Ak (An Hg (An Hh (A7 hu (pv 0) A8 (λ_ _ => rfl)) A8) (pv 1)))))), ?_⟩
  walk_at "rd"
  cases ns with
  | nil => exact absurd rfl hne
  | cons n0 rest =>
  have hit : ∀ (H' : Hp) (n : Int) (r : List Int), H' st = some (.lst (V.int n :: r.map V.int)) -> Ki H' (.ref st) (.int 0) (.int n) := λH' n r e => Gq (j := 0) e rfl
  have h0i := hit H n0 rest hs
  refine ⟨_, .inl hs, ?_⟩
  refine Ey (λhl => ?_) (λhl => ?_)
  ·refine ⟨_, h0i, _, rfl, h0, _, h0i, _, rfl, h0, hm, _, hs, 0, by simp [ixN], ?_⟩
   have e1 : upd H st (.lst ((Zxy V.int (n0 :: rest)).set 0 (V.int (n0 / m)))) st = some (.lst (V.int (n0 / m) :: rest.map V.int)) := by rw [A0]; rfl
   refine ⟨_, hit _ _ _ e1, by decide, λp hp => ?_⟩
   have npst : st ≠ p := A5 e1 hp
   refine ⟨_, .inl ⟨p, _, rfl, .inr A0, rfl, rfl, rfl⟩, ?_⟩
   have d0 : 0 <= n0 % m := Int.emod_nonneg _ (by omega)
   have d1 : n0 % m < m := Zvs _ h0
   have e2 : ∀ o, upd (upd H st (.lst ((Zxy V.int (n0 :: rest)).set 0 (V.int (n0 / m))))) p o st = some (.lst (V.int (n0 / m) :: rest.map V.int)) := λo => by rw [A3 npst]; exact e1
   have hrest : rest ≠ [] := λe => by
    have hl := of_decide_eq_true hl
    rw [e] at hl
    simp at hl
   have bt : But st H (upd (upd H st (.lst ((Zxy V.int (n0 :: rest)).set 0 (V.int (n0 / m))))) p (.tup [V.int 0, V.int (-1)])) := but_set.trans (Gu hp)
   refine Ey (λhb => ?_) (λhb => ?_)
   ·refine ⟨by unfold My; simp only [e2], _, e2 _, by decide, by decide, 0, by simp [seqIndex?], _, rfl, ?_⟩
    exact k _ _ d0 d1 ⟨rest, hrest, by rw [A0]; rfl⟩ (bt.trans but_set)
   ·exact k _ _ d0 d1 ⟨(n0 / m) :: rest, by simp, e2 _⟩ bt
  ·have e1 : ∀ z : Int, upd H st (.lst ((Zxy V.int (n0 :: rest)).set 0 (V.int z))) st = some (.lst (V.int z :: rest.map V.int)) := λz => by rw [A0]; rfl
   refine ⟨_, h0i, _, rfl, .inr ⟨by decide, by decide⟩, ⟨by decide, by decide, by decide⟩, by decide, _, hs, 0, by simp [ixN], _, hit _ _ _ (e1 _), _, rfl, by decide, by decide +kernel, h0, ?_⟩
   exact k _ _ (Int.emod_nonneg _ (by omega)) (Zvs _ h0) ⟨_ :: rest, by simp, e1 _⟩ but_set
def J5 (K : Zzu) : Sp := λvs H Q _ => ∃ (a : Addr) (ns : List Int), vs = [.ref a] /\ SqL K H a (ns.map V.int) /\ ns.length <= 63 /\ ∀ st H', StOk H' st -> Same H H' -> Q (.ref st) H'
theorem X7 (ns : List Int) (lo hi : Option Int) : ∃ ms : List Int, E4 (ns.map V.int) lo hi = ms.map V.int := by
 unfold E4
 exact ⟨_, by rw [<- Zx4, <- Zwx]⟩
theorem sc_law_drawn : Aj ["_law_script", "_law_seed", "_law_cell"] ["_law_script"] (A9 Dq) := by walk_at "sc"
theorem Ps {f : Addr} {fd : FuncData} (F : Fun K "_law_drawn" "_law_drawn" Dq f fd) (T : Txt mg) : FnOk P w K mg base CX0 1 f fd ["_law_script"] (J5 K) := by
 refine F.ok sc_law_drawn (λvs H Q E h => ?_) (λcdv A outer s H vs Q E hr h => ?_)
 ·obtain ⟨a, ns, rfl, _⟩ := h
  rfl
 ·obtain ⟨a, ns, rfl, hS, hlen, k⟩ := h
  have hu := Bc hr
  refine ⟨_, (A1 (Ae (i := 1) sc_law_drawn.nd rfl (Zzt rfl) A8)
 (A1 (B3 PassesOwn.never rfl (bn (pv 0)) (Ac (i := 2) sc_law_drawn.nd rfl (Zzt rfl))
 (Aa (Ae (i := 1) sc_law_drawn.nd rfl (Zzt rfl) (An Hg (An Bi (An Bi (An Yh (pv 1) A8) (An Hg (pv 2) (An T9 A8 A8))) A8) (An Gn (An T9 A8 A8) A8)))))
 (A1 (Bm (PW.pt (Jz (Ai Km (Ag Jq rfl T.Zve Co (A6 (pv 0) A2)) A8 (Ar _)) (Hv (Ai (Dj hu) (An Hg (Y9 Q2 (pv 0) A8 (λ_ _ => rfl)) A8) A8 (Ar _))))) (Aa (Ak (An Lx (An Lx (Bt (A6 (An Hh (Y9 Q2 (pv 0) A8 (λ_ _ => rfl)) A8) A2)) (By Uj (pv 0) (Bn A8) (Bn A8))) (Bt (A6 (pv 1) A2))))) At)
 (Aa (Ak (Bt (A6 (pv 1) A2))))))), ?_⟩
  walk_at "rd"
  simp only [gl]
  walk_at "rd"
  refine ⟨⟨_, hS⟩, Z5 (K := K) (a := a) (xs := ns.map V.int) (λi Z H' => H' = H /\ ∃ (z : Int) (c : Option V), Z = [some (.ref a), some (.int z), c]) ⟨rfl, _, _, rfl⟩ (λi Z H' _ p => by rw [p.1]; exact hS) ?_ ?_⟩
  ·rintro i y Z H' hy ⟨rfl, z, c, rfl⟩
   obtain ⟨u, rfl⟩ : ∃ u, y = V.int u := by
    rw [Zzx] at hy
    cases e : ns[i]? with
    | none => rw [e] at hy; cases hy
    | some u => rw [e] at hy; exact ⟨u, (Zza hy).symm⟩
   walk_at "rd"
   refine ⟨.inr ⟨by decide, by decide⟩, ⟨by decide, by decide, by decide⟩, by decide, ⟨by decide, by decide, by decide⟩, by decide, _, rfl⟩
  ·rintro Z H' ⟨rfl, z, c, rfl⟩
   walk_at "rd"
   simp only [lj, li]
   walk_at "rd"
   refine ⟨_, .inl hS, Ey (λh0 => ?_) (λh0 => ?_)⟩
   ·have hne : ns ≠ [] := λe => by
     rw [e] at h0
     simp at h0
    obtain ⟨n0, r, rfl⟩ : ∃ n0 r, ns = n0 :: r := by
     cases ns with
     | nil => exact absurd rfl hne
     | cons a b => exact ⟨a, b, rfl⟩
    refine ⟨_, hS, _, Ii (j := 0) rfl, _, rfl, by decide, rfl, Ey (λh1 => ?_) (λh1 => ?_)⟩
    ·refine ⟨_, hS, _, Ii (j := 0) rfl, _, rfl, by decide, by decide +kernel, by decide, λp hp => ?_⟩
     obtain ⟨ms, ems⟩ := X7 (n0 :: r) (some 1) (some 63)
     have hml : ms.length <= 63 := by
      have h1 := Kv (Zxy V.int (n0 :: r)) (some 1) (some 63)
      rw [ems, Zzz, Zzz] at h1
      omega
     refine ⟨_, (A4 hp).seq hS, λp1 hp1 => ?_⟩
     rw [ems]
     have e1 := A4 (o := .lst (ms.map V.int)) hp1 p _ A0
     refine ⟨_, e1, _, A0, Zyz (by rw [Zzz]; simp; omega : _ <= 1000) (Ao (Zzw _)), λp2 hp2 => ⟨by decide, λp3 hp3 => ?_⟩⟩
     refine ⟨_, A4 hp3 p2 _ A0, _, A0, Zyz (by simp; omega : _ <= 1000) (Ao (Zzw _)), λp4 hp4 => ?_⟩
     refine k p4 _ ⟨n0 / 2 :: (ms ++ [z]), by simp, ?_⟩ ((((A4 hp).trans (A4 hp1)).trans (A4 hp2)).trans ((A4 hp3).trans (A4 hp4)))
     rw [A0]
     simp
    ·exact ⟨by decide, λp hp => k p _ ⟨[z], by simp, A0⟩ (A4 hp)⟩
   ·exact ⟨by decide, λp hp => k p _ ⟨[z], by simp, A0⟩ (A4 hp)⟩
end
set_option maxHeartbeats 4000000
section
variable {P : Program} {w : World} {K : Zzu} {mg : Str -> Option Value} {base : Heap} {f : Addr} {fd : FuncData} {c : Cl} {Pt Pu : Addr}
theorem Gk {xs : List V} {i : Int} (hi : 0 <= i) : E4 xs (some i) none = xs.drop i.toNat := by
 unfold E4
 rw [Pg hi]
 have e : HT.sIx xs.length xs.length none = xs.length := rfl
 rw [e]
 by_cases h : i.toNat <= xs.length
 ·rw [Zvz h, Zxl (by rw [Zym]; exact Zzw _)]
 ·have h : xs.length <= i.toNat := by omega
  rw [Nat.min_eq_right h, List.drop_length, List.drop_of_length_le h, List.take_nil]
structure WB (w : Wr) : Prop where
 lag : 0 <= w.lag /\ w.lag <= 30
 gives : 1 <= w.gives /\ w.gives <= 100
 floor : 0 <= w.floor /\ w.floor <= 100
 stock : 0 <= w.stock /\ w.stock <= 10 ^ 42
 parts : w.parts.length <= 12
 amts : ∀ p ∈ w.parts, 1 <= p.2 /\ p.2 <= 100
 nds : (w.parts.map (·.1)).Nodup
structure mo (ws : List Wr) : Prop where
 nd : (ws.map (·.name)).Nodup
 wb : ∀ w ∈ ws, WB w
 txt : ∀ w ∈ ws, PyData.strOk w.name = true
 own : ∀ w ∈ ws, ∀ p ∈ w.parts, p.1 ∈ ws.map (·.name)
 low : ∃ r : Str -> Nat, (∀ w ∈ ws, r w.name < ws.length) /\ ∀ w ∈ ws, ∀ p ∈ w.parts, r p.1 < r w.name
def i5 (sz : Int) (cs : List (Int × Int)) : Prop := cs.length <= 12 /\ ∀ p ∈ cs, (0 <= p.1 /\ p.1 < sz) /\ 0 <= p.2 /\ p.2 < 10 ^ 41
def Vi (sz : Int) (names : List Str) (us : List Wt) : Prop := us.length <= 20 /\ ∀ u ∈ us, u.1 ∈ names /\ (0 <= u.2.1 /\ u.2.1 < sz) /\ 0 <= u.2.2 /\ u.2.2 < 10 ^ 41
theorem Vl {S : Sh} (h : mo S.wares) : Kh S := by
 obtain ⟨r, h1, h2⟩ := h.low
 refine Sa (r := r) (λe he x hx => ?_) (λe he => ?_)
 ·obtain ⟨w, hw, rfl⟩ := Zzl.mp he
  obtain ⟨p, hp, rfl⟩ := Zzl.mp hx
  exact h2 w hw p hp
 ·obtain ⟨w, hw, rfl⟩ := Zzl.mp he
  exact h1 w hw
structure Good (sz : Int) (S : Sh) : Prop where
 ws : mo S.wares
 len : 1 <= S.wares.length /\ S.wares.length <= 12
 com : ∀ w ∈ S.wares, i5 sz w.coming
 wants : Vi sz (S.wares.map (·.name)) S.wants
theorem Good.ok {sz : Int} {S : Sh} (g : Good sz S) : U5 S := ⟨g.ws.nd, by have := g.len.2; omega, λw hw => ⟨Zyz (g.ws.wb w hw).parts (by decide), Zyz (g.com w hw).1 (by decide)⟩⟩
theorem Good.no {sz : Int} {S : Sh} (g : Good sz S) : Kh S := Vl g.ws
mutual
theorem S8 : ∀ d : PyData, d.canLay0 = true -> PyData.eqv d d = true
 | .none, _ => by rw [PyData.eqv]
 | .bool b, _ => by rw [PyData.eqv]; simp
 | .int i, _ => by rw [PyData.eqv]; simp
 | .str x, _ => by rw [PyData.eqv]; simp
 | .list xs, h => by
  rw [PyData.canLay0] at h
  rw [PyData.eqv]
  exact Hn xs h
 | .tuple xs, h => by
  rw [PyData.canLay0] at h
  rw [PyData.eqv]
  exact Hn xs h
 | .dict _, h => by rw [PyData.canLay0] at h; cases h
theorem Hn : ∀ ds : List PyData, PyData.canLayAll0 ds = true -> PyData.eqvAll ds ds = true
 | [], _ => by rw [PyData.eqvAll]
 | d :: ds, h => by
  rw [PyData.canLayAll0, Zy5] at h
  rw [PyData.eqvAll, S8 d h.1, Hn ds h.2]
  rfl
end
theorem Jk {α : Type} (f : α -> PyData) : ∀ xs : List α, (∀ x ∈ xs, (f x).canLay0 = true) -> PyData.canLayAll0 (xs.map f) = true
 | [], _ => by rw [Zx0, PyData.canLayAll0]
 | x :: r, h => by
  rw [Zz4, PyData.canLayAll0, h x Zz6, Jk f r λy hy => h y (Zz7 _ hy)]
  rfl
theorem Fj {α : Type} (f : α -> PyData) (n : Nat) : ∀ xs : List α, (∀ x ∈ xs, (f x).depth <= n) -> PyData.depthAll (xs.map f) <= n
 | [], _ => by rw [Zx0, PyData.depthAll]; exact Zyn _
 | x :: r, h => by
  rw [Zz4, PyData.depthAll]
  exact Nat.max_le.mpr ⟨h x Zz6, Fj f n r λy hy => h y (Zz7 _ hy)⟩
theorem Mj (u : Str × Int) : (Ds u).depth <= 1 := by unfold Ds; simp [PyData.depth, PyData.depthAll]
theorem X5 (u : Int × Int) : (Gv u).depth <= 1 := by unfold Gv; simp [PyData.depth, PyData.depthAll]
theorem Ts (w : Wr) : w.d.depth <= 3 := by
 have h1 := Fj Gv 1 w.coming λx _ => X5 x
 have h2 := Fj Ds 1 w.parts λx _ => Mj x
 unfold Wr.d
 simp only [PyData.depth, PyData.depthAll]
 omega
theorem Good.txt {sz : Int} {S : Sh} (g : Good sz S) : ∀ x ∈ S.wares.map (·.name), PyData.strOk x = true := λx hx => by
 obtain ⟨w, hw, rfl⟩ := Zzl.mp hx
 exact g.ws.txt w hw
theorem Good.txts {sz : Int} {S : Sh} (g : Good sz S) : ∀ w ∈ S.wares, PyData.strOk w.name = true /\ ∀ p ∈ w.parts, PyData.strOk p.1 = true := λw hw => ⟨g.ws.txt w hw, λp hp => g.txt _ (g.ws.own w hw p hp)⟩
theorem cm {d : PyData} (h : okD d = true) : d.canLay0 = true := (Zyl.mp h).1
end
set_option maxHeartbeats 4000000
section
variable {P : Program} {w : World} {K : Zzu} {mg : Str -> Option Value} {base : Heap} {f : Addr} {fd : FuncData} {c : Cl} {Pt Pu : Addr}
def PlanAt (H : Hp) (a : Addr) (S : Sh) (plan : Str -> List Int) : Prop := ∃ kvs, Rd H a (.dK kvs) /\ ∀ nm ∈ S.wares.map (·.name), ∃ l : Addr, Br kvs (.inr nm) = some (.ref l) /\ H l = some (.lst ((plan nm).map V.int)) /\ (plan nm).length = daysN S /\ ∀ x ∈ plan nm, 0 <= x /\ x < 10 ^ 2000
def PlanFor (H : Hp) (a : Addr) (S : Sh) (plan : Str -> List Int) (P : Str -> Prop) : Prop := ∃ kvs, Rd H a (.dK kvs) /\ ∀ nm ∈ S.wares.map (·.name), P nm -> ∃ l : Addr, Br kvs (.inr nm) = some (.ref l) /\ H l = some (.lst ((plan nm).map V.int)) /\ (plan nm).length = daysN S /\ ∀ x ∈ plan nm, 0 <= x /\ x < 10 ^ 2000
theorem PlanAt.for {H : Hp} {a : Addr} {S : Sh} {plan : Str -> List Int} (h : PlanAt H a S plan) (P : Str -> Prop) : PlanFor H a S plan P := by obtain ⟨kvs, h1, h2⟩ := h; exact ⟨kvs, h1, λnm hn _ => h2 nm hn⟩
def Zw (S : Sh) (x nm : Str) : Prop := ∃ t ∈ S.wares, t.name = nm /\ ∃ p ∈ t.parts, p.1 = x
theorem _root_.L2.Rd.same {H H' : Hp} {a : Addr} {u : HO} (h : Rd H a u) (s : Same H H') : Rd H' a u := h.elim (λe => .inl (s _ _ e)) (λ⟨o, e⟩ => .inr ⟨o, s _ _ e⟩)
theorem PlanAt.same {H H' : Hp} {a : Addr} {S : Sh} {plan : Str -> List Int} (h : PlanAt H a S plan) (s : Same H H') : PlanAt H' a S plan := by
 obtain ⟨kvs, h1, h2⟩ := h
 exact ⟨kvs, h1.same s, λnm hn => by obtain ⟨l, e1, e2, e3⟩ := h2 nm hn; exact ⟨l, e1, s _ _ e2, e3⟩⟩
theorem PlanFor.same {H H' : Hp} {a : Addr} {S : Sh} {plan : Str -> List Int} {P : Str -> Prop} (h : PlanFor H a S plan P) (s : Same H H') : PlanFor H' a S plan P := by
 obtain ⟨kvs, h1, h2⟩ := h
 exact ⟨kvs, h1.same s, λnm hn hP => by obtain ⟨l, e1, e2, e3⟩ := h2 nm hn hP; exact ⟨l, e1, s _ _ e2, e3⟩⟩
theorem Good.days {sz : Int} {S : Sh} (g : Good sz S) (hz : 0 < sz) (hz2 : sz <= 1000) : 1 <= daysN S /\ daysN S <= 1000 /\ ((daysN S : Nat) : Int) = 1 + Ex (S.wants.map λu => u.2.1) /\ ∀ u ∈ S.wants, u.2.1.toNat < daysN S := by
 have h0 : 0 <= Ex (S.wants.map λu => u.2.1) := Us λx hx => by
  obtain ⟨u, hu, rfl⟩ := Zzl.mp hx
  exact (g.wants.2 u hu).2.1.1
 have h1 : Ex (S.wants.map λu => u.2.1) < sz := Ut hz λx hx => by
  obtain ⟨u, hu, rfl⟩ := Zzl.mp hx
  exact (g.wants.2 u hu).2.1.2
 unfold daysN
 refine ⟨by omega, by omega, by omega, λu hu => ?_⟩
 have h2 : u.2.1 <= Ex (S.wants.map λu => u.2.1) := Uu (Zzl.mpr ⟨u, hu, rfl⟩)
 have h3 := (g.wants.2 u hu).2.1.1
 omega
def sp_count_days : Sp := λvs H Q _ => ∃ (v : V) (S : Sh), vs = [v] /\ RD H S.d v /\ S.wants.length <= 1000 /\ ∀ H', Same H H' -> Q (.int (1 + Ex (S.wants.map λu => u.2.1))) H'
theorem N1 : Aj ["shop"] ["shop"] (A9 D7) := by walk_at "sc"
theorem Nb (F : Fun K "count_days" "count_days" D7 f fd) (T : Txt mg) (C : Exc K mg c) : FnOk P w K mg base CX0 1 f fd ["shop"] sp_count_days := by
 refine F.ok N1 (λvs H Q E h => ?_) (λcdv A outer s H vs Q E hr h => ?_)
 ·obtain ⟨v, S, rfl, _⟩ := h
  rfl
 ·obtain ⟨v, S, rfl, rs, hw, k⟩ := h
  have hu := Bc hr
  refine ⟨_, (Aa (Ak (An Bi A8 (Ul rfl rfl T.Zsv (Fe (own := ["want"]) (cap := []) rfl (Fb rfl) (C9 (by decide)) (Dw (A7 hu (pv 0) A8 (λ_ _ => rfl)))
 (λ_ _ _ _ _ _ => ⟨(Ac (i := 0) (of_decide_eq_true rfl) rfl (Zzt rfl) (.inr rfl)), D8, (A7 hu (pv 0) (Aq rfl T.Zug) (λ_ _ => rfl))⟩)))))), ?_⟩
  obtain ⟨a, b, c, ws, us, rfl, ha, hb, hc, rws, rus⟩ := Dh rs
  have hl := Ax rus
  walk_at "rd"
  refine ⟨_, Ad (j := 1) ha rfl, c, rfl, us, hc, ?_⟩
  refine Eu (G5 c _) (Ao (by omega)) (λH' s' => s' _ _ hc) ((S.wants.map λu => u.2.1).map V.int) (by rw [Zzz, Zzz, hl]) (λi x H' hi hx s' N M hN => ?_) (λH' s' p hp => ?_)
  ·obtain ⟨y, hy, ry⟩ := C4 rus hx
   obtain ⟨e, rfl, he⟩ := P9 ry
   walk_at "rd"
   exact ⟨_, Ad (j := 1) (s' _ _ he) rfl, hN _ _ s' (by rw [Zzx, Zzx, hy]; rfl)⟩
  ·exact ⟨p, rfl, _, A0, k _ (s'.trans (A4 hp))⟩
def sp_begun_row : Sp := λvs H Q _ => ∃ (a : Addr) (v : V) (S : Sh) (plan : Str -> List Int) (w : Wr) (P : Str -> Prop), vs = [.ref a, v] /\ PlanFor H a S plan P /\ P w.name /\ daysN S <= 1000 /\ RD H w.d v /\ w ∈ S.wares /\ 0 <= w.lag /\ w.lag <= 1000 /\ ∀ p H', H p = none -> H' p = some (.lst ((E3 (plan w.name) w.lag).map V.int)) -> Same H H' -> Q (.ref p) H'
theorem sc_begun_row : Aj ["plan", "ware", "lots"] ["plan", "ware"] (A9 Dr) := by walk_at "sc"
theorem Pw (F : Fun K "begun_row" "begun_row" Dr f fd) (T : Txt mg) (C : Exc K mg c) : FnOk P w K mg base CX0 1 f fd ["plan", "ware"] sp_begun_row := by
 refine F.ok sc_begun_row (λvs H Q E h => ?_) (λcdv A outer s H vs Q E hr h => ?_)
 ·obtain ⟨a, v, S, plan, w, P, rfl, _⟩ := h
  rfl
 ·obtain ⟨a, v, S, plan, w, P', rfl, ⟨kvs, hk, hpl⟩, hP, hd, rw', hm, l0, l1, k⟩ := h
  have hu := Bc hr
  refine ⟨_, (A1 (Ae (i := 2) sc_begun_row.nd rfl (Zzt rfl) (A7 hu (pv 0) (A7 hu (pv 1) (Aq rfl T.Zv0) (λ_ _ => rfl)) (λ_ _ => rfl)))
 (Aa (Ak (An Lx (By Cv (pv 2) (Bn (A7 hu (pv 1) (Aq rfl T.Zto) (λ_ _ => rfl))) Er) (An Pl (Bt (A6 A8 A2)) (Ag (Xc rfl) rfl T.Zsj Zo (A6 (A7 hu (pv 1) (Aq rfl T.Zto) (λ_ _ => rfl)) (A6 (Ag B4 rfl T.Zve Co (A6 (pv 2) A2)) A2)))))))), ?_⟩
  obtain ⟨e, c1, c2, rfl, he, _⟩ := C3 rw'
  obtain ⟨l, hv, hl, hlen, _⟩ := hpl w.name (Zzl.mpr ⟨w, hm, rfl⟩) hP
  walk_at "rd"
  refine ⟨_, Ad (j := 0) he rfl, .ref l, Hk hk hv, _, Ad (j := 1) he rfl, ?_⟩
  refine ⟨w.lag, rfl, l, rfl, _, hl, λp1 hp1 => ⟨by decide, λp2 hp2 => ?_⟩⟩
  have u1 := A4 (o := .lst (E4 ((plan w.name).map V.int) (some w.lag) none)) hp1
  have u2 := u1.trans (A4 (o := .lst [V.int 0]) hp2)
  refine ⟨_, Ad (j := 1) (u2 _ _ he) rfl, l, rfl, _, .inl (u2 _ _ hl), w.lag, rfl, [V.int 0], A0, ?_, ?_, ?_, λp3 hp3 => ?_⟩
  ·split <;> omega
  ·rw [Zzz]; split <;> omega
  ·refine Ao ?_
   rw [Zzz, Zwt]
   split <;> omega
  ·have emin : (if (((plan w.name).map V.int).length : Int) < w.lag then (((plan w.name).map V.int).length : Int) else w.lag).toNat = min w.lag.toNat (plan w.name).length := by
    rw [Zzz]
    split <;> omega
   rw [emin, J8, Gk l0]
   have u3 := u2.trans (A4 (o := .lst ((Af (min w.lag.toNat (plan w.name).length) λ_ => 0).map V.int)) hp3)
   rw [Gk l0] at u3
   have n12 : p1 ≠ p2 := A5 A0 hp2
   refine ⟨((plan w.name).map V.int).drop w.lag.toNat, ?_, _, A0, ?_, λp4 hp4 => ?_⟩
   ·rw [A3 (λe => by rw [<- e, A3 n12, A0] at hp3; cases hp3), A3 n12, A0]
   ·refine Ao ?_
    rw [Zym, Zzz, Zzz, Al]
    omega
   ·refine k p4 _ (Same.free u3 hp4) ?_ (u3.trans (A4 hp4))
    rw [A0, <- Zx4, <- Zzg, Zq]
def sp_wants_row : Sp := λvs H Q _ => ∃ (v x : V) (S : Sh) (w : Wr) (sz : Int), vs = [v, x] /\ RD H S.d v /\ RD H w.d x /\ Good sz S /\ 0 < sz /\ sz <= 1000 /\ ∀ p H', H p = none -> H' p = some (.lst ((Af (daysN S) λd => Cc (wAt w.name d) S.wants).map V.int)) -> Same H H' -> Q (.ref p) H'
def Zv (v x : V) (p : Addr) (S : Sh) (nm : Str) (H : Hp) (i : Nat) (Z : St) (H' : Hp) : Prop := ∃ o : Option V, Z = [some v, some x, some (.ref p), o] /\ H' p = some (.lst ((Af (daysN S) λd => Cc (wAt nm d) (S.wants.take i)).map V.int)) /\ Same H H'
theorem sc_wants_row : Aj ["shop", "ware", "told", "want"] ["shop", "ware"] (A9 Dl) := by walk_at "sc"
theorem Pn (F : Fun K "wants_row" "wants_row" Dl f fd) (T : Txt mg) (C : Exc K mg c) (Zuq : Has P w K mg base "count_days" 1 ["shop"] sp_count_days) : FnOk P w K mg base CX0 2 f fd ["shop", "ware"] sp_wants_row := by
 refine F.ok sc_wants_row (λvs H Q E h => ?_) (λcdv A outer s H vs Q E hr h => ?_)
 ·obtain ⟨v, x, S, w, sz, rfl, _⟩ := h
  rfl
 ·obtain ⟨v, x, S, w, sz, rfl, rs, rx, g, z0, z1, k⟩ := h
  have hu := Bc hr
  obtain ⟨n1, n2, n3, n4⟩ := g.days z0 z1
  refine ⟨_, (A1 (Ae (i := 2) sc_wants_row.nd rfl (Zzt rfl) (An Pl (Bt (A6 A8 A2)) (Ab Zuq hr.z rfl (A6 (pv 0) A2))))
 (A1 (B3 PassesOwn.never rfl (Dw (A7 hu (pv 0) A8 (λ_ _ => rfl))) (Ac (i := 3) sc_wants_row.nd rfl (Zzt rfl))
 (Aa (Bm (Ai (Dj hu) (A7 hu (pv 3) (Aq rfl T.Zue) (λ_ _ => rfl)) (A7 hu (pv 1) (Aq rfl T.Zv0) (λ_ _ => rfl)) (Ar _)) (Aa (L6 (pv 2) (A7 hu (pv 3) (Aq rfl T.Zug) (λ_ _ => rfl)) V2 (A7 hu (pv 3) (Aq rfl T.Zup) (λ_ _ => rfl)) Es Fp)) At)))
 (Aa (Ak (pv 2))))), ?_⟩
  obtain ⟨a, b, c, ws, us, rfl, ha, hb, hc, rws, rus⟩ := Dh rs
  obtain ⟨xe, c1, c2, rfl, hxe, _⟩ := C3 rx
  have hl := Ax rus
  walk_at "rd"
  refine ⟨by decide, λp0 hp0 => ?_⟩
  have u0 := A4 (o := .lst [V.int 0]) hp0
  refine ⟨.ref a, S, rfl, RD.same u0 _ _ rs, by have := g.wants.1; omega, λH1 sm1 => ?_⟩
  have h01 := sm1 p0 _ A0
  have sm01 := u0.trans sm1
  rw [<- n3]
  refine ⟨_, rfl, _, h01, by omega, by omega, by rw [Zwt]; exact Ao (by omega), λp hp => ?_⟩
  have u1 := sm01.trans (A4 (o := .lst ((Af (daysN S) λ_ => 0).map V.int)) hp)
  have en : ((daysN S : Nat) : Int).toNat = daysN S := by omega
  rw [en, J8]
  refine ⟨_, Ad (j := 1) (u1 _ _ ha) rfl, c, rfl, us, u1 _ _ hc, ?_⟩
  refine Cb (G5 c _) (Zv (.ref a) (.ref xe) p S w.name H) ⟨_, rfl, ?_, u1⟩ (λi Z H' _ h => by obtain ⟨_, _, _, s⟩ := h; exact s _ _ hc) (λi y Z H2 hi hy h => ?_) (λZ H2 h => ?_)
  ·rw [A0]
   exact congrArg (λz => some (HO.lst (Zxy V.int z))) (Ch λd _ => by simp [Iz])
  ·obtain ⟨o, rfl, hp2, sm⟩ := h
   obtain ⟨u, hu', ru⟩ := C4 rus hy
   obtain ⟨e, rfl, he⟩ := P9 ru
   have he' := sm _ _ he
   have hx' := sm _ _ hxe
   have hum := Zzn hu'
   walk_at "rd"
   refine ⟨_, Ad (j := 0) he' rfl, _, Ad (j := 0) hx' rfl, rfl, Ey (λhz => ?_) (λhz => ?_)⟩
   ·have hz := of_decide_eq_true hz
    have hz : u.1 = w.name := V.str.inj hz
    have hd := n4 u hum
    have hd0 := (g.wants.2 u hum).2.1.1
    refine ⟨_, Ad (j := 1) he' rfl, _, u.2.1, rfl, hp2, hd0, _, by rw [Zzx, Bg hd]; rfl, _, Ad (j := 2) he' rfl, _, rfl, _, rfl, _, _, rfl, hp2, u.2.1.toNat, ?_, ?_⟩
    ·rw [Zzz, Al]
     unfold ixN
     rw [if_pos hd0, if_pos (by omega)]
    ·refine ⟨_, rfl, ?_, λb' o' hb' => by rw [A3 (A5 hb' (Same.free sm01 hp))]; exact sm b' o' hb'⟩
     rw [A0, <- List.map_set, Jx]
     refine congrArg (λz => some (HO.lst (Zxy V.int z))) (Ch λd _ => ?_)
     rw [E7 _ hu']
     unfold wAt
     by_cases e1 : d = u.2.1.toNat
     ·subst e1
      rw [if_pos rfl, if_pos ⟨hz, by omega⟩]
     ·rw [if_neg e1, if_neg (λq => e1 (by omega)), Zy6]
   ·refine ⟨_, rfl, ?_, sm⟩
    rw [hp2]
    refine congrArg (λz => some (HO.lst (Zxy V.int z))) (Ch λd _ => ?_)
    rw [E7 _ hu']
    unfold wAt
    rw [if_neg (c := u.1 = w.name /\ _) (λq => hz (decide_eq_true (by rw [q.1]))), Zy6]
  ·obtain ⟨o, rfl, hp2, sm⟩ := h
   walk_at "rd"
   rw [hl, Zyv] at hp2
   exact k p H2 (Same.free sm01 hp) hp2 sm
end
set_option maxHeartbeats 4000000
section
variable {P : Program} {w : World} {K : Zzu} {mg : Str -> Option Value} {base : Heap} {f : Addr} {fd : FuncData} {c : Cl} {Pt Pu : Addr}
def sp_needs_row : Sp := λvs H Q _ => ∃ (v : V) (a : Addr) (x : V) (S : Sh) (plan : Str -> List Int) (w : Wr) (sz : Int), vs = [v, .ref a, x] /\ RD H S.d v /\ PlanFor H a S plan (Zw S w.name) /\ RD H w.d x /\ Good sz S /\ 0 < sz /\ sz <= 1000 /\ ∀ p H', H p = none -> H' p = some (.lst ((Bb S plan w.name).map V.int)) -> Same H H' -> Q (.ref p) H'
def Zx (v : V) (a : Addr) (x : V) (S : Sh) (plan : Str -> List Int) (nm : Str) (H : Hp) (i : Nat) (Z : St) (H' : Hp) : Prop := ∃ (q : Addr) (o1 o2 o3 : Option V), Z = [some v, some (.ref a), some x, some (.ref q), o1, o2, o3] /\ H q = none /\
 H' q = some (.lst ((Af (daysN S) λd => Cc (wAt nm d) S.wants + Cc (pAt plan nm d) (S.wares.take i)).map V.int)) /\ Same H H'
def Zy (v : V) (a : Addr) (x t : V) (S : Sh) (plan : Str -> List Int) (nm : Str) (w : Wr) (i : Nat) (H : Hp) (j : Nat) (Z : St) (H' : Hp) : Prop := ∃ (q : Addr) (o2 o3 : Option V), Z = [some v, some (.ref a), some x, some (.ref q), some t, o2, o3] /\ H q = none /\
 H' q = some (.lst ((Af (daysN S) λd => Cc (wAt nm d) S.wants + Cc (pAt plan nm d) (S.wares.take i) + Cc (λp : Str × Int => if p.1 = nm then p.2 * bAt (plan w.name) w.lag d else 0) (w.parts.take j)).map V.int)) /\ Same H H'
def jq (n : Nat) (g : Nat -> Int) (H1 : Hp) (i : Nat) (acc : List V) (H' : Hp) : Prop := acc = ((Af n g).take i).map V.int /\ i <= n /\ Same H1 H'
theorem Gm {n i : Nat} {g : Nat -> Int} (h : i <= n) : (Af n g).take i = Af i g := by
 unfold Af
 rw [<- Zwx, List.take_range, Zvz h]
theorem sc_needs_row : Aj ["shop", "plan", "ware", "told", "taker", "part", "amount"] ["shop", "plan", "ware"] (A9 Dn) := by walk_at "sc"
theorem Pp (F : Fun K "needs_row" "needs_row" Dn f fd) (T : Txt mg) (C : Exc K mg c) (Ztm : Has P w K mg base "wants_row" 2 ["shop", "ware"] sp_wants_row) (Ztl : Has P w K mg base "begun_row" 1 ["plan", "ware"] sp_begun_row) : FnOk P w K mg base CX0 3 f fd ["shop", "plan", "ware"] sp_needs_row := by
 refine F.ok sc_needs_row (λvs H Q E h => ?_) (λcdv A outer s H vs Q E hr h => ?_)
 ·obtain ⟨v, a, x, S, plan, w, sz, rfl, _⟩ := h
  rfl
 ·obtain ⟨v, a, x, S, plan, w, sz, rfl, rs, pl, rx, g, z0, z1, k⟩ := h
  have hu := Bc hr
  obtain ⟨n1, n2, n3, n4⟩ := g.days z0 z1
  refine ⟨_, (A1 (Ae (i := 3) sc_needs_row.nd rfl (Zzt rfl) (Ab Ztm hr.z rfl (A6 (pv 0) (A6 (pv 2) A2))))
 (A1 (B3 PassesOwn.never rfl (Dw (A7 hu (pv 0) A8 (λ_ _ => rfl))) (Ac (i := 4) sc_needs_row.nd rfl (Zzt rfl))
 (Aa (B3 PassesOwn.never rfl (Dw (A7 hu (pv 4) (Aq rfl T.Zu2) (λ_ _ => rfl))) (Dx (n := 2) rfl (As (Ac (i := 5) sc_needs_row.nd rfl (Zzt rfl)) (As (Ac (i := 6) sc_needs_row.nd rfl (Or.inr rfl)) Cw)))
 (Aa (Bm (Ai (Dj hu) (pv 5) (A7 hu (pv 2) (Aq rfl T.Zv0) (λ_ _ => rfl)) (Ar _)) (Aa (Ej (own := ["goes", "lots"]) (cap := [6]) (i := 3) rfl (Fb rfl) Om sc_needs_row.nd rfl rfl (L7 rfl T.Zsu (A6 (pv 3) (A6 (Ab Ztl hr.z rfl (A6 (pv 1) (A6 (pv 4) A2))) A2)))
 (λ_ _ _ _ _ _ => ⟨(Dx (n := 2) rfl (As (Ac (i := 0) (of_decide_eq_true rfl) rfl (Zzt rfl) (.inr rfl)) (As (Ac (i := 1) (of_decide_eq_true rfl) rfl (Zzt rfl) (.inr rfl)) Cw))), D8, (An Bi (pv 0) (An Dz (pv 2) (pv 1)))⟩))) At)))))
 (Aa (Ak (pv 3))))), ?_⟩
  obtain ⟨sa, sb, sc, ws, us, rfl, ha, hb, hc, rws, rus⟩ := Dh rs
  obtain ⟨xe, c1, c2, rfl, hxe, _⟩ := C3 rx
  have hl := Ax rws
  walk_at "rd"
  refine ⟨.ref sa, .ref xe, S, w, sz, rfl, rs, rx, g, z0, z1, λq0 H1 hq0 hq1 sm1 => ?_⟩
  refine ⟨_, Ad (j := 0) (sm1 _ _ ha) rfl, sb, rfl, ws, sm1 _ _ hb, ?_⟩
  refine Cb (G5 sb _) (Zx (.ref sa) a (.ref xe) S plan w.name H) ⟨q0, _, _, _, rfl, hq0, ?_, sm1⟩ (λi Z H' _ h => by obtain ⟨_, _, _, _, _, _, _, s⟩ := h; exact s _ _ hb) (λi y Z H2 hi hy h => ?_) (λZ H2 h => ?_)
  ·rw [hq1]
   exact congrArg (λz => some (HO.lst (Zxy V.int z))) (Ch λd _ => by rw [Zwd, Iz, Zy6])
  ·obtain ⟨q, o1, o2, o3, rfl, hq, hq2, sm⟩ := h
   obtain ⟨t, ht, rt⟩ := C4 rws hy
   have htm := Zzn ht
   have wb := g.ws.wb t htm
   obtain ⟨te, d1, d2, rfl, hte, rc, rp⟩ := C3 rt
   obtain ⟨pb, pv, rfl, hpb, rpv⟩ := RD.tup_of rp
   have hlp := Ax rpv
   walk_at "rd"
   refine ⟨_, Ad (j := 6) (sm _ _ hte) rfl, pb, rfl, pv, sm _ _ hpb, ?_⟩
   refine Cb (G5 pb _) (Zy (.ref sa) a (.ref xe) (.ref te) S plan w.name t i H) ⟨q, _, _, rfl, hq, ?_, sm⟩ (λj Z H' _ h => by obtain ⟨_, _, _, _, _, _, s⟩ := h; exact s _ _ hpb) (λj y Z H3 hj hy h => ?_) (λZ H3 h => ?_)
   ·rw [hq2]
    exact congrArg (λz => some (HO.lst (Zxy V.int z))) (Ch λd _ => by rw [Zwd, Iz, Zy6])
   ·obtain ⟨q, o2, o3, rfl, hq, hq2, sm⟩ := h
    obtain ⟨pp, hpp, rpp⟩ := C4 rpv hy
    have hppm := Zzn hpp
    obtain ⟨pe, rfl, hpe⟩ := Up rpp
    refine gt2 (sm _ _ hpe) ?_
    walk_at "rd"
    refine ⟨_, Ad (j := 0) (sm _ _ hxe) rfl, rfl, Ey (λhz => ?_) (λhz => ?_)⟩
    ·have hz : pp.1 = w.name := V.str.inj (of_decide_eq_true hz)
     have hT : Zw S w.name t.name := ⟨t, htm, rfl, pp, hppm, hz⟩
     refine ⟨a, .ref te, S, plan, t, _, rfl, pl.same sm, hT, n2, RD.same sm _ _ rt, htm, wb.lag.1, by have := wb.lag.2; omega, λb H4 hb4 hb5 sm4 => ?_⟩
     have hq4 := sm4 _ _ hq2
     have sm04 := sm.trans sm4
     refine ⟨b, rfl, _, hq4, _, hb5, ?_⟩
     obtain ⟨kvs, hkv, hpl⟩ := pl
     obtain ⟨l, hv, hll, hlen, hbd⟩ := hpl t.name (Zzl.mpr ⟨t, htm, rfl⟩) hT
     have lb : (E3 (plan t.name) t.lag).length = daysN S := by unfold E3; rw [Al, hlen]
     have en : min (((Af (daysN S) λd => Cc (wAt w.name d) S.wants + Cc (pAt plan w.name d) (S.wares.take i) + Cc (λp : Str × Int => if p.1 = w.name then p.2 * bAt (plan t.name) t.lag d else 0) (t.parts.take j)).map V.int).length) (((E3 (plan t.name) t.lag).map V.int).length) = daysN S := by
      rw [Zzz, Zzz, Al, lb, Nat.min_self]
     have G := Qf q b ((Af (daysN S) λd => Cc (wAt w.name d) S.wants + Cc (pAt plan w.name d) (S.wares.take i) + Cc (λp : Str × Int => if p.1 = w.name then p.2 * bAt (plan t.name) t.lag d else 0) (t.parts.take j)).map V.int) ((E3 (plan t.name) t.lag).map V.int)
     rw [en] at G
     refine Zi G (Ao n2) (jq (daysN S) (λd => Cc (wAt w.name d) S.wants + Cc (pAt plan w.name d) (S.wares.take i) + Cc (λp : Str × Int => if p.1 = w.name then p.2 * bAt (plan t.name) t.lag d else 0) (t.parts.take j) + pp.2 * bAt (plan t.name) t.lag d) H4) ⟨rfl, Zyn _, Same.refl _⟩ (λr acc H' _ h => ⟨h.2.2 _ _ hq4, h.2.2 _ _ hb5⟩) (λr acc H' h => ?_) (λr ys z acc H5 hr hys h hz5 => ?_) (λacc H5 h p hp => ?_)
     ·rw [h.1, Zzz, Gm h.2.1, Al]
      exact Zzw _
     ·obtain ⟨rfl, h2, h3⟩ := h
      obtain ⟨y1, y2, e1, e2, rfl⟩ := hys
      rw [Zzx, Bg hr] at e1
      cases e1
      have hbg : (E3 (plan t.name) t.lag)[r]? = some (bAt (plan t.name) t.lag r) := by unfold E3; rw [Bg (by rw [hlen]; exact hr)]
      rw [Zzx, hbg] at e2
      cases e2
      refine gT2 ?_
      walk_at "rd"
      have hamt := wb.amts pp hppm
      refine ⟨.inl (.inl ⟨by omega, by omega⟩), ?_, hr, h3.trans (A4 hz5)⟩
      rw [Gm (by omega), Gm (by omega), Fq, Zzg]
      rfl
     ·obtain ⟨rfl, h2, h3⟩ := h
      rw [Gm (Zzw _)]
      refine ⟨p, _, _, rfl, Same.free (sm04.trans h3) hp, ?_, (sm04.trans h3).trans (A4 hp)⟩
      rw [A0]
      refine congrArg (λz => some (HO.lst (Zxy V.int z))) (Ch λd _ => ?_)
      rw [E7 _ hpp, if_pos hz]
      omega
    ·refine ⟨q, _, _, rfl, hq, ?_, sm⟩
     rw [hq2]
     refine congrArg (λz => some (HO.lst (Zxy V.int z))) (Ch λd _ => ?_)
     rw [E7 _ hpp, if_neg (c := pp.1 = w.name) (λe => hz (decide_eq_true (by rw [e]))), Zy6]
   ·obtain ⟨q, o2, o3, rfl, hq, hq2, sm⟩ := h
    rw [hlp, Zyv] at hq2
    refine ⟨q, _, _, _, rfl, hq, ?_, sm⟩
    rw [hq2]
    refine congrArg (λz => some (HO.lst (Zxy V.int z))) (Ch λd _ => ?_)
    rw [E7 _ ht]
    unfold pAt
    omega
  ·obtain ⟨q, o1, o2, o3, rfl, hq, hq2, sm⟩ := h
   walk_at "rd"
   rw [hl, Zyv] at hq2
   exact k q H2 hq hq2 sm
end
set_option maxHeartbeats 4000000
section
variable {P : Program} {w : World} {K : Zzu} {mg : Str -> Option Value} {base : Heap} {f : Addr} {fd : FuncData} {c : Cl} {Pt Pu : Addr}
def Qz (ns : List Int) (j : Nat) : Int := (ns.take j).sum
def cum (ns : List Int) (n : Nat) : List Int := (Zyy n).map λj => Qz ns (j + 1)
theorem Jt {ns : List Int} {i : Nat} {c : Int} (h : ns[i]? = some c) : Qz ns (i + 1) = Qz ns i + c := by
 unfold Qz
 rw [Zz8, h, Zxg]
 simp
theorem Zg (ns : List Int) (n : Nat) : cum ns (n + 1) = cum ns n ++ [Qz ns (n + 1)] := by
 unfold cum
 rw [Zwl, Zzg]
 rfl
theorem dz (ns : List Int) (n : Nat) : (cum ns n).length = n := by simp [cum]
def jw (r p : Addr) (ns : List Int) (H : Hp) (i : Nat) (Z : St) (H' : Hp) : Prop := ∃ c : Option V, Z = [some (.ref r), some (.ref p), some (.int (Qz ns i)), c] /\ H' p = some (.lst ((cum ns i).map V.int)) /\ Same H H'
def sp_so_far : Sp := λvs H Q _ => ∃ (r : Addr) (ns : List Int), vs = [.ref r] /\ H r = some (.lst (ns.map V.int)) /\ ns.length <= 1000 /\ ∀ p H', H p = none -> H' p = some (.lst ((cum ns ns.length).map V.int)) -> Same H H' -> Q (.ref p) H'
theorem sc_so_far : Aj ["row", "told", "total", "number"] ["row"] (A9 Ge) := by walk_at "sc"
theorem W8 (F : Fun K "so_far" "so_far" Ge f fd) (T : Txt mg) (C : Exc K mg c) : FnOk P w K mg base CX0 1 f fd ["row"] sp_so_far := by
 refine F.ok sc_so_far (λvs H Q E h => ?_) (λcdv A outer s H vs Q E hr h => ?_)
 ·obtain ⟨r, ns, rfl, _⟩ := h
  rfl
 ·obtain ⟨r, ns, rfl, hr0, hl, k⟩ := h
  have hu := Bc hr
  refine ⟨_, (A1 (Ae (i := 1) sc_so_far.nd rfl (Zzt rfl) (Bt A2))
 (A1 (Ae (i := 2) sc_so_far.nd rfl (Zzt rfl) A8)
 (A1 (B3 PassesOwn.never rfl (Ft (pv 0)) (Ac (i := 3) sc_so_far.nd rfl (Zzt rfl))
 (A1 (Hc (i := 2) sc_so_far.nd rfl (Zzt rfl) (pv 3) Es)
 (Aa (Ce (G3 Zyw Zyt Zys C8 (pv 1) (A6 (pv 2) A2))))))
 (Aa (Ak (pv 1)))))), ?_⟩
  walk_at "rd"
  refine ⟨Zyn _, λp hp => ⟨_, by rw [A3 (A5 hr0 hp)]; exact hr0, ?_⟩⟩
  refine Cb (Gx r _) (jw r p ns H) ⟨_, rfl, A0, A4 hp⟩ (λi Z H' _ h => by obtain ⟨_, _, _, s⟩ := h; exact s _ _ hr0) (λi x Z H' hi hx h => ?_) (λZ H' h => ?_)
  ·obtain ⟨c, rfl, h1, sm⟩ := h
   have hi' : i < ns.length := by simpa using hi
   rw [Zzx] at hx
   cases ec : ns[i]? with
   | none => rw [ec] at hx; cases hx
   | some c =>
   rw [ec] at hx
   cases hx
   walk_at "rd"
   refine ⟨Dc h1, _, h1, Zyq (m := 1000) (by rw [Zzz, dz]; omega) (by decide), ?_⟩
   refine ⟨_, by rw [Jt ec], ?_, λb o hb => ?_⟩
   ·rw [A0, Zg, Zzg, Jt ec]; rfl
   ·rw [A3 (A5 hb hp)]; exact sm b o hb
  ·obtain ⟨c, rfl, h1, sm⟩ := h
   walk_at "rd"
   rw [Zzz] at h1
   exact k p H' hp h1 sm
theorem Qy {n : Nat} {f : Nat -> Int} : ∀ {d : Nat}, d <= n -> Qz (Af n f) d = upS f d
 | 0, _ => by simp [Qz, upS]
 | d + 1, h => by rw [Jt (Bg (by omega)), Qy (by omega), upS]
theorem dy {n : Nat} {f : Nat -> Int} : cum (Af n f) (Af n f).length = Af n λd => upS f (d + 1) := by
 rw [Al]
 unfold cum
 show _ = (Zyy n).map _
 apply Zy2
 intro d hd
 exact Qy (by have := Zy8.mp hd; omega)
def sp_arrivals_row : Sp := λvs H Q _ => ∃ (v x : V) (S : Sh) (w : Wr) (sz : Int), vs = [v, x] /\ RD H S.d v /\ RD H w.d x /\ Good sz S /\ 0 < sz /\ sz <= 1000 /\ w.coming.length <= 1000 /\ (∀ p ∈ w.coming, 0 <= p.1) /\ ∀ p H', H p = none -> H' p = some (.lst ((Af (daysN S) (Df w)).map V.int)) -> Same H H' -> Q (.ref p) H'
def jz (v x : V) (p : Addr) (S : Sh) (w : Wr) (H : Hp) (i : Nat) (Z : St) (H' : Hp) : Prop := ∃ o1 o2 : Option V, Z = [some v, some x, some (.ref p), o1, o2] /\ H' p = some (.lst ((Af (daysN S) λd => (if d = 0 then w.stock else 0) + Cc (cAt d) (w.coming.take i)).map V.int)) /\ Same H H'
theorem sc_arrivals_row : Aj ["shop", "ware", "told", "day", "amount"] ["shop", "ware"] (A9 Cg) := by walk_at "sc"
theorem Kz (F : Fun K "arrivals_row" "arrivals_row" Cg f fd) (T : Txt mg) (C : Exc K mg c) (Zuq : Has P w K mg base "count_days" 1 ["shop"] sp_count_days) : FnOk P w K mg base CX0 2 f fd ["shop", "ware"] sp_arrivals_row := by
 refine F.ok sc_arrivals_row (λvs H Q E h => ?_) (λcdv A outer s H vs Q E hr h => ?_)
 ·obtain ⟨v, x, S, w, sz, rfl, _⟩ := h
  rfl
 ·obtain ⟨v, x, S, w, sz, rfl, rs, rx, g, z0, z1, hcl, hcd, k⟩ := h
  have hu := Bc hr
  obtain ⟨n1, n2, n3, n4⟩ := g.days z0 z1
  refine ⟨_, (A1 (Ae (i := 2) sc_arrivals_row.nd rfl (Zzt rfl) (An Pl (Bt (A6 A8 A2)) (Ab Zuq hr.z rfl (A6 (pv 0) A2))))
 (A1 (Ek (A7 hu (pv 1) (Aq rfl T.Ztc) (λ_ _ => rfl)) (Fu (pv 2) A8 Fp))
 (A1 (B3 PassesOwn.never rfl (Dw (A7 hu (pv 1) (Aq rfl T.Ztw) (λ_ _ => rfl))) (Dx (n := 2) rfl (As (Ac (i := 3) sc_arrivals_row.nd rfl (Zzt rfl)) (As (Ac (i := 4) sc_arrivals_row.nd rfl (Zzt rfl)) Cw)))
 (Aa (Bm (Ai (K4 hu) (pv 3) (Ag B4 rfl T.Zve Co (A6 (pv 2) A2)) (Ar _)) (Aa (L6 (pv 2) (pv 3) V2 (pv 4) Es Fp)) At)))
 (Aa (Ak (pv 2)))))), ?_⟩
  obtain ⟨xe, c1, c2, rfl, hxe, rc, _⟩ := C3 rx
  obtain ⟨cb, cv, rfl, hcb, rcv⟩ := RD.tup_of rc
  have hl := Ax rcv
  walk_at "rd"
  refine ⟨by decide, λp0 hp0 => ?_⟩
  have u0 := A4 (o := .lst [V.int 0]) hp0
  refine ⟨v, S, rfl, RD.same u0 _ _ rs, by have := g.wants.1; omega, λH1 sm1 => ?_⟩
  have h01 := sm1 p0 _ A0
  have sm01 := u0.trans sm1
  rw [<- n3]
  refine ⟨_, rfl, _, h01, by omega, by omega, by rw [Zwt]; exact Ao (by omega), λp hp => ?_⟩
  have u1 := sm01.trans (A4 (o := .lst ((Af (daysN S) λ_ => 0).map V.int)) hp)
  have en : ((daysN S : Nat) : Int).toNat = daysN S := by omega
  rw [en, J8]
  have fp : H p = none := Same.free sm01 hp
  refine ⟨_, Ad (j := 4) (u1 _ _ hxe) rfl, _, A0, 0, ?_, ?_⟩
  ·rw [Zzz, Al]
   unfold ixN
   rw [if_pos (by decide), if_pos (by omega)]
   rfl
  have kx : ∀ {b : Addr} {o o' o2 : HO}, H b = some o -> upd (upd H1 p o') p o2 b = some o := λ{b o o' o2} hb => by rw [A3 (A5 hb fp), A3 (A5 hb fp)]; exact sm01 b o hb
  refine ⟨_, Ad (j := 5) (kx hxe) rfl, cb, rfl, cv, kx hcb, ?_⟩
  refine Cb (G5 cb _) (jz v (.ref xe) p S w H) ⟨_, _, rfl, ?_, λb o hb => kx hb⟩ (λi Z H' _ h => by obtain ⟨_, _, _, _, s⟩ := h; exact s _ _ hcb) (λi y Z H2 hi hy h => ?_) (λZ H2 h => ?_)
  ·rw [A0, <- List.map_set, Jx]
   exact congrArg (λz => some (HO.lst (Zxy V.int z))) (Ch λd _ => by rw [Zwd, Iz, Zy6])
  ·obtain ⟨o1, o2, rfl, hp2, sm⟩ := h
   obtain ⟨u, hu', ru⟩ := C4 rcv hy
   obtain ⟨e, rfl, he⟩ := jp ru
   refine gt2 (sm _ _ he) ?_
   have hd0 := hcd u (Zzn hu')
   walk_at "rd"
   refine ⟨_, .inl hp2, Ey (λhz => ?_) (λhz => ?_)⟩
   ·have hz := of_decide_eq_true hz
    rw [Zzz, Al] at hz
    have hd : u.1.toNat < daysN S := by omega
    refine ⟨_, hp2, hd0, _, by rw [Zzx, Bg hd]; rfl, _, rfl, _, hp2, u.1.toNat, ?_, ?_⟩
    ·rw [Zzz, Al]
     unfold ixN
     rw [if_pos hd0, if_pos (by omega)]
    ·refine ⟨_, _, rfl, ?_, λb' o' hb' => by rw [A3 (A5 hb' fp)]; exact sm b' o' hb'⟩
     rw [A0, <- List.map_set, Jx]
     refine congrArg (λz => some (HO.lst (Zxy V.int z))) (Ch λd _ => ?_)
     rw [E7 _ hu']
     unfold cAt
     by_cases e1 : d = u.1.toNat
     ·subst e1
      rw [if_pos rfl, if_pos (c := u.1 = _) (by omega)]
      omega
     ·rw [if_neg e1, if_neg (c := u.1 = _) (λq => e1 (by omega)), Zy6]
   ·have hz : ¬ u.1 < (daysN S : Int) := λq => hz (decide_eq_true (by rw [Zzz, Al]; exact q))
    refine ⟨_, _, rfl, ?_, sm⟩
    rw [hp2]
    refine congrArg (λz => some (HO.lst (Zxy V.int z))) (Ch λd hd => ?_)
    rw [E7 _ hu']
    unfold cAt
    rw [if_neg (c := u.1 = _) (λq => hz (by omega)), Zy6]
  ·obtain ⟨o1, o2, rfl, hp2, sm⟩ := h
   walk_at "rd"
   rw [hl, Zyv] at hp2
   exact k p H2 fp hp2 sm
def sp_stocks_row : Sp := λvs H Q _ => ∃ (v : V) (a : Addr) (x : V) (S : Sh) (plan : Str -> List Int) (w : Wr) (sz : Int), vs = [v, .ref a, x] /\ RD H S.d v /\ PlanAt H a S plan /\ RD H w.d x /\ w ∈ S.wares /\ Good sz S /\ 0 < sz /\ sz <= 1000 /\ ∀ p H', H p = none -> H' p = some (.lst ((Fo S plan w).map V.int)) -> Same H H' -> Q (.ref p) H'
def jy (v : V) (a : Addr) (x : V) (p : Addr) (S : Sh) (plan : Str -> List Int) (w : Wr) (H1 : Hp) (i : Nat) (Z : St) (H' : Hp) : Prop := ∃ o1 o2 o3 : Option V, Z = [some v, some (.ref a), some x, some (.ref p), o1, o2, o3] /\ i <= daysN S /\ H' p = some (.lst ((Af i (Tz S plan w)).map V.int)) /\ ∀ b o, b ≠ p -> H1 b = some o -> H' b = some o
theorem sc_stocks_row : Aj ["shop", "plan", "ware", "changes", "comes", "lots", "goes"] ["shop", "plan", "ware"] (A9 D3) := by walk_at "sc"
theorem N7 (F : Fun K "stocks_row" "stocks_row" D3 f fd) (T : Txt mg) (C : Exc K mg c) (Zuk : Has P w K mg base "needs_row" 3 ["shop", "plan", "ware"] sp_needs_row) (Zvd : Has P w K mg base "arrivals_row" 2 ["shop", "ware"] sp_arrivals_row) (Zsz : Has P w K mg base "so_far" 1 ["row"] sp_so_far) : FnOk P w K mg base CX0 4 f fd ["shop", "plan", "ware"] sp_stocks_row := by
 refine F.ok sc_stocks_row (λvs H Q E h => ?_) (λcdv A outer s H vs Q E hr h => ?_)
 ·obtain ⟨v, a, x, S, plan, w, sz, rfl, _⟩ := h
  rfl
 ·obtain ⟨v, a, x, S, plan, w, sz, rfl, rs, pl, rx, hm, g, z0, z1, k⟩ := h
  have hu := Bc hr
  obtain ⟨n1, n2, n3, n4⟩ := g.days z0 z1
  have wb := g.ws.wb w hm
  refine ⟨_, (A1 (Ae (i := 3) sc_stocks_row.nd rfl (Zzt rfl) (Bt A2))
 (A1 (B3 PassesOwn.never rfl (bj rfl T.Zsu (A6 (Ab Zvd hr.z rfl (A6 (pv 0) (A6 (pv 2) A2))) (A6 (A7 hu (pv 1) (A7 hu (pv 2) (Aq rfl T.Zv0) (λ_ _ => rfl)) (λ_ _ => rfl)) (A6 (Ab Zuk hr.z rfl (A6 (pv 0) (A6 (pv 1) (A6 (pv 2) A2)))) A2)))) (Dx (n := 3) rfl (As (Ac (i := 4) sc_stocks_row.nd rfl (Zzt rfl)) (As (Ac (i := 5) sc_stocks_row.nd rfl (Zzt rfl)) (As (Ac (i := 6) sc_stocks_row.nd rfl (Zzt rfl)) Cw))))
 (Aa (Ce (G3 Zyw Zyt Zys C8 (pv 3) (A6 (An Gn (An Bi (pv 4) (An Dz (A7 hu (pv 2) (Aq rfl T.Zu3) (λ_ _ => rfl)) (pv 5))) (pv 6)) A2)))))
 (Aa (Ak (Ab Zsz hr.z rfl (A6 (pv 3) A2)))))), ?_⟩
  obtain ⟨xe, c1, c2, rfl, hxe, _⟩ := C3 rx
  obtain ⟨kvs, hkv, hpl⟩ := id pl
  obtain ⟨l, hv, hll, hlen, hbd⟩ := hpl w.name (Zzl.mpr ⟨w, hm, rfl⟩)
  walk_at "rd"
  refine ⟨Zyn _, λp hp => ?_⟩
  have u0 := A4 (o := .lst []) hp
  have hcom := g.com w hm
  refine ⟨v, .ref xe, S, w, sz, rfl, RD.same u0 _ _ rs, RD.same u0 _ _ rx, g, z0, z1, by have := hcom.1; omega, λq hq => (hcom.2 q hq).1.1, λq1 H1 hq1 hq2 sm1 => ?_⟩
  have s01 := u0.trans sm1
  refine ⟨_, Ad (j := 0) (s01 _ _ hxe) rfl, _, Hk (hkv.same s01) hv, ?_⟩
  refine ⟨v, a, .ref xe, S, plan, w, sz, rfl, RD.same s01 _ _ rs, (pl.same s01).for _, RD.same s01 _ _ rx, g, z0, z1, λq2 H2 hq3 hq4 sm2 => ?_⟩
  have s02 := s01.trans sm2
  have hp2 : H2 p = some (.lst []) := sm2 _ _ (sm1 _ _ A0)
  refine ⟨q1, rfl, l, rfl, q2, rfl, _, sm2 _ _ hq2, _, s02 _ _ hll, _, hq4, ?_⟩
  have lz : min ((Af (daysN S) (Df w)).map V.int).length (min ((plan w.name).map V.int).length ((Bb S plan w.name).map V.int).length) = daysN S := by
   rw [Zzz, Zzz, Zzz, Al, hlen]
   unfold Bb
   rw [Al, Nat.min_self, Nat.min_self]
  have G := ji q1 l q2 ((Af (daysN S) (Df w)).map V.int) ((plan w.name).map V.int) ((Bb S plan w.name).map V.int)
  rw [lz] at G
  have q1p : q1 ≠ p := λe => by rw [e, A0] at hq1; cases hq1
  have lp : l ≠ p := A5 hll hp
  have q2p : q2 ≠ p := λe => by rw [e, sm1 _ _ A0] at hq3; cases hq3
  have xp : xe ≠ p := A5 hxe hp
  refine Op G (jy v a (.ref xe) p S plan w H2) ⟨_, _, _, rfl, Zyn _, hp2, λb o _ h => h⟩ (λi Z H' _ h => by obtain ⟨_, _, _, _, _, _, s⟩ := h; exact ⟨s _ _ q1p (sm2 _ _ hq2), s _ _ lp (s02 _ _ hll), s _ _ q2p hq4⟩) (λi ys pt Z H3 hi hys h hpt => ?_) (λZ H3 h => ?_)
  ·obtain ⟨o1, o2, o3, rfl, hi', hp3, kp⟩ := h
   obtain ⟨y1, y2, y3, e1, e2, e3, rfl⟩ := hys
   have ep : (plan w.name)[i]? = some ((plan w.name).getD i 0) := by
    rw [Zzv, Zzq (by omega)]
    rfl
   rw [Zzx, Bg hi] at e1
   cases e1
   rw [Zzx, ep] at e2
   cases e2
   unfold Bb at e3
   rw [Zzx, Bg hi] at e3
   cases e3
   have hb := hbd _ (Zzn ep)
   have hg := wb.gives
   refine gT3 ?_
   walk_at "rd"
   have pp : p ≠ pt := A5 hp3 hpt
   have kx : upd H3 pt (.tup [V.int (Df w i), V.int ((plan w.name).getD i 0), V.int (Ew S plan w.name i)]) xe = some (.tup [V.str w.name, V.int w.lag, V.int w.gives, V.int w.floor, V.int w.stock, c1, c2]) := by
    rw [A3 (A5 (kp _ _ xp (s02 _ _ hxe)) hpt)]
    exact kp _ _ xp (s02 _ _ hxe)
   have hp4 : upd H3 pt (.tup [V.int (Df w i), V.int ((plan w.name).getD i 0), V.int (Ew S plan w.name i)]) p = some (.lst ((Af i (Tz S plan w)).map V.int)) := by
    rw [A3 pp]
    exact hp3
   refine ⟨Dc hp4, _, Ad (j := 2) kx rfl, _, rfl, .inl (.inl ⟨by omega, by omega⟩), _, hp4, ?_, _, _, _, rfl, hi, ?_, λb o nb hb => ?_⟩
   ·rw [Zzz, Al]
    exact Zyq (m := 1000) (by omega) (by decide)
   ·rw [A0, Fq, Zzg]
    rfl
   ·rw [A3 nb, A3 (A5 (kp _ _ nb hb) hpt)]
    exact kp _ _ nb hb
  ·obtain ⟨o1, o2, o3, rfl, hi', hp3, kp⟩ := h
   walk_at "rd"
   refine ⟨p, Af (daysN S) (Tz S plan w), rfl, hp3, by rw [Al]; exact n2, λr H4 hr hr4 sm4 => ?_⟩
   have sm04 : Same H H4 := λb o hb => sm4 _ _ (kp _ _ (A5 hb hp) (s02 _ _ hb))
   refine k r H4 ?_ ?_ sm04
   ·cases e : H r with
    | none => rfl
    | some o =>
     rw [kp _ _ (A5 e hp) (s02 _ _ e)] at hr
     cases hr
   ·rw [hr4, dy]
    rfl
end
set_option maxHeartbeats 4000000
section
variable {P : Program} {w : World} {K : Zzu} {mg : Str -> Option Value} {base : Heap} {f : Addr} {fd : FuncData} {c : Cl} {Pt Pu : Addr}
def sp_lots_for : Sp := λvs H Q _ => ∃ m g, vs = [.int m, .int g] /\ 0 < g /\ g < 10 ^ 200 /\ Q (.int (Bv m g)) H
theorem R7 : Aj ["amount", "gives"] ["amount", "gives"] (A9 Ea) := by walk_at "sc"
theorem Rf (F : Fun K "lots_for" "lots_for" Ea f fd) (T : Txt mg) (C : Exc K mg c) : FnOk P w K mg base CX0 1 f fd ["amount", "gives"] sp_lots_for := by
 refine F.ok R7 (λvs H Q E h => ?_) (λcdv A outer s H vs Q E hr h => ?_)
 ·obtain ⟨m, g, rfl, _⟩ := h
  rfl
 ·obtain ⟨m, g, rfl, h0, h1, k⟩ := h
  have hu := Bc hr
  refine ⟨_, (Aa (Ak (Ag (Ke rfl) rfl T.Zsv Ql (A6 A8 (A6 (Oc Ju (An Hh (Oc Ju (pv 0)) (pv 1))) A2))))), ?_⟩
  walk_at "rd"
  exact ⟨h0, h1, k⟩
theorem Gj {sz : Int} {S : Sh} (g : Good sz S) : ae S where
 nd := g.ws.nd
 own := g.ws.own
 low := g.ws.low
 ok := g.ok
 few := by have := g.len.2; omega
theorem Ia {sz : Int} {S : Sh} (g : Good sz S) : U6 S where
 wb := λw hw => by
  have b := g.ws.wb w hw
  exact ⟨⟨b.gives.1, Zxs b.gives.2 (by decide +kernel)⟩, ⟨b.floor.1, Zxs b.floor.2 (by decide +kernel)⟩, b.stock.1, b.parts, λp hp => ⟨(b.amts p hp).1, Zxs (b.amts p hp).2 (by decide +kernel)⟩⟩
 com := λw hw p hp => ((g.com w hw).2 p hp).2.1
 few := g.len.2
 wt := ⟨g.wants.1, λu hu => ⟨(g.wants.2 u hu).2.2.1, Zxs (Int.le_of_lt (g.wants.2 u hu).2.2.2) (by decide +kernel)⟩⟩
theorem Hz {xs : List Int} {i : Nat} {y : V} (h : (xs.map V.int)[i]? = some y) : y = .int (xs.getD i 0) := by
 rw [Zzx] at h
 rw [Zzv]
 cases e : xs[i]? with
 | none => rw [e] at h; cases h
 | some x => rw [e] at h; cases h; rfl
theorem Vm {S : Sh} (nd : (S.wares.map (·.name)).Nodup) {a b : Wr} (h1 : a ∈ S.wares) (h2 : b ∈ S.wares) (e : a.name = b.name) : a = b := by
 have := Lf nd h1
 rw [e, Lf nd h2] at this
 exact (Zza this).symm
def af (a b p : Addr) (g f : Int) (xs ys : List Int) (H : Hp) (i : Nat) (Z : St) (H' : Hp) : Prop := ∃ c d e : Option V, Z = [some (.ref a), some (.ref b), some (.int g), some (.int f), some (.ref p), some (.int (above f g xs ys i)), c, d, e] /\
 H' p = some (.lst ((lots f g xs ys i).map V.int)) /\ Same H H'
def sp_least_lots : Sp := λvs H Q _ => ∃ (a b : Addr) (g f : Int) (xs ys : List Int), vs = [.ref a, .ref b, .int g, .int f] /\ H a = some (.lst (xs.map V.int)) /\ H b = some (.lst (ys.map V.int)) /\ ys.length = xs.length /\ xs.length <= 1000 /\
 0 < g /\ g < 10 ^ 200 /\ (∀ i, i < xs.length -> CMulB g (G4 f g xs ys i)) /\ ∀ p H', H p = none -> H' p = some (.lst ((lots f g xs ys xs.length).map V.int)) -> Same H H' -> Q (.ref p) H'
theorem sc_least_lots : Aj ["have", "need", "gives", "floor", "told", "above_floor", "comes", "goes", "lots"] ["have", "need", "gives", "floor"] (A9 D5) := by walk_at "sc"
theorem N9 (F : Fun K "least_lots" "least_lots" D5 f fd) (T : Txt mg) (C : Exc K mg c) (Zt8 : Has P w K mg base "lots_for" 1 ["amount", "gives"] sp_lots_for) : FnOk P w K mg base CX0 2 f fd ["have", "need", "gives", "floor"] sp_least_lots := by
 refine F.ok sc_least_lots (λvs H Q E h => ?_) (λcdv A outer s H vs Q E hr h => ?_)
 ·obtain ⟨a, b, g, f, xs, ys, rfl, _⟩ := h
  rfl
 ·obtain ⟨a, b, g, fl, xs, ys, rfl, ha, hb, hl, hn, g0, g200, hm, k⟩ := h
  have hu := Bc hr
  refine ⟨_, (A1 (Ae (i := 4) sc_least_lots.nd rfl (Zzt rfl) (Bt A2))
 (A1 (Ae (i := 5) sc_least_lots.nd rfl (Zzt rfl) (Oc Ju (pv 3)))
 (A1 (B3 PassesOwn.never rfl (L7 rfl T.Zsu (A6 (pv 0) (A6 (pv 1) A2))) (Dx (n := 2) rfl (As (Ac (i := 6) sc_least_lots.nd rfl (Zzt rfl)) (As (Ac (i := 7) sc_least_lots.nd rfl (Zzt rfl)) Cw)))
 (A1 (Hc (i := 5) sc_least_lots.nd rfl (Zzt rfl) (An Gn (pv 6) (pv 7)) Es)
 (A1 (Ae (i := 8) sc_least_lots.nd rfl (Zzt rfl) (Ab Zt8 hr.z rfl (A6 (Oc Ju (pv 5)) (A6 (pv 2) A2))))
 (A1 (Hc (i := 5) sc_least_lots.nd rfl (Zzt rfl) (An Dz (pv 2) (pv 8)) Es)
 (Aa (Ce (G3 Zyw Zyt Zys C8 (pv 4) (A6 (pv 8) A2))))))))
 (Aa (Ak (pv 4)))))), ?_⟩
  walk_at "rd"
  refine ⟨Zyn _, λp hp => ⟨_, by rw [A3 (A5 ha hp)]; exact ha, _, by rw [A3 (A5 hb hp)]; exact hb, ?_⟩⟩
  have en : min (xs.map V.int).length (ys.map V.int).length = xs.length := by rw [Zzz, Zzz]; omega
  refine Op (Qf a b _ _) (af a b p g fl xs ys H) ⟨_, _, _, rfl, A0, A4 hp⟩ (λi Z H' _ h => by obtain ⟨_, _, _, _, _, s⟩ := h; exact ⟨s _ _ ha, s _ _ hb⟩) (λi us t Z H' hi hy h ht => ?_) (λZ H' h => ?_)
  ·obtain ⟨c, d, e, rfl, h1, sm⟩ := h
   obtain ⟨y, z, ey, ez, rfl⟩ := hy
   have hy := Hz ey
   have hz := Hz ez
   subst hy hz
   refine gT2 ?_
   walk_at "rd"
   refine ⟨_, _, rfl, g0, g200, ?_⟩
   have eL : Bv (-(above fl g xs ys i + (xs.getD i 0 - ys.getD i 0))) g = G4 fl g xs ys i := rfl
   rw [eL]
   have hp' : upd H' t (.tup [.int (xs.getD i 0), .int (ys.getD i 0)]) p = some (.lst ((lots fl g xs ys i).map V.int)) := by rw [A3 (A5 h1 ht)]; exact h1
   walk_at "rd"
   refine ⟨hm i (by omega), Dc hp', _, hp', Zyq (m := 1000) (by rw [Zzz, Rt]; omega) (by decide), ?_⟩
   refine ⟨_, _, _, rfl, ?_, λb' o hb' => ?_⟩
   ·rw [A0, Wm, Zzg]; rfl
   ·rw [A3 (A5 hb' hp)]
    exact (sm.trans (A4 ht)) b' o hb'
  ·obtain ⟨c, d, e, rfl, h1, sm⟩ := h
   walk_at "rd"
   rw [en] at h1
   exact k p H' hp h1 sm
def dayV : Option Nat -> V
 | some d => .int d
 | none => .non
def sp_first_early : Sp := λvs H Q _ => ∃ (a : Addr) (row : List Int) (lag : Int), vs = [.ref a, .int lag] /\ H a = some (.lst (row.map V.int)) /\ row.length <= 1000 /\ ∀ H', Same H H' -> Q (dayV (Bo row lag)) H'
def ak (a : Addr) (lag : Int) (row : List Int) (H : Hp) (i : Nat) (Z : St) (H' : Hp) : Prop := ∃ c d : Option V, Z = [some (.ref a), some (.int lag), c, d] /\ E1 row lag i = none /\ Same H H'
theorem sc_first_early : Aj ["lots", "lag", "day", "count"] ["lots", "lag"] (A9 Cr) := by walk_at "sc"
theorem M0 (F : Fun K "first_early" "first_early" Cr f fd) (T : Txt mg) (C : Exc K mg c) : FnOk P w K mg base CX0 1 f fd ["lots", "lag"] sp_first_early := by
 refine F.ok sc_first_early (λvs H Q E h => ?_) (λcdv A outer s H vs Q E hr h => ?_)
 ·obtain ⟨a, row, lag, rfl, _⟩ := h
  rfl
 ·obtain ⟨a, row, lag, rfl, ha, hl, k⟩ := h
  have hu := Bc hr
  refine ⟨_, (A1 (B3 PassesOwn.never rfl (Pj rfl T.Ztn (A6 (pv 0) A2)) (Dx (n := 2) rfl (As (Ac (i := 2) sc_first_early.nd rfl (Zzt rfl)) (As (Ac (i := 3) sc_first_early.nd rfl (Zzt rfl)) Cw)))
 (Aa (Bm (PW.pt (Jz (Ai (K4 hu) (pv 2) (pv 1) (Ar _)) (Hv (Ai Km (pv 3) A8 (Ar _))))) (Aa (Ak (pv 2))) At)))
 (Aa (Ak Cz))), ?_⟩
  walk_at "rd"
  refine ⟨_, ha, ?_⟩
  refine Op (Z4 a _) (ak a lag row H) ⟨_, _, rfl, rfl, Same.refl _⟩ (λi Z H' _ h => by obtain ⟨_, _, _, _, s⟩ := h; exact s _ _ ha) (λi us t Z H' hi hy h ht => ?_) (λZ H' h => ?_)
  ·obtain ⟨c, d, rfl, hn, sm⟩ := h
   obtain ⟨y, ey, rfl⟩ := hy
   have hy := Hz ey
   subst hy
   rw [Zzz] at hi
   have s2 := sm.trans (A4 (o := .tup [.int i, .int (row.getD i 0)]) ht)
   have es : E1 row lag (i + 1) = if (i : Int) < lag /\ 0 < row.getD i 0 then some i else none := by rw [E1, hn]
   refine gT2 ?_
   walk_at "rd"
   refine Ey (λh1 => Ey (λh2 => ?_) (λh2 => ?_)) (λh1 => ?_)
   ·have h1 := of_decide_eq_true h1
    have h2 := of_decide_eq_true h2
    rw [if_pos ⟨h1, h2⟩] at es
    have e : Bo row lag = some i := Tr es (by omega)
    have := k _ s2
    rw [e] at this
    exact this
   ·exact ⟨_, _, rfl, by rw [es, if_neg (λc => h2 (decide_eq_true c.2))], s2⟩
   ·exact ⟨_, _, rfl, by rw [es, if_neg (λc => h1 (decide_eq_true c.1))], s2⟩
  ·obtain ⟨c, d, rfl, hn, sm⟩ := h
   rw [Zzz] at hn
   walk_at "rd"
   have := k _ sm
   unfold Bo at this
   rw [hn] at this
   exact this
def nw (kvs : List (Key × V)) (l : List Str) : Prop := ∀ nm ∈ l, ∀ nm' ∈ l, ∀ q : Addr, Br kvs (.inr nm) = some (.ref q) -> Br kvs (.inr nm') = some (.ref q) -> nm = nm'
def Zz (H H' : Hp) (a : Addr) (S : Sh) (l : List Str) : Prop := ∃ kvs, H' a = some (.dK kvs) /\ kvs.map (·.1) = l.map Zxx /\ (∀ nm ∈ l, ∃ q : Addr, H q = none /\ q ≠ a /\ Br kvs (.inr nm) = some (.ref q) /\ H' q = some (.lst ((LR S nm).map V.int))) /\ nw kvs l
def Il (Pt : Addr) : Sp := λvs H Q _ => ∃ (v : V) (S : Sh) (sz : Int), vs = [v] /\ RD H S.d v /\ Good sz S /\ 0 < sz /\ sz <= 1000 /\ Tb H Pt /\ ∀ (t p : Addr) (ys : List Str) (i : Nat) (H' : Hp), H t = none -> H p = none -> t ≠ p -> P5 (lv S) (Bu S) ys -> Zz H H' p S (ys.take i) -> (∀ w ∈ S.wares, w.name ∈ ys.take i -> Bo (LR S w.name) w.lag = none) -> Tb H' Pt -> But Pt H H' ->
 ((i = ys.length /\ H' t = some (.tup [.str "plan", .ref p])) \/ ∃ (w : Wr) (d : Nat), w ∈ S.wares /\ ys[i]? = some w.name /\ Bo (LR S w.name) w.lag = some d /\ H' t = some (.tup [.str "short", .ref p, .str w.name, .int d, .int ((LR S w.name).getD d 0)])) -> Q (.ref t) H'
def eh (v : V) (p : Addr) (S : Sh) (ys : List Str) (H H1 : Hp) (i : Nat) (Z : St) (H' : Hp) : Prop := ∃ o2 o3 o4 o5 : Option V, Z = [some v, some (.ref p), o2, o3, o4, o5] /\ Zz H H' p S (ys.take i) /\ (∀ w ∈ S.wares, w.name ∈ ys.take i -> Bo (LR S w.name) w.lag = none) /\ ∀ b o, b ≠ p -> H1 b = some o -> H' b = some o
theorem sc_planned : Aj ["shop", "plan", "name", "ware", "lots", "day"] ["shop"] (A9 Ff) := by walk_at "sc"
theorem Ta (F : Fun K "planned" "planned" Ff f fd) (T : Txt mg) (C : Exc K mg c) (Zsy : Has P w K mg base "worked" 6 ["shop"] (O8 Pt)) (Zu8 : Has P w K mg base "ware_of" 1 ["shop", "name"] sp_ware_of) (Ztt : Has P w K mg base "least_lots" 2 ["have", "need", "gives", "floor"] sp_least_lots) (Zuk : Has P w K mg base "needs_row" 3 ["shop", "plan", "ware"] sp_needs_row) (Zvd : Has P w K mg base "arrivals_row" 2 ["shop", "ware"] sp_arrivals_row) (Ztz : Has P w K mg base "first_early" 1 ["lots", "lag"] sp_first_early) : FnOk P w K mg base CX0 7 f fd ["shop"] (Il Pt) := by
 refine F.ok sc_planned (λvs H Q E h => ?_) (λcdv A outer s H vs Q E hr h => ?_)
 ·obtain ⟨v, S, sz, rfl, _⟩ := h
  rfl
 ·obtain ⟨v, S, sz, rfl, rs, g, z0, z1, tb, k⟩ := h
  have hu := Bc hr
  obtain ⟨n1, n2, n3, n4⟩ := g.days z0 z1
  refine ⟨_, (A1 (Ae (i := 1) sc_planned.nd rfl (Zzt rfl) Gh)
 (A1 (B3 PassesOwn.never rfl (Ft (Ab Zsy hr.z rfl (A6 (pv 0) A2))) (Ac (i := 2) sc_planned.nd rfl (Zzt rfl))
 (A1 (Ae (i := 3) sc_planned.nd rfl (Zzt rfl) (Ab Zu8 hr.z rfl (A6 (pv 0) (A6 (pv 2) A2))))
 (A1 (Ae (i := 4) sc_planned.nd rfl (Zzt rfl) (Ab Ztt hr.z rfl (A6 (Ab Zvd hr.z rfl (A6 (pv 0) (A6 (pv 3) A2))) (A6 (Ab Zuk hr.z rfl (A6 (pv 0) (A6 (pv 1) (A6 (pv 3) A2)))) (A6 (A7 hu (pv 3) (Aq rfl T.Zu3) (λ_ _ => rfl)) (A6 (A7 hu (pv 3) (Aq rfl T.Zte) (λ_ _ => rfl)) A2))))))
 (A1 (Ae (i := 5) sc_planned.nd rfl (Zzt rfl) (Ab Ztz hr.z rfl (A6 (pv 4) (A6 (A7 hu (pv 3) (Aq rfl T.Zto) (λ_ _ => rfl)) A2))))
 (A1 (Bm (Ai Gi (pv 5) Cz (Ar _)) (Aa (Ak (Dy (A6 Cm (A6 (pv 1) (A6 (pv 2) (A6 (pv 5) (A6 (A7 hu (pv 4) (pv 5) (λ_ _ => rfl)) A2)))))))) At)
 (Aa (Ek (pv 4) (Fu (pv 1) (pv 2) (Dv hu)))))))))
 (Aa (Ak (Dy (A6 Cm (A6 (pv 1) A2))))))), ?_⟩
  have L := Gj g
  have PL := Ia g
  have hfew := L.few
  walk_at "rd"
  intro p hp
  have u0 := A4 (o := .dK []) hp
  refine ⟨v, S, rfl, RD.same u0 _ _ rs, L, tb.same u0, λq ys H1 hq hq1 so sb tb1 bt1 => ⟨q, rfl, _, hq1, ?_⟩⟩
  have tb0 := tb.same u0
  have pPt : p ≠ Pt := λz => by obtain ⟨u, e⟩ := tb.at; rw [<- z, hp] at e; cases e
  have hp1 : H1 p = some (.dK []) := bt1 _ _ pPt A0
  have qp : q ≠ p := Ur hq1 hp1 (λz => by cases z)
  have hyl : ys.length = S.wares.length := by rw [so.1.length_eq, Go]
  have ndy : ys.Nodup := so.1.nodup_iff.mpr L.nd
  have so' : P6 (lv S) (S.wares.map (·.name)) ys := so
  have rs1 := RD.ku (Ue tb0 bt1) _ _ (Hx S) (RD.same u0 _ _ rs)
  have fresh : ∀ (H' : Hp) (b : Addr), (∀ b o, b ≠ p -> H1 b = some o -> H' b = some o) -> H' b = none -> b ≠ p -> H b = none := λH' b kp hb nb => by
   cases e : H b with
   | none => rfl
   | some o =>
    by_cases z : b = Pt
    ·obtain ⟨u, e2⟩ := tb1.at
     rw [z, kp _ _ (Zzf pPt) e2] at hb
     cases hb
    ·rw [kp _ _ nb (bt1 _ _ z (u0 _ _ e))] at hb
     cases hb
  have keepB : ∀ (H' : Hp), (∀ b o, b ≠ p -> H1 b = some o -> H' b = some o) -> But Pt H H' := λH' kp b o nb e => kp _ _ (A5 e hp) (bt1 _ _ nb (u0 _ _ e))
  have keepT : ∀ (H' : Hp), (∀ b o, b ≠ p -> H1 b = some o -> H' b = some o) -> Tb H' Pt := λH' kp => by
   rcases tb1 with e | ⟨c, e, e2⟩
   ·exact .inl (kp _ _ (Zzf pPt) e)
   ·exact .inr ⟨c, kp _ _ (Zzf pPt) e, kp _ _ (λz => by rw [z, hp1] at e2; cases e2) e2⟩
  refine Cb (Gx q _) (eh v p S ys H H1) ⟨_, _, _, _, rfl, ⟨[], hp1, rfl, (λnm hn => by cases hn), λnm hn => by cases hn⟩, (λw _ hn => by cases hn), λb o _ e => e⟩ (λi Z H' _ h => by obtain ⟨_, _, _, _, _, _, _, kp⟩ := h; exact kp _ _ qp hq1) (λi x Z H2 hi hx h => ?_) (λZ H2 h => ?_)
  ·obtain ⟨o2, o3, o4, o5, rfl, ⟨kvs, hp2, hks, hrow, hap⟩, hne, kp⟩ := h
   rw [Zzx] at hx
   cases en : ys[i]? with
   | none => rw [en] at hx; cases hx
   | some nm =>
   rw [en] at hx
   have hx : V.str nm = x := Zza hx
   subst hx
   have hny := Zzn en
   have hnm : nm ∈ S.wares.map (·.name) := so.1.mem_iff.mp hny
   have hil : i < ys.length := (Zzj.mp en).1
   have ku2 : KeepU H1 H2 := λb xs e => kp b _ (Ur e hp1 (λz => by cases z)) e
   have rs2 := RD.ku ku2 _ _ (Hx S) rs1
   walk_at "rd"
   refine ⟨v, S, nm, rfl, rs2, L.ok, hnm, λt wt hwt ewt rt => ?_⟩
   subst ewt
   have hcom := g.com wt hwt
   have wb := g.ws.wb wt hwt
   obtain ⟨te, d1, d2, rfl, hte, rc, rp⟩ := C3 rt
   refine ⟨v, .ref te, S, wt, sz, rfl, rs2, rt, g, z0, z1, by have := hcom.1; omega, λq hq => (hcom.2 q hq).1.1, λq1 H3 hq1' hq3 sm3 => ?_⟩
   have pf : PlanFor H3 p S (LR S) (Zw S wt.name) := ⟨kvs, .inl (sm3 _ _ hp2), λnm' hn' hT => by
    obtain ⟨u, hu', rfl, pp, hpp, e⟩ := hT
    obtain ⟨qr, _, _, hv, hl⟩ := hrow u.name (Xs L.toLev so' en hu' hpp e)
    exact ⟨qr, hv, sm3 _ _ hl, Mu L.toLev hu', λx hx => ⟨(Mv PL _ x hx).1, Zwg (Mv PL _ x hx).2 (by decide +kernel)⟩⟩⟩
   refine ⟨v, p, .ref te, S, LR S, wt, sz, rfl, RD.same sm3 _ _ rs2, pf, RD.same sm3 _ _ rt, g, z0, z1, λq2 H4 hq4 hq5 sm4 => ?_⟩
   have s24 := sm3.trans sm4
   have hte4 := s24 _ _ hte
   refine ⟨_, Ad (j := 2) hte4 rfl, _, Ad (j := 3) hte4 rfl, ?_⟩
   have lrq : lots wt.floor wt.gives (Af (daysN S) (Df wt)) (Bb S (LR S) wt.name) (Af (daysN S) (Df wt)).length = LR S wt.name := by rw [Al, <- ag L.toLev hwt]
   refine ⟨q1, q2, wt.gives, wt.floor, Af (daysN S) (Df wt), Bb S (LR S) wt.name, rfl, sm4 _ _ hq3, hq5, by unfold Bb; rw [Al, Al], by rw [Al]; exact n2, by have := wb.gives.1; omega, Int.lt_of_le_of_lt wb.gives.2 (by decide +kernel), λj hj => .inl (.inl ⟨by have := wb.gives.1; omega, by have := wb.gives.2; omega⟩), λr H5 hr5 hr6 sm5 => ?_⟩
   rw [lrq] at hr6
   have s25 := s24.trans sm5
   refine ⟨_, Ad (j := 1) (s25 _ _ hte) rfl, r, LR S wt.name, wt.lag, rfl, hr6, by rw [Mu L.toLev hwt]; exact n2, λH6 sm6 => ?_⟩
   have s26 := s25.trans sm6
   have hr7 := sm6 _ _ hr6
   have hp6 := s26 _ _ hp2
   have kp6 : ∀ b o, b ≠ p -> H1 b = some o -> H6 b = some o := λb o nb e => s26 _ _ (kp b o nb e)
   have rp : r ≠ p := λz => by rw [z, s24 _ _ hp2] at hr5; cases hr5
   have hr0 : H r = none := by
    have h2r : H2 r = none := Same.free s24 hr5
    exact fresh H2 r kp h2r rp
   have hrow6 : ∀ nm' ∈ ys.take i, ∃ q' : Addr, H q' = none /\ q' ≠ p /\ Br kvs (.inr nm') = some (.ref q') /\ H6 q' = some (.lst ((LR S nm').map V.int)) := λnm' hn' => by obtain ⟨q', e1, e2, e3, e4⟩ := hrow nm' hn'; exact ⟨q', e1, e2, e3, s26 _ _ e4⟩
   cases ea : Bo (LR S wt.name) wt.lag with
   | some d =>
    have hd := Ks ea
    have hdl : d < (LR S wt.name).length := hd.1
    have eg : (LR S wt.name)[d]? = some ((LR S wt.name).getD d 0) := by rw [Zzv, Zzq hdl]; rfl
    show if (!decide (V.int (d : Int) = V.non)) = true then _ else _
    rw [if_pos (by rw [decide_eq_false (λz => by cases z)]; rfl)]
    refine ⟨.int ((LR S wt.name).getD d 0), Gq hr7 (by rw [Zzx, eg]; rfl), by decide, λt ht => ?_⟩
    have tp : t ≠ p := λz => by rw [z, hp6] at ht; cases ht
    have u7 := A4 (o := .tup [.str "short", .ref p, .str wt.name, .int d, .int ((LR S wt.name).getD d 0)]) ht
    have kp7 : ∀ b o, b ≠ p -> H1 b = some o -> upd H6 t (.tup [.str "short", .ref p, .str wt.name, .int d, .int ((LR S wt.name).getD d 0)]) b = some o := λb o nb e => u7 _ _ (kp6 b o nb e)
    exact k t p ys i _ (fresh H6 t kp6 ht tp) hp tp sb ⟨kvs, u7 _ _ hp6, hks, λnm' hn' => by obtain ⟨q', e1, e2, e3, e4⟩ := hrow6 nm' hn'; exact ⟨q', e1, e2, e3, u7 _ _ e4⟩, hap⟩ hne (keepT _ kp7) (keepB _ kp7) (.inr ⟨wt, d, hwt, en, ea, A0⟩)
   | none =>
    show if (!decide (V.non = V.non)) = true then _ else _
    rw [if_neg (by decide)]
    have hkl : kvs.length <= 64 := by
     have := congrArg Zvu hks
     rw [Zzz, Zzz, Zz5] at this
     omega
    refine ⟨kvs, .inr wt.name, rfl, hp6, Zyq hkl (by decide), _, _, _, _, rfl, ⟨_, A0, ?_, λnm' hn' => ?_, λnm1 hn1 nm2 hn2 q1' v1 v2 => ?_⟩, λw' hw' hn' => ?_, λb o nb e => by rw [A3 nb]; exact kp6 b o nb e⟩
    ·have nn : Br kvs (.inr wt.name) = none := by
      cases e : Br kvs (.inr wt.name) with
      | none => rfl
      | some z =>
       have h3 := aq e
       rw [hks] at h3
       obtain ⟨y, hy, e2⟩ := Zzl.mp h3
       rw [Zwo e2] at hy
       exact absurd hy (Hs ndy en)
     rw [Ja _ nn, Zzg, hks, Zz8, en, Zzg]
     rfl
    ·rw [Zz8, en] at hn'
     rcases Zyu.mp hn' with z | z
     ·obtain ⟨q', e1, e2, e3, e4⟩ := hrow6 nm' z
      refine ⟨q', e1, e2, by rw [Gy, if_neg (λz2 => Hs ndy en (by rw [<- Zwo z2]; exact z))]; exact e3, by rw [A3 e2]; exact e4⟩
     ·have e : nm' = wt.name := by simpa using z
      subst e
      exact ⟨r, hr0, rp, by rw [Gy, if_pos rfl], by rw [A3 rp]; exact hr7⟩
    ·have old : ∀ nm' ∈ ys.take i, ∀ q' : Addr, Br (Ei kvs (.inr wt.name) (.ref r)) (.inr nm') = some (.ref q') -> Br kvs (.inr nm') = some (.ref q') /\ q' ≠ r := λnm' hn' q' e => by
      rw [Gy, if_neg (λz2 => Hs ndy en (by rw [<- Zwo z2]; exact hn'))] at e
      refine ⟨e, λz => ?_⟩
      obtain ⟨q2', _, _, e3, e4⟩ := hrow nm' hn'
      rw [e] at e3
      cases e3
      rw [z, Same.free s24 hr5] at e4
      cases e4
     have new : ∀ nm', nm' ∈ ys.take (i + 1) -> nm' ∈ ys.take i \/ nm' = wt.name := λnm' hn' => by
      rw [Zz8, en] at hn'
      rcases Zyu.mp hn' with z | z
      ·exact .inl z
      ·exact .inr (by simpa using z)
     rcases new nm1 hn1 with z1 | z1 <;> rcases new nm2 hn2 with z2 | z2
     ·exact hap nm1 z1 nm2 z2 q1' (old nm1 z1 q1' v1).1 (old nm2 z2 q1' v2).1
     ·rw [z2, Gy, if_pos rfl] at v2
      cases v2
      exact absurd rfl (old nm1 z1 _ v1).2
     ·rw [z1, Gy, if_pos rfl] at v1
      cases v1
      exact absurd rfl (old nm2 z2 _ v2).2
     ·rw [z1, z2]
    ·rw [Zz8, en] at hn'
     rcases Zyu.mp hn' with z | z
     ·exact hne w' hw' z
     ·have e : w'.name = wt.name := by simpa using z
      rw [Vm L.nd hw' hwt e]
      exact ea
  ·obtain ⟨o2, o3, o4, o5, rfl, hrow, hne, kp⟩ := h
   rw [Zzz] at hrow hne
   walk_at "rd"
   refine ⟨by decide, λt ht => ?_⟩
   obtain ⟨kvs, hp2, hks, hr2, hap⟩ := hrow
   have tp : t ≠ p := λz => by rw [z, hp2] at ht; cases ht
   have u7 := A4 (o := .tup [.str "plan", .ref p]) ht
   have kp7 : ∀ b o, b ≠ p -> H1 b = some o -> upd H2 t (.tup [.str "plan", .ref p]) b = some o := λb o nb e => u7 _ _ (kp b o nb e)
   exact k t p ys ys.length _ (fresh H2 t kp ht tp) hp tp sb ⟨kvs, u7 _ _ hp2, hks, λnm' hn' => by obtain ⟨q', e1, e2, e3, e4⟩ := hr2 nm' hn'; exact ⟨q', e1, e2, e3, u7 _ _ e4⟩, hap⟩ hne (keepT _ kp7) (keepB _ kp7) (.inl ⟨rfl, A0⟩)
def sp_stocks : Sp := λvs H Q _ => ∃ (v : V) (a : Addr) (S : Sh) (plan : Str -> List Int) (w : Wr) (sz : Int), vs = [v, .ref a, .str w.name] /\ RD H S.d v /\ PlanAt H a S plan /\ w ∈ S.wares /\ Good sz S /\ 0 < sz /\ sz <= 1000 /\ ∀ p H', H p = none -> H' p = some (.lst ((Fo S plan w).map V.int)) -> Same H H' -> Q (.ref p) H'
theorem Le {S : Sh} (nd : (S.wares.map (·.name)).Nodup) {w w' : Wr} (h : w ∈ S.wares) (h' : w' ∈ S.wares) (e : w.name = w'.name) : w = w' := by
 obtain ⟨i, hi, ei⟩ := Zx3.mp h
 obtain ⟨j, hj, ej⟩ := Zx3.mp h'
 have : (S.wares.map (·.name))[i]? = (S.wares.map (·.name))[j]? := by
  rw [Zzx, Zzx, Zzq hi, Zzq hj, ei, ej]
  show some w.name = some w'.name
  rw [e]
 have e2 := (Zwu (by rw [Zzz]; exact hi) nd).mp this
 subst e2
 rw [<- ei, <- ej]
theorem Vy : Aj ["shop", "plan", "name"] ["shop", "plan", "name"] (A9 Gd) := by walk_at "sc"
theorem W7 (F : Fun K "stocks" "stocks" Gd f fd) (T : Txt mg) (C : Exc K mg c) (Zvn : Has P w K mg base "check_rings" 4 ["shop"] sp_check_rings) (Zts : Has P w K mg base "stocks_row" 4 ["shop", "plan", "ware"] sp_stocks_row) (Zu8 : Has P w K mg base "ware_of" 1 ["shop", "name"] sp_ware_of) : FnOk P w K mg base CX0 5 f fd ["shop", "plan", "name"] sp_stocks := by
 refine F.ok Vy (λvs H Q E h => ?_) (λcdv A outer s H vs Q E hr h => ?_)
 ·obtain ⟨v, a, S, plan, w, sz, rfl, _⟩ := h
  rfl
 ·obtain ⟨v, a, S, plan, w, sz, rfl, rs, pl, hm, g, z0, z1, k⟩ := h
  have hu := Bc hr
  refine ⟨_, (A1 (Ce (Ab Zvn hr.z rfl (A6 (pv 0) A2)))
 (Aa (Ak (Ab Zts hr.z rfl (A6 (pv 0) (A6 (pv 1) (A6 (Ab Zu8 hr.z rfl (A6 (pv 0) (A6 (pv 2) A2))) A2))))))), ?_⟩
  walk_at "rd"
  refine ⟨v, S, rfl, rs, g.ok, g.no, λH1 sm1 => ?_⟩
  refine ⟨v, S, w.name, rfl, RD.same sm1 _ _ rs, g.ok, Zzl.mpr ⟨w, hm, rfl⟩, λx w' hw' en rx => ?_⟩
  have e := Le g.ws.nd hw' hm en
  subst e
  exact ⟨v, a, x, S, plan, w', sz, rfl, RD.same sm1 _ _ rs, pl.same sm1, rx, hm, g, z0, z1, λp H2 hp hp2 sm2 => k p H2 (Same.free sm1 hp) hp2 (sm1.trans sm2)⟩
end
set_option maxHeartbeats 4000000
section
variable {P : Program} {w : World} {K : Zzu} {mg : Str -> Option Value} {base : Heap} {f : Addr} {fd : FuncData} {c : Cl} {Pt Pu : Addr}
theorem e7 {S : Sh} (L : Lev S) {w : Wr} (hw : w ∈ S.wares) {i : Nat} (hi : i < daysN S) : Tz S (LR S) w i = (Af (daysN S) (Df w)).getD i 0 + w.gives * G4 w.floor w.gives (Af (daysN S) (Df w)) (Bb S (LR S) w.name) i - (Bb S (LR S) w.name).getD i 0 := by
 unfold Tz
 rw [Cy hi]
 have e1 : (LR S w.name).getD i 0 = G4 w.floor w.gives (Af (daysN S) (Df w)) (Bb S (LR S) w.name) i := by rw [ag L hw, Wn hi]
 have e2 : (Bb S (LR S) w.name).getD i 0 = Ew S (LR S) w.name i := by unfold Bb; rw [Cy hi]
 rw [e1, e2]
theorem Y0 {S : Sh} (L : Lev S) (E : U6 S) {w : Wr} (hw : w ∈ S.wares) {i : Nat} (hi : i < daysN S) : w.floor <= (Fo S (LR S) w).getD i 0 := by
 have h := P4 (Tz S (LR S) w) (λj hj => e7 L hw hj) (i + 1) hi
 have h2 := Sj (f := w.floor) (xs := Af (daysN S) (Df w)) (ys := Bb S (LR S) w.name) (show 0 < w.gives by have := (E.wb w hw).1.1; omega) i
 unfold Fo
 rw [Cy hi]
 omega
end
set_option maxHeartbeats 4000000
section
variable {P : Program} {w : World} {K : Zzu} {mg : Str -> Option Value} {base : Heap} {f : Addr} {fd : FuncData} {c : Cl} {Pt Pu : Addr}
structure Tm where
 s : Option Int
 p : Int
 k : Int
def N5 : Option Int -> PyData
 | none => .none
 | some n => .int n
def Ga : Option Int -> V
 | none => .non
 | some n => .int n
def Tm.d (t : Tm) : PyData := .tuple [N5 t.s, .int t.p, .int t.k]
theorem j6 : ∀ o : Option Int, Dd (N5 o) = true
 | none => by simp only [N5, Dd]
 | some _ => by simp only [N5, Dd]
theorem Ro (t : Tm) : Dd t.d = true := by unfold Tm.d; simp only [Dd, El, j6, Zxj]
theorem il {H : Hp} : ∀ o : Option Int, RD H (N5 o) (Ga o)
 | none => by simp only [N5, Ga]; rw [RD]
 | some n => RD.int_mk
theorem Vz {H : Hp} {v : V} : ∀ {o : Option Int}, RD H (N5 o) v -> v = Ga o
 | none, h => by simp only [N5] at h; rw [RD] at h; exact h
 | some n, h => RD.int_of h
theorem Iy {H : Hp} {t : Tm} {v : V} (h : RD H t.d v) : ∃ a : Addr, v = .ref a /\ H a = some (.tup [Ga t.s, .int t.p, .int t.k]) := by
 unfold Tm.d at h
 obtain ⟨a, xs, rfl, ha, r⟩ := RD.tup_of h
 obtain ⟨x1, r1, rfl, h1, r⟩ := RDs.cons_of r
 obtain ⟨x2, r2, rfl, h2, r⟩ := RDs.cons_of r
 obtain ⟨x3, r3, rfl, h3, r⟩ := RDs.cons_of r
 have := RDs.nil_of r
 subst this
 rw [Vz h1, RD.int_of h2, RD.int_of h3] at ha
 exact ⟨a, rfl, ha⟩
theorem Xr {H : Hp} {t : Tm} {a : Addr} (h : H a = some (.tup [Ga t.s, .int t.p, .int t.k])) : RD H t.d (.ref a) := RD.tup_mk h (RDs.cons (il _) (RDs.cons RD.int_mk (RDs.one RD.int_mk)))
structure TOk (t : Tm) : Prop where
 p0 : 0 <= t.p
 p1 : t.p < 40
 k0 : 0 <= t.k
 k1 : t.k < 40
 s0 : ∀ n, t.s = some n -> 0 <= n /\ n < 160
theorem Yf (o : Option Int) : decide (Ga o = V.non) = o.isNone := by cases o <;> simp [Ga]
def TmsAt (H : Hp) (a : Addr) (ts : List Tm) : Prop := ∃ vs, H a = some (.lst vs) /\ RDs H (ts.map Tm.d) vs
theorem TmsAt.ku {H H' : Hp} {a b : Addr} {ts : List Tm} {vs : List V} (k : KeepU H H') (r : RDs H (ts.map Tm.d) vs) (e : H' b = some (.lst vs)) : TmsAt H' b ts := ⟨vs, e, RDs.ku k _ _ (C5 _ Ro _) r⟩
theorem TmsAt.same {H H' : Hp} {a : Addr} {ts : List Tm} (h : TmsAt H a ts) (s : Same H H') : TmsAt H' a ts := by obtain ⟨vs, e, r⟩ := h; exact TmsAt.ku (a := a) s.ku r (s _ _ e)
def tm0 : Tm := ⟨none, 0, 0⟩
theorem Bk {α : Type} {xs : List α} {i : Nat} (h : i < xs.length) : ∃ x, xs[i]? = some x := ⟨_, Zzq h⟩
theorem Et {α β : Type} {f : α -> β} {xs : List α} {i : Nat} {y : β} (h : (xs.map f)[i]? = some y) : ∃ x, xs[i]? = some x /\ y = f x := by
 rw [Zzx] at h
 cases e : xs[i]? with
 | none => rw [e] at h; cases h
 | some x => rw [e] at h; cases h; exact ⟨x, rfl, rfl⟩
theorem Au {α : Type} {xs : List α} {i : Nat} {x d : α} (h : xs[i]? = some x) : xs.getD i d = x := by rw [Zzv, h]; rfl
def B8 (ns os : List Int) (i : Nat) : Int := (os.take i).sum - (ns.take i).sum
def Ij (t : Tm) (o l c : Int) : Option Int := if o < 0 \/ l < 0 then none else if 0 < o then (match t.s with
 | none => none
 | some s => some (c + (s + t.p * o) + t.k * l)) else some (c + t.k * l)
def Ck (ns : List Int) (ts : List Tm) (os : List Int) : Nat -> Option Int
 | 0 => some 0
 | i + 1 => (Ck ns ts os i).bind (Ij (ts.getD i tm0) (os.getD i 0) (B8 ns os (i + 1)))
def Mp (ns : List Int) (ts : List Tm) (os : List Int) : Option Int := Ck ns ts os ts.length
theorem Sc {ns : List Int} {ts : List Tm} {os : List Int} {i : Nat} (h : Ck ns ts os i = none) : ∀ k, Ck ns ts os (i + k) = none
 | 0 => h
 | k + 1 => by
  show (Ck ns ts os (i + k)).bind _ = none
  rw [Sc h k]
  rfl
theorem Ow {ns : List Int} {ts : List Tm} {os : List Int} {i : Nat} (hi : i < ts.length) (h : Ck ns ts os (i + 1) = none) : Mp ns ts os = none := by
 have e : ts.length = i + 1 + (ts.length - (i + 1)) := by omega
 unfold Mp
 rw [e]
 exact Sc h _
theorem Tv {ns : List Int} {ts : List Tm} {os : List Int} {i : Nat} {c o : Int} {t : Tm} (h : Ck ns ts os i = some c) (ht : ts[i]? = some t) (ho : os[i]? = some o) : Ck ns ts os (i + 1) = Ij t o (B8 ns os (i + 1)) c := by
 show (Ck ns ts os i).bind _ = _
 rw [h, Zzv, Zzv, ht, ho]
 rfl
theorem Mr {ns os : List Int} {i : Nat} {n o : Int} (hn : ns[i]? = some n) (ho : os[i]? = some o) : B8 ns os (i + 1) = B8 ns os i + (o - n) := by
 have h1 : (os.take (i + 1)).sum = (os.take i).sum + o := by rw [Zz8, ho, Zxg]; simp
 have h2 : (ns.take (i + 1)).sum = (ns.take i).sum + n := by rw [Zz8, hn, Zxg]; simp
 unfold B8
 rw [h1, h2]
 omega
def Bj (ts : List Tm) (st : Nat) : Nat -> Int
 | 0 => (ts.getD st tm0).p
 | i + 1 => Bj ts st i + (ts.getD (st + i) tm0).k
def Ep (ns : List Int) (ts : List Tm) (st i : Nat) : Int := Bj ts st i * ns.getD (st + i) 0
theorem Qh {ts : List Tm} (ok : ∀ t ∈ ts, TOk t) (st : Nat) : ∀ i : Nat, 0 <= Bj ts st i /\ Bj ts st i <= 40 * (i + 1) := by
 have one : ∀ j, 0 <= (ts.getD j tm0).p /\ (ts.getD j tm0).p <= 40 /\ 0 <= (ts.getD j tm0).k /\ (ts.getD j tm0).k <= 40 := λj => by
  cases e : ts[j]? with
  | none => rw [Zzv, e]; exact ⟨by decide, by decide, by decide, by decide⟩
  | some t =>
   rw [Au e]
   have h := ok t (Zzn e)
   have h1 := h.p0
   have h2 := h.p1
   have h3 := h.k0
   have h4 := h.k1
   exact ⟨h1, by omega, h3, by omega⟩
 intro i
 induction i with
 | zero =>
  have := one st
  show 0 <= (ts.getD st tm0).p /\ (ts.getD st tm0).p <= _
  constructor
  ·exact this.1
  ·have h := this.2.1
   have e : (40 : Int) * (((0 : Nat) : Int) + 1) = 40 := by decide
   rw [e]
   exact h
 | succ i ih =>
  have := one (st + i)
  show 0 <= Bj ts st i + (ts.getD (st + i) tm0).k /\ Bj ts st i + (ts.getD (st + i) tm0).k <= _
  have e : ((i + 1 : Nat) : Int) = (i : Int) + 1 := by simp
  rw [e]
  omega
theorem Zb {ts : List Tm} (ok : ∀ t ∈ ts, TOk t) (st i : Nat) (hi : i <= 1000) (z : Int) : CMulB (Bj ts st i) z := by
 have := Qh ok st i
 exact .inl (.inl ⟨by omega, by omega⟩)
def mx (x : Int) : Int := if x > 0 then x else 0
def D0 (ns : List Int) (ts : List Tm) (us : List Int) (st i : Nat) : Int := mx (us.getD (st + i) 0 - Ep ns ts st i)
def Ho (ns : List Int) (ts : List Tm) (us : List Int) (st : Nat) : Int := (Af (ts.length - st) (D0 ns ts us st)).sum
def Ev (ns : List Int) (ts : List Tm) (us : List Int) (st : Nat) : Bool := match (ts.getD st tm0).s with
 | none => true
 | some s => decide (Ho ns ts us st <= s)
def v1 (n v : Int) : Bool := decide (v < 0) || (decide (n = 0) && decide (0 < v))
def Fs (ns : List Int) (ts : List Tm) (us : List Int) : Bool := ((Zyy ts.length).all λi => !v1 (ns.getD i 0) (us.getD i 0)) && ((Zyy ts.length).all λst => Ev ns ts us st)
theorem Y2 {ns us : List Int} {ts : List Tm} {i : Nat} (hi : i < ts.length) (h : v1 (ns.getD i 0) (us.getD i 0) = true) : Fs ns ts us = false := by
 unfold Fs
 rw [Bool.and_eq_false_iff]
 left
 rw [List.all_eq_false]
 exact ⟨i, Zy8.mpr hi, by rw [h]; decide⟩
theorem Jy {ns us : List Int} {ts : List Tm} (h : ∀ i, i < ts.length -> v1 (ns.getD i 0) (us.getD i 0) = false) : Fs ns ts us = ((Zyy ts.length).all λst => Ev ns ts us st) := by
 unfold Fs
 have : ((Zyy ts.length).all λi => !v1 (ns.getD i 0) (us.getD i 0)) = true := by
  rw [Zy4]
  intro i hi
  rw [h i (Zy8.mp hi)]
  rfl
 rw [this, Zx5]
theorem Bf (n : Nat) (f : Nat -> Int) : (Af (n + 1) f).sum = (Af n f).sum + f n := by rw [Fq, Zxg]; simp
def E5 (ts : List Tm) (j : Nat) : Bool := (ts.getD j tm0).s.isSome
def B5 (ts : List Tm) (i : Nat) : List Nat := (Zyy i).filter (E5 ts)
def Be (ts : List Tm) (j : Nat) : Int := (ts.getD j tm0).s.getD 0
def Cu (ns : List Int) (ts : List Tm) (cs : List Int) (j e : Nat) : Int := cs.getD j 0 + Be ts j + (Af (e - j) (Ep ns ts j)).sum
structure Least (ns : List Int) (ts : List Tm) (n : Nat) (cs : List Int) (S : List (Option Nat)) : Prop where
 lc : cs.length = n + 1
 ls : S.length = n
 c0 : cs.getD 0 0 = 0
 rest : ∀ i, i < n -> ns.getD i 0 = 0 -> S.getD i none = none /\ cs.getD (i + 1) 0 = cs.getD i 0
 last : ∀ i, i < n -> ns.getD i 0 ≠ 0 -> ∃ j, j <= i /\ E5 ts j = true /\ S.getD i none = some j /\ cs.getD (i + 1) 0 = Cu ns ts cs j (i + 1) /\ ∀ j', j' <= i -> E5 ts j' = true -> cs.getD (i + 1) 0 <= Cu ns ts cs j' (i + 1)
theorem Mt (ts : List Tm) (i : Nat) : B5 ts (i + 1) = if E5 ts i = true then B5 ts i ++ [i] else B5 ts i := by
 unfold B5
 rw [Zwl, Zwh]
 by_cases h : E5 ts i = true
 ·rw [if_pos h, List.filter_cons_of_pos h]; rfl
 ·rw [if_neg h, List.filter_cons_of_neg h]; simp
theorem mem_able {ts : List Tm} {i j : Nat} : j ∈ B5 ts i ↔ j < i /\ E5 ts j = true := by
 unfold B5
 rw [Zxh, Zy8]
theorem Jr (ts : List Tm) (i : Nat) : (B5 ts i).length <= i := by
 unfold B5
 exact Zyz (Zx6 _ _) (by rw [Zwb]; exact Zzw _)
theorem Bs {α : Type} {xs ys : List α} {i : Nat} {d : α} (h : i < xs.length) : (xs ++ ys).getD i d = xs.getD i d := by
 rw [Zzv, Zzv, Zy3 h]
theorem Fi {α : Type} {xs : List α} {y d : α} : (xs ++ [y]).getD xs.length d = y := by
 rw [Zzv, Zyg (Zzw _), Zx8]
 rfl
theorem Fm {ns : List Int} {ts : List Tm} {cs : List Int} {c : Int} {j e : Nat} (h : j < cs.length) : Cu ns ts (cs ++ [c]) j e = Cu ns ts cs j e := by
 unfold Cu
 rw [Bs h]
theorem Js {ns : List Int} {ts : List Tm} {cs : List Int} {j i : Nat} (h : j <= i) : Cu ns ts cs j (i + 1) = Cu ns ts cs j i + Bj ts j (i - j) * ns.getD i 0 := by
 unfold Cu
 have e : i + 1 - j = (i - j) + 1 := by omega
 rw [e, Bf]
 unfold Ep
 have e2 : j + (i - j) = i := by omega
 rw [e2]
 omega
theorem Least.snoc0 {ns : List Int} {ts : List Tm} {n : Nat} {cs : List Int} {S : List (Option Nat)} (L : Least ns ts n cs S) (h : ns.getD n 0 = 0) : Least ns ts (n + 1) (cs ++ [cs.getD n 0]) (S ++ [none]) where
 lc := by rw [Zyx, L.lc]; rfl
 ls := by rw [Zyx, L.ls]; rfl
 c0 := by rw [Bs (by have := L.lc; omega)]; exact L.c0
 rest := λi hi hz => by
  have lc := L.lc
  have ls := L.ls
  by_cases e : i = n
  ·subst e
   refine ⟨?_, ?_⟩
   ·rw [<- ls]; exact Fi
   ·rw [Bs (xs := cs) (i := i) (by omega), <- lc]; exact Fi
  ·obtain ⟨a, b⟩ := L.rest i (by omega) hz
   exact ⟨by rw [Bs (by omega)]; exact a, by rw [Bs (by omega), Bs (by omega)]; exact b⟩
 last := λi hi hz => by
  have lc := L.lc
  have ls := L.ls
  by_cases e : i = n
  ·subst e; exact absurd h hz
  ·obtain ⟨j, j1, j2, j3, j4, j5⟩ := L.last i (by omega) hz
   refine ⟨j, j1, j2, by rw [Bs (by omega)]; exact j3, by rw [Bs (by omega), Fm (by omega)]; exact j4, λj' h1 h2 => ?_⟩
   rw [Bs (by omega), Fm (by omega)]
   exact j5 j' h1 h2
theorem Least.snoc1 {ns : List Int} {ts : List Tm} {n k : Nat} {cs : List Int} {S : List (Option Nat)} (L : Least ns ts n cs S) (h : ns.getD n 0 ≠ 0) (hk : k <= n) (ha : E5 ts k = true) (hle : ∀ j', j' <= n -> E5 ts j' = true -> Cu ns ts cs k (n + 1) <= Cu ns ts cs j' (n + 1)) : Least ns ts (n + 1) (cs ++ [Cu ns ts cs k (n + 1)]) (S ++ [some k]) where
 lc := by rw [Zyx, L.lc]; rfl
 ls := by rw [Zyx, L.ls]; rfl
 c0 := by rw [Bs (by have := L.lc; omega)]; exact L.c0
 rest := λi hi hz => by
  have lc := L.lc
  have ls := L.ls
  by_cases e : i = n
  ·subst e; exact absurd hz h
  ·obtain ⟨a, b⟩ := L.rest i (by omega) hz
   exact ⟨by rw [Bs (by omega)]; exact a, by rw [Bs (by omega), Bs (by omega)]; exact b⟩
 last := λi hi hz => by
  have lc := L.lc
  have ls := L.ls
  by_cases e : i = n
  ·subst e
   refine ⟨k, hk, ha, by rw [<- ls]; exact Fi, ?_, λj' h1 h2 => ?_⟩
   ·rw [<- lc, Fi, lc, Fm (by omega)]
   ·rw [<- lc, Fi, lc, Fm (by omega)]
    exact hle j' h1 h2
  ·obtain ⟨j, j1, j2, j3, j4, j5⟩ := L.last i (by omega) hz
   refine ⟨j, j1, j2, by rw [Bs (by omega)]; exact j3, by rw [Bs (by omega), Fm (by omega)]; exact j4, λj' h1 h2 => ?_⟩
   rw [Bs (by omega), Fm (by omega)]
   exact j5 j' h1 h2
theorem P8 {ns : List Int} {ts : List Tm} {n : Nat} {cs : List Int} {S : List (Option Nat)} (L : Least ns ts n cs S) (s0 : ∀ j, 0 <= Be ts j) {i : Nat} (ha : E5 ts i = true) : ∀ {j : Nat}, i < j -> j <= n -> cs.getD j 0 <= Cu ns ts cs i j
 | 0, h, _ => absurd h (Zxn _)
 | j + 1, h, hn => by
  by_cases z : ns.getD j 0 = 0
  ·have e := (L.rest j (by omega) z).2
   rw [Js (by omega), z, Zws, Zy6, e]
   by_cases y : i = j
   ·subst y
    have := s0 i
    unfold Cu
    rw [Zx8]
    show _ <= _ + (0 : Int)
    omega
   ·exact P8 L s0 ha (by omega) (by omega)
  ·obtain ⟨q, _, _, _, _, hle⟩ := L.last j (by omega) z
   exact hle i (by omega) ha
def Bp (cs : List Int) (j : Nat) : Int := cs.getD (j + 1) 0 - cs.getD j 0
def Ap (ts : List Tm) (i j : Nat) : Int := Bj ts i (j - i)
theorem D1 {ts : List Tm} {i j : Nat} (h : i <= j) : Ap ts i (j + 1) = Ap ts i j + (ts.getD j tm0).k := by
 unfold Ap
 have e : j + 1 - i = (j - i) + 1 := by omega
 rw [e]
 show Bj ts i (j - i) + (ts.getD (i + (j - i)) tm0).k = _
 have e2 : i + (j - i) = j := by omega
 rw [e2]
theorem Fk {ns : List Int} {ts : List Tm} {cs : List Int} {i j : Nat} (h : i <= j) : Cu ns ts cs i (j + 1) = Cu ns ts cs i j + Ap ts i j * ns.getD j 0 := Js h
theorem Ld {ns : List Int} {ts : List Tm} {cs : List Int} {i : Nat} : Cu ns ts cs i i = cs.getD i 0 + Be ts i := by
 unfold Cu
 rw [Zx8]
 show _ + (0 : Int) = _
 omega
theorem Of {a b d : Int} (hd : 0 < d) (h : a * d <= b * d) : a <= b := Int.le_of_mul_le_mul_right h hd
section
variable {ns : List Int} {ts : List Tm} {n : Nat} {cs : List Int} {S : List (Option Nat)} (L : Least ns ts n cs S) (s0 : ∀ j, 0 <= Be ts j) (d0 : ∀ j, 0 <= ns.getD j 0) (e0 : ∀ i j, 0 <= Ap ts i j)
include L s0 d0
theorem Ph {j q : Nat} (hj : j < n) (hz : ns.getD j 0 ≠ 0) (hq : q <= j) (ha : E5 ts q = true) (hc : cs.getD (j + 1) 0 = Cu ns ts cs q (j + 1)) : Ap ts q j * ns.getD j 0 <= Bp cs j := by
 unfold Bp
 rw [hc, Fk hq]
 by_cases y : q = j
 ·subst y
  rw [Ld]
  have := s0 q
  omega
 ·have := P8 L s0 ha (j := j) (by omega) (by omega)
  omega
def Sq (ns : List Int) (ts : List Tm) (cs : List Int) (i j : Nat) : Prop := ∃ r, r < j /\ E5 ts r = true /\ cs.getD j 0 = Cu ns ts cs r j /\ Ap ts r j <= Ap ts i j
theorem Tx {i j : Nat} (hij : i <= j) (hj : j < n) (h : Sq ns ts cs i j) : Sq ns ts cs i (j + 1) := by
 obtain ⟨r, r1, r2, r3, r4⟩ := h
 by_cases z : ns.getD j 0 = 0
 ·refine ⟨r, by omega, r2, ?_, ?_⟩
  ·rw [(L.rest j hj z).2, Fk (by omega), z, Zws, Zy6]
   exact r3
  ·rw [D1 (by omega), D1 (by omega)]
   omega
 ·obtain ⟨q, q1, q2, q3, q4, hle⟩ := L.last j hj z
  refine ⟨q, by omega, q2, q4, ?_⟩
  have hd : 0 < ns.getD j 0 := by have := d0 j; omega
  have h1 := Ph L s0 d0 hj z q1 q2 q4
  have h2 := hle r (by omega) r2
  rw [Fk (by omega), <- r3] at h2
  unfold Bp at h1
  have h3 : Ap ts q j * ns.getD j 0 <= Ap ts r j * ns.getD j 0 := by omega
  have h4 := Of hd h3
  rw [D1 (by omega), D1 (by omega)]
  omega
theorem Zk {i j : Nat} (hj : j < n) (h : Sq ns ts cs i j) : Bp cs j <= Ap ts i j * ns.getD j 0 := by
 obtain ⟨r, r1, r2, r3, r4⟩ := h
 have h1 := P8 L s0 r2 (j := j + 1) (by omega) (by omega)
 rw [Fk (by omega), <- r3] at h1
 have h2 : Ap ts r j * ns.getD j 0 <= Ap ts i j * ns.getD j 0 := Zwv r4 (d0 j)
 unfold Bp
 omega
theorem Ty {i j : Nat} (hij : i <= j) (hj : j < n) (h : Bp cs j < Ap ts i j * ns.getD j 0) : Sq ns ts cs i (j + 1) := by
 have z : ns.getD j 0 ≠ 0 := λz => by
  have := (L.rest j hj z).2
  unfold Bp at h
  rw [z, Zws] at h
  omega
 obtain ⟨q, q1, q2, q3, q4, hle⟩ := L.last j hj z
 have hd : 0 < ns.getD j 0 := by have := d0 j; omega
 have h1 := Ph L s0 d0 hj z q1 q2 q4
 have h3 : Ap ts q j <= Ap ts i j := Of hd (by omega)
 refine ⟨q, by omega, q2, q4, ?_⟩
 rw [D1 (by omega), D1 (by omega)]
 omega
theorem Od {i : Nat} (ha : E5 ts i = true) : ∀ m : Nat, i + m <= n -> (Af m λl => mx (Bp cs (i + l) - Ap ts i (i + l) * ns.getD (i + l) 0)).sum <= Be ts i /\
  (Sq ns ts cs i (i + m) \/ (Af m λl => mx (Bp cs (i + l) - Ap ts i (i + l) * ns.getD (i + l) 0)).sum = cs.getD (i + m) 0 - Cu ns ts cs i (i + m) + Be ts i)
 | 0, _ => by
  have e : (Af 0 λl => mx (Bp cs (i + l) - Ap ts i (i + l) * ns.getD (i + l) 0)).sum = 0 := rfl
  rw [e]
  refine ⟨s0 i, .inr ?_⟩
  show (0 : Int) = cs.getD i 0 - Cu ns ts cs i i + _
  rw [Ld]
  omega
 | m + 1, h => by
  obtain ⟨ih1, ih2⟩ := Od ha m (by omega)
  rw [Bf]
  have em : i + (m + 1) = i + m + 1 := by omega
  rcases ih2 with c | e
  ·have h1 := Zk L s0 d0 (i := i) (j := i + m) (by omega) c
   have hm : mx (Bp cs (i + m) - Ap ts i (i + m) * ns.getD (i + m) 0) = 0 := by unfold mx; rw [if_neg (by omega)]
   rw [hm, Zy6]
   refine ⟨ih1, .inl ?_⟩
   rw [em]
   exact Tx L s0 d0 (by omega) (by omega) c
  ·by_cases lt : Bp cs (i + m) < Ap ts i (i + m) * ns.getD (i + m) 0
   ·have hm : mx (Bp cs (i + m) - Ap ts i (i + m) * ns.getD (i + m) 0) = 0 := by unfold mx; rw [if_neg (by omega)]
    rw [hm, Zy6]
    refine ⟨ih1, .inl ?_⟩
    rw [em]
    exact Ty L s0 d0 (by omega) (by omega) lt
   ·have hm : mx (Bp cs (i + m) - Ap ts i (i + m) * ns.getD (i + m) 0) = Bp cs (i + m) - Ap ts i (i + m) * ns.getD (i + m) 0 := by
     unfold mx
     split <;> omega
    have h2 := P8 L s0 ha (j := i + m + 1) (by omega) (by omega)
    have h3 := Fk (ns := ns) (ts := ts) (cs := cs) (i := i) (j := i + m) (by omega)
    rw [hm, e, em]
    unfold Bp
    refine ⟨by omega, .inr (by omega)⟩
end
theorem R9 {ns : List Int} {ts : List Tm} {cs : List Int} {S : List (Option Nat)} (L : Least ns ts ts.length cs S) (s0 : ∀ j, 0 <= Be ts j) (d0 : ∀ j, 0 <= ns.getD j 0) (e0 : ∀ i j, 0 <= Ap ts i j) : Fs ns ts (Af ts.length (Bp cs)) = true := by
 have v0 : ∀ j, j < ts.length -> v1 (ns.getD j 0) ((Af ts.length (Bp cs)).getD j 0) = false := λj hj => by
  rw [Cy hj]
  by_cases z : ns.getD j 0 = 0
  ·have e : Bp cs j = 0 := by unfold Bp; rw [(L.rest j hj z).2]; omega
   rw [e]
   unfold v1
   simp
  ·obtain ⟨q, q1, q2, q3, q4, _⟩ := L.last j hj z
   have h1 := Ph L s0 d0 hj z q1 q2 q4
   have h2 : 0 <= Ap ts q j * ns.getD j 0 := Zxd (e0 q j) (d0 j)
   unfold v1
   rw [decide_eq_false (by omega : ¬ Bp cs j < 0), decide_eq_false z]
   rfl
 rw [Jy v0, Zy4]
 intro i hi
 have hi := Zy8.mp hi
 unfold Ev
 cases hs : (ts.getD i tm0).s with
 | none => rfl
 | some sv =>
  have ha : E5 ts i = true := by unfold E5; rw [hs]; rfl
  have hsv : Be ts i = sv := by unfold Be; rw [hs]; rfl
  have h := (Od L s0 d0 ha (ts.length - i) (by omega)).1
  rw [hsv] at h
  refine decide_eq_true ?_
  unfold Ho
  have e : Af (ts.length - i) (D0 ns ts (Af ts.length (Bp cs)) i) = Af (ts.length - i) λl => mx (Bp cs (i + l) - Ap ts i (i + l) * ns.getD (i + l) 0) := Ch λl hl => by
   unfold D0 Ep Ap
   have e2 : i + l - i = l := by omega
   rw [Cy (by omega), e2]
  rw [e]
  exact h
theorem Oa (cs : List Int) : ∀ n : Nat, (Af n (Bp cs)).sum = cs.getD n 0 - cs.getD 0 0
 | 0 => by show (0 : Int) = _; omega
 | n + 1 => by
  rw [Bf, Oa cs n]
  unfold Bp
  omega
theorem Fd {f : Nat -> Int} (h : ∀ l, 0 <= f l) {m : Nat} : ∀ k : Nat, (Af m f).sum <= (Af (m + k) f).sum
 | 0 => Zyr _
 | k + 1 => by
  have e : m + (k + 1) = (m + k) + 1 := by omega
  rw [e, Bf]
  have := Fd h (m := m) k
  have := h (m + k)
  omega
theorem Yn (x : Int) : 0 <= mx x /\ x <= mx x := by unfold mx; split <;> omega
theorem Ra {ns us : List Int} {ts : List Tm} (h : Fs ns ts us = true) : (∀ j, j < ts.length -> v1 (ns.getD j 0) (us.getD j 0) = false) /\ ∀ i, i < ts.length -> Ev ns ts us i = true := by
 unfold Fs at h
 obtain ⟨h1, h2⟩ := Zyl.mp h
 rw [Zy4] at h1 h2
 refine ⟨λj hj => ?_, λi hi => h2 i (Zy8.mpr hi)⟩
 have := h1 j (Zy8.mpr hj)
 simpa using this
theorem Ov {ns os : List Int} {ts : List Tm} {j : Nat} {c' : Int} (h : Ck ns ts os (j + 1) = some c') : ∃ c, Ck ns ts os j = some c /\ 0 <= os.getD j 0 /\ 0 <= B8 ns os (j + 1) /\
  ((0 < os.getD j 0 /\ E5 ts j = true /\ c' = c + (Be ts j + (ts.getD j tm0).p * os.getD j 0) + (ts.getD j tm0).k * B8 ns os (j + 1)) \/ (os.getD j 0 = 0 /\ c' = c + (ts.getD j tm0).k * B8 ns os (j + 1))) := by
 have h : (Ck ns ts os j).bind (Ij (ts.getD j tm0) (os.getD j 0) (B8 ns os (j + 1))) = some c' := h
 cases hc : Ck ns ts os j with
 | none => rw [hc] at h; cases h
 | some c =>
  rw [hc] at h
  have h : Ij (ts.getD j tm0) (os.getD j 0) (B8 ns os (j + 1)) c = some c' := h
  unfold Ij at h
  split at h
  ·cases h
  ·rename_i h1
   split at h
   ·rename_i h2
    split at h
    ·cases h
    ·rename_i s hs
     refine ⟨c, rfl, by omega, by omega, .inl ⟨h2, by unfold E5; rw [hs]; rfl, ?_⟩⟩
     have e : Be ts j = s := by unfold Be; rw [hs]; rfl
     rw [e]
     exact (Zza h).symm
   ·exact ⟨c, rfl, by omega, by omega, .inr ⟨by omega, (Zza h).symm⟩⟩
def Vp (us : List Int) (j : Nat) : Int := (Af j λl => us.getD l 0).sum
theorem ao {ns os us : List Int} {ts : List Tm} (l1 : ns.length = ts.length) (l2 : os.length = ts.length) (s0 : ∀ j, 0 <= Be ts j) (d0 : ∀ j, 0 <= ns.getD j 0) (p0 : ∀ j, 0 <= (ts.getD j tm0).p) (k0 : ∀ j, 0 <= (ts.getD j tm0).k) (hr : Fs ns ts us = true) :
  ∀ (j : Nat) (c : Int), j <= ts.length -> Ck ns ts os j = some c -> 0 <= B8 ns os j /\ ((B8 ns os j = 0 /\ Vp us j <= c) \/ ∃ i, i < j /\ E5 ts i = true /\ Vp us j + Ap ts i j * B8 ns os j + (Be ts i - (Af (j - i) (D0 ns ts us i)).sum) <= c) := by
 obtain ⟨hv, hw⟩ := Ra hr
 intro j
 induction j with
 | zero =>
  intro c _ h
  have e : c = 0 := (Zza h).symm
  refine ⟨Zyr _, .inl ⟨rfl, ?_⟩⟩
  rw [e]
  exact Zyr _
 | succ j ih =>
  intro c' hj h
  obtain ⟨c, hc, o0, L0, hday⟩ := Ov h
  obtain ⟨ihL, ihb⟩ := ih c (by omega) hc
  obtain ⟨n, en⟩ := Bk (xs := ns) (i := j) (by omega)
  obtain ⟨o, eo⟩ := Bk (xs := os) (i := j) (by omega)
  have hd := Mr en eo
  have hd0 := d0 j
  rw [Au en] at hd0
  rw [Au eo] at o0 hday
  have hvj := hv j (by omega)
  rw [Au en] at hvj
  have us1 : Vp us (j + 1) = Vp us j + us.getD j 0 := Bf _ _
  have paidj : ∀ i, i <= j -> (Af (j + 1 - i) (D0 ns ts us i)).sum = (Af (j - i) (D0 ns ts us i)).sum + mx (us.getD j 0 - Ap ts i j * n) := λi hi => by
   have e1 : j + 1 - i = (j - i) + 1 := by omega
   rw [e1, Bf]
   unfold D0 Ep Ap
   have e2 : i + (j - i) = j := by omega
   rw [e2, Au en]
  have room : ∀ i, i < j -> E5 ts i = true -> (Af (j - i) (D0 ns ts us i)).sum <= Be ts i := λi hi ha => by
   have h1 := hw i (by omega)
   unfold Ev at h1
   unfold E5 at ha
   unfold Be
   cases hs : (ts.getD i tm0).s with
   | none => rw [hs] at ha; cases ha
   | some sv =>
    rw [hs] at h1
    have h1 := of_decide_eq_true h1
    unfold Ho at h1
    have h2 := Fd (f := D0 ns ts us i) (λl => (Yn _).1) (m := j - i) (ts.length - i - (j - i))
    have e : j - i + (ts.length - i - (j - i)) = ts.length - i := by omega
    rw [e] at h2
    show _ <= sv
    omega
  generalize us.getD j 0 = v at hvj us1 paidj
  have hv0 : ¬ v < 0 := λz => by unfold v1 at hvj; rw [decide_eq_true z] at hvj; cases hvj
  have hv1 : n = 0 -> v = 0 := λz => by
   unfold v1 at hvj
   rw [decide_eq_false hv0, decide_eq_true z, Bool.false_or, Zx5] at hvj
   have := of_decide_eq_false hvj
   omega
  refine ⟨L0, ?_⟩
  have hk := k0 j
  have hp := p0 j
  have hKL : 0 <= (ts.getD j tm0).k * B8 ns os (j + 1) := Zxd hk L0
  have parts : ∀ i, i <= j -> Ap ts i (j + 1) * B8 ns os (j + 1) = Ap ts i j * B8 ns os j + Ap ts i j * o - Ap ts i j * n + (ts.getD j tm0).k * B8 ns os (j + 1) := λi hi => by
   rw [D1 hi, Int.add_mul]
   congr 1
   rw [hd, Int.mul_add, Int.mul_sub]
   omega
  have ujj : Ap ts j j = (ts.getD j tm0).p := by unfold Ap; rw [Zx8]; rfl
  have pj := paidj j (Zzw _)
  have mj := parts j (Zzw _)
  rw [ujj] at pj mj
  have z0 : (Af (j - j) (D0 ns ts us j)).sum = 0 := by rw [Zx8]; rfl
  rw [z0] at pj
  have m1 := (Yn (v - (ts.getD j tm0).p * n)).2
  rcases ihb with ⟨hL, hu⟩ | ⟨i, hi, ha, hu⟩
  ·rcases hday with ⟨op, aj, ec⟩ | ⟨oz, ec⟩
   ·refine .inr ⟨j, by omega, aj, ?_⟩
    rw [hL, Zws] at mj
    rw [mj, pj, us1, ec]
    omega
   ·refine .inl ⟨by omega, ?_⟩
    have := hv1 (by omega)
    rw [us1, ec]
    omega
  ·have hr := room i hi ha
   have pi := paidj i (by omega)
   have mi := parts i (by omega)
   have m2 := (Yn (v - Ap ts i j * n)).2
   rcases hday with ⟨op, aj, ec⟩ | ⟨oz, ec⟩
   ·by_cases le : (ts.getD j tm0).p <= Ap ts i j
    ·refine .inr ⟨j, by omega, aj, ?_⟩
     have h5 : (ts.getD j tm0).p * B8 ns os j <= Ap ts i j * B8 ns os j := Zwv le ihL
     rw [mj, pj, us1, ec]
     omega
    ·refine .inr ⟨i, by omega, ha, ?_⟩
     have h5 : Ap ts i j * o <= (ts.getD j tm0).p * o := Zwv (by omega) o0
     have h6 := s0 j
     rw [mi, pi, us1, ec]
     omega
   ·refine .inr ⟨i, by omega, ha, ?_⟩
    rw [oz, Zws] at mi
    rw [mi, pi, us1, ec]
    omega
theorem weak {ns os us : List Int} {ts : List Tm} (l1 : ns.length = ts.length) (l2 : os.length = ts.length) (l3 : us.length = ts.length) (s0 : ∀ j, 0 <= Be ts j) (d0 : ∀ j, 0 <= ns.getD j 0) (p0 : ∀ j, 0 <= (ts.getD j tm0).p) (k0 : ∀ j, 0 <= (ts.getD j tm0).k) (e0 : ∀ i j, 0 <= Ap ts i j) (hr : Fs ns ts us = true) {c : Int} (hc : Mp ns ts os = some c) : us.sum <= c := by
 obtain ⟨hL, h⟩ := ao l1 l2 s0 d0 p0 k0 hr ts.length c (Zzw _) hc
 have e : Vp us ts.length = us.sum := by unfold Vp; rw [<- l3, Sy]
 rw [e] at h
 rcases h with ⟨_, h⟩ | ⟨i, hi, ha, h⟩
 ·exact h
 ·have h1 : 0 <= Ap ts i ts.length * B8 ns os ts.length := Zxd (e0 _ _) hL
  have h2 := (Ra hr).2 i hi
  unfold Ev at h2
  unfold E5 at ha
  unfold Be at h
  cases hs : (ts.getD i tm0).s with
  | none => rw [hs] at ha; cases ha
  | some sv =>
   rw [hs] at h2 h
   have h2 := of_decide_eq_true h2
   unfold Ho at h2
   have h : us.sum + Ap ts i ts.length * B8 ns os ts.length + (sv - (Af (ts.length - i) (D0 ns ts us i)).sum) <= c := h
   omega
def Fy (ns : List Int) (j m : Nat) : Int := (Af m λl => ns.getD (j + l) 0).sum
inductive IsOrd (ns : List Int) (S : List (Option Nat)) : Nat -> (Nat -> Int) -> Prop
 | zero : IsOrd ns S 0 λ_ => 0
 | rest {d : Nat} {g : Nat -> Int} : S.getD d none = none -> IsOrd ns S d g -> IsOrd ns S (d + 1) g
 | last {d j : Nat} {g : Nat -> Int} : S.getD d none = some j -> j <= d -> IsOrd ns S j g -> IsOrd ns S (d + 1) λx => if x = j then Fy ns j (d + 1 - j) else g x
theorem IsOrd.out {ns : List Int} {S : List (Option Nat)} {d : Nat} {g : Nat -> Int} (h : IsOrd ns S d g) : ∀ x, d <= x -> g x = 0 := by
 induction h with
 | zero => intro x _; rfl
 | rest _ _ ih => intro x hx; exact ih x (by omega)
 | last _ hj _ ih =>
  intro x hx
  show (if x = _ then _ else _) = (0 : Int)
  rw [if_neg (by omega)]
  exact ih x (by omega)
theorem R4 {ns : List Int} {j : Nat} : ∀ {m : Nat}, j + m <= ns.length -> ((ns.drop j).take m).sum = Fy ns j m
 | 0, _ => rfl
 | m + 1, h => by
  obtain ⟨n, en⟩ := Bk (xs := ns) (i := j + m) (by omega)
  unfold Fy
  rw [Bf, Zz8, Zyc, en, Zxg, R4 (by omega)]
  show _ + (n + 0) = _
  rw [Au en]
  unfold Fy
  omega
section
variable {ns : List Int} {ts : List Tm} {cs os : List Int} {S : List (Option Nat)} (L : Least ns ts ts.length cs S) (d0 : ∀ j, 0 <= ns.getD j 0) (l1 : ns.length = ts.length) (l2 : os.length = ts.length)
theorem Iq (l1 : ns.length = ts.length) (l2 : os.length = ts.length) {x : Nat} (hx : x < ts.length) : B8 ns os (x + 1) = B8 ns os x + (os.getD x 0 - ns.getD x 0) := by
 obtain ⟨n, en⟩ := Bk (xs := ns) (i := x) (by omega)
 obtain ⟨o, eo⟩ := Bk (xs := os) (i := x) (by omega)
 rw [Mr en eo, Au en, Au eo]
theorem Mo {x : Nat} {c : Int} (hc : Ck ns ts os x = some c) (ho : os.getD x 0 = 0) (hL : 0 <= B8 ns os (x + 1)) : Ck ns ts os (x + 1) = some (c + (ts.getD x tm0).k * B8 ns os (x + 1)) := by
 show (Ck ns ts os x).bind _ = _
 rw [hc, ho]
 show Ij _ 0 _ c = _
 unfold Ij
 rw [if_neg (by omega), if_neg (by omega)]
theorem Tu {x : Nat} {c : Int} (hc : Ck ns ts os x = some c) (ho : 0 < os.getD x 0) (ha : E5 ts x = true) (hL : 0 <= B8 ns os (x + 1)) : Ck ns ts os (x + 1) = some (c + (Be ts x + (ts.getD x tm0).p * os.getD x 0) + (ts.getD x tm0).k * B8 ns os (x + 1)) := by
 show (Ck ns ts os x).bind _ = _
 rw [hc]
 show Ij _ _ _ c = _
 unfold Ij
 rw [if_neg (by omega), if_pos ho]
 unfold E5 at ha
 unfold Be
 cases hs : (ts.getD x tm0).s with
 | none => rw [hs] at ha; cases ha
 | some s => rfl
include L d0 l1 l2
theorem Ye {d : Nat} {g : Nat -> Int} (h : IsOrd ns S d g) (hd : d <= ts.length) (hg : ∀ x, x < d -> os.getD x 0 = g x) : Ck ns ts os d = some (cs.getD d 0) /\ B8 ns os d = 0 := by
 induction h with
 | zero => exact ⟨by rw [L.c0]; rfl, rfl⟩
 | rest hs _ ih =>
  rename_i d g h0
  obtain ⟨c1, c2⟩ := ih (by omega) (λx hx => hg x (by omega))
  have hz : ns.getD d 0 = 0 := by
   by_cases z : ns.getD d 0 = 0
   ·exact z
   ·obtain ⟨j, _, _, e, _⟩ := L.last d (by omega) z
    rw [hs] at e
    cases e
  have ho : os.getD d 0 = 0 := (hg d (by omega)).trans (h0.out d (Zzw _))
  have hc := Iq l1 l2 (x := d) (by omega)
  rw [c2, ho, hz] at hc
  have hc : B8 ns os (d + 1) = 0 := by omega
  refine ⟨?_, hc⟩
  rw [Mo c1 ho (by omega), hc, Zws, Zy6, (L.rest d (by omega) hz).2]
 | last hs hj _ ih =>
  rename_i d j g h0
  obtain ⟨c1, c2⟩ := ih (by omega) (λx hx => by rw [hg x (by omega)]; exact if_neg (by omega))
  have hz : ns.getD d 0 ≠ 0 := λz => by
   have := (L.rest d (by omega) z).1
   rw [hs] at this
   cases this
  obtain ⟨j', j1, j2, j3, j4, _⟩ := L.last d (by omega) hz
  rw [hs] at j3
  cases j3
  have oj : os.getD j 0 = Fy ns j (d + 1 - j) := by rw [hg j (by omega)]; exact if_pos rfl
  have ox : ∀ x, j < x -> x < d + 1 -> os.getD x 0 = 0 := λx h1 h2 => by
   rw [hg x h2]
   show (if x = j then _ else g x) = (0 : Int)
   rw [if_neg (by omega)]
   exact h0.out x (by omega)
  have mono : ∀ l, l <= d - j -> 0 <= Fy ns j (d + 1 - j) - Fy ns j (l + 1) := λl hl => by
   have := Fd (f := λl => ns.getD (j + l) 0) (λl => d0 _) (m := l + 1) (d - j - l)
   have e : l + 1 + (d - j - l) = d + 1 - j := by omega
   rw [e] at this
   unfold Fy
   omega
  have pos : 0 < Fy ns j (d + 1 - j) := by
   have e : d + 1 - j = (d - j) + 1 := by omega
   unfold Fy
   rw [e, Bf]
   have e2 : j + (d - j) = d := by omega
   rw [e2]
   have h1 := Fd (f := λl => ns.getD (j + l) 0) (λl => d0 _) (m := 0) (d - j)
   rw [Nat.zero_add] at h1
   have h2 : (Af 0 λl => ns.getD (j + l) 0).sum = 0 := rfl
   have := d0 d
   omega
  have go : ∀ l, l <= d - j -> B8 ns os (j + 1 + l) = Fy ns j (d + 1 - j) - Fy ns j (l + 1) /\ Ck ns ts os (j + 1 + l) = some (Cu ns ts cs j (j + 1 + l) + Ap ts j (j + 1 + l) * B8 ns os (j + 1 + l)) := λl => by
   induction l with
   | zero =>
    intro hl
    have hc := Iq l1 l2 (x := j) (by omega)
    have e1 : Fy ns j (0 + 1) = ns.getD j 0 := by
     unfold Fy
     rw [Bf]
     show (0 : Int) + ns.getD (j + 0) 0 = _
     rw [Nat.add_zero]
     omega
    have hc : B8 ns os (j + 1) = Fy ns j (d + 1 - j) - Fy ns j (0 + 1) := by rw [hc, c2, oj, e1]; omega
    have hL := mono 0 hl
    refine ⟨hc, ?_⟩
    show Ck ns ts os (j + 1) = some (Cu ns ts cs j (j + 1) + Ap ts j (j + 1) * B8 ns os (j + 1))
    rw [Tu c1 (by rw [oj]; exact pos) j2 (by rw [hc]; exact hL), Fk (Zzw _), Ld, D1 (Zzw _), Int.add_mul]
    have ujj : Ap ts j j = (ts.getD j tm0).p := by unfold Ap; rw [Zx8]; rfl
    have e3 : os.getD j 0 = B8 ns os (j + 1) + ns.getD j 0 := by rw [oj, hc, e1]; omega
    rw [ujj, e3, Int.mul_add]
    congr 1
    omega
   | succ l ihl =>
    intro hl
    obtain ⟨a1, a2⟩ := ihl (by omega)
    have hc := Iq l1 l2 (x := j + 1 + l) (by omega)
    have hox := ox (j + 1 + l) (by omega) (by omega)
    have e1 : Fy ns j (l + 1 + 1) = Fy ns j (l + 1) + ns.getD (j + 1 + l) 0 := by
     unfold Fy
     rw [Bf (l + 1)]
     have : j + (l + 1) = j + 1 + l := by omega
     rw [this]
    have hc2 : B8 ns os (j + 1 + l + 1) = Fy ns j (d + 1 - j) - Fy ns j (l + 1 + 1) := by rw [hc, a1, hox, e1]; omega
    have hL := mono (l + 1) hl
    refine ⟨hc2, ?_⟩
    show Ck ns ts os (j + 1 + l + 1) = some (Cu ns ts cs j (j + 1 + l + 1) + Ap ts j (j + 1 + l + 1) * B8 ns os (j + 1 + l + 1))
    rw [Mo a2 hox (by rw [hc2]; exact hL), Fk (by omega), D1 (by omega), Int.add_mul]
    have e2 : B8 ns os (j + 1 + l) = B8 ns os (j + 1 + l + 1) + ns.getD (j + 1 + l) 0 := by rw [hc, hox]; omega
    rw [e2, Int.mul_add]
    congr 1
    omega
  have f := go (d - j) (Zzw _)
  have e1 : j + 1 + (d - j) = d + 1 := by omega
  have e2 : d - j + 1 = d + 1 - j := by omega
  rw [e1, e2] at f
  have hz2 : B8 ns os (d + 1) = 0 := by rw [f.1]; omega
  refine ⟨?_, hz2⟩
  rw [f.2, hz2, Zws, Zy6, j4]
end
end
set_option maxHeartbeats 4000000
section
variable {P : Program} {w : World} {K : Zzu} {mg : Str -> Option Value} {base : Heap} {f : Addr} {fd : FuncData} {c : Cl} {Pt Pu : Addr}
theorem Rw {ts : List Tm} {st : Nat} : ∀ {i : Nat}, st + i <= ts.length -> (((ts.drop st).take i).map Tm.k).sum = Bj ts st i - (ts.getD st tm0).p
 | 0, _ => by
  show (0 : Int) = (ts.getD st tm0).p - (ts.getD st tm0).p
  omega
 | i + 1, h => by
  obtain ⟨t, et⟩ := Bk (xs := ts) (i := st + i) (by omega)
  rw [Zz8, Zyc, et, Zzg, Zxg, Rw (by omega)]
  show _ + (t.k + 0) = Bj ts st i + (ts.getD (st + i) tm0).k - _
  rw [Au et]
  omega
def sp_law_serving : Sp := λvs H Q _ => ∃ (a b : Addr) (ns : List Int) (ts : List Tm) (st i : Nat), vs = [.ref a, .ref b, .int st, .int ((st : Int) + i)] /\ H a = some (.lst (ns.map V.int)) /\ TmsAt H b ts /\ ns.length = ts.length /\ ts.length <= 1000 /\ st + i < ts.length /\ (∀ t ∈ ts, TOk t) /\
 ∀ H', Same H H' -> Q (.int (Ep ns ts st i)) H'
theorem Lm : Aj ["_law_wanted", "_law_terms", "_law_start", "_law_day"] ["_law_wanted", "_law_terms", "_law_start", "_law_day"] (A9 Cq) := by walk_at "sc"
theorem Lz (F : Fun K "_law_serving" "_law_serving" Cq f fd) (T : Txt mg) (C : Exc K mg c) : FnOk P w K mg base CX0 1 f fd ["_law_wanted", "_law_terms", "_law_start", "_law_day"] sp_law_serving := by
 refine F.ok Lm (λvs H Q E h => ?_) (λcdv A outer s H vs Q E hr h => ?_)
 ·obtain ⟨a, b, ns, ts, st, i, rfl, _⟩ := h
  rfl
 ·obtain ⟨a, b, ns, ts, st, i, rfl, ha, ⟨vs, hb, rv⟩, l1, l2, hi, ok, k⟩ := h
  have hu := Bc hr
  refine ⟨_, (Aa (Ak (An Dz (A7 hu (pv 0) (pv 3) (λ_ _ => rfl)) (An Bi (A7 hu (A7 hu (pv 1) (pv 2) (λ_ _ => rfl)) A8 (λ_ _ => rfl)) (Ag (Eo rfl) rfl T.Ztp Hr (A6 (Fe (own := ["_law_setup", "_law_price", "_law_keep"]) (cap := []) rfl (Fb rfl) Ol (Ft (By Cv (pv 1) (Bn (pv 2)) (Bn (pv 3))))
 (λ_ _ _ _ _ _ => ⟨(Dx (n := 3) rfl (As (Ac (i := 0) (of_decide_eq_true rfl) rfl (Zzt rfl) (.inr rfl)) (As (Ac (i := 1) (of_decide_eq_true rfl) rfl (Zzt rfl) (.inr rfl)) (As (Ac (i := 2) (of_decide_eq_true rfl) rfl (Zzt rfl) (.inr rfl)) Cw)))), D8, (pv 2)⟩)) A2)))))), ?_⟩
  walk_at "rd"
  have ei : ((st : Int) + i).toNat = st + i := by omega
  obtain ⟨n, en⟩ := Bk (xs := ns) (i := st + i) (by omega)
  obtain ⟨t, et⟩ := Bk (xs := ts) (i := st) (by omega)
  obtain ⟨tv, ev, rt⟩ := Hb rv et
  obtain ⟨ta, rfl, hta⟩ := Iy rt
  have hvl := Ax rv
  refine ⟨_, Ci (.inl ha) (by omega) (by rw [ei, Zzx, en]; rfl), _, Ci (.inl hb) (by omega) (by simpa using ev), _, Ad (j := 1) hta rfl, _, hb, λp hp => ?_⟩
  have ecut : E4 vs (some (st : Int)) (some ((st : Int) + i)) = (vs.drop st).take i := by
   rw [Lb (by omega) (by omega)]
   congr 1
   ·omega
  rw [ecut]
  refine ⟨_, A0, ?_⟩
  have u := A4 (o := .lst ((vs.drop st).take i)) hp
  have hlt : ((vs.drop st).take i).length = i := by rw [Zz5, Zym]; omega
  refine Eu (Gx p _) (Ao (by omega)) (λH' sm => sm _ _ A0) ((((ts.drop st).take i).map Tm.k).map V.int) (by rw [Zzz, Zzz, Zz5, Zym, hlt]; omega) (λj x H2 hj hx s2 N M hN => ?_) (λH2 s2 q hq => ?_)
  ·rw [hlt] at hj
   rw [Zyj hj, Zyc] at hx
   obtain ⟨tj, etj, rtj⟩ := C4 rv hx
   obtain ⟨tb, rfl, htb⟩ := Iy rtj
   refine gt3 (s2 _ _ (u _ _ htb)) ?_
   walk_at "rd"
   refine hN _ _ s2 ?_
   rw [Zzx, Zzx, Zyj hj, Zyc, etj]
   rfl
  ·have e1 : t.p + (((ts.drop st).take i).map Tm.k).sum = Bj ts st i := by
    rw [Rw (by omega), Au et]
    omega
   refine ⟨q, rfl, _, A0, _, rfl, _, rfl, ?_⟩
   rw [e1]
   have hb := Qh ok st i
   refine ⟨.inl (.inr ⟨by omega, by omega⟩), ?_⟩
   have e2 : n * Bj ts st i = Ep ns ts st i := by
    unfold Ep
    rw [Au en, Int.mul_comm]
   rw [e2]
   exact k _ (u.trans (s2.trans (A4 hq)))
def sp_law_right : Sp := λvs H Q _ => ∃ (a b c : Addr) (ns us : List Int) (ts : List Tm), vs = [.ref a, .ref b, .ref c] /\ H a = some (.lst (ns.map V.int)) /\ TmsAt H b ts /\ H c = some (.lst (us.map V.int)) /\ ns.length = ts.length /\ us.length = ts.length /\ ts.length <= 1000 /\ (∀ t ∈ ts, TOk t) /\
 ∀ H', Same H H' -> Q (.bl (Fs ns ts us)) H'
def h8 (a b c : Addr) (ns us : List Int) (ts : List Tm) (H : Hp) (i : Nat) (Z : St) (H' : Hp) : Prop := ∃ x y : Option V, Z = [some (.ref a), some (.ref b), some (.ref c), x, y, none, none, none] /\ (∀ j, j < i -> v1 (ns.getD j 0) (us.getD j 0) = false) /\ Same H H'
def gz (a b c : Addr) (ns us : List Int) (ts : List Tm) (H : Hp) (i : Nat) (Z : St) (H' : Hp) : Prop := ∃ x y z w v : Option V, Z = [some (.ref a), some (.ref b), some (.ref c), x, y, z, w, v] /\ (∀ j, j < i -> Ev ns ts us j = true) /\ Same H H'
def ni (a b c : Addr) (ns us : List Int) (ts : List Tm) (x y : Option V) (st : Nat) (H : Hp) (i : Nat) (Z : St) (H' : Hp) : Prop := ∃ v : Option V, Z = [some (.ref a), some (.ref b), some (.ref c), x, y, some (.int st), some (.int (Af i (D0 ns ts us st)).sum), v] /\ Same H H'
theorem sc_law_right : Aj ["_law_wanted", "_law_terms", "_law_values", "_law_need", "_law_value", "_law_start", "_law_burden", "_law_day"] ["_law_wanted", "_law_terms", "_law_values"] (A9 Do) := by walk_at "sc"
theorem Pq (F : Fun K "_law_right" "_law_right" Do f fd) (T : Txt mg) (C : Exc K mg c) (Zty : Has P w K mg base "_law_serving" 1 ["_law_wanted", "_law_terms", "_law_start", "_law_day"] sp_law_serving) : FnOk P w K mg base CX0 2 f fd ["_law_wanted", "_law_terms", "_law_values"] sp_law_right := by
 refine F.ok sc_law_right (λvs H Q E h => ?_) (λcdv A outer s H vs Q E hr h => ?_)
 ·obtain ⟨a, b, c, ns, us, ts, rfl, _⟩ := h
  rfl
 ·obtain ⟨a, b, c, ns, us, ts, rfl, ha, ht, hc, l1, l2, l3, ok, k⟩ := h
  have hu := Bc hr
  refine ⟨_, (A1 (B3 PassesOwn.never rfl (L7 rfl T.Zsu (A6 (pv 0) (A6 (pv 2) A2))) (Dx (n := 2) rfl (As (Ac (i := 3) sc_law_right.nd rfl (Zzt rfl)) (As (Ac (i := 4) sc_law_right.nd rfl (Zzt rfl)) Cw)))
 (Aa (Bm (PW.pt (Ls (Ai (K4 hu) (pv 4) A8 (Ar _)) (Lr (PW.pt (Jz (Ai (Dj hu) (pv 3) A8 (Ar _)) (Hv (Ai (Im hu) (pv 4) A8 (Ar _)))))))) (Aa (Ak Je)) At)))
 (A1 (B3 PassesOwn.never rfl (Bh rfl T.Zvh (A6 (Ag B4 rfl T.Zve Co (A6 (pv 0) A2)) A2)) (Ac (i := 5) sc_law_right.nd rfl (Zzt rfl))
 (A1 (Ae (i := 6) sc_law_right.nd rfl (Zzt rfl) A8)
 (A1 (B3 PassesOwn.never rfl (T5 rfl T.Zvh (A6 (pv 5) (A6 (Ag B4 rfl T.Zve Co (A6 (pv 0) A2)) A2))) (Ac (i := 7) sc_law_right.nd rfl (Zzt rfl))
 (Aa (Hc (i := 6) sc_law_right.nd rfl (Zzt rfl) (Ag (Ke rfl) rfl T.Zsv Ql (A6 A8 (A6 (An Gn (A7 hu (pv 2) (pv 7) (λ_ _ => rfl)) (Ab Zty hr.z rfl (A6 (pv 0) (A6 (pv 1) (A6 (pv 5) (A6 (pv 7) A2)))))) A2))) Es)))
 (Aa (Bm (PW.pt (Jz (Ai Gi (A7 hu (A7 hu (pv 1) (pv 5) (λ_ _ => rfl)) A8 (λ_ _ => rfl)) Cz (Ar _)) (Hv (Ai Km (pv 6) (A7 hu (A7 hu (pv 1) (pv 5) (λ_ _ => rfl)) A8 (λ_ _ => rfl)) (Ar _))))) (Aa (Ak Je)) At)))))
 (Aa (Ak Je)))), ?_⟩
  walk_at "rd"
  have hmin : min (ns.map V.int).length (us.map V.int).length = ts.length := by rw [Zzz, Zzz]; omega
  refine ⟨_, ha, _, hc, ?_⟩
  refine Op (Qf a c _ _) (h8 a b c ns us ts H) ⟨_, _, rfl, (λj hj => absurd hj (Zxn _)), Same.refl H⟩ (λi Z H' _ h => ?_) (λi ys p Z H' hi hy h hp => ?_) (λZ H' h => ?_)
  ·obtain ⟨x, y, rfl, _, sm⟩ := h
   exact ⟨sm _ _ ha, sm _ _ hc⟩
  ·obtain ⟨x, y, rfl, hv, sm⟩ := h
   rw [hmin] at hi
   obtain ⟨u1, u2, e1, e2, rfl⟩ := hy
   obtain ⟨n, en, rfl⟩ := Et e1
   obtain ⟨v, ev, rfl⟩ := Et e2
   have sm' : Same H (upd H' p (.tup [.int n, .int v])) := sm.trans (A4 hp)
   refine gT2 ?_
   generalize upd H' p (.tup [.int n, .int v]) = H2 at sm'
   walk_at "rd"
   have e1 : v1 (ns.getD i 0) (us.getD i 0) = v1 n v := by rw [Au en, Au ev]
   have no : v1 n v = true -> Q (V.bl false) H2 := λe => by
    have q := k H2 sm'
    rw [Y2 hi (e1.trans e)] at q
    exact q
   have yes : v1 n v = false -> h8 a b c ns us ts H (i + 1) [some (V.ref a), some (V.ref b), some (V.ref c), some (V.int n), some (V.int v), none, none, none] H2 := λe => ⟨_, _, rfl, λj hj => by
    by_cases z : j = i
    ·rw [z]; exact e1.trans e
    ·exact hv j (by omega), sm'⟩
   refine Ey (λh1 => no (by unfold v1; rw [h1]; rfl)) (λh1 => ⟨rfl, Ey (λh2 => ⟨rfl, Ey (λh3 => no ?_) (λh3 => yes ?_)⟩) (λh2 => yes ?_)⟩)
   ·have g1 : ¬ v < 0 := λz => h1 (decide_eq_true z)
    have g3 : v ≠ 0 := by simpa using h3
    unfold v1
    rw [h2, decide_eq_true (by omega : 0 < v)]
    simp
   ·have g3 : v = 0 := by simpa using h3
    unfold v1
    rw [g3]
    simp
   ·unfold v1
    rw [Bool.eq_false_iff.mpr h1, Bool.eq_false_iff.mpr h2]
    simp
  ·obtain ⟨x, y, rfl, hv, sm⟩ := h
   rw [hmin] at hv
   walk_at "rd"
   have hc1 : ((ns.map V.int).length : Int).toNat = ts.length := by rw [Zzz, l1]; rfl
   refine ⟨_, .inl (sm _ _ ha), by rw [Zzz]; omega, by rw [Zzz]; omega, ?_⟩
   rw [hc1]
   refine Cb (G6 0 _) (gz a b c ns us ts H) ⟨_, _, _, _, _, rfl, (λj hj => absurd hj (Zxn _)), sm⟩ (λ_ _ _ _ _ => trivial) (λi x Z H2 hi hx h => ?_) (λZ H2 h => ?_)
   ·obtain ⟨x, y, z, w, v, rfl, hw, sm2⟩ := h
    subst hx
    have e0 : (0 : Int) + (i : Int) = ((i : Nat) : Int) := by omega
    rw [e0]
    walk_at "rd"
    refine ⟨_, .inl (sm2 _ _ ha), by omega, by omega, by rw [Zzz]; omega, by rw [Zzz]; omega, ?_⟩
    have hn : (((ns.map V.int).length : Int) - i).toNat = ts.length - i := by rw [Zzz]; omega
    rw [hn]
    refine Cb (G6 _ _) (ni a b c ns us ts x y i H) ⟨_, rfl, sm2⟩ (λ_ _ _ _ _ => trivial) (λj x Z H3 hj hx h => ?_) (λZ H3 h => ?_)
    ·obtain ⟨v, rfl, sm3⟩ := h
     subst hx
     walk_at "rd"
     obtain ⟨uv, euv⟩ := Bk (xs := us) (i := i + j) (by omega)
     have ei : ((i : Int) + j).toNat = i + j := by omega
     refine ⟨_, Ci (.inl (sm3 _ _ hc)) (by omega) (by rw [ei, Zzx, euv]; rfl), a, b, ns, ts, i, j, rfl, sm3 _ _ ha, ht.same sm3, l1, l3, by omega, ok, λH4 sm4 => ⟨uv, rfl, _, rfl, ?_⟩⟩
     have es : (Af j (D0 ns ts us i)).sum + (if uv - Ep ns ts i j > 0 then uv - Ep ns ts i j else 0) = (Af (j + 1) (D0 ns ts us i)).sum := by
      rw [Bf]
      unfold D0 mx
      rw [Au euv]
     rw [es]
     exact ⟨_, rfl, sm3.trans sm4⟩
    ·obtain ⟨v, rfl, sm3⟩ := h
     walk_at "rd"
     obtain ⟨vs3, hb3, rv3⟩ := ht.same sm3
     obtain ⟨t, et⟩ := Bk hi
     obtain ⟨tv, ev, rt⟩ := Hb rv3 et
     obtain ⟨ta, rfl, hta⟩ := Iy rt
     have ib : Ki H3 (.ref b) (.int (i : Int)) (.ref ta) := Ci (.inl hb3) (by omega) (by simpa using ev)
     have ew : Ev ns ts us i = (match t.s with | none => true | some s => decide (Ho ns ts us i <= s)) := by unfold Ev; rw [Au et] <;> (cases t.s <;> rfl)
     have yes : Ev ns ts us i = true -> gz a b c ns us ts H (i + 1) [some (V.ref a), some (V.ref b), some (V.ref c), x, y, some (V.int ↑i), some (V.int (Af (ts.length - i) (D0 ns ts us i)).sum), v] H3 := λe => ⟨_, _, _, _, _, rfl, λj hj => by
      by_cases z : j = i
      ·rw [z]; exact e
      ·exact hw j (by omega), sm3⟩
     refine ⟨_, ib, _, Ad (j := 0) hta rfl, ?_⟩
     cases hs : t.s with
     | none =>
      rw [if_neg (by simp [Ga])]
      exact yes (by rw [ew, hs])
     | some sv =>
      rw [if_pos (by simp [Ga])]
      rw [hs] at hta
      refine ⟨_, ib, _, Ad (j := 0) hta rfl, sv, rfl, Ey (λh1 => ?_) (λh1 => yes ?_)⟩
      ·have h1 := of_decide_eq_true h1
       have q := k H3 sm3
       rw [Jy hv] at q
       have e : ((Zyy ts.length).all λst => Ev ns ts us st) = false := by
        rw [List.all_eq_false]
        refine ⟨i, Zy8.mpr hi, ?_⟩
        rw [ew, hs]
        show ¬ decide (Ho ns ts us i <= sv) = true
        rw [decide_eq_false (by unfold Ho; omega)]
        decide
       rw [e] at q
       exact q
      ·have h1 : ¬ sv < (Af (ts.length - i) (D0 ns ts us i)).sum := λz => h1 (decide_eq_true z)
       rw [ew, hs]
       exact decide_eq_true (by unfold Ho; omega)
   ·obtain ⟨x, y, z, w, v, rfl, hw, sm2⟩ := h
    walk_at "rd"
    have q := k H2 sm2
    rw [Jy hv] at q
    have e : ((Zyy ts.length).all λst => Ev ns ts us st) = true := by
     rw [Zy4]
     intro j hj
     exact hw j (Zy8.mp hj)
    rw [e] at q
    exact q
def sp_law_cost : Sp := λvs H Q _ => ∃ (a b c : Addr) (ns os : List Int) (ts : List Tm), vs = [.ref a, .ref b, .ref c] /\ H a = some (.lst (ns.map V.int)) /\ TmsAt H b ts /\ H c = some (.lst (os.map V.int)) /\ ns.length = ts.length /\ os.length = ts.length /\ ts.length <= 1000 /\ (∀ t ∈ ts, TOk t) /\
 ∀ H', Same H H' -> Q (Ga (Mp ns ts os)) H'
def h9 (a b c : Addr) (ns os : List Int) (ts : List Tm) (H : Hp) (i : Nat) (Z : St) (H' : Hp) : Prop := ∃ (co : Int) (x y : Option V), Z = [some (.ref a), some (.ref b), some (.ref c), some (.int co), x, y] /\ Ck ns ts os i = some co /\ Same H H'
theorem Jp (ns : List Int) (i : Nat) : E4 (ns.map V.int) none (some ((0 : Int) + i + 1)) = (ns.take (i + 1)).map V.int := by
 rw [Qi (by omega), Zwx]
 congr 1
 omega
theorem sc_law_cost : Aj ["_law_wanted", "_law_terms", "_law_orders", "_law_total", "_law_day", "_law_left"] ["_law_wanted", "_law_terms", "_law_orders"] (A9 Eg) := by walk_at "sc"
theorem Rl (F : Fun K "_law_cost" "_law_cost" Eg f fd) (T : Txt mg) (C : Exc K mg c) : FnOk P w K mg base CX0 1 f fd ["_law_wanted", "_law_terms", "_law_orders"] sp_law_cost := by
 refine F.ok sc_law_cost (λvs H Q E h => ?_) (λcdv A outer s H vs Q E hr h => ?_)
 ·obtain ⟨a, b, c, ns, os, ts, rfl, _⟩ := h
  rfl
 ·obtain ⟨a, b, c, ns, os, ts, rfl, ha, ⟨vs, hb, rv⟩, hc, l1, l2, l3, hok, k⟩ := h
  have hu := Bc hr
  refine ⟨_, (A1 (Ae (i := 3) sc_law_cost.nd rfl (Zzt rfl) A8)
 (A1 (B3 PassesOwn.never rfl (Bh rfl T.Zvh (A6 (Ag B4 rfl T.Zve Co (A6 (pv 0) A2)) A2)) (Ac (i := 4) sc_law_cost.nd rfl (Zzt rfl))
 (A1 (Ae (i := 5) sc_law_cost.nd rfl (Zzt rfl) (An Gn (Ag (Eo rfl) rfl T.Ztp Hr (A6 (By Cv (pv 2) Er (Bn (An Bi (pv 4) A8))) A2)) (Ag (Eo rfl) rfl T.Ztp Hr (A6 (By Cv (pv 0) Er (Bn (An Bi (pv 4) A8))) A2))))
 (A1 (Bm (PW.pt (Ls (Ai (K4 hu) (A7 hu (pv 2) (pv 4) (λ_ _ => rfl)) A8 (Ar _)) (Ls (Ai (K4 hu) (pv 5) A8 (Ar _)) (Lr (PW.pt (Jz (Ai Km (A7 hu (pv 2) (pv 4) (λ_ _ => rfl)) A8 (Ar _)) (Hv (Ai Pm (A7 hu (A7 hu (pv 1) (pv 4) (λ_ _ => rfl)) A8 (λ_ _ => rfl)) Cz (Ar _))))))))) (Aa (Ak Cz)) At)
 (A1 (Bm (Ai Km (A7 hu (pv 2) (pv 4) (λ_ _ => rfl)) A8 (Ar _)) (Aa (Hc (i := 3) sc_law_cost.nd rfl (Zzt rfl) (An Bi (A7 hu (A7 hu (pv 1) (pv 4) (λ_ _ => rfl)) A8 (λ_ _ => rfl)) (An Dz (A7 hu (A7 hu (pv 1) (pv 4) (λ_ _ => rfl)) A8 (λ_ _ => rfl)) (A7 hu (pv 2) (pv 4) (λ_ _ => rfl)))) Es)) At)
 (Aa (Hc (i := 3) sc_law_cost.nd rfl (Zzt rfl) (An Dz (A7 hu (A7 hu (pv 1) (pv 4) (λ_ _ => rfl)) A8 (λ_ _ => rfl)) (pv 5)) Es))))))
 (Aa (Ak (pv 3))))), ?_⟩
  walk_at "rd"
  have hvl := Ax rv
  refine ⟨_, .inl ha, by rw [Zzz]; omega, by rw [Zzz]; omega, ?_⟩
  refine Cb (G6 0 _) (h9 a b c ns os ts H) ⟨0, _, _, rfl, rfl, Same.refl H⟩ (λ_ _ _ _ _ => trivial) (λi x Z H' hi hx h => ?_) (λZ H' h => ?_)
  ·obtain ⟨co, x, y, rfl, hco, sm⟩ := h
   subst hx
   have hi : i < ts.length := by rw [<- l1]; simpa using hi
   obtain ⟨n, en⟩ := Bk (xs := ns) (i := i) (by omega)
   obtain ⟨o, eo⟩ := Bk (xs := os) (i := i) (by omega)
   obtain ⟨t, et⟩ := Bk hi
   obtain ⟨tv, ev, rt⟩ := Hb rv et
   obtain ⟨ta, rfl, hta⟩ := Iy rt
   have htk := hok t (Zzn et)
   have hnext := Tv (ns := ns) hco et eo
   have cp : ∀ z : Int, CMulB t.p z := λz => .inl (.inl ⟨by have := htk.p0; omega, by have := htk.p1; omega⟩)
   have ck : ∀ z : Int, CMulB t.k z := λz => .inl (.inl ⟨by have := htk.k0; omega, by have := htk.k1; omega⟩)
   walk_at "rd"
   refine ⟨_, sm _ _ hc, λp hp => ?_⟩
   have u1 : Same H (upd H' p (.lst (E4 (os.map V.int) none (some (0 + (i : Int) + 1))))) := sm.trans (A4 hp)
   refine ⟨os.take (i + 1), by rw [A0, Jp], _, u1 _ _ ha, λq hq => ⟨ns.take (i + 1), by rw [A0, Jp], ?_⟩⟩
   have u2 := u1.trans (A4 (o := .lst (E4 (ns.map V.int) none (some (0 + (i : Int) + 1)))) hq)
   generalize upd (upd H' p (.lst (E4 (os.map V.int) none (some (0 + (i : Int) + 1))))) q (.lst (E4 (ns.map V.int) none (some (0 + (i : Int) + 1)))) = H2 at u2
   have e0 : ((0 : Int) + i).toNat = i := by omega
   have ic : Ki H2 (.ref c) (.int (0 + (i : Int))) (.int o) := Ci (.inl (u2 _ _ hc)) (by omega) (by rw [e0, Zzx, eo]; rfl)
   have ib : Ki H2 (.ref b) (.int (0 + (i : Int))) (.ref ta) := Ci (.inl (u2 _ _ hb)) (by omega) (by rw [e0]; exact ev)
   have hta2 := u2 _ _ hta
   have ed : (os.take (i + 1)).sum - (ns.take (i + 1)).sum = B8 ns os (i + 1) := rfl
   rw [ed]
   have none_of : Ij t o (B8 ns os (i + 1)) co = none -> Q V.non H2 := λe => by
    have q := k H2 u2
    rw [Ow hi (hnext.trans e)] at q
    exact q
   have step : ∀ c', Ij t o (B8 ns os (i + 1)) co = some c' -> h9 a b c ns os ts H (i + 1) [some (V.ref a), some (V.ref b), some (V.ref c), some (V.int c'), some (V.int (0 + (i : Int))), some (V.int (B8 ns os (i + 1)))] H2 := λc' e => ⟨c', _, _, rfl, hnext.trans e, u2⟩
   refine ⟨_, ic, _, rfl, Ey (λh1 => none_of (by unfold Ij; rw [if_pos (.inl (of_decide_eq_true h1))])) (λh1 => Ey (λh2 => none_of (by unfold Ij; rw [if_pos (.inr (of_decide_eq_true h2))])) (λh2 => ?_))⟩
   have hn : ¬ (o < 0 \/ B8 ns os (i + 1) < 0) := λz => by
    rcases z with z | z
    ·exact h1 (decide_eq_true z)
    ·exact h2 (decide_eq_true z)
   refine ⟨_, ic, _, rfl, Ey (λh3 => ?_) (λh3 => ?_)⟩
   ·have h3' := of_decide_eq_true h3
    refine ⟨_, ib, _, Ad (j := 0) hta2 rfl, ?_⟩
    cases hs : t.s with
    | none =>
     simp only [Ga, decide_true, if_true]
     exact none_of (by unfold Ij; rw [if_neg hn, if_pos h3', hs])
    | some sv =>
     rw [if_neg (by simp [Ga])]
     rw [hs] at hta2
     refine ⟨_, ic, _, rfl, ?_⟩
     rw [if_pos h3]
     exact ⟨_, ib, _, Ad (j := 0) hta2 rfl, _, ib, _, Ad (j := 1) hta2 rfl, _, ic, _, rfl, _, rfl, cp _, _, rfl, _, ib, _, Ad (j := 2) hta2 rfl, _, rfl, ck _, step _ (by unfold Ij; rw [if_neg hn, if_pos h3', hs])⟩
   ·refine ⟨_, ic, _, rfl, ?_⟩
    rw [if_neg h3]
    have h3 : ¬ 0 < o := λz => h3 (decide_eq_true z)
    refine ⟨_, ib, _, Ad (j := 2) hta2 rfl, _, rfl, ck _, step _ (by unfold Ij; rw [if_neg hn, if_neg h3])⟩
  ·obtain ⟨co, x, y, rfl, hco, sm⟩ := h
   have e : (ns.map V.int).length = ts.length := by rw [Zzz, l1]
   have e2 : (((ns.map V.int).length : Int)).toNat = ts.length := by rw [e]; rfl
   rw [e2] at hco
   walk_at "rd"
   have q := k H' sm
   rw [show Mp ns ts os = some co from hco] at q
   exact q
end
set_option maxHeartbeats 4000000
section
variable {P : Program} {w : World} {K : Zzu} {mg : Str -> Option Value} {base : Heap} {f : Addr} {fd : FuncData} {c : Cl} {Pt Pu : Addr}
theorem Tc.same {H H' : Hp} {Pu : Addr} (t : Tc H Pu) (s : Same H H') : Tc H' Pu := TblAt.same t s
theorem Tc.at {H : Hp} {Pu : Addr} (t : Tc H Pu) : ∃ u, H Pu = some (.tbl u) := t.elim (λe => ⟨_, e⟩) (λ⟨_, e, _⟩ => ⟨_, e⟩)
theorem kh {H H' : Hp} {Pu : Addr} (t : Tc H Pu) (b : But Pu H H') : KeepU H H' := λa xs e => b a _ (λz => by obtain ⟨u, hu⟩ := t.at; rw [z, hu] at e; cases e) e
theorem Lj {H : Hp} {Pu p : Addr} {kvs : List (Key × V)} {o : HO} (t : Tc H Pu) (h : H p = some (.dK kvs)) : Tc (upd H p o) Pu := by
 rcases t with e | ⟨c, e, e2⟩
 ·exact .inl (by rw [A3 (λz => by rw [z, h] at e; cases e)]; exact e)
 ·exact .inr ⟨c, by rw [A3 (λz => by rw [z, h] at e; cases e)]; exact e, by rw [A3 (λz => by rw [z, h] at e2; cases e2)]; exact e2⟩
theorem Ud {H : Hp} {Pu p : Addr} {xs : List V} {o : HO} (t : Tc H Pu) (h : H p = some (.lst xs)) : Tc (upd H p o) Pu := by
 rcases t with e | ⟨c, e, e2⟩
 ·exact .inl (by rw [A3 (λz => by rw [z, h] at e; cases e)]; exact e)
 ·exact .inr ⟨c, by rw [A3 (λz => by rw [z, h] at e; cases e)]; exact e, by rw [A3 (λz => by rw [z, h] at e2; cases e2)]; exact e2⟩
theorem Pa {H H' : Hp} {Pu st : Addr} (t : Tc H Pu) (b : But st H H') (s : StOk H st) : Tc H' Pu := by
 obtain ⟨ns, _, es⟩ := s
 rcases t with e | ⟨c, e, e2⟩
 ·exact .inl (b _ _ (λz => by rw [z, es] at e; cases e) e)
 ·exact .inr ⟨c, b _ _ (λz => by rw [z, es] at e; cases e) e, b _ _ (λz => by rw [z, es] at e2; cases e2) e2⟩
theorem R1 {H : Hp} {Pu p : Addr} {o : HO} (t : Tc H Pu) (h : H p = some o) (hn : ∀ u, o ≠ .tbl u) : p ≠ Pu := λz => by
 obtain ⟨u, e⟩ := t.at
 rw [<- z, h] at e
 exact hn u (Zza e)
def sp_rises : Sp := λvs H Q _ => ∃ (a : Addr) (cs : List Int), vs = [.ref a] /\ H a = some (.lst (cs.map V.int)) /\ 1 <= cs.length /\ cs.length <= 1000 /\
 ∀ l H', H l = none -> H' l = some (.lst ((Af (cs.length - 1) λi => cs.getD (i + 1) 0 - cs.getD i 0).map V.int)) -> Same H H' -> Q (.ref l) H'
theorem Y1 : Aj ["costs"] ["costs"] (A9 Hu) := by walk_at "sc"
theorem Yj (F : Fun K "rises" "rises" Hu f fd) (T : Txt mg) (C : Exc K mg c) : FnOk P w K mg base CX0 1 f fd ["costs"] sp_rises := by
 refine F.ok Y1 (λvs H Q E h => ?_) (λcdv A outer s H vs Q E hr h => ?_)
 ·obtain ⟨a, cs, rfl, _⟩ := h
  rfl
 ·obtain ⟨a, cs, rfl, ha, l1, l2, k⟩ := h
  have hu := Bc hr
  refine ⟨_, (Aa (Ak (Fe (own := ["ahead", "after"]) (cap := []) rfl (Fb rfl) Om (L7 rfl T.Zsu (A6 (pv 0) (A6 (By Cv (pv 0) (Bn A8) Er) A2)))
 (λ_ _ _ _ _ _ => ⟨(Dx (n := 2) rfl (As (Ac (i := 0) (of_decide_eq_true rfl) rfl (Zzt rfl) (.inr rfl)) (As (Ac (i := 1) (of_decide_eq_true rfl) rfl (Zzt rfl) (.inr rfl)) Cw))), D8, (An Gn (pv 1) (pv 0))⟩)))), ?_⟩
  walk_at "rd"
  refine ⟨_, ha, λp hp => ?_⟩
  have ecut : E4 (cs.map V.int) (some 1) none = (cs.drop 1).map V.int := by rw [Gk (by decide), Zx4]; rfl
  rw [ecut]
  have u := A4 (o := .lst ((cs.drop 1).map V.int)) hp
  refine ⟨_, u _ _ ha, _, A0, ?_⟩
  have hmin : min (cs.map V.int).length ((cs.drop 1).map V.int).length = cs.length - 1 := by rw [Zzz, Zzz, Zym]; omega
  refine Zi (Qf a p _ _) (Ao (by rw [hmin]; omega)) (λi acc H' => acc = (Af i λi => cs.getD (i + 1) 0 - cs.getD i 0).map V.int /\ Same (upd H p (.lst ((cs.drop 1).map V.int))) H') ⟨rfl, Same.refl _⟩ (λi acc H' _ h => ⟨h.2 _ _ (u _ _ ha), h.2 _ _ A0⟩) (λi acc H' h => by rw [h.1, Zzz, Al]; exact Zzw _) (λi ys q acc H2 hi hy h hq => ?_) (λacc H2 h q hq => ?_)
  ·obtain ⟨rfl, sm2⟩ := h
   obtain ⟨y, z, ey, ez, rfl⟩ := hy
   obtain ⟨v, ev, rfl⟩ := Et ey
   obtain ⟨x, ex, rfl⟩ := Et ez
   rw [Zyc, Nat.add_comm] at ex
   refine gT2 ?_
   walk_at "rd"
   refine ⟨?_, sm2.trans (A4 hq)⟩
   rw [Fq, Zzg, Au ev, Au ex]
   rfl
  ·obtain ⟨rfl, sm2⟩ := h
   rw [hmin]
   exact k q _ (Same.free (u.trans sm2) hq) A0 (u.trans (sm2.trans (A4 hq)))
def G2 (c : Cl) (Pu : Addr) : Sp := λvs H Q E => ∃ (d : Addr) (ks : List Nat) (f : Nat -> Int) (n : Int), vs = [.ref d, .int n] /\ H d = some (.dK (fnI ks f)) /\ (n ≠ 0 -> ks = [] -> E (.ref c.NoDay) none H) /\ Tc H Pu /\ (n = 0 -> Q .non H) /\
 (n ≠ 0 -> ∀ (k : Nat) (H' : Hp), k ∈ ks -> (∀ j ∈ ks, f k <= f j) -> Tc H' Pu -> But Pu H H' -> Q (.int k) H')
theorem J6 : Aj ["ways", "amount"] ["ways", "amount"] (A9 Bx) := by walk_at "sc"
theorem Jg {ct : Addr} (F : Fun K "cheapest_start" "cheapest_start" Bx f fd) (T : Txt mg) (C : Exc K mg c) (Cd : Qs K f ct Pu) (hB : B1 mg base) : FnOk P w K mg base (CXE P w) 1 f fd ["ways", "amount"] (G2 c Pu) := by
 refine F.okCX Cd J6 (λvs H Q E h => ?_) (λA outer s H vs Q E hr h => ?_)
 ·obtain ⟨d, ks, f, n, rfl, _⟩ := h
  rfl
 ·obtain ⟨d, ks, f, n, rfl, hd, hne, tb, k0, k'⟩ := h
  have hu := Bc hr
  refine ⟨_, (A1 (Bm (Ai (Dj hu) (pv 1) A8 (Ar _)) (Aa (Ak Cz)) At)
 (A1 (Bm (T4 (Uk (pv 0))) (Aa (Jb Uv rfl rfl C.Zso C.Ztb (A6 Cm A2))) At)
 (Aa (Ak (bp (i := 0) (nm := "start") (lv := "ways") rfl rfl T.Zsj (pv 0) hr rfl Cd.hd hB rfl rfl rfl (λ_ h => Kx rfl h) ⟨rfl, rfl, rfl, rfl, rfl, by decide⟩ (λ_ _ _ _ _ => rfl)))))), ?_⟩
  walk_at "rd"
  refine ⟨rfl, Ey (λh => k0 (of_decide_eq_true h)) (λh => ?_)⟩
  have h : n ≠ 0 := λz => h (decide_eq_true z)
  refine ⟨_, hd, ?_⟩
  by_cases hk : ks = []
  ·have he : (fnI ks f).isEmpty = true := by rw [hk]; rfl
   rw [he, if_pos (by decide)]
   exact ⟨by decide, hne h hk⟩
  have he : (fnI ks f).isEmpty = false := by
   cases ks with
   | nil => exact absurd rfl hk
   | cons a r => rfl
  rw [he, if_neg (by decide)]
  refine ⟨_, hd, ks.map (λj : Nat => (j : Int)), ?_, ?_, (λk => f k.toNat), λk hk => ?_, tb, λk H2 hk hle tb2 bt => ?_⟩
  ·rw [Z8, Zxt]
   rfl
  ·intro z
   exact hk (List.map_eq_nil_iff.mp z)
  ·obtain ⟨j, hj, rfl⟩ := Zzl.mp hk
   exact Ic hj
  ·obtain ⟨j, hj, rfl⟩ := Zzl.mp hk
   refine k' h j H2 hj (λi hi => ?_) tb2 bt
   exact hle (i : Int) (Zzl.mpr ⟨i, hi, rfl⟩)
theorem jf {n : Nat} {i : Int} (h : i.toNat < n) (h0 : 0 <= i) : ixN n i = some i.toNat := by
 unfold ixN
 rw [if_pos h0, if_pos (by omega)]
def soV : Option Nat -> V
 | none => .non
 | some j => .int j
def sp_orders_by : Sp := λvs H Q _ => ∃ (a s : Addr) (ns : List Int) (S : List (Option Nat)), vs = [.ref a, .ref s] /\ H a = some (.lst (ns.map V.int)) /\ H s = some (.lst (S.map soV)) /\ S.length = ns.length /\ ns.length <= 1000 /\ (∀ i j : Nat, S[i]? = some (some j) -> j <= i) /\
 ∀ (l : Addr) (os : List Int) (H' : Hp), H l = none -> H' l = some (.lst (os.map V.int)) -> os.length = ns.length -> IsOrd ns S ns.length (λx => os.getD x 0) -> Same H H' -> Q (.ref l) H'
def ObW (a s l : Addr) (ns : List Int) (S : List (Option Nat)) (H : Hp) (m : Nat) (Z : St) (H' : Hp) : Prop := ∃ (os : List Int) (x : Option V), Z = [some (.ref a), some (.ref s), some (.ref l), some (.int ((m : Int) - 1)), x] /\ m <= ns.length /\ H' l = some (.lst (os.map V.int)) /\ os.length = ns.length /\ (∀ x, x < m -> os.getD x 0 = 0) /\ (∀ g, IsOrd ns S m g -> IsOrd ns S ns.length λx => if x < m then g x else os.getD x 0) /\ Same H H'
theorem sc_orders_by : Aj ["wanted", "starts", "told", "day", "start"] ["wanted", "starts"] (A9 Dm) := by walk_at "sc"
theorem Po (F : Fun K "orders_by" "orders_by" Dm f fd) (T : Txt mg) (C : Exc K mg c) : FnOk P w K mg base CX0 1 f fd ["wanted", "starts"] sp_orders_by := by
 refine F.ok sc_orders_by (λvs H Q E h => ?_) (λcdv A outer s H vs Q E hr h => ?_)
 ·obtain ⟨a, s, ns, S, rfl, _⟩ := h
  rfl
 ·obtain ⟨a, so, ns, S, rfl, ha, hs, l1, l2, hj, k⟩ := h
  have hu := Bc hr
  refine ⟨_, (A1 (Ae (i := 2) sc_orders_by.nd rfl (Zzt rfl) (An Pl (Bt (A6 A8 A2)) (Ag B4 rfl T.Zve Co (A6 (pv 0) A2))))
 (A1 (Ae (i := 3) sc_orders_by.nd rfl (Zzt rfl) (An Gn (Ag B4 rfl T.Zve Co (A6 (pv 0) A2)) A8))
 (A1 (Y4 PassesOwn.never (Ai gg (pv 3) A8 (Ar _)) (A1 (Ae (i := 4) sc_orders_by.nd rfl (Zzt rfl) (A7 hu (pv 1) (pv 3) (λ_ _ => rfl)))
 (A1 (Bm (Ai Gi (pv 4) Cz (Ar _)) (A1 (Ek (Ag (Eo rfl) rfl T.Ztp Hr (A6 (By Cv (pv 0) (Bn (pv 4)) (Bn (An Bi (pv 3) A8))) A2)) (Fu (pv 2) (pv 4) Fp))
 (Aa (Ae (i := 3) sc_orders_by.nd rfl (Zzt rfl) (pv 4)))) At)
 (Aa (Hc (i := 3) sc_orders_by.nd rfl (Zzt rfl) A8 da)))))
 (Aa (Ak (pv 2)))))), ?_⟩
  walk_at "rd"
  refine ⟨by decide, λp hp => ?_⟩
  have u := A4 (o := .lst [.int 0]) hp
  have hz : (((ns.map V.int).length : Int)).toNat = ns.length := by rw [Zzz]; rfl
  refine ⟨_, .inl (u _ _ ha), _, A0, by rw [Zzz]; omega, by rw [Zzz]; omega, by rw [hz]; exact Ao (by simp; omega), λl hl => ?_⟩
  rw [hz, J8]
  have u2 := u.trans (A4 (o := .lst ((Af ns.length λ_ => 0).map V.int)) hl)
  have hlH : H l = none := Same.free u hl
  have hl2 : upd (upd H p (.lst [.int 0])) l (.lst ((Af ns.length λ_ => 0).map V.int)) l = _ := A0
  generalize upd (upd H p (.lst [.int 0])) l (.lst ((Af ns.length λ_ => 0).map V.int)) = H1 at u2 hl2
  refine ⟨_, .inl (u2 _ _ ha), ?_⟩
  have el : ((ns.map V.int).length : Int) - 1 = (ns.length : Int) - 1 := by rw [Zzz]
  rw [el]
  have z0 : ∀ x, (Af ns.length λ_ => (0 : Int)).getD x 0 = 0 := λx => by
   by_cases hx : x < ns.length
   ·exact Cy hx
   ·rw [Zzv, Zz2 (by rw [Al]; omega)]; rfl
  refine ⟨ObW a so l ns S H, ⟨ns.length, _, _, rfl, Zzw _, hl2, Al _ _, (λx _ => z0 x), (λg hg => ?_), u2⟩, λm Z H2 h => ?_⟩
  ·have e : (λx => if x < ns.length then g x else (Af ns.length λ_ => (0 : Int)).getD x 0) = g := funext λx => by
    by_cases hx : x < ns.length
    ·rw [if_pos hx]
    ·rw [if_neg hx, z0, hg.out x (by omega)]
   rw [e]
   exact hg
  obtain ⟨os, x, rfl, hm, hl3, lo, oz, og, sm⟩ := h
  walk_at "rd"
  refine Ey (λh1 => ?_) (λh1 => k l os H2 hlH hl3 lo (by
   have h1 : ¬ (0 : Int) <= (m : Int) - 1 := λz => h1 (decide_eq_true z)
   have em : m = 0 := by omega
   subst em
   have := og _ .zero
   have e : (λx => if x < 0 then (0 : Int) else os.getD x 0) = λx => os.getD x 0 := funext λx => if_neg (Zxn _)
   rw [e] at this
   exact this) sm)
  have h1 := of_decide_eq_true h1
  obtain ⟨d, rfl⟩ : ∃ d : Nat, m = d + 1 := ⟨m - 1, by omega⟩
  have ed : ((d + 1 : Nat) : Int) - 1 = (d : Int) := by omega
  rw [ed]
  refine ⟨λZ' H' => ∃ m', m' < d + 1 /\ ObW a so l ns S H m' Z' H', λ_ _ h => h, ?_⟩
  obtain ⟨sd, esd⟩ := Bk (xs := S) (i := d) (by omega)
  refine ⟨_, Ci (.inl (sm _ _ hs)) (by omega) (v := soV sd) (by rw [Zzx, Zxo, esd]; rfl), ?_⟩
  cases sd with
  | none =>
   rw [if_neg (by simp [soV])]
   refine ⟨d, by omega, os, _, rfl, by omega, hl3, lo, λx hx => oz x (by omega), λg hg => ?_, sm⟩
   have esd' : S.getD d none = none := Au esd
   have e : (λx => if x < d then g x else os.getD x 0) = λx => if x < d + 1 then g x else os.getD x 0 := funext λx => by
    by_cases h1 : x < d
    ·rw [if_pos h1, if_pos (by omega)]
    ·rw [if_neg h1]
     by_cases h2 : x < d + 1
     ·rw [if_pos h2, oz x h2, hg.out x (by omega)]
     ·rw [if_neg h2]
   rw [e]
   exact og g (.rest esd' hg)
  | some j =>
   have hjd := hj d j esd
   rw [if_pos (by simp [soV])]
   have ems : E4 (ns.map V.int) (some (j : Int)) (some ((d : Int) + 1)) = ((ns.drop j).take (d + 1 - j)).map V.int := by
    rw [Lb (by omega) (by omega), Zwx, Zx4]
    congr 1
   have esd' : S.getD d none = some j := Au esd
   have es := R4 (ns := ns) (j := j) (m := d + 1 - j) (by omega)
   have gs : ∀ x, (os.set j ((ns.drop j).take (d + 1 - j)).sum).getD x 0 = if x = j then Fy ns j (d + 1 - j) else os.getD x 0 := λx => by
    rw [Zzv, List.getElem?_set]
    by_cases e : j = x
    ·rw [if_pos e, if_pos (by omega), if_pos e.symm, es]
     rfl
    ·rw [if_neg e, if_neg (λz => e z.symm), Zzv]
   refine ⟨(j : Int), rfl, _, sm _ _ ha, λq hq => ⟨(ns.drop j).take (d + 1 - j), by rw [A0, ems], _, (j : Int), rfl, A4 hq _ _ hl3, j, ?_, (j : Int), rfl, j, by omega, os.set j ((ns.drop j).take (d + 1 - j)).sum, _, rfl, by omega, by rw [A0, List.map_set], by rw [Zw0]; exact lo, λx hx => ?_, λg hg => ?_, λb o eb => ?_⟩⟩
   ·have := jf (n := (os.map V.int).length) (i := (j : Int)) (by rw [Zzz]; omega) (by omega)
    simpa using this
   ·rw [gs, if_neg (by omega)]
    exact oz x (by omega)
   ·have e : (λx => if x < j then g x else (os.set j ((ns.drop j).take (d + 1 - j)).sum).getD x 0) = λx => if x < d + 1 then (λx => if x = j then Fy ns j (d + 1 - j) else g x) x else os.getD x 0 := funext λx => by
     rw [gs]
     by_cases h1 : x < j
     ·rw [if_pos h1, if_pos (by omega)]
      show _ = if x = j then _ else _
      rw [if_neg (by omega)]
     ·rw [if_neg h1]
      by_cases h2 : x < d + 1
      ·rw [if_pos h2]
       show _ = if x = j then _ else g x
       by_cases h3 : x = j
       ·rw [if_pos h3, if_pos h3]
       ·rw [if_neg h3, if_neg h3, oz x h2, hg.out x (by omega)]
      ·rw [if_neg h2, if_neg (by omega)]
    rw [e]
    exact og _ (.last esd' hjd hg)
   ·rw [A3 (A5 eb hlH)]
    exact A4 hq _ _ (sm b o eb)
def Iu (ts : List Tm) (j : Nat) (n : Int) : Prop := n = 0 \/ ∃ i t, i <= j /\ ts[i]? = some t /\ t.s.isNone = false
def Kk (c : Cl) (Pu : Addr) : Sp := λvs H Q E => ∃ (a b : Addr) (ns : List Int) (ts : List Tm), vs = [.ref a, .ref b] /\ H a = some (.lst (ns.map V.int)) /\ TmsAt H b ts /\ ns.length = ts.length /\ ts.length <= 900 /\ (∀ t ∈ ts, TOk t) /\ ((∃ (j : Nat) (n : Int), ns[j]? = some n /\ ¬ Iu ts j n) -> ∀ H', Tc H' Pu -> But Pu H H' -> E (.ref c.NoDay) none H') /\ Tc H Pu /\
 ∀ (t o v : Addr) (cs : List Int) (S : List (Option Nat)) (os : List Int) (H' : Hp), H' t = some (.tup [.int (cs.getD ts.length 0), .ref o, .ref v]) -> Least ns ts ts.length cs S -> H' v = some (.lst ((Af ts.length λi => cs.getD (i + 1) 0 - cs.getD i 0).map V.int)) -> H' o = some (.lst (os.map V.int)) -> os.length = ts.length -> IsOrd ns S ts.length (λx => os.getD x 0) -> H v = none -> H o = none -> v ≠ o -> Tc H' Pu -> But Pu H H' -> Q (.ref t) H'
def Mid (Pu a b c s w e : Addr) (H : Hp) (i : Nat) (n : Int) (ks : List Nat) (fw fe : Nat -> Int) (cs : List Int) (S : List (Option Nat)) (Z : St) (H' : Hp) : Prop := ∃ x8 x9 : Option V, Z = [some (.ref a), some (.ref b), some (.ref c), some (.ref s), some (.ref w), some (.ref e), some (.int i), some (.int n), x8, x9] /\
 H' c = some (.lst (cs.map V.int)) /\ H' s = some (.lst (S.map soV)) /\ H' w = some (.dK (fnI ks fw)) /\ H' e = some (.dK (fnI ks fe)) /\ Tc H' Pu /\ But Pu H H'
def nu (Pu a b c s w e : Addr) (ns : List Int) (ts : List Tm) (H : Hp) (i : Nat) (Z : St) (H' : Hp) : Prop := ∃ (cs : List Int) (S : List (Option Nat)) (x6 x7 x8 x9 : Option V), Z = [some (.ref a), some (.ref b), some (.ref c), some (.ref s), some (.ref w), some (.ref e), x6, x7, x8, x9] /\ Least ns ts i cs S /\
 H' c = some (.lst (cs.map V.int)) /\ H' s = some (.lst (S.map soV)) /\ H' w = some (.dK (fnI (B5 ts i) λj => Cu ns ts cs j i)) /\ H' e = some (.dK (fnI (B5 ts i) λj => Bj ts j (i - j))) /\ Tc H' Pu /\ But Pu H H'
def nh (Pu a b c s w e : Addr) (ns : List Int) (ts : List Tm) (H : Hp) (i : Nat) (n : Int) (cs : List Int) (S : List (Option Nat)) (ob : Obj) (m : Nat) (Z : St) (H' : Hp) : Prop := ∃ x8 x9 : Option V, Z = [some (.ref a), some (.ref b), some (.ref c), some (.ref s), some (.ref w), some (.ref e), some (.int i), some (.int n), x8, x9] /\
 H' e = some (.frz ob (.dK (fnI (B5 ts (i + 1)) λj => Bj ts j (i - j)))) /\ H' w = some (.dK (fnI (B5 ts (i + 1)) λj => if j ∈ (B5 ts (i + 1)).take m then Cu ns ts cs j (i + 1) else Cu ns ts cs j i)) /\ H' c = some (.lst (cs.map V.int)) /\ H' s = some (.lst (S.map soV)) /\ Tc H' Pu /\ But Pu H H'
def ng (Pu a b c s w e l : Addr) (ns : List Int) (ts : List Tm) (H : Hp) (i : Nat) (n : Int) (cs cs' : List Int) (S : List (Option Nat)) (m : Nat) (Z : St) (H' : Hp) : Prop := ∃ x8 x9 : Option V, Z = [some (.ref a), some (.ref b), some (.ref c), some (.ref s), some (.ref w), some (.ref e), some (.int i), some (.int n), x8, x9] /\
 H' l = some (.lst ((B5 ts (i + 1)).map λj : Nat => V.int (j : Int))) /\ H' w = some (.dK (fnI (B5 ts (i + 1)) λj => Cu ns ts cs j (i + 1))) /\ H' e = some (.dK (fnI (B5 ts (i + 1)) λj => if j ∈ (B5 ts (i + 1)).take m then Bj ts j (i + 1 - j) else Bj ts j (i - j))) /\ H' c = some (.lst (cs'.map V.int)) /\ H' s = some (.lst (S.map soV)) /\ Tc H' Pu /\ But Pu H H'
theorem sc_cheapest : Aj ["wanted", "terms", "costs", "starts", "ways", "each", "day", "amount", "start", "last"] ["wanted", "terms"] (A9 Eh) := by walk_at "sc"
theorem Rm (F : Fun K "cheapest" "cheapest" Eh f fd) (T : Txt mg) (C : Exc K mg c) (Zub : HasX P w K mg base "cheapest_start" 1 ["ways", "amount"] (G2 c Pu)) (Zst : Has P w K mg base "rises" 1 ["costs"] sp_rises) (Ztk : Has P w K mg base "orders_by" 1 ["wanted", "starts"] sp_orders_by) : FnOk P w K mg base (CXE P w) 2 f fd ["wanted", "terms"] (Kk c Pu) := by
 refine F.okX sc_cheapest (λvs H Q E h => ?_) (λcdv A outer s H vs Q E hr h => ?_)
 ·obtain ⟨a, b, ns, ts, rfl, _⟩ := h
  rfl
 ·obtain ⟨a, b, ns, ts, rfl, ha, ht, l1, l2, ok, abl, tb, k⟩ := h
  have hu := Bc hr
  refine ⟨_, (A1 (Ae (i := 2) sc_cheapest.nd rfl (Zzt rfl) (Bt (A6 A8 A2)))
 (A1 (Ae (i := 3) sc_cheapest.nd rfl (Zzt rfl) (Bt A2))
 (A1 (Ae (i := 4) sc_cheapest.nd rfl (Zzt rfl) Gh)
 (A1 (Ae (i := 5) sc_cheapest.nd rfl (Zzt rfl) Gh)
 (A1 (B3 PassesOwn.leaving rfl (Pj rfl T.Ztn (A6 (pv 0) A2)) (Dx (n := 2) rfl (As (Ac (i := 6) sc_cheapest.nd rfl (Zzt rfl)) (As (Ac (i := 7) sc_cheapest.nd rfl (Zzt rfl)) Cw)))
 (A1 (Bm (Ai Gi (A7 hu (A7 hu (pv 1) (pv 6) (λ_ _ => rfl)) (Aq rfl T.Zu1) (λ_ _ => rfl)) Cz (Ar _)) (A1 (Ek (An Bi (A7 hu (pv 2) (pv 6) (λ_ _ => rfl)) (A7 hu (A7 hu (pv 1) (pv 6) (λ_ _ => rfl)) (Aq rfl T.Zu1) (λ_ _ => rfl))) (Fu (pv 4) (pv 6) (Dv hu)))
 (Aa (Ek (A7 hu (A7 hu (pv 1) (pv 6) (λ_ _ => rfl)) (Aq rfl T.Ztx) (λ_ _ => rfl)) (Fu (pv 5) (pv 6) (Dv hu))))) At)
 (A1 (bi (H0 := H) rfl (B3 PassesOwn.leaving rfl (Y6 (pv 5)) (Ac (i := 8) sc_cheapest.nd rfl (Zzt rfl))
 (Aa (L6 (pv 4) (pv 8) (S4 hu) (An Dz (A7 hu (pv 5) (pv 8) (λ_ _ => rfl)) (pv 7)) Es (Dv hu)))))
 (A1 (Ae (i := 9) sc_cheapest.nd rfl (Zzt rfl) (He Zub Um hr.z rfl (A6 (pv 4) (A6 (pv 7) A2))))
 (A1 (Ce (G3 Zyw Zyt Zys C8 (pv 3) (A6 (pv 9) A2)))
 (A1 (Ce (G3 Zyw Zyt Zys C8 (pv 2) (A6 (Rc (Ai Pm (pv 9) Cz (Ar _)) (A7 hu (pv 2) (pv 6) (λ_ _ => rfl)) (A7 hu (pv 4) (pv 9) (λ_ _ => rfl))) A2)))
 (Aa (B3 PassesOwn.leaving rfl (Ft (D9 (U0 rfl) rfl T.Zsl Ve (A6 (pv 5) A2))) (Ac (i := 8) sc_cheapest.nd rfl (Zzt rfl))
 (Aa (L6 (pv 5) (pv 8) (S4 hu) (A7 hu (A7 hu (pv 1) (pv 6) (λ_ _ => rfl)) (Aq rfl T.Ztd) (λ_ _ => rfl)) Es (Dv hu)))))))))))
 (Aa (Ak (Dy (A6 (A7 hu (pv 2) (Oc Ju A8) (λ_ _ => rfl)) (A6 (Ab Ztk hr.z rfl (A6 (pv 0) (A6 (pv 3) A2))) (A6 (Ab Zst hr.z rfl (A6 (pv 2) A2)) A2))))))))))), ?_⟩
  walk_at "rd"
  have na : a ≠ Pu := R1 tb ha (λu z => by cases z)
  have nb : b ≠ Pu := by obtain ⟨vs, hb, _⟩ := ht; exact R1 tb hb (λu z => by cases z)
  have keep : ∀ H', But Pu H H' -> H' a = some (.lst (ns.map V.int)) /\ TmsAt H' b ts := λH' bt => ⟨bt _ _ na ha, by
   obtain ⟨vs, hb, rv⟩ := ht
   exact TmsAt.ku (a := b) (kh tb bt) rv (bt _ _ nb hb)⟩
  refine ⟨by decide, λc hc => ⟨by decide, λs' hs => ?_⟩⟩
  intro w' hw e' he
  have u1 := A4 (o := .lst [.int 0]) hc
  have u2 := u1.trans (A4 (o := .lst []) hs)
  have u3 := u2.trans (A4 (o := .dK []) hw)
  have u4 := u3.trans (A4 (o := .dK []) he)
  have nsc : c ≠ s' := A5 A0 hs
  have nwe : w' ≠ e' := A5 A0 he
  have hsH : H s' = none := Same.free u1 hs
  have hwH : H w' = none := Same.free u2 hw
  have heH : H e' = none := Same.free u3 he
  have c4 := A4 (o := .dK []) he _ _ (A4 (o := .dK []) hw _ _ (A4 (o := .lst []) hs c _ A0))
  have s4 := A4 (o := .dK []) he _ _ (A4 (o := .dK []) hw s' _ A0)
  have w4 := A4 (o := .dK []) he w' _ A0
  have e4 : upd (upd (upd (upd H c (.lst [.int 0])) s' (.lst [])) w' (.dK [])) e' (.dK []) e' = _ := A0
  generalize upd (upd (upd (upd H c (.lst [.int 0])) s' (.lst [])) w' (.dK [])) e' (.dK []) = H1 at u4 c4 s4 w4 e4
  have b4 : But Pu H H1 := Ha u4
  refine ⟨_, (keep _ b4).1, ?_⟩
  have L0 : Least ns ts 0 [0] [] := ⟨rfl, rfl, rfl, λi hi => absurd hi (Zxn _), λi hi => absurd hi (Zxn _)⟩
  refine Op (Z4 a _) (nu Pu a b c s' w' e' ns ts H) ⟨[0], [], _, _, _, _, rfl, L0, c4, s4, w4, e4, tb.same u4, b4⟩ (λi Z H' _ h => ?_) (λi ys p Z H' hi hy h hp => ?_) (λZ H' h => ?_)
  ·obtain ⟨cs, S, x6, x7, x8, x9, rfl, _, _, _, _, _, _, bt⟩ := h
   exact (keep _ bt).1
  ·obtain ⟨cs, S, x6, x7, x8, x9, rfl, L, hc5, hs5, hw5, he5, tb5, b5⟩ := h
   obtain ⟨y, ey, rfl⟩ := hy
   obtain ⟨n, en, rfl⟩ := Et ey
   have hi : i < ts.length := by rw [<- l1]; simpa using hi
   have up := A4 (o := .tup [.int i, .int n]) hp
   have m0 : ∀ x8 x9, Mid Pu a b c s' w' e' H i n (B5 ts i) (λj => Cu ns ts cs j i) (λj => Bj ts j (i - j)) cs S [some (.ref a), some (.ref b), some (.ref c), some (.ref s'), some (.ref w'), some (.ref e'), some (.int i), some (.int n), x8, x9] (upd H' p (.tup [.int i, .int n])) := λx8 x9 => ⟨_, _, rfl, up _ _ hc5, up _ _ hs5, up _ _ hw5, up _ _ he5, tb5.same up, b5.same up⟩
   refine gT2 ?_
   have m0 := m0 x8 x9
   generalize upd H' p (.tup [.int i, .int n]) = H5 at m0
   have lc := L.lc
   have ls := L.ls
   refine jm (Mid Pu a b c s' w' e' H i n (B5 ts (i + 1)) (λj => Cu ns ts cs j i) (λj => Bj ts j (i - j)) cs S) ?_ (λKK hK => ?_)
   ·rintro σ6 H6 ⟨y8, y9, rfl, hc6, hs6, hw6, he6, tb6, b6⟩
    refine jm (Mid Pu a b c s' w' e' H i n (B5 ts (i + 1)) (λj => Cu ns ts cs j (i + 1)) (λj => Bj ts j (i - j)) cs S) ?_ (λKK hK => ?_)
    ·rintro σ7 H7 ⟨y8, y9, rfl, hc7, hs7, hw7, he7, tb7, b7⟩
     refine cut3 (λσ8 H8 => ∃ cs' S', Least ns ts (i + 1) cs' S' /\ (∀ j, j <= i -> Cu ns ts cs' j (i + 1) = Cu ns ts cs j (i + 1)) /\ Mid Pu a b c s' w' e' H i n (B5 ts (i + 1)) (λj => Cu ns ts cs j (i + 1)) (λj => Bj ts j (i - j)) cs' S' σ8 H8) ?_ (λKK hK => ?_)
     ·rintro σ8 H8 ⟨cs', S', L', hway, z8, z9, rfl, hc8, hs8, hw8, he8, tb8, b8⟩
      walk_at "rd"
      have ndk : (B5 ts (i + 1)).Nodup := List.filter_sublist.nodup List.nodup_range
      have hkl : (B5 ts (i + 1)).length <= 1000 := by have := Jr ts (i + 1); omega
      refine ⟨_, .inl he8, by rw [Ie]; exact hkl, λl hl => ⟨_, A0, ?_⟩⟩
      have ekeys : (fnI (B5 ts (i + 1)) λj => Bj ts j (i - j)).map (λp => kV p.1) = (B5 ts (i + 1)).map λj : Nat => V.int (j : Int) := by unfold fnI; rw [Zxt]; rfl
      rw [ekeys]
      have ul := A4 (o := .lst ((B5 ts (i + 1)).map λj : Nat => V.int (j : Int))) hl
      refine Cb (Gx l _) (ng Pu a b c s' w' e' l ns ts H i n cs cs' S') ⟨_, _, rfl, A0, ul _ _ hw8, ?_, ul _ _ hc8, ul _ _ hs8, tb8.same ul, b8.same ul⟩ (λm Z H' _ h => ?_) (λm x Z H9 hm hx h => ?_) (λZ H9 h => ?_)
      ·rw [ul _ _ he8]
       exact congrArg (λz => some (HO.dK z)) (Da λj hj => by rw [if_neg (by simp)])
      ·obtain ⟨_, _, _, e, _⟩ := h
       exact e
      ·obtain ⟨q8, q9, rfl, hl9, hw9, he9, hc9, hs9, tb9, b9⟩ := h
       obtain ⟨j, ej, rfl⟩ := Et hx
       walk_at "rd"
       have hjm : j ∈ B5 ts (i + 1) := Zzn ej
       have hji := (mem_able.mp hjm).1
       have nin : j ∉ (B5 ts (i + 1)).take m := λz => by
        obtain ⟨q, hq⟩ := Zxu.mp z
        rw [Zxa] at hq
        split at hq
        ·rename_i hlt
         have := (Zwu (Zzj.mp hq).1 ndk).mp (hq.trans ej.symm)
         omega
        ·cases hq
       obtain ⟨vs, hb, rv⟩ := (keep _ b9).2
       obtain ⟨t, et⟩ := Bk hi
       obtain ⟨tv, ev, rt⟩ := Hb rv et
       obtain ⟨ta, rfl, hta⟩ := Iy rt
       have lw : ∀ f : Nat -> Int, (fnI (B5 ts (i + 1)) f).length < sizeLine := λf => Zyq (m := 1000) (by rw [Ie]; exact hkl) (by decide)
       refine ⟨_, nk j, rfl, he9, _, Ic hjm, _, Ci (.inl hb) (by omega) (by simpa using ev), _, Ad (j := 2) hta rfl, _, rfl, _, rfl, _, nk j, rfl, he9, lw _, _, _, rfl, ?_, ?_, ?_, ?_, ?_, ?_, b9.upd heH⟩
       ·rw [A3 (λz => by rw [z, he9] at hl9; cases hl9)]; exact hl9
       ·rw [A3 nwe]; exact hw9
       ·rw [A0, V4 hjm]
        refine congrArg (λz => some (HO.dK z)) (Da λq hq => ?_)
        rw [Zz8, ej]
        by_cases z : q = j
        ·subst z
         rw [if_pos rfl, if_neg nin, if_pos (by simp)]
         have e1 : i + 1 - q = (i - q) + 1 := by omega
         rw [e1]
         show _ = Bj ts q (i - q) + (ts.getD (q + (i - q)) tm0).k
         have e2 : q + (i - q) = i := by omega
         rw [e2, Au et]
        ·rw [if_neg z]
         by_cases y : q ∈ (B5 ts (i + 1)).take m
         ·rw [if_pos y, if_pos (Zyf _ y)]
         ·rw [if_neg y, if_neg (λx => by
           rcases Zyu.mp x with x | x
           ·exact y x
           ·exact z (Zzb.mp x))]
       ·rw [A3 (λz => by rw [z, he9] at hc9; cases hc9)]; exact hc9
       ·rw [A3 (λz => by rw [z, he9] at hs9; cases hs9)]; exact hs9
       ·exact Lj tb9 he9
      ·obtain ⟨q8, q9, rfl, hl9, hw9, he9, hc9, hs9, tb9, b9⟩ := h
       refine ⟨cs', S', _, _, _, _, rfl, L', hc9, hs9, ?_, ?_, tb9, b9⟩
       ·rw [hw9]
        exact congrArg (λz => some (HO.dK z)) (Da λq hq => (hway q (by have := (mem_able.mp hq).1; omega)).symm)
       ·rw [he9]
        refine congrArg (λz => some (HO.dK z)) (Da λq hq => ?_)
        rw [Zzz, Zxl (Zzw _), if_pos hq]
     ·walk_at "rd"
      have eng : ns.getD i 0 = n := Au en
      have ls7 : (S.map soV).length < sizeLine := Zyq (m := 1000) (by rw [Zzz]; omega) (by decide)
      have lc7 : (cs.map V.int).length < sizeLine := Zyq (m := 1000) (by rw [Zzz]; omega) (by decide)
      have cns : c ≠ s' := nsc
      have wns : w' ≠ s' := λz => by rw [z, hs7] at hw7; cases hw7
      have wnc : w' ≠ c := λz => by rw [z, hc7] at hw7; cases hw7
      have ens : e' ≠ s' := λz => by rw [z, hs7] at he7; cases he7
      have enc : e' ≠ c := λz => by rw [z, hc7] at he7; cases he7
      have fin : ∀ (H8 : Hp) (x : V) (so : Option Nat) (cv : Int) (y9 : Option V), H8 c = some (.lst (cs.map V.int)) -> H8 s' = some (.lst (S.map soV)) -> H8 w' = some (.dK (fnI (B5 ts (i + 1)) λj => Cu ns ts cs j (i + 1))) -> H8 e' = some (.dK (fnI (B5 ts (i + 1)) λj => Bj ts j (i - j))) -> Tc H8 Pu -> But Pu H H8 ->
        Least ns ts (i + 1) (cs ++ [cv]) (S ++ [so]) -> KK [some (.ref a), some (.ref b), some (.ref c), some (.ref s'), some (.ref w'), some (.ref e'), some (.int i), some (.int n), y8, y9] (upd (upd H8 s' (.lst (S.map soV ++ [soV so]))) c (.lst (cs.map V.int ++ [.int cv]))) := λH8 x so cv y9 h1 h2 h3 h4 t8 b8 L' => by
       refine hK _ _ ⟨cs ++ [cv], S ++ [so], L', λj hj => Fm (by omega), _, _, rfl, ?_, ?_, ?_, ?_, ?_, ?_⟩
       ·rw [A0, Zzg]; rfl
       ·rw [A3 (Zzf cns), A0, Zzg]; rfl
       ·rw [A3 wnc, A3 wns]; exact h3
       ·rw [A3 enc, A3 ens]; exact h4
       ·exact Ud (Ud t8 h2) (by rw [A3 cns]; exact h1)
       ·exact (b8.upd hsH).upd hc
      refine ⟨w', B5 ts (i + 1), _, n, rfl, hw7, λhn => ?_, tb7, λhn => ?_, λhn kk H8 hkk hle tb8 bt8 => ?_⟩
      ·refine λke => abl ⟨i, n, en, λhab => ?_⟩ _ tb7 b7
       rcases hab with z | ⟨i', t', h1, h2, h3⟩
       ·exact absurd z hn
       ·have hm : i' ∈ B5 ts (i + 1) := mem_able.mpr ⟨by omega, by
         unfold E5
         rw [Au h2]
         cases q : t'.s with
         | none => rw [q] at h3; cases h3
         | some _ => rfl⟩
        rw [ke] at hm
        cases hm
      ·have e1 := L.snoc0 (eng.trans hn)
       have hc8 : upd H7 s' (.lst (S.map soV ++ [.non])) c = some (.lst (cs.map V.int)) := by rw [A3 cns]; exact hc7
       refine ⟨Dc hs7, _, hs7, ls7, Dc hc8, ?_⟩
       rw [if_pos (by rfl)]
       refine ⟨_, Ci (.inl hc8) (v := .int (cs.getD i 0)) (by omega) ?_, _, hc8, lc7, fin H7 .non none _ _ hc7 hs7 hw7 he7 tb7 b7 e1⟩
       have e0 : ((i : Int)).toNat = i := by omega
       rw [e0, Zzx, Zzv, Zzq (by omega)]
       rfl
      ·have kd : ∀ {q : Addr} {u : HO}, H7 q = some u -> (∀ z, u ≠ .tbl z) -> H8 q = some u := λ{q u} e z => bt8 _ _ (R1 tb7 e z) e
       have hc8 := kd hc7 (λz y => by cases y)
       have hs8 := kd hs7 (λz y => by cases y)
       have hw8 := kd hw7 (λz y => by cases y)
       have he8 := kd he7 (λz y => by cases y)
       obtain ⟨hk1, hk2⟩ := mem_able.mp hkk
       have e1 := L.snoc1 (k := kk) (by rw [eng]; exact hn) (by omega) hk2 (λj' h1 h2 => hle j' (mem_able.mpr ⟨by omega, h2⟩))
       have hc9 : upd H8 s' (.lst (S.map soV ++ [.int kk])) c = some (.lst (cs.map V.int)) := by rw [A3 cns]; exact hc8
       have hw9 : upd H8 s' (.lst (S.map soV ++ [.int kk])) w' = _ := (A3 wns).trans hw8
       refine ⟨Dc hs8, _, hs8, ls7, Dc hc9, ?_⟩
       rw [if_neg (by simp)]
       exact ⟨_, V0 (k := nk kk) (.inl hw9) (Ic hkk), _, hc9, lc7, fin H8 .non (some kk) _ _ hc8 hs8 hw8 he8 tb8 (b7.trans bt8) e1⟩
    ·walk_at "rd"
     refine ⟨_, he6, λob => ?_⟩
     have ndk : (B5 ts (i + 1)).Nodup := List.filter_sublist.nodup List.nodup_range
     have hkl : (B5 ts (i + 1)).length <= 1000 := by have := Jr ts (i + 1); omega
     refine Cb (gn e' ob _) (nh Pu a b c s' w' e' ns ts H i n cs S ob) ⟨_, _, rfl, A0, ?_, ?_, ?_, ?_, ?_⟩ (λm Z H' _ h => ?_) (λm x Z H7 hm hx h => ?_) (λZ H7 h => ?_)
     ·rw [A3 nwe, hw6]
      exact congrArg (λz => some (HO.dK z)) (Da λj hj => by rw [if_neg (by simp)])
     ·rw [A3 (λz => by rw [z, he6] at hc6; cases hc6)]
      exact hc6
     ·rw [A3 (λz => by rw [z, he6] at hs6; cases hs6)]
      exact hs6
     ·exact Lj tb6 he6
     ·exact b6.upd heH
     ·obtain ⟨_, _, _, e, _⟩ := h
      exact e
     ·obtain ⟨x8, x9, rfl, he7, hw7, hc7, hs7, tb7, b7⟩ := h
      obtain ⟨ky, vv, ekv, rfl⟩ := hx
      obtain ⟨j, ej, ekj⟩ := Et (f := λj => (nk j, V.int (Bj ts j (i - j)))) ekv
      cases ekj
      walk_at "rd"
      have hjm : j ∈ B5 ts (i + 1) := Zzn ej
      have hji := (mem_able.mp hjm).1
      have nin : j ∉ (B5 ts (i + 1)).take m := λz => by
       obtain ⟨q, hq⟩ := Zxu.mp z
       rw [Zxa] at hq
       split at hq
       ·rename_i hlt
        have := (Zwu (Zzj.mp hq).1 ndk).mp (hq.trans ej.symm)
        omega
       ·cases hq
      have lw : ∀ f : Nat -> Int, (fnI (B5 ts (i + 1)) f).length < sizeLine := λf => Zyq (m := 1000) (by rw [Ie]; exact hkl) (by decide)
      refine ⟨_, nk j, rfl, hw7, _, Ic hjm, _, V0 (.inr ⟨ob, he7⟩) (Ic hjm), _, rfl, Zb ok j (i - j) (by omega) n, _, rfl, _, nk j, rfl, hw7, lw _, _, _, rfl, ?_, ?_, ?_, ?_, ?_, ?_⟩
      ·rw [A3 (Zzf nwe)]
       exact he7
      ·rw [A0, V4 hjm]
       refine congrArg (λz => some (HO.dK z)) (Da λq hq => ?_)
       rw [Zz8, ej]
       by_cases z : q = j
       ·subst z
        rw [if_pos rfl, if_neg nin, if_pos (by simp), Js (by omega), Au en]
       ·rw [if_neg z]
        by_cases y : q ∈ (B5 ts (i + 1)).take m
        ·rw [if_pos y, if_pos (Zyf _ y)]
        ·rw [if_neg y, if_neg (λx => by
          rcases Zyu.mp x with x | x
          ·exact y x
          ·exact z (Zzb.mp x))]
      ·rw [A3 (λz => by rw [z, hw7] at hc7; cases hc7)]
       exact hc7
      ·rw [A3 (λz => by rw [z, hw7] at hs7; cases hs7)]
       exact hs7
      ·exact Lj tb7 hw7
      ·exact b7.upd hwH
     ·obtain ⟨x8, x9, rfl, he7, hw7, hc7, hs7, tb7, b7⟩ := h
      refine ⟨_, .inr ⟨e', ob, _, heH, he7, rfl⟩, hK _ _ ⟨_, _, rfl, ?_, ?_, ?_, A0, ?_, b7.upd heH⟩⟩
      ·rw [A3 (λz => by rw [z, he7] at hc7; cases hc7)]
       exact hc7
      ·rw [A3 (λz => by rw [z, he7] at hs7; cases hs7)]
       exact hs7
      ·rw [A3 nwe, hw7]
       refine congrArg (λz => some (HO.dK z)) (Da λq hq => ?_)
       rw [Ie, Zxl (Zzw _), if_pos hq]
      ·rcases tb7 with z | ⟨q, z1, z2⟩
       ·exact .inl (by rw [A3 (λy => by rw [y, he7] at z; cases z)]; exact z)
       ·exact .inr ⟨q, by rw [A3 (λy => by rw [y, he7] at z1; cases z1)]; exact z1, by rw [A3 (λy => by rw [y, he7] at z2; cases z2)]; exact z2⟩
   ·obtain ⟨y8, y9, eσ, hc6, hs6, hw6, he6, tb6, b6⟩ := m0
    walk_at "rd"
    obtain ⟨vs, hb, rv⟩ := (keep _ b6).2
    obtain ⟨t, et⟩ := Bk hi
    obtain ⟨tv, ev, rt⟩ := Hb rv et
    obtain ⟨ta, rfl, hta⟩ := Iy rt
    have ib : Ki H5 (.ref b) (.int (i : Int)) (.ref ta) := Ci (.inl hb) (by omega) (by simpa using ev)
    refine ⟨_, ib, _, Ad (j := 0) hta rfl, ?_⟩
    cases hts : t.s with
    | none =>
     have na : ¬ E5 ts i = true := by unfold E5; rw [Au et, hts]; decide
     have eL : B5 ts (i + 1) = B5 ts i := by rw [Mt, if_neg na]
     rw [if_neg (by simp [Ga])]
     exact hK _ _ ⟨_, _, rfl, hc6, hs6, by rw [eL]; exact hw6, by rw [eL]; exact he6, tb6, b6⟩
    | some sv =>
     have ya : E5 ts i = true := by unfold E5; rw [Au et, hts]; rfl
     have eL : B5 ts (i + 1) = B5 ts i ++ [i] := by rw [Mt, if_pos ya]
     have nin : i ∉ B5 ts i := λz => Zxk _ (mem_able.mp z).1
     rw [if_pos (by simp [Ga])]
     rw [hts] at hta
     have lw : (fnI (B5 ts i) λj => Cu ns ts cs j i).length < sizeLine := Zyq (m := 1000) (by rw [Ie]; have := Jr ts i; omega) (by decide)
     have le : (fnI (B5 ts i) λj => Bj ts j (i - j)).length < sizeLine := Zyq (m := 1000) (by rw [Ie]; have := Jr ts i; omega) (by decide)
     have ic : Ki H5 (.ref c) (.int (i : Int)) (.int (cs.getD i 0)) := Ci (.inl hc6) (by omega) (by
      have e0 : ((i : Int)).toNat = i := by omega
      rw [e0, Zzx, Zzv, Zzq (by omega)]
      rfl)
     have bw : ∀ o', But Pu H (upd H5 w' o') := λo' => b6.upd hwH
     have tw : ∀ o', Tc (upd H5 w' o') Pu := λo' => Lj tb6 hw6
     have kw : ∀ {q : Addr} {u : HO} (o' : HO), q ≠ w' -> H5 q = some u -> upd H5 w' o' q = some u := λo' n h => by rw [A3 n]; exact h
     have bnw : b ≠ w' := λz => by rw [z, hw6] at hb; cases hb
     have tnw : ta ≠ w' := λz => by rw [z, hw6] at hta; cases hta
     refine ⟨_, ic, _, ib, _, Ad (j := 0) hta rfl, _, rfl, sv, rfl, _, nk i, rfl, hw6, lw, _, Ci (.inl (kw _ bnw hb)) (by omega) (by simpa using ev), _, Ad (j := 1) (kw _ tnw hta) rfl, _, nk i, rfl, kw _ (Zzf nwe) he6, le, hK _ _ ⟨_, _, rfl, ?_, ?_, ?_, ?_, ?_, ?_⟩⟩
     ·rw [A3 (λz => by rw [z, he6] at hc6; cases hc6)]
      exact kw _ (λz => by rw [z, hw6] at hc6; cases hc6) hc6
     ·rw [A3 (λz => by rw [z, he6] at hs6; cases hs6)]
      exact kw _ (λz => by rw [z, hw6] at hs6; cases hs6) hs6
     ·rw [A3 nwe, A0, V5 nin, eL]
      refine congrArg (λz => some (HO.dK z)) (Da λj hj => ?_)
      by_cases z : j = i
      ·subst z
       rw [if_pos rfl]
       unfold Cu Be
       rw [Au et, hts, Zx8]
       show _ = _ + sv + (0 : Int)
       omega
      ·rw [if_neg z]
     ·rw [A0, V5 nin, eL]
      refine congrArg (λz => some (HO.dK z)) (Da λj hj => ?_)
      by_cases z : j = i
      ·subst z
       rw [if_pos rfl, Zx8]
       show _ = (ts.getD j tm0).p
       rw [Au et]
      ·rw [if_neg z]
     ·exact Lj (tw _) (kw _ (Zzf nwe) he6)
     ·exact (bw _).upd heH
  ·obtain ⟨cs, S, x6, x7, x8, x9, rfl, L, hc5, hs5, hw5, he5, tb5, b5⟩ := h
   walk_at "rd"
   have hln : (ns.map V.int).length = ts.length := by rw [Zzz, l1]
   rw [hln] at L
   have lc := L.lc
   have ls := L.ls
   obtain ⟨ha5, ht5⟩ := keep _ b5
   refine ⟨.int (cs.getD ts.length 0), ?_, a, s', ns, S, rfl, ha5, hs5, by omega, by omega, λq j eq => ?_, λo os H6 ho h6 lo io sm6 => ?_⟩
   ·refine .inl ⟨c, _, -1, rfl, rfl, .inl hc5, ?_⟩
    obtain ⟨cs0, cl, rfl⟩ : ∃ cs0 cl, cs = cs0 ++ [cl] := ⟨cs.dropLast, cs.getLast (λz => by rw [z] at lc; cases lc), (List.dropLast_concat_getLast _).symm⟩
    rw [Zzg]
    have l0 : cs0.length = ts.length := by rw [Zyx] at lc; simpa using lc
    rw [<- l0, Fi]
    exact Zs _ _
   ·have hq := (Zzj.mp eq).1
    by_cases z : ns.getD q 0 = 0
    ·have := (L.rest q (by omega) z).1
     rw [Zzv, eq] at this
     cases this
    ·obtain ⟨j', j1, _, j3, _⟩ := L.last q (by omega) z
     rw [Zzv, eq] at j3
     cases j3
     exact j1
   ·refine ⟨c, cs, rfl, sm6 _ _ hc5, by omega, by omega, λv H7 hv h7 sm7 => ⟨by decide, λt ht7 => ?_⟩⟩
    have ut := A4 (o := .tup [.int (cs.getD ts.length 0), .ref o, .ref v]) ht7
    have sm := sm6.trans (sm7.trans ut)
    have hcl : cs.length - 1 = ts.length := by omega
    rw [hcl] at h7
    have free : ∀ q, H' q = none -> H q = none \/ q = Pu := λq e => by
     by_cases z : q = Pu
     ·exact .inr z
     ·exact .inl (b5.none z e)
    have nP : ∀ q, H' q = none -> q ≠ Pu := λq e z => by
     obtain ⟨u, hu5⟩ := tb5.at
     rw [z, hu5] at e
     cases e
    exact k t o v cs S os _ A0 L (ut _ _ h7) (ut _ _ (sm7 _ _ h6)) (by omega) (l1 ▸ io) (b5.none (nP v (Same.free sm6 hv)) (Same.free sm6 hv)) (b5.none (nP o ho) ho) (λz => by rw [z, h6] at hv; cases hv) (tb5.same sm) (b5.same sm)
end
set_option maxHeartbeats 4000000
section
variable {P : Program} {w : World} {K : Zzu} {mg : Str -> Option Value} {base : Heap} {f : Addr} {fd : FuncData} {c : Cl} {Pt Pu : Addr}
def lets (x : Str) : Prop := ∀ c ∈ x.cps.toList, c ∈ letters
theorem lt26 {d : Int} (h0 : 0 <= d) (h1 : d < 26) : ∃ c, ("abcdefghijklmnopqrstuvwxyz" : Str).cps.toList[d.toNat]? = some c /\ c ∈ letters := by
 have hl : ("abcdefghijklmnopqrstuvwxyz" : Str).cps.toList.length = 26 := by decide +kernel
 have h : d.toNat < ("abcdefghijklmnopqrstuvwxyz" : Str).cps.toList.length := by rw [hl]; omega
 exact ⟨_, Zzq h, Zw4 h⟩
theorem Tk : letters.Nodup := by decide +kernel
theorem Kq : letters.length = 26 := by decide +kernel
def Gz (bs : List Int) (a k j : Nat) : Int := (bs.getD j 0 + (k : Int) * (if j = a then 1 else 0)) % 26
def nmL (bs : List Int) (a k n : Nat) : List Nat := (Zyy n).map λj => letters.getD (Gz bs a k j).toNat 0
theorem Pd (bs : List Int) (a k j : Nat) : 0 <= Gz bs a k j /\ Gz bs a k j < 26 := by unfold Gz; omega
theorem cw {bs : List Int} {a k k' n : Nat} (ha : a < n) (hk : k < 26) (hk' : k' < 26) (h : nmL bs a k n = nmL bs a k' n) : k = k' := by
 have h1 := congrArg (λl => l[a]?) h
 have e : ∀ q, (nmL bs a q n)[a]? = some (letters.getD (Gz bs a q a).toNat 0) := λq => by
  unfold nmL
  rw [Zzx, List.getElem?_range ha]
  rfl
 have h1 : (nmL bs a k n)[a]? = (nmL bs a k' n)[a]? := h1
 rw [e, e] at h1
 have h2 := Zza h1
 have l1 := Pd bs a k a
 have l2 := Pd bs a k' a
 have ll := Kq
 have g : ∀ {i : Nat}, (hi : i < letters.length) -> letters.getD i 0 = letters[i] := λ{i} hi => by rw [Zzv, Zzq hi]; rfl
 rw [g (by omega), g (by omega)] at h2
 have h3 := (List.getElem_inj Tk).mp h2
 have h4 : Gz bs a k a = Gz bs a k' a := by omega
 unfold Gz at h4
 rw [if_pos rfl] at h4
 omega
structure er (x : Str) : Prop where
 lets : lets x
 ge : 1 <= x.length
 le : x.length <= 8
theorem ly {bs : List Int} {a k n : Nat} {x : Str} (h0 : 1 <= n) (hn : n <= 8) (h : x.cps.toList = nmL bs a k n) : er x := by
 have hl : x.length = n := by
  have := congrArg Zvu h
  unfold nmL at this
  rw [Zzz, Zwb] at this
  rw [<- this]
  show x.cps.size = x.cps.toList.length
  simp
 refine ⟨λc hc => ?_, by omega, by omega⟩
 rw [h] at hc
 obtain ⟨j, _, rfl⟩ := Zzl.mp hc
 have l1 := Pd bs a k j
 have ll := Kq
 rw [Zzv, Zzq (by omega)]
 exact Zw4 _
def sp_law_names : Sp := λvs H Q _ => ∃ st m, vs = [.ref st, .int m] /\ StOk H st /\ 0 <= m /\ m <= 26 /\
 ∀ (a : Addr) (xs : List Str) (H' : Hp), xs.length = m.toNat -> xs.Nodup -> (∀ x ∈ xs, er x) -> H' a = some (.lst (xs.map V.str)) -> H a = none -> StOk H' st -> But st H H' -> Q (.ref a) H'
def nv (st : Addr) (H : Hp) (i : Nat) (acc : List V) (H' : Hp) : Prop := ∃ bs : List Int, acc = bs.map V.int /\ bs.length = i /\ (∀ x ∈ bs, 0 <= x /\ x < 26) /\ StOk H' st /\ But st H H'
def my (st l b : Addr) (m sz : Int) (bs : List Int) (a : Nat) (H : Hp) (k : Nat) (Z : St) (H' : Hp) : Prop := ∃ (xs : List Str) (o1 o2 o3 : Option V), Z = [some (.ref st), some (.int m), some (.str "abcdefghijklmnopqrstuvwxyz"), some (.int sz), some (.ref b), some (.int a), some (.ref l), o1, o2, o3] /\
 H' l = some (.lst (xs.map V.str)) /\ xs.length = k /\ (∀ (j : Nat) (x : Str), xs[j]? = some x -> x.cps.toList = nmL bs a j sz.toNat) /\ H' b = some (.lst (bs.map V.int)) /\ StOk H' st /\ But st H H'
def mz (st l b : Addr) (m sz : Int) (bs : List Int) (a k : Nat) (H : Hp) (i : Nat) (Z : St) (H' : Hp) : Prop := ∃ (x : Str) (o3 : Option V), Z = [some (.ref st), some (.int m), some (.str "abcdefghijklmnopqrstuvwxyz"), some (.int sz), some (.ref b), some (.int a), some (.ref l), some (.int k), some (.str x), o3] /\ x.cps.toList = nmL bs a k i /\ H' = H
theorem sc_law_names : Aj ["_law_state", "_law_many", "_law_letters", "_law_size", "_law_base", "_law_at", "_law_names_here", "_law_k", "_law_name", "_law_i"] ["_law_state", "_law_many"] (A9 Dp) := by walk_at "sc"
theorem Pr (F : Fun K "_law_names" "_law_names" Dp f fd) (T : Txt mg) (C : Exc K mg c) (Zvq : Has P w K mg base "_law_next" 1 ["_law_state", "_law_many"] sp_law_next) : FnOk P w K mg base CX0 2 f fd ["_law_state", "_law_many"] sp_law_names := by
 refine F.ok sc_law_names (λvs H Q E h => ?_) (λcdv A outer s H vs Q E hr h => ?_)
 ·obtain ⟨st, m, rfl, _⟩ := h
  rfl
 ·obtain ⟨st, m, rfl, hs, m0, m1, k⟩ := h
  have hu := Bc hr
  refine ⟨_, (A1 (Ae (i := 2) sc_law_names.nd rfl (Zzt rfl) Cm)
 (A1 (Ae (i := 3) sc_law_names.nd rfl (Zzt rfl) (An Bi A8 (Ab Zvq hr.z rfl (A6 (pv 0) (A6 A8 A2)))))
 (A1 (Ej (own := ["_law_k"]) (cap := [0]) (i := 4) rfl (Fb rfl) (C9 (by decide)) sc_law_names.nd rfl rfl (Bh rfl T.Zvh (A6 (pv 3) A2))
 (λ_ _ _ _ _ _ => ⟨(Ac (i := 0) (of_decide_eq_true rfl) rfl (Zzt rfl) (.inr rfl)), D8, (Ab Zvq hr.z rfl (A6 (pv 1) (A6 A8 A2)))⟩))
 (A1 (Ae (i := 5) sc_law_names.nd rfl (Zzt rfl) (Ab Zvq hr.z rfl (A6 (pv 0) (A6 (pv 3) A2))))
 (A1 (Ae (i := 6) sc_law_names.nd rfl (Zzt rfl) (Bt A2))
 (A1 (B3 PassesOwn.never rfl (Bh rfl T.Zvh (A6 (pv 1) A2)) (Ac (i := 7) sc_law_names.nd rfl (Zzt rfl))
 (A1 (Ae (i := 8) sc_law_names.nd rfl (Zzt rfl) Cm)
 (A1 (B3 PassesOwn.never rfl (Bh rfl T.Zvh (A6 (pv 3) A2)) (Ac (i := 9) sc_law_names.nd rfl (Zzt rfl))
 (Aa (Hc (i := 8) sc_law_names.nd rfl (Zzt rfl) (A7 hu (pv 2) (An Hg (An Bi (A7 hu (pv 4) (pv 9) (λ_ _ => rfl)) (An Dz (pv 7) (D9 Kf rfl T.Zsm U2 (A6 (Jd (Dj hu) (pv 9) (pv 5) (Ar _)) A2)))) A8) (λ_ _ => rfl)) db)))
 (Aa (Ce (G3 Zyw Zyt Zys C8 (pv 6) (A6 (pv 8) A2)))))))
 (Aa (Ak (pv 6))))))))), ?_⟩
  walk_at "rd"
  refine ⟨st, 8, rfl, hs, by decide, by decide +kernel, λd H1 d0 d1 s1 b1 => ⟨d, rfl, ?_⟩⟩
  refine ⟨by omega, by omega, ?_⟩
  refine Kd (G6 0 _) (Ao (by omega)) (nv st H) ⟨[], rfl, rfl, (λx hx => nomatch hx), s1, b1⟩ (λ_ _ _ _ _ => trivial) (λj acc H' h => by obtain ⟨xs, rfl, e, _⟩ := h; rw [Zzz]; exact Zvy e) (λj y acc H2 hj hy h => ?_) (λacc H2 h b hb => ?_)
  ·obtain ⟨bs, rfl, hl, hn, s2, b2⟩ := h
   walk_at "rd"
   refine ⟨st, 26, rfl, s2, by decide, by decide +kernel, λe H3 e0 e1 s3 b3 => ⟨bs ++ [e], by rw [Zzg]; rfl, by rw [Zyx, hl]; rfl, λx hx => ?_, s3, b2.trans b3⟩⟩
   rcases Zyu.mp hx with z | z
   ·exact hn x z
   ·rw [Zzb.mp z]; exact ⟨e0, e1⟩
  ·obtain ⟨bs, rfl, hl, hn, s2, b2⟩ := h
   have bst : b ≠ st := Zzf (s2.ne hb)
   have hb2 : upd H2 b (.lst (bs.map V.int)) b = _ := A0
   have s2 := s2.upd (o := .lst (bs.map V.int)) (s2.ne hb)
   have b2 := b2.new (o := .lst (bs.map V.int)) hb
   generalize upd H2 b (.lst (bs.map V.int)) = H2 at hb2 s2 b2
   refine ⟨st, 1 + d, rfl, s2, by omega, Zwf (b := 9) (by omega) (by decide +kernel), λa H3 a0 a1 s3 b3 => ⟨Zyn _, λl hl => ⟨by omega, by omega, ?_⟩⟩⟩
   obtain ⟨a, rfl⟩ := Int.eq_ofNat_of_zero_le a0
   have hb3 := b3 _ _ bst hb2
   have lst' : l ≠ st := Zzf (s3.ne hl)
   have nbl : b ≠ l := A5 hb3 hl
   have fl : H l = none := (b2.trans b3).none lst' hl
   refine Cb (G6 0 _) (my st l b m (1 + d) bs a H) ⟨[], _, _, _, rfl, A0, rfl, (λj x e => by simp at e), by rw [A3 nbl]; exact hb3, s3.upd (s3.ne hl), (b2.trans b3).new hl⟩ (λ_ _ _ _ _ => trivial) (λq y Z H4 hq hy h => ?_) (λZ H4 h => ?_)
   ·obtain ⟨xs, o1, o2, o3, rfl, hl4, xl, hx, hb4, s4, b4⟩ := h
    subst hy
    walk_at "rd"
    have hq' : (0 + (q : Int)) = (q : Int) := by omega
    rw [hq']
    refine ⟨by omega, by omega, ?_⟩
    refine Cb (G6 0 _) (mz st l b m (1 + d) bs a q H4) ⟨_, _, rfl, rfl, rfl⟩ (λ_ _ _ _ _ => trivial) (λi y Z H5 hi hy h => ?_) (λZ H5 h => ?_)
    ·obtain ⟨x, o3, rfl, ex, rfl⟩ := h
     subst hy
     walk_at "rd"
     have hi : i < (1 + d).toNat := hi
     obtain ⟨bv, ebv⟩ : ∃ bv, bs[i]? = some bv := ⟨_, Zzq (by omega)⟩
     have i0 : (0 + (i : Int)) = (i : Int) := by omega
     rw [i0]
     have ebd : bs.getD i 0 = bv := by rw [Zzv, ebv]; rfl
     have espot : (bv + (q : Int) * if decide ((i : Int) = (a : Int)) = true then 1 else 0) % 26 = Gz bs a q i := by
      unfold Gz
      rw [ebd]
      by_cases z : i = a
      ·rw [if_pos (decide_eq_true (by omega)), if_pos z]
      ·rw [if_neg (λw => z (by have := of_decide_eq_true w; omega)), if_neg z]
     have l26 := Pd bs a q i
     obtain ⟨cc, ec, _⟩ := lt26 l26.1 l26.2
     have xl5 : x.length = i := by
      have := congrArg Zvu ex
      unfold nmL at this
      rw [Zzz, Zwb] at this
      rw [<- this]
      show x.cps.size = x.cps.toList.length
      simp
     refine ⟨_, Ci (.inl hb4) (by omega) (v := .int bv) (by rw [Zzx, Zxo, ebv]; rfl), rfl, .inr ⟨?_, ?_⟩, bv, rfl, by decide, ?_⟩
     ·exact Zzi (m := 1000) (by omega) (by decide +kernel)
     ·exact Zzi (m := 1000) (by split <;> decide) (by decide +kernel)
     rw [espot]
     refine ⟨_, jg (by decide +kernel) l26.1 ec, _, rfl, Zyz (m := 1000) (by show x.length + 1 <= 1000; omega) (Ao (Zzw _)), _, _, rfl, ?_, rfl⟩
     show (x.cps ++ #[cc]).toList = _
     rw [Array.toList_append, ex]
     unfold nmL
     rw [Zwl, Zzg]
     have : letters[(Gz bs a q i).toNat]? = some cc := ec
     rw [List.map_singleton, Zzv, this]
     rfl
    ·obtain ⟨x, o3, rfl, ex, rfl⟩ := h
     walk_at "rd"
     refine ⟨Dc hl4, _, hl4, Zzi (m := 1000) (by rw [Zzz]; omega) (Ao (Zzw _)), xs ++ [x], _, _, _, rfl, by rw [A0, Zzg]; rfl, by rw [Zyx, xl]; rfl, λj y hy => ?_, by rw [A3 nbl]; exact hb4, s4.upd (Zzf lst'), b4.upd fl⟩
     by_cases hj : j < xs.length
     ·rw [Zy3 hj] at hy
      exact hx j y hy
     ·rw [Zyg (by omega)] at hy
      have hj0 : j - xs.length = 0 := by
       cases e : j - xs.length with
       | zero => rfl
       | succ n => rw [e] at hy; simp at hy
      rw [hj0] at hy
      have hy : x = y := by simpa using hy
      have hje : j = q := by omega
      subst hy hje
      exact ex
   ·obtain ⟨xs, o1, o2, o3, rfl, hl4, xl, hx, hb4, s4, b4⟩ := h
    walk_at "rd"
    refine k l xs H4 xl ?_ (λx hx' => ?_) hl4 fl s4 b4
    ·refine Zx2.mpr λi j hi hj hij e => ?_
     have h1 := hx i _ (Zzq hi)
     have h2 := hx j _ (Zzq hj)
     rw [e, h2] at h1
     have := cw (by omega) (by omega) (by omega) h1
     omega
    ·obtain ⟨j, hj⟩ := List.getElem?_of_mem hx'
     exact ly (by omega) (by omega) (hx j x hj)
end
set_option maxHeartbeats 4000000
section
variable {P : Program} {w : World} {K : Zzu} {mg : Str -> Option Value} {base : Heap} {f : Addr} {fd : FuncData} {c : Cl} {Pt Pu : Addr}
structure W46 (xs : List Str) (w : Wr) : Prop where
 wb : WB w
 com : i5 10 w.coming
 own : ∀ p ∈ w.parts, p.1 ∈ xs
def sp_law_ware : Sp := λvs H Q _ => ∃ (st l : Addr) (nm : Str) (xs : List Str), vs = [.ref st, .str nm, .ref l] /\ StOk H st /\ H l = some (.lst (xs.map V.str)) /\ l ≠ st /\ xs.length <= 8 /\ xs.Nodup /\ ∀ v (w : Wr) H', RD H' w.d v -> w.name = nm -> W46 xs w -> StOk H' st -> But st H H' -> Q v H'
def nt (st l q : Addr) (nm : Str) (xs : List Str) (H : Hp) (i : Nat) (Z : St) (H' : Hp) : Prop := ∃ (cs : List (Int × Int)) (vs : List V) (o : Option V), Z = [some (.ref st), some (.str nm), some (.ref l), some (.ref q), o, none, none, none, none] /\ H' q = some (.lst vs) /\ RDs H' (cs.map Gv) vs /\ cs.length = i /\ (∀ p ∈ cs, (0 <= p.1 /\ p.1 < 8) /\ 0 <= p.2 /\ p.2 < 9) /\ H' l = some (.lst (xs.map V.str)) /\ StOk H' st /\ But st H H'
def mw (st l q1 q : Addr) (nm : Str) (xs : List Str) (cs : List (Int × Int)) (H : Hp) (i : Nat) (Z : St) (H' : Hp) : Prop := ∃ (ps : List (Str × Int)) (vs vs1 : List V) (o o2 : Option V), Z = [some (.ref st), some (.str nm), some (.ref l), some (.ref q1), o2, some (.ref q), o, none, none] /\ H' q1 = some (.lst vs1) /\ RDs H' (cs.map Gv) vs1 /\ H' q = some (.lst vs) /\ RDs H' (ps.map Ds) vs /\ (ps.map (·.1)).Sublist (xs.take i) /\ (∀ p ∈ ps, 1 <= p.2 /\ p.2 <= 3) /\ H' l = some (.lst (xs.map V.str)) /\ StOk H' st /\ But st H H'
theorem sc_law_ware : Aj ["_law_state", "_law_name", "_law_beneath", "_law_coming", "_law_k", "_law_parts", "_law_part", "_law_floor", "_law_stock"] ["_law_state", "_law_name", "_law_beneath"] (A9 Ec) := by walk_at "sc"
theorem Rh (F : Fun K "_law_ware" "_law_ware" Ec f fd) (T : Txt mg) (C : Exc K mg c) (Zvq : Has P w K mg base "_law_next" 1 ["_law_state", "_law_many"] sp_law_next) : FnOk P w K mg base CX0 2 f fd ["_law_state", "_law_name", "_law_beneath"] sp_law_ware := by
 refine F.ok sc_law_ware (λvs H Q E h => ?_) (λcdv A outer s H vs Q E hr h => ?_)
 ·obtain ⟨st, l, nm, xs, rfl, _⟩ := h
  rfl
 ·obtain ⟨st, l, nm, xs, rfl, hs, hl, lst', hx, nd, k⟩ := h
  have hu := Bc hr
  refine ⟨_, (A1 (Ae (i := 3) sc_law_ware.nd rfl (Zzt rfl) (Bt A2))
 (A1 (B3 PassesOwn.never rfl (Bh rfl T.Zvh (A6 (Ab Zvq hr.z rfl (A6 (pv 0) (A6 A8 A2))) A2)) (Ac (i := 4) sc_law_ware.nd rfl (Zzt rfl))
 (Aa (Ce (G3 Zyw Zyt Zys C8 (pv 3) (A6 (Dy (A6 (Ab Zvq hr.z rfl (A6 (pv 0) (A6 A8 A2))) (A6 (Ab Zvq hr.z rfl (A6 (pv 0) (A6 A8 A2))) A2))) A2)))))
 (A1 (Ae (i := 5) sc_law_ware.nd rfl (Zzt rfl) (Bt A2))
 (A1 (B3 PassesOwn.never rfl (Ft (pv 2)) (Ac (i := 6) sc_law_ware.nd rfl (Zzt rfl))
 (Aa (Bm (Ai Km (Ab Zvq hr.z rfl (A6 (pv 0) (A6 A8 A2))) A8 (Ar _)) (Aa (Ce (G3 Zyw Zyt Zys C8 (pv 5) (A6 (Dy (A6 (pv 6) (A6 (An Bi A8 (Ab Zvq hr.z rfl (A6 (pv 0) (A6 A8 A2)))) A2))) A2)))) At)))
 (A1 (Ae (i := 7) sc_law_ware.nd rfl (Zzt rfl) (An Dz (Ab Zvq hr.z rfl (A6 (pv 0) (A6 A8 A2))) (D9 Kf rfl T.Zsm U2 (A6 (Jd (Dj hu) (Ab Zvq hr.z rfl (A6 (pv 0) (A6 A8 A2))) A8 (Ar _)) A2))))
 (A1 (Ae (i := 8) sc_law_ware.nd rfl (Zzt rfl) (An Bi (pv 7) (Ab Zvq hr.z rfl (A6 (pv 0) (A6 A8 A2)))))
 (Aa (Ak (Dy (A6 (pv 1) (A6 (Ab Zvq hr.z rfl (A6 (pv 0) (A6 A8 A2))) (A6 (An Bi A8 (Ab Zvq hr.z rfl (A6 (pv 0) (A6 A8 A2)))) (A6 (pv 7) (A6 (pv 8) (A6 (D9 G7 rfl T.Ztf Hq (A6 (pv 3) A2)) (A6 (D9 G7 rfl T.Ztf Hq (A6 (pv 5) A2)) A2)))))))))))))))), ?_⟩
  walk_at "rd"
  refine ⟨by decide, λq hq => ?_⟩
  have qst : q ≠ st := Zzf (hs.ne hq)
  have lq : l ≠ q := A5 hl hq
  have hq1 : upd H q (.lst []) q = _ := A0
  have s1 := hs.upd (o := .lst []) (hs.ne hq)
  have b1 : But st H (upd H q (.lst [])) := Gu hq
  have hl1 : upd H q (.lst []) l = some (.lst (xs.map V.str)) := by rw [A3 lq]; exact hl
  generalize upd H q (.lst []) = H1 at hq1 s1 b1 hl1
  refine ⟨st, 3, rfl, s1, by decide, by decide +kernel, λn H2 n0 n1 s2 b2 => ⟨n, rfl, by omega, by omega, ?_⟩⟩
  refine Cb (G6 0 _) (nt st l q nm xs H) ⟨[], [], _, rfl, b2 _ _ qst hq1, RDs.nil, rfl, (λp hp => nomatch hp), b2 _ _ lst' hl1, s2, b1.trans b2⟩ (λ_ _ _ _ _ => trivial) (λi y Z H3 hi hy h => ?_) (λZ H3 h => ?_)
  ·obtain ⟨cs, vs, o, rfl, hq3, r3, cl, cb, hl3, s3, b3⟩ := h
   walk_at "rd"
   refine ⟨Dc hq3, st, 8, rfl, s3, by decide, by decide +kernel, λd H4 d0 d1 s4 b4 => ?_⟩
   walk_at "rd"
   refine ⟨st, 9, rfl, s4, by decide, by decide +kernel, λe H5 e0 e1 s5 b5 => ⟨by decide, λt ht => ?_⟩⟩
   have b45 := b4.trans b5
   have hq5 := b45 _ _ qst hq3
   have u := A4 (o := .tup [V.int d, V.int e]) ht
   have hlv := Ax r3
   refine ⟨vs, u _ _ hq5, Zzi (show vs.length < 1000 by omega) (Ao (Zzw _)), cs ++ [(d, e)], _, _, rfl, A0, ?_, by rw [Zyx, cl]; rfl, λp hp => ?_, ?_, (s5.same u).upd (Zzf qst), ((b3.trans b45).same u).upd hq⟩
   ·have kk := ((E2 b45 s3).trans u.ku).trans (Io (ys := vs ++ [V.ref t]) (u _ _ hq5))
    rw [Zzg]
    refine RDs.app (RDs.ku kk _ _ (C5 Gv M4 _) r3) (RDs.one (RD.tup_mk (xs := [V.int d, V.int e]) ?_ (RDs.cons RD.int_mk (RDs.one RD.int_mk))))
    rw [A3 (Zzf (A5 hq5 ht)), A0]
   ·rcases Zyu.mp hp with z | z
    ·exact cb p z
    ·rw [Zzb.mp z]
     exact ⟨⟨d0, d1⟩, e0, e1⟩
   ·rw [A3 lq]
    exact u _ _ (b45 _ _ lst' hl3)
  ·obtain ⟨cs, vs1, o, rfl, hq3, r3, cl, cb, hl3, s3, b3⟩ := h
   have cl : cs.length <= 12 := by omega
   walk_at "rd"
   refine ⟨Zyn _, λq2 hq2 => ?_⟩
   have q2st : q2 ≠ st := Zzf (s3.ne hq2)
   have fq2 : H q2 = none := b3.none q2st hq2
   have u2 := A4 (o := .lst []) hq2
   have nqq : q ≠ q2 := A5 hq3 hq2
   have lq2 : l ≠ q2 := A5 hl3 hq2
   refine ⟨_, u2 _ _ hl3, ?_⟩
   refine Cb (Gx l _) (mw st l q q2 nm xs cs H) ⟨[], [], vs1, _, _, rfl, u2 _ _ hq3, RDs.same u2 _ _ r3, A0, RDs.nil, List.nil_sublist _, (λp hp => nomatch hp), u2 _ _ hl3, s3.same u2, b3.same u2⟩ (λi Z H' _ h => by obtain ⟨_, _, _, _, _, _, _, _, _, _, _, _, h, _⟩ := h; exact h) (λi x Z H4 hi hxx h => ?_) (λZ H4 h => ?_)
   ·obtain ⟨ps, vs, vs1, o, o2, rfl, hq4, r4, hp4, rp4, sb, am, hl4, s4, b4⟩ := h
    rw [Zzz] at hi
    rw [Zzx] at hxx
    cases en : xs[i]? with
    | none => rw [en] at hxx; cases hxx
    | some y =>
    rw [en] at hxx
    have hxx : V.str y = x := Zza hxx
    subst hxx
    have et : xs.take (i + 1) = xs.take i ++ [y] := by rw [Zz8, en]; rfl
    walk_at "rd"
    refine ⟨st, 3, rfl, s4, by decide, by decide +kernel, λd H5 d0 d1 s5 b5 => ?_⟩
    walk_at "rd"
    have kk5 := E2 b5 s4
    refine Ey (λ_ => ?_) (λ_ => ⟨ps, vs, vs1, _, _, rfl, b5 _ _ qst hq4, RDs.ku kk5 _ _ (C5 Gv M4 _) r4, b5 _ _ q2st hp4, RDs.ku kk5 _ _ (C5 Ds L8 _) rp4, by rw [et]; exact sb.trans (List.sublist_append_left _ _), am, b5 _ _ lst' hl4, s5, b4.trans b5⟩)
    have hp5 := b5 _ _ q2st hp4
    refine ⟨Dc hp5, st, 3, rfl, s5, by decide, by decide +kernel, λe H6 e0 e1 s6 b6 => ⟨e, rfl, by decide, λt ht => ?_⟩⟩
    have b56 := b5.trans b6
    have hp6 := b56 _ _ q2st hp4
    have hq6 := b56 _ _ qst hq4
    have u := A4 (o := .tup [V.str y, V.int (1 + e)]) ht
    have hlv := Ax rp4
    have hlp := sb.length_le
    rw [Zzz, Zz5] at hlp
    have kk := ((E2 b56 s4).trans u.ku).trans (Io (ys := vs ++ [V.ref t]) (u _ _ hp6))
    refine ⟨vs, u _ _ hp6, Zzi (show vs.length < 1000 by omega) (Ao (Zzw _)), ps ++ [(y, 1 + e)], _, vs1, _, _, rfl, ?_, RDs.ku kk _ _ (C5 Gv M4 _) r4, A0, ?_, ?_, λp hp => ?_, ?_, (s6.same u).upd (Zzf q2st), ((b4.trans b56).same u).upd fq2⟩
    ·rw [A3 nqq]; exact u _ _ hq6
    ·rw [Zzg]
     refine RDs.app (RDs.ku kk _ _ (C5 Ds L8 _) rp4) (RDs.one (RD.tup_mk (xs := [V.str y, V.int (1 + e)]) ?_ (RDs.cons RD.str_mk (RDs.one RD.int_mk))))
     rw [A3 (Zzf (A5 hp6 ht)), A0]
    ·rw [Zzg, et]
     exact sb.append (List.Sublist.refl _)
    ·rcases Zyu.mp hp with z | z
     ·exact am p z
     ·rw [Zzb.mp z]
      exact ⟨show 1 <= 1 + e by omega, show 1 + e <= 3 by omega⟩
    ·rw [A3 lq2]
     exact u _ _ (b56 _ _ lst' hl4)
   ·obtain ⟨ps, vs, vs1, o, o2, rfl, hq4, r4, hp4, rp4, sb, am, hl4, s4, b4⟩ := h
    rw [Zzz, Zxl (Zzw _)] at sb
    walk_at "rd"
    refine ⟨st, 4, rfl, s4, by decide, by decide +kernel, λf H5 f0 f1 s5 b5 => ?_⟩
    walk_at "rd"
    refine ⟨st, 3, rfl, s5, by decide, by decide +kernel, λg H6 g0 g1 s6 b6 => ?_⟩
    have hm : CMulB f (if decide (V.int g = V.int 0) = true then 1 else 0) := .inr ⟨Zzi (m := 1000) (by omega) (by decide +kernel), Zzi (m := 1000) (by split <;> decide) (by decide +kernel)⟩
    refine ⟨rfl, hm, ?_⟩
    have hfl : 0 <= f * (if decide (V.int g = V.int 0) = true then (1 : Int) else 0) /\ f * (if decide (V.int g = V.int 0) = true then (1 : Int) else 0) <= 3 := by split <;> omega
    generalize f * (if decide (V.int g = V.int 0) = true then (1 : Int) else 0) = fl at hfl
    refine ⟨st, 8, rfl, s6, by decide, by decide +kernel, λa H7 a0 a1 s7 b7 => ⟨a, rfl, st, 3, rfl, s7, by decide, by decide +kernel, λb H8 b0 b1' s8 b8 => ⟨st, 4, rfl, s8, by decide, by decide +kernel, λc' H9 c0 c1 s9 b9 => ⟨c', rfl, vs1, .inl ⟨?_, λt1 ht1 => ⟨vs, .inl ⟨?_, λt2 ht2 => ⟨by decide, λp hp => ?_⟩⟩⟩⟩⟩⟩⟩⟩
    ·exact b9 _ _ qst (b8 _ _ qst (b7 _ _ qst (b6 _ _ qst (b5 _ _ qst hq4))))
    ·exact A4 ht1 _ _ (b9 _ _ q2st (b8 _ _ q2st (b7 _ _ q2st (b6 _ _ q2st (b5 _ _ q2st hp4)))))
    have bb := (((b5.trans b6).trans b7).trans b8).trans b9
    have u1 := A4 (o := .tup vs1) ht1
    have u2 := A4 (o := .tup vs) ht2
    have u3 := A4 (o := .tup [V.str nm, V.int b, V.int (1 + c'), V.int fl, V.int (fl + a), V.ref t1, V.ref t2]) hp
    have uu := (u1.trans u2).trans u3
    have kk := (E2 bb s4).trans uu.ku
    have hlp := sb.length_le
    rw [Zzz] at hlp
    refine k (.ref p) ⟨nm, b, 1 + c', fl, fl + a, cs, ps⟩ _ ?_ rfl ⟨⟨⟨b0, by show b <= 30; omega⟩, ⟨by show 1 <= 1 + c'; omega, by show 1 + c' <= 100; omega⟩, ⟨hfl.1, by show fl <= 100; omega⟩, ⟨by show 0 <= fl + a; omega, Zxs (b := 1000) (by show fl + a <= 1000; omega) (by decide +kernel)⟩, by show ps.length <= 12; omega, λp hp => ⟨(am p hp).1, Zxs (am p hp).2 (by decide)⟩, sb.nodup nd⟩, ⟨cl, λp hp => ⟨⟨(cb p hp).1.1, Zwg (cb p hp).1.2 (by decide)⟩, (cb p hp).2.1, Zwg (cb p hp).2.2 (by decide +kernel)⟩⟩, λp hp => sb.subset (Zzl.mpr ⟨p, hp, rfl⟩)⟩ (s9.same uu) ((b4.trans bb).same uu)
    unfold Wr.d
    exact RD.tup_mk A0 (RDs.cons RD.str_mk (RDs.cons RD.int_mk (RDs.cons RD.int_mk (RDs.cons RD.int_mk (RDs.cons RD.int_mk (RDs.cons (RD.tup_mk (u3 _ _ (u2 _ _ A0)) (RDs.ku kk _ _ (C5 Gv M4 _) r4)) (RDs.one (RD.tup_mk (u3 _ _ A0) (RDs.ku kk _ _ (C5 Ds L8 _) rp4)))))))))
end
set_option maxHeartbeats 4000000
section
variable {P : Program} {w : World} {K : Zzu} {mg : Str -> Option Value} {base : Heap} {f : Addr} {fd : FuncData} {c : Cl} {Pt Pu : Addr}
theorem Ym {x : Str} (h : lets x) : PyData.strOk x = true := by
 unfold PyData.strOk
 rw [<- Array.all_toList, Zy4]
 intro c hc
 have h4 : ∀ c ∈ letters, c < 0x110000 := by decide +kernel
 exact decide_eq_true (h4 c (h c hc))
theorem bf (H : Hp) : RDs H [] [] := by rw [RDs]
theorem J9 {H : Hp} : ∀ (k : Nat) {ds : List PyData} {vs : List V}, RDs H ds vs -> RDs H (ds.drop k) (vs.drop k)
 | 0, _, _, h => h
 | k + 1, [], vs, h => by
  rw [RDs] at h
  rw [h]
  exact bf H
 | k + 1, d :: ds, vs, h => by
  rw [RDs] at h
  obtain ⟨v, r, rfl, _, h2⟩ := h
  exact J9 k h2
theorem Lp {H : Hp} : ∀ {ds : List PyData} {xs : List V} (n : Nat), RDs H ds xs -> RDs H (ds.take n) (xs.take n)
 | _, _, 0, _ => by rw [Zwd, Zwd]; exact RDs.nil
 | [], xs, n + 1, h => by rw [RDs.nil_of h]; exact RDs.nil
 | d :: ds, xs, n + 1, h => by
  obtain ⟨x, r, rfl, h1, h2⟩ := RDs.cons_of h
  rw [List.take_succ_cons, List.take_succ_cons]
  exact RDs.cons h1 (Lp n h2)
def ai (xs : List Str) (j : Nat) (w : Wr) : Prop := xs[j]? = some w.name /\ W46 (xs.drop (j + 1)) w
theorem jh {xs : List Str} {ws ws' : List Wr} {us : List Wt} (nd : xs.Nodup) (hx : ∀ x ∈ xs, er x) (hl : 1 <= xs.length /\ xs.length <= 12) (hw : ws.length = xs.length) (hk : ∀ j w, ws[j]? = some w -> ai xs j w) (hp : ws'.Perm ws) (hu : Vi 10 xs us) : Good 10 ⟨ws', us⟩ /\ (ws'.map (·.name)).Perm xs := by
 have en : ws.map (·.name) = xs := by
  apply Zxp
  intro i
  rw [Zzx]
  by_cases hi : i < ws.length
  ·rw [Zzq hi]
   exact (hk i _ (Zzq hi)).1.symm
  ·rw [Zz2 (by omega), Zz2 (by omega)]
   rfl
 have hat : ∀ w ∈ ws', ∃ j, j < xs.length /\ ai xs j w := λw hm => by
  obtain ⟨j, hj⟩ := Zxu.mp (hp.mem_iff.mp hm)
  have := (Zzj.mp hj).1
  exact ⟨j, by omega, hk j w hj⟩
 have pn : (ws'.map (·.name)).Perm xs := by rw [<- en]; exact hp.map _
 have hlen : ws'.length = xs.length := by rw [hp.length_eq, hw]
 have own : ∀ w ∈ ws', ∀ p ∈ w.parts, ∃ i j, i < j /\ xs[i]? = some w.name /\ xs[j]? = some p.1 := λw hm p hpm => by
  obtain ⟨j, hj, k1, k3⟩ := hat w hm
  obtain ⟨i, hi⟩ := Zxu.mp (k3.own p hpm)
  rw [Zyc] at hi
  exact ⟨j, j + 1 + i, by omega, k1, hi⟩
 refine ⟨⟨⟨pn.nodup_iff.mpr nd, λw hm => ?_, λw hm => ?_, λw hm p hpm => ?_, λx => xs.length - 1 - xs.idxOf x, λw hm => ?_, λw hm p hpm => ?_⟩, by show 1 <= ws'.length /\ ws'.length <= 12; omega, λw hm => ?_, hu.1, λu hum => ?_⟩, pn⟩
 ·obtain ⟨j, _, k⟩ := hat w hm; exact k.2.wb
 ·obtain ⟨j, _, k⟩ := hat w hm; exact Ym (hx _ (Zzn k.1)).lets
 ·obtain ⟨i, j, _, _, h3⟩ := own w hm p hpm
  exact pn.mem_iff.mpr (Zzn h3)
 ·show xs.length - 1 - xs.idxOf w.name < ws'.length
  omega
 ·obtain ⟨i, j, h1, h2, h3⟩ := own w hm p hpm
  obtain ⟨hi, ei⟩ := Zzj.mp h2
  obtain ⟨hj, ej⟩ := Zzj.mp h3
  have e1 : xs.idxOf w.name = i := by rw [<- ei]; exact nd.idxOf_getElem i hi
  have e2 : xs.idxOf p.1 = j := by rw [<- ej]; exact nd.idxOf_getElem j hj
  show xs.length - 1 - xs.idxOf p.1 < xs.length - 1 - xs.idxOf w.name
  omega
 ·obtain ⟨j, _, k⟩ := hat w hm; exact k.2.com
 ·obtain ⟨h1, h2⟩ := hu.2 u hum
  exact ⟨pn.mem_iff.mpr h1, h2⟩
theorem R8 {α : Type} (t : Nat) (ws : List α) : (ws.drop t ++ ws.take t).Perm ws := List.perm_append_comm.trans (by rw [Zw3])
structure Sh46 (xs : List Str) (S : Sh) : Prop where
 good : Good 10 S
 n3 : 3 <= S.wares.length
 n7 : S.wares.length <= 7
 pn : (S.wares.map (·.name)).Perm (xs.take S.wares.length)
 days : ∀ u ∈ S.wants, 2 <= u.2.1
 few : S.wants.length <= 4
def sp_law_shop : Sp := λvs H Q _ => ∃ (st l : Addr) (xs : List Str), vs = [.ref st, .ref l] /\ StOk H st /\ H l = some (.lst (xs.map V.str)) /\ l ≠ st /\ xs.length = 8 /\ xs.Nodup /\ (∀ x ∈ xs, er x) /\ ∀ v (S : Sh) H', RD H' S.d v -> Sh46 xs S -> StOk H' st -> But st H H' -> Q v H'
def mt (st l q : Addr) (n : Nat) (xs : List Str) (H : Hp) (i : Nat) (Z : St) (H' : Hp) : Prop := ∃ (ws : List Wr) (vs : List V) (o : Option V), Z = [some (.ref st), some (.ref l), some (.ref q), some (.int n), o, none, none] /\ ws.length = i /\ (∀ j w, ws[j]? = some w -> ai (xs.take n) j w) /\ H' q = some (.lst vs) /\ RDs H' (ws.map Wr.d) vs /\ H' l = some (.lst (xs.map V.str)) /\ StOk H' st /\ But st H H'
def mv (st l q p : Addr) (n t : Nat) (xs : List Str) (ws : List Wr) (H : Hp) (i : Nat) (Z : St) (H' : Hp) : Prop := ∃ (us : List Wt) (vs uv : List V) (o : Option V), Z = [some (.ref st), some (.ref l), some (.ref q), some (.int n), o, some (.int t), some (.ref p)] /\ us.length = i /\ (∀ u ∈ us, u.1 ∈ xs.take n /\ (2 <= u.2.1 /\ u.2.1 < 10) /\ 0 <= u.2.2 /\ u.2.2 < 12) /\ H' q = some (.lst vs) /\ RDs H' (ws.map Wr.d) vs /\ H' p = some (.lst uv) /\ RDs H' (us.map Iv) uv /\ H' l = some (.lst (xs.map V.str)) /\ StOk H' st /\ But st H H'
theorem sc_law_shop : Aj ["_law_state", "_law_names_here", "_law_wares", "_law_many", "_law_k", "_law_turn", "_law_wants"] ["_law_state", "_law_names_here"] (A9 Ed) := by walk_at "sc"
theorem Ri (F : Fun K "_law_shop" "_law_shop" Ed f fd) (T : Txt mg) (C : Exc K mg c) (Zvq : Has P w K mg base "_law_next" 1 ["_law_state", "_law_many"] sp_law_next) (Zt7 : Has P w K mg base "_law_ware" 2 ["_law_state", "_law_name", "_law_beneath"] sp_law_ware) : FnOk P w K mg base CX0 3 f fd ["_law_state", "_law_names_here"] sp_law_shop := by
 refine F.ok sc_law_shop (λvs H Q E h => ?_) (λcdv A outer s H vs Q E hr h => ?_)
 ·obtain ⟨st, l, xs, rfl, _⟩ := h
  rfl
 ·obtain ⟨st, l, xs, rfl, hs, hl, lst', hx, nd, hnm, k⟩ := h
  have hu := Bc hr
  refine ⟨_, (A1 (Ae (i := 2) sc_law_shop.nd rfl (Zzt rfl) (Bt A2))
 (A1 (Ae (i := 3) sc_law_shop.nd rfl (Zzt rfl) (A7 hu (Bt (A6 A8 (A6 A8 (A6 A8 (A6 (An Bi A8 (Ab Zvq hr.z rfl (A6 (pv 0) (A6 A8 A2)))) A2))))) (Ab Zvq hr.z rfl (A6 (pv 0) (A6 A8 A2))) (λ_ _ => rfl)))
 (A1 (B3 PassesOwn.never rfl (Bh rfl T.Zvh (A6 (pv 3) A2)) (Ac (i := 4) sc_law_shop.nd rfl (Zzt rfl))
 (Aa (Ce (G3 Zyw Zyt Zys C8 (pv 2) (A6 (Ab Zt7 hr.z rfl (A6 (pv 0) (A6 (A7 hu (pv 1) (pv 4) (λ_ _ => rfl)) (A6 (By Cv (pv 1) (Bn (An Bi (pv 4) A8)) (Bn (pv 3))) A2)))) A2)))))
 (A1 (Ae (i := 5) sc_law_shop.nd rfl (Zzt rfl) (Ab Zvq hr.z rfl (A6 (pv 0) (A6 (pv 3) A2))))
 (A1 (Ae (i := 6) sc_law_shop.nd rfl (Zzt rfl) (Bt A2))
 (A1 (B3 PassesOwn.never rfl (Bh rfl T.Zvh (A6 (Ab Zvq hr.z rfl (A6 (pv 0) (A6 A8 A2))) A2)) (Ac (i := 4) sc_law_shop.nd rfl (Zzt rfl))
 (Aa (Ce (G3 Zyw Zyt Zys C8 (pv 6) (A6 (Dy (A6 (A7 hu (pv 1) (Ab Zvq hr.z rfl (A6 (pv 0) (A6 (pv 3) A2))) (λ_ _ => rfl)) (A6 (An Bi A8 (Ab Zvq hr.z rfl (A6 (pv 0) (A6 A8 A2)))) (A6 (Ab Zvq hr.z rfl (A6 (pv 0) (A6 A8 A2))) A2)))) A2)))))
 (Aa (Ak (Dy (A6 (D9 G7 rfl T.Ztf Hq (A6 (An Lx (By Cv (pv 2) (Bn (pv 5)) Er) (By Cv (pv 2) Er (Bn (pv 5)))) A2)) (A6 (D9 G7 rfl T.Ztf Hq (A6 (pv 6) A2)) A2))))))))))), ?_⟩
  walk_at "rd"
  refine ⟨by decide, λq hq => ?_⟩
  have qst : q ≠ st := Zzf (hs.ne hq)
  have lq : l ≠ q := A5 hl hq
  have hq1 : upd H q (.lst []) q = some (.lst []) := A0
  have s1 := hs.upd (o := .lst []) (hs.ne hq)
  have b1 : But st H (upd H q (.lst [])) := Gu hq
  have hl1 : upd H q (.lst []) l = some (.lst (xs.map V.str)) := by rw [A3 lq]; exact hl
  generalize upd H q (.lst []) = H1 at hq1 s1 b1 hl1
  refine ⟨st, 4, rfl, s1, by decide, by decide +kernel, λx H2 x0 x1 s2 b2 => ⟨x, rfl, by decide, λp hp => ?_⟩⟩
  have u2 := A4 (o := .lst [V.int 3, V.int 3, V.int 3, V.int (4 + x)]) hp
  have pst : p ≠ st := Zzf (s2.ne hp)
  refine ⟨st, 4, rfl, s2.same u2, by decide, by decide +kernel, λe H3 e0 e1 s3 b3 => ?_⟩
  have hp3 := b3 _ _ pst A0
  have b03 := ((b1.trans b2).same u2).trans b3
  have hq3 := b3 _ _ qst (u2 _ _ (b2 _ _ qst hq1))
  have hl3 := b3 _ _ lst' (u2 _ _ (b2 _ _ lst' hl1))
  obtain ⟨n, n3, n7, hn⟩ : ∃ n : Nat, 3 <= n /\ n <= 7 /\ [V.int 3, V.int 3, V.int 3, V.int (4 + x)][e.toNat]? = some (V.int (n : Int)) := by
   by_cases z : e = 3
   ·subst z
    exact ⟨(4 + x).toNat, by omega, by omega, by show some (V.int (4 + x)) = _; rw [Zvw (by omega)]⟩
   ·refine ⟨3, by decide, by decide, ?_⟩
    have : e.toNat = 0 \/ e.toNat = 1 \/ e.toNat = 2 := by omega
    rcases this with z | z | z <;> rw [z] <;> rfl
  refine ⟨_, Ci (.inl hp3) e0 hn, n, rfl, by omega, by omega, ?_⟩
  have hnn : ((n : Int)).toNat = n := by omega
  rw [hnn]
  have xt : (xs.take n).length = n := by rw [Zz5]; omega
  refine Cb (G6 0 _) (mt st l q n xs H) ⟨[], [], _, rfl, rfl, (λj w e => by simp at e), hq3, RDs.nil, hl3, s3, b03⟩ (λ_ _ _ _ _ => trivial) (λi y Z H4 hi hy h => ?_) (λZ H4 h => ?_)
  ·obtain ⟨ws, vs, o, rfl, wl, hk, hq4, r4, hl4, s4, b4⟩ := h
   subst hy
   walk_at "rd"
   have i0 : (0 + (i : Int)) = (i : Int) := by omega
   rw [i0]
   have hi : i < n := hi
   obtain ⟨nm, en⟩ : ∃ nm, xs[i]? = some nm := ⟨_, Zzq (by omega)⟩
   refine ⟨Dc hq4, _, Ci (.inl hl4) (by omega) (v := .str nm) (by rw [Zzx, Zxo, en]; rfl), _, hl4, λc1 hc1 => ?_⟩
   have ecut : E4 (xs.map V.str) (some ((i : Int) + 1)) (some (n : Int)) = ((xs.take n).drop (i + 1)).map V.str := by
    rw [Lb (by omega) (by omega), List.drop_take, Zwx, Zx4]
    congr 1
   rw [ecut]
   have u4 := A4 (o := .lst (((xs.take n).drop (i + 1)).map V.str)) hc1
   refine ⟨st, c1, nm, (xs.take n).drop (i + 1), rfl, s4.same u4, A0, Zzf (s4.ne hc1), by rw [Zym]; omega, ((List.drop_sublist _ _).trans (List.take_sublist _ _)).nodup nd, λv w H5 rw5 ew k5 s5 b5 => ?_⟩
   have b45 := (Ha u4).trans b5
   have hq5 := b45 _ _ qst hq4
   have hlv := Ax r4
   have kk := (E2 b45 s4).trans (Io (ys := vs ++ [v]) hq5)
   refine ⟨vs, hq5, Zzi (show vs.length < 1000 by omega) (Ao (Zzw _)), ws ++ [w], _, _, rfl, by rw [Zyx, wl]; rfl, λj w' hj => ?_, A0, ?_, ?_, s5.upd (Zzf qst), (b4.trans b45).upd hq⟩
   ·by_cases hjw : j < ws.length
    ·rw [Zy3 hjw] at hj
     exact hk j w' hj
    ·rw [Zyg (by omega)] at hj
     have hj0 : j - ws.length = 0 := by
      cases e : j - ws.length with
      | zero => rfl
      | succ n => rw [e] at hj; simp at hj
     rw [hj0] at hj
     have hj : w = w' := by simpa using hj
     have hje : j = i := by omega
     subst hj hje
     exact ⟨by rw [Zyj hi, en, ew], k5⟩
   ·rw [Zzg]
    exact RDs.app (RDs.ku kk _ _ (C5 Wr.d Hw _) r4) (RDs.one (RD.ku (Io hq5) _ _ (Hw w) rw5))
   ·rw [A3 lq]
    exact b45 _ _ lst' hl4
  ·obtain ⟨ws, vs, o, rfl, wl, hk, hq4, r4, hl4, s4, b4⟩ := h
   walk_at "rd"
   refine ⟨st, n, rfl, s4, by omega, Zwf (b := 9) (by omega) (by decide +kernel), λt H5 t0 t1 s5 b5 => ?_⟩
   obtain ⟨t, rfl⟩ := Int.eq_ofNat_of_zero_le t0
   refine ⟨Zyn _, λp2 hp2 => ?_⟩
   have p2st : p2 ≠ st := Zzf (s5.ne hp2)
   have hq5 := b5 _ _ qst hq4
   have hl5 := b5 _ _ lst' hl4
   have qp2 : q ≠ p2 := A5 hq5 hp2
   have lp2 : l ≠ p2 := A5 hl5 hp2
   have fp2 : H p2 = none := (b4.trans b5).none p2st hp2
   have u5 := A4 (o := .lst []) hp2
   have r5 := RDs.ku ((E2 b5 s4).trans u5.ku) _ _ (C5 Wr.d Hw _) r4
   refine ⟨st, 5, rfl, s5.same u5, by decide, by decide +kernel, λm H6 m0 m1 s6 b6 => ⟨m, rfl, by omega, by omega, ?_⟩⟩
   have kk6 := E2 b6 (s5.same u5)
   refine Cb (G6 0 _) (mv st l q p2 n t xs ws H) ⟨[], vs, [], _, rfl, rfl, (λu hu => nomatch hu), b6 _ _ qst (u5 _ _ hq5), RDs.ku kk6 _ _ (C5 Wr.d Hw _) r5, b6 _ _ p2st A0, RDs.nil, b6 _ _ lst' (u5 _ _ hl5), s6, ((b4.trans b5).same u5).trans b6⟩ (λ_ _ _ _ _ => trivial) (λi y Z H7 hi hy h => ?_) (λZ H7 h => ?_)
   ·obtain ⟨us, vs, uv, o, rfl, ul, hus, hq7, r7, hp7, ru7, hl7, s7, b7⟩ := h
    walk_at "rd"
    refine ⟨Dc hp7, st, n, rfl, s7, by omega, Zwf (b := 9) (by omega) (by decide +kernel), λa H8 a0 a1 s8 b8 => ?_⟩
    obtain ⟨nm, en⟩ : ∃ nm, xs[a.toNat]? = some nm := ⟨_, Zzq (by omega)⟩
    refine ⟨_, Ci (.inl (b8 _ _ lst' hl7)) a0 (v := .str nm) (by rw [Zzx, en]; rfl), st, 8, rfl, s8, by decide, by decide +kernel, λd H9 d0 d1 s9 b9 => ⟨d, rfl, st, 12, rfl, s9, by decide, by decide +kernel, λe H10 e0 e1 s10 b10 => ⟨by decide, λtt ht => ?_⟩⟩⟩
    have bb := (b8.trans b9).trans b10
    have hp10 := bb _ _ p2st hp7
    have u := A4 (o := .tup [V.str nm, V.int (2 + d), V.int e]) ht
    have hlv := Ax ru7
    have kk := ((E2 bb s7).trans u.ku).trans (Io (ys := uv ++ [V.ref tt]) (u _ _ hp10))
    refine ⟨uv, u _ _ hp10, Zzi (show uv.length < 1000 by omega) (Ao (Zzw _)), us ++ [(nm, 2 + d, e)], vs, _, _, rfl, by rw [Zyx, ul]; rfl, λu' hu' => ?_, ?_, RDs.ku kk _ _ (C5 Wr.d Hw _) r7, A0, ?_, ?_, (s10.same u).upd (Zzf p2st), ((b7.trans bb).same u).upd fp2⟩
    ·rcases Zyu.mp hu' with z | z
     ·exact hus u' z
     ·rw [Zzb.mp z]
      exact ⟨Zzn (i := a.toNat) (by rw [Zyj (by omega)]; exact en), ⟨by show 2 <= 2 + d; omega, by show 2 + d < 10; omega⟩, e0, e1⟩
    ·rw [A3 qp2]; exact u _ _ (bb _ _ qst hq7)
    ·rw [Zzg]
     refine RDs.app (RDs.ku kk _ _ (C5 Iv Uq _) ru7) (RDs.one (RD.tup_mk (xs := [V.str nm, V.int (2 + d), V.int e]) ?_ (RDs.cons RD.str_mk (RDs.cons RD.int_mk (RDs.one RD.int_mk)))))
     rw [A3 (Zzf (A5 hp10 ht)), A0]
    ·rw [A3 lp2]; exact u _ _ (bb _ _ lst' hl7)
   ·obtain ⟨us, vs, uv, o, rfl, ul, hus, hq7, r7, hp7, ru7, hl7, s7, b7⟩ := h
    walk_at "rd"
    have ul : us.length <= 4 := by omega
    have e1 : E4 vs (some (t : Int)) none = vs.drop t := by rw [Gk (by omega), Zxo]
    have e2 : E4 vs none (some (t : Int)) = vs.take t := by rw [Qi (by omega), Zxo]
    have hlv := Ax r7
    have ll : (vs.drop t).length + (vs.take t).length <= sizeLine := Zyz (m := 1000) (by rw [Zym, Zz5]; omega) (Ao (Zzw _))
    refine ⟨vs, hq7, λa1 h1 => ⟨vs, A4 h1 _ _ hq7, λa2 h2 => ?_⟩⟩
    rw [e1] at h2 ⊢
    rw [e2]
    have v1 := A4 (o := .lst (vs.drop t)) h1
    have v2 := A4 (o := .lst (vs.take t)) h2
    refine ⟨_, v2 _ _ A0, _, A0, ll, λa3 h3 => ⟨_, .inl ⟨A0, λa4 h4 => ⟨uv, .inl ⟨?_, λa5 h5 => ⟨by decide, λa6 h6 => ?_⟩⟩⟩⟩⟩⟩
    ·exact A4 h4 _ _ (A4 h3 _ _ (v2 _ _ (v1 _ _ hp7)))
    have v3 := A4 (o := .lst (vs.drop t ++ vs.take t)) h3
    have v4 := A4 (o := .tup (vs.drop t ++ vs.take t)) h4
    have v5 := A4 (o := .tup uv) h5
    have v6 := A4 (o := .tup [V.ref a4, V.ref a5]) h6
    have vv := ((((v1.trans v2).trans v3).trans v4).trans v5).trans v6
    have r9 := RDs.same vv _ _ r7
    have hg := jh (xs := xs.take n) (ws := ws) (ws' := ws.drop t ++ ws.take t) (us := us) ((List.take_sublist _ _).nodup nd) (λx hx => hnm x (Zvx hx)) (by omega) (by omega) hk (R8 t ws) ⟨by omega, λu hu => ⟨(hus u hu).1, ⟨by have := (hus u hu).2.1; omega, (hus u hu).2.1.2⟩, (hus u hu).2.2.1, Zwg (hus u hu).2.2.2 (by decide +kernel)⟩⟩
    have hln : (ws.drop t ++ ws.take t).length = n := by rw [(R8 t ws).length_eq, wl]
    refine k (.ref a6) ⟨ws.drop t ++ ws.take t, us⟩ _ ?_ ⟨hg.1, by show 3 <= (ws.drop t ++ ws.take t).length; omega, by show (ws.drop t ++ ws.take t).length <= 7; omega, by show List.Perm _ (xs.take (ws.drop t ++ ws.take t).length); rw [hln]; exact hg.2, λu hu => (hus u hu).2.1.1, ul⟩ (s7.same vv) (b7.same vv)
    unfold Sh.d
    refine RD.tup_mk A0 (RDs.cons (RD.tup_mk (v6 _ _ (v5 _ _ A0)) ?_) (RDs.one (RD.tup_mk (v6 _ _ A0) (RDs.same vv _ _ ru7))))
    show RDs _ ((ws.drop t ++ ws.take t).map Wr.d) _
    rw [Zzg, Zx4, Zwx]
    exact RDs.app (J9 t r9) (Lp t r9)
end
set_option maxHeartbeats 4000000
section
variable {P : Program} {w : World} {K : Zzu} {mg : Str -> Option Value} {base : Heap} {f : Addr} {fd : FuncData} {c : Cl} {Pt Pu : Addr}
def J4 (c : Cl) : Sp := λvs H Q E => ∃ (v : V) (S : Sh) (n : Str), vs = [v, .str n] /\ RD H S.d v /\ n ∉ S.wares.map (·.name) /\ n.length <= 1000 /\ (∀ c ∈ n.cps.toList, c < 1114112) /\ ∀ H', Same H H' -> E (.ref c.NoName) none H'
theorem Jf (F : Fun K "ware_of" "ware_of" E8 f fd) (T : Txt mg) (C : Exc K mg c) : FnOk P w K mg base (CXE P w) 1 f fd ["shop", "name"] (J4 c) := by
 refine F.okX sc_ware_of (λvs H Q E h => ?_) (λcdv A outer s H vs Q E hr h => ?_)
 ·obtain ⟨v, S, n, rfl, _⟩ := h
  rfl
 ·obtain ⟨v, S, n, rfl, rs, hn, hx, htx, ke⟩ := h
  have hu := Bc hr
  refine ⟨_, (A1 (B3 PassesOwn.leaving rfl (Dw (A7 hu (pv 0) A8 (λ_ _ => rfl))) (Ac (i := 2) sc_ware_of.nd rfl (Zzt rfl))
 (Aa (Bm (Ai (Dj hu) (A7 hu (pv 2) (Aq rfl T.Zv0) (λ_ _ => rfl)) (pv 1) (Ar _)) (Aa (Ak (pv 2))) At)))
 (Aa (Jb Uv rfl rfl C.Zss C.Ztu (A6 (T8 (T7 (ir (pv 1) T6))) A2)))), ?_⟩
  obtain ⟨a, b, c', ws, us, rfl, ha, hb, hc, rws, rus⟩ := Dh rs
  have hl := Ax rws
  walk_at "rd"
  refine ⟨_, Ad (j := 0) ha rfl, b, rfl, _, hb, ?_⟩
  refine Cb (G5 b _) (Vh (.ref a) n S.wares H) ⟨_, rfl, rfl, λw hw => by cases hw⟩ (λi Z H' _ h => by obtain ⟨_, _, rfl, _⟩ := h; exact hb) (λi y Z H2 hi hy h => ?_) (λZ H2 h => ?_)
  ·obtain ⟨o, rfl, rfl, hno⟩ := h
   obtain ⟨u, hu', ru⟩ := C4 rws hy
   obtain ⟨te, c1, c2, rfl, hte, _⟩ := C3 ru
   walk_at "rd"
   refine ⟨_, Ad (j := 0) hte rfl, rfl, ?_⟩
   have ne : u.name ≠ n := λz => hn (Zzl.mpr ⟨u, Zzn hu', z⟩)
   rw [if_neg (by simpa using ne)]
   refine ⟨_, rfl, rfl, λw hw => ?_⟩
   rw [Zz8, hu'] at hw
   rcases Zyu.mp hw with z | z
   ·exact hno w z
   ·have : w = u := by simpa using z
    rw [this]; exact ne
  ·obtain ⟨o, rfl, rfl, hno⟩ := h
   walk_at "rd"
   have l18 : (Str.ofString "no ware is called ").length = 18 := by decide +kernel
   exact ⟨by omega, htx, by omega, by omega, λ_ => ⟨by decide, ke _ (Same.refl _)⟩⟩
def Vw (t : Tm) : Tm := { t with s := none }
theorem ba {t : Tm} (h : TOk t) : TOk (Vw t) := ⟨h.p0, h.p1, h.k0, h.k1, λn e => by cases e⟩
def Dt (g : Nat) (ts : List Tm) : List Tm := (ts.take g).map Vw ++ ts.drop g
theorem Ib (g : Nat) (ts : List Tm) : (Dt g ts).length = ts.length := by
 unfold Dt
 rw [Zyx, Zzz, Zz5, Zym]
 omega
theorem Mg {g : Nat} {ts : List Tm} {i : Nat} {t : Tm} (e : ts[i]? = some t) : (Dt g ts)[i]? = some (if g <= i then t else Vw t) := by
 have hi := (Zzj.mp e).1
 unfold Dt
 by_cases h : g <= i
 ·rw [if_pos h, Zyg (by rw [Zzz, Zz5]; omega), Zzz, Zz5, Zyc]
  have : g + (i - min g ts.length) = i := by omega
  rw [this, e]
 ·rw [if_neg h, Zy3 (by rw [Zzz, Zz5]; omega), Zzx, Zyj (by omega), e]
  rfl
theorem S5 {g : Nat} {ts : List Tm} (h : ∀ t ∈ ts, TOk t) : ∀ t ∈ Dt g ts, TOk t := λt ht => by
 rcases Zyu.mp ht with z | z
 ·obtain ⟨y, hy, rfl⟩ := Zzl.mp z
  exact ba (h y (Zvx hy))
 ·exact h t (List.mem_of_mem_drop z)
def sp_terms_from : Sp := λvs H Q _ => ∃ (b : Addr) (ts : List Tm) (g : Nat), vs = [.ref b, .int (g : Int)] /\ TmsAt H b ts /\ ts.length <= 900 /\ ∀ p H', H p = none -> TmsAt H' p (Dt g ts) -> Same H H' -> Q (.ref p) H'
def gx (b p : Addr) (ts : List Tm) (g : Nat) (H : Hp) (i : Nat) (Z : St) (H' : Hp) : Prop := ∃ (vs : List V) (o1 o2 o3 : Option V), Z = [some (.ref b), some (.int (g : Int)), some (.ref p), o1, o2, o3] /\ H' p = some (.lst vs) /\ RDs H' (((Dt g ts).take i).map Tm.d) vs /\ Same H H'
theorem sc_terms_from : Aj ["terms", "first", "told", "day", "term", "setup"] ["terms", "first"] (A9 D2) := by walk_at "sc"
theorem N6 (F : Fun K "terms_from" "terms_from" D2 f fd) (T : Txt mg) (C : Exc K mg c) : FnOk P w K mg base CX0 1 f fd ["terms", "first"] sp_terms_from := by
 refine F.ok sc_terms_from (λvs H Q E h => ?_) (λcdv A outer s H vs Q E hr h => ?_)
 ·obtain ⟨b, ts, g, rfl, _⟩ := h
  rfl
 ·obtain ⟨b, ts, g, rfl, ⟨tv, hb, rt⟩, hl, k⟩ := h
  have hu := Bc hr
  refine ⟨_, (A1 (Ae (i := 2) sc_terms_from.nd rfl (Zzt rfl) (Bt A2))
 (A1 (B3 PassesOwn.never rfl (Pj rfl T.Ztn (A6 (pv 0) A2)) (Dx (n := 2) rfl (As (Ac (i := 3) sc_terms_from.nd rfl (Zzt rfl)) (As (Ac (i := 4) sc_terms_from.nd rfl (Zzt rfl)) Cw)))
 (A1 (Ae (i := 5) sc_terms_from.nd rfl (Zzt rfl) (Rc (Ai gg (pv 3) (pv 1) (Ar _)) (A7 hu (pv 4) (Aq rfl T.Zu1) (λ_ _ => rfl)) Cz))
 (Aa (Ce (G3 Zyw Zyt Zys C8 (pv 2) (A6 (Dy (A6 (pv 5) (A6 (A7 hu (pv 4) (Aq rfl T.Ztx) (λ_ _ => rfl)) (A6 (A7 hu (pv 4) (Aq rfl T.Ztd) (λ_ _ => rfl)) A2)))) A2))))))
 (Aa (Ak (pv 2))))), ?_⟩
  walk_at "rd"
  have htl := Ax rt
  refine ⟨by decide, λp hp => ⟨_, by rw [A3 (A5 hb hp)]; exact hb, ?_⟩⟩
  have u := A4 (o := .lst []) hp
  refine Op (Z4 b _) (gx b p ts g H) ⟨[], _, _, _, rfl, A0, RDs.nil, u⟩ (λi Z H' _ h => by obtain ⟨_, _, _, _, _, _, _, s⟩ := h; exact s _ _ hb) (λi ys q Z H1 hi hy h hq => ?_) (λZ H1 h => ?_)
  ·obtain ⟨vs, o1, o2, o3, rfl, hp1, r1, s1⟩ := h
   obtain ⟨y, ey, rfl⟩ := hy
   obtain ⟨t, et, ry⟩ := C4 rt ey
   obtain ⟨ta, rfl, hta⟩ := Iy ry
   have hi2 := (Zzj.mp et).1
   have uq := A4 (o := .tup [V.int i, V.ref ta]) hq
   refine gT2 ?_
   have hp2 := uq _ _ hp1
   have s2 := s1.trans uq
   have hta2 := s2 _ _ hta
   have r2 := RDs.same uq _ _ r1
   generalize upd H1 q (.tup [V.int i, V.ref ta]) = H2 at hp2 s2 hta2 r2
   walk_at "rd"
   have hlv := Ax r1
   rw [Zz5, Ib] at hlv
   have fin : ∀ (sv : Option Int), (if g <= i then t else Vw t).s = sv -> 3 <= sizeLine /\ ∀ p1, H2 p1 = none -> ∃ x, upd H2 p1 (.tup [Ga sv, .int t.p, .int t.k]) p = some (.lst x) /\ x.length < sizeLine /\ gx b p ts g H (i + 1) [some (.ref b), some (.int (g : Int)), some (.ref p), some (.int i), some (.ref ta), some (Ga sv)] (upd (upd H2 p1 (.tup [Ga sv, .int t.p, .int t.k])) p (.lst (x ++ [V.ref p1]))) := λsv esv => by
    refine ⟨by decide, λp1 hp1' => ⟨vs, ?_, Zzi (show vs.length < 1000 by omega) (Ao (Zzw _)), _, _, _, _, rfl, A0, ?_, ?_⟩⟩
    ·exact A4 hp1' _ _ hp2
    ·have u3 := A4 (o := .tup [Ga sv, .int t.p, .int t.k]) hp1'
     have kk := u3.ku.trans (Io (ys := vs ++ [V.ref p1]) (u3 _ _ hp2))
     rw [Zz8, Mg et, Zzg]
     refine RDs.app (RDs.ku kk _ _ (C5 _ Ro _) r2) (RDs.one ?_)
     refine Xr ?_
     rw [esv, A3 (Zzf (A5 hp2 hp1')), A0]
     split <;> rfl
    ·exact λx o hx => by
      rw [A3 (A5 hx hp)]
      exact A4 hp1' _ _ (s2 _ _ hx)
   refine Ey (λhg => ?_) (λhg => ?_)
   ·have hg : g <= i := by have := of_decide_eq_true hg; omega
    exact ⟨_, Ad (j := 0) hta2 rfl, Dc hp2, _, Ad (j := 1) hta2 rfl, _, Ad (j := 2) hta2 rfl, fin t.s (by rw [if_pos hg])⟩
   ·have hg : ¬ g <= i := λz => hg (decide_eq_true (by omega))
    exact ⟨Dc hp2, _, Ad (j := 1) hta2 rfl, _, Ad (j := 2) hta2 rfl, fin none (by rw [if_neg hg]; rfl)⟩
  ·obtain ⟨vs, o1, o2, o3, rfl, hp1, r1, s1⟩ := h
   walk_at "rd"
   rw [htl, Zxl (by rw [Ib]; exact Zzw _)] at r1
   exact k p H1 hp ⟨vs, hp1, r1⟩ s1
def Ll (c : Cl) (Pt : Addr) : Sp := λvs H Q E => ∃ (v : V) (S : Sh) (sz : Int), vs = [v] /\ RD H S.d v /\ Good sz S /\ 0 < sz /\ sz <= 1000 /\ (∀ w ∈ S.wares, w.name.length <= 800) /\ Tb H Pt /\ ((∃ w ∈ S.wares, Bo (LR S w.name) w.lag ≠ none) -> ∀ H', Tb H' Pt -> But Pt H H' -> E (.ref c.NoPlan) none H') /\
 ((∀ w ∈ S.wares, Bo (LR S w.name) w.lag = none) -> ∀ p H', PlanAt H' p S (LR S) -> Tb H' Pt -> But Pt H H' -> Q (.ref p) H')
theorem sc_plan_of : Aj ["shop", "found", "name"] ["shop"] (A9 Fg) := by walk_at "sc"
theorem Td (F : Fun K "plan_of" "plan_of" Fg f fd) (T : Txt mg) (C : Exc K mg c) (Zu7 : Has P w K mg base "planned" 7 ["shop"] (Il Pt)) : FnOk P w K mg base (CXE P w) 8 f fd ["shop"] (Ll c Pt) := by
 refine F.okX sc_plan_of (λvs H Q E h => ?_) (λcdv A outer s H vs Q E hr h => ?_)
 ·obtain ⟨v, S, sz, rfl, _⟩ := h
  rfl
 ·obtain ⟨v, S, sz, rfl, rs, g, z0, z1, nl, tb, ke, k⟩ := h
  have hu := Bc hr
  refine ⟨_, (A1 (Ae (i := 1) sc_plan_of.nd rfl (Zzt rfl) (Ab Zu7 hr.z rfl (A6 (pv 0) A2)))
 (A1 (Bm (Ai (Dj hu) (A7 hu (pv 1) A8 (λ_ _ => rfl)) Cm (Ar _)) (A1 (Ae (i := 2) sc_plan_of.nd rfl (Zzt rfl) (A7 hu (pv 1) A8 (λ_ _ => rfl)))
 (Aa (Jb Uv rfl rfl C.Zsr C.Ztv (A6 (T8 (T7 (Y7 (pv 2) T6))) A2)))) At)
 (Aa (Ak (A7 hu (pv 1) A8 (λ_ _ => rfl)))))), ?_⟩
  walk_at "rd"
  refine ⟨v, S, sz, rfl, rs, g, z0, z1, tb, λt p ys i H1 ht hp ntp so ra he tb1 b1 hcase => ?_⟩
  walk_at "rd"
  rcases hcase with ⟨ei, ht1⟩ | ⟨w, d, hw, hy, hd, ht1⟩
  ·refine ⟨_, Ad (j := 0) ht1 rfl, rfl, ?_⟩
   rw [if_neg (by decide +kernel)]
   refine ⟨_, Ad (j := 1) ht1 rfl, ?_⟩
   rw [ei, Zyv] at ra he
   have hm : ∀ nm ∈ Bu S, nm ∈ ys := λnm h => (Jv so).1.mem_iff.mpr h
   have L := Gj g
   obtain ⟨kvs, hk1, hk2, hk3, hk4⟩ := ra
   refine k (λw hw => he w hw (hm _ (Zzl.mpr ⟨w, hw, rfl⟩))) p H1 ⟨kvs, .inl hk1, λnm hnm => ?_⟩ tb1 b1
   obtain ⟨q, e1, e2, e3, e4⟩ := hk3 nm (hm _ hnm)
   obtain ⟨w, hw, rfl⟩ := Zzl.mp hnm
   exact ⟨q, e3, e4, Mu L.toLev hw, λx hx => ⟨(Mv (Ia g) _ x hx).1, Zwg (Mv (Ia g) _ x hx).2 (by decide +kernel)⟩⟩
  ·refine ⟨_, Ad (j := 0) ht1 rfl, rfl, ?_⟩
   rw [if_pos (by decide +kernel)]
   refine ⟨_, Ad (j := 2) ht1 rfl, ?_⟩
   have hn := nl w hw
   have l21 : (Str.ofString "the shop is short of ").length = 21 := by decide +kernel
   exact ⟨by omega, _, rfl, by omega, by omega, λ_ => ⟨by decide, ke ⟨w, hw, λz => by rw [hd] at z; cases z⟩ H1 tb1 b1⟩⟩
end
set_option maxHeartbeats 4000000
section
variable {P : Program} {w : World} {K : Zzu} {mg : Str -> Option Value} {base : Heap} {f : Addr} {fd : FuncData} {c : Cl} {Pt Pu : Addr}
structure Kt (Pt Pu : Addr) (H H' : Hp) : Prop where
 but : ∀ b o, b ≠ Pt -> b ≠ Pu -> H b = some o -> H' b = some o
 tb : Tb H' Pt
 tc : Tc H' Pu
theorem Tc.tbut {H H' : Hp} {Pt Pu : Addr} (t : Tc H Pu) (tb : Tb H Pt) (n : Pt ≠ Pu) (b : But Pt H H') : Tc H' Pu := by
 rcases t with e | ⟨d, e, e2⟩
 ·exact .inl (b _ _ (Zzf n) e)
 ·exact .inr ⟨d, b _ _ (Zzf n) e, b _ _ (R3 tb e2 (λu z => by cases z)) e2⟩
theorem Tb.cbut {H H' : Hp} {Pt Pu : Addr} (t : Tb H Pt) (tc : Tc H Pu) (n : Pt ≠ Pu) (b : But Pu H H') : Tb H' Pt := by
 rcases t with e | ⟨d, e, e2⟩
 ·exact .inl (b _ _ n e)
 ·exact .inr ⟨d, b _ _ n e, b _ _ (R1 tc e2 (λu z => by cases z)) e2⟩
theorem ia {H H' : Hp} {Pt a : Addr} {ts : List Tm} (h : TmsAt H a ts) (tb : Tb H Pt) (b : But Pt H H') : TmsAt H' a ts := by
 obtain ⟨vs, e, r⟩ := h
 exact TmsAt.ku (a := a) (Ue tb b) r (b _ _ (R3 tb e (λu z => by cases z)) e)
theorem Tl {ns cs : List Int} {ts : List Tm} {S : List (Option Nat)} (l1 : ns.length = ts.length) (L : Least ns ts ts.length cs S) {j : Nat} {n : Int} (e : ns[j]? = some n) : Iu ts j n := by
 by_cases z : n = 0
 ·exact .inl z
 ·have hj := (Zzj.mp e).1
  obtain ⟨j', h1, h2, _⟩ := L.last j (by omega) (by rw [Au e]; exact z)
  obtain ⟨t, et⟩ := Bk (xs := ts) (i := j') (by omega)
  refine .inr ⟨j', t, h1, et, ?_⟩
  unfold E5 at h2
  rw [Au et] at h2
  cases q : t.s with
  | none => rw [q] at h2; cases h2
  | some _ => rfl
def B6 (S : Sh) (w : Wr) : List Int := (LR S w.name).map λl => l * w.gives
theorem G0 {S : Sh} (L : Lev S) {w : Wr} (hw : w ∈ S.wares) : (B6 S w).length = daysN S := by unfold B6; rw [Zzz, Mu L hw]
def Qr (S : Sh) (w : Wr) (ts : List Tm) : Prop := ∃ (j : Nat) (n : Int), (B6 S w)[j]? = some n /\ ¬ Iu (Dt w.lag.toNat ts) j n
open Classical in
noncomputable def wd46 (S : Sh) (nm : Str) (ts : List Tm) : Str :=
 if nm ∉ S.wares.map (·.name) then "name" else if ∃ w ∈ S.wares, w.name = nm /\ w.parts ≠ [] then "buy" else if ∃ w ∈ S.wares, Bo (LR S w.name) w.lag ≠ none then "plan" else if ∃ w ∈ S.wares, w.name = nm /\ Qr S w ts then "day" else ""
theorem Ub {S : Sh} {nm : Str} {ts : List Tm} (h : nm ∉ S.wares.map (·.name)) : wd46 S nm ts = "name" := by unfold wd46; rw [if_pos h]
section
variable {S : Sh} {ts : List Tm} {w : Wr} (nd : (S.wares.map (·.name)).Nodup) (hw : w ∈ S.wares)
theorem Jo (hw : w ∈ S.wares) : ¬ w.name ∉ S.wares.map (·.name) := λz => z (Zzl.mpr ⟨w, hw, rfl⟩)
include nd hw
theorem Xm (h : w.parts ≠ []) : wd46 S w.name ts = "buy" := by unfold wd46; rw [if_neg (Jo hw), if_pos ⟨w, hw, rfl, h⟩]
theorem P7 {p : Wr -> Prop} (h : ¬ p w) : ¬ ∃ u ∈ S.wares, u.name = w.name /\ p u := λ⟨u, hu, e, z⟩ => h (by rw [<- Le nd hu hw e]; exact z)
theorem Ua (h : w.parts = []) (hs : ∃ w ∈ S.wares, Bo (LR S w.name) w.lag ≠ none) : wd46 S w.name ts = "plan" := by unfold wd46; rw [if_neg (Jo hw), if_neg (P7 nd hw λz => z h), if_pos hs]
theorem Xl (h : w.parts = []) (hs : ∀ w ∈ S.wares, Bo (LR S w.name) w.lag = none) (hd : Qr S w ts) : wd46 S w.name ts = "day" := by unfold wd46; rw [if_neg (Jo hw), if_neg (P7 nd hw λz => z h), if_neg (λ⟨u, hu, z⟩ => z (hs u hu)), if_pos ⟨w, hw, rfl, hd⟩]
theorem Xk (h : w.parts = []) (hs : ∀ w ∈ S.wares, Bo (LR S w.name) w.lag = none) (hd : ¬ Qr S w ts) : wd46 S w.name ts = "" := by unfold wd46; rw [if_neg (Jo hw), if_neg (P7 nd hw λz => z h), if_neg (λ⟨u, hu, z⟩ => z (hs u hu)), if_neg (P7 nd hw hd)]
end
structure ff (H' : Hp) (S : Sh) (w : Wr) (ts : List Tm) (t o v : Addr) (cs : List Int) (St : List (Option Nat)) (os : List Int) : Prop where
 ht : H' t = some (.tup [.int (cs.getD ts.length 0), .ref o, .ref v])
 least : Least (B6 S w) (Dt w.lag.toNat ts) ts.length cs St
 hv : H' v = some (.lst ((Af ts.length λi => cs.getD (i + 1) 0 - cs.getD i 0).map V.int))
 ho : H' o = some (.lst (os.map V.int))
 lo : os.length = ts.length
 io : IsOrd (B6 S w) St ts.length (λx => os.getD x 0)
def O9 (c : Cl) (Pt Pu : Addr) : Sp := λvs H Q E => ∃ (v : V) (S : Sh) (nm : Str) (b : Addr) (ts : List Tm), vs = [v, .str nm, .ref b] /\ RD H S.d v /\ Good 10 S /\ TmsAt H b ts /\ ts.length = daysN S /\ ts.length <= 900 /\ (∀ t ∈ ts, TOk t) /\ (∀ w ∈ S.wares, w.name.length <= 800) /\ nm.length <= 800 /\ (∀ c ∈ nm.cps.toList, c < 1114112) /\ Tb H Pt /\ Tc H Pu /\ Pt ≠ Pu /\
 (wd46 S nm ts = "name" -> ∀ H', Kt Pt Pu H H' -> E (.ref c.NoName) none H') /\ (wd46 S nm ts = "buy" -> ∀ H', Kt Pt Pu H H' -> E (.ref c.NoBuy) none H') /\ (wd46 S nm ts = "plan" -> ∀ H', Kt Pt Pu H H' -> E (.ref c.NoPlan) none H') /\ (wd46 S nm ts = "day" -> ∀ H', Kt Pt Pu H H' -> E (.ref c.NoDay) none H') /\
 (wd46 S nm ts = "" -> ∀ (w : Wr) (t o v : Addr) (cs : List Int) (St : List (Option Nat)) (os : List Int) (H' : Hp), w ∈ S.wares -> w.name = nm -> (∀ w ∈ S.wares, Bo (LR S w.name) w.lag = none) -> ff H' S w ts t o v cs St os -> Kt Pt Pu H H' -> Q (.ref t) H')
theorem sc_bought : Aj ["shop", "name", "terms", "ware", "wanted"] ["shop", "name", "terms"] (A9 Gg) := by walk_at "sc"
theorem Wa (F : Fun K "bought" "bought" Gg f fd) (T : Txt mg) (C : Exc K mg c) (Zvn : Has P w K mg base "check_rings" 4 ["shop"] sp_check_rings) (Ztj : HasX P w K mg base "ware_of" 1 ["shop", "name"] (orS sp_ware_of (J4 c))) (Zt1 : HasX P w K mg base "plan_of" 8 ["shop"] (Ll c Pt)) (Zt6 : HasX P w K mg base "cheapest" 2 ["wanted", "terms"] (Kk c Pu)) (Ztr : Has P w K mg base "terms_from" 1 ["terms", "first"] sp_terms_from) : FnOk P w K mg base (CXE P w) 9 f fd ["shop", "name", "terms"] (O9 c Pt Pu) := by
 refine F.okX sc_bought (λvs H Q E h => ?_) (λcdv A outer s H vs Q E hr h => ?_)
 ·obtain ⟨v, S, nm, b, ts, rfl, _⟩ := h
  rfl
 ·obtain ⟨v, S, nm, b, ts, rfl, rs, g, hb, lt, l900, tok, nl, nl1, nch, tb, tc, ntc, kn, kb, kp, kd, k⟩ := h
  have hu := Bc hr
  refine ⟨_, (A1 (Ce (Ab Zvn hr.z rfl (A6 (pv 0) A2)))
 (A1 (Ae (i := 3) sc_bought.nd rfl (Or.inr rfl) (He Ztj Um hr.z rfl (A6 (pv 0) (A6 (pv 1) A2))))
 (A1 (Bm (bg (A7 hu (pv 3) (Aq rfl T.Zu2) (λ_ _ => rfl))) (Aa (Jb Uv rfl rfl C.Zsn C.Zta (A6 (T8 (Y7 (pv 1) (T7 T6))) A2))) At)
 (A1 (Ej (own := ["lots"]) (cap := [3]) (i := 4) rfl (Fb rfl) (C9 (by decide)) sc_bought.nd rfl rfl (iq (A7 hu (He Zt1 Um hr.z rfl (A6 (pv 0) A2)) (pv 1) (λ_ _ => rfl)))
 (λ_ _ _ _ _ _ => ⟨(Ac (i := 0) (of_decide_eq_true rfl) rfl (Zzt rfl) (.inr rfl)), D8, (An Dz (pv 0) (A7 hu (pv 1) (Aq rfl T.Zu3) (λ_ _ => rfl)))⟩))
 (Aa (Ak (He Zt6 Um hr.z rfl (A6 (pv 4) (A6 (Ab Ztr hr.z rfl (A6 (pv 2) (A6 (A7 hu (pv 3) (Aq rfl T.Zto) (λ_ _ => rfl)) A2))) A2))))))))), ?_⟩
  walk_at "rd"
  have L := (Gj g).toLev
  refine ⟨v, S, rfl, rs, g.ok, g.no, λH1 sm1 => ?_⟩
  have tb1 := tb.same sm1
  have tc1 := tc.same sm1
  have rs1 := RD.same sm1 _ _ rs
  by_cases hnm : nm ∈ S.wares.map (·.name)
  ·refine .inl ⟨v, S, nm, rfl, rs1, g.ok, hnm, λx w hw ew rx => ?_⟩
   subst ew
   have nd := g.ws.nd
   obtain ⟨te, c1, c2, rfl, hte, _, rpp⟩ := C3 rx
   obtain ⟨c2, pv, rfl, hpv, rpv⟩ := RD.tup_of rpp
   have hpl := Ax rpv
   refine ⟨_, Ad (j := 6) hte rfl, c2, rfl, pv, hpv, Ey (λhne => ?_) (λhne => ?_)⟩
   ·have hp : w.parts ≠ [] := λz => by
     rw [z] at hpl
     rw [List.eq_nil_of_length_eq_zero hpl] at hne
     exact absurd hne (by decide)
    have l17 : (Str.ofString " is made of parts").length = 17 := by decide +kernel
    exact ⟨by omega, by omega, by omega, λ_ => ⟨by decide, kb (Xm nd hw hp) H1 ⟨λb o _ _ e => sm1 _ _ e, tb1, tc1⟩⟩⟩
   have hp : w.parts = [] := by
    cases e : w.parts with
    | nil => rfl
    | cons a r =>
     rw [e] at hpl
     cases pv with
     | nil => cases hpl
     | cons _ _ => exact absurd rfl hne
   refine ⟨v, S, 10, rfl, rs1, g, by decide, by decide, nl, tb1, λhs H2 tb2 b2 => ?_, λhs p H2 pl tb2 b2 => ?_⟩
   ·exact kp (Ua nd hw hp hs) H2 ⟨λb o n1 _ e => b2 _ _ n1 (sm1 _ _ e), tb2, tc1.tbut tb1 ntc b2⟩
   have tc2 := tc1.tbut tb1 ntc b2
   obtain ⟨kvs, hk, hrows⟩ := pl
   obtain ⟨l, e1, e2, e3, e4⟩ := hrows w.name (Zzl.mpr ⟨w, hw, rfl⟩)
   refine ⟨_, Hk hk e1, .inl ⟨l, rfl, _, e2, ?_⟩⟩
   have hte2 := Ue tb1 b2 _ _ hte
   have hgv := (g.ws.wb w hw).gives
   refine Eu (Gx l _) (Ao (by rw [Zzz]; omega)) (λH' s' => s' _ _ e2) ((B6 S w).map V.int) (by rw [Zzz, Zzz, G0 L hw, e3]) (λi x H' hi hx s' N M hN => ?_) (λH' s' q hq => ?_)
   ·obtain ⟨lo, elo, rfl⟩ := Et hx
    walk_at "rd"
    have hlo := e4 lo (Zzn elo)
    have hlo := e4 lo (Zzn elo)
    refine ⟨_, Ad (j := 2) (s' _ _ hte2) rfl, _, rfl, .inr ⟨?_, ?_⟩, hN _ _ s' ?_⟩
    ·have : (10 : Int) ^ 2000 <= ((10 ^ 3000 : Nat) : Int) := by decide +kernel
     omega
    ·exact Zzi (m := 1000) (by omega) (by decide +kernel)
    ·unfold B6
     rw [Zzx, Zzx, elo]
     rfl
   ·have u3 := A4 (o := .lst ((B6 S w).map V.int)) hq
    have hq3 : upd H' q (.lst ((B6 S w).map V.int)) q = some (.lst ((B6 S w).map V.int)) := A0
    have s3 := s'.trans u3
    generalize upd H' q (.lst ((B6 S w).map V.int)) = H3 at hq3 s3
    have hlag := (g.ws.wb w hw).lag
    have elag : w.lag = ((w.lag.toNat : Nat) : Int) := by omega
    have hb3 := (ia (hb.same sm1) tb1 b2).same s3
    have tb3 := tb2.same s3
    have tc3 := tc2.same s3
    refine ⟨_, Ad (j := 1) (s3 _ _ hte2) rfl, b, ts, w.lag.toNat, by rw [<- elag], hb3, l900, λx H4 hx hb4 s4 => ?_⟩
    have tb4 := tb3.same s4
    have tc4 := tc3.same s4
    have wl := G0 L hw
    have fl := Ib w.lag.toNat ts
    have kt : ∀ {H5 : Hp}, But Pu H4 H5 -> Tc H5 Pu -> Kt Pt Pu H H5 := λb5 t5 => ⟨λb o n1 n2 e => b5 _ _ n2 (s4 _ _ (s3 _ _ (b2 _ _ n1 (sm1 _ _ e)))), tb4.cbut tc4 ntc b5, t5⟩
    refine ⟨q, x, B6 S w, Dt w.lag.toNat ts, rfl, s4 _ _ hq3, hb4, by omega, by omega, S5 tok, λhno H5 t5 b5 => ?_, tc4, λt o v cs St os H5 ht hL hv ho lo io _ _ _ t5 b5 => ?_⟩
    ·exact kd (Xl nd hw hp hs hno) H5 (kt b5 t5)
    ·have hnd : ¬ Qr S w ts := λ⟨j, n, e, z⟩ => z (Tl (by omega) hL e)
     rw [fl] at ht hL hv lo io
     exact k (Xk nd hw hp hs hnd) w t o v cs St os H5 hw rfl hs ⟨ht, hL, hv, ho, lo, io⟩ (kt b5 t5)
  ·refine .inr ⟨v, S, nm, rfl, rs1, hnm, by omega, nch, λH2 sm2 => ?_⟩
   exact kn (Ub hnm) H2 ⟨λb o _ _ e => sm2 _ _ (sm1 _ _ e), tb1.same sm2, tc1.same sm2⟩
end
set_option maxHeartbeats 4000000
section
variable {P : Program} {w : World} {K : Zzu} {mg : Str -> Option Value} {base : Heap} {f : Addr} {fd : FuncData} {c : Cl} {Pt Pu : Addr}
def fg (H : Hp) (v : V) (S : Sh) (nm : Str) (b : Addr) (ts : List Tm) (Pt Pu : Addr) : Prop := RD H S.d v /\ Good 10 S /\ TmsAt H b ts /\ ts.length = daysN S /\ ts.length <= 900 /\ (∀ t ∈ ts, TOk t) /\ (∀ w ∈ S.wares, w.name.length <= 800) /\ nm.length <= 800 /\ (∀ c ∈ nm.cps.toList, c < 1114112) /\ Tb H Pt /\ Tc H Pu /\ Pt ≠ Pu
def Cg46 (H' : Hp) (S : Sh) (nm : Str) (ts : List Tm) (x : V) : Prop := (wd46 S nm ts ≠ "" /\ x = .non) \/ (wd46 S nm ts = "" /\ ∃ (w : Wr) (t o v : Addr) (cs : List Int) (St : List (Option Nat)) (os : List Int), x = .ref t /\ w ∈ S.wares /\ w.name = nm /\ (∀ w ∈ S.wares, Bo (LR S w.name) w.lag = none) /\ ff H' S w ts t o v cs St os)
def Ik (Pt Pu : Addr) : Sp := λvs H Q _ => ∃ (v : V) (S : Sh) (nm : Str) (b : Addr) (ts : List Tm), vs = [v, .str nm, .ref b] /\ fg H v S nm b ts Pt Pu /\
 ∀ (p : Addr) (x : V) (H' : Hp), H' p = some (.tup [.str (wd46 S nm ts), x]) -> Cg46 H' S nm ts x -> Kt Pt Pu H H' -> Q (.ref p) H'
theorem Kt.new {Pt Pu : Addr} {H H' : Hp} {p : Addr} {o : HO} (h : Kt Pt Pu H H') (hp : H' p = none) : Kt Pt Pu H (upd H' p o) := ⟨λb u n1 n2 e => A4 hp _ _ (h.but b u n1 n2 e), h.tb.same (A4 hp), h.tc.same (A4 hp)⟩
theorem Ig {ea p : Addr} {cls : Value} {bs : List Bool} {Z : St} {H : Hp} {Q : VK} (hl : bs.length <= 1000) (hp : H p = some (.lst (bs.map V.bl))) (he : H ea = some (Qg ea cls)) (k : ∀ q, H q = none -> Q (.ref q) (upd H q (.lst ((bs.map λb => if b = true then (1 : Int) else 0).map V.int)))) :
  Sn (eu ea p (bs.map V.bl)) ["_law_one"] [] (Db 0) tYes (tCB (λxs H Q => (∃ i, xs = [V.int i] /\ Q (V.int i) H) \/ ∃ k, xs = [V.bl k] /\ Q (V.int (if k = true then 1 else 0)) H) (Ug (av 0) tNil)) Z H Q := by
 refine Kd (jj ea p _) (Ao (by rw [Zzz]; exact hl)) (λi acc H' => H' = H /\ acc = ((bs.take i).map λb => if b = true then (1 : Int) else 0).map V.int) ⟨rfl, rfl⟩ (λi acc H' _ h => by rw [h.1]; exact ⟨hp, cls, he⟩) (λi acc H' h => by rw [h.2, Zzz, Zzz, Zz5]; omega) (λi x acc H' hi hx h => ?_) (λacc H' h q hq => ?_)
 ·obtain ⟨rfl, rfl⟩ := h
  rw [Zzx] at hx
  cases e : bs[i]? with
  | none => rw [e] at hx; cases hx
  | some b =>
   rw [e] at hx
   cases hx
   walk_at "rd"
   rw [Zz8, e, Zzg, Zzg]
   rfl
 ·obtain ⟨rfl, rfl⟩ := h
  rw [Zzz, Zyv]
  exact k q hq
theorem sc_law_caught : Aj ["_law_shop_here", "_law_name", "_law_terms", "_law_found", "_law_word_here", "e", "_law_some"] ["_law_shop_here", "_law_name", "_law_terms"] (A9 D6) := by walk_at "sc"
theorem Na (F : Fun K "_law_caught" "_law_caught" D6 f fd) (T : Txt mg) (C : Exc K mg c) (Zsx : HasX P w K mg base "bought" 9 ["shop", "name", "terms"] (O9 c Pt Pu)) : FnOk P w K mg base CX0 10 f fd ["_law_shop_here", "_law_name", "_law_terms"] (Ik Pt Pu) := by
 refine F.ok sc_law_caught (λvs H Q E h => ?_) (λcdv A outer s H vs Q E hr h => ?_)
 ·obtain ⟨v, S, nm, b, ts, rfl, _⟩ := h
  rfl
 ·obtain ⟨v, S, nm, b, ts, rfl, ⟨rs, g, hb, lt, l900, tok, nl, nl1, nch, tb, tc, ntc⟩, k⟩ := h
  have hu := Bc hr
  refine ⟨_, (A1 (Ae (i := 3) sc_law_caught.nd rfl (Zzt rfl) Cz)
 (A1 (Ae (i := 4) sc_law_caught.nd rfl (Zzt rfl) Cm)
 (A1 (ip (i := 5) (fits := λcls => exmOne K cls (.ref c.NeedError) = some true) sc_law_caught.nd rfl rfl rfl rfl rfl C.Zsp (λ_ h => h) (λ_ _ _ hp => (Aa (Ae (i := 3) sc_law_caught.nd rfl (Zzt rfl) (He Zsx hp hr.z rfl (A6 (pv 0) (A6 (pv 1) (A6 (pv 2) A2))))))) (λ_ => (A1 (Ae (i := 6) sc_law_caught.nd rfl (Zzt rfl) (Bt (A6 (Ag (Ih (K0 := K) rfl) rfl T.Zuj De (A6 (pv 5) (A6 (Jc (v := .ref c.NoName) rfl C.Zss rfl) A2))) (A6 (Ag (Ih (K0 := K) rfl) rfl T.Zuj De (A6 (pv 5) (A6 (Jc (v := .ref c.NoBuy) rfl C.Zsn rfl) A2))) (A6 (Ag (Ih (K0 := K) rfl) rfl T.Zuj De (A6 (pv 5) (A6 (Jc (v := .ref c.NoPlan) rfl C.Zsr rfl) A2))) (A6 (Ag (Ih (K0 := K) rfl) rfl T.Zuj De (A6 (pv 5) (A6 (Jc (v := .ref c.NoDay) rfl C.Zso rfl) A2))) A2))))))
 (A1 (Ae (i := 4) sc_law_caught.nd rfl (Zzt rfl) Cm)
 (Aa (Bm (Ai (Dj hu) (Ag (Xb rfl) rfl T.Ztp Hr (A6 (Ya (own := ["_law_one"]) (cap := []) rfl (Fb rfl) (C9 (by decide)) (pv 6)
 (λ_ _ _ _ _ _ => ⟨(Ac (i := 0) (of_decide_eq_true rfl) rfl (Zzt rfl) (.inr rfl)), D8, (D9 Kf rfl T.Zsm U2 (A6 (pv 0) A2))⟩)) A2)) A8 (Ar _)) (Aa (Ae (i := 4) sc_law_caught.nd rfl (Zzt rfl) (A7 hu (Bt (A6 Cm (A6 Cm (A6 Cm (A6 Cm A2))))) (G3 Zyw PySem.F.slot_list_index PySem.F.type_list_index Wg (pv 6) (A6 Je A2)) (λ_ _ => rfl)))) At))))))
 (Aa (Ak (Dy (A6 (pv 4) (A6 (pv 3) A2)))))))), ?_⟩
  walk_at "rd"
  refine ⟨v, S, nm, b, ts, rfl, rs, g, hb, lt, l900, tok, nl, nl1, nch, tb, tc, ntc, λhwd H1 kt => ?_, λhwd H1 kt => ?_, λhwd H1 kt => ?_, λhwd H1 kt => ?_, λhwd w t o v cs St os H1 hw ew hs bt kt => ?_⟩
  rotate_left 4
  ·refine ⟨by decide, λp hp => k p (.ref t) _ ?_ (.inr ⟨hwd, w, t, o, v, cs, St, os, rfl, hw, ew, hs, ?_⟩) (kt.new hp)⟩
   ·rw [A0, hwd]
   ·have u := A4 (o := .tup [V.str "", V.ref t]) hp
    exact ⟨u _ _ bt.ht, bt.least, u _ _ bt.hv, u _ _ bt.ho, bt.lo, bt.io⟩
  all_goals
   refine ⟨by first | exact C.Zvi | exact C.Zvf | exact C.Zvj | exact C.Zvg, λea hea => ?_⟩
   refine ⟨_, A0, by first | exact C.Zuh | exact C.Zu9 | exact C.Zui | exact C.Zua, _, .inl (by first | exact C.Zv4 | exact C.Zuv | exact C.Zv9 | exact C.Zux), ?_⟩
   refine ⟨_, A0, by first | exact C.Zuh | exact C.Zu9 | exact C.Zui | exact C.Zua, _, .inl (by first | exact C.Zus | exact C.Zul | exact C.Zuy | exact C.Zun), ?_⟩
   refine ⟨_, A0, by first | exact C.Zuh | exact C.Zu9 | exact C.Zui | exact C.Zua, _, .inl (by first | exact C.Zv3 | exact C.Zuu | exact C.Zv8 | exact C.Zuw), ?_⟩
   refine ⟨_, A0, by first | exact C.Zuh | exact C.Zu9 | exact C.Zui | exact C.Zua, _, .inl (by first | exact C.Zut | exact C.Zum | exact C.Zuz | exact C.Zuo), by decide, λp hp => ⟨_, A0, ?_⟩⟩
   first
    | refine Ig (bs := [true, false, false, false]) (by decide) A0 (A4 hp _ _ A0) (λq hq => ?_)
    | refine Ig (bs := [false, true, false, false]) (by decide) A0 (A4 hp _ _ A0) (λq hq => ?_)
    | refine Ig (bs := [false, false, true, false]) (by decide) A0 (A4 hp _ _ A0) (λq hq => ?_)
    | refine Ig (bs := [false, false, false, true]) (by decide) A0 (A4 hp _ _ A0) (λq hq => ?_)
   refine ⟨q, rfl, _, A0, _, A4 hq _ _ (A4 hp _ _ A0), rfl, ?_⟩
   rw [if_pos (by decide)]
   refine ⟨by decide, λp1 hp1 => ⟨Dc (A4 hp1 _ _ (A4 hq p _ A0)), ?_⟩⟩
   first
    | refine ⟨[true, false, false, false], A4 hp1 _ _ (A4 hq p _ A0), 0, rfl, by decide, _, Gq (j := 0) A0 rfl, by decide, λp2 hp2 => ?_⟩
    | refine ⟨[false, true, false, false], A4 hp1 _ _ (A4 hq p _ A0), 1, rfl, by decide, _, Gq (j := 1) A0 rfl, by decide, λp2 hp2 => ?_⟩
    | refine ⟨[false, false, true, false], A4 hp1 _ _ (A4 hq p _ A0), 2, rfl, by decide, _, Gq (j := 2) A0 rfl, by decide, λp2 hp2 => ?_⟩
    | refine ⟨[false, false, false, true], A4 hp1 _ _ (A4 hq p _ A0), 3, rfl, by decide, _, Gq (j := 3) A0 rfl, by decide, λp2 hp2 => ?_⟩
   exact k p2 .non _ (by rw [A0, hwd]) (.inl ⟨by rw [hwd]; decide +kernel, rfl⟩) (((((kt.new hea).new hp).new hq).new hp1).new hp2)
end
set_option maxHeartbeats 4000000
section
variable {P : Program} {w : World} {K : Zzu} {mg : Str -> Option Value} {base : Heap} {f : Addr} {fd : FuncData} {c : Cl} {Pt Pu : Addr}
def Fx (S : Sh) (nm : Str) (n : Nat) : List Wr := (S.wares.take n).filter λw => decide (w.name = nm)
theorem V7 {S : Sh} {nm : Str} (h : Fx S nm S.wares.length = []) : nm ∉ S.wares.map (·.name) := λz => by
 obtain ⟨w, hw, e⟩ := Zzl.mp z
 have : w ∈ Fx S nm S.wares.length := by
  unfold Fx
  rw [Zyv]
  exact Zxh.mpr ⟨hw, decide_eq_true e⟩
 rw [h] at this
 cases this
theorem S7 {S : Sh} {nm : Str} {w : Wr} {r : List Wr} (h : Fx S nm S.wares.length = w :: r) : w ∈ S.wares /\ w.name = nm := by
 have : w ∈ Fx S nm S.wares.length := by rw [h]; exact Zz6
 unfold Fx at this
 rw [Zyv] at this
 obtain ⟨h1, h2⟩ := Zxh.mp this
 exact ⟨h1, of_decide_eq_true h2⟩
def TdAt (H : Hp) (t : Addr) (S : Sh) : Prop := (∃ p, H t = some (.tup [.str "plan", .ref p]) /\ (∀ w ∈ S.wares, Bo (LR S w.name) w.lag = none) /\ PlanAt H p S (LR S)) \/ ∃ rest, H t = some (.tup (.str "short" :: rest)) /\ ∃ w ∈ S.wares, Bo (LR S w.name) w.lag ≠ none
theorem TdAt.same {H H' : Hp} {t : Addr} {S : Sh} (h : TdAt H t S) (s : Same H H') : TdAt H' t S := by
 rcases h with ⟨p, h1, h2, h3⟩ | ⟨r, h1, h2⟩
 ·exact .inl ⟨p, s _ _ h1, h2, h3.same s⟩
 ·exact .inr ⟨r, s _ _ h1, h2⟩
theorem We {S : Sh} {w : Wr} {ts : List Tm} (hg : 1 <= w.gives) {j : Nat} {l : Int} (l0 : 0 <= l) (hj : j < ts.length) : (0 < l /\ ((ts.drop w.lag.toNat).take (j + 1 - w.lag.toNat)).all (λt => t.s.isNone) = true) ↔ ¬ Iu (Dt w.lag.toNat ts) j (l * w.gives) := by
 constructor
 ·rintro ⟨h1, h2⟩ z
  rcases z with z | ⟨i, t, hi, et, hs⟩
  ·rcases Int.mul_eq_zero.mp z with z | z <;> omega
  ·have hi2 : i < ts.length := by omega
   obtain ⟨t', et'⟩ := Bk hi2
   rw [Mg et'] at et
   have et := Zza et
   by_cases h : w.lag.toNat <= i
   ·rw [if_pos h] at et
    subst et
    have hm : t' ∈ (ts.drop w.lag.toNat).take (j + 1 - w.lag.toNat) := Zzn (i := i - w.lag.toNat) (by
     rw [Zyj (by omega), Zyc]
     have : w.lag.toNat + (i - w.lag.toNat) = i := by omega
     rw [this, et'])
    have := Zy4.mp h2 t' hm
    rw [hs] at this
    cases this
   ·rw [if_neg h] at et
    rw [<- et] at hs
    cases hs
 ·intro z
  have h1 : 0 < l := by
   by_cases h : l = 0
   ·exact absurd (.inl (by rw [h, Int.zero_mul])) z
   ·omega
  refine ⟨h1, Zy4.mpr λt ht => ?_⟩
  obtain ⟨i, hi⟩ := List.getElem?_of_mem ht
  have hil := (Zzj.mp hi).1
  rw [Zz5] at hil
  rw [Zyj (by omega), Zyc] at hi
  cases e : t.s.isNone with
  | true => rfl
  | false => exact absurd (.inr ⟨w.lag.toNat + i, t, by omega, by rw [Mg hi, if_pos (by omega)], e⟩) z
theorem Oh {ps : List (Str × Int)} (h : ∀ p ∈ ps, PyData.strOk p.1 = true) : PyData.canLayAll0 (ps.map Ds) = true := Jk Ds _ λx hx => by unfold Ds; simp only [PyData.canLay0, PyData.canLayAll0, h x hx, Zxj]
theorem Wc {ps : List (Str × Int)} (h : ∀ p ∈ ps, PyData.strOk p.1 = true) : okD (.tuple (ps.map Ds)) = true := by
 unfold okD
 have d1 := Fj Ds 1 ps λx _ => Mj x
 rw [PyData.canLay0, Oh h, Zx5, PyData.depth]
 exact decide_eq_true (by omega)
theorem Wb {ws : List Wr} (h : ∀ w ∈ ws, PyData.strOk w.name = true /\ ∀ p ∈ w.parts, PyData.strOk p.1 = true) : okD (.list (ws.map Wr.d)) = true := by
 unfold okD
 have d1 := Fj Wr.d 3 ws λw _ => Ts w
 rw [PyData.canLay0, Jk Wr.d _ λw hw => ?_, Zx5, PyData.depth]
 ·exact decide_eq_true (by omega)
 ·unfold Wr.d
  have a1 : PyData.canLayAll0 (w.coming.map Gv) = true := Jk Gv _ λx _ => by unfold Gv; simp only [PyData.canLay0, PyData.canLayAll0, Zxj]
  simp only [PyData.canLay0, PyData.canLayAll0, (h w hw).1, a1, Oh (h w hw).2, Zxj]
def sp_law_word : Sp := λvs H Q _ => ∃ (v : V) (t : Addr) (S : Sh) (nm : Str) (b : Addr) (ts : List Tm), vs = [v, .ref t, .str nm, .ref b] /\ RD H S.d v /\ Good 10 S /\ TmsAt H b ts /\ ts.length = daysN S /\ ts.length <= 900 /\ TdAt H t S /\ ∀ H', Same H H' -> Q (.str (wd46 S nm ts)) H'
def gu (v : V) (t b q l : Addr) (nm : Str) (w : Wr) (S : Sh) (ts : List Tm) (H : Hp) (i : Nat) (Z : St) (H' : Hp) : Prop := ∃ o : Option V, Z = [some v, some (.ref t), some (.str nm), some (.ref b), some (.ref q), some (.ref l), o] /\ (∀ j, j < i -> Iu (Dt w.lag.toNat ts) j ((B6 S w).getD j 0)) /\ Same H H'
theorem sc_law_word : Aj ["_law_shop_here", "_law_told", "_law_name", "_law_terms", "_law_ware_here", "_law_lots", "_law_day"] ["_law_shop_here", "_law_told", "_law_name", "_law_terms"] (A9 Eb) := by walk_at "sc"
theorem Rg (F : Fun K "_law_word" "_law_word" Eb f fd) (T : Txt mg) (C : Exc K mg c) : FnOk P w K mg base CX0 1 f fd ["_law_shop_here", "_law_told", "_law_name", "_law_terms"] sp_law_word := by
 refine F.ok sc_law_word (λvs H Q E h => ?_) (λcdv A outer s H vs Q E hr h => ?_)
 ·obtain ⟨v, t, S, nm, b, ts, rfl, _⟩ := h
  rfl
 ·obtain ⟨v, t, S, nm, b, ts, rfl, rs, g, hb, lt, l900, td, k⟩ := h
  have hu := Bc hr
  have hu4 := V1 hr
  refine ⟨_, (A1 (Ej (own := ["_law_one"]) (cap := [2]) (i := 4) rfl (Fb rfl) (C9 (by decide)) sc_law_word.nd rfl rfl (Dw (A7 hu (pv 0) A8 (λ_ _ => rfl)))
 (λ_ _ _ _ _ _ => ⟨(Ac (i := 0) (of_decide_eq_true rfl) rfl (Zzt rfl) (.inr rfl)), (Pi (Ai (Dj hu) (A7 hu (pv 0) A8 (λ_ _ => rfl)) (pv 1) (Ar _))), (pv 0)⟩))
 (A1 (Bm (Ai (iy hu4) (pv 4) (Bt A2) (Ar _)) (Aa (Ak Cm)) At)
 (A1 (Bm (Ai (Yg hu4) (A7 hu (A7 hu (pv 4) A8 (λ_ _ => rfl)) A8 (λ_ _ => rfl)) (Dy A2) (Ar _)) (Aa (Ak Cm)) At)
 (A1 (Bm (Ai (Dj hu) (A7 hu (pv 1) A8 (λ_ _ => rfl)) Cm (Ar _)) (Aa (Ak Cm)) At)
 (A1 (Ae (i := 5) sc_law_word.nd rfl (Zzt rfl) (A7 hu (A7 hu (pv 1) A8 (λ_ _ => rfl)) (pv 2) (λ_ _ => rfl)))
 (A1 (B3 PassesOwn.never rfl (Bh rfl T.Zvh (A6 (Ag B4 rfl T.Zve Co (A6 (pv 5) A2)) A2)) (Ac (i := 6) sc_law_word.nd rfl (Zzt rfl))
 (Aa (Bm (PW.pt (Jz (Ai Km (A7 hu (pv 5) (pv 6) (λ_ _ => rfl)) A8 (Ar _)) (Hv (Y3 (Ag (Zm rfl) rfl T.Zsh jn (A6 (Fe (own := ["_law_term"]) (cap := []) rfl (Fb rfl) (C9 (by decide)) (Ft (By Cv (pv 3) (Bn (A7 hu (A7 hu (pv 4) A8 (λ_ _ => rfl)) A8 (λ_ _ => rfl))) (Bn (An Bi (pv 6) A8))))
 (λ_ _ _ _ _ _ => ⟨(Ac (i := 0) (of_decide_eq_true rfl) rfl (Zzt rfl) (.inr rfl)), D8, (Jd Pm (A7 hu (pv 0) A8 (λ_ _ => rfl)) Cz (Ar _))⟩)) A2)))))) (Aa (Ak Cm)) At)))
 (Aa (Ak Cm)))))))), ?_⟩
  have L := (Gj g).toLev
  have nd := g.ws.nd
  have w12 := g.len.2
  obtain ⟨sa, sb, sc, wv, us, rfl, ha, hsb, hc, rws, rus⟩ := Dh rs
  walk_at "rd"
  refine ⟨_, Ad (j := 0) ha rfl, sb, rfl, wv, hsb, ?_⟩
  have hwl := Ax rws
  refine Kd (G5 sb _) (Ao (by omega)) (λi acc H' => RDs H' ((Fx S nm i).map Wr.d) acc /\ Same H H') ⟨RDs.nil, Same.refl _⟩ (λi acc H' _ h => h.2 _ _ hsb) (λi acc H' h => ?_) (λi x acc H' hi hx h => ?_) (λacc H' h q hq => ?_)
  ·have := Ax h.1
   have h2 : (Fx S nm i).length <= i := by
    unfold Fx
    exact Zyz (Zx6 _ _) (by rw [Zz5]; omega)
   omega
  ·obtain ⟨racc, s1⟩ := h
   obtain ⟨u, hu', ru⟩ := C4 rws hx
   obtain ⟨te, c1, c2, rfl, hte, _⟩ := C3 ru
   walk_at "rd"
   refine ⟨_, Ad (j := 0) (s1 _ _ hte) rfl, rfl, ?_⟩
   have et : Fx S nm (i + 1) = Fx S nm i ++ if u.name = nm then [u] else [] := by
    unfold Fx
    rw [Zz8, hu', Zwh]
    congr 1
    by_cases z : u.name = nm
    ·rw [if_pos z]; simp [z]
    ·rw [if_neg z]; simp [z]
   by_cases z : u.name = nm
   ·rw [if_pos (decide_eq_true (by rw [z])), et, if_pos z]
    refine ⟨?_, s1⟩
    rw [Zzg]
    exact RDs.app racc (RDs.one (RD.same s1 _ _ ru))
   ·rw [if_neg (by simpa using z), et, if_neg z, Zya]
    exact ⟨racc, s1⟩
  ·obtain ⟨racc, s1⟩ := h
   rw [hwl] at racc
   have u1 := A4 (o := .lst acc) hq
   have hq2 : upd H' q (.lst acc) q = some (.lst acc) := A0
   have s2 := s1.trans u1
   have racc := RDs.same u1 _ _ racc
   generalize upd H' q (.lst acc) = H2 at hq2 s2 racc
   refine ⟨Zyn _, λp hp => ?_⟩
   have u2 := A4 (o := .lst []) hp
   have hp3 : upd H2 p (.lst []) p = some (.lst []) := A0
   have hq3 := u2 _ _ hq2
   have s3 := s2.trans u2
   have racc := RDs.same u2 _ _ racc
   generalize upd H2 p (.lst []) = H3 at hp3 hq3 s3 racc
   have txs := g.txts
   have fin : ∀ w ∈ Fx S nm S.wares.length, PyData.strOk w.name = true /\ ∀ p ∈ w.parts, PyData.strOk p.1 = true := λw hw => txs w (by
    unfold Fx at hw
    rw [Zyv] at hw
    exact (Zxh.mp hw).1)
   refine ⟨.list ((Fx S nm S.wares.length).map Wr.d), ?_, .list [], ?_, Wb fin, by decide +kernel, ?_⟩
   ·rw [RD]; exact ⟨q, acc, rfl, hq3, racc⟩
   ·rw [RD]; exact ⟨p, [], rfl, hp3, RDs.nil⟩
   cases ef : Fx S nm S.wares.length with
   | nil =>
    rw [if_pos (by rw [Zx0, PyData.eqv, PyData.eqvAll])]
    rw [<- Ub (ts := ts) (V7 ef)]
    exact k H3 s3
   | cons w r =>
    rw [if_neg (by rw [Zz4, PyData.eqv, PyData.eqvAll]; decide)]
    obtain ⟨hw, ew⟩ := S7 ef
    subst ew
    rw [ef, Zz4] at racc
    obtain ⟨x, r', rfl, rx, _⟩ := RDs.cons_of racc
    obtain ⟨te, c1, c2, rfl, hte, _, rpp⟩ := C3 rx
    refine ⟨_, Gq (j := 0) hq3 rfl, _, Ad (j := 6) hte rfl, Zyn _, λp4 hp4 => ?_⟩
    have u4 := A4 (o := .tup []) hp4
    have hp4' : upd H3 p4 (.tup []) p4 = some (.tup []) := A0
    have s4 := s3.trans u4
    have hte4 := u4 _ _ hte
    have hq4 := u4 _ _ hq3
    have rpp := RD.same u4 _ _ rpp
    generalize upd H3 p4 (.tup []) = H4 at hp4' s4 hte4 hq4 rpp
    refine ⟨.tuple (w.parts.map Ds), rpp, .tuple [], RD.tup_mk hp4' RDs.nil, Wc (txs w hw).2, by decide +kernel, ?_⟩
    cases epp : w.parts with
    | cons pp rr =>
     rw [if_pos (by rw [Zz4, PyData.eqv, PyData.eqvAll]; decide), <- Xm (ts := ts) nd hw (by rw [epp]; exact λz => by cases z)]
     exact k H4 s4
    | nil =>
    rw [if_neg (by rw [Zx0, PyData.eqv, PyData.eqvAll]; decide)]
    rcases td with ⟨pp, ht, he, pl⟩ | ⟨rest, ht, he⟩
    ·refine ⟨_, Ad (j := 0) (s4 _ _ ht) rfl, rfl, ?_⟩
     rw [if_neg (by decide +kernel)]
     obtain ⟨kvs, hk, hrows⟩ := pl.same s4
     obtain ⟨l, e1, e2, e3, e4⟩ := hrows w.name (Zzl.mpr ⟨w, hw, rfl⟩)
     refine ⟨_, Ad (j := 1) (s4 _ _ ht) rfl, _, Hk hk e1, l, rfl, _, .inl e2, by rw [Zzz]; omega, by rw [Zzz]; omega, ?_⟩
     have hn : (((Zxy V.int (LR S w.name)).length : Int)).toNat = daysN S := by rw [Zzz, e3]; omega
     rw [hn]
     have hlag := (g.ws.wb w hw).lag
     have hg1 := (g.ws.wb w hw).gives.1
     have hb4 := hb.same s4
     obtain ⟨tv, htv, rtv⟩ := hb4
     have htl := Ax rtv
     refine Cb (G6 0 _) (gu (.ref sa) t b q l w.name w S ts H4) ⟨_, rfl, (λj hj => absurd hj (Zxn _)), Same.refl _⟩ (λ_ _ _ _ _ => trivial) (λi y Z H5 hi hy h => ?_) (λZ H5 h => ?_)
     ·obtain ⟨o, rfl, hab, s5⟩ := h
      subst hy
      walk_at "rd"
      have i0 : (0 + (i : Int)) = (i : Int) := by omega
      rw [i0]
      have hi : i < daysN S := hi
      obtain ⟨lo, elo⟩ := Bk (xs := LR S w.name) (i := i) (by omega)
      have hlo := (e4 lo (Zzn elo)).1
      have ewr : (B6 S w)[i]? = some (lo * w.gives) := by unfold B6; rw [Zzx, elo]; rfl
      have hiff := We (S := S) (w := w) (ts := ts) hg1 hlo (j := i) (by omega)
      have go : ∀ H6, Same H4 H6 -> Iu (Dt w.lag.toNat ts) i (lo * w.gives) -> gu (.ref sa) t b q l w.name w S ts H4 (i + 1) [some (.ref sa), some (.ref t), some (.str w.name), some (.ref b), some (.ref q), some (.ref l), some (.int i)] H6 := λH6 s6 ha6 => ⟨_, rfl, λj hj => by
       by_cases z : j = i
       ·rw [z, Au ewr]; exact ha6
       ·exact hab j (by omega), s6⟩
      refine ⟨_, Ci (.inl (s5 _ _ e2)) (by omega) (v := .int lo) (by rw [Zzx, Zxo, elo]; rfl), lo, rfl, ?_⟩
      by_cases hz : 0 < lo
      ·rw [decide_eq_true hz, if_pos rfl]
       refine ⟨_, Gq (j := 0) (s5 _ _ hq4) rfl, _, Ad (j := 1) (s5 _ _ hte4) rfl, _, rfl, _, s5 _ _ htv, λc1 hc1 => ?_⟩
       have ecut : E4 tv (some w.lag) (some ((i : Int) + 1)) = (tv.drop w.lag.toNat).take (i + 1 - w.lag.toNat) := by
        rw [Lb (by omega) (by omega)]
        congr 1
       rw [ecut]
       have u6 := A4 (o := .lst ((tv.drop w.lag.toNat).take (i + 1 - w.lag.toNat))) hc1
       have hc6 : upd H5 c1 (.lst ((tv.drop w.lag.toNat).take (i + 1 - w.lag.toNat))) c1 = some (.lst ((tv.drop w.lag.toNat).take (i + 1 - w.lag.toNat))) := A0
       have s6 := s5.trans u6
       generalize upd H5 c1 (.lst ((tv.drop w.lag.toNat).take (i + 1 - w.lag.toNat))) = H6 at hc6 s6
       have rcut : RDs H6 (((ts.drop w.lag.toNat).take (i + 1 - w.lag.toNat)).map Tm.d) ((tv.drop w.lag.toNat).take (i + 1 - w.lag.toNat)) := by
        rw [Zwx, Zx4]
        exact Lp _ (J9 _ (RDs.same s6 _ _ rtv))
       refine ⟨_, hc6, ?_⟩
       generalize htt : (ts.drop w.lag.toNat).take (i + 1 - w.lag.toNat) = tt at rcut hiff
       have hlt : tt.length <= 900 := by
        rw [<- htt, Zz5, Zym]
        omega
       have hrl := Ax rcut
       refine Eu (Gx c1 _) (Ao (by omega)) (λH' s' => s' _ _ hc6) ((tt.map λt => t.s.isNone).map V.bl) (by rw [Zzz, Zzz]; omega) (λj x H' hj hx s' N M hN => ?_) (λH' s' q5 hq5 => ?_)
       ·obtain ⟨tj, etj, rtj⟩ := C4 rcut hx
        obtain ⟨ta, rfl, hta⟩ := Iy rtj
        walk_at "rd"
        refine ⟨_, Ad (j := 0) (s' _ _ hta) rfl, hN _ _ s' ?_⟩
        rw [Zzx, Zzx, etj, Yf]
        rfl
       ·refine ⟨q5, rfl, _, A0, ?_⟩
        have s7 := (s6.trans s').trans (A4 (o := .lst ((tt.map λt => t.s.isNone).map V.bl)) hq5)
        have eall : (Zxy (λt => t.s.isNone) tt).all id = tt.all λt => t.s.isNone := by rw [List.all_map]; rfl
        rw [eall]
        refine Ey (λht => ?_) (λht => ?_)
        ·rw [<- Xl (ts := ts) nd hw epp he ⟨i, _, ewr, hiff.mp ⟨hz, ht⟩⟩]
         exact k _ (s4.trans s7)
        ·refine go _ s7 ?_
         by_cases z : Iu (Dt w.lag.toNat ts) i (lo * w.gives)
         ·exact z
         ·exact absurd (hiff.mpr z).2 ht
      ·rw [decide_eq_false hz, if_neg (by decide)]
       have : lo = 0 := by omega
       exact go H5 s5 (.inl (by rw [this, Int.zero_mul]))
     ·obtain ⟨o, rfl, hab, s5⟩ := h
      walk_at "rd"
      rw [<- Xk (ts := ts) nd hw epp he λ⟨j, n, ej, z⟩ => z (by
       have hj := (Zzj.mp ej).1
       rw [G0 L hw] at hj
       have := hab j hj
       rw [Au ej] at this
       exact this)]
      exact k H5 (s4.trans s5)
    ·refine ⟨_, Ad (j := 0) (s4 _ _ ht) rfl, rfl, ?_⟩
     rw [if_pos (by decide +kernel), <- Ua (ts := ts) nd hw epp he]
     exact k H4 s4
end
set_option maxHeartbeats 4000000
section
variable {P : Program} {w : World} {K : Zzu} {mg : Str -> Option Value} {base : Heap} {f : Addr} {fd : FuncData} {c : Cl} {Pt Pu : Addr}
theorem Xq {ts : List Tm} (ok : ∀ t ∈ ts, TOk t) (j : Nat) : TOk (ts.getD j tm0) := by
 cases e : ts[j]? with
 | none =>
  rw [Zzv, e]
  exact ⟨by decide, by decide, by decide, by decide, λn h => by cases h⟩
 | some t => rw [Au e]; exact ok t (Zzn e)
theorem kg {ts : List Tm} (ok : ∀ t ∈ ts, TOk t) (j : Nat) : 0 <= Be ts j := by
 unfold Be
 cases e : (ts.getD j tm0).s with
 | none => exact Zyr _
 | some n => exact ((Xq ok j).s0 n e).1
theorem gc {ns : List Int} (ro : ∀ x ∈ ns, 0 <= x) (j : Nat) : 0 <= ns.getD j 0 := by
 cases e : ns[j]? with
 | none => rw [Zzv, e]; exact Zyr _
 | some n => rw [Au e]; exact ro n (Zzn e)
theorem kc {ts : List Tm} (ok : ∀ t ∈ ts, TOk t) (i j : Nat) : 0 <= Ap ts i j := (Qh ok i (j - i)).1
theorem Xp {ns os cs : List Int} {ts : List Tm} {S : List (Option Nat)} (LL : Least ns ts ts.length cs S) (lw : ns.length = ts.length) (lo : os.length = ts.length) (io : IsOrd ns S ts.length (λx => os.getD x 0)) (htk : ∀ t ∈ ts, TOk t) (ow : ∀ x ∈ ns, 0 <= x) :
  Mp ns ts os = some (cs.getD ts.length 0) /\ (Af ts.length λi => cs.getD (i + 1) 0 - cs.getD i 0).sum = cs.getD ts.length 0 /\ Fs ns ts (Af ts.length λi => cs.getD (i + 1) 0 - cs.getD i 0) = true := by
 have c1 := (Ye LL (gc ow) lw lo io (Zzw _) (λx _ => rfl)).1
 have rr := R9 LL (kg htk) (gc ow) (kc htk)
 have rs := Oa cs ts.length
 rw [LL.c0, Int.sub_zero] at rs
 exact ⟨c1, rs, rr⟩
theorem X9 {ns os : List Int} {ts : List Tm} {c : Int} (h : Mp ns ts os = some c) {j : Nat} (hj : j < ts.length) : 0 <= (os.take (j + 1)).sum - (ns.take (j + 1)).sum := by
 cases e : Ck ns ts os (j + 1) with
 | none => rw [Ow hj e] at h; cases h
 | some c' =>
  obtain ⟨_, _, _, h, _⟩ := Ov e
  exact h
theorem Sr {S : Sh} (E : U6 S) {w : Wr} (hw : w ∈ S.wares) : ∀ x ∈ B6 S w, 0 <= x := λx hx => by
 obtain ⟨l, hl, rfl⟩ := Zzl.mp hx
 exact Zxd (Mv E _ l hl).1 (Zxs (by decide) (E.wb w hw).1.1)
def sp_law_good : Sp := λvs H Q _ => ∃ (v x : V) (p b t o u : Addr) (S : Sh) (w : Wr) (ts : List Tm) (cs : List Int) (St : List (Option Nat)) (os : List Int), vs = [v, .ref p, x, .ref b, .ref t] /\ RD H S.d v /\ Good 10 S /\ PlanAt H p S (LR S) /\ w ∈ S.wares /\ RD H w.d x /\ TmsAt H b ts /\ ts.length = daysN S /\ ts.length <= 900 /\ (∀ t ∈ ts, TOk t) /\ ff H S w ts t o u cs St os /\ ∀ H', Same H H' -> Q (.bl true) H'
def nr (H : Hp) (σ0 : St) (i : Nat) (Z : St) (H' : Hp) : Prop := ∃ o : Option V, Z = σ0 ++ [o] /\ Same H H'
theorem sc_law_good : Aj ["_law_shop_here", "_law_plan", "_law_ware_here", "_law_terms", "_law_found", "_law_cost_here", "_law_orders", "_law_values", "_law_wanted", "_law_known", "_law_left", "_law_day"] ["_law_shop_here", "_law_plan", "_law_ware_here", "_law_terms", "_law_found"] (A9 Ef) := by walk_at "sc"
theorem Rk (F : Fun K "_law_good" "_law_good" Ef f fd) (T : Txt mg) (C : Exc K mg c) (Zti : Has P w K mg base "_law_right" 2 ["_law_wanted", "_law_terms", "_law_values"] sp_law_right) (Zt5 : Has P w K mg base "_law_cost" 1 ["_law_wanted", "_law_terms", "_law_orders"] sp_law_cost) (Zsw : Has P w K mg base "stocks" 5 ["shop", "plan", "name"] sp_stocks) : FnOk P w K mg base CX0 6 f fd ["_law_shop_here", "_law_plan", "_law_ware_here", "_law_terms", "_law_found"] sp_law_good := by
 refine F.ok sc_law_good (λvs H Q E h => ?_) (λcdv A outer s H vs Q E hr h => ?_)
 ·obtain ⟨v, x, p, b, t, o, u, S, w, ts, cs, St, os, rfl, _⟩ := h
  rfl
 ·obtain ⟨v, x, p, b, t, o, u, S, w, ts, cs, St, os, rfl, rs, g, pl, hw, rx, hb, lt, l900, tok, bt, k⟩ := h
  have hu := Bc hr
  refine ⟨_, (A1 (Ek (pv 4) (Dx (n := 3) rfl (As (Ac (i := 5) sc_law_good.nd rfl (Zzt rfl)) (As (Ac (i := 6) sc_law_good.nd rfl (Zzt rfl)) (As (Ac (i := 7) sc_law_good.nd rfl (Zzt rfl)) Cw)))))
 (A1 (Ej (own := ["_law_lots"]) (cap := [2]) (i := 8) rfl (Fb rfl) (C9 (by decide)) sc_law_good.nd rfl rfl (Ft (A7 hu (pv 1) (A7 hu (pv 2) A8 (λ_ _ => rfl)) (λ_ _ => rfl)))
 (λ_ _ _ _ _ _ => ⟨(Ac (i := 0) (of_decide_eq_true rfl) rfl (Zzt rfl) (.inr rfl)), D8, (An Dz (A7 hu (pv 1) A8 (λ_ _ => rfl)) (pv 0))⟩))
 (A1 (Ae (i := 9) sc_law_good.nd rfl (Zzt rfl) (An Lx (Fe (own := ["_law_setup", "_law_price", "_law_keep"]) (cap := []) rfl (Fb rfl) Ol (Ft (By Cv (pv 3) Er (Bn (A7 hu (pv 2) A8 (λ_ _ => rfl)))))
 (λ_ _ _ _ _ _ => ⟨(Dx (n := 3) rfl (As (Ac (i := 0) (of_decide_eq_true rfl) rfl (Zzt rfl) (.inr rfl)) (As (Ac (i := 1) (of_decide_eq_true rfl) rfl (Zzt rfl) (.inr rfl)) (As (Ac (i := 2) (of_decide_eq_true rfl) rfl (Zzt rfl) (.inr rfl)) Cw)))), D8, (Dy (A6 Cz (A6 (pv 1) (A6 (pv 2) A2))))⟩)) (By Cv (pv 3) (Bn (A7 hu (pv 2) A8 (λ_ _ => rfl))) Er)))
 (A1 (Bm (PW.pt (Ls (Ai (Im hu) (Ag B4 rfl T.Zve Co (A6 (pv 6) A2)) (Ag B4 rfl T.Zve Co (A6 (pv 8) A2)) (Ar _)) (Ls (Ai (Im hu) (Ag B4 rfl T.Zve Co (A6 (pv 7) A2)) (Ag B4 rfl T.Zve Co (A6 (pv 8) A2)) (Ar _)) (Lr (Ai (Im hu) (Ag (Eo rfl) rfl T.Ztp Hr (A6 (pv 7) A2)) (pv 5) (Ar _)))))) (Aa (Ak Je)) At)
 (A1 (Bm (PW.pt (Ls (Ai (Im hu) (Ab Zt5 hr.z rfl (A6 (pv 8) (A6 (pv 9) (A6 (pv 6) A2)))) (pv 5) (Ar _)) (Lr (T4 (Y3 (Ab Zti hr.z rfl (A6 (pv 8) (A6 (pv 9) (A6 (pv 7) A2))))))))) (Aa (Ak Je)) At)
 (A1 (Ae (i := 10) sc_law_good.nd rfl (Zzt rfl) (Ab Zsw hr.z rfl (A6 (pv 0) (A6 (pv 1) (A6 (A7 hu (pv 2) A8 (λ_ _ => rfl)) A2)))))
 (A1 (B3 PassesOwn.never rfl (Bh rfl T.Zvh (A6 (Ag B4 rfl T.Zve Co (A6 (pv 8) A2)) A2)) (Ac (i := 11) sc_law_good.nd rfl (Zzt rfl))
 (Aa (Bm (Ai (K4 hu) (An Gn (An Bi (A7 hu (pv 10) (pv 11) (λ_ _ => rfl)) (Ag (Eo rfl) rfl T.Ztp Hr (A6 (By Cv (pv 6) Er (Bn (An Bi (pv 11) A8))) A2))) (Ag (Eo rfl) rfl T.Ztp Hr (A6 (By Cv (pv 8) Er (Bn (An Bi (pv 11) A8))) A2))) (A7 hu (pv 2) A8 (λ_ _ => rfl)) (Ar _)) (Aa (Ak Je)) At)))
 (Aa (Ak Je))))))))), ?_⟩
  have L := (Gj g).toLev
  have PO := Ia g
  obtain ⟨te, c1, c2, rfl, hte, _, _⟩ := C3 rx
  walk_at "rd"
  refine gt3 bt.ht ?_
  walk_at "rd"
  have hlag := (g.ws.wb w hw).lag
  have hgv := (g.ws.wb w hw).gives
  have wl := G0 L hw
  have wnn := Sr PO hw
  obtain ⟨kvs, hk, hrows⟩ := id pl
  obtain ⟨l, e1, e2, e3, e4⟩ := hrows w.name (Zzl.mpr ⟨w, hw, rfl⟩)
  refine ⟨_, Ad (j := 0) hte rfl, _, Hk hk e1, l, rfl, _, e2, ?_⟩
  refine Eu (Gx l _) (Ao (by rw [Zzz]; omega)) (λH' s' => s' _ _ e2) ((B6 S w).map V.int) (by rw [Zzz, Zzz, wl, e3]) (λi y H' hi hy s' N M hN => ?_) (λH1 s1 q hq => ?_)
  ·obtain ⟨lo, elo, rfl⟩ := Et hy
   walk_at "rd"
   have hlo := e4 lo (Zzn elo)
   refine ⟨_, Ad (j := 2) (s' _ _ hte) rfl, _, rfl, .inr ⟨?_, ?_⟩, hN _ _ s' ?_⟩
   ·exact Zzi (m := 1000) (by omega) (by decide +kernel)
   ·have : (10 : Int) ^ 2000 <= ((10 ^ 3000 : Nat) : Int) := by decide +kernel
    omega
   ·unfold B6
    rw [Zzx, Zzx, elo, Int.mul_comm]
    rfl
  ·have hq1 : upd H1 q (.lst ((B6 S w).map V.int)) q = some (.lst ((B6 S w).map V.int)) := A0
   have s1 := s1.trans (A4 (o := .lst ((B6 S w).map V.int)) hq)
   generalize upd H1 q (.lst ((B6 S w).map V.int)) = H2 at hq1 s1
   obtain ⟨tv, htv, rtv⟩ := hb.same s1
   have htl := Ax rtv
   refine ⟨_, Ad (j := 1) (s1 _ _ hte) rfl, _, rfl, _, htv, λq2 hq2 => ⟨_, A0, ?_⟩⟩
   have ec : E4 tv none (some w.lag) = tv.take w.lag.toNat := Qi hlag.1
   rw [ec]
   have u2 := A4 (o := .lst (tv.take w.lag.toNat)) hq2
   have hq22 : upd H2 q2 (.lst (tv.take w.lag.toNat)) q2 = some (.lst (tv.take w.lag.toNat)) := A0
   have s2 := s1.trans u2
   have rtv2 := RDs.same u2 _ _ rtv
   have hq12 := u2 _ _ hq1
   have htv2 := u2 _ _ htv
   generalize upd H2 q2 (.lst (tv.take w.lag.toNat)) = H3 at hq22 s2 rtv2 hq12 htv2
   have hlt : (tv.take w.lag.toNat).length <= 900 := by rw [Zz5]; omega
   refine Kd (Gx q2 _) (Ao (by omega)) (λi acc H' => RDs H' (((ts.take (min i w.lag.toNat)).map Vw).map Tm.d) acc /\ Same H3 H') ⟨by rw [Nat.zero_min]; exact RDs.nil, Same.refl _⟩ (λi acc H' _ h => h.2 _ _ hq22) (λi acc H' h => ?_) (λi y acc H' hi hy h => ?_) (λacc H4 h q3 hq3 => ?_)
   ·have := Ax h.1
    simp only [Zzz, Zz5] at this
    omega
   ·obtain ⟨racc, s4⟩ := h
    rw [Zz5] at hi
    rw [Zyj (by omega)] at hy
    obtain ⟨tj, etj, rtj⟩ := C4 rtv2 hy
    obtain ⟨tb, rfl, htb⟩ := Iy rtj
    refine gt3 (s4 _ _ htb) ?_
    walk_at "rd"
    refine ⟨by decide, λp1 hp1 => ⟨?_, s4.trans (A4 hp1)⟩⟩
    have em : min (i + 1) w.lag.toNat = min i w.lag.toNat + 1 := by omega
    have em2 : min i w.lag.toNat = i := by omega
    rw [em, em2, Zz8, etj, Zzg, Zzg]
    rw [em2] at racc
    exact RDs.app (RDs.ku (A4 hp1).ku _ _ (C5 _ Ro _) racc) (RDs.one (Xr (t := Vw tj) A0))
   ·obtain ⟨racc, s4⟩ := h
    have en : min (tv.take w.lag.toNat).length w.lag.toNat = min w.lag.toNat ts.length := by rw [Zz5]; omega
    have et : ts.take (min w.lag.toNat ts.length) = ts.take w.lag.toNat := by rw [<- List.take_take, Zyv]
    rw [en, et] at racc
    have hal := Ax racc
    simp only [Zzz, Zz5] at hal
    have u5 := A4 (o := .lst acc) hq3
    have s5 := (s2.trans s4).trans u5
    refine ⟨_, Ad (j := 1) (s5 _ _ hte) rfl, _, rfl, tv, (s4.trans u5) _ _ htv2, λq4 hq4 => ?_⟩
    have ec2 : E4 tv (some w.lag) none = tv.drop w.lag.toNat := Gk hlag.1
    rw [ec2]
    have u6 := A4 (o := .lst (tv.drop w.lag.toNat)) hq4
    refine ⟨q3, rfl, acc, u6 _ _ A0, _, A0, Ao (by rw [Zym]; omega), λq5 hq5 => ?_⟩
    have u7 := A4 (o := .lst (acc ++ tv.drop w.lag.toNat)) hq5
    have sx := (u5.trans u6).trans u7
    have s7 := (s2.trans s4).trans sx
    have hkn : TmsAt (upd (upd (upd H4 q3 (.lst acc)) q4 (.lst (tv.drop w.lag.toNat))) q5 (.lst (acc ++ tv.drop w.lag.toNat))) q5 (Dt w.lag.toNat ts) := by
     refine ⟨_, A0, ?_⟩
     unfold Dt
     rw [Zzg]
     refine RDs.app (RDs.same sx _ _ racc) ?_
     rw [Zx4]
     exact J9 _ (RDs.same (s4.trans sx) _ _ rtv2)
    have hq7 := (s4.trans sx) _ _ hq12
    generalize upd (upd (upd H4 q3 (.lst acc)) q4 (.lst (tv.drop w.lag.toNat))) q5 (.lst (acc ++ tv.drop w.lag.toNat)) = H7 at s7 hkn hq7
    have ho7 := s7 _ _ bt.ho
    have hv7 := s7 _ _ bt.hv
    have fl := Ib w.lag.toNat ts
    have lo := bt.lo
    have fok : ∀ t ∈ Dt w.lag.toNat ts, TOk t := S5 tok
    have G := Xp (ns := B6 S w) (ts := Dt w.lag.toNat ts) (os := os) (cs := cs) (S := St) (by rw [fl]; exact bt.least) (by omega) (by omega) (by rw [fl]; exact bt.io) fok wnn
    rw [fl] at G
    refine ⟨_, .inl ho7, q, rfl, _, .inl hq7, rfl, ?_⟩
    rw [if_neg (by rw [decide_eq_true (by rw [Zzz, Zzz]; omega)]; decide)]
    refine ⟨_, .inl hv7, q, rfl, _, .inl hq7, rfl, ?_⟩
    rw [if_neg (by rw [decide_eq_true (by rw [Zzz, Zzz, Al]; omega)]; decide)]
    refine ⟨_, hv7, rfl, ?_⟩
    rw [if_neg (by rw [decide_eq_true G.2.1]; decide)]
    refine ⟨q, q5, o, B6 S w, os, Dt w.lag.toNat ts, rfl, hq7, hkn, ho7, by omega, by omega, by omega, fok, λH8 s8 => ?_⟩
    rw [G.1]
    refine ⟨rfl, ?_⟩
    rw [if_neg (by rw [show Ga (some (cs.getD ts.length 0)) = V.int (cs.getD ts.length 0) from rfl, decide_eq_true rfl]; decide)]
    refine ⟨q, q5, u, B6 S w, _, Dt w.lag.toNat ts, rfl, s8 _ _ hq7, hkn.same s8, s8 _ _ hv7, by omega, by rw [Al]; omega, by omega, fok, λH9 s9 => ⟨_, rfl, ?_⟩⟩
    rw [G.2.2, if_neg (by decide)]
    have s09 := (s7.trans s8).trans s9
    refine ⟨_, Ad (j := 0) (s09 _ _ hte) rfl, v, p, S, LR S, w, 10, rfl, RD.same s09 _ _ rs, pl.same s09, hw, g, by decide, by decide, λsr H10 hsr hsr2 s10 => ?_⟩
    have s010 := s09.trans s10
    have hq10 := (s8.trans (s9.trans s10)) _ _ hq7
    have ho10 := s010 _ _ bt.ho
    have hte10 := s010 _ _ hte
    refine ⟨q, rfl, _, .inl hq10, by rw [Zzz]; omega, by rw [Zzz]; omega, ?_⟩
    have hn : (((Zxy V.int (B6 S w)).length : Int)).toNat = daysN S := by rw [Zzz, wl]; omega
    rw [hn]
    refine Cb (G6 0 _) (λi Z H' => nr H10 [some v, some (.ref p), some (.ref te), some (.ref b), some (.ref t), some (.int (cs.getD ts.length 0)), some (.ref o), some (.ref u), some (.ref q), some (.ref q5), some (.ref sr)] i Z H') ⟨_, rfl, Same.refl _⟩ (λ_ _ _ _ _ => trivial) (λi y Z H11 hi hy h => ?_) (λZ H11 h => ?_)
    ·obtain ⟨oo, rfl, s11⟩ := h
     subst hy
     walk_at "rd"
     have hi : i < daysN S := hi
     have hlr : (Fo S (LR S) w).length = daysN S := by unfold Fo; exact Al _ _
     obtain ⟨sv, esv⟩ := Bk (xs := Fo S (LR S) w) (i := i) (by omega)
     have hfl := Y0 L PO hw hi
     rw [Au esv] at hfl
     have hcd := X9 G.1 (j := i) (by omega)
     have i0 : (0 + (i : Int)) = (i : Int) := by omega
     refine ⟨_, Ci (.inl (s11 _ _ hsr2)) (by omega) (v := .int sv) (by rw [Zzx, i0, Zxo, esv]; rfl), _, s11 _ _ ho10, λa1 h1 => ?_⟩
     rw [Jp]
     have u1 := A4 (o := .lst ((os.take (i + 1)).map V.int)) h1
     refine ⟨_, A0, sv, rfl, _, u1 _ _ (s11 _ _ hq10), λa2 h2 => ?_⟩
     rw [Jp]
     have u2 := A4 (o := .lst (((B6 S w).take (i + 1)).map V.int)) h2
     refine ⟨_, A0, _, Ad (j := 3) (u2 _ _ (u1 _ _ (s11 _ _ hte10))) rfl, _, rfl, ?_⟩
     rw [if_neg (by
      intro z
      have := of_decide_eq_true z
      omega)]
     exact ⟨_, rfl, (s11.trans u1).trans u2⟩
    ·obtain ⟨oo, rfl, s11⟩ := h
     walk_at "rd"
     exact k H11 (s010.trans s11)
end
set_option maxHeartbeats 4000000
section
variable {P : Program} {w : World} {K : Zzu} {mg : Str -> Option Value} {base : Heap} {f : Addr} {fd : FuncData} {c : Cl} {Pt Pu : Addr}
def TdN (H : Hp) (t : Addr) (S : Sh) (st : Addr) : Prop := (∃ (p : Addr) (kvs : List (Key × V)), H t = some (.tup [.str "plan", .ref p]) /\ (∀ w ∈ S.wares, Bo (LR S w.name) w.lag = none) /\ H p = some (.dK kvs) /\ ∀ nm ∈ S.wares.map (·.name), ∃ l : Addr, l ≠ st /\ Br kvs (.inr nm) = some (.ref l) /\ H l = some (.lst ((LR S nm).map V.int))) \/ ∃ rest, H t = some (.tup (.str "short" :: rest)) /\ ∃ w ∈ S.wares, Bo (LR S w.name) w.lag ≠ none
theorem TdN.but {H H' : Hp} {t st : Addr} {S : Sh} (h : TdN H t S st) (b : But st H H') (s : StOk H st) : TdN H' t S st := by
 obtain ⟨ns, _, es⟩ := s
 rcases h with ⟨p, kvs, h1, h2, h3, h4⟩ | ⟨r, h1, h2⟩
 ·refine .inl ⟨p, kvs, b _ _ (λz => by rw [z, es] at h1; cases h1) h1, h2, b _ _ (λz => by rw [z, es] at h3; cases h3) h3, λnm hn => ?_⟩
  obtain ⟨l, e1, e2, e3⟩ := h4 nm hn
  exact ⟨l, e1, e2, b _ _ e1 e3⟩
 ·exact .inr ⟨r, b _ _ (λz => by rw [z, es] at h1; cases h1) h1, h2⟩
theorem TdN.td {H : Hp} {t st : Addr} {S : Sh} {sz : Int} (h : TdN H t S st) (g : Good sz S) : TdAt H t S := by
 rcases h with ⟨p, kvs, h1, h2, h3, h4⟩ | h
 ·refine .inl ⟨p, h1, h2, kvs, .inl h3, λnm hn => ?_⟩
  obtain ⟨l, e1, e2, e3⟩ := h4 nm hn
  obtain ⟨w, hw, rfl⟩ := Zzl.mp hn
  exact ⟨l, e2, e3, Mu (Gj g).toLev hw, λx hx => ⟨(Mv (Ia g) _ x hx).1, Zwg (Mv (Ia g) _ x hx).2 (by decide +kernel)⟩⟩
 ·exact .inr h
section
variable {H H' : Hp} {Pt Pu : Addr} (k : Kt Pt Pu H H') (tb : Tb H Pt) (tc : Tc H Pu)
include k tb tc
theorem Kt.keep {b : Addr} {o : HO} (e : H b = some o) (n : ∀ u, o ≠ .tbl u) : H' b = some o := k.but b o (R3 tb e n) (R1 tc e n) e
theorem Kt.ku : KeepU H H' := λa xs e => k.keep tb tc e λu z => by cases z
theorem Kt.td {t : Addr} {S : Sh} (h : TdAt H t S) : TdAt H' t S := by
 rcases h with ⟨p, h1, h2, kvs, h3, h4⟩ | ⟨r, h1, h2⟩
 ·refine .inl ⟨p, k.keep tb tc h1 (λu z => by cases z), h2, kvs, ?_, λnm hn => ?_⟩
  ·rcases h3 with e | ⟨o, e⟩
   ·exact .inl (k.keep tb tc e λu z => by cases z)
   ·exact .inr ⟨o, k.keep tb tc e (λu z => by cases z)⟩
  ·obtain ⟨l, e1, e2, e3⟩ := h4 nm hn
   exact ⟨l, e1, k.keep tb tc e2 (λu z => by cases z), e3⟩
 ·exact .inr ⟨r, k.keep tb tc h1 (λu z => by cases z), h2⟩
theorem Kt.tms {a : Addr} {ts : List Tm} (h : TmsAt H a ts) : TmsAt H' a ts := by
 obtain ⟨vs, e, r⟩ := h
 exact TmsAt.ku (a := a) (k.ku tb tc) r (k.keep tb tc e λu z => by cases z)
end
theorem optT {a b : Int} {j : Nat} (h : j < 3) (ha : 0 <= a /\ a < 30) (hb : 0 <= b /\ b < 6) : ∃ o : Option Int, [V.int a, V.int b, V.non][j]? = some (Ga o) /\ ∀ n, o = some n -> 0 <= n /\ n < 160 := by
 match j, h with
 | 0, _ => exact ⟨some a, rfl, λn e => by cases e; omega⟩
 | 1, _ => exact ⟨some b, rfl, λn e => by cases e; omega⟩
 | 2, _ => exact ⟨none, rfl, λn e => by cases e⟩
theorem dt (S : Sh) (nm : Str) (i : Nat) : (Fx S nm i).length <= i := by
 unfold Fx
 exact Zyz (Zx6 _ _) (by rw [Zz5]; omega)
theorem S6 {S : Sh} {nm : Str} {i : Nat} {u : Wr} (hu : S.wares[i]? = some u) : Fx S nm (i + 1) = Fx S nm i ++ if u.name = nm then [u] else [] := by
 unfold Fx
 rw [Zz8, hu, Zwh]
 congr 1
 by_cases z : u.name = nm
 ·rw [if_pos z]; simp [z]
 ·rw [if_neg z]; simp [z]
theorem Px (ts : List Tm) : okD (.list (ts.map Tm.d)) = true := by
 unfold okD
 have d1 := Fj Tm.d 1 ts λt _ => by
  unfold Tm.d
  cases t.s <;> simp [N5, PyData.depth, PyData.depthAll]
 rw [PyData.canLay0, Jk Tm.d _ λt _ => ?_, Zx5, PyData.depth]
 ·exact decide_eq_true (by omega)
 ·unfold Tm.d
  cases t.s <;> simp only [N5, PyData.canLay0, PyData.canLayAll0, Zxj]
def mr (σ0 : List (Option V)) (st q : Addr) (H : Hp) (i : Nat) (Z : St) (H' : Hp) : Prop := ∃ (ts : List Tm) (vs : List V) (o1 o2 : Option V), Z = σ0 ++ [some (.ref q), o1, o2, none, none, none, none, none] /\ ts.length = i /\ (∀ t ∈ ts, TOk t) /\ H' q = some (.lst vs) /\ RDs H' (ts.map Tm.d) vs /\ StOk H' st /\ But st H H'
def Pe (K : Zzu) (Pt Pu : Addr) : Sp := λvs H Q _ => ∃ (a : Addr) (ns : List Int), vs = [.ref a] /\ SqL K H a (ns.map V.int) /\ ns.length <= 63 /\ Tb H Pt /\ Tc H Pu /\ Pt ≠ Pu /\ ∀ H', Q (.bl true) H'
theorem sc_law : Aj ["_law_script", "_law_state", "_law_names_here", "_law_shop_here", "_law_told", "_law_days", "_law_terms", "_law_day", "_law_setup", "_law_name", "_law_handed", "_law_word_here", "_law_found", "_law_ware_here"] ["_law_script"] (A9 J7) := by walk_at "sc"
theorem j0 (F : Fun K "law" "law" J7 f fd) (T : Txt mg) (C : Exc K mg c) (Zth : Has P w K mg base "_law_drawn" 1 ["_law_script"] (J5 K)) (Ztg : Has P w K mg base "_law_names" 2 ["_law_state", "_law_many"] sp_law_names) (Zt4 : Has P w K mg base "_law_shop" 3 ["_law_state", "_law_names_here"] sp_law_shop) (Zu7 : Has P w K mg base "planned" 7 ["shop"] (Il Pt)) (Zvq : Has P w K mg base "_law_next" 1 ["_law_state", "_law_many"] sp_law_next) (Ztq : Has P w K mg base "_law_caught" 10 ["_law_shop_here", "_law_name", "_law_terms"] (Ik Pt Pu)) (Zt3 : Has P w K mg base "_law_word" 1 ["_law_shop_here", "_law_told", "_law_name", "_law_terms"] sp_law_word) (Zt2 : Has P w K mg base "_law_good" 6 ["_law_shop_here", "_law_plan", "_law_ware_here", "_law_terms", "_law_found"] sp_law_good) : FnOk P w K mg base CX0 11 f fd ["_law_script"] (Pe K Pt Pu) := by
 refine F.ok sc_law (λvs H Q E h => ?_) (λcdv A outer s H vs Q E hr h => ?_)
 ·obtain ⟨a, ns, rfl, _⟩ := h
  rfl
 ·obtain ⟨a, xs, rfl, hS, hlen, tb0, tc0, ntu, k⟩ := h
  have hu := Bc hr
  have hu4 := V1 hr
  refine ⟨_, (A1 (Ae (i := 1) sc_law.nd rfl (Zzt rfl) (Ab Zth hr.z rfl (A6 (pv 0) A2)))
 (A1 (Ae (i := 2) sc_law.nd rfl (Zzt rfl) (Ab Ztg hr.z rfl (A6 (pv 1) (A6 A8 A2))))
 (A1 (Ae (i := 3) sc_law.nd rfl (Zzt rfl) (Ab Zt4 hr.z rfl (A6 (pv 1) (A6 (pv 2) A2))))
 (A1 (Ae (i := 4) sc_law.nd rfl (Zzt rfl) (Ab Zu7 hr.z rfl (A6 (pv 3) A2)))
 (A1 (Ae (i := 5) sc_law.nd rfl (Zzt rfl) (An Bi A8 (Ul rfl rfl T.Zsv (Fe (own := ["_law_want"]) (cap := []) rfl (Fb rfl) (C9 (by decide)) (Dw (A7 hu (pv 3) A8 (λ_ _ => rfl)))
 (λ_ _ _ _ _ _ => ⟨(Ac (i := 0) (of_decide_eq_true rfl) rfl (Zzt rfl) (.inr rfl)), D8, (A7 hu (pv 0) A8 (λ_ _ => rfl))⟩)))))
 (A1 (Ae (i := 6) sc_law.nd rfl (Zzt rfl) (Bt A2))
 (A1 (B3 PassesOwn.never rfl (Bh rfl T.Zvh (A6 (pv 5) A2)) (Ac (i := 7) sc_law.nd rfl (Zzt rfl))
 (A1 (Ae (i := 8) sc_law.nd rfl (Zzt rfl) (A7 hu (Bt (A6 (Ab Zvq hr.z rfl (A6 (pv 1) (A6 A8 A2))) (A6 (Ab Zvq hr.z rfl (A6 (pv 1) (A6 A8 A2))) (A6 Cz A2)))) (An Hg (An Hh (Ab Zvq hr.z rfl (A6 (pv 1) (A6 A8 A2))) A8) A8) (λ_ _ => rfl)))
 (Aa (Ce (G3 Zyw Zyt Zys C8 (pv 6) (A6 (Dy (A6 (pv 8) (A6 (Ab Zvq hr.z rfl (A6 (pv 1) (A6 A8 A2))) (A6 (Ab Zvq hr.z rfl (A6 (pv 1) (A6 A8 A2))) A2)))) A2))))))
 (A1 (Ae (i := 9) sc_law.nd rfl (Or.inr rfl) (A7 hu (pv 2) (Ab Zvq hr.z rfl (A6 (pv 1) (A6 (An Bi (Ag B4 rfl T.Zve Co (A6 (A7 hu (pv 3) A8 (λ_ _ => rfl)) A2)) A8) A2))) (λ_ _ => rfl)))
 (A1 (Ae (i := 10) sc_law.nd rfl (Zzt rfl) (D9 U1 rfl T.Zsl Ve (A6 (pv 6) A2)))
 (A1 (Ek (Ab Ztq hr.z rfl (A6 (pv 3) (A6 (pv 9) (A6 (pv 10) A2)))) (Dx (n := 2) rfl (As (Ac (i := 11) sc_law.nd rfl (Zzt rfl)) (As (Ac (i := 12) sc_law.nd rfl (Zzt rfl)) Cw))))
 (A1 (Bm (PW.pt (Ls (Ai (Im hu) (pv 11) (Ab Zt3 hr.z rfl (A6 (pv 3) (A6 (pv 4) (A6 (pv 9) (A6 (pv 6) A2))))) (Ar _)) (Lr (Ai (Yg hu4) (pv 10) (pv 6) (Ar _))))) (Aa (Ak Je)) At)
 (A1 (Bm (Ai (Im hu) (pv 11) Cm (Ar _)) (Aa (Ak (Jd Pm (pv 12) Cz (Ar _)))) At)
 (A1 (Ae (i := 13) sc_law.nd rfl (Zzt rfl) (A7 hu (Fe (own := ["_law_one"]) (cap := [9]) rfl (Fb rfl) (C9 (by decide)) (Dw (A7 hu (pv 3) A8 (λ_ _ => rfl)))
 (λ_ _ _ _ _ _ => ⟨(Ac (i := 0) (of_decide_eq_true rfl) rfl (Zzt rfl) (.inr rfl)), (Pi (Ai (Dj hu) (A7 hu (pv 0) A8 (λ_ _ => rfl)) (pv 1) (Ar _))), (pv 0)⟩)) A8 (λ_ _ => rfl)))
 (Aa (Ak (Yd (Ag Sg rfl T.Zuj De (A6 (pv 12) (A6 (br (v := .ty "tuple") rfl T.Ztf Hq rfl) A2))) (Yd (Jd (Dj hu) (Ag call_lenA rfl T.Zve Co (A6 (pv 12) A2)) A8 (Ar _)) (iw (Ab Zt2 hr.z rfl (A6 (pv 3) (A6 (A7 hu (pv 4) A8 (λ_ _ => rfl)) (A6 (pv 13) (A6 (pv 6) (A6 (pv 12) A2)))))))))))))))))))))))), ?_⟩
  walk_at "rd"
  refine ⟨a, xs, rfl, hS, hlen, λst H1 s1 sm1 => ?_⟩
  have tb1 := tb0.same sm1
  have tc1 := tc0.same sm1
  walk_at "rd"
  refine ⟨st, 8, rfl, s1, by decide, by decide, λl nms H2 nl nnd nok hl hlf s2 b2 => ?_⟩
  have tb2 := Pb tb1 b2 s1
  have tc2 := Pa tc1 b2 s1
  have nst : l ≠ st := Zzf (s1.ne hlf)
  walk_at "rd"
  refine ⟨st, l, nms, rfl, s2, hl, nst, nl, nnd, nok, λv S H3 rs3 g46 s3 b3 => ?_⟩
  have tb3 := Pb tb2 b3 s2
  have tc3 := Pa tc2 b3 s2
  have g := g46.good
  have hl3 := b3 _ _ nst hl
  walk_at "rd"
  refine ⟨v, S, 10, rfl, rs3, g, by decide, by decide, tb3, λt p ys i H4 ht hp ntp so ra he tb4 b4 hcase => ?_⟩
  have s4 := ii s3 tb3 b4
  have tc4 := tc3.tbut tb3 ntu b4
  have hl4 := b4 _ _ (R3 tb3 hl3 λu z => by cases z) hl3
  have rs4 : RD H4 S.d v := RD.ku (Ue tb3 b4) _ _ (Hx S) rs3
  have td4 : TdN H4 t S st := by
   rcases hcase with ⟨ei, ht1⟩ | ⟨w, d, hw, hy, hd, ht1⟩
   ·rw [ei, Zyv] at ra he
    have hm : ∀ nm ∈ Bu S, nm ∈ ys := λnm h => (Jv so).1.mem_iff.mpr h
    obtain ⟨kvs, hk1, hk2, hk3, hk4⟩ := ra
    refine .inl ⟨p, kvs, ht1, λw hw => he w hw (hm _ (Zzl.mpr ⟨w, hw, rfl⟩)), hk1, λnm hnm => ?_⟩
    obtain ⟨q, e1, e2, e3, e4⟩ := hk3 nm (hm _ hnm)
    exact ⟨q, Zzf (s3.ne e1), e3, e4⟩
   ·exact .inr ⟨_, ht1, w, hw, λz => by rw [hd] at z; cases z⟩
  walk_at "rd"
  obtain ⟨sa, sb, sc, wv, us, ev, ha, hsb, hc, rws, rus⟩ := Dh rs4
  subst ev
  have hul := Ax rus
  have few := g46.few
  refine ⟨_, Ad (j := 1) ha rfl, sc, rfl, us, hc, ?_⟩
  refine Eu (G5 sc _) (Ao (by omega)) (λH' s' => s' _ _ hc) ((S.wants.map λu => u.2.1).map V.int) (by rw [Zzz, Zzz, hul]) (λi x H' hi hx s' N M hN => ?_) (λH' s' p6 hp6 => ?_)
  ·obtain ⟨y, hy, ry⟩ := C4 rus hx
   obtain ⟨e, rfl, he⟩ := P9 ry
   walk_at "rd"
   exact ⟨_, Ad (j := 1) (s' _ _ he) rfl, hN _ _ s' (by rw [Zzx, Zzx, hy]; rfl)⟩
  have s' := s'.trans (A4 (o := .lst ((S.wants.map λu => u.2.1).map V.int)) hp6)
  refine ⟨p6, rfl, _, A0, Zyn _, λq hq => ?_⟩
  generalize upd H' p6 (.lst ((S.wants.map λu => u.2.1).map V.int)) = H5 at s' hq
  have s5 := s4.same s'
  have tb5 := tb4.same s'
  have tc5 := tc4.same s'
  have rs5 := RD.same s' _ _ rs4
  have td5 : TdN H5 t S st := td4.but (Ha s') s4
  have hl5 := s' _ _ hl4
  have hM : Ex (S.wants.map λu => u.2.1) < 10 := Ut (by decide) λx hx => by
   obtain ⟨u, hu, rfl⟩ := Zzl.mp hx
   exact (g.wants.2 u hu).2.1.2
  obtain ⟨dn1, dn2, dn3, _⟩ := g.days (by decide) (by decide)
  refine ⟨by omega, by omega, ?_⟩
  have hdn : (1 + Ex (S.wants.map λu => u.2.1)).toNat = daysN S := by omega
  rw [hdn]
  have hqst : q ≠ st := Zzf (s5.ne hq)
  refine Cb (G6 0 _) (mr [some (.ref a), some (.ref st), some (.ref l), some (.ref sa), some (.ref t), some (.int (1 + Ex (S.wants.map λu => u.2.1)))] st q H5) ⟨[], [], _, _, rfl, rfl, (λt ht => nomatch ht), A0, RDs.nil, s5.upd (Zzf hqst), Gu hq⟩ (λ_ _ _ _ _ => trivial) (λi y Z H6 hi hy h => ?_) (λZ H6 h => ?_)
  ·obtain ⟨ts, vs, o1, o2, rfl, tl, tok, hq6, r6, s6, b6⟩ := h
   walk_at "rd"
   refine ⟨st, 30, rfl, s6, by decide, by decide +kernel, λd H7 d0 d1 s7 b7 => ?_⟩
   walk_at "rd"
   refine ⟨st, 6, rfl, s7, by decide, by decide +kernel, λe H8 e0 e1 s8 b8 => ⟨by decide, λlq hlq => ?_⟩⟩
   have ul := A4 (o := .lst [V.int d, V.int e, V.non]) hlq
   have hlqst : lq ≠ st := Zzf (s8.ne hlq)
   refine ⟨st, 8, rfl, s8.same ul, by decide, by decide +kernel, λf' H9 f0 f1 s9 b9 => ?_⟩
   obtain ⟨oo, eo, ho⟩ := optT (a := d) (b := e) (j := (f' / 3 % 3).toNat) (by omega) ⟨d0, d1⟩ ⟨e0, e1⟩
   refine ⟨f', rfl, by decide, by decide +kernel, by decide, _, Ci (.inl (b9 _ _ hlqst A0)) (by omega) eo, ?_⟩
   have b69 := ((b7.trans b8).same ul).trans b9
   have hq9 := b69 _ _ hqst hq6
   refine ⟨Dc hq9, st, 9, rfl, s9, by decide, by decide +kernel, λpr H10 p0 p1 s10 b10 => ⟨st, 3, rfl, s10, by decide, by decide +kernel, λkp H11 k0 k1 s11 b11 => ⟨by decide, λtt htt => ?_⟩⟩⟩
   have bb := (b69.trans b10).trans b11
   have hq11 := bb _ _ hqst hq6
   have ut := A4 (o := .tup [Ga oo, V.int pr, V.int kp]) htt
   have hvl := Ax r6
   have hi : i < daysN S := hi
   have kk := ((E2 bb s6).trans ut.ku).trans (Io (ys := vs ++ [V.ref tt]) (ut _ _ hq11))
   refine ⟨vs, ut _ _ hq11, Zzi (show vs.length < 1000 by omega) (Ao (Zzw _)), ts ++ [⟨oo, pr, kp⟩], _, _, _, rfl, by rw [Zyx, tl]; rfl, λx hx => ?_, A0, ?_, (s11.same ut).upd (Zzf hqst), ((b6.trans bb).same ut).upd hq⟩
   ·rcases Zyu.mp hx with z | z
    ·exact tok x z
    ·rw [Zzb.mp z]
     exact ⟨p0, by show pr < 40; omega, k0, by show kp < 40; omega, ho⟩
   ·rw [Zzg]
    refine RDs.app (RDs.ku kk _ _ (C5 _ Ro _) r6) (RDs.one (Xr (t := ⟨oo, pr, kp⟩) ?_))
    rw [A3 (Zzf (A5 hq11 htt)), A0]
  ·obtain ⟨ts, vs, o1, o2, rfl, tl, tok, hq6, r6, s6, b6⟩ := h
   walk_at "rd"
   have tb6 := Pb tb5 b6 s5
   have tc6 := Pa tc5 b6 s5
   have rs6 : RD H6 S.d (.ref sa) := RD.ku (E2 b6 s5) _ _ (Hx S) rs5
   have td6 := td5.but b6 s5
   have hl6 := b6 _ _ nst hl5
   obtain ⟨sa', sb', sc', wv', us', ev', ha6, hsb6, _, rws6, _⟩ := Dh rs6
   cases ev'
   have hwl := Ax rws6
   have n3 := g46.n3
   have n7 := g46.n7
   have big9 : (wv'.length : Int) + 1 < 10 ^ 200 := Zwf (b := 9) (by omega) (by decide +kernel)
   refine ⟨_, Ad (j := 0) ha6 rfl, sb', rfl, wv', .inr hsb6, st, _, rfl, s6, by omega, big9, λnk H7 nk0 nk1 s7 b7 => ?_⟩
   obtain ⟨nm, enm⟩ := Bk (xs := nms) (i := nk.toNat) (by omega)
   have nmok := nok nm (Zzn enm)
   have hq7 := b7 _ _ hqst hq6
   refine ⟨_, Ci (.inl (b7 _ _ nst hl6)) nk0 (v := .str nm) (by rw [Zzx, enm]; rfl), vs, .inl hq7, λhd hhd => ?_⟩
   have uh := A4 (o := .lst vs) hhd
   have hh8 : upd H7 hd (.lst vs) hd = some (.lst vs) := A0
   have b8 := b7.same uh
   have hq8 := uh _ _ hq7
   have s8 := s7.same uh
   generalize upd H7 hd (.lst vs) = H8 at hh8 b8 hq8 s8
   have ku8 := E2 b8 s6
   have tb8 := Pb tb6 b8 s6
   have tc8 := Pa tc6 b8 s6
   have rs8 : RD H8 S.d (.ref sa) := RD.ku ku8 _ _ (Hx S) rs6
   have td8 : TdAt H8 t S := (td6.but b8 s6).td g
   have r8 := RDs.ku ku8 _ _ (C5 _ Ro _) r6
   have tq8 : TmsAt H8 q ts := ⟨vs, hq8, r8⟩
   have th8 : TmsAt H8 hd ts := ⟨vs, hh8, r8⟩
   have wn8 : ∀ w ∈ S.wares, w.name.length <= 800 := λw hw => by
    have := (nok w.name (Zvx (g46.pn.mem_iff.mp (Zzl.mpr ⟨w, hw, rfl⟩)))).le
    omega
   have nch : ∀ c ∈ nm.cps.toList, c < 1114112 := λc hc => by
    have h4 : ∀ c ∈ letters, c < 1114112 := by decide +kernel
    exact h4 c (nmok.lets c hc)
   have nle := nmok.le
   refine ⟨.ref sa, S, nm, hd, ts, rfl, ⟨rs8, g, th8, by omega, by omega, tok, wn8, by omega, nch, tb8, tc8, ntu⟩, λcp x H9 hcp cg kt => ?_⟩
   have ku9 := kt.ku tb8 tc8
   have rs9 : RD H9 S.d (.ref sa) := RD.ku ku9 _ _ (Hx S) rs8
   have td9 := kt.td tb8 tc8 td8
   have tq9 := kt.tms tb8 tc8 tq8
   have th9 := kt.tms tb8 tc8 th8
   refine gt2 hcp ?_
   walk_at "rd"
   refine ⟨.ref sa, t, S, nm, q, ts, rfl, rs9, g, tq9, by omega, by omega, td9, λH10 s10 => ?_⟩
   have s010 := s10
   have ht10 := th9.same s10
   have hq10 := tq9.same s10
   obtain ⟨v1, hv1, rv1⟩ := ht10
   obtain ⟨v2, hv2, rv2⟩ := hq10
   refine ⟨rfl, ?_⟩
   rw [if_neg (by rw [decide_eq_true rfl]; decide)]
   refine ⟨.list (ts.map Tm.d), by rw [RD]; exact ⟨hd, v1, rfl, hv1, rv1⟩, .list (ts.map Tm.d), by rw [RD]; exact ⟨q, v2, rfl, hv2, rv2⟩, Px ts, Px ts, ?_⟩
   rw [if_neg (by rw [S8 _ (cm (Px ts))]; decide)]
   refine ⟨rfl, ?_⟩
   rcases cg with ⟨hwd, rfl⟩ | ⟨hwd, w, bt, bo, bv, cs, St, os, rfl, hw, ew, hs, hbt⟩
   ·rw [if_pos (by rw [decide_eq_false hwd]; rfl)]
    exact k H10
   ·rw [if_neg (by rw [decide_eq_true hwd]; decide)]
    have rs10 := RD.same s10 _ _ rs9
    obtain ⟨sa2, sb2, sc2, wv2, us2, ev2, ha10, hsb10, _, rws10, _⟩ := Dh rs10
    cases ev2
    have hwl2 := Ax rws10
    refine ⟨_, Ad (j := 0) ha10 rfl, sb2, rfl, wv2, hsb10, ?_⟩
    refine Kd (G5 sb2 _) (Ao (by omega)) (λi acc H' => RDs H' ((Fx S nm i).map Wr.d) acc /\ Same H10 H') ⟨RDs.nil, Same.refl _⟩ (λi acc H' _ h => h.2 _ _ hsb10) (λi acc H' h => ?_) (λi y acc H' hi hy h => ?_) (λacc H11 h p7 hp7 => ?_)
    ·have := Ax h.1
     have h2 := dt S nm i
     omega
    ·obtain ⟨racc, s1'⟩ := h
     obtain ⟨u, hu', ru⟩ := C4 rws10 hy
     obtain ⟨te, c1, c2, rfl, hte, _⟩ := C3 ru
     walk_at "rd"
     refine ⟨_, Ad (j := 0) (s1' _ _ hte) rfl, rfl, ?_⟩
     by_cases z : u.name = nm
     ·rw [if_pos (decide_eq_true (by rw [z])), S6 hu', if_pos z]
      refine ⟨?_, s1'⟩
      rw [Zzg]
      exact RDs.app racc (RDs.one (RD.same s1' _ _ ru))
     ·rw [if_neg (by simpa using z), S6 hu', if_neg z, Zya]
      exact ⟨racc, s1'⟩
    ·obtain ⟨racc, s11⟩ := h
     rw [hwl2] at racc
     cases ef : Fx S nm S.wares.length with
     | nil => exact absurd (Zzl.mpr ⟨w, hw, ew⟩) (V7 ef)
     | cons w2 r2 =>
      obtain ⟨hw2, ew2⟩ := S7 ef
      have e12 : w2 = w := Le g.ws.nd hw2 hw (ew2.trans ew.symm)
      subst e12
      rw [ef, Zz4] at racc
      obtain ⟨y, r', rfl, ry, _⟩ := RDs.cons_of racc
      have u12 := A4 (o := .lst (y :: r')) hp7
      have s12 := (s10.trans s11).trans u12
      have hbt12 : ff (upd H11 p7 (.lst (y :: r'))) S w2 ts bt bo bv cs St os := ⟨s12 _ _ hbt.ht, hbt.least, s12 _ _ hbt.hv, s12 _ _ hbt.ho, hbt.lo, hbt.io⟩
      refine ⟨_, Gq (j := 0) A0 rfl, _, i7 hbt12.ht, ?_⟩
      rw [if_pos (by decide)]
      refine .inl ⟨bt, rfl, _, .inr hbt12.ht, rfl, ?_⟩
      rw [if_pos (show decide (([V.int (cs.getD ts.length 0), V.ref bo, V.ref bv].length : Int) = 3) = true from rfl)]
      rcases td9.same s12 with ⟨pp, htd, _, pl⟩ | ⟨rest, _, w', hw', he'⟩
      ·exact ⟨_, Ad (j := 1) htd rfl, .ref sa, y, pp, q, bt, bo, bv, S, w2, ts, cs, St, os, rfl, RD.same s12 _ _ rs9, g, pl, hw, RD.same u12 _ _ ry, tq9.same s12, by omega, by omega, tok, hbt12, λH13 _ => k H13⟩
      ·exact absurd (hs w' hw') he'
end
theorem all_mk {l : PySem.W.OpenLaw} {w : World} {K : Zzu} {h : Heap} {mg : Str -> Option Value} {fa : Addr} (X : K.In h) (G : h.Ns mainGlobals mg) (hfa : mg "law" = some (.ref fa))
  {f1 f2 f3 f4 f5 f6 f7 f8 f9 f10 f11 f12 f13 f14 f15 f16 f17 f18 f19 f20 f21 f22 f23 f24 f25 f26 f27 f28 f29 f30 f31 f32 f33 f34 f35 f36 f37 f38 f39 f40 : Addr} {od1 an1 od2 an2 od3 an3 od4 an4 od5 an5 od6 an6 od7 an7 od8 an8 od9 an9 od10 an10 od11 an11 od12 an12 od13 an13 od14 an14 od15 an15 od16 an16 od17 an17 od18 an18 od19 an19 od20 an20 od21 an21 od22 an22 od23 an23 od24 an24 od25 an25 od26 an26 od27 an27 od28 an28 od29 an29 od30 an30 od31 an31 od32 an32 od33 an33 od34 an34 od35 an35 od36 an36 od37 an37 od38 an38 od39 an39 od40 an40 : Option Addr} {sl1 sl2 sl3 sl4 sl5 sl6 sl7 sl8 sl9 sl10 sl11 sl12 sl13 sl14 sl15 sl16 sl17 sl18 sl19 sl20 sl21 sl22 sl23 sl24 sl25 sl26 sl27 sl28 sl29 sl30 sl31 sl32 sl33 sl34 sl35 sl36 sl37 sl38 sl39 sl40 : Array (Option Value)} {oc1 kV1 dc1 pm1 cd1 ct1 oc2 kV2 dc2 pm2 cd2 ct2 oc3 kV3 dc3 pm3 cd3 ct3 oc4 kV4 dc4 pm4 cd4 ct4 oc5 kV5 dc5 pm5 cd5 ct5 oc6 kV6 dc6 pm6 cd6 ct6 oc7 kV7 dc7 pm7 cd7 ct7 oc8 kV8 dc8 pm8 cd8 ct8 oc9 kV9 dc9 pm9 cd9 ct9 oc10 kV10 dc10 pm10 cd10 ct10 oc11 kV11 dc11 pm11 cd11 ct11 oc12 kV12 dc12 pm12 cd12 ct12 oc13 kV13 dc13 pm13 cd13 ct13 oc14 kV14 dc14 pm14 cd14 ct14 oc15 kV15 dc15 pm15 cd15 ct15 oc16 kV16 dc16 pm16 cd16 ct16 oc17 kV17 dc17 pm17 cd17 ct17 oc18 kV18 dc18 pm18 cd18 ct18 oc19 kV19 dc19 pm19 cd19 ct19 oc20 kV20 dc20 pm20 cd20 ct20 oc21 kV21 dc21 pm21 cd21 ct21 oc22 kV22 dc22 pm22 cd22 ct22 oc23 kV23 dc23 pm23 cd23 ct23 oc24 kV24 dc24 pm24 cd24 ct24 oc25 kV25 dc25 pm25 cd25 ct25 oc26 kV26 dc26 pm26 cd26 ct26 oc27 kV27 dc27 pm27 cd27 ct27 oc28 kV28 dc28 pm28 cd28 ct28 oc29 kV29 dc29 pm29 cd29 ct29 oc30 kV30 dc30 pm30 cd30 ct30 oc31 kV31 dc31 pm31 cd31 ct31 oc32 kV32 dc32 pm32 cd32 ct32 oc33 kV33 dc33 pm33 cd33 ct33 oc34 kV34 dc34 pm34 cd34 ct34 oc35 kV35 dc35 pm35 cd35 ct35 oc36 kV36 dc36 pm36 cd36 ct36 oc37 kV37 dc37 pm37 cd37 ct37 oc38 kV38 dc38 pm38 cd38 ct38 oc39 kV39 dc39 pm39 cd39 ct39 oc40 kV40 dc40 pm40 cd40 ct40 : Value} {t_COMING : Tok} {t_FLOOR : Tok} {t_GIVES : Tok} {t_KEEP : Tok} {t_LAG : Tok} {t_NAME : Tok} {t_PARTS : Tok} {t_PRICE : Tok} {t_SETUP : Tok} {t_STOCK : Tok} {t_WANT_AMOUNT : Tok} {t_WANT_DAY : Tok} {t_WANT_NAME : Tok} {Zvm : Addr} {Zt9 : Addr} {Zvp : Addr} {Zvl : Addr} {Zvk : Addr} {Zvo : Addr} {ct Pt : Addr} {odc : Option Addr} {vsc : Array Value} {slc : Array (Option Value)} {cu Pu : Addr} {odu : Option Addr} {vsu : Array Value} {slu : Array (Option Value)}
  (a1 : Zzs K mainGlobals "_law_drawn" = some (some (.ref f1))) (l1 : K.lookup f1 = some ⟨oc1, od1, .func (Zzd "_law_drawn" "_law_drawn" (Am Dq) (Ah Dq) (A9 Dq) .none kV1 dc1 pm1 an1 cd1 ct1), sl1⟩) (c1 : Zze K cd1 "_law_drawn" = true) (k1 : Zzh K (.ref f1) = true)
  (a2 : Zzs K mainGlobals "_law_next" = some (some (.ref f2))) (l2 : K.lookup f2 = some ⟨oc2, od2, .func (Zzd "_law_next" "_law_next" (Am Ee) (Ah Ee) (A9 Ee) .none kV2 dc2 pm2 an2 cd2 ct2), sl2⟩) (c2 : Zze K cd2 "_law_next" = true) (k2 : Zzh K (.ref f2) = true)
  (a3 : Zzs K mainGlobals "_law_names" = some (some (.ref f3))) (l3 : K.lookup f3 = some ⟨oc3, od3, .func (Zzd "_law_names" "_law_names" (Am Dp) (Ah Dp) (A9 Dp) .none kV3 dc3 pm3 an3 cd3 ct3), sl3⟩) (c3 : Zze K cd3 "_law_names" = true) (k3 : Zzh K (.ref f3) = true)
  (a4 : Zzs K mainGlobals "_law_ware" = some (some (.ref f4))) (l4 : K.lookup f4 = some ⟨oc4, od4, .func (Zzd "_law_ware" "_law_ware" (Am Ec) (Ah Ec) (A9 Ec) .none kV4 dc4 pm4 an4 cd4 ct4), sl4⟩) (c4 : Zze K cd4 "_law_ware" = true) (k4 : Zzh K (.ref f4) = true)
  (a5 : Zzs K mainGlobals "_law_shop" = some (some (.ref f5))) (l5 : K.lookup f5 = some ⟨oc5, od5, .func (Zzd "_law_shop" "_law_shop" (Am Ed) (Ah Ed) (A9 Ed) .none kV5 dc5 pm5 an5 cd5 ct5), sl5⟩) (c5 : Zze K cd5 "_law_shop" = true) (k5 : Zzh K (.ref f5) = true)
  (a6 : Zzs K mainGlobals "part_names" = some (some (.ref f6))) (l6 : K.lookup f6 = some ⟨oc6, od6, .func (Zzd "part_names" "part_names" (Am D4) (Ah D4) (A9 D4) .none kV6 dc6 pm6 an6 cd6 ct6), sl6⟩) (c6 : Zze K cd6 "part_names" = true) (k6 : Zzh K (.ref f6) = true)
  (a7 : Zzs K mainGlobals "without_ends" = some (some (.ref f7))) (l7 : K.lookup f7 = some ⟨oc7, od7, .func (Zzd "without_ends" "without_ends" (Am Cf) (Ah Cf) (A9 Cf) .none kV7 dc7 pm7 an7 cd7 ct7), sl7⟩) (c7 : Zze K cd7 "without_ends" = true) (k7 : Zzh K (.ref f7) = true)
  (a8 : Zzs K mainGlobals "endless_parts" = some (some (.ref f8))) (l8 : K.lookup f8 = some ⟨oc8, od8, .func (Zzd "endless_parts" "endless_parts" (Am C7) (Ah C7) (A9 C7) .none kV8 dc8 pm8 an8 cd8 ct8), sl8⟩) (c8 : Zze K cd8 "endless_parts" = true) (k8 : Zzh K (.ref f8) = true)
  (a9 : Zzs K mainGlobals "ring" = some (some (.ref f9))) (l9 : K.lookup f9 = some ⟨oc9, od9, .func (Zzd "ring" "ring" (Am Jw) (Ah Jw) (A9 Jw) .none kV9 dc9 pm9 an9 cd9 ct9), sl9⟩) (c9 : Zze K cd9 "ring" = true) (k9 : Zzh K (.ref f9) = true)
  (a10 : Zzs K mainGlobals "check_rings" = some (some (.ref f10))) (l10 : K.lookup f10 = some ⟨oc10, od10, .func (Zzd "check_rings" "check_rings" (Am Ct) (Ah Ct) (A9 Ct) .none kV10 dc10 pm10 an10 cd10 ct10), sl10⟩) (c10 : Zze K cd10 "check_rings" = true) (k10 : Zzh K (.ref f10) = true)
  (a11 : Zzs K mainGlobals "names_of" = some (some (.ref f11))) (l11 : K.lookup f11 = some ⟨oc11, od11, .func (Zzd "names_of" "names_of" (Am E9) (Ah E9) (A9 E9) .none kV11 dc11 pm11 an11 cd11 ct11), sl11⟩) (c11 : Zze K cd11 "names_of" = true) (k11 : Zzh K (.ref f11) = true)
  (a12 : Zzs K mainGlobals "levels" = some (some (.ref f12))) (l12 : K.lookup f12 = some ⟨oc12, od12, .func (Zzd "levels" "levels" (Am Gf) (Ah Gf) (A9 Gf) .none kV12 dc12 pm12 an12 cd12 ct12), sl12⟩) (c12 : Zze K cd12 "levels" = true) (k12 : Zzh K (.ref f12) = true)
  (a13 : Zzs K mainGlobals "worked" = some (some (.ref f13))) (l13 : K.lookup f13 = some ⟨oc13, od13, .func (Zzd "worked" "worked" (Am Gc) (Ah Gc) (A9 Gc) .none kV13 dc13 pm13 an13 cd13 ct13), sl13⟩) (c13 : Zze K cd13 "worked" = true) (k13 : Zzh K (.ref f13) = true)
  (a14 : Zzs K mainGlobals "ware_of" = some (some (.ref f14))) (l14 : K.lookup f14 = some ⟨oc14, od14, .func (Zzd "ware_of" "ware_of" (Am E8) (Ah E8) (A9 E8) .none kV14 dc14 pm14 an14 cd14 ct14), sl14⟩) (c14 : Zze K cd14 "ware_of" = true) (k14 : Zzh K (.ref f14) = true)
  (a15 : Zzs K mainGlobals "lots_for" = some (some (.ref f15))) (l15 : K.lookup f15 = some ⟨oc15, od15, .func (Zzd "lots_for" "lots_for" (Am Ea) (Ah Ea) (A9 Ea) .none kV15 dc15 pm15 an15 cd15 ct15), sl15⟩) (c15 : Zze K cd15 "lots_for" = true) (k15 : Zzh K (.ref f15) = true)
  (a16 : Zzs K mainGlobals "least_lots" = some (some (.ref f16))) (l16 : K.lookup f16 = some ⟨oc16, od16, .func (Zzd "least_lots" "least_lots" (Am D5) (Ah D5) (A9 D5) .none kV16 dc16 pm16 an16 cd16 ct16), sl16⟩) (c16 : Zze K cd16 "least_lots" = true) (k16 : Zzh K (.ref f16) = true)
  (a17 : Zzs K mainGlobals "count_days" = some (some (.ref f17))) (l17 : K.lookup f17 = some ⟨oc17, od17, .func (Zzd "count_days" "count_days" (Am D7) (Ah D7) (A9 D7) .none kV17 dc17 pm17 an17 cd17 ct17), sl17⟩) (c17 : Zze K cd17 "count_days" = true) (k17 : Zzh K (.ref f17) = true)
  (a18 : Zzs K mainGlobals "wants_row" = some (some (.ref f18))) (l18 : K.lookup f18 = some ⟨oc18, od18, .func (Zzd "wants_row" "wants_row" (Am Dl) (Ah Dl) (A9 Dl) .none kV18 dc18 pm18 an18 cd18 ct18), sl18⟩) (c18 : Zze K cd18 "wants_row" = true) (k18 : Zzh K (.ref f18) = true)
  (a19 : Zzs K mainGlobals "begun_row" = some (some (.ref f19))) (l19 : K.lookup f19 = some ⟨oc19, od19, .func (Zzd "begun_row" "begun_row" (Am Dr) (Ah Dr) (A9 Dr) .none kV19 dc19 pm19 an19 cd19 ct19), sl19⟩) (c19 : Zze K cd19 "begun_row" = true) (k19 : Zzh K (.ref f19) = true)
  (a20 : Zzs K mainGlobals "needs_row" = some (some (.ref f20))) (l20 : K.lookup f20 = some ⟨oc20, od20, .func (Zzd "needs_row" "needs_row" (Am Dn) (Ah Dn) (A9 Dn) .none kV20 dc20 pm20 an20 cd20 ct20), sl20⟩) (c20 : Zze K cd20 "needs_row" = true) (k20 : Zzh K (.ref f20) = true)
  (a21 : Zzs K mainGlobals "arrivals_row" = some (some (.ref f21))) (l21 : K.lookup f21 = some ⟨oc21, od21, .func (Zzd "arrivals_row" "arrivals_row" (Am Cg) (Ah Cg) (A9 Cg) .none kV21 dc21 pm21 an21 cd21 ct21), sl21⟩) (c21 : Zze K cd21 "arrivals_row" = true) (k21 : Zzh K (.ref f21) = true)
  (a22 : Zzs K mainGlobals "first_early" = some (some (.ref f22))) (l22 : K.lookup f22 = some ⟨oc22, od22, .func (Zzd "first_early" "first_early" (Am Cr) (Ah Cr) (A9 Cr) .none kV22 dc22 pm22 an22 cd22 ct22), sl22⟩) (c22 : Zze K cd22 "first_early" = true) (k22 : Zzh K (.ref f22) = true)
  (a23 : Zzs K mainGlobals "planned" = some (some (.ref f23))) (l23 : K.lookup f23 = some ⟨oc23, od23, .func (Zzd "planned" "planned" (Am Ff) (Ah Ff) (A9 Ff) .none kV23 dc23 pm23 an23 cd23 ct23), sl23⟩) (c23 : Zze K cd23 "planned" = true) (k23 : Zzh K (.ref f23) = true)
  (a24 : Zzs K mainGlobals "plan_of" = some (some (.ref f24))) (l24 : K.lookup f24 = some ⟨oc24, od24, .func (Zzd "plan_of" "plan_of" (Am Fg) (Ah Fg) (A9 Fg) .none kV24 dc24 pm24 an24 cd24 ct24), sl24⟩) (c24 : Zze K cd24 "plan_of" = true) (k24 : Zzh K (.ref f24) = true)
  (a25 : Zzs K mainGlobals "cheapest_start" = some (some (.ref f25))) (l25 : K.lookup f25 = some ⟨oc25, od25, .func (Zzd "cheapest_start" "cheapest_start" (Am Bx) (Ah Bx) (A9 Bx) .none kV25 dc25 pm25 an25 cd25 ct25), sl25⟩) (c25 : Zze K cd25 "cheapest_start" = true) (k25 : Zzh K (.ref f25) = true)
  (a26 : Zzs K mainGlobals "rises" = some (some (.ref f26))) (l26 : K.lookup f26 = some ⟨oc26, od26, .func (Zzd "rises" "rises" (Am Hu) (Ah Hu) (A9 Hu) .none kV26 dc26 pm26 an26 cd26 ct26), sl26⟩) (c26 : Zze K cd26 "rises" = true) (k26 : Zzh K (.ref f26) = true)
  (a27 : Zzs K mainGlobals "orders_by" = some (some (.ref f27))) (l27 : K.lookup f27 = some ⟨oc27, od27, .func (Zzd "orders_by" "orders_by" (Am Dm) (Ah Dm) (A9 Dm) .none kV27 dc27 pm27 an27 cd27 ct27), sl27⟩) (c27 : Zze K cd27 "orders_by" = true) (k27 : Zzh K (.ref f27) = true)
  (a28 : Zzs K mainGlobals "cheapest" = some (some (.ref f28))) (l28 : K.lookup f28 = some ⟨oc28, od28, .func (Zzd "cheapest" "cheapest" (Am Eh) (Ah Eh) (A9 Eh) .none kV28 dc28 pm28 an28 cd28 ct28), sl28⟩) (c28 : Zze K cd28 "cheapest" = true) (k28 : Zzh K (.ref f28) = true)
  (a29 : Zzs K mainGlobals "terms_from" = some (some (.ref f29))) (l29 : K.lookup f29 = some ⟨oc29, od29, .func (Zzd "terms_from" "terms_from" (Am D2) (Ah D2) (A9 D2) .none kV29 dc29 pm29 an29 cd29 ct29), sl29⟩) (c29 : Zze K cd29 "terms_from" = true) (k29 : Zzh K (.ref f29) = true)
  (a30 : Zzs K mainGlobals "bought" = some (some (.ref f30))) (l30 : K.lookup f30 = some ⟨oc30, od30, .func (Zzd "bought" "bought" (Am Gg) (Ah Gg) (A9 Gg) .none kV30 dc30 pm30 an30 cd30 ct30), sl30⟩) (c30 : Zze K cd30 "bought" = true) (k30 : Zzh K (.ref f30) = true)
  (a31 : Zzs K mainGlobals "_law_caught" = some (some (.ref f31))) (l31 : K.lookup f31 = some ⟨oc31, od31, .func (Zzd "_law_caught" "_law_caught" (Am D6) (Ah D6) (A9 D6) .none kV31 dc31 pm31 an31 cd31 ct31), sl31⟩) (c31 : Zze K cd31 "_law_caught" = true) (k31 : Zzh K (.ref f31) = true)
  (a32 : Zzs K mainGlobals "_law_word" = some (some (.ref f32))) (l32 : K.lookup f32 = some ⟨oc32, od32, .func (Zzd "_law_word" "_law_word" (Am Eb) (Ah Eb) (A9 Eb) .none kV32 dc32 pm32 an32 cd32 ct32), sl32⟩) (c32 : Zze K cd32 "_law_word" = true) (k32 : Zzh K (.ref f32) = true)
  (a33 : Zzs K mainGlobals "_law_serving" = some (some (.ref f33))) (l33 : K.lookup f33 = some ⟨oc33, od33, .func (Zzd "_law_serving" "_law_serving" (Am Cq) (Ah Cq) (A9 Cq) .none kV33 dc33 pm33 an33 cd33 ct33), sl33⟩) (c33 : Zze K cd33 "_law_serving" = true) (k33 : Zzh K (.ref f33) = true)
  (a34 : Zzs K mainGlobals "_law_right" = some (some (.ref f34))) (l34 : K.lookup f34 = some ⟨oc34, od34, .func (Zzd "_law_right" "_law_right" (Am Do) (Ah Do) (A9 Do) .none kV34 dc34 pm34 an34 cd34 ct34), sl34⟩) (c34 : Zze K cd34 "_law_right" = true) (k34 : Zzh K (.ref f34) = true)
  (a35 : Zzs K mainGlobals "_law_cost" = some (some (.ref f35))) (l35 : K.lookup f35 = some ⟨oc35, od35, .func (Zzd "_law_cost" "_law_cost" (Am Eg) (Ah Eg) (A9 Eg) .none kV35 dc35 pm35 an35 cd35 ct35), sl35⟩) (c35 : Zze K cd35 "_law_cost" = true) (k35 : Zzh K (.ref f35) = true)
  (a36 : Zzs K mainGlobals "so_far" = some (some (.ref f36))) (l36 : K.lookup f36 = some ⟨oc36, od36, .func (Zzd "so_far" "so_far" (Am Ge) (Ah Ge) (A9 Ge) .none kV36 dc36 pm36 an36 cd36 ct36), sl36⟩) (c36 : Zze K cd36 "so_far" = true) (k36 : Zzh K (.ref f36) = true)
  (a37 : Zzs K mainGlobals "stocks_row" = some (some (.ref f37))) (l37 : K.lookup f37 = some ⟨oc37, od37, .func (Zzd "stocks_row" "stocks_row" (Am D3) (Ah D3) (A9 D3) .none kV37 dc37 pm37 an37 cd37 ct37), sl37⟩) (c37 : Zze K cd37 "stocks_row" = true) (k37 : Zzh K (.ref f37) = true)
  (a38 : Zzs K mainGlobals "stocks" = some (some (.ref f38))) (l38 : K.lookup f38 = some ⟨oc38, od38, .func (Zzd "stocks" "stocks" (Am Gd) (Ah Gd) (A9 Gd) .none kV38 dc38 pm38 an38 cd38 ct38), sl38⟩) (c38 : Zze K cd38 "stocks" = true) (k38 : Zzh K (.ref f38) = true)
  (a39 : Zzs K mainGlobals "_law_good" = some (some (.ref f39))) (l39 : K.lookup f39 = some ⟨oc39, od39, .func (Zzd "_law_good" "_law_good" (Am Ef) (Ah Ef) (A9 Ef) .none kV39 dc39 pm39 an39 cd39 ct39), sl39⟩) (c39 : Zze K cd39 "_law_good" = true) (k39 : Zzh K (.ref f39) = true)
  (a40 : Zzs K mainGlobals "law" = some (some (.ref f40))) (l40 : K.lookup f40 = some ⟨oc40, od40, .func (Zzd "law" "law" (Am J7) (Ah J7) (A9 J7) .none kV40 dc40 pm40 an40 cd40 ct40), sl40⟩) (c40 : Zze K cd40 "law" = true) (k40 : Zzh K (.ref f40) = true)
  (z_range : Zzs K mainGlobals "range" = some none)
  (z_len : Zzs K mainGlobals "len" = some none)
  (z_max : Zzs K mainGlobals "max" = some none)
  (z_sorted : Zzs K mainGlobals "sorted" = some none)
  (z_zip : Zzs K mainGlobals "zip" = some none)
  (z_min : Zzs K mainGlobals "min" = some none)
  (z_enumerate : Zzs K mainGlobals "enumerate" = some none)
  (z_list : Zzs K mainGlobals "list" = some none)
  (z_sum : Zzs K mainGlobals "sum" = some none)
  (z_int : Zzs K mainGlobals "int" = some none)
  (z_tuple : Zzs K mainGlobals "tuple" = some none)
  (z_isinstance : Zzs K mainGlobals "isinstance" = some none)
  (z_all : Zzs K mainGlobals "all" = some none)
  (Ztw : Zzs K mainGlobals "COMING" = some (some (.int 5 t_COMING)))
  (Zte : Zzs K mainGlobals "FLOOR" = some (some (.int 3 t_FLOOR)))
  (Zu3 : Zzs K mainGlobals "GIVES" = some (some (.int 2 t_GIVES)))
  (Ztd : Zzs K mainGlobals "KEEP" = some (some (.int 2 t_KEEP)))
  (Zto : Zzs K mainGlobals "LAG" = some (some (.int 1 t_LAG)))
  (Zv0 : Zzs K mainGlobals "NAME" = some (some (.int 0 t_NAME)))
  (Zu2 : Zzs K mainGlobals "PARTS" = some (some (.int 6 t_PARTS)))
  (Ztx : Zzs K mainGlobals "PRICE" = some (some (.int 1 t_PRICE)))
  (Zu1 : Zzs K mainGlobals "SETUP" = some (some (.int 0 t_SETUP)))
  (Ztc : Zzs K mainGlobals "STOCK" = some (some (.int 4 t_STOCK)))
  (Zup : Zzs K mainGlobals "WANT_AMOUNT" = some (some (.int 2 t_WANT_AMOUNT)))
  (Zug : Zzs K mainGlobals "WANT_DAY" = some (some (.int 1 t_WANT_DAY)))
  (Zue : Zzs K mainGlobals "WANT_NAME" = some (some (.int 0 t_WANT_NAME)))
  (q_NeedError : Zzs K mainGlobals "NeedError" = some (some (.ref Zvm)))
  (q_Ring : Zzs K mainGlobals "Ring" = some (some (.ref Zt9)))
  (q_NoName : Zzs K mainGlobals "NoName" = some (some (.ref Zvp)))
  (q_NoDay : Zzs K mainGlobals "NoDay" = some (some (.ref Zvl)))
  (q_NoBuy : Zzs K mainGlobals "NoBuy" = some (some (.ref Zvk)))
  (q_NoPlan : Zzs K mainGlobals "NoPlan" = some (some (.ref Zvo)))
  (Ztv : Mh K Zvo = true)
  (Zui : G8 K Zvo)
  (Zvj : exmOne K (.ref Zvo) (.ref Zvm) = some true)
  (Zva : kitOne K (.ref Zvo) (.ref Zvm) = some true)
  (Zud : kitOne K (.ref Zvo) (.ref Zt9) = some false)
  (Zv9 : kitOne K (.ref Zvo) (.ref Zvp) = some false)
  (Zuz : kitOne K (.ref Zvo) (.ref Zvl) = some false)
  (Zuy : kitOne K (.ref Zvo) (.ref Zvk) = some false)
  (Zv8 : kitOne K (.ref Zvo) (.ref Zvo) = some true)
  (Zvc : kitOne K (.ref Zvo) (.type "ValueError") = some true)
  (Ztb : Mh K Zvl = true)
  (Zua : G8 K Zvl)
  (Zvg : exmOne K (.ref Zvl) (.ref Zvm) = some true)
  (Zv2 : kitOne K (.ref Zvl) (.ref Zvm) = some true)
  (Zu6 : kitOne K (.ref Zvl) (.ref Zt9) = some false)
  (Zux : kitOne K (.ref Zvl) (.ref Zvp) = some false)
  (Zuo : kitOne K (.ref Zvl) (.ref Zvl) = some true)
  (Zun : kitOne K (.ref Zvl) (.ref Zvk) = some false)
  (Zuw : kitOne K (.ref Zvl) (.ref Zvo) = some false)
  (Zv7 : kitOne K (.ref Zvl) (.type "ValueError") = some true)
  (Zta : Mh K Zvk = true)
  (Zu9 : G8 K Zvk)
  (Zvf : exmOne K (.ref Zvk) (.ref Zvm) = some true)
  (Zv1 : kitOne K (.ref Zvk) (.ref Zvm) = some true)
  (Zu5 : kitOne K (.ref Zvk) (.ref Zt9) = some false)
  (Zuv : kitOne K (.ref Zvk) (.ref Zvp) = some false)
  (Zum : kitOne K (.ref Zvk) (.ref Zvl) = some false)
  (Zul : kitOne K (.ref Zvk) (.ref Zvk) = some true)
  (Zuu : kitOne K (.ref Zvk) (.ref Zvo) = some false)
  (Zv6 : kitOne K (.ref Zvk) (.type "ValueError") = some true)
  (Ztu : Mh K Zvp = true)
  (Zuh : G8 K Zvp)
  (Zvi : exmOne K (.ref Zvp) (.ref Zvm) = some true)
  (Zv5 : kitOne K (.ref Zvp) (.ref Zvm) = some true)
  (Zuc : kitOne K (.ref Zvp) (.ref Zt9) = some false)
  (Zv4 : kitOne K (.ref Zvp) (.ref Zvp) = some true)
  (Zut : kitOne K (.ref Zvp) (.ref Zvl) = some false)
  (Zus : kitOne K (.ref Zvp) (.ref Zvk) = some false)
  (Zv3 : kitOne K (.ref Zvp) (.ref Zvo) = some false)
  (Zvb : kitOne K (.ref Zvp) (.type "ValueError") = some true)
  (tq : cd13 = .ref ct) (tl : K.lookup ct = some ⟨.type "code", odc, .fields vsc, slc⟩) (tv : vsc[11]? = some (.ref Pt)) (tw : Tw vsc ct Pt = true) (tp : K.lookup Pt = none)
  (uq : cd25 = .ref cu) (ul : K.lookup cu = some ⟨.type "code", odu, .fields vsu, slu⟩) (uv : vsu[11]? = some (.ref Pu)) (uw : Tw vsu cu Pu = true) (up : K.lookup Pu = none) (un : Pt ≠ Pu) :
  ∃ (fd : FuncData) (ct Pt cu Pu : Addr), (∀ (s : Shared) (v : Value), BindsTo s fd ⟨[v], []⟩ [("_law_script", v)]) /\ (Zvr K "worked" = some (ct, Pt) /\ K.lookup Pt = none) /\ (Zvr K "cheapest_start" = some (cu, Pu) /\ K.lookup Pu = none) /\ Pt ≠ Pu /\ ∀ base : Heap, K.In base -> base.Ns mainGlobals mg -> B1 mg base -> FnOk l.prog w K mg base CX0 11 fa fd ["_law_script"] (Pe K Pt Pu) := by
 have e := hfa.symm.trans (Zzr X G a40)
 cases e
 have T : Txt mg := ⟨Zyk X G z_range, Zyk X G z_len, Zyk X G z_max, Zyk X G z_sorted, Zyk X G z_zip, Zyk X G z_min, Zyk X G z_enumerate, Zyk X G z_list, Zyk X G z_sum, Zyk X G z_int, Zyk X G z_tuple, Zyk X G z_isinstance, Zyk X G z_all, ⟨_, Zzr X G Ztw⟩, ⟨_, Zzr X G Zte⟩, ⟨_, Zzr X G Zu3⟩, ⟨_, Zzr X G Ztd⟩, ⟨_, Zzr X G Zto⟩, ⟨_, Zzr X G Zv0⟩, ⟨_, Zzr X G Zu2⟩, ⟨_, Zzr X G Ztx⟩, ⟨_, Zzr X G Zu1⟩, ⟨_, Zzr X G Ztc⟩, ⟨_, Zzr X G Zup⟩, ⟨_, Zzr X G Zug⟩, ⟨_, Zzr X G Zue⟩⟩
 have tb2 := Xt a25 l25 uq ul uv
 have tc2 := Oy ul uv uw
 have tb := Xt a13 l13 tq tl tv
 have tc := Oy tl tv tw
 have C : Exc K mg ⟨Zvm, Zt9, Zvp, Zvl, Zvk, Zvo⟩ := ⟨Zzr X G q_NeedError, Zzr X G q_Ring, Zzr X G q_NoName, Zzr X G q_NoDay, Zzr X G q_NoBuy, Zzr X G q_NoPlan, Ztv, Zui, Zvj, Zva, Zud, Zv9, Zuz, Zuy, Zv8, Zvc, Ztb, Zua, Zvg, Zv2, Zu6, Zux, Zuo, Zun, Zuw, Zv7, Zta, Zu9, Zvf, Zv1, Zu5, Zuv, Zum, Zul, Zuu, Zv6, Ztu, Zuh, Zvi, Zv5, Zuc, Zv4, Zut, Zus, Zv3, Zvb⟩
 have F1 := Az (st := Dq) l1 c1 k1
 have b1 := F1.binds (ps := ["_law_script"]) λ_ _ _ _ _ _ us hl => match us, hl with | [_], _ => rfl
 have Zth := λbase (hB : B1 mg base) => Has.of (Zzr X G a1) k1 b1 (Ps (P := l.prog) (w := w) (base := base) F1 T)
 have F2 := Az (st := Ee) l2 c2 k2
 have b2 := F2.binds (ps := ["_law_state", "_law_many"]) λ_ _ _ _ _ _ us hl => match us, hl with | [_, _], _ => rfl
 have Zvq := λbase (hB : B1 mg base) => Has.of (Zzr X G a2) k2 b2 (Rj (P := l.prog) (w := w) (base := base) F2 T C)
 have F3 := Az (st := Dp) l3 c3 k3
 have b3 := F3.binds (ps := ["_law_state", "_law_many"]) λ_ _ _ _ _ _ us hl => match us, hl with | [_, _], _ => rfl
 have Ztg := λbase (hB : B1 mg base) => Has.of (Zzr X G a3) k3 b3 (Pr (P := l.prog) (w := w) (base := base) F3 T C (Zvq base hB))
 have F4 := Az (st := Ec) l4 c4 k4
 have b4 := F4.binds (ps := ["_law_state", "_law_name", "_law_beneath"]) λ_ _ _ _ _ _ us hl => match us, hl with | [_, _, _], _ => rfl
 have Zt7 := λbase (hB : B1 mg base) => Has.of (Zzr X G a4) k4 b4 (Rh (P := l.prog) (w := w) (base := base) F4 T C (Zvq base hB))
 have F5 := Az (st := Ed) l5 c5 k5
 have b5 := F5.binds (ps := ["_law_state", "_law_names_here"]) λ_ _ _ _ _ _ us hl => match us, hl with | [_, _], _ => rfl
 have Zt4 := λbase (hB : B1 mg base) => Has.of (Zzr X G a5) k5 b5 (Ri (P := l.prog) (w := w) (base := base) F5 T C (Zvq base hB) (Zt7 base hB))
 have F6 := Az (st := D4) l6 c6 k6
 have b6 := F6.binds (ps := ["ware"]) λ_ _ _ _ _ _ us hl => match us, hl with | [_], _ => rfl
 have Zur := λbase (hB : B1 mg base) => Has.of (Zzr X G a6) k6 b6 (N8 (P := l.prog) (w := w) (base := base) F6 T C)
 have F7 := Az (st := Cf) l7 c7 k7
 have b7 := F7.binds (ps := ["parts"]) λ_ _ _ _ _ _ us hl => match us, hl with | [_], _ => rfl
 have Zu0 := λbase (hB : B1 mg base) => Has.of (Zzr X G a7) k7 b7 (Ky (P := l.prog) (w := w) (base := base) F7 T C)
 have F8 := Az (st := C7) l8 c8 k8
 have b8 := F8.binds (ps := ["shop"]) λ_ _ _ _ _ _ us hl => match us, hl with | [_], _ => rfl
 have Zu4 := λbase (hB : B1 mg base) => Has.of (Zzr X G a8) k8 b8 (K6 (P := l.prog) (w := w) (base := base) F8 T C (Zur base hB) (Zu0 base hB))
 have F9 := Az (st := Jw) l9 c9 k9
 have b9 := F9.binds (ps := ["shop"]) λ_ _ _ _ _ _ us hl => match us, hl with | [_], _ => rfl
 have Zsq := λbase (hB : B1 mg base) => Has.of (Zzr X G a9) k9 b9 (cj (P := l.prog) (w := w) (base := base) F9 T C (Zu4 base hB))
 have F10 := Az (st := Ct) l10 c10 k10
 have b10 := F10.binds (ps := ["shop"]) λ_ _ _ _ _ _ us hl => match us, hl with | [_], _ => rfl
 have Zvn := λbase (hB : B1 mg base) => Has.of (Zzr X G a10) k10 b10 (M1 (P := l.prog) (w := w) (base := base) F10 T C (Zsq base hB))
 have F11 := Az (st := E9) l11 c11 k11
 have b11 := F11.binds (ps := ["shop"]) λ_ _ _ _ _ _ us hl => match us, hl with | [_], _ => rfl
 have Zuf := λbase (hB : B1 mg base) => Has.of (Zzr X G a11) k11 b11 (Re (P := l.prog) (w := w) (base := base) F11 T C)
 have F12 := Az (st := Gf) l12 c12 k12
 have b12 := F12.binds (ps := ["shop"]) λ_ _ _ _ _ _ us hl => match us, hl with | [_], _ => rfl
 have Zt0 := λbase (hB : B1 mg base) => Has.of (Zzr X G a12) k12 b12 (W9 (P := l.prog) (w := w) (base := base) F12 T C (Zvn base hB) (Zuf base hB) (Zur base hB))
 have F13 := Az (st := Gc) l13 c13 k13
 have b13 := F13.binds (ps := ["shop"]) λ_ _ _ _ _ _ us hl => match us, hl with | [_], _ => rfl
 have Zsy := λbase (hB : B1 mg base) => Has.of (Zzr X G a13) k13 b13 (W6 (P := l.prog) (w := w) (base := base) F13 T C (Zt0 base hB) (Zuf base hB) ⟨λ_ _ _ _ e => Kw tb a13 e, tc⟩ hB)
 have F14 := Az (st := E8) l14 c14 k14
 have b14 := F14.binds (ps := ["shop", "name"]) λ_ _ _ _ _ _ us hl => match us, hl with | [_, _], _ => rfl
 have Zu8 := λbase (hB : B1 mg base) => Has.of (Zzr X G a14) k14 b14 (Ly (P := l.prog) (w := w) (base := base) F14 T C)
 have F15 := Az (st := Ea) l15 c15 k15
 have b15 := F15.binds (ps := ["amount", "gives"]) λ_ _ _ _ _ _ us hl => match us, hl with | [_, _], _ => rfl
 have Zt8 := λbase (hB : B1 mg base) => Has.of (Zzr X G a15) k15 b15 (Rf (P := l.prog) (w := w) (base := base) F15 T C)
 have F16 := Az (st := D5) l16 c16 k16
 have b16 := F16.binds (ps := ["have", "need", "gives", "floor"]) λ_ _ _ _ _ _ us hl => match us, hl with | [_, _, _, _], _ => rfl
 have Ztt := λbase (hB : B1 mg base) => Has.of (Zzr X G a16) k16 b16 (N9 (P := l.prog) (w := w) (base := base) F16 T C (Zt8 base hB))
 have F17 := Az (st := D7) l17 c17 k17
 have b17 := F17.binds (ps := ["shop"]) λ_ _ _ _ _ _ us hl => match us, hl with | [_], _ => rfl
 have Zuq := λbase (hB : B1 mg base) => Has.of (Zzr X G a17) k17 b17 (Nb (P := l.prog) (w := w) (base := base) F17 T C)
 have F18 := Az (st := Dl) l18 c18 k18
 have b18 := F18.binds (ps := ["shop", "ware"]) λ_ _ _ _ _ _ us hl => match us, hl with | [_, _], _ => rfl
 have Ztm := λbase (hB : B1 mg base) => Has.of (Zzr X G a18) k18 b18 (Pn (P := l.prog) (w := w) (base := base) F18 T C (Zuq base hB))
 have F19 := Az (st := Dr) l19 c19 k19
 have b19 := F19.binds (ps := ["plan", "ware"]) λ_ _ _ _ _ _ us hl => match us, hl with | [_, _], _ => rfl
 have Ztl := λbase (hB : B1 mg base) => Has.of (Zzr X G a19) k19 b19 (Pw (P := l.prog) (w := w) (base := base) F19 T C)
 have F20 := Az (st := Dn) l20 c20 k20
 have b20 := F20.binds (ps := ["shop", "plan", "ware"]) λ_ _ _ _ _ _ us hl => match us, hl with | [_, _, _], _ => rfl
 have Zuk := λbase (hB : B1 mg base) => Has.of (Zzr X G a20) k20 b20 (Pp (P := l.prog) (w := w) (base := base) F20 T C (Ztm base hB) (Ztl base hB))
 have F21 := Az (st := Cg) l21 c21 k21
 have b21 := F21.binds (ps := ["shop", "ware"]) λ_ _ _ _ _ _ us hl => match us, hl with | [_, _], _ => rfl
 have Zvd := λbase (hB : B1 mg base) => Has.of (Zzr X G a21) k21 b21 (Kz (P := l.prog) (w := w) (base := base) F21 T C (Zuq base hB))
 have F22 := Az (st := Cr) l22 c22 k22
 have b22 := F22.binds (ps := ["lots", "lag"]) λ_ _ _ _ _ _ us hl => match us, hl with | [_, _], _ => rfl
 have Ztz := λbase (hB : B1 mg base) => Has.of (Zzr X G a22) k22 b22 (M0 (P := l.prog) (w := w) (base := base) F22 T C)
 have F23 := Az (st := Ff) l23 c23 k23
 have b23 := F23.binds (ps := ["shop"]) λ_ _ _ _ _ _ us hl => match us, hl with | [_], _ => rfl
 have Zu7 := λbase (hB : B1 mg base) => Has.of (Zzr X G a23) k23 b23 (Ta (P := l.prog) (w := w) (base := base) F23 T C (Zsy base hB) (Zu8 base hB) (Ztt base hB) (Zuk base hB) (Zvd base hB) (Ztz base hB))
 have Zsi := λbase (hB : B1 mg base) => HasX.of (Zzr X G a14) k14 b14 (Jf (P := l.prog) (w := w) (base := base) F14 T C)
 have Ztj := λbase (hB : B1 mg base) => HasX.of (Zzr X G a14) k14 b14 (FnOk.both (k := 1) (Ly (P := l.prog) (w := w) (base := base) F14 T C) (Jf (P := l.prog) (w := w) (base := base) F14 T C) (by decide) (by decide))
 have F24 := Az (st := Fg) l24 c24 k24
 have b24 := F24.binds (ps := ["shop"]) λ_ _ _ _ _ _ us hl => match us, hl with | [_], _ => rfl
 have Zt1 := λbase (hB : B1 mg base) => HasX.of (Zzr X G a24) k24 b24 (Td (P := l.prog) (w := w) (base := base) F24 T C (Zu7 base hB))
 have F25 := Az (st := Bx) l25 c25 k25
 have b25 := F25.binds (ps := ["ways", "amount"]) λ_ _ _ _ _ _ us hl => match us, hl with | [_, _], _ => rfl
 have Zub := λbase (hB : B1 mg base) => HasX.of (Zzr X G a25) k25 b25 (Jg (P := l.prog) (w := w) (base := base) F25 T C ⟨λ_ _ _ _ e => Kw tb2 a25 e, tc2⟩ hB)
 have F26 := Az (st := Hu) l26 c26 k26
 have b26 := F26.binds (ps := ["costs"]) λ_ _ _ _ _ _ us hl => match us, hl with | [_], _ => rfl
 have Zst := λbase (hB : B1 mg base) => Has.of (Zzr X G a26) k26 b26 (Yj (P := l.prog) (w := w) (base := base) F26 T C)
 have F27 := Az (st := Dm) l27 c27 k27
 have b27 := F27.binds (ps := ["wanted", "starts"]) λ_ _ _ _ _ _ us hl => match us, hl with | [_, _], _ => rfl
 have Ztk := λbase (hB : B1 mg base) => Has.of (Zzr X G a27) k27 b27 (Po (P := l.prog) (w := w) (base := base) F27 T C)
 have F28 := Az (st := Eh) l28 c28 k28
 have b28 := F28.binds (ps := ["wanted", "terms"]) λ_ _ _ _ _ _ us hl => match us, hl with | [_, _], _ => rfl
 have Zt6 := λbase (hB : B1 mg base) => HasX.of (Zzr X G a28) k28 b28 (Rm (P := l.prog) (w := w) (base := base) F28 T C (Zub base hB) (Zst base hB) (Ztk base hB))
 have F29 := Az (st := D2) l29 c29 k29
 have b29 := F29.binds (ps := ["terms", "first"]) λ_ _ _ _ _ _ us hl => match us, hl with | [_, _], _ => rfl
 have Ztr := λbase (hB : B1 mg base) => Has.of (Zzr X G a29) k29 b29 (N6 (P := l.prog) (w := w) (base := base) F29 T C)
 have F30 := Az (st := Gg) l30 c30 k30
 have b30 := F30.binds (ps := ["shop", "name", "terms"]) λ_ _ _ _ _ _ us hl => match us, hl with | [_, _, _], _ => rfl
 have Zsx := λbase (hB : B1 mg base) => HasX.of (Zzr X G a30) k30 b30 (Wa (P := l.prog) (w := w) (base := base) F30 T C (Zvn base hB) (Ztj base hB) (Zt1 base hB) (Zt6 base hB) (Ztr base hB))
 have F31 := Az (st := D6) l31 c31 k31
 have b31 := F31.binds (ps := ["_law_shop_here", "_law_name", "_law_terms"]) λ_ _ _ _ _ _ us hl => match us, hl with | [_, _, _], _ => rfl
 have Ztq := λbase (hB : B1 mg base) => Has.of (Zzr X G a31) k31 b31 (Na (P := l.prog) (w := w) (base := base) F31 T C (Zsx base hB))
 have F32 := Az (st := Eb) l32 c32 k32
 have b32 := F32.binds (ps := ["_law_shop_here", "_law_told", "_law_name", "_law_terms"]) λ_ _ _ _ _ _ us hl => match us, hl with | [_, _, _, _], _ => rfl
 have Zt3 := λbase (hB : B1 mg base) => Has.of (Zzr X G a32) k32 b32 (Rg (P := l.prog) (w := w) (base := base) F32 T C)
 have F33 := Az (st := Cq) l33 c33 k33
 have b33 := F33.binds (ps := ["_law_wanted", "_law_terms", "_law_start", "_law_day"]) λ_ _ _ _ _ _ us hl => match us, hl with | [_, _, _, _], _ => rfl
 have Zty := λbase (hB : B1 mg base) => Has.of (Zzr X G a33) k33 b33 (Lz (P := l.prog) (w := w) (base := base) F33 T C)
 have F34 := Az (st := Do) l34 c34 k34
 have b34 := F34.binds (ps := ["_law_wanted", "_law_terms", "_law_values"]) λ_ _ _ _ _ _ us hl => match us, hl with | [_, _, _], _ => rfl
 have Zti := λbase (hB : B1 mg base) => Has.of (Zzr X G a34) k34 b34 (Pq (P := l.prog) (w := w) (base := base) F34 T C (Zty base hB))
 have F35 := Az (st := Eg) l35 c35 k35
 have b35 := F35.binds (ps := ["_law_wanted", "_law_terms", "_law_orders"]) λ_ _ _ _ _ _ us hl => match us, hl with | [_, _, _], _ => rfl
 have Zt5 := λbase (hB : B1 mg base) => Has.of (Zzr X G a35) k35 b35 (Rl (P := l.prog) (w := w) (base := base) F35 T C)
 have F36 := Az (st := Ge) l36 c36 k36
 have b36 := F36.binds (ps := ["row"]) λ_ _ _ _ _ _ us hl => match us, hl with | [_], _ => rfl
 have Zsz := λbase (hB : B1 mg base) => Has.of (Zzr X G a36) k36 b36 (W8 (P := l.prog) (w := w) (base := base) F36 T C)
 have F37 := Az (st := D3) l37 c37 k37
 have b37 := F37.binds (ps := ["shop", "plan", "ware"]) λ_ _ _ _ _ _ us hl => match us, hl with | [_, _, _], _ => rfl
 have Zts := λbase (hB : B1 mg base) => Has.of (Zzr X G a37) k37 b37 (N7 (P := l.prog) (w := w) (base := base) F37 T C (Zuk base hB) (Zvd base hB) (Zsz base hB))
 have F38 := Az (st := Gd) l38 c38 k38
 have b38 := F38.binds (ps := ["shop", "plan", "name"]) λ_ _ _ _ _ _ us hl => match us, hl with | [_, _, _], _ => rfl
 have Zsw := λbase (hB : B1 mg base) => Has.of (Zzr X G a38) k38 b38 (W7 (P := l.prog) (w := w) (base := base) F38 T C (Zvn base hB) (Zts base hB) (Zu8 base hB))
 have F39 := Az (st := Ef) l39 c39 k39
 have b39 := F39.binds (ps := ["_law_shop_here", "_law_plan", "_law_ware_here", "_law_terms", "_law_found"]) λ_ _ _ _ _ _ us hl => match us, hl with | [_, _, _, _, _], _ => rfl
 have Zt2 := λbase (hB : B1 mg base) => Has.of (Zzr X G a39) k39 b39 (Rk (P := l.prog) (w := w) (base := base) F39 T C (Zti base hB) (Zt5 base hB) (Zsw base hB))
 have F40 := Az (st := J7) l40 c40 k40
 exact ⟨Zzd "law" "law" (Am J7) (Ah J7) (A9 J7) .none kV40 dc40 pm40 an40 cd40 ct40, ct, Pt, cu, Pu, λs v => .of_eq rfl, ⟨tb, tp⟩, ⟨tb2, up⟩, un, λbase _ _ hB => j0 F40 T C (Zth base hB) (Ztg base hB) (Zt4 base hB) (Zu7 base hB) (Zvq base hB) (Ztq base hB) (Zt3 base hB) (Zt2 base hB)⟩
theorem walk {l : PySem.W.OpenLaw} {q : Program} {loose : List Str} {XP : (Str -> Option Value) -> Heap -> Prop} {YP : World -> Heap -> Prop} {d dw dl : DefRec} {K : Params -> Zzu} (hn : l.most = some 63) (hdf : d.params.defaults = [])
  (hY : ∀ (w : World) (h : Heap), YP w h -> (K w.params).In h) (hw : (PyProof.Rows.recsOf q).find? (λe => e.name == ("worked" : Str)) = some dw) (hw2 : (PyProof.Rows.recsOf q).find? (λe => e.name == ("cheapest_start" : Str)) = some dl)
  (F : ∀ (w : World) (mg : Str -> Option Value) (fa : Addr) (h : Heap), (K w.params).In h -> h.Ns mainGlobals mg -> mg d.name = some (.ref fa) ->
   ∃ (fd : FuncData) (ct Pt cu Pu : Addr), (∀ (s : Shared) (u : Value), BindsTo s fd ⟨[u], []⟩ [("_law_script", u)]) /\ (Zvr (K w.params) "worked" = some (ct, Pt) /\ (K w.params).lookup Pt = none) /\ (Zvr (K w.params) "cheapest_start" = some (cu, Pu) /\ (K w.params).lookup Pu = none) /\ Pt ≠ Pu /\ ∀ base : Heap, (K w.params).In base -> base.Ns mainGlobals mg -> B1 mg base -> FnOk l.prog w (K w.params) mg base CX0 11 fa fd ["_law_script"] (Pe (K w.params) Pt Pu)) :
  PySem.W.WalkO q loose XP YP l.row.toRowW d [] (λf vs => PySem.call f vs) :=
 L2.Vo (n := 63) (k := 11) (x := "_law_script") (wk := "worked") (wl := "cheapest_start") (sp := λw Pt Pu => Pe (K w.params) Pt Pu) hn (by decide) hdf ⟨rfl, by decide, by decide⟩ hY hw hw2 F (λ_ _ a Pt Pu ns hl ht hv hne hS => ⟨a, ns, rfl, hS, hl, .inl ht, .inl hv, hne, λ_ => rfl⟩)
end K46
namespace PySem.W.Fast
def tw11416434738274349491:=0
def tw6234355642813352139:=0
def tw10860212705770174049:=0
def tw11617723228576153643:=0
def tw16405759802482244429:=0
def tw2699651167969122566:=0
def tw2644651381940635422:=0
def tw2986551509179633503:=0
def tw5231744323171235991:=0
def tw15547847161431959508:=0
def tw2095907259996511921:=0
def tw696769374618597776:=0
def tw14893901207399818866:=0
def tw17898619343495793073:=0
def tw9245191348652104837:=0
def tw12716010182074826859:=0
def tw14569543748536214083:=0
def tw13000626807508990778:=0
def tw9746301545482181449:=0
def tw9788302364828628178:=0
def tw5310662328012304369:=0
def tw18300807077913166899:=0
def tw11082261561859508109:=0
def tw2149077099520252257:=0
def tw11662111632102769304:=0
def tw13732055770686820933:=0
def tw8436682388080948669:=0
def tw11745583955396443675:=0
def tw10652463122372364896:=0
def tw15428847321588733678:=0
def tw1265880513985409388:=0
def tw3482007672588035919:=0
def tw7353799428138975088:=0
def tw16554637459061705483:=0
def tw8446036561915868865:=0
def tw765165757497960014:=0
def tw18379783095669025327:=0
def tw16249494056634314463:=0
def tw2688992769084950903:=0
def tw2632648196496586199:=0
def tw12498240806438554334:=0
def tw8941697529210497736:=0
def tw11734960605462435681:=0
def tw10882304802150870801:=0
def tw16473870164696828705:=0
def tw15051007722909461759:=0
def tw7974644105308802140:=0
def tw3643305181862350601:=0
def tw12154024975280296484:=0
def tw5194371582717529791:=0
def tw11461990514322062100:=0
def tw16982553802433341294:=0
def tw4054707080468338781:=0
def tw13068824670827315576:=0
def tw11931965123200257583:=0
def tw8902820583408859379:=0
def tw1800001473962513872:=0
def tw9852669242270003701:=0
def tw6447454615831442038:=0
def tw3917343387603637645:=0
def tw16499675429467932328:=0
def tw10619804585734803504:=0
def tw12273354336658015099:=0
def tw10114951866862975236:=0
def tw13980922919270336451:=0
def tw5934371590083616328:=0
def tw3865350297868929910:=0
def tw8883259754015816085:=0
def tw12949014807204869054:=0
def tw258011478648073304:=0
def tw2816590196216315831:=0
def tw10256802748137180699:=0
def tw7606754853876164441:=0
def tw1960247659470570230:=0
def tw7424737273879978441:=0
def tw1003756835178682413:=0
def tw12210226134719932890:=0
def tw9091281920473373668:=0
def tw13245287645989265028:=0
def tw14226592752760809548:=0
def tw15214173972645953582:=0
def tw1546028666773956438:=0
def tw11730781777292763404:=0
def tw4506386831732958310:=0
def tw934599375780974891:=0
def tw154113479455380356:=0
def tw17843806284159009794:=0
def tw4363680881298694587:=0
def tw17530492217557997416:=0
def tw16023336774094840196:=0
def tw3988649892728882176:=0
def tw5468761613960800219:=0
def tw15269244557029426372:=0
def tw15772854582848247575:=0
def tw16296033523611609720:=0
def tw8354009083289290925:=0
def tw2206610884255515190:=0
def tw846788887963958034:=0
def tw15017612714139324555:=0
def tw14278044946926519948:=0
def tw6140073505296514369:=0
def tw17281633091999787855:=0
def tw5355513163325013193:=0
def tw11995545792449792071:=0
def tw4515573137431614226:=0
def tw10952283046172431536:=0
def tw7713837786397730986:=0
def tw15911951937344075637:=0
def tw13790281629759051636:=0
def tw17298585043774270221:=0
def tw15900439860764699527:=0
def tw12055724165854084492:=0
def tw193840921306016852:=0
def tw1201707718327050520:=0
def tw10925732177261902527:=0
def tw11474069482081502660:=0
def tw1462012432296914803:=0
def tw6888190280836701043:=0
def tw766755477302213883:=0
def tw10339495563878261330:=0
def tw3574637733488340290:=0
def tw15944132568335034309:=0
def tw13518564889240845087:=0
def tw813752463018566355:=0
def tw13982646248813843099:=0
def tw643704241279093918:=0
def tw7302995329088954020:=0
def tw12619679532329589509:=0
def tw8808593661360648640:=0
def tw13973075024203420732:=0
def tw5568719044442351515:=0
def tw3320427617778410706:=0
def tw15278869561440767124:=0
def tw17367913241915327694:=0
def tw17553118920406119804:=0
def tw5860412553265329077:=0
def tw6801480883217267990:=0
def tw9172641931532198171:=0
def tw9333626454947576792:=0
def tw10891684948893704352:=0
def tw4357009660677660198:=0
def tw12184434043984926791:=0
def tw4913090628896352692:=0
def tw9907221078977353372:=0
def tw15865200249648379047:=0
def tw962371414879471700:=0
def tw14018321087506902541:=0
def tw15352520379072755082:=0
def tw6564883696689296258:=0
def tw6386626675432562765:=0
def tw16205372357612877765:=0
def tw2010654483668096173:=0
def tw2875009609884756760:=0
def tw7115826235853478166:=0
def tw6232092724009292762:=0
def tw7231888351507252499:=0
def tw3210747955483012438:=0
def tw17636208053200648725:=0
def tw9154048724462433696:=0
def tw558095107821023164:=0
def tw8990745928809028029:=0
def tw9184696687040341157:=0
def tw11844858411287659443:=0
def tw13289542117312106015:=0
def tw6848580882044982798:=0
def tw14812730511637318898:=0
def tw5179370710194248024:=0
def tw13127495410199696717:=0
def tw7118009459056666960:=0
def tw4843797186720581115:=0
def tw3449601889054351922:=0
def tw14547608263084428563:=0
def tw4333343140337417319:=0
def tw5416380044883577634:=0
def tw11323527182057822760:=0
def tw4321484897358022365:=0
def tw3949622063280360496:=0
def tw10648076942773703786:=0
def tw5722574586530542619:=0
def tw5803886842231741338:=0
def tw8129165536053062636:=0
def tw10763083914430788221:=0
def tw11654091794915866177:=0
def tw2030980536009279009:=0
def tw8360532896311501480:=0
def tw9349698256667400428:=0
def tw1173107516432617883:=0
def tw6641795683796434660:=0
def tw4597413937709688195:=0
def tw7490136858298293205:=0
def tw5870788279895311735:=0
def tw9656973706377057811:=0
def tw5824520783770234168:=0
def tw13942307471858056899:=0
def tw7138218429762679964:=0
def tw17132818154214357382:=0
def tw1858865695908899187:=0
def tw14424794617423239829:=0
def tw14570867385593493762:=0
def tw10280025469623668065:=0
def tw14786007062939371138:=0
def tw14825723948912025806:=0
def tw7021959719216609512:=0
def tw16498811225205623489:=0
def tw16266512201406822498:=0
def tw7764253758797823396:=0
def tw199910215987010798:=0
def tw13734804542793274780:=0
def tw3069722152269121948:=0
def tw8953970420272912897:=0
def tw4669444916517950020:=0
def tw15685161878824144345:=0
def tw14862057718973585056:=0
def tw10917817766739144588:=0
def tw14518058318897927771:=0
def tw11787275976782353630:=0
def tw17346825611952665358:=0
def tw787439621292665739:=0
def tw12908638703033117688:=0
def tw16957636815039414621:=0
def tw10593611733015178023:=0
def tw14410465916189929307:=0
def tw15351406153018618914:=0
def tw10784218344948420673:=0
def tw15918605280598514811:=0
def tw11343245813350820143:=0
def tw996027988789662284:=0
def tw11998913135091132244:=0
def tw14756976374888926424:=0
def tw594906214352011496:=0
def tw10826308071309732589:=0
end PySem.W.Fast
open PySem PySem.W PyProof.Rows
set_option maxRecDepth 100000 in
set_option maxHeartbeats 0 in
theorem PySem.Challenge.cw_needplan_k46_whole_bought_holds : PySem.Challenge.rw_needplan_k46_whole_bought.Holds := by
 w_on; o_law; k_head; (case hw => w_witness2)
 k_fill
 refine K46.walk (l := PySem.Challenge.rw_needplan_k46_whole_bought) rfl rfl (λw h Y => PySem.W.km_in_of Y) rfl rfl ?F
 case F =>
  intro w mg fa h KX G hmg
  refine' K46.all_mk KX G hmg ?a1 ?l1 ?c1 ?k1 ?a2 ?l2 ?c2 ?k2 ?a3 ?l3 ?c3 ?k3 ?a4 ?l4 ?c4 ?k4 ?a5 ?l5 ?c5 ?k5 ?a6 ?l6 ?c6 ?k6 ?a7 ?l7 ?c7 ?k7 ?a8 ?l8 ?c8 ?k8 ?a9 ?l9 ?c9 ?k9 ?a10 ?l10 ?c10 ?k10 ?a11 ?l11 ?c11 ?k11 ?a12 ?l12 ?c12 ?k12 ?a13 ?l13 ?c13 ?k13 ?a14 ?l14 ?c14 ?k14 ?a15 ?l15 ?c15 ?k15 ?a16 ?l16 ?c16 ?k16 ?a17 ?l17 ?c17 ?k17 ?a18 ?l18 ?c18 ?k18 ?a19 ?l19 ?c19 ?k19 ?a20 ?l20 ?c20 ?k20 ?a21 ?l21 ?c21 ?k21 ?a22 ?l22 ?c22 ?k22 ?a23 ?l23 ?c23 ?k23 ?a24 ?l24 ?c24 ?k24 ?a25 ?l25 ?c25 ?k25 ?a26 ?l26 ?c26 ?k26 ?a27 ?l27 ?c27 ?k27 ?a28 ?l28 ?c28 ?k28 ?a29 ?l29 ?c29 ?k29 ?a30 ?l30 ?c30 ?k30 ?a31 ?l31 ?c31 ?k31 ?a32 ?l32 ?c32 ?k32 ?a33 ?l33 ?c33 ?k33 ?a34 ?l34 ?c34 ?k34 ?a35 ?l35 ?c35 ?k35 ?a36 ?l36 ?c36 ?k36 ?a37 ?l37 ?c37 ?k37 ?a38 ?l38 ?c38 ?k38 ?a39 ?l39 ?c39 ?k39 ?a40 ?l40 ?c40 ?k40 ?z_range ?z_len ?z_max ?z_sorted ?z_zip ?z_min ?z_enumerate ?z_list ?z_sum ?z_int ?z_tuple ?z_isinstance ?z_all ?Ztw ?Zte ?Zu3 ?Ztd ?Zto ?Zv0 ?Zu2 ?Ztx ?Zu1 ?Ztc ?Zup ?Zug ?Zue ?q_NeedError ?q_Ring ?q_NoName ?q_NoDay ?q_NoBuy ?q_NoPlan ?Ztv ?Zui ?Zvj ?Zva ?Zud ?Zv9 ?Zuz ?Zuy ?Zv8 ?Zvc ?Ztb ?Zua ?Zvg ?Zv2 ?Zu6 ?Zux ?Zuo ?Zun ?Zuw ?Zv7 ?Zta ?Zu9 ?Zvf ?Zv1 ?Zu5 ?Zuv ?Zum ?Zul ?Zuu ?Zv6 ?Ztu ?Zuh ?Zvi ?Zv5 ?Zuc ?Zv4 ?Zut ?Zus ?Zv3 ?Zvb ?tq ?tl ?tv ?tw ?tp ?uq ?ul ?uv ?uw ?up ?un
  (case a1 => k_is)
  (case l1 => k_is)
  (case c1 => k_is)
  (case k1 => k_is)
  (case a2 => k_is)
  (case l2 => k_is)
  (case c2 => k_is)
  (case k2 => k_is)
  (case a3 => k_is)
  (case l3 => k_is)
  (case c3 => k_is)
  (case k3 => k_is)
  (case a4 => k_is)
  (case l4 => k_is)
  (case c4 => k_is)
  (case k4 => k_is)
  (case a5 => k_is)
  (case l5 => k_is)
  (case c5 => k_is)
  (case k5 => k_is)
  (case a6 => k_is)
  (case l6 => k_is)
  (case c6 => k_is)
  (case k6 => k_is)
  (case a7 => k_is)
  (case l7 => k_is)
  (case c7 => k_is)
  (case k7 => k_is)
  (case a8 => k_is)
  (case l8 => k_is)
  (case c8 => k_is)
  (case k8 => k_is)
  (case a9 => k_is)
  (case l9 => k_is)
  (case c9 => k_is)
  (case k9 => k_is)
  (case a10 => k_is)
  (case l10 => k_is)
  (case c10 => k_is)
  (case k10 => k_is)
  (case a11 => k_is)
  (case l11 => k_is)
  (case c11 => k_is)
  (case k11 => k_is)
  (case a12 => k_is)
  (case l12 => k_is)
  (case c12 => k_is)
  (case k12 => k_is)
  (case a13 => k_is)
  (case l13 => k_is)
  (case c13 => k_is)
  (case k13 => k_is)
  (case a14 => k_is)
  (case l14 => k_is)
  (case c14 => k_is)
  (case k14 => k_is)
  (case a15 => k_is)
  (case l15 => k_is)
  (case c15 => k_is)
  (case k15 => k_is)
  (case a16 => k_is)
  (case l16 => k_is)
  (case c16 => k_is)
  (case k16 => k_is)
  (case a17 => k_is)
  (case l17 => k_is)
  (case c17 => k_is)
  (case k17 => k_is)
  (case a18 => k_is)
  (case l18 => k_is)
  (case c18 => k_is)
  (case k18 => k_is)
  (case a19 => k_is)
  (case l19 => k_is)
  (case c19 => k_is)
  (case k19 => k_is)
  (case a20 => k_is)
  (case l20 => k_is)
  (case c20 => k_is)
  (case k20 => k_is)
  (case a21 => k_is)
  (case l21 => k_is)
  (case c21 => k_is)
  (case k21 => k_is)
  (case a22 => k_is)
  (case l22 => k_is)
  (case c22 => k_is)
  (case k22 => k_is)
  (case a23 => k_is)
  (case l23 => k_is)
  (case c23 => k_is)
  (case k23 => k_is)
  (case a24 => k_is)
  (case l24 => k_is)
  (case c24 => k_is)
  (case k24 => k_is)
  (case a25 => k_is)
  (case l25 => k_is)
  (case c25 => k_is)
  (case k25 => k_is)
  (case a26 => k_is)
  (case l26 => k_is)
  (case c26 => k_is)
  (case k26 => k_is)
  (case a27 => k_is)
  (case l27 => k_is)
  (case c27 => k_is)
  (case k27 => k_is)
  (case a28 => k_is)
  (case l28 => k_is)
  (case c28 => k_is)
  (case k28 => k_is)
  (case a29 => k_is)
  (case l29 => k_is)
  (case c29 => k_is)
  (case k29 => k_is)
  (case a30 => k_is)
  (case l30 => k_is)
  (case c30 => k_is)
  (case k30 => k_is)
  (case a31 => k_is)
  (case l31 => k_is)
  (case c31 => k_is)
  (case k31 => k_is)
  (case a32 => k_is)
  (case l32 => k_is)
  (case c32 => k_is)
  (case k32 => k_is)
  (case a33 => k_is)
  (case l33 => k_is)
  (case c33 => k_is)
  (case k33 => k_is)
  (case a34 => k_is)
  (case l34 => k_is)
  (case c34 => k_is)
  (case k34 => k_is)
  (case a35 => k_is)
  (case l35 => k_is)
  (case c35 => k_is)
  (case k35 => k_is)
  (case a36 => k_is)
  (case l36 => k_is)
  (case c36 => k_is)
  (case k36 => k_is)
  (case a37 => k_is)
  (case l37 => k_is)
  (case c37 => k_is)
  (case k37 => k_is)
  (case a38 => k_is)
  (case l38 => k_is)
  (case c38 => k_is)
  (case k38 => k_is)
  (case a39 => k_is)
  (case l39 => k_is)
  (case c39 => k_is)
  (case k39 => k_is)
  (case a40 => k_is)
  (case l40 => k_is)
  (case c40 => k_is)
  (case k40 => k_is)
  (case z_range => k_is)
  (case z_len => k_is)
  (case z_max => k_is)
  (case z_sorted => k_is)
  (case z_zip => k_is)
  (case z_min => k_is)
  (case z_enumerate => k_is)
  (case z_list => k_is)
  (case z_sum => k_is)
  (case z_int => k_is)
  (case z_tuple => k_is)
  (case z_isinstance => k_is)
  (case z_all => k_is)
  (case Ztw => k_is)
  (case Zte => k_is)
  (case Zu3 => k_is)
  (case Ztd => k_is)
  (case Zto => k_is)
  (case Zv0 => k_is)
  (case Zu2 => k_is)
  (case Ztx => k_is)
  (case Zu1 => k_is)
  (case Ztc => k_is)
  (case Zup => k_is)
  (case Zug => k_is)
  (case Zue => k_is)
  (case q_NeedError => k_is)
  (case q_Ring => k_is)
  (case q_NoName => k_is)
  (case q_NoDay => k_is)
  (case q_NoBuy => k_is)
  (case q_NoPlan => k_is)
  (case Ztv => kernel_rfl)
  (case Zui => exact ⟨by kernel_rfl, by kernel_rfl, by kernel_rfl, by kernel_rfl, by kernel_rfl, by kernel_rfl, by kernel_rfl, by kernel_rfl⟩)
  (case Zvj => kernel_rfl)
  (case Zva => kernel_rfl)
  (case Zud => kernel_rfl)
  (case Zv9 => kernel_rfl)
  (case Zuz => kernel_rfl)
  (case Zuy => kernel_rfl)
  (case Zv8 => kernel_rfl)
  (case Zvc => kernel_rfl)
  (case Ztb => kernel_rfl)
  (case Zua => exact ⟨by kernel_rfl, by kernel_rfl, by kernel_rfl, by kernel_rfl, by kernel_rfl, by kernel_rfl, by kernel_rfl, by kernel_rfl⟩)
  (case Zvg => kernel_rfl)
  (case Zv2 => kernel_rfl)
  (case Zu6 => kernel_rfl)
  (case Zux => kernel_rfl)
  (case Zuo => kernel_rfl)
  (case Zun => kernel_rfl)
  (case Zuw => kernel_rfl)
  (case Zv7 => kernel_rfl)
  (case Zta => kernel_rfl)
  (case Zu9 => exact ⟨by kernel_rfl, by kernel_rfl, by kernel_rfl, by kernel_rfl, by kernel_rfl, by kernel_rfl, by kernel_rfl, by kernel_rfl⟩)
  (case Zvf => kernel_rfl)
  (case Zv1 => kernel_rfl)
  (case Zu5 => kernel_rfl)
  (case Zuv => kernel_rfl)
  (case Zum => kernel_rfl)
  (case Zul => kernel_rfl)
  (case Zuu => kernel_rfl)
  (case Zv6 => kernel_rfl)
  (case Ztu => kernel_rfl)
  (case Zuh => exact ⟨by kernel_rfl, by kernel_rfl, by kernel_rfl, by kernel_rfl, by kernel_rfl, by kernel_rfl, by kernel_rfl, by kernel_rfl⟩)
  (case Zvi => kernel_rfl)
  (case Zv5 => kernel_rfl)
  (case Zuc => kernel_rfl)
  (case Zv4 => kernel_rfl)
  (case Zut => kernel_rfl)
  (case Zus => kernel_rfl)
  (case Zv3 => kernel_rfl)
  (case Zvb => kernel_rfl)
  (case tq => rfl)
  (case tl => k_is)
  (case tv => rfl)
  (case tw => rfl)
  (case tp => rfl)
  (case uq => rfl)
  (case ul => k_is)
  (case uv => rfl)
  (case uw => rfl)
  (case up => rfl)
  (case un => decide)
