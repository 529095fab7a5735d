import PyProof.Rows.All
import Wide.All
import OpenK.AllK
import Wide.FinOn
import Lean
import PyProof.EqAt
import PyProof.EqKinds
import PyProof.TupleCall
import PySem.Challenge.RW_needplan_k92_whole_none_keeps
open List renaming length_map → Zzz, getElem?_map → Zzy, mem_map → Zzv, mem_cons → Zzt, getElem?_eq_getElem → Zzs, mem_of_getElem? → Zzr, map_append → Zzq, map_cons → Zzp, getD_eq_getElem?_getD → Zzo, append_nil → Zzn, size_toArray → Zzl, length_cons → Zzk, not_mem_nil → Zzj, getElem?_cons_zero → Zzh, getElem?_cons_succ → Zzg, mem_cons_self → Zzf, mem_cons_of_mem → Zzd, replicate_succ → Zzc, nil_append → Zz8, replicate_zero → Zz7, getD_cons_zero → Zz6, getD_cons_succ → Zz5, getElem?_eq_some_iff → Zz4, cons_append → Zz2, set_cons_zero → Zz1, set_cons_succ → Zz0, length_nil → Zyy, take_add_one → Zyx, mem_singleton → Zyw, map_nil → Zyv, take_length → Zyt, filter_append → Zys, flatten_cons → Zyr, length_append → Zym, mem_append → Zyj, all_eq_true → Zyi, map_map → Zyh, set_nil → Zyg, length_take → Zye, mem_append_right → Zyd, getElem?_eq_none → Zy9, nodup_cons → Zy7, map → Zy4, range → Zxy, filter_cons → Zxr, length_filter_le → Zxo, toArray → Zxn, replicate → Zxm, getElem?_set_ne → Zxj, lookup_cons → Zxh, mem_append_left → Zxa, mem_iff_getElem → Zx9, getElem?_append_right → Zx8, ext_getElem? → Zx5, map_congr_left → Zx4, length_singleton → Zx3, length_drop → Zx2, nodup_nil → Zwy, getElem?_append_left → Zww, pairwise_iff_getElem → Zwv, all_map → Zwu, mem_range → Zwp, flatten_nil → Zwo, filter → Zwm, mem_filter → Zwi, all_cons → Zwe, length → Zwa, flatten_append → Zw6, any_cons → Zw4, mem_filterMap → Zw3, find?_cons → Zw2, forIn_cons → Zw1, getElem?_take → Zw0, pairwise_cons → Zvz, getElem?_set_self → Zvy, filter_eq_nil_iff → Zvx, length_range → Zvw, take_append_drop → Zvt, getElem_mem → Zvq, filterMap_cons → Zvo, map_set → Zvh, take_zero → Zvg, nodup_append → Zve, flatMap_cons → Zvd, take_of_length_le → Zvb, zipIdx_cons → Zv9, mem_iff_getElem? → Zv7, zipIdx_nil → Zv3, getElem?_of_mem → Zv0, mem_of_mem_take → Zuz, length_reverse → Zux, getElem?_range → Zuw, forIn_nil → Zut, getElem?_drop → Zuq, map_drop → Zuo, map_take → Zun
open PySem.Heap renaming get?_push_of_some → Zzx, get?_push_size → Zze, lt_size → Zzb, size_push → Zxp, SameBut → Zxl, get?_update_other → Zxi, get?_update_self → Zwz
open PySem.W renaming Frag → Zzw, mg_of → Zy5, nsIn → Zxw, mg_none_of → Zxv, kia_one → Zxb, fnOf → Zwl, keepIn → Zvv, codeIn → Zuv
open Or renaming inl → Zzu, inr → Zvu
open Nat renaming le_refl → Zzm, reduceAdd → Zyq, reduceSub → Zyp, sub_self → Zyo, lt_of_lt_of_le → Zyn, zero_add → Zyk, le_trans → Zyf, ne_of_lt → Zyb, lt_of_le_of_lt → Zya, zero_le → Zy0, ne_of_gt → Zxe, toDigits → Zwj, lt_irrefl → Zwf, lt_succ_of_lt → Zwd, toDigits_of_lt_base → Zw5, add_sub_cancel' → Zvn, le_of_eq → Zvj, le_add_right → Zva, lt_trans → Zv5, pow_le_pow_right → Zv4, min_self → Zv1
open Ne renaming symm → Zzi
open Bool renaming and_eq_true → Zza, false_ne_true → Zz9, true_and → Zyc, false_and → Zxz, false_eq_true → Zxx, and_true → Zxg, not_true → Zxf, not_false → Zxc, eq_false_iff → Zwt, and_eq_true_iff → Zwc, eq_iff_iff → Zvl, and_false → Zuu
open Option.some renaming inj → Zz3, injEq → Zyz
open List.cons renaming injEq → Zyu, inj → Zup
open PySem.F renaming plainAttrs_list → Zyl, slot_list_append → Zy2, type_list_append → Zy1, plainAttrs_str → Zx6, slot_str_join → Zwh, type_str_join → Zwg, slot_list_extend → Zw8, type_list_extend → Zw7, args_tuple_add_2 → Zvk, entry_tuple_add → Zvf, slot_tuple_add → Zvc
open PySem.Builtin.SmallTypes renaming nextOf → Zy8, ownedTupleIsFree → Zxu, ownedTupleHandOut → Zx1
open PySem.NameKind renaming free → Zy6, cell → Zvp
open Int renaming le_refl → Zy3, add_zero → Zxd, le_trans → Zx7, lt_of_le_of_lt → Zwx, mul_le_mul_of_nonneg_left → Zws, emod_lt_of_pos → Zvi, emod_nonneg → Zv2, mul_nonneg → Zus
open Array renaming getElem?_eq_getElem → Zxt, getD_eq_getD_getElem? → Zxs, length_toList → Zwr, getElem?_eq_none → Zwn, getElem?_toList → Zv8
open PyProof.Rows renaming callWith_type1 → Zxq
open Sum renaming inr → Zxk
open PySem renaming mem_of_lookup → Zx0
open PySem.Builtin.Str renaming strKind → Zwq
open PySem.Builtin.Builtins renaming bindParams → Zwk
open Sum.inr renaming inj → Zwb
open PySem.Builtin.List renaming listTooLong → Zw9
open Option renaming getD_some → Zvs, map_some → Zvm
open PySem.Around renaming under_plainId → Zvr
open PySem.StrLaws renaming glued_eq_join → Zv6
open PySem.Heap.SameBut renaming update → Zuy
open PySem.Calls renaming spliced_cons → Zur
set_option maxRecDepth 100000
set_option maxHeartbeats 4000000
set_option Elab.async false
set_option linter.all false
namespace L2
open PySem PySem.Spec PyProof.Rows
abbrev Key:=Sum Int Str
def Us:Key->Value->Bool
 |.inl k,v=>Value.isInt k v
 |.inr x,v=>Value.isStrOf x v
def keyH(w:World):Key->Int
 |.inl k=>hashInt k
 |.inr x=>hashStr w x
theorem Fg:∀{k:Key} {v:Value},Us k v=true->(∃i t,k=Sum.inl i/\v=Value.int i t)\/(∃x t,k=Zxk x/\v=Value.str x t)
 |.inl i,v,h=>by
  obtain⟨t,e⟩:=Value.isInt_shape (k:=i) (v:=v) h
  exact .inl ⟨i,t,rfl,e⟩
 |.inr x,v,h=>by
  obtain⟨t,e⟩:=Value.isStrOf_shape (x:=x) (v:=v) h
  exact .inr ⟨x,t,rfl,e⟩
theorem j4(i:Int)(t:Tok):Us (.inl i) (.int i t)=true:=by simp[Us,Value.isInt]
theorem j0(x:Str)(t:Tok):Us (.inr x) (.str x t)=true:=by simp[Us,Value.isStrOf]
theorem yo(a b:Int):decide ((Sum.inl a:Key)=Sum.inl b)=(a == b):=by
 by_cases e:a=b
 ·subst e;simp
 ·have h:¬ (Sum.inl a:Key)=Sum.inl b:=λq=>e (Sum.inl.inj q)
  rw[decide_eq_false h]
  exact(beq_eq_false_iff_ne.mpr e).symm
theorem yk(a b:Str):decide ((Zxk a:Key)=Zxk b)=decide (a=b):=by
 by_cases e:a=b
 ·subst e;simp
 ·have h:¬ (Zxk a:Key)=Zxk b:=λq=>e (Zwb q)
  rw[decide_eq_false h,decide_eq_false e]
theorem yn(a:Int)(b:Str):decide ((Sum.inl a:Key)=Zxk b)=false:=decide_eq_false (λq=>nomatch q)
theorem ym(a:Str)(b:Int):decide ((Zxk a:Key)=Sum.inl b)=false:=decide_eq_false (λq=>nomatch q)
def Dj(prog:Program)(w:World):PySem.KeyKind prog w Key where
 is:=Us
 hash:=keyH w
 inj:=λv a b ha hb=>by
  rcases Fg ha with ⟨i,t,rfl,rfl⟩ | ⟨x,t,rfl,rfl⟩
  ·rcases Fg hb with ⟨j,u,rfl,e⟩ | ⟨y,u,rfl,e⟩
   ·injection e with e1 _;rw[e1]
   ·exact nomatch e
  ·rcases Fg hb with ⟨j,u,rfl,e⟩ | ⟨y,u,rfl,e⟩
   ·exact nomatch e
   ·injection e with e1 _;rw[e1]
 byValue:=λk v h=>by
  rcases Fg h with ⟨i,t,rfl,rfl⟩ | ⟨x,t,rfl,rfl⟩<;>rfl
 pyHash:=λhv h=>by
  rcases Fg hv with ⟨i,t,rfl,rfl⟩ | ⟨x,t,rfl,rfl⟩
  ·exact wpAny_pyHash_int h
  ·exact wpAny_pyHash_str h
 eqBool:=λhu hv h=>by
  rcases Fg hu with ⟨i,t,rfl,rfl⟩ | ⟨x,t,rfl,rfl⟩
  ·rcases Fg hv with ⟨j,u,rfl,rfl⟩ | ⟨y,u,rfl,rfl⟩
   ·rw[yo] at h;exact wpAny_eqBool_int h
   ·rw[yn] at h;exact SeqAt.EqAt.int_str i t y u _ _ _ _ h
  ·rcases Fg hv with ⟨j,u,rfl,rfl⟩ | ⟨y,u,rfl,rfl⟩
   ·rw[ym] at h;exact SeqAt.EqAt.str_int x t j u _ _ _ _ h
   ·rw[yk] at h;exact wpAny_eqBool_str h
 «strs»:=λk x t v h=>by
  rcases Fg h with ⟨i,u,rfl,e⟩ | ⟨y,u,rfl,e⟩
  ·exact nomatch e
  ·injection e with e1 _
   subst e1
   cases v<;>rfl
theorem Yc(prog:Program)(w:World)(i:Int)(t:Tok):(Dj prog w).is (.inl i) (.int i t)=true:=j4 i t
theorem Lv(prog:Program)(w:World)(x:Str)(t:Tok):(Dj prog w).is (.inr x) (.str x t)=true:=j0 x t
inductive V where
 |non | bl (b:Bool) | int (i:Int) | str (x:Str) | byt (b:Array UInt8) | flt (b:UInt64) | ref (a:Addr) | ty (n:String)
 deriving DecidableEq
def RelV:V->Value->Prop
 |.non,u=>u=Value.none
 |.bl b,u=>u=Value.bool b
 |.int i,u=>∃t,u=Value.int i t
 |.str x,u=>∃t,u=Value.str x t
 |.byt b,u=>∃t,u=Value.bytes b t
 |.flt b,u=>∃t,u=Value.float b t
 |.ref a,u=>u=Value.ref a
 |.ty n,u=>u=Value.type n
abbrev Vals:List V->List Value->Prop:=Paired RelV
theorem Vals.length{xs:List V}{us:List Value}(r:Vals xs us):xs.length=us.length:=Paired.length r
theorem Vals.get:∀{xs:List V} {us:List Value} {i:Nat} {x:V},Vals xs us->xs[i]?=some x->∃u,us[i]?=some u/\RelV x u
 |_,_,_,_,.nil,e=>by simp at e
 |_,_,0,_,.cons r _,e=>by simp at e;subst e;exact⟨_,rfl,r⟩
 |_,_,i+1,x,.cons _ t,e=>by
  obtain⟨u,h1,h2⟩:=Vals.get (i:=i) (x:=x) t (by simpa using e)
  exact⟨u,by simpa using h1,h2⟩
theorem Vals.set{x:V}{u:Value}(r:RelV x u):∀{xs:List V} {us:List Value} (i:Nat),Vals xs us->Vals (xs.set i x) (us.set i u)
 |_,_,_,.nil=>.nil
 |_,_,0,.cons _ t=>.cons r t
 |_,_,i+1,.cons q t=>.cons q (Vals.set r i t)
theorem Vals.append:∀{xs ys:List V} {us ws:List Value},Vals xs us->Vals ys ws->Vals (xs++ys) (us++ws)
 |_,_,_,_,.nil,s=>s
 |_,_,_,_,.cons r t,s=>.cons r (Vals.append t s)
theorem Vals.take:∀{xs:List V} {us:List Value} (n:Nat),Vals xs us->Vals (xs.take n) (us.take n)
 |_,_,0,_=>.nil
 |_,_,_+1,.nil=>.nil
 |_,_,n+1,.cons r t=>.cons r (Vals.take n t)
theorem Vals.drop:∀{xs:List V} {us:List Value} (n:Nat),Vals xs us->Vals (xs.drop n) (us.drop n)
 |_,_,0,r=>r
 |_,_,_+1,.nil=>.nil
 |_,_,n+1,.cons _ t=>Vals.drop n t
def RelO:Option V->Option Value->Prop
 |some v,some u=>RelV v u
 |none,none=>True
 |_,_=>False
def KV{κ:Type}:List (κ×V)->List (κ×Value)->Prop:=Paired λ(p:κ×V) (q:κ×Value)=>p.1=q.1/\RelV p.2 q.2
def kV:Key->V
 |.inl i=>.int i
 |.inr x=>.str x
inductive HO where
 |lst (xs:List V)
 |tup (xs:List V)
 |dK (kvs:List (Key×V)) | dT (kvs:List (List Key×V))
 |set (S:Int->Bool) (n:Nat)
 |ins (C dx:Addr) (fs:List (Str×V))
 |own (x:Addr)
 |xd (fs:List (Str×V))
 |met (f x:Addr)
 |rng (lo hi:Int)
 |frz (o:Obj) (u:HO)
 |tbl (ps:Array Value)
 |ext (φ:Heap->Prop)
abbrev Hp:=Addr->Option HO
def upd(H:Hp)(a:Addr)(o:HO):Hp:=λb=>if b=a then some o else H b
theorem A0{H:Hp}{a:Addr}{o:HO}:upd H a o a=some o:=by unfold upd;rw[if_pos rfl]
theorem A7{H:Hp}{a b:Addr}{o:HO}(h:b≠a):upd H a o b=H b:=by unfold upd;rw[if_neg h]
theorem Uj{H:Hp}{a b:Addr}{o u:HO}(h:H a=some o)(h':H b=some u)(d:o≠u):a≠b:=by
 intro e;subst e;rw[h] at h';exact d (Zz3 h')
theorem A4{H:Hp}{a b:Addr}{o:HO}(h:H a=some o)(h':H b=none):a≠b:=by
 intro e;subst e;rw[h] at h';cases h'
section
variable (P:Program)(w:World)
def ObjOk(H:Hp)(h:Heap)(a:Addr):HO->Prop
 |.lst xs=>xs.length<=sizeLine/\∃(its:List Value) (n:Nat),Vals xs its/\h.get? a=some {cls:=.type "list",data:=.seq its.toArray n}
 |.tup xs=>xs.length<=sizeLine/\∃its:List Value,Vals xs its/\IsTup h a its.toArray
 |.dK kvs=>kvs.length<=sizeLine/\(a == sysModules)=false/\∃vs,KV kvs vs/\h.DictOf (Dj P w) a vs
 |.dT kvs=>kvs.length<=sizeLine/\(a == sysModules)=false/\∃xs:List (List Key×Addr×Value),
   Paired (λ(p:List Key×V) (q:List Key×Addr×Value)=>p.1=q.1/\H q.2.1=some (.tup (p.1.map kV))/\RelV p.2 q.2.2) kvs xs /\
   ∃o es ep,h.get? a=some o/\o.ExactDict/\o.data=.dict es ep/\es.toList=xs.map (entryOfKey (tupleKind (Dj P w)))/\(xs.map (·.1)).Nodup
 |.set S n=>h.SetOf (intKind P w) a S n
 |.ins C dx fs=>H dx=some (.own a)/\fs.length<=1000/\dx≠a/\h.get? a=some (PySem.W.instObj C dx) /\
   ∃mA,h.Ns1 dx mA/\(∀f,RelO (fs.lookup f) (mA f))/\PySem.Within mA (fs.map (·.1))
 |.own _=>∃o,h.get? a=some o
 |.xd fs=>∃mA,h.Ns1 a mA/\∀f,RelO (fs.lookup f) (mA f)
 |.rng lo hi=>∃t u v,h.get? a=some {cls:=.type "range",data:=.fields #[.int lo t,.int hi u,.int 1 v]}
 |.frz o u=>h.get? a=some o/\ObjOk H h a u
 |.tbl ps=>h.get? a=some {cls:=.none,data:=.fields ps}
 |.met f x=>h.get? a=some (PySem.W.methodObj (.ref f) (.ref x))
 |.ext φ=>φ h/\(∃o,h.get? a=some o)/\∀h1 h2:Heap,φ h1->(∀o,h1.get? a=some o->h2.get? a=some o)->φ h2
def HOk(H:Hp)(h:Heap):Prop:=∀a o,H a=some o->ObjOk P w H h a o
end
section
variable {P:Program}{w:World}{H H':Hp}{h h':Heap}{a:Addr}{o:HO}
theorem ObjOk.lt(x:ObjOk P w H h a o):a<h.objs.size:=by
 cases o with
 |lst xs=>obtain⟨_,_,_,_,e⟩:=x;exact Zzb e
 |tup xs=>obtain⟨_,_,_,p⟩:=x;exact p.lt
 |dK kvs=>obtain⟨_,_,_,_,o,_,_,e,_⟩:=x;exact Zzb e
 |dT kvs=>obtain⟨_,_,_,_,o,_,_,e,_⟩:=x;exact Zzb e
 |set S n=>obtain⟨o,_,_,_,e,_⟩:=x;exact Zzb e
 |ins C dx fs=>obtain⟨_,_,_,e,_⟩:=x;exact Zzb e
 |own y=>obtain⟨_,e⟩:=x;exact Zzb e
 |xd fs=>obtain⟨_,⟨_,_,_,e,_⟩,_⟩:=x;exact Zzb e
 |rng lo hi=>obtain⟨_,_,_,e⟩:=x;exact Zzb e
 |frz ob u=>obtain⟨e,_⟩:=x;exact Zzb e
 |tbl ps=>exact Zzb (show h.get? a=some _ from x)
 |met f y=>exact Zzb (show h.get? a=some _ from x)
 |ext φ=>obtain⟨_,⟨_,e⟩,_⟩:=x;exact Zzb e
theorem Paired.mapP{α β:Type}{F G:α->β->Prop}:∀{l₁:List α} {l₂:List β},Paired F l₁ l₂->(∀a b,F a b->G a b)->Paired G l₁ l₂
 |_,_,.nil,_=>.nil
 |_,_,.cons r t,f=>.cons (f _ _ r) (Paired.mapP t f)
theorem ObjOk.stay(x:ObjOk P w H h a o)(k:∀b u,(b=a\/H b=some (.own a))->h.get? b=some u->h'.get? b=some u)
  (ho:∀b,H b=some (.own a)->H' b=some (.own a)) (ht:∀b xs,H b=some (.tup xs)->H' b=some (.tup xs)):ObjOk P w H' h' a o:=by
 induction o with
 |lst xs=>obtain⟨z,its,n,r,e⟩:=x;exact⟨z,its,n,r,k _ _ (.inl rfl) e⟩
 |tup xs=>obtain⟨z,its,r,ob,e,c⟩:=x;exact⟨z,its,r,ob,k _ _ (.inl rfl) e,c⟩
 |dK kvs=>obtain⟨z,y,vs,r,ob,es,ep,e,c⟩:=x;exact⟨z,y,vs,r,ob,es,ep,k _ _ (.inl rfl) e,c⟩
 |dT kvs =>
  obtain⟨z,y,xs,r,ob,es,ep,e,c⟩:=x
  exact⟨z,y,xs,Paired.mapP r λp q z=>⟨z.1,ht _ _ z.2.1,z.2.2⟩,ob,es,ep,k _ _ (.inl rfl) e,c⟩
 |set S n=>obtain⟨ob,es,ep,t,e,c⟩:=x;exact⟨ob,es,ep,t,k _ _ (.inl rfl) e,c⟩
 |ins C dx fs =>
  obtain⟨d,z,ne,e,mA,⟨od,es,ep,e2,c⟩,r⟩:=x
  exact⟨ho _ d,z,ne,k _ _ (.inl rfl) e,mA,⟨od,es,ep,k _ _ (.inr d) e2,c⟩,r⟩
 |own y=>obtain⟨ob,e⟩:=x;exact⟨ob,k _ _ (.inl rfl) e⟩
 |xd fs=>obtain⟨mA,⟨od,es,ep,e,c⟩,r⟩:=x;exact⟨mA,⟨od,es,ep,k _ _ (.inl rfl) e,c⟩,r⟩
 |rng lo hi=>obtain⟨t,u,v,e⟩:=x;exact⟨t,u,v,k _ _ (.inl rfl) e⟩
 |frz ob u ih=>obtain⟨e,q⟩:=x;exact⟨k _ _ (.inl rfl) e,ih q⟩
 |tbl ps =>
  have e:h.get? a=some {cls:=.none,data:=.fields ps}:=x
  show h'.get? a=some {cls:=.none,data:=.fields ps}
  exact k a _ (.inl rfl) e
 |met f y =>
  have e:h.get? a=some (PySem.W.methodObj (.ref f) (.ref y)):=x
  show h'.get? a=some (PySem.W.methodObj (.ref f) (.ref y))
  exact k a _ (.inl rfl) e
 |ext φ=>obtain⟨p,⟨o,e⟩,st⟩:=x;exact⟨st _ _ p λo q=>k _ _ (.inl rfl) q,⟨o,k _ _ (.inl rfl) e⟩,st⟩
theorem HOk.lt(x:HOk P w H h)(e:H a=some o):a<h.objs.size:=(x a o e).lt
theorem HOk.fresh(x:HOk P w H h)(e:h.objs.size<=a):H a=none:=by
 cases q:H a with
 |none=>rfl
 |some u=>exact absurd (Zyn (x.lt q) e) (Zwf _)
theorem HOk.kept(x:HOk P w H h)(k:∀b u,h.get? b=some u->h'.get? b=some u):HOk P w H h':=λa o e =>
 (x a o e).stay (λb u _ q=>k b u q) (λ_ q=>q) λ_ _ q=>q
theorem HOk.laid(x:HOk P w H h)(k:∀b u,h.get? b=some u->h'.get? b=some u)(hp:h.objs.size<=a)(new:ObjOk P w (upd H a o) h' a o):HOk P w (upd H a o) h':=λb u e=>by
 have hn:=x.fresh hp
 by_cases hb:b=a
 ·subst hb;rw[A0] at e;cases e;exact new
 ·rw[A7 hb] at e
  exact(x b u e).stay (λc v _ q=>k c v q) (λc q=>by rw[A7 (A4 q hn)];exact q) λc xs q=>by rw[A7 (A4 q hn)];exact q
end
def Rd(H:Hp)(a:Addr)(u:HO):Prop:=H a=some u\/∃o,H a=some (.frz o u)
theorem Rd.ok{P:Program}{w:World}{H:Hp}{h:Heap}{a:Addr}{u:HO}(r:Rd H a u)(x:HOk P w H h):ObjOk P w H h a u:=by
 rcases r with r | ⟨o,r⟩
 ·exact x a u r
 ·obtain⟨_,q⟩:=x a _ r
  exact q
def Mut:Option HO->Prop
 |some (.lst _)=>True
 |some (.dK _)=>True
 |some (.dT _)=>True
 |some (.set _ _)=>True
 |some (.ins _ _ _)=>True
 |some (.ext _)=>True
 |_=>False
section
variable {P:Program}{w:World}{H:Hp}{h h':Heap}{x e:Addr}{o':HO}
theorem HOk.write(ok:HOk P w H h)(mu:Mut (H x))(he:e=x\/H e=some (.own x))(k:∀b u,b≠e->h.get? b=some u->h'.get? b=some u)(heo:∃u,h'.get? e=some u)
  (new:ObjOk P w (upd H x o') h' x o'):HOk P w (upd H x o') h':=λb u q=>by
 have nown:∀c y,H c=some (.own y)->c≠x:=λc y r z=>by subst z;rw[r] at mu;exact mu
 have ntup:∀c xs,H c=some (.tup xs)->c≠x:=λc xs r z=>by subst z;rw[r] at mu;exact mu
 by_cases hb:b=x
 ·subst hb;rw[A0] at q;cases q;exact new
 ·rw[A7 hb] at q
  by_cases hbe:b=e
  ·have q':H b=some (.own x):=by
    rcases he with z | z
    ·exact absurd (hbe.trans z) hb
    ·rw[hbe];exact z
   rw[q] at q';cases q'
   obtain⟨v,hv⟩:=heo
   exact⟨v,by rw[hbe];exact hv⟩
  ·refine(ok b u q).stay (λc v hc r=>k c v ?_ r) (λc r=>by rw[A7 (nown c b r)];exact r) λc xs r=>by rw[A7 (ntup c xs r)];exact r
   rcases hc with rfl | hc
   ·exact hbe
   ·rintro rfl
    rcases he with z | z
    ·exact nown c b hc z
    ·rw[hc] at z;cases z;exact hb rfl
end
structure Un(fs ex:List Addr)(H H':Hp)(h h':Heap):Prop where
 keep:∀b o,h.get? b=some o->H b=none->b∉fs->b∉ex->h'.get? b=some o
 slot:∀b o,h.get? b=some o->H b=none->b∈fs->b∉ex->∃sl,h'.get? b=some {o with slots:=sl}
 free:∀b o,h.get? b=some o->H b=none->b∉ex->H' b=none
 there:∀b o,h.get? b=some o->b∉ex->∃o',h'.get? b=some o'
 tups:∀b xs,H b=some (.tup xs)->H' b=some (.tup xs)
 frzs:∀b o u,H b=some (.frz o u)->H' b=some (.frz o u)
 tbls:∀b ps,H b=some (.tbl ps)->∃more,H' b=some (.tbl (ps++more))
section
variable {fs fs' ex ex':List Addr}{H H1 H2:Hp}{h h1 h2 h':Heap}{a x e:Addr}{o:HO}
theorem Un.any(u:Un fs ex H H1 h h1){b:Addr}{ob:Obj}(q:h.get? b=some ob)(n:H b=none)(hx:b∉ex):∃sl,h1.get? b=some {ob with slots:=sl}:=by
 by_cases hb:b∈fs
 ·exact u.slot b ob q n hb hx
 ·exact⟨ob.slots,u.keep b ob q n hb hx⟩
theorem Un.kept(k:∀b u,h.get? b=some u->h'.get? b=some u):Un fs ex H H h h' :=
 ⟨λb ob q _ _ _=>k b ob q,λb ob q _ _ _=>⟨ob.slots,k b ob q⟩,λ_ _ _ n _=>n,λb ob q _=>⟨ob,k b ob q⟩,λ_ _ q=>q,λ_ _ _ q=>q,λ_ ps q=>⟨#[],by rw[q];simp⟩⟩
theorem Un.refl:Un fs ex H H h h:=Un.kept λ_ _ q=>q
theorem Un.laid(k:∀b u,h.get? b=some u->h'.get? b=some u)(hp:h.objs.size<=a)(hn:H a=none):Un fs ex H (upd H a o) h h' where
 keep:=λb u q _ _ _=>k b u q
 slot:=λb u q _ _ _=>⟨u.slots,k b u q⟩
 free:=λb u q n _=>by rw[A7 (Zyb (Zyn (Zzb q) hp))];exact n
 there:=λb u q _=>⟨u,k b u q⟩
 tups:=λb xs q=>by rw[A7 (A4 q hn)];exact q
 frzs:=λb u xs q=>by rw[A7 (A4 q hn)];exact q
 tbls:=λb ps q=>⟨#[],by rw[A7 (A4 q hn),q];simp⟩
theorem Un.write(mu:Mut (H x))(he:e=x\/H e=some (.own x))(k:∀b u,b≠e->h.get? b=some u->h'.get? b=some u)(heo:∃u,h'.get? e=some u):Un fs ex H (upd H x o) h h':=by
 have hx:∀b,H b=none->b≠x:=λb n z=>by subst z;rw[n] at mu;exact mu
 have hb:∀b,H b=none->b≠e:=λb n z=>by
  subst z
  rcases he with r | r
  ·exact hx b n r
  ·rw[n] at r;cases r
 have hm:∀b u,H b=some u->¬ Mut (some u)->b≠x:=λb u q nm z=>by subst z;rw[q] at mu;exact nm mu
 refine⟨λb u q n _ _=>k b u (hb b n) q,λb u q n _ _=>⟨u.slots,k b u (hb b n) q⟩,λb u q n _=>by rw[A7 (hx b n)];exact n,λb u q _=>?_,
  λb xs q=>by rw[A7 (hm b _ q λz=>z)];exact q,λb u xs q=>by rw[A7 (hm b _ q λz=>z)];exact q,λb ps q=>⟨#[],by rw[A7 (hm b _ q λz=>z),q];simp⟩⟩
 by_cases hbe:b=e
 ·subst hbe;exact heo
 ·exact⟨u,k b u hbe q⟩
end
def trk(h:Heap)(H:Hp):List Addr:=(Zxy h.objs.size).filter λa=>(H a).isSome
def Tx(h:Heap)(H:Hp):Heap:=PySem.W.hideAll h (trk h H)
theorem je(h:Heap)(H:Hp):(Tx h H).objs.size=h.objs.size:=PySem.W.hideAll_size _ _
theorem on{h:Heap}{H:Hp}{b:Addr}{o:Obj}(e:h.get? b=some o)(n:H b=none):(Tx h H).get? b=some o :=
 PySem.W.hideAll_get _ e λhm=>by
  have q:(H b).isSome=true:=(Zwi.mp hm).2
  rw[n] at q;simp at q
theorem va{h:Heap}{H:Hp}{b:Addr}{o:Obj}(e:(Tx h H).get? b=some o):h.get? b=some o/\H b=none:=by
 have e':h.get? b=some o:=PySem.W.of_hideAll (trk h H) e
 refine⟨e',?_⟩
 cases q:H b with
 |none=>rfl
 |some x =>
  have hm:b∈trk h H:=Zwi.mpr ⟨Zwp.mpr (Zzb e'),by simp[q]⟩
  have z:(Tx h H).get? b=none:=PySem.W.hideAll_none (trk h H) hm
  rw[z] at e;cases e
def Ij(g h:Heap)(L:Addr):List (Addr×Obj):=(Zxy h.objs.size).filterMap λa=>if a=L\/(g.get? a).isSome=true then none else (h.get? a).map λo=>(a,o)
theorem Jv{g h:Heap}{L a:Addr}{o:Obj}(h1:a≠L)(h2:g.get? a=none)(h3:h.get? a=some o):(a,o)∈Ij g h L :=
 Zw3.mpr ⟨a,Zwp.mpr (Zzb h3),by simp[h1,h2,h3]⟩
theorem Se{g h:Heap}{L:Addr}{p:Addr×Obj}(hp:p∈Ij g h L):p.1≠L/\g.get? p.1=none/\h.get? p.1=some p.2:=by
 obtain⟨b,_,e⟩:=Zw3.mp hp
 split at e
 ·cases e
 ·rename_i hn
  cases q:h.get? b with
  |none=>rw[q] at e;simp at e
  |some u =>
   rw[q] at e
   simp only[Zvm,Zyz] at e
   subst e
   refine⟨λz=>hn (.inl z),?_,q⟩
   show g.get? b=none
   cases r:g.get? b with
   |none=>rfl
   |some v=>exact(hn (.inr (by simp[r]))).elim
def rest(g h:Heap)(L d:Addr):List (Addr×Obj):=(Ij g h L).filter λp=>decide (p.1≠d)
theorem Sj{g h:Heap}{L:Addr}:News g L h (Ij g h L):=λp hp=>by obtain⟨a,b,c⟩:=Se hp;exact⟨c,a,b⟩
structure Mod(K:Zzw)(mg:Str->Option Value)(base:Heap):Prop where
 kin:K.In base
 glob:base.Ns mainGlobals mg
 blt:∃mb,base.Ns builtinsNs mb/\∀x:Str,x ≠ "__name__" -> mb x=bootBuiltins x
 nolimit:base.NoLimit
structure Cx where
 prog:Program
 w:World
 K:Zzw
 mg:Str->Option Value
 base:Heap
 A:Around
 N:List Str
 s₀:Shared
 H₀:Hp
 env:Env
 outer:List Env
 stack:List Env
 ex:List Addr
 fn:Str->Bool
 calm:Bool
 pn:List (Addr×Obj)
 xe:Value->Shared->Prop
def frs(l:List Env):List Addr:=l.filterMap (·.frame)
abbrev Cx.fs(X:Cx):List Addr:=frs X.outer
def Vis(sc:Scope)(x:Str):Prop:=sc.names.lookup x=some .local\/sc.names.lookup x=some .cell\/sc.names.lookup x=some .free
def Loc(sc:Scope)(x:Str):Prop:=sc.names.lookup x=some .local\/sc.names.lookup x=some .cell
def Look(env:Env)(h:Heap)(m:Str->Option Value)(x:Str)(u:Value):Prop :=
 (env.kindOf x=some .local/\m x=some u)\/((env.kindOf x=some .cell\/env.kindOf x=some .free)/\∃c,env.cells.lookup x=some c/\h.IsCell c (some u))
structure Cx.Ok(X:Cx):Prop where
 mod:Mod X.K X.mg X.base
 kind:X.env.scope.kind=.function
 glob:X.env.globals=mainGlobals
 blt:X.env.builtins=builtinsNs
 above:X.s₀.heap.objs.size<=X.env.locals
 inj:∀x y c,X.env.cells.lookup x=some c->X.env.cells.lookup y=some c->x=y
 has:∀x,(X.env.kindOf x=some .cell\/X.env.kindOf x=some .free)->∃c,X.env.cells.lookup x=some c
 cab:∀x c,X.fn x=true->X.env.cells.lookup x=some c->X.s₀.heap.objs.size<=c
 hd:X.calm=true->X.A.handled=none
 frames:X.A.frames=some X.stack
 stk:X.stack=X.outer\/(X.stack=X.env::X.outer/\X.env.frame=some X.env.locals)
 exf:∀b∈X.ex,b≠X.env.locals/\∀x c,X.env.cells.lookup x=some c->c≠b
 bs:∀b o,X.base.get? b=some o->X.s₀.heap.get? b=some o/\X.H₀ b=none
 bsz:X.base.objs.size<=X.s₀.heap.objs.size
 noex:∀b o,X.base.get? b=some o->b∉X.ex
 exfs:∀b∈X.ex,b∉X.fs
 funs:X.s₀.heap.FunFrames X.base X.outer
 frf:∀b∈X.fs,X.H₀ b=none
structure Inv(X:Cx)(pins:List (Addr×Obj))(Z:List (Option V))(H:Hp)(s:Shared):Prop where
 ok:X.Ok
 os:s.os=X.s₀.os
 bare:AllBare s.gens
 base:Un X.fs X.ex X.H₀ H X.s₀.heap s.heap
 loc:∃m,s.heap.Ns X.env.locals m/\∀(i:Nat) (x:Str) (v:V),X.N[i]?=some x->Z[i]?=some (some v)->Vis X.env.scope x->∃u,RelV v u/\Look X.env s.heap m x u
 cell:∀x c,X.env.cells.lookup x=some c->∃v,s.heap.IsCell c v
 free:H X.env.locals=none
 freeC:∀x c,X.env.cells.lookup x=some c->H c=none
 pin:∀p∈X.pn++pins,s.heap.get? p.1=some p.2/\H p.1=none/\p.1≠X.env.locals/\p.1∉X.fs/\∀v,p.2.data≠.cell v
 hok:HOk X.prog X.w H s.heap
 len:Z.length=X.N.length
section
variable {X:Cx}{pins:List (Addr×Obj)}{Z:List (Option V)}{H H':Hp}{s:Shared}{h':Heap}
theorem Cx.Ok.nofr(ok:X.Ok){b:Addr}{o:Obj}(e:X.base.get? b=some o):b∉X.fs:=λhb=>by
 have:=(ok.funs.mem hb).1
 rw[e] at this;cases this
theorem Inv.bs(I:Inv X pins Z H s):∀b o,X.base.get? b=some o->s.heap.get? b=some o/\H b=none:=λb o e =>
 ⟨I.base.keep b o (I.ok.bs b o e).1 (I.ok.bs b o e).2 (I.ok.nofr e) (I.ok.noex b o e),I.base.free b o (I.ok.bs b o e).1 (I.ok.bs b o e).2 (I.ok.noex b o e)⟩
theorem Inv.bk(I:Inv X pins Z H s):∀b o,X.base.get? b=some o->s.heap.get? b=some o:=λb o e=>(I.bs b o e).1
theorem Inv.mod(I:Inv X pins Z H s):Mod X.K X.mg X.base:=I.ok.mod
theorem Inv.kIn(I:Inv X pins Z H s):X.K.In s.heap:=I.ok.mod.kin.keeps I.bk
theorem Inv.fr(I:Inv X pins Z H s):∃m,Fr X.base X.env.locals s.heap m :=
 let ⟨m,hn,_⟩:=I.loc
 ⟨m,hn,I.bk,Zyf I.ok.bsz I.ok.above⟩
theorem Inv.lt(I:Inv X pins Z H s):X.env.locals<s.heap.objs.size:=by obtain⟨_,hn,_⟩:=I.loc;exact hn.lt
theorem Inv.sz(I:Inv X pins Z H s):X.s₀.heap.objs.size<=s.heap.objs.size:=Zyf I.ok.above (Nat.le_of_lt I.lt)
theorem Inv.nofs(I:Inv X pins Z H s){a:Addr}(h:s.heap.objs.size<=a):a∉X.fs:=λhb=>by
 obtain⟨_,o,ho,_⟩:=I.ok.funs.mem hb
 exact absurd (Zyn (Zzb ho) (Zyf I.sz h)) (Zwf _)
theorem Inv.cne(I:Inv X pins Z H s):∀x c,X.env.cells.lookup x=some c->c≠X.env.locals:=λx c e z=>by
 obtain⟨v,o,ho,hd⟩:=I.cell x c e
 obtain⟨m,⟨o',es,ep,ho',hd',_⟩,_⟩:=I.loc
 rw[z,ho'] at ho;cases ho;rw[hd'] at hd;cases hd
theorem Inv.funs(I:Inv X pins Z H s):s.heap.FunFrames X.base X.outer:=by
 have all:∀(l:List Env),(∀b∈frs l,b∈X.fs)->X.s₀.heap.FunFrames X.base l->s.heap.FunFrames X.base l:=by
  intro l
  induction l with
  |nil=>intro _ _;trivial
  |cons env r ih =>
   intro hs hl
   obtain⟨hk,⟨L,o,hf,hn,ho,hd⟩,hr⟩:=hl
   have hL:L∈X.fs:=hs L (by unfold frs;rw[Zvo,hf];exact Zzf)
   obtain⟨sl,e⟩:=I.base.slot L o ho (I.ok.frf L hL) hL λz=>I.ok.exfs L z hL
   exact⟨hk,⟨L,_,hf,hn,e,hd⟩,ih (λb hb=>hs b (by unfold frs;rw[Zvo,hf];exact Zzd _ hb)) hr⟩
 exact all X.outer (λ_ hb=>hb) I.ok.funs
theorem Inv.stack(I:Inv X pins Z H s):s.heap.FunFrames X.base X.stack:=by
 rcases I.ok.stk with e | ⟨e,hf⟩
 ·rw[e];exact I.funs
 ·rw[e]
  obtain⟨m,hn,_⟩:=I.loc
  refine .cons (by rw[I.ok.kind];decide) hf hn ?_ I.funs
  exact Heap.get?_none_of_le (Zyf I.ok.bsz I.ok.above)
theorem Inv.stkSub(I:Inv X pins Z H s):∀b∈frs X.stack,b∈X.env.locals::X.fs:=λb hb=>by
 rcases I.ok.stk with e | ⟨e,hf⟩
 ·rw[e] at hb;exact Zzd _ hb
 ·rw[e] at hb
  unfold frs at hb
  rw[Zvo,hf] at hb
  exact hb
theorem Inv.stkFree(I:Inv X pins Z H s):∀b∈frs X.stack,H b=none:=λb hb=>by
 rcases Zzt.mp (I.stkSub b hb) with e | hb
 ·rw[e];exact I.free
 ·obtain⟨_,o,ho,_⟩:=I.ok.funs.mem hb
  exact I.base.free b o ho (I.ok.frf b hb) λz=>I.ok.exfs b z hb
theorem Inv.step{g':Array GenState}{t':Nat}{d':Drawn}{ch:List Addr}(I:Inv X pins Z H s)
  (hch:∀b∈ch,(b∈X.ex\/X.s₀.heap.objs.size<=b)/\b≠X.env.locals/\(∀x c,X.env.cells.lookup x=some c->c≠b)/\∀p∈X.pn++pins,p.1≠b)
  (keep:∀b o,b≠X.env.locals->b∉X.fs->b∉ch->s.heap.get? b=some o->H b=none->h'.get? b=some o)
  (slot:∀b o,b≠X.env.locals->b∈X.fs->b∉ch->s.heap.get? b=some o->H b=none->∃sl,h'.get? b=some {o with slots:=sl}) (free:∀b o,b∉ch->s.heap.get? b=some o->H b=none->H' b=none)
  (there:∀b o,b∉ch->s.heap.get? b=some o->∃o',h'.get? b=some o')
  (tups:∀b xs,H b=some (.tup xs)->H' b=some (.tup xs)) (frzs:∀b o u,H b=some (.frz o u)->H' b=some (.frz o u)) (tbls:∀b ps,H b=some (.tbl ps)->∃more,H' b=some (.tbl (ps++more)))
  (ns:∀m,s.heap.Ns X.env.locals m->h'.Ns X.env.locals m) (hok:HOk X.prog X.w H' h') (hg:AllBare g') :
  Inv X pins Z H' {s with heap:=h',gens:=g',drawn:=d',toks:=t'}:=by
 have neL:∀b o,X.s₀.heap.get? b=some o->b≠X.env.locals:=λb o e=>Zyb (Zyn (Zzb e) I.ok.above)
 have neC:∀b o,X.s₀.heap.get? b=some o->b∉X.ex->b∉ch:=λb o e hx hb=>by
  rcases(hch b hb).1 with z | z
  ·exact hx z
  ·exact absurd (Zyn (Zzb e) z) (Zwf _)
 have cellK:∀x c,X.env.cells.lookup x=some c->∀v,s.heap.IsCell c v->h'.IsCell c v:=λx c e v z0=>by
  obtain⟨o,ho,hd⟩:=z0
  have nch:c∉ch:=λz=>(hch c z).2.2.1 x c e rfl
  by_cases hc:c∈X.fs
  ·obtain⟨sl,q⟩:=slot c o (I.cne x c e) hc nch ho (I.freeC x c e)
   exact⟨_,q,hd⟩
  ·exact⟨o,keep c o (I.cne x c e) hc nch ho (I.freeC x c e),hd⟩
 refine⟨I.ok,I.os,hg,⟨λb o e n hb hx=>?_,λb o e n hb hx=>?_,λb o e n hx=>?_,λb o e hx=>?_,λb xs e=>tups b xs (I.base.tups b xs e),λb o xs e=>frzs b o xs (I.base.frzs b o xs e),λb ps e=>?_⟩,?_,λx c e=>?_,?_,λx c e=>?_,λp hp=>?_,hok,I.len⟩
 ·exact keep b o (neL b o e) hb (neC b o e hx) (I.base.keep b o e n hb hx) (I.base.free b o e n hx)
 ·obtain⟨sl,e1⟩:=I.base.slot b o e n hb hx
  obtain⟨sl',e2⟩:=slot b _ (neL b o e) hb (neC b o e hx) e1 (I.base.free b o e n hx)
  exact⟨sl',e2⟩
 ·obtain⟨o',e1⟩:=I.base.there b o e hx
  exact free b o' (neC b o e hx) e1 (I.base.free b o e n hx)
 ·obtain⟨o',e1⟩:=I.base.there b o e hx
  exact there b o' (neC b o e hx) e1
 ·obtain⟨m1,e1⟩:=I.base.tbls b ps e
  obtain⟨m2,e2⟩:=tbls b _ e1
  exact⟨m1++m2,by rw[e2,Array.append_assoc]⟩
 ·obtain⟨m,hn,hl⟩:=I.loc
  refine⟨m,ns m hn,λi x v e1 e2 e3=>?_⟩
  obtain⟨u,r,l⟩:=hl i x v e1 e2 e3
  refine⟨u,r,?_⟩
  rcases l with l | ⟨k,c,e,z⟩
  ·exact .inl l
  ·exact .inr ⟨k,c,e,cellK x c e _ z⟩
 ·obtain⟨v,z⟩:=I.cell x c e
  exact⟨v,cellK x c e v z⟩
 ·obtain⟨m,⟨o,_,_,ho,_⟩,_⟩:=I.loc
  exact free _ o (λz=>(hch _ z).2.1 rfl) ho I.free
 ·obtain⟨v,o,ho,hd⟩:=I.cell x c e
  exact free c o (λz=>(hch c z).2.2.1 x c e rfl) ho (I.freeC x c e)
 ·obtain⟨e,n,ne,nf,d⟩:=I.pin p hp
  have nch:p.1∉ch:=λz=>(hch p.1 z).2.2.2 p hp rfl
  exact⟨keep p.1 p.2 ne nf nch e n,free p.1 p.2 nch e n,ne,nf,d⟩
theorem Inv.un{t':Nat}(I:Inv X pins Z H s)(u:Un X.fs [] H H' s.heap h')(hok:HOk X.prog X.w H' h'):Inv X pins Z H' {s with heap:=h',toks:=t'}:=by
 obtain⟨m,⟨o,es,ep,ho,r⟩,_⟩:=id I.loc
 obtain⟨sl,hL⟩:=u.any ho I.free (by simp)
 exact I.step (g':=s.gens) (d':=s.drawn) (ch:=[]) (λ_ z=>nomatch z) (λb o _ hb _ e n=>u.keep b o e n hb (by simp)) (λb o _ hb _ e n=>u.slot b o e n hb (by simp)) (λb o _ e n=>u.free b o e n (by simp)) (λb o _ e=>u.there b o e (by simp)) u.tups u.frzs u.tbls (λm' hm=>by
  obtain⟨o',es',ep',ho',r'⟩:=hm
  rw[ho] at ho';cases ho'
  exact⟨_,es',ep',hL,r'⟩) hok I.bare
theorem Inv.call{g':Array GenState}{t':Nat}{d':Drawn}{ch:List Addr}(I:Inv X pins Z H s)(u:Un (frs X.stack) ch H H' s.heap h')(hok:HOk X.prog X.w H' h')(hg:AllBare g')
  (hch:∀b∈ch,(b∈X.ex\/X.s₀.heap.objs.size<=b)/\b≠X.env.locals/\(∀x c,X.env.cells.lookup x=some c->c≠b)/\∀p∈X.pn++pins,p.1≠b) :
  Inv X pins Z H' {s with heap:=h',gens:=g',drawn:=d',toks:=t'}:=by
 obtain⟨m,⟨o,es,ep,ho,r⟩,_⟩:=id I.loc
 obtain⟨sl,hL⟩:=u.any ho I.free λz=>(hch _ z).2.1 rfl
 exact I.step (ch:=ch) hch (λb o hL hb hc e n=>u.keep b o e n (λz=>(Zzt.mp (I.stkSub b z)).elim hL hb) hc) (λb o _ _ hc e n=>u.any e n hc) (λb o hc e n=>u.free b o e n hc) (λb o hc e=>u.there b o e hc) u.tups u.frzs u.tbls (λm' hm=>by
  obtain⟨o',es',ep',ho',r'⟩:=hm
  rw[ho] at ho';cases ho'
  exact⟨_,es',ep',hL,r'⟩) hok hg
theorem Inv.turned{t':Nat}{it:Addr}(I:Inv X pins Z H s)(k:∀b o,b≠it->s.heap.get? b=some o->h'.get? b=some o)(hn:H it=none)(hL:it≠X.env.locals)
  (h1:it∈X.ex\/X.s₀.heap.objs.size<=it) (h2:∀x c,X.env.cells.lookup x=some c->c≠it) (h3:∀p∈X.pn++pins,p.1≠it):Inv X pins Z H {s with heap:=h',toks:=t'}:=by
 have nit:∀b u,H b=some u->b≠it:=λb u e z=>by rw[z,hn] at e;cases e
 refine I.step (g':=s.gens) (d':=s.drawn) (ch:=[it]) (λb hb=>?_) (λb o _ _ hc e _=>k b o (λz=>hc (by simp[z])) e) (λb o _ _ hc e _=>⟨o.slots,k b o (λz=>hc (by simp[z])) e⟩) (λ_ _ _ _ n=>n)
  (λb o hc e=>⟨o,k b o (λz=>hc (by simp[z])) e⟩) (λ_ _ e=>e) (λ_ _ _ e=>e) (λb ps e=>⟨#[],by rw[e];simp⟩) (λm hm=>?_) (λb u e=>?_) I.bare
 ·have e:b=it:=by simpa using hb
  subst e
  exact⟨h1,hL,h2,h3⟩
 ·obtain⟨o,es,ep,ho,r⟩:=hm
  exact⟨o,es,ep,k _ o (Zzi hL) ho,r⟩
 ·refine(I.hok b u e).stay (λc v hc q=>k c v ?_ q) (λ_ q=>q) λ_ _ q=>q
  rcases hc with z | z
  ·rw[z];exact nit b u e
  ·exact nit c _ z
theorem Inv.tok(I:Inv X pins Z H s)(t:Nat):Inv X pins Z H {s with toks:=t}:=I.un (h':=s.heap) (t':=t) Un.refl I.hok
theorem Inv.kept{t':Nat}(I:Inv X pins Z H s)(k:∀b u,s.heap.get? b=some u->h'.get? b=some u):Inv X pins Z H {s with heap:=h',toks:=t'}:=I.un (Un.kept k) (I.hok.kept k)
theorem Inv.laid{a:Addr}{o:HO}{t':Nat}(I:Inv X pins Z H s)(k:∀b u,s.heap.get? b=some u->h'.get? b=some u)(hp:s.heap.objs.size<=a)(new:ObjOk X.prog X.w (upd H a o) h' a o) :
  Inv X pins Z (upd H a o) {s with heap:=h',toks:=t'}:=I.un (Un.laid k hp (I.hok.fresh hp)) (I.hok.laid k hp new)
theorem Inv.write{x e:Addr}{o:HO}{t':Nat}(I:Inv X pins Z H s)(mu:Mut (H x))(he:e=x\/H e=some (.own x))(k:∀b u,b≠e->s.heap.get? b=some u->h'.get? b=some u)(heo:∃u,h'.get? e=some u)
  (new:ObjOk X.prog X.w (upd H x o) h' x o):Inv X pins Z (upd H x o) {s with heap:=h',toks:=t'}:=I.un (Un.write mu he k heo) (I.hok.write mu he k heo new)
theorem Inv.weak{Z':List (Option V)}(I:Inv X pins Z H s)(hl:Z'.length=Z.length)(w:∀(i:Nat) v,Z'[i]?=some (some v)->Z[i]?=some (some v)):Inv X pins Z' H s :=
 ⟨I.ok,I.os,I.bare,I.base,by obtain⟨m,hn,hl'⟩:=I.loc;exact⟨m,hn,λi x v e1 e2 e3=>hl' i x v e1 (w i v e2) e3⟩,I.cell,I.free,I.freeC,I.pin,I.hok,hl.trans I.len⟩
theorem Inv.pins_of{pins':List (Addr×Obj)}(I:Inv X pins Z H s)(h:∀p∈pins',s.heap.get? p.1=some p.2/\H p.1=none/\p.1≠X.env.locals/\p.1∉X.fs/\∀v,p.2.data≠.cell v):Inv X pins' Z H s :=
 ⟨I.ok,I.os,I.bare,I.base,I.loc,I.cell,I.free,I.freeC,λp hp=>(Zyj.mp hp).elim (λz=>I.pin p (Zxa _ z)) (h p),I.hok,I.len⟩
theorem Y9{N:List Str}(hN:N.Nodup){i j:Nat}{x:Str}(a:N[i]?=some x)(b:N[j]?=some x):i=j:=by
 obtain⟨h1,e1⟩:=Zz4.mp a
 obtain⟨h2,e2⟩:=Zz4.mp b
 exact(List.getElem_inj hN).mp (e1.trans e2.symm)
theorem Ua{M:Model}{A:Around}{E:Value->Shared->Prop}{i:Nat}{x:Str}{v:V}{u:Value}{Q:Unit->Shared->Prop}(I:Inv X pins Z H s)(hN:X.N.Nodup)(hi:X.N[i]?=some x)(hx:Loc X.env.scope x)(r:RelV v u)
  (h:∀s',Inv X pins (Z.set i (some v)) H s'->(∃a,Zxl a s.heap s'.heap/\(a=X.env.locals\/X.env.cells.lookup x=some a))->Q () s') (hf:X.fn x=true\/X.env.scope.names.lookup x=some .local:=by first | exact .inl rfl | exact .inr rfl | assumption):wpAny M A (storeName X.env x u) Q E s:=by
 obtain⟨m,hn,hl⟩:=id I.loc
 have hcls:(X.env.scope.kind == .class||(X.env.scope.kind == .module&&X.env.locals != X.env.globals))=false:=by rw[I.ok.kind];rfl
 have hiσ:i<Z.length:=by rw[I.len];exact(Zz4.mp hi).1
 have cne:=I.cne
 have tracked:∀{a:Addr} {h':Heap},(∃o,s.heap.get? a=some o/\H a=none)->Zxl a s.heap h'->HOk X.prog X.w H h':=λ{a h'} ha hs b ob e=>by
  obtain⟨_,_,hfree⟩:=ha
  refine(I.hok b ob e).stay (λc w' hc q=>(hs.2 c ?_).trans q) (λ_ q=>q) λ_ _ q=>q
  rintro rfl
  rcases hc with rfl | hc
  ·rw[hfree] at e;cases e
  ·rw[hfree] at hc;cases hc
 rcases hx with hk | hk
 ·refine wpAny_storeName_local hk hn (λh' hn' hs=>?_) hcls
  obtain⟨oL,_,_,hoL,_⟩:=id hn
  refine h _ ⟨I.ok,I.os,I.bare,⟨λb o e n hb hx=>?_,λb o e n hb hx=>?_,I.base.free,λb o e hx=>?_,I.base.tups,I.base.frzs,I.base.tbls⟩,⟨_,hn',λj y v' e1 e2 e3=>?_⟩,λy c e=>?_,I.free,I.freeC,λp hp=>?_,tracked ⟨oL,hoL,I.free⟩ hs,by simpa using I.len⟩ ⟨_,hs,.inl rfl⟩
  ·exact(hs.2 b (Zyb (Zyn (Zzb e) I.ok.above))).trans (I.base.keep b o e n hb hx)
  ·obtain⟨sl,e1⟩:=I.base.slot b o e n hb hx
   exact⟨sl,(hs.2 b (Zyb (Zyn (Zzb e) I.ok.above))).trans e1⟩
  ·obtain⟨o',e1⟩:=I.base.there b o e hx
   exact⟨o',(hs.2 b (Zyb (Zyn (Zzb e) I.ok.above))).trans e1⟩
  ·by_cases hj:j=i
   ·subst hj
    rw[hi] at e1;cases e1
    rw[Zvy hiσ] at e2
    cases e2
    exact⟨u,r,.inl ⟨hk,by simp⟩⟩
   ·rw[Zxj (Zzi hj)] at e2
    obtain⟨u',r',q⟩:=hl j y v' e1 e2 e3
    refine⟨u',r',?_⟩
    rcases q with ⟨k,e⟩ | ⟨k,c,e,z⟩
    ·refine .inl ⟨k,?_⟩
     have:y≠x:=λe=>hj (Y9 hN e1 (e▸hi))
     simp[this,e]
    ·exact .inr ⟨k,c,e,z.sameBut hs (cne y c e)⟩
  ·obtain⟨w',z⟩:=I.cell y c e
   exact⟨w',z.sameBut hs (cne y c e)⟩
  ·obtain⟨e,n,ne,nf,d⟩:=I.pin p hp
   exact⟨(hs.2 p.1 ne).trans e,n,ne,nf,d⟩
 ·have hfn:X.fn x=true:=by
   rcases hf with z | z
   ·exact z
   ·rw[z] at hk;cases hk
  obtain⟨c,hc⟩:=I.ok.has x (.inl hk)
  obtain⟨w',z⟩:=I.cell x c hc
  refine wpAny_storeName_cell I.ok.kind hk hc z (λh' hc' hs=>?_)
  obtain⟨oc,hoc,hocd⟩:=id z
  refine h {s with heap:=h'} ⟨I.ok,I.os,I.bare,⟨λb o e n hb hx=>?_,λb o e n hb hx=>?_,I.base.free,λb o e hx=>?_,I.base.tups,I.base.frzs,I.base.tbls⟩,⟨m,hn.sameBut hs (Zzi (cne x c hc)),λj y v' e1 e2 e3=>?_⟩,λy c' e=>?_,I.free,I.freeC,λp hp=>?_,tracked ⟨oc,hoc,I.freeC x c hc⟩ hs,by simpa using I.len⟩ ⟨c,hs,.inr hc⟩
  ·exact(hs.2 b (Zyb (Zyn (Zzb e) (I.ok.cab x c hfn hc)))).trans (I.base.keep b o e n hb hx)
  ·obtain⟨sl,e1⟩:=I.base.slot b o e n hb hx
   exact⟨sl,(hs.2 b (Zyb (Zyn (Zzb e) (I.ok.cab x c hfn hc)))).trans e1⟩
  ·obtain⟨o',e1⟩:=I.base.there b o e hx
   exact⟨o',(hs.2 b (Zyb (Zyn (Zzb e) (I.ok.cab x c hfn hc)))).trans e1⟩
  ·by_cases hj:j=i
   ·subst hj
    rw[hi] at e1;cases e1
    rw[Zvy hiσ] at e2
    cases e2
    exact⟨u,r,.inr ⟨.inl hk,c,hc,hc'⟩⟩
   ·rw[Zxj (Zzi hj)] at e2
    obtain⟨u',r',q⟩:=hl j y v' e1 e2 e3
    refine⟨u',r',?_⟩
    rcases q with q | ⟨k,c',e,z'⟩
    ·exact .inl q
    ·refine .inr ⟨k,c',e,z'.sameBut hs ?_⟩
     rintro rfl
     exact hj (Y9 hN e1 (I.ok.inj _ _ _ e hc▸hi))
  ·by_cases hcc:c'=c
   ·subst hcc;exact⟨_,hc'⟩
   ·obtain⟨w2,z2⟩:=I.cell y c' e
    exact⟨w2,z2.sameBut hs hcc⟩
  ·obtain⟨e,n,ne,nf,d⟩:=I.pin p hp
   refine⟨(hs.2 p.1 ?_).trans e,n,ne,nf,d⟩
   intro q
   rw[q,hoc] at e
   have q':oc=p.2:=Zz3 e
   exact d w' (by rw[<- q'];exact hocd)
theorem Rp{M:Model}{A:Around}{E:Value->Shared->Prop}{i:Nat}{x:Str}{v:V}{u:Value}{Q:Unit->Shared->Prop}(I:Inv X pins Z H s)(hN:X.N.Nodup)(hi:X.N[i]?=some x)(hx:Loc X.env.scope x)(r:RelV v u)
  (h:∀s',Inv X pins (Z.set i (some v)) H s'->Q () s') (hf:X.fn x=true\/X.env.scope.names.lookup x=some .local:=by first | exact .inl rfl | exact .inr rfl | assumption):wpAny M A (storeName X.env x u) Q E s :=
 Ua I hN hi hx r (λs' I' _=>h s' I') hf
theorem Inv.call'{s':Shared}{ch:List Addr}(I:Inv X pins Z H s)(ho:s'.os=s.os)(u:Un (frs X.stack) ch H H' s.heap s'.heap)(hok:HOk X.prog X.w H' s'.heap)(hg:AllBare s'.gens)
  (hch:∀b∈ch,(b∈X.ex\/X.s₀.heap.objs.size<=b)/\b≠X.env.locals/\(∀x c,X.env.cells.lookup x=some c->c≠b)/\∀p∈X.pn++pins,p.1≠b):Inv X pins Z H' s':=by
 obtain⟨h',g',d',t',o'⟩:=s'
 have e:o'=s.os:=ho
 subst e
 exact I.call (g':=g') (t':=t') (d':=d') u hok hg hch
end
abbrev XK:=Value->Option Addr->Hp->Prop
abbrev St:=List (Option V)
abbrev VK:=V->Hp->Prop
abbrev TE:=St->Hp->VK->Prop
abbrev TT:=St->Hp->(Bool->Hp->Prop)->Prop
abbrev TA:=St->Hp->(List V->Hp->Prop)->Prop
structure Qa where
 nx:St->Hp->Prop
 rt:VK
 bk:St->Hp->Prop:=λ_ _=>False
 ct:St->Hp->Prop:=λ_ _=>False
abbrev TS:=Qa->St->Hp->Prop
def EP(X:Cx)(pins:List (Addr×Obj))(Z:St)(Q:VK)(u:Value)(s':Shared):Prop:=∃v H',Inv X pins Z H' s'/\RelV v u/\Q v H'
def TP(X:Cx)(pins:List (Addr×Obj))(Z:St)(Q:Bool->Hp->Prop)(b:Bool)(s':Shared):Prop:=∃H',Inv X pins Z H' s'/\Q b H'
def AP(X:Cx)(pins:List (Addr×Obj))(Z:St)(Q:List V->Hp->Prop)(us:List Value)(s':Shared):Prop:=∃vs H',Inv X pins Z H' s'/\Vals vs us/\Q vs H'
def SP(X:Cx)(pins:List (Addr×Obj))(D:Qa)(f:Flow)(s':Shared):Prop :=
 match f with
 |.next=>∃Z' H',Inv X pins Z' H' s'/\D.nx Z' H'
 |.brk=>∃Z' H',Inv X pins Z' H' s'/\D.bk Z' H'
 |.cont=>∃Z' H',Inv X pins Z' H' s'/\D.ct Z' H'
 |.ret u=>∃v Z' H',Inv X pins Z' H' s'/\RelV v u/\D.rt v H'
def PE(X:Cx)(e:Expr)(t:TE):Prop :=
 ∀(pins:List (Addr×Obj)) (s:Shared) (Z:St) (H:Hp) (Q:VK),Inv X pins Z H s->t Z H Q->wpAny (model X.prog X.w) X.A (eval e X.env) (EP X pins Z Q) X.xe s
def PT(X:Cx)(e:Expr)(t:TT):Prop :=
 ∀(pins:List (Addr×Obj)) (s:Shared) (Z:St) (H:Hp) (Q:Bool->Hp->Prop),Inv X pins Z H s->t Z H Q->wpAny (model X.prog X.w) X.A (isTrue e X.env (eval e X.env)) (TP X pins Z Q) X.xe s
def PW(X:Cx)(e:Expr)(t:TT):Prop :=
 ∀(whole:Sem Value) (pins:List (Addr×Obj)) (s:Shared) (Z:St) (H:Hp) (Q:Bool->Hp->Prop),Inv X pins Z H s->t Z H Q->wpAny (model X.prog X.w) X.A (isTrue e X.env whole) (TP X pins Z Q) X.xe s
theorem PW.pt{X:Cx}{e:Expr}{t:TT}(h:PW X e t):PT X e t:=h _
def PA(X:Cx)(es:List Expr)(t:TA):Prop :=
 ∀(pos:Pos) (pins:List (Addr×Obj)) (s:Shared) (Z:St) (H:Hp) (Q:List V->Hp->Prop),Inv X pins Z H s->t Z H Q->wpAny (model X.prog X.w) X.A (spliced (backTo pos (starEach es X.env))) (AP X pins Z Q) X.xe s
def PS(X:Cx)(st:Stmt)(t:TS):Prop :=
 ∀(pins:List (Addr×Obj)) (s:Shared) (Z:St) (H:Hp) (D:Qa),Inv X pins Z H s->t D Z H->wpAny (model X.prog X.w) X.A (exec st X.env) (SP X pins D) X.xe s
def PSs(X:Cx)(st:List Stmt)(t:TS):Prop :=
 ∀(pins:List (Addr×Obj)) (s:Shared) (Z:St) (H:Hp) (D:Qa),Inv X pins Z H s->t D Z H->wpAny (model X.prog X.w) X.A (execs st X.env) (SP X pins D) X.xe s
theorem thn{α:Type}{t:Sem α}{Q Q':α->Shared->Prop}{M:Model}{A:Around}{E:Value->Shared->Prop}{s:Shared}(h:wpAny M A t Q E s)(hQ:∀a s,Q a s->Q' a s):wpAny M A t Q' E s:=wpAny_mono h hQ λ_ _ x=>x
section
variable {X:Cx}
def Gq(i:Nat):TE:=λZ H Q=>∃v,Z[i]?=some (some v)/\Q v H
def tC(v:V):TE:=λ_ H Q=>Q v H
theorem ya{i:Nat}{x:Str}{pos:Pos}(hN:X.N[i]?=some x)(hv:Vis X.env.scope x)(hd:(x == ("__debug__" : Str))=false:=by decide)(hcd:(x == ("__classdict__" : Str))=false:=by decide):PE X (.Name x pos) (Gq i):=by
 intro pins s Z H Q I h
 obtain⟨v,e,h⟩:=h
 obtain⟨m,hn,hl⟩:=I.loc
 obtain⟨u,r,l⟩:=hl i x v hN e hv
 have fin:EP X pins Z Q u s:=⟨v,H,I,r,h⟩
 rcases l with ⟨hk,hm⟩ | ⟨hk,c,hc,hcell⟩
 ·exact wpAny_Name (wpAny_loadName_local I.ok.kind hk hn hm fin) hd
 ·rcases hk with hk | hk
  ·exact wpAny_Name (wpAny_loadName_cell I.ok.kind hk hc hcell fin) hd
  ·exact wpAny_Name (wpAny_loadName_free I.ok.kind hk hc hcell fin hcd) hd
theorem A5{i j pos}:PE X (.Constant (.int i) j pos) (tC (.int i)):=λ_ _ _ H _ I h=>wpAny_Constant_int ⟨.int i,H,I.tok _,⟨_,rfl⟩,h⟩
theorem K6{b j pos}:PE X (.Constant (.bool b) j pos) (tC (.bl b)):=λ_ _ _ H _ I h=>Constant_bool ⟨.bl b,H,I,rfl,h⟩
theorem Ot{j pos}:PE X (.Constant .none j pos) (tC .non):=λ_ _ _ H _ I h=>Constant_none ⟨.non,H,I,rfl,h⟩
theorem D7{x j pos}:PE X (.Constant (.str x) j pos) (tC (.str x)):=λ_ _ _ H _ I h=>Calls.Constant_str ⟨.str x,H,I.tok _,⟨_,rfl⟩,h⟩
def Gl(X:Cx)(x:Str):Prop:=X.env.kindOf x=some .globalImplicit
theorem dk{E:Value->Shared->Prop}{pins:List (Addr×Obj)}{s:Shared}{Z:St}{H:Hp}{x:Str}{u:Value}{pos:Pos}{Q:Value->Shared->Prop}(I:Inv X pins Z H s)(hg:Gl X x)(hm:X.mg x=some u)(h:Q u s)
  (hd:(x == ("__debug__" : Str))=false:=by decide):wpAny (model X.prog X.w) X.A (eval (.Name x pos) X.env) Q E s :=
 Calls.Name_function_global I.ok.kind hg (Calls.loadGlobal_global (by rw[I.ok.glob];exact I.mod.glob.keeps I.bk) hm h) hd
theorem Jh{E:Value->Shared->Prop}{pins:List (Addr×Obj)}{s:Shared}{Z:St}{H:Hp}{x:Str}{u:Value}{pos:Pos}{Q:Value->Shared->Prop}(I:Inv X pins Z H s)(hg:Gl X x)(hm:X.mg x=none)(hv:bootBuiltins x=some u)(h:Q u s)
  (hn:x ≠ "__name__" := by decide) (hd:(x == ("__debug__" : Str))=false:=by decide):wpAny (model X.prog X.w) X.A (eval (.Name x pos) X.env) Q E s:=by
 obtain⟨mb,h1,h2⟩:=I.mod.blt
 exact Calls.Name_function_global I.ok.kind hg (Calls.loadGlobal_builtin (by rw[I.ok.glob];exact I.mod.glob.keeps I.bk) hm (by rw[I.ok.blt];exact h1.keeps I.bk) ((h2 x hn).trans hv) h) hd
theorem Vt{x:Str}{v:V}{u:Value}{pos:Pos}(hg:Gl X x)(hm:X.mg x=some u)(r:RelV v u)(hd:(x == ("__debug__" : Str))=false:=by decide):PE X (.Name x pos) (tC v) :=
 λ_ _ _ H _ I h=>dk I hg hm ⟨v,H,I,r,h⟩ hd
theorem O8{x:Str}{v:V}{u:Value}{pos:Pos}(hg:Gl X x)(hm:X.mg x=none)(hv:bootBuiltins x=some u)(r:RelV v u)(hn:x ≠ "__name__" := by decide)(hd:(x == ("__debug__" : Str))=false:=by decide):PE X (.Name x pos) (tC v) :=
 λ_ _ _ H _ I h=>Jh I hg hm hv ⟨v,H,I,r,h⟩ hn hd
variable {a b:Expr}{ta tb:TE}{pos:Pos}
def PC(X:Cx)(op:CmpOp)(a b:Expr)(t:TE):Prop :=
 ∀(pins:List (Addr×Obj)) (s:Shared) (Z:St) (H:Hp) (Q:VK),Inv X pins Z H s->t Z H Q ->
  wpAny (model X.prog X.w) X.A (eval a X.env) (λv s₁=>wpAny (model X.prog X.w) X.A (eval b X.env) (λu s₂=>wpAny (model X.prog X.w) X.A (compareOp op v u) (EP X pins Z Q) X.xe s₂) X.xe s₁) X.xe s
def tB(t:TE):TT:=λZ H Q=>t Z H λx H1=>∃c,x=.bl c/\Q c H1
theorem Es{e:Expr}{t:TE}(h:PE X e t)(he:∀whole,isTrue e X.env whole=(do let v <- whole;standAt e.pos;holding [v] (truthy v)):=by intro _;rfl):PT X e (tB t):=by
 intro pins s Z H Q I hw
 refine isTrue_plain (thn (h pins s Z H _ I hw) λv s1 ⟨x,H1,I1,r1,q1⟩=>?_) (he _)
 obtain⟨d,rfl,q⟩:=q1
 cases r1
 exact wpAny_truthy_bool ⟨H1,I1,q⟩
variable {tA tB':TT}{rest:List Expr}
def Hb(t u:TT):TT:=λZ H Q=>t Z H λc H1=>if c=true then u Z H1 Q else Q false H1
def tOr(t u:TT):TT:=λZ H Q=>t Z H λc H1=>if c=true then Q true H1 else u Z H1 Q
def Gx(t:TT):TT:=λZ H Q=>t Z H λc H1=>Q (!c) H1
theorem Ml(ha:PT X a tA):PW X (.BoolOp .And [a] pos) tA:=by
 intro wh pins s Z H Q I h
 refine isTrue_and (thn (ha pins s Z H Q I h) λc s1 e=>?_)
 cases c with
 |true=>exact isTrue_and_nil e
 |false=>exact e
theorem Mk(ha:PT X a tA):PW X (.BoolOp .Or [a] pos) tA:=by
 intro wh pins s Z H Q I h
 refine isTrue_or (thn (ha pins s Z H Q I h) λc s1 e=>?_)
 cases c with
 |false=>exact isTrue_or_nil e
 |true=>exact e
theorem Os(ha:PT X a tA)(hb:PW X (.BoolOp .And (b::rest) pos) tB'):PW X (.BoolOp .And (a::b::rest) pos) (Hb tA tB'):=by
 intro wh pins s Z H Q I h
 refine isTrue_and (thn (ha pins s Z H _ I h) λc s1 z0=>?_)
 obtain⟨H1,I1,q1⟩:=z0
 cases c with
 |true=>exact hb wh pins s1 Z H1 Q I1 q1
 |false=>exact⟨H1,I1,q1⟩
theorem N9(ha:PT X a tA)(hb:PW X (.BoolOp .Or (b::rest) pos) tB'):PW X (.BoolOp .Or (a::b::rest) pos) (tOr tA tB'):=by
 intro wh pins s Z H Q I h
 refine isTrue_or (thn (ha pins s Z H _ I h) λc s1 z0=>?_)
 obtain⟨H1,I1,q1⟩:=z0
 cases c with
 |true=>exact⟨H1,I1,q1⟩
 |false=>exact hb wh pins s1 Z H1 Q I1 q1
theorem E4(ha:PT X a tA):PT X (.UnaryOp .Not a pos) (Gx tA):=by
 intro pins s Z H Q I h
 exact isTrue_not (ha pins s Z H (λc H1=>Q (!c) H1) I h)
def Ej(ta tb:TE):TE:=λZ H Q=>ta Z H λx H1=>∃c,x=.bl c/\if c=true then tb Z H1 Q else Q (.bl false) H1
def Gw(ta tb:TE):TE:=λZ H Q=>ta Z H λx H1=>∃c,x=.bl c/\if c=true then Q (.bl true) H1 else tb Z H1 Q
def Ed(ta:TE):TE:=λZ H Q=>ta Z H λx H1=>∃c,x=.bl c/\Q (.bl (!c)) H1
theorem Kx{op}{t:TE}(h:PE X a t):PE X (.BoolOp op [a] pos) t:=λpins s Z H Q I hw=>BoolOp_one (h pins s Z H Q I hw)
theorem Jf(ha:PE X a ta)(hb:PE X (.BoolOp .And (b::rest) pos) tb):PE X (.BoolOp .And (a::b::rest) pos) (Ej ta tb):=by
 intro pins s Z H Q I h
 refine BoolOp_and (thn (ha pins s Z H _ I h) λv s1 z0=>?_)
 obtain⟨x,H1,I1,r1,q1⟩:=z0
 obtain⟨c,rfl,q1⟩:=q1
 cases r1
 refine wpAny_truthy_bool ?_
 cases c with
 |true=>exact hb pins s1 Z H1 Q I1 q1
 |false=>exact⟨.bl false,H1,I1,rfl,q1⟩
theorem A01(ha:PE X a ta)(hb:PE X (.BoolOp .Or (b::rest) pos) tb):PE X (.BoolOp .Or (a::b::rest) pos) (Gw ta tb):=by
 intro pins s Z H Q I h
 refine BoolOp_or (thn (ha pins s Z H _ I h) λv s1 z0=>?_)
 obtain⟨x,H1,I1,r1,q1⟩:=z0
 obtain⟨c,rfl,q1⟩:=q1
 cases r1
 refine wpAny_truthy_bool ?_
 cases c with
 |false=>exact hb pins s1 Z H1 Q I1 q1
 |true=>exact⟨.bl true,H1,I1,rfl,q1⟩
theorem yb(ha:PE X a ta):PE X (.UnaryOp .Not a pos) (Ed ta):=by
 intro pins s Z H Q I h
 refine UnaryOp_ (thn (ha pins s Z H _ I h) λv s1 z0=>?_)
 obtain⟨x,H1,I1,r1,q1⟩:=z0
 obtain⟨c,rfl,q1⟩:=q1
 cases r1
 exact not_of (wpAny_truthy_bool ⟨.bl (!c),H1,I1,rfl,q1⟩)
def tIf(t:TT)(ta tb:TE):TE:=λZ H Q=>t Z H λc H1=>if c=true then ta Z H1 Q else tb Z H1 Q
theorem mj{c:Expr}(hc:PT X c tA)(ha:PE X a ta)(hb:PE X b tb):PE X (.IfExp c a b pos) (tIf tA ta tb):=by
 intro pins s Z H Q I h
 refine wpAny_IfExp (thn (hc pins s Z H _ I h) λd s1 z0=>?_)
 obtain⟨H1,I1,q1⟩:=z0
 cases d with
 |true=>exact ha pins s1 Z H1 Q I1 q1
 |false=>exact hb pins s1 Z H1 Q I1 q1
end
def SqL(K:Zzw)(H:Hp)(a:Addr)(xs:List V):Prop :=
 Rd H a (.lst xs) \/
  ∃(o:Obj) (its:Array Value) (n:Nat),K.lookup a=some o/\o.cls=.type "list" /\ o.dict=none/\o.data=.seq its n/\its.size<=sizeLine/\Vals xs its.toList
def SqT(K:Zzw)(H:Hp)(a:Addr)(xs:List V):Prop :=
 Rd H a (.tup xs) \/
  ∃(o:Obj) (its:Array Value) (n:Nat),K.lookup a=some o/\o.cls=.type "tuple" /\ o.data=.seq its n/\its.size<=sizeLine/\Vals xs its.toList
def absV:Value->Option V
 |.none=>some .non
 |.bool b=>some (.bl b)
 |.int i _=>some (.int i)
 |.str x _=>some (.str x)
 |.bytes b _=>some (.byt b)
 |.float b _=>some (.flt b)
 |.ref a=>some (.ref a)
 |.type n=>some (.ty n)
 |_=>none
theorem RelV.abs{x:V}{u:Value}(r:RelV x u):absV u=some x:=by
 cases x with
 |non=>cases r;rfl
 |bl _=>cases r;rfl
 |int _=>obtain⟨t,rfl⟩:=r;rfl
 |str _=>obtain⟨t,rfl⟩:=r;rfl
 |byt _=>obtain⟨t,rfl⟩:=r;rfl
 |flt _=>obtain⟨t,rfl⟩:=r;rfl
 |ref _=>cases r;rfl
 |ty _=>cases r;rfl
theorem RelV.inj{x y:V}{u:Value}(r:RelV x u)(q:RelV y u):x=y:=Zz3 (r.abs.symm.trans q.abs)
theorem Vals.inj:∀{xs ys:List V} {us:List Value},Vals xs us->Vals ys us->xs=ys
 |_,_,_,.nil,.nil=>rfl
 |_,_,_,.cons r t,.cons r' t'=>by rw[r.inj r',Vals.inj t t']
section
variable {X:Cx}{pins:List (Addr×Obj)}{Z:St}{H:Hp}{s:Shared}{a:Addr}{xs ys:List V}
theorem SqL.of{K:Zzw}(h:H a=some (.lst xs)):SqL K H a xs:=.inl (.inl h)
theorem SqT.of{K:Zzw}(h:H a=some (.tup xs)):SqT K H a xs:=.inl (.inl h)
theorem Inv.list(I:Inv X pins Z H s)(h:SqL X.K H a xs):∃its:List Value,Vals xs its/\PlainL s.heap a its.toArray/\xs.length<=sizeLine:=by
 rcases h with h | ⟨o,its,n,hk,hc,hd,hs,hz,r⟩
 ·obtain⟨z,its,n,r,e⟩:=h.ok I.hok
  exact⟨its,r,⟨_,n,e,rfl,rfl,rfl⟩,z⟩
 ·refine⟨its.toList,r,⟨o,n,I.kIn a o hk,hc,hd,by simpa using hs⟩,?_⟩
  have e:=r.length
  simp only[Zwr] at e
  omega
theorem Inv.tuple(I:Inv X pins Z H s)(h:SqT X.K H a xs):∃its:List Value,Vals xs its/\IsTup s.heap a its.toArray/\xs.length<=sizeLine:=by
 rcases h with h | ⟨o,its,n,hk,hc,hs,hz,r⟩
 ·obtain⟨z,its,r,p⟩:=h.ok I.hok
  exact⟨its,r,p,z⟩
 ·refine⟨its.toList,r,⟨o,I.kIn a o hk,hc,n,by simpa using hs⟩,?_⟩
  have e:=r.length
  simp only[Zwr] at e
  omega
theorem Inv.list_inj(I:Inv X pins Z H s)(h:SqL X.K H a xs)(h':SqL X.K H a ys):xs=ys:=by
 obtain⟨its,r,⟨o,n,e,_,_,d⟩,_⟩:=I.list h
 obtain⟨its',r',⟨o',n',e',_,_,d'⟩,_⟩:=I.list h'
 rw[e] at e';cases e'
 rw[d] at d'
 injection d' with d1 _
 have:its=its':=by simpa using congrArg Array.toList d1
 subst this
 exact r.inj r'
theorem Inv.tuple_inj(I:Inv X pins Z H s)(h:SqT X.K H a xs)(h':SqT X.K H a ys):xs=ys:=by
 obtain⟨its,r,⟨o,e,_,n,d⟩,_⟩:=I.tuple h
 obtain⟨its',r',⟨o',e',_,n',d'⟩,_⟩:=I.tuple h'
 rw[e] at e';cases e'
 rw[d] at d'
 injection d' with d1 _
 have:its=its':=by simpa using congrArg Array.toList d1
 subst this
 exact r.inj r'
end
abbrev Cx.wish(X:Cx)(E:Value->Shared->Prop):Cx:={X with xe:=E}
abbrev Cx.nox(X:Cx):Cx:=X.wish λ_ _=>False
theorem Cx.Ok.wish{X:Cx}(ok:X.Ok)(E:Value->Shared->Prop):(X.wish E).Ok :=
 ⟨ok.mod,ok.kind,ok.glob,ok.blt,ok.above,ok.inj,ok.has,ok.cab,ok.hd,ok.frames,ok.stk,ok.exf,ok.bs,ok.bsz,ok.noex,ok.exfs,ok.funs,ok.frf⟩
theorem Cx.Ok.unwish{X:Cx}{E:Value->Shared->Prop}(ok:(X.wish E).Ok):X.Ok :=
 ⟨ok.mod,ok.kind,ok.glob,ok.blt,ok.above,ok.inj,ok.has,ok.cab,ok.hd,ok.frames,ok.stk,ok.exf,ok.bs,ok.bsz,ok.noex,ok.exfs,ok.funs,ok.frf⟩
section
variable {X:Cx}{pins:List (Addr×Obj)}{Z:St}{H:Hp}{s:Shared}{E:Value->Shared->Prop}
theorem Inv.wish(I:Inv X pins Z H s)(E:Value->Shared->Prop):Inv (X.wish E) pins Z H s:=⟨I.ok.wish E,I.os,I.bare,I.base,I.loc,I.cell,I.free,I.freeC,I.pin,I.hok,I.len⟩
theorem Inv.unwish(I:Inv (X.wish E) pins Z H s):Inv X pins Z H s:=⟨I.ok.unwish,I.os,I.bare,I.base,I.loc,I.cell,I.free,I.freeC,I.pin,I.hok,I.len⟩
theorem SP.unwish{D:Qa}{f:Flow}{s':Shared}(h:SP (X.wish E) pins D f s'):SP X pins D f s':=by
 cases f with
 |next=>obtain⟨Z',H',I,q⟩:=h;exact⟨Z',H',I.unwish,q⟩
 |brk=>obtain⟨Z',H',I,q⟩:=h;exact⟨Z',H',I.unwish,q⟩
 |cont=>obtain⟨Z',H',I,q⟩:=h;exact⟨Z',H',I.unwish,q⟩
 |ret u=>obtain⟨v,Z',H',I,r,q⟩:=h;exact⟨v,Z',H',I.unwish,r,q⟩
theorem PSs.nox{st:List Stmt}{t:TS}(h:PSs X.nox st t):PSs X st t:=λpins s Z H D I hw =>
 wpAny_mono (h pins s Z H D (I.wish _) hw) (λ_ _ q=>q.unwish) λ_ _ z=>False.elim z
end
section
variable {X:Cx}{st:Stmt}{rest:List Stmt}{t u:TS}{e:Expr}{te:TE}{pos:Pos}
def tNext:TS:=λD Z H=>D.nx Z H
def G5(t u:TS):TS:=λD Z H=>t {D with nx:=u D} Z H
theorem C5:PSs X [] tNext:=λ_ _ Z H _ I h=>wpAny_execs_nil ⟨Z,H,I,h⟩
theorem A2(h1:PS X st t)(h2:PSs X rest u):PSs X (st::rest) (G5 t u):=by
 intro pins s Z H D I h
 refine wpAny_execs_cons (thn (h1 pins s Z H {D with nx:=u D} I h) λf s1 q=>?_)
 cases f with
 |next =>
  obtain⟨Z',H',I',q⟩:=q
  exact h2 pins s1 Z' H' D I' q
 |ret v=>exact q
 |brk=>exact q
 |cont=>exact q
theorem Aa(h1:PS X st t):PSs X [st] t:=by
 intro pins s Z H D I h
 refine wpAny_execs_cons (thn (h1 pins s Z H D I h) λf s1 q=>?_)
 cases f with
 |next=>exact wpAny_execs_nil q
 |ret v=>exact q
 |brk=>exact q
 |cont=>exact q
theorem Inv.quiet{pins:List (Addr×Obj)}{Z:St}{H:Hp}{s:Shared}(I:Inv X pins Z H s):interactive X.env=false:=by simp[interactive,I.ok.kind]
def Eh(te:TE):TS:=λD Z H=>te Z H λ_ H1=>D.nx Z H1
theorem Fm(he:PE X e te)(hs:swapsWith e none pos.line X.env=pure false:=by rfl):PS X (.Expr e pos) (Eh te):=by
 intro pins s Z H D I h
 exact wpAny_Expr_any (thn (he pins s Z H _ I h) λv s1 z0=>by obtain⟨x,H1,I1,r1,q1⟩:=z0;exact ⟨Z,H1,I1,q1⟩) I.quiet hs
def Gv(te:TE):TS:=λD Z H=>te Z H D.rt
theorem Be(he:PE X e te):PS X (.Return (some e) pos) (Gv te):=by
 intro pins s Z H D I h
 exact wpAny_Return_some (thn (he pins s Z H _ I h) λv s1 z0=>by obtain⟨x,H1,I1,r1,q1⟩:=z0;exact ⟨x,Z,H1,I1,r1,q1⟩)
def Eu:TS:=λD _ H=>D.rt .non H
def Gz(c:TT)(t u:TS):TS:=λD Z H=>c Z H λb H1=>if b=true then t D Z H1 else u D Z H1
theorem Db{c:Expr}{a b:List Stmt}{tc:TT}(hc:PT X c tc)(ha:PSs X a t)(hb:PSs X b u):PS X (.If c a b pos) (Gz tc t u):=by
 intro pins s Z H D I h
 refine wpAny_If (thn (hc pins s Z H _ I h) λd s1 z0=>?_)
 obtain⟨H1,I1,q1⟩:=z0
 cases d with
 |true=>exact ha pins s1 Z H1 D I1 q1
 |false=>exact hb pins s1 Z H1 D I1 q1
def tNever:TS:=λ_ _ _=>False
theorem mf:PS X st tNever:=λ_ _ _ _ _ _ h=>h.elim
theorem Jd{sts:List Stmt}:PSs X sts tNever:=λ_ _ _ _ _ _ h=>h.elim
end
abbrev TG:=V->St->Hp->(St->Hp->Prop)->Prop
abbrev TGs:=List V->St->Hp->(St->Hp->Prop)->Prop
def PG(X:Cx)(target:Expr)(t:TG):Prop :=
 ∀(pins:List (Addr×Obj)) (s:Shared) (Z:St) (H:Hp) (v:V) (u:Value) (Q:St->Hp->Prop),Inv X pins Z H s->RelV v u->t v Z H Q ->
  wpAny (model X.prog X.w) X.A (assign target X.env u) (λ_ s'=>∃Z' H',Inv X pins Z' H' s'/\Q Z' H') X.xe s
def PGs(X:Cx)(ts:List Expr)(t:TGs):Prop :=
 ∀(pins:List (Addr×Obj)) (s:Shared) (Z:St) (H:Hp) (vs:List V) (us:List Value) (Q:St->Hp->Prop),Inv X pins Z H s->Vals vs us->t vs Z H Q ->
  wpAny (model X.prog X.w) X.A (assignInOrder ((assignEach ts X.env).map (·.2)) us) (λ_ s'=>∃Z' H',Inv X pins Z' H' s'/\Q Z' H') X.xe s
abbrev TSet:=V->V->V->Hp->(Hp->Prop)->Prop
def qx(X:Cx)(t:TSet):Prop :=
 ∀(pins:List (Addr×Obj)) (s:Shared) (Z:St) (H:Hp) (o i v:V) (ov iv u:Value) (Q:Hp->Prop),Inv X pins Z H s->RelV o ov->RelV i iv->RelV v u->t o i v H Q ->
  wpAny (model X.prog X.w) X.A (setItem ov iv u) (λ_ s'=>∃H',Inv X pins Z H' s'/\Q H') X.xe s
abbrev TIp:=V->V->Hp->VK->Prop
def PIp(X:Cx)(op:Operator)(t:TIp):Prop :=
 ∀(pins:List (Addr×Obj)) (s:Shared) (Z:St) (H:Hp) (x y:V) (v u:Value) (Q:VK),Inv X pins Z H s->RelV x v->RelV y u->t x y H Q ->
  wpAny (model X.prog X.w) X.A (inplaceOp op v u) (EP X pins Z Q) X.xe s
section
variable {X:Cx}{pos:Pos}
def Ci(i:Nat):TG:=λv Z H Q=>Q (Z.set i (some v)) H
theorem Ac{i:Nat}{x:Str}(hN:X.N.Nodup)(hi:X.N[i]?=some x)(hx:Loc X.env.scope x)(hf:X.fn x=true\/X.env.scope.names.lookup x=some .local:=by first | exact .inl rfl | exact .inr rfl | assumption):PG X (.Name x pos) (Ci i):=by
 intro pins s Z H v u Q I r h
 exact wpAny_assign_Name (Rp I hN hi hx r (λs' I'=>⟨_,H,I',h⟩) hf)
def gNil:TGs:=λvs Z H Q=>vs=[]/\Q Z H
def Gs(t:TG)(u:TGs):TGs:=λvs Z H Q=>∃v r,vs=v::r/\t v Z H λZ' H'=>u r Z' H' Q
theorem Fn:PGs X [] gNil:=by
 intro pins s Z H vs us Q I r h
 obtain⟨e,h⟩:=h
 subst e
 cases r
 exact assignInOrder_nil ⟨Z,H,I,h⟩
theorem C2{e:Expr}{es:List Expr}{t:TG}{u:TGs}(h1:PG X e t)(h2:PGs X es u)
  (hs:(assignEach (e::es) X.env).map (·.2)=assign e X.env::(assignEach es X.env).map (·.2):=by rfl):PGs X (e::es) (Gs t u):=by
 intro pins s Z H vs us Q I r h
 obtain⟨v,vr,e1,h⟩:=h
 subst e1
 cases r with
 |cons r rr =>
  rw[hs]
  refine assignInOrder_cons (thn (h1 pins s Z H _ _ _ I r h) λ_ s1 z0=>?_)
  obtain⟨σ1,H1,I1,q1⟩:=z0
  exact h2 pins s1 σ1 H1 _ _ Q I1 rr q1
def Ys(K:Zzw)(n:Nat)(t:TGs):TG:=λv Z H Q=>∃a xs,v=.ref a/\SqT K H a xs/\xs.length=n/\t xs Z H Q
theorem Gk{es:List Expr}{k:Nat}{t:TGs}{n:Nat}(hc:X.calm=true)(h:PGs X es t)
  (hn:(assignEach es X.env).length=n:=by rfl) (hst:(assignEach es X.env).findIdx? (·.1)=none:=by rfl):PG X (.Tuple es k pos) (Ys X.K n t):=by
 intro pins s Z H v u Q I r hw
 obtain⟨a,xs,e1,hq,hl,hw⟩:=hw
 subst e1
 cases r
 obtain⟨its,rv,ht,hz⟩:=I.tuple hq
 refine assign_Tuple_tuple (I.ok.hd hc) ht (by simp[hn,<- hl,rv.length]) hst λh' hx=>?_
 have I1:Inv X pins Z H {s with heap:=h'}:=I.kept (t':=s.toks) λb o e=>hx b o (Zyb (Zzb e)) e
 exact h pins _ Z H xs _ Q I1 (by simpa using rv) hw
def Hh(to ti:TE)(t:TSet):TG:=λv Z H Q=>to Z H λo H1=>ti Z H1 λi H2=>t o i v H2 λH3=>Q Z H3
theorem Jx{o i:Expr}{to ti:TE}{t:TSet}(ho:PE X o to)(hi:PE X i ti)(hs:qx X t)
  (ha:∀v,assign (.Subscript o i pos) X.env v=(do
   let ov <- holding [v] (eval o X.env)
   let iv <- holding [v,ov] (eval i X.env)
   standAt pos
   holding [v,ov,iv] (setItem ov iv v)
   release [v,ov,iv] []):=by intro _;rfl):PG X (.Subscript o i pos) (Hh to ti t):=by
 intro pins s Z H v u Q I r h
 rw[ha]
 refine wpAny_bind (wpAny_holding (thn (ho pins s Z H _ I h) λov s1 z0=>?_))
 obtain⟨x,H1,I1,r1,q1⟩:=z0
 refine wpAny_bind (wpAny_holding (thn (hi pins s1 Z H1 _ I1 q1) λiv s2 z0=>?_))
 obtain⟨y,H2,I2,r2,q2⟩:=z0
 refine wpAny_bind (wpAny_standAt (wpAny_bind (wpAny_holding (thn (hs pins s2 Z H2 x y v ov iv u _ I2 r1 r2 r q2) λ_ s3 z0=>?_))))
 obtain⟨H3,I3,q3⟩:=z0
 exact wpAny_release ⟨Z,H3,I3,q3⟩
def Gp(te:TE)(g:TG):TS:=λD Z H=>te Z H λx H1=>g x Z H1 D.nx
theorem Je{tg e:Expr}{te:TE}{g:TG}(he:PE X e te)(hg:PG X tg g)(hs:swapsWithSole [tg] e pos.line X.env=pure false:=by rfl)(hw:swappedStores [tg] e X.env=pure none:=by rfl)
  (h1:(assignEach [tg] X.env).map (·.2)=[assign tg X.env]:=by rfl):PS X (.Assign [tg] e pos) (Gp te g):=by
 intro pins s Z H D I h
 refine wpAny_Assign_stores (thn (he pins s Z H _ I h) λv s1 ⟨x,H1,I1,r1,q1⟩=>?_) hs hw
 rw[h1]
 exact thn (hg pins s1 Z H1 x v _ I1 r1 q1) λ_ s2 q=>q
theorem Bh{i:Nat}{x:Str}{e:Expr}{te:TE}{pos':Pos}(hN:X.N.Nodup)(hi:X.N[i]?=some x)(hx:Loc X.env.scope x)(he:PE X e te)(hs:swapsWith e (some (.Name x pos')) pos.line X.env=pure false:=by rfl)(hf:X.fn x=true\/X.env.scope.names.lookup x=some .local:=by first | exact .inl rfl | exact .inr rfl | assumption) :
  PS X (.Assign [.Name x pos'] e pos) (Gp te (Ci i)):=by
 intro pins s Z H D I h
 refine wpAny_Assign_Name (thn (he pins s Z H _ I h) λv s1 ⟨y,H1,I1,r1,q1⟩=>?_) hs
 exact Rp I1 hN hi hx r1 (λs2 I2=>⟨_,H1,I2,q1⟩) hf
def Ha(i:Nat)(te:TE)(ti:TIp):TS:=λD Z H=>∃x,Z[i]?=some (some x)/\te Z H λy H1=>ti x y H1 λz H2=>D.nx (Z.set i (some z)) H2
theorem Zx{i:Nat}{x:Str}{e:Expr}{te:TE}{op:Operator}{ti:TIp}{pos':Pos}(hN:X.N.Nodup)(hi:X.N[i]?=some x)(hx:Loc X.env.scope x)(he:PE X e te)(ho:PIp X op ti)(hf:X.fn x=true\/X.env.scope.names.lookup x=some .local:=by first | exact .inl rfl | exact .inr rfl | assumption) :
  PS X (.AugAssign (.Name x pos') op e pos) (Ha i te ti):=by
 intro pins s Z H D I h
 obtain⟨v,e1,h⟩:=h
 obtain⟨m,hn,hl⟩:=I.loc
 have vis:Vis X.env.scope x:=by rcases hx with k | k;exact .inl k;exact .inr (.inl k)
 obtain⟨u,r,l⟩:=hl i x v hi e1 vis
 refine wpAny_AugAssign_Name ?_
 have go:wpAny (model X.prog X.w) X.A (eval e X.env) (λw s₂=>wpAny (model X.prog X.w) X.A (inplaceOp op u w) (λr s₃=>wpAny (model X.prog X.w) X.A (storeName X.env x r) (λ_=>SP X pins D .next) X.xe s₃) X.xe s₂) X.xe s:=by
  refine thn (he pins s Z H _ I h) λw s1 z0=>?_
  obtain⟨y,H1,I1,r1,q1⟩:=z0
  refine thn (ho pins s1 Z H1 v y u w _ I1 r r1 q1) λz s2 z0=>?_
  obtain⟨zv,H2,I2,r2,q2⟩:=z0
  exact Rp I2 hN hi hx r2 (λs3 I3=>⟨_,H2,I3,q2⟩) hf
 rcases l with ⟨hk,hm⟩ | ⟨hk,c,hc,hcell⟩
 ·exact wpAny_loadName_local I.ok.kind hk hn hm go
 ·rcases hk with hk | hk
  ·exact wpAny_loadName_cell I.ok.kind hk hc hcell go
  ·rcases hx with k | k
   ·have:X.env.scope.names.lookup x=some .free:=hk
    rw[k] at this;cases this
   ·have:X.env.scope.names.lookup x=some .free:=hk
    rw[k] at this;cases this
def Ei(to ti te:TE)(tget:V->V->Hp->VK->Prop)(tip:TIp)(tset:TSet):TS:=λD Z H=>to Z H λo H1=>ti Z H1 λi H2=>tget o i H2 λx H3=>te Z H3 λy H4=>tip x y H4 λz H5=>tset o i z H5 λH6=>D.nx Z H6
def A0l(X:Cx)(t:V->V->Hp->VK->Prop):Prop :=
 ∀(pins:List (Addr×Obj)) (s:Shared) (Z:St) (H:Hp) (o i:V) (ov iv:Value) (Q:VK),Inv X pins Z H s->RelV o ov->RelV i iv->t o i H Q ->
  wpAny (model X.prog X.w) X.A (getItem ov iv) (EP X pins Z Q) X.xe s
theorem cq{o i e:Expr}{to ti te:TE}{tget:V->V->Hp->VK->Prop}{tip:TIp}{tset:TSet}{op:Operator}{tpos:Pos}(ho:PE X o to)(hi:PE X i ti)(hg:A0l X tget)(he:PE X e te)(hp:PIp X op tip)(hs:qx X tset)
  (ha:∀ov iv new,augStore i ov iv new=(do holding [new,ov,iv] (setItem ov iv new);release [new,ov,iv] [];pure .next):=by intros;rfl):PS X (.AugAssign (.Subscript o i tpos) op e pos) (Ei to ti te tget tip tset):=by
 intro pins s Z H D I h
 refine wpAny_AugAssign_SubscriptAny (thn (ho pins s Z H _ I h) λov s1 ⟨x1,H1,I1,r1,q1⟩=>?_) ha
 refine thn (hi pins s1 Z H1 _ I1 q1) λiv s2 z0=>?_
 obtain⟨x2,H2,I2,r2,q2⟩:=z0
 refine thn (hg pins s2 Z H2 x1 x2 ov iv _ I2 r1 r2 q2) λold s3 z0=>?_
 obtain⟨x3,H3,I3,r3,q3⟩:=z0
 refine thn (he pins s3 Z H3 _ I3 q3) λv s4 z0=>?_
 obtain⟨x4,H4,I4,r4,q4⟩:=z0
 refine thn (hp pins s4 Z H4 x3 x4 old v _ I4 r3 r4 q4) λnew s5 z0=>?_
 obtain⟨x5,H5,I5,r5,q5⟩:=z0
 exact thn (hs pins s5 Z H5 x1 x2 x5 ov iv new _ I5 r1 r2 r5 q5) λ_ s6 ⟨H6,I6,q6⟩=>⟨Z,H6,I6,q6⟩
end
section
variable {X:Cx}{pos:Pos}
end
structure It where
 go:Nat->Hp->Prop
 yld:Nat->Hp->V->Hp->Prop
 stop:Nat->Hp->Prop
def N6(X:Cx)(pins:List (Addr×Obj))(H:Hp)(b:Addr):Prop :=
 H b=none/\b≠X.env.locals/\b∉X.fs/\(b∈X.ex\/X.s₀.heap.objs.size<=b)/\(∀x c,X.env.cells.lookup x=some c->c≠b)/\∀p∈X.pn++pins,p.1≠b
theorem Inv.fpOk{X:Cx}{pins:List (Addr×Obj)}{Z:St}{H H':Hp}{s:Shared}{b:Addr}(I:Inv X pins Z H s)(hb:s.heap.objs.size<=b)(hn:H' b=none):N6 X pins H' b:=by
 refine⟨hn,Zxe (Zyn I.lt hb),I.nofs hb,.inr (Zyf I.sz hb),λx c e z=>?_,λp hp z=>?_⟩
 ·obtain⟨v,q⟩:=I.cell x c e
  exact absurd (Zyn q.lt (by rw[z];exact hb)) (Zwf _)
 ·exact absurd (Zyn (Zzb (I.pin p hp).1) (by rw[z];exact hb)) (Zwf _)
structure Q9(P:Program)(w:World)(K:Zzw)(tg:Expr)(J:It)(fp:List Addr)(it:Addr)(tn:Nat->Heap->Prop):Prop where
 mem:it∈fp
 obj:∀i h,tn i h->∀b∈fp,∃o,h.get? b=some o/\∀v,o.data≠.cell v
 keep:∀i h h',tn i h->(∀b∈fp,∀o,h.get? b=some o->h'.get? b=some o)->tn i h'
 item:∀(X:Cx),X.prog=P->X.w=w->X.K=K->X.calm=true->∀(i:Nat) (pins:List (Addr×Obj)) (s:Shared) (Z:St) (H:Hp) (E:Value->Shared->Prop),Inv X pins Z H s->(∀b∈fp,N6 X pins H b)->tn i s.heap->J.go i H ->
  wpAny (model P w) X.A (pyNext (.ref it)) (λr s1=>∃u,r=some u /\
   wpAny (model P w) X.A (letOwnedTupleGo tg (.ref it) u) (λ_ s2=>∃x H',Inv X pins Z H' s2/\RelV x u/\J.yld i H x H'/\tn (i+1) s2.heap/\∀b∈fp,H' b=none) E s1) E s
 done:∀(X:Cx),X.prog=P->X.w=w->X.K=K->X.calm=true->∀(i:Nat) (pins:List (Addr×Obj)) (s:Shared) (Z:St) (H:Hp) (E:Value->Shared->Prop),Inv X pins Z H s->(∀b∈fp,N6 X pins H b)->tn i s.heap->J.stop i H ->
  wpAny (model P w) X.A (pyNext (.ref it)) (λr s1=>r=none/\Inv X pins Z H s1) E s
 self:∀(A:Around) (i:Nat) (s:Shared) (Q:Value->Shared->Prop) (E:Value->Shared->Prop),tn i s.heap->Q (.ref it) s->wpAny (model P w) A (pyIter (.ref it)) Q E s
abbrev TI:=St->Hp->(It->Hp->Prop)->Prop
def PIE(X:Cx)(pins:List (Addr×Obj))(Z:St)(tg:Expr)(R:It->Hp->Prop)(itv:Value)(s2:Shared):Prop :=
 ∃(it:Addr) (fp:List Addr) (tn:Nat->Heap->Prop) (J:It) (H':Hp),itv=.ref it/\Inv X pins Z H' s2/\Q9 X.prog X.w X.K tg J fp it tn/\tn 0 s2.heap/\(∀b∈fp,N6 X pins H' b)/\R J H'
def PI(X:Cx)(tg iter:Expr)(wi:TI):Prop :=
 ∀(pins:List (Addr×Obj)) (s:Shared) (Z:St) (H:Hp) (R:It->Hp->Prop),Inv X pins Z H s->wi Z H R ->
  wpAny (model X.prog X.w) X.A (eval iter X.env) (λv s1=>wpAny (model X.prog X.w) X.A (pyIter v) (PIE X pins Z tg R) X.xe s1) X.xe s
theorem Yr{M:Model}{A:Around}{E:Value->Shared->Prop}{s:Shared}{tg:Expr}{it:Addr}{u:Value}{o:Obj}{n:String}{vs:Array Value}{Q:Unit->Shared->Prop}(ho:s.heap.get? it=some o)(hc:o.cls=.type n)(hd:o.data=.fields vs)
  (hn:["enumerate", "zip", "dict_itemiterator", "dict_reverseitemiterator", "odict_iterator", "itertools.zip_longest", "itertools.pairwise"].contains n=false) (hQ:Q () s):wpAny M A (letOwnedTupleGo tg (.ref it) u) Q E s:=by
 unfold letOwnedTupleGo
 cases tg<;>first
  |exact wpAny_pure hQ
  | (cases u<;>first
    |exact wpAny_pure hQ
    | (refine wpAny_bind (wpAny_load ho ?_)
       rw[hc,hd]
       show wpAny M A (if (["enumerate", "zip", "dict_itemiterator", "dict_reverseitemiterator", "odict_iterator", "itertools.zip_longest", "itertools.pairwise"].contains n&&vs[0]? == some (rawInt _))=true then _ else _) Q E s
       rw[if_neg (by intro h;rw[hn,Zxz] at h;cases h)]
       exact wpAny_pure hQ))
def Itl(K:Zzw)(a:Addr):It :=
 ⟨λi H=>∃xs x,SqL K H a xs/\xs[i]?=some x,λi H x H'=>H'=H/\∀xs,SqL K H a xs->xs[i]?=some x,λi H=>∃xs,SqL K H a xs/\xs.length<=i⟩
def Itt(K:Zzw)(a:Addr):It :=
 ⟨λi H=>∃xs x,SqT K H a xs/\xs[i]?=some x,λi H x H'=>H'=H/\∀xs,SqT K H a xs->xs[i]?=some x,λi H=>∃xs,SqT K H a xs/\xs.length<=i⟩
def Itr(lo:Int)(n:Nat):It:=⟨λi _=>i<n,λi H x H'=>H'=H/\x=.int (lo+i),λi _=>n<=i⟩
theorem Kr{P:Program}{w:World}{K:Zzw}{tg:Expr}(a it:Addr):Q9 P w K tg (Itl K a) [it] it (λi h=>h.IsListIter it a i) where
 mem:=by simp
 obj:=λi h st b hb=>by
  have e:b=it:=by simpa using hb
  subst e
  obtain⟨o,e,c,d⟩:=st
  exact⟨o,e,λv z=>by rw[d] at z;cases z⟩
 keep:=λi h h' st k=>st.at λo e=>k it (by simp) o e
 item:=by
  intro X hP hw hK hc i pins s Z H E I hf st hg
  subst hP hw hK
  obtain⟨xs,x,hq,hx⟩:=hg
  obtain⟨its,rv,p,hz⟩:=I.list hq
  obtain⟨u,hu,ru⟩:=rv.get hx
  obtain⟨f0,f1,f2,f3,f4,f5⟩:=hf it (by simp)
  refine wpAny_pyNext_list_item st p.isList (x:=u) (by simpa using hu) λh' st' sb=>?_
  have I1:Inv X pins Z H {s with heap:=h'}:=I.turned (t':=s.toks) (λb o hb e=>(sb.2 b hb).trans e) f0 f1 f3 f4 f5
  obtain⟨o,e,c,d⟩:=id st'
  exact⟨u,rfl,Yr (s:={s with heap:=h'}) e c d (by decide) ⟨x,H,I1,ru,⟨rfl,λys hy=>by rw[I.list_inj hy hq];exact hx⟩,st',λb hb=>(hf b hb).1⟩⟩
 done:=by
  intro X hP hw hK hc i pins s Z H E I hf st hg
  subst hP hw hK
  obtain⟨xs,hq,hx⟩:=hg
  obtain⟨its,rv,p,hz⟩:=I.list hq
  obtain⟨f0,f1,f2,f3,f4,f5⟩:=hf it (by simp)
  have hl:=rv.length
  exact wpAny_pyNext_list_end (I.ok.hd hc) st p.isList (by simp;omega) λh' eb=>⟨rfl,I.turned (t':=s.toks) (λb o hb e=>eb b o hb e) f0 f1 f3 f4 f5⟩
 self:=λ_ _ _ _ _ st h=>wpAny_pyIter_listiter st h
theorem Ja{P:Program}{w:World}{K:Zzw}{tg:Expr}(a it:Addr):Q9 P w K tg (Itt K a) [it] it (λi h=>h.IsTupleIter it a i) where
 mem:=by simp
 obj:=λi h st b hb=>by
  have e:b=it:=by simpa using hb
  subst e
  obtain⟨o,e,c,d⟩:=st
  exact⟨o,e,λv z=>by rw[d] at z;cases z⟩
 keep:=λi h h' st k=>st.at λo e=>k it (by simp) o e
 item:=by
  intro X hP hw hK hc i pins s Z H E I hf st hg
  subst hP hw hK
  obtain⟨xs,x,hq,hx⟩:=hg
  obtain⟨its,rv,p,hz⟩:=I.tuple hq
  obtain⟨u,hu,ru⟩:=rv.get hx
  obtain⟨f0,f1,f2,f3,f4,f5⟩:=hf it (by simp)
  refine wpAny_pyNext_tuple_item st (show s.heap.IsTuple a its.toArray from p) (x:=u) (by simpa using hu) λh' st' sb=>?_
  have I1:Inv X pins Z H {s with heap:=h'}:=I.turned (t':=s.toks) (λb o hb e=>(sb.2 b hb).trans e) f0 f1 f3 f4 f5
  obtain⟨o,e,c,d⟩:=id st'
  exact⟨u,rfl,Yr (s:={s with heap:=h'}) e c d (by decide) ⟨x,H,I1,ru,⟨rfl,λys hy=>by rw[I.tuple_inj hy hq];exact hx⟩,st',λb hb=>(hf b hb).1⟩⟩
 done:=by
  intro X hP hw hK hc i pins s Z H E I hf st hg
  subst hP hw hK
  obtain⟨xs,hq,hx⟩:=hg
  obtain⟨its,rv,p,hz⟩:=I.tuple hq
  obtain⟨f0,f1,f2,f3,f4,f5⟩:=hf it (by simp)
  have hl:=rv.length
  exact wpAny_pyNext_tuple_end (I.ok.hd hc) st (show s.heap.IsTuple a its.toArray from p) (by simp;omega) λh' eb=>⟨rfl,I.turned (t':=s.toks) (λb o hb e=>eb b o hb e) f0 f1 f3 f4 f5⟩
 self:=λ_ _ _ _ _ st h=>wpAny_pyIter_tupleiter st h
theorem Zg{P:Program}{w:World}{K:Zzw}{tg:Expr}(it:Addr)(lo:Int)(n:Nat):Q9 P w K tg (Itr lo n) [it] it (λi h=>IsRangeIter h it (lo+(i:Nat)*1) ((n:Int) - (i:Nat)) 1) where
 mem:=by simp
 obj:=λi h st b hb=>by
  have e:b=it:=by simpa using hb
  subst e
  exact⟨_,st,λv z=>by
   have z':Data.fields _=Data.cell v:=z
   cases z'⟩
 keep:=λi h h' st k=>k it (by simp) _ st
 item:=by
  intro X hP hw hK hc i pins s Z H E I hf st hg
  subst hP hw hK
  obtain⟨f0,f1,f2,f3,f4,f5⟩:=hf it (by simp)
  have W:=Walks.range (prog:=X.prog) (w:=X.w) (I.ok.hd hc) it lo 1 n
  refine W.item i s _ _ hg st λv h' tk hv st' kk=>?_
  obtain⟨t,rfl⟩:=hv
  have I1:Inv X pins Z H {s with heap:=h',toks:=tk}:=I.turned (λb o hb e=>kk b o (by simpa using hb) e) f0 f1 f3 f4 f5
  refine⟨_,rfl,Yr (s:={s with heap:=h',toks:=tk}) (n := "range_iterator") st' rfl rfl (by decide) ⟨.int (lo+i),H,I1,⟨t,?_⟩,⟨rfl,rfl⟩,st',λb hb=>(hf b hb).1⟩⟩
  rw[Int.mul_one]
 done:=by
  intro X hP hw hK hc i pins s Z H E I hf st hg
  subst hP hw hK
  obtain⟨f0,f1,f2,f3,f4,f5⟩:=hf it (by simp)
  exact wpAny_pyNext_range_end (I.ok.hd hc) st (by have:n<=i:=hg;omega) λh' eb=>⟨rfl,I.turned (t':=s.toks) (λb o hb e=>eb b o hb e) f0 f1 f3 f4 f5⟩
 self:=λ_ _ _ _ _ st h=>wpAny_pyIter_rangeiter st h
section
variable {X:Cx}{tg:Expr}
theorem Xn{pins:List (Addr×Obj)}{Z:St}{H:Hp}{s:Shared}{R:It->Hp->Prop}{E:Value->Shared->Prop}{lo hi:Int}{t u v:Tok}{tk:Nat}(I:Inv X pins Z H s)(h1:-(2^62)<=lo)(h2:lo<2^62)(h3:-(2^62)<=hi)(h4:hi<2^62)
  (q:R (Itr lo (hi - lo).toNat) H):wpAny (model X.prog X.w) X.A (pyIter (.ref s.heap.objs.size)) (PIE X pins Z tg R) E {s with heap:=s.heap.push {cls:=.type "range",data:=.fields #[.int lo t,.int hi u,.int 1 v]},toks:=tk}:=by
 refine wpAny_pyIter_range (IsRange.new ..) (small_one h1 h2 h3 h4) ?_
 have I1:Inv X pins Z H {s with heap:=s.heap.push {cls:=.type "range",data:=.fields #[.int lo t,.int hi u,.int 1 v]},toks:=tk}:=I.kept λb o e=>Zzx _ e
 refine⟨(s.heap.push {cls:=.type "range",data:=.fields #[.int lo t,.int hi u,.int 1 v]}).objs.size,[(s.heap.push {cls:=.type "range",data:=.fields #[.int lo t,.int hi u,.int 1 v]}).objs.size],_,_,H,rfl,
  I1.kept (t':=tk) λb o e=>Zzx _ e,Zg _ lo (hi - lo).toNat,?_,λb hb=>?_,q⟩
 ·have e1:lo+((0:Nat):Int)*1=lo:=by simp
  have e2:(((hi - lo).toNat:Nat):Int) - ((0:Nat):Int)=Builtin.Range.rangeSize lo hi 1:=by rw[rangeSize_one];split<;>omega
  show IsRangeIter _ _ (lo+((0:Nat):Int)*1) ((((hi - lo).toNat:Nat):Int) - ((0:Nat):Int)) 1
  rw[e1,e2]
  exact Zze _ rfl
 ·have e:b=(s.heap.push {cls:=.type "range",data:=.fields #[.int lo t,.int hi u,.int 1 v]}).objs.size:=by simpa using hb
  subst e
  exact I1.fpOk (Zzm _) (I1.hok.fresh (Zzm _))
def E9(ta:TA):TI:=λZ H R=>ta Z H λvs H1=>∃j:Int,vs=[.int j]/\-(2^62)<=j/\j<2^62/\R (Itr 0 j.toNat) H1
def E8(ta:TA):TI:=λZ H R=>ta Z H λvs H1=>∃i j:Int,vs=[.int i,.int j]/\(-(2^62)<=i/\i<2^62/\-(2^62)<=j/\j<2^62)/\R (Itr i (j - i).toNat) H1
theorem i8{a:Expr}{ta:TA}{p pos:Pos}(hg:Gl X "range")(hm:X.mg "range" = none)(ha:PA X [a] ta)(hs:starEach [a] X.env=[(false,eval a X.env)]:=by rfl):PI X tg (.Call (.Name "range" p) [a] [] pos) (E9 ta):=by
 intro pins s Z H R I h
 refine Call_ (Jh I hg hm boot_range (Zxq (thn (ha pos pins s Z H _ I h) λus s1 ⟨vs,H1,I1,r1,q1⟩=>?_) hs rfl))
 obtain⟨j,e,q1,q2,q⟩:=q1
 subst e
 cases r1 with
 |cons r rr =>
  cases rr
  obtain⟨t,rfl⟩:=r
  exact call_range_1 (Xn I1 (by omega) (by omega) q1 q2 (by simpa using q))
theorem gz{a b:Expr}{ta:TA}{p pos:Pos}(hg:Gl X "range")(hm:X.mg "range" = none)(ha:PA X [a,b] ta)(hs:starEach [a,b] X.env=[(false,eval a X.env),(false,eval b X.env)]:=by rfl)(hs2:starEach [b] X.env=[(false,eval b X.env)]:=by rfl) :
  PI X tg (.Call (.Name "range" p) [a,b] [] pos) (E8 ta):=by
 intro pins s Z H R I h
 refine Call_ (Jh I hg hm boot_range (Zxq (thn (ha pos pins s Z H _ I h) λus s1 ⟨vs,H1,I1,r1,q1⟩=>?_) (by rw[hs,hs2]) (by rw[hs2];rfl)))
 obtain⟨i,j,e,⟨q1,q2,q3,q4⟩,q⟩:=q1
 subst e
 cases r1 with
 |cons r rr =>
  cases rr with
  |cons r' rr =>
   cases rr
   obtain⟨t,rfl⟩:=r
   obtain⟨t',rfl⟩:=r'
   exact call_range_2 (Xn I1 q1 q2 q3 q4 q)
def zz(wi:TI)(g:TG)(tb:TS):TS:=λD Z H=>wi Z H λJ H1=>∃W:Nat->Nat->St->Hp->Prop,(∃m,W 0 m Z H1)/\∀i m Z H,W i m Z H ->
 (J.stop i H/\D.nx Z H)\/(J.go i H/\∃N:St->Hp->Prop,(∀Z' H',N Z' H'->∃m',m'<m/\W (i+1) m' Z' H')/\∀x H',J.yld i H x H'->g x Z H' λσ2 H2=>tb {D with nx:=N,ct:=N,bk:=D.nx} σ2 H2)
def Pu(fp:List Addr)(h:Heap):List (Addr×Obj):=fp.filterMap λb=>(h.get? b).map λo=>(b,o)
theorem Mp{fp:List Addr}{h:Heap}{b:Addr}{o:Obj}(hb:b∈fp)(e:h.get? b=some o):(b,o)∈Pu fp h:=Zw3.mpr ⟨b,hb,by rw[e];rfl⟩
theorem ip{fp:List Addr}{h:Heap}{p:Addr×Obj}(hp:p∈Pu fp h):p.1∈fp/\h.get? p.1=some p.2:=by
 obtain⟨b,hb,e⟩:=Zw3.mp hp
 cases q:h.get? b with
 |none=>rw[q] at e;cases e
 |some o =>
  rw[q] at e
  have e':(b,o)=p:=Zz3 e
  subst e'
  exact⟨hb,q⟩
theorem Inv.pinned{pins:List (Addr×Obj)}{Z:St}{H:Hp}{s:Shared}{fp:List Addr}(I:Inv X pins Z H s)(hf:∀b∈fp,N6 X pins H b)(ho:∀b∈fp,∃o,s.heap.get? b=some o/\∀v,o.data≠.cell v):Inv X (pins++Pu fp s.heap) Z H s :=
 I.pins_of λp hp=>(Zyj.mp hp).elim (λz=>I.pin p (Zyd _ z)) λz=>by
  obtain⟨hb,e⟩:=ip z
  obtain⟨f0,f1,f2,_⟩:=hf p.1 hb
  obtain⟨o,e',d⟩:=ho p.1 hb
  rw[e] at e';cases e'
  exact⟨e,f0,f1,f2,d⟩
theorem Inv.unpinned{pins pl:List (Addr×Obj)}{Z:St}{H:Hp}{s:Shared}(I:Inv X (pins++pl) Z H s):Inv X pins Z H s:=I.pins_of λp hp=>I.pin p (Zyd _ (Zxa _ hp))
theorem D2{iter:Expr}{body:List Stmt}{wi:TI}{g:TG}{tb:TS}{pos:Pos}(hp:PassesOwn (model X.prog X.w) X.A X.env X.xe)(hc:X.calm=true)(hi:PI X tg iter wi)(hg:PG X tg g)(hb:PSs X body tb)
  (hs:∀x,foldedSetIterable iter X.env x=pure x:=by intro _;rfl):PS X (.For tg iter body [] pos) (zz wi g tb):=by
 intro pins s Z H D I h
 refine wpAny_For (thn (hi pins s Z H _ I h) λv s1 h1=>thn h1 λitv s2 h2=>?_) hs
 obtain⟨it,fp,tn,J,H2,e,I2,T,st2,f2,W,⟨m0,w0⟩,turn⟩:=h2
 subst e
 have stat:∀{H':Hp},(∀b∈fp,H' b=none)->∀b∈fp,N6 X pins H' b:=λhn b hb=>⟨hn b hb,(f2 b hb).2⟩
 refine codeAny_forLoop_any (λn s'=>∃i Z' H',Inv X pins Z' H' s'/\tn i s'.heap/\(∀b∈fp,H' b=none)/\W i n Z' H') ?_ m0 ⟨0,Z,H2,I2,st2,λb hb=>(f2 b hb).1,w0⟩
 rintro n s3 ⟨i,σ3,H3,I3,st3,fr3,w3⟩
 rcases turn i n σ3 H3 w3 with ⟨stop,qn⟩ | ⟨go,N,hN,step⟩
 ·refine wpAny_passesOwn hp (thn (T.done X rfl rfl rfl hc i pins s3 σ3 H3 X.xe I3 (stat fr3) st3 stop) λr s4 z0=>?_)
  obtain⟨hr,I4⟩:=z0
  subst hr
  exact wpAny_execs_nil ⟨σ3,H3,I4,qn⟩
 ·refine wpAny_passesOwn hp (thn (T.item X rfl rfl rfl hc i pins s3 σ3 H3 X.xe I3 (stat fr3) st3 go) λr s4 z0=>?_)
  obtain⟨u,hr,h4⟩:=z0
  subst hr
  refine wpAny_passesOwn hp (thn h4 λ_ s5 z0=>?_)
  obtain⟨x,H5,I5,r5,y5,st5,fr5⟩:=z0
  have I5':=I5.pinned (stat fr5) (T.obj _ _ st5)
  refine wpAny_passesOwn hp (thn (hg _ s5 σ3 H5 x u _ I5' r5 (step x H5 y5)) λ_ s6 z0=>?_)
  obtain⟨σ6,H6,I6,q6⟩:=z0
  refine wpAny_passesOwn hp (thn (hb _ s6 σ6 H6 _ I6 q6) λf s7 q7=>?_)
  have again:∀{σ7:St} {H7:Hp},Inv X (pins++Pu fp s5.heap) σ7 H7 s7->N σ7 H7->∃m,m<n/\∃i Z' H',Inv X pins Z' H' s7/\tn i s7.heap/\(∀b∈fp,H' b=none)/\W i m Z' H':=λ{σ7 H7} I7 n7=>by
   obtain⟨m',hm,w7⟩:=hN σ7 H7 n7
   refine⟨m',hm,i+1,σ7,H7,I7.unpinned,T.keep _ _ _ st5 λb hb o e=>(I7.pin (b,o) (Zyd _ (Zyd _ (Mp hb e)))).1,λb hb=>?_,w7⟩
   obtain⟨o,e,d⟩:=T.obj _ _ st5 b hb
   exact(I7.pin (b,o) (Zyd _ (Zyd _ (Mp hb e)))).2.1
  cases f with
  |next=>obtain⟨σ7,H7,I7,n7⟩:=q7;exact again I7 n7
  |cont=>obtain⟨σ7,H7,I7,n7⟩:=q7;exact again I7 n7
  |brk=>obtain⟨σ7,H7,I7,q7⟩:=q7;exact⟨σ7,H7,I7.unpinned,q7⟩
  |ret v=>obtain⟨x7,σ7,H7,I7,r7,q7⟩:=q7;exact⟨x7,σ7,H7,I7.unpinned,r7,q7⟩
end
abbrev R2:=V->V->Hp->VK->Prop
def OpR(X:Cx)(f:Value->Value->Sem Value)(r:R2):Prop :=
 ∀(pins:List (Addr×Obj)) (s:Shared) (Z:St) (H:Hp) (x y:V) (v u:Value) (Q:VK),Inv X pins Z H s->RelV x v->RelV y u->r x y H Q ->
  wpAny (model X.prog X.w) X.A (f v u) (EP X pins Z Q) X.xe s
def UnR(X:Cx)(f:Value->Sem Value)(r:V->Hp->VK->Prop):Prop :=
 ∀(pins:List (Addr×Obj)) (s:Shared) (Z:St) (H:Hp) (x:V) (v:Value) (Q:VK),Inv X pins Z H s->RelV x v->r x H Q ->
  wpAny (model X.prog X.w) X.A (f v) (EP X pins Z Q) X.xe s
def CallR(X:Cx)(f:Value)(r:List V->Hp->VK->Prop):Prop :=
 ∀(pins:List (Addr×Obj)) (s:Shared) (Z:St) (H:Hp) (xs:List V) (us:List Value) (Q:VK),Inv X pins Z H s->Vals xs us->r xs H Q ->
  wpAny (model X.prog X.w) X.A (call f us) (EP X pins Z Q) X.xe s
def TruR(X:Cx)(r:V->Hp->(Bool->Hp->Prop)->Prop):Prop :=
 ∀(pins:List (Addr×Obj)) (s:Shared) (Z:St) (H:Hp) (x:V) (v:Value) (Q:Bool->Hp->Prop),Inv X pins Z H s->RelV x v->r x H Q ->
  wpAny (model X.prog X.w) X.A (truthy v) (TP X pins Z Q) X.xe s
def tOp(r:R2)(ta tb:TE):TE:=λZ H Q=>ta Z H λx H1=>tb Z H1 λy H2=>r x y H2 Q
def tUn(r:V->Hp->VK->Prop)(ta:TE):TE:=λZ H Q=>ta Z H λx H1=>r x H1 Q
def rI(C:Int->Int->Prop)(g:Int->Int->V):R2:=λx y H Q=>∃i j,x=.int i/\y=.int j/\C i j/\Q (g i j) H
def rI0(g:Int->Int->V):R2:=λx y H Q=>∃i j,x=.int i/\y=.int j/\Q (g i j) H
def rU(g:Int->V):V->Hp->VK->Prop:=λx H Q=>∃i,x=.int i/\Q (g i) H
section
variable {X:Cx}{a b c:Expr}{ta tb tc:TE}{pos:Pos}
theorem za(ha:PE X a ta)(hb:PE X b tb){pins:List (Addr×Obj)}{s:Shared}{Z:St}{H:Hp}{R:V->V->Hp->Prop}(I:Inv X pins Z H s)
  (h:ta Z H λx H1=>tb Z H1 λy H2=>R x y H2) {Q:Value->Shared->Prop} {f:Value->Value->Sem Value}
  (hf:∀v u s2 x y H2,Inv X pins Z H2 s2->RelV x v->RelV y u->R x y H2->wpAny (model X.prog X.w) X.A (f v u) Q X.xe s2) :
  wpAny (model X.prog X.w) X.A (eval a X.env) (λv s₁=>wpAny (model X.prog X.w) X.A (eval b X.env) (λu s₂=>wpAny (model X.prog X.w) X.A (f v u) Q X.xe s₂) X.xe s₁) X.xe s:=by
 refine thn (ha pins s Z H _ I h) λv s1 z0=>?_
 obtain⟨x,H1,I1,r1,q1⟩:=z0
 refine thn (hb pins s1 Z H1 _ I1 q1) λu s2 z0=>?_
 obtain⟨y,H2,I2,r2,q2⟩:=z0
 exact hf v u s2 x y H2 I2 r1 r2 q2
theorem C7{op:Operator}{r:R2}(ho:OpR X (binaryOp op) r)(ha:PE X a ta)(hb:PE X b tb):PE X (.BinOp a op b pos) (tOp r ta tb):=by
 intro pins s Z H Q I h
 exact wpAny_BinOp (za ha hb I h λv u s2 x y H2 I2 rx ry q=>ho pins s2 Z H2 x y v u Q I2 rx ry q)
theorem Xp{op:UnaryOp}{r:V->Hp->VK->Prop}(ho:UnR X (unaryOp op) r)(ha:PE X a ta):PE X (.UnaryOp op a pos) (tUn r ta):=by
 intro pins s Z H Q I h
 exact UnaryOp_ (thn (ha pins s Z H _ I h) λv s1 z0=>by obtain⟨x,H1,I1,r1,q1⟩:=z0;exact ho pins s1 Z H1 x v Q I1 r1 q1)
theorem opI{f:Value->Value->Sem Value}{C:Int->Int->Prop}{g:Int->Int->Int}
  (rule:∀(i j:Int) (t u:Tok) (s:Shared) (Q:Value->Shared->Prop) (E:Value->Shared->Prop),C i j->Q (.int (g i j) s.toks) {s with toks:=s.toks+1}->wpAny (model X.prog X.w) X.A (f (.int i t) (.int j u)) Q E s) :
  OpR X f (rI C λi j=>.int (g i j)):=by
 intro pins s Z H x y v u Q I rx ry h
 obtain⟨i,j,rfl,rfl,hc,q⟩:=h
 obtain⟨t,rfl⟩:=rx
 obtain⟨t',rfl⟩:=ry
 exact rule i j t t' s _ _ hc ⟨.int (g i j),H,I.tok _,⟨_,rfl⟩,q⟩
theorem yf{f:Value->Value->Sem Value}{g:Int->Int->Int}
  (rule:∀(i j:Int) (t u:Tok) (s:Shared) (Q:Value->Shared->Prop) (E:Value->Shared->Prop),Q (.int (g i j) s.toks) {s with toks:=s.toks+1}->wpAny (model X.prog X.w) X.A (f (.int i t) (.int j u)) Q E s) :
  OpR X f (rI0 λi j=>.int (g i j)):=by
 intro pins s Z H x y v u Q I rx ry h
 obtain⟨i,j,rfl,rfl,q⟩:=h
 obtain⟨t,rfl⟩:=rx
 obtain⟨t',rfl⟩:=ry
 exact rule i j t t' s _ _ ⟨.int (g i j),H,I.tok _,⟨_,rfl⟩,q⟩
theorem uy{f:Value->Value->Sem Value}{g:Int->Int->Bool}
  (rule:∀(i j:Int) (t u:Tok) (s:Shared) (Q:Value->Shared->Prop) (E:Value->Shared->Prop),Q (.bool (g i j)) s->wpAny (model X.prog X.w) X.A (f (.int i t) (.int j u)) Q E s) :
  OpR X f (rI0 λi j=>.bl (g i j)):=by
 intro pins s Z H x y v u Q I rx ry h
 obtain⟨i,j,rfl,rfl,q⟩:=h
 obtain⟨t,rfl⟩:=rx
 obtain⟨t',rfl⟩:=ry
 exact rule i j t t' s _ _ ⟨.bl (g i j),H,I,rfl,q⟩
def CPow(i j:Int):Prop:=0<=j/\j<=1000000/\i.natAbs<2^64
def CMul(i j:Int):Prop:=(-(2^64)<i/\i<2^64)\/(-(2^64)<j/\j<2^64)
theorem CMul.ok{i j:Int}(h:CMul i j):IntMulOk i j:=by
 rcases h with ⟨h1,h2⟩ | ⟨h1,h2⟩
 ·exact .of_left (intBits_le_64 h1 h2)
 ·exact .of_right (intBits_le_64 h1 h2)
theorem Ds:OpR X (binaryOp .Add) (rI0 λi j=>.int (i+j)):=yf λ_ _ _ _ _ _ _ q=>add_int q
theorem Ou:OpR X (binaryOp .Sub) (rI0 λi j=>.int (i - j)):=yf λ_ _ _ _ _ _ _ q=>sub_int q
theorem Pw:OpR X (binaryOp .Mod) (rI (λ_ j=>0<j) λi j=>.int (i % j)):=opI λi j _ _ _ _ _ hc q=>by
 have h1:(0:Int)<j:=hc
 exact mod_int' (by omega) (by rw[Int.fmod_eq_emod_of_nonneg i (by omega)];exact q)
theorem mo:OpR X (binaryOp .Pow) (rI CPow λi j=>.int (i^j.toNat)):=opI λ_ _ _ _ _ _ _ hc q=>pow_int_small hc.1 hc.2.1 hc.2.2 q
theorem vn:OpR X (inplaceOp .Add) (rI0 λi j=>.int (i+j)):=yf λ_ _ _ _ _ _ _ q=>iadd_int q
theorem unI{f:Value->Sem Value}{g:Int->Int}
  (rule:∀(i:Int) (t:Tok) (s:Shared) (Q:Value->Shared->Prop) (E:Value->Shared->Prop),Q (.int (g i) s.toks) {s with toks:=s.toks+1}->wpAny (model X.prog X.w) X.A (f (.int i t)) Q E s) :
  UnR X f (rU λi=>.int (g i)):=by
 intro pins s Z H x v Q I rx h
 obtain⟨i,rfl,q⟩:=h
 obtain⟨t,rfl⟩:=rx
 exact rule i t s _ _ ⟨.int (g i),H,I.tok _,⟨_,rfl⟩,q⟩
theorem Rm:UnR X (unaryOp .USub) (rU λi=>.int (-i)):=unI λ_ _ _ _ _ q=>neg_int q
end
def lm:V->V->Bool
 |.non,.non=>true | .non,.int _=>true | .int _,.non=>true | .non,.bl _=>true | .bl _,.non=>true | .non,.str _=>true | .str _,.non=>true
 |.int _,.int _=>true | .bl _,.bl _=>true | .str _,.str _=>true | .byt _,.byt _=>true
 |.int _,.str _=>true | .str _,.int _=>true | .bl _,.str _=>true | .str _,.bl _=>true
 |_,_=>false
def rEq:R2:=λx y H Q=>lm x y=true/\Q (.bl (decide (x=y))) H
def rNe:R2:=λx y H Q=>lm x y=true/\Q (.bl (!decide (x=y))) H
theorem fg{i j:Int}:decide (V.int i=V.int j)=(i == j):=by
 rw[Zvl]
 simp
theorem pz{i j:Bool}:decide (V.bl i=V.bl j)=(i == j):=by
 rw[Zvl]
 simp
theorem ff{i j:Str}:decide (V.str i=V.str j)=(i == j):=by
 rw[Zvl]
 simp
theorem fh{i j:Array UInt8}:decide (V.byt i=V.byt j)=(i.toList == j.toList):=by
 rw[Zvl]
 cases i
 cases j
 simp
section
variable {X:Cx}{a b c:Expr}{ta tb tc:TE}{pos:Pos}
theorem Di{pins:List (Addr×Obj)}{Z:St}{H:Hp}{s:Shared}{Q:VK}{k k':Bool}(I:Inv X pins Z H s)(q:Q (.bl k) H)(e:k=k'):EP X pins Z Q (.bool k') s:=by
 subst e
 exact⟨.bl k,H,I,rfl,q⟩
theorem A06:OpR X (compareOp .Eq) rEq:=by
 intro pins s Z H x y v u Q I rx ry h
 obtain⟨hs,q⟩:=h
 cases x with
 |non =>
  cases rx
  cases y with
  |non=>cases ry;exact PySem.EqNone.eq_none_none (Di I q (by simp))
  |bl j=>cases ry;exact PySem.EqNone.eq_none_bool (Di I q (by simp))
  |int j=>obtain⟨t',rfl⟩:=ry;exact PySem.EqNone.eq_none_int (Di I q (by simp))
  |str j=>obtain⟨t',rfl⟩:=ry;exact PySem.EqNone.eq_none_str (Di I q (by simp))
  |_=>exact absurd (show false=true from hs) Zz9
 |bl i =>
  cases rx
  cases y with
  |non=>cases ry;exact PySem.EqNone.eq_bool_none (Di I q (by simp))
  |bl j=>cases ry;exact eq_bool (Di I q pz)
  |str j=>obtain⟨t',rfl⟩:=ry;exact PySem.EqMixed.eq_bool_str (Di I q (by simp))
  |_=>exact absurd (show false=true from hs) Zz9
 |int i =>
  obtain⟨t,rfl⟩:=rx
  cases y with
  |non=>cases ry;exact PySem.EqNone.eq_int_none (Di I q (by simp))
  |int j=>obtain⟨t',rfl⟩:=ry;exact eq_int (Di I q fg)
  |str j=>obtain⟨t',rfl⟩:=ry;exact PySem.EqMixed.eq_int_str (Di I q (by simp))
  |_=>exact absurd (show false=true from hs) Zz9
 |str i =>
  obtain⟨t,rfl⟩:=rx
  cases y with
  |non=>cases ry;exact PySem.EqNone.eq_str_none (Di I q (by simp))
  |bl j=>cases ry;exact PySem.EqMixed.eq_str_bool (Di I q (by simp))
  |int j=>obtain⟨t',rfl⟩:=ry;exact PySem.EqMixed.eq_str_int (Di I q (by simp))
  |str j=>obtain⟨t',rfl⟩:=ry;exact eq_str (Di I q ff)
  |_=>exact absurd (show false=true from hs) Zz9
 |byt i =>
  obtain⟨t,rfl⟩:=rx
  cases y with
  |byt j=>obtain⟨t',rfl⟩:=ry;exact PySem.W.eq_bytes (Di I q fh)
  |_=>exact absurd (show false=true from hs) Zz9
 |_=>cases y<;>exact absurd (show false=true from hs) Zz9
theorem A04:OpR X (compareOp .NotEq) rNe:=by
 intro pins s Z H x y v u Q I rx ry h
 obtain⟨hs,q⟩:=h
 cases x with
 |non =>
  cases rx
  cases y with
  |non=>cases ry;exact PySem.EqNone.ne_none_none (Di I q (by simp))
  |bl j=>cases ry;exact PySem.EqNone.ne_none_bool (Di I q (by simp))
  |int j=>obtain⟨t',rfl⟩:=ry;exact PySem.EqNone.ne_none_int (Di I q (by simp))
  |str j=>obtain⟨t',rfl⟩:=ry;exact PySem.EqNone.ne_none_str (Di I q (by simp))
  |_=>exact absurd (show false=true from hs) Zz9
 |bl i =>
  cases rx
  cases y with
  |non=>cases ry;exact PySem.EqNone.ne_bool_none (Di I q (by simp))
  |bl j=>cases ry;exact ne_bool (Di I q (congrArg not pz))
  |str j=>obtain⟨t',rfl⟩:=ry;exact PySem.EqMixed.ne_bool_str (Di I q (by simp))
  |_=>exact absurd (show false=true from hs) Zz9
 |int i =>
  obtain⟨t,rfl⟩:=rx
  cases y with
  |non=>cases ry;exact PySem.EqNone.ne_int_none (Di I q (by simp))
  |int j=>obtain⟨t',rfl⟩:=ry;exact ne_int (Di I q (congrArg not fg))
  |str j=>obtain⟨t',rfl⟩:=ry;exact PySem.EqMixed.ne_int_str (Di I q (by simp))
  |_=>exact absurd (show false=true from hs) Zz9
 |str i =>
  obtain⟨t,rfl⟩:=rx
  cases y with
  |non=>cases ry;exact PySem.EqNone.ne_str_none (Di I q (by simp))
  |bl j=>cases ry;exact PySem.EqMixed.ne_str_bool (Di I q (by simp))
  |int j=>obtain⟨t',rfl⟩:=ry;exact PySem.EqMixed.ne_str_int (Di I q (by simp))
  |str j=>obtain⟨t',rfl⟩:=ry;exact ne_str (Di I q (congrArg not ff))
  |_=>exact absurd (show false=true from hs) Zz9
 |byt i =>
  obtain⟨t,rfl⟩:=rx
  cases y with
  |byt j=>obtain⟨t',rfl⟩:=ry;exact PySem.W.ne_bytes (Di I q (congrArg not fh))
  |_=>exact absurd (show false=true from hs) Zz9
 |_=>cases y<;>exact absurd (show false=true from hs) Zz9
theorem A05:OpR X (compareOp .Lt) (rI0 λi j=>.bl (decide (i<j))):=uy λ_ _ _ _ _ _ _ q=>lt_int q
theorem S7:OpR X (compareOp .LtE) (rI0 λi j=>.bl (decide (i<=j))):=uy λ_ _ _ _ _ _ _ q=>le_int q
theorem Xs:OpR X (compareOp .Gt) (rI0 λi j=>.bl (decide (j<i))):=uy λ_ _ _ _ _ _ _ q=>gt_int q
theorem xi:OpR X (compareOp .GtE) (rI0 λi j=>.bl (decide (j<=i))):=uy λ_ _ _ _ _ _ _ q=>ge_int q
theorem ig:OpR X (compareOp .In) (λx y H Q=>∃i j,x=.str i/\y=.str j/\Q (.bl (!(Builtin.Str.occurrences j i 0 j.length 1).isEmpty)) H):=by
 intro pins s Z H x y v u Q I rx ry h
 obtain⟨i,j,rfl,rfl,q⟩:=h
 obtain⟨t,rfl⟩:=rx
 obtain⟨t',rfl⟩:=ry
 exact in_str (Di I q rfl)
theorem yd:OpR X (compareOp .Is) (λx y H Q=>y=.non/\Q (.bl (decide (x=.non))) H):=by
 intro pins s Z H x y v u Q I rx ry h
 obtain⟨rfl,q⟩:=h
 cases ry
 refine is_none_gen (Di I q ?_)
 cases x<;>first
  | (cases rx;rfl)
  | (obtain⟨t,rfl⟩:=rx;rfl)
theorem uo:OpR X (compareOp .IsNot) (λx y H Q=>y=.non/\Q (.bl (!decide (x=.non))) H):=by
 intro pins s Z H x y v u Q I rx ry h
 obtain⟨rfl,q⟩:=h
 cases ry
 refine isnot_none_gen (Di I q ?_)
 cases x<;>first
  | (cases rx;rfl)
  | (obtain⟨t,rfl⟩:=rx;rfl)
theorem OpR.or{f:Value->Value->Sem Value}{r r':R2}(h:OpR X f r)(h':OpR X f r'):OpR X f (λx y H Q=>r x y H Q\/r' x y H Q):=by
 intro pins s Z H x y v u Q I rx ry q
 rcases q with q | q
 ·exact h pins s Z H x y v u Q I rx ry q
 ·exact h' pins s Z H x y v u Q I rx ry q
theorem Cc(b:Expr){op:CmpOp}(h:op≠.In:=by decide)(h2:op≠.NotIn:=by decide):behindInMarks op b=false:=by
 have e1:(op == CmpOp.In)=false:=by cases op<;>first | rfl | exact absurd rfl h
 have e2:(op == CmpOp.NotIn)=false:=by cases op<;>first | rfl | exact absurd rfl h2
 cases b<;>simp[behindInMarks,e1,e2]
theorem Ih{op:CmpOp}{r:R2}(ho:OpR X (compareOp op) r)(ha:PE X a ta)(hb:PE X b tb)(hm:behindInMarks op b=false):PE X (.Compare a [op] [b] pos) (tOp r ta tb):=by
 intro pins s Z H Q I h
 exact wpAny_Compare1 (za ha hb I h λv u s2 x y H2 I2 rx ry q=>ho pins s2 Z H2 x y v u Q I2 rx ry q) hm
def E2(t:TE):TT:=λZ H Q=>t Z H λx H'=>∃k,x=.bl k/\Q k H'
theorem C6{op:CmpOp}{r:R2}(ho:OpR X (compareOp op) r)(ha:PE X a ta)(hb:PE X b tb)(hm:behindInMarks op b=false):PT X (.Compare a [op] [b] pos) (E2 (tOp r ta tb)):=by
 intro pins s Z H Q I h
 refine wpAny_isTrue_Compare1 (thn (ha pins s Z H _ I h) λv s1 ⟨x,H1,I1,r1,q1⟩=>thn (hb pins s1 Z H1 _ I1 q1) λu s2 ⟨y,H2,I2,r2,q2⟩ =>
  thn (ho pins s2 Z H2 x y v u _ I2 r1 r2 q2) λc s3 ⟨z,H3,I3,r3,k,e,q3⟩=>?_) hm
 subst e
 cases r3
 exact wpAny_truthy_bool ⟨H3,I3,q3⟩
def D9(r r':R2)(ta tb tc:TE):TE:=λZ H Q=>ta Z H λx H1=>tb Z H1 λy H2=>r x y H2 λz H3=>∃k,z=.bl k /\
 (if k=true then tc Z H3 λw' H4=>r' y w' H4 Q else Q (.bl false) H3)
theorem ml{op op':CmpOp}{r r':R2}(ho:OpR X (compareOp op) r)(ho':OpR X (compareOp op') r')(ha:PE X a ta)(hb:PE X b tb)(hc:PE X c tc)
  (hm:lastMarks [op,op'] [b,c]=false:=by with_unfolding_all rfl):PE X (.Compare a [op,op'] [b,c] pos) (D9 r r' ta tb tc):=by
 intro pins s Z H Q I h
 refine Compare_chain (thn (ha pins s Z H _ I h) λv s1 ⟨x,H1,I1,r1,q1⟩=>chain_link (thn (hb pins s1 Z H1 _ I1 q1) λu s2 ⟨y,H2,I2,r2,q2⟩ =>
  thn (ho pins s2 Z H2 x y v u _ I2 r1 r2 q2) λd s3 ⟨z,H3,I3,r3,k,e,q3⟩=>?_)) hm
 subst e
 cases r3
 refine wpAny_truthy_bool ?_
 cases k with
 |false=>exact ite_ff ⟨.bl false,H3,I3,rfl,q3⟩
 |true=>exact ite_tt (chain_last (thn (hc pins s3 Z H3 _ I3 q3) λw' s4 z0=>by obtain⟨z',H4,I4,r4,q4⟩:=z0;exact ho' pins s4 Z H4 y z' u w' Q I4 r2 r4 q4))
theorem Xo{op op':CmpOp}{r r':R2}(ho:OpR X (compareOp op) r)(ho':OpR X (compareOp op') r')(ha:PE X a ta)(hb:PE X b tb)(hc:PE X c tc)
  (hm:lastMarks [op,op'] [b,c]=false:=by with_unfolding_all rfl):PT X (.Compare a [op,op'] [b,c] pos) (E2 (D9 r r' ta tb tc)):=by
 intro pins s Z H Q I h
 refine isTrue_chain (thn (ha pins s Z H _ I h) λv s1 ⟨x,H1,I1,r1,q1⟩=>test_link (thn (hb pins s1 Z H1 _ I1 q1) λu s2 ⟨y,H2,I2,r2,q2⟩ =>
  thn (ho pins s2 Z H2 x y v u _ I2 r1 r2 q2) λd s3 ⟨z,H3,I3,r3,k,e,q3⟩=>?_)) hm
 subst e
 cases r3
 refine wpAny_truthy_bool ?_
 cases k with
 |false =>
  obtain⟨k',e',q'⟩:=q3
  cases e'
  exact ite_ff ⟨H3,I3,q'⟩
 |true =>
  refine ite_tt (test_last (thn (hc pins s3 Z H3 _ I3 q3) λw' s4 ⟨z',H4,I4,r4,q4⟩=>thn (ho' pins s4 Z H4 y z' u w' _ I4 r2 r4 q4) λd' s5 z0=>?_))
  obtain⟨z2,H5,I5,r5,k2,e2,q5⟩:=z0
  subst e2
  cases r5
  exact wpAny_truthy_bool ⟨H5,I5,q5⟩
def TruV(K:Zzw)(x:V)(H:Hp)(k:Bool):Prop :=
 match x with
 |.non=>k=false
 |.bl b=>k=b
 |.int i=>k=(i != 0)
 |.str y=>y.length<=sizeLine/\k=((y.length:Int) != 0)
 |.byt y=>y.size<=sizeLine/\k=((y.size:Int) != 0)
 |.ref p=>(∃xs,SqL K H p xs/\k=!xs.isEmpty)\/(∃xs,SqT K H p xs/\k=!xs.isEmpty)\/∃kvs,H p=some (.dK kvs)/\k=!kvs.isEmpty
 |_=>False
theorem az{κ:Type}{kvs:List (κ×V)}{vs:List (κ×Value)}(r:KV kvs vs):(!vs.isEmpty)=!kvs.isEmpty:=by
 cases r<;>rfl
theorem Sr{xs:List V}{its:List Value}(r:Vals xs its):(!its.toArray.isEmpty)=!xs.isEmpty:=by
 cases r<;>simp
theorem Nf:(sizeLine:Nat)<2^63:=by rw[sizeLine_eq];decide
theorem kj:TruR X (λx H Q=>∃k,TruV X.K x H k/\Q k H):=by
 intro pins s Z H x v Q I rx h
 obtain⟨k,e,q⟩:=h
 have hl:=Nf
 have hs:sizeLine=16777216:=sizeLine_eq
 cases x with
 |non =>
  cases rx
  have e':k=false:=e
  subst e'
  exact truthy_none ⟨H,I,q⟩
 |bl b =>
  cases rx
  have e':k=b:=e
  subst e'
  exact wpAny_truthy_bool ⟨H,I,q⟩
 |int i =>
  obtain⟨t,rfl⟩:=rx
  have e':k=(i != 0):=e
  subst e'
  exact PySem.P.truthy_int ⟨H,I,q⟩
 |str y =>
  obtain⟨t,rfl⟩:=rx
  obtain⟨hy,e'⟩:y.length<=sizeLine/\k=((y.length:Int) != 0):=e
  subst e'
  exact PySem.P.truthy_str (by omega) ⟨H,I.tok _,q⟩
 |byt y =>
  obtain⟨t,rfl⟩:=rx
  obtain⟨hy,e'⟩:y.size<=sizeLine/\k=((y.size:Int) != 0):=e
  subst e'
  exact PySem.W.truthy_bytes (by omega) ⟨H,I.tok _,q⟩
 |ref p =>
  cases rx
  have e':(∃xs,SqL X.K H p xs/\k=!xs.isEmpty)\/(∃xs,SqT X.K H p xs/\k=!xs.isEmpty)\/∃kvs,H p=some (.dK kvs)/\k=!kvs.isEmpty:=e
  rcases e' with ⟨xs,hx,e'⟩ | ⟨xs,hx,e'⟩ | ⟨kvs,hx,e'⟩
  ·subst e'
   obtain⟨its,r,pl,hz⟩:=I.list hx
   have hlen:=r.length
   exact wpAny_truthy_list pl.isList (by simp only[Zzl];omega) ⟨H,I.tok _,by rw[Sr r];exact q⟩
  ·subst e'
   obtain⟨its,r,pl,hz⟩:=I.tuple hx
   have hlen:=r.length
   exact truthy_tuple pl (by simp only[Zzl];omega) ⟨H,I.tok _,by rw[Sr r];exact q⟩
  ·subst e'
   obtain⟨hz,hS,vs,r,m⟩:kvs.length<=sizeLine/\(p == sysModules)=false/\∃vs,KV kvs vs/\s.heap.DictOf (Dj X.prog X.w) p vs:=I.hok p _ hx
   have hlen:kvs.length=vs.length:=Paired.length r
   exact wpAny_truthy_dict hS m (by omega) ⟨H,I.tok _,by rw[az r];exact q⟩
 |_=>exact(show False from e).elim
theorem K4{x:V}{us:List Value}(r:Vals [x] us):∃u,us=[u]/\RelV x u:=by
 cases r with
 |cons r1 r2=>cases r2;exact⟨_,rfl,r1⟩
theorem Ri{x y:V}{us:List Value}(r:Vals [x,y] us):∃u w',us=[u,w']/\RelV x u/\RelV y w':=by
 cases r with
 |cons r1 r2 =>
  cases r2 with
  |cons r3 r4=>cases r4;exact⟨_,_,rfl,r1,r3⟩
theorem jq(hc:X.calm=true):CallR X (.builtin "max") (λxs H Q=>∃i j,xs=[.int i,.int j]/\Q (.int (if j > i then j else i)) H):=by
 intro pins s Z H xs us Q I r h
 obtain⟨i,j,rfl,q⟩:=h
 obtain⟨u,w',rfl,⟨t,rfl⟩,⟨t',rfl⟩⟩:=Ri r
 refine max_two_ints (I.ok.hd hc) λh' tk k=>⟨_,H,I.kept k,?_,q⟩
 by_cases hj:j > i
 ·rw[if_pos hj,if_pos hj];exact⟨_,rfl⟩
 ·rw[if_neg hj,if_neg hj];exact⟨_,rfl⟩
theorem jp(hc:X.calm=true):CallR X (.builtin "min") (λxs H Q=>∃i j,xs=[.int i,.int j]/\Q (.int (if j<i then j else i)) H):=by
 intro pins s Z H xs us Q I r h
 obtain⟨i,j,rfl,q⟩:=h
 obtain⟨u,w',rfl,⟨t,rfl⟩,⟨t',rfl⟩⟩:=Ri r
 refine min_two_ints (I.ok.hd hc) λh' tk k=>⟨_,H,I.kept k,?_,q⟩
 by_cases hj:j<i
 ·rw[if_pos hj,if_pos hj];exact⟨_,rfl⟩
 ·rw[if_neg hj,if_neg hj];exact⟨_,rfl⟩
theorem jt:CallR X (.type "int") (λxs H Q=>(∃i,xs=[.int i]/\Q (.int i) H)\/∃k,xs=[.bl k]/\Q (.int (if k then 1 else 0)) H):=by
 intro pins s Z H xs us Q I r h
 rcases h with ⟨i,rfl,q⟩ | ⟨k,rfl,q⟩
 ·obtain⟨u,rfl,t,rfl⟩:=K4 r
  exact call_int_int ⟨.int i,H,I,⟨_,rfl⟩,q⟩
 ·obtain⟨u,rfl,r1⟩:=K4 r
  cases r1
  exact call_int_bool ⟨.int (if k then 1 else 0),H,I.tok _,⟨_,rfl⟩,q⟩
end
structure ObjM(h:Heap)(x dx C:Addr)(mA:Str->Option Value):Prop where
 obj:h.get? x=some (PySem.W.instObj C dx)
 ns:h.Ns1 dx mA
 ne:dx≠x
theorem iy{h:Heap}{dx:Addr}{mA:Str->Option Value}(n:h.Ns1 dx mA):∃od,h.get? dx=some od/\∀name,PySem.W.lookIn name od=some (mA name):=by
 obtain⟨o,es,ep,ho,hd,hk,_,hm⟩:=n
 refine⟨o,ho,λname=>?_⟩
 have e:=hm name
 unfold nsFind findBy at e
 rw[<- Array.find?_toList] at e
 unfold PySem.W.lookIn
 rw[hd]
 dsimp only
 split
 ·rename_i y q
  rw[q] at e
  exact congrArg some e
 ·rename_i q
  rw[q] at e
  have a:es.toList.any (·.refKey)=false:=by
   rw[List.any_eq_false]
   intro y hy
   obtain⟨z,t,hkey⟩:=hk y (Array.mem_toList_iff.mp hy)
   simp[DictEntry.refKey,hkey]
  have a':¬ es.toList.any (·.refKey)=true:=by rw[a];exact Zz9
  rw[if_neg a']
  exact congrArg some e
theorem ObjM.look{h:Heap}{x dx C:Addr}{mA:Str->Option Value}(I:ObjM h x dx C mA):∃od,PySem.W.InstAt h x (PySem.W.instObj C dx) C (some od)/\∀name,PySem.W.lookIn name od=some (mA name) :=
 let ⟨od,ho,hl⟩:=iy I.ns
 ⟨od,⟨I.obj,rfl,rfl,ho⟩,hl⟩
section
variable {prog:Program}{w:World}{A:Around}{E:Value->Shared->Prop}{s:Shared}{K:Zzw}{x dx C f:Addr}{mA:Str->Option Value}{name:Str}{v:Value}
end
theorem RelO.some_of{v:V}{o:Option Value}(r:RelO (some v) o):∃u,o=some u/\RelV v u:=by
 cases o with
 |none=>exact(show False from r).elim
 |some u=>exact⟨u,rfl,r⟩
section
variable {P:Program}{w:World}{H H':Hp}{h h':Heap}{a C dx:Addr}{fs fs':List (Str×V)}
theorem vo(hok:HOk P w H h)(e:H a=some (.ins C dx fs)):∃mA,ObjM h a dx C mA/\(∀f,RelO (fs.lookup f) (mA f))/\PySem.Within mA (fs.map (·.1))/\fs.length<=1000/\H dx=some (.own a):=by
 obtain⟨d,z,ne,ob,mA,n,r,q⟩:=(show ObjOk P w H h a (.ins C dx fs) from hok a _ e)
 exact⟨mA,⟨ob,n,ne⟩,r,q,z,d⟩
end
structure Cls(K:Zzw)(C:Addr):Prop where
 pg:PySem.W.plainGet K C Str.empty=true
 hd:PySem.W.hasDictIn K C=true
 po:PySem.W.plainOver K C=true
 sa:PySem.W.findIn K (.ref C) "__setattr__" = some (some (.builtin "object.__setattr__"))
theorem Cls.get{K:Zzw}{C:Addr}(c:Cls K C)(f:Str):PySem.W.plainGet K C f=true:=c.pg
section
variable {X:Cx}{pins:List (Addr×Obj)}{Z:St}{H:Hp}{s:Shared}{a C dx:Addr}{fs:List (Str×V)}{f:Str}{v:V}{A:Around}{E:Value->Shared->Prop}
end
section
variable {X:Cx}{o e value:Expr}{f:Str}{pos pos' tpos:Pos}{ta tv:TE}
end
section
variable {X:Cx}{pins:List (Addr×Obj)}{Z:St}{H:Hp}{s:Shared}{A:Around}{E:Value->Shared->Prop}{Q:Value->Shared->Prop}{c:Value}{b:Bool}
inductive Q8 (K:Zzw) (H:Hp):V->Value->Prop where
 |non:Q8 K H .non (.type "NoneType")
 |bl (x:Bool):Q8 K H (.bl x) (.type "bool")
 |int (i:Int):Q8 K H (.int i) (.type "int")
 |str (x:Str):Q8 K H (.str x) (.type "str")
 |flt (x:UInt64):Q8 K H (.flt x) (.type "float")
 |lst {a:Addr} {xs:List V} (e:H a=some (.lst xs)):Q8 K H (.ref a) (.type "list")
 |frz {a:Addr} {o:Obj} {xs:List V} (e:H a=some (.frz o (.lst xs))):Q8 K H (.ref a) (.type "list")
 |tup {a:Addr} {xs:List V} (e:H a=some (.tup xs)):Q8 K H (.ref a) (.type "tuple")
 |dK {a:Addr} {kvs:List (Key×V)} (e:H a=some (.dK kvs)):Q8 K H (.ref a) (.type "dict")
 |dT {a:Addr} {kvs:List (List Key×V)} (e:H a=some (.dT kvs)):Q8 K H (.ref a) (.type "dict")
 |ins {a C dx:Addr} {fs:List (Str×V)} (e:H a=some (.ins C dx fs)) (cl:Cls K C) (ha:PySem.W.findIn K (.ref C) "__class__" = some (some (.builtin "object.__class__")))
   (hn:PySem.W.specialIn K (.builtin "object.__class__") "__get__" = some (some (.builtin "getset_descriptor.__get__"))) (htk:PySem.W.takesIn K (.builtin "object.__class__")=some true)
   (hm:PySem.W.mroIn K C (.type "object")=some true):Q8 K H (.ref a) (.ref C)
theorem j7{x:V}{u t:Value}(I:Inv X pins Z H s)(rx:RelV x u)(ty:Q8 X.K H x t)(e:PySem.W.kitOne X.K t c=some b)(h:∀tk,Q (.bool b) {s with toks:=tk}) :
  wpAny (model X.prog X.w) A (call (.builtin "isinstance") [u,c]) Q E s:=by
 cases ty with
 |non=>cases (show u=Value.none from rx);exact Zxb PySem.W.kitx_none I.kIn True.intro e (λz=>nomatch z) h
 |bl y=>cases (show u=Value.bool y from rx);exact Zxb PySem.W.kitx_bool I.kIn True.intro e (λz=>nomatch z) h
 |int i=>obtain⟨t,q⟩:=(show ∃t,u=Value.int i t from rx);cases q;exact Zxb PySem.W.kitx_int I.kIn True.intro e (λz=>nomatch z) h
 |str y=>obtain⟨t,q⟩:=(show ∃t,u=Value.str y t from rx);cases q;exact Zxb PySem.W.kitx_str I.kIn True.intro e (λz=>nomatch z) h
 |flt y=>obtain⟨t,q⟩:=(show ∃t,u=Value.float y t from rx);cases q;exact Zxb PySem.W.kitx_float I.kIn True.intro e (λz=>nomatch z) h
 |@lst a xs ea =>
  cases (show u=Value.ref a from rx)
  obtain⟨_,_,n,_,h1⟩:=(show ObjOk X.prog X.w H s.heap a (.lst xs) from I.hok a _ ea)
  exact Zxb PySem.W.kitx_list I.kIn ⟨_,h1,rfl⟩ e (λz=>nomatch z) h
 |@frz a ob xs ea =>
  cases (show u=Value.ref a from rx)
  obtain⟨_,_,_,n,_,h1⟩:=(show ObjOk X.prog X.w H s.heap a (.frz ob (.lst xs)) from I.hok a _ ea)
  exact Zxb PySem.W.kitx_list I.kIn ⟨_,h1,rfl⟩ e (λz=>nomatch z) h
 |@tup a xs ea =>
  cases (show u=Value.ref a from rx)
  obtain⟨_,_,_,p⟩:=(show ObjOk X.prog X.w H s.heap a (.tup xs) from I.hok a _ ea)
  obtain⟨o,h1,h2,_⟩:=p
  exact Zxb PySem.W.kitx_tuple I.kIn ⟨o,h1,h2⟩ e (λz=>nomatch z) h
 |@dK a kvs ea =>
  cases (show u=Value.ref a from rx)
  obtain⟨_,_,vs,_,p⟩:=(show ObjOk X.prog X.w H s.heap a (.dK kvs) from I.hok a _ ea)
  obtain⟨o,es,ep,h1,h2,_⟩:=p
  exact Zxb PySem.W.kitx_dict I.kIn ⟨o,h1,h2.1⟩ e (λz=>nomatch z) h
 |@dT a kvs ea =>
  cases (show u=Value.ref a from rx)
  obtain⟨_,_,xs,_,o,es,ep,h1,h2,_⟩:=(show ObjOk X.prog X.w H s.heap a (.dT kvs) from I.hok a _ ea)
  exact Zxb PySem.W.kitx_dict I.kIn ⟨o,h1,h2.1⟩ e (λz=>nomatch z) h
 |@ins a C dx fs ea cl ha hn htk hm =>
  cases (show u=Value.ref a from rx)
  obtain⟨mA,O,_⟩:=vo I.hok ea
  obtain⟨od,J,_⟩:=O.look
  exact Zxb (PySem.W.kitx_own (cl.get _) cl.hd ha hn htk hm) I.kIn J e (λz=>nomatch z) h
end
structure Room(k:Nat)(A:Around):Prop where
 hd:A.handled=none
 dp:A.depth+3*k+5<recursionLimit
 un:A.units+16*k+200<cLine
theorem Room.mono{j k:Nat}{A:Around}(r:Room k A)(h:j<=k):Room j A:=⟨r.hd,by have:=r.dp;omega,by have:=r.un;omega⟩
theorem Room.deeper{k:Nat}{A:Around}(r:Room (k+1) A)(env:Env):Room k (A.deeper env) :=
 ⟨r.hd,by have:=r.dp;show A.depth+1+3*k+5<_;omega,by have:=r.un;show A.units+3+16*k+200<_;omega⟩
theorem Room.depth{k:Nat}{A:Around}(r:Room k A):A.depth<recursionLimit:=by have:=r.dp;omega
theorem Room.units{k:Nat}{A:Around}(r:Room k A):A.units+64<cLine:=by have:=r.un;omega
def tNil:TA:=λ_ H Q=>Q [] H
def E3(ta:TE)(tr:TA):TA:=λZ H Q=>ta Z H λx H1=>tr Z H1 λxs H2=>Q (x::xs) H2
section
variable {X:Cx}{e:Expr}{es:List Expr}{te:TE}{t:TA}{pos:Pos}
theorem A1:PA X [] tNil:=λ_ _ _ _ H Q I h=>Calls.spliced_nil ⟨[],H,I,.nil,h⟩
theorem um(ha:PE X e te)(hr:PA X es t)(hs:starEach (e::es) X.env=(false,eval e X.env)::starEach es X.env:=by rfl):PA X (e::es) (E3 te t):=by
 intro pos pins s Z H Q I h
 rw[hs]
 show wpAny _ _ (spliced ((false,eval e X.env)::backTo pos (starEach es X.env))) _ _ s
 refine Zur (thn (ha pins s Z H _ I h) λu s1 z0=>?_)
 obtain⟨x,H1,I1,r1,q1⟩:=z0
 exact thn (hr pos pins s1 Z H1 _ I1 q1) λus s2 ⟨xs,H2,I2,r2,q2⟩=>⟨x::xs,H2,I2,.cons r1 r2,q2⟩
def Gu(t:TA):TE:=λZ H Q=>t Z H λxs H1=>xs.length<=sizeLine/\∀p,H1 p=none->Q (.ref p) (upd H1 p (.tup xs))
def Gy(t:TA):TE:=λZ H Q=>t Z H λxs H1=>xs.length<=sizeLine/\∀p,H1 p=none->Q (.ref p) (upd H1 p (.lst xs))
theorem G9{x1}(h:PA X es t):PE X (.Tuple es x1 pos) (Gu t):=by
 intro pins s Z H Q I hq
 refine wpAny_Tuple_spliced (thn (h pos pins s Z H _ I hq) λus s1 ⟨xs,H1,I1,r,z,q⟩=>⟨by rw[<- r.length];exact z,?_⟩)
 have hf:H1 s1.heap.objs.size=none:=I1.hok.fresh (Zzm _)
 refine⟨.ref s1.heap.objs.size,upd H1 s1.heap.objs.size (.tup xs),I1.laid (t':=s1.toks) (λb u e=>Zzx _ e) (Zzm _) ?_,rfl,q _ hf⟩
 exact⟨z,us,r,⟨_,Zze _ rfl,rfl,_,rfl⟩⟩
theorem Dl(h:PA X es t):PE X (.List es pos) (Gy t):=by
 intro pins s Z H Q I hq
 refine wpAny_List_spliced (thn (h pos pins s Z H _ I hq) λus s1 ⟨xs,H1,I1,r,z,q⟩=>⟨by rw[<- r.length];exact z,?_⟩)
 have hf:H1 s1.heap.objs.size=none:=I1.hok.fresh (Zzm _)
 refine⟨.ref s1.heap.objs.size,upd H1 s1.heap.objs.size (.lst xs),I1.laid (t':=s1.toks) (λb u e=>Zzx _ e) (Zzm _) ?_,rfl,q _ hf⟩
 exact⟨z,us,0,r,Zze _ rfl⟩
end
abbrev Sp:=List V->Hp->VK->XK->Prop
abbrev CXT:=List Env->Hp->Shared->XK->Value->Shared->Prop
structure wz(P:Program)(w:World)(K:Zzw)(mg:Str->Option Value)(base:Heap)(A:Around)(outer:List Env)(s:Shared)(H:Hp):Prop where
 frames:A.frames=some outer
 mod:Mod K mg base
 bs:∀b o,base.get? b=some o->s.heap.get? b=some o/\H b=none
 bsz:base.objs.size<=s.heap.objs.size
 funs:s.heap.FunFrames base outer
 frf:∀b∈frs outer,H b=none
 hok:HOk P w H s.heap
 bare:AllBare s.gens
def CE(outer:List Env)(P:Program)(w:World)(H:Hp)(s:Shared)(Q:VK)(u:Value)(s':Shared):Prop :=
 ∃v H',s'.os=s.os/\AllBare s'.gens/\Un (frs outer) [] H H' s.heap s'.heap/\HOk P w H' s'.heap/\RelV v u/\Q v H'
def CR(CX:CXT)(outer:List Env)(P:Program)(w:World)(H:Hp)(s:Shared)(Q:VK)(E:XK)(r:Result)(s':Shared):Prop :=
 match r with
 |.ok (.ret u)=>CE outer P w H s Q u s'
 |.ok _=>False
 |.error e=>CX outer H s E e s'
structure D3(P:Program)(w:World)(K:Zzw)(mg:Str->Option Value)(base:Heap)(CX:CXT)(k:Nat)(f:Addr)(fd:FuncData)(ps:List Str)(sp:Sp):Prop where
 len:∀vs H Q E,sp vs H Q E->vs.length=ps.length
 run:∀(A:Around) (outer:List Env) (s:Shared) (H:Hp) (args:Args) (us:List Value) (vs:List V) (Q:VK) (E:XK),Room k A->wz P w K mg base A outer s H->BindsTo s fd args (ps.zip us)->Vals vs us->sp vs H Q E ->
  codeAny (model P w) A (.call (.ref f) args) (CR CX outer P w H s Q E) s
section
variable {X:Cx}{pins:List (Addr×Obj)}{Z:St}{H:Hp}{s s':Shared}
theorem Inv.env0(I:Inv X pins Z H s):wz X.prog X.w X.K X.mg X.base X.A X.stack s H :=
 ⟨I.ok.frames,I.ok.mod,I.bs,Zyf I.ok.bsz I.sz,I.stack,I.stkFree,I.hok,I.bare⟩
theorem Inv.after{Q:VK}{u:Value}(I:Inv X pins Z H s)(h:CE X.stack X.prog X.w H s Q u s'):EP X pins Z Q u s':=by
 obtain⟨v,H',os,bare,un,hok,r,q⟩:=h
 obtain⟨hh,g,d,t,os'⟩:=s'
 obtain rfl:os'=s.os:=os
 exact⟨v,H',I.call (h':=hh) (g':=g) (d':=d) (t':=t) (ch:=[]) un hok bare (λb z=>absurd z (by simp)),r,q⟩
end
def E1(sp:Sp)(dvs:List V)(E:XK)(t:TA):TE:=λZ H Q=>t Z H λvs H1=>sp (vs++dvs) H1 Q E
def Binds(K:Zzw)(fd:FuncData)(ps:List Str)(ds:List Value):Prop :=
 ∀(s:Shared) (us:List Value),K.In s.heap->(us++ds).length=ps.length->BindsTo s fd ⟨us,[]⟩ (ps.zip (us++ds))
theorem Binds.all{K:Zzw}{fd:FuncData}{ps:List Str}(h:∀us:List Value,us.length=ps.length->bindArgs fd ⟨us,[]⟩=pure (ps.zip us)):Binds K fd ps []:=λs us _ hl=>by
 rw[Zzn] at hl ⊢
 exact .of_eq (h us hl)
def br(CX:CXT)(X:Cx)(E:XK):Prop:=∀(pins:List (Addr×Obj)) (Z:St) (H:Hp) (s:Shared) (e:Value) (s':Shared),Inv X pins Z H s->CX X.stack H s E e s'->X.xe e s'
section
variable {X:Cx}{CX:CXT}{k:Nat}{f C:Addr}{fd:FuncData}{ps:List Str}{sp:Sp}{dvs:List V}{ds:List Value}{E:XK}{x m:Str}{p pos apos:Pos}{e o:Expr}{es:List Expr}{ta:TE}{t:TA}
theorem y7{pins:List (Addr×Obj)}{Z:St}{H:Hp}{s:Shared}{Q:VK}{us:List Value}{vs:List V}(F:D3 X.prog X.w X.K X.mg X.base CX k f fd ps sp)(hr:Room k X.A)(hb:Binds X.K fd ps ds)(hd:Vals dvs ds)(hx:br CX X E)
  (I:Inv X pins Z H s) (r:Vals vs us) (h:sp (vs++dvs) H Q E):wpAny (model X.prog X.w) X.A (call (.ref f) us) (EP X pins Z Q) X.xe s:=by
 have r2:Vals (vs++dvs) (us++ds):=r.append hd
 have hl:(us++ds).length=ps.length:=by rw[<- r2.length];exact F.len _ _ _ _ h
 refine wpAny_call (codeAny_mono (F.run X.A X.stack s H ⟨us,[]⟩ (us++ds) (vs++dvs) Q E hr I.env0 (hb s us I.kIn hl) r2 h) λr s' hq=>?_)
 cases r with
 |error e=>exact hx pins Z H s e s' I hq
 |ok fl =>
  cases fl with
  |ret u=>exact I.after hq
  |next=>exact False.elim hq
  |brk=>exact False.elim hq
  |cont=>exact False.elim hq
theorem ui(F:D3 X.prog X.w X.K X.mg X.base CX k f fd ps sp)(hr:Room k X.A)(hg:Gl X x)(hm:X.mg x=some (.ref f))(hk:Zvv X.K (.ref f)=true)(hb:Binds X.K fd ps ds)(hd:Vals dvs ds)(hx:br CX X E)
  (ha:PA X (e::es) t) (hdb:(x == ("__debug__" : Str))=false:=by decide) (he:starEach (e::es) X.env=(false,eval e X.env)::starEach es X.env:=by rfl) (hpl:(backTo pos (starEach es X.env)).any (·.1)=false:=by rfl) :
  PE X (.Call (.Name x p) (e::es) [] pos) (E1 sp dvs E t):=by
 intro pins s Z H Q I h
 refine wpAny_Call_Name_kw (dk I hg hm ?_ hdb)
 refine PySem.W.callWith_K (h₀:=X.base) I.ok.mod.kin hk (thn (ha pos pins s Z H _ I h) λus s1 ⟨vs,H1,I1,r,q⟩=>⟨I1.kIn,?_⟩) he hpl
 exact y7 F hr hb hd hx I1 r q
end
section
variable {X:Cx}{CX:CXT}{k:Nat}{f C:Addr}{fd:FuncData}{ps ks:List Str}{sp:Sp}{E:XK}{x m:Str}{p pos apos kpos:Pos}{e o:Expr}{es:List Expr}{kws:List Keyword}{te ta:TE}{t tk:TA}{nm:Option Str}
variable {g:List Value->List Value->List Value}{gV:List V->List V->List V}
end
structure Bg(N P:List Str)(sc:Scope):Prop where
 kind:sc.kind=.function
 co:sc.isCoroutine=false
 gen:sc.isGenerator=false
 nd:N.Nodup
 pre:N.take P.length=P
 par:∀x∈P,sc.names.lookup x=some .local\/sc.names.lookup x=some .cell
 nofree:∀y∈sc.names,y.2≠.free
theorem V6{kindOf:Str->Option NameKind}{x:Str}:∀{binds:List (Str×Value)} {m:Str->Option Value},(∀v,(x,v)∉binds)->bindL kindOf binds m x=m x
 |[],_,_=>rfl
 | (n,v)::r,m,h=>by
  unfold bindL
  rw[V6 λw hw=>h w (Zzd _ hw)]
  split
  ·have:x≠n:=by rintro rfl;exact h v Zzf
   simp[this]
  ·rfl
theorem V8{kindOf:Str->Option NameKind}{x:Str}:∀{binds:List (Str×Value)} {m:Str->Option Value},(∀v,(x,v)∉binds)->bindC kindOf binds m x=m x
 |[],_,_=>rfl
 | (n,v)::r,m,h=>by
  unfold bindC
  rw[V8 λw hw=>h w (Zzd _ hw)]
  split
  ·rfl
  ·have:x≠n:=by rintro rfl;exact h v Zzf
   simp[this]
theorem V7{kindOf:Str->Option NameKind}{x:Str}{v:Value}:∀{P:List Str} {vs:List Value} {i:Nat} {m:Str->Option Value},P.Nodup->P[i]?=some x->vs[i]?=some v->kindOf x=some .local ->
  bindL kindOf (P.zip vs) m x=some v
 |[],_,_,_,_,h,_,_=>by simp at h
 |_::_,[],_,_,_,_,h,_=>by simp at h
 |p::P,w::vs,0,m,nd,h1,h2,hk=>by
  simp at h1 h2;subst h1;subst h2
  show bindL kindOf ((p,w)::P.zip vs) m p=_
  unfold bindL
  rw[V6 λv hv=>(Zy7.mp nd).1 (List.of_mem_zip hv).1,if_pos hk]
  simp
 |p::P,w::vs,i+1,m,nd,h1,h2,hk=>by
  show bindL kindOf ((p,w)::P.zip vs) m x=_
  unfold bindL
  exact V7 (i:=i) (Zy7.mp nd).2 (by simpa using h1) (by simpa using h2) hk
theorem V9{kindOf:Str->Option NameKind}{x:Str}{v:Value}:∀{P:List Str} {vs:List Value} {i:Nat} {m:Str->Option Value},P.Nodup->P[i]?=some x->vs[i]?=some v->kindOf x≠some .local ->
  bindC kindOf (P.zip vs) m x=some v
 |[],_,_,_,_,h,_,_=>by simp at h
 |_::_,[],_,_,_,_,h,_=>by simp at h
 |p::P,w::vs,0,m,nd,h1,h2,hk=>by
  simp at h1 h2;subst h1;subst h2
  show bindC kindOf ((p,w)::P.zip vs) m p=_
  unfold bindC
  rw[V8 λv hv=>(Zy7.mp nd).1 (List.of_mem_zip hv).1,if_neg hk]
  simp
 |p::P,w::vs,i+1,m,nd,h1,h2,hk=>by
  show bindC kindOf ((p,w)::P.zip vs) m x=_
  unfold bindC
  exact V9 (i:=i) (Zy7.mp nd).2 (by simpa using h1) (by simpa using h2) hk
def Dn(N:List Str)(vs:List V):St:=vs.map some++Zxm (N.length - vs.length) none
def bf(CX:CXT)(P:Program)(w:World)(K:Zzw)(mg:Str->Option Value)(base:Heap)(N:List Str)(qual:Str)(scope:Scope)(f:Addr)(cd:Value)(A:Around)(outer:List Env)(s:Shared)(H:Hp)(E:XK):Cx where
 prog:=P
 w:=w
 K:=K
 mg:=mg
 base:=base
 A:=A.deeper (envOfC qual scope s.heap.objs.size f cd)
 N:=N
 s₀:=s
 H₀:=H
 env:=envOfC qual scope s.heap.objs.size f cd
 outer:=outer
 stack:=envOfC qual scope s.heap.objs.size f cd::outer
 ex:=[]
 calm:=true
 fn:=λ_=>true
 pn:=[]
 xe:=λe s'=>wpAny (model P w) (A.deeper (envOfC qual scope s.heap.objs.size f cd)) (leaving (envOfC qual scope s.heap.objs.size f cd) e) (λ_ s''=>CX outer H s E e s'') (λe' s''=>CX outer H s E e' s'') s'
theorem Z3{sc:Scope}{n:Nat}{x:Str}(h:sc.names.lookup x=some .cell):∃c,(cellsFrom n sc.names []).lookup x=some c:=by
 have q:=PySem.W.cellsFrom_some sc.names n [] (.inl h)
 exact Option.isSome_iff_exists.mp q
theorem jb{CX:CXT}{P:Program}{w:World}{K:Zzw}{mg:Str->Option Value}{base:Heap}{N ps:List Str}{qual:Str}{scope:Scope}{f:Addr}{cd:Value}{A:Around}{outer:List Env}{s s1:Shared}{H:Hp}{E:XK}{us:List Value}{vs:List V}
  (S:Bg N ps scope) (hd:A.handled=none) (e0:wz P w K mg base A outer s H) (hl:vs.length=ps.length) (r:Vals vs us)
  (x:InCallC s s.heap.objs.size (bindL (envOfC qual scope s.heap.objs.size f cd).kindOf (ps.zip us) λ_=>none) (cellsFrom (s.heap.objs.size+1) scope.names []) (bindC (envOfC qual scope s.heap.objs.size f cd).kindOf (ps.zip us) λ_=>none) s1) :
  Inv (bf CX P w K mg base N qual scope f cd A outer s H E) [] (Dn N vs) H s1:=by
 have hpl:ps.length<=N.length:=by have:=congrArg Zwa S.pre;rw[Zye] at this;omega
 obtain⟨h1,tk,rfl,hk⟩:=x.done
 have noA:∀b:Addr,b∉(bf CX P w K mg base N qual scope f cd A outer s H E).ex:=λb z=>absurd (show b∈([]:List Addr) from z) (by simp)
 refine⟨⟨e0.mod,S.kind,rfl,rfl,Zzm _,λy z c h1 h2=>?_,λy hy=>?_,λy c _ h=>?_,λ_=>hd,Around.frames_deeper e0.frames,.inr ⟨rfl,rfl⟩,λb z=>absurd z (noA b),e0.bs,e0.bsz,λb _ _=>noA b,λb z=>absurd z (noA b),e0.funs,e0.frf⟩,
  rfl,e0.bare,Un.kept hk,⟨_,x.toInCall.ns,λi y v h1 h2 h3=>?_⟩,λy c h=>⟨_,x.cell y c h⟩,e0.hok.fresh (Zzm _),λy c h=>?_,λp hp=>absurd (show p∈([]:List (Addr×Obj)) from hp) (by simp),e0.hok.kept hk,?_⟩
 ·exact name_of_addr x.apart (Zx0 h1) (Zx0 h2)
 ·have hy:scope.names.lookup y=some .cell\/scope.names.lookup y=some .free:=hy
  rcases hy with hy | hy
  ·exact Z3 hy
  ·exact absurd rfl (S.nofree _ (Zx0 hy))
 ·exact Nat.le_of_lt (x.above y c (Zx0 h))
 ·have hi:i<vs.length:=by
   unfold Dn at h2
   by_cases hi:i<vs.length
   ·exact hi
   ·rw[Zx8 (by simpa using hi)] at h2
    rw[List.getElem?_replicate] at h2
    split at h2<;>cases h2
  have ha:vs[i]?=some v:=by
   unfold Dn at h2
   rw[Zww (by simpa using hi),Zzy] at h2
   cases e:vs[i]? with
   |none=>rw[e] at h2;cases h2
   |some a=>rw[e] at h2;cases h2;rfl
  obtain⟨u,hu,rv⟩:=r.get ha
  have hp:ps[i]?=some y:=by
   rw[<- S.pre,List.getElem?_take_of_lt (by omega)];exact h1
  have ndP:ps.Nodup:=by rw[<- S.pre];exact S.nd.sublist (List.take_sublist _ _)
  refine⟨u,rv,?_⟩
  rcases S.par y (Zzr hp) with k | k
  ·exact .inl ⟨k,V7 ndP hp hu k⟩
  ·obtain⟨c,e⟩:=Z3 (n:=s.heap.objs.size+1) k
   refine .inr ⟨.inl k,c,e,?_⟩
   have q:=x.cell y c e
   rw[V9 ndP hp hu (by show scope.names.lookup y≠_;rw[k];decide)] at q
   exact q
 ·exact e0.hok.fresh (Nat.le_of_lt (x.above y c (Zx0 h)))
 ·unfold Dn
  show _=N.length
  rw[Zym,Zzz,List.length_replicate]
  omega
theorem xn{CX:CXT}{P:Program}{w:World}{K:Zzw}{mg:Str->Option Value}{base:Heap}{k:Nat}{f:Addr}{name qual:Str}{params:Arguments}{body:List Stmt}{scope:Scope}{dV kV doc pm cdv ct oc:Value}{an od:Option Addr}
  {osl:Array (Option Value)} {N ps:List Str} {sp:Sp} (lk:K.lookup f=some ⟨oc,od,.func (Zwl name qual params body scope dV kV doc pm an cdv ct),osl⟩) (hcd:Zuv K cdv qual=true) (S:Bg N ps scope)
  (len:∀vs H Q E,sp vs H Q E->vs.length=ps.length)
  (hbody:∀(A:Around) (outer:List Env) (s:Shared) (H:Hp) (vs:List V) (Q:VK) (E:XK),Room k (A.deeper (envOfC qual scope s.heap.objs.size f cdv))->sp vs H Q E ->
   ∃t,PSs (bf CX P w K mg base N qual scope f cdv A outer s H E) body t/\t {nx:=λ_ H'=>Q .non H',rt:=Q} (Dn N vs) H) :
  D3 P w K mg base CX (k+1) f (Zwl name qual params body scope dV kV doc pm an cdv ct) ps sp:=by
 refine⟨len,λA outer s H args us vs Q E hr e0 hb r hsp=>?_⟩
 have hl:=len _ _ _ _ hsp
 have KX:K.In s.heap:=e0.mod.kin.keeps λb o e=>(e0.bs b o e).1
 have lim:s.heap.NoLimit:=e0.mod.nolimit.keeps λb o e=>(e0.bs b o e).1
 have hkind:∀y∈ps.zip us,scope.names.lookup y.1=some .local\/(scope.names.lookup y.1=some .cell/\((cellsFrom (s.heap.objs.size+1) scope.names []).lookup y.1).isSome=true):=λ⟨n,v⟩ hy=>by
  rcases S.par n (List.of_mem_zip hy).1 with q | q
  ·exact .inl q
  ·exact .inr ⟨q,PySem.W.cellsFrom_some _ _ _ (.inl q)⟩
 refine codeAny_call_function hr.depth (KX _ _ lk) rfl S.co S.gen rfl (PySem.W.codeRec_of KX hcd) (hb _ _ _ _ ?_)
 refine wpAny_newFunctionEnv_cells S.kind hkind λenv he s1 x=>?_
 subst he
 refine⟨lim.keeps x.toInCall.keep,codeAny_func ?_⟩
 obtain⟨t,ht,hq⟩:=hbody A outer s H vs Q E (hr.deeper _) hsp
 have I:Inv (bf CX P w K mg base N qual scope f cdv A outer s H E) [] (Dn N vs) H s1:=jb S hr.hd e0 hl r x
 refine wpAny_mono (ht [] s1 (Dn N vs) H _ I hq) (λfl s' hs=>?_) λe s' hs=>hs
 have fin:∀{Z':St} {H':Hp} {v:V} {u:Value},Inv (bf CX P w K mg base N qual scope f cdv A outer s H E) [] Z' H' s'->RelV v u->Q v H'->CE outer P w H s Q u s' :=
  λ{Z' H' v u} J rv q=>⟨v,H',J.os,J.bare,J.base,J.hok,rv,q⟩
 cases fl with
 |ret u =>
  obtain⟨v,Z',H',J,rv,q⟩:=hs
  exact fin J rv q
 |next =>
  obtain⟨Z',H',J,q⟩:=hs
  exact fin (v:=V.non) (u:=Value.none) J rfl q
 |brk =>
  obtain⟨_,_,_,q⟩:=hs
  exact False.elim q
 |cont =>
  obtain⟨_,_,_,q⟩:=hs
  exact False.elim q
section
variable {X:Cx}{x:Str}{p pos:Pos}{e:Expr}{es:List Expr}{t:TA}{id T:String}{r:List V->Hp->VK->Prop}
def tCB(r:List V->Hp->VK->Prop)(t:TA):TE:=λZ H Q=>t Z H λvs H1=>r vs H1 Q
theorem mn(hc:CallR X (.builtin id) r)(hg:Gl X x)(hm:X.mg x=none)(hv:bootBuiltins x=some (.builtin id))(ha:PA X (e::es) t)(hn:x ≠ "__name__" := by decide)(hdb:(x == ("__debug__" : Str))=false:=by decide)
  (he:starEach (e::es) X.env=(false,eval e X.env)::starEach es X.env:=by rfl) (hpl:(backTo pos (starEach es X.env)).any (·.1)=false:=by rfl):PE X (.Call (.Name x p) (e::es) [] pos) (tCB r t):=by
 intro pins s Z H Q I h
 refine wpAny_Call_Name_kw (Jh I hg hm hv ?_ hn hdb)
 exact PyProof.Rows.callWith_builtin1 (thn (ha pos pins s Z H _ I h) λus s1 z0=>by obtain⟨vs,H1,I1,r1,q1⟩:=z0;exact hc pins s1 Z H1 vs us Q I1 r1 q1) he hpl
theorem i9(hc:CallR X (.type T) r)(hg:Gl X x)(hm:X.mg x=none)(hv:bootBuiltins x=some (.type T))(ha:PA X (e::es) t)(hn:x ≠ "__name__" := by decide)(hdb:(x == ("__debug__" : Str))=false:=by decide)
  (he:starEach (e::es) X.env=(false,eval e X.env)::starEach es X.env:=by rfl) (hpl:(backTo pos (starEach es X.env)).any (·.1)=false:=by rfl):PE X (.Call (.Name x p) (e::es) [] pos) (tCB r t):=by
 intro pins s Z H Q I h
 refine wpAny_Call_Name_kw (Jh I hg hm hv ?_ hn hdb)
 exact Zxq (thn (ha pos pins s Z H _ I h) λus s1 z0=>by obtain⟨vs,H1,I1,r1,q1⟩:=z0;exact hc pins s1 Z H1 vs us Q I1 r1 q1) he hpl
end
end L2
namespace HT
open PySem PyProof.Rows
def xk:List Int->List Int->Bool
 |[],[]=>false
 |[],_::_=>true
 |_::_,[]=>false
 |x::xs,y::ys=>if x=y then xk xs ys else decide (x<y)
section
open PySem.SeqAt
open PySem.AutoSeq1 (wpAny_loadPart')
open PySem.MeetsSeq PySem.MeetsSeq2 PySem.MeetsSeq3
end
section
variable {prog:Program}{w:World}{A:Around}{E:Value->Shared->Prop}{s:Shared}
theorem we{t b:Addr}{vs ws:List Value}{Q:Value->Shared->Prop}(ht:IsTup s.heap t vs.toArray)(hb:IsTup s.heap b ws.toArray)(hv:vs≠[])
  (h1:ws=[]->Q (.ref t) s) (h2:ws≠[]->Q (.ref s.heap.objs.size) {s with heap:=s.heap.push {cls:=.type "tuple",data:=.seq (vs++ws).toArray}})
  (hsz:vs.length+ws.length<=sizeLine):wpAny (model prog w) A (binaryOp .Add (.ref t) (.ref b)) Q E s:=by
 obtain⟨⟨cls,dd,data,sl⟩,ho,hc,n,hd⟩:=id ht
 obtain⟨⟨cls2,dd2,data2,sl2⟩,ho2,hc2,n2,hd2⟩:=id hb
 simp only at hc hd hc2 hd2
 subst hc hd hc2 hd2
 have e:vs.toArray++ws.toArray=(vs++ws).toArray:=by simp
 by_cases hw:ws=[]
 ·exact concat_meets ⟨_,ho,rfl⟩ ⟨_,ho2,rfl⟩ noFill_tuple_add seq_tuple_add Zvc Zvf (Zvk _ _)
   (tuple_addW1 t b vs.toArray ws.toArray n n2 dd dd2 sl sl2 (by simpa using hv) (by simp[hw])) ⟨ho,ho2,h1 hw⟩
 ·refine concat_meets ⟨_,ho,rfl⟩ ⟨_,ho2,rfl⟩ noFill_tuple_add seq_tuple_add Zvc Zvf (Zvk _ _)
   (tuple_addW2 t b vs.toArray ws.toArray n n2 dd dd2 sl sl2 (by simpa using hv) (by simpa using hw) (by rw[Zzl,Zzl];exact hsz)) ⟨ho,ho2,?_⟩
  rw[e]
  exact h2 hw
def sIx(n d:Nat):Option Int->Nat
 |none=>d
 |some v=>if v<0 then (v+(n:Int)).toNat else min v.toNat n
end
end HT
namespace L2
open PySem PySem.Spec PyProof.Rows
abbrev TO:=St->Hp->(Option Int->Hp->Prop)->Prop
def PO(X:Cx)(e:Option Expr)(t:TO):Prop :=
 ∀(pins:List (Addr×Obj)) (s:Shared) (Z:St) (H:Hp) (Q:Option Int->Hp->Prop),Inv X pins Z H s->t Z H Q ->
  wpAny (model X.prog X.w) X.A (evalPart e X.env) (λu s'=>∃o H',Inv X pins Z H' s'/\IsPart u o/\Q o H') X.xe s
def tNoPart:TO:=λ_ H Q=>Q none H
def Ec(t:TE):TO:=λZ H Q=>t Z H λx H1=>∃i,x=.int i/\Q (some i) H1
section
variable {X:Cx}{e:Expr}{te:TE}{lo hi:Option Expr}{tl th:TO}{pos p2:Pos}
theorem Jr:PO X none tNoPart:=by
 intro pins s Z H Q I h
 rw[evalPart_none]
 exact wpAny_pure ⟨none,H,I,.none,h⟩
theorem Jq(h:PE X e te):PO X (some e) (Ec te):=by
 intro pins s Z H Q I hw
 rw[evalPart_some]
 refine thn (h pins s Z H _ I hw) λu s1 z0=>?_
 obtain⟨x,H1,I1,r1,q1⟩:=z0
 obtain⟨i,rfl,q⟩:=q1
 obtain⟨t,rfl⟩:=r1
 exact⟨some i,H1,I1,.int i t,q⟩
def SlR(X:Cx)(r:V->Option Int->Option Int->Hp->VK->Prop):Prop :=
 ∀(pins:List (Addr×Obj)) (s:Shared) (Z:St) (H:Hp) (x:V) (v vl vu:Value) (lo hi:Option Int) (sl:Addr) (Q:VK),Inv X pins Z H s->RelV x v->s.heap.IsSliceOf sl vl vu .none->IsPart vl lo->IsPart vu hi->r x lo hi H Q ->
  ∃T id,typeLookup (.type T) "__getitem__" = pure (some (.builtin id))/\s.TypeIs v T/\wpAny (model X.prog X.w) X.A (getItem v (.ref sl)) (EP X pins Z Q) X.xe s
def tSl(r:V->Option Int->Option Int->Hp->VK->Prop)(te:TE)(tl th:TO):TE:=λZ H Q=>te Z H λx H1=>tl Z H1 λl H2=>th Z H2 λu H3=>r x l u H3 Q
theorem Hw{r:V->Option Int->Option Int->Hp->VK->Prop}(hr:SlR X r)(he:PE X e te)(hl:PO X lo tl)(hu:PO X hi th):PE X (.Subscript e (.Slice lo hi none p2) pos) (tSl r te tl th):=by
 intro pins s Z H Q I h
 refine Subscript_ (thn (he pins s Z H _ I h) λv s1 z0=>?_)
 obtain⟨x,H1,I1,r1,q1⟩:=z0
 refine wpAny_Slice (thn (hl pins s1 Z H1 _ I1 q1) λvl s2 ⟨l,H2,I2,pl,q2⟩=>thn (hu pins s2 Z H2 _ I2 q2) λvu s3 z0=>?_)
 obtain⟨u,H3,I3,pu,q3⟩:=z0
 rw[evalPart_none]
 refine wpAny_pure ?_
 have I4:Inv X pins Z H3 {s3 with heap:=s3.heap.push {cls:=.type "slice",data:=.fields #[vl,vu,.none]}}:=I3.kept (t':=s3.toks) λb ob q=>Zzx _ q
 obtain⟨T,id,hT,ht,hg⟩:=hr pins {s3 with heap:=s3.heap.push {cls:=.type "slice",data:=.fields #[vl,vu,.none]}} Z H3 x v vl vu l u s3.heap.objs.size Q I4 r1 (Heap.IsSliceOf.new ..) pl pu q3
 show wpAny (model X.prog X.w) X.A (subscriptTail e (.Slice lo hi none p2) v (.ref s3.heap.objs.size)) (EP X pins Z Q) X.xe {s3 with heap:=s3.heap.push {cls:=.type "slice",data:=.fields #[vl,vu,.none]}}
 exact tail_any (ops:=[.ref s3.heap.objs.size,v]) ht hT hg (by with_unfolding_all rfl)
def J8(xs:List V)(lo hi:Option Int):List V:=(xs.drop (HT.sIx xs.length 0 lo)).take (HT.sIx xs.length xs.length hi - HT.sIx xs.length 0 lo)
theorem Yy(xs:List V)(lo hi:Option Int):(J8 xs lo hi).length<=xs.length:=by
 unfold J8
 rw[Zye,Zx2]
 omega
def Hm(K:Zzw):R2:=λx y H Q=>∃a b ns ms,x=.ref a/\y=.ref b/\SqT K H a (ns.map V.int)/\SqT K H b (ms.map V.int)/\Q (.bl (HT.xk ns ms)) H
def A00(K:Zzw):R2:=λx y H Q=>∃a b xs ys,x=.ref a/\y=.ref b/\SqT K H a xs/\SqT K H b ys/\xs≠[]/\xs.length+ys.length<=sizeLine /\
 (ys=[]->Q (.ref a) H)/\(ys≠[]->∀p,H p=none->Q (.ref p) (upd H p (.tup (xs++ys))))
theorem Vals.nil_iff{xs:List V}{us:List Value}(r:Vals xs us):us=[]↔xs=[]:=by
 cases r with
 |nil=>simp
 |cons _ _=>simp
theorem ur:OpR X (binaryOp .Add) (A00 X.K):=by
 intro pins s Z H x y v u Q I rx ry h
 obtain⟨a,b,xs,ys,rfl,rfl,ha,hb,hx,hz,q1,q2⟩:=h
 cases rx
 cases ry
 obtain⟨its,r1,p1,_⟩:=I.tuple ha
 obtain⟨its2,r2,p2,_⟩:=I.tuple hb
 refine HT.we p1 p2 (λz=>hx (r1.nil_iff.mp z)) (λz=>⟨.ref a,H,I,rfl,q1 (r2.nil_iff.mp z)⟩) (λz=>?_) (by rw[<- r1.length,<- r2.length];exact hz)
 refine⟨.ref s.heap.objs.size,_,I.laid (t':=s.toks) (o:=.tup (xs++ys)) (λb ob q=>Zzx _ q) (Zzm _) ?_,rfl,q2 (λw=>z (r2.nil_iff.mpr w)) _ (I.hok.fresh (Zzm _))⟩
 exact⟨by rw[Zym];exact hz,_,r1.append r2,IsTup.new _ _⟩
end
def ixN(n:Nat)(i:Int):Option Nat:=if 0<=i then (if i<n then some i.toNat else none) else if -(n:Int)<=i then some (i+n).toNat else none
def atI{α:Type}(xs:List α)(i:Int):Option α:=(ixN xs.length i).bind λj=>xs[j]?
theorem dr{n:Nat}{i:Int}{j:Nat}(h:ixN n i=some j):seqIndex? i n=some j/\j<n/\-(n:Int)<=i/\i<n:=by
 unfold ixN at h
 by_cases h0:0<=i
 ·rw[if_pos h0] at h
  by_cases h1:i<n
  ·rw[if_pos h1] at h
   have e:i.toNat=j:=Zz3 h
   exact⟨by rw[seqIndex_of h0 h1,e],by omega,by omega,h1⟩
  ·rw[if_neg h1] at h;cases h
 ·rw[if_neg h0] at h
  by_cases h1:-(n:Int)<=i
  ·rw[if_pos h1] at h
   have e:(i+n).toNat=j:=Zz3 h
   exact⟨by rw[seqIndex_neg (by omega) h1,e],by omega,h1,by omega⟩
  ·rw[if_neg h1] at h;cases h
theorem Wx{α:Type}{xs:List α}{i:Int}{v:α}(h:atI xs i=some v):∃j,seqIndex? i xs.length=some j/\xs[j]?=some v/\j<xs.length/\-(xs.length:Int)<=i/\i<xs.length:=by
 unfold atI at h
 cases e:ixN xs.length i with
 |none=>rw[e] at h;cases h
 |some j =>
  rw[e] at h
  obtain⟨h1,h2,h3,h4⟩:=dr e
  exact⟨j,h1,h,h2,h3,h4⟩
theorem Po{α:Type}{xs:List α}{j:Nat}{v:α}(h:xs[j]?=some v):atI xs (j:Int)=some v:=by
 have hj:j<xs.length:=(Zz4.mp h).1
 have e:ixN xs.length (j:Int)=some j:=by
  unfold ixN
  rw[if_pos (by omega),if_pos (by omega)];simp
 unfold atI;rw[e];exact h
def ft(b:Expr):Prop:=∀o i,subscripted b false o i=operate [o,i] (getItem o i)
def IxR(X:Cx)(r:R2):Prop :=
 ∀(value slice:Expr) (pins:List (Addr×Obj)) (s:Shared) (Z:St) (H:Hp) (x y:V) (v u:Value) (Q:VK),Inv X pins Z H s->RelV x v->RelV y u->r x y H Q ->
  subscripted slice false v u=operate [v,u] (getItem v u)->wpAny (model X.prog X.w) X.A (subscriptTail value slice v u) (EP X pins Z Q) X.xe s
def MtR(X:Cx)(id:String)(r:V->List V->Hp->VK->Prop):Prop :=
 ∀(pins:List (Addr×Obj)) (s:Shared) (Z:St) (H:Hp) (x:V) (xs:List V) (v:Value) (us:List Value) (Q:VK),Inv X pins Z H s->RelV x v->Vals xs us->r x xs H Q ->
  wpAny (model X.prog X.w) X.A (call (.builtin id) (v::us)) (EP X pins Z Q) X.xe s
section
variable {X:Cx}{a b:Expr}{ta tb:TE}{pos:Pos}
theorem xh{r:R2}(hr:IxR X r)(ha:PE X a ta)(hb:PE X b tb)(hs:ft b):PE X (.Subscript a b pos) (tOp r ta tb):=by
 intro pins s Z H Q I h
 exact Subscript_ (za ha hb I h λv u s2 x y H2 I2 rx ry q=>hr a b pins s2 Z H2 x y v u Q I2 rx ry q (hs _ _))
def rIxL(K:Zzw):R2:=λx y H Q=>∃p xs i v,x=.ref p/\y=.int i/\SqL K H p xs/\atI xs i=some v/\Q v H
def rIxT(K:Zzw):R2:=λx y H Q=>∃p xs i v,x=.ref p/\y=.int i/\SqT K H p xs/\atI xs i=some v/\Q v H
def rIxS:R2:=λx y H Q=>∃z i c,x=.str z/\y=.int i/\z.length<=sizeLine/\atI z.cps.toList i=some c/\Q (.str ⟨#[c]⟩) H
theorem dq:IxR X (rIxL X.K):=by
 intro value slice pins s Z H x y v u Q I rx ry h hs
 obtain⟨p,xs,i,z,rfl,rfl,hq,he,q⟩:=h
 cases rx
 obtain⟨t,rfl⟩:=ry
 obtain⟨its,r,pl,hz⟩:=I.list hq
 obtain⟨j,h1,h2,h3,h4,h5⟩:=Wx he
 obtain⟨w,ew,rw'⟩:=r.get h2
 have hl:=r.length
 have hn:=Nf
 have fin:EP X pins Z Q w s:=⟨z,H,I,rw',q⟩
 by_cases h0:0<=i
 ·have hj:i.toNat=j:=by
   rw[seqIndex_of h0 h5] at h1
   exact Zz3 h1
  exact item_listR pl.isList h0 (by omega) (by rw[hj];simpa using ew) fin hs
 ·have hj:(i+(its.toArray.size:Int)).toNat=j:=by
   rw[seqIndex_neg (by omega) h4] at h1
   rw[Zzl,<- hl]
   exact Zz3 h1
  exact subscriptTail_builtinR (x:=w) pl.isList.typeIs slot_list_getitem.lookup
   (wpAny_getItem_list_neg (Q:=λr s'=>r=w/\EP X pins Z Q r s') pl.isList (by omega) (by rw[Zzl]<;>omega) (by omega) (by rw[hj];simpa using ew) ⟨rfl,fin⟩) hs
theorem yp:IxR X (rIxT X.K):=by
 intro value slice pins s Z H x y v u Q I rx ry h hs
 obtain⟨p,xs,i,z,rfl,rfl,hq,he,q⟩:=h
 cases rx
 obtain⟨t,rfl⟩:=ry
 obtain⟨its,r,pl,hz⟩:=I.tuple hq
 obtain⟨j,h1,h2,h3,h4,h5⟩:=Wx he
 obtain⟨w,ew,rw'⟩:=r.get h2
 have hl:=r.length
 have hn:=Nf
 have fin:EP X pins Z Q w s:=⟨z,H,I,rw',q⟩
 exact subscriptTail_builtinR (x:=w) pl.typeIs slot_tuple_getitem.lookup
  (getItem_tuple (j:=j) (Q:=λr s'=>r=w/\EP X pins Z Q r s') pl (by omega) (by omega) (by rw[Zzl,<- hl];exact h1) (by simpa using ew) ⟨rfl,fin⟩) hs
theorem yq:IxR X rIxS:=by
 intro value slice pins s Z H x y v u Q I rx ry h hs
 obtain⟨z,i,c,rfl,rfl,hz,he,q⟩:=h
 obtain⟨t,rfl⟩:=rx
 obtain⟨t',rfl⟩:=ry
 obtain⟨j,h1,h2,h3,h4,h5⟩:=Wx he
 have hl:z.cps.toList.length=z.length:=by simp[Str.length]
 rw[hl] at h1 h4 h5
 have hn:=Nf
 exact tail_any (typeIs_str s z t) slot_str_getitem.lookup (getItem_str (c:=c) (by
  have e1:decide (i < -(2^63:Int))=false:=decide_eq_false (by omega)
  have e2:decide (i≥2^63)=false:=decide_eq_false (by omega)
  rw[e1,e2,Bool.or_false]) (by rw[h1];simpa using h2) ⟨.str ⟨#[c]⟩,H,I.tok _,⟨_,rfl⟩,q⟩) hs
theorem au(its:List Value)(n j:Nat)(u:Value):Obj.mapSeq (·.setIfInBounds j u) {cls:=.type "list",data:=.seq its.toArray n}={cls:=.type "list",data:=.seq (its.set j u).toArray n}:=by
 simp[Obj.mapSeq]
theorem Inv.lst{pins:List (Addr×Obj)}{Z:St}{H:Hp}{s:Shared}{p:Addr}{xs:List V}(I:Inv X pins Z H s)(h:H p=some (.lst xs)) :
  ∃(its:List Value) (n:Nat),Vals xs its/\s.heap.get? p=some {cls:=.type "list",data:=.seq its.toArray n}/\xs.length<=sizeLine:=by
 obtain⟨z,its,n,r,e⟩:=I.hok p _ h
 exact⟨its,n,r,e,z⟩
theorem Inv.lstUpd{pins:List (Addr×Obj)}{Z:St}{H:Hp}{s:Shared}{p:Addr}{xs ys:List V}{its its':List Value}{n n':Nat}{f:Obj->Obj}(I:Inv X pins Z H s)(h:H p=some (.lst xs))
  (ho:s.heap.get? p=some {cls:=.type "list",data:=.seq its.toArray n}) (hf:f {cls:=.type "list",data:=.seq its.toArray n}={cls:=.type "list",data:=.seq its'.toArray n'}) (r:Vals ys its') (hz:ys.length<=sizeLine) (t:Nat) :
  Inv X pins Z (upd H p (.lst ys)) {s with heap:=s.heap.update p f,toks:=t}:=by
 have e:(s.heap.update p f).get? p=some {cls:=.type "list",data:=.seq its'.toArray n'}:=by
  rw[Zwz f ho (by rw[hf]<;>rfl),hf]
 refine I.write (x:=p) (e:=p) (by rw[h];trivial) (.inl rfl) (λb u hb q=>(Zxi _ _ (Zzi hb)).trans q) ⟨_,e⟩ ?_
 exact⟨hz,its',n',r,e⟩
def rSetL:V->V->V->Hp->(Hp->Prop)->Prop:=λo i v H Q=>∃p xs k j,o=.ref p/\i=.int k/\H p=some (.lst xs)/\ixN xs.length k=some j/\Q (upd H p (.lst (xs.set j v)))
theorem Jt:qx X rSetL:=by
 intro pins s Z H o i v ov iv u Q I ro ri rv h
 obtain⟨p,xs,k,j,rfl,rfl,hp,hj,q⟩:=h
 cases ro
 obtain⟨t,rfl⟩:=ri
 obtain⟨its,n,r,ho,hz⟩:=I.lst hp
 obtain⟨h1,h2,h3,h4⟩:=dr hj
 have hl:=r.length
 have hn:=Nf
 have I':Inv X pins Z (upd H p (.lst (xs.set j v))) {s with heap:=s.heap.update p (Obj.mapSeq (·.setIfInBounds j u))} :=
  I.lstUpd hp ho (au its n j u) (r.set rv j) (by rw[List.length_set];exact hz) s.toks
 by_cases h0:0<=k
 ·have hk:k.toNat=j:=by
   rw[seqIndex_of h0 h4] at h1
   exact Zz3 h1
  exact PySem.W.ki_setAt ho h0 (by omega) (by rw[Zzl,<- hl];exact h4) (by rw[hk];exact⟨_,I',q⟩)
 ·have hk:(k+(its.toArray.size:Int)).toNat=j:=by
   rw[seqIndex_neg (by omega) h3] at h1
   rw[Zzl,<- hl]
   exact Zz3 h1
  exact PySem.W.ki_setBack ho (by omega) (by rw[Zzl,<- hl];exact h3) (by omega) (by rw[hk];exact⟨_,I',q⟩)
theorem Vi(lo hi:Option Int)(n:Nat):(sliceBounds lo hi none n).1=((HT.sIx n 0 lo:Nat):Int)/\(sliceBounds lo hi none n).2.1=((HT.sIx n n hi:Nat):Int)/\(sliceBounds lo hi none n).2.2=1:=by
 refine⟨?_,?_,rfl⟩
 ·cases lo with
  |none=>simp[sliceBounds,HT.sIx]
  |some i =>
   simp only[sliceBounds,HT.sIx,Option.getD_none,show (1:Int) > 0 by decide,if_true]
   by_cases h:i<0
   ·simp only[h,if_true]<;>omega
   ·simp only[h,if_false]<;>omega
 ·cases hi with
  |none=>simp[sliceBounds,HT.sIx]
  |some i =>
   simp only[sliceBounds,HT.sIx,Option.getD_none,show (1:Int) > 0 by decide,if_true]
   by_cases h:i<0
   ·simp only[h,if_true]<;>omega
   ·simp only[h,if_false]<;>omega
theorem Td(its:List Value)(lo hi:Option Int):slicePick its.toArray lo hi none=((its.drop (HT.sIx its.length 0 lo)).take (HT.sIx its.length its.length hi - HT.sIx its.length 0 lo)).toArray:=by
 obtain⟨h1,h2,h3⟩:=Vi lo hi its.toArray.size
 unfold slicePick
 rw[h1,h2,h3]
 simp only[sliceRange_one,pick_run,Zzl]<;>rfl
def rSlL(K:Zzw):V->Option Int->Option Int->Hp->VK->Prop:=λx lo hi H Q=>∃a xs,x=.ref a/\SqL K H a xs/\∀p,H p=none->Q (.ref p) (upd H p (.lst (J8 xs lo hi)))
theorem su:SlR X (rSlL X.K):=by
 intro pins s Z H x v vl vu lo hi sl Q I rx hs pl pu h
 obtain⟨a,xs,rfl,hx,q⟩:=h
 cases rx
 obtain⟨its,r,ht,hz⟩:=I.list hx
 have hlen:=r.length
 refine⟨"list",_,slot_list_getitem.lookup,ht.isList.typeIs,?_⟩
 refine wpAny_getItem_list_slice ht.isList hs pl pu .none (by simp) ?_ (by rw[Zzl]<;>omega)
 rw[Td,<- hlen]
 refine⟨.ref s.heap.objs.size,_,I.laid (t':=s.toks) (o:=.lst (J8 xs lo hi)) (λb ob q=>Zzx _ q) (Zzm _) ?_,rfl,q _ (I.hok.fresh (Zzm _))⟩
 exact⟨Zyf (Yy xs lo hi) hz,_,0,(r.drop (HT.sIx xs.length 0 lo)).take (HT.sIx xs.length xs.length hi - HT.sIx xs.length 0 lo),Zze _ rfl⟩
def L6:V->Bool
 |.non=>true
 |.bl _=>true
 |.int _=>true
 |.str _=>true
 |_=>false
def eqV:V->V->Bool
 |.non,.non=>true
 |.bl a,.bl b=>a == b
 |.bl a,.int b=>(if a then 1 else 0) == b
 |.int a,.bl b=>a == (if b then 1 else 0)
 |.int a,.int b=>a == b
 |.str a,.str b=>a == b
 |_,_=>false
theorem yw{A:Around}{s:Shared}{y x:V}{u v:Value}(ry:RelV y u)(rx:RelV x v)(fy:L6 y=true)(fx:L6 x=true):SeqAt.EqAt A s u v (eqV y x):=by
 cases y with
 |non =>
  cases ry
  cases x with
  |non=>cases rx;exact SeqAt.EqAt.same _
  |bl b=>cases rx;exact SeqAt.EqAt.none_bool b
  |int b=>obtain⟨t,rfl⟩:=rx;exact SeqAt.EqAt.none_int b t
  |str b=>obtain⟨t,rfl⟩:=rx;exact SeqAt.EqAt.none_str b t
  |_=>exact absurd (show false=true from fx) Zz9
 |bl a =>
  cases ry
  cases x with
  |non=>cases rx;exact SeqAt.EqAt.bool_none a
  |bl b=>cases rx;exact SeqAt.EqAt.bool_bool a b
  |int b=>obtain⟨t,rfl⟩:=rx;exact SeqAt.EqAt.bool_int a b t
  |str b=>obtain⟨t,rfl⟩:=rx;exact SeqAt.EqAt.bool_str a b t
  |_=>exact absurd (show false=true from fx) Zz9
 |int a =>
  obtain⟨t',rfl⟩:=ry
  cases x with
  |non=>cases rx;exact SeqAt.EqAt.int_none a t'
  |bl b=>cases rx;exact SeqAt.EqAt.int_bool a t' b
  |int b=>obtain⟨t,rfl⟩:=rx;exact SeqAt.EqAt.int_int a t' b t
  |str b=>obtain⟨t,rfl⟩:=rx;exact SeqAt.EqAt.int_str a t' b t
  |_=>exact absurd (show false=true from fx) Zz9
 |str a =>
  obtain⟨t',rfl⟩:=ry
  cases x with
  |non=>cases rx;exact SeqAt.EqAt.str_none a t'
  |bl b=>cases rx;exact SeqAt.EqAt.str_bool a t' b
  |int b=>obtain⟨t,rfl⟩:=rx;exact SeqAt.EqAt.str_int a t' b t
  |str b=>obtain⟨t,rfl⟩:=rx;exact SeqAt.EqAt.str_str a t' b t
  |_=>exact absurd (show false=true from fx) Zz9
 |_=>exact absurd (show false=true from fy) Zz9
def eqU(x:V)(u:Value):Bool:=match u with
 |.none=>eqV .non x
 |.bool b=>eqV (.bl b) x
 |.int i _=>eqV (.int i) x
 |.str z _=>eqV (.str z) x
 |_=>false
theorem bd{x y:V}{u:Value}(r:RelV y u)(f:L6 y=true):eqU x u=eqV y x:=by
 cases y with
 |non=>cases r;rfl
 |bl b=>cases r;rfl
 |int i=>obtain⟨t,rfl⟩:=r;rfl
 |str z=>obtain⟨t,rfl⟩:=r;rfl
 |_=>exact absurd (show false=true from f) Zz9
theorem Wy{x:V}:∀{xs:List V} {us:List Value},Vals xs us->xs.all L6=true->us.any (eqU x)=xs.any λy=>eqV y x
 |_,_,.nil,_=>rfl
 |y::xs,u::us,.cons r t,f=>by
  rw[Zwe,Zza] at f
  rw[Zw4,Zw4,bd r f.1,Wy t f.2]
theorem Pe{A:Around}{s:Shared}{x:V}{v:Value}(rx:RelV x v)(fx:L6 x=true):∀{xs:List V} {us:List Value},Vals xs us->xs.all L6=true->∀u∈us,SeqAt.EqAt A s u v (eqU x u)
 |_,_,.nil,_=>λu hu=>by cases hu
 |y::xs,u::us,.cons r t,f=>λu' hu=>by
  rw[Zwe,Zza] at f
  rcases Zzt.mp hu with rfl | hu
  ·rw[bd r f.1];exact yw r rx f.1 fx
  ·exact Pe rx fx t f.2 u' hu
def inV(x:V)(xs:List V):Bool:=xs.any λy=>eqV y x
def rIn(K:Zzw)(neg:Bool):R2:=λx y H Q=>∃p xs,y=.ref p/\(SqL K H p xs\/SqT K H p xs)/\L6 x=true/\xs.all L6=true/\Q (.bl (if neg then !inV x xs else inV x xs)) H
theorem ii:OpR X (compareOp .In) (rIn X.K false):=by
 intro pins s Z H x y v u Q I rx ry h
 obtain⟨p,xs,rfl,hq,fx,fs,q⟩:=h
 cases ry
 rcases hq with hq | hq
 ·obtain⟨its,r,pl,hz⟩:=I.list hq
  refine SeqAt.in_listAt (eqU x) pl.isList (λw hw=>Pe rx fx r fs w (by simpa using hw)) ⟨.bl _,H,I,rfl,?_⟩
  rw[show its.toArray.any (eqU x)=its.any (eqU x) by simp,Wy r fs]
  exact q
 ·obtain⟨its,r,pl,hz⟩:=I.tuple hq
  refine SeqAt.in_tupleAt (eqU x) pl (λw hw=>Pe rx fx r fs w (by simpa using hw)) ⟨.bl _,H,I,rfl,?_⟩
  rw[show its.toArray.any (eqU x)=its.any (eqU x) by simp,Wy r fs]
  exact q
theorem J6:CallR X (.builtin "len") (λxs H Q=>∃p ys,xs=[.ref p]/\(SqL X.K H p ys\/SqT X.K H p ys)/\Q (.int ys.length) H):=by
 intro pins s Z H xs us Q I r h
 obtain⟨p,ys,rfl,hq,q⟩:=h
 obtain⟨u,rfl,rx⟩:=K4 r
 cases rx
 have hn:=Nf
 rcases hq with hq | hq
 ·obtain⟨its,r',pl,hz⟩:=I.list hq
  have hlen:=r'.length
  exact Calls.call_len_list pl.isList (by simp only[Zzl]<;>omega) ⟨.int ys.length,H,I.tok _,⟨s.toks+1,by rw[Zzl,hlen]⟩,q⟩
 ·obtain⟨its,r',pl,hz⟩:=I.tuple hq
  have hlen:=r'.length
  exact len_tuple pl (by simp only[Zzl]<;>omega) ⟨.int ys.length,H,I.tok _,⟨s.toks+1,by rw[Zzl,hlen]⟩,q⟩
theorem Wq:CallR X (.builtin "len") (λxs H Q=>∃z,xs=[.str z]/\z.length<=sizeLine/\Q (.int z.length) H):=by
 intro pins s Z H xs us Q I r h
 obtain⟨z,rfl,hz,q⟩:=h
 obtain⟨u,rfl,t,rfl⟩:=K4 r
 have hn:=Nf
 exact len_str (by omega) ⟨.int z.length,H,I.tok _,⟨_,rfl⟩,q⟩
theorem Tz:CallR X (.type "tuple") (λxs H Q=>∃p ys,xs=[.ref p]/\((SqL X.K H p ys/\∀l,H l=none->Q (.ref l) (upd H l (.tup ys)))\/(SqT X.K H p ys/\Q (.ref p) H))):=by
 intro pins s Z H xs us Q I r h
 obtain⟨p,ys,rfl,h⟩:=h
 obtain⟨u,rfl,rx⟩:=K4 r
 cases rx
 rcases h with ⟨hq,q⟩ | ⟨hq,q⟩
 ·obtain⟨its,r',pl,hz⟩:=I.list hq
  have hlen:=r'.length
  refine call_tuple_list pl.isList (λh' kp=>?_) (by simp only[Zzl]<;>omega)
  have I1:Inv X pins Z H {s with heap:=h'}:=I.kept (t':=s.toks) kp
  have I2:Inv X pins Z (upd H h'.objs.size (.tup ys)) {s with heap:=h'.push {cls:=.type "tuple",data:=.seq its.toArray}} :=
   I1.laid (t':=s.toks) (λb o e=>Zzx _ e) (Zzm _) (show ObjOk X.prog X.w _ _ _ (.tup ys) from ⟨hz,its,r',IsTup.new _ _⟩)
  exact⟨.ref h'.objs.size,_,I2,rfl,q _ (I1.hok.fresh (Zzm _))⟩
 ·obtain⟨its,r',pl,hz⟩:=I.tuple hq
  exact call_tuple_same pl ⟨.ref p,H,I,rfl,q⟩
def tyV(K:Zzw)(T:String)(x:V)(H:Hp):Prop:=match x with
 |.str _=>T = "str"
 |.int _=>T = "int"
 |.ref p=>(T = "list" /\ ∃xs,SqL K H p xs)\/(T = "tuple" /\ ∃o,K.lookup p=some o/\o.cls=.type "tuple" /\ o.dict=none) \/
   (T = "dict" /\ ((∃kvs,H p=some (.dK kvs))\/∃kvs,H p=some (.dT kvs)))\/(T = "set" /\ ∃S n,H p=some (.set S n))
 |_=>False
theorem xz{pins:List (Addr×Obj)}{Z:St}{H:Hp}{s:Shared}{T:String}{x:V}{v:Value}(I:Inv X pins Z H s)(r:RelV x v)(ty:tyV X.K T x H) :
  s.TypeIs v T/\∀a,v=.ref a->∃ob,s.heap.get? a=some ob/\ob.dict=none:=by
 cases x with
 |str z =>
  obtain⟨t,rfl⟩:=r
  cases (show T = "str" from ty)
  exact⟨typeIs_str s z t,λ_ e=>nomatch e⟩
 |int i =>
  obtain⟨t,rfl⟩:=r
  cases (show T = "int" from ty)
  exact⟨typeIs_int s i t,λ_ e=>nomatch e⟩
 |ref p =>
  cases r
  rcases ty with ⟨rfl,xs,hq⟩ | ⟨rfl,o,hk,hc,hd⟩ | ⟨rfl,hk⟩ | ⟨rfl,S,n,hk⟩
  ·obtain⟨its,_,pl,_⟩:=I.list hq
   refine⟨pl.isList.typeIs,λa e=>?_⟩
   cases e
   obtain⟨o,n,e,c,hd,_⟩:=pl
   exact⟨o,e,hd⟩
  ·refine⟨⟨o,I.kIn p o hk,hc⟩,λa e=>?_⟩
   cases e
   exact⟨o,I.kIn _ o hk,hd⟩
  ·have z:∃o,s.heap.get? p=some o/\o.ExactDict:=by
    rcases hk with ⟨kvs,hk⟩ | ⟨kvs,hk⟩
    ·obtain⟨_,_,_,_,o,_,_,e,ex,_⟩:=I.hok p _ hk
     exact⟨o,e,ex⟩
    ·obtain⟨_,_,_,_,o,_,_,e,ex,_⟩:=I.hok p _ hk
     exact⟨o,e,ex⟩
   obtain⟨o,e,ex⟩:=z
   refine⟨⟨o,e,ex.1⟩,λa e2=>?_⟩
   cases e2
   exact⟨o,e,ex.2.1⟩
  ·obtain⟨o,_,_,_,e,ex,_⟩:=I.hok p _ hk
   refine⟨⟨o,e,ex.1⟩,λa e2=>?_⟩
   cases e2
   exact⟨o,e,ex.2.1⟩
 |_=>exact False.elim ty
variable {o e:Expr}{es:List Expr}{to:TE}{t:TA}{name:Str}{apos cpos:Pos}{T id:String}{r:V->List V->Hp->VK->Prop}
end
def MtM(X:Cx)(id:String)(r:V->List V->Hp->VK->Prop):Prop :=
 ∀(pins:List (Addr×Obj)) (s:Shared) (Z:St) (H:Hp) (x:V) (xs:List V) (v:Value) (us:List Value) (Q:VK),Inv X pins Z H s->RelV x v->Vals xs us->r x xs H Q ->
  wpAny (model X.prog X.w) X.A (call (.builtin id) (v::us)) (EP X pins Z Q) X.xe s
theorem Vals.one:∀{x:V} {us:List Value},Vals [x] us->∃u,us=[u]/\RelV x u
 |_,_,.cons r .nil=>⟨_,rfl,r⟩
theorem Vals.reverse{xs:List V}{us:List Value}(h:Vals xs us):Vals xs.reverse us.reverse:=by
 induction h with
 |nil=>exact .nil
 |cons r t ih=>rw[List.reverse_cons,List.reverse_cons];exact Vals.append ih (.cons r .nil)
theorem Vals.rep{xs:List V}{us:List Value}(h:Vals xs us):∀k:Nat,Vals (Zxm k xs).flatten (Zxm k us).flatten
 |0=>.nil
 |k+1=>by
  rw[Zzc,Zzc,Zyr,Zyr]
  exact Vals.append h (Vals.rep h k)
theorem Uv(its:List Value):∀(k:Nat) (acc:List Value),
  List.foldl (λx1 x2=>x1++x2) acc.toArray (Zxm k its.toArray)=(acc++(Zxm k its).flatten).toArray
 |0,acc=>by simp
 |k+1,acc=>by
  have e:acc.toArray++its.toArray=(acc++its).toArray:=by simp
  have e2:(acc++its)++(Zxm k its).flatten=acc++(Zxm (k+1) its).flatten:=by
   rw[Zzc,Zyr,List.append_assoc]
  rw[<- e2,<- Uv its k (acc++its),<- e,Zzc,List.foldl_cons]
section
variable {X:Cx}{pins:List (Addr×Obj)}{Z:St}{H:Hp}{s:Shared}{l b:Addr}{xs ys zs:List V}
theorem Inv.lset{its its':List Value}{n:Nat}{f:Array Value->Array Value}{t':Nat}(I:Inv X pins Z H s)(hH:H l=some (.lst xs))
  (e:s.heap.get? l=some {cls:=.type "list",data:=.seq its.toArray n}) (hf:f its.toArray=its'.toArray) (hv:Vals ys its') (hz:ys.length<=sizeLine) :
  Inv X pins Z (upd H l (.lst ys)) {s with heap:=s.heap.update l (Obj.mapSeq f),toks:=t'}:=by
 have q:=PySem.IsL.update e f
 rw[hf] at q
 refine I.write (x:=l) (e:=l) (by rw[hH];exact trivial) (.inl rfl) (λb' u hb hu=>(Zxi s.heap (Obj.mapSeq f) (Zzi hb)).trans hu) ⟨_,q⟩ ?_
 exact⟨hz,its',_,hv,q⟩
theorem Inv.lnew{its:List Value}{t':Nat}(I:Inv X pins Z H s)(hv:Vals ys its)(hz:ys.length<=sizeLine) :
  Inv X pins Z (upd H s.heap.objs.size (.lst ys)) {s with heap:=s.heap.push {cls:=.type "list",data:=.seq its.toArray},toks:=t'} :=
 I.laid (λ_ _ q=>Zzx _ q) (Zzm _) ⟨hz,its,0,hv,Zze _ rfl⟩
theorem Inv.fresh(I:Inv X pins Z H s):H s.heap.objs.size=none:=I.hok.fresh (Zzm _)
theorem Inv.lstM(I:Inv X pins Z H s)(hH:H l=some (.lst xs)):xs.length<=sizeLine/\∃(its:List Value) (n:Nat),Vals xs its/\xs.length=its.length/\s.heap.get? l=some {cls:=.type "list",data:=.seq its.toArray n}:=by
 obtain⟨z,its,n,r,e⟩:=I.hok l _ hH
 exact⟨z,its,n,r,r.length,e⟩
theorem Y8{n:Nat}(h:n<=sizeLine):Zw9 n=false:=by
 unfold Zw9
 exact decide_eq_false (by omega)
end
section
variable {X:Cx}
def rAppend:V->List V->Hp->VK->Prop:=λx vs H Q=>∃l xs y,x=.ref l/\vs=[y]/\H l=some (.lst xs)/\xs.length<sizeLine/\Q .non (upd H l (.lst (xs++[y])))
theorem Fi:MtM X "list.append" rAppend:=by
 intro pins s Z H x vs v us Q I rx rv h
 obtain⟨l,xs,y,rfl,rfl,hH,hz,q⟩:=h
 cases rx
 obtain⟨u,rfl,ru⟩:=rv.one
 obtain⟨z,its,n,r,hl,e⟩:=I.lstM hH
 refine call_meets F.slot_list_append ⟨_,e,rfl⟩ F.entry_list_append (F.args_list_append_2 _ _) (PySem.list_append l its.toArray n u (by rw[Zzl];omega)) ⟨e,?_⟩
 refine⟨.non,_,I.lset (its':=its++[u]) hH e (by simp) (r.append (.cons ru .nil)) ?_,rfl,q⟩
 rw[Zym,Zx3]
 omega
def rExtend:V->List V->Hp->VK->Prop:=λx vs H Q=>∃l b xs zs,x=.ref l/\vs=[.ref b]/\H l=some (.lst xs)/\H b=some (.lst zs)/\xs.length+zs.length<=sizeLine/\Q .non (upd H l (.lst (xs++zs)))
theorem Ob:MtM X "list.extend" rExtend:=by
 intro pins s Z H x vs v us Q I rx rv h
 obtain⟨l,b,xs,zs,rfl,rfl,hH,hB,hz,q⟩:=h
 cases rx
 obtain⟨u,rfl,ru⟩:=rv.one
 cases ru
 obtain⟨z,its,n,r,hl,e⟩:=I.lstM hH
 obtain⟨z2,its2,n2,r2,hl2,e2⟩:=I.lstM hB
 have hsz:its.toArray.size+its2.toArray.size<=sizeLine:=by rw[Zzl,Zzl];omega
 have hlong:¬ (!its.toArray.isEmpty&&Zw9 (its.toArray.size+its2.toArray.size))=true:=by
  rw[Y8 hsz,Zuu]
  exact Zz9
 refine call_meets F.slot_list_extend ⟨_,e,rfl⟩ F.entry_list_extend (F.args_list_extend_2 _ _)
  (AutoSeq1.list_extend_list_list_0 l its.toArray n b its2.toArray n2 hlong (by rw[Zzl];omega) (by omega)) ⟨e,e2,?_⟩
 refine⟨.non,_,I.lset (its':=its++its2) hH e (by simp) (r.append r2) ?_,rfl,q⟩
 rw[Zym]
 omega
def Df:V->List V->Hp->VK->Prop:=λx vs H Q=>∃l xs i k y,x=.ref l/\vs=[.int i]/\H l=some (.lst xs)/\-(2^63)<=i/\i<2^63/\seqIndex? i xs.length=some k/\xs[k]?=some y/\Q y (upd H l (.lst (xs.eraseIdx k)))
def Cb:V->List V->Hp->VK->Prop:=λx vs H Q=>∃l xs,x=.ref l/\vs=[]/\H l=some (.lst xs)/\Q .non (upd H l (.lst xs.reverse))
def rCat:R2:=λx y H Q=>∃l b xs zs,x=.ref l/\y=.ref b/\H l=some (.lst xs)/\H b=some (.lst zs)/\xs.length+zs.length<=sizeLine/\∀p,H p=none->Q (.ref p) (upd H p (.lst (xs++zs)))
theorem Ov:OpR X (binaryOp .Add) rCat:=by
 intro pins s Z H x y v u Q I rx ry h
 obtain⟨l,b,xs,zs,rfl,rfl,hH,hB,hz,q⟩:=h
 cases rx
 cases ry
 obtain⟨z,its,n,r,hl,e⟩:=I.lstM hH
 obtain⟨z2,its2,n2,r2,hl2,e2⟩:=I.lstM hB
 refine PySem.P.add_list e e2 ?_ (by rw[Zzl,Zzl];omega)
 have ea:its.toArray++its2.toArray=(its++its2).toArray:=by simp
 rw[ea]
 exact⟨.ref _,_,I.lnew (t':=s.toks) (r.append r2) (by rw[Zym];omega),rfl,q _ I.fresh⟩
def rRep:R2:=λx y H Q=>∃l k xs,x=.ref l/\y=.int k/\H l=some (.lst xs)/\-(2^63)<=k/\k<2^63/\xs.length*k.toNat<=sizeLine /\
 ∀p,H p=none->Q (.ref p) (upd H p (.lst (Zxm k.toNat xs).flatten))
theorem vf{α:Type}(xs:List α)(k:Nat):(Zxm k xs).flatten.length=k*xs.length:=by
 induction k with
 |zero=>simp
 |succ k ih=>rw[Zzc,Zyr,Zym,ih,Nat.succ_mul,Nat.add_comm]
theorem Zz:OpR X (binaryOp .Mult) rRep:=by
 intro pins s Z H x y v u Q I rx ry h
 obtain⟨l,k,xs,rfl,rfl,hH,h1,h2,hz,q⟩:=h
 cases rx
 obtain⟨t,rfl⟩:=ry
 obtain⟨z,its,n,r,hl,e⟩:=I.lstM hH
 have hlen:its.toArray.size*k.toNat<=sizeLine:=by rw[Zzl,<- hl];exact hz
 have hcap:¬ its.toArray.size*k.toNat > (2^63 - 1) / 8:=by
  have:(sizeLine:Nat)<=(2^63 - 1) / 8:=by decide
  omega
 have hfit:¬ (!Builtin.List.listFitsIndex k)=true:=by
  rw[fitsIndex_both h1 h2]
  exact Zz9
 have hlong:¬ Zw9 (its.toArray.size*k.toNat)=true:=by
  rw[Y8 hlen]
  exact Zz9
 have hnew:List.foldl (λx1 x2=>x1++x2) #[] (Zxm (if its.toArray.isEmpty=true then 0 else k.toNat) its.toArray)=(Zxm k.toNat its).flatten.toArray:=by
  have f0:∀m:Nat,List.foldl (λx1 x2=>x1++x2) #[] (Zxm m its.toArray)=(Zxm m its).flatten.toArray:=λm=>by
   have:=Uv its m []
   rw[Zz8] at this
   exact this
  rw[f0]
  cases its with
  |nil=>simp
  |cons a r'=>rw[if_neg (by simp)]
 refine wpAny_binaryOp_repeat_ref (T := "list") (U := "int") (by decide) ⟨_,e,rfl⟩ (λs'=>typeIs_int s' k t) noFill_list_mul F.fills_int_mul F.slot_int_rmul repeat_list F.slot_int_index.lookup
  (call_meets F.slot_int_rmul (typeIs_int s k t) F.entry_int_rmul (F.args_int_rmul_2 _ _) (int___rmul___int_list k t l its.toArray n)
   ⟨e,rfl,⟨_,e,rfl⟩,call_meets F.slot_list_mul ⟨_,e,rfl⟩ F.entry_list_mul (F.args_list_mul_2 _ _) (AutoListH.list___mul___list_int_3 l its.toArray n k t hfit hcap hlong) ⟨e,?_⟩⟩)
 rw[hnew]
 exact⟨.ref _,_,I.lnew (t':=s.toks) (r.rep k.toNat) (by rw[vf,Nat.mul_comm];exact hz),rfl,q _ I.fresh⟩
end
section
variable {prog:Program}{w:World}{A:Around}{E:Value->Shared->Prop}{s:Shared}
end
section
variable {X:Cx}
end
section
variable {κ:Type}[DecidableEq κ]
def Fk(kvs:List (κ×V))(k:κ):Option V:=(kvs.find? λkv=>decide (kv.1=k)).map (·.2)
def Jc(kvs:List (κ×V))(k:κ)(v:V):List (κ×V) :=
 if (kvs.any λkv=>decide (kv.1=k))=true then kvs.map (λkv=>if kv.1=k then (kv.1,v) else kv) else kvs++[(k,v)]
theorem G0{p:κ×V}{r:List (κ×V)}{k:κ}(e:p.1=k):Fk (p::r) k=some p.2:=by simp[Fk,Zw2,e]
theorem Fw{p:κ×V}{r:List (κ×V)}{k:κ}(e:¬ p.1=k):Fk (p::r) k=Fk r k:=by simp[Fk,Zw2,e]
theorem Js(k:κ):∀kvs:List (κ×V),(kvs.any λkv=>decide (kv.1=k))=(Fk kvs k).isSome
 |[]=>rfl
 |p::r=>by
  rw[Zw4]
  by_cases e:p.1=k
  ·simp only[G0 e,decide_eq_true e,Bool.true_or,Option.isSome_some]
  ·rw[Fw e,decide_eq_false e,Bool.false_or];exact Js k r
theorem X5(k j:κ)(y:V):∀kvs:List (κ×V),Fk (kvs.map λkv=>if kv.1=k then (kv.1,y) else kv) j=(Fk kvs j).map λx=>if j=k then y else x
 |[]=>rfl
 |p::r=>by
  have ih:=X5 k j y r
  rw[Zzp]
  by_cases h:p.1=k
  ·rw[if_pos h]
   by_cases e:p.1=j
   ·rw[G0 (p:=(p.1,y)) e,G0 e,Zvm,if_pos (e.symm.trans h)]
   ·rw[Fw (p:=(p.1,y)) e,Fw e,ih]
  ·rw[if_neg h]
   by_cases e:p.1=j
   ·rw[G0 (p:=p) e,G0 e,Zvm,if_neg (λz=>h (e.trans z))]
   ·rw[Fw (p:=p) e,Fw e,ih]
theorem U3(k j:κ)(y:V):∀kvs:List (κ×V),Fk kvs k=none->Fk (kvs++[(k,y)]) j=if j=k then some y else Fk kvs j
 |[],_=>by
  by_cases e:k=j
  ·rw[if_pos e.symm];exact G0 (p:=(k,y)) e
  ·rw[if_neg (λz=>e z.symm)];exact Fw (p:=(k,y)) e
 |p::r,hn=>by
  rw[Zz2]
  have hk:¬ p.1=k:=λz=>by rw[G0 z] at hn;cases hn
  rw[Fw hk] at hn
  have ih:=U3 k j y r hn
  by_cases e:p.1=j
  ·rw[G0 e,G0 e,if_neg (λz=>hk (e.trans z))]
  ·rw[Fw e,Fw e,ih]
theorem Kv(kvs:List (κ×V))(k j:κ)(y:V):Fk (Jc kvs k y) j=if j=k then some y else Fk kvs j:=by
 unfold Jc
 by_cases a:(kvs.any λkv=>decide (kv.1=k))=true
 ·rw[if_pos a,X5]
  rw[Js] at a
  by_cases e:j=k
  ·obtain⟨x,hx⟩:=Option.isSome_iff_exists.mp a
   rw[if_pos e,e,hx,Zvm,if_pos rfl]
  ·rw[if_neg e]
   cases Fk kvs j with
   |none=>rfl
   |some x=>rw[Zvm,if_neg e]
 ·rw[if_neg a]
  refine U3 k j y kvs ?_
  rw[Js] at a
  cases q:Fk kvs k with
  |none=>rfl
  |some x=>rw[q] at a;exact(a rfl).elim
theorem Ng(kvs:List (κ×V))(k:κ)(v:V):(Jc kvs k v).length<=kvs.length+1:=by
 unfold Jc
 split
 ·rw[Zzz];omega
 ·rw[Zym,Zzk,Zyy];omega
theorem S1{kvs:List (κ×V)}{k:κ}(v:V)(h:Fk kvs k=none):Jc kvs k v=kvs++[(k,v)]:=by
 unfold Jc
 rw[Js,h]
 exact if_neg (by decide)
theorem RelO.isSome_eq{o:Option V}{u:Option Value}(r:RelO o u):o.isSome=u.isSome:=by
 cases o with
 |none=>cases u with
  |none=>rfl
  |some _=>exact(show False from r).elim
 |some _=>cases u with
  |none=>exact(show False from r).elim
  |some _=>rfl
theorem KV.val{kvs:List (κ×V)}{vs:List (κ×Value)}(r:KV kvs vs)(k:κ):RelO (Fk kvs k) (valueAt vs k):=by
 unfold KV at r
 induction r with
 |nil=>exact True.intro
 |@cons p q ps qs h t ih =>
  obtain⟨h1,h2⟩:=h
  by_cases e:p.1=k
  ·have e':q.1=k:=h1.symm.trans e
   have b:valueAt (q::qs) k=some q.2:=by simp[valueAt,Zw2,e']
   rw[G0 e,b];exact h2
  ·have e':¬ q.1=k:=λz=>e (h1.trans z)
   have b:valueAt (q::qs) k=valueAt qs k:=by simp[valueAt,Zw2,e']
   rw[Fw e,b];exact ih
theorem KV.any{kvs:List (κ×V)}{vs:List (κ×Value)}(r:KV kvs vs)(k:κ):(kvs.any λkv=>decide (kv.1=k))=vs.any λkv=>decide (kv.1=k):=by
 unfold KV at r
 induction r with
 |nil=>rfl
 |cons h t ih=>rw[Zw4,Zw4,ih,h.1]
theorem KV.repl{kvs:List (κ×V)}{vs:List (κ×Value)}(r:KV kvs vs)(k:κ){y:V}{u:Value}(ry:RelV y u) :
  KV (kvs.map λkv=>if kv.1=k then (kv.1,y) else kv) (vs.map λkv=>if kv.1=k then (kv.1,u) else kv):=by
 unfold KV at r ⊢
 induction r with
 |nil=>exact .nil
 |@cons p q ps qs h t ih =>
  rw[Zzp,Zzp]
  refine .cons ?_ ih
  obtain⟨h1,h2⟩:=h
  by_cases e:p.1=k
  ·rw[if_pos e,if_pos (h1.symm.trans e)];exact⟨h1,ry⟩
  ·rw[if_neg e,if_neg (λz=>e (h1.trans z))];exact⟨h1,h2⟩
theorem KV.put{kvs:List (κ×V)}{vs:List (κ×Value)}(r:KV kvs vs)(k:κ){y:V}{u:Value}(ry:RelV y u):KV (Jc kvs k y) (stored vs k u):=by
 unfold Jc stored
 rw[r.any k]
 by_cases e:(vs.any λkv=>decide (kv.1=k))=true
 ·rw[if_pos e,if_pos e];exact r.repl k ry
 ·rw[if_neg e,if_neg e];exact Paired.snoc r ⟨rfl,ry⟩
theorem KV.length{kvs:List (κ×V)}{vs:List (κ×Value)}(r:KV kvs vs):kvs.length=vs.length:=Paired.length r
end
theorem Yi{P:Program}{w:World}{k:Key}{u:Value}(r:RelV (kV k) u):(Dj P w).is k u=true:=by
 cases k with
 |inl i=>obtain⟨t,e⟩:=(show ∃t,u=Value.int i t from r);subst e;exact Yc P w i t
 |inr x=>obtain⟨t,e⟩:=(show ∃t,u=Value.str x t from r);subst e;exact Lv P w x t
theorem Ut{P:Program}{w:World}:∀{ks:List Key} {us:List Value},Vals (ks.map kV) us->ItemsAre (Dj P w) ks us
 |[],_,r=>by rw[Zyv] at r;cases r;exact .nil
 |k::ks,_,r=>by
  rw[Zzp] at r
  cases r with
  |cons h t=>exact .cons (Yi h) (Ut t)
abbrev KT(H:Hp):List (List Key×V)->List (List Key×Addr×Value)->Prop:=Paired λp q=>p.1=q.1/\H q.2.1=some (.tup (p.1.map kV))/\RelV p.2 q.2.2
theorem KT.val{H:Hp}{kvs:List (List Key×V)}{xs:List (List Key×Addr×Value)}(r:KT H kvs xs)(k:List Key):RelO (Fk kvs k) ((atKey xs k).map (·.2)):=by
 induction r with
 |nil=>exact True.intro
 |@cons p q ps qs h t ih =>
  obtain⟨h1,_,h2⟩:=h
  by_cases e:p.1=k
  ·have e':q.1=k:=h1.symm.trans e
   have b:atKey (q::qs) k=some q.2:=by simp[atKey,Zw2,e']
   rw[G0 e,b];exact h2
  ·have e':¬ q.1=k:=λz=>e (h1.trans z)
   have b:atKey (q::qs) k=atKey qs k:=by simp[atKey,Zw2,e']
   rw[Fw e,b];exact ih
theorem KT.repl{H:Hp}{kvs:List (List Key×V)}{xs:List (List Key×Addr×Value)}(r:KT H kvs xs)(k:List Key){y:V}{u:Value}(ry:RelV y u) :
  KT H (kvs.map λkv=>if kv.1=k then (kv.1,y) else kv) (xs.map (putAt k u)):=by
 induction r with
 |nil=>exact .nil
 |@cons p q ps qs h t ih =>
  rw[Zzp,Zzp]
  refine .cons ?_ ih
  obtain⟨h1,h2,h3⟩:=h
  unfold putAt
  by_cases e:p.1=k
  ·rw[if_pos e,if_pos (h1.symm.trans e)];exact⟨h1,h2,ry⟩
  ·rw[if_neg e,if_neg (λz=>e (h1.trans z))];exact⟨h1,h2,h3⟩
theorem KT.put{H:Hp}{kvs:List (List Key×V)}{xs:List (List Key×Addr×Value)}(r:KT H kvs xs)(k:List Key){b:Addr}{y:V}{u:Value}(hb:H b=some (.tup (k.map kV)))(ry:RelV y u) :
  KT H (Jc kvs k y) (storedH xs k b u):=by
 have e:(kvs.any λkv=>decide (kv.1=k))=(atKey xs k).isSome:=by
  rw[Js,(r.val k).isSome_eq,Option.isSome_map]
 unfold Jc storedH
 rw[e]
 by_cases q:(atKey xs k).isSome=true
 ·rw[if_pos q,if_pos q];exact r.repl k ry
 ·rw[if_neg q,if_neg q];exact Paired.snoc r ⟨rfl,hb,ry⟩
theorem KT.keeps{H H':Hp}{kvs:List (List Key×V)}{xs:List (List Key×Addr×Value)}(r:KT H kvs xs)(ht:∀b ys,H b=some (.tup ys)->H' b=some (.tup ys)):KT H' kvs xs :=
 Paired.mapP r λ_ _ z=>⟨z.1,ht _ _ z.2.1,z.2.2⟩
section
variable {P:Program}{w:World}{H:Hp}{h:Heap}{a:Addr}
theorem xc{u:HO}(ok:HOk P w H h)(e:Rd H a u):ObjOk P w H h a u:=e.ok ok
theorem Yw{kvs:List (Key×V)}(ok:HOk P w H h)(e:Rd H a (.dK kvs)):kvs.length<=sizeLine/\(a == sysModules)=false/\∃vs,KV kvs vs/\h.DictOf (Dj P w) a vs :=
 show ObjOk P w H h a (.dK kvs) from xc ok e
theorem A0c{kvs:List (Key×V)}(ok:HOk P w H h)(e:H a=some (.dK kvs)):kvs.length<=sizeLine/\(a == sysModules)=false/\∃vs,KV kvs vs/\h.DictOf (Dj P w) a vs:=Yw ok (.inl e)
theorem Wl{ks:List Key}(ok:HOk P w H h)(e:H a=some (.tup (ks.map kV))):(tupleKind (Dj P w)).is h ks a:=by
 obtain⟨_,its,r,o,h1,h2,n,h3⟩:=(show ObjOk P w H h a (.tup (ks.map kV)) from ok a _ e)
 exact⟨o,its.toArray,n,h1,h2,h3,by simpa using Ut r⟩
theorem fc{kvs:List (List Key×V)}(ok:HOk P w H h)(e:Rd H a (.dT kvs)):kvs.length<=sizeLine/\(a == sysModules)=false /\
  ∃xs,KT H kvs xs/\h.DictOfH (tupleKind (Dj P w)) a xs:=by
 obtain⟨z,y,xs,r,o,es,ep,h1,h2,h3,h4,h5⟩:=(show ObjOk P w H h a (.dT kvs) from xc ok e)
 refine⟨z,y,xs,r,o,es,ep,h1,h2,h3,h4,λx hx=>?_,h5⟩
 have all:∀{l:List (List Key×V)} {m:List (List Key×Addr×Value)},KT H l m->∀x∈m,(tupleKind (Dj P w)).is h x.1 x.2.1:=by
  intro l m q
  induction q with
  |nil=>intro x hx;exact nomatch hx
  |@cons p q ps qs hq t ih =>
   intro x hx
   rcases Zzt.mp hx with e | hx
   ·subst e
    exact Wl ok (by rw[<- hq.1];exact hq.2.1)
   ·exact ih x hx
 exact all r x hx
theorem A0b{kvs:List (List Key×V)}(ok:HOk P w H h)(e:H a=some (.dT kvs)):kvs.length<=sizeLine/\(a == sysModules)=false /\
  ∃xs,KT H kvs xs/\h.DictOfH (tupleKind (Dj P w)) a xs:=fc ok (.inl e)
end
def rh(H:Hp)(a:Addr)(y:V)(r:Option V):Prop :=
 (∃kvs k,Rd H a (.dK kvs)/\y=kV k/\r=Fk kvs k)\/∃kvs k b,Rd H a (.dT kvs)/\y=.ref b/\H b=some (.tup (k.map kV))/\r=Fk kvs k
def DPut(H:Hp)(a:Addr)(y v:V)(H':Hp):Prop :=
 (∃kvs k,H a=some (.dK kvs)/\y=kV k/\kvs.length<sizeLine/\H'=upd H a (.dK (Jc kvs k v))) \/
 ∃kvs k b,H a=some (.dT kvs)/\y=.ref b/\H b=some (.tup (k.map kV))/\kvs.length<sizeLine/\H'=upd H a (.dT (Jc kvs k v))
theorem DPut.k{H:Hp}{a:Addr}{kvs:List (Key×V)}{k:Key}{v:V}(e:H a=some (.dK kvs))(hl:kvs.length<sizeLine):DPut H a (kV k) v (upd H a (.dK (Jc kvs k v))):=.inl ⟨kvs,k,e,rfl,hl,rfl⟩
section
variable {X:Cx}{pins:List (Addr×Obj)}{Z:St}{H:Hp}{s:Shared}{a:Addr}{y v:V}{u r:Value}{o:Option V}{A:Around}{E:Value->Shared->Prop}
theorem Inv.big(I:Inv X pins Z H s):sysModules<s.heap.objs.size:=by
 have h:mainGlobals<s.heap.objs.size:=(I.mod.glob.keeps I.bk).lt
 exact Zv5 (by decide) h
theorem jj{Q:Value->Shared->Prop}(hu:A.units+1<cLine)(I:Inv X pins Z H s)(g:rh H a y (some v))(ry:RelV y u)(h:∀w' s',Inv X pins Z H s'->RelV v w'->Q w' s') :
  wpAny (model X.prog X.w) A (getItem (.ref a) u) Q E s:=by
 rcases g with ⟨kvs,k,e,ey,l⟩ | ⟨kvs,k,b,e,ey,eb,l⟩
 ·subst ey
  obtain⟨z,hd,vs,rel,dd⟩:=Yw I.hok e
  obtain⟨w',hw,rw'⟩:=RelO.some_of (v:=v) (o:=valueAt vs k) (by rw[l];exact rel.val k)
  exact wpAny_getItem_of (Yi ry) dd.mapOf hw (h w' _ (I.tok _) rw')
 ·subst ey
  cases (show u=Value.ref b from ry)
  obtain⟨z,hd,xs,rel,dd⟩:=fc I.hok e
  obtain⟨w',hw,rw'⟩:=RelO.some_of (v:=v) (o:=(atKey xs k).map (·.2)) (by rw[l];exact rel.val k)
  obtain⟨p,hp,hp2⟩:=Option.map_eq_some_iff.mp hw
  refine wpAny_getItem_heap (tupleKind_room_in1 hu) (Wl I.hok eb) dd hp ?_
  rw[hp2]
  exact h w' _ (I.tok _) rw'
theorem d_in{Q:Value->Shared->Prop}(hu:A.units+1<cLine)(I:Inv X pins Z H s)(g:rh H a y o)(ry:RelV y u)(h:∀s',Inv X pins Z H s'->Q (.bool o.isSome) s') :
  wpAny (model X.prog X.w) A (compareOp .In u (.ref a)) Q E s:=by
 rcases g with ⟨kvs,k,e,ey,l⟩ | ⟨kvs,k,b,e,ey,eb,l⟩
 ·subst ey
  obtain⟨z,hd,vs,rel,dd⟩:=Yw I.hok e
  refine wpAny_in_of (Yi ry) hd dd.mapOf ?_
  rw[<- (rel.val k).isSome_eq,<- l]
  exact h _ (I.tok _)
 ·subst ey
  cases (show u=Value.ref b from ry)
  obtain⟨z,hd,xs,rel,dd⟩:=fc I.hok e
  refine wpAny_in_heap (tupleKind_room_in1 hu) (Wl I.hok eb) hd dd ?_
  have q:=(rel.val k).isSome_eq
  rw[Option.isSome_map] at q
  rw[<- q,<- l]
  exact h _ (I.tok _)
theorem fi{h':Heap}{t':Nat}{ob:HO}(I:Inv X pins Z H s)(mu:Mut (H a))(hs:Zxl a s.heap h')(he:∃q,h'.get? a=some q)(new:ObjOk X.prog X.w (upd H a ob) h' a ob) :
  Inv X pins Z (upd H a ob) {s with heap:=h',toks:=t'} :=
 I.write (x:=a) (e:=a) mu (.inl rfl) (λb q hb z=>(hs.2 b hb).trans z) he new
theorem yx{P:Program}{w:World}{H':Hp}{h':Heap}{kvs:List (Key×V)}{vs:List (Key×Value)}(z:kvs.length<=sizeLine)(hd:(a == sysModules)=false)(rel:KV kvs vs)(dd:h'.DictOf (Dj P w) a vs) :
  ObjOk P w H' h' a (.dK kvs):=⟨z,hd,vs,rel,dd⟩
theorem ji{H':Hp}{Q:Unit->Shared->Prop}(hu:A.units+1<cLine)(I:Inv X pins Z H s)(g:DPut H a y v H')(ry:RelV y u)(rv:RelV v r)(h:∀s',Inv X pins Z H' s'->Q () s') :
  wpAny (model X.prog X.w) A (setItem (.ref a) u r) Q E s:=by
 rcases g with ⟨kvs,k,e,ey,l,eH⟩ | ⟨kvs,k,b,e,ey,eb,l,eH⟩
 ·subst ey eH
  obtain⟨z,hd,vs,rel,dd⟩:=A0c I.hok e
  have hz:vs.length<=sizeLine:=by rw[<- rel.length];exact z
  have hl:(Jc kvs k v).length<=sizeLine:=by have:=Ng kvs k v;omega
  refine wpAny_setItem_pairs (hsz:=hz) (Yi ry) dd λh' dd' hs=>h _ ?_
  have he:∃q,h'.get? a=some q:=by obtain⟨q,_,_,hq,_⟩:=dd';exact⟨q,hq⟩
  exact fi I (by rw[e];exact True.intro) hs he (yx hl hd (rel.put k rv) dd')
 ·subst ey eH
  cases (show u=Value.ref b from ry)
  obtain⟨z,hd,xs,rel,dd⟩:=A0b I.hok e
  have hz:xs.length<=sizeLine:=by rw[<- Paired.length rel];exact z
  have hl:(Jc kvs k v).length<=sizeLine:=by have:=Ng kvs k v;omega
  refine wpAny_setItem_heap (hsz:=hz) (tupleKind_room_in1 hu) (Wl I.hok eb) dd λh' dd' hs=>h _ ?_
  obtain⟨q,es,ep,hq,h2,h3,h4,_,h5⟩:=dd'
  refine fi I (by rw[e];exact True.intro) hs ⟨q,hq⟩ ⟨hl,hd,_,(rel.put k eb rv).keeps λc ys ec=>?_,q,es,ep,hq,h2,h3,h4,h5⟩
  rw[A7 (Uj ec e (λz=>nomatch z))]
  exact ec
end
section
variable {X:Cx}{pins:List (Addr×Obj)}{Z:St}{H:Hp}{s:Shared}{a:Addr}{kvs:List (Key×V)}{k:Key}{u:Value}{A:Around}{E:Value->Shared->Prop}
theorem A0d{Q:Value->Shared->Prop}(I:Inv X pins Z H s)(e:Rd H a (.dK kvs))(h:∀t s',Inv X pins Z H s'->Q (.int kvs.length t) s'):wpAny (model X.prog X.w) A (call (.builtin "len") [.ref a]) Q E s:=by
 obtain⟨z,hd,vs,rel,dd⟩:=Yw I.hok e
 refine call_len_dict hd dd (by rw[<- rel.length];rw[sizeLine_eq] at z;omega) ?_
 rw[<- rel.length]
 exact h _ _ (I.tok _)
end
theorem Yx{X:Cx}{pins:List (Addr×Obj)}{Z:St}{H:Hp}{s:Shared}{a:Addr}{y:V}{o:Option V}(I:Inv X pins Z H s)(g:rh H a y o):s.TypeIs (.ref a) "dict" := by
 rcases g with ⟨kvs,k,e,_,_⟩ | ⟨kvs,k,b,e,_,_,_⟩
 ·obtain⟨_,_,vs,_,dd⟩:=Yw I.hok e
  exact dd.typeIs
 ·obtain⟨_,_,xs,_,dd⟩:=fc I.hok e
  exact dd.typeIs
section
variable {X:Cx}{o i e value:Expr}{pos pos' tpos:Pos}{td ty tv:TE}
end
theorem py{P:Program}{w:World}{H:Hp}(h:Heap)(hb:sysModules<h.objs.size):ObjOk P w H (h.push {cls:=.type "dict",data:=.dict #[]}) h.objs.size (.dK []) :=
 ⟨Zy0 _,beq_eq_false_iff_ne.mpr (Zzi (Zyb hb)),[],.nil,Heap.DictOf.new h⟩
def tDNewK:TE:=λ_ H Q=>∀p,H p=none->Q (.ref p) (upd H p (.dK []))
section
variable {X:Cx}{pos:Pos}
theorem Na:PE X (.Dict [] [] pos) tDNewK:=λpins s Z H Q I h =>
 wpAny_Dict_empty ⟨.ref s.heap.objs.size,_,I.laid (a:=s.heap.objs.size) (o:=.dK []) (t':=s.toks) (λ_ _ q=>Zzx _ q) (Zzm _) (py s.heap I.big),rfl,h _ (I.hok.fresh (Zzm _))⟩
end
structure M1(X:Cx)(o:Expr)(m:Str)(apos:Pos)(e:Expr)(cpos:Pos):Prop where
 base:attributeBase o m X.env (eval o X.env)=eval o X.env
 few:((backTo cpos (starEach [e] X.env)).all (λx=>!x.1)&&(backToKw cpos (keywordEach [] X.env)).all (λx=>x.1.isSome)
  && decide (([e]:List Expr).length+([]:List Keyword).length+(if ([]:List Keyword).isEmpty then 0 else 1)<30))=true
 line:(apos.endLine == cpos.line)=true
 trees:backTo cpos (starEach [e] X.env)=[(false,eval e X.env)]
section
variable {X:Cx}{pins:List (Addr×Obj)}{Z:St}{H:Hp}{s:Shared}{a:Addr}{y d:V}{u r:Value}{o:Option V}{A:Around}{E:Value->Shared->Prop}
end
section
variable {X:Cx}{o e f:Expr}{apos cpos:Pos}{td ty tx:TE}
end
section
variable {X:Cx}{pins:List (Addr×Obj)}{Z:St}{H:Hp}{s:Shared}{a:Addr}{kvs:List (Key×V)}{A:Around}{E:Value->Shared->Prop}
end
section
variable {X:Cx}{pins:List (Addr×Obj)}{Z:St}{H:Hp}{s:Shared}{a:Addr}{y:V}{u:Value}{A:Around}{E:Value->Shared->Prop}
end
end L2
namespace Att
open PySem PySem.W PySem.Calls PyProof.Rows
theorem Qs{P:Params}{h:Heap}:∀(ns:List Int) (vs:List Value),WellAll P h vs (ns.map WData.int)->IntsAre vs ns:=by
 intro ns
 induction ns with
 |nil =>
  intro vs w
  rw[Zyv] at w
  cases w
  exact .nil
 |cons n ns ih =>
  intro vs w
  rw[Zzp] at w
  cases w with
  |cons a b =>
   cases a
   exact .cons _ _ (ih _ b)
theorem gn{l:OpenLaw}{n:Nat}(hn:l.most=some n){P:Params}{h:Heap}{args:List WData}{vals:List Value}
  (hpre:l.row.toRowW.claim.pre args=true) (hwl:WellAll P h vals args) :
  ∃a vs ns,vals=[Value.ref a]/\args=[WData.list (ns.map WData.int)]/\h.get? a=some {cls:=.type "list",data:=.seq vs.toArray}/\IntsAre vs ns/\ns.length<=n:=by
 have hsh:WShape.hasAll [] args [.list .int]=true:=(pre_splitW hpre).1
 have hc:l.pre.holds [] {args:=args}=true:=(pre_splitW hpre).2
 obtain⟨d,r,rfl,h1,h2⟩:=hasAllW_cons hsh
 obtain rfl:=hasAllW_nil h2
 obtain⟨xs,rfl,h3⟩:=hasW_list h1
 obtain⟨ns,rfl⟩:=items_int h3
 have hlen:ns.length<=n:=by
  unfold OpenLaw.pre at hc
  have h4:(WTm.not (.lt (.lit (.int (n:Int))) (.len (.arg 0)))).holds [] {args:=[.list (ns.map .int)]}=true:=by
   have h4:=(holds_andW hc).1
   rw[hn] at h4
   exact h4
  have h5:=condW_of h4 (w_not (w_lt w_lit (w_len_list (w_arg rfl))))
  rw[Zzz] at h5
  refine Nat.le_of_not_lt λq=>?_
  have q':(n:Int)<((ns.length:Nat):Int):=by omega
  first
   | (rw[decide_eq_true q'] at h5;exact absurd h5 (by decide))
   | (simp at h5;omega)
 cases hwl with
 |cons w1 w2 =>
  cases w2
  cases w1 with
  |list ho hall=>exact⟨_,_,ns,rfl,rfl,ho,Qs ns _ hall,hlen⟩
theorem gw(l:OpenLaw)(args:List WData):l.row.toRowW.claim.post args (.bool true) args=true :=
 postW_of (r:=l.row.toRowW) (X:=(true == true))
  (show WShape.has [] (.bool true) .bool=true by first | rfl | decide | simp[WShape.has,WShape.arms,WShape.armsAll])
  (show (WTm.eq .res (.lit (.bool true))).value [] {args:=args,res:=some (.bool true),after:=args}=some (.bool (true == true)) from w_eq_bool (w_res rfl) w_lit) rfl
theorem attach_call{l:OpenLaw}{n:Nat}{q:Program}{loose:List Str}{XP:(Str->Option Value)->Heap->Prop}{YP:World->Heap->Prop}{d:DefRec}
  (hn:l.most=some n) (hdf:d.params.defaults=[])
  (call:∀(w:World) (s₀ s₁:Shared) (mg mb:Str->Option Value) (fa:Addr) (o:Obj) (pm cd doc:Value) (a:Addr) (vs:List Value) (ns:List Int),
   Ground q loose [] XP w s₀ mg mb s₁.heap->YP w s₁.heap ->
   s₁.heap.get? fa=some o->o.data=.func (docDef d.name d.params d.body d.scope pm cd doc)->s₁.heap.CodeRec cd d.name->mg d.name=some (.ref fa) ->
   s₁.heap.get? a=some {cls:=.type "list",data:=.seq vs.toArray}->IntsAre vs ns->ns.length<=n->s₁.gens=#[] ->
   codeAny (model l.prog w) callerA (.call (.ref fa) ⟨[.ref a],[]⟩) (λr s'=>r=.ok (.ret (.bool true))/\OldK s₁.heap s'.heap/\s'.os=s₁.os/\AllBare s'.gens) s₁) :
  WalkO q loose XP YP l.row.toRowW d [] (λf vs=>PySem.call f vs):=by
 intro w s₀ s₁ mg mb G Y fa o pm cd doc dV kV ho hd hcd hD hmg hg args vals as hpre hlay hrd hwl hlo
 obtain rfl:dV=.none:=Dflts.none hD hdf
 obtain rfl:kV=.none:=Dflts.noKw hD
 obtain⟨a,vs,ns,rfl,rfl,hobj,hints,hlen⟩:=gn hn hpre hwl
 refine enter_call (codeAny_mono (call w s₀ s₁ mg mb fa o pm cd doc a vs ns G Y ho (fd_plain hd) hcd hmg hobj hints hlen hg) λr s' hq=>?_)
 obtain⟨rfl,h2,h3,h4⟩:=hq
 exact⟨.inl ⟨.bool true,.bool true,[],rfl,λ_=>rfl,.bool true,gw l _,λ_=>⟨List.Pairwise.nil,λ_ hm=>(nomatch hm)⟩⟩,h2,h3,h4⟩
section
variable {prog:Program}{w:World}{A:Around}{E:Value->Shared->Prop}{s:Shared}{K:Frag}
end
end Att
namespace L2
open PySem PySem.Spec PyProof.Rows
theorem U1:∀{vs:List Value} {ns:List Int},IntsAre vs ns->Vals (ns.map V.int) vs
 |_,_,.nil=>.nil
 |_,_,.cons n t h=>.cons ⟨t,rfl⟩ (U1 h)
def Mu(s:Stmt):Arguments:=match s with
 |.FunctionDef _ a _ _ _ _ _ _ _ _=>a
 |_=>{posonlyargs:=[],args:=[],vararg:=none,kwonlyargs:=[],kw_defaults:=[],kwarg:=none,defaults:=[]}
def Kq(s:Stmt):List Stmt:=match s with
 |.FunctionDef _ _ b _ _ _ _ _ _ _=>b
 |_=>[]
def Ai(s:Stmt):Scope:=match s with
 |.FunctionDef _ _ _ _ _ _ sc _ _ _=>sc
 |_=>{kind:=.function,names:=[],isGenerator:=false,isCoroutine:=false}
abbrev CX0:CXT:=λ_ _ _ _ _ _=>False
abbrev E0:XK:=λ_ _ _=>False
theorem A03{X:Cx}:br CX0 X E0:=λ_ _ _ _ _ _ _ h=>h.elim
structure Fun(K:Zzw)(x qual:Str)(st:Stmt)(f:Addr)(fd:FuncData):Prop where
 ex:∃(oc:Value) (od:Option Addr) (kV doc pm:Value) (an:Option Addr) (cdv ct:Value) (osl:Array (Option Value)),
  fd=Zwl x qual (Mu st) (Kq st) (Ai st) .none kV doc pm an cdv ct/\K.lookup f=some ⟨oc,od,.func fd,osl⟩/\Zuv K cdv qual=true
 kp:Zvv K (.ref f)=true
section
variable {P:Program}{w:World}{K:Zzw}{mg:Str->Option Value}{base:Heap}
theorem Fun.ok{x qual:Str}{st:Stmt}{f:Addr}{fd:FuncData}{N ps:List Str}{k:Nat}{sp:Sp}(F:Fun K x qual st f fd)(S:Bg N ps (Ai st))(len:∀vs H Q E,sp vs H Q E->vs.length=ps.length)
  (hbody:∀(cdv:Value) (A:Around) (outer:List Env) (s:Shared) (H:Hp) (vs:List V) (Q:VK) (E:XK),Room k (A.deeper (envOfC qual (Ai st) s.heap.objs.size f cdv))->sp vs H Q E ->
   ∃t,PSs (bf CX0 P w K mg base N qual (Ai st) f cdv A outer s H E).nox (Kq st) t/\t {nx:=λ_ H'=>Q .non H',rt:=Q} (Dn N vs) H):D3 P w K mg base CX0 (k+1) f fd ps sp:=by
 obtain⟨oc,od,kV,doc,pm,an,cdv,ct,osl,rfl,lk,hcd⟩:=F.ex
 refine xn lk hcd S len λA outer s H vs Q E hr hsp=>?_
 obtain⟨t,h,q⟩:=hbody cdv A outer s H vs Q E hr hsp
 exact⟨t,h.nox,q⟩
theorem Fun.binds{x qual:Str}{st:Stmt}{f:Addr}{fd:FuncData}{ps:List Str}(F:Fun K x qual st f fd)
  (h:∀(kV doc pm:Value) (an:Option Addr) (cdv ct:Value) (us:List Value),us.length=ps.length->bindArgs (Zwl x qual (Mu st) (Kq st) (Ai st) .none kV doc pm an cdv ct) ⟨us,[]⟩=pure (ps.zip us)):Binds K fd ps []:=by
 obtain⟨oc,od,kV,doc,pm,an,cdv,ct,osl,rfl,lk,hcd⟩:=F.ex
 exact .all (h kV doc pm an cdv ct)
theorem C3{x qual:Str}{st:Stmt}{f:Addr}{oc:Value}{od an:Option Addr}{osl:Array (Option Value)}{kV doc pm cdv ct:Value}(l:K.lookup f=some ⟨oc,od,.func (Zwl x qual (Mu st) (Kq st) (Ai st) .none kV doc pm an cdv ct),osl⟩)
  (c:Zuv K cdv qual=true) (k:Zvv K (.ref f)=true):Fun K x qual st f (Zwl x qual (Mu st) (Kq st) (Ai st) .none kV doc pm an cdv ct):=⟨⟨oc,od,kV,doc,pm,an,cdv,ct,osl,rfl,l,c⟩,k⟩
end
theorem Ch{A:Around}{k:Nat}(hr:Room k A):A.units+1<cLine:=Zya (Nat.add_le_add_left (by decide:1<=64) _) hr.units
section
variable {X:Cx}
theorem pv(i:Nat){x:Str}{pos:Pos}(hN:X.N[i]?=some x:=by rfl)(hv:Vis X.env.scope x:=by first | exact Zzu rfl | exact Zvu (Zzu rfl) | exact Zvu (Zvu rfl))(hd:(x == ("__debug__" : Str))=false:=by decide)
  (hcd:(x == ("__classdict__" : Str))=false:=by decide):PE X (.Name x pos) (Gq i):=ya hN hv hd hcd
theorem jr:CallR X (.builtin "len") (λxs H Q=>∃a kvs,xs=[V.ref a]/\H a=some (.dK kvs)/\Q (.int kvs.length) H):=by
 intro pins s Z H xs us Q I r h
 obtain⟨a,kvs,rfl,ha,q⟩:=h
 obtain⟨u,rfl,ru⟩:=K4 r
 cases ru
 exact A0d I (.inl ha) λt s' I'=>⟨.int kvs.length,H,I',⟨t,rfl⟩,q⟩
end
theorem iteF{A B:Prop}(h:B):if false=true then A else B:=by
 rw[if_neg Zz9]
 exact h
theorem iteT{A B:Prop}(h:A):if true=true then A else B:=by
 rw[if_pos rfl]
 exact h
theorem Fj{c A B:Prop}[Decidable c](h1:c->A)(h2:¬ c->B):if c then A else B:=by
 by_cases h:c
 ·rw[if_pos h]
  exact h1 h
 ·rw[if_neg h]
  exact h2 h
theorem A09{c A B:Prop}[Decidable c](hc:c)(h:B):if (!decide c)=true then A else B:=by
 rw[decide_eq_true hc]
 exact iteF h
def Same(H H':Hp):Prop:=∀b o,H b=some o->H' b=some o
theorem Same.refl(H:Hp):Same H H:=λ_ _ h=>h
theorem Same.trans{H H1 H2:Hp}(a:Same H H1)(b:Same H1 H2):Same H H2:=λc o h=>b c o (a c o h)
theorem Same.free{H H':Hp}(e:Same H H'){l:Addr}(h:H' l=Option.none):H l=Option.none:=by
 cases q:H l with
 |none=>rfl
 |some o =>
  rw[e l o q] at h
  cases h
theorem Same.seq{K:Zzw}{H H':Hp}{a:Addr}{xs:List V}(e:Same H H')(h:SqL K H a xs):SqL K H' a xs:=by
 rcases h with (h | ⟨o,h⟩) | h
 ·exact .inl (.inl (e _ _ h))
 ·exact .inl (.inr ⟨o,e _ _ h⟩)
 ·exact .inr h
section
variable {κ:Type}[DecidableEq κ]
theorem sf{kvs:List (κ×V)}{k:κ}{v:V}(h:Fk kvs k=some v):k∈kvs.map (·.1):=by
 have q:(kvs.any λkv=>decide (kv.1=k))=true:=by
  rw[Js,h]
  all_goals rfl
 obtain⟨p,hp,e⟩:=List.any_eq_true.mp q
 exact Zzv.mpr ⟨p,hp,of_decide_eq_true e⟩
end
theorem Ty{env:Env}:∀(names:List (Str×NameKind)) (acc:List (Str×Addr)),(∀y∈names,y.2=.free->∃c,env.cells.lookup y.1=some c)->(∀x c,acc.lookup x=some c->env.cells.lookup x=some c) ->
  ∃cl,(forIn names acc (λx r=>if (x.2 == Zy6)=true then do let c <- cellOf env x.1;pure (ForInStep.yield ((x.1,c)::r)) else pure (ForInStep.yield r)):Sem _)=pure cl /\
   (∀x c,cl.lookup x=some c->env.cells.lookup x=some c)/\(∀x,((x,Zy6)∈names\/∃c,acc.lookup x=some c)->∃c,cl.lookup x=some c):=by
 intro names
 induction names with
 |nil=>intro acc h ha;exact⟨acc,rfl,ha,λx hx=>by simpa using hx⟩
 |cons y r ih =>
  intro acc h ha
  obtain⟨n,k⟩:=y
  have hr:∀y∈r,y.2=.free->∃c,env.cells.lookup y.1=some c:=λy hy=>h y (Zzd _ hy)
  rw[Zw1]
  by_cases hk:k=.free
  ·subst hk
   obtain⟨c,hc⟩:=h (n,.free) Zzf rfl
   have e:cellOf env n=pure c:=by unfold cellOf;rw[hc]
   obtain⟨cl,e1,a,b⟩:=ih ((n,c)::acc) hr (λx c' hx=>by
    rw[Zxh] at hx
    cases hxn:x == n with
    |true =>
     rw[hxn] at hx
     cases hx
     rw[eq_of_beq hxn]
     exact hc
    |false =>
     rw[hxn] at hx
     exact ha x c' hx)
   refine⟨cl,?_,a,λx hx=>b x ?_⟩
   ·rw[<- e1]
    show (if (Zy6 == Zy6)=true then (cellOf env n >>= _) else _) >>= _=_
    rw[if_pos (show (Zy6 == Zy6)=true from rfl),e]
    rfl
   ·rcases hx with hx | ⟨c',hx⟩
    ·rcases Zzt.mp hx with e2 | hx
     ·have e3:x=n:=congrArg Prod.fst e2
      exact .inr ⟨c,by rw[Zxh,e3];simp⟩
     ·exact .inl hx
    ·refine .inr ?_
     rw[Zxh]
     cases x == n with
     |true=>exact⟨c,rfl⟩
     |false=>exact⟨c',hx⟩
  ·obtain⟨cl,e1,a,b⟩:=ih acc hr ha
   refine⟨cl,?_,a,λx hx=>b x ?_⟩
   ·rw[<- e1]
    have hb:(k == Zy6)=false:=by simpa using hk
    show (if (k == Zy6)=true then _ else _) >>= _=_
    rw[if_neg (by rw[hb];simp)]
    rfl
   ·rcases hx with hx | hx
    ·rcases Zzt.mp hx with e2 | hx
     ·exact absurd (congrArg Prod.snd e2).symm hk
     ·exact .inl hx
    ·exact .inr hx
theorem N0{scope:Scope}{env:Env}(h:∀y∈scope.names,y.2=.free->∃c,env.cells.lookup y.1=some c) :
  ∃cl,closureFor scope env=pure cl/\(∀x c,cl.lookup x=some c->env.cells.lookup x=some c)/\(∀x,(x,Zy6)∈scope.names->∃c,cl.lookup x=some c):=by
 obtain⟨cl,e,a,b⟩:=Ty scope.names [] h (by intro x c e;cases e)
 refine⟨cl,?_,a,λx hx=>b x (.inl hx)⟩
 unfold closureFor
 exact congrArg (λm=>m >>= λx=>pure x) e
def cpN(N own:List Str)(cap:List Nat):List Str:=own++cap.map λj=>N.getD j ""
def Fd(own:List Str)(cap:List Nat)(Z:St):St:=own.map (λ_=>none)++cap.map λj=>Z.getD j none
structure Oh(N:List Str)(osc sc:Scope)(own:List Str)(cap:List Nat):Prop where
 kind:sc.kind=.function
 names:∀x∈sc.names,x.2=.local->sc.names.lookup x.1=some .local
 nocell:∀y∈sc.names,y.2≠.cell
 free:∀y∈sc.names,y.2=.free->osc.names.lookup y.1=some .cell\/osc.names.lookup y.1=some .free
 cap:∀j∈cap,j<N.length/\sc.names.lookup (N.getD j "")=some .free
def Ft(X:Cx)(sc:Scope)(own:List Str)(cap:List Nat)(cl:List (Str×Addr))(C:Addr)(s:Shared)(H:Hp)(fp:List Addr)(pins:List (Addr×Obj)):Cx :=
 {X with N:=cpN X.N own cap,s₀:=s,H₀:=H,env:=compEnvC sc cl C X.env,outer:=X.stack,ex:=fp,fn:=λ_=>false,pn:=X.pn++pins,xe:=λ_ _=>False}
def PTs(X:Cx)(ifs:List Expr)(tt:TT):Prop :=
 ∀(pins:List (Addr×Obj)) (s:Shared) (Z:St) (H:Hp) (Q:Bool->Hp->Prop),Inv X pins Z H s->tt Z H Q ->
  wpAny (model X.prog X.w) X.A (forIn ifs true λc r=>if r=true then do let ok <- isTrue c X.env (eval c X.env);pure (ForInStep.yield ok) else pure (ForInStep.yield r)) (TP X pins Z Q) X.xe s
def tYes:TT:=λ_ H Q=>Q true H
theorem D0{X:Cx}:PTs X [] tYes:=λ_ _ _ H _ I h=>wpAny_tests_nil ⟨H,I,h⟩
theorem Lu{X:Cx}{c:Expr}{tt:TT}(h:PT X c tt):PTs X [c] tt:=λpins s Z H Q I hq=>wpAny_tests_one (h pins s Z H Q I hq)
def jv(n:Nat)(g:TG):Prop:=∀v Z H Q,g v Z H Q->g v Z H λZ' H'=>(Z'.length=Z.length/\∀j,n<=j->Z'[j]?=Z[j]?)/\Q Z' H'
theorem C8{n i:Nat}(h:i<n):jv n (Ci i):=λv Z H Q q=>⟨⟨by simp,λj hj=>by rw[Zxj (by omega)]⟩,q⟩
def kr(own:List Str)(cap:List Nat)(wi:TI)(g:TG)(tt:TT)(te:TE):TE:=λZ H Q=>wi Z H λJ H1=>∃W:Nat->Nat->List V->Hp->Prop,(∃m,W 0 m [] H1)/\∀i m acc H,W i m acc H->acc.length<=sizeLine /\
 ((J.stop i H/\∀p,H p=none->Q (.ref p) (upd H p (.lst acc))) \/
  (J.go i H/\acc.length<sizeLine/\∃N:List V->Hp->Prop,(∀acc' H',N acc' H'->∃m',m'<m/\W (i+1) m' acc' H')/\∀x H',J.yld i H x H'->g x (Fd own cap Z) H' λσ2 H2=>tt σ2 H2 λb H3=>if b=true then te σ2 H3 λy H4=>N (acc++[y]) H4 else N acc H3))
section
variable {prog:Program}{w:World}{A:Around}{R:Result->Shared->Prop}{s:Shared}
theorem Oj{elt target iter:Expr}{ifs:List Expr}{scope:Scope}{pos:Pos}{it acc:Value}{env:Env}(I:Nat->Shared->Prop)
  (turn:∀n s,I n s->wpAny (model prog w) A (pyNext it) (λr s₁=>match r with
   |none=>R (.ok .next) s₁
   |some v=>wpAny (model prog w) A (letOwnedTupleGo target it v) (λ_ s₁'=>wpAny (model prog w) A (assign target env v) (λ_ s₂ =>
     wpAny (model prog w) A (forIn ifs true λc r=>if r=true then do let ok <- isTrue c env (eval c env);pure (ForInStep.yield ok) else pure (ForInStep.yield r)) (λok s₃ =>
      if ok=true then wpAny (model prog w) A (eval elt env) (λx s₄ =>
       wpAny (model prog w) A (call (.builtin "list.append") [acc,x]) (λ_ s₅=>∃m,m<n/\I m s₅) (λ_ _=>False) s₄) (λ_ _=>False) s₃
      else ∃m,m<n/\I m s₃) (λ_ _=>False) s₂) (λ_ _=>False) s₁') (λ_ _=>False) s₁) (λ_ _=>False) s)
  (n:Nat) (h:I n s) :
  codeAny (model prog w) A (.compLoop (.ListComp elt [⟨target,iter,ifs,0⟩] scope pos) 0 it acc env) R s:=by
 refine codeAny_loop rfl I (λn s hI=>?_) n h
 show wpAny _ A ((compTurn (.ListComp elt [⟨target,iter,ifs,0⟩] scope pos) 0 it acc env).onRaise (λx=>do noteFrame x env;theTreesLotGoes x)) _ _ s
 refine wpAny_noted ?_
 rw[compTurn_list]
 refine wpAny_bind (wpAny_standAt (wpAny_bind (wpAny_mono (turn n s hI) (λr s₁ h₁=>?_) λ_ _ h'=>h'.elim)))
 cases r with
 |none=>exact wpAny_pure h₁
 |some v =>
  refine wpAny_bind (wpAny_mono h₁ (λ_ s₁' h₁'=>?_) λ_ _ h'=>h'.elim)
  refine wpAny_bind (wpAny_mono h₁' (λ_ s₂ h₂=>wpAny_bind (wpAny_mono h₂ (λok s₃ h₃=>?_) λ_ _ h'=>h'.elim)) λ_ _ h'=>h'.elim)
  cases ok with
  |false=>exact wpAny_pure ⟨rfl,h₃⟩
  |true =>
   exact wpAny_bind (wpAny_bind (wpAny_mono h₃ (λx s₄ h₄=>wpAny_bind (wpAny_mono h₄ (λ_ s₅ h₅=>wpAny_pure (wpAny_pure ⟨rfl,h₅⟩)) λ_ _ h'=>h'.elim)) λ_ _ h'=>h'.elim))
end
section
variable {X:Cx}
theorem V2{own:List Str}{cap:List Nat}{Z:St}{i:Nat}{v:V}(h:(Fd own cap Z)[i]?=some (some v)):own.length<=i/\∃j,cap[i - own.length]?=some j/\Z[j]?=some (some v):=by
 unfold Fd at h
 by_cases hi:i<own.length
 ·rw[Zww (by simpa using hi),Zzy] at h
  cases e:own[i]? with
  |none=>rw[e] at h;cases h
  |some a=>rw[e] at h;cases h
 ·have hi':own.length<=i:=by omega
  rw[Zx8 (by simpa using hi'),Zzz,Zzy] at h
  refine⟨hi',?_⟩
  cases e:cap[i - own.length]? with
  |none=>rw[e] at h;cases h
  |some j =>
   rw[e] at h
   have h2:Z.getD j none=some v:=Zz3 h
   refine⟨j,rfl,?_⟩
   rw[Zzo] at h2
   cases e2:Z[j]? with
   |none=>rw[e2] at h2;cases h2
   |some o=>rw[e2] at h2;simp at h2;rw[h2]
theorem Nd{env:Env}{x:Str}{k:NameKind}:∀{names:List (Str×NameKind)},names.lookup x=some k ->
  (names.map λ(n,k)=>if (k == Zy6&&env.scope.kind == .function&&env.kindOf n == some .cell) then (n,Zvp) else (n,k)).lookup x=some (if (k == Zy6&&env.scope.kind == .function&&env.kindOf x == some .cell)=true then .cell else k)
 |[],h=>by simp at h
 | (n,k')::r,h=>by
  have ih:=@Nd env x k r
  show List.lookup x ((if (k' == Zy6&&env.scope.kind == .function&&env.kindOf n == some .cell)=true then (n,Zvp) else (n,k'))::_)=_
  cases hx:x == n with
  |true =>
   simp only[Zxh,hx] at h
   cases h
   have e:=eq_of_beq hx
   subst e
   by_cases hc:(k == Zy6&&env.scope.kind == .function&&env.kindOf x == some .cell)=true
   ·rw[if_pos hc,if_pos hc];simp[Zxh]
   ·rw[if_neg hc,if_neg hc];simp[Zxh]
  |false =>
   simp only[Zxh,hx] at h
   by_cases hc:(k' == Zy6&&env.scope.kind == .function&&env.kindOf n == some .cell)=true
   ·rw[if_pos hc];simp only[Zxh,hx];exact ih h
   ·rw[if_neg hc];simp only[Zxh,hx];exact ih h
theorem Kb{env:Env}{x:Str}:∀{names:List (Str×NameKind)},(∀y∈names,y.2≠.cell) ->
  ((names.map λ(n,k)=>if (k == Zy6&&env.scope.kind == .function&&env.kindOf n == some .cell) then (n,Zvp) else (n,k)).lookup x=some .cell \/
   (names.map λ(n,k)=>if (k == Zy6&&env.scope.kind == .function&&env.kindOf n == some .cell) then (n,Zvp) else (n,k)).lookup x=some .free)->(x,Zy6)∈names
 |[],_,h=>by simp at h
 | (n,k')::r,hn,h=>by
  have ih:=@Kb env x r λy hy=>hn y (Zzd _ hy)
  have hk':k'≠.cell:=hn (n,k') Zzf
  have h:List.lookup x ((if (k' == Zy6&&env.scope.kind == .function&&env.kindOf n == some .cell)=true then (n,Zvp) else (n,k'))::_)=some .cell \/
   List.lookup x ((if (k' == Zy6&&env.scope.kind == .function&&env.kindOf n == some .cell)=true then (n,Zvp) else (n,k'))::_)=some .free:=h
  cases hx:x == n with
  |true =>
   have e:=eq_of_beq hx
   subst e
   by_cases hc:(k' == Zy6&&env.scope.kind == .function&&env.kindOf x == some .cell)=true
   ·have:k'=.free:=by
     rw[Zza,Zza] at hc
     exact eq_of_beq hc.1.1
    rw[this]
    exact Zzf
   ·rw[if_neg hc] at h
    simp[Zxh] at h
    rcases h with h | h
    ·exact absurd h hk'
    ·rw[h];exact Zzf
  |false =>
   by_cases hc:(k' == Zy6&&env.scope.kind == .function&&env.kindOf n == some .cell)=true
   ·rw[if_pos hc] at h;simp only[Zxh,hx] at h;exact Zzd _ (ih h)
   ·rw[if_neg hc] at h;simp only[Zxh,hx] at h;exact Zzd _ (ih h)
end
theorem Fo{a b:Addr}{n:Nat}(h1:a<n)(h2:n<=b):a≠b:=Zyb (Zyn h1 h2)
section
variable {X:Cx}{pins:List (Addr×Obj)}{Z:St}{H:Hp}{s:Shared}{sc:Scope}{own:List Str}{cap:List Nat}{cl:List (Str×Addr)}{C:Addr}{fp:List Addr}
theorem A0e(S:Oh X.N X.env.scope sc own cap)(cl1:∀x c,cl.lookup x=some c->X.env.cells.lookup x=some c)(cl2:∀x,(x,Zy6)∈sc.names->∃c,cl.lookup x=some c)
  (I:Inv X pins Z H s) (f:∀b∈fp,N6 X pins H b) (live:∀b∈fp,b<s.heap.objs.size) (hC:s.heap.objs.size<=C):(Ft X sc own cap cl C s H fp pins).Ok where
 mod:=I.ok.mod
 kind:=S.kind
 glob:=I.ok.glob
 blt:=I.ok.blt
 above:=hC
 inj:=λx y c h1 h2=>I.ok.inj x y c (cl1 x c h1) (cl1 y c h2)
 has:=λx hx=>cl2 x (Kb S.nocell hx)
 cab:=λx c h=>by cases h
 hd:=I.ok.hd
 frames:=I.ok.frames
 stk:=.inl rfl
 exf:=λb hb=>⟨λz=>Fo (live b hb) hC z,λx c e=>(f b hb).2.2.2.2.1 x c (cl1 x c e)⟩
 bs:=I.bs
 bsz:=Zyf I.ok.bsz I.sz
 noex:=λb o e hb=>by
  rcases(f b hb).2.2.2.1 with z | z
  ·exact I.ok.noex b o e z
  ·exact Fo (Zyn (Zzb e) I.ok.bsz) z rfl
 exfs:=λb hb z=>by
  rcases Zzt.mp (I.stkSub b z) with q | q
  ·exact(f b hb).2.1 q
  ·exact(f b hb).2.2.1 q
 funs:=I.stack
 frf:=I.stkFree
theorem yz(S:Oh X.N X.env.scope sc own cap)(cl1:∀x c,cl.lookup x=some c->X.env.cells.lookup x=some c)(cl2:∀x,(x,Zy6)∈sc.names->∃c,cl.lookup x=some c)
  (I:Inv X pins Z H s) (ok:(Ft X sc own cap cl C s H fp pins).Ok) (hC:s.heap.objs.size<=C) {h₁:Heap} {tk:Nat} {m:Str->Option Value} (hns:h₁.Ns C m) (old:∀b o,s.heap.get? b=some o->h₁.get? b=some o) :
  Inv (Ft X sc own cap cl C s H fp pins) [] (Fd own cap Z) H {s with heap:=h₁,toks:=tk}:=by
 have cellK:∀x c v,X.env.cells.lookup x=some c->s.heap.IsCell c v->h₁.IsCell c v:=λx c v _ z=>by
  obtain⟨o,ho,hd⟩:=z
  exact⟨o,old c o ho,hd⟩
 refine⟨ok,rfl,I.bare,Un.kept old,⟨m,hns,λi x v e1 e2 e3=>?_⟩,λx c e=>?_,I.hok.fresh hC,λx c e=>I.freeC x c (cl1 x c e),λp hp=>?_,I.hok.kept old,?_⟩
 ·have e1:(cpN X.N own cap)[i]?=some x:=e1
  obtain⟨hi,j,hj,hσ⟩:=V2 e2
  unfold cpN at e1
  rw[Zx8 hi,Zzy,hj] at e1
  have e1:X.N.getD j "" = x:=Zz3 e1
  obtain⟨hjl,hfr⟩:=S.cap j (Zzr hj)
  have hx:X.N[j]?=some x:=by rw[<- e1,Zzo];simp[hjl]
  rw[e1] at hfr
  have hfree:=S.free (x,.free) (Zx0 hfr) rfl
  obtain⟨m0,_,hl⟩:=I.loc
  obtain⟨u,r,l⟩:=hl j x v hx hσ (.inr hfree)
  refine⟨u,r,?_⟩
  rcases l with ⟨k,_⟩ | ⟨k,c,hc,z⟩
  ·have k:X.env.scope.names.lookup x=some .local:=k
   rcases hfree with q | q<;>(rw[q] at k;cases k)
  ·obtain⟨c',hc'⟩:=cl2 x (Zx0 hfr)
   have e4:=cl1 x c' hc'
   rw[hc] at e4
   cases e4
   refine .inr ⟨?_,c,hc',cellK x c _ hc z⟩
   have q:=Nd (env:=X.env) hfr
   show (relabel sc X.env).names.lookup x=some .cell\/(relabel sc X.env).names.lookup x=some .free
   have q':(relabel sc X.env).names.lookup x=some (if (Zy6 == Zy6&&X.env.scope.kind == .function&&X.env.kindOf x == some .cell)=true then .cell else .free):=q
   rw[q']
   split
   ·exact .inl rfl
   ·exact .inr rfl
 ·obtain⟨v,z⟩:=I.cell x c (cl1 x c e)
  exact⟨v,cellK x c v (cl1 x c e) z⟩
 ·have hp:p∈(X.pn++pins)++[]:=hp
  rw[Zzn] at hp
  obtain⟨e,n,ne,nf,d⟩:=I.pin p hp
  refine⟨old _ _ e,n,λz=>?_,λz=>?_,d⟩
  ·exact Fo (Zzb e) hC z
  ·rcases Zzt.mp (I.stkSub p.1 z) with q | q
   ·exact ne q
   ·exact nf q
 ·show (Fd own cap Z).length=(cpN X.N own cap).length
  unfold Fd cpN
  simp
theorem w6(I:Inv X pins Z H s)(f:∀b∈fp,N6 X pins H b)(hC:s.heap.objs.size<=C){D:Addr}(hD:s.heap.objs.size<=D)(hDC:D≠C){Z':St}{pl:List (Addr×Obj)}{H':Hp}{s':Shared}{acc:List V}{its:List Value}{nn:Nat}
  (J:Inv (Ft X sc own cap cl C s H fp pins) pl Z' H' s') (hDn:H' D=none) (hDo:s'.heap.get? D=some {cls:=.type "list",data:=.seq its.toArray nn}) (hv:Vals acc its) (hz:acc.length<=sizeLine) :
  Inv X pins Z (upd H' D (.lst acc)) s'/\(∃m,s'.heap.Ns C m)/\N6 X pins (upd H' D (.lst acc)) C:=by
 have u:Un (frs X.stack) fp H H' s.heap s'.heap:=J.base
 have lt:∀b o,s.heap.get? b=some o->b≠D:=λb o e z=>Fo (Zzb e) hD z
 have trk:∀b o,H b=some o->b≠D:=λb o e z=>Fo (I.hok.lt e) hD z
 have CH:H' C=none:=J.free
 refine⟨I.call' (ch:=fp) J.os ⟨u.keep,u.slot,λb o e n hx=>by rw[A7 (lt b o e)];exact u.free b o e n hx,u.there,λb xs e=>by rw[A7 (trk b _ e)];exact u.tups b xs e,λb o xs e=>by rw[A7 (trk b _ e)];exact u.frzs b o xs e,λb ps e=>by rw[A7 (trk b _ e)];exact u.tbls b ps e⟩ (λb o e=>?_) J.bare λb hb=>?_,?_,?_⟩
 ·by_cases hb:b=D
  ·subst hb
   rw[A0] at e
   cases e
   exact⟨hz,its,nn,hv,hDo⟩
  ·rw[A7 hb] at e
   refine(J.hok b o e).stay (λc v _ q=>q) (λc q=>?_) λc xs q=>?_
   ·rw[A7 (A4 q hDn)];exact q
   ·rw[A7 (A4 q hDn)];exact q
 ·obtain⟨f0,f1,f2,f3,f4,f5⟩:=f b hb
  exact⟨f3,f1,f4,f5⟩
 ·obtain⟨m,hn,_⟩:=J.loc
  exact⟨m,hn⟩
 ·refine I.fpOk hC ?_
  rw[A7 (Zzi hDC)]
  exact CH
theorem T5{elt tg iter:Expr}{ifs:List Expr}{pos:Pos}{g:TG}{tt:TT}{te:TE}{E:Value->Shared->Prop}
  {it:Addr} {tn:Nat->Heap->Prop} {J:It} {Q:VK} {RR:Value->Addr->Result->Shared->Prop}
  (hc:X.calm=true) (S:Oh X.N X.env.scope sc own cap) (hown:jv own.length g)
  (cl1:∀x c,cl.lookup x=some c->X.env.cells.lookup x=some c) (cl2:∀x,(x,Zy6)∈sc.names->∃c,cl.lookup x=some c)
  (hb:∀cl C s H fp pins,PG (Ft X sc own cap cl C s H fp pins) tg g/\PTs (Ft X sc own cap cl C s H fp pins) ifs tt/\PE (Ft X sc own cap cl C s H fp pins) elt te)
  (I:Inv X pins Z H s) (T:Q9 X.prog X.w X.K tg J fp it tn) (st:tn 0 s.heap) (f:∀b∈fp,N6 X pins H b)
  (W:Nat->Nat->List V->Hp->Prop) (w0:∃m,W 0 m [] H)
  (turn:∀i m acc H,W i m acc H->acc.length<=sizeLine/\((J.stop i H/\∀p,H p=none->Q (.ref p) (upd H p (.lst acc)))\/(J.go i H/\acc.length<sizeLine/\∃N:List V->Hp->Prop,(∀acc' H',N acc' H'->∃m',m'<m/\W (i+1) m' acc' H')/\∀x H',J.yld i H x H'->g x (Fd own cap Z) H' λσ2 H2=>tt σ2 H2 λb H3=>if b=true then te σ2 H3 λy H4=>N (acc++[y]) H4 else N acc H3)))
  (hRR:∀D C H' s',Inv X pins Z H' s'->(∃m,s'.heap.Ns C m)->N6 X pins H' C->Q (.ref D) H'->RR (.ref D) C (.ok .next) s') :
  wpAny (model X.prog X.w) X.A (newList []) (λacc s₃=>wpAny (model X.prog X.w) X.A (newFunctionEnv sc X.env.globals cl [] X.env.qual none .none (some X.env)) (λcenv s₄ =>
   codeAny (model X.prog X.w) X.A (.compStart (.ListComp elt [⟨tg,iter,ifs,0⟩] sc pos) 0 (.ref it) acc {cenv with scope:=relabel sc X.env}) (RR acc cenv.locals) s₄) E s₃) E s:=by
 refine wpAny_newObj_type (wpAny_newFunctionEnv S.nocell (by intro y hy;simp at hy) (λh₁ hns₁ hsb₁=>?_) S.kind)
 dsimp only at hns₁ hsb₁ ⊢
 generalize hH2:s.heap.push {cls:=.type "list",dict:=none,data:=.seq ([]:List Value).toArray}=H2 at hns₁ hsb₁ ⊢
 have hCs:H2.objs.size=s.heap.objs.size+1:=by rw[<- hH2,Zxp]
 have hDC:s.heap.objs.size≠H2.objs.size:=by omega
 have hCle:s.heap.objs.size<=H2.objs.size:=by omega
 have old:∀b o,s.heap.get? b=some o->h₁.get? b=some o:=λb o e=>by
  exact hsb₁.extBut b o (Fo (Zzb e) hCle) (Zzx _ (hH2▸Zzx _ e))
 have hacc:h₁.get? s.heap.objs.size=some {cls:=.type "list",data:=.seq ([]:List Value).toArray 0}:=hsb₁.extBut _ _ hDC (Zzx _ (hH2▸Zze _ rfl))
 have live:∀b∈fp,b<s.heap.objs.size:=λb hb=>by
  obtain⟨o,e,_⟩:=T.obj _ _ st b hb
  exact Zzb e
 have ok:=A0e (C:=H2.objs.size) S cl1 cl2 I f live hCle
 have hDst:s.heap.objs.size∉frs X.stack:=λz=>by
  rcases Zzt.mp (I.stkSub _ z) with q | q
  ·exact Fo I.lt (Zzm _) q.symm
  ·exact I.nofs (Zzm _) q
 have fpX:∀(H':Hp) (pl:List (Addr×Obj)),(∀b∈fp,H' b=none)->(∀p∈pl,∀b∈fp,p.1≠b)->∀b∈fp,N6 (Ft X sc own cap cl H2.objs.size s H fp pins) pl H' b:=λH' pl hn hp b hb=>by
  obtain⟨f0,f1,f2,f3,f4,f5⟩:=f b hb
  refine⟨hn b hb,λz=>?_,λz=>?_,.inl hb,λx c e=>f4 x c (cl1 x c e),λp hpp=>?_⟩
  ·exact Fo (live b hb) hCle z
  ·rcases Zzt.mp (I.stkSub b z) with q | q
   ·exact f1 q
   ·exact f2 q
  ·rcases Zyj.mp hpp with q | q
   ·exact f5 p q
   ·exact hp p q b hb
 have loop:∀s₃:Shared,s₃={s with heap:=h₁,toks:=s.toks+([]:List (Str×Value)).length} ->
   codeAny (model X.prog X.w) X.A (.compLoop (.ListComp elt [⟨tg,iter,ifs,0⟩] sc pos) 0 (.ref it) (.ref s.heap.objs.size) (compEnvC sc cl H2.objs.size X.env))
    (RR (.ref s.heap.objs.size) H2.objs.size) s₃:=by
  rintro s₃ rfl
  obtain⟨m0,w0⟩:=w0
  obtain⟨hg,ht,he⟩:=hb cl H2.objs.size s H fp pins
  have I0:Inv (Ft X sc own cap cl H2.objs.size s H fp pins) [] (Fd own cap Z) H {s with heap:=h₁,toks:=s.toks+([]:List (Str×Value)).length}:=yz S cl1 cl2 I ok hCle hns₁ old
  refine Oj (λn s'=>∃i acc its nn H',Inv (Ft X sc own cap cl H2.objs.size s H fp pins) [] (Fd own cap Z) H' s'/\tn i s'.heap/\(∀b∈fp,H' b=none) /\
   s'.heap.get? s.heap.objs.size=some {cls:=.type "list",data:=.seq its.toArray nn}/\Vals acc its/\H' s.heap.objs.size=none/\W i n acc H') ?_ m0
   ⟨0,[],[],0,H,I0,T.keep _ _ _ st (λb _ o e=>old b o e),λb hb=>(f b hb).1,hacc,.nil,I.hok.fresh (Zzm _),w0⟩
  rintro n s3 ⟨i,acc,its,nn,H3,I3,st3,fr3,hD3,rv3,hDn,w3⟩
  obtain⟨hz,hcase⟩:=turn i n acc H3 w3
  have hpl:∀p∈[((s.heap.objs.size:Addr),({cls:=.type "list",data:=.seq its.toArray nn}:Obj))],∀b∈fp,p.1≠b:=λp hp b hb z=>by
   have e:p=_:=Zyw.mp hp
   rw[e] at z
   exact Fo (live b hb) (Zzm _) z.symm
  have I3':Inv (Ft X sc own cap cl H2.objs.size s H fp pins) [((s.heap.objs.size:Addr),({cls:=.type "list",data:=.seq its.toArray nn}:Obj))] (Fd own cap Z) H3 s3:=I3.pins_of λp hp=>by
   have e:p=_:=Zyw.mp hp
   subst e
   exact⟨hD3,hDn,hDC,hDst,λv z=>by cases z⟩
  rcases hcase with ⟨stop,fin⟩ | ⟨go,hlt,N,hN,step⟩
  ·refine thn (T.done (Ft X sc own cap cl H2.objs.size s H fp pins) rfl rfl rfl hc i _ s3 _ H3 _ I3' (fpX H3 _ fr3 hpl) st3 stop) λr s4 z0=>?_
   obtain⟨hr,I4⟩:=z0
   subst hr
   have hD4:=(I4.pin (_,_) (Zyd _ (Zyw.mpr rfl))).1
   obtain⟨J1,J2,J3⟩:=w6 I f hCle (Zzm _) hDC I4 hDn hD4 rv3 hz
   exact hRR _ _ _ _ J1 J2 J3 (fin _ hDn)
  ·refine thn (T.item (Ft X sc own cap cl H2.objs.size s H fp pins) rfl rfl rfl hc i _ s3 _ H3 _ I3' (fpX H3 _ fr3 hpl) st3 go) λr s4 z0=>?_
   obtain⟨u,hr,h4⟩:=z0
   subst hr
   refine thn h4 λ_ s5 z0=>?_
   obtain⟨x,H5,I5,r5,y5,st5,fr5⟩:=z0
   have I5':=I5.pinned (fpX H5 _ fr5 hpl) (T.obj _ _ st5)
   refine thn (hg _ s5 _ H5 x u _ I5' r5 (hown _ _ _ _ (step x H5 y5))) λ_ s6 z0=>?_
   obtain⟨σ6,H6,I6,⟨hx1,hx2⟩,q6⟩:=z0
   refine thn (ht _ s6 σ6 H6 _ I6 q6) λb s7 z0=>?_
   obtain⟨H7,I7,q7⟩:=z0
   have wk:∀{H7:Hp} {s7:Shared} {pl:List (Addr×Obj)},Inv (Ft X sc own cap cl H2.objs.size s H fp pins) pl σ6 H7 s7->Inv (Ft X sc own cap cl H2.objs.size s H fp pins) pl (Fd own cap Z) H7 s7:=λI=>I.weak hx1.symm λj v e=>by
    rw[hx2 j (V2 e).1]
    exact e
   have stay:∀{H7:Hp} {s7:Shared} {σ7:St},Inv (Ft X sc own cap cl H2.objs.size s H fp pins) ([((s.heap.objs.size:Addr),({cls:=.type "list",data:=.seq its.toArray nn}:Obj))]++Pu fp s5.heap) σ7 H7 s7 ->
     tn (i+1) s7.heap/\(∀b∈fp,H7 b=none)/\s7.heap.get? s.heap.objs.size=some {cls:=.type "list",data:=.seq its.toArray nn}/\H7 s.heap.objs.size=none:=λ{H7 s7 σ7} I7=>by
    refine⟨T.keep _ _ _ st5 λb hb o e=>(I7.pin (b,o) (Zyd _ (Zyd _ (Mp hb e)))).1,λb hb=>?_,?_,?_⟩
    ·obtain⟨o,e,d⟩:=T.obj _ _ st5 b hb
     exact(I7.pin (b,o) (Zyd _ (Zyd _ (Mp hb e)))).2.1
    ·exact(I7.pin (_,_) (Zyd _ (Zxa _ (Zyw.mpr rfl)))).1
    ·exact(I7.pin (_,_) (Zyd _ (Zxa _ (Zyw.mpr rfl)))).2.1
   cases b with
   |false =>
    rw[if_neg Zz9] at q7 ⊢
    obtain⟨m',hm,w7⟩:=hN _ _ q7
    obtain⟨a1,a2,a3,a4⟩:=stay I7
    exact⟨m',hm,i+1,acc,its,nn,H7,(wk I7).pins_of (λp hp=>absurd hp (by simp)),a1,a2,a3,rv3,a4,w7⟩
   |true =>
    rw[if_pos rfl] at q7 ⊢
    refine thn (he _ s7 σ6 H7 _ I7 q7) λy s8 z0=>?_
    obtain⟨v,H8,I8,r8,n8⟩:=z0
    obtain⟨m',hm,w8⟩:=hN _ _ n8
    obtain⟨a1,a2,a3,a4⟩:=stay I8
    have hlen:=rv3.length
    refine call_meets F.slot_list_append ⟨_,a3,rfl⟩ F.entry_list_append (F.args_list_append_2 _ _) (PySem.list_append s.heap.objs.size its.toArray nn y (by rw[Zzl];omega)) ⟨a3,?_⟩
    obtain⟨n',q⟩:∃n',(s8.heap.update s.heap.objs.size (Obj.mapSeq (·.push y))).get? s.heap.objs.size=some {cls:=.type "list",data:=.seq (its++[y]).toArray n'}:=by
     have q:=PySem.IsL.update a3 (·.push y)
     have e:(its.toArray.push y)=(its++[y]).toArray:=by simp
     rw[<- e]
     exact⟨_,q⟩
    have I9:=(wk I8).pins_of (pins':=Pu fp s5.heap) λp hp=>(wk I8).pin p (Zyd _ (Zyd _ hp))
    have kk:∀b o,b≠s.heap.objs.size->s8.heap.get? b=some o->(s8.heap.update s.heap.objs.size (Obj.mapSeq (·.push y))).get? b=some o:=λb o hb e=>(Zxi s8.heap (Obj.mapSeq (·.push y)) (Zzi hb)).trans e
    refine⟨m',hm,i+1,acc++[v],its++[y],n',H8,(I9.pins_of (pins':=[]) λp hp=>absurd hp (by simp)).turned (it:=s.heap.objs.size) kk a4 hDC (.inr (Zzm _)) (λx c e z=>?_) (λp hp z=>?_),T.keep _ _ _ a1 λb hb o e=>kk b o (λz=>?_) e,a2,q,rv3.append (.cons r8 .nil),a4,w8⟩
    ·have e:=cl1 x c e
     obtain⟨w',o,ho,_⟩:=I.cell x c e
     exact Fo (Zzb ho) (Zzm _) z
    ·have hp:p∈(X.pn++pins)++[]:=hp
     rw[Zzn] at hp
     exact Fo (Zzb (I.pin p hp).1) (Zzm _) z
    ·exact Fo (live b hb) (Zzm _) z
 exact codeAny_compStart_list (loop _ rfl) (T.self _ 0 _ _ _ (T.keep _ _ _ st λb _ o e=>old b o e) (loop _ rfl))
theorem D5{elt tg iter:Expr}{ifs:List Expr}{pos:Pos}{wi:TI}{g:TG}{tt:TT}{te:TE}(hc:X.calm=true)(S:Oh X.N X.env.scope sc own cap)(hown:jv own.length g)(hi:PI X tg iter wi)
  (hb:∀cl C s H fp pins,PG (Ft X sc own cap cl C s H fp pins) tg g/\PTs (Ft X sc own cap cl C s H fp pins) ifs tt/\PE (Ft X sc own cap cl C s H fp pins) elt te)
  (hs:∀x,foldedSetIterable iter X.env x=pure x:=by intro _;rfl):PE X (.ListComp elt [⟨tg,iter,ifs,0⟩] sc pos) (kr own cap wi g tt te):=by
 intro pins s Z H Q I h
 obtain⟨cl,hcl,cl1,cl2⟩:=N0 (env:=X.env) (scope:=sc) λy hy hf=>I.ok.has y.1 (S.free y hy hf)
 rw[eval_ListComp]
 refine wpAny_comprehension_free (use:=none) rfl hs hcl S.kind S.names (thn (hi pins s Z H _ I h) λxv s1 h1=>thn h1 λitv s2 h2=>?_)
 obtain⟨it,fp,tn,J,H2,e,I2,T,st2,f2,W,w0,turn⟩:=h2
 subst e
 refine T5 (RR:=λacc C=>compPost (model X.prog X.w) X.A X.xe none (EP X pins Z Q) acc C) hc S hown cl1 cl2 hb I2 T st2 f2 W w0 turn ?_
 intro D C H' s' J1 ⟨m,J2⟩ ⟨c0,c1,c2,c3,c4,c5⟩ q
 exact⟨m,J2,λh' sb=>⟨.ref D,H',J1.turned (t':=s'.toks) (λb o hb e=>(sb.2 b hb).trans e) c0 c1 c3 c4 c5,rfl,q⟩⟩
theorem G7{elt tg iter:Expr}{ifs:List Expr}{pos pos' spos:Pos}{wi:TI}{g:TG}{tt:TT}{te:TE}{i:Nat}{x:Str}(hc:X.calm=true)(S:Oh X.N X.env.scope sc own cap)(hown:jv own.length g)(hN:X.N.Nodup)(hx:X.N[i]?=some x)(hl:X.env.scope.names.lookup x=some .local)(hi:PI X tg iter wi)
  (hb:∀cl C s H fp pins,PG (Ft X sc own cap cl C s H fp pins) tg g/\PTs (Ft X sc own cap cl C s H fp pins) ifs tt/\PE (Ft X sc own cap cl C s H fp pins) elt te)
  (hsw:swapsWith (.ListComp elt [⟨tg,iter,ifs,0⟩] sc pos) (some (.Name x pos')) spos.line X.env=pure true:=by rfl)
  (hs:∀x,foldedSetIterable iter X.env x=pure x:=by intro _;rfl):PS X (.Assign [.Name x pos'] (.ListComp elt [⟨tg,iter,ifs,0⟩] sc pos) spos) (Gp (kr own cap wi g tt te) (Ci i)):=by
 intro pins s Z H D I h
 obtain⟨cl,hcl,cl1,cl2⟩:=N0 (env:=X.env) (scope:=sc) λy hy hf=>I.ok.has y.1 (S.free y hy hf)
 rw[exec_Assign_Name_used _ _ _ _ hsw]
 refine wpAny_bind (wpAny_standAt (wpAny_bind ?_))
 show wpAny _ _ (do let _ <- comprehension (.ListComp elt [⟨tg,iter,ifs,0⟩] sc pos) sc X.env _ (newList []) false (eval iter X.env) (some (assign (.Name x pos') X.env))) _ _ s
 refine wpAny_bind (wpAny_mono (wpAny_comprehension_free (use:=some (assign (.Name x pos') X.env)) (Q:=λ_ s'=>SP X pins D .next s') rfl hs hcl S.kind S.names (thn (hi pins s Z H _ I h) λxv s1 h1=>thn h1 λitv s2 h2=>?_)) (λ_ s' hq=>wpAny_pure (wpAny_pure hq)) λ_ _ e=>e)
 obtain⟨it,fp,tn,J,H2,e,I2,T,st2,f2,W,w0,turn⟩:=h2
 subst e
 refine T5 (Q:=λx H1=>Ci i x Z H1 D.nx) (RR:=λacc C=>compPost (model X.prog X.w) X.A X.xe (some (assign (.Name x pos') X.env)) (λ_ s'=>SP X pins D .next s') acc C) hc S hown cl1 cl2 hb I2 T st2 f2 W w0 turn ?_
 intro L C H' s' J1 ⟨m,J2⟩ ⟨c0,c1,c2,c3,c4,c5⟩ q
 show wpAny _ _ (assign (.Name x pos') X.env (.ref L)) _ _ s'
 refine wpAny_assign_Name (Ua (v:=.ref L) J1 hN hx (.inl hl) rfl (λs'' J3 ⟨a,sb,ha⟩=>?_) (.inr hl))
 have hCa:C≠a:=by
  rcases ha with z | z
  ·rw[z];exact c1
  ·exact Zzi (c4 _ _ z)
 refine⟨m,J2.sameBut sb hCa,λh' sb'=>⟨_,H',J3.turned (t':=s''.toks) (λb o hb e=>(sb'.2 b hb).trans e) c0 c1 c3 c4 c5,q⟩⟩
end
def P5(H:Hp):V->Option String
 |.non=>some "NoneType"
 |.bl _=>some "bool"
 |.int _=>some "int"
 |.str _=>some "str"
 |.ref a=>match H a with
  |some (.lst _)=>some "list"
  |some (.tup _)=>some "tuple"
  |some (.dK _)=>some "dict"
  |_=>none
 |_=>none
def Fs(t T:String):Bool:=t == T||(t == "bool" && T == "int")
theorem vi(K:Zzw){t T:String}(ht:t∈["NoneType", "bool", "int", "str", "list", "tuple", "dict"])(hT:T∈["bool", "int", "str", "list", "tuple", "dict"]):PySem.W.kitOne K (.type t) (.type T)=some (Fs t T):=by
 simp only[Zzt,Zzj,or_false] at ht hT
 rcases ht with rfl | rfl | rfl | rfl | rfl | rfl | rfl<;>rcases hT with rfl | rfl | rfl | rfl | rfl | rfl<;>first | rfl | decide +kernel
section
variable {X:Cx}
theorem Ir:CallR X (.builtin "isinstance") (λxs H Q=>∃x T t,xs=[x,.ty T]/\P5 H x=some t/\T∈["bool", "int", "str", "list", "tuple", "dict"]/\Q (.bl (Fs t T)) H):=by
 intro pins s Z H xs us Q I r h
 obtain⟨x,T,t,rfl,ht,hT,q⟩:=h
 obtain⟨u,w',rfl,ru,rw'⟩:=Ri r
 have rw':w'=Value.type T:=rw'
 subst rw'
 have key:∀{t':String},Q8 X.K H x (.type t')->t'=t->t∈["NoneType", "bool", "int", "str", "list", "tuple", "dict"]->wpAny (model X.prog X.w) X.A (call (.builtin "isinstance") [u,.type T]) (EP X pins Z Q) X.xe s:=λ{t'} ty e hm=>by
  subst e
  exact j7 I ru ty (vi X.K hm hT) λtk=>⟨.bl (Fs t' T),H,I.tok tk,rfl,q⟩
 cases x with
 |non=>cases ht;exact key .non rfl (by decide)
 |bl b=>cases ht;exact key (.bl b) rfl (by decide)
 |int i=>cases ht;exact key (.int i) rfl (by decide)
 |str z=>cases ht;exact key (.str z) rfl (by decide)
 |ref a =>
  unfold P5 at ht
  simp only at ht
  cases e:H a with
  |none=>rw[e] at ht;cases ht
  |some o =>
   rw[e] at ht
   cases o with
   |lst xs=>cases ht;exact key (.lst e) rfl (by decide)
   |tup xs=>cases ht;exact key (.tup e) rfl (by decide)
   |dK kvs=>cases ht;exact key (.dK e) rfl (by decide)
   |_=>cases ht
 |_=>cases ht
theorem Inv.walked{pins:List (Addr×Obj)}{Z:St}{H:Hp}{s:Shared}{o:Obj}{h':Heap}{tk:Nat}(I:Inv X pins Z H s)(k:∀b ob,b∉[s.heap.objs.size]->(s.heap.push o).get? b=some ob->h'.get? b=some ob):Inv X pins Z H {s with heap:=h',toks:=tk} :=
 I.kept λb u e=>k b u (by
  intro z
  exact Fo (Zzb e) (Zzm _) (Zyw.mp z)) (Zzx _ e)
theorem bx:∀{bs:List Bool} {us:List Value},Vals (bs.map V.bl) us->us=bs.map Value.bool
 |[],_,.nil=>rfl
 |b::r,_,.cons h t=>by
  have h:_=Value.bool b:=h
  rw[h,bx t]
  rfl
theorem Zw(bs:List Bool):((Zxy bs.length).all λi=>(bs[i]?).getD true)=bs.all id:=by
 induction bs with
 |nil=>rfl
 |cons b r ih =>
  rw[Zzk,List.range_succ_eq_map,Zwe,Zwe,Zwu]
  show ((b::r)[0]?.getD true&&_)=_
  congr 1
theorem Cg{pins:List (Addr×Obj)}{Z:St}{H:Hp}{s:Shared}{a:Addr}{xs:List V}(I:Inv X pins Z H s)(h:H a=some (.lst xs)):∃its:List Value,Vals xs its/\s.heap.IsList a its.toArray/\a<s.heap.objs.size:=by
 obtain⟨hz,its,n,r,e⟩:=I.hok a _ h
 exact⟨its,r,⟨_,e,rfl,n,rfl⟩,Zzb e⟩
theorem J7(hc:X.calm=true):CallR X (.builtin "all") (λxs H Q=>∃(a:Addr) (bs:List Bool),xs=[.ref a]/\H a=some (.lst (bs.map V.bl))/\Q (.bl (bs.all id)) H):=by
 intro pins s Z H xs us Q I r h
 obtain⟨a,bs,rfl,ha,q⟩:=h
 obtain⟨u,rfl,ru⟩:=K4 r
 cases ru
 obtain⟨its,rv,hl,hlt⟩:=Cg I ha
 have e:=bx rv
 subst e
 refine call_all_walk (wpAny_pyIter_list hl ?_)
 refine⟨s.heap.objs.size,[s.heap.objs.size,a],[s.heap.objs.size],(bs.map Value.bool).toArray.size,_,_,λi=>(bs[i]?).getD true,rfl,Walks.list (A:=X.A.in1) (I.ok.hd hc) _ a (Zyb hlt) (bs.map Value.bool).toArray,
  ⟨⟨_,Zze _ rfl,rfl,rfl⟩,hl.push _⟩,λi v s' Q' E' hP hQ=>?_,λh' tk hk=>?_⟩
 ·have hP:(bs.map Value.bool)[i]?=some v:=by simpa using hP
  rw[Zzy] at hP
  cases e:bs[i]? with
  |none=>rw[e] at hP;cases hP
  |some b =>
   rw[e] at hP
   cases hP
   simp only[e,Zvs] at hQ
   exact wpAny_truthy_bool hQ
 ·have e:((Zxy (bs.map Value.bool).toArray.size).all λi=>(bs[i]?).getD true)=bs.all id:=by
   rw[Zzl,Zzz];exact Zw bs
  rw[e]
  exact⟨.bl (bs.all id),H,I.walked hk,rfl,q⟩
theorem op_isB:OpR X (compareOp .Is) (λx y H Q=>∃i j,x=.bl i/\y=.bl j/\Q (.bl (i == j)) H):=by
 intro pins s Z H x y v u Q I rx ry h
 obtain⟨i,j,rfl,rfl,q⟩:=h
 cases rx
 cases ry
 exact is_bool ⟨.bl (i == j),H,I,rfl,q⟩
theorem op_isnotB:OpR X (compareOp .IsNot) (λx y H Q=>∃i j,x=.bl i/\y=.bl j/\Q (.bl (i != j)) H):=by
 intro pins s Z H x y v u Q I rx ry h
 obtain⟨i,j,rfl,rfl,q⟩:=h
 cases rx
 cases ry
 exact isnot_bool ⟨.bl (i != j),H,I,rfl,q⟩
theorem T4{x:V}:∀{xs:List V} {us:List Value},Vals xs us->xs.all L6=true->us.countP (eqU x)=xs.countP λy=>eqV y x
 |_,_,.nil,_=>rfl
 |y::xs,u::us,.cons r t,h=>by
  rw[Zwe,Zza] at h
  rw[List.countP_cons,List.countP_cons,T4 t h.2,bd r h.1]
def rCount:V->List V->Hp->VK->Prop:=λx vs H Q=>∃l xs y,x=.ref l/\vs=[y]/\H l=some (.lst xs)/\L6 y=true/\xs.all L6=true/\Q (.int (xs.countP λz=>eqV z y)) H
theorem ng:MtM X "list.count" rCount:=by
 intro pins s Z H x vs v us Q I rx rv h
 obtain⟨l,xs,y,rfl,rfl,hH,fy,fx,q⟩:=h
 cases rx
 obtain⟨u,rfl,ru⟩:=rv.one
 obtain⟨z,its,n,r,hl,e⟩:=I.lstM hH
 refine call_meets F.slot_list_count ⟨_,e,rfl⟩ F.entry_list_count (F.args_list_count_2 _ _) (SeqAt.list_countAt l its.toArray n none #[] u (eqU y)) ⟨e,λw hw=>Pe ru fy r fx w (by simpa using hw),?_⟩
 exact⟨.int _,H,I.tok _,⟨_,by rw[<- T4 r fx]⟩,q⟩
def Its(x:Str):It:=⟨λi _=>i<x.cps.size,λi H v H'=>H'=H/\∃c,x.cps[i]?=some c/\v=.str ⟨#[c]⟩,λi _=>x.cps.size<=i⟩
theorem X8{P:Program}{w:World}{K:Zzw}{tg:Expr}(it:Addr)(x:Str)(t:Tok)(ty:String)(hty:ty = "str_ascii_iterator" \/ ty = "str_iterator"):Q9 P w K tg (Its x) [it] it (λi h=>h.IsStrIter it ty x t i) where
 mem:=by simp
 obj:=λi h st b hb=>by
  have e:b=it:=by simpa using hb
  subst e
  obtain⟨o,e,c,d⟩:=st
  exact⟨o,e,λv z=>by rw[d] at z;cases z⟩
 keep:=λi h h' st k=>by obtain⟨o,ho,r⟩:=st;exact⟨o,k it (by simp) o ho,r⟩
 item:=by
  intro X hP hw hK hc i pins s Z H E I hf st hg
  subst hP hw hK
  obtain⟨f0,f1,f2,f3,f4,f5⟩:=hf it (by simp)
  have hg:i<x.cps.size:=hg
  have fin:∀h',h'.IsStrIter it ty x t (i+1)->Zxl it s.heap h'->∃u,some (Value.str ⟨#[x.cps[i]]⟩ s.toks)=some u/\wpAny (model X.prog X.w) X.A (letOwnedTupleGo tg (.ref it) u) (λ_ s2=>∃x' H',Inv X pins Z H' s2/\RelV x' u/\(Its x).yld i H x' H'/\s2.heap.IsStrIter it ty x t (i+1)/\∀b∈[it],H' b=none) E {s with heap:=h',toks:=s.toks+1}:=λh' st' sb=>by
   have I1:Inv X pins Z H {s with heap:=h',toks:=s.toks+1}:=I.turned (t':=s.toks+1) (λb o hb e=>(sb.2 b hb).trans e) f0 f1 f3 f4 f5
   obtain⟨o,e,c,d⟩:=id st'
   refine⟨_,rfl,Yr (s:={s with heap:=h',toks:=s.toks+1}) e c d (by rcases hty with rfl | rfl<;>decide) ⟨.str ⟨#[x.cps[i]]⟩,H,I1,⟨_,rfl⟩,⟨rfl,_,by simp[hg],rfl⟩,st',λb hb=>(hf b hb).1⟩⟩
  rcases hty with rfl | rfl
  ·exact wpAny_pyNext_ascii_item st (c:=x.cps[i]) (by simp[hg]) fin
  ·exact wpAny_pyNext_wide_item st (c:=x.cps[i]) (by simp[hg]) fin
 done:=by
  intro X hP hw hK hc i pins s Z H E I hf st hg
  subst hP hw hK
  obtain⟨f0,f1,f2,f3,f4,f5⟩:=hf it (by simp)
  have hg:x.cps.size<=i:=hg
  rcases hty with rfl | rfl
  ·exact wpAny_pyNext_ascii_end (I.ok.hd hc) st (by simp;omega) λh' eb=>⟨rfl,I.turned (t':=s.toks) (λb o hb e=>eb b o hb e) f0 f1 f3 f4 f5⟩
  ·exact wpAny_pyNext_wide_end (I.ok.hd hc) st (by simp;omega) λh' eb=>⟨rfl,I.turned (t':=s.toks) (λb o hb e=>eb b o hb e) f0 f1 f3 f4 f5⟩
 self:=λ_ _ _ _ _ st h=>by
  rcases hty with rfl | rfl
  ·exact wpAny_pyIter_striter_ascii st h
  ·exact wpAny_pyIter_striter_wide st h
theorem U6{P:Program}{w:World}{K:Zzw}{tg:Expr}(a it:Addr)(xs:List V):Q9 P w K tg ⟨λi H=>H a=some (.lst xs)/\i<xs.length,λi H x H'=>H'=H/\xs[i]?=some x,λi H=>H a=some (.lst xs)/\xs.length<=i⟩ [it] it (λi h=>h.IsListIter it a i) where
 mem:=(Kr (P:=P) (w:=w) (K:=K) (tg:=tg) a it).mem
 obj:=(Kr (P:=P) (w:=w) (K:=K) (tg:=tg) a it).obj
 keep:=(Kr (P:=P) (w:=w) (K:=K) (tg:=tg) a it).keep
 item:=by
  intro X hP hw hK hc i pins s Z H E I hf st hg
  obtain⟨h1,h2⟩:=hg
  refine thn ((Kr (P:=P) (w:=w) (K:=K) (tg:=tg) a it).item X hP hw hK hc i pins s Z H E I hf st ⟨xs,xs[i],SqL.of h1,by simp[h2]⟩) λr s1 ⟨u,hr,h3⟩=>⟨u,hr,thn h3 λ_ s2 z0=>by obtain⟨x,H',I2,rx,⟨y1,y2⟩,st2,f2⟩:=z0;exact ⟨x,H',I2,rx,⟨y1,y2 xs (SqL.of h1)⟩,st2,f2⟩⟩
 done:=by
  intro X hP hw hK hc i pins s Z H E I hf st hg
  obtain⟨h1,h2⟩:=hg
  exact(Kr (P:=P) (w:=w) (K:=K) (tg:=tg) a it).done X hP hw hK hc i pins s Z H E I hf st ⟨xs,SqL.of h1,h2⟩
 self:=(Kr (P:=P) (w:=w) (K:=K) (tg:=tg) a it).self
theorem U5{P:Program}{w:World}{K:Zzw}{tg:Expr}(a it:Addr)(xs:List V):Q9 P w K tg ⟨λi H=>H a=some (.tup xs)/\i<xs.length,λi H x H'=>H'=H/\xs[i]?=some x,λi H=>H a=some (.tup xs)/\xs.length<=i⟩ [it] it (λi h=>h.IsTupleIter it a i) where
 mem:=(Ja (P:=P) (w:=w) (K:=K) (tg:=tg) a it).mem
 obj:=(Ja (P:=P) (w:=w) (K:=K) (tg:=tg) a it).obj
 keep:=(Ja (P:=P) (w:=w) (K:=K) (tg:=tg) a it).keep
 item:=by
  intro X hP hw hK hc i pins s Z H E I hf st hg
  obtain⟨h1,h2⟩:=hg
  refine thn ((Ja (P:=P) (w:=w) (K:=K) (tg:=tg) a it).item X hP hw hK hc i pins s Z H E I hf st ⟨xs,xs[i],SqT.of h1,by simp[h2]⟩) λr s1 ⟨u,hr,h3⟩=>⟨u,hr,thn h3 λ_ s2 z0=>by obtain⟨x,H',I2,rx,⟨y1,y2⟩,st2,f2⟩:=z0;exact ⟨x,H',I2,rx,⟨y1,y2 xs (SqT.of h1)⟩,st2,f2⟩⟩
 done:=by
  intro X hP hw hK hc i pins s Z H E I hf st hg
  obtain⟨h1,h2⟩:=hg
  exact(Ja (P:=P) (w:=w) (K:=K) (tg:=tg) a it).done X hP hw hK hc i pins s Z H E I hf st ⟨xs,SqT.of h1,h2⟩
 self:=(Ja (P:=P) (w:=w) (K:=K) (tg:=tg) a it).self
def ItL(a:Addr)(xs:List V):It:=⟨λi H=>H a=some (.lst xs)/\i<xs.length,λi H x H'=>H'=H/\xs[i]?=some x,λi H=>H a=some (.lst xs)/\xs.length<=i⟩
def ItT(a:Addr)(xs:List V):It:=⟨λi H=>H a=some (.tup xs)/\i<xs.length,λi H x H'=>H'=H/\xs[i]?=some x,λi H=>H a=some (.tup xs)/\xs.length<=i⟩
def A0a(te:TE):TI:=λZ H R=>te Z H λx H1=>(∃a xs,x=.ref a/\H1 a=some (.lst xs)/\R (ItL a xs) H1)\/(∃a xs,x=.ref a/\H1 a=some (.tup xs)/\R (ItT a xs) H1)\/(∃z,x=.str z/\R (Its z) H1)
theorem Mm{tg l:Expr}{te:TE}(hl:PE X l te):PI X tg l (A0a te):=by
 intro pins s Z H R I h
 refine thn (hl pins s Z H _ I h) λv s1 z0=>?_
 obtain⟨x,H1,I1,r1,q1⟩:=z0
 have fp:∀b∈[s1.heap.objs.size],N6 X pins H1 b:=λb hb=>by
  have e:b=s1.heap.objs.size:=by simpa using hb
  subst e
  exact I1.fpOk (Zzm _) (I1.hok.fresh (Zzm _))
 rcases q1 with ⟨a,xs,e,ha,q⟩ | ⟨a,xs,e,ha,q⟩ | ⟨z,e,q⟩
 ·subst e
  cases r1
  obtain⟨its,rv,hli,hlt⟩:=Cg I1 ha
  refine wpAny_pyIter_list hli ?_
  exact⟨s1.heap.objs.size,[s1.heap.objs.size],_,_,H1,rfl,I1.kept (t':=s1.toks) λb o e=>Zzx _ e,U6 a _ xs,⟨_,Zze _ rfl,rfl,rfl⟩,fp,q⟩
 ·subst e
  cases r1
  obtain⟨hz,its,rv,p⟩:=I1.hok a _ ha
  refine wpAny_pyIter_tuple (show s1.heap.IsTuple a its.toArray from p) ?_
  exact⟨s1.heap.objs.size,[s1.heap.objs.size],_,_,H1,rfl,I1.kept (t':=s1.toks) λb o e=>Zzx _ e,U5 a _ xs,⟨_,Zze _ rfl,rfl,rfl⟩,fp,q⟩
 ·subst e
  obtain⟨t,rfl⟩:=r1
  cases hasc:z.cps.all (·<128)
  ·refine wpAny_pyIter_wide hasc ?_
   exact⟨s1.heap.objs.size,[s1.heap.objs.size],_,_,H1,rfl,I1.kept (t':=s1.toks) λb o e=>Zzx _ e,X8 _ z t _ (.inr rfl),⟨_,Zze _ rfl,rfl,rfl⟩,fp,q⟩
  ·refine wpAny_pyIter_ascii hasc ?_
   exact⟨s1.heap.objs.size,[s1.heap.objs.size],_,_,H1,rfl,I1.kept (t':=s1.toks) λb o e=>Zzx _ e,X8 _ z t _ (.inl rfl),⟨_,Zze _ rfl,rfl,rfl⟩,fp,q⟩
end
structure U0(J:It)(n:Nat)(yl:Nat->V->Prop)(ok:Hp->Prop):Prop where
 go:∀i H,i<n->ok H->J.go i H
 yld:∀i H x H',i<n->ok H->J.yld i H x H'->H'=H/\yl i x
 stop:∀H,ok H->J.stop n H
theorem Ip(a:Addr)(xs:List V):U0 (ItL a xs) xs.length (λi x=>xs[i]?=some x) (λH=>H a=some (.lst xs)):=⟨λ_ _ h o=>⟨o,h⟩,λ_ _ _ _ _ _ y=>y,λ_ o=>⟨o,Zzm _⟩⟩
theorem Fx(a:Addr)(xs:List V):U0 (ItT a xs) xs.length (λi x=>xs[i]?=some x) (λH=>H a=some (.tup xs)):=⟨λ_ _ h o=>⟨o,h⟩,λ_ _ _ _ _ _ y=>y,λ_ o=>⟨o,Zzm _⟩⟩
theorem xl(z:Str):U0 (Its z) z.cps.size (λi x=>∃c,z.cps[i]?=some c/\x=.str ⟨#[c]⟩) (λ_=>True):=⟨λ_ _ h _=>h,λ_ _ _ _ _ _ y=>y,λ_ _=>Zzm _⟩
theorem L4(lo:Int)(n:Nat):U0 (Itr lo n) n (λi x=>x=.int (lo+i)) (λ_=>True):=⟨λ_ _ h _=>h,λ_ _ _ _ _ _ y=>y,λ_ _=>Zzm _⟩
theorem oy{J:It}{n:Nat}{yl:Nat->V->Prop}{ok:Hp->Prop}{g:TG}{tb:TS}{D:Qa}{Z:St}{H:Hp}(G:U0 J n yl ok)(Pv:Nat->St->Hp->Prop)(h0:Pv 0 Z H)(hok:∀i Z H,i<=n->Pv i Z H->ok H)
  (hs:∀i x Z H,i<n->yl i x->Pv i Z H->g x Z H λσ2 H2=>tb {D with nx:=Pv (i+1),ct:=Pv (i+1),bk:=D.nx} σ2 H2) (hd:∀Z H,Pv n Z H->D.nx Z H) :
  ∃W:Nat->Nat->St->Hp->Prop,(∃m,W 0 m Z H)/\∀i m Z H,W i m Z H ->
   (J.stop i H/\D.nx Z H)\/(J.go i H/\∃N:St->Hp->Prop,(∀Z' H',N Z' H'->∃m',m'<m/\W (i+1) m' Z' H')/\∀x H',J.yld i H x H'->g x Z H' λσ2 H2=>tb {D with nx:=N,ct:=N,bk:=D.nx} σ2 H2):=by
 refine⟨λi m Z H=>m=n - i/\i<=n/\Pv i Z H,⟨n,by simp,Zy0 _,h0⟩,?_⟩
 rintro i m Z H ⟨rfl,hi,p⟩
 have q:=hok i Z H hi p
 by_cases hlt:i<n
 ·refine .inr ⟨G.go i H hlt q,Pv (i+1),λZ' H' p'=>⟨n - (i+1),by omega,rfl,hlt,p'⟩,λx H' y=>?_⟩
  obtain⟨e,y'⟩:=G.yld i H x H' hlt q y
  subst e
  exact hs i x Z _ hlt y' p
 ·have e:i=n:=by omega
  subst e
  exact .inl ⟨G.stop H q,hd Z H p⟩
theorem V3{J:It}{n:Nat}{yl:Nat->V->Prop}{ok:Hp->Prop}{g:TG}{tt:TT}{te:TE}{σ0:St}{H:Hp}{Q:VK}(G:U0 J n yl ok)(hn:n<=sizeLine)(Pv:Nat->List V->Hp->Prop)(h0:Pv 0 [] H)(hok:∀i acc H,i<=n->Pv i acc H->ok H)
  (hlen:∀i acc H,Pv i acc H->acc.length<=i)
  (hs:∀i x acc H,i<n->yl i x->Pv i acc H->g x σ0 H λσ2 H2=>tt σ2 H2 λb H3=>if b=true then te σ2 H3 λy H4=>Pv (i+1) (acc++[y]) H4 else Pv (i+1) acc H3)
  (hd:∀acc H,Pv n acc H->∀p,H p=none->Q (.ref p) (upd H p (.lst acc))) :
  ∃W:Nat->Nat->List V->Hp->Prop,(∃m,W 0 m [] H)/\∀i m acc H,W i m acc H->acc.length<=sizeLine /\
   ((J.stop i H/\∀p,H p=none->Q (.ref p) (upd H p (.lst acc))) \/
    (J.go i H/\acc.length<sizeLine/\∃N:List V->Hp->Prop,(∀acc' H',N acc' H'->∃m',m'<m/\W (i+1) m' acc' H')/\∀x H',J.yld i H x H'->g x σ0 H' λσ2 H2=>tt σ2 H2 λb H3=>if b=true then te σ2 H3 λy H4=>N (acc++[y]) H4 else N acc H3)):=by
 refine⟨λi m acc H=>m=n - i/\i<=n/\Pv i acc H,⟨n,by simp,Zy0 _,h0⟩,?_⟩
 rintro i m acc H ⟨rfl,hi,p⟩
 have q:=hok i acc H hi p
 have hl:=hlen i acc H p
 refine⟨by omega,?_⟩
 by_cases hlt:i<n
 ·refine .inr ⟨G.go i H hlt q,by omega,Pv (i+1),λacc' H' p'=>⟨n - (i+1),by omega,rfl,hlt,p'⟩,λx H' y=>?_⟩
  obtain⟨e,y'⟩:=G.yld i H x H' hlt q y
  subst e
  exact hs i x acc _ hlt y' p
 ·have e:i=n:=by omega
  subst e
  exact .inl ⟨G.stop H q,hd acc H p⟩
section
variable {X:Cx}{a b c e o:Expr}{ta tb tc te to:TE}{pos p apos cpos:Pos}{es:List Expr}{t:TA}
theorem Nb:OpR X (binaryOp .FloorDiv) (rI (λ_ j=>0<j/\j<10^200) λi j=>.int (i / j)):=opI λi j _ _ _ _ _ hc q=>by
 have h:j.natAbs.log2<9000:=by
  have h1:j.natAbs≠0:=by omega
  rw[Nat.log2_lt h1]
  have h2:j.natAbs<10^200:=by have:=hc.2;omega
  exact Zyn h2 (by decide +kernel)
 refine floordiv_int (by omega) ?_ (.inl (PyProof.noPylong_of_log2 h))
 rw[Int.fdiv_eq_ediv_of_nonneg i (by omega)]
 exact q
def rCatE:R2:=λx y H Q=>∃a b ys,x=.ref a/\y=.ref b/\H a=some (.tup [])/\H b=some (.tup ys)/\Q (.ref b) H
theorem uw:OpR X (binaryOp .Add) rCatE:=by
 intro pins s Z H x y v u Q I rx ry h
 obtain⟨a,b,ys,rfl,rfl,ha,hb,q⟩:=h
 cases rx
 cases ry
 obtain⟨its,r1,p1,_⟩:=I.tuple (SqT.of ha)
 obtain⟨its2,r2,p2,_⟩:=I.tuple (SqT.of hb)
 cases r1
 obtain⟨⟨cls,dd,data,sl⟩,ho,hc,n,hd⟩:=id p1
 obtain⟨⟨cls2,dd2,data2,sl2⟩,ho2,hc2,n2,hd2⟩:=id p2
 simp only at hc hd hc2 hd2
 subst hc hd hc2 hd2
 exact concat_meets ⟨_,ho,rfl⟩ ⟨_,ho2,rfl⟩ noFill_tuple_add seq_tuple_add Zvc Zvf (Zvk _ _)
   (tuple_addW0 a b _ _ n n2 dd dd2 sl sl2 (by simp)) ⟨ho,ho2,.ref b,H,I,rfl,q⟩
def rCatTT:R2:=λx y H Q=>∃a b xs ys,x=.ref a/\y=.ref b/\H a=some (.tup xs)/\H b=some (.tup ys)/\xs.length+ys.length<=sizeLine /\
 ∀p H',H' p=some (.tup (xs++ys))->Same H H'->(∀q,q≠p->H' q=H q)->Q (.ref p) H'
theorem Xt:OpR X (binaryOp .Add) rCatTT:=by
 intro pins s Z H x y v u Q I rx ry h
 obtain⟨a,b,xs,ys,rfl,rfl,ha,hb,hz,q⟩:=h
 by_cases hx:xs=[]
 ·subst hx
  exact uw pins s Z H _ _ v u Q I rx ry ⟨a,b,ys,rfl,rfl,ha,hb,q b H (by simpa using hb) (Same.refl H) λ_ _=>rfl⟩
 ·refine ur pins s Z H _ _ v u Q I rx ry ⟨a,b,xs,ys,rfl,rfl,SqT.of ha,SqT.of hb,hx,hz,λe=>?_,λ_ p hp=>?_⟩
  ·subst e
   exact q a H (by simpa using ha) (Same.refl H) λ_ _=>rfl
  ·exact q p _ A0 (λc o hc=>by rw[A7 (A4 hc hp)];exact hc) λ_ hq=>A7 hq
def Fb:R2:=λx y H Q=>(∃i j,x=.int i/\y=.int j/\Q (.int (i+j)) H)\/(∃i j,x=.str i/\y=.str j/\i.length+j.length<=sizeLine/\Q (.str (i++j)) H)\/rCat x y H Q\/rCatTT x y H Q
def Dg:R2:=λx y H Q=>(∃i j,x=.int i/\y=.int j/\Q (.int (i+j)) H)\/(∃i j,x=.str i/\y=.str j/\i.length+j.length<=sizeLine/\Q (.str (i++j)) H)
def Ol(H:Hp)(x y v:V):Prop :=
 (∃p xs i,x=.ref p/\y=.int i/\(H p=some (.lst xs)\/H p=some (.tup xs))/\atI xs i=some v) \/
 (∃z i c,x=.str z/\y=.int i/\z.length<=sizeLine/\atI z.cps.toList i=some c/\v=.str ⟨#[c]⟩) \/
 (∃p kvs k,x=.ref p/\y=kV k/\Rd H p (.dK kvs)/\Fk kvs k=some v)
def rItem:R2:=λx y H Q=>∃v,Ol H x y v/\Q v H
theorem vm(hu:X.A.units+1<cLine):IxR X (λx y H Q=>∃a v,x=.ref a/\rh H a y (some v)/\Q v H):=by
 intro value slice pins s Z H x y v u Q I rx ry h hs
 obtain⟨a,z,rfl,g,q⟩:=h
 cases rx
 exact tail_any (Yx I g) PySem.F.slot_dict_getitem.lookup (jj hu I g ry λw' s3 I3 rw'=>⟨z,H,I3,rw',q⟩) hs
theorem vk(hu:X.A.units+1<cLine):IxR X rItem:=by
 intro value slice pins s Z H x y v u Q I rx ry h hs
 obtain⟨z,h,q⟩:=h
 rcases h with ⟨p,xs,i,rfl,rfl,h | h,he⟩ | ⟨z',i,c,rfl,rfl,hz,he,rfl⟩ | ⟨p,kvs,k,rfl,rfl,h,he⟩
 ·exact dq value slice pins s Z H _ _ v u Q I rx ry ⟨p,xs,i,z,rfl,rfl,SqL.of h,he,q⟩ hs
 ·exact yp value slice pins s Z H _ _ v u Q I rx ry ⟨p,xs,i,z,rfl,rfl,SqT.of h,he,q⟩ hs
 ·exact yq value slice pins s Z H _ _ v u Q I rx ry ⟨z',i,c,rfl,rfl,hz,he,q⟩ hs
 ·refine vm hu value slice pins s Z H _ _ v u Q I rx ry ⟨p,z,rfl,?_,q⟩ hs
  have g:rh H p (kV k) (Fk kvs k):=.inl ⟨kvs,k,h,rfl,rfl⟩
  rw[he] at g
  exact g
theorem A8(hu:X.A.units+1<cLine)(ha:PE X a ta)(hb:PE X b tb)(hs:ft b):PE X (.Subscript a b pos) (tOp rItem ta tb):=xh (vk hu) ha hb hs
theorem Ak{H:Hp}{p:Addr}{xs:List V}{j:Nat}{v:V}(h:H p=some (.tup xs))(e:xs[j]?=some v):Ol H (.ref p) (.int j) v:=.inl ⟨p,xs,j,rfl,rfl,.inr h,Po e⟩
theorem E7{H:Hp}{p:Addr}{xs:List V}{j:Nat}{v:V}(h:H p=some (.lst xs))(e:xs[j]?=some v):Ol H (.ref p) (.int j) v:=.inl ⟨p,xs,j,rfl,rfl,.inl h,Po e⟩
theorem Mr{H:Hp}{p:Addr}{xs:List V}{i:Int}{v:V}(h:H p=some (.lst xs)\/H p=some (.tup xs))(h0:0<=i)(e:xs[i.toNat]?=some v):Ol H (.ref p) (.int i) v:=by
 refine .inl ⟨p,xs,i,rfl,rfl,h,?_⟩
 have q:=Po e
 rw[Int.toNat_of_nonneg h0] at q
 exact q
theorem yt{H:Hp}{z:Str}{i:Int}{c:Nat}(hz:z.length<=sizeLine)(h0:0<=i)(e:z.cps.toList[i.toNat]?=some c):Ol H (.str z) (.int i) (.str ⟨#[c]⟩):=by
 refine .inr (.inl ⟨z,i,c,rfl,rfl,hz,?_,rfl⟩)
 have q:=Po e
 rw[Int.toNat_of_nonneg h0] at q
 exact q
theorem L0{H:Hp}{p:Addr}{kvs:List (Key×V)}{k:Str}{v:V}(h:Rd H p (.dK kvs))(e:Fk kvs (Zxk k)=some v):Ol H (.ref p) (.str k) v:=.inr (.inr ⟨p,kvs,Zxk k,rfl,rfl,h,e⟩)
def lenA:List V->Hp->VK->Prop:=λxs H Q=>(∃p ys,xs=[.ref p]/\(H p=some (.lst ys)\/H p=some (.tup ys))/\Q (.int ys.length) H)\/(∃z,xs=[.str z]/\z.length<=sizeLine/\Q (.int z.length) H)\/(∃p kvs,xs=[.ref p]/\H p=some (.dK kvs)/\Q (.int kvs.length) H)
theorem call_lenA:CallR X (.builtin "len") lenA:=by
 intro pins s Z H xs us Q I r h
 rcases h with ⟨p,ys,rfl,h,q⟩ | ⟨z,rfl,hz,q⟩ | ⟨p,kvs,rfl,h,q⟩
 ·exact J6 pins s Z H _ us Q I r ⟨p,ys,rfl,h.imp SqL.of SqT.of,q⟩
 ·exact Wq pins s Z H _ us Q I r ⟨z,rfl,hz,q⟩
 ·exact jr pins s Z H _ us Q I r ⟨p,kvs,rfl,h,q⟩
def InA(H:Hp)(x y:V)(b:Bool):Prop :=
 (∃p xs,y=.ref p/\(H p=some (.lst xs)\/H p=some (.tup xs))/\L6 x=true/\xs.all L6=true/\b=inV x xs) \/
 (∃i j,x=.str i/\y=.str j/\b=!(Builtin.Str.occurrences j i 0 j.length 1).isEmpty) \/
 (∃p kvs k,y=.ref p/\x=kV k/\Rd H p (.dK kvs)/\b=(Fk kvs k).isSome)
theorem Py(hu:X.A.units+1<cLine):OpR X (compareOp .In) (λx y H Q=>∃b,InA H x y b/\Q (.bl b) H):=by
 intro pins s Z H x y v u Q I rx ry h
 obtain⟨b,h,q⟩:=h
 rcases h with ⟨p,xs,rfl,hp,fx,fxs,rfl⟩ | ⟨i,j,rfl,rfl,rfl⟩ | ⟨p,kvs,k,rfl,rfl,hp,rfl⟩
 ·exact ii pins s Z H _ _ v u Q I rx ry ⟨p,xs,rfl,hp.imp SqL.of SqT.of,fx,fxs,q⟩
 ·exact ig pins s Z H _ _ v u Q I rx ry ⟨i,j,rfl,rfl,q⟩
 ·cases ry
  exact d_in hu I (.inl ⟨kvs,k,hp,rfl,rfl⟩) rx λs' I'=>⟨.bl _,H,I',rfl,q⟩
def rSetA:V->V->V->Hp->(Hp->Prop)->Prop:=λo i v H Q=>rSetL o i v H Q\/(∃p kvs k,o=.ref p/\i=kV k/\H p=some (.dK kvs)/\kvs.length<sizeLine/\Q (upd H p (.dK (Jc kvs k v))))
theorem sv(hu:X.A.units+1<cLine):qx X rSetA:=by
 intro pins s Z H o i v ov iv u Q I ro ri rv h
 rcases h with h | ⟨p,kvs,k,rfl,rfl,hp,hl,q⟩
 ·exact Jt pins s Z H o i v ov iv u Q I ro ri rv h
 ·cases ro
  exact ji hu I (DPut.k hp hl) ri rv λs' I'=>⟨_,I',q⟩
theorem xy{K:Zzw}{H:Hp}{x:V}{T:String}(h:P5 H x=some T)(hT:T = "list" \/ T = "dict" \/ T = "str"):tyV K T x H:=by
 cases x with
 |str z=>cases h;rfl
 |ref a =>
  unfold P5 at h
  simp only at h
  cases e:H a with
  |none=>rw[e] at h;cases h
  |some o =>
   rw[e] at h
   cases o with
   |lst xs=>cases h;exact .inl ⟨rfl,xs,SqL.of e⟩
   |tup xs=>cases h;exact absurd hT (by decide)
   |dK kvs=>cases h;exact .inr (.inr (.inl ⟨rfl,.inl ⟨kvs,e⟩⟩))
   |_=>cases h
 |int i=>cases h;exact absurd hT (by decide)
 |bl i=>cases h;exact absurd hT (by decide)
 |non=>cases h;exact absurd hT (by decide)
 |_=>cases h
def Hk(T:String)(r:V->List V->Hp->VK->Prop)(to:TE):TE:=λZ H Q=>to Z H λx H1=>P5 H1 x=some T/\r x [] H1 Q
def tBA(T:String)(r:V->List V->Hp->VK->Prop)(to:TE)(t:TA):TE:=λZ H Q=>to Z H λx H1=>P5 H1 x=some T/\t Z H1 λxs H2=>r x xs H2 Q
variable {name:Str}{T id:String}{r:V->List V->Hp->VK->Prop}
theorem A02(pa:PlainAttrs T)(slot:Slot T name id)(hty:typeOf (.builtin id)=pure (.type "method_descriptor"))(hm:MtR X id r)(ho:PE X o to)(ha:PA X (e::es) t)(hT:T = "list" \/ T = "dict" \/ T = "str" := by decide)
  (hbase:attributeBase o name X.env (eval o X.env)=eval o X.env:=by rfl)
  (hfew:((backTo cpos (starEach (e::es) X.env)).all (λx=>!x.1)&&(backToKw cpos (keywordEach [] X.env)).all (λx=>x.1.isSome)
   && decide ((e::es).length+([]:List Keyword).length+(if ([]:List Keyword).isEmpty then 0 else 1)<30))=true:=by rfl)
  (hline:(apos.endLine == cpos.line)=true:=by rfl) (hs:starEach (e::es) X.env=(false,eval e X.env)::starEach es X.env:=by rfl) (hplain:(backTo cpos (starEach es X.env)).any (·.1)=false:=by rfl) :
  PE X (.Call (.Attribute o name apos) (e::es) [] cpos) (tBA T r to t):=by
 intro pins s Z H Q I h
 refine wpAny_Call_method_late hbase hfew hline rfl (thn (ho pins s Z H _ I h) λv s1 z0=>?_)
 obtain⟨x,H1,I1,r1,ty,q1⟩:=z0
 obtain⟨h1,h2⟩:=xz I1 r1 (xy ty hT)
 refine⟨T,id,pa,slot,hty,h1,h2,?_⟩
 have hA:=ha cpos pins s1 Z H1 _ I1 q1
 rw[hs] at hA ⊢
 refine Calls.callWith_builtin (by show (false||(backTo cpos (starEach es X.env)).any (·.1))=false;rw[hplain]<;>rfl) (Calls.evalArgs_plain ?_)
 exact thn hA λus s2 ⟨vs,H2,I2,r2,q2⟩=>hm pins s2 Z H2 x vs v us Q I2 r1 r2 q2
end
def Has(P:Program)(w:World)(K:Zzw)(mg:Str->Option Value)(base:Heap)(x:Str)(k:Nat)(ps:List Str)(sp:Sp):Prop :=
 ∃f fd,mg x=some (.ref f)/\Zvv K (.ref f)=true/\Binds K fd ps []/\D3 P w K mg base CX0 k f fd ps sp
theorem mm{X:Cx}{x:Str}{k:Nat}{ps:List Str}{sp:Sp}{e:Expr}{es:List Expr}{t:TA}{p pos:Pos}(h:Has X.prog X.w X.K X.mg X.base x k ps sp)(hr:Room k X.A)(hg:Gl X x)(ha:PA X (e::es) t)
  (hdb:(x == ("__debug__" : Str))=false:=by decide) (he:starEach (e::es) X.env=(false,eval e X.env)::starEach es X.env:=by rfl) (hpl:(backTo pos (starEach es X.env)).any (·.1)=false:=by rfl) :
  PE X (.Call (.Name x p) (e::es) [] pos) (E1 sp [] E0 t):=by
 obtain⟨f,fd,hm,hk,hb,F⟩:=h
 exact ui F hr hg hm hk hb .nil A03 ha hdb he hpl
end L2
namespace HT
open PySem PyProof.Rows
section
variable {prog:Program}{w:World}{A:Around}{E:Value->Shared->Prop}{s:Shared}
end
end HT
namespace L2
open PySem PySem.Spec PyProof.Rows
section
variable {X:Cx}{a b c e o:Expr}{ta tb tc te to:TE}{pos p apos cpos:Pos}{es:List Expr}{t:TA}
theorem Jj:SlR X (λx lo hi H Q=>∃a xs,x=.ref a/\H a=some (.lst xs)/\∀p,H p=none->Q (.ref p) (upd H p (.lst (J8 xs lo hi)))):=by
 intro pins s Z H x v vl vu lo hi sl Q I rx hs pl pu h
 obtain⟨a,xs,rfl,hx,q⟩:=h
 exact su pins s Z H _ v vl vu lo hi sl Q I rx hs pl pu ⟨a,xs,rfl,SqL.of hx,q⟩
theorem C0{x:Str}{i:Int}{pos:Pos}(hg:Gl X x)(hm:∃t,X.mg x=some (.int i t))(hd:(x == ("__debug__" : Str))=false:=by decide):PE X (.Name x pos) (tC (.int i)):=by
 obtain⟨t,hm⟩:=hm
 exact Vt hg hm ⟨t,rfl⟩ hd
theorem Xq{x z:Str}{pos:Pos}(hg:Gl X x)(hm:∃t,X.mg x=some (.str z t))(hd:(x == ("__debug__" : Str))=false:=by decide):PE X (.Name x pos) (tC (.str z)):=by
 obtain⟨t,hm⟩:=hm
 exact Vt hg hm ⟨t,rfl⟩ hd
theorem Fz(hu:X.A.units+1<cLine):OpR X (compareOp .Eq) rEq:=A06
theorem Vv(hu:X.A.units+1<cLine):OpR X (compareOp .NotEq) rNe:=A04
theorem Lz(hu:X.A.units+1<cLine):OpR X (compareOp .Lt) (rI0 λi j=>.bl (decide (i<j))):=A05
def rIsA:R2:=λx y H Q=>(∃i j,x=.bl i/\y=.bl j/\Q (.bl (i == j)) H)\/(y=.non/\Q (.bl (decide (x=.non))) H)
theorem ye:OpR X (compareOp .Is) rIsA:=op_isB.or yd
def rIsnotA:R2:=λx y H Q=>(∃i j,x=.bl i/\y=.bl j/\Q (.bl (i != j)) H)\/(y=.non/\Q (.bl (!decide (x=.non))) H)
theorem Px:OpR X (compareOp .IsNot) rIsnotA:=op_isnotB.or uo
theorem Od(hc:X.calm=true):CallR X (.builtin "min") (λxs H Q=>∃i j,xs=[.int i,.int j]/\Q (.int (if j<i then j else i)) H):=jp hc
def tupleA:List V->Hp->VK->Prop:=λxs H Q=>∃p ys,xs=[.ref p]/\((H p=some (.lst ys)/\∀l,H l=none->Q (.ref l) (upd H l (.tup ys)))\/(H p=some (.tup ys)/\Q (.ref p) H))
theorem Dv:CallR X (.type "tuple") tupleA:=by
 intro pins s Z H xs us Q I r h
 obtain⟨p,ys,rfl,h⟩:=h
 exact Tz pins s Z H _ us Q I r ⟨p,ys,rfl,h.imp (λh=>⟨SqL.of h.1,h.2⟩) λh=>⟨SqT.of h.1,h.2⟩⟩
def Fc:List V->Hp->VK->Prop:=λxs H Q=>∃p ys,xs=[.ref p]/\(H p=some (.lst ys)\/H p=some (.tup ys))/\∀l,H l=none->Q (.ref l) (upd H l (.lst ys))
def cpB(N:List Str)(osc sc:Scope)(own:List Str)(cap:List Nat):Bool :=
 decide (sc.kind=.function)&&sc.names.all (λx=>x.2 != .local||decide (sc.names.lookup x.1=some .local))&&sc.names.all (λy=>y.2 != .cell) &&
 sc.names.all (λy=>y.2 != .free||decide (osc.names.lookup y.1=some .cell)||decide (osc.names.lookup y.1=some .free))&&cap.all λj=>decide (j<N.length)&&decide (sc.names.lookup (N.getD j "")=some .free)
theorem Du{N:List Str}{osc sc:Scope}{own:List Str}{cap:List Nat}(h:cpB N osc sc own cap=true):Oh N osc sc own cap:=by
 unfold cpB at h
 rw[Zza,Zza,Zza,Zza] at h
 obtain⟨⟨⟨⟨h1,h2⟩,h3⟩,h4⟩,h5⟩:=h
 refine⟨of_decide_eq_true h1,λx hx hl=>?_,λy hy hc=>?_,λy hy hf=>?_,λj hj=>?_⟩
 ·have q:=Zyi.mp h2 x hx
  rw[hl] at q
  exact of_decide_eq_true (by simpa using q)
 ·have q:=Zyi.mp h3 y hy
  rw[hc] at q
  exact absurd q (by decide)
 ·have q:=Zyi.mp h4 y hy
  rw[hf] at q
  rw[Bool.or_eq_true,Bool.or_eq_true] at q
  rcases q with (q | q) | q
  ·exact absurd q (by decide)
  ·exact .inl (of_decide_eq_true q)
  ·exact .inr (of_decide_eq_true q)
 ·have q:=Zyi.mp h5 j hj
  rw[Zza] at q
  exact⟨of_decide_eq_true q.1,of_decide_eq_true q.2⟩
end
section
variable {X:Cx}
def Ek:R2:=λx y H Q=>∃l k xs,x=.ref l/\y=.int k/\H l=some (.tup xs)/\xs≠[]/\2<=k/\k<=1000/\xs.length*k.toNat<=10000 /\
 ∀p,H p=none->Q (.ref p) (upd H p (.tup (Zxm k.toNat xs).flatten))
def Ex:R2:=λx y H Q=>(∃i j,x=.int i/\y=.int j/\CMul i j/\Q (.int (i*j)) H)\/Ek x y H Q
theorem CallR.weak{f:Value}{r r':List V->Hp->VK->Prop}(h:CallR X f r)(w:∀xs H Q,r' xs H Q->r xs H Q):CallR X f r':=λpins s Z H xs us Q I rv q=>h pins s Z H xs us Q I rv (w _ _ _ q)
def lenQ:List V->Hp->VK->Prop:=λxs H Q=>∃p ys,xs=[.ref p]/\(H p=some (.lst ys)\/H p=some (.tup ys))/\Q (.int ys.length) H
theorem Dp:CallR X (.builtin "len") lenQ:=call_lenA.weak λ_ _ _ h=>.inl h
def Ho:List V->Hp->VK->Prop:=λxs H Q=>∃z,xs=[.str z]/\z.length<=sizeLine/\Q (.int z.length) H
def Hq:List V->Hp->VK->Prop:=λxs H Q=>∃p kvs,xs=[.ref p]/\H p=some (.dK kvs)/\Q (.int kvs.length) H
def rSetD:V->V->V->Hp->(Hp->Prop)->Prop:=λo i v H Q=>∃p kvs k,o=.ref p/\i=kV k/\H p=some (.dK kvs)/\kvs.length<sizeLine/\Q (upd H p (.dK (Jc kvs k v)))
theorem Kw(hu:X.A.units+1<cLine):qx X rSetD:=λpins s Z H o i v ov iv u Q I ro ri rv h=>sv hu pins s Z H o i v ov iv u Q I ro ri rv (.inr h)
theorem Pk:PIp X .Add (rI0 λi j=>.int (i+j)):=λpins s Z H x y v u Q I rx ry q=>vn pins s Z H x y v u Q I rx ry q
def Fa:R2:=λx y H Q=>∃i j,x=.str i/\y=.str j/\i.length+j.length<=sizeLine/\Q (.str (i++j)) H
def He(te:TE):TI:=λZ H R=>te Z H λx H1=>∃a xs,x=.ref a/\H1 a=some (.lst xs)/\R (ItL a xs) H1
def Hd(te:TE):TI:=λZ H R=>te Z H λx H1=>∃a xs,x=.ref a/\H1 a=some (.tup xs)/\R (ItT a xs) H1
def Hs(te:TE):TI:=λZ H R=>te Z H λx H1=>∃z,x=.str z/\R (Its z) H1
theorem G8{tg l:Expr}{te:TE}(hl:PE X l te):PI X tg l (He te):=by
 intro pins s Z H R I h
 refine thn (hl pins s Z H _ I h) λv s1 z0=>?_
 obtain⟨x,H1,I1,r1,q1⟩:=z0
 obtain⟨a,xs,e,ha,q⟩:=q1
 subst e
 cases r1
 obtain⟨its,rv,hli,hlt⟩:=Cg I1 ha
 refine wpAny_pyIter_list hli ?_
 refine⟨s1.heap.objs.size,[s1.heap.objs.size],_,_,H1,rfl,I1.kept (t':=s1.toks) λb o e=>Zzx _ e,U6 a _ xs,⟨_,Zze _ rfl,rfl,rfl⟩,λb hb=>?_,q⟩
 have e:b=s1.heap.objs.size:=by simpa using hb
 subst e
 exact I1.fpOk (Zzm _) (I1.hok.fresh (Zzm _))
theorem E5{tg l:Expr}{te:TE}(hl:PE X l te):PI X tg l (Hd te):=by
 intro pins s Z H R I h
 refine thn (hl pins s Z H _ I h) λv s1 z0=>?_
 obtain⟨x,H1,I1,r1,q1⟩:=z0
 obtain⟨a,xs,e,ha,q⟩:=q1
 subst e
 cases r1
 obtain⟨hz,its,rv,p⟩:=I1.hok a _ ha
 refine wpAny_pyIter_tuple (show s1.heap.IsTuple a its.toArray from p) ?_
 refine⟨s1.heap.objs.size,[s1.heap.objs.size],_,_,H1,rfl,I1.kept (t':=s1.toks) λb o e=>Zzx _ e,U5 a _ xs,⟨_,Zze _ rfl,rfl,rfl⟩,λb hb=>?_,q⟩
 have e:b=s1.heap.objs.size:=by simpa using hb
 subst e
 exact I1.fpOk (Zzm _) (I1.hok.fresh (Zzm _))
end
end L2
namespace NP
open PySem L2
theorem Gj:bootBuiltins "isinstance" = some (.builtin "isinstance"):=by decide +kernel
theorem Mw:bootBuiltins "all" = some (.builtin "all"):=by decide +kernel
theorem Wu:bootBuiltins "min" = some (.builtin "min"):=by decide +kernel
theorem Ox:bootBuiltins "max" = some (.builtin "max"):=by decide +kernel
theorem Fu:bootBuiltins "len" = some (.builtin "len"):=by decide +kernel
theorem V5:bootBuiltins "sorted" = some (.builtin "sorted"):=by decide +kernel
theorem bj:bootBuiltins "sum" = some (.builtin "sum"):=by decide +kernel
theorem bn:bootBuiltins "int" = some (.type "int"):=by decide +kernel
theorem wj:bootBuiltins "bool" = some (.type "bool"):=by decide +kernel
theorem K0:bootBuiltins "str" = some (.type "str"):=by decide +kernel
theorem G3:bootBuiltins "tuple" = some (.type "tuple"):=by decide +kernel
theorem wg:bootBuiltins "list" = some (.type "list"):=by decide +kernel
theorem Z4:bootBuiltins "reversed" = some (.type "reversed"):=by decide +kernel
theorem Wv:bootBuiltins "enumerate" = some (.type "enumerate"):=by decide +kernel
theorem bi:bootBuiltins "zip" = some (.type "zip"):=by decide +kernel
def But(st:Addr)(H H':Hp):Prop:=∀b o,b≠st->H b=some o->H' b=some o
theorem But.refl(st:Addr)(H:Hp):But st H H:=λ_ _ _ h=>h
theorem But.trans{st:Addr}{H H1 H2:Hp}(a:But st H H1)(b:But st H1 H2):But st H H2:=λc o n h=>b c o n (a c o n h)
theorem N8{st:Addr}{H H':Hp}(s:Same H H'):But st H H':=λb o _ h=>s b o h
theorem A6{H:Hp}{p:Addr}{o:HO}(hp:H p=none):Same H (upd H p o):=λb u h=>by rw[A7 (A4 h hp)];exact h
theorem R8{st:Addr}{H:Hp}{p:Addr}{o:HO}(hp:H p=none):But st H (upd H p o):=N8 (A6 hp)
theorem Ws{st:Addr}{H:Hp}{o:HO}:But st H (upd H st o):=λb u n h=>by rw[A7 n];exact h
inductive D where
 |non | bl (b:Bool) | int (i:Int) | str (x:Str) | tup (ds:List D) | lst | dct
mutual
def Rep(H:Hp):D->V->Prop
 |.non,v=>v=.non
 |.bl b,v=>v=.bl b
 |.int i,v=>v=.int i
 |.str x,v=>v=.str x/\x.length<=1000
 |.tup ds,v=>∃a xs,v=.ref a/\H a=some (.tup xs)/\ds.length<=1000/\Reps H ds xs
 |.lst,v=>∃a xs,v=.ref a/\H a=some (.lst xs)
 |.dct,v=>∃a kvs,v=.ref a/\H a=some (.dK kvs)
def Reps(H:Hp):List D->List V->Prop
 |[],xs=>xs=[]
 |d::ds,xs=>∃x r,xs=x::r/\Rep H d x/\Reps H ds r
end
def r9(H H':Hp):Prop:=(∀a xs,H a=some (.tup xs)->H' a=some (.tup xs))/\(∀a xs,H a=some (.lst xs)->∃ys,H' a=some (.lst ys))/\∀a kvs,H a=some (.dK kvs)->∃kvs',H' a=some (.dK kvs')
theorem Rv{H H':Hp}(s:Same H H'):r9 H H':=⟨λ_ _ h=>s _ _ h,λ_ xs h=>⟨xs,s _ _ h⟩,λ_ kvs h=>⟨kvs,s _ _ h⟩⟩
mutual
theorem Rep.keep{H H':Hp}(k:r9 H H'):∀(d:D) (v:V),Rep H d v->Rep H' d v
 |.non,v,h=>by rw[Rep] at h ⊢;exact h
 |.bl b,v,h=>by rw[Rep] at h ⊢;exact h
 |.int i,v,h=>by rw[Rep] at h ⊢;exact h
 |.str x,v,h=>by rw[Rep] at h ⊢;exact h
 |.tup ds,v,h=>by
  rw[Rep] at h ⊢
  obtain⟨a,xs,e,h,z,r⟩:=h
  exact⟨a,xs,e,k.1 a xs h,z,Reps.keep k ds xs r⟩
 |.lst,v,h=>by
  rw[Rep] at h ⊢
  obtain⟨a,xs,e,h⟩:=h
  obtain⟨ys,h'⟩:=k.2.1 a xs h
  exact⟨a,ys,e,h'⟩
 |.dct,v,h=>by
  rw[Rep] at h ⊢
  obtain⟨a,kvs,e,h⟩:=h
  obtain⟨ys,h'⟩:=k.2.2 a kvs h
  exact⟨a,ys,e,h'⟩
theorem Reps.keep{H H':Hp}(k:r9 H H'):∀(ds:List D) (xs:List V),Reps H ds xs->Reps H' ds xs
 |[],xs,h=>by rw[Reps] at h ⊢;exact h
 |d::ds,xs,h=>by
  rw[Reps] at h ⊢
  obtain⟨x,r,e,h1,h2⟩:=h
  exact⟨x,r,e,Rep.keep k d x h1,Reps.keep k ds r h2⟩
end
theorem Rep.same{H H':Hp}{d:D}{v:V}(h:Rep H d v)(s:Same H H'):Rep H' d v:=Rep.keep (Rv s) d v h
theorem Reps.same{H H':Hp}{ds:List D}{vs:List V}(h:Reps H ds vs)(s:Same H H'):Reps H' ds vs:=Reps.keep (Rv s) ds vs h
theorem Reps.length{H:Hp}:∀{ds:List D} {xs:List V},Reps H ds xs->xs.length=ds.length
 |[],xs,h=>by rw[Reps] at h;rw[h];rfl
 |d::ds,xs,h=>by
  rw[Reps] at h
  obtain⟨x,r,e,_,h2⟩:=h
  rw[e,Zzk,Zzk,Reps.length h2]
theorem Reps.get{H:Hp}:∀{ds:List D} {xs:List V} {i:Nat} {x:V},Reps H ds xs->xs[i]?=some x->∃d,ds[i]?=some d/\Rep H d x
 |[],xs,i,x,h,e=>by rw[Reps] at h;rw[h] at e;cases e
 |d::ds,xs,i,x,h,e=>by
  rw[Reps] at h
  obtain⟨y,r,ey,h1,h2⟩:=h
  rw[ey] at e
  cases i with
  |zero=>cases e;exact⟨d,rfl,h1⟩
  |succ i=>exact Reps.get (ds:=ds) (xs:=r) (i:=i) h2 (by simpa using e)
theorem Reps.get'{H:Hp}:∀{ds:List D} {xs:List V} {i:Nat} {d:D},Reps H ds xs->ds[i]?=some d->∃x,xs[i]?=some x/\Rep H d x
 |[],xs,i,d,h,e=>by cases e
 |d0::ds,xs,i,d,h,e=>by
  rw[Reps] at h
  obtain⟨y,r,ey,h1,h2⟩:=h
  rw[ey]
  cases i with
  |zero=>cases e;exact⟨y,rfl,h1⟩
  |succ i =>
   obtain⟨x,h3,h4⟩:=Reps.get' (ds:=ds) (xs:=r) (i:=i) (d:=d) h2 (by simpa using e)
   exact⟨x,by simpa using h3,h4⟩
def D.ty:D->String
 |.non => "NoneType"
 |.bl _ => "bool"
 |.int _ => "int"
 |.str _ => "str"
 |.tup _ => "tuple"
 |.lst => "list"
 |.dct => "dict"
theorem Rep.ty{H:Hp}{d:D}{v:V}(h:Rep H d v):P5 H v=some d.ty:=by
 cases d<;>rw[Rep] at h
 ·rw[h];rfl
 ·rw[h];rfl
 ·rw[h];rfl
 ·rw[h.1];rfl
 ·obtain⟨a,xs,e,h,_⟩:=h;rw[e];unfold P5;simp only[h];rfl
 ·obtain⟨a,xs,e,h⟩:=h;rw[e];unfold P5;simp only[h];rfl
 ·obtain⟨a,xs,e,h⟩:=h;rw[e];unfold P5;simp only[h];rfl
def Zc(J:It)(own:List Str)(cap:List Nat)(g:TG)(tt:TT)(te:TE)(Z:St)(H1:Hp)(Q:VK):Prop:=∃W:Nat->Nat->List V->Hp->Prop,(∃m,W 0 m [] H1)/\∀i m acc H,W i m acc H->acc.length<=sizeLine /\
 ((J.stop i H/\∀p,H p=none->Q (.ref p) (upd H p (.lst acc))) \/
  (J.go i H/\acc.length<sizeLine/\∃N:List V->Hp->Prop,(∀acc' H',N acc' H'->∃m',m'<m/\W (i+1) m' acc' H')/\∀x H',J.yld i H x H'->g x (Fd own cap Z) H' λσ2 H2=>tt σ2 H2 λb H3=>if b=true then te σ2 H3 λy H4=>N (acc++[y]) H4 else N acc H3))
theorem Ca(own:List Str)(cap:List Nat)(wi:TI)(g:TG)(tt:TT)(te:TE)(Z:St)(H:Hp)(Q:VK):kr own cap wi g tt te Z H Q=wi Z H λJ H1=>Zc J own cap g tt te Z H1 Q:=rfl
def zo(J:It)(g:TG)(tb:TS)(D:Qa)(Z:St)(H1:Hp):Prop:=∃W:Nat->Nat->St->Hp->Prop,(∃m,W 0 m Z H1)/\∀i m Z H,W i m Z H ->
 (J.stop i H/\D.nx Z H)\/(J.go i H/\∃N:St->Hp->Prop,(∀Z' H',N Z' H'->∃m',m'<m/\W (i+1) m' Z' H')/\∀x H',J.yld i H x H'->g x Z H' λσ2 H2=>tb {D with nx:=N,ct:=N,bk:=D.nx} σ2 H2)
theorem Cp(wi:TI)(g:TG)(tb:TS)(D:Qa)(Z:St)(H:Hp):zz wi g tb D Z H=wi Z H λJ H1=>zo J g tb D Z H1:=rfl
theorem Cw(te:TE)(Z:St)(H:Hp)(R:It->Hp->Prop):A0a te Z H R=te Z H λx H1=>(∃a xs,x=.ref a/\H1 a=some (.lst xs)/\R (ItL a xs) H1)\/(∃a xs,x=.ref a/\H1 a=some (.tup xs)/\R (ItT a xs) H1)\/(∃z,x=.str z/\R (Its z) H1):=rfl
theorem Cv:("int" ∈ ["bool", "int", "str", "list", "tuple", "dict"])=True:=eq_true (by decide)
theorem Cf:("bool" ∈ ["bool", "int", "str", "list", "tuple", "dict"])=True:=eq_true (by decide)
theorem Cu:("str" ∈ ["bool", "int", "str", "list", "tuple", "dict"])=True:=eq_true (by decide)
theorem Cd:("list" ∈ ["bool", "int", "str", "list", "tuple", "dict"])=True:=eq_true (by decide)
theorem C4:("tuple" ∈ ["bool", "int", "str", "list", "tuple", "dict"])=True:=eq_true (by decide)
theorem Ce:("dict" ∈ ["bool", "int", "str", "list", "tuple", "dict"])=True:=eq_true (by decide)
theorem Af:Fs "NoneType" "bool" = false:=by decide
theorem Ah:Fs "NoneType" "int" = false:=by decide
theorem Ag:Fs "NoneType" "str" = false:=by decide
theorem Ad:Fs "NoneType" "list" = false:=by decide
theorem Ab:Fs "NoneType" "tuple" = false:=by decide
theorem Ae:Fs "NoneType" "dict" = false:=by decide
theorem Bc:Fs "bool" "bool" = true:=by decide
theorem Bt:Fs "bool" "int" = true:=by decide
theorem Bs:Fs "bool" "str" = false:=by decide
theorem Ba:Fs "bool" "list" = false:=by decide
theorem Aq:Fs "bool" "tuple" = false:=by decide
theorem Bb:Fs "bool" "dict" = false:=by decide
theorem Bp:Fs "int" "bool" = false:=by decide
theorem Bz:Fs "int" "int" = true:=by decide
theorem Bw:Fs "int" "str" = false:=by decide
theorem Bn:Fs "int" "list" = false:=by decide
theorem Ax:Fs "int" "tuple" = false:=by decide
theorem Bo:Fs "int" "dict" = false:=by decide
theorem Bk:Fs "str" "bool" = false:=by decide
theorem Bv:Fs "str" "int" = false:=by decide
theorem Bu:Fs "str" "str" = true:=by decide
theorem Bi:Fs "str" "list" = false:=by decide
theorem At:Fs "str" "tuple" = false:=by decide
theorem Bj:Fs "str" "dict" = false:=by decide
theorem Aw:Fs "list" "bool" = false:=by decide
theorem Bm:Fs "list" "int" = false:=by decide
theorem Bl:Fs "list" "str" = false:=by decide
theorem Au:Fs "list" "list" = true:=by decide
theorem Ao:Fs "list" "tuple" = false:=by decide
theorem Av:Fs "list" "dict" = false:=by decide
theorem An:Fs "tuple" "bool" = false:=by decide
theorem As:Fs "tuple" "int" = false:=by decide
theorem Ar:Fs "tuple" "str" = false:=by decide
theorem Al:Fs "tuple" "list" = false:=by decide
theorem Aj:Fs "tuple" "tuple" = true:=by decide
theorem Am:Fs "tuple" "dict" = false:=by decide
theorem B2:Fs "dict" "bool" = false:=by decide
theorem Br:Fs "dict" "int" = false:=by decide
theorem Bq:Fs "dict" "str" = false:=by decide
theorem Ay:Fs "dict" "list" = false:=by decide
theorem Ap:Fs "dict" "tuple" = false:=by decide
theorem Az:Fs "dict" "dict" = true:=by decide
theorem Da{J:It}{n:Nat}{yl:Nat->V->Prop}{ok:Hp->Prop}{own:List Str}{cap:List Nat}{g:TG}{tt:TT}{te:TE}{Z:St}{H:Hp}{Q:VK}(G:U0 J n yl ok)(hn:n<=sizeLine)(hok:∀H',Same H H'->ok H')(ys:List V)(hl:ys.length=n)
  (hs:∀i x H',i<n->yl i x->Same H H'->∀(N:V->Hp->Prop) (M:Hp->Prop),(∀y H4,Same H H4->ys[i]?=some y->N y H4)->g x (Fd own cap Z) H' λσ2 H2=>tt σ2 H2 λb H3=>if b=true then te σ2 H3 N else M H3)
  (hd:∀H',Same H H'->∀p,H' p=none->Q (.ref p) (upd H' p (.lst ys))):Zc J own cap g tt te Z H Q:=by
 refine V3 G hn (λi acc H'=>Same H H'/\acc=ys.take i) ⟨Same.refl H,by simp⟩ (λi acc H' _ h=>hok H' h.1) (λi acc H' h=>by rw[h.2,Zye];omega) (λi x acc H' hi hx h=>?_) (λacc H' h p hp=>?_)
 ·obtain⟨s',rfl⟩:=h
  refine hs i x H' hi hx s' _ _ λy H4 s4 hy=>⟨s4,?_⟩
  rw[Zyx,hy]
  rfl
 ·obtain⟨s',e⟩:=h
  rw[e,Zvb (by omega)]
  exact hd H' s' p hp
theorem Er{J:It}{n:Nat}{yl:Nat->V->Prop}{ok:Hp->Prop}{g:TG}{tb:TS}{D:Qa}{Z:St}{H:Hp}(G:U0 J n yl ok)(Pv:Nat->St->Hp->Prop)(h0:Pv 0 Z H)(hok:∀i Z H,i<=n->Pv i Z H->ok H)
  (hs:∀i x Z H,i<n->yl i x->Pv i Z H->g x Z H λσ2 H2=>tb {D with nx:=Pv (i+1),ct:=Pv (i+1),bk:=D.nx} σ2 H2) (hd:∀Z H,Pv n Z H->D.nx Z H):zo J g tb D Z H:=oy G Pv h0 hok hs hd
theorem But.new{H H1:Hp}{st l:Addr}{o:HO}(h:But st H H1)(hl:H1 l=none):But st H (L2.upd H1 l o):=h.trans (R8 hl)
theorem But.same{H H1 H2:Hp}{st:Addr}(h:But st H H1)(s:Same H1 H2):But st H H2:=h.trans (N8 s)
theorem But.none{H H1:Hp}{st l:Addr}(h:But st H H1)(n:l≠st)(hl:H1 l=none):H l=none:=by
 cases e:H l with
 |none=>rfl
 |some o=>rw[h l o n e] at hl;cases hl
theorem Bf{n:Nat}(h:n<=1000):n<=sizeLine:=Zyf h (by decide)
end NP
namespace L2
open PySem PySem.Spec PyProof.Rows
def Fp:List Expr->Bool
 |[]=>true
 |.Starred ..::_=>false
 |_::r=>Fp r
theorem Fe{env:Env}:∀{es:List Expr},Fp es=true->starEach es env=es.map λe=>(false,eval e env)
 |[],_=>rfl
 |e::r,h=>by
  cases e<;>first
   | (exact absurd h Zz9)
   | (rw[Zzp,<- Fe (env:=env) (es:=r) h];rfl)
theorem Ff{env:Env}{e:Expr}{es:List Expr}(h:Fp [e]=true):starEach (e::es) env=(false,eval e env)::starEach es env:=by
 cases e<;>first
  | (exact absurd h Zz9)
  |rfl
theorem Cz{e:Expr}{es:List Expr}(h:Fp (e::es)=true):Fp [e]=true/\Fp es=true:=by
 cases e<;>first
  | (exact absurd h Zz9)
  |exact⟨rfl,h⟩
theorem Gd{env:Env}{pos:Pos}{es:List Expr}(h:Fp es=true):(backTo pos (starEach es env)).any (·.1)=false:=by
 rw[Fe h]
 unfold backTo
 rw[Zyh,List.any_map]
 induction es with
 |nil=>rfl
 |cons e r ih =>
  rw[Zw4]
  exact ih (Cz h).2
theorem bo{env:Env}{pos:Pos}{es:List Expr}(h:Fp es=true):(backTo pos (starEach es env)).all (λx=>!x.1)=true:=by
 rw[Fe h]
 unfold backTo
 rw[Zyh,Zwu]
 induction es with
 |nil=>rfl
 |cons e r ih =>
  rw[Zwe]
  exact ih (Cz h).2
section
variable {X:Cx}{x:Str}{p pos apos cpos:Pos}{e o tg:Expr}{es:List Expr}{te to:TE}{t:TA}{id T:String}{r:List V->Hp->VK->Prop}{rm:V->List V->Hp->VK->Prop}{k:Nat}{ps:List Str}{sp:Sp}{name:Str}
theorem A3(ha:PE X e te)(hr:PA X es t)(hn:Fp [e]=true:=by rfl):PA X (e::es) (E3 te t):=um ha hr (Ff hn)
theorem A9(h:Has X.prog X.w X.K X.mg X.base x k ps sp)(hr:Room k X.A)(hg:Gl X x)(ha:PA X (e::es) t)(hn:Fp (e::es)=true:=by rfl)(hdb:(x == ("__debug__" : Str))=false:=by decide) :
  PE X (.Call (.Name x p) (e::es) [] pos) (E1 sp [] E0 t):=mm h hr hg ha hdb (Ff (Cz hn).1) (Gd (Cz hn).2)
theorem Bd(hc:CallR X (.builtin id) r)(hg:Gl X x)(hm:X.mg x=none)(hv:bootBuiltins x=some (.builtin id))(ha:PA X (e::es) t)(hn:Fp (e::es)=true:=by rfl)(hnm:x ≠ "__name__" := by decide)(hdb:(x == ("__debug__" : Str))=false:=by decide) :
  PE X (.Call (.Name x p) (e::es) [] pos) (tCB r t):=mn hc hg hm hv ha hnm hdb (Ff (Cz hn).1) (Gd (Cz hn).2)
theorem Cy(hc:CallR X (.type T) r)(hg:Gl X x)(hm:X.mg x=none)(hv:bootBuiltins x=some (.type T))(ha:PA X (e::es) t)(hn:Fp (e::es)=true:=by rfl)(hnm:x ≠ "__name__" := by decide)(hdb:(x == ("__debug__" : Str))=false:=by decide) :
  PE X (.Call (.Name x p) (e::es) [] pos) (tCB r t):=i9 hc hg hm hv ha hnm hdb (Ff (Cz hn).1) (Gd (Cz hn).2)
theorem Gf(pa:PlainAttrs T)(slot:Slot T name id)(hty:typeOf (.builtin id)=pure (.type "method_descriptor"))(hm:MtR X id rm)(ho:PE X o to)(ha:PA X (e::es) t)(hT:T = "list" \/ T = "dict" \/ T = "str" := by decide)
  (hbase:attributeBase o name X.env (eval o X.env)=eval o X.env:=by rfl) (hn:Fp (e::es)=true:=by rfl) (hlen:(e::es).length<20:=by decide) (hline:(apos.endLine == cpos.line)=true:=by rfl) :
  PE X (.Call (.Attribute o name apos) (e::es) [] cpos) (tBA T rm to t):=by
 refine A02 pa slot hty hm ho ha hT hbase ?_ hline (Ff (Cz hn).1) (Gd (Cz hn).2)
 rw[bo hn,Zyc]
 have e1:(backToKw cpos (keywordEach [] X.env)).all (λx=>x.1.isSome)=true:=rfl
 rw[e1,Zyc]
 refine decide_eq_true ?_
 show (e::es).length+0+0<30
 omega
theorem Dy{ta:TA}(hg:Gl X "range")(hm:X.mg "range" = none)(ha:PA X [e] ta)(hn:Fp [e]=true:=by rfl):PI X tg (.Call (.Name "range" p) [e] [] pos) (E9 ta):=i8 hg hm ha (Fe hn)
theorem S4{ta:TA}{e2:Expr}(hg:Gl X "range")(hm:X.mg "range" = none)(ha:PA X [e,e2] ta)(hn:Fp [e,e2]=true:=by rfl):PI X tg (.Call (.Name "range" p) [e,e2] [] pos) (E8 ta):=gz hg hm ha (Fe hn) (Fe (Cz hn).2)
end
mutual
def RD(H:Hp):PyData->V->Prop
 |.none,v=>v=.non
 |.bool b,v=>v=.bl b
 |.int i,v=>v=.int i
 |.str x,v=>v=.str x
 |.list ds,v=>∃a xs,v=.ref a/\H a=some (.lst xs)/\RDs H ds xs
 |.tuple ds,v=>∃a xs,v=.ref a/\H a=some (.tup xs)/\RDs H ds xs
 |.dict _,_=>False
def RDs(H:Hp):List PyData->List V->Prop
 |[],xs=>xs=[]
 |d::ds,xs=>∃x r,xs=x::r/\RD H d x/\RDs H ds r
end
mutual
theorem RD.reads{P:Program}{w:World}{H:Hp}{h:Heap}(ok:HOk P w H h):∀(d:PyData) (v:V) (u:Value),RD H d v->RelV v u->∃as,Reads h u d as
 |.none,v,u,r,e=>by
  rw[RD] at r;subst r;cases e;exact⟨_,.none⟩
 |.bool b,v,u,r,e=>by
  rw[RD] at r;subst r;cases e;exact⟨_,.bool b⟩
 |.int i,v,u,r,e=>by
  rw[RD] at r;subst r;obtain⟨t,rfl⟩:=e;exact⟨_,.int i t⟩
 |.str x,v,u,r,e=>by
  rw[RD] at r;subst r;obtain⟨t,rfl⟩:=e;exact⟨_,.str x t⟩
 |.list ds,v,u,r,e=>by
  rw[RD] at r
  obtain⟨a,xs,rfl,ha,r⟩:=r
  cases e
  obtain⟨hz,its,n,rv,eo⟩:=ok a _ ha
  obtain⟨as,q⟩:=RDs.reads ok ds xs its r rv
  exact⟨_,.list (vs:=its.toArray) eo rfl rfl q⟩
 |.tuple ds,v,u,r,e=>by
  rw[RD] at r
  obtain⟨a,xs,rfl,ha,r⟩:=r
  cases e
  obtain⟨hz,its,rv,o,ho,hc,n,hd⟩:=ok a _ ha
  obtain⟨as,q⟩:=RDs.reads ok ds xs its r rv
  exact⟨_,.tuple (vs:=its.toArray) ho hc hd q⟩
 |.dict _,v,u,r,e=>by
  rw[RD] at r;exact r.elim
theorem RDs.reads{P:Program}{w:World}{H:Hp}{h:Heap}(ok:HOk P w H h):∀(ds:List PyData) (xs:List V) (us:List Value),RDs H ds xs->Vals xs us->∃as,ReadsAll h us ds as
 |[],xs,us,r,e=>by
  rw[RDs] at r;subst r;cases e;exact⟨_,.nil⟩
 |d::ds,xs,us,r,e=>by
  rw[RDs] at r
  obtain⟨x,r',rfl,h1,h2⟩:=r
  cases e with
  |cons r1 r2 =>
   obtain⟨as,q1⟩:=RD.reads ok d x _ h1 r1
   obtain⟨bs,q2⟩:=RDs.reads ok ds r' _ h2 r2
   exact⟨_,.cons q1 q2⟩
end
def okD(d:PyData):Bool:=d.canLay0&&decide (d.depth<=50)
def rEqD:R2:=λx y H Q=>∃d e,RD H d x/\RD H e y/\okD d=true/\okD e=true/\Q (.bl (PyData.eqv d e)) H
def rNeD:R2:=λx y H Q=>∃d e,RD H d x/\RD H e y/\okD d=true/\okD e=true/\Q (.bl (!PyData.eqv d e)) H
theorem Y7{A:Around}{d e:PyData}(h:okD d=true)(hu:A.units+64<cLine):A.units+min d.depth e.depth<cLine:=by
 have h1:d.depth<=50:=of_decide_eq_true (Zwc.mp h).2
 have h2:min d.depth e.depth<=d.depth:=Nat.min_le_left _ _
 omega
section
variable {X:Cx}
theorem mq(hu:X.A.units+64<cLine):OpR X (compareOp .Eq) rEqD:=by
 intro pins s Z H x y v u Q I rx ry h
 obtain⟨d,e,rd,re,hd,he,q⟩:=h
 obtain⟨as,r1⟩:=RD.reads I.hok d x v rd rx
 obtain⟨bs,r2⟩:=RD.reads I.hok e y u re ry
 exact SeqAt.compareEq_reads r1 r2 (Zwc.mp hd).1 (Zwc.mp he).1 (Y7 hd hu) ⟨.bl _,H,I,rfl,q⟩
theorem yc(hu:X.A.units+64<cLine):OpR X (compareOp .NotEq) rNeD:=by
 intro pins s Z H x y v u Q I rx ry h
 obtain⟨d,e,rd,re,hd,he,q⟩:=h
 obtain⟨as,r1⟩:=RD.reads I.hok d x v rd rx
 obtain⟨bs,r2⟩:=RD.reads I.hok e y u re ry
 exact SeqAt.compareNe_reads r1 r2 (Zwc.mp hd).1 (Zwc.mp he).1 (Y7 hd hu) ⟨.bl _,H,I,rfl,q⟩
end
theorem du{A:Around}{k:Nat}(hr:Room k A):A.units+64<cLine:=by
 have:=hr.un
 omega
def Vr(ns:List Int):PyData:=.list (ns.map .int)
theorem Xm{H:Hp}:∀ns:List Int,RDs H (ns.map .int) (ns.map V.int)
 |[]=>by rw[Zyv,Zyv,RDs]
 |n::r=>by
  rw[Zzp,Zzp,RDs]
  exact⟨_,_,rfl,by rw[RD],Xm r⟩
theorem ly{H:Hp}{a:Addr}{ns:List Int}(h:H a=some (.lst (ns.map V.int))):RD H (Vr ns) (.ref a):=by
 unfold Vr
 rw[RD]
 exact⟨a,_,rfl,h,Xm ns⟩
theorem Qi:∀ns:List Int,PyData.canLayAll0 (ns.map .int)=true
 |[]=>rfl
 |n::r=>by
  rw[Zzp,PyData.canLayAll0,PyData.canLay0,Qi r]
  rfl
theorem Sz:∀ns:List Int,PyData.depthAll (ns.map .int)=0
 |[]=>rfl
 |n::r=>by
  rw[Zzp,PyData.depthAll,PyData.depth,Sz r]
  rfl
theorem da(ns:List Int):okD (Vr ns)=true:=by
 unfold okD Vr
 rw[PyData.canLay0,Qi,PyData.depth,Sz]
 rfl
theorem Qh:∀ns ms:List Int,PyData.eqvAll (ns.map .int) (ms.map .int)=decide (ns=ms)
 |[],[]=>by simp[PyData.eqvAll]
 |[],m::s=>by simp[PyData.eqvAll]
 |n::r,[]=>by simp[PyData.eqvAll]
 |n::r,m::s=>by
  rw[Zzp,Zzp,PyData.eqvAll,PyData.eqv,Qh r s]
  by_cases h:n=m
  ·subst h;simp
  ·simp[h]
theorem pi(ns ms:List Int):PyData.eqv (Vr ns) (Vr ms)=decide (ns=ms):=by
 unfold Vr
 rw[PyData.eqv]
 exact Qh ns ms
section
variable {X:Cx}{pins:List (Addr×Obj)}{Z:St}{H:Hp}{s:Shared}{h':Heap}
theorem HOk.but{P:Program}{w:World}{h:Heap}{wr:List Addr}(x:HOk P w H h)(k:∀b o,b∉wr->h.get? b=some o->h'.get? b=some o)(n:∀b∈wr,H b=none):HOk P w H h':=λa o e =>
 (x a o e).stay (λb u hb q=>k b u (λz=>by
  rcases hb with hb | hb
  ·rw[hb] at z;rw[n a z] at e;cases e
  ·rw[n b z] at hb;cases hb) q) (λ_ q=>q) λ_ _ q=>q
theorem Inv.turnedL{t':Nat}{wr:List Addr}(I:Inv X pins Z H s)(k:∀b o,b∉wr->s.heap.get? b=some o->h'.get? b=some o)(f:∀b∈wr,N6 X pins H b):Inv X pins Z H {s with heap:=h',toks:=t'}:=by
 refine I.step (g':=s.gens) (d':=s.drawn) (ch:=wr) (λb hb=>?_) (λb o _ _ hc e _=>k b o hc e) (λb o _ _ hc e _=>⟨o.slots,k b o hc e⟩) (λ_ _ _ _ n=>n)
  (λb o hc e=>⟨o,k b o hc e⟩) (λ_ _ e=>e) (λ_ _ _ e=>e) (λb ps e=>⟨#[],by rw[e];simp⟩) (λm hm=>?_) (I.hok.but k λb hb=>(f b hb).1) I.bare
 ·obtain⟨f0,f1,f2,f3,f4,f5⟩:=f b hb
  exact⟨f3,f1,f4,f5⟩
 ·obtain⟨o,es,ep,ho,r⟩:=hm
  exact⟨o,es,ep,k _ o (λz=>(f _ z).2.1 rfl) ho,r⟩
theorem Inv.turnedT{t':Nat}{wr:List Addr}{p:Addr}{xs:List V}{its:List Value}(I:Inv X pins Z H s)(k:∀b o,b∉wr->s.heap.get? b=some o->h'.get? b=some o)(f:∀b∈wr,N6 X pins H b)(hp:s.heap.objs.size<=p)
  (ht:IsTup h' p its.toArray) (rv:Vals xs its) (hz:xs.length<=sizeLine):Inv X pins Z (upd H p (.tup xs)) {s with heap:=h',toks:=t'}:=by
 have hn:H p=none:=I.hok.fresh hp
 have ne:∀b o,s.heap.get? b=some o->b≠p:=λb o e=>Fo (Zzb e) hp
 refine I.step (g':=s.gens) (d':=s.drawn) (ch:=wr) (λb hb=>?_) (λb o _ _ hc e _=>k b o hc e) (λb o _ _ hc e _=>⟨o.slots,k b o hc e⟩) (λb o _ e n=>by rw[A7 (ne b o e)];exact n)
  (λb o hc e=>⟨o,k b o hc e⟩) (λb ys e=>by rw[A7 (A4 e hn)];exact e) (λb o u e=>by rw[A7 (A4 e hn)];exact e) (λb ps e=>⟨#[],by rw[A7 (A4 e hn),e];simp⟩) (λm hm=>?_) (λb u e=>?_) I.bare
 ·obtain⟨f0,f1,f2,f3,f4,f5⟩:=f b hb
  exact⟨f3,f1,f4,f5⟩
 ·obtain⟨o,es,ep,ho,r⟩:=hm
  exact⟨o,es,ep,k _ o (λz=>(f _ z).2.1 rfl) ho,r⟩
 ·by_cases hb:b=p
  ·subst hb
   rw[A0] at e
   cases e
   exact⟨hz,its,rv,ht⟩
  ·rw[A7 hb] at e
   refine(I.hok.but k (λb hb=>(f b hb).1) b u e).stay (λ_ _ _ q=>q) (λc q=>?_) λc ys q=>?_
   ·rw[A7 (A4 q hn)];exact q
   ·rw[A7 (A4 q hn)];exact q
theorem Wm{P:Program}{w:World}{it:Addr}{fp wr:List Addr}{n i:Nat}{Pt:Nat->Array Value->Prop}{St:Nat->Heap->Prop}{Mid:Nat->Addr->Heap->Prop}{elts:List Expr}{k:Nat}{pos:Pos}{E:Value->Shared->Prop}{Y:List V->Prop}
  (W:WalksT P w X.A it fp wr n Pt St Mid) (hi:i<n) (I:Inv X pins Z H s) (st:St i s.heap) (hf:∀b∈wr,N6 X pins H b) (hv:∀vals,Pt i vals->∃xs,Vals xs vals.toList/\xs.length<=100/\Y xs) :
  wpAny (model P w) X.A (pyNext (.ref it)) (λr s1=>∃u,r=some u/\wpAny (model P w) X.A (letOwnedTupleGo (.Tuple elts k pos) (.ref it) u) (λ_ s2 =>
   ∃p xs,u=.ref p/\s.heap.objs.size<=p/\H p=none/\Inv X pins Z (upd H p (.tup xs)) s2/\Y xs/\St (i+1) s2.heap) E s1) E s:=by
 refine W.item i s _ E hi st λT vals h1 tk hP hT ht hm hk=>⟨.ref T,rfl,?_⟩
 obtain⟨xs,rv,hz,hY⟩:=hv vals hP
 refine W.go elts k pos i T {s with heap:=h1,toks:=tk} _ E hm λh2 st2 hk2=>?_
 have hTw:T∉wr:=W.apart i T h1 hm
 have ht2:IsTup h2 T vals.toList.toArray:=by
  obtain⟨o,ho,hc,m,hd⟩:=ht
  exact⟨o,hk2 T o hTw ho,hc,m,by simpa using hd⟩
 exact⟨T,xs,rfl,hT,I.hok.fresh hT,I.turnedT (t':=tk) (λb o hb e=>hk2 b o hb (hk b o hb e)) hf hT ht2 rv (Zyf hz (by decide)),hY,st2⟩
end
structure Vd(J:It)(n:Nat)(yl:Nat->List V->Prop)(ok:Hp->Prop):Prop where
 go:∀i H,i<n->ok H->J.go i H
 yld:∀i H x H',i<n->ok H->J.yld i H x H'->∃p ys,x=.ref p/\H p=none/\H'=upd H p (.tup ys)/\yl i ys
 stop:∀H,ok H->J.stop n H
theorem Yt{J:It}{n:Nat}{yl:Nat->List V->Prop}{ok:Hp->Prop}{g:TG}{tb:TS}{D:Qa}{Z:St}{H:Hp}(G:Vd J n yl ok)(Pv:Nat->St->Hp->Prop)(h0:Pv 0 Z H)(hok:∀i Z H,i<=n->Pv i Z H->ok H)
  (hs:∀i ys p Z H,i<n->yl i ys->Pv i Z H->H p=none->g (.ref p) Z (upd H p (.tup ys)) λσ2 H2=>tb {D with nx:=Pv (i+1),ct:=Pv (i+1),bk:=D.nx} σ2 H2) (hd:∀Z H,Pv n Z H->D.nx Z H):NP.zo J g tb D Z H:=by
 refine⟨λi m Z H=>m=n - i/\i<=n/\Pv i Z H,⟨n,by simp,Zy0 _,h0⟩,?_⟩
 rintro i m Z H ⟨rfl,hi,p⟩
 have q:=hok i Z H hi p
 by_cases hlt:i<n
 ·refine .inr ⟨G.go i H hlt q,Pv (i+1),λZ' H' p'=>⟨n - (i+1),by omega,rfl,hlt,p'⟩,λx H' y=>?_⟩
  obtain⟨a,ys,e1,e2,e3,y'⟩:=G.yld i H x H' hlt q y
  subst e1 e3
  exact hs i ys a Z H hlt y' p e2
 ·have e:i=n:=by omega
  subst e
  exact .inl ⟨G.stop H q,hd Z H p⟩
theorem gT2{K:Zzw}{i j:Nat}{p:Addr}{x y:V}{Z:St}{H:Hp}{Q:St->Hp->Prop}(h:Q ((Z.set i (some x)).set j (some y)) (upd H p (.tup [x,y]))):Ys K 2 (Gs (Ci i) (Gs (Ci j) gNil)) (.ref p) Z (upd H p (.tup [x,y])) Q :=
 ⟨p,_,rfl,SqT.of A0,rfl,_,_,rfl,_,_,rfl,rfl,h⟩
theorem gT3{K:Zzw}{i j k:Nat}{p:Addr}{x y z:V}{Z:St}{H:Hp}{Q:St->Hp->Prop}(h:Q (((Z.set i (some x)).set j (some y)).set k (some z)) (upd H p (.tup [x,y,z]))) :
  Ys K 3 (Gs (Ci i) (Gs (Ci j) (Gs (Ci k) gNil))) (.ref p) Z (upd H p (.tup [x,y,z])) Q :=
 ⟨p,_,rfl,SqT.of A0,rfl,_,_,rfl,_,_,rfl,_,_,rfl,rfl,h⟩
def ItE(a:Addr)(xs:List V):It:=⟨λi H=>H a=some (.lst xs)/\i<xs.length,λi H x H'=>∃p y,x=.ref p/\H p=none/\xs[i]?=some y/\H'=upd H p (.tup [.int i,y]),λi H=>H a=some (.lst xs)/\i=xs.length⟩
theorem xm(a:Addr)(xs:List V):Vd (ItE a xs) xs.length (λi ys=>∃y,xs[i]?=some y/\ys=[.int i,y]) (λH=>H a=some (.lst xs)) :=
 ⟨λi H h o=>⟨o,h⟩,λi H x H' h o y=>by obtain⟨p,z,e1,e2,e3,e4⟩:=y;exact⟨p,_,e1,e2,e4,z,e3,rfl⟩,λH o=>⟨o,rfl⟩⟩
theorem gj{P:Program}{w:World}{K:Zzw}{elts:List Expr}{k:Nat}{pos:Pos}(e it a:Addr)(xs:List V)(hei:e≠it):Q9 P w K (.Tuple elts k pos) (ItE a xs) [e,it] e (λi h=>(∃old,IsEnum h e it i old)/\h.IsListIter it a i) where
 mem:=by simp
 obj:=λi h st b hb=>by
  obtain⟨⟨old,he⟩,o,ho,c,d⟩:=st
  rcases Zzt.mp hb with q | q
  ·rw[q];exact⟨_,he,λv z=>by cases z⟩
  ·rw[Zyw.mp q];exact⟨o,ho,λv z=>by rw[d] at z;cases z⟩
 keep:=λi h h' st k=>by
  obtain⟨⟨old,he⟩,hi⟩:=st
  exact⟨⟨old,k e (by simp) _ he⟩,hi.at λo q=>k it (by simp) o q⟩
 item:=by
  intro X hP hw hK hc i pins s Z H E I hf st hg
  subst hP hw hK
  obtain⟨hq,hlt⟩:=hg
  obtain⟨its,rv,hl,hal⟩:=Cg I hq
  have f1:=hf e (by simp)
  have f2:=hf it (by simp)
  have hae:a≠e:=A4 hq f1.1
  have hai:a≠it:=A4 hq f2.1
  have hlen:=rv.length
  have hv:∀vals:Array Value,(∃t x,its.toArray[i]?=some x/\vals=#[.int i t,x])->∃ys,Vals ys vals.toList/\ys.length<=100/\∃y,xs[i]?=some y/\ys=[V.int i,y]:=by
   rintro vals ⟨t,x,hx,rfl⟩
   obtain⟨u,hu,ru⟩:=rv.get (x:=xs[i]) (i:=i) (by simp[hlt])
   have hx:its[i]?=some x:=by simpa using hx
   rw[hx] at hu
   cases hu
   exact⟨[.int i,xs[i]],.cons ⟨t,rfl⟩ (.cons ru .nil),by simp,xs[i],by simp[hlt],rfl⟩
  refine thn (Wm (E:=E) (WalksT.enumerate (I.ok.hd hc) e it a hei hae hai its.toArray) (by rw[Zzl];omega) I ⟨st.1,st.2,hl⟩ hf hv) λr s1 ⟨u,hr,h3⟩=>⟨u,hr,thn h3 λ_ s2 z0=>?_⟩
  obtain⟨p,ys,hu,hp,hn,I2,⟨y,hy,e2⟩,st2⟩:=z0
  subst hu e2
  refine⟨.ref p,_,I2,rfl,⟨p,y,rfl,hn,hy,rfl⟩,⟨st2.1,st2.2.1⟩,λb hb=>?_⟩
  have hbl:b<s.heap.objs.size:=by
   obtain⟨⟨old,he⟩,o,ho,c,d⟩:=st
   rcases Zzt.mp hb with q | q
   ·rw[q];exact Zzb he
   ·rw[Zyw.mp q];exact Zzb ho
  rw[A7 (Fo hbl hp)]
  exact(hf b hb).1
 done:=by
  intro X hP hw hK hc i pins s Z H E I hf st hg
  subst hP hw hK
  obtain⟨hq,hlt⟩:=hg
  obtain⟨its,rv,hl,hal⟩:=Cg I hq
  have f1:=hf e (by simp)
  have f2:=hf it (by simp)
  have hlen:=rv.length
  have hi:its.toArray.size=i:=by rw[Zzl];omega
  refine(WalksT.enumerate (I.ok.hd hc) e it a hei (A4 hq f1.1) (A4 hq f2.1) its.toArray).done s _ E ?_ λh' tk hk=>⟨rfl,I.turnedL hk hf⟩
  rw[hi]
  exact⟨st.1,st.2,hl⟩
 self:=λ_ _ _ _ _ st h=>by
  obtain⟨⟨old,he⟩,_⟩:=st
  exact wpAny_pyIter_enum he h
section
variable {X:Cx}
def Ep(ta:TA):TI:=λZ H R=>ta Z H λvs H1=>∃a xs,vs=[.ref a]/\H1 a=some (.lst xs)/\R (ItE a xs) H1
theorem cw{elts:List Expr}{k:Nat}{pt p pos:Pos}{e:Expr}{ta:TA}(hg:Gl X "enumerate")(hm:X.mg "enumerate" = none)(ha:PA X [e] ta)(hn:Fp [e]=true:=by rfl):PI X (.Tuple elts k pt) (.Call (.Name "enumerate" p) [e] [] pos) (Ep ta):=by
 intro pins s Z H R I h
 refine Call_ (Jh I hg hm NP.Wv (Zxq (thn (ha pos pins s Z H _ I h) λus s1 ⟨vs,H1,I1,r1,q1⟩=>?_) (Fe hn) rfl))
 obtain⟨a,xs,e,hq,q⟩:=q1
 subst e
 obtain⟨u,rfl,ru⟩:=K4 r1
 cases ru
 obtain⟨its,rv,hl,hal⟩:=Cg I1 hq
 refine call_enumerate_list hl λh' he hi hz hk=>wpAny_pyIter_enum he ?_
 have I2:Inv X pins Z H1 {s1 with heap:=h'}:=I1.kept (t':=s1.toks) hk
 refine⟨s1.heap.objs.size+1,[s1.heap.objs.size+1,s1.heap.objs.size],_,_,H1,rfl,I2,gj _ _ a xs (Nat.succ_ne_self _),⟨⟨_,he⟩,hi⟩,λb hb=>?_,q⟩
 have hb':s1.heap.objs.size<=b:=by
  rcases Zzt.mp hb with z | z
  ·rw[z];exact Nat.le_succ _
  ·rw[Zyw.mp z];exact Zzm _
 exact I1.fpOk hb' (I1.hok.fresh hb')
end
theorem Qd(ns:List Int):∀n,n<=ns.length->preSum (λi=>(ns[i]?).getD 0) n=(ns.take n).sum
 |0,_=>by simp[preSum]
 |n+1,h=>by
  have hn:n<ns.length:=h
  rw[preSum,Qd ns n (by omega),Zyx,List.sum_append]
  simp only[Zzs hn,Zvs,Option.toList_some,List.sum_cons,List.sum_nil,Zxd]
theorem Zy(ns:List Int):preSum (λi=>(ns[i]?).getD 0) ns.length=ns.sum:=by
 rw[Qd ns _ (Zzm _),Zyt]
theorem Rh:∀{ns:List Int} {us:List Value} {i:Nat} {u:Value},Vals (ns.map V.int) us->us[i]?=some u->∃t,u=.int ((ns[i]?).getD 0) t
 |[],_,i,u,.nil,e=>by simp at e
 |n::r,_,0,u,.cons h t,e=>by
  obtain⟨t',h⟩:=h
  simp at e
  subst e
  exact⟨t',by rw[h];rfl⟩
 |n::r,_,i+1,u,.cons h t,e=>by
  obtain⟨t',q⟩:=Rh (ns:=r) (i:=i) (u:=u) t (by simpa using e)
  exact⟨t',by rw[q];simp⟩
section
variable {X:Cx}
def rSum:List V->Hp->VK->Prop:=λxs H Q=>∃(a:Addr) (ns:List Int),xs=[.ref a]/\H a=some (.lst (ns.map V.int))/\Q (.int ns.sum) H
theorem Q5(hc:X.calm=true):CallR X (.builtin "sum") rSum:=by
 intro pins s Z H xs us Q I r h
 obtain⟨a,ns,rfl,ha,q⟩:=h
 obtain⟨u,rfl,ru⟩:=K4 r
 cases ru
 obtain⟨its,rv,hl,hlt⟩:=Cg I ha
 have hlen:its.length=ns.length:=by have:=rv.length;rw[Zzz] at this;exact this.symm
 refine call_sum_walkG (wpAny_pyIter_list hl ?_)
 refine⟨s.heap.objs.size,[s.heap.objs.size,a],[s.heap.objs.size],its.toArray.size,_,_,λi=>(ns[i]?).getD 0,rfl,Walks.list (A:=X.A.in1) (I.ok.hd hc) _ a (Zyb hlt) its.toArray,
  ⟨⟨_,Zze _ rfl,rfl,rfl⟩,hl.push _⟩,λb hb=>?_,λi v hP=>?_,λh' tk t' hk=>?_⟩
 ·have e:(s.heap.push {cls:=.type "list_iterator",data:=.fields #[.ref a,.int 0 0]}).objs.size=s.heap.objs.size+1:=Zxp ..
  show b<(s.heap.push {cls:=.type "list_iterator",data:=.fields #[.ref a,.int 0 0]}).objs.size
  rw[e]
  rcases Zzt.mp hb with z | z
  ·rw[z];exact Nat.lt_succ_self _
  ·rw[Zyw.mp z];exact Zwd hlt
 ·have hP:its[i]?=some v:=by simpa using hP
  exact Rh rv hP
 ·rw[Zzl,hlen,Zy]
  exact⟨.int ns.sum,H,I.walked hk,⟨_,rfl⟩,q⟩
def Cq:V->List V->Hp->VK->Prop:=λx vs H Q=>∃l xs i y,x=.ref l/\vs=[.int i,y]/\H l=some (.lst xs)/\0<=i/\i<2^60/\xs.length<1000000/\Q .non (upd H l (.lst (xs.take (min i.toNat xs.length)++y::xs.drop (min i.toNat xs.length))))
def rMax2:List V->Hp->VK->Prop:=λxs H Q=>∃i j,xs=[.int i,.int j]/\Q (.int (if j > i then j else i)) H
theorem Oe(hc:X.calm=true):CallR X (.builtin "max") rMax2:=jq hc
end
theorem lq{n d:Nat}{k:Int}(h:0<=k):HT.sIx n d (some k)=min k.toNat n:=by
 unfold HT.sIx
 simp only
 split<;>omega
theorem Pm{xs:List V}{j:Int}(hj:0<=j):J8 xs none (some j)=xs.take j.toNat:=by
 unfold J8
 rw[lq hj]
 have e:HT.sIx xs.length 0 none=0:=rfl
 rw[e,List.drop_zero,Nat.sub_zero]
 apply Zx5
 intro k
 simp only[Zw0]
 by_cases h:k<xs.length
 ·by_cases h2:k<j.toNat
  ·rw[if_pos (by omega),if_pos h2]
  ·rw[if_neg (by omega),if_neg h2]
 ·rw[Zy9 (by omega)]
  split<;>split<;>rfl
def CMulB(i j:Int):Prop:=CMul i j\/(i.natAbs<10^3000/\j.natAbs<10^3000)
theorem fj{i:Int}(h:i.natAbs<10^3000):Builtin.Int.intBits i<=2^20:=by
 unfold Builtin.Int.intBits
 split
 ·exact Zy0 _
 ·rename_i h0
  have h1:i.natAbs≠0:=by
   intro e
   exact h0 (by simpa using e)
  have h2:i.natAbs.log2<2^19:=by
   rw[Nat.log2_lt h1]
   refine Zyn h (Zyf (Nat.pow_le_pow_left (by decide:(10:Nat)<=2^4) 3000) ?_)
   rw[<- Nat.pow_mul]
   exact Zv4 (by decide) (by decide)
  have:(2:Nat)^20=2^19+2^19:=by decide
  have:(1:Nat)<=2^19:=by decide
  omega
theorem CMulB.ok{i j:Int}(h:CMulB i j):IntMulOk i j:=h.elim CMul.ok λh=>.of_bits (fj h.1) (fj h.2)
section
variable {X:Cx}
theorem J0:OpR X (binaryOp .Mult) (rI CMulB λi j=>.int (i*j)):=opI λ_ _ _ _ _ _ _ hc q=>mul_int q hc.ok
end
def zn(a b:Addr)(xs ys:List V):It:=⟨λi H=>H a=some (.lst xs)/\H b=some (.lst ys)/\i<min xs.length ys.length,
 λi H x H'=>∃p y z,x=.ref p/\H p=none/\xs[i]?=some y/\ys[i]?=some z/\H'=upd H p (.tup [y,z]),λi H=>H a=some (.lst xs)/\H b=some (.lst ys)/\i=min xs.length ys.length⟩
theorem ow(a b:Addr)(xs ys:List V):Vd (zn a b xs ys) (min xs.length ys.length) (λi us=>∃y z,xs[i]?=some y/\ys[i]?=some z/\us=[y,z]) (λH=>H a=some (.lst xs)/\H b=some (.lst ys)) :=
 ⟨λi H h o=>⟨o.1,o.2,h⟩,λi H x H' h o y=>by obtain⟨p,u,v,e1,e2,e3,e4,e5⟩:=y;exact⟨p,_,e1,e2,e5,u,v,e3,e4,rfl⟩,λH o=>⟨o.1,o.2,rfl⟩⟩
theorem gh{P:Program}{w:World}{K:Zzw}{elts:List Expr}{k:Nat}{pos:Pos}(z TI TO i1 i2 a b:Addr)(xs ys:List V)(nd:[z,TI,TO,i1,i2].Nodup) :
  Q9 P w K (.Tuple elts k pos) (zn a b xs ys) [z,TI,TO,i1,i2] z (λi h=>IsZip h z TI TO .none/\IsPair h TI (.ref i1) (.ref i2)/\(∃u v,IsPair h TO u v)/\h.IsListIter i1 a i/\h.IsListIter i2 b i):=by
 have nd':=nd
 simp only[Zy7,Zzt,Zzj,or_false,not_or] at nd'
 obtain⟨⟨n1,n2,n3,n4⟩,⟨n5,n6,n7⟩,⟨n8,n9⟩,n10,_⟩:=nd'
 have objs:∀(i:Nat) (h:Heap),(IsZip h z TI TO .none/\IsPair h TI (.ref i1) (.ref i2)/\(∃u v,IsPair h TO u v)/\h.IsListIter i1 a i/\h.IsListIter i2 b i)->∀c∈[z,TI,TO,i1,i2],∃o,h.get? c=some o/\∀v,o.data≠.cell v:=by
  rintro i h ⟨hz,hT,⟨u,v,hO⟩,⟨o1,g1,c1,d1⟩,⟨o2,g2,c2,d2⟩⟩ c hc
  simp only[Zzt,Zzj,or_false] at hc
  rcases hc with q | q | q | q | q<;>subst q
  ·exact⟨_,hz,λ_ y=>by cases y⟩
  ·exact⟨_,hT,λ_ y=>by cases y⟩
  ·exact⟨_,hO,λ_ y=>by cases y⟩
  ·exact⟨o1,g1,λ_ y=>by rw[d1] at y;cases y⟩
  ·exact⟨o2,g2,λ_ y=>by rw[d2] at y;cases y⟩
 have apart:∀{X:Cx} {pins:List (Addr×Obj)} {H:Hp},(∀c∈[z,TI,TO,i1,i2],N6 X pins H c)->∀{us vs:List V},H a=some (.lst us)->H b=some (.lst vs)->ZipApart z TI TO i1 i2 a b:=by
  intro X pins H hf us vs ha hb
  have fr:∀c∈[z,TI,TO,i1,i2],a≠c/\b≠c:=λc hc=>⟨A4 ha (hf c hc).1,A4 hb (hf c hc).1⟩
  exact⟨λe=>n1 e.symm,λe=>n2 e.symm,λe=>n3 e.symm,λe=>n4 e.symm,n5,n6,n7,n8,n9,n10,(fr z (by simp)).1,(fr TO (by simp)).1,(fr i1 (by simp)).1,(fr i2 (by simp)).1,(fr z (by simp)).2,(fr TO (by simp)).2,(fr i1 (by simp)).2,(fr i2 (by simp)).2⟩
 refine⟨by simp,objs,?_,?_,?_,?_⟩
 ·rintro i h h' ⟨hz,hT,⟨u,v,hO⟩,g1,g2⟩ kp
  exact⟨kp z (by simp) _ hz,kp TI (by simp) _ hT,⟨u,v,kp TO (by simp) _ hO⟩,g1.at λo e=>kp i1 (by simp) o e,g2.at λo e=>kp i2 (by simp) o e⟩
 ·intro X hP hw hK hc i pins s Z H E I hf st hg
  subst hP hw hK
  obtain⟨ha,hb,hlt⟩:=hg
  obtain⟨its,rv,hl,hal⟩:=Cg I ha
  obtain⟨its2,rv2,hl2,hal2⟩:=Cg I hb
  have len1:=rv.length
  have len2:=rv2.length
  obtain⟨s1,s2,s3,s4,s5⟩:=id st
  have hv:∀vals:Array Value,(∃x y,its.toArray[i]?=some x/\its2.toArray[i]?=some y/\vals=#[x,y])->∃us,Vals us vals.toList/\us.length<=100/\∃y z,xs[i]?=some y/\ys[i]?=some z/\us=[y,z]:=by
   rintro vals ⟨x,y,hx,hy,rfl⟩
   have l1:i<xs.length:=by omega
   have l2:i<ys.length:=by omega
   obtain⟨u,hu,ru⟩:=rv.get (x:=xs[i]) (i:=i) (by simp[l1])
   obtain⟨u',hu',ru'⟩:=rv2.get (x:=ys[i]) (i:=i) (by simp[l2])
   have hx:its[i]?=some x:=by simpa using hx
   have hy:its2[i]?=some y:=by simpa using hy
   rw[hx] at hu
   rw[hy] at hu'
   cases hu
   cases hu'
   exact⟨[xs[i],ys[i]],.cons ru (.cons ru' .nil),by simp,xs[i],ys[i],by simp[l1],by simp[l2],rfl⟩
  have sub:∀c∈[z,TO,i1,i2],c∈[z,TI,TO,i1,i2]:=λc hc=>by simp at hc ⊢;rcases hc with h | h | h | h<;>simp[h]
  refine thn (Wm (E:=E) (WalksT.zip2 (I.ok.hd hc) z TI TO i1 i2 a b (apart hf ha hb) its.toArray its2.toArray) (by rw[Zzl,Zzl];omega) I ⟨s1,s2,s3,s4,s5,hl,hl2⟩ (λc hc=>hf c (sub c hc)) hv) λr t1 ⟨u,hr,h3⟩ =>
   ⟨u,hr,thn h3 λ_ t2 ⟨p,us,hu,hp,hn,I2,⟨y,y',hy,hy',e2⟩,st2⟩=>?_⟩
  subst hu e2
  refine⟨.ref p,_,I2,rfl,⟨p,y,y',rfl,hn,hy,hy',rfl⟩,⟨st2.1,st2.2.1,st2.2.2.1,st2.2.2.2.1,st2.2.2.2.2.1⟩,λc hc=>?_⟩
  obtain⟨o,ho,_⟩:=objs i _ st c hc
  rw[A7 (Fo (Zzb ho) hp)]
  exact(hf c hc).1
 ·intro X hP hw hK hc i pins s Z H E I hf st hg
  subst hP hw hK
  obtain⟨ha,hb,hlt⟩:=hg
  obtain⟨its,rv,hl,hal⟩:=Cg I ha
  obtain⟨its2,rv2,hl2,hal2⟩:=Cg I hb
  have len1:=rv.length
  have len2:=rv2.length
  obtain⟨s1,s2,s3,s4,s5⟩:=id st
  have sub:∀c∈[z,TO,i1,i2],c∈[z,TI,TO,i1,i2]:=λc hc=>by simp at hc ⊢;rcases hc with h | h | h | h<;>simp[h]
  have hi:min its.toArray.size its2.toArray.size=i:=by rw[Zzl,Zzl];omega
  refine(WalksT.zip2 (I.ok.hd hc) z TI TO i1 i2 a b (apart hf ha hb) its.toArray its2.toArray).done s _ E ?_ λh' tk hk=>⟨rfl,I.turnedL hk λc hc=>hf c (sub c hc)⟩
  rw[hi]
  exact⟨s1,s2,s3,s4,s5,hl,hl2⟩
 ·intro A i s Q E st h
  exact wpAny_pyIter_zip st.1 h
section
variable {X:Cx}
def Eo(ta:TA):TI:=λZ H R=>ta Z H λvs H1=>∃a b xs ys,vs=[.ref a,.ref b]/\H1 a=some (.lst xs)/\H1 b=some (.lst ys)/\R (zn a b xs ys) H1
theorem cu{elts:List Expr}{k:Nat}{pt p pos:Pos}{e e2:Expr}{ta:TA}(hg:Gl X "zip")(hm:X.mg "zip" = none)(ha:PA X [e,e2] ta)(hn:Fp [e,e2]=true:=by rfl):PI X (.Tuple elts k pt) (.Call (.Name "zip" p) [e,e2] [] pos) (Eo ta):=by
 intro pins s Z H R I h
 refine Call_ (Jh I hg hm NP.bi (Zxq (thn (ha pos pins s Z H _ I h) λus s1 ⟨vs,H1,I1,r1,q1⟩=>?_) (Ff (Cz hn).1) (Gd (Cz hn).2)))
 obtain⟨a,b,xs,ys,e,ha,hb,q⟩:=q1
 subst e
 obtain⟨u,u',rfl,ru,ru'⟩:=Ri r1
 cases ru
 cases ru'
 obtain⟨its,rv,hl,hal⟩:=Cg I1 ha
 obtain⟨its2,rv2,hl2,hal2⟩:=Cg I1 hb
 refine call_zip_2 hl hl2 λh' g1 g2 g3 g4 g5 hz hk=>wpAny_pyIter_zip g1 ?_
 have I2:Inv X pins Z H1 {s1 with heap:=h'}:=I1.kept (t':=s1.toks) hk
 have nd:[s1.heap.objs.size+4,s1.heap.objs.size+2,s1.heap.objs.size+3,s1.heap.objs.size,s1.heap.objs.size+1].Nodup:=by
  simp only[Zy7,Zzt,Zzj,or_false,not_or,Zwy,and_true,not_false_eq_true]
  refine⟨⟨?_,?_,?_,?_⟩,⟨?_,?_,?_⟩,⟨?_,?_⟩,?_⟩<;>(intro z;have z':(_:Nat)=_:=z;omega)
 refine⟨s1.heap.objs.size+4,[s1.heap.objs.size+4,s1.heap.objs.size+2,s1.heap.objs.size+3,s1.heap.objs.size,s1.heap.objs.size+1],_,_,H1,rfl,I2,gh _ _ _ _ _ a b xs ys nd,⟨g1,g2,⟨_,_,g3⟩,g4,g5⟩,λc hc=>?_,q⟩
 have hb':s1.heap.objs.size<=c:=by
  simp only[Zzt,Zzj,or_false] at hc
  rcases hc with q | q | q | q | q<;>rw[q]<;>first | exact Zva _ _ | exact Zzm _
 exact I1.fpOk hb' (I1.hok.fresh hb')
end
abbrev G4(h:Heap)(T:Addr)(a b c:Value):Prop:=h.get? T=some {cls:=.type "tuple",data:=.seq #[a,b,c]}
section
variable {prog:Program}{w:World}{A:Around}{E:Value->Shared->Prop}{s:Shared}
theorem P3{T:Addr}{a b c x:Value}{k:Nat}{Q:Unit->Shared->Prop}(hT:G4 s.heap T a b c)
  (h:∀h',h'.get? T=some {cls:=.type "tuple",data:=.seq ((#[a,b,c]:Array Value).setIfInBounds k x)}->Zxl T s.heap h'->Q () {s with heap:=h'}) :
  wpAny (model prog w) A (updateSeq T (·.setIfInBounds k x)) Q E s:=wpAny_updateSeq hT rfl (h _ (by rw[Zwz _ hT rfl];simp[Obj.mapSeq]) (Zuy ..))
structure X3(z TI TO i1 i2 i3:Addr)(ls:List Addr):Prop where
 nd:[z,TI,TO,i1,i2,i3].Nodup
 ls:∀l∈ls,l∉[z,TI,TO,i1,i2,i3]
theorem ga{z TI TO i1 i2 i3 l1 l2 l3:Addr}{k:Nat}{xs ys zs:Array Value}{x y v a b c:Value}{Q:Value->Shared->Prop}(D:X3 z TI TO i1 i2 i3 [l1,l2,l3])
  (hZ:IsZip s.heap z TI TO .none) (hI:G4 s.heap TI (.ref i1) (.ref i2) (.ref i3)) (hO:G4 s.heap TO a b c)
  (g1:s.heap.IsListIter i1 l1 k) (g2:s.heap.IsListIter i2 l2 k) (g3:s.heap.IsListIter i3 l3 k) (m1:s.heap.IsList l1 xs) (m2:s.heap.IsList l2 ys) (m3:s.heap.IsList l3 zs) (e1:xs[k]?=some x) (e2:ys[k]?=some y) (e3:zs[k]?=some v)
  (hQ:∀h',IsZip h' z TI TO (rawInt s.heap.objs.size)->G4 h' TO x y v->h'.IsListIter i1 l1 (k+1)->h'.IsListIter i2 l2 (k+1)->h'.IsListIter i3 l3 (k+1)->G4 h' s.heap.objs.size x y v->h'.objs.size=s.heap.objs.size+1 ->
   (∀c o,c∉[z,TO,i1,i2,i3]->s.heap.get? c=some o->h'.get? c=some o)->Q (.ref s.heap.objs.size) {s with heap:=h'}) :
  wpAny (model prog w) A (Builtin.«zip.__next__» ⟨[.ref z],[]⟩) (λfin s'=>∃v,fin=.done (.ret v)/\Q v s') E s:=by
 obtain⟨nd,ls⟩:=D
 have a1:=ls l1 (by simp)
 have a2:=ls l2 (by simp)
 have a3:=ls l3 (by simp)
 simp only[Zy7,Zzt,Zzj,or_false,not_or] at nd a1 a2 a3
 obtain⟨⟨zI,zO,z1,z2,z3⟩,⟨IO,I1,I2,I3⟩,⟨O1,O2,O3⟩,⟨n12,n13⟩,n23,_⟩:=nd
 obtain⟨a1z,a1I,a1O,a11,a12,a13⟩:=a1
 obtain⟨a2z,a2I,a2O,a21,a22,a23⟩:=a2
 obtain⟨a3z,a3I,a3O,a31,a32,a33⟩:=a3
 show wpAny _ _ (field (.ref z) 2 >>= _) _ _ _
 refine wpAny_bind (wpAny_field hZ rfl (x:=.bool false) rfl (show wpAny _ _ (field (.ref z) 3 >>= _) _ _ _ from ?_))
 refine wpAny_bind (wpAny_field hZ rfl (x:=.ref TI) rfl (wpAny_bind (wpAny_seqItems hI rfl ?_)))
 refine wpAny_bind (m:=Zxu (.ref z)) ?_
 unfold Zxu
 refine wpAny_bind (wpAny_field hZ rfl (x:=.none) rfl (wpAny_pure ?_))
 simp only[if_true]
 refine wpAny_bind (wpAny_rule (wpAny_bind (wpAny_field hZ rfl (x:=.ref TO) rfl (wpAny_bind (wpAny_setField_rec hZ (by simp) λh₁ w₁ s₁=>?_)))))
 replace w₁:IsZip h₁ z TI TO .ellipsis:=w₁
 have K1:∀c o,c≠z->s.heap.get? c=some o->h₁.get? c=some o:=λc o n e=>s₁.extBut c o n e
 refine wpAny_bind ?_
 simp only[Zv9,Zv3,Zw1,Zut]
 refine wpAny_bind (wpAny_bind (wpAny_onRaise (show wpAny _ _ (Zy8 (.ref i1) >>= _) _ _ _ from ?_)))
 refine wpAny_bind (wpAny_nextOf_list_item (g1.at λo e=>K1 _ o (Zzi z1) e) (m1.at λo e=>K1 _ o a1z e) e1 λh₂ q₂ s₂=>wpAny_pure ?_)
 replace s₂:Zxl i1 h₁ h₂:=s₂
 have K2:∀c o,c≠z->c≠i1->s.heap.get? c=some o->h₂.get? c=some o:=λc o n n' e=>s₂.extBut c o n' (K1 c o n e)
 have O₂:G4 h₂ TO a b c:=K2 _ _ (Zzi zO) O1 hO
 refine wpAny_bind (wpAny_seqItems O₂ rfl (wpAny_bind (P3 O₂ λh₃ O₃ s₃=>wpAny_bind (wpAny_letGo (wpAny_pure ?_)))))
 replace O₃:G4 h₃ TO x b c:=O₃
 replace s₃:Zxl TO h₂ h₃:=s₃
 have K3:∀c o,c≠z->c≠i1->c≠TO->s.heap.get? c=some o->h₃.get? c=some o:=λc o n n' n2 e=>s₃.extBut c o n2 (K2 c o n n' e)
 refine wpAny_bind (wpAny_bind (wpAny_onRaise (show wpAny _ _ (Zy8 (.ref i2) >>= _) _ _ _ from ?_)))
 refine wpAny_bind (wpAny_nextOf_list_item (g2.at λo e=>K3 _ o (Zzi z2) (Zzi n12) (Zzi O2) e) (m2.at λo e=>K3 _ o a2z a21 a2O e) e2 λh₄ q₄ s₄=>wpAny_pure ?_)
 replace s₄:Zxl i2 h₃ h₄:=s₄
 have O₄:G4 h₄ TO x b c:=s₄.extBut _ _ O2 O₃
 refine wpAny_bind (wpAny_seqItems O₄ rfl (wpAny_bind (P3 O₄ λh₅ O₅ s₅=>wpAny_bind (wpAny_letGo (wpAny_pure ?_)))))
 replace O₅:G4 h₅ TO x y c:=O₅
 replace s₅:Zxl TO h₄ h₅:=s₅
 have K5:∀c o,c≠z->c≠i1->c≠TO->c≠i2->s.heap.get? c=some o->h₅.get? c=some o:=λc o n n' n2 n3 e=>s₅.extBut c o n2 (s₄.extBut c o n3 (K3 c o n n' n2 e))
 refine wpAny_bind (wpAny_bind (wpAny_onRaise (show wpAny _ _ (Zy8 (.ref i3) >>= _) _ _ _ from ?_)))
 refine wpAny_bind (wpAny_nextOf_list_item (g3.at λo e=>K5 _ o (Zzi z3) (Zzi n13) (Zzi O3) (Zzi n23) e) (m3.at λo e=>K5 _ o a3z a31 a3O a32 e) e3 λh₆ q₆ s₆=>wpAny_pure ?_)
 replace s₆:Zxl i3 h₅ h₆:=s₆
 have O₆:G4 h₆ TO x y c:=s₆.extBut _ _ O3 O₅
 refine wpAny_bind (wpAny_seqItems O₆ rfl (wpAny_bind (P3 O₆ λh₇ O₇ s₇=>wpAny_bind (wpAny_letGo (wpAny_pure (wpAny_pure ?_))))))
 replace O₇:G4 h₇ TO x y v:=O₇
 replace s₇:Zxl TO h₆ h₇:=s₇
 have K7:∀c o,c∉[z,TO,i1,i2,i3]->s.heap.get? c=some o->h₇.get? c=some o:=λc o n e=>by
  simp only[Zzt,Zzj,or_false,not_or] at n
  exact s₇.extBut c o n.2.1 (s₆.extBut c o n.2.2.2.2 (K5 c o n.1 n.2.2.1 n.2.1 n.2.2.2.1 e))
 refine wpAny_bind (wpAny_seqItems O₇ rfl (wpAny_bind (wpAny_newTuple ?_)))
 have sz:h₇.objs.size=s.heap.objs.size:=by rw[s₇.1,s₆.1,s₅.1,s₄.1,s₃.1,s₂.1,s₁.1]
 have Z₇:IsZip h₇ z TI TO .ellipsis:=s₇.extBut _ _ zO (s₆.extBut _ _ z3 (s₅.extBut _ _ zO (s₄.extBut _ _ z2 (s₃.extBut _ _ zO (s₂.extBut _ _ z1 w₁)))))
 have r1:h₇.IsListIter i1 l1 (k+1):=((((q₂.extBut s₃.extBut (Zzi O1)).extBut s₄.extBut n12).extBut s₅.extBut (Zzi O1)).extBut s₆.extBut n13).extBut s₇.extBut (Zzi O1)
 have r2:h₇.IsListIter i2 l2 (k+1):=((q₄.extBut s₅.extBut (Zzi O2)).extBut s₆.extBut n23).extBut s₇.extBut (Zzi O2)
 have r3:h₇.IsListIter i3 l3 (k+1):=q₆.extBut s₇.extBut (Zzi O3)
 have zl:z<h₇.objs.size:=Zzb Z₇
 refine wpAny_bind (m:=Zx1 (.ref z) (.ref h₇.objs.size)) ?_
 unfold Zx1
 have Z₈:IsZip (h₇.push {cls:=.type "tuple",data:=.seq #[x,y,v]}) z TI TO .ellipsis:=Zzx _ Z₇
 refine wpAny_bind (wpAny_setField_rec Z₈ (by simp) λh₈ w₈ s₈=>?_)
 replace w₈:IsZip h₈ z TI TO (rawInt h₇.objs.size):=w₈
 refine wpAny_setField_rec w₈ (by simp) λh₉ w₉ s₉=>?_
 replace w₉:IsZip h₉ z TI TO (rawInt h₇.objs.size):=w₉
 have K9:∀c o,c≠z->h₇.get? c=some o->h₉.get? c=some o:=λc o n e=>s₉.extBut _ _ n (s₈.extBut _ _ n (Zzx _ e))
 have T₉:G4 h₉ h₇.objs.size x y v:=s₉.extBut _ _ (Zxe zl) (s₈.extBut _ _ (Zxe zl) (Zze _ rfl))
 have sz9:h₉.objs.size=h₇.objs.size+1:=by rw[s₉.1,s₈.1,Zxp]
 rw[sz] at w₉ T₉ sz9
 refine wpAny_pure ⟨_,rfl,(show Q (.ref h₇.objs.size) _ from ?_)⟩
 rw[sz]
 refine hQ h₉ w₉ (K9 _ _ (Zzi zO) O₇) (r1.at λo e=>K9 _ o (Zzi z1) e) (r2.at λo e=>K9 _ o (Zzi z2) e) (r3.at λo e=>K9 _ o (Zzi z3) e) T₉ sz9 λc o n e=>K9 c o (λq=>n (by simp[q])) (K7 c o n e)
theorem jx{z TI TO i1 i2 i3 l1 l2 l3:Addr}{k:Nat}{xs ys zs:Array Value}{a b c:Value}{Q:Fin->Shared->Prop}(hh:A.handled=none)(D:X3 z TI TO i1 i2 i3 [l1,l2,l3])
  (hZ:IsZip s.heap z TI TO .none) (hI:G4 s.heap TI (.ref i1) (.ref i2) (.ref i3)) (hO:G4 s.heap TO a b c)
  (g1:s.heap.IsListIter i1 l1 k) (g2:s.heap.IsListIter i2 l2 k) (g3:s.heap.IsListIter i3 l3 k) (m1:s.heap.IsList l1 xs) (m2:s.heap.IsList l2 ys) (m3:s.heap.IsList l3 zs) (he:xs[k]?=none\/ys[k]?=none\/zs[k]?=none)
  (hE:∀h' e,(∀c o,c∉[z,TO,i1,i2,i3]->s.heap.get? c=some o->h'.get? c=some o)->(∃o,h'.get? e=some o/\o.cls=.type "StopIteration")->E (.ref e) {s with heap:=h'}) :
  wpAny (model prog w) A (Builtin.«zip.__next__» ⟨[.ref z],[]⟩) Q E s:=by
 obtain⟨nd,ls⟩:=D
 have a1:=ls l1 (by simp)
 have a2:=ls l2 (by simp)
 have a3:=ls l3 (by simp)
 simp only[Zy7,Zzt,Zzj,or_false,not_or] at nd a1 a2 a3
 obtain⟨⟨zI,zO,z1,z2,z3⟩,⟨IO,I1,I2,I3⟩,⟨O1,O2,O3⟩,⟨n12,n13⟩,n23,_⟩:=nd
 obtain⟨a1z,a1I,a1O,a11,a12,a13⟩:=a1
 obtain⟨a2z,a2I,a2O,a21,a22,a23⟩:=a2
 obtain⟨a3z,a3I,a3O,a31,a32,a33⟩:=a3
 show wpAny _ _ (field (.ref z) 2 >>= _) _ _ _
 refine wpAny_bind (wpAny_field hZ rfl (x:=.bool false) rfl (show wpAny _ _ (field (.ref z) 3 >>= _) _ _ _ from ?_))
 refine wpAny_bind (wpAny_field hZ rfl (x:=.ref TI) rfl (wpAny_bind (wpAny_seqItems hI rfl ?_)))
 refine wpAny_bind (m:=Zxu (.ref z)) ?_
 unfold Zxu
 refine wpAny_bind (wpAny_field hZ rfl (x:=.none) rfl (wpAny_pure ?_))
 simp only[if_true]
 refine wpAny_bind (wpAny_rule (wpAny_bind (wpAny_field hZ rfl (x:=.ref TO) rfl (wpAny_bind (wpAny_setField_rec hZ (by simp) λh₁ w₁ s₁=>?_)))))
 replace w₁:IsZip h₁ z TI TO .ellipsis:=w₁
 have K1:∀c o,c≠z->s.heap.get? c=some o->h₁.get? c=some o:=λc o n e=>s₁.extBut c o n e
 refine wpAny_bind ?_
 simp only[Zv9,Zv3,Zw1,Zut]
 have fin:∀{h:Heap} {e:Addr} {Q':Unit->Shared->Prop},IsZip h z TI TO .ellipsis->(∃o,h.get? e=some o/\o.cls=.type "StopIteration")->(∀c o,c∉[z,TO,i1,i2,i3]->s.heap.get? c=some o->h.get? c=some o) ->
   wpAny (model prog w) A (setField (.ref z) 0 .none) (λ_ s'=>E (.ref e) s') E {s with heap:=h}:=λ{h e Q'} w ⟨o,ho,hc⟩ kk=>by
  have ne:e≠z:=λq=>by subst q;rw[w] at ho;cases ho;simp at hc
  refine wpAny_setField_rec w (by simp) λh' _ s'=>hE h' e (λc o n q=>s'.extBut _ _ (λq=>n (by simp[q])) (kk c o n q)) ⟨o,s'.extBut _ _ ne ho,hc⟩
 refine wpAny_bind (wpAny_bind (wpAny_onRaise (show wpAny _ _ (Zy8 (.ref i1) >>= _) _ _ _ from ?_)))
 cases e1:xs[k]? with
 |none =>
  refine wpAny_bind (wpAny_nextOf_list_end hh (g1.at λo e=>K1 _ o (Zzi z1) e) (m1.at λo e=>K1 _ o a1z e) e1 λh₂ e s₂ he=>?_)
  replace s₂:Heap.ExtBut i1 h₁ h₂:=s₂
  refine fin (Q':=λ_ _=>True) (s₂ _ _ z1 w₁) he λc o n q=>?_
  simp only[Zzt,Zzj,or_false,not_or] at n
  exact s₂ _ _ n.2.2.1 (K1 _ _ n.1 q)
 |some x =>
 refine wpAny_bind (wpAny_nextOf_list_item (g1.at λo e=>K1 _ o (Zzi z1) e) (m1.at λo e=>K1 _ o a1z e) e1 λh₂ q₂ s₂=>wpAny_pure ?_)
 replace s₂:Zxl i1 h₁ h₂:=s₂
 have K2:∀c o,c≠z->c≠i1->s.heap.get? c=some o->h₂.get? c=some o:=λc o n n' e=>s₂.extBut c o n' (K1 c o n e)
 have O₂:G4 h₂ TO a b c:=K2 _ _ (Zzi zO) O1 hO
 refine wpAny_bind (wpAny_seqItems O₂ rfl (wpAny_bind (P3 O₂ λh₃ O₃ s₃=>wpAny_bind (wpAny_letGo (wpAny_pure ?_)))))
 replace O₃:G4 h₃ TO x b c:=O₃
 replace s₃:Zxl TO h₂ h₃:=s₃
 have K3:∀c o,c≠z->c≠i1->c≠TO->s.heap.get? c=some o->h₃.get? c=some o:=λc o n n' n2 e=>s₃.extBut c o n2 (K2 c o n n' e)
 have Z₃:IsZip h₃ z TI TO .ellipsis:=s₃.extBut _ _ zO (s₂.extBut _ _ z1 w₁)
 refine wpAny_bind (wpAny_bind (wpAny_onRaise (show wpAny _ _ (Zy8 (.ref i2) >>= _) _ _ _ from ?_)))
 cases e2:ys[k]? with
 |none =>
  refine wpAny_bind (wpAny_nextOf_list_end hh (g2.at λo e=>K3 _ o (Zzi z2) (Zzi n12) (Zzi O2) e) (m2.at λo e=>K3 _ o a2z a21 a2O e) e2 λh₄ e s₄ he=>?_)
  replace s₄:Heap.ExtBut i2 h₃ h₄:=s₄
  refine fin (Q':=λ_ _=>True) (s₄ _ _ z2 Z₃) he λc o n q=>?_
  simp only[Zzt,Zzj,or_false,not_or] at n
  exact s₄ _ _ n.2.2.2.1 (K3 _ _ n.1 n.2.2.1 n.2.1 q)
 |some y =>
 refine wpAny_bind (wpAny_nextOf_list_item (g2.at λo e=>K3 _ o (Zzi z2) (Zzi n12) (Zzi O2) e) (m2.at λo e=>K3 _ o a2z a21 a2O e) e2 λh₄ q₄ s₄=>wpAny_pure ?_)
 replace s₄:Zxl i2 h₃ h₄:=s₄
 have O₄:G4 h₄ TO x b c:=s₄.extBut _ _ O2 O₃
 refine wpAny_bind (wpAny_seqItems O₄ rfl (wpAny_bind (P3 O₄ λh₅ O₅ s₅=>wpAny_bind (wpAny_letGo (wpAny_pure ?_)))))
 replace s₅:Zxl TO h₄ h₅:=s₅
 have K5:∀c o,c≠z->c≠i1->c≠TO->c≠i2->s.heap.get? c=some o->h₅.get? c=some o:=λc o n n' n2 n3 e=>s₅.extBut c o n2 (s₄.extBut c o n3 (K3 c o n n' n2 e))
 have Z₅:IsZip h₅ z TI TO .ellipsis:=s₅.extBut _ _ zO (s₄.extBut _ _ z2 Z₃)
 refine wpAny_bind (wpAny_bind (wpAny_onRaise (show wpAny _ _ (Zy8 (.ref i3) >>= _) _ _ _ from ?_)))
 have e3:zs[k]?=none:=by
  rcases he with h | h | h
  ·rw[e1] at h;cases h
  ·rw[e2] at h;cases h
  ·exact h
 refine wpAny_bind (wpAny_nextOf_list_end hh (g3.at λo e=>K5 _ o (Zzi z3) (Zzi n13) (Zzi O3) (Zzi n23) e) (m3.at λo e=>K5 _ o a3z a31 a3O a32 e) e3 λh₆ e s₆ he=>?_)
 replace s₆:Heap.ExtBut i3 h₅ h₆:=s₆
 refine fin (Q':=λ_ _=>True) (s₆ _ _ z3 Z₅) he λc o n q=>?_
 simp only[Zzt,Zzj,or_false,not_or] at n
 exact s₆ _ _ n.2.2.2.2 (K5 _ _ n.1 n.2.2.1 n.2.1 n.2.2.2.1 q)
end
theorem Zk(a b c:Value):checkTypeCall "zip" ⟨[a,b,c],[]⟩=pure ():=by kernel_rfl
theorem ao(a b c:Value):checkBuiltinCall "zip.__new__" ⟨[.type "zip",a,b,c],[]⟩=pure ():=by kernel_rfl
theorem jd(a b c d:Value):argsOk "object.__init__" ⟨[a,b,c,d],[]⟩:=by
 unfold argsOk
 rw[signature?_of (id := "object.__init__") (n:=['_','_','t','i','n','i','_','_']) (o:=['t','c','e','j','b','o']) (by kernel_rfl) F.owner_object]
 kernel_rfl
abbrev z3a(h:Heap)(l:Addr):Heap:=h.push {cls:=.type "list_iterator",data:=.fields #[.ref l,.int 0 0]}
abbrev z3t(h:Heap)(x y z:Value):Heap:=h.push {cls:=.type "tuple",data:=.seq #[x,y,z]}
abbrev z3i(h:Heap)(l1 l2 l3:Addr):Heap:=z3t (z3a (z3a (z3a h l1) l2) l3) (.ref h.objs.size) (.ref (z3a h l1).objs.size) (.ref (z3a (z3a h l1) l2).objs.size)
abbrev z3o(h:Heap)(l1 l2 l3:Addr):Heap:=z3t (z3i h l1 l2 l3) .none .none .none
abbrev z3z(h:Heap)(l1 l2 l3:Addr):Heap:=(z3o h l1 l2 l3).push {cls:=.type "zip",data:=.fields #[.none,.bool false,.bool false,.ref (z3a (z3a (z3a h l1) l2) l3).objs.size,.ref (z3i h l1 l2 l3).objs.size]}
theorem my(l1 l2 l3:Addr)(xs ys zs:Array Value) :
  Meets (Builtin.«zip.__new__» ⟨[.type "zip",.ref l1,.ref l2,.ref l3],[]⟩) (λ_ R s=>s.heap.IsList l1 xs/\s.heap.IsList l2 ys/\s.heap.IsList l3 zs/\R (.ok (.ret (.ref (z3o s.heap l1 l2 l3).objs.size))) {s with heap:=z3z s.heap l1 l2 l3}) :=
 .of_wp λprog w A R s h=>by
  obtain⟨hp,g,d,tk,os⟩:=s
  obtain⟨m1,m2,m3,h⟩:=h
  have hsub:=sub_zip
  have q1:Heap.IsList (Shared.heap ⟨hp,g,d,tk,os⟩) l1 xs:=m1
  have q2:Heap.IsList (Shared.heap ⟨z3a hp l1,g,d,tk,os⟩) l2 ys:=m2.push _
  have q3:Heap.IsList (Shared.heap ⟨z3a (z3a hp l1) l2,g,d,tk,os⟩) l3 zs:=(m3.push _).push _
  wp_walk using wpAny_pyIter_list q1,wpAny_pyIter_list q2,wpAny_pyIter_list q3
  exact⟨_,rfl,h⟩
section
variable {prog:Program}{w:World}{A:Around}{E:Value->Shared->Prop}{s:Shared}
theorem jo{l1 l2 l3:Addr}{xs ys zs:Array Value}{Q:Value->Shared->Prop}(m1:s.heap.IsList l1 xs)(m2:s.heap.IsList l2 ys)(m3:s.heap.IsList l3 zs)
  (h:∀h' n,n=s.heap.objs.size->IsZip h' (n+5) (n+3) (n+4) .none->G4 h' (n+3) (.ref n) (.ref (n+1)) (.ref (n+2))->G4 h' (n+4) .none .none .none->h'.IsListIter n l1 0->h'.IsListIter (n+1) l2 0->h'.IsListIter (n+2) l3 0 ->
   (∀c o,s.heap.get? c=some o->h'.get? c=some o)->Q (.ref (n+5)) {s with heap:=h'}) :
  wpAny (model prog w) A (call (.type "zip") [.ref l1,.ref l2,.ref l3]) Q E s:=by
 refine callType_new F.called_zip (by decide) (Zk _ _ _) (ao _ _ _) (λobj=>jd obj _ _ _) F.entry_zip_new (my l1 l2 l3 xs ys zs) ⟨m1,m2,m3,?_⟩
 have y1:(z3a s.heap l1).objs.size=s.heap.objs.size+1:=Zxp ..
 have y2:(z3a (z3a s.heap l1) l2).objs.size=s.heap.objs.size+2:=by rw[Zxp,y1]
 have y3:(z3a (z3a (z3a s.heap l1) l2) l3).objs.size=s.heap.objs.size+3:=by rw[Zxp,y2]
 have y4:(z3i s.heap l1 l2 l3).objs.size=s.heap.objs.size+4:=by rw[Zxp,y3]
 have y5:(z3o s.heap l1 l2 l3).objs.size=s.heap.objs.size+5:=by rw[Zxp,y4]
 have k5:(z3z s.heap l1 l2 l3).get? (z3o s.heap l1 l2 l3).objs.size=some _:=Zze _ rfl
 have k4:(z3z s.heap l1 l2 l3).get? (z3i s.heap l1 l2 l3).objs.size=some _:=Zzx _ (Zze _ rfl)
 have k3:(z3z s.heap l1 l2 l3).get? (z3a (z3a (z3a s.heap l1) l2) l3).objs.size=some _:=Zzx _ (Zzx _ (Zze _ rfl))
 have k2:(z3z s.heap l1 l2 l3).get? (z3a (z3a s.heap l1) l2).objs.size=some _:=Zzx _ (Zzx _ (Zzx _ (Zze _ rfl)))
 have k1:(z3z s.heap l1 l2 l3).get? (z3a s.heap l1).objs.size=some _:=Zzx _ (Zzx _ (Zzx _ (Zzx _ (Zze _ rfl))))
 have k0:(z3z s.heap l1 l2 l3).get? s.heap.objs.size=some _:=Zzx _ (Zzx _ (Zzx _ (Zzx _ (Zzx _ (Zze _ rfl)))))
 show _/\_
 rw[y5,y3,y4] at k5
 rw[y4] at k4
 rw[y3,y1,y2] at k3
 rw[y2] at k2
 rw[y1] at k1
 rw[y5]
 exact⟨⟨_,k5,rfl⟩,h _ _ rfl k5 k3 k4 ⟨_,k0,rfl,rfl⟩ ⟨_,k1,rfl,rfl⟩ ⟨_,k2,rfl,rfl⟩ λc o e =>
  Zzx _ (Zzx _ (Zzx _ (Zzx _ (Zzx _ (Zzx _ e)))))⟩
end
theorem Rf{prog:Program}{w:World}{A:Around}(hh:A.handled=none)(z TI TO i1 i2 i3 l1 l2 l3:Addr)(D:X3 z TI TO i1 i2 i3 [l1,l2,l3])(xs ys zs:Array Value) :
  WalksT prog w A z [z,TI,TO,i1,i2,i3,l1,l2,l3] [z,TO,i1,i2,i3] (min xs.size (min ys.size zs.size))
   (λi vals=>∃x y v,xs[i]?=some x/\ys[i]?=some y/\zs[i]?=some v/\vals=#[x,y,v])
   (λi h=>IsZip h z TI TO .none/\G4 h TI (.ref i1) (.ref i2) (.ref i3)/\(∃a b c,G4 h TO a b c)/\h.IsListIter i1 l1 i/\h.IsListIter i2 l2 i/\h.IsListIter i3 l3 i/\h.IsList l1 xs/\h.IsList l2 ys/\h.IsList l3 zs)
   (λi T h=>(IsZip h z TI TO (rawInt T)/\G4 h TI (.ref i1) (.ref i2) (.ref i3)/\(∃a b c,G4 h TO a b c)/\h.IsListIter i1 l1 (i+1)/\h.IsListIter i2 l2 (i+1)/\h.IsListIter i3 l3 (i+1)/\h.IsList l1 xs/\h.IsList l2 ys/\h.IsList l3 zs)/\T∉[z,TO,i1,i2,i3]):=by
 have hTI:TI∉[z,TO,i1,i2,i3]:=by
  have nd:=D.nd
  simp only[Zy7,Zzt,Zzj,or_false,not_or] at nd ⊢
  exact⟨λe=>nd.1.1 e.symm,nd.2.1⟩
 have hls:∀l∈[l1,l2,l3],l∉[z,TO,i1,i2,i3]:=λl hl hm=>D.ls l hl (by
  simp only[Zzt,Zzj,or_false] at hm ⊢
  rcases hm with e | e | e | e | e<;>simp[e])
 have nz:∀c∈[TI,TO,i1,i2,i3],c≠z:=λc hc e=>by
  have nd:=D.nd
  rw[Zy7] at nd
  exact nd.1 (e▸hc)
 have nzl:∀c∈[l1,l2,l3],c≠z:=λc hc e=>hls c hc (by simp[e])
 refine⟨λb hb=>?_,λi h h' st kp=>?_,λi s Q E hi st hQ=>?_,λelts k pos i T s Q E hm hQ=>?_,λi T h hm=>hm.2,λs Q E st hQ=>?_,λi s Q E st hQ=>wpAny_pyIter_zip st.1 hQ⟩
 ·simp only[Zzt,Zzj,or_false] at hb ⊢
  rcases hb with e | e | e | e | e<;>simp[e]
 ·obtain⟨p1,p2,⟨a,b,c,p3⟩,p4,p5,p6,p7,p8,p9⟩:=st
  exact⟨kp z (by simp) _ p1,kp TI (by simp) _ p2,⟨a,b,c,kp TO (by simp) _ p3⟩,p4.at λo e=>kp i1 (by simp) o e,p5.at λo e=>kp i2 (by simp) o e,p6.at λo e=>kp i3 (by simp) o e,
   p7.at λo e=>kp l1 (by simp) o e,p8.at λo e=>kp l2 (by simp) o e,p9.at λo e=>kp l3 (by simp) o e⟩
 ·obtain⟨p1,p2,⟨a,b,c,p3⟩,p4,p5,p6,p7,p8,p9⟩:=st
  have b1:i<xs.size:=by omega
  have b2:i<ys.size:=by omega
  have b3:i<zs.size:=by omega
  have hT:s.TypeIs (.ref z) "zip" := ⟨_,p1,rfl⟩
  unfold pyNext
  refine wpAny_bind (wpAny_attempt (wpAny_callSpecial?_slot (name:=Str.ofString "__next__") hT F.slot_zip_next (wpAny_call_entry F.slot_zip_next hT F.entry_zip_next
   (ga D p1 p2 p3 p4 p5 p6 p7 p8 p9 (Zxt b1) (Zxt b2) (Zxt b3) λh' r1 r2 r3 r4 r5 r6 r7 r8=>wpAny_pure ?_) (F.args_zip_next_1 _))))
  have lt:∀{c o},s.heap.get? c=some o->s.heap.objs.size≠c:=λe=>Zxe (Zzb e)
  refine hQ s.heap.objs.size #[xs[i],ys[i],zs[i]] h' s.toks ⟨_,_,_,Zxt b1,Zxt b2,Zxt b3,rfl⟩ (Zzm _) ⟨_,r6,rfl,_,rfl⟩
   ⟨⟨r1,r8 _ _ hTI p2,⟨_,_,_,r2⟩,r3,r4,r5,p7.at λo e=>r8 _ o (hls l1 (by simp)) e,p8.at λo e=>r8 _ o (hls l2 (by simp)) e,p9.at λo e=>r8 _ o (hls l3 (by simp)) e⟩,λhm=>?_⟩ r8
  simp only[Zzt,Zzj,or_false] at hm
  obtain⟨o4,q4,_⟩:=p4
  obtain⟨o5,q5,_⟩:=p5
  obtain⟨o6,q6,_⟩:=p6
  rcases hm with e | e | e | e | e
  ·exact lt p1 e
  ·exact lt p3 e
  ·exact lt q4 e
  ·exact lt q5 e
  ·exact lt q6 e
 ·obtain⟨⟨p1,p2,⟨a,b,c,p3⟩,p4,p5,p6,p7,p8,p9⟩,_⟩:=hm
  refine wpAny_letOwnedTupleGo_zip p1 λh' z' s'=>hQ h' ⟨z',s'.extBut _ _ (nz TI (by simp)) p2,⟨a,b,c,s'.extBut _ _ (nz TO (by simp)) p3⟩,p4.extBut s'.extBut (nz i1 (by simp)),p5.extBut s'.extBut (nz i2 (by simp)),p6.extBut s'.extBut (nz i3 (by simp)),
   p7.extBut s'.extBut (nzl l1 (by simp)),p8.extBut s'.extBut (nzl l2 (by simp)),p9.extBut s'.extBut (nzl l3 (by simp))⟩ λc o hc e=>s'.extBut _ _ (λq=>hc (by simp[q])) e
 ·obtain⟨p1,p2,⟨a,b,c,p3⟩,p4,p5,p6,p7,p8,p9⟩:=st
  have hT:s.TypeIs (.ref z) "zip" := ⟨_,p1,rfl⟩
  have fin:xs[min xs.size (min ys.size zs.size)]?=none\/ys[min xs.size (min ys.size zs.size)]?=none\/zs[min xs.size (min ys.size zs.size)]?=none:=by
   have:min xs.size (min ys.size zs.size)=xs.size\/min xs.size (min ys.size zs.size)=ys.size\/min xs.size (min ys.size zs.size)=zs.size:=by omega
   rcases this with e | e | e
   ·exact .inl (Zwn (Zvj e.symm))
   ·exact .inr (.inl (Zwn (Zvj e.symm)))
   ·exact .inr (.inr (Zwn (Zvj e.symm)))
  unfold pyNext
  refine wpAny_bind (wpAny_attempt (wpAny_callSpecial?_slot (name:=Str.ofString "__next__") hT F.slot_zip_next (wpAny_call_entry F.slot_zip_next hT F.entry_zip_next
   (jx hh D p1 p2 p3 p4 p5 p6 p7 p8 p9 fin λh' e kp ⟨o,ho,hc⟩=>?_) (F.args_zip_next_1 _))))
  exact wpAny_bind (wpAny_isInstance (T := "StopIteration") (b:=true) ⟨o,ho,hc⟩ isSubtype_stop (wpAny_pure (hQ _ s.toks kp)))
def zm(a b c:Addr)(xs ys zs:List V):It:=⟨λi H=>(H a=some (.lst xs)/\H b=some (.lst ys)/\H c=some (.lst zs))/\i<min xs.length (min ys.length zs.length),
 λi H x H'=>∃p y z v,x=.ref p/\H p=none/\xs[i]?=some y/\ys[i]?=some z/\zs[i]?=some v/\H'=upd H p (.tup [y,z,v]),λi H=>(H a=some (.lst xs)/\H b=some (.lst ys)/\H c=some (.lst zs))/\i=min xs.length (min ys.length zs.length)⟩
theorem yv(a b c:Addr)(xs ys zs:List V):Vd (zm a b c xs ys zs) (min xs.length (min ys.length zs.length)) (λi us=>∃y z v,xs[i]?=some y/\ys[i]?=some z/\zs[i]?=some v/\us=[y,z,v]) (λH=>H a=some (.lst xs)/\H b=some (.lst ys)/\H c=some (.lst zs)) :=
 ⟨λi H h o=>⟨o,h⟩,λi H x H' h o y=>by obtain⟨p,u,v,w,e1,e2,e3,e4,e5,e6⟩:=y;exact⟨p,_,e1,e2,e6,u,v,w,e3,e4,e5,rfl⟩,λH o=>⟨o,rfl⟩⟩
theorem gg{P:Program}{w:World}{K:Zzw}{elts:List Expr}{k:Nat}{pos:Pos}(z TI TO i1 i2 i3 a b c:Addr)(xs ys zs:List V)(nd:[z,TI,TO,i1,i2,i3].Nodup) :
  Q9 P w K (.Tuple elts k pos) (zm a b c xs ys zs) [z,TI,TO,i1,i2,i3] z (λi h=>IsZip h z TI TO .none/\G4 h TI (.ref i1) (.ref i2) (.ref i3)/\(∃u v t,G4 h TO u v t)/\h.IsListIter i1 a i/\h.IsListIter i2 b i/\h.IsListIter i3 c i):=by
 have objs:∀(i:Nat) (h:Heap),(IsZip h z TI TO .none/\G4 h TI (.ref i1) (.ref i2) (.ref i3)/\(∃u v t,G4 h TO u v t)/\h.IsListIter i1 a i/\h.IsListIter i2 b i/\h.IsListIter i3 c i)->∀d∈[z,TI,TO,i1,i2,i3],∃o,h.get? d=some o/\∀v,o.data≠.cell v:=by
  rintro i h ⟨hz,hT,⟨u,v,t,hO⟩,⟨o1,g1,c1,d1⟩,⟨o2,g2,c2,d2⟩,⟨o3,g3,c3,d3⟩⟩ d hd
  simp only[Zzt,Zzj,or_false] at hd
  rcases hd with q | q | q | q | q | q<;>subst q
  ·exact⟨_,hz,λ_ y=>by cases y⟩
  ·exact⟨_,hT,λ_ y=>by cases y⟩
  ·exact⟨_,hO,λ_ y=>by cases y⟩
  ·exact⟨o1,g1,λ_ y=>by rw[d1] at y;cases y⟩
  ·exact⟨o2,g2,λ_ y=>by rw[d2] at y;cases y⟩
  ·exact⟨o3,g3,λ_ y=>by rw[d3] at y;cases y⟩
 have apart:∀{X:Cx} {pins:List (Addr×Obj)} {H:Hp},(∀d∈[z,TI,TO,i1,i2,i3],N6 X pins H d)->∀{us vs ws:List V},H a=some (.lst us)->H b=some (.lst vs)->H c=some (.lst ws)->X3 z TI TO i1 i2 i3 [a,b,c]:=by
  intro X pins H hf us vs ws ha hb hc
  refine⟨nd,λl hl hm=>?_⟩
  have hn:=(hf l hm).1
  simp only[Zzt,Zzj,or_false] at hl
  rcases hl with e | e | e<;>rw[e] at hn
  ·rw[hn] at ha;cases ha
  ·rw[hn] at hb;cases hb
  ·rw[hn] at hc;cases hc
 have sub:∀d∈[z,TO,i1,i2,i3],d∈[z,TI,TO,i1,i2,i3]:=λd hd=>by simp at hd ⊢;rcases hd with h | h | h | h | h<;>simp[h]
 refine⟨by simp,objs,?_,?_,?_,?_⟩
 ·rintro i h h' ⟨hz,hT,⟨u,v,t,hO⟩,g1,g2,g3⟩ kp
  exact⟨kp z (by simp) _ hz,kp TI (by simp) _ hT,⟨u,v,t,kp TO (by simp) _ hO⟩,g1.at λo e=>kp i1 (by simp) o e,g2.at λo e=>kp i2 (by simp) o e,g3.at λo e=>kp i3 (by simp) o e⟩
 ·intro X hP hw hK hc i pins s Z H E I hf st hg
  subst hP hw hK
  obtain⟨⟨ha,hb,hd⟩,hlt⟩:=hg
  obtain⟨its,rv,hl,_⟩:=Cg I ha
  obtain⟨its2,rv2,hl2,_⟩:=Cg I hb
  obtain⟨its3,rv3,hl3,_⟩:=Cg I hd
  have len1:=rv.length
  have len2:=rv2.length
  have len3:=rv3.length
  obtain⟨s1,s2,s3,s4,s5,s6⟩:=id st
  have hv:∀vals:Array Value,(∃x y v,its.toArray[i]?=some x/\its2.toArray[i]?=some y/\its3.toArray[i]?=some v/\vals=#[x,y,v])->∃us,Vals us vals.toList/\us.length<=100/\∃y z v,xs[i]?=some y/\ys[i]?=some z/\zs[i]?=some v/\us=[y,z,v]:=by
   rintro vals ⟨x,y,v,hx,hy,hv,rfl⟩
   have l1:i<xs.length:=by omega
   have l2:i<ys.length:=by omega
   have l3:i<zs.length:=by omega
   obtain⟨u,hu,ru⟩:=rv.get (x:=xs[i]) (i:=i) (by simp[l1])
   obtain⟨u',hu',ru'⟩:=rv2.get (x:=ys[i]) (i:=i) (by simp[l2])
   obtain⟨u'',hu'',ru''⟩:=rv3.get (x:=zs[i]) (i:=i) (by simp[l3])
   have hx:its[i]?=some x:=by simpa using hx
   have hy:its2[i]?=some y:=by simpa using hy
   have hv:its3[i]?=some v:=by simpa using hv
   rw[hx] at hu
   rw[hy] at hu'
   rw[hv] at hu''
   cases hu
   cases hu'
   cases hu''
   exact⟨[xs[i],ys[i],zs[i]],.cons ru (.cons ru' (.cons ru'' .nil)),by simp,xs[i],ys[i],zs[i],by simp[l1],by simp[l2],by simp[l3],rfl⟩
  refine thn (Wm (E:=E) (Rf (I.ok.hd hc) z TI TO i1 i2 i3 a b c (apart hf ha hb hd) its.toArray its2.toArray its3.toArray) (by rw[Zzl,Zzl,Zzl];omega) I ⟨s1,s2,s3,s4,s5,s6,hl,hl2,hl3⟩ (λc hc=>hf c (sub c hc)) hv) λr t1 ⟨u,hr,h3⟩ =>
   ⟨u,hr,thn h3 λ_ t2 ⟨p,us,hu,hp,hn,I2,⟨y,y',y'',hy,hy',hy'',e2⟩,st2⟩=>?_⟩
  subst hu e2
  refine⟨.ref p,_,I2,rfl,⟨p,y,y',y'',rfl,hn,hy,hy',hy'',rfl⟩,⟨st2.1,st2.2.1,st2.2.2.1,st2.2.2.2.1,st2.2.2.2.2.1,st2.2.2.2.2.2.1⟩,λc hc=>?_⟩
  obtain⟨o,ho,_⟩:=objs i _ st c hc
  rw[A7 (Fo (Zzb ho) hp)]
  exact(hf c hc).1
 ·intro X hP hw hK hc i pins s Z H E I hf st hg
  subst hP hw hK
  obtain⟨⟨ha,hb,hd⟩,hlt⟩:=hg
  obtain⟨its,rv,hl,_⟩:=Cg I ha
  obtain⟨its2,rv2,hl2,_⟩:=Cg I hb
  obtain⟨its3,rv3,hl3,_⟩:=Cg I hd
  have len1:=rv.length
  have len2:=rv2.length
  have len3:=rv3.length
  obtain⟨s1,s2,s3,s4,s5,s6⟩:=id st
  have hi:min its.toArray.size (min its2.toArray.size its3.toArray.size)=i:=by rw[Zzl,Zzl,Zzl];omega
  refine(Rf (I.ok.hd hc) z TI TO i1 i2 i3 a b c (apart hf ha hb hd) its.toArray its2.toArray its3.toArray).done s _ E ?_ λh' tk hk=>⟨rfl,I.turnedL hk λc hc=>hf c (sub c hc)⟩
  rw[hi]
  exact⟨s1,s2,s3,s4,s5,s6,hl,hl2,hl3⟩
 ·intro A i s Q E st h
  exact wpAny_pyIter_zip st.1 h
section
variable {X:Cx}
def En(ta:TA):TI:=λZ H R=>ta Z H λvs H1=>∃a b c xs ys zs,vs=[.ref a,.ref b,.ref c]/\H1 a=some (.lst xs)/\H1 b=some (.lst ys)/\H1 c=some (.lst zs)/\R (zm a b c xs ys zs) H1
theorem ud{elts:List Expr}{k:Nat}{pt p pos:Pos}{e e2 e3:Expr}{ta:TA}(hg:Gl X "zip")(hm:X.mg "zip" = none)(ha:PA X [e,e2,e3] ta)(hn:Fp [e,e2,e3]=true:=by rfl):PI X (.Tuple elts k pt) (.Call (.Name "zip" p) [e,e2,e3] [] pos) (En ta):=by
 intro pins s Z H R I h
 refine Call_ (Jh I hg hm NP.bi (Zxq (thn (ha pos pins s Z H _ I h) λus s1 ⟨vs,H1,I1,r1,q1⟩=>?_) (Ff (Cz hn).1) (Gd (Cz hn).2)))
 obtain⟨a,b,c,xs,ys,zs,e,ha,hb,hc,q⟩:=q1
 subst e
 cases r1 with
 |cons ru r2 =>
 obtain⟨u',u'',rfl,ru',ru''⟩:=Ri r2
 cases ru
 cases ru'
 cases ru''
 obtain⟨its,rv,hl,_⟩:=Cg I1 ha
 obtain⟨its2,rv2,hl2,_⟩:=Cg I1 hb
 obtain⟨its3,rv3,hl3,_⟩:=Cg I1 hc
 refine jo hl hl2 hl3 λh' n hn g1 g2 g3 g4 g5 g6 hk=>wpAny_pyIter_zip g1 ?_
 have I2:Inv X pins Z H1 {s1 with heap:=h'}:=I1.kept (t':=s1.toks) hk
 have nd:[n+5,n+3,n+4,n,n+1,n+2].Nodup:=by
  simp only[Zy7,Zzt,Zzj,or_false,not_or,Zwy,and_true,not_false_eq_true]
  refine⟨⟨?_,?_,?_,?_,?_⟩,⟨?_,?_,?_,?_⟩,⟨?_,?_,?_⟩,⟨?_,?_⟩,?_⟩<;>(intro z;have z':(_:Nat)=_:=z;omega)
 refine⟨n+5,[n+5,n+3,n+4,n,n+1,n+2],_,_,H1,rfl,I2,gg _ _ _ _ _ _ a b c xs ys zs nd,⟨g1,g2,⟨_,_,_,g3⟩,g4,g5,g6⟩,λd hd=>?_,q⟩
 have hb':s1.heap.objs.size<=d:=by
  rw[<- hn]
  simp only[Zzt,Zzj,or_false] at hd
  rcases hd with q | q | q | q | q | q<;>rw[q]<;>first | exact Zva _ _ | exact Zzm _
 exact I1.fpOk hb' (I1.hok.fresh hb')
end
theorem z7{t u:TS}{D:Qa}{Z:St}{H:Hp}(M:St->Hp->Prop)(hrest:∀Z' H',M Z' H'->u D Z' H')(h:∀KK:St->Hp->Prop,(∀Z' H',M Z' H'->KK Z' H')->t {D with nx:=KK} Z H):G5 t u D Z H:=h (u D) hrest
theorem z6{t t2 u:TS}{D:Qa}{Z:St}{H:Hp}(M:St->Hp->Prop)(hrest:∀Z' H',M Z' H'->u D Z' H')(h:∀KK:St->Hp->Prop,(∀Z' H',M Z' H'->KK Z' H')->t {D with nx:=λZ H=>t2 {D with nx:=KK} Z H} Z H):G5 t (G5 t2 u) D Z H:=h (u D) hrest
theorem cut3{t t2 t3 u:TS}{D:Qa}{Z:St}{H:Hp}(M:St->Hp->Prop)(hrest:∀Z' H',M Z' H'->u D Z' H')
  (h:∀KK:St->Hp->Prop,(∀Z' H',M Z' H'->KK Z' H')->t {D with nx:=λZ H=>t2 {D with nx:=λZ H=>t3 {D with nx:=KK} Z H} Z H} Z H):G5 t (G5 t2 (G5 t3 u)) D Z H:=h (u D) hrest
theorem G2{H:Hp}{a:Addr}{xs:List V}(h:H a=some (.lst xs)):P5 H (.ref a)=some "list" := by unfold P5;simp only[h]
theorem gt2{K:Zzw}{i j:Nat}{p:Addr}{x y:V}{Z:St}{H:Hp}{Q:St->Hp->Prop}(e:H p=some (.tup [x,y]))(h:Q ((Z.set i (some x)).set j (some y)) H):Ys K 2 (Gs (Ci i) (Gs (Ci j) gNil)) (.ref p) Z H Q :=
 ⟨p,_,rfl,SqT.of e,rfl,_,_,rfl,_,_,rfl,rfl,h⟩
section
variable {X:Cx}{pins:List (Addr×Obj)}{Z:St}{H:Hp}{s:Shared}
theorem Inv.freeze{a:Addr}{kvs:List (Key×V)}(I:Inv X pins Z H s)(h:H a=some (.dK kvs)):∃o,s.heap.get? a=some o/\Inv X pins Z (upd H a (.frz o (.dK kvs))) s:=by
 obtain⟨hz,hS,vs,r,o,es,ep,ho,rest⟩:=I.hok a _ h
 have ne:∀b u,H b=some u->u≠.dK kvs->b≠a:=λb u e n z=>by rw[z,h] at e;exact n (Zz3 e).symm
 refine⟨o,ho,I.un (t':=s.toks) ⟨λb ob e n _ _=>e,λb ob e n _ _=>⟨ob.slots,e⟩,λb ob e n _=>?_,λb ob e _=>⟨ob,e⟩,λb xs e=>?_,λb ob u e=>?_,λb ps e=>⟨#[],?_⟩⟩ λb u e=>?_⟩
 ·rw[A7 (λz=>by rw[z,h] at n;cases n)];exact n
 ·rw[A7 (ne b _ e (λz=>by cases z))];exact e
 ·rw[A7 (ne b _ e (λz=>by cases z))];exact e
 ·rw[A7 (ne b _ e (λz=>by cases z)),e];simp
 ·by_cases hb:b=a
  ·subst hb
   rw[A0] at e
   cases e
   exact⟨ho,hz,hS,vs,r,o,es,ep,ho,rest⟩
  ·rw[A7 hb] at e
   refine(I.hok b u e).stay (λ_ _ _ q=>q) (λc q=>?_) λc ys q=>?_
   ·rw[A7 (ne c _ q (λz=>by cases z))];exact q
   ·rw[A7 (ne c _ q (λz=>by cases z))];exact q
end
def ItD(a:Addr)(o:Obj)(kvs:List (Key×V)):It:=⟨λi H=>H a=some (.frz o (.dK kvs))/\i<kvs.length,λi H x H'=>H'=H/\∃k v,kvs[i]?=some (k,v)/\x=kV k,λi H=>H a=some (.frz o (.dK kvs))/\kvs.length<=i⟩
theorem ox(a:Addr)(o:Obj)(kvs:List (Key×V)):U0 (ItD a o kvs) kvs.length (λi x=>∃k v,kvs[i]?=some (k,v)/\x=kV k) (λH=>H a=some (.frz o (.dK kvs))) :=
 ⟨λ_ _ h o=>⟨o,h⟩,λ_ _ _ _ _ _ y=>y,λ_ o=>⟨o,Zzm _⟩⟩
theorem o0{κ:Type}:∀{kvs:List (κ×V)} {vs:List (κ×Value)} {i:Nat} {k:κ} {v:V},KV kvs vs->kvs[i]?=some (k,v)->∃u,vs[i]?=some (k,u)
 |_,_,_,_,_,.nil,e=>by simp at e
 |_,(k',u')::_,0,k,v,.cons r _,e=>by
  simp at e
  subst e
  exact⟨u',by simp;exact r.1.symm⟩
 |_,_::_,i+1,k,v,.cons _ t,e=>by
  obtain⟨u,h⟩:=o0 (i:=i) t (by simpa using e)
  exact⟨u,by simpa using h⟩
theorem A08{P:Program}{w:World}{k:Key}{u:Value}(h:(Dj P w).is k u=true):RelV (kV k) u:=by
 rcases Fg h with ⟨i,t,rfl,rfl⟩ | ⟨x,t,rfl,rfl⟩
 ·exact⟨t,rfl⟩
 ·exact⟨t,rfl⟩
theorem gk{P:Program}{w:World}{K:Zzw}{tg:Expr}(a it:Addr)(o:Obj)(kvs:List (Key×V))(es:Array DictEntry)(ep:Nat)(hd:o.data=.dict es ep) :
  Q9 P w K tg (ItD a o kvs) [it] it (λi h=>h.IsKeyIter it a i kvs.length ep) where
 mem:=by simp
 obj:=λi h st b hb=>by
  have e:b=it:=by simpa using hb
  subst e
  obtain⟨o,e,c,d⟩:=st
  exact⟨o,e,λv z=>by rw[d] at z;cases z⟩
 keep:=λi h h' st k=>st.at λo e=>k it (by simp) o e
 item:=by
  intro X hP hw hK hc i pins s Z H E I hf st hg
  subst hP hw hK
  obtain⟨hq,hlt⟩:=hg
  obtain⟨ho,hz,hS,vs,rel,o',es',ep',ho',c',d',kk,pp,nn⟩:=I.hok a _ hq
  rw[ho] at ho'
  cases ho'
  rw[hd] at d'
  cases d'
  have hm:s.heap.DictAt (Dj X.prog X.w) a vs ep:=⟨o,es,ho,c',hd,kk,pp,nn⟩
  obtain⟨f0,f1,f2,f3,f4,f5⟩:=hf it (by simp)
  have hlen:kvs.length=vs.length:=rel.length
  obtain⟨u,hu⟩:=o0 (k:=kvs[i].1) (v:=kvs[i].2) (i:=i) rel (by simp[hlt])
  have st':s.heap.IsKeyIter it a i vs.length ep:=by rw[<- hlen];exact st
  refine wpAny_pyNext_dict_item st' hm hu λkey h' hk hit sb=>?_
  have I1:Inv X pins Z H {s with heap:=h'}:=I.turned (t':=s.toks) (λb o hb e=>(sb.2 b hb).trans e) f0 f1 f3 f4 f5
  obtain⟨oi,ei,ci,di⟩:=id hit
  refine⟨key,rfl,Yr (s:={s with heap:=h'}) ei ci di (by decide) ⟨kV kvs[i].1,H,I1,A08 hk,⟨rfl,kvs[i].1,kvs[i].2,by simp[hlt],rfl⟩,?_,λb hb=>(hf b hb).1⟩⟩
  rw[hlen]
  exact hit
 done:=by
  intro X hP hw hK hc i pins s Z H E I hf st hg
  subst hP hw hK
  obtain⟨hq,hlt⟩:=hg
  obtain⟨ho,hz,hS,vs,rel,o',es',ep',ho',c',d',kk,pp,nn⟩:=I.hok a _ hq
  rw[ho] at ho'
  cases ho'
  rw[hd] at d'
  cases d'
  have hm:s.heap.DictAt (Dj X.prog X.w) a vs ep:=⟨o,es,ho,c',hd,kk,pp,nn⟩
  obtain⟨f0,f1,f2,f3,f4,f5⟩:=hf it (by simp)
  have hlen:kvs.length=vs.length:=rel.length
  have st':s.heap.IsKeyIter it a i vs.length ep:=by rw[<- hlen];exact st
  exact wpAny_pyNext_dict_end (I.ok.hd hc) st' hm (by simp;omega) λh' eb=>⟨rfl,I.turned (t':=s.toks) (λb o hb e=>eb b o hb e) f0 f1 f3 f4 f5⟩
 self:=λ_ _ _ _ _ st h=>wpAny_pyIter_keyiter st h
section
variable {X:Cx}
def Hg(te:TE):TI:=λZ H R=>te Z H λx H1=>∃a kvs,x=.ref a/\H1 a=some (.dK kvs)/\∀o,R (ItD a o kvs) (upd H1 a (.frz o (.dK kvs)))
theorem mh{tg l:Expr}{te:TE}(hl:PE X l te):PI X tg l (Hg te):=by
 intro pins s Z H R I h
 refine thn (hl pins s Z H _ I h) λv s1 z0=>?_
 obtain⟨x,H1,I1,r1,q1⟩:=z0
 obtain⟨a,kvs,e,ha,q⟩:=q1
 subst e
 cases r1
 obtain⟨o,ho,I2⟩:=I1.freeze ha
 obtain⟨hz,hS,vs,rel,o',es,ep,ho',c',d',kk,pp,nn⟩:=I1.hok a _ ha
 rw[ho] at ho'
 cases ho'
 have hm:s1.heap.DictAt (Dj X.prog X.w) a vs ep:=⟨o,es,ho,c',d',kk,pp,nn⟩
 have hlen:kvs.length=vs.length:=rel.length
 refine wpAny_pyIter_dict hS hm ?_
 refine⟨s1.heap.objs.size,[s1.heap.objs.size],_,_,_,rfl,I2.kept (t':=s1.toks) λb o e=>Zzx _ e,gk a _ o kvs es ep d',?_,λb hb=>?_,q o⟩
 ·rw[hlen]
  exact⟨_,Zze _ rfl,rfl,rfl⟩
 ·have e:b=s1.heap.objs.size:=by simpa using hb
  subst e
  exact I2.fpOk (Zzm _) (I2.hok.fresh (Zzm _))
def Ea(ta:TE):TT:=λZ H Q=>ta Z H λx H'=>∃a xs,x=.ref a/\H' a=some (.lst xs)/\Q (!xs.isEmpty) H'
def Eb(ta:TE):TT:=λZ H Q=>ta Z H λx H'=>∃a kvs,x=.ref a/\H' a=some (.dK kvs)/\Q (!kvs.isEmpty) H'
theorem tz{a:Expr}{ta:TE}(ha:PE X a ta)(he:∀whole,isTrue a X.env whole=(do let v <- whole;standAt a.pos;holding [v] (truthy v)):=by intro _;rfl):PT X a (Ea ta):=by
 intro pins s Z H Q I h
 refine isTrue_plain (thn (ha pins s Z H _ I h) λv s1 ⟨x,H1,I1,r1,q1⟩=>?_) (he _)
 obtain⟨a,xs,e,hx,q⟩:=q1
 exact kj pins s1 Z H1 x v Q I1 r1 ⟨_,by subst e;exact .inl ⟨xs,SqL.of hx,rfl⟩,q⟩
theorem u8{a:Expr}{ta:TE}(ha:PE X a ta)(he:∀whole,isTrue a X.env whole=(do let v <- whole;standAt a.pos;holding [v] (truthy v)):=by intro _;rfl):PT X a (Eb ta):=by
 intro pins s Z H Q I h
 refine isTrue_plain (thn (ha pins s Z H _ I h) λv s1 ⟨x,H1,I1,r1,q1⟩=>?_) (he _)
 obtain⟨a,xs,e,hx,q⟩:=q1
 exact kj pins s1 Z H1 x v Q I1 r1 ⟨_,by subst e;exact .inr (.inr ⟨xs,hx,rfl⟩),q⟩
end
mutual
def Hj:PyData->Bool
 |.none | .bool _ | .int _ | .str _=>true
 |.list _=>false
 |.tuple ds=>Ga ds
 |.dict _=>false
def Ga:List PyData->Bool
 |[]=>true
 |d::ds=>Hj d&&Ga ds
end
def KeepU(H H':Hp):Prop:=∀a xs,H a=some (.tup xs)->H' a=some (.tup xs)
theorem KeepU.trans{H H1 H2:Hp}(a:KeepU H H1)(b:KeepU H1 H2):KeepU H H2:=λc xs h=>b c xs (a c xs h)
theorem Same.ku{H H':Hp}(s:Same H H'):KeepU H H':=λa xs h=>s a _ h
theorem yj{H:Hp}{p:Addr}{o:HO}(h:H p=none):KeepU H (upd H p o):=λa xs e=>by rw[A7 (A4 e h)];exact e
theorem Wj{H:Hp}{p:Addr}{o u:HO}(h:H p=some u)(n:∀xs,u≠.tup xs):KeepU H (upd H p o):=λa xs e=>by
 rw[A7 (λz=>by rw[z,h] at e;exact n xs (Zz3 e))];exact e
mutual
theorem RD.ku{H H':Hp}(k:KeepU H H'):∀(d:PyData) (v:V),Hj d=true->RD H d v->RD H' d v
 |.none,v,_,h=>by rw[RD] at h ⊢;exact h
 |.bool b,v,_,h=>by rw[RD] at h ⊢;exact h
 |.int i,v,_,h=>by rw[RD] at h ⊢;exact h
 |.str x,v,_,h=>by rw[RD] at h ⊢;exact h
 |.list ds,v,n,h=>by rw[Hj] at n;cases n
 |.tuple ds,v,n,h=>by
  rw[Hj] at n
  rw[RD] at h ⊢
  obtain⟨a,xs,e,ha,r⟩:=h
  exact⟨a,xs,e,k a xs ha,RDs.ku k ds xs n r⟩
 |.dict _,v,n,h=>by rw[Hj] at n;cases n
theorem RDs.ku{H H':Hp}(k:KeepU H H'):∀(ds:List PyData) (xs:List V),Ga ds=true->RDs H ds xs->RDs H' ds xs
 |[],xs,_,h=>by rw[RDs] at h ⊢;exact h
 |d::ds,xs,n,h=>by
  rw[Ga,Zza] at n
  rw[RDs] at h ⊢
  obtain⟨x,r,e,h1,h2⟩:=h
  exact⟨x,r,e,RD.ku k d x n.1 h1,RDs.ku k ds r n.2 h2⟩
end
mutual
theorem RD.same{H H':Hp}(k:Same H H'):∀(d:PyData) (v:V),RD H d v->RD H' d v
 |.none,v,h=>by rw[RD] at h ⊢;exact h
 |.bool b,v,h=>by rw[RD] at h ⊢;exact h
 |.int i,v,h=>by rw[RD] at h ⊢;exact h
 |.str x,v,h=>by rw[RD] at h ⊢;exact h
 |.list ds,v,h=>by
  rw[RD] at h ⊢
  obtain⟨a,xs,e,ha,r⟩:=h
  exact⟨a,xs,e,k a _ ha,RDs.same k ds xs r⟩
 |.tuple ds,v,h=>by
  rw[RD] at h ⊢
  obtain⟨a,xs,e,ha,r⟩:=h
  exact⟨a,xs,e,k a _ ha,RDs.same k ds xs r⟩
 |.dict _,v,h=>by rw[RD] at h;exact h.elim
theorem RDs.same{H H':Hp}(k:Same H H'):∀(ds:List PyData) (xs:List V),RDs H ds xs->RDs H' ds xs
 |[],xs,h=>by rw[RDs] at h ⊢;exact h
 |d::ds,xs,h=>by
  rw[RDs] at h ⊢
  obtain⟨x,r,e,h1,h2⟩:=h
  exact⟨x,r,e,RD.same k d x h1,RDs.same k ds r h2⟩
end
theorem RDs.len{H:Hp}:∀{ds:List PyData} {xs:List V},RDs H ds xs->xs.length=ds.length
 |[],xs,h=>by rw[RDs] at h;rw[h];rfl
 |d::ds,xs,h=>by
  rw[RDs] at h
  obtain⟨x,r,e,_,h2⟩:=h
  rw[e,Zzk,Zzk,RDs.len h2]
theorem RDs.get'{H:Hp}:∀{ds:List PyData} {xs:List V} {i:Nat} {x:V},RDs H ds xs->xs[i]?=some x->∃d,ds[i]?=some d/\RD H d x
 |[],xs,i,x,h,e=>by rw[RDs] at h;rw[h] at e;cases e
 |d::ds,xs,i,x,h,e=>by
  rw[RDs] at h
  obtain⟨y,r,ey,h1,h2⟩:=h
  rw[ey] at e
  cases i with
  |zero=>cases e;exact⟨d,rfl,h1⟩
  |succ i=>exact RDs.get' (ds:=ds) (xs:=r) (i:=i) h2 (by simpa using e)
theorem RDs.app{H:Hp}:∀{ds es:List PyData} {xs ys:List V},RDs H ds xs->RDs H es ys->RDs H (ds++es) (xs++ys)
 |[],es,xs,ys,h,h'=>by rw[RDs] at h;rw[h];exact h'
 |d::ds,es,xs,ys,h,h'=>by
  rw[RDs] at h
  obtain⟨x,r,e,h1,h2⟩:=h
  rw[e,Zz2,Zz2,RDs]
  exact⟨x,_,rfl,h1,RDs.app h2 h'⟩
theorem RDs.one{H:Hp}{d:PyData}{x:V}(h:RD H d x):RDs H [d] [x]:=by
 rw[RDs]
 refine⟨x,_,rfl,h,?_⟩
 rw[RDs]
theorem RDs.nil{H:Hp}:RDs H [] []:=by rw[RDs]
theorem RDs.cons{H:Hp}{d:PyData}{x:V}{ds:List PyData}{xs:List V}(h:RD H d x)(t:RDs H ds xs):RDs H (d::ds) (x::xs):=by
 rw[RDs]
 exact⟨x,_,rfl,h,t⟩
theorem RD.str_mk{H:Hp}{x:Str}:RD H (.str x) (.str x):=by rw[RD]
theorem RD.int_mk{H:Hp}{i:Int}:RD H (.int i) (.int i):=by rw[RD]
theorem RD.tup_mk{H:Hp}{a:Addr}{xs:List V}{ds:List PyData}(h:H a=some (.tup xs))(r:RDs H ds xs):RD H (.tuple ds) (.ref a):=by
 rw[RD]
 exact⟨a,xs,rfl,h,r⟩
theorem RD.tup_of{H:Hp}{v:V}{ds:List PyData}(h:RD H (.tuple ds) v):∃a xs,v=.ref a/\H a=some (.tup xs)/\RDs H ds xs:=by rw[RD] at h;exact h
theorem RD.str_of{H:Hp}{v:V}{x:Str}(h:RD H (.str x) v):v=.str x:=by rw[RD] at h;exact h
theorem RD.int_of{H:Hp}{v:V}{x:Int}(h:RD H (.int x) v):v=.int x:=by rw[RD] at h;exact h
theorem RDs.nil_of{H:Hp}{xs:List V}(h:RDs H [] xs):xs=[]:=by rw[RDs] at h;exact h
theorem RDs.cons_of{H:Hp}{d:PyData}{ds:List PyData}{xs:List V}(h:RDs H (d::ds) xs):∃x r,xs=x::r/\RD H d x/\RDs H ds r:=by rw[RDs] at h;exact h
end L2
namespace NP
open PySem L2
structure Wr where
 name:Str
 lag:Int
 gives:Int
 floor:Int
 stock:Int
 coming:List (Int×Int)
 parts:List (Str×Int)
def Q7(p:Int×Int):PyData:=.tuple [.int p.1,.int p.2]
def J9(p:Str×Int):PyData:=.tuple [.str p.1,.int p.2]
def Wr.d(w:Wr):PyData:=.tuple [.str w.name,.int w.lag,.int w.gives,.int w.floor,.int w.stock,.tuple (w.coming.map Q7),.tuple (w.parts.map J9)]
abbrev Wt:=Str×Int×Int
def La(p:Wt):PyData:=.tuple [.str p.1,.int p.2.1,.int p.2.2]
structure Sh where
 wares:List Wr
 wants:List Wt
def Sh.d(S:Sh):PyData:=.tuple [.tuple (S.wares.map Wr.d),.tuple (S.wants.map La)]
theorem Fq{α:Type}(f:α->PyData)(h:∀x,Hj (f x)=true):∀xs:List α,Ga (xs.map f)=true
 |[]=>by rw[Zyv,Ga]
 |x::r=>by rw[Zzp,Ga,h x,Fq f h r];rfl
theorem ak(p:Int×Int):Hj (Q7 p)=true:=by unfold Q7;simp only[Hj,Ga,Zxg]
theorem Mo(p:Str×Int):Hj (J9 p)=true:=by unfold J9;simp only[Hj,Ga,Zxg]
theorem Qx(p:Wt):Hj (La p)=true:=by unfold La;simp only[Hj,Ga,Zxg]
theorem vc(w:Wr):Hj w.d=true:=by
 unfold Wr.d
 simp only[Hj,Ga,Fq Q7 ak,Fq J9 Mo,Zxg]
theorem Mn(S:Sh):Hj S.d=true:=by
 unfold Sh.d
 simp only[Hj,Ga,Fq Wr.d vc,Fq La Qx,Zxg]
theorem Dq{H:Hp}{w:Wr}{v:V}(h:RD H w.d v):∃(a:Addr) (c p:V),v=.ref a/\H a=some (.tup [.str w.name,.int w.lag,.int w.gives,.int w.floor,.int w.stock,c,p])/\RD H (.tuple (w.coming.map Q7)) c/\RD H (.tuple (w.parts.map J9)) p:=by
 unfold Wr.d at h
 obtain⟨a,xs,rfl,ha,r⟩:=RD.tup_of h
 obtain⟨x1,r1,rfl,h1,r⟩:=RDs.cons_of r
 obtain⟨x2,r2,rfl,h2,r⟩:=RDs.cons_of r
 obtain⟨x3,r3,rfl,h3,r⟩:=RDs.cons_of r
 obtain⟨x4,r4,rfl,h4,r⟩:=RDs.cons_of r
 obtain⟨x5,r5,rfl,h5,r⟩:=RDs.cons_of r
 obtain⟨x6,r6,rfl,h6,r⟩:=RDs.cons_of r
 obtain⟨x7,r7,rfl,h7,r⟩:=RDs.cons_of r
 have:=RDs.nil_of r
 subst this
 rw[RD.str_of h1,RD.int_of h2,RD.int_of h3,RD.int_of h4,RD.int_of h5] at ha
 exact⟨a,x6,x7,rfl,ha,h6,h7⟩
theorem Gn{H:Hp}{S:Sh}{v:V}(h:RD H S.d v):∃(a b c:Addr) (ws us:List V),v=.ref a/\H a=some (.tup [.ref b,.ref c])/\H b=some (.tup ws)/\H c=some (.tup us)/\RDs H (S.wares.map Wr.d) ws/\RDs H (S.wants.map La) us:=by
 unfold Sh.d at h
 obtain⟨a,xs,rfl,ha,r⟩:=RD.tup_of h
 obtain⟨x1,r1,rfl,h1,r⟩:=RDs.cons_of r
 obtain⟨x2,r2,rfl,h2,r⟩:=RDs.cons_of r
 have:=RDs.nil_of r
 subst this
 obtain⟨b,ws,rfl,hb,rb⟩:=RD.tup_of h1
 obtain⟨c,us,rfl,hc,rc⟩:=RD.tup_of h2
 exact⟨a,b,c,ws,us,rfl,ha,hb,hc,rb,rc⟩
theorem Nr{H:Hp}{p:Wt}{v:V}(h:RD H (La p) v):∃a:Addr,v=.ref a/\H a=some (.tup [.str p.1,.int p.2.1,.int p.2.2]):=by
 unfold La at h
 obtain⟨a,xs,rfl,ha,r⟩:=RD.tup_of h
 obtain⟨x1,r1,rfl,h1,r⟩:=RDs.cons_of r
 obtain⟨x2,r2,rfl,h2,r⟩:=RDs.cons_of r
 obtain⟨x3,r3,rfl,h3,r⟩:=RDs.cons_of r
 have:=RDs.nil_of r
 subst this
 rw[RD.str_of h1,RD.int_of h2,RD.int_of h3] at ha
 exact⟨a,rfl,ha⟩
theorem O9{H:Hp}{p:Str×Int}{v:V}(h:RD H (J9 p) v):∃a:Addr,v=.ref a/\H a=some (.tup [.str p.1,.int p.2]):=by
 unfold J9 at h
 obtain⟨a,xs,rfl,ha,r⟩:=RD.tup_of h
 obtain⟨x1,r1,rfl,h1,r⟩:=RDs.cons_of r
 obtain⟨x2,r2,rfl,h2,r⟩:=RDs.cons_of r
 have:=RDs.nil_of r
 subst this
 rw[RD.str_of h1,RD.int_of h2] at ha
 exact⟨a,rfl,ha⟩
theorem T6{H:Hp}{p:Int×Int}{v:V}(h:RD H (Q7 p) v):∃a:Addr,v=.ref a/\H a=some (.tup [.int p.1,.int p.2]):=by
 unfold Q7 at h
 obtain⟨a,xs,rfl,ha,r⟩:=RD.tup_of h
 obtain⟨x1,r1,rfl,h1,r⟩:=RDs.cons_of r
 obtain⟨x2,r2,rfl,h2,r⟩:=RDs.cons_of r
 have:=RDs.nil_of r
 subst this
 rw[RD.int_of h1,RD.int_of h2] at ha
 exact⟨a,rfl,ha⟩
theorem D4{α:Type}{H:Hp}{f:α->PyData}{xs:List α}{vs:List V}{i:Nat}{v:V}(h:RDs H (xs.map f) vs)(e:vs[i]?=some v):∃x,xs[i]?=some x/\RD H (f x) v:=by
 obtain⟨d,hd,r⟩:=RDs.get' h e
 rw[Zzy] at hd
 cases ex:xs[i]? with
 |none=>rw[ex] at hd;cases hd
 |some x=>rw[ex] at hd;cases hd;exact⟨x,rfl,r⟩
theorem Cm{α:Type}{H:Hp}{f:α->PyData}{xs:List α}{vs:List V}(h:RDs H (xs.map f) vs):vs.length=xs.length:=by have:=RDs.len h;rw[Zzz] at this;exact this
abbrev Gr:=List (Str×List Str)
def Co(G:Gr):List Str:=G.map (·.1)
def Sv(ks:List Str)(ps:List Str):List Str:=ps.filter λx=>decide (x∈ks)
def Gc(ks:List Str)(e:Str×List Str):Option (Str×List Str):=if Sv ks e.2=[] then none else some (e.1,Sv ks e.2)
def jk(G:Gr):Gr:=G.filterMap (Gc (Co G))
def T1:Nat->Gr->Gr
 |0,G=>G
 |n+1,G=>jk (T1 n G)
def L3(S:Sh):Gr:=S.wares.map λw=>(w.name,w.parts.map (·.1))
theorem keys_filter{ks:List Str}:∀{G:Gr},(Co (G.filterMap (Gc ks))).Sublist (Co G)
 |[]=>.slnil
 |e::r=>by
  unfold Co
  rw[Zvo]
  cases h:Gc ks e with
  |none=>exact .cons _ (keys_filter (G:=r))
  |some q =>
   have e1:q.1=e.1:=by
    unfold Gc at h
    split at h
    ·cases h
    ·cases h;rfl
   show (q.1::Co (r.filterMap (Gc ks))).Sublist (e.1::Co r)
   rw[e1]
   exact .cons₂ _ (keys_filter (G:=r))
theorem bg{G:Gr}(h:(Co G).Nodup):(Co (jk G)).Nodup:=keys_filter.nodup h
theorem T0{G:Gr}(h:(Co G).Nodup):∀n,(Co (T1 n G)).Nodup
 |0=>h
 |n+1=>bg (T0 h n)
theorem q9(G:Gr):(jk G).length<=G.length:=List.length_filterMap_le _ _
theorem Yz(G:Gr):∀n,(T1 n G).length<=G.length
 |0=>Zzm _
 |n+1=>Zyf (q9 _) (Yz G n)
theorem T2{G:Gr}{e:Str×List Str}(h:e∈jk G):∃ps,(e.1,ps)∈G/\(∀x∈e.2,x∈ps/\x∈Co G)/\e.2≠[]/\e.2.length<=ps.length:=by
 unfold jk at h
 obtain⟨q,hq,hc⟩:=Zw3.mp h
 unfold Gc at hc
 split at hc
 ·cases hc
 ·rename_i hn
  cases hc
  refine⟨q.2,hq,λx hx=>?_,hn,Zxo _ _⟩
  have:=Zwi.mp hx
  exact⟨this.1,of_decide_eq_true this.2⟩
theorem Mv{G:Gr}:∀(n:Nat) {e:Str×List Str},e∈T1 n G->∃ps,(e.1,ps)∈G/\(∀x∈e.2,x∈ps)/\e.2.length<=ps.length
 |0,e,h=>⟨e.2,h,λx hx=>hx,Zzm _⟩
 |n+1,e,h=>by
  obtain⟨ps,h1,h2,_,h3⟩:=T2 h
  obtain⟨qs,q1,q2,q3⟩:=Mv n h1
  exact⟨qs,q1,λx hx=>q2 x (h2 x hx).1,by have h3':e.2.length<=ps.length:=h3;have q3':ps.length<=qs.length:=q3;omega⟩
def Low(G:Gr)(r:Str->Nat):Prop:=∀e∈G,∀x∈e.2,r x<r e.1
theorem dj{G:Gr}{r:Str->Nat}(h:Low G r):∀(n:Nat) (e:Str×List Str),e∈T1 n G->n<=r e.1
 |0,e,_=>Zy0 _
 |n+1,e,he=>by
  obtain⟨ps,h1,h2,h3,_⟩:=T2 he
  obtain⟨qs,q1,q2,_⟩:=Mv n h1
  cases hx:e.2 with
  |nil=>exact absurd hx h3
  |cons x t =>
   have hm:x∈e.2:=by rw[hx];exact Zzf
   obtain⟨m1,m2⟩:=h2 x hm
   obtain⟨y,hy,ey⟩:=Zzv.mp m2
   have lo:=dj h n y hy
   have lt:=h _ q1 x (q2 x m1)
   rw[ey] at lo
   have lt:r x<r e.1:=lt
   omega
theorem q8{G:Gr}{r:Str->Nat}{n:Nat}(h:Low G r)(hr:∀e∈G,r e.1<n):T1 n G=[]:=by
 cases hc:T1 n G with
 |nil=>rfl
 |cons e t =>
  have he:e∈T1 n G:=by rw[hc];exact Zzf
  have h1:=dj h n e he
  obtain⟨ps,h2,_⟩:=Mv n he
  have h3:=hr _ h2
  have h3:r e.1<n:=h3
  omega
def PDk(H:Hp)(kvs:List (Key×V))(G:Gr):Prop:=Paired (λ(e:Str×List Str) (kv:Key×V)=>kv.1=.inr e.1/\∃l,kv.2=.ref l/\H l=some (.lst (e.2.map V.str))) G kvs
theorem PDk.mono{H H':Hp}{kvs:List (Key×V)}{G:Gr}(h:PDk H kvs G)(k:∀l xs,H l=some (.lst xs)->H' l=some (.lst xs)):PDk H' kvs G :=
 Paired.mapP h λe kv ⟨h1,l,h2,h3⟩=>⟨h1,l,h2,k l _ h3⟩
theorem PDk.keys:∀{H:Hp} {kvs:List (Key×V)} {G:Gr},PDk H kvs G->kvs.map (·.1)=(Co G).map Zxk
 |_,_,_,.nil=>rfl
 |_,_,_,.cons r t=>by
  unfold Co
  rw[Zzp,Zzp,Zzp,r.1]
  exact congrArg _ (PDk.keys t)
theorem PDk.get:∀{H:Hp} {kvs:List (Key×V)} {G:Gr} {i:Nat} {e:Str×List Str},PDk H kvs G->G[i]?=some e->∃l,kvs[i]?=some (.inr e.1,.ref l)/\H l=some (.lst (e.2.map V.str))
 |_,_,_,_,_,.nil,h=>by simp at h
 |_,(k,v)::_,_,0,e,.cons r _,h=>by
  simp at h
  subst h
  obtain⟨h1,l,h2,h3⟩:=r
  have h1:k=_:=h1
  have h2:v=_:=h2
  exact⟨l,by rw[h1,h2];rfl,h3⟩
 |_,_::_,_,i+1,e,.cons _ t,h=>by
  obtain⟨l,q⟩:=PDk.get (i:=i) (e:=e) t (by simpa using h)
  exact⟨l,by simpa using q.1,q.2⟩
theorem PDk.get':∀{H:Hp} {kvs:List (Key×V)} {G:Gr} {i:Nat} {k:Key} {v:V},PDk H kvs G->kvs[i]?=some (k,v)->∃e l,G[i]?=some e/\k=.inr e.1/\v=.ref l/\H l=some (.lst (e.2.map V.str))
 |_,_,_,_,_,_,.nil,h=>by simp at h
 |_,_,e::_,0,k,v,.cons r _,h=>by
  simp at h
  subst h
  obtain⟨h1,l,h2,h3⟩:=r
  exact⟨e,l,rfl,h1,h2,h3⟩
 |_,_,_::_,i+1,k,v,.cons _ t,h=>by
  obtain⟨e,l,q⟩:=PDk.get' (i:=i) t (by simpa using h)
  exact⟨e,l,by simpa using q.1,q.2⟩
theorem Rj{κ:Type}[DecidableEq κ]:∀{kvs:List (κ×V)} {i:Nat} {k:κ} {v:V},(kvs.map (·.1)).Nodup->kvs[i]?=some (k,v)->Fk kvs k=some v
 |[],_,_,_,_,h=>by simp at h
 |p::r,0,k,v,hn,h=>by
  simp at h
  subst h
  exact G0 rfl
 |p::r,i+1,k,v,hn,h=>by
  have h':r[i]?=some (k,v):=by simpa using h
  have hn':(p.1::r.map (·.1)).Nodup:=hn
  obtain⟨h1,h2⟩:=Zy7.mp hn'
  have hm:k∈r.map (·.1):=Zzv.mpr ⟨(k,v),Zzr h',rfl⟩
  rw[Fw (λe=>h1 (e▸hm))]
  exact Rj h2 h'
theorem kg{κ:Type}[DecidableEq κ](kvs:List (κ×V))(k:κ):(Fk kvs k).isSome=decide (k∈kvs.map (·.1)):=by
 rw[<- Js]
 induction kvs with
 |nil=>rfl
 |cons p r ih =>
  rw[Zw4,ih,Zzp]
  by_cases h:p.1=k
  ·subst h;simp
  ·have h':¬ k=p.1:=λe=>h e.symm
   simp[h,h']
theorem jc{xs:List Str}(h:xs.Nodup):(xs.map (Zxk:Str->Key)).Nodup:=by
 induction xs with
 |nil=>exact Zwy
 |cons x r ih =>
  obtain⟨h1,h2⟩:=Zy7.mp h
  rw[Zzp]
  refine Zy7.mpr ⟨λm=>?_,ih h2⟩
  obtain⟨y,hy,e⟩:=Zzv.mp m
  cases e
  exact h1 hy
theorem PDk.has{H:Hp}{kvs:List (Key×V)}{G:Gr}(h:PDk H kvs G)(x:Str):(Fk kvs (.inr x)).isSome=decide (x∈Co G):=by
 rw[kg,h.keys]
 congr 1
 apply propext
 constructor
 ·intro m
  obtain⟨y,hy,e⟩:=Zzv.mp m
  cases e
  exact hy
 ·exact λm=>Zzv.mpr ⟨x,m,rfl⟩
theorem S6{α β:Type}{F:α->β->Prop}:∀{a c:List α} {b d:List β},Paired F a b->Paired F c d->Paired F (a++c) (b++d)
 |_,_,_,_,.nil,s=>s
 |_,_,_,_,.cons r t,s=>.cons r (S6 t s)
theorem PDk.snoc{H:Hp}{kvs:List (Key×V)}{G:Gr}{n:Str}{l:Addr}{ps:List Str}(h:PDk H kvs G)(hn:n∉Co G)(hl:H l=some (.lst (ps.map V.str))):PDk H (Jc kvs (.inr n) (.ref l)) (G++[(n,ps)]):=by
 have hv:Fk kvs (.inr n)=none:=by
  have:=h.has n
  rw[decide_eq_false hn] at this
  cases e:Fk kvs (.inr n) with
  |none=>rfl
  |some v=>rw[e] at this;cases this
 rw[S1 _ hv]
 exact S6 h (.cons ⟨rfl,l,rfl,hl⟩ .nil)
theorem PDk.len{H:Hp}{kvs:List (Key×V)}{G:Gr}(h:PDk H kvs G):kvs.length=G.length:=(Paired.length h).symm
end NP
namespace L2
open PySem PySem.Spec PyProof.Rows
theorem ve:typeLookup (.type "list_reverseiterator") "__len__" = pure none:=by rw[typeLookup_type,builtinLookup_eq_fast];kernel_rfl
theorem nk:typeLookup (.type "list_reverseiterator") "__length_hint__" = pure (some (.builtin "list_reverseiterator.__length_hint__")):=by rw[typeLookup_type,builtinLookup_eq_fast];kernel_rfl
section
variable {prog:Program}{w:World}{A:Around}{E:Value->Shared->Prop}{s:Shared}
theorem om{r l:Addr}{i:Int}{Q:Bool->Shared->Prop}(hr:s.heap.IsRevIter r l i)(h:Q false s):wpAny (model prog w) A (Builtin.List.listLengthHint (.ref r)) Q E s:=by
 unfold Builtin.List.listLengthHint
 refine wpAny_bind (wpAny_specialOf hr.typeIs ve ?_)
 refine wpAny_bind (m:=specialOf (Value.ref r) (Str.ofString "__length_hint__")) (wpAny_specialOf hr.typeIs nk ?_)
 generalize hid:("list_reverseiterator.__length_hint__" : String)=idr
 wp_delta
 rw[show splitId idr=some ("list_reverseiterator", "__length_hint__") from by subst hid;decide +kernel]
 subst hid
 exact wpAny_bind (wpAny_isInstance (b:=true) hr.typeIs (by rw[isSubtype_type];kernel_rfl) (wpAny_pure h))
theorem oj{R:Result->Shared->Prop}{r l S:Addr}{items:Array Value}(hh:A.handled=none)(hr:s.heap.IsRevIter r l ((items.size:Int) - 1))(hl:s.heap.IsList l items)(nlr:l≠r)(nSr:S≠r)(nSl:S≠l)(hz:items.size<=sizeLine)
  (hS:s.heap.get? S=some {cls:=.type "list",data:=.seq #[]})
  (hR:∀h' tk acc' c',(∀b o,b∉[S,r]->s.heap.get? b=some o->h'.get? b=some o)->h'.get? S=some {cls:=.type "list",dict:=none,data:=.seq acc' c',slots:=#[]} ->
   ItemsOf (λi v=>items[items.size - 1 - i]?=some v) acc' items.size->R (.ok (.ret .none)) {s with heap:=h',toks:=tk}) :
  wpAny (model prog w) A.in1 (Builtin.«list.__init__» ⟨[.ref S,.ref r],[]⟩)
   (λfin s'=>match fin with | .done f=>R (.ok f) s' | .again c'=>c'.quiet=true/\codeAny (model prog w) A c' R s') (λe s'=>R (.error e) s') s:=by
 have W:=(Walks.listRev (prog:=prog) (w:=w) (A:=A.in1) hh r l nlr items).toS
 refine wpAny_bind (m:=Builtin.List.listItems (.ref S)) ?_
 unfold Builtin.List.listItems
 refine wpAny_bind (wpAny_seqItems hS rfl (wpAny_pure ?_))
 refine wpAny_bind (m:=updateSeq S (λ_=>#[])) (wpAny_updateSeq hS rfl ?_)
 have hS2:=Zwz (Obj.mapSeq (λ_=>(#[]:Array Value))) hS rfl
 have K1:∀b o,b≠S->s.heap.get? b=some o->(s.heap.update S (Obj.mapSeq (λ_=>(#[]:Array Value)))).get? b=some o:=λb o n e=>(Zxi _ _ (Zzi n)).trans e
 generalize s.heap.update S (Obj.mapSeq (λ_=>(#[]:Array Value)))=h1 at hS2 K1
 refine wpAny_bind (wpAny_letGo ?_)
 have r1:h1.IsRevIter r l ((items.size:Int) - 1):=hr.at λo e=>K1 r o (Zzi nSr) e
 have l1:h1.IsList l items:=hl.at λo e=>K1 l o (Zzi nSl) e
 unfold Builtin.List.listExtendWith
 refine wpAny_bind (wpAny_typeOf (s:={s with heap:=h1}) r1.typeIs ?_)
 have d1:Builtin.List.listSameRef (.ref S) (.ref r)=false:=by simp[Builtin.List.listSameRef,nSr]
 rw[if_neg (by rw[d1];decide)]
 refine wpAny_bind (wpAny_pyIter_revIter (s:={s with heap:=h1}) r1 (wpAny_bind (wpAny_holding (om (s:={s with heap:=h1}) r1 ?_))))
 rw[if_neg (by decide)]
 refine wpAny_pure ⟨plainId_quiet F.plain_extend_loop _,codeAny_extend_loopS W hz S (by simp[nSr,nSl]) .none items.size 0 _ #[] _ rfl (Zy0 _) ⟨Zy0 _,by simpa using r1,l1⟩ hS2 (ItemsOf.nil _) λs' acc' c' hm hS' ha=>?_⟩
 rw[Moved.eq_with hm]
 refine hR s'.heap s'.toks acc' c' (λb o n e=>hm.heap b o n (K1 b o (λz=>n (by simp[z])) e)) hS' ha
theorem nv{r l:Addr}{items:Array Value}{Q:Value->Shared->Prop}(hh:A.handled=none)(hr:s.heap.IsRevIter r l ((items.size:Int) - 1))(hl:s.heap.IsList l items)(nlr:l≠r)(hz:items.size<=sizeLine)
  (hQ:∀h' tk acc' c',(∀b o,b≠r->s.heap.get? b=some o->h'.get? b=some o)->h'.get? s.heap.objs.size=some {cls:=.type "list",dict:=none,data:=.seq acc' c',slots:=#[]} ->
   ItemsOf (λi v=>items[items.size - 1 - i]?=some v) acc' items.size->Q (.ref s.heap.objs.size) {s with heap:=h',toks:=tk}):wpAny (model prog w) A (call (.type "list") [.ref r]) Q E s:=by
 have lr:r<s.heap.objs.size:=by obtain⟨o,e,_⟩:=hr;exact Zzb e
 have ll:l<s.heap.objs.size:=by obtain⟨o,e,_⟩:=hl;exact Zzb e
 refine callType_codes (Q₁:=λobj t=>obj=.ref s.heap.objs.size/\t={s with heap:=s.heap.push {cls:=.type "list",data:=.seq #[]}}) F.called_list (F.typeCall_list_1 _) F.entry_list_init (code_list_new _ ⟨rfl,rfl⟩) λobj t ht=>?_
 obtain⟨rfl,rfl⟩:=ht
 have nS:(s.heap.push {cls:=.type "list",data:=.seq #[]}).get? s.heap.objs.size=some {cls:=.type "list",data:=.seq #[]}:=Zze _ rfl
 refine⟨⟨_,nS,rfl⟩,F.args_list_init_2 _ _,oj (A:=A.in1) hh (hr.at λo e=>Zzx _ e) (hl.push _) nlr (Zxe lr) (Zxe ll) hz nS λh' tk acc' c' hk hS' ha=>?_⟩
 refine⟨rfl,hQ h' tk acc' c' (λb o n e=>hk b o ?_ (Zzx _ e)) hS' ha⟩
 simp only[Zzt,Zzj,or_false,not_or]
 exact⟨Zyb (Zzb e),n⟩
end
theorem j6{items:List Value}{acc:Array Value}(h:ItemsOf (λi v=>items.toArray[items.toArray.size - 1 - i]?=some v) acc items.toArray.size):acc=items.reverse.toArray:=by
 obtain⟨h1,h2⟩:=h
 have h1:acc.size=items.length:=by rw[h1,Zzl]
 have h2:∀j v,acc[j]?=some v->items[items.length - 1 - j]?=some v:=λj v e=>by simpa using h2 j v e
 have e:acc.toList=items.reverse:=by
  apply Zx5
  intro j
  cases e:acc[j]? with
  |none =>
   have:acc.size<=j:=by simpa using e
   rw[Zy9 (by rw[Zwr];exact this),Zy9 (by rw[Zux];omega)]
  |some v =>
   have q:=h2 j v e
   have lt:j<acc.size:=(Array.getElem?_eq_some_iff.mp e).1
   rw[List.getElem?_reverse (by omega),q,Zv8,e]
 rw[<- e]
section
variable {X:Cx}
def Ef(te:TE):TE:=λZ H Q=>te Z H λx H1=>∃a xs,x=.ref a/\H1 a=some (.lst xs)/\∀p,H1 p=none->Q (.ref p) (upd H1 p (.lst xs.reverse))
theorem ug{e:Expr}{te:TE}{p1 p2 p3 p4:Pos}(hc:X.calm=true)(hg:Gl X "list")(hm:X.mg "list" = none)(hg2:Gl X "reversed")(hm2:X.mg "reversed" = none)(he:PE X e te)(hn:Fp [e]=true:=by rfl) :
  PE X (.Call (.Name "list" p1) [.Call (.Name "reversed" p2) [e] [] p3] [] p4) (Ef te):=by
 intro pins s Z H Q I h
 refine wpAny_Call_Name_kw (Jh I hg hm NP.wg ?_ (by decide) (by decide))
 refine Zxq (Zur ?_) rfl rfl
 refine wpAny_Call_Name_kw (Jh I hg2 hm2 NP.Z4 ?_ (by decide) (by decide))
 refine Zxq (thn ((A3 he A1 hn) p3 pins s Z H (λvs H1=>match vs with | [x]=>∃a xs,x=.ref a/\H1 a=some (.lst xs)/\∀p,H1 p=none->Q (.ref p) (upd H1 p (.lst xs.reverse)) | _=>False) I h) λus s1 ⟨vs,H1,I1,r1,hv⟩=>?_) (Fe hn) rfl
 match vs,hv,r1 with
 |[x],⟨a,xs,ea,ha,q⟩,r1 =>
  subst ea
  obtain⟨u,rfl,ru⟩:=K4 r1
  cases ru
  obtain⟨its,rv,hl,hlt⟩:=Cg I1 ha
  have hlen:=rv.length
  obtain⟨hz,_⟩:=I1.hok a _ ha
  refine call_reversed_list hl (Calls.spliced_nil ?_)
  have sz:(s1.heap.push (revObj a ((its.toArray.size:Int) - 1))).objs.size=s1.heap.objs.size+1:=Zxp ..
  have fr:=I1.fpOk (Zzm _) (I1.hok.fresh (Zzm _))
  have nar:a≠s1.heap.objs.size:=Zyb hlt
  refine nv (s:={s1 with heap:=s1.heap.push (revObj a ((its.toArray.size:Int) - 1))}) (I1.ok.hd hc) ⟨_,Zze _ rfl,rfl,rfl⟩ (hl.push _) nar (by rw[Zzl];omega) λh' tk acc c hk hS ha'=>?_
  have ea:=j6 ha'
  subst ea
  have sz2:s1.heap.objs.size<=(s1.heap.push (revObj a ((its.toArray.size:Int) - 1))).objs.size:=by rw[sz];exact Nat.le_succ _
  have kk:∀b o,s1.heap.get? b=some o->h'.get? b=some o:=λb o e=>hk b o (Zyb (Zzb e)) (Zzx _ e)
  exact⟨.ref _,_,I1.laid (t':=tk) (o:=.lst xs.reverse) kk sz2 ⟨by rw[Zux];exact hz,its.reverse,c,rv.reverse,hS⟩,rfl,q _ (I1.hok.fresh sz2)⟩
end
theorem Io{K:Zzw}:jv 2 (Ys K 2 (Gs (Ci 0) (Gs (Ci 1) gNil))):=λv Z H Q h=>by
 obtain⟨a,xs,e,hq,hl,v1,r1,e1,v2,r2,e2,e3,q⟩:=h
 exact⟨a,xs,e,hq,hl,v1,r1,e1,v2,r2,e2,e3,⟨⟨by simp,λj hj=>by rw[Zxj (by omega),Zxj (by omega)]⟩,q⟩⟩
theorem jf{K:Zzw}:jv 3 (Ys K 3 (Gs (Ci 0) (Gs (Ci 1) (Gs (Ci 2) gNil)))):=λv Z H Q h=>by
 obtain⟨a,xs,e,hq,hl,v1,r1,e1,v2,r2,e2,v3,r3,e3,e4,q⟩:=h
 exact⟨a,xs,e,hq,hl,v1,r1,e1,v2,r2,e2,v3,r3,e3,e4,⟨⟨by simp,λj hj=>by rw[Zxj (by omega),Zxj (by omega),Zxj (by omega)]⟩,q⟩⟩
theorem gt3{K:Zzw}{i j k:Nat}{p:Addr}{x y z:V}{Z:St}{H:Hp}{Q:St->Hp->Prop}(e:H p=some (.tup [x,y,z]))(h:Q (((Z.set i (some x)).set j (some y)).set k (some z)) H) :
  Ys K 3 (Gs (Ci i) (Gs (Ci j) (Gs (Ci k) gNil))) (.ref p) Z H Q:=⟨p,_,rfl,SqT.of e,rfl,_,_,rfl,_,_,rfl,_,_,rfl,rfl,h⟩
theorem z8{J:It}{n:Nat}{yl:Nat->List V->Prop}{ok:Hp->Prop}{own:List Str}{cap:List Nat}{g:TG}{tt:TT}{te:TE}{Z:St}{H:Hp}{Q:VK}(G:Vd J n yl ok)(hn:n<=sizeLine)(Pv:Nat->List V->Hp->Prop)(h0:Pv 0 [] H)(hok:∀i acc H,i<=n->Pv i acc H->ok H)
  (hlen:∀i acc H,Pv i acc H->acc.length<=i)
  (hs:∀i ys p acc H,i<n->yl i ys->Pv i acc H->H p=none->g (.ref p) (Fd own cap Z) (upd H p (.tup ys)) λσ2 H2=>tt σ2 H2 λb H3=>if b=true then te σ2 H3 λy H4=>Pv (i+1) (acc++[y]) H4 else Pv (i+1) acc H3)
  (hd:∀acc H,Pv n acc H->∀p,H p=none->Q (.ref p) (upd H p (.lst acc))):NP.Zc J own cap g tt te Z H Q:=by
 refine⟨λi m acc H=>m=n - i/\i<=n/\Pv i acc H,⟨n,by simp,Zy0 _,h0⟩,?_⟩
 rintro i m acc H ⟨rfl,hi,p⟩
 have q:=hok i acc H hi p
 have hl:=hlen i acc H p
 refine⟨by omega,?_⟩
 by_cases hlt:i<n
 ·refine .inr ⟨G.go i H hlt q,by omega,Pv (i+1),λacc' H' p'=>⟨n - (i+1),by omega,rfl,hlt,p'⟩,λx H' y=>?_⟩
  obtain⟨a,ys,e1,e2,e3,y'⟩:=G.yld i H x H' hlt q y
  subst e1 e3
  exact hs i ys a acc H hlt y' p e2
 ·have e:i=n:=by omega
  subst e
  exact .inl ⟨G.stop H q,hd acc H p⟩
theorem Jz{J:It}{n:Nat}{yl:Nat->V->Prop}{ok:Hp->Prop}{own:List Str}{cap:List Nat}{g:TG}{tt:TT}{te:TE}{Z:St}{H:Hp}{Q:VK}(G:U0 J n yl ok)(hn:n<=sizeLine)(Pv:Nat->List V->Hp->Prop)(h0:Pv 0 [] H)(hok:∀i acc H,i<=n->Pv i acc H->ok H)
  (hlen:∀i acc H,Pv i acc H->acc.length<=i)
  (hs:∀i x acc H,i<n->yl i x->Pv i acc H->g x (Fd own cap Z) H λσ2 H2=>tt σ2 H2 λb H3=>if b=true then te σ2 H3 λy H4=>Pv (i+1) (acc++[y]) H4 else Pv (i+1) acc H3)
  (hd:∀acc H,Pv n acc H->∀p,H p=none->Q (.ref p) (upd H p (.lst acc))):NP.Zc J own cap g tt te Z H Q:=V3 G hn Pv h0 hok hlen hs hd
def Oy(ns:Nat->Int):Nat->Int
 |0=>ns 0
 |k+1=>if ns (k+1) > Oy ns k then ns (k+1) else Oy ns k
section
variable {prog:Program}{w:World}{A:Around}{R:Result->Shared->Prop}{I:Addr}{fp wr:List Addr}{n:Nat}{P:Nat->Value->Prop}{St:Nat->Heap->Prop}
theorem vp{a b:Int}{t u:Tok}{Q:Value->Shared->Prop}{E:Value->Shared->Prop}{s:Shared}(h:Q (.bool (decide (b<a))) s):wpAny (model prog w) A (richCompare .Gt (.int a t) (.int b u)) Q E s:=show wpAny _ _ (compareOp .Gt _ _) _ _ _ from gt_int h
theorem iu(kw:List (Str×Value))(W:Walks prog w A.in1 I fp wr n P St)(ns:Nat->Int)(hv:∀i v,P i v->∃t,v=.int (ns i) t)(S:Addr)(hSf:S∉fp) :
  ∀(k j:Nat) (s:Shared) (t:Tok) (c:Nat),n - (j+1)=k->j+1<=n->St (j+1) s.heap->s.heap.get? S=some {cls:=.type "list",dict:=none,data:=.seq #[.int (Oy ns j) t,.int (Oy ns j) t] c,slots:=#[]} ->
  (∀t' h' tk,(∀b o,b∉wr->b≠S->s.heap.get? b=some o->h'.get? b=some o)->R (.ok (.ret (.int (Oy ns (n - 1)) t'))) {s with heap:=h',toks:=tk}) ->
  codeAny (model prog w) A (.builtin "max.loop" ⟨[.ref I,.none,.ref S],kw⟩) R s:=by
 have nSw:S∉wr:=λh=>hSf (W.sub _ h)
 have nm:(toString "max" ++ toString ".loop" : String) = "max.loop" := by decide
 intro k
 induction k with
 |zero =>
  intro j s t c hk hj hst hS hR
  have hin:j+1=n:=by omega
  refine codeAny_builtin F.entry_max_loop ?_
  rw[Zvr F.plain_max_loop _]
  refine wpAny_bind (m:=seqItems? (.ref S)) (wpAny_seqItems hS rfl (wpAny_bind (m:=tryCatch (pyNext (.ref I)) _) (wpAny_tryCatch (W.done s _ _ (hin▸hst) λh' tk hk'=>?_))))
  refine wpAny_bind (m:=updateSeq S (λ_=>#[])) (wpAny_updateSeq (hk' S _ nSw hS) rfl (wpAny_bind (wpAny_letGo (wpAny_pure ?_))))
  have e:n - 1=j:=by omega
  rw[e] at hR
  exact hR t _ tk λb o n1 n2 q=>(Zxi _ _ (Zzi n2)).trans (hk' b o n1 q)
 |succ k ih =>
  intro j s t c hk hj hst hS hR
  have hlt:j+1<n:=by omega
  refine codeAny_builtin F.entry_max_loop ?_
  rw[Zvr F.plain_max_loop _]
  refine wpAny_bind (m:=seqItems? (.ref S)) (wpAny_seqItems hS rfl (wpAny_bind (m:=tryCatch (pyNext (.ref I)) _) (wpAny_tryCatch (W.item (j+1) s _ _ hlt hst λv h' tk hP hst' hk'=>?_))))
  obtain⟨u,rfl⟩:=hv _ _ hP
  have hS':=hk' S _ nSw hS
  refine wpAny_bind (m:=tryCatch (holding _ (richCompare .Gt _ _ >>= _)) _) (wpAny_tryCatch (wpAny_holding (wpAny_bind (vp (wpAny_bind (wpAny_holding (wpAny_truthy_bool (wpAny_bind (wpAny_letGo (wpAny_pure ?_))))))))))
  by_cases hb:Oy ns j<ns (j+1)
  ·rw[decide_eq_true hb]
   simp only[if_true]
   refine wpAny_bind (wpAny_updateSeq hS' rfl (wpAny_bind (wpAny_letGo ?_)))
   rw[nm]
   have eb:Oy ns (j+1)=ns (j+1):=if_pos hb
   refine wpAny_pure ⟨plainId_quiet F.plain_max_loop _,ih (j+1) _ u _ (by omega) hlt (W.frame _ _ _ hst' λb hbf o e=>?_) (by rw[eb];exact Zwz _ hS' rfl) λt' h'' tk' hk2=>?_⟩
   ·exact(Zxi _ _ (λh:S=b=>hSf (by rw[h];exact hbf))).trans e
   ·exact hR t' h'' tk' λb o n1 n2 e=>hk2 b o n1 n2 ((Zxi _ _ (Zzi n2)).trans (hk' b o n1 e))
  ·rw[decide_eq_false hb]
   simp only[Zxx,if_false]
   refine wpAny_bind (wpAny_letGo ?_)
   rw[nm]
   have eb:Oy ns (j+1)=Oy ns j:=if_neg hb
   refine wpAny_pure ⟨plainId_quiet F.plain_max_loop _,ih (j+1) _ t c (by omega) hlt hst' (by rw[eb];exact hS') λt' h'' tk' hk2=>?_⟩
   exact hR t' h'' tk' λb o n1 n2 e=>hk2 b o n1 n2 (hk' b o n1 e)
theorem ar(kw:List (Str×Value))(W:Walks prog w A.in1 I fp wr n P St)(ns:Nat->Int)(hv:∀i v,P i v->∃t,v=.int (ns i) t)(S:Addr)(hSf:S∉fp)(hn:0<n){s:Shared}{c:Nat}(hst:St 0 s.heap)
  (hS:s.heap.get? S=some {cls:=.type "list",dict:=none,data:=.seq #[] c,slots:=#[]})
  (hR:∀t' h' tk,(∀b o,b∉wr->b≠S->s.heap.get? b=some o->h'.get? b=some o)->R (.ok (.ret (.int (Oy ns (n - 1)) t'))) {s with heap:=h',toks:=tk}) :
  codeAny (model prog w) A (.builtin "max.loop" ⟨[.ref I,.none,.ref S],kw⟩) R s:=by
 have nSw:S∉wr:=λh=>hSf (W.sub _ h)
 have nm:(toString "max" ++ toString ".loop" : String) = "max.loop" := by decide
 refine codeAny_builtin F.entry_max_loop ?_
 rw[Zvr F.plain_max_loop _]
 refine wpAny_bind (m:=seqItems? (.ref S)) (wpAny_seqItems hS rfl (wpAny_bind (m:=tryCatch (pyNext (.ref I)) _) (wpAny_tryCatch (W.item 0 s _ _ hn hst λv h' tk hP hst' hk'=>?_))))
 obtain⟨u,rfl⟩:=hv _ _ hP
 have hS':=hk' S _ nSw hS
 refine wpAny_bind (m:=updateSeq S _) (wpAny_updateSeq hS' rfl ?_)
 rw[nm]
 refine wpAny_pure ⟨plainId_quiet F.plain_max_loop _,iu kw W ns hv S hSf _ 0 _ u _ rfl hn (W.frame _ _ _ hst' λb hbf o e=>?_) (Zwz _ hS' rfl) λt' h'' tk' hk2=>?_⟩
 ·exact(Zxi _ _ (λh:S=b=>hSf (by rw[h];exact hbf))).trans e
 ·exact hR t' h'' tk' λb o n1 n2 e=>hk2 b o n1 n2 ((Zxi _ _ (Zzi n2)).trans (hk' b o n1 e))
theorem ir{d:Value}(W:Walks prog w A.in1 I fp wr 0 P St)(S:Addr)(hSf:S∉fp){s:Shared}{c:Nat}(hst:St 0 s.heap)
  (hS:s.heap.get? S=some {cls:=.type "list",dict:=none,data:=.seq #[] c,slots:=#[]})
  (hR:∀h' tk,(∀b o,b∉wr->b≠S->s.heap.get? b=some o->h'.get? b=some o)->R (.ok (.ret d)) {s with heap:=h',toks:=tk}) :
  codeAny (model prog w) A (.builtin "max.loop" ⟨[.ref I,.none,.ref S],[("default",d)]⟩) R s:=by
 refine codeAny_builtin F.entry_max_loop ?_
 rw[Zvr F.plain_max_loop _]
 refine wpAny_bind (m:=seqItems? (.ref S)) (wpAny_seqItems hS rfl (wpAny_bind (m:=tryCatch (pyNext (.ref I)) _) (wpAny_tryCatch (W.done s _ _ hst λh' tk hk'=>?_))))
 exact wpAny_bind (wpAny_rule (wpAny_pure (hR h' tk λb o n1 _ e=>hk' b o n1 e)))
end
def Sm(ns:List Int):Int:=Oy (λi=>(ns[i]?).getD 0) (ns.length - 1)
def Jg(ns:List Int):Int:=if ns=[] then 0 else Sm ns
theorem Z5(f:Nat->Int):∀k,∃i,i<=k/\Oy f k=f i
 |0=>⟨0,Zzm _,rfl⟩
 |k+1=>by
  rw[Oy]
  split
  ·exact⟨k+1,Zzm _,rfl⟩
  ·obtain⟨i,h1,h2⟩:=Z5 f k
   exact⟨i,by omega,h2⟩
theorem fk(f:Nat->Int):∀k i,i<=k->f i<=Oy f k
 |0,i,h=>by
  have:i=0:=by omega
  subst this
  exact Zy3 _
 |k+1,i,h=>by
  rw[Oy]
  by_cases hi:i=k+1
  ·subst hi
   split<;>omega
  ·have:=fk f k i (by omega)
   split<;>omega
theorem M4{ns:List Int}(h:ns≠[]):Sm ns∈ns:=by
 have hl:0<ns.length:=List.length_pos_iff.mpr h
 obtain⟨i,h1,h2⟩:=Z5 (λi=>(ns[i]?).getD 0) (ns.length - 1)
 unfold Sm
 rw[h2]
 have hi:i<ns.length:=by omega
 simp only[Zzs hi,Zvs]
 exact Zvq hi
theorem df{ns:List Int}{x:Int}(h:x∈ns):x<=Sm ns:=by
 obtain⟨i,hi,e⟩:=Zx9.mp h
 have:=fk (λi=>(ns[i]?).getD 0) (ns.length - 1) i (by omega)
 simp only[Zzs hi,Zvs,e] at this
 exact this
theorem vd{ns:List Int}{m:Int}(h1:m∈ns)(h2:∀x∈ns,x<=m):Sm ns=m:=by
 have a:=df h1
 have b:=h2 _ (M4 (List.ne_nil_of_mem h1))
 omega
theorem ju(a d:Value):argsOk "max" ⟨[a],[(Str.ofString "default",d)]⟩:=by unfold argsOk;kernel_rfl
section
variable {X:Cx}
theorem Ye{pins:List (Addr×Obj)}{Z:St}{H:Hp}{s:Shared}{a:Addr}{ns:List Int}{Q:VK}{E:Value->Shared->Prop}{kw:List (Str×Value)}(hc:X.calm=true)(I:Inv X pins Z H s)(ha:H a=some (.lst (ns.map V.int)))(hn:ns≠[])(q:Q (.int (Sm ns)) H) :
  codeAny (model X.prog X.w) X.A (.builtin "max.loop" ⟨[.ref s.heap.objs.size,.none,.ref (s.heap.objs.size+1)],kw⟩) (λr s'=>match r with | .ok (.ret v)=>EP X pins Z Q v s' | .ok _=>False | .error e=>E e s')
   {s with heap:=(s.heap.push {cls:=.type "list_iterator",data:=.fields #[.ref a,.int 0 0]}).push {cls:=.type "list",data:=.seq #[]}}:=by
 obtain⟨its,rv,hl,hlt⟩:=Cg I ha
 have hlen:its.length=ns.length:=by have:=rv.length;rw[Zzz] at this;exact this.symm
 have sz:(s.heap.push {cls:=.type "list_iterator",data:=.fields #[.ref a,.int 0 0]}).objs.size=s.heap.objs.size+1:=Zxp ..
 have gI:((s.heap.push {cls:=.type "list_iterator",data:=.fields #[.ref a,.int 0 0]}).push {cls:=.type "list",data:=.seq #[]}).get? s.heap.objs.size=some {cls:=.type "list_iterator",data:=.fields #[.ref a,.int 0 0]}:=Zzx _ (Zze _ rfl)
 have gS:((s.heap.push {cls:=.type "list_iterator",data:=.fields #[.ref a,.int 0 0]}).push {cls:=.type "list",data:=.seq #[]}).get? (s.heap.objs.size+1)=some {cls:=.type "list",data:=.seq #[]}:=by
  have:=Zze (s.heap.push {cls:=.type "list_iterator",data:=.fields #[.ref a,.int 0 0]}) (o:={cls:=.type "list",data:=.seq #[]}) rfl
  rw[sz] at this
  exact this
 have hpos:0<its.toArray.size:=by rw[Zzl,hlen];exact List.length_pos_iff.mpr hn
 have nS:(s.heap.objs.size+1:Addr)∉[s.heap.objs.size,a]:=by
  simp only[Zzt,Zzj,or_false,not_or]
  exact⟨Nat.succ_ne_self _,Zxe (Zwd hlt)⟩
 refine ar kw (Walks.list (prog:=X.prog) (w:=X.w) (A:=X.A.in1) (I.ok.hd hc) s.heap.objs.size a (Zyb hlt) its.toArray) (λi=>(ns[i]?).getD 0) (λi v hP=>Rh rv (by simpa using hP)) (s.heap.objs.size+1) nS hpos ⟨⟨_,gI,rfl,rfl⟩,(hl.push _).push _⟩ gS λt' h' tk hk=>?_
 rw[Zzl,hlen]
 refine⟨.int (Sm ns),H,I.kept λb o e=>hk b o ?_ ?_ (Zzx _ (Zzx _ e)),⟨_,rfl⟩,q⟩
 ·simp only[Zzt,Zzj,or_false]
  exact Zyb (Zzb e)
 ·exact Zyb (Zwd (Zzb e))
def rMaxL:List V->Hp->VK->Prop:=λvs H Q=>∃a ns,vs=[.ref a]/\H a=some (.lst (ns.map V.int))/\ns≠[]/\Q (.int (Sm ns)) H
theorem V4(hc:X.calm=true):CallR X (.builtin "max") rMaxL:=by
 intro pins s Z H xs us Q I r h
 obtain⟨a,ns,rfl,ha,hn,q⟩:=h
 obtain⟨u,rfl,ru⟩:=K4 r
 cases ru
 obtain⟨its,rv,hl,hlt⟩:=Cg I ha
 have nm:(toString "max" ++ toString ".loop" : String) = "max.loop" := by decide
 have sz:(s.heap.push {cls:=.type "list_iterator",data:=.fields #[.ref a,.int 0 0]}).objs.size=s.heap.objs.size+1:=Zxp ..
 refine call_function_tree F.kind_max F.plain_max F.entry_max (F.args_max1 _) ?_
 refine wpAny_bind (m:=Zwk "max" ["key", "default"] 0 ⟨[],[]⟩) (wpAny_of_eq (show Zwk "max" ["key", "default"] 0 ⟨[],[]⟩=pure [none,none] from rfl) (wpAny_bind (wpAny_pure (wpAny_bind (wpAny_pyIter_list hl (wpAny_bind (wpAny_newObj_type ?_)))))))
 rw[nm]
 refine wpAny_pure ⟨plainId_quiet F.plain_max_loop _,?_⟩
 have:=Ye (E:=X.xe) (kw:=[]) hc I ha hn q
 rw[<- sz] at this
 exact this
def Ee(te:TE):TE:=λZ H Q=>te Z H λx H1=>∃a ns,x=.ref a/\H1 a=some (.lst (ns.map V.int))/\Q (.int (Jg ns)) H1
theorem ue{e:Expr}{te:TE}{p1 p2 p3 kp:Pos}{j}(hc:X.calm=true)(hg:Gl X "max")(hm:X.mg "max" = none)(he:PE X e te)(hn:Fp [e]=true:=by rfl) :
  PE X (.Call (.Name "max" p1) [e] [⟨some "default",.Constant (.int 0) j p3,kp⟩] p2) (Ee te):=by
 intro pins s Z H Q I h
 refine wpAny_Call_Name_kw (Jh I hg hm NP.Ox ?_ (by decide) (by decide))
 refine callWith_kw (thn ((A3 he A1 hn) p2 pins s Z H (λvs H1=>match vs with | [x]=>∃a ns,x=.ref a/\H1 a=some (.lst (ns.map V.int))/\Q (.int (Jg ns)) H1 | _=>False) I h) λus s1 ⟨vs,H1,I1,r1,hv⟩=>kws_cons (wpAny_Constant_int (kws_nil ?_))) ?_ ?_ rfl rfl
 ·match vs,hv,r1 with
  |[x],⟨a,ns,ea,ha,q⟩,r1 =>
  subst ea
  obtain⟨u,rfl,ru⟩:=K4 r1
  cases ru
  have I2:=I1.tok (s1.toks+1)
  obtain⟨its,rv,hl,hlt⟩:=Cg I2 ha
  have nm:(toString "max" ++ toString ".loop" : String) = "max.loop" := by decide
  have sz:(s1.heap.push {cls:=.type "list_iterator",data:=.fields #[.ref a,.int 0 0]}).objs.size=s1.heap.objs.size+1:=Zxp ..
  refine kmk_tree F.kind_max F.plain_max F.entry_max (ju _ _) ?_
  refine wpAny_bind (m:=Zwk "max" ["key", "default"] 0 ⟨[],[(Str.ofString "default",.int 0 s1.toks)]⟩) (wpAny_of_eq (show Zwk "max" ["key", "default"] 0 ⟨[],[(Str.ofString "default",.int 0 s1.toks)]⟩=pure [none,some (.int 0 s1.toks)] from rfl) (wpAny_bind (wpAny_pure (wpAny_bind (wpAny_pyIter_list hl (wpAny_bind (wpAny_newObj_type ?_)))))))
  rw[nm]
  refine wpAny_pure ⟨plainId_quiet F.plain_max_loop _,?_⟩
  by_cases hz:ns=[]
  ·subst hz
   have gI:((s1.heap.push {cls:=.type "list_iterator",data:=.fields #[.ref a,.int 0 0]}).push {cls:=.type "list",data:=.seq #[]}).get? s1.heap.objs.size=some {cls:=.type "list_iterator",data:=.fields #[.ref a,.int 0 0]}:=Zzx _ (Zze _ rfl)
   have gS:((s1.heap.push {cls:=.type "list_iterator",data:=.fields #[.ref a,.int 0 0]}).push {cls:=.type "list",data:=.seq #[]}).get? (s1.heap.push {cls:=.type "list_iterator",data:=.fields #[.ref a,.int 0 0]}).objs.size=some {cls:=.type "list",data:=.seq #[]}:=Zze _ rfl
   have e0:its=[]:=by cases rv;rfl
   subst e0
   have nS:(s1.heap.push {cls:=.type "list_iterator",data:=.fields #[.ref a,.int 0 0]}).objs.size∉[s1.heap.objs.size,a]:=by
    rw[sz]
    simp only[Zzt,Zzj,or_false,not_or]
    exact⟨Nat.succ_ne_self _,Zxe (Zwd hlt)⟩
   refine ir (Walks.list (prog:=X.prog) (w:=X.w) (A:=X.A.in1) (I.ok.hd hc) s1.heap.objs.size a (Zyb hlt) ([]:List Value).toArray) _ nS ⟨⟨_,gI,rfl,rfl⟩,(hl.push _).push _⟩ gS λh' tk hk=>?_
   refine⟨.int 0,H1,I1.kept λb o e=>hk b o ?_ ?_ (Zzx _ (Zzx _ e)),⟨_,rfl⟩,q⟩
   ·simp only[Zzt,Zzj,or_false]
    exact Zyb (Zzb e)
   ·rw[sz]
    exact Zyb (Zwd (Zzb e))
  ·have q':Q (.int (Sm ns)) H1:=by unfold Jg at q;rw[if_neg hz] at q;exact q
   have:=Ye (E:=X.xe) (kw:=[("default",.int 0 s1.toks)]) hc I2 ha hz q'
   rw[<- sz] at this
   exact this
 ·rw[Fe hn];rfl
 ·exact Gd hn
end
section
variable {X:Cx}
def rGetL:V->V->Hp->VK->Prop:=λo i H Q=>∃p xs k v,o=.ref p/\i=.int k/\H p=some (.lst xs)/\0<=k/\xs[k.toNat]?=some v/\Q v H
theorem dz:A0l X rGetL:=by
 intro pins s Z H o i ov iv Q I ro ri h
 obtain⟨p,xs,k,v,rfl,rfl,hp,h0,hv,q⟩:=h
 cases ro
 obtain⟨t,rfl⟩:=ri
 obtain⟨its,rv,hl,hlt⟩:=Cg I hp
 obtain⟨u,hu,ru⟩:=rv.get hv
 have hlen:=rv.length
 obtain⟨hz,_⟩:=I.hok p _ hp
 have hk:k.toNat<xs.length:=(Zz4.mp hv).1
 have h63:=Nf
 exact wpAny_getItem_list hl h0 (by omega) (by simpa using hu) ⟨v,H,I,ru,q⟩
end
end L2
namespace NP
open PySem L2
def C9(n:Nat)(f:Nat->Int):List Int:=(Zxy n).map f
theorem C1(n:Nat)(f:Nat->Int):(C9 n f).length=n:=by simp[C9]
theorem D8{n:Nat}{f:Nat->Int}{i:Nat}(h:i<n):(C9 n f)[i]?=some (f i):=by simp[C9,h]
theorem Ik{n:Nat}{f:Nat->Int}{i:Nat}(h:i<n):(C9 n f).getD i 0=f i:=by rw[Zzo,D8 h];rfl
theorem Dr{n:Nat}{f g:Nat->Int}(h:∀i,i<n->f i=g i):C9 n f=C9 n g:=by
 apply Zx5
 intro i
 by_cases hi:i<n
 ·rw[D8 hi,D8 hi,h i hi]
 ·rw[Zy9 (by rw[C1];omega),Zy9 (by rw[C1];omega)]
theorem O7{n:Nat}{f:Nat->Int}{j:Nat}{v:Int}:(C9 n f).set j v=C9 n λd=>if d=j then v else f d:=by
 apply Zx5
 intro i
 by_cases hi:i<n
 ·rw[D8 hi]
  by_cases hj:j=i
  ·subst hj
   rw[Zvy (by rw[C1];exact hi),if_pos rfl]
  ·rw[Zxj hj,D8 hi,if_neg (λe=>hj e.symm)]
 ·rw[Zy9 (by rw[List.length_set,C1];omega),Zy9 (by rw[C1];omega)]
theorem Jb(n:Nat)(f:Nat->Int):C9 (n+1) f=C9 n f++[f n]:=by
 unfold C9
 rw[List.range_succ,Zzq]
 rfl
theorem Rz(k:Nat):(Zxm k [V.int 0]).flatten=(C9 k λ_=>0).map V.int:=by
 induction k with
 |zero=>rfl
 |succ k ih =>
  rw[List.replicate_succ',Zw6,ih,Jb,Zzq]
  rfl
def Cn{α:Type}(f:α->Int)(xs:List α):Int:=(xs.map f).sum
theorem M0{α:Type}(f:α->Int):Cn f []=0:=rfl
theorem ld{α:Type}(f:α->Int)(xs ys:List α):Cn f (xs++ys)=Cn f xs+Cn f ys:=by unfold Cn;rw[Zzq,List.sum_append]
theorem lc{α:Type}(f:α->Int)(x:α):Cn f [x]=f x:=by simp[Cn]
theorem Fv{α:Type}(f:α->Int)(x:α)(xs:List α):Cn f (x::xs)=f x+Cn f xs:=by simp[Cn]
theorem Gh{α:Type}(f:α->Int){xs:List α}{i:Nat}{x:α}(h:xs[i]?=some x):Cn f (xs.take (i+1))=Cn f (xs.take i)+f x:=by
 rw[Zyx,h,ld]
 rw[show (some x).toList=[x] from rfl,lc]
theorem U9{α:Type}{f:α->Int}{xs:List α}(h:∀x∈xs,f x=0):Cn f xs=0:=by
 induction xs with
 |nil=>rfl
 |cons x r ih=>rw[Fv,h x Zzf,ih λy hy=>h y (Zzd _ hy)];rfl
theorem M8{α:Type}{f g:α->Int}{xs:List α}(h:∀x∈xs,f x=g x):Cn f xs=Cn g xs:=by
 induction xs with
 |nil=>rfl
 |cons x r ih=>rw[Fv,Fv,h x Zzf,ih λy hy=>h y (Zzd _ hy)]
def daysN(S:Sh):Nat:=(1+Jg (S.wants.map λu=>u.2.1)).toNat
theorem Wh{ns:List Int}(h:∀x∈ns,0<=x):0<=Jg ns:=by
 unfold Jg
 split
 ·exact Zy3 _
 ·rename_i hn
  exact h _ (M4 hn)
theorem Wi{ns:List Int}{x:Int}(h:x∈ns):x<=Jg ns:=by
 unfold Jg
 rw[if_neg (List.ne_nil_of_mem h)]
 exact df h
theorem dh{ns:List Int}{b:Int}(hb:0<b)(h:∀x∈ns,x<b):Jg ns<b:=by
 unfold Jg
 split
 ·exact hb
 ·rename_i hn
  exact h _ (M4 hn)
theorem Ul(ns:List Int)(h:∀x∈ns,0<=x):Sm (0::ns)=Jg ns:=by
 refine vd ?_ (λx hx=>?_)
 ·unfold Jg
  split
  ·exact Zzf
  ·rename_i hn
   exact Zzd _ (M4 hn)
 ·rcases Zzt.mp hx with e | m
  ·rw[e];exact Wh h
  ·exact Wi m
def wAt(nm:Str)(d:Nat)(u:Wt):Int:=if u.1=nm/\u.2.1=(d:Int) then u.2.2 else 0
def cAt(d:Nat)(p:Int×Int):Int:=if p.1=(d:Int) then p.2 else 0
def bAt(lots:List Int)(lag:Int)(d:Nat):Int:=if d+lag.toNat<lots.length then lots.getD (d+lag.toNat) 0 else 0
def Gg(lots:List Int)(lag:Int):List Int:=C9 lots.length (bAt lots lag)
theorem qi(lots:List Int)(lag:Int):lots.drop lag.toNat++C9 (min lag.toNat lots.length) (λ_=>0)=Gg lots lag:=by
 unfold Gg bAt
 apply Zx5
 intro i
 by_cases hi:i<lots.length
 ·rw[D8 hi]
  by_cases h:i+lag.toNat<lots.length
  ·rw[if_pos h,Zww (by rw[Zx2];omega),Zuq,Nat.add_comm lag.toNat i,Zzs h,Zzo,Zzs h]
   rfl
  ·rw[if_neg h,Zx8 (by rw[Zx2];omega),Zx2,D8 (by omega)]
 ·rw[Zy9 (by rw[Zym,Zx2,C1];omega),Zy9 (by rw[C1];omega)]
def pAt(plan:Str->List Int)(nm:Str)(d:Nat)(w:Wr):Int:=Cn (λp:Str×Int=>if p.1=nm then p.2*bAt (plan w.name) w.lag d else 0) w.parts
def E6(S:Sh)(plan:Str->List Int)(nm:Str)(d:Nat):Int:=Cn (wAt nm d) S.wants+Cn (pAt plan nm d) S.wares
def Ck(S:Sh)(plan:Str->List Int)(nm:Str):List Int:=C9 (daysN S) (E6 S plan nm)
def Go(w:Wr)(d:Nat):Int:=(if d=0 then w.stock else 0)+Cn (cAt d) w.coming
def M7(S:Sh)(plan:Str->List Int)(w:Wr)(d:Nat):Int:=Go w d+w.gives*(plan w.name).getD d 0 - E6 S plan w.name d
def upS(f:Nat->Int):Nat->Int
 |0=>0
 |d+1=>upS f d+f d
def D1(S:Sh)(plan:Str->List Int)(w:Wr):List Int:=C9 (daysN S) λd=>upS (M7 S plan w) (d+1)
theorem ib{ps:List (Str×Int)}{nm:Str}{b:Int}(nd:(ps.map (·.1)).Nodup):Cn (λp:Str×Int=>if p.1=nm then p.2*b else 0) ps=match (ps.filter λp=>decide (p.1=nm)).map (·.2) with | []=>0 | a::_=>a*b:=by
 induction ps with
 |nil=>rfl
 |cons p r ih =>
  obtain⟨h1,h2⟩:=Zy7.mp nd
  rw[Fv]
  by_cases h:p.1=nm
  ·rw[if_pos h,Zxr,if_pos (decide_eq_true h),Zzp]
   rw[U9 λq hq=>?_]
   ·show p.2*b+0=p.2*b
    omega
   ·rw[if_neg]
    intro e
    exact h1 (Zzv.mpr ⟨q,hq,e.trans h.symm⟩)
  ·rw[if_neg h,ih h2,Zxr,if_neg (by rw[decide_eq_false h];decide),Int.zero_add]
end NP
namespace L2
open PySem PySem.Spec PyProof.Rows
def ItI(a:Addr)(o:Obj)(kvs:List (Key×V)):It:=⟨λi H=>H a=some (.frz o (.dK kvs))/\i<kvs.length,λi H x H'=>∃p k v,x=.ref p/\H p=none/\kvs[i]?=some (k,v)/\H'=upd H p (.tup [kV k,v]),λi H=>H a=some (.frz o (.dK kvs))/\kvs.length<=i⟩
section
variable {X:Cx}
def Hu(te:TE):TI:=λZ H R=>te Z H λx H1=>∃a kvs,x=.ref a/\H1 a=some (.dK kvs)/\∀o,R (ItI a o kvs) (upd H1 a (.frz o (.dK kvs)))
def xu(H:Hp)(ka kb:List (Key×V)):Prop:=∀p∈ka,∃y d e,Fk kb p.1=some y/\RD H d p.2/\RD H e y/\okD d=true/\okD e=true/\PyData.eqv d e=true
def Hn:R2:=λx y H Q=>∃a b ka kb,x=.ref a/\y=.ref b/\Rd H a (.dK ka)/\Rd H b (.dK kb)/\ka.length=kb.length/\xu H ka kb/\Q (.bl true) H
def Hl:R2:=λx y H Q=>∃a b ka kb,x=.ref a/\y=.ref b/\Rd H a (.dK ka)/\Rd H b (.dK kb)/\ka.length=kb.length/\xu H ka kb/\Q (.bl false) H
end
end L2
namespace L2
open PySem PySem.Spec PyProof.Rows PySem.W NP
def Ie(n:Nat)(key:Nat->Int){α:Type}:KasT α->(α->Prop)->Prop
 |.ret a,Q=>Q a
 |.ask i j k,Q=>i<n/\j<n/\Ie n key (k (decide (key i<key j))) Q
theorem Ji{n:Nat}{key:Nat->Int}{α β:Type}{f:α->KasT β}{Q:β->Prop}:∀{t:KasT α},Ie n key t (λa=>Ie n key (f a) Q)->Ie n key (t.bind f) Q
 |.ret _,h=>h
 |.ask _ _ _,⟨h1,h2,h3⟩=>⟨h1,h2,Ji h3⟩
theorem Im{n:Nat}{key:Nat->Int}{α:Type}{Q Q':α->Prop}(hq:∀a,Q a->Q' a):∀{t:KasT α},Ie n key t Q->Ie n key t Q'
 |.ret _,h=>hq _ h
 |.ask _ _ _,⟨h1,h2,h3⟩=>⟨h1,h2,Im hq h3⟩
def klt(key:Nat->Int)(a b:Nat):Prop:=key a<key b\/(key a=key b/\a<b)
theorem iz{key:Nat->Int}{a b c:Nat}(h1:klt key a b)(h2:klt key b c):klt key a c:=by unfold klt at *;omega
theorem Wk{key:Nat->Int}{a b:Nat}(h:klt key a b):key a<=key b:=by unfold klt at h;omega
section
variable {n:Nat}{key:Nat->Int}
abbrev pat(p:Array Nat)(k:Nat):Nat:=p.getD k 0
theorem Vu{p:Array Nat}{i j:Nat}(hj:j<=p.size)(k:Nat):pat (kas_rev p i j) k=if i<=k/\k<j then pat p (i+j - 1 - k) else pat p k:=by
 have e:=getElem?_mirror_all (i:=i) hj k
 unfold pat kas_rev
 rw[Zxs,e]
 by_cases h1:i<=k/\k<j
 ·rw[if_pos h1,if_pos h1,Zxs]
 ·rw[if_neg h1,if_neg h1,Zxs]
theorem uj{p:Array Nat}{src d:Nat}(hs:src<p.size)(hd:d<=src)(k:Nat):pat (bubble p src d) k=if k=src - d then pat p src else if src - d<k/\k<=src then pat p (k - 1) else pat p k:=by
 have e:=getElem?_bubble hs d hd k
 unfold pat
 rw[Zxs,e]
 by_cases h1:k=src - d
 ·rw[if_pos h1,if_pos h1,Zxs]
 ·rw[if_neg h1,if_neg h1]
  by_cases h2:src - d<k/\k<=src
  ·rw[if_pos h2,if_pos h2,Zxs]
  ·rw[if_neg h2,if_neg h2,Zxs]
theorem Rx(p:Array Nat)(i j:Nat):(kas_rev p i j).size=p.size:=mirror_size _ _ _ _
theorem Ry(p:Array Nat)(i j:Nat):(kas_rev p i j).toList.Perm p.toList:=Array.perm_iff_toList_perm.mp (mirror_perm _ _ _ _)
structure Srt(n:Nat)(key:Nat->Int)(p:Array Nat)(m:Nat):Prop where
 sz:p.size=n
 pm:p.toList.Perm (Zxy n)
 up:∀i j,i<j->j<m->klt key (pat p i) (pat p j)
 fix:∀k,m<=k->k<n->pat p k=k
 low:∀k,k<m->pat p k<m
theorem Srt.lt{p:Array Nat}{m:Nat}(h:Srt n key p m){k:Nat}(hm:m<=n)(hk:k<n):pat p k<n:=by
 by_cases z:k<m
 ·have:=h.low k z;omega
 ·rw[h.fix k (by omega) hk];exact hk
theorem bp:∀(f:Nat) {p:Array Nat} {m:Nat},Srt n key p m->1<=m->m+f=n->Ie n key (kas_asc p f m) λm'=>m<=m'/\m'<=n/\Srt n key p m'/\(m'<n->key (pat p m')<key (pat p (m' - 1)))
 |0,p,m,h,h1,h2=>⟨Zzm _,by omega,h,λz=>by omega⟩
 |f+1,p,m,h,h1,h2=>by
  refine⟨h.lt (by omega) (by omega),h.lt (by omega) (by omega),?_⟩
  show Ie n key (if decide (key (pat p m)<key (pat p (m - 1)))=true then _ else _) _
  by_cases c:key (pat p m)<key (pat p (m - 1))
  ·rw[decide_eq_true c,if_pos rfl]
   exact⟨Zzm _,by omega,h,λ_=>c⟩
  ·rw[decide_eq_false c,if_neg (by decide)]
   have e:=h.fix m (Zzm _) (by omega)
   have h':Srt n key p (m+1):=⟨h.sz,h.pm,λi j hij hj=>by
     by_cases z:j<m
     ·exact h.up i j hij z
     ·have ej:j=m:=by omega
      subst ej
      have l1:klt key (pat p (j - 1)) (pat p j):=by
       have:=h.low (j - 1) (by omega)
       unfold klt
       rw[e] at c ⊢
       omega
      by_cases y:i=j - 1
      ·rw[y];exact l1
      ·exact iz (h.up i (j - 1) (by omega) (by omega)) l1,λk hk hkn=>h.fix k (by omega) hkn,λk hk=>by
     by_cases z:k<m
     ·have:=h.low k z;omega
     ·have ek:k=m:=by omega
      rw[ek,e];omega⟩
   exact Im (λa z0=>by obtain⟨a1,a2,a3,a4⟩:=z0;exact ⟨by omega,a2,a3,a4⟩) (bp f h' (by omega) (by omega))
structure Fal(n:Nat)(key:Nat->Int)(p:Array Nat)(m q:Nat):Prop where
 sz:p.size=n
 pm:p.toList.Perm (Zxy n)
 q1:q+1<=m
 m1:m<=n
 dn:∀i j,i<j->j<m - (q+1)->klt key (pat p j) (pat p i)
 fix:∀k,m - (q+1)<=k->k<n->pat p k=k
 low:∀k,k<m - (q+1)->pat p k<m - (q+1)
 cr:∀i,i<m - (q+1)->key (m - 1)<key (pat p i)
 eq:∀k,m - (q+1)<=k->k<m->key k=key (m - 1)
structure Dwn(n:Nat)(key:Nat->Int)(p:Array Nat)(m:Nat):Prop where
 sz:p.size=n
 pm:p.toList.Perm (Zxy n)
 dn:∀i j,i<j->j<m->klt key (pat p j) (pat p i)
 fix:∀k,m<=k->k<n->pat p k=k
 low:∀k,k<m->pat p k<m
 last:∀i,i<m->key (m - 1)<=key (pat p i)
theorem Fal.turn{p:Array Nat}{m q:Nat}(h:Fal n key p m q):Dwn n key (kas_rev p (m - (q+1)) m) m:=by
 have hm:=h.m1
 have h1:=h.q1
 have pr:=λk=>Vu (p:=p) (i:=m - (q+1)) (j:=m) (by rw[h.sz];exact hm) k
 refine⟨by rw[Rx,h.sz],(Ry _ _ _).trans h.pm,λi j hij hj=>?_,λk hk hkn=>?_,λk hk=>?_,λi hi=>?_⟩
 ·have vi1:m - (q+1)<=i->pat (kas_rev p (m - (q+1)) m) i=m - (q+1)+m - 1 - i:=λa=>by rw[pr i,if_pos ⟨a,by omega⟩];exact h.fix _ (by omega) (by omega)
  have vi2:¬ m - (q+1)<=i->pat (kas_rev p (m - (q+1)) m) i=pat p i:=λa=>by rw[pr i,if_neg (λz=>a z.1)]
  have vj1:m - (q+1)<=j->pat (kas_rev p (m - (q+1)) m) j=m - (q+1)+m - 1 - j:=λa=>by rw[pr j,if_pos ⟨a,hj⟩];exact h.fix _ (by omega) (by omega)
  have vj2:¬ m - (q+1)<=j->pat (kas_rev p (m - (q+1)) m) j=pat p j:=λa=>by rw[pr j,if_neg (λz=>a z.1)]
  by_cases a:m - (q+1)<=i
  ·rw[vi1 a,vj1 (by omega)]
   have e1:=h.eq (m - (q+1)+m - 1 - i) (by omega) (by omega)
   have e2:=h.eq (m - (q+1)+m - 1 - j) (by omega) (by omega)
   unfold klt
   omega
  ·rw[vi2 a]
   by_cases b:m - (q+1)<=j
   ·rw[vj1 b]
    have e2:=h.eq (m - (q+1)+m - 1 - j) (by omega) (by omega)
    have e3:=h.cr i (by omega)
    unfold klt
    omega
   ·rw[vj2 b]
    exact h.dn i j hij (by omega)
 ·rw[pr k,if_neg (by omega)]
  exact h.fix k (by omega) hkn
 ·rw[pr k]
  split
  ·rw[h.fix _ (by omega) (by omega)];omega
  ·have:=h.low k (by omega);omega
 ·rw[pr i]
  split
  ·rw[h.fix _ (by omega) (by omega)]
   have:=h.eq (m - (q+1)+m - 1 - i) (by omega) (by omega)
   omega
  ·have:=h.cr i (by omega);omega
theorem Fal.one{p:Array Nat}{m:Nat}(h:Fal n key p m 0):Dwn n key p m:=by
 have hm:=h.m1
 have h1:=h.q1
 have e:=h.fix (m - 1) (by omega) (by omega)
 refine⟨h.sz,h.pm,λi j hij hj=>?_,λk hk hkn=>h.fix k (by omega) hkn,λk hk=>?_,λi hi=>?_⟩
 ·by_cases z:j=m - 1
  ·rw[z,e]
   have:=h.cr i (by omega)
   exact .inl this
  ·exact h.dn i j hij (by omega)
 ·by_cases z:k=m - 1
  ·rw[z,e];omega
  ·have:=h.low k (by omega);omega
 ·by_cases z:i=m - 1
  ·rw[z,e];exact Zy3 _
  ·have:=h.cr i (by omega);omega
theorem Dwn.next{p:Array Nat}{m:Nat}(h:Dwn n key p m)(h1:1<=m)(hm:m<n)(c:key m<key (m - 1)):Fal n key p (m+1) 0 :=
 ⟨h.sz,h.pm,by omega,by omega,λi j hij hj=>h.dn i j hij (by omega),λk hk hkn=>h.fix k (by omega) hkn,λk hk=>by have:=h.low k (by omega);omega,λi hi=>by
  have:=h.last i (by omega)
  show key m<_
  omega,λk hk hk2=>by
  have:k=m:=by omega
  subst this
  rfl⟩
theorem R6:∀(f:Nat) {p:Array Nat} {m q:Nat},Fal n key p m q->m+f=n->Ie n key (kas_desc f p m q) λr=>Fal n key r.1 r.2.1 r.2.2
 |0,p,m,q,h,_=>h
 |f+1,p,m,q,h,hf=>by
  have h1:=h.q1
  have e1:=h.fix m (by omega) (by omega)
  have e2:=h.fix (m - 1) (by omega) (by omega)
  refine⟨by show pat p m<n;omega,by show pat p (m - 1)<n;omega,?_⟩
  show Ie n key (if decide (key (pat p m)<key (pat p (m - 1)))=true then _ else _) _
  rw[e1,e2]
  by_cases c:key m<key (m - 1)
  ·rw[decide_eq_true c,if_pos rfl]
   by_cases hq:q > 0
   ·rw[if_pos hq]
    exact R6 f (h.turn.next (by omega) (by omega) c) (by omega)
   ·rw[if_neg hq]
    have q0:q=0:=by omega
    subst q0
    exact R6 f (h.one.next (by omega) (by omega) c) (by omega)
  ·rw[decide_eq_false c,if_neg (by decide)]
   refine⟨by show pat p (m - 1)<n;omega,by show pat p m<n;omega,?_⟩
   show Ie n key (if decide (key (pat p (m - 1))<key (pat p m))=true then _ else _) _
   rw[e1,e2]
   by_cases d:key (m - 1)<key m
   ·rw[decide_eq_true d,if_pos rfl]
    exact h
   ·rw[decide_eq_false d,if_neg (by decide)]
    have ek:key m=key (m - 1):=by omega
    refine R6 f ⟨h.sz,h.pm,by omega,by omega,λi j hij hj=>h.dn i j hij (by omega),λk hk hkn=>h.fix k (by omega) hkn,λk hk=>by have:=h.low k (by omega);omega,λi hi=>by have:=h.cr i (by omega);show key m<_;omega,λk hk hk2=>?_⟩ (by omega)
    show key k=key m
    by_cases z:k=m
    ·rw[z]
    ·rw[ek];exact h.eq k (by omega) (by omega)
theorem ce{p:Array Nat}{m:Nat}(h:Dwn n key p m)(h1:1<=m)(hm:m<=n):Ie n key (kas_tail3 m n p) λr=>1<=r.1/\r.1<=n/\Srt n key r.2 r.1:=by
 have pr:=λk=>Vu (p:=p) (i:=0) (j:=m) (by rw[h.sz];exact hm) k
 have hs:Srt n key (kas_rev p 0 m) m:=by
  refine⟨by rw[Rx,h.sz],(Ry _ _ _).trans h.pm,λi j hij hj=>?_,λk hk hkn=>?_,λk hk=>?_⟩
  ·rw[pr i,pr j,if_pos ⟨by omega,by omega⟩,if_pos ⟨by omega,by omega⟩]
   exact h.dn _ _ (by omega) (by omega)
  ·rw[pr k,if_neg (by omega)]
   exact h.fix k hk hkn
  ·rw[pr k,if_pos ⟨by omega,hk⟩]
   exact h.low _ (by omega)
 exact Ji (Im (λa z0=>by obtain⟨a1,a2,a3,_⟩:=z0;exact ⟨by show 1<=a;omega,a2,a3⟩) (bp (n - m) hs h1 (by omega)))
theorem cx{p:Array Nat}{m:Nat}(h:Fal n key p (m+1) 0):Ie n key (kas_descPart m n p) λr=>1<=r.1/\r.1<=n/\Srt n key r.2 r.1:=by
 have:=h.m1
 refine Ji (Im (λr hr=>?_) (R6 (n - (m+1)) h (by omega)))
 have r1:=hr.q1
 have r2:=hr.m1
 by_cases z:r.2.2 > 0
 ·rw[if_pos z]
  exact ce hr.turn (by omega) r2
 ·rw[if_neg z]
  have q0:r.2.2=0:=by omega
  rw[q0] at hr
  exact ce hr.one (by omega) r2
theorem Dk{k:Nat}(h:k<n):pat (Zxn (Zxy n)) k=k:=by
 unfold pat
 rw[Zxs]
 simp[h]
theorem qd(h2:2<=n):Ie n key (kas_count n (Zxn (Zxy n))) λr=>1<=r.1/\r.1<=n/\Srt n key r.2 r.1:=by
 have s0:Srt n key (Zxn (Zxy n)) 1:=⟨by simp,by simp,λi j hij hj=>by omega,λk _ hk=>Dk hk,λk hk=>by rw[Dk (by omega)];exact hk⟩
 refine Ji (Im (λm hm=>?_) (bp (n - 1) s0 (Zzm _) (by omega)))
 obtain⟨a1,a2,a3,a4⟩:=hm
 by_cases z:m=n
 ·rw[if_pos (by rw[z];simp)]
  exact⟨a1,a2,a3⟩
 ·rw[if_neg (by simpa using z)]
  have c:=a4 (by omega)
  rw[Dk (by omega),Dk (by omega)] at c
  by_cases y:m > 1
  ·rw[if_pos y]
   have g0:pat (Zxn (Zxy n)) 0=0:=Dk (by omega)
   have g1:pat (Zxn (Zxy n)) (m - 1)=m - 1:=Dk (by omega)
   refine⟨by show pat (Zxn (Zxy n)) 0<n;omega,by show pat (Zxn (Zxy n)) (m - 1)<n;omega,?_⟩
   show Ie n key (if decide (key (pat (Zxn (Zxy n)) 0)<key (pat (Zxn (Zxy n)) (m - 1)))=true then _ else _) _
   rw[g0,g1]
   by_cases d:key 0<key (m - 1)
   ·rw[decide_eq_true d,if_pos rfl]
    exact⟨a1,a2,a3⟩
   ·rw[decide_eq_false d,if_neg (by decide)]
    have up:∀i,i<m->key 0<=key i/\key i<=key (m - 1):=λi hi=>by
     constructor
     ·by_cases w:i=0
      ·rw[w];exact Zy3 _
      ·have:=Wk (a3.up 0 i (by omega) hi)
       rw[Dk (by omega),Dk (by omega)] at this
       exact this
     ·by_cases w:i=m - 1
      ·rw[w];exact Zy3 _
      ·have:=Wk (a3.up i (m - 1) (by omega) (by omega))
       rw[Dk (by omega),Dk (by omega)] at this
       exact this
    have al:∀i,i<m->key i=key (m - 1):=λi hi=>by have:=up i hi;omega
    have pr:=λk=>Vu (p:=Zxn (Zxy n)) (i:=0) (j:=m) (by simp;omega) k
    have dw:Dwn n key (kas_rev (Zxn (Zxy n)) 0 m) m:=by
     refine⟨by rw[Rx];simp,(Ry _ _ _).trans (by simp),λi j hij hj=>?_,λk hk hkn=>?_,λk hk=>?_,λi hi=>?_⟩
     ·rw[pr i,pr j,if_pos ⟨by omega,by omega⟩,if_pos ⟨by omega,by omega⟩,Dk (by omega),Dk (by omega)]
      have e1:=al (0+m - 1 - i) (by omega)
      have e2:=al (0+m - 1 - j) (by omega)
      unfold klt
      omega
     ·rw[pr k,if_neg (by omega),Dk hkn]
     ·rw[pr k,if_pos ⟨by omega,hk⟩,Dk (by omega)];omega
     ·rw[pr i,if_pos ⟨by omega,hi⟩,Dk (by omega)]
      have:=al (0+m - 1 - i) (by omega)
      omega
    exact cx (dw.next (by omega) (by omega) c)
  ·rw[if_neg y]
   have m1:m=1:=by omega
   subst m1
   have dw:Dwn n key (Zxn (Zxy n)) 1:=⟨by simp,by simp,λi j hij hj=>by omega,λk _ hk=>Dk hk,λk hk=>by rw[Dk (by omega)];exact hk,λi hi=>by
    rw[Dk (by omega)]
    have:i=0:=by omega
    rw[this]
    exact Zy3 _⟩
   exact cx (dw.next (by omega) (by omega) c)
theorem S2{p:Array Nat}{k:Nat}(h:Srt n key p k)(hk:k<n):∀(f l r:Nat),l<=r->r<=k->r - l<=f->(∀i,i<l->key (pat p i)<=key k)->(∀i,r<=i->i<k->key k<key (pat p i))->Ie n key (kas_place p k f l r) λl'=>l'<=k/\(∀i,i<l'->key (pat p i)<=key k)/\∀i,l'<=i->i<k->key k<key (pat p i)
 |0,l,r,h1,h2,h3,h4,h5=>⟨by omega,h4,λi hi=>h5 i (by omega)⟩
 |f+1,l,r,h1,h2,h3,h4,h5=>by
  show Ie n key (if l≥r then _ else _) _
  by_cases z:l≥r
  ·rw[if_pos z]
   exact⟨by omega,h4,λi hi=>h5 i (by omega)⟩
  ·rw[if_neg z]
   have e:=h.fix k (Zzm _) hk
   refine⟨by show pat p k<n;omega,by have:=h.low ((l+r) / 2) (by omega);show pat p ((l+r) / 2)<n;omega,?_⟩
   show Ie n key (if decide (key (pat p k)<key (pat p ((l+r) / 2)))=true then _ else _) _
   rw[e]
   have mono:∀i j,i<=j->j<k->key (pat p i)<=key (pat p j):=λi j hij hj=>by
    by_cases y:i=j
    ·rw[y];exact Zy3 _
    ·exact Wk (h.up i j (by omega) hj)
   by_cases c:key k<key (pat p ((l+r) / 2))
   ·rw[decide_eq_true c,if_pos rfl]
    exact S2 h hk f l ((l+r) / 2) (by omega) (by omega) (by omega) h4 λi hi hik=>by have:=mono _ i hi hik;omega
   ·rw[decide_eq_false c,if_neg (by decide)]
    exact S2 h hk f ((l+r) / 2+1) r (by omega) h2 (by omega) (λi hi=>by have:=mono i ((l+r) / 2) (by omega) (by omega);omega) h5
theorem qh:∀(f:Nat) {p:Array Nat} {k:Nat},Srt n key p k->k+f=n->Ie n key (kas_bin f p k) λp'=>Srt n key p' n
 |0,p,k,h,hf=>by
  have:k=n:=by omega
  subst this
  exact h
 |f+1,p,k,h,hf=>by
  refine Ji (Im (λl hl=>?_) (S2 h (by omega) k 0 k (Zy0 _) (Zzm _) (by omega) (λi hi=>by omega) (λi hi hik=>by omega)))
  obtain⟨l1,l2,l3⟩:=hl
  have hs:=h.sz
  have pb:=λi=>uj (p:=p) (src:=k) (d:=k - l) (by omega) (by omega) i
  have ed:k - (k - l)=l:=by omega
  rw[ed] at pb
  have ek:=h.fix k (Zzm _) (by omega)
  refine qh f ⟨by rw[bubble_size,hs],(Array.perm_iff_toList_perm.mp (bubble_perm _ _ _)).trans h.pm,λi j hij hj=>?_,λi hi hin=>?_,λi hi=>?_⟩ (by omega)
  ·rw[pb i,pb j]
   by_cases a:i=l
   ·rw[if_pos a,if_neg (by omega),if_pos ⟨by omega,by omega⟩,ek]
    have:=l3 (j - 1) (by omega) (by omega)
    exact .inl this
   ·rw[if_neg a]
    by_cases b:j=l
    ·rw[if_pos b,if_neg (by omega),ek]
     have h1:=l2 i (by omega)
     have h2:=h.low i (by omega)
     unfold klt
     omega
    ·rw[if_neg b]
     by_cases c:l<i
     ·rw[if_pos ⟨c,by omega⟩,if_pos ⟨by omega,by omega⟩]
      exact h.up (i - 1) (j - 1) (by omega) (by omega)
     ·rw[if_neg (λz=>c z.1)]
      by_cases d:l<j
      ·rw[if_pos ⟨d,by omega⟩]
       exact h.up i (j - 1) (by omega) (by omega)
      ·rw[if_neg (λz=>d z.1)]
       exact h.up i j hij (by omega)
  ·rw[pb i,if_neg (by omega),if_neg (by omega)]
   exact h.fix i (by omega) hin
  ·rw[pb i]
   split
   ·rw[ek];omega
   ·split
    ·have:=h.low (i - 1) (by omega);omega
    ·have:=h.low i (by omega);omega
theorem ck(h2:2<=n):Ie n key (kas_sort n) λp=>Srt n key p n:=by
 refine Ji (Im (λr hr=>?_) (qd h2))
 obtain⟨r1,r2,r3⟩:=hr
 by_cases z:r.1<n
 ·rw[if_pos z]
  have e:max r.1 1=r.1:=by omega
  rw[e]
  exact qh _ r3 (by omega)
 ·rw[if_neg z]
  have e:r.1=n:=by omega
  rw[e] at r3
  exact r3
end
theorem Sn{n:Nat}{key:Nat->Int}{α:Type}{cmp:Nat->Nat->(Bool->Shared->Prop)->Shared->Prop}{Qp:α->Prop}{Q:α->Shared->Prop}{s:Shared}(hc:∀i j (C:Bool->Shared->Prop),i<n->j<n->C (decide (key i<key j)) s->cmp i j C s)(hq:∀a,Qp a->Q a s):∀{t:KasT α},Ie n key t Qp->t.kasWp cmp Q s
 |.ret _,h=>hq _ h
 |.ask i j k,⟨h1,h2,h3⟩=>hc i j _ h1 h2 (Sn hc hq h3)
def Vb(kz:Str->Int)(xs ys:List Str):Prop:=ys.Perm xs/\ys.Pairwise λa b=>kz a<=kz b
def Np(kz:Str->Int)(xs ys:List Str):Prop:=∃ps:List Nat,ps.Perm (Zxy xs.length)/\ys=ps.map (λi=>xs.getD i "")/\ps.Pairwise (klt λi=>kz (xs.getD i ""))
theorem S0(xs:List Str):(Zxy xs.length).map (λi=>xs.getD i "")=xs:=by
 apply Zx5
 intro i
 by_cases hi:i<xs.length
 ·rw[Zzy,Zuw hi,Zzs hi]
  simp[Zzo,hi]
 ·rw[Zy9 (by simp;omega),Zy9 (by omega)]
theorem M2{kz:Str->Int}{xs ys:List Str}(h:Np kz xs ys):Vb kz xs ys:=by
 obtain⟨ps,h1,rfl,h2⟩:=h
 refine⟨?_,?_⟩
 ·have:=h1.map (λi=>xs.getD i "")
  rw[S0] at this
  exact this
 ·rw[List.pairwise_map]
  exact h2.imp λ{a b} hab=>Wk hab
theorem Zl{kz:Str->Int}{xs ys:List Str}(h:ys.Perm xs)(hl:xs.length<2):Np kz xs ys:=by
 refine⟨Zxy xs.length,List.Perm.refl _,?_,?_⟩
 ·rw[S0]
  match xs,hl with
  |[],_=>exact List.perm_nil.mp h
  |[x],_=>exact List.perm_singleton.mp h
 ·rw[Zwv]
  intro i j hi hj hij
  rw[Zvw] at hi hj
  omega
theorem lg{n:Nat}{key:Nat->Int}{p:Array Nat}(h:Srt n key p n):p.toList.Pairwise (klt key):=by
 rw[Zwv]
 intro i j hi hj hij
 rw[Zwr,h.sz] at hi hj
 have:=h.up i j hij hj
 unfold pat at this
 rw[Zxs,Zxs,Zxt (by rw[h.sz];exact hi),Zxt (by rw[h.sz];exact hj)] at this
 simpa using this
theorem db{P:Program}{w:World}{H:Hp}{h:Heap}{a:Addr}{o:HO}(x:ObjOk P w H h a o):∃ob,h.get? a=some ob:=by
 cases o with
 |lst xs=>obtain⟨_,_,_,_,e⟩:=x;exact⟨_,e⟩
 |tup xs=>obtain⟨_,_,_,o,e,_⟩:=x;exact⟨_,e⟩
 |dK kvs=>obtain⟨_,_,_,_,o,_,_,e,_⟩:=x;exact⟨_,e⟩
 |dT kvs=>obtain⟨_,_,_,_,o,_,_,e,_⟩:=x;exact⟨_,e⟩
 |set S n=>obtain⟨o,_,_,_,e,_⟩:=x;exact⟨_,e⟩
 |ins C dx fs=>obtain⟨_,_,_,e,_⟩:=x;exact⟨_,e⟩
 |own y=>exact x
 |xd fs=>obtain⟨_,⟨_,_,_,e,_⟩,_⟩:=x;exact⟨_,e⟩
 |rng lo hi=>obtain⟨_,_,_,e⟩:=x;exact⟨_,e⟩
 |frz o u=>obtain⟨e,_⟩:=x;exact⟨_,e⟩
 |tbl ps=>exact⟨_,x⟩
 |met f y=>exact⟨_,x⟩
 |ext φ=>obtain⟨_,e,_⟩:=x;exact e
def Ze(c:Addr)(q:Str):HO:=.ext λh=>h.CodeRec (.ref c) q
theorem qf{P:Program}{w:World}{H:Hp}{h:Heap}{c:Addr}{q:Str}(x:h.CodeRec (.ref c) q):ObjOk P w H h c (Ze c q):=by
 obtain⟨c',o,vs,t,e,ho,r⟩:=id x
 cases e
 refine⟨x,⟨o,ho⟩,λh1 h2 y k=>?_⟩
 obtain⟨c2,o2,vs2,t2,e2,g2,r2⟩:=y
 cases e2
 exact⟨c,o2,vs2,t2,rfl,k _ g2,r2⟩
theorem qg{P:Program}{w:World}{H:Hp}{h:Heap}{c:Addr}{q:Str}(ok:HOk P w H h)(e:H c=some (Ze c q)):h.CodeRec (.ref c) q:=(ok c _ e).1
def TblAt(H:Hp)(P:Addr)(pos:Pos)(q:Str):Prop:=H P=some (.tbl #[])\/∃c,H P=some (.tbl #[rawInt pos.line,rawInt pos.col,.ref c])/\H c=some (Ze c q)
theorem TblAt.same{H H':Hp}{P:Addr}{pos:Pos}{q:Str}(t:TblAt H P pos q)(s:Same H H'):TblAt H' P pos q:=t.elim (λe=>.inl (s _ _ e)) (λz0=>by obtain⟨c,e,e2⟩:=z0;exact .inr ⟨c,s _ _ e,s _ _ e2⟩)
def Op(mg:Str->Option Value)(base:Heap):Prop:=∃bm ob,mg "__builtins__" = some (.ref bm)/\bm≠builtinsNs/\bm≠mainGlobals/\base.get? bm=some ob/\ob.cls=.type "module" /\ ob.dict=some builtinsNs/\ob.data=.plain
section
variable {X:Cx}{pins:List (Addr×Obj)}{Z:St}{H:Hp}{s:Shared}
theorem ny{P c:Addr}{params:Arguments}{body:Expr}{scope:Scope}{pos:Pos}{clos:List (Str×Addr)}{Q:Value->Shared->Prop}
  (I:Inv X pins Z H s) (hcd:X.env.code=.ref c) (hC:codeHdIn X.K c P=true) (hB:Op X.mg X.base) (t:TblAt H P pos (X.env.qual ++ "<lambda>")) (hdef:defaultsOf params X.env=([],[])) (hcl:closureFor scope X.env=pure clos)
  (h:∀f c' ctv H' s',Inv X pins Z H' s'->s'.heap.get? f=some (kla_obj "<lambda>" (X.env.qual ++ "<lambda>") params body scope clos ((X.mg "__name__").getD .none) c' ctv)->H' f=none->H' c'=some (Ze c' (X.env.qual ++ "<lambda>"))->TblAt H' P pos (X.env.qual ++ "<lambda>")->But P H H'->Q (.ref f) s') :
  wpAny (model X.prog X.w) X.A (eval (.Lambda params body scope pos) X.env) Q X.xe s:=by
 refine kla_eval hdef ?_
 have hHP:∃u,H P=some u:=t.elim (λe=>⟨_,e⟩) (λz0=>by obtain⟨c,e,_⟩:=z0;exact ⟨_,e⟩)
 obtain⟨u,hu⟩:=hHP
 have neP:∀b o,X.base.get? b=some o->b≠P:=λb o e z=>by rw[z] at e;rw[(I.bs P o e).2] at hu;cases hu
 have C:CodeHd s.heap c P:=codeHd_of_K I.kIn hC
 have hg:s.heap.Ns mainGlobals X.mg:=I.ok.mod.glob.keeps I.bk
 have hgP:mainGlobals≠P:=by obtain⟨o,es,ep,e,_⟩:=I.ok.mod.glob;exact neP _ _ e
 have hb:s.heap.BuiltinsAt X.mg P:=by
  obtain⟨bm,ob,b1,b2,b3,b4,b5⟩:=hB
  exact⟨bm,ob,b1,b2,b3,neP _ _ b4,I.bk _ _ b4,b5⟩
 rcases t with e | ⟨c',e,ec⟩
 ·have hP:s.heap.get? P=some (tabObj #[]):=I.hok P _ e
  refine kla_makeFunction (ps:=#[]) hcl I.ok.glob hg hcd C hP trivial rfl hgP hb λc' ctv h' tk hx hge hlt hrec htb=>?_
  have hc0:H c'=none:=I.hok.fresh hge
  have cP:c'≠P:=λz=>by rw[z,hu] at hc0;cases hc0
  have k:∀b o,b≠P->s.heap.get? b=some o->(h'.push (kla_obj "<lambda>" (X.env.qual ++ "<lambda>") params body scope clos ((X.mg "__name__").getD .none) c' ctv)).get? b=some o:=λb o nb eb=>Zzx _ (hx b o nb eb)
  have hsz:s.heap.objs.size<=h'.objs.size:=by omega
  have hf:H h'.objs.size=none:=I.hok.fresh hsz
  have cf:h'.objs.size≠c':=Zxe hlt
  have fP:h'.objs.size≠P:=λz=>by rw[z,hu] at hf;cases hf
  refine h h'.objs.size c' ctv (upd (upd H P (.tbl #[rawInt pos.line,rawInt pos.col,.ref c'])) c' (Ze c' (X.env.qual ++ "<lambda>"))) _ (I.un (t':=tk) ⟨λb o eb n _ _=>k b o (λz=>by rw[z,hu] at n;cases n) eb,λb o eb n _ _=>⟨o.slots,k b o (λz=>by rw[z,hu] at n;cases n) eb⟩,λb o eb n _=>?_,λb o eb _=>?_,λb xs eb=>?_,λb o u' eb=>?_,λb ps eb=>?_⟩ λb v eb=>?_) (Zze _ rfl) ?_ A0 ?_ ?_
  ·rw[A7 (Zyb (Zyn (Zzb eb) hge)),A7 (λz=>by rw[z,hu] at n;cases n)]
   exact n
  ·by_cases z:b=P
   ·rw[z]
    exact⟨_,Zzx _ htb⟩
   ·exact⟨o,k b o z eb⟩
  ·rw[A7 (A4 eb hc0),A7 (λz=>by rw[z,e] at eb;cases eb)]
   exact eb
  ·rw[A7 (A4 eb hc0),A7 (λz=>by rw[z,e] at eb;cases eb)]
   exact eb
  ·by_cases z:b=P
   ·subst z
    rw[e] at eb
    cases eb
    exact⟨#[rawInt pos.line,rawInt pos.col,.ref c'],by rw[A7 (Zzi cP),A0];simp⟩
   ·exact⟨#[],by rw[A7 (A4 eb hc0),A7 z,eb];simp⟩
  ·by_cases z:b=c'
   ·subst z
    rw[A0] at eb
    cases eb
    exact qf (hrec.push _)
   ·rw[A7 z] at eb
    by_cases z2:b=P
    ·subst z2
     rw[A0] at eb
     cases eb
     exact Zzx _ htb
    ·rw[A7 z2] at eb
     refine(I.hok b v eb).stay (λb' u' hb' q=>k b' u' (λz3=>?_) q) (λb' q=>?_) λb' xs q=>?_
     ·rcases hb' with r | r
      ·exact z2 (r.symm.trans z3)
      ·rw[z3,e] at r;cases r
     ·rw[A7 (A4 q hc0),A7 (λz3=>by rw[z3,e] at q;cases q)];exact q
     ·rw[A7 (A4 q hc0),A7 (λz3=>by rw[z3,e] at q;cases q)];exact q
  ·rw[A7 cf,A7 fP]
   exact hf
  ·exact .inr ⟨c',by rw[A7 (Zzi cP),A0],A0⟩
  ·exact λb o nb eb=>by rw[A7 (A4 eb hc0),A7 nb];exact eb
 ·have hP:s.heap.get? P=some (tabObj #[rawInt pos.line,rawInt pos.col,.ref c']):=I.hok P _ e
  refine kla_makeFunctionHit (cv:=.ref c') hcl I.ok.glob hg hcd C hP trivial (by simp[codeAmong,rawInt]) hb λctv h' tk hk hsz=>?_
  have k:∀b o,s.heap.get? b=some o->(h'.push (kla_obj "<lambda>" (X.env.qual ++ "<lambda>") params body scope clos ((X.mg "__name__").getD .none) c' ctv)).get? b=some o:=λb o eb=>Zzx _ (hk b o eb)
  exact h h'.objs.size c' ctv H _ (I.kept (t':=tk) k) (Zze _ rfl) (I.hok.fresh hsz) ec (.inr ⟨c',e,ec⟩) (But.refl _ _)
end
section
variable {prog:Program}{w:World}{A:Around}{s:Shared}
theorem vg{f c' d cc:Addr}{q nm lv x:Str}{params:Arguments}{scope:Scope}{p1 p2 p3:Pos}{pm ctv:Value}{k:Int}{t t0:Tok}{vs:List (Key×Value)}
  (hf:s.heap.get? f=some (kla_obj "<lambda>" q params (.Subscript (.Name lv p1) (.Name nm p2) p3) scope [(lv,cc)] pm c' ctv)) (hrec:s.heap.CodeRec (.ref c') q) (hcell:s.heap.IsCell cc (some (.ref d))) (hd:s.heap.DictOf (Dj prog w) d vs) (hv:valueAt vs (.inr x)=some (.int k t))
  (hroom:A.depth<recursionLimit) (hlim:s.heap.NoLimit) (hsc:scope.kind=.function/\scope.isCoroutine=false/\scope.isGenerator=false/\scope.names.lookup nm=some .local/\scope.names.lookup lv=some .free/\∀x∈scope.names,x.2≠.cell)
  (hbind:bindArgs (kla_fn "<lambda>" q params (.Subscript (.Name lv p1) (.Name nm p2) p3) scope [(lv,cc)] pm (.ref c') ctv) ⟨[.str x t0],[]⟩=pure [(nm,.str x t0)]) (hn1:(nm == ("__debug__" : Str))=false:=by decide) (hn2:(lv == ("__debug__" : Str))=false:=by decide) (hn3:(lv == ("__classdict__" : Str))=false:=by decide) :
  wpAny (model prog w) A (call (.ref f) [.str x t0]) (λv s'=>∃h' tk t',s'={s with heap:=h',toks:=tk}/\v=.int k t'/\∀b o,s.heap.get? b=some o->h'.get? b=some o) (λ_ _=>False) s:=by
 obtain⟨k1,k2,k3,k4,k5,k6⟩:=hsc
 refine wpAny_call (kla_callFunE hroom hf rfl k2 k3 rfl hrec ?_)
 rw[hbind]
 refine wpAny_pure (wpAny_newFunctionEnv k6 (λy hy=>?_) (λh₁ hns hsb=>?_) k1)
 ·rw[Zyw.mp hy]
  exact k4
 have hk:∀b o,s.heap.get? b=some o->h₁.get? b=some o:=λb o e=>hsb.extBut b o (Zyb (Zzb e)) (Zzx _ e)
 refine⟨hlim.fresh _ hsb,kla_codeExpr ?_⟩
 have hd1:h₁.DictOf (Dj prog w) d vs:=by
  obtain⟨o,es,ep,ho,r⟩:=hd
  exact⟨o,es,ep,hk _ _ ho,r⟩
 have hc1:h₁.IsCell cc (some (.ref d)):=by
  obtain⟨o,ho,r⟩:=hcell
  exact⟨o,hk _ _ ho,r⟩
 refine wpAny_Subscript_Name (T := "dict") F.slot_dict_getitem.lookup (wpAny_Name (wpAny_loadName_free k1 k5 (c:=cc) (by simp[newEnv]) hc1 (wpAny_Name (wpAny_loadName_local k1 k4 hns (v:=.str x t0) (by simp) ⟨hd1.typeIs,?_⟩) hn1) hn3) hn2)
 refine wpAny_getItem_of (knd:=Dj prog w) (k:=.inr x) ?_ hd1.mapOf hv ?_
 ·exact Yi (k:=.inr x) ⟨t0,rfl⟩
 ·exact⟨_,_,_,rfl,rfl,hk⟩
end
def strV:Value->Str
 |.str x _=>x
 |_ => ""
theorem ke{xs:List Str}{us:List Value}(r:Vals (xs.map V.str) us):us.map strV=xs/\∀u∈us,∃t,u=.str (strV u) t:=by
 induction xs generalizing us with
 |nil=>cases r;exact⟨rfl,λ_ h=>nomatch h⟩
 |cons x xs ih =>
  cases r with
  |cons r1 r2 =>
   obtain⟨t,rfl⟩:=r1
   obtain⟨e,h⟩:=ih r2
   refine⟨by rw[Zzp,e];rfl,λu hu=>?_⟩
   rcases Zzt.mp hu with z | z
   ·rw[z];exact⟨t,rfl⟩
   ·exact h u z
theorem Qb:∀{us:List Value},(∀u∈us,∃t,u=.str (strV u) t)->Vals ((us.map strV).map V.str) us
 |[],_=>.nil
 |u::us,h=>by
  obtain⟨t,e⟩:=h u Zzf
  exact .cons ⟨t,e⟩ (Qb λv hv=>h v (Zzd _ hv))
theorem Ms:∀{vs:List Value} {ns:List Int} {i:Nat} {n:Int},IntsAre vs ns->ns[i]?=some n->∃t,vs[i]?=some (.int n t)
 |_,_,i,n,.nil,e=>by simp at e
 |_,_,0,n,.cons k t _,e=>by
  have:k=n:=by simpa using e
  subst this
  exact⟨t,rfl⟩
 |_,_,i+1,n,.cons _ _ r,e=>by
  obtain⟨t,h⟩:=Ms (i:=i) r (by simpa using e)
  exact⟨t,by simpa using h⟩
theorem bu{kz:Str->Int}:∀{us:List Value} {p:Int×Value},p∈((us.map strV).map kz).zip us->p.2∈us/\p.1=kz (strV p.2)
 |[],p,h=>by simp at h
 |u::us,p,h=>by
  rw[Zzp,Zzp,List.zip_cons_cons] at h
  rcases Zzt.mp h with z | z
  ·rw[z];exact⟨Zzf,rfl⟩
  ·obtain⟨h1,h2⟩:=bu z
   exact⟨Zzd _ h1,h2⟩
theorem gm{kz:Str->Int}{us out:List Value}(h:KskOut false ((us.map strV).map kz) us out):(∀u∈out,u∈us)/\Vb kz (us.map strV) (out.map strV):=by
 obtain⟨ps,hp,rfl,hs⟩:=h
 have hz:∀p∈ps,p.2∈us/\p.1=kz (strV p.2):=λp hm=>bu (hp.mem_iff.mp hm)
 refine⟨λu hu=>?_,?_,?_⟩
 ·obtain⟨p,hm,rfl⟩:=Zzv.mp hu
  exact(hz p hm).1
 ·have e:(((us.map strV).map kz).zip us).map (λp=>strV p.2)=us.map strV:=by
   have:(((us.map strV).map kz).zip us).map Prod.snd=us:=List.map_snd_zip (by simp)
   have h2:=congrArg (Zy4 strV) this
   rw[Zyh] at h2
   exact h2
  rw[Zyh,<- e]
  exact hp.map _
 ·rw[Zyh,List.pairwise_map]
  refine hs.imp_of_mem λ{a b} ha hb hab=>?_
  have hab:a.1<=b.1:=hab
  rw[(hz a ha).2,(hz b hb).2] at hab
  exact hab
section
variable {X:Cx}
def Cj(P:Addr)(pos:Pos)(q:Str)(i:Nat)(Z:St)(Q:VK)(x:V)(H1:Hp):Prop:=∃(l:Addr) (xs:List Str) (d:Addr) (kvs:List (Key×V)) (kz:Str->Int),x=.ref l/\H1 l=some (.lst (xs.map V.str))/\xs.length<64/\Z[i]?=some (some (.ref d))/\H1 d=some (.dK kvs) /\
 (∀x∈xs,Fk kvs (.inr x)=some (.int (kz x)))/\TblAt H1 P pos q/\∀r ys H2,H1 r=none->H2 r=some (.lst (ys.map V.str))->Vb kz xs ys->Np kz xs ys->TblAt H2 P pos q->But P H1 H2->Q (.ref r) H2
def Dc(P:Addr)(pos:Pos)(q:Str)(i:Nat)(te:TE):TE:=λZ H Q=>te Z H (Cj P pos q i Z Q)
theorem mi{e:Expr}{te:TE}{p1 p2 kp lp q1 q2 q3:Pos}{params:Arguments}{scope:Scope}{i k:Nat}{nm lv:Str}{P c:Addr}(hg:Gl X "sorted")(hm:X.mg "sorted" = none)(he:PE X e te)(hr:Room k X.A)
  (hcd:X.env.code=.ref c) (hC:codeHdIn X.K c P=true) (hB:Op X.mg X.base) (hdef:defaultsOf params X.env=([],[])) (hN:X.N[i]?=some lv) (hlv:X.env.scope.names.lookup lv=some .cell) (hcl:∀cc,X.env.cells.lookup lv=some cc->closureFor scope X.env=pure [(lv,cc)])
  (hsc:scope.kind=.function/\scope.isCoroutine=false/\scope.isGenerator=false/\scope.names.lookup nm=some .local/\scope.names.lookup lv=some .free/\∀x∈scope.names,x.2≠.cell)
  (hbind:∀(cc c':Addr) (pm ctv v:Value),bindArgs (kla_fn "<lambda>" (X.env.qual ++ "<lambda>") params (.Subscript (.Name lv q1) (.Name nm q2) q3) scope [(lv,cc)] pm (.ref c') ctv) ⟨[v],[]⟩=pure [(nm,v)])
  (hn1:(nm == ("__debug__" : Str))=false:=by decide) (hn2:(lv == ("__debug__" : Str))=false:=by decide) (hn3:(lv == ("__classdict__" : Str))=false:=by decide) (hn:Fp [e]=true:=by rfl) :
  PE X (.Call (.Name "sorted" p1) [e] [⟨some "key",.Lambda params (.Subscript (.Name lv q1) (.Name nm q2) q3) scope lp,kp⟩] p2) (Dc P lp (X.env.qual ++ "<lambda>") i te):=by
 intro pins s Z H Q I h
 refine wpAny_Call_Name_kw (Jh I hg hm NP.V5 ?_ (by decide) (by decide))
 have hx:∃cc,X.env.cells.lookup lv=some cc:=I.ok.has lv (.inl hlv)
 obtain⟨cc,hcc⟩:=hx
 refine callWith_kw (thn ((A3 he A1 hn) p2 pins s Z H (λvs H1=>match vs with | [x]=>Cj P lp (X.env.qual ++ "<lambda>") i Z Q x H1 | _=>False) I h) λus s1 ⟨vs,H1,I1,r1,hv⟩=>?_) ?_ ?_ rfl rfl
 ·match vs,hv,r1 with
  |[x],⟨l,xs,d,kvs,kz,ex,hl,h64,hσ,hd,hval,tb,q⟩,r1 =>
  subst ex
  obtain⟨u,rfl,ru⟩:=K4 r1
  cases ru
  refine kws_cons (ny I1 hcd hC hB tb hdef (hcl cc hcc) λf c' ctv H' s2 I2 hf Hf hc' tb' bt=>kws_nil ?_)
  have hPs:∃u,H1 P=some (.tbl u):=tb.elim (λe=>⟨_,e⟩) (λz0=>by obtain⟨c,e,_⟩:=z0;exact ⟨_,e⟩)
  obtain⟨pt,hPt⟩:=hPs
  have hl2:H' l=some (.lst (xs.map V.str)):=bt _ _ (λz=>by rw[z,hPt] at hl;cases hl) hl
  have hd2:H' d=some (.dK kvs):=bt _ _ (λz=>by rw[z,hPt] at hd;cases hd) hd
  obtain⟨its,rv,hil,hlt⟩:=Cg I2 hl2
  obtain⟨eit,hit⟩:=ke rv
  obtain⟨m,F⟩:=I2.fr
  obtain⟨zd,nd,dv,rel,hdd⟩:=I2.hok d _ hd2
  have hcell:s2.heap.IsCell cc (some (.ref d)):=by
   obtain⟨m',hn',hl'⟩:=I2.loc
   obtain⟨u,ru,lk⟩:=hl' i lv (.ref d) hN hσ (.inr (.inl hlv))
   cases ru
   rcases lk with ⟨hk,_⟩ | ⟨_,c2,e2,e3⟩
   ·have hk:X.env.scope.names.lookup lv=some .local:=hk
    rw[hlv] at hk;cases hk
   ·rw[hcc] at e2;cases e2;exact e3
  have hrec:s2.heap.CodeRec (.ref c') (X.env.qual ++ "<lambda>"):=qg I2.hok hc'
  have nL:∀b o,s2.heap.get? b=some o->(∀es ep,o.data≠.dict es ep)->b≠X.env.locals:=λb o e n z=>by
   obtain⟨oL,es,ep,e2,d2,_⟩:=F.ns
   rw[<- z,e] at e2;cases e2;exact n _ _ d2
  have keepA:∀(h:Heap) (own:List (Addr×Obj)),Fr X.base X.env.locals h m->News X.base X.env.locals h (Ij X.base s2.heap X.env.locals++own)->∀b o,b≠X.env.locals->s2.heap.get? b=some o->h.get? b=some o:=λh own F' N' b o nb e=>by
   cases z:X.base.get? b with
   |some u =>
    have:=I2.bk b u z
    rw[e] at this;cases this
    exact F'.keep b _ z
   |none=>exact(N' (b,o) (Zxa _ (Jv nb z e))).1
  have hil2:its.length=xs.length:=by have:=rv.length;rw[Zzz] at this;exact this.symm
  have step:∀(v:Value),v∈its->∀(h:Heap) (tk:Nat) (own:List (Addr×Obj)),Fr X.base X.env.locals h m->News X.base X.env.locals h (Ij X.base s2.heap X.env.locals++own) ->
    wpAny (model X.prog X.w) X.A.in1.in1 (call (.ref f) [v]) (λv' s'=>∃h' tk' t',s'={s2 with heap:=h',toks:=tk'}/\v'=.int (kz (strV v)) t'/\∀b o,h.get? b=some o->h'.get? b=some o) (λ_ _=>False) {s2 with heap:=h,toks:=tk}:=by
   intro v hvm h tk own F' N'
   obtain⟨t,ev⟩:=hit v hvm
   have hmem:strV v∈xs:=by rw[<- eit];exact Zzv.mpr ⟨v,hvm,rfl⟩
   have kp:=keepA h own F' N'
   obtain⟨w',hw,rw'⟩:=RelO.some_of (v:=.int (kz (strV v))) (o:=valueAt dv (.inr (strV v))) (by have:=rel.val (.inr (strV v));rw[hval _ hmem] at this;exact this)
   obtain⟨tk',ew⟩:=rw'
   subst ew
   have dL:d≠X.env.locals:=λz=>by rw[z,I2.free] at hd2;cases hd2
   have cL:cc≠X.env.locals:=I2.cne lv cc hcc
   have fL:f≠X.env.locals:=nL f _ hf (λes ep z=>by cases z)
   have c'L:c'≠X.env.locals:=λz=>by rw[z,I2.free] at hc';cases hc'
   have hroom:X.A.depth<recursionLimit:=by have:=hr.dp;omega
   have hk1:=vg (prog:=X.prog) (w:=X.w) (A:=X.A.in1.in1) (s:={s2 with heap:=h,toks:=tk}) (nm:=nm) (lv:=lv) (x:=strV v) (k:=kz (strV v)) (t:=tk') (t0:=t) (vs:=dv) (kp f _ fL hf) (by
    obtain⟨c2,o,vs,t2,e1,e2,r⟩:=hrec
    cases e1
    exact⟨c',o,vs,t2,rfl,kp _ _ c'L e2,r⟩) (by
    obtain⟨o,e1,r⟩:=hcell
    exact⟨o,kp _ _ cL e1,r⟩) (by
    obtain⟨o,es,ep,e1,r⟩:=hdd
    exact⟨o,es,ep,kp _ _ dL e1,r⟩) hw hroom (I2.ok.mod.nolimit.keeps F'.keep) hsc (hbind cc c' _ ctv _) hn1 hn2 hn3
   rw[<- ev] at hk1
   exact hk1
  have fin:∀(D:Addr) (h':Heap) (tk:Nat) (out:Array Value) (c:Nat),Fr X.base X.env.locals h' m->News X.base X.env.locals h' ((D,seqObj "list" out c)::Ij X.base s2.heap X.env.locals)->(∀q∈Ij X.base s2.heap X.env.locals,q.1<D)->(∀u∈out.toList,u∈its)->Np kz xs (out.toList.map strV)->EP X pins Z Q (.ref D) {s2 with heap:=h',toks:=tk}:=by
   intro D h' tk out c F' N' hlt2 hsub hstab
   have hsort:=M2 hstab
   have hD:=N' (D,seqObj "list" out c) Zzf
   have N2:News X.base X.env.locals h' (Ij X.base s2.heap X.env.locals++[]):=λp hp=>N' p (Zzd _ (by rw[Zzn] at hp;exact hp))
   have kp:=keepA h' [] F' N2
   have tL:∀b u,H' b=some u->b≠X.env.locals:=λb u e z=>by rw[z,I2.free] at e;cases e
   have neD:∀b o,s2.heap.get? b=some o->b≠D:=λb o e z=>by
    by_cases hb:b=X.env.locals
    ·exact hD.2.1 (z.symm.trans hb)
    ·cases y:X.base.get? b with
     |some u=>rw[z] at y;rw[hD.2.2] at y;cases y
     |none=>exact absurd (hlt2 (b,o) (Jv hb y e)) (by rw[z];exact Zwf _)
   have HD:H' D=none:=by
    cases y:H' D with
    |none=>rfl
    |some u =>
     obtain⟨o,e⟩:=(show ∃o,s2.heap.get? D=some o from db (I2.hok D u y))
     exact absurd rfl (neD D o e)
   have vs2:Vals ((out.toList.map strV).map V.str) out.toList:=Qb λu hu=>hit u (hsub u hu)
   have hlen:(out.toList.map strV).length=xs.length:=hsort.1.length_eq
   have I3:Inv X pins Z (upd H' D (.lst ((out.toList.map strV).map V.str))) {s2 with heap:=h',gens:=s2.gens,drawn:=s2.drawn,toks:=tk}:=by
    refine I2.step (g':=s2.gens) (d':=s2.drawn) (ch:=[]) (λ_ z=>nomatch z) (λb o nb _ _ e _=>kp b o nb e) (λb o nb _ _ e _=>⟨o.slots,kp b o nb e⟩) (λb o _ e n=>by rw[A7 (neD b o e)];exact n) (λb o _ e=>?_)
     (λb ys e=>by rw[A7 (A4 e HD)];exact e) (λb o u e=>by rw[A7 (A4 e HD)];exact e) (λb ps e=>⟨#[],by rw[A7 (A4 e HD),e];simp⟩) (λm' hm'=>?_) (λb u e=>?_) I2.bare
    ·by_cases hb:b=X.env.locals
     ·obtain⟨oL,_,_,e2,_⟩:=F'.ns
      exact⟨oL,by rw[hb];exact e2⟩
     ·exact⟨o,kp b o hb e⟩
    ·have em:m'=m:=funext λx=>hm'.agree F.ns x
     rw[em]
     exact F'.ns
    ·by_cases hb:b=D
     ·subst hb
      rw[A0] at e
      cases e
      refine⟨by rw[Zzz,hlen];exact Bf (by omega),out.toList,c,vs2,?_⟩
      rw[Array.toArray_toList]
      exact hD.1
     ·rw[A7 hb] at e
      refine(I2.hok b u e).stay (λb' u' hb' q'=>kp b' u' ?_ q') (λb' q'=>by rw[A7 (A4 q' HD)];exact q') λb' ys q'=>by rw[A7 (A4 q' HD)];exact q'
      rcases hb' with r | r
      ·rw[r];exact tL b u e
      ·exact tL b' _ r
   have H1D:H1 D=none:=by
    cases y:H1 D with
    |none=>rfl
    |some u =>
     have hDP:D≠P:=λz=>by
      have:H' P=none:=by rw[<- z];exact HD
      rcases tb' with e | ⟨_,e,_⟩<;>· rw[this] at e;cases e
     rw[bt _ _ hDP y] at HD;cases HD
   exact⟨.ref D,_,I3,rfl,q D _ _ H1D A0 hsort hstab (tb'.same (A6 HD)) (bt.new HD)⟩
  by_cases h2:2<=its.length
  ·refine kat_sortedK (f:=.ref f) (b:=false) F Sj hil h2 (by omega) (ksk_s1 _ _) (λx=>ksk_l1 _ _) (λx=>ksk_t1 _ _) λD kS e1 h' F' N' hDk hlt2=>?_
   have keys:∀(rest ks don:List Value) (e:Nat) (h:Heap) (tk:Nat),its=don++rest->IntsAre ks ((don.map strV).map kz)->Fr X.base X.env.locals h m->News X.base X.env.locals h ((kS,seqObj "list" (Zxn ks) e)::(D,seqObj "list" #[] e1)::Ij X.base s2.heap X.env.locals) ->
     KatKeys X.prog X.w X.A.in1.in1 X.base X.env.locals m kS (.ref f) (λks e s'=>wpAny (model X.prog X.w) X.A.in1.in1 (keyKind' (Zxn ks)) (λκ s''=>(kas_sort its.length).kasWp (kas_ask X.prog X.w X.A.in1.in1 κ (katRev false ks)) (λp s3=>KatFin X.base X.env.locals m kS D ks e e1 (katRev false (p.toList.map λi=>(katRev false its).getD i Value.none)) (λs4=>EP X pins Z Q (.ref D) s4) s3) s'') (λ_ _=>False) s') rest ks e {s2 with heap:=h,toks:=tk}:=by
    intro rest
    induction rest with
    |nil =>
     intro ks don e h tk eq hi Fh Nh
     rw[Zzn] at eq
     subst eq
     have hkl:ks.length=its.length:=by have:=hi.length;rw[Zzz,Zzz] at this;exact this
     show wpAny (model X.prog X.w) X.A.in1.in1 (keyKind' (Zxn ks)) _ _ _
     rw[ksk_kind (keys:=Zxn ks) (kz:=(its.map strV).map kz) (by simpa using hi) (by simp;omega)]
     refine wpAny_pure ?_
     have kat:∀i,i<its.length->∃t,ks.getD i Value.none=.int (kz (strV (its.getD i Value.none))) t:=λi hi2=>by
      have h1:((its.map strV).map kz)[i]?=some (kz (strV (its.getD i Value.none))):=by
       rw[Zzy,Zzy,Zzs hi2,Zzo,Zzs hi2];rfl
      obtain⟨t,ht⟩:=Ms hi h1
      exact⟨t,by rw[Zzo,ht];rfl⟩
     refine Sn (n:=its.length) (key:=λi=>kz (strV (its.getD i Value.none))) (Qp:=λp=>Srt its.length (λi=>kz (strV (its.getD i Value.none))) p its.length) (λi j C hi2 hj2 hC=>?_) (λp hp=>?_) (ck h2)
     ·obtain⟨t1,e1'⟩:=kat i hi2
      obtain⟨t2,e2'⟩:=kat j hj2
      show wpAny _ _ (keyLt' oneType' (ks.getD i Value.none) (ks.getD j Value.none)) C _ _
      rw[e1',e2']
      exact kat_lt_int hC
     ·have nkD:kS≠D:=Zxe hDk
      have nall:∀q∈Ij X.base s2.heap X.env.locals,q.1≠kS/\q.1≠D:=λq hq=>by have:=hlt2 q hq;exact⟨Zyb (Zv5 this hDk),Zyb this⟩
      refine KatFin.intro Fh Nh (.head λq hq=>?_) λh3 c3 F3 N3=>KasFin.intro F3 N3 (.tail nkD (.head λq hq=>(nall q hq).2)) λh4 c4 F4 N4=>?_
      ·rcases Zzt.mp hq with z | z
       ·rw[z];exact Zzi nkD
       ·exact(nall q z).1
      ·refine fin D h4 tk (Zxn (p.toList.map λi=>its.getD i Value.none)) c4 F4 (λq hq=>N4 q (Zzd _ hq)) hlt2 (λu hu=>?_) ?_
       ·have hu:u∈p.toList.map λi=>its.getD i Value.none:=by simpa using hu
        obtain⟨i,hi2,rfl⟩:=Zzv.mp hu
        have hi3:i<its.length:=Zwp.mp (hp.pm.mem_iff.mp hi2)
        rw[Zzo,Zzs hi3]
        exact Zvq hi3
       ·have exs:∀i,xs.getD i "" = strV (its.getD i Value.none):=λi=>by
         rw[<- eit,Zzo,Zzo,Zzy]
         cases its[i]?<;>rfl
        refine⟨p.toList,by rw[<- hil2];exact hp.pm,?_,?_⟩
        ·rw[Zyh]
         exact Zx4 λi _=>(exs i).symm
        ·have:(λi=>kz (xs.getD i ""))=λi=>kz (strV (its.getD i Value.none)):=funext λi=>by rw[exs]
         rw[this]
         exact lg hp
    |cons v r ih =>
     intro ks don e h tk eq hi Fh Nh
     have hvm:v∈its:=by rw[eq];simp
     have Nh2:News X.base X.env.locals h (Ij X.base s2.heap X.env.locals++[(kS,seqObj "list" (Zxn ks) e),(D,seqObj "list" #[] e1)]):=λq hq=>by
      rcases Zyj.mp hq with z | z
      ·exact Nh q (Zzd _ (Zzd _ z))
      ·rcases Zzt.mp z with y | y
       ·rw[y];exact Nh _ Zzf
       ·rw[Zyw.mp y];exact Nh _ (Zzd _ Zzf)
     refine KatKeys.cons (wpAny_mono (step v hvm h tk _ Fh Nh2) (λv' s' hh=>?_) (λ_ _ z=>z))
     obtain⟨h3,tk3,t3,e1',e2',k3⟩:=hh
     subst e1' e2'
     have nkD:kS≠D:=Zxe hDk
     refine KatBack.intro (F:=Fh.kept k3) (N:=Nh.grown k3) (U:=.head λq hq=>?_) λh4 c4 F4 N4=>?_
     ·rcases Zzt.mp hq with z | z
      ·rw[z];exact Zzi nkD
      ·have:=hlt2 q z;exact Zyb (Zv5 this hDk)
     ·exact ih (ks++[.int (kz (strV v)) t3]) (don++[v]) c4 h4 tk3 (by rw[eq];simp) (by rw[Zzq,Zzq];exact ksk_snoc hi) F4 N4
   exact keys its [] [] 0 h' s2.toks rfl .nil F' N'
  ·refine ksk_sorted (kz:=(its.map strV).map kz) (f:=.ref f) (b:=false) F Sj hil (by simp) (by omega) (ksk_s1 _ _) (λx=>ksk_l1 _ _) (λx=>ksk_t1 _ _) (λj v kk hv hk h tk own F' N'=>?_) (λD h' tk out c F' N' hlt2 hout=>?_)
   ·have ek:kk=kz (strV v):=by
     rw[Zzy,Zzy,hv] at hk
     exact(Zz3 hk).symm
    subst ek
    refine wpAny_mono (step v (Zzr hv) h tk own F' N') (λv' s' hh=>?_) (λ_ _ z=>z)
    obtain⟨h3,tk3,t3,e1,e2,k3⟩:=hh
    subst e1 e2
    exact⟨h3,tk3,t3,rfl,rfl,F'.kept k3,N'.grown k3⟩
   ·obtain⟨hsub,hsort⟩:=gm hout
    rw[eit] at hsort
    exact fin D h' tk out c F' N' hlt2 hsub (Zl hsort.1 (by omega))
 ·rw[Fe hn];rfl
 ·exact Gd hn
end
def A0j(H:Hp)(a Pt:Addr):Prop:=∀b u,H b=some u->(b=Pt/\u=.tbl #[])\/(b=a/\∃o xs,u=.frz o (.lst xs))
theorem Yq{P:Program}{w:World}{K:Frag}{mg mb:Str->Option Value}{k:Nat}{fa a Pt ct:Addr}{fd:FuncData}{x:Str}{sp:Sp}{s₁:Shared}{H:Hp}
  (KX:K.In s₁.heap) (hns:s₁.heap.Ns mainGlobals mg) (hb:s₁.heap.Ns builtinsNs mb) (hbb:∀x:Str,x ≠ "__name__" -> mb x=bootBuiltins x) (hlim:s₁.heap.NoLimit) (hg:s₁.gens=#[]) (hr:Room k callerA)
  (hT:s₁.heap.TableAt ct Pt #[]) (hBM:Op mg s₁.heap) (hO:A0j H a Pt) (hHK:∀b u,H b=some u->K.lookup b=none) (ok:HOk P w H s₁.heap)
  (F:∀base:Heap,K.In base->base.Ns mainGlobals mg->Op mg base->D3 P w K mg base CX0 k fa fd [x] sp) (hbind:∀(s:Shared) (u:Value),BindsTo s fd ⟨[u],[]⟩ [(x,u)])
  (hsp:sp [.ref a] H (λv _=>v=.bl true) λ_ _ _=>False) :
  codeAny (model P w) callerA (.call (.ref fa) ⟨[.ref a],[]⟩) (λr s'=>r=.ok (.ret (.bool true))/\OldK s₁.heap s'.heap/\s'.os=s₁.os/\AllBare s'.gens) s₁:=by
 have noD:∀{b:Addr} {o:Obj},s₁.heap.get? b=some o->(∀vs:Array Value,o.data≠.fields vs)->(∀vs n,o.data≠.seq vs n)->H b=none:=λ{b o} e n1 n2=>by
  cases q:H b with
  |none=>rfl
  |some u =>
   have y:=ok b u q
   rcases hO b u q with ⟨_,rfl⟩ | ⟨_,ob,xs,rfl⟩
   ·have y:s₁.heap.get? b=some {cls:=.none,data:=.fields #[]}:=y
    rw[e] at y;cases y;exact absurd rfl (n1 _)
   ·obtain⟨_,_,its,m,_,y3⟩:=y
    rw[e] at y3;cases y3;exact absurd rfl (n2 _ _)
 have baseG:∀{b:Addr} {o:Obj},s₁.heap.get? b=some o->H b=none->(Tx s₁.heap H).get? b=some o:=λe n=>on e n
 have nsB:∀{b:Addr} {m:Str->Option Value},s₁.heap.Ns b m->(Tx s₁.heap H).Ns b m:=λ{b m} ⟨o,es,ep,e,d,r⟩=>⟨o,es,ep,baseG e (noD e (λ_ z=>by rw[d] at z;cases z) (λ_ _ z=>by rw[d] at z;cases z)),d,r⟩
 have kB:K.In (Tx s₁.heap H):=λb o e=>baseG (KX b o e) (by
  cases q:H b with
  |none=>rfl
  |some u=>rw[hHK b u q] at e;cases e)
 have bB:Op mg (Tx s₁.heap H):=by
  obtain⟨bm,ob,b1,b2,b3,b4,b5,b6,b7⟩:=hBM
  exact⟨bm,ob,b1,b2,b3,baseG b4 (noD b4 (λ_ z=>by rw[b7] at z;cases z) (λ_ _ z=>by rw[b7] at z;cases z)),b5,b6,b7⟩
 have mB:Mod K mg (Tx s₁.heap H):=⟨kB,nsB hns,⟨mb,nsB hb,hbb⟩,by obtain⟨mc,h1,h2⟩:=hlim;exact⟨mc,nsB h1,h2⟩⟩
 have e0:wz P w K mg (Tx s₁.heap H) callerA [] s₁ H:=⟨rfl,mB,λb o e=>va e,Zvj (je _ _),trivial,(λb hb=>nomatch (show b∈([]:List Addr) from hb)),ok,.of_eq hg⟩
 refine codeAny_mono ((F _ kB (nsB hns) bB).run callerA [] s₁ H ⟨[.ref a],[]⟩ [.ref a] [.ref a] _ _ hr e0 (hbind s₁ (.ref a)) (.cons rfl .nil) hsp) λr s' h=>?_
 cases r with
 |error e=>exact h.elim
 |ok fl =>
  cases fl with
  |next=>exact h.elim
  |brk=>exact h.elim
  |cont=>exact h.elim
  |ret u =>
   obtain⟨v,H',os,bare,un,ok',r',q⟩:=h
   have q:v=.bl true:=q
   subst q
   obtain rfl:u=Value.bool true:=r'
   have old:∀b o,s₁.heap.get? b=some o->asItWas s₁.heap s'.heap b o:=λb o e=>by
    cases y:H b with
    |none=>exact .inl (un.keep b o e y (by intro z;cases z) (by simp))
    |some u =>
     have ob:=ok b u y
     rcases hO b u y with ⟨rfl,rfl⟩ | ⟨_,oo,xs,rfl⟩
     ·obtain⟨more,e2⟩:=un.tbls b #[] y
      have ob:s₁.heap.get? b=some {cls:=.none,data:=.fields #[]}:=ob
      rw[e] at ob
      cases ob
      have e3:s'.heap.get? b=some {cls:=.none,data:=.fields (#[]++more)}:=ok' b _ e2
      exact .inr (.inl ⟨hT.isCodeTable,rfl,#[],more,rfl,e3⟩)
     ·have e2:=un.frzs b oo _ y
      have e3:=(ok' b _ e2).1
      have e4:=ob.1
      rw[e] at e4
      cases e4
      exact .inl e3
   exact⟨rfl,⟨old,λb o e=>un.there b o e (by simp)⟩,os,bare⟩
theorem kc{l:OpenLaw}{n k:Nat}{q:Program}{loose:List Str}{XP:(Str->Option Value)->Heap->Prop}{YP:World->Heap->Prop}{d dw:DefRec}{K:Params->Frag}{sp:World->Addr->Sp}{x wk:Str}
  (hn:l.most=some n) (hn2:n<=sizeLine) (hdf:d.params.defaults=[]) (hr:Room k callerA) (hY:∀(w:World) (h:Heap),YP w h->(K w.params).In h) (hw:(recsOf q).find? (λe=>e.name == wk)=some dw)
  (F:∀(w:World) (mg:Str->Option Value) (fa:Addr) (h:Heap),(K w.params).In h->h.Ns mainGlobals mg->mg d.name=some (.ref fa) ->
   ∃(fd:FuncData) (ct Pt:Addr),(∀(s:Shared) (u:Value),BindsTo s fd ⟨[u],[]⟩ [(x,u)])/\tabIn (K w.params) wk=some (ct,Pt)/\(K w.params).lookup Pt=none /\
    ∀base:Heap,(K w.params).In base->base.Ns mainGlobals mg->Op mg base->D3 l.prog w (K w.params) mg base CX0 k fa fd [x] (sp w Pt))
  (hsp:∀(w:World) (H:Hp) (a Pt:Addr) (ns:List Int),ns.length<=n->H Pt=some (.tbl #[])->SqL (K w.params) H a (ns.map V.int)->sp w Pt [.ref a] H (λv _=>v=.bl true) λ_ _ _=>False) :
  WalkO q loose XP YP l.row.toRowW d [] (λf vs=>PySem.call f vs):=by
 refine Att.attach_call hn hdf λw s₀ s₁ mg mb fa o pm cd doc a vs ns G Y ho hd hcd hmg hobj hints hlen hg=>?_
 have KX:=hY w _ Y
 obtain⟨fd,ct,Pt,hbd,htab,hKP,hF⟩:=F w mg fa _ KX G.T.g hmg
 obtain⟨hC,hP⟩:=tab_of G.T KX hw htab
 have hT:=hC.tab hP
 have aP:a≠Pt:=λz=>by rw[z,hP] at hobj;cases hobj
 have hBM:Op mg s₁.heap:=by
  obtain⟨bm,ob,b1,b2,b3,b4,b5,b6⟩:=G.T.bmain
  refine⟨bm,ob,b1,b2,λz=>?_,b3,b4,b5,b6⟩
  obtain⟨og,es,ep,e,dg,_⟩:=G.T.g
  rw[<- z,b3] at e
  cases e
  rw[b6] at dg
  cases dg
 have rv:=U1 hints
 have lenV:=hints.length
 have okP:∀H:Hp,ObjOk l.prog w H s₁.heap Pt (.tbl #[]):=λ_=>hP
 cases hk:(K w.params).lookup a with
 |some oa =>
  have e:=KX a oa hk
  rw[hobj] at e
  cases e
  refine Yq (H:=upd (λ_=>none) Pt (.tbl #[])) KX G.T.g G.T.b G.T.builtins G.T.nolimit hg hr hT hBM (λb u y=>?_) (λb u y=>?_) (λb u y=>?_) hF hbd (hsp w _ a Pt ns hlen A0 (.inr ⟨_,vs.toArray,_,hk,rfl,rfl,rfl,by rw[Zzl,lenV];exact Zyf hlen hn2,by simpa using rv⟩))
  ·by_cases z:b=Pt
   ·subst z;rw[A0] at y;cases y;exact .inl ⟨rfl,rfl⟩
   ·rw[A7 z] at y;cases y
  ·by_cases z:b=Pt
   ·rw[z];exact hKP
   ·rw[A7 z] at y;cases y
  ·by_cases z:b=Pt
   ·subst z;rw[A0] at y;cases y;exact okP _
   ·rw[A7 z] at y;cases y
 |none =>
  refine Yq (H:=upd (upd (λ_=>none) Pt (.tbl #[])) a (.frz {cls:=.type "list",data:=.seq vs.toArray} (.lst (ns.map V.int)))) KX G.T.g G.T.b G.T.builtins G.T.nolimit hg hr hT hBM (λb u y=>?_) (λb u y=>?_) (λb u y=>?_) hF hbd (hsp w _ a Pt ns hlen (by rw[A7 (Zzi aP),A0]) (.inl (.inr ⟨_,A0⟩)))
  ·by_cases z2:b=a
   ·subst z2;rw[A0] at y;cases y;exact .inr ⟨rfl,_,_,rfl⟩
   ·rw[A7 z2] at y
    by_cases z:b=Pt
    ·subst z;rw[A0] at y;cases y;exact .inl ⟨rfl,rfl⟩
    ·rw[A7 z] at y;cases y
  ·by_cases z2:b=a
   ·rw[z2];exact hk
   ·rw[A7 z2] at y
    by_cases z:b=Pt
    ·rw[z];exact hKP
    ·rw[A7 z] at y;cases y
  ·by_cases z2:b=a
   ·subst z2;rw[A0] at y;cases y
    exact⟨hobj,by rw[Zzz];exact Zyf hlen hn2,vs,_,rv,hobj⟩
   ·rw[A7 z2] at y
    by_cases z:b=Pt
    ·subst z;rw[A0] at y;cases y;exact okP _
    ·rw[A7 z] at y;cases y
def qe(vs:Array Value)(c P:Addr):Bool:=(match vs.getD 18 .none with | .str _ _=>true | _=>false)&&(match vs.getD 7 .none with | .int _ _=>true | _=>false)&&(match vs.getD 9 .none with | .bool _=>true | _=>false)&&(match vs.getD 10 .none with | .int _ _=>true | _=>false)&&c != P
theorem jm{K:Frag}{c P:Addr}{od:Option Addr}{vs:Array Value}{sl:Array (Option Value)}(tl:K.lookup c=some ⟨.type "code",od,.fields vs,sl⟩)(h11:vs[11]?=some (.ref P))(h:qe vs c P=true):codeHdIn K c P=true:=by
 unfold codeHdIn
 rw[tl]
 simp only[h11,BEq.rfl,Zyc]
 exact h
theorem kq{K:Frag}{x:Str}{f c P:Addr}{oc:Value}{od odc:Option Addr}{fd:FuncData}{sl slc:Array (Option Value)}{vs:Array Value}(hn:nsIn K mainGlobals x=some (some (.ref f)))(hl:K.lookup f=some ⟨oc,od,.func fd,sl⟩)(hc:fd.code=.ref c)(tl:K.lookup c=some ⟨.type "code",odc,.fields vs,slc⟩)(h11:vs[11]?=some (.ref P)):tabIn K x=some (c,P):=by
 unfold tabIn
 simp only[hn,hl,hc,tl,h11]
theorem Z1{K:Frag}{x:Str}{f c P:Addr}{oc:Value}{od:Option Addr}{fd:FuncData}{sl:Array (Option Value)}(h:tabIn K x=some (c,P))(hn:nsIn K mainGlobals x=some (some (.ref f)))(hl:K.lookup f=some ⟨oc,od,.func fd,sl⟩):fd.code=.ref c:=by
 unfold tabIn at h
 simp only[hn,hl] at h
 split at h
 ·rename_i c' hc
  split at h
  ·split at h
   ·cases h
    exact hc
   ·cases h
  ·cases h
 ·cases h
theorem Z2{nm lv:Str}{scope:Scope}{env:Env}{cc:Addr}(hs:scope.names=[(nm,.local),(lv,.free)])(h:env.cells.lookup lv=some cc):closureFor scope env=pure [(lv,cc)]:=by
 unfold closureFor
 rw[hs]
 simp[cellOf,h]
structure rj(K:Frag)(f c P:Addr):Prop where
 code:∀oc od fd sl,K.lookup f=some ⟨oc,od,.func fd,sl⟩->fd.code=.ref c
 hd:codeHdIn K c P=true
theorem Fun.okC{P:Program}{w:World}{K:Frag}{mg:Str->Option Value}{base:Heap}{x qual:Str}{st:Stmt}{f c Pt:Addr}{fd:FuncData}{N ps:List Str}{k:Nat}{sp:Sp}(F:Fun K x qual st f fd)(C:rj K f c Pt)(S:Bg N ps (Ai st))(len:∀vs H Q E,sp vs H Q E->vs.length=ps.length)
  (hbody:∀(A:Around) (outer:List Env) (s:Shared) (H:Hp) (vs:List V) (Q:VK) (E:XK),Room k (A.deeper (envOfC qual (Ai st) s.heap.objs.size f (.ref c)))->sp vs H Q E ->
   ∃t,PSs (bf CX0 P w K mg base N qual (Ai st) f (.ref c) A outer s H E).nox (Kq st) t/\t {nx:=λ_ H'=>Q .non H',rt:=Q} (Dn N vs) H):D3 P w K mg base CX0 (k+1) f fd ps sp:=by
 obtain⟨oc,od,kV,doc,pm,an,cdv,ct,osl,rfl,lk,hcd⟩:=F.ex
 have e:cdv=.ref c:=C.code _ _ _ _ lk
 subst e
 refine xn lk hcd S len λA outer s H vs Q E hr hsp=>?_
 obtain⟨t,h,q⟩:=hbody A outer s H vs Q E hr hsp
 exact⟨t,h.nox,q⟩
end L2
namespace NP
open PySem L2
def Iu(S:Sh)(x:Str):List Wr:=S.wares.filter λw=>decide (x∈w.parts.map (·.1))
def lvF(S:Sh):Nat->Str->Int
 |0,_=>0
 |k+1,x=>Jg ((Iu S x).map λu=>1+lvF S k u.name)
def lv(S:Sh)(x:Str):Int:=lvF S S.wares.length x
structure Lev(S:Sh):Prop where
 nd:(S.wares.map (·.name)).Nodup
 own:∀w∈S.wares,∀p∈w.parts,p.1∈S.wares.map (·.name)
 low:∃r:Str->Nat,(∀w∈S.wares,r w.name<S.wares.length)/\∀w∈S.wares,∀p∈w.parts,r p.1<r w.name
theorem mem_users{S:Sh}{x:Str}{w:Wr}:w∈Iu S x↔w∈S.wares/\x∈w.parts.map (·.1):=by
 unfold Iu
 rw[Zwi]
 exact⟨λz0=>by obtain⟨a,b⟩:=z0;exact ⟨a,of_decide_eq_true b⟩,λz1=>by obtain⟨a,b⟩:=z1;exact ⟨a,decide_eq_true b⟩⟩
theorem ni(S:Sh):∀k x,0<=lvF S k x
 |0,_=>Zy3 _
 |k+1,x=>Wh λy hy=>by
  obtain⟨u,_,rfl⟩:=Zzv.mp hy
  have:=ni S k u.name
  show 0<=1+lvF S k u.name
  omega
theorem Yf{S:Sh}{r:Str->Nat}(hr:∀w∈S.wares,r w.name<S.wares.length)(hp:∀w∈S.wares,∀p∈w.parts,r p.1<r w.name):∀k w,w∈S.wares->S.wares.length - r w.name<=k->lvF S (k+1) w.name=lvF S k w.name
 |0,w,hw,h=>by have:=hr w hw;omega
 |k+1,w,hw,h=>by
  show Jg ((Iu S w.name).map λu=>1+lvF S (k+1) u.name)=Jg ((Iu S w.name).map λu=>1+lvF S k u.name)
  congr 1
  apply Zx4
  intro u hu
  obtain⟨h1,h2⟩:=mem_users.mp hu
  obtain⟨p,hp1,hp2⟩:=Zzv.mp h2
  have h3:=hp u h1 p hp1
  rw[hp2] at h3
  have:=hr u h1
  rw[Yf hr hp k u h1 (by omega)]
theorem xj{S:Sh}(L:Lev S){w:Wr}(hw:w∈S.wares):lv S w.name=Jg ((Iu S w.name).map λu=>1+lv S u.name):=by
 obtain⟨r,h1,h2⟩:=L.low
 have:=Yf h1 h2 S.wares.length w hw (by omega)
 exact this.symm
theorem Um(S:Sh)(x:Str):0<=lv S x:=ni S _ x
theorem Qy{S:Sh}(L:Lev S){w:Wr}(hw:w∈S.wares){p:Str×Int}(hp:p∈w.parts):lv S w.name+1<=lv S p.1:=by
 obtain⟨v,hv,e⟩:=Zzv.mp (L.own w hw p hp)
 rw[<- e,xj L hv]
 have:1+lv S w.name<=Jg ((Iu S v.name).map λu=>1+lv S u.name):=Wi (Zzv.mpr ⟨w,mem_users.mpr ⟨hw,Zzv.mpr ⟨p,hp,e.symm⟩⟩,rfl⟩)
 omega
theorem nh{S:Sh}{k:Nat}{g:Str->Int}(h0:∀x,0<=g x)(h:∀w∈S.wares,∀p∈w.parts,1+lvF S k w.name<=g p.1)(x:Str):lvF S (k+1) x<=g x:=by
 show Jg ((Iu S x).map λu=>1+lvF S k u.name)<=g x
 unfold Jg
 split
 ·exact h0 x
 ·rename_i hn
  obtain⟨u,hu,e⟩:=Zzv.mp (M4 hn)
  rw[<- e]
  obtain⟨h1,h2⟩:=mem_users.mp hu
  obtain⟨p,hp1,hp2⟩:=Zzv.mp h2
  rw[<- hp2]
  exact h u h1 p hp1
def fnD(names:List Str)(g:Str->Int):List (Key×V):=names.map λx=>(Zxk x,V.int (g x))
theorem ee(names:List Str)(g:Str->Int):(fnD names g).length=names.length:=by unfold fnD;rw[Zzz]
theorem R0{names:List Str}{g:Str->Int}{x:Str}(h:x∈names):Fk (fnD names g) (.inr x)=some (.int (g x)):=by
 induction names with
 |nil=>cases h
 |cons y r ih =>
  unfold fnD
  rw[Zzp]
  by_cases e:y=x
  ·rw[G0 (by rw[e])]
   rw[e]
  ·rw[Fw (λz=>e (Zwb z))]
   exact ih ((Zzt.mp h).resolve_left λz=>e z.symm)
theorem oz{names:List Str}{g:Str->Int}{x:Str}(h:x∉names):Fk (fnD names g) (.inr x)=none:=by
 induction names with
 |nil=>rfl
 |cons y r ih =>
  unfold fnD
  rw[Zzp,Fw (λz=>h (by rw[<- Zwb z];exact Zzf))]
  exact ih λm=>h (Zzd _ m)
theorem vt{names:List Str}{g:Str->Int}{y:Str}{v:Int}(h:y∈names):Jc (fnD names g) (.inr y) (.int v)=fnD names λx=>if x=y then v else g x:=by
 unfold Jc
 rw[if_pos (by rw[Js,R0 h];rfl)]
 unfold fnD
 rw[Zyh]
 apply Zx4
 intro x _
 show (if Zxk x=(Zxk y:Key) then (Zxk x,V.int v) else (Zxk x,V.int (g x)))=(Zxk x,V.int (if x=y then v else g x))
 by_cases e:x=y
 ·rw[if_pos (by rw[e]),if_pos e]
 ·rw[if_neg (λz=>e (Zwb z)),if_neg e]
theorem Uw{names:List Str}{g g':Str->Int}(h:∀x∈names,g x=g' x):fnD names g=fnD names g':=by
 unfold fnD
 exact Zx4 λx hx=>by rw[h x hx]
theorem vw{names:List Str}{g:Str->Int}{y:Str}{v:Int}(h:y∉names):Jc (fnD names g) (.inr y) (.int v)=fnD (names++[y]) λx=>if x=y then v else g x:=by
 rw[S1 _ (oz h)]
 unfold fnD
 rw[Zzq]
 congr 1
 ·refine Zx4 λx hx=>?_
  show (Zxk x,V.int (g x))=(Zxk x,V.int (if x=y then v else g x))
  rw[if_neg (λe:x=y=>h (e▸hx))]
 ·show [(Zxk y,V.int v)]=[(Zxk y,V.int (if y=y then v else g y))]
  rw[if_pos rfl]
theorem Nt{xs:List Str}(nd:xs.Nodup){i:Nat}{x:Str}(h:xs[i]?=some x):x∉xs.take i:=by
 intro m
 obtain⟨j,hj⟩:=Zv7.mp m
 rw[Zw0] at hj
 split at hj
 ·rename_i hlt
  have hj2:j<xs.length:=(Zz4.mp hj).1
  have:=(List.getElem?_inj hj2 nd).mp (hj.trans h.symm)
  omega
 ·cases hj
end NP
namespace L2
open PySem PySem.Spec PyProof.Rows
def ItV(a:Addr)(xs:List V):It:=⟨λi H=>H a=some (.lst xs)/\i<xs.length,λi H x H'=>H'=H/\xs.reverse[i]?=some x,λi H=>H a=some (.lst xs)/\i=xs.length⟩
section
variable {X:Cx}
def Ht(ta:TA):TI:=λZ H R=>ta Z H λvs H1=>∃a xs,vs=[.ref a]/\H1 a=some (.lst xs)/\R (ItV a xs) H1
end
end L2
namespace NP
open PySem L2
def Rb(S:Sh)(x:Str):Option Wr:=S.wares.find? λw=>decide (w.name=x)
theorem P0{S:Sh}(nd:(S.wares.map (·.name)).Nodup){w:Wr}(hw:w∈S.wares):Rb S w.name=some w:=by
 unfold Rb
 cases e:S.wares.find? (λv=>decide (v.name=w.name)) with
 |none =>
  have:=List.find?_eq_none.mp e w hw
  simp at this
 |some v =>
  have h1:v.name=w.name:=of_decide_eq_true (by simpa using List.find?_some e)
  have h2:=List.mem_of_find?_eq_some e
  obtain⟨i,hi,ei⟩:=Zx9.mp hw
  obtain⟨j,hj,ej⟩:=Zx9.mp h2
  have:(S.wares.map (·.name))[i]?=(S.wares.map (·.name))[j]?:=by
   rw[Zzy,Zzy,Zzs hi,Zzs hj,ei,ej]
   show some w.name=some v.name
   rw[h1]
  have e2:=(List.getElem?_inj (by rw[Zzz];exact hi) nd).mp this
  subst e2
  rw[<- ei,<- ej]
end NP
namespace L2
open PySem PySem.Spec PyProof.Rows PySem.W NP
def A0i(a b:Str):Prop:=¬ b.cps.toList<a.cps.toList
def fo(xs ys:List Str):Prop:=ys.Perm xs/\ys.Pairwise A0i
section
variable {X:Cx}{pins:List (Addr×Obj)}{Z:St}{H:Hp}{s:Shared}{h':Heap}
end
section
variable {X:Cx}
def Dd:List V->Hp->VK->Prop:=λvs H Q=>∃a xs,vs=[.ref a]/\H a=some (.lst (xs.map V.str))/\xs.length<64/\∀p ys,H p=none->fo xs ys->Q (.ref p) (upd H p (.lst (ys.map V.str)))
def De:List V->Hp->VK->Prop:=λvs H Q=>∃a kvs xs,vs=[.ref a]/\H a=some (.dK kvs)/\kvs.map (·.1)=xs.map Zxk/\xs.length<64/\∀p ys,H p=none->fo xs ys->Q (.ref p) (upd H p (.lst (ys.map V.str)))
def Dh:List V->Hp->VK->Prop:=λvs H Q=>∃a kvs,vs=[.ref a]/\Rd H a (.dK kvs)/\∀p,H p=none->Q (.ref p) (upd H p (.dK kvs))
def Ct:V->List V->Hp->VK->Prop:=λx vs H Q=>∃a kvs,x=.ref a/\vs=[]/\H a=some (.dK kvs)/\Q .non (upd H a (.dK []))
end
end L2
set_option maxHeartbeats 4000000
namespace L2
open PySem PyProof.Rows
def Cr:V->List V->Hp->VK->Prop:=λx vs H Q=>∃(l:Addr) (xs:List Str) (y:Str),x=.ref l/\vs=[.str y]/\H l=some (.lst (xs.map V.str))/\y∈xs/\Q (.int (xs.idxOf y:Nat)) H
theorem Og:∀xs:List Str,(xs.map V.str).all L6=true
 |[]=>rfl
 |x::xs=>by rw[Zzp,Zwe,Og xs];rfl
theorem Ud{kz:Str->Int}{xs ys zs:List Str}(h:Np kz xs ys)(h':Np kz xs zs):ys=zs:=by
 obtain⟨ps,p1,rfl,p2⟩:=h
 obtain⟨qs,q1,rfl,q2⟩:=h'
 have e:ps=qs:=List.Perm.eq_of_pairwise (λa b _ _ h1 h2=>by unfold klt at h1 h2;omega) p2 q2 (p1.trans q1.symm)
 rw[e]
theorem Pl(x:Str):∀xs:List Str,inV (.str x) (xs.map V.str)=decide (x∈xs)
 |[]=>rfl
 |y::xs=>by
  show (y == x||inV (.str x) (xs.map V.str))=decide (x∈y::xs)
  rw[Pl x xs]
  by_cases e:y=x
  ·rw[e];simp
  ·have e2:(y == x)=false:=by simpa using e
   rw[e2,Bool.false_or]
   exact decide_eq_decide.mpr ⟨λm=>Zzd _ m,λm=>(Zzt.mp m).resolve_left λz=>e z.symm⟩
end L2
set_option exponentiation.threshold 4000
namespace L2
open PySem PySem.Spec PyProof.Rows
def F0:V->V->Hp->VK->Prop:=λo i H Q=>∃(p:Addr) (kvs:List (Key×V)) (k:Str) (v:V),o=.ref p/\i=.str k/\H p=some (.dK kvs)/\Fk kvs (.inr k)=some v/\Q v H
end L2
namespace NP
open PySem L2
def Dt(m g:Int):Int:=if -(-m / g) > 0 then -(-m / g) else 0
theorem Up(m g:Int):0<=Dt m g:=by unfold Dt;split<;>omega
theorem Oo{m g:Int}(h:0<g):m<=g*Dt m g:=by
 have h1:=Int.mul_ediv_add_emod (-m) g
 have h2:=Zv2 (-m) (b:=g) (by omega)
 have h3:g*(-(-m / g))=-(g*(-m / g)):=Int.mul_neg ..
 unfold Dt
 split
 ·rw[h3];omega
 ·rename_i q
  have h4:0<=-m / g:=by omega
  have h5:0<=g*(-m / g):=Zus (by omega) h4
  omega
theorem Pf{m g:Int}(h:0<g)(hl:0<Dt m g):g*Dt m g<m+g:=by
 have h1:=Int.mul_ediv_add_emod (-m) g
 have h2:=Zvi (-m) h
 have h3:g*(-(-m / g))=-(g*(-m / g)):=Int.mul_neg ..
 unfold Dt at hl ⊢
 split
 ·rw[h3];omega
 ·rename_i q
  rw[if_neg q] at hl
  omega
theorem Uq{m g:Int}(h:0<g)(hm:0<=m):Dt m g<=m:=by
 by_cases hz:0<Dt m g
 ·have h1:=Pf h hz
  have h2:Dt m g*1<=Dt m g*g:=Zws (by omega) (by omega)
  have h3:g*Dt m g=Dt m g*g:=Int.mul_comm ..
  have h4:(g - 1)*1<=(g - 1)*Dt m g:=Zws (by omega) (by omega)
  have h5:(g - 1)*Dt m g=g*Dt m g - Dt m g:=by rw[Int.sub_mul,Int.one_mul]
  omega
 ·omega
def sn:List Int->Int
 |[]=>0
 |x::r=>x+sn r
def rn(us:List Wt)(x:Str):Int:=sn (us.map λu=>if u.1=x then u.2.2 else 0)
def y6(L:Str->Int)(w:Wr)(x:Str):Int:=sn (w.parts.map λp=>if p.1=x then L w.name*p.2 else 0)
def si(ws:List Wr)(L:Str->Int)(x:Str):Int:=sn (ws.map λw=>y6 L w x)
def yh(S:Sh)(L:Str->Int)(x:Str):Int:=rn S.wants x+si S.wares L x
def exF(S:Sh):Nat->Str->Int
 |0,_=>0
 |k+1,x=>match Rb S x with
  |some w=>Dt (yh S (exF S k) x) w.gives
  |none=>0
def ex(S:Sh)(x:Str):Int:=exF S S.wares.length x
theorem gd{S:Sh}{x:Str}{w:Wr}(h:Rb S x=some w):w∈S.wares/\w.name=x:=⟨List.mem_of_find?_eq_some h,of_decide_eq_true (by simpa using List.find?_some h)⟩
theorem Qe{m g:Int}(h:0<g)(hm:m<=0):Dt m g=0:=by
 unfold Dt
 have:0<=-m / g:=Int.ediv_nonneg (by omega) (by omega)
 rw[if_neg (by omega)]
def above(f g:Int)(xs ys:List Int):Nat->Int
 |0=>-f
 |i+1=>above f g xs ys i+(xs.getD i 0 - ys.getD i 0)+g*Dt (-(above f g xs ys i+(xs.getD i 0 - ys.getD i 0))) g
def Ka(f g:Int)(xs ys:List Int)(i:Nat):Int:=Dt (-(above f g xs ys i+(xs.getD i 0 - ys.getD i 0))) g
def lots(f g:Int)(xs ys:List Int)(n:Nat):List Int:=(Zxy n).map (Ka f g xs ys)
theorem Yg(f g:Int)(xs ys:List Int)(n:Nat):(lots f g xs ys n).length=n:=by simp[lots]
theorem iw(f g:Int)(xs ys:List Int)(n:Nat):lots f g xs ys (n+1)=lots f g xs ys n++[Ka f g xs ys n]:=by
 unfold lots
 rw[List.range_succ,Zzq]
 rfl
theorem nr{f g:Int}{xs ys:List Int}{n i:Nat}(h:i<n):(lots f g xs ys n)[i]?=some (Ka f g xs ys i):=by simp[lots,h]
theorem Uo{f g:Int}{xs ys:List Int}{n i:Nat}(h:i<n):(lots f g xs ys n).getD i 0=Ka f g xs ys i:=by rw[Zzo,nr h];rfl
theorem Oz(f g:Int)(xs ys:List Int)(i:Nat):above f g xs ys (i+1)=above f g xs ys i+(xs.getD i 0 - ys.getD i 0)+g*Ka f g xs ys i:=rfl
theorem ql{f g:Int}{xs ys:List Int}(hg:0<g)(i:Nat):0<=above f g xs ys (i+1):=by
 have:=Oo (m:=-(above f g xs ys i+(xs.getD i 0 - ys.getD i 0))) hg
 rw[Oz]
 unfold Ka
 omega
theorem Z7{f g:Int}{xs ys:List Int}(hg:0<g){i:Nat}(hl:0<Ka f g xs ys i):above f g xs ys (i+1)<g:=by
 have:=Pf hg (show 0<Dt (-(above f g xs ys i+(xs.getD i 0 - ys.getD i 0))) g from hl)
 rw[Oz]
 unfold Ka
 omega
theorem nt(f g:Int)(xs ys:List Int)(i:Nat):0<=Ka f g xs ys i:=Up _ _
theorem qm{f g:Int}{xs ys:List Int}(hg:0<g)(hf:0<=f)(i:Nat):-f<=above f g xs ys i:=by
 cases i with
 |zero=>exact Zy3 _
 |succ i=>have:=ql (f:=f) (xs:=xs) (ys:=ys) hg i;omega
theorem nu{f g:Int}{xs ys:List Int}(hg:0<g)(hf:0<=f){i:Nat}(hx:0<=xs.getD i 0)(hy:0<=ys.getD i 0):Ka f g xs ys i<=f+ys.getD i 0:=by
 have h1:=qm (f:=f) (xs:=xs) (ys:=ys) hg hf i
 unfold Ka
 by_cases h:0<=-(above f g xs ys i+(xs.getD i 0 - ys.getD i 0))
 ·have:=Uq hg h
  omega
 ·rw[Qe hg (by omega)]
  omega
theorem Va{f g:Int}{xs ys:List Int}{n:Nat}(ch:Nat->Int)(hc:∀i,i<n->ch i=xs.getD i 0+g*Ka f g xs ys i - ys.getD i 0):∀i,i<=n->above f g xs ys i=upS ch i - f
 |0,_=>by show -f=0 - f;omega
 |i+1,h=>by
  rw[Oz,Va ch hc i (by omega)]
  show _=upS ch i+ch i - f
  rw[hc i (by omega)]
  omega
def LRF(S:Sh):Nat->Str->List Int
 |0,_=>[]
 |k+1,x=>match Rb S x with
  |some w=>lots w.floor w.gives (C9 (daysN S) (Go w)) (Ck S (LRF S k) x) (daysN S)
  |none=>[]
def LR(S:Sh)(x:Str):List Int:=LRF S S.wares.length x
theorem Wf{S:Sh}{plan plan':Str->List Int}{nm:Str}(h:∀t∈S.wares,∀p∈t.parts,p.1=nm->plan t.name=plan' t.name)(d:Nat):E6 S plan nm d=E6 S plan' nm d:=by
 unfold E6
 congr 1
 refine M8 λt ht=>?_
 unfold pAt
 refine M8 λp hp=>?_
 by_cases e:p.1=nm
 ·rw[if_pos e,if_pos e,h t ht p hp e]
 ·rw[if_neg e,if_neg e]
theorem Sk{S:Sh}{plan plan':Str->List Int}{nm:Str}(h:∀t∈S.wares,∀p∈t.parts,p.1=nm->plan t.name=plan' t.name):Ck S plan nm=Ck S plan' nm:=Dr λd _=>Wf h d
theorem T8{S:Sh}(L:Lev S)(k:Nat){w:Wr}(hw:w∈S.wares):LRF S (k+1) w.name=lots w.floor w.gives (C9 (daysN S) (Go w)) (Ck S (LRF S k) w.name) (daysN S):=by rw[LRF,P0 L.nd hw]
theorem Za{S:Sh}(L:Lev S){r:Str->Nat}(hr:∀w∈S.wares,r w.name<S.wares.length)(hp:∀w∈S.wares,∀p∈w.parts,r p.1<r w.name):∀k w,w∈S.wares->S.wares.length - r w.name<=k->LRF S (k+1) w.name=LRF S k w.name
 |0,w,hw,h=>by have:=hr w hw;omega
 |k+1,w,hw,h=>by
  rw[T8 L _ hw,T8 L _ hw]
  congr 1
  refine Sk λu hu p hpm e=>?_
  have h3:=hp u hu p hpm
  rw[e] at h3
  have:=hr u hu
  exact Za L hr hp k u hu (by omega)
theorem fv{S:Sh}(L:Lev S){w:Wr}(hw:w∈S.wares):LR S w.name=lots w.floor w.gives (C9 (daysN S) (Go w)) (Ck S (LR S) w.name) (daysN S):=by
 obtain⟨r,h1,h2⟩:=L.low
 have h3:=Za L h1 h2 S.wares.length w hw (by omega)
 rw[T8 L _ hw] at h3
 exact h3.symm
theorem T7{S:Sh}(L:Lev S){w:Wr}(hw:w∈S.wares):(LR S w.name).length=daysN S:=by rw[fv L hw,Yg]
theorem ko{S:Sh}(L:Lev S){ys:List Str}(so:Vb (lv S) (S.wares.map (·.name)) ys){i:Nat}{nm:Str}(hi:ys[i]?=some nm){t:Wr}(ht:t∈S.wares){p:Str×Int}(hp:p∈t.parts)(e:p.1=nm):t.name∈ys.take i:=by
 have h1:=Qy L ht hp
 rw[e] at h1
 obtain⟨j,hj⟩:=Zv7.mp (so.1.mem_iff.mpr (Zzv.mpr ⟨t,ht,rfl⟩))
 obtain⟨hil,ei⟩:=Zz4.mp hi
 obtain⟨hjl,ej⟩:=Zz4.mp hj
 have hlt:j<i:=by
  rcases Nat.lt_trichotomy j i with z | z | z
  ·exact z
  ·subst z
   rw[ei] at ej
   rw[ej] at h1
   omega
  ·have:=Zwv.mp so.2 i j hil hjl z
   rw[ei,ej] at this
   omega
 exact Zzr (i:=j) (by rw[Zw0,if_pos hlt];exact hj)
structure X0(S:Sh):Prop where
 wb:∀w∈S.wares,(1<=w.gives/\w.gives<=10^41)/\(0<=w.floor/\w.floor<=10^41)/\0<=w.stock/\w.parts.length<=12/\∀p∈w.parts,1<=p.2/\p.2<=10^41
 com:∀w∈S.wares,∀p∈w.coming,0<=p.2
 few:S.wares.length<=12
 wt:S.wants.length<=20/\∀u∈S.wants,0<=u.2.2/\u.2.2<=10^41
theorem P7{α:Type}{l:List α}{f:α->Int}(h:∀x∈l,0<=f x):0<=Cn f l:=by
 induction l with
 |nil=>exact Zy3 _
 |cons x r ih =>
  rw[Fv]
  have h1:=h x Zzf
  have h2:=ih λy hy=>h y (Zzd _ hy)
  omega
theorem Vg{α:Type}{l:List α}{f:α->Int}{c:Int}{n:Nat}(hc:0<=c)(hl:l.length<=n)(h:∀x∈l,f x<=c):Cn f l<=n*c:=by
 induction l generalizing n with
 |nil=>exact Zus (Int.natCast_nonneg n) hc
 |cons x r ih =>
  cases n with
  |zero=>cases hl
  |succ n =>
   rw[Fv]
   have h1:=h x Zzf
   have h2:=ih (n:=n) (Nat.le_of_succ_le_succ hl) λy hy=>h y (Zzd _ hy)
   have e:((n+1:Nat):Int)*c=n*c+c:=by rw[Int.natCast_add,Int.add_mul];simp
   omega
theorem Wp{xs:List Int}{B:Int}(hB:0<=B)(h:∀x∈xs,0<=x/\x<=B)(i:Nat):0<=xs.getD i 0/\xs.getD i 0<=B:=by
 rw[Zzo]
 cases e:xs[i]? with
 |none=>exact⟨Zy3 _,hB⟩
 |some x=>exact h x (Zzr e)
theorem qj{xs:List Int}{B:Int}(hB:0<=B)(h:∀x∈xs,0<=x/\x<=B)(lag:Int)(d:Nat):0<=bAt xs lag d/\bAt xs lag d<=B:=by
 unfold bAt
 split
 ·exact Wp hB h _
 ·exact⟨Zy3 _,hB⟩
theorem Ui{S:Sh}(E:X0 S){plan:Str->List Int}{B:Int}(hB:0<=B)(h:∀nm,∀x∈plan nm,0<=x/\x<=B)(nm:Str)(d:Nat):0<=E6 S plan nm d/\E6 S plan nm d<=20*10^41+12*(12*(10^41*B)):=by
 have hB2:0<=10^41*B:=Zus (by decide +kernel) hB
 have w0:0<=Cn (wAt nm d) S.wants:=P7 λu hu=>by
  unfold wAt
  split
  ·exact(E.wt.2 u hu).1
  ·exact Zy3 _
 have w1:Cn (wAt nm d) S.wants<=(20:Nat)*(10:Int)^41:=Vg (by decide +kernel) E.wt.1 λu hu=>by
  unfold wAt
  split
  ·exact(E.wt.2 u hu).2
  ·decide +kernel
 have p0:0<=Cn (pAt plan nm d) S.wares:=P7 λt ht=>P7 λp hp=>by
  split
  ·exact Zus (by have:=((E.wb t ht).2.2.2.2 p hp).1;omega) (qj hB (h t.name) t.lag d).1
  ·exact Zy3 _
 have p1:Cn (pAt plan nm d) S.wares<=(12:Nat)*(12*(10^41*B)):=Vg (by omega) E.few λt ht=>by
  have:pAt plan nm d t<=(12:Nat)*(10^41*B):=Vg hB2 (E.wb t ht).2.2.2.1 λp hp=>by
   split
   ·have h3:=(E.wb t ht).2.2.2.2 p hp
    have h4:=qj hB (h t.name) t.lag d
    exact Int.mul_le_mul h3.2 h4.2 h4.1 (by decide +kernel)
   ·exact hB2
  exact this
 unfold E6
 exact⟨by omega,Int.add_le_add w1 p1⟩
theorem qk{S:Sh}(E:X0 S){w:Wr}(hw:w∈S.wares)(d:Nat):0<=Go w d:=by
 unfold Go
 have h1:0<=(if d=0 then w.stock else 0):=by
  split
  ·exact(E.wb w hw).2.2.1
  ·exact Zy3 _
 have h2:0<=Cn (cAt d) w.coming:=P7 λp hp=>by
  unfold cAt
  split
  ·exact E.com w hw p hp
  ·exact Zy3 _
 omega
theorem qz{S:Sh}(E:X0 S):∀(k:Nat) (nm:Str),∀x∈LRF S k nm,0<=x/\x<=10^(45*k)
 |0,nm,x,h=>by cases h
 |k+1,nm,x,h=>by
  have hB:(0:Int)<=10^(45*k):=Int.pow_nonneg (by decide)
  have h1:(1:Int)<=10^(45*k):=Int.pow_pos (by decide)
  have e:(10:Int)^(45*(k+1))=10^(45*k)*10^45:=by rw[<- Int.pow_add];rfl
  rw[LRF] at h
  split at h
  ·rename_i w hw
   have hw2:=(gd hw).1
   unfold lots at h
   obtain⟨i,hi,rfl⟩:=Zzv.mp h
   have hi:=Zwp.mp hi
   have hwb:=E.wb w hw2
   have hn:=Ui E hB (λy=>qz E k y) nm i
   have e1:(C9 (daysN S) (Go w)).getD i 0=Go w i:=Ik hi
   have e2:(Ck S (LRF S k) nm).getD i 0=E6 S (LRF S k) nm i:=Ik hi
   have h2:=nu (f:=w.floor) (g:=w.gives) (xs:=C9 (daysN S) (Go w)) (ys:=Ck S (LRF S k) nm) (i:=i) (by omega) hwb.2.1.1 (by rw[e1];exact qk E hw2 i) (by rw[e2];exact hn.1)
   rw[e2] at h2
   refine⟨nt _ _ _ _ _,?_⟩
   rw[e]
   have hn2:=hn.2
   have hf:=hwb.2.1.2
   generalize (10:Int)^(45*k)=B at hB h1 hn2 ⊢
   omega
  ·cases h
theorem Vc{S:Sh}(E:X0 S)(nm:Str):∀x∈LR S nm,0<=x/\x<10^600:=λx hx=>by
 have h1:=qz E S.wares.length nm x hx
 have h2:(10:Int)^(45*S.wares.length)<=10^(45*12):=by
  have:(10:Nat)^(45*S.wares.length)<=10^(45*12):=Zv4 (by decide) (Nat.mul_le_mul_left _ E.few)
  exact_mod_cast this
 exact⟨h1.1,Zwx (Zx7 h1.2 h2) (by decide +kernel)⟩
def Gm(row:List Int)(lag:Int):Nat->Option Nat
 |0=>none
 |n+1=>match Gm row lag n with
  |some d=>some d
  |none=>if (n:Int)<lag/\0<row.getD n 0 then some n else none
def Dx(row:List Int)(lag:Int):Option Nat:=Gm row lag row.length
theorem Nm{row:List Int}{lag:Int}:∀{n:Nat},Gm row lag n=none->∀e,e<n->¬ ((e:Int)<lag/\0<row.getD e 0)
 |0,_,e,he=>absurd he (Nat.not_lt_zero _)
 |n+1,h,e,he=>by
  rw[Gm] at h
  split at h
  ·cases h
  ·rename_i q
   split at h
   ·cases h
   ·rename_i c
    by_cases z:e=n
    ·subst z
     exact c
    ·exact Nm q e (by omega)
theorem Sy{row:List Int}{lag:Int}{n d:Nat}(h:Gm row lag n=some d):∀k,Gm row lag (n+k)=some d
 |0=>h
 |k+1=>by
  show Gm row lag ((n+k)+1)=some d
  rw[Gm,Sy h k]
theorem be{row:List Int}{lag:Int}{n d:Nat}(h:Gm row lag n=some d)(hn:n<=row.length):Dx row lag=some d:=by
 have:=Sy h (row.length - n)
 rw[Zvn hn] at this
 exact this
theorem Jw{row:List Int}{lag:Int}:∀{n d:Nat},Gm row lag n=some d->d<n/\(d:Int)<lag/\0<row.getD d 0/\∀e,e<d->¬ ((e:Int)<lag/\0<row.getD e 0)
 |0,d,h=>by cases h
 |n+1,d,h=>by
  rw[Gm] at h
  split at h
  ·rename_i d' e
   obtain rfl:=Zz3 h
   obtain⟨h1,h2,h3,h4⟩:=Jw e
   exact⟨by omega,h2,h3,h4⟩
  ·rename_i e
   split at h
   ·rename_i c
    obtain rfl:=Zz3 h
    exact⟨by omega,c.1,c.2,λi hi=>Nm e i hi⟩
   ·cases h
def Et(S:Sh)(plan:Str->List Int)(w:Wr):Nat->Option (Str×Nat)
 |0=>none
 |n+1=>match Et S plan w n with
  |some x=>some x
  |none=>if Dx (plan w.name) w.lag=some n then some ("early",n) else if (D1 S plan w).getD n 0<w.floor then some ("below",n) else none
def J5(S:Sh)(plan:Str->List Int)(w:Wr):Option (Str×Nat):=Et S plan w (daysN S)
theorem Ow{S:Sh}{plan:Str->List Int}{w:Wr}{n:Nat}{x:Str×Nat}(h:Et S plan w n=some x):∀k,Et S plan w (n+k)=some x
 |0=>h
 |k+1=>by
  show Et S plan w ((n+k)+1)=some x
  rw[Et,Ow h k]
theorem Mt{S:Sh}{plan:Str->List Int}{w:Wr}{n:Nat}{x:Str×Nat}(h:Et S plan w n=some x)(hn:n<=daysN S):J5 S plan w=some x:=by
 have:=Ow h (daysN S - n)
 rw[Zvn hn] at this
 exact this
theorem Qg{S:Sh}{plan:Str->List Int}{w:Wr}(hl:(plan w.name).length=daysN S){n:Nat}(hn:n<daysN S)(h:Et S plan w n=none):Dx (plan w.name) w.lag=some n↔((n:Int)<w.lag/\0<(plan w.name).getD n 0):=by
 have no:∀m,m<n->Dx (plan w.name) w.lag≠some m:=λm hm e=>by
  have z:∀k,k<=n->Et S plan w k=none:=λk hk=>by
   cases q:Et S plan w k with
   |none=>rfl
   |some x =>
    have:=Ow q (n - k)
    rw[Zvn hk,h] at this
    cases this
  have z1:=z (m+1) (by omega)
  rw[Et,z m (by omega)] at z1
  have z2:(if Dx (plan w.name) w.lag=some m then some (("early" : Str),m) else if (D1 S plan w).getD m 0<w.floor then some (("below" : Str),m) else none)=none:=z1
  rw[if_pos e] at z2
  cases z2
 constructor
 ·intro e
  have:=Jw (show Gm (plan w.name) w.lag (plan w.name).length=some n from e)
  exact⟨this.2.1,this.2.2.1⟩
 ·intro c
  cases e:Dx (plan w.name) w.lag with
  |none=>exact absurd c (Nm (show Gm (plan w.name) w.lag (plan w.name).length=none from e) n (by omega))
  |some d =>
   have h3:=Jw (show Gm (plan w.name) w.lag (plan w.name).length=some d from e)
   rcases Nat.lt_trichotomy d n with z | z | z
   ·exact absurd e (no d z)
   ·rw[z]
   ·exact absurd c (h3.2.2.2 n z)
def N5(S:Sh)(plan:Str->List Int)(ys:List Str):Nat->Option (Str×Str×Nat)
 |0=>none
 |n+1=>match N5 S plan ys n with
  |some x=>some x
  |none=>match ys[n]? with
   |none=>none
   |some y=>match Rb S y with
    |none=>none
    |some w=>(J5 S plan w).map λx=>(x.1,y,x.2)
def Mz(S:Sh)(plan:Str->List Int)(ys:List Str):Option (Str×Str×Nat):=N5 S plan ys ys.length
theorem Yj{S:Sh}{plan:Str->List Int}{ys:List Str}{n:Nat}{x:Str×Str×Nat}(h:N5 S plan ys n=some x):∀k,N5 S plan ys (n+k)=some x
 |0=>h
 |k+1=>by
  show N5 S plan ys ((n+k)+1)=some x
  rw[N5,Yj h k]
theorem So{S:Sh}{plan:Str->List Int}{ys:List Str}{n:Nat}{x:Str×Str×Nat}(h:N5 S plan ys n=some x)(hn:n<=ys.length):Mz S plan ys=some x:=by
 have:=Yj h (ys.length - n)
 rw[Zvn hn] at this
 exact this
theorem Q1{S:Sh}{plan:Str->List Int}{ys:List Str}{n:Nat}{w:Wr}(nd:(S.wares.map (·.name)).Nodup)(h:N5 S plan ys n=none)(hy:ys[n]?=some w.name)(hw:w∈S.wares):N5 S plan ys (n+1)=(J5 S plan w).map λx=>(x.1,w.name,x.2):=by
 rw[N5,h,hy]
 show (match Rb S w.name with | none=>none | some w'=>(J5 S plan w').map λx:Str×Nat=>(x.1,w.name,x.2))=_
 rw[P0 nd hw]
def oh:Option (Str×Str×Nat)->List V
 |none=>[.str "good"]
 |some (k,nm,d)=>[.str k,.str nm,.int d]
end NP
set_option maxHeartbeats 400000
namespace L2
open PySem PySem.Spec PyProof.Rows PySem.W NP
theorem rk(vs:List Value):((vs.toArray.zip vs.toArray).map (·.2)).toList=vs:=by
 rw[Array.toList_map,Array.toList_zip]
 exact List.map_snd_zip (Zzm _)
section
variable {prog:Program}{w:World}{A:Around}{E:Value->Shared->Prop}{s:Shared}
theorem li{a:Addr}{vs:List Value}{n:Nat}{P:Fin->Shared->Prop}(ho:s.heap.get? a=some (seqObj "list" vs.toArray n))(h2:vs.length<2)(h:P (.done (.ret .none)) {s with heap:=sortedHeap s.heap a vs ((vs.toArray.zip vs.toArray).map (·.2))}) :
  wpAny (model prog w) A (Builtin.«list.sort» ⟨[.ref a],[]⟩) P E s:=by
 rw[list_sort_plain]
 have la:a<s.heap.objs.size:=Zzb ho
 refine wpAny_bind (listItems_at ho rfl (wpAny_bind (listUpdate_at ho rfl ?_)))
 obtain⟨e1,o1⟩:∃e1,(s.heap.update a (Obj.mapSeq λ_=>#[])).get? a=some (seqObj "list" #[] e1):=⟨_,get?_update_seq ho (λ_=>#[])⟩
 refine wpAny_bind (seqEpoch_at o1 rfl (wpAny_bind (wpAny_newTuple (wpAny_bind (wpAny_newList (wpAny_holding ?_))))))
 have o6:(((s.heap.update a (Obj.mapSeq λ_=>#[])).push (seqObj "tuple" vs.toArray 0)).push (seqObj "list" #[] 0)).get? a=some (seqObj "list" #[] e1):=by
  rw[Heap.get?_push_ne _ _ _ (by rw[size_push',Heap.size_update];exact Zyb (Zwd la)),Heap.get?_push_ne _ _ _ (by rw[Heap.size_update];exact Zyb la)];exact o1
 show wpAny (model prog w) A _ P E {s with heap:=((s.heap.update a (Obj.mapSeq λ_=>#[])).push (seqObj "tuple" vs.toArray 0)).push (seqObj "list" #[] 0)}
 dsimp only
 have z:vs.toArray.size<2:=by simpa using h2
 rw[if_pos z,if_pos z]
 refine wpAny_bind (wpAny_pure ?_)
 rw[StateT.run_pure]
 refine wpAny_bind (wpAny_pure ?_)
 dsimp only
 refine wpAny_bind (seqEpoch_at o6 rfl (wpAny_bind (listUpdate_at o6 rfl ?_ (hsz2:=by rw[Array.size_map,Array.size_zip,Zv1,sizeLine_eq];omega))))
 simp only[bne_self_eq_false,Zxx,if_false]
 exact wpAny_pure h
theorem Zm{l:Addr}{vs:List Value}{Q:Value->Shared->Prop}(hl:s.heap.IsList l vs.toArray)(h2:vs.length<2)(h:∀out:Array Value,out.toList=vs->Q (.ref (s.heap.objs.size+1)) {s with heap:=sortedAll s.heap vs out}) :
  wpAny (model prog w) A (call (.builtin "sorted") [.ref l]) Q E s:=by
 refine Calls.call_function_entry kind_sorted plain_sorted entry_sorted (args_sorted1 _) ?_
 unfold Builtin.«sorted»
 refine wpAny_bind (m:=checkCount "sorted" 1 1 _) (wpAny_pure (wpAny_bind (collect_list hl (wpAny_bind (wpAny_newList ?_)))))
 have sz:((s.heap.push (seqObj "list" #[] 0)).update s.heap.objs.size (Obj.mapSeq (·++vs.toArray))).objs.size=s.heap.objs.size+1:=by rw[Heap.size_update,size_push']
 have oL:(((s.heap.push (seqObj "list" #[] 0)).update s.heap.objs.size (Obj.mapSeq (·++vs.toArray))).push (seqObj "list" vs.toArray 0)).get? (s.heap.objs.size+1)=some (seqObj "list" vs.toArray 0):=by rw[<- sz];exact Zze _ rfl
 show wpAny _ _ _ _ _ {s with heap:=((s.heap.push (seqObj "list" #[] 0)).update s.heap.objs.size (Obj.mapSeq (·++vs.toArray))).push (seqObj "list" vs.toArray 0)}
 rw[sz]
 refine wpAny_bind (wpAny_holding (wpAny_call_entry slot_list_sort ⟨_,oL,rfl⟩ entry_list_sort (li oL h2 ⟨_,rfl,?_⟩) (args_list_sort _)))
 exact wpAny_pure ⟨_,rfl,h _ (rk vs)⟩
end
theorem gv(as:List Addr):(Zxy as.length).map (λi=>V.ref (as.getD i 0))=as.map V.ref:=by
 apply Zx5
 intro i
 by_cases hi:i<as.length
 ·rw[Zzy,Zuw hi,Zzy,Zzs hi]
  show some (V.ref (as.getD i 0))=some (V.ref as[i])
  rw[Zzo,Zzs hi]
  rfl
 ·rw[Zy9 (by rw[Zzz,Zvw];omega),Zy9 (by rw[Zzz];omega)]
def X1(h:Heap)(a:Addr)(x y:Int):Prop:=∃o xs n t u,h.get? a=some o/\o.cls=.type "tuple" /\ o.data=.seq xs n/\xs=#[.int x t,.int y u]
theorem ie{h:Heap}{as:List Addr}(hp:∀a∈as,∃x y,X1 h a x y):∃fs,KatTups h (as.map Value.ref) fs/\fs.length=as.length/\∀v∈fs,∃k t,v=.int k t:=by
 induction as with
 |nil=>exact⟨[],KatTups.nil,rfl,λv hv=>nomatch hv⟩
 |cons a as ih =>
  obtain⟨fs,h1,h2,h3⟩:=ih λb hb=>hp b (Zzd _ hb)
  obtain⟨x,y,o,xs,n,t,u,e1,e2,e3,e4⟩:=hp a Zzf
  refine⟨.int x t::fs,KatTups.cons e1 e2 e3 (by rw[e4];rfl) h1,by rw[Zzk,Zzk,h2],λv hv=>?_⟩
  rcases Zzt.mp hv with z | z
  ·exact⟨x,t,z⟩
  ·exact h3 v z
theorem ul{prog:Program}{w:World}{A:Around}{E:Value->Shared->Prop}{s:Shared}{a b:Addr}{x1 y1 x2 y2:Int}{Q:Bool->Shared->Prop}(h1:X1 s.heap a x1 y1)(h2:X1 s.heap b x2 y2)(h:Q (decide (x1<x2\/x1=x2/\y1<y2)) s) :
  wpAny (model prog w) A (keyLt' (tuples' true) (.ref a) (.ref b)) Q E s:=by
 obtain⟨o,xs,n,t,u,e1,e2,e3,rfl⟩:=h1
 obtain⟨o',xs',n',t',u',f1,f2,f3,rfl⟩:=h2
 refine kat_lt e1 e3 f1 f3 ?_
 show KatLex prog w A true _ Q [(.int x1 t,.int x2 t'),(.int y1 u,.int y2 u')] 0 s
 refine kat_cons (wpAny_eqBool_int (kat_go (λhe=>kat_yes (kat_cons (wpAny_eqBool_int (kat_go (λhe2=>kat_yes (kat_nil ?_)) (λhe2=>kat_no ?_))))) (λhe=>kat_no ?_)))
 ·have e:=beq_iff_eq.mp he
  have e2:=beq_iff_eq.mp he2
  rw[decide_eq_false (by omega)] at h
  exact h
 ·have e:=beq_iff_eq.mp he
  have ne:¬ y1=y2:=λz=>by rw[beq_iff_eq.mpr z] at he2;cases he2
  show wpAny _ _ (oneLt' false (.int y1 u) (.int y2 u')) _ _ _
  refine kat_one _ _ (PyProof.Rows.lt_int ?_)
  show Q (decide (y1<y2)) s
  rw[decide_eq_decide.mpr (show (y1<y2)↔(x1<x2\/x1=x2/\y1<y2) from ⟨λz=>.inr ⟨e,z⟩,λz=>by omega⟩)]
  exact h
 ·have ne:¬ x1=x2:=λz=>by rw[beq_iff_eq.mpr z] at he;cases he
  show wpAny _ _ (oneLt' true (.int x1 t) (.int x2 t')) _ _ _
  refine oneLt_int ?_
  rw[decide_eq_decide.mpr (show (x1<x2)↔(x1<x2\/x1=x2/\y1<y2) from ⟨λz=>.inl z,λz=>by omega⟩)]
  exact h
def rSortT:List V->Hp->VK->Prop:=λvs H Q=>∃(a:Addr) (as:List Addr) (kz:Nat->Int),vs=[.ref a]/\H a=some (.lst (as.map V.ref))/\as.length<64/\(∀i,i<as.length->H (as.getD i 0)=some (.tup [.int (kz i),.int i])) /\
 ∀(r:Addr) (ps:List Nat),H r=none->ps.Perm (Zxy as.length)->ps.Pairwise (klt kz)->Q (.ref r) (upd H r (.lst (ps.map λi=>V.ref (as.getD i 0))))
theorem bh{X:Cx}:CallR X (.builtin "sorted") rSortT:=by
 intro pins s Z H vs us Q I r h
 obtain⟨a,as,kz,rfl,ha,h64,htup,q⟩:=h
 obtain⟨u,rfl,ru⟩:=K4 r
 cases ru
 obtain⟨its,rv,hl,hlt⟩:=Cg I ha
 have ei:its=as.map Value.ref:=by
  have:∀{Cs:List Addr} {us:List Value},Vals (Cs.map V.ref) us->us=Cs.map Value.ref:=λ{Cs}=>by
   induction Cs with
   |nil=>intro us h;cases h;rfl
   |cons C Cs ih =>
    intro us h
    cases h with
    |cons r t =>
     have e:_=Value.ref C:=r
     rw[e,ih t]
     rfl
  exact this rv
 subst ei
 by_cases h2:(as.map Value.ref).length<2
 ·refine Zm hl h2 λout eo=>?_
  obtain⟨e,he⟩:=sortedAll_at s.heap (as.map Value.ref) out
  have hn:H (s.heap.objs.size+1)=none:=I.hok.fresh (Nat.le_succ _)
  rw[Zzz] at h2
  have er:=gv as
  have hq:=q (s.heap.objs.size+1) (Zxy as.length) hn (List.Perm.refl _) (by
   rw[Zwv]
   intro i j hi hj hij
   rw[Zvw] at hi hj
   omega)
  rw[er] at hq
  refine⟨.ref _,_,I.laid (t':=s.toks) (o:=.lst (as.map V.ref)) (λb o eb=>sortedAll_old eb) (Nat.le_succ _) ⟨?_,out.toList,e,by rw[eo];exact rv,?_⟩,rfl,hq⟩
  ·rw[Zzz]
   exact Bf (by omega)
  ·rw[Array.toArray_toList]
   exact he
 ·have h2:2<=(as.map Value.ref).length:=Nat.le_of_not_lt h2
  have hal:(as.map Value.ref).length=as.length:=Zzz ..
  obtain⟨m,F⟩:=I.fr
  have pin:∀(h:Heap),(∀b o,b≠X.env.locals->s.heap.get? b=some o->h.get? b=some o)->∀i,i<as.length->X1 h (as.getD i 0) (kz i) i:=λh kp i hi=>by
   obtain⟨its,rt,pt,_⟩:=I.tuple (SqT.of (htup i hi))
   obtain⟨⟨c2,dd,data,sl⟩,ho,hcl,n,hd⟩:=id (show s.heap.IsTuple (as.getD i 0) its.toArray from pt)
   obtain⟨u1,u2,e,⟨t1,r1⟩,⟨t2,r2⟩⟩:=Ri rt
   subst e r1 r2
   exact⟨_,_,n,t1,t2,kp _ _ (λz=>by have:=htup i hi;rw[z,I.free] at this;cases this) ho,hcl,hd,rfl⟩
  refine kat_sorted F Sj hl h2 (by omega) λD e1 h' F' N' hlt2=>?_
  have kp:∀b o,b≠X.env.locals->s.heap.get? b=some o->h'.get? b=some o:=λb o nb e=>by
   cases z:X.base.get? b with
   |some u =>
    have:=I.bk b u z
    rw[e] at this;cases this
    exact F'.keep b _ z
   |none=>exact(N' (b,o) (Zzd _ (Jv nb z e))).1
  obtain⟨fs,k1,k2,k3⟩:=ie (h:=h') (as:=as) λb hb=>by
   obtain⟨i,hi,e⟩:=Zx9.mp hb
   have:=pin h' kp i hi
   rw[Zzo,Zzs hi,Zvs,e] at this
   exact⟨_,_,this⟩
  refine kat_kind (T:=.type "int") k1 (by omega) (λv hv=>by obtain⟨k,t,rfl⟩:=k3 v hv;exact Looks.of_pure rfl) (by decide) ?_
  rw[show (Value.type "int" != Value.type "tuple")=true by decide]
  rw[hal]
  refine Sn (n:=as.length) (key:=λi=>kz i*64+i) (Qp:=λp=>Srt as.length (λi=>kz i*64+i) p as.length) (λi j C hi hj hC=>?_) (λp hp=>?_) (ck (by omega))
  ·have gi:∀i,i<as.length->(as.map Value.ref).getD i Value.none=.ref (as.getD i 0):=λi hi=>by
    rw[Zzo,Zzy,Zzs hi,Zzo,Zzs hi]
    rfl
   show wpAny _ _ (keyLt' (tuples' true) ((as.map Value.ref).getD i Value.none) ((as.map Value.ref).getD j Value.none)) C _ _
   rw[gi i hi,gi j hj]
   refine ul (pin h' kp i hi) (pin h' kp j hj) ?_
   rw[decide_eq_decide.mpr (show (kz i<kz j\/kz i=kz j/\(i:Int)<j)↔(kz i*64+i<kz j*64+j) from by omega)]
   exact hC
  ·refine KasFin.intro F' N' (.head λq hq=>Zyb (hlt2 q hq)) λh3 c3 F3 N3=>?_
   have hD:=N3 _ Zzf
   have kp3:∀b o,b≠X.env.locals->s.heap.get? b=some o->h3.get? b=some o:=λb o nb e=>by
    cases z:X.base.get? b with
    |some u =>
     have:=I.bk b u z
     rw[e] at this;cases this
     exact F3.keep b _ z
    |none=>exact(N3 (b,o) (Zzd _ (Jv nb z e))).1
   have tL:∀b u,H b=some u->b≠X.env.locals:=λb u e z=>by rw[z,I.free] at e;cases e
   have neD:∀b o,s.heap.get? b=some o->b≠D:=λb o e z=>by
    by_cases hb:b=X.env.locals
    ·exact hD.2.1 (z.symm.trans hb)
    ·cases y:X.base.get? b with
     |some u=>rw[z] at y;rw[hD.2.2] at y;cases y
     |none=>exact absurd (hlt2 (b,o) (Jv hb y e)) (by rw[z];exact Zwf _)
   have HD:H D=none:=by
    cases y:H D with
    |none=>rfl
    |some u =>
     obtain⟨o,e⟩:=(show ∃o,s.heap.get? D=some o from db (I.hok D u y))
     exact absurd rfl (neD D o e)
   have ev:(p.toList.map λi=>(as.map Value.ref).getD i Value.none)=p.toList.map λi=>Value.ref (as.getD i 0):=Zx4 λi hi=>by
    have hi:i<as.length:=Zwp.mp (hp.pm.mem_iff.mp hi)
    rw[Zzo,Zzy,Zzs hi,Zzo,Zzs hi]
    rfl
   have vs2:Vals (p.toList.map λi=>V.ref (as.getD i 0)) (p.toList.map λi=>(as.map Value.ref).getD i Value.none):=by
    rw[ev]
    generalize p.toList=l
    induction l with
    |nil=>exact .nil
    |cons i l ih=>exact .cons rfl ih
   have hpl:p.toList.length=as.length:=by rw[hp.pm.length_eq,Zvw]
   have pw:p.toList.Pairwise (klt kz):=by
    have hb:∀i∈p.toList,i<64:=λi hi=>Zv5 (Zwp.mp (hp.pm.mem_iff.mp hi)) h64
    refine List.Pairwise.imp_of_mem ?_ (lg hp)
    intro i j hi hj hk
    have h1:=hb i hi
    have h2:=hb j hj
    have hk:(kz i*64+i<kz j*64+j)\/(kz i*64+i=kz j*64+j/\i<j):=hk
    unfold klt
    omega
   have I3:Inv X pins Z (upd H D (.lst (p.toList.map λi=>V.ref (as.getD i 0)))) {s with heap:=h3,gens:=s.gens,drawn:=s.drawn,toks:=s.toks}:=by
    refine I.step (g':=s.gens) (d':=s.drawn) (ch:=[]) (λ_ z=>nomatch z) (λb o nb _ _ e _=>kp3 b o nb e) (λb o nb _ _ e _=>⟨o.slots,kp3 b o nb e⟩) (λb o _ e n=>by rw[A7 (neD b o e)];exact n) (λb o _ e=>?_)
     (λb ys e=>by rw[A7 (A4 e HD)];exact e) (λb o u e=>by rw[A7 (A4 e HD)];exact e) (λb ps e=>⟨#[],by rw[A7 (A4 e HD),e];simp⟩) (λm' hm'=>?_) (λb u e=>?_) I.bare
    ·by_cases hb:b=X.env.locals
     ·obtain⟨oL,_,_,e2,_⟩:=F3.ns
      exact⟨oL,by rw[hb];exact e2⟩
     ·exact⟨o,kp3 b o hb e⟩
    ·have em:m'=m:=funext λx=>hm'.agree F.ns x
     rw[em]
     exact F3.ns
    ·by_cases hb:b=D
     ·subst hb
      rw[A0] at e
      cases e
      exact⟨by rw[Zzz,hpl];exact Bf (by omega),_,c3,vs2,hD.1⟩
     ·rw[A7 hb] at e
      refine(I.hok b u e).stay (λb' u' hb' q'=>kp3 b' u' ?_ q') (λb' q'=>by rw[A7 (A4 q' HD)];exact q') λb' ys q'=>by rw[A7 (A4 q' HD)];exact q'
      rcases hb' with r | r
      ·rw[r];exact tL b u e
      ·exact tL b' _ r
   exact⟨.ref D,_,I3,rfl,q D p.toList HD hp.pm pw⟩
end L2
namespace L2
open PySem PySem.Spec PyProof.Rows
def ax(ns:Nat->Int):Nat->Int
 |0=>ns 0
 |k+1=>if ns (k+1)<ax ns k then ns (k+1) else ax ns k
section
variable {prog:Program}{w:World}{A:Around}{R:Result->Shared->Prop}{I:Addr}{fp wr:List Addr}{n:Nat}{P:Nat->Value->Prop}{St:Nat->Heap->Prop}
end
def minL(ns:List Int):Int:=ax (λi=>(ns[i]?).getD 0) (ns.length - 1)
section
variable {X:Cx}
def Ey:List V->Hp->VK->Prop:=λvs H Q=>∃a ns,vs=[.ref a]/\H a=some (.lst (ns.map V.int))/\ns≠[]/\Q (.int (minL ns)) H
end
end L2
namespace L2
open PySem PySem.Spec PyProof.Rows PySem.W NP
section
variable {X:Cx}
end
end L2
namespace L2
open PySem PySem.Spec PyProof.Rows
section
variable {X:Cx}
end
end L2
set_option maxHeartbeats 4000000
namespace L2
open PySem PySem.Spec PyProof.Rows PySem.W
section
variable {P:Program}{w:World}{fs:List Addr}{H H' H0:Hp}{h h0 h1 h2 B:Heap}{a L:Addr}
end
section
variable {P:Program}{w:World}{K:Zzw}{mg:Str->Option Value}{base:Heap}{N:List Str}{qual:Str}{scope:Scope}{f:Addr}{cd:Value}{A:Around}{outer:List Env}{s:Shared}{H:Hp}{E:XK}
end
section
variable {X:Cx}{pins:List (Addr×Obj)}{Z:St}{H H':Hp}{s s':Shared}{W:Value->Shared->Prop}{a:Addr}{cls:Value}{B:Heap}
end
abbrev TF:=Nat->St->Hp->(Hp->Prop)->Prop
section
variable {X:Cx}{e:Expr}{es:List Expr}{te:TE}{t:TF}{x:Str}{j:Nat}{p q:Pos}
end
end L2
set_option maxHeartbeats 1000000
namespace L2
open PySem PySem.Spec PySem.Calls PyProof.Rows PySem.W Builtin Builtin.ObjectAttr Builtin.Getset_descriptor
section
variable {prog:Program}{w:World}{A:Around}{E:Value->Shared->Prop}{s:Shared}{K:Frag}{x D:Addr}
end
end L2
namespace L2
open PySem PySem.Spec PyProof.Rows PySem.W
section
variable {X:Cx}
def rStrI:List V->Hp->VK->Prop:=λxs H Q=>∃i:Int,xs=[.int i]/\i.natAbs<10^500/\Q (.str (Str.ofString (toString i))) H
theorem yi{n:Nat}(h:n<10^500):n.log2<1920:=by
 by_cases z:n=0
 ·subst z
  decide
 ·rw[Nat.log2_lt z]
  exact Zyn h (by decide +kernel)
theorem Hi:CallR X (.type "str") rStrI:=by
 intro pins s Z H xs us Q I r h
 obtain⟨i,rfl,hi,q⟩:=h
 obtain⟨u,rfl,t,rfl⟩:=K4 r
 exact P.str_of_int (yi hi) ⟨.str _,H,I.tok _,⟨_,rfl⟩,q⟩
def rIntT:List V->Hp->VK->Prop:=λxs H Q=>∃(x:Str) (n:Int),xs=[.str x]/\PySem.intText? x=some n/\x.length<=640/\Q (.int n) H
theorem js:CallR X (.type "int") rIntT:=by
 intro pins s Z H xs us Q I r h
 obtain⟨x,n,rfl,hn,hl,q⟩:=h
 obtain⟨u,rfl,t,rfl⟩:=K4 r
 exact KIN.call_text hn hl ⟨.int _,H,I.tok _,⟨_,rfl⟩,q⟩
end
end L2
namespace L2
open PySem PySem.Spec PyProof.Rows PySem.W NP
section
variable {prog:Program}{w:World}{A:Around}{E:Value->Shared->Prop}{s:Shared}{I S f:Addr}{fp wr:List Addr}{n:Nat}{P:Nat->Value->Prop}{St:Nat->Heap->Prop}{R:Result->Shared->Prop}
end
section
variable {prog:Program}{w:World}{A:Around}{s:Shared}
end
section
variable {X:Cx}
end
section
variable {X:Cx}
end
end L2
namespace L2
open PySem PySem.Spec PyProof.Rows
end L2
namespace NP
open PySem L2
end NP
namespace L2
open PySem PySem.Spec PyProof.Rows PySem.W
end L2
namespace NP
open PySem L2
end NP
set_option maxHeartbeats 4000000
namespace L2
open PySem PySem.Spec PyProof.Rows
def rJoin:V->List V->Hp->VK->Prop:=λx vs H Q=>∃(sep:Str) (l:Addr) (xs:List Str) (B:Nat),x=.str sep/\vs=[.ref l]/\H l=some (.lst (xs.map V.str))/\(∀y∈xs,y.length<=B)/\xs.length*B+xs.length*sep.length<=16777216/\Q (.str (Str.join sep xs)) H
theorem Sq{sep:Str}{B:Nat}{xs:List Str}(h:∀y∈xs,y.length<=B):(Str.join sep xs).length<=xs.length*B+xs.length*sep.length:=by
 rw[<- Zv6,size_glued]
 have h1:=StrLaws.sumLen_le xs h
 have h2:(xs.length - 1)*sep.length<=xs.length*sep.length:=Nat.mul_le_mul_right _ (Nat.sub_le _ _)
 omega
theorem Rg:∀{xs:List Str} {us:List Value},Vals (xs.map V.str) us->∃l:List (Str×Tok),strValues l=us/\l.map (·.1)=xs
 |[],_,.nil=>⟨[],rfl,rfl⟩
 |x::xs,u::us,.cons r t=>by
  obtain⟨l,h1,h2⟩:=Rg t
  obtain⟨tk,rfl⟩:=r
  exact⟨(x,tk)::l,by rw[<- h1];rfl,by rw[<- h2];rfl⟩
theorem Pd{X:Cx}:MtM X "str.join" rJoin:=by
 intro pins s Z H x vs v us Q I rx hv h
 obtain⟨sep,l,xs,B,rfl,rfl,hH,hB,hz,q⟩:=h
 obtain⟨tk,rfl⟩:=rx
 obtain⟨u,rfl,ru⟩:=hv.one
 cases ru
 obtain⟨z,its,n,r,hlx,e⟩:=I.lstM hH
 obtain⟨ps,rfl,hps⟩:=Rg r
 refine call_meets F.slot_str_join (typeIs_str s sep tk) F.entry_str_join (F.args_str_join_2 _ _) (meets_str_join_list sep tk l ps (by rw[hps];exact StrLaws.joinFits hB hz)) ⟨⟨_,e,rfl,n,rfl⟩,?_⟩
 have fin:∀t,(EP X pins Z Q) (.str (Str.join sep xs) t) s:=λt=>⟨.str (Str.join sep xs),H,I,⟨t,rfl⟩,q⟩
 have fin2:∀t t',(EP X pins Z Q) (.str (Str.join sep xs) t) {s with toks:=t'}:=λt t'=>⟨.str (Str.join sep xs),H,I.tok _,⟨t,rfl⟩,q⟩
 have hjl:(Builtin.Str.glued sep xs).length<=sizeLine:=by
  rw[Zv6,sizeLine_eq]
  exact Zyf (Sq hB) hz
 subst hps
 match ps with
 |[]=>exact⟨hjl,fin2 _ _⟩
 |[p]=>exact fin p.2
 |p::p2::r2 =>
  have e2:=Zv6 sep ((p::p2::r2).map (·.1))
  have f3:=fin2 s.toks (s.toks+1)
  rw[<- e2] at f3
  exact⟨hjl,f3⟩
section
variable {prog:Program}{w:World}{A:Around}{I:Addr}{fp wr:List Addr}{G:Array GenState->Array GenState->Prop}{St:Nat->Shared->Prop}
end
section
variable {prog:Program}{w:World}{A:Around}{s:Shared}{E:Value->Shared->Prop}
end
section
variable {X:Cx}
end
end L2
namespace L2
open PySem PySem.Spec PyProof.Rows PySem.W
section
variable {X:Cx}
end
end L2
namespace L2
open PySem PySem.Spec PyProof.Rows
section
variable {X:Cx}
end
section
variable {X:Cx}
def Ez:R2:=λx y H Q=>∃l b xs zs,x=.ref l/\y=.ref b/\H l=some (.lst xs)/\H b=some (.lst zs)/\xs.length+zs.length<=sizeLine/\Q (.ref l) (upd H l (.lst (xs++zs)))
end
end L2
namespace L2
open PySem PySem.Spec PyProof.Rows Builtin Builtin.Str
def one(c:Nat):Str:=⟨#[c]⟩
theorem Wd(x:Str)(c lim:Nat):∀(l:List Nat) (st:Array Nat×Nat),(∀i∈l,st.2<=i)->l.Pairwise (·<·)->st.1.size+l.length<=lim ->
  (forIn l st (StrLaws.occBody x (one c) x.length lim)).run.1.toList=st.1.toList++l.filter λi=>decide (x.cps.toList[i]?=some c)
 |[],st,_,_,_=>by simp
 |a::r,st,h1,h2,h3=>by
  rw[Zw1]
  unfold StrLaws.occBody
  have hr:=Zvz.mp h2
  rw[Zzk] at h3
  have iff:=StrLaws.subAt_one x c a
  by_cases hc:x.cps.toList[a]?=some c
  ·obtain⟨g1,g2⟩:=iff.mpr hc
   rw[if_pos ⟨⟨⟨by omega,h1 a Zzf⟩,g1⟩,g2⟩,Zxr,if_pos (decide_eq_true hc)]
   have:=Wd x c lim r (st.1.push a,a+(one c).length) (λi hi=>hr.1 i hi) hr.2 (by simp;omega)
   refine this.trans ?_
   simp
  ·rw[if_neg (λz=>hc (iff.mp ⟨z.1.2,z.2⟩)),Zxr,if_neg (by simpa using hc)]
   exact Wd x c lim r st (λi hi=>h1 i (Zzd _ hi)) hr.2 (by omega)
theorem mt(x:Str)(c:Nat):occurrences x (one c) 0 x.length (x.length+1)=(List.range' 0 (x.length+1)).filter λi=>decide (x.cps.toList[i]?=some c):=by
 rw[StrLaws.occ_eq]
 have:=Wd x c (x.length+1) (List.range' 0 (x.length+1 - 0)) (#[],0) (λ_ _=>Zy0 _) List.pairwise_lt_range' (by simp)
 rw[this]
 rfl
theorem Xr(x:Str)(c:Nat):∀(cuts:List Nat) (a:Nat),(∀i,a<=i->x.cps.toList[i]?=some c->i∈cuts)->(∀i∈cuts,a<=i)->cuts.Pairwise (·<·)->∀p∈StrLaws.partsFrom x 1 a cuts,c∉p.cps.toList
 |[],a,h,_,_,p,hp=>by
  have hp:p∈[strSub x a x.length]:=hp
  rw[Zyw.mp hp,StrLaws.strSub_toList]
  intro z
  obtain⟨i,hi⟩:=Zv0 (Zuz z)
  rw[Zuq] at hi
  cases h (a+i) (by omega) hi
 |k::r,a,h,h0,hs,p,hp=>by
  have hp:p∈strSub x a k::StrLaws.partsFrom x 1 (k+1) r:=hp
  have hr:=Zvz.mp hs
  rcases Zzt.mp hp with rfl | hp
  ·rw[StrLaws.strSub_toList]
   intro z
   obtain⟨i,hi⟩:=Zv0 z
   have hl:=(Zz4.mp hi).1
   rw[Zye] at hl
   rw[List.getElem?_take_of_lt (by omega),Zuq] at hi
   rcases Zzt.mp (h (a+i) (by omega) hi) with e | e
   ·omega
   ·have:=hr.1 _ e
    omega
  ·have hk:=h0 k Zzf
   refine Xr x c r (k+1) (λi hi he=>?_) (λi hi=>hr.1 i hi) hr.2 p hp
   rcases Zzt.mp (h i (by omega) he) with e | e
   ·omega
   ·exact e
theorem lh(x:Str)(c:Nat)(hc:c<256):∀p∈Txt.split x (one c),c∉p.cps.toList:=λp hp=>by
 have hs:(List.range' 0 (x.length+1)).Pairwise (·<·):=List.pairwise_lt_range'
 have all:∀i,x.cps.toList[i]?=some c->i∈occurrences x (one c) 0 x.length (x.length+1):=λi hi=>by
  rw[mt]
  have:=(Zz4.mp hi).1
  have hl:x.cps.toList.length=x.length:=by show x.cps.toList.length=x.cps.size;simp
  refine Zwi.mpr ⟨?_,decide_eq_true hi⟩
  rw[List.mem_range']
  exact⟨i,by omega,by omega⟩
 unfold Txt.split at hp
 split at hp
 ·rename_i h1
  rw[Zyw.mp hp]
  have l1:(one c).length=1:=rfl
  have k1:Zwq (one c)=1:=by
   unfold Zwq one
   rw[if_pos (by simpa using hc)]
  have k2:1<=Zwq x:=by unfold Zwq;split<;>(try split)<;>decide
  have:x.length=0:=by
   rcases Bool.or_eq_true_iff.mp h1 with z | z
   ·have:=of_decide_eq_true z;omega
   ·have:=of_decide_eq_true z;omega
  intro z
  have hl:x.cps.toList.length=0:=by rw[<- this];show x.cps.toList.length=x.cps.size;simp
  rw[List.eq_nil_of_length_eq_zero hl] at z
  cases z
 ·split at hp
  ·rename_i h2
   rw[Zyw.mp hp]
   intro z
   obtain⟨i,hi⟩:=Zv0 z
   have:=all i hi
   rw[List.isEmpty_iff.mp h2] at this
   cases this
  ·rw[StrLaws.partsBetween_eq] at hp
   refine Xr x c _ 0 (λi _ hi=>all i hi) (λ_ _=>Zy0 _) ?_ p hp
   rw[mt]
   exact hs.filter _
theorem V0{c:Nat}:∀{w w' X X':List Nat},c∉w->c∉w'->w++c::X=w'++c::X'->w=w'/\X=X'
 |[],[],X,X',_,_,h=>by simpa using h
 |[],b::w',X,X',_,h2,h=>by
  have:c=b:=by simpa using (Zup h).1
  exact absurd (by rw[this];exact Zzf) h2
 |a::w,[],X,X',h1,_,h=>by
  have:a=c:=by simpa using (Zup h).1
  exact absurd (by rw[this];exact Zzf) h1
 |a::w,b::w',X,X',h1,h2,h=>by
  have h:=Zup h
  obtain⟨e1,e2⟩:=V0 (λz=>h1 (Zzd _ z)) (λz=>h2 (Zzd _ z)) h.2
  exact⟨by rw[h.1,e1],e2⟩
theorem Ni(c:Nat)(w v:Str)(r:List Str):(Str.join (one c) (w::v::r)).cps.toList=w.cps.toList++c::(Str.join (one c) (v::r)).cps.toList:=by
 show (w++one c++Str.join (one c) (v::r)).cps.toList=_
 rw[Str.cps_append,Str.cps_append]
 simp[one]
theorem cj{a b:Str}(h:a.cps.toList=b.cps.toList):a=b:=Str.ext' (Array.toList_inj.mp h)
theorem Yk{c:Nat}:∀{ws us:List Str},ws≠[]->us≠[]->(∀w∈ws,c∉w.cps.toList)->(∀w∈us,c∉w.cps.toList)->Str.join (one c) ws=Str.join (one c) us->ws=us
 |[],_,h,_,_,_,_=>absurd rfl h
 |_::_,[],_,h,_,_,_=>absurd rfl h
 |[w],[u],_,_,_,_,h=>by rw[show w=u from h]
 |[w],u::u2::r,_,_,h1,_,h=>by
  have e:=congrArg (λz:Str=>z.cps.toList) h
  have e:w.cps.toList=(Str.join (one c) (u::u2::r)).cps.toList:=e
  rw[Ni] at e
  exact absurd (by rw[e];simp) (h1 w Zzf)
 |w::w2::r,[u],_,_,_,h2,h=>by
  have e:=congrArg (λz:Str=>z.cps.toList) h
  have e:(Str.join (one c) (w::w2::r)).cps.toList=u.cps.toList:=e
  rw[Ni] at e
  exact absurd (by rw[<- e];simp) (h2 u Zzf)
 |w::w2::r,u::u2::r2,_,_,h1,h2,h=>by
  have e:=congrArg (λz:Str=>z.cps.toList) h
  have e:(Str.join (one c) (w::w2::r)).cps.toList=(Str.join (one c) (u::u2::r2)).cps.toList:=e
  rw[Ni,Ni] at e
  obtain⟨e1,e2⟩:=V0 (h1 w Zzf) (h2 u Zzf) e
  have:=Yk (ws:=w2::r) (us:=u2::r2) (by simp) (by simp) (λx hx=>h1 x (Zzd _ hx)) (λx hx=>h2 x (Zzd _ hx)) (cj e2)
  rw[cj e1,this]
theorem Rr{c:Nat}{ws:List Str}(hc:c<256)(h:ws≠[])(hn:∀w∈ws,c∉w.cps.toList):Txt.split (Str.join (one c) ws) (one c)=ws:=by
 refine Yk (c:=c) (λz=>?_) h (lh _ _ hc) hn (StrLaws.join_split _ _)
 have:=split_pos (Str.join (one c) ws) (one c)
 rw[z] at this
 exact absurd this (by decide)
def rSplit:V->List V->Hp->VK->Prop:=λx vs H Q=>∃(y:Str) (c:Nat),x=.str y/\vs=[.str (one c)]/\y.length<=1000000/\∀p,H p=none->Q (.ref p) (upd H p (.lst ((Txt.split y (one c)).map V.str)))
theorem U2:∀(l:List Str) (k:Nat),Vals (l.map V.str) (strsFrom k l)
 |[],_=>.nil
 |x::r,k=>.cons ⟨_,rfl⟩ (U2 r (k+1))
theorem Yb{X:Cx}:MtM X "str.split" rSplit:=by
 intro pins s Z H x vs v us Q I rx rv h
 obtain⟨y,c,rfl,rfl,hy,q⟩:=h
 obtain⟨t,rfl⟩:=rx
 obtain⟨u,rfl,ru⟩:=rv.one
 obtain⟨t2,rfl⟩:=ru
 have hz:y.length<=sizeLine:=Zyf hy (by decide)
 have hf:H s.heap.objs.size=none:=I.hok.fresh (Zzm _)
 have hl:=split_le y (one c)
 have hl2:(1000002:Nat)<=sizeLine:=by decide
 have fin:∀(its:List Value) (t':Nat),Vals ((Txt.split y (one c)).map V.str) its->(EP X pins Z Q) (.ref s.heap.objs.size) {s with heap:=s.heap.push {cls:=.type "list",data:=.seq its.toArray},toks:=t'}:=λits t' r=>⟨.ref s.heap.objs.size,_,I.laid (t':=t') (λb o e=>Zzx _ e) (Zzm _) (show ObjOk X.prog X.w _ _ _ (.lst ((Txt.split y (one c)).map V.str)) from ⟨by rw[Zzz];omega,its,0,r,Zze _ rfl⟩),rfl,q _ hf⟩
 have one1:Txt.split y (one c)=[y]->Vals ((Txt.split y (one c)).map V.str) [Value.str y t]:=λe=>by rw[e];exact .cons ⟨_,rfl⟩ .nil
 cases h1:(decide (y.length<(one c).length)||decide (Zwq y<Zwq (one c))) with
 |true =>
  have e:Txt.split y (one c)=[y]:=by unfold Txt.split;exact if_pos h1
  exact call_meets F.slot_str_split (typeIs_str s y t) F.entry_str_split (F.args_str_split_2 _ _) (meets_str_split_cannot_occur y (one c) t t2 h1) (fin _ s.toks (one1 e))
 |false =>
  cases h2:(occurrences y (one c) 0 y.length (y.length+1)).isEmpty with
  |true =>
   have e:Txt.split y (one c)=[y]:=by unfold Txt.split;rw[if_neg (by rw[h1];decide)];exact if_pos h2
   exact call_meets F.slot_str_split (typeIs_str s y t) F.entry_str_split (F.args_str_split_2 _ _) (meets_str_split_not_found y (one c) t t2 h1 rfl h2) (fin _ s.toks (one1 e))
  |false =>
   have e:Txt.split y (one c)=partsBetween y (occurrences y (one c) 0 y.length (y.length+1)) (one c).length:=by unfold Txt.split;rw[if_neg (by rw[h1];decide)];exact if_neg (by rw[h2];decide)
   have r:=U2 (Txt.split y (one c)) s.toks
   rw[e] at r
   refine call_meets F.slot_str_split (typeIs_str s y t) F.entry_str_split (F.args_str_split_2 _ _) (meets_str_split_sep y (one c) t t2 h1 rfl h2 hz (by rw[<- e];omega)) ?_
   exact fin _ _ (by rw[e];exact r)
end L2
namespace L2
open PySem PySem.Spec PyProof.Rows
def T9(P:Program)(w:World)(A:Around)(h:Heap)(ex:List Addr)(it:Addr)(x:Value)(Pt:Heap->Prop):Prop:=∀(t:Shared) (Q:Value->Shared->Prop) (E:Value->Shared->Prop),(∀c o,c∉ex->h.get? c=some o->t.heap.get? c=some o)->(∀h',Pt h'->Zxl it t.heap h'->Q x {t with heap:=h'})->wpAny (model P w) A (Zy8 (.ref it)) Q E t
def Qj(P:Program)(w:World)(A:Around)(h:Heap)(ex:List Addr)(it:Addr):Prop:=∀(t:Shared) (Q:Value->Shared->Prop) (E:Value->Shared->Prop),(∀c o,c∉ex->h.get? c=some o->t.heap.get? c=some o)->(∀h' e,Heap.ExtBut it t.heap h'->(∃o,h'.get? e=some o/\o.cls=.type "StopIteration")->E (.ref e) {t with heap:=h'})->wpAny (model P w) A (Zy8 (.ref it)) Q E t
section
variable {P:Program}{w:World}{A:Around}{E:Value->Shared->Prop}{s:Shared}{z TI TO i1 i2:Addr}{x y a b:Value}
theorem fz{P1 P2:Heap->Prop}{Q:Value->Shared->Prop}(nd:[z,TI,TO,i1,i2].Nodup)(hz:IsZip s.heap z TI TO .none)(hTI:IsPair s.heap TI (.ref i1) (.ref i2))(hTO:IsPair s.heap TO a b)
  (g1:T9 P w A s.heap [z] i1 x P1) (g2:T9 P w A s.heap [z,TO,i1] i2 y P2)
  (k1:∀h h',P1 h->(∀o,h.get? i1=some o->h'.get? i1=some o)->P1 h') (k2:∀h h',P2 h->(∀o,h.get? i2=some o->h'.get? i2=some o)->P2 h')
  (hq:∀h',IsZip h' z TI TO (rawInt s.heap.objs.size)->IsPair h' TO x y->P1 h'->P2 h'->IsPair h' s.heap.objs.size x y->h'.objs.size=s.heap.objs.size+1->(∀c o,c∉[z,TO,i1,i2]->s.heap.get? c=some o->h'.get? c=some o)->Q (.ref s.heap.objs.size) {s with heap:=h'}) :
  wpAny (model P w) A (Builtin.«zip.__next__» ⟨[.ref z],[]⟩) (λfin s'=>∃v,fin=.done (.ret v)/\Q v s') E s:=by
 simp only[Zy7,Zzt,Zzj,or_false,not_or,Zwy,and_true,not_false_eq_true] at nd
 obtain⟨⟨n1,n2,n3,n4⟩,⟨n5,n6,n7⟩,⟨n8,n9⟩,n10⟩:=nd
 show wpAny _ _ (field (.ref z) 2 >>= _) _ _ _;refine wpAny_bind (wpAny_field hz rfl (x:=.bool false) rfl ?_)
 show wpAny _ _ (field (.ref z) 3 >>= _) _ _ _;refine wpAny_bind (wpAny_field hz rfl (x:=.ref TI) rfl (wpAny_bind (wpAny_seqItems hTI rfl ?_)))
 show wpAny _ _ (Zxu (.ref z) >>= _) _ _ _;refine wpAny_bind ?_;unfold Zxu
 refine wpAny_bind (wpAny_field hz rfl (x:=.none) rfl (wpAny_pure ?_));simp only[if_true]
 refine wpAny_bind (wpAny_rule (wpAny_bind (wpAny_field hz rfl (x:=.ref TO) rfl (wpAny_bind (wpAny_setField_rec hz (by simp) λh₁ hz₁ hs₁=>wpAny_bind ?_)))))
 simp only[Zv3,Zv9,Zut,Zw1]
 have e1:∀c o,c≠z->s.heap.get? c=some o->h₁.get? c=some o:=λc o n e=>hs₁.extBut _ _ n e
 refine wpAny_bind (wpAny_bind (wpAny_onRaise ?_));show wpAny _ _ (Zy8 (.ref i1) >>= _) _ _ _
 refine wpAny_bind (g1 {s with heap:=h₁} _ _ (λc o n e=>e1 c o (by simpa using n) e) λh₂ p2 hs₂=>wpAny_pure ?_)
 have e2:∀c o,c≠z->c≠i1->s.heap.get? c=some o->h₂.get? c=some o:=λc o n m e=>hs₂.extBut _ _ m (e1 c o n e)
 have t2:IsPair h₂ TO a b:=e2 _ _ (Zzi n2) n8 hTO
 refine wpAny_bind (wpAny_seqItems t2 rfl (wpAny_bind (wpAny_updateSeq_pair t2 λh₃ t3 hs₃=>wpAny_bind (wpAny_letGo (wpAny_pure ?_)))))
 have t3:IsPair h₃ TO x b:=t3
 have e3:∀c o,c≠z->c≠i1->c≠TO->s.heap.get? c=some o->h₃.get? c=some o:=λc o n m k e=>hs₃.extBut _ _ k (e2 c o n m e)
 refine wpAny_bind (wpAny_bind (wpAny_onRaise ?_));show wpAny _ _ (Zy8 (.ref i2) >>= _) _ _ _
 refine wpAny_bind (g2 {s with heap:=h₃} _ _ (λc o n e=>by simp only[Zzt,Zzj,or_false,not_or] at n;exact e3 c o n.1 n.2.2 n.2.1 e) λh₄ p4 hs₄=>wpAny_pure ?_)
 have t4:IsPair h₄ TO x b:=hs₄.extBut _ _ n9 t3
 refine wpAny_bind (wpAny_seqItems t4 rfl (wpAny_bind (wpAny_updateSeq_pair t4 λh₅ t5 hs₅=>wpAny_bind (wpAny_letGo (wpAny_pure (wpAny_pure ?_))))))
 have t5:IsPair h₅ TO x y:=t5
 refine wpAny_bind (wpAny_seqItems t5 rfl (wpAny_bind (wpAny_newTuple ?_)))
 have sz:h₅.objs.size=s.heap.objs.size:=by rw[hs₅.1,hs₄.1,hs₃.1,hs₂.1,hs₁.1]
 have z5:h₅.get? z=h₁.get? z:=by rw[hs₅.2 z n2,hs₄.2 z n4,hs₃.2 z n2,hs₂.2 z n3]
 have hz₅:IsZip h₅ z TI TO .ellipsis:=z5.trans hz₁
 have e5:∀c o,c∉[z,TO,i1,i2]->s.heap.get? c=some o->h₅.get? c=some o:=λc o n e=>by
  simp only[Zzt,Zzj,or_false,not_or] at n
  exact hs₅.extBut _ _ n.2.1 (hs₄.extBut _ _ n.2.2.2 (e3 c o n.1 n.2.2.1 n.2.1 e))
 have p1₅:P1 h₅:=k1 _ _ p2 λo e=>hs₅.extBut _ _ (Zzi n8) (hs₄.extBut _ _ n10 (hs₃.extBut _ _ (Zzi n8) e))
 have p2₅:P2 h₅:=k2 _ _ p4 λo e=>hs₅.extBut _ _ (Zzi n9) e
 have zl:z<h₅.objs.size:=Zzb hz₅
 show wpAny _ _ (Zx1 (.ref z) (.ref h₅.objs.size) >>= _) _ _ _;refine wpAny_bind ?_;unfold Zx1
 refine wpAny_bind (wpAny_setField_rec (Zzx _ hz₅) (by simp) λh₇ hz₇ hs₇=>wpAny_setField_rec hz₇ (by simp) λh₈ hz₈ hs₈=>?_)
 have up:∀c o,c≠z->h₅.get? c=some o->h₈.get? c=some o:=λc o n e=>hs₈.extBut _ _ n (hs₇.extBut _ _ n (Zzx _ e))
 have hz₈:IsZip h₈ z TI TO (rawInt h₅.objs.size):=hz₈
 have t8:IsPair h₈ h₅.objs.size x y:=hs₈.extBut _ _ (Zxe zl) (hs₇.extBut _ _ (Zxe zl) (Zze _ rfl))
 have s8:h₈.objs.size=h₅.objs.size+1:=by rw[hs₈.1,hs₇.1,Zxp]
 rw[sz] at hz₈ t8 s8
 refine wpAny_pure ⟨_,rfl,?_⟩
 show Q (.ref h₅.objs.size) _
 rw[sz]
 exact hq h₈ hz₈ (up _ _ (Zzi n2) t5) (k1 _ _ p1₅ λo e=>up _ o (Zzi n3) e) (k2 _ _ p2₅ λo e=>up _ o (Zzi n4) e) t8 s8 λc o n e=>up c o (λq=>n (by simp[q])) (e5 c o n e)
theorem jw{P1:Heap->Prop}{Q:Fin->Shared->Prop}(nd:[z,TI,TO,i1,i2].Nodup)(hz:IsZip s.heap z TI TO .none)(hTI:IsPair s.heap TI (.ref i1) (.ref i2))(hTO:IsPair s.heap TO a b)
  (g:Qj P w A s.heap [z] i1\/(T9 P w A s.heap [z] i1 x P1/\Qj P w A s.heap [z,TO,i1] i2))
  (hE:∀h' e,(∀c o,c∉[z,TO,i1,i2]->s.heap.get? c=some o->h'.get? c=some o)->(∃o,h'.get? e=some o/\o.cls=.type "StopIteration")->E (.ref e) {s with heap:=h'}) :
  wpAny (model P w) A (Builtin.«zip.__next__» ⟨[.ref z],[]⟩) Q E s:=by
 simp only[Zy7,Zzt,Zzj,or_false,not_or,Zwy,and_true,not_false_eq_true] at nd
 obtain⟨⟨n1,n2,n3,n4⟩,⟨n5,n6,n7⟩,⟨n8,n9⟩,n10⟩:=nd
 show wpAny _ _ (field (.ref z) 2 >>= _) _ _ _;refine wpAny_bind (wpAny_field hz rfl (x:=.bool false) rfl ?_)
 show wpAny _ _ (field (.ref z) 3 >>= _) _ _ _;refine wpAny_bind (wpAny_field hz rfl (x:=.ref TI) rfl (wpAny_bind (wpAny_seqItems hTI rfl ?_)))
 show wpAny _ _ (Zxu (.ref z) >>= _) _ _ _;refine wpAny_bind ?_;unfold Zxu
 refine wpAny_bind (wpAny_field hz rfl (x:=.none) rfl (wpAny_pure ?_));simp only[if_true]
 refine wpAny_bind (wpAny_rule (wpAny_bind (wpAny_field hz rfl (x:=.ref TO) rfl (wpAny_bind (wpAny_setField_rec hz (by simp) λh₁ hz₁ hs₁=>wpAny_bind ?_)))))
 simp only[Zv3,Zv9,Zut,Zw1]
 have hz₁:IsZip h₁ z TI TO .ellipsis:=hz₁
 have e1:∀c o,c≠z->s.heap.get? c=some o->h₁.get? c=some o:=λc o n e=>hs₁.extBut _ _ n e
 refine wpAny_bind (wpAny_bind (wpAny_onRaise ?_));show wpAny _ _ (Zy8 (.ref i1) >>= _) _ _ _
 have out:∀(h₂ h₃:Heap) (e:Addr) (f0:Value),IsZip h₂ z TI TO f0->(∃o,h₂.get? e=some o/\o.cls=.type "StopIteration")->Zxl z h₂ h₃->∃o,h₃.get? e=some o/\o.cls=.type "StopIteration" := λh₂ h₃ e f0 q he sb=>by
  obtain⟨oe,h1,h2⟩:=he
  have ne:e≠z:=λy=>by rw[y,q] at h1;cases h1;simp at h2
  exact⟨oe,sb.extBut _ _ ne h1,h2⟩
 rcases g with g1 | ⟨g1,g2⟩
 ·refine wpAny_bind (g1 {s with heap:=h₁} _ _ (λc o n e=>e1 c o (by simpa using n) e) λh₂ e eb he=>?_)
  have q:=eb _ _ n3 hz₁
  refine wpAny_setField_rec q (by simp) λh₃ _ hs₃=>hE h₃ e (λc o n ec=>?_) (out h₂ h₃ e _ q he hs₃)
  simp only[Zzt,Zzj,or_false,not_or] at n
  exact hs₃.extBut _ _ n.1 (eb _ _ n.2.2.1 (e1 c o n.1 ec))
 ·refine wpAny_bind (g1 {s with heap:=h₁} _ _ (λc o n e=>e1 c o (by simpa using n) e) λh₂ p2 hs₂=>wpAny_pure ?_)
  have e2:∀c o,c≠z->c≠i1->s.heap.get? c=some o->h₂.get? c=some o:=λc o n m e=>hs₂.extBut _ _ m (e1 c o n e)
  have t2:IsPair h₂ TO a b:=e2 _ _ (Zzi n2) n8 hTO
  refine wpAny_bind (wpAny_seqItems t2 rfl (wpAny_bind (wpAny_updateSeq_pair t2 λh₃ t3 hs₃=>wpAny_bind (wpAny_letGo (wpAny_pure ?_)))))
  have e3:∀c o,c≠z->c≠i1->c≠TO->s.heap.get? c=some o->h₃.get? c=some o:=λc o n m k e=>hs₃.extBut _ _ k (e2 c o n m e)
  refine wpAny_bind (wpAny_bind (wpAny_onRaise ?_));show wpAny _ _ (Zy8 (.ref i2) >>= _) _ _ _
  refine wpAny_bind (g2 {s with heap:=h₃} _ _ (λc o n e=>by simp only[Zzt,Zzj,or_false,not_or] at n;exact e3 c o n.1 n.2.2 n.2.1 e) λh₄ e eb he=>?_)
  have q:=eb _ _ n4 (hs₃.extBut _ _ n2 (hs₂.extBut _ _ n3 hz₁))
  refine wpAny_setField_rec q (by simp) λh₅ _ hs₅=>hE h₅ e (λc o n ec=>?_) (out h₄ h₅ e _ q he hs₅)
  simp only[Zzt,Zzj,or_false,not_or] at n
  exact hs₅.extBut _ _ n.1 (eb _ _ n.2.2.2 (e3 c o n.1 n.2.2.1 n.2.1 ec))
theorem Sw{l:Addr}{k:Nat}{xs:Array Value}(ex:List Addr)(h:s.heap.IsListIter i1 l k)(hl:s.heap.IsList l xs)(hx:xs[k]?=some x)(n1:i1∉ex)(n2:l∉ex):T9 P w A s.heap ex i1 x (λh'=>h'.IsListIter i1 l (k+1)):=λt Q E kp hq =>
 wpAny_nextOf_list_item (h.at λo e=>kp _ o n1 e) (hl.at λo e=>kp _ o n2 e) hx λh' a b=>hq h' a b
theorem jh{l:Addr}{k:Nat}{xs:Array Value}(ex:List Addr)(hh:A.handled=none)(h:s.heap.IsListIter i1 l k)(hl:s.heap.IsList l xs)(hx:xs[k]?=none)(n1:i1∉ex)(n2:l∉ex):Qj P w A s.heap ex i1:=λt Q E kp hq =>
 wpAny_nextOf_list_end hh (h.at λo e=>kp _ o n1 e) (hl.at λo e=>kp _ o n2 e) hx λh' e a b=>hq h' e a b
theorem Ve{h h':Heap}{b:Addr}{ys:Array Value}(q:h.IsTuple b ys)(k:∀o,h.get? b=some o->h'.get? b=some o):h'.IsTuple b ys:=by obtain⟨o,e,r⟩:=q;exact⟨o,k o e,r⟩
theorem jg{l:Addr}{k:Nat}{xs:Array Value}(ex:List Addr)(h:s.heap.IsTupleIter i2 l k)(hl:s.heap.IsTuple l xs)(hx:xs[k]?=some y)(n1:i2∉ex)(n2:l∉ex):T9 P w A s.heap ex i2 y (λh'=>h'.IsTupleIter i2 l (k+1)):=λt Q E kp hq=>by
 have hi:=h.at λo e=>kp _ o n1 e
 obtain⟨oi,ei,ci,di⟩:=id hi
 obtain⟨ol,el,_,m,dl⟩:=Ve hl λo e=>kp _ o n2 e
 unfold Zy8
 refine wpAny_bind (wpAny_callSpecial?_slot (name:=Str.ofString "__next__") hi.typeIs F.slot_tuple_iterator_next (wpAny_call_entry F.slot_tuple_iterator_next hi.typeIs F.entry_tuple_iterator_next ?_ (F.args_tuple_iterator_next_1 _)))
 show wpAny _ _ (field (.ref i2) 0 >>= _) _ _ t;refine wpAny_bind (wpAny_field ei di (x:=.ref l) rfl ?_)
 show wpAny _ _ (if (Value.ref l == Value.none)=true then _ else _) _ _ t;rw[if_neg (λz:(Value.ref l == Value.none)=true=>Zz9 z)]
 show wpAny _ _ (field (.ref i2) 1 >>= _) _ _ t;refine wpAny_bind (wpAny_field ei di (x:=.int k 0) rfl ?_)
 show wpAny _ _ (seqItems? (.ref l) >>= _) _ _ t;refine wpAny_bind (wpAny_seqItems el dl ?_);simp only[hx,Int.toNat_natCast]
 refine wpAny_bind (wpAny_setField ei di (by simp) (wpAny_pure ⟨y,rfl,wpAny_pure (hq _ ⟨_,Zwz _ ei (Obj.isFreed_of_fields (Obj.data_mapFields di _)),(Obj.cls_mapFields ..).trans ci,by rw[Obj.data_mapFields di];simp[rawInt]⟩ (Zuy ..))⟩))
theorem px{l:Addr}{k:Nat}{xs:Array Value}(ex:List Addr)(hh:A.handled=none)(h:s.heap.IsTupleIter i2 l k)(hl:s.heap.IsTuple l xs)(hx:xs[k]?=none)(n1:i2∉ex)(n2:l∉ex):Qj P w A s.heap ex i2:=λt Q E kp hq=>by
 have hi:=h.at λo e=>kp _ o n1 e
 obtain⟨oi,ei,ci,di⟩:=id hi
 obtain⟨ol,el,_,m,dl⟩:=Ve hl λo e=>kp _ o n2 e
 unfold Zy8
 refine wpAny_bind (wpAny_callSpecial?_slot (name:=Str.ofString "__next__") hi.typeIs F.slot_tuple_iterator_next (wpAny_call_entry F.slot_tuple_iterator_next hi.typeIs F.entry_tuple_iterator_next ?_ (F.args_tuple_iterator_next_1 _)))
 show wpAny _ _ (field (.ref i2) 0 >>= _) _ _ t;refine wpAny_bind (wpAny_field ei di (x:=.ref l) rfl ?_)
 show wpAny _ _ (if (Value.ref l == Value.none)=true then _ else _) _ _ t;rw[if_neg (λz:(Value.ref l == Value.none)=true=>Zz9 z)]
 show wpAny _ _ (field (.ref i2) 1 >>= _) _ _ t;refine wpAny_bind (wpAny_field ei di (x:=.int k 0) rfl ?_)
 show wpAny _ _ (seqItems? (.ref l) >>= _) _ _ t;refine wpAny_bind (wpAny_seqItems el dl ?_);simp only[hx,Int.toNat_natCast]
 refine wpAny_bind (wpAny_rule (wpAny_bind (wpAny_setField ei di (by simp) ?_)));show wpAny _ _ (newExc (.type "StopIteration") [] >>= _) _ _ _
 refine wpAny_bind ?_;simp only[newExc,newTuple]
 refine wpAny_bind (wpAny_newObj_type ?_ (by size_fits));refine wpAny_bind (m:=firstArgMember _ _) (wpAny_of_eq (a:=Value.none) (by first | rfl | (simp only[firstArgMember];rfl)) ?_)
 refine wpAny_newObj_type ?_ (by size_fits);simp only[raiseNew]
 refine wpAny_bind (wpAny_handled ?_);first | rw[show A.in1.handled=none from hh] | rw[hh]
 exact wpAny_bind (wpAny_pure (wpAny_throw (hq _ _ (((Zuy ..).extBut.push _).push _) ⟨_,Zze _ rfl,rfl⟩)))
theorem Rc(hh:A.handled=none)(z TI TO i1 i2 l1 l2:Addr)(nd:[z,TI,TO,i1,i2].Nodup)(n1:l1∉[z,TO,i1,i2])(n2:l2∉[z,TO,i1,i2])(xs ys:Array Value) :
  WalksT P w A z [z,TI,TO,i1,i2,l1,l2] [z,TO,i1,i2] (min xs.size ys.size) (λi vals=>∃x y,xs[i]?=some x/\ys[i]?=some y/\vals=#[x,y])
   (λi h=>IsZip h z TI TO .none/\IsPair h TI (.ref i1) (.ref i2)/\(∃a b,IsPair h TO a b)/\h.IsListIter i1 l1 i/\h.IsTupleIter i2 l2 i/\h.IsList l1 xs/\h.IsTuple l2 ys)
   (λi T h=>(IsZip h z TI TO (rawInt T)/\IsPair h TI (.ref i1) (.ref i2)/\(∃a b,IsPair h TO a b)/\h.IsListIter i1 l1 (i+1)/\h.IsTupleIter i2 l2 (i+1)/\h.IsList l1 xs/\h.IsTuple l2 ys)/\T∉[z,TO,i1,i2]):=by
 have nd':=nd
 simp only[Zy7,Zzt,Zzj,or_false,not_or,Zwy,and_true,not_false_eq_true] at nd'
 obtain⟨⟨m1,m2,m3,m4⟩,⟨m5,m6,m7⟩,⟨m8,m9⟩,m10⟩:=nd'
 have hTIn:TI∉[z,TO,i1,i2]:=by simp only[Zzt,Zzj,or_false,not_or];exact⟨Zzi m1,m5,m6,m7⟩
 have q1:=n1
 have q2:=n2
 simp only[Zzt,Zzj,or_false,not_or] at q1 q2
 have x1:i1∉[z]:=by simpa using Zzi m3
 have x2:i2∉[z,TO,i1]:=by simp only[Zzt,Zzj,or_false,not_or];exact⟨Zzi m4,Zzi m9,Zzi m10⟩
 have x3:l1∉[z]:=by simpa using q1.1
 have x4:l2∉[z,TO,i1]:=by simp only[Zzt,Zzj,or_false,not_or];exact⟨q2.1,q2.2.1,q2.2.2.1⟩
 refine⟨λc hc=>?_,λi h h' st k=>?_,λi s Q E hi st hq=>?_,λelts k pos i T s Q E hm hq=>?_,λi T h hm=>hm.2,λs Q E st hq=>?_,λi s Q E st hq=>wpAny_pyIter_zip st.1 hq⟩
 ·simp only[Zzt,Zzj,or_false] at hc ⊢
  rcases hc with q | q | q | q<;>simp[q]
 ·obtain⟨a1,a2,⟨u,v,a3⟩,a4,a5,a6,a7⟩:=st
  exact⟨k z (by simp) _ a1,k TI (by simp) _ a2,⟨u,v,k TO (by simp) _ a3⟩,a4.at λo e=>k i1 (by simp) o e,a5.at λo e=>k i2 (by simp) o e,a6.at λo e=>k l1 (by simp) o e,Ve a7 λo e=>k l2 (by simp) o e⟩
 ·obtain⟨a1,a2,⟨u,v,a3⟩,a4,a5,a6,a7⟩:=st
  have hT:s.TypeIs (.ref z) "zip" := ⟨_,a1,rfl⟩
  have hix:i<xs.size:=by omega
  have hiy:i<ys.size:=by omega
  have gx:xs[i]?=some xs[i]:=Zxt hix
  have gy:ys[i]?=some ys[i]:=Zxt hiy
  have lt:∀{c:Addr} {o:Obj},s.heap.get? c=some o->s.heap.objs.size≠c:=λe=>Zxe (Zzb e)
  unfold pyNext
  refine wpAny_bind (wpAny_attempt (wpAny_callSpecial?_slot (name:=Str.ofString "__next__") hT F.slot_zip_next (wpAny_call_entry F.slot_zip_next hT F.entry_zip_next (fz nd a1 a2 a3 (Sw [z] a4 a6 gx x1 x3) (jg [z,TO,i1] a5 a7 gy x2 x4) (λ_ _ p k=>p.at k) (λ_ _ p k=>p.at k) λh' b1 b2 b3 b4 b5 b6 kp=>?_) (F.args_zip_next_1 _))))
  refine wpAny_pure (hq _ #[xs[i],ys[i]] h' s.toks ⟨_,_,gx,gy,rfl⟩ (Zzm _) ⟨_,b5,rfl,_,rfl⟩ ⟨⟨b1,kp _ _ hTIn a2,⟨_,_,b2⟩,b3,b4,a6.at λo e=>kp _ o n1 e,Ve a7 λo e=>kp _ o n2 e⟩,?_⟩ kp)
  obtain⟨_,e4,_⟩:=a4
  obtain⟨_,e5,_⟩:=a5
  simp only[Zzt,Zzj,or_false,not_or]
  exact⟨lt a1,lt a3,lt e4,lt e5⟩
 ·obtain⟨⟨a1,a2,⟨u,v,a3⟩,a4,a5,a6,a7⟩,_⟩:=hm
  refine wpAny_letOwnedTupleGo_zip a1 λh' b1 sb=>hq h' ⟨b1,sb.extBut _ _ (Zzi m1) a2,⟨u,v,sb.extBut _ _ (Zzi m2) a3⟩,a4.extBut sb.extBut (Zzi m3),a5.extBut sb.extBut (Zzi m4),a6.extBut sb.extBut q1.1,a7.extBut sb.extBut q2.1⟩ λc o hc e=>sb.extBut _ _ (λq=>hc (by simp[q])) e
 ·obtain⟨a1,a2,⟨u,v,a3⟩,a4,a5,a6,a7⟩:=st
  have hT:s.TypeIs (.ref z) "zip" := ⟨_,a1,rfl⟩
  unfold pyNext
  have fin:Qj P w A.in1 s.heap [z] i1\/((∃x,T9 P w A.in1 s.heap [z] i1 x (λh'=>h'.IsListIter i1 l1 (min xs.size ys.size+1)))/\Qj P w A.in1 s.heap [z,TO,i1] i2):=by
   by_cases h:xs.size<=ys.size
   ·exact .inl (jh [z] hh a4 a6 (Zwn (by omega)) x1 x3)
   ·exact .inr ⟨⟨_,Sw [z] a4 a6 (Zxt (by omega)) x1 x3⟩,px [z,TO,i1] hh a5 a7 (Zwn (by omega)) x2 x4⟩
  have fin2:∃x,Qj P w A.in1 s.heap [z] i1\/(T9 P w A.in1 s.heap [z] i1 x (λh'=>h'.IsListIter i1 l1 (min xs.size ys.size+1))/\Qj P w A.in1 s.heap [z,TO,i1] i2):=by
   rcases fin with f | ⟨⟨x,f⟩,f2⟩
   ·exact⟨.none,.inl f⟩
   ·exact⟨x,.inr ⟨f,f2⟩⟩
  obtain⟨x,fin2⟩:=fin2
  refine wpAny_bind (wpAny_attempt (wpAny_callSpecial?_slot (name:=Str.ofString "__next__") hT F.slot_zip_next (wpAny_call_entry F.slot_zip_next hT F.entry_zip_next (jw nd a1 a2 a3 fin2 λh' e kp he=>?_) (F.args_zip_next_1 _))))
  obtain⟨o,e1,e2⟩:=he
  exact wpAny_bind (wpAny_isInstance (T := "StopIteration") (b:=true) ⟨o,e1,e2⟩ isSubtype_stop (wpAny_pure (hq h' s.toks kp)))
end
def zt1(h:Heap)(a:Addr):Heap:=h.push {cls:=.type "list_iterator",data:=.fields #[.ref a,.int 0 0]}
def zt2(h:Heap)(a b:Addr):Heap:=(zt1 h a).push {cls:=.type "tuple_iterator",data:=.fields #[.ref b,.int 0 0]}
def zt3(h:Heap)(a b:Addr):Heap:=(zt2 h a b).push {cls:=.type "tuple",data:=.seq #[.ref h.objs.size,.ref (zt1 h a).objs.size]}
def zt4(h:Heap)(a b:Addr):Heap:=(zt3 h a b).push {cls:=.type "tuple",data:=.seq #[.none,.none]}
def zt5(h:Heap)(a b:Addr):Heap:=(zt4 h a b).push {cls:=.type "zip",data:=.fields #[.none,.bool false,.bool false,.ref (zt2 h a b).objs.size,.ref (zt3 h a b).objs.size]}
theorem aq(a b:Addr)(xs ys:Array Value):Meets (Builtin.«zip.__new__» ⟨[.type "zip",.ref a,.ref b],[]⟩) (λ_ R s=>s.heap.IsList a xs/\s.heap.IsTuple b ys/\R (.ok (.ret (.ref (zt4 s.heap a b).objs.size))) {s with heap:=zt5 s.heap a b}) :=
 .of_wp λP w A R s h=>by
  obtain⟨hp,g,d,tk,os⟩:=s
  obtain⟨ha,hb,h⟩:=h
  have hsub:=sub_zip
  have qa:Heap.IsList (Shared.heap ⟨hp,g,d,tk,os⟩) a xs:=ha
  have qb:Heap.IsTuple (Shared.heap ⟨hp.push {cls:=.type "list_iterator",data:=.fields #[.ref a,.int 0 0]},g,d,tk,os⟩) b ys:=Heap.IsTuple.push hb _
  wp_walk using wpAny_pyIter_list qa,wpAny_pyIter_tuple qb
  exact⟨_,rfl,h⟩
theorem jn{P:Program}{w:World}{A:Around}{E:Value->Shared->Prop}{s:Shared}{a b:Addr}{xs ys:Array Value}{Q:Value->Shared->Prop}(ha:s.heap.IsList a xs)(hb:s.heap.IsTuple b ys)
  (h:∀h',IsZip h' (s.heap.objs.size+4) (s.heap.objs.size+2) (s.heap.objs.size+3) .none->IsPair h' (s.heap.objs.size+2) (.ref s.heap.objs.size) (.ref (s.heap.objs.size+1))->IsPair h' (s.heap.objs.size+3) .none .none ->
   h'.IsListIter s.heap.objs.size a 0->h'.IsTupleIter (s.heap.objs.size+1) b 0->(∀c o,s.heap.get? c=some o->h'.get? c=some o)->Q (.ref (s.heap.objs.size+4)) {s with heap:=h'}) :
  wpAny (model P w) A (call (.type "zip") [.ref a,.ref b]) Q E s:=by
 refine callType_new F.called_zip (by decide) (F.typeCall_zip_2 _ _) (F.newCall_zip_2 _ _) (λobj=>F.args_object_init_3 obj _ _) F.entry_zip_new (aq a b xs ys) ⟨ha,hb,?_⟩
 have z1:(zt1 s.heap a).objs.size=s.heap.objs.size+1:=Zxp ..
 have z2:(zt2 s.heap a b).objs.size=s.heap.objs.size+2:=(Zxp ..).trans (by rw[z1])
 have z3:(zt3 s.heap a b).objs.size=s.heap.objs.size+3:=(Zxp ..).trans (by rw[z2])
 have z4:(zt4 s.heap a b).objs.size=s.heap.objs.size+4:=(Zxp ..).trans (by rw[z3])
 have p5:∀{c:Addr} {o:Obj},(zt4 s.heap a b).get? c=some o->(zt5 s.heap a b).get? c=some o:=λe=>Zzx _ e
 have p4:∀{c:Addr} {o:Obj},(zt3 s.heap a b).get? c=some o->(zt5 s.heap a b).get? c=some o:=λe=>p5 (Zzx _ e)
 have p3:∀{c:Addr} {o:Obj},(zt2 s.heap a b).get? c=some o->(zt5 s.heap a b).get? c=some o:=λe=>p4 (Zzx _ e)
 have p2:∀{c:Addr} {o:Obj},(zt1 s.heap a).get? c=some o->(zt5 s.heap a b).get? c=some o:=λe=>p3 (Zzx _ e)
 have g5:(zt5 s.heap a b).get? (zt4 s.heap a b).objs.size=some {cls:=.type "zip",data:=.fields #[.none,.bool false,.bool false,.ref (zt2 s.heap a b).objs.size,.ref (zt3 s.heap a b).objs.size]}:=Zze _ rfl
 have g4:=p5 (show (zt4 s.heap a b).get? (zt3 s.heap a b).objs.size=some {cls:=.type "tuple",data:=.seq #[.none,.none]} from Zze _ rfl)
 have g3:=p4 (show (zt3 s.heap a b).get? (zt2 s.heap a b).objs.size=some {cls:=.type "tuple",data:=.seq #[.ref s.heap.objs.size,.ref (zt1 s.heap a).objs.size]} from Zze _ rfl)
 have g2:=p3 (show (zt2 s.heap a b).get? (zt1 s.heap a).objs.size=some {cls:=.type "tuple_iterator",data:=.fields #[.ref b,.int 0 0]} from Zze _ rfl)
 have g1:=p2 (show (zt1 s.heap a).get? s.heap.objs.size=some {cls:=.type "list_iterator",data:=.fields #[.ref a,.int 0 0]} from Zze _ rfl)
 show _/\_
 rw[z2,z3,z4] at g5
 rw[z1,z2] at g3
 rw[z3] at g4
 rw[z1] at g2
 rw[z4]
 exact⟨⟨_,g5,rfl⟩,h _ g5 g3 g4 ⟨_,g1,rfl,rfl⟩ ⟨_,g2,rfl,rfl⟩ λc o e=>p2 (Zzx _ e)⟩
def zk(K:Zzw)(a b:Addr)(xs ys:List V):It:=⟨λi H=>H a=some (.lst xs)/\SqT K H b ys/\i<min xs.length ys.length,
 λi H x H'=>∃p y z,x=.ref p/\H p=none/\xs[i]?=some y/\ys[i]?=some z/\H'=upd H p (.tup [y,z]),λi H=>H a=some (.lst xs)/\SqT K H b ys/\i=min xs.length ys.length⟩
theorem yu(K:Zzw)(a b:Addr)(xs ys:List V):Vd (zk K a b xs ys) (min xs.length ys.length) (λi us=>∃y z,xs[i]?=some y/\ys[i]?=some z/\us=[y,z]) (λH=>H a=some (.lst xs)/\SqT K H b ys) :=
 ⟨λi H h o=>⟨o.1,o.2,h⟩,λi H x H' h o y=>by obtain⟨p,u,v,e1,e2,e3,e4,e5⟩:=y;exact⟨p,_,e1,e2,e5,u,v,e3,e4,rfl⟩,λH o=>⟨o.1,o.2,rfl⟩⟩
theorem gf{P:Program}{w:World}{K:Zzw}{elts:List Expr}{k:Nat}{pos:Pos}(z TI TO i1 i2 a b:Addr)(xs ys:List V)(nd:[z,TI,TO,i1,i2].Nodup)(na:a∉[z,TO,i1,i2])(nb:b∉[z,TO,i1,i2]) :
  Q9 P w K (.Tuple elts k pos) (zk K a b xs ys) [z,TI,TO,i1,i2] z (λi h=>IsZip h z TI TO .none/\IsPair h TI (.ref i1) (.ref i2)/\(∃u v,IsPair h TO u v)/\h.IsListIter i1 a i/\h.IsTupleIter i2 b i):=by
 have objs:∀(i:Nat) (h:Heap),(IsZip h z TI TO .none/\IsPair h TI (.ref i1) (.ref i2)/\(∃u v,IsPair h TO u v)/\h.IsListIter i1 a i/\h.IsTupleIter i2 b i)->∀c∈[z,TI,TO,i1,i2],∃o,h.get? c=some o/\∀v,o.data≠.cell v:=by
  rintro i h ⟨hz,hT,⟨u,v,hO⟩,⟨o1,g1,c1,d1⟩,⟨o2,g2,c2,d2⟩⟩ c hc
  simp only[Zzt,Zzj,or_false] at hc
  rcases hc with q | q | q | q | q<;>subst q
  ·exact⟨_,hz,λ_ y=>by cases y⟩
  ·exact⟨_,hT,λ_ y=>by cases y⟩
  ·exact⟨_,hO,λ_ y=>by cases y⟩
  ·exact⟨o1,g1,λ_ y=>by rw[d1] at y;cases y⟩
  ·exact⟨o2,g2,λ_ y=>by rw[d2] at y;cases y⟩
 have sub:∀c∈[z,TO,i1,i2],c∈[z,TI,TO,i1,i2]:=λc hc=>by simp at hc ⊢;rcases hc with h | h | h | h<;>simp[h]
 refine⟨by simp,objs,?_,?_,?_,?_⟩
 ·rintro i h h' ⟨hz,hT,⟨u,v,hO⟩,g1,g2⟩ kp
  exact⟨kp z (by simp) _ hz,kp TI (by simp) _ hT,⟨u,v,kp TO (by simp) _ hO⟩,g1.at λo e=>kp i1 (by simp) o e,g2.at λo e=>kp i2 (by simp) o e⟩
 ·intro X hP hw hK hc i pins s Z H E I hf st hg
  subst hP hw hK
  obtain⟨ha,hb,hlt⟩:=hg
  obtain⟨its,rv,hl,hal⟩:=Cg I ha
  obtain⟨its2,rv2,hl2,hz2⟩:=I.tuple hb
  have len1:=rv.length
  have len2:=rv2.length
  obtain⟨s1,s2,s3,s4,s5⟩:=id st
  have hv:∀vals:Array Value,(∃x y,its.toArray[i]?=some x/\its2.toArray[i]?=some y/\vals=#[x,y])->∃us,Vals us vals.toList/\us.length<=100/\∃y z,xs[i]?=some y/\ys[i]?=some z/\us=[y,z]:=by
   rintro vals ⟨x,y,hx,hy,rfl⟩
   have l1:i<xs.length:=by omega
   have l2:i<ys.length:=by omega
   obtain⟨u,hu,ru⟩:=rv.get (x:=xs[i]) (i:=i) (by simp[l1])
   obtain⟨u',hu',ru'⟩:=rv2.get (x:=ys[i]) (i:=i) (by simp[l2])
   have hx:its[i]?=some x:=by simpa using hx
   have hy:its2[i]?=some y:=by simpa using hy
   rw[hx] at hu
   rw[hy] at hu'
   cases hu
   cases hu'
   exact⟨[xs[i],ys[i]],.cons ru (.cons ru' .nil),by simp,xs[i],ys[i],by simp[l1],by simp[l2],rfl⟩
  refine thn (Wm (E:=E) (Rc (I.ok.hd hc) z TI TO i1 i2 a b nd na nb its.toArray its2.toArray) (by rw[Zzl,Zzl];omega) I ⟨s1,s2,s3,s4,s5,hl,hl2⟩ (λc hc=>hf c (sub c hc)) hv) λr t1 ⟨u,hr,h3⟩ =>
   ⟨u,hr,thn h3 λ_ t2 ⟨p,us,hu,hp,hn,I2,⟨y,y',hy,hy',e2⟩,st2⟩=>?_⟩
  subst hu e2
  refine⟨.ref p,_,I2,rfl,⟨p,y,y',rfl,hn,hy,hy',rfl⟩,⟨st2.1,st2.2.1,st2.2.2.1,st2.2.2.2.1,st2.2.2.2.2.1⟩,λc hc=>?_⟩
  obtain⟨o,ho,_⟩:=objs i _ st c hc
  rw[A7 (Fo (Zzb ho) hp)]
  exact(hf c hc).1
 ·intro X hP hw hK hc i pins s Z H E I hf st hg
  subst hP hw hK
  obtain⟨ha,hb,hlt⟩:=hg
  obtain⟨its,rv,hl,hal⟩:=Cg I ha
  obtain⟨its2,rv2,hl2,hz2⟩:=I.tuple hb
  have len1:=rv.length
  have len2:=rv2.length
  obtain⟨s1,s2,s3,s4,s5⟩:=id st
  have hi:min its.toArray.size its2.toArray.size=i:=by rw[Zzl,Zzl];omega
  refine(Rc (I.ok.hd hc) z TI TO i1 i2 a b nd na nb its.toArray its2.toArray).done s _ E ?_ λh' tk hk=>⟨rfl,I.turnedL hk λc hc=>hf c (sub c hc)⟩
  rw[hi]
  exact⟨s1,s2,s3,s4,s5,hl,hl2⟩
 ·intro A i s Q E st h
  exact wpAny_pyIter_zip st.1 h
section
variable {X:Cx}
def Em(K:Zzw)(ta:TA):TI:=λZ H R=>ta Z H λvs H1=>∃a b xs ys,vs=[.ref a,.ref b]/\H1 a=some (.lst xs)/\SqT K H1 b ys/\R (zk K a b xs ys) H1
theorem uc{elts:List Expr}{k:Nat}{pt p pos:Pos}{e e2:Expr}{ta:TA}(hg:Gl X "zip")(hm:X.mg "zip" = none)(ha:PA X [e,e2] ta)(hn:Fp [e,e2]=true:=by rfl):PI X (.Tuple elts k pt) (.Call (.Name "zip" p) [e,e2] [] pos) (Em X.K ta):=by
 intro pins s Z H R I h
 refine Call_ (Jh I hg hm NP.bi (Zxq (thn (ha pos pins s Z H _ I h) λus s1 ⟨vs,H1,I1,r1,q1⟩=>?_) (Ff (Cz hn).1) (Gd (Cz hn).2)))
 obtain⟨a,b,xs,ys,e,ha,hb,q⟩:=q1
 subst e
 obtain⟨u,u',rfl,ru,ru'⟩:=Ri r1
 cases ru
 cases ru'
 obtain⟨its,rv,hl,hal⟩:=Cg I1 ha
 obtain⟨its2,rv2,hl2,hz2⟩:=I1.tuple hb
 have hbl:b<s1.heap.objs.size:=by obtain⟨o,ho,_⟩:=hl2;exact Zzb ho
 refine jn hl hl2 λh' g1 g2 g3 g4 g5 hk=>wpAny_pyIter_zip g1 ?_
 have I2:Inv X pins Z H1 {s1 with heap:=h'}:=I1.kept (t':=s1.toks) hk
 have nd:[s1.heap.objs.size+4,s1.heap.objs.size+2,s1.heap.objs.size+3,s1.heap.objs.size,s1.heap.objs.size+1].Nodup:=by
  simp only[Zy7,Zzt,Zzj,or_false,not_or,Zwy,and_true,not_false_eq_true]
  refine⟨⟨?_,?_,?_,?_⟩,⟨?_,?_,?_⟩,⟨?_,?_⟩,?_⟩<;>(intro z;have z':(_:Nat)=_:=z;omega)
 have off:∀c:Addr,c<s1.heap.objs.size->c∉[s1.heap.objs.size+4,s1.heap.objs.size+3,s1.heap.objs.size,s1.heap.objs.size+1]:=λc hc z=>by
  simp only[Zzt,Zzj,or_false] at z
  rcases z with q | q | q | q<;>rw[q] at hc<;>first | exact absurd hc (Nat.not_lt.mpr (Zva _ _)) | exact absurd hc (Zwf _)
 refine⟨s1.heap.objs.size+4,[s1.heap.objs.size+4,s1.heap.objs.size+2,s1.heap.objs.size+3,s1.heap.objs.size,s1.heap.objs.size+1],_,_,H1,rfl,I2,gf _ _ _ _ _ a b xs ys nd (off a hal) (off b hbl),⟨g1,g2,⟨_,_,g3⟩,g4,g5⟩,λc hc=>?_,q⟩
 have hb':s1.heap.objs.size<=c:=by
  simp only[Zzt,Zzj,or_false] at hc
  rcases hc with q | q | q | q | q<;>rw[q]<;>first | exact Zva _ _ | exact Zzm _
 exact I1.fpOk hb' (I1.hok.fresh hb')
end
def xa(p:Params)(l:List (Str×Tok×Addr)):Array DictEntry:=(l.map λe=>{hash:=PyData.keyHash p e.1,key:=.str e.1 e.2.1,val:=.ref e.2.2}).toArray
def TabK(w:World)(K:Zzw)(a:Addr)(l:List (Str×Tok×Addr)):Prop:=(∃ep,K.lookup a=some {cls:=.type "dict",data:=.dict (xa w.params l) ep})/\(l.map (·.1)).Nodup/\(a == sysModules)=false
def Ro(l:List (Str×Tok×Addr)):List (Key×Value):=l.map λe=>(Zxk e.1,Value.ref e.2.2)
def Qv(l:List (Str×Tok×Addr))(x:Str):V:=match l.find? (λe=>decide (e.1=x)) with
 |some e=>.ref e.2.2
 |none=>.non
theorem U8{P:Program}{w:World}:∀l:List (Str×Tok×Addr),Pairs (Dj P w) (l.map λe=>{hash:=PyData.keyHash w.params e.1,key:=.str e.1 e.2.1,val:=.ref e.2.2}) (Ro l)
 |[]=>.nil
 |e::r=>.cons (Lv P w e.1 e.2.1) rfl (U8 r)
theorem TabK.dict{P:Program}{w:World}{K:Zzw}{a:Addr}{l:List (Str×Tok×Addr)}{h:Heap}(T:TabK w K a l)(X:K.In h):h.DictOf (Dj P w) a (Ro l):=by
 obtain⟨⟨ep,lk⟩,nd,_⟩:=T
 refine⟨_,_,ep,X a _ lk,⟨rfl,rfl,rfl⟩,rfl,λe he=>?_,?_,?_⟩
 ·unfold xa at he
  have he:e∈(l.map λe=>({hash:=PyData.keyHash w.params e.1,key:=.str e.1 e.2.1,val:=.ref e.2.2}:DictEntry)):=by simpa using he
  obtain⟨q,hq,rfl⟩:=Zzv.mp he
  exact⟨.inr q.1,Lv P w q.1 q.2.1,rfl⟩
 ·exact U8 l
 ·unfold Ro
  rw[Zyh]
  have:(Zy4 ((λx=>x.1)∘λe:Str×Tok×Addr=>((Zxk e.1:Key),Value.ref e.2.2)) l)=(l.map (·.1)).map Zxk:=by rw[Zyh];rfl
  rw[this]
  exact nd.map _ λx y n e=>n (Zwb e)
theorem sj(l:List (Str×Tok×Addr))(x:Str):RelV (Qv l x) ((valueAt (Ro l) (.inr x)).getD .none):=by
 unfold Qv valueAt Ro
 rw[List.find?_map]
 have:(λkv:Key×Value=>decide (kv.1=(Zxk x:Key)))∘(λe:Str×Tok×Addr=>((Zxk e.1:Key),Value.ref e.2.2))=λe=>decide (e.1=x):=by
  funext e
  simp
 rw[this]
 cases l.find? (λe=>decide (e.1=x)) with
 |none=>rfl
 |some e=>rfl
def Eg(l:List (Str×Tok×Addr))(ty:TE):TE:=λZ H Q=>ty Z H λy H1=>∃x,y=.str x/\Q (Qv l x) H1
theorem uh{X:Cx}{a:Addr}{l:List (Str×Tok×Addr)}{o e:Expr}{ty:TE}{apos cpos:Pos}(T:TabK X.w X.K a l)(ho:PE X o (λ_ H Q=>Q (.ref a) H))(he:PE X e ty)(m:M1 X o "get" apos e cpos):PE X (.Call (.Attribute o "get" apos) [e] [] cpos) (Eg l ty):=by
 intro pins s Z H Q I h
 refine wpAny_Call_method m.base m.few m.line PySem.F.plainAttrs_dict PySem.F.slot_dict_get PySem.F.type_dict_get (thn (ho pins s Z H (λx H1=>x=.ref a/\H1=H) I ⟨rfl,rfl⟩) λu s1 z0=>?_)
 obtain⟨x,H1,I1,rx,ex,eH⟩:=z0
 subst ex eH
 obtain rfl:u=Value.ref a:=rx
 have d1:s1.heap.DictOf (Dj X.prog X.w) a (Ro l):=T.dict I1.kIn
 refine⟨d1.typeIs,λb q=>?_,?_⟩
 ·cases q
  obtain⟨ob,_,_,e1,e2,_⟩:=d1
  exact⟨ob,e1,e2.2.1⟩
 rw[m.trees]
 refine Calls.callWith_builtin rfl (Calls.evalArgs_plain (Zur (thn (he pins s1 Z H1 _ I1 h) λiv s2 ⟨y,H2,I2,ry,x,ey,q2⟩=>Calls.spliced_nil ?_)))
 subst ey
 have d2:s2.heap.DictOf (Dj X.prog X.w) a (Ro l):=T.dict I2.kIn
 obtain⟨t,rfl⟩:=ry
 exact call_meetsIn PySem.F.slot_dict_get d2.typeIs PySem.F.entry_dict_get (PySem.F.args_dict_get_2 _ _) (meets_dict_get (Dj X.prog X.w) a (Lv X.prog X.w x t) T.2.2) ⟨_,d2.mapOf,⟨_,H2,I2.tok _,sj l x,q2⟩⟩
def TupK(K:Zzw)(a:Addr)(l:List (Str×Tok)):Prop:=∃n,K.lookup a=some {cls:=.type "tuple",data:=.seq (l.map λe=>Value.str e.1 e.2).toArray n}
theorem TupK.sq{K:Zzw}{a:Addr}{l:List (Str×Tok)}(T:TupK K a l)(hl:l.length<=1000)(H:Hp):SqT K H a ((l.map (·.1)).map V.str):=by
 obtain⟨n,lk⟩:=T
 refine .inr ⟨_,_,n,lk,rfl,rfl,by rw[Zzl,Zzz];exact Zyf hl (by decide),?_⟩
 have:∀l:List (Str×Tok),Vals ((l.map (·.1)).map V.str) (l.map λe=>Value.str e.1 e.2):=λl=>by
  induction l with
  |nil=>exact .nil
  |cons e r ih=>exact .cons ⟨_,rfl⟩ ih
 exact this l
def Ev:List V->Hp->VK->Prop:=λxs H Q=>∃x:Str,xs=[.str x]/\Q (.str x) H
def Ew:R2:=λx y H Q=>∃(z:Str) (n:Int),x=.str z/\y=.int n/\z.length<=1000/\0<=n/\n<=1000/\∀z':Str,z'.length<=z.length*n.toNat->(∀c∈z'.cps.toList,c∈z.cps.toList)->Q (.str z') H
end L2
namespace L2
open PySem PySem.Spec PyProof.Rows PySem.W NP
open Builtin Builtin.Str
section
variable {prog:Program}{w:World}{A:Around}{E:Value->Shared->Prop}{s:Shared}
end
section
variable {X:Cx}
end
end L2
namespace L2
open PySem PySem.Spec PyProof.Rows PySem.W
theorem Room.z{k j:Nat}{A:Around}(h:Room k A)(e:j<=k:=by decide):Room j A:=h.mono e
theorem Has.of{P:Program}{w:World}{K:Frag}{mg:Str->Option Value}{base:Heap}{x:Str}{k:Nat}{f:Addr}{fd:FuncData}{ps:List Str}{sp:Sp}(m:mg x=some (.ref f))(h:keepIn K (.ref f)=true)(b:Binds K fd ps [])(o:D3 P w K mg base CX0 k f fd ps sp):Has P w K mg base x k ps sp:=⟨f,fd,m,h,b,o⟩
end L2
namespace K92
open PySem L2 NP PySem.W
seal PE PA PT PS PSs PI PO PC PW
local macro_rules | `(tactic| walk_at "rd")=>do let xs:=("G5 tNext Gv Eu Gp Gz Eh Ha Ci Hh Gq tC tCB E3 tNil E1 tOp tUn E2 tB Hb tOr Gx Ej Gw Ed tIf Gu Gy tSl Ec tNoPart tBA Hk tDNewK D9 tYes rI rI0 rU rEq rNe rIsA rIsnotA rItem lenA Dg Fb Ex Fc tupleA lenQ Ho Hq rSetD Fa He Hd Hs rCat rCatTT Ek E9 E8 Hg Ea Eb Ef tIf Ep Ht Eo En rEqD rNeD Hn Hl Hu Dc Cj Dd De rSortT Dh Ct rSum rMaxL Ey Ee rGetL F0 Ei rRep Cq rMax2 rCount Cr Hm rAppend Df Cb rSetA rSetL L2.Dn Fd Ca Cp Cw Ez Ew rStrI rIntT Ev rSplit rJoin Eg Em D.ty Af Ah Ag Ad Ab Ae Bc Bt Bs Ba Aq Bb Bp Bz Bw Bn Ax Bo Bk Bv Bu Bi At Bj Aw Bm Bl Au Ao Av An As Ar Al Aj Am B2 Br Bq Ay Ap Az Cv Cf Cu Cd C4 Ce Zyq Zyp Zyk Zyo Zz7 Zzc Zz6 Zz5 Zzp Zyv Zzn Zz8 Zz2 Zzk Zyy Zz1 Zz0 Zyg Zzh Zzg Zyz exists_eq_left' exists_eq_left V.int.injEq V.bl.injEq V.str.injEq V.ref.injEq V.ty.injEq Zyu and_true true_and and_assoc exists_and_left exists_eq_right reduceCtorEq false_and and_false exists_false or_false false_or".splitOn " ").toArray.map λs=>Lean.mkIdent s.toName;`(tactic| simp only[$[$xs:ident],*,↓reduceIte])
local macro_rules | `(tactic| walk_at "sc")=>`(tactic| (constructor<;>first | rfl | decide +kernel))
def top(i:Nat):Stmt:=PySem.Challenge.pw_needplan_k92_whole_none_keeps.main.body.getD i (.Pass ⟨0,0,0,0⟩)
abbrev O4:Stmt:=top 26
abbrev Mh:Stmt:=top 27
abbrev O5:Stmt:=top 28
abbrev Kl:Stmt:=top 29
abbrev Mi:Stmt:=top 30
abbrev Ko:Stmt:=top 31
abbrev Km:Stmt:=top 32
abbrev Iz:Stmt:=top 33
abbrev O0:Stmt:=top 34
abbrev Ls:Stmt:=top 35
abbrev Nx:Stmt:=top 36
abbrev Lq:Stmt:=top 37
abbrev Ny:Stmt:=top 38
abbrev Lr:Stmt:=top 39
abbrev Nz:Stmt:=top 40
abbrev Ma:Stmt:=top 41
abbrev Kf:Stmt:=top 42
abbrev Ix:Stmt:=top 43
abbrev Nu:Stmt:=top 44
abbrev Iw:Stmt:=top 46
abbrev Ig:Stmt:=top 47
abbrev Vo:Stmt:=top 48
abbrev Jp:Stmt:=top 49
abbrev Pb:Stmt:=top 50
abbrev P9:Stmt:=top 51
abbrev Pa:Stmt:=top 53
abbrev Mb:Stmt:=top 54
abbrev Kg:Stmt:=top 55
abbrev Pc:Stmt:=top 57
abbrev Nw:Stmt:=top 58
abbrev Kn:Stmt:=top 59
abbrev Lp:Stmt:=top 60
abbrev Le:Stmt:=top 61
abbrev Lb:Stmt:=top 62
abbrev Iy:Stmt:=top 63
abbrev Kd:Stmt:=top 64
abbrev Jn:Stmt:=top 65
abbrev Jo:Stmt:=top 66
abbrev Lo:Stmt:=top 71
abbrev Jk:Stmt:=top 72
abbrev Ld:Stmt:=top 73
abbrev Ke:Stmt:=top 74
abbrev M9:Stmt:=top 75
abbrev Lc:Stmt:=top 76
abbrev Iv:Stmt:=top 77
abbrev Nv:Stmt:=top 78
abbrev Jm:Stmt:=top 80
abbrev Lm:Stmt:=top 81
abbrev Md:Stmt:=top 82
abbrev Kk:Stmt:=top 83
abbrev Lf:Stmt:=top 84
abbrev Kj:Stmt:=top 85
abbrev Mc:Stmt:=top 86
abbrev Mf:Stmt:=top 87
abbrev Ln:Stmt:=top 88
abbrev Lj:Stmt:=top 89
abbrev Kh:Stmt:=top 90
abbrev Ll:Stmt:=top 91
abbrev Li:Stmt:=top 92
abbrev Ki:Stmt:=top 93
abbrev Lk:Stmt:=top 94
abbrev Me:Stmt:=top 95
abbrev Lg:Stmt:=top 96
abbrev Jl:Stmt:=top 97
abbrev Rw:Stmt:=top 98
structure Txt(mg:Str->Option Value):Prop where
 Zue:mg "len" = none
 Zu7:mg "isinstance" = none
 Ztp:mg "str" = none
 Zt4:mg "all" = none
 Zrv:mg "bool" = none
 Zry:mg "int" = none
 Zua:mg "tuple" = none
 Zud:mg "range" = none
 Zsg:mg "max" = none
 Zs0:mg "sorted" = none
 Zs2:mg "zip" = none
 Zs1:mg "min" = none
 Zs6:mg "enumerate" = none
 Zru:mg "list" = none
 Zrx:mg "reversed" = none
 Zrw:mg "sum" = none
 Ztj:∃t,mg "COMING" = some (.int 5 t)
 Zta:∃t,mg "FIGURES" = some (.str "0123456789" t)
 Zti:∃t,mg "FLOOR" = some (.int 3 t)
 Zth:∃t,mg "GIVES" = some (.int 2 t)
 Zt3:∃t,mg "LAG" = some (.int 1 t)
 Ztu:∃t,mg "LAST_DAY" = some (.int 400 t)
 Zt9:∃t,mg "LETTERS" = some (.str "abcdefghijklmnopqrstuvwxyz" t)
 Ztn:∃t,mg "MEMBERS" = some (.int 7 t)
 Zu2:∃t,mg "MOST_COMING" = some (.int 12 t)
 Zu6:∃t,mg "MOST_FIGURES" = some (.int 60 t)
 Ztl:∃t,mg "MOST_LAG" = some (.int 30 t)
 Zu5:∃t,mg "MOST_LETTERS" = some (.int 8 t)
 Ztx:∃t,mg "MOST_PARTS" = some (.int 6 t)
 Ztw:∃t,mg "MOST_WANTS" = some (.int 20 t)
 Ztv:∃t,mg "MOST_WARES" = some (.int 12 t)
 Zub:∃t,mg "NAME" = some (.int 0 t)
 Ztg:∃t,mg "PARTS" = some (.int 6 t)
 Zt2:∃t,mg "STOCK" = some (.int 4 t)
 Zu1:∃t,mg "WANT_AMOUNT" = some (.int 2 t)
 Ztt:∃t,mg "WANT_DAY" = some (.int 1 t)
 Zts:∃t,mg "WANT_NAME" = some (.int 0 t)
def lamP:Pos:=⟨135,38,135,65⟩
def lamQ:Str:=("worked" : Str) ++ ".<locals>." ++ "<lambda>"
def Tb(H:L2.Hp)(Pt:Addr):Prop:=L2.TblAt H Pt lamP lamQ
def Zb(K:Zzw)(l:List (Str×Tok×Addr))(x:Str)(fs:List Str):Prop:=∃(a:Addr) (tl:List (Str×Tok)),Qv l x=.ref a/\TupK K a tl/\tl.map (·.1)=fs
def Rws(w:World)(K:Zzw)(mg:Str->Option Value):Prop:=∃(a:Addr) (l:List (Str×Tok×Addr)),mg "ROWS" = some (.ref a)/\TabK w K a l/\Zb K l "ware" ["name", "number", "number", "number", "number"]/\Zb K l "coming" ["name", "number", "number"]/\Zb K l "part" ["name", "name", "number"]/\Zb K l "want" ["name", "number", "number"]/\l.map (·.1)=(["ware", "coming", "part", "want"]:List Str)
def dt:D->Bool
 |.int _=>true
 |_=>false
def Dw(d:D)(n:Int):Bool:=match d with
 |.int i=>decide (n<=i)
 |_=>false
def Dz(d:D)(n m:Int):Bool:=Dw d n&&match d with
 |.int i=>decide (i<=m)
 |_=>false
def Ii(d:D)(n m:Int):Bool:=match d with
 |.tup ds=>decide (n<=ds.length)&&decide ((ds.length:Int)<=m)
 |_=>false
def Pg:List Nat:=("abcdefghijklmnopqrstuvwxyz" : Str).cps.toList
def D6(x:Str):Bool:=decide (1<=x.length)&&decide (x.length<=8)&&x.cps.toList.all λc=>decide (c∈Pg)
def Hr:D->Bool
 |.str x=>D6 x
 |_=>false
def unl(xs:List Str):Bool:=xs.all λx=>decide (xs.countP (λy=>decide (y=x))=1)
def El:D->Bool
 |.tup [a,b]=>Dz a 0 400&&Dw b 0
 |_=>false
def G6:D->Bool
 |.tup ds=>decide (ds.length<=12)&&ds.all El
 |_=>false
def isPart:D->Bool
 |.tup [a,b]=>Hr a&&Dw b 1
 |_=>false
def nameOf:D->Str
 |.tup (.str x::_)=>x
 |_ => ""
def L8:D->Bool
 |.tup ds=>decide (ds.length<=6)&&ds.all isPart&&unl (ds.map nameOf)
 |_=>false
def isWare:D->Bool
 |.tup [n,l,g,f,s,c,p]=>Hr n&&Dz l 0 30&&Dw g 1&&Dw f 0&&Dw s 0&&G6 c&&L8 p
 |_=>false
section
variable {P:Program}{w:World}{K:Zzw}{mg:Str->Option Value}{base:Heap}{f:Addr}{fd:FuncData}
def sp_is_whole:Sp:=λvs H Q _=>∃v d,vs=[v]/\Rep H d v/\∀H',Same H H'->Q (.bl (dt d)) H'
theorem Xh:Bg ["found"] ["found"] (Ai Mh):=by walk_at "sc"
theorem Y4(F:Fun K "is_whole" "is_whole" Mh f fd)(T:Txt mg):D3 P w K mg base CX0 1 f fd ["found"] sp_is_whole:=by
 refine F.ok Xh (λvs H Q E h=>?_) (λcdv A outer s H vs Q E hr h=>?_)
 ·obtain⟨v,d,rfl,_⟩:=h
  rfl
 ·obtain⟨v,d,rfl,hv,k⟩:=h
  refine⟨_,(Aa (Be (Jf (Bd Ir rfl T.Zu7 Gj (A3 (pv 0) (A3 (O8 (v:=.ty "int") rfl T.Zry bn rfl) A1))) (Kx (yb (Bd Ir rfl T.Zu7 Gj (A3 (pv 0) (A3 (O8 (v:=.ty "bool") rfl T.Zrv wj rfl) A1)))))))),?_⟩
  simp only[G5,tNext,Gv,Eu,Gp,Gz,Eh,Ha,Ci,Hh,Gq,tC,tCB,E3,tNil,E1,tOp,tUn,E2,tB,Hb,tOr,Gx,Ej,Gw,Ed,tIf,Gu,Gy,tSl,Ec,tNoPart,tBA,Hk,tDNewK,D9,tYes,rI,rI0,rU,rEq,rNe,rIsA,rIsnotA,rItem,lenA,Dg,Fb,Ex,Fc,tupleA,lenQ,Ho,Hq,rSetD,Fa,He,Hd,Hs,rCat,rCatTT,Ek,E9,E8,Hg,Ea,Eb,Ef,tIf,Ep,Ht,Eo,En,rEqD,rNeD,Hn,Hl,Hu,Dc,Cj,Dd,De,rSortT,Dh,Ct,rSum,rMaxL,Ey,Ee,rGetL,F0,Ei,rRep,Cq,rMax2,rCount,Cr,Hm,rAppend,Df,Cb,rSetA,rSetL,L2.Dn,Fd,Ca,Cp,Cw,Ez,Ew,rStrI,rIntT,Ev,rSplit,rJoin,Eg,Em,  D.ty,Af,Ah,Ag,Ad,Ab,Ae,Bc,Bt,Bs,Ba,Aq,Bb,Bp,Bz,Bw,Bn,Ax,Bo,Bk,Bv,Bu,Bi,At,Bj,Aw,Bm,Bl,Au,Ao,Av,An,As,Ar,Al,Aj,Am,B2,Br,Bq,Ay,Ap,Az,Cv,Cf,Cu,Cd,C4,Ce,Zyq,Zyp,Zyk,Zyo,Zz7,Zzc,Zz6,Zz5,↓reduceIte,Zzp,Zyv,Zzn,Zz8,Zz2,Zzk,Zyy,Zz1,Zz0,Zyg,Zzh,Zzg,Zyz,exists_eq_left',exists_eq_left,V.int.injEq,V.bl.injEq,V.str.injEq,V.ref.injEq,V.ty.injEq,Zyu,and_true,true_and,and_assoc,exists_and_left,exists_eq_right,reduceCtorEq,false_and,and_false,exists_false,or_false,false_or,hv.ty]
  have k:=k H (Same.refl H)
  cases d<;>exact k
def sp_is_from:Sp:=λvs H Q _=>∃v d n,vs=[v,.int n]/\Rep H d v/\∀H',Same H H'->Q (.bl (Dw d n)) H'
theorem Zu:Bg ["found", "least"] ["found", "least"] (Ai O5):=by walk_at "sc"
theorem aj(F:Fun K "is_from" "is_from" O5 f fd)(T:Txt mg)(Zsf:Has P w K mg base "is_whole" 1 ["found"] sp_is_whole):D3 P w K mg base CX0 2 f fd ["found", "least"] sp_is_from:=by
 refine F.ok Zu (λvs H Q E h=>?_) (λcdv A outer s H vs Q E hr h=>?_)
 ·obtain⟨v,d,n,rfl,_⟩:=h
  rfl
 ·obtain⟨v,d,n,rfl,hv,k⟩:=h
  refine⟨_,(Aa (Be (Jf (A9 Zsf hr.z rfl (A3 (pv 0) A1)) (Kx (Ih xi (pv 0) (pv 1) (Cc _)))))),?_⟩
  walk_at "rd"
  refine⟨v,d,rfl,hv,λH' s'=>?_⟩
  have k:=k H' s'
  cases d<;>simp only[G5,tNext,Gv,Eu,Gp,Gz,Eh,Ha,Ci,Hh,Gq,tC,tCB,E3,tNil,E1,tOp,tUn,E2,tB,Hb,tOr,Gx,Ej,Gw,Ed,tIf,Gu,Gy,tSl,Ec,tNoPart,tBA,Hk,tDNewK,D9,tYes,rI,rI0,rU,rEq,rNe,rIsA,rIsnotA,rItem,lenA,Dg,Fb,Ex,Fc,tupleA,lenQ,Ho,Hq,rSetD,Fa,He,Hd,Hs,rCat,rCatTT,Ek,E9,E8,Hg,Ea,Eb,Ef,tIf,Ep,Ht,Eo,En,rEqD,rNeD,Hn,Hl,Hu,Dc,Cj,Dd,De,rSortT,Dh,Ct,rSum,rMaxL,Ey,Ee,rGetL,F0,Ei,rRep,Cq,rMax2,rCount,Cr,Hm,rAppend,Df,Cb,rSetA,rSetL,L2.Dn,Fd,Ca,Cp,Cw,Ez,Ew,rStrI,rIntT,Ev,rSplit,rJoin,Eg,Em,  D.ty,Af,Ah,Ag,Ad,Ab,Ae,Bc,Bt,Bs,Ba,Aq,Bb,Bp,Bz,Bw,Bn,Ax,Bo,Bk,Bv,Bu,Bi,At,Bj,Aw,Bm,Bl,Au,Ao,Av,An,As,Ar,Al,Aj,Am,B2,Br,Bq,Ay,Ap,Az,Cv,Cf,Cu,Cd,C4,Ce,Zyq,Zyp,Zyk,Zyo,Zz7,Zzc,Zz6,Zz5,↓reduceIte,Zzp,Zyv,Zzn,Zz8,Zz2,Zzk,Zyy,Zz1,Zz0,Zyg,Zzh,Zzg,Zyz,exists_eq_left',exists_eq_left,V.int.injEq,V.bl.injEq,V.str.injEq,V.ref.injEq,V.ty.injEq,Zyu,and_true,true_and,and_assoc,exists_and_left,exists_eq_right,reduceCtorEq,false_and,and_false,exists_false,or_false,false_or,dt,Zxx]<;>try exact k
  rw[Rep] at hv
  exact⟨_,hv,k⟩
def sp_is_between:Sp:=λvs H Q _=>∃v d n m,vs=[v,.int n,.int m]/\Rep H d v/\∀H',Same H H'->Q (.bl (Dz d n m)) H'
theorem Tf:Bg ["found", "least", "most"] ["found", "least", "most"] (Ai Kl):=by walk_at "sc"
theorem Tr(F:Fun K "is_between" "is_between" Kl f fd)(T:Txt mg)(Zuk:Has P w K mg base "is_from" 2 ["found", "least"] sp_is_from):D3 P w K mg base CX0 3 f fd ["found", "least", "most"] sp_is_between:=by
 refine F.ok Tf (λvs H Q E h=>?_) (λcdv A outer s H vs Q E hr h=>?_)
 ·obtain⟨v,d,n,m,rfl,_⟩:=h
  rfl
 ·obtain⟨v,d,n,m,rfl,hv,k⟩:=h
  refine⟨_,(Aa (Be (Jf (A9 Zuk hr.z rfl (A3 (pv 0) (A3 (pv 1) A1))) (Kx (Ih S7 (pv 0) (pv 2) (Cc _)))))),?_⟩
  walk_at "rd"
  refine⟨v,d,n,rfl,hv,λH' s'=>?_⟩
  have k:=k H' s'
  walk_at "rd"
  refine Fj (λh=>?_) (λh=>?_)
  ·cases d<;>try exact absurd h Zz9
   rw[Rep] at hv
   refine⟨_,hv,?_⟩
   unfold Dz at k
   rw[h,Zyc] at k
   exact k
  ·unfold Dz at k
   rw[Zwt.mpr h,Zxz] at k
   exact k
def sp_is_tuple:Sp:=λvs H Q _=>∃v d n m,vs=[v,.int n,.int m]/\Rep H d v/\∀H',Same H H'->Q (.bl (Ii d n m)) H'
theorem Xi:Bg ["found", "least", "most"] ["found", "least", "most"] (Ai Mi):=by walk_at "sc"
theorem Y5(F:Fun K "is_tuple" "is_tuple" Mi f fd)(T:Txt mg):D3 P w K mg base CX0 1 f fd ["found", "least", "most"] sp_is_tuple:=by
 refine F.ok Xi (λvs H Q E h=>?_) (λcdv A outer s H vs Q E hr h=>?_)
 ·obtain⟨v,d,n,m,rfl,_⟩:=h
  rfl
 ·obtain⟨v,d,n,m,rfl,hv,k⟩:=h
  refine⟨_,(Aa (Be (Jf (Bd Ir rfl T.Zu7 Gj (A3 (pv 0) (A3 (O8 (v:=.ty "tuple") rfl T.Zua G3 rfl) A1))) (Kx (ml S7 S7 (pv 1) (Bd call_lenA rfl T.Zue Fu (A3 (pv 0) A1)) (pv 2)))))),?_⟩
  simp only[G5,tNext,Gv,Eu,Gp,Gz,Eh,Ha,Ci,Hh,Gq,tC,tCB,E3,tNil,E1,tOp,tUn,E2,tB,Hb,tOr,Gx,Ej,Gw,Ed,tIf,Gu,Gy,tSl,Ec,tNoPart,tBA,Hk,tDNewK,D9,tYes,rI,rI0,rU,rEq,rNe,rIsA,rIsnotA,rItem,lenA,Dg,Fb,Ex,Fc,tupleA,lenQ,Ho,Hq,rSetD,Fa,He,Hd,Hs,rCat,rCatTT,Ek,E9,E8,Hg,Ea,Eb,Ef,tIf,Ep,Ht,Eo,En,rEqD,rNeD,Hn,Hl,Hu,Dc,Cj,Dd,De,rSortT,Dh,Ct,rSum,rMaxL,Ey,Ee,rGetL,F0,Ei,rRep,Cq,rMax2,rCount,Cr,Hm,rAppend,Df,Cb,rSetA,rSetL,L2.Dn,Fd,Ca,Cp,Cw,Ez,Ew,rStrI,rIntT,Ev,rSplit,rJoin,Eg,Em,  D.ty,Af,Ah,Ag,Ad,Ab,Ae,Bc,Bt,Bs,Ba,Aq,Bb,Bp,Bz,Bw,Bn,Ax,Bo,Bk,Bv,Bu,Bi,At,Bj,Aw,Bm,Bl,Au,Ao,Av,An,As,Ar,Al,Aj,Am,B2,Br,Bq,Ay,Ap,Az,Cv,Cf,Cu,Cd,C4,Ce,Zyq,Zyp,Zyk,Zyo,Zz7,Zzc,Zz6,Zz5,↓reduceIte,Zzp,Zyv,Zzn,Zz8,Zz2,Zzk,Zyy,Zz1,Zz0,Zyg,Zzh,Zzg,Zyz,exists_eq_left',exists_eq_left,V.int.injEq,V.bl.injEq,V.str.injEq,V.ref.injEq,V.ty.injEq,Zyu,and_true,true_and,and_assoc,exists_and_left,exists_eq_right,reduceCtorEq,false_and,and_false,exists_false,or_false,false_or,hv.ty]
  have k:=k H (Same.refl H)
  cases d with
  |tup ds =>
   rw[Rep] at hv
   obtain⟨a,xs,rfl,ha,hz,r⟩:=hv
   walk_at "rd"
   refine .inl ⟨xs,.inr ha,?_⟩
   rw[r.length]
   have k:Q (V.bl (decide (n<=ds.length)&&decide ((ds.length:Int)<=m))) H:=k
   refine Fj (λh=>?_) (λh=>?_)
   ·rw[h,Zyc] at k
    exact k
   ·rw[Zwt.mpr h,Zxz] at k
    exact k
  |_=>exact k
def sp_is_name:Sp:=λvs H Q _=>∃v d,vs=[v]/\Rep H d v/\∀H',Same H H'->Q (.bl (Hr d)) H'
theorem Zt:Bg ["found"] ["found"] (Ai O4):=by walk_at "sc"
theorem ai(F:Fun K "is_name" "is_name" O4 f fd)(T:Txt mg):D3 P w K mg base CX0 1 f fd ["found"] sp_is_name:=by
 refine F.ok Zt (λvs H Q E h=>?_) (λcdv A outer s H vs Q E hr h=>?_)
 ·obtain⟨v,d,rfl,_⟩:=h
  rfl
 ·obtain⟨v,d,rfl,hv,k⟩:=h
  have hu:=Ch hr
  refine⟨_,(A2 (Db (PW.pt (N9 (E4 (Es (Bd Ir rfl T.Zu7 Gj (A3 (pv 0) (A3 (O8 (v:=.ty "str") rfl T.Ztp K0 rfl) A1))))) (Mk (E4 (Xo S7 S7 A5 (Bd call_lenA rfl T.Zue Fu (A3 (pv 0) A1)) (C0 rfl T.Zu5)))))) (Aa (Be K6)) C5)
 (Aa (Be (Bd (J7 rfl) rfl T.Zt4 Mw (A3 (D5 (own:=["sign"]) (cap:=[]) rfl (Du rfl) (C8 (by decide)) (Mm (pv 0))
 (λ_ _ _ _ _ _=>⟨(Ac (i:=0) (of_decide_eq_true rfl) rfl (Zzu rfl) (.inr rfl)),D0,(Ih (Py hu) (pv 0) (Xq rfl T.Zt9) rfl)⟩)) A1))))),?_⟩
  simp only[G5,tNext,Gv,Eu,Gp,Gz,Eh,Ha,Ci,Hh,Gq,tC,tCB,E3,tNil,E1,tOp,tUn,E2,tB,Hb,tOr,Gx,Ej,Gw,Ed,tIf,Gu,Gy,tSl,Ec,tNoPart,tBA,Hk,tDNewK,D9,tYes,rI,rI0,rU,rEq,rNe,rIsA,rIsnotA,rItem,lenA,Dg,Fb,Ex,Fc,tupleA,lenQ,Ho,Hq,rSetD,Fa,He,Hd,Hs,rCat,rCatTT,Ek,E9,E8,Hg,Ea,Eb,Ef,tIf,Ep,Ht,Eo,En,rEqD,rNeD,Hn,Hl,Hu,Dc,Cj,Dd,De,rSortT,Dh,Ct,rSum,rMaxL,Ey,Ee,rGetL,F0,Ei,rRep,Cq,rMax2,rCount,Cr,Hm,rAppend,Df,Cb,rSetA,rSetL,L2.Dn,Fd,Ca,Cp,Cw,Ez,Ew,rStrI,rIntT,Ev,rSplit,rJoin,Eg,Em,  D.ty,Af,Ah,Ag,Ad,Ab,Ae,Bc,Bt,Bs,Ba,Aq,Bb,Bp,Bz,Bw,Bn,Ax,Bo,Bk,Bv,Bu,Bi,At,Bj,Aw,Bm,Bl,Au,Ao,Av,An,As,Ar,Al,Aj,Am,B2,Br,Bq,Ay,Ap,Az,Cv,Cf,Cu,Cd,C4,Ce,Zyq,Zyp,Zyk,Zyo,Zz7,Zzc,Zz6,Zz5,↓reduceIte,Zzp,Zyv,Zzn,Zz8,Zz2,Zzk,Zyy,Zz1,Zz0,Zyg,Zzh,Zzg,Zyz,exists_eq_left',exists_eq_left,V.int.injEq,V.bl.injEq,V.str.injEq,V.ref.injEq,V.ty.injEq,Zyu,and_true,true_and,and_assoc,exists_and_left,exists_eq_right,reduceCtorEq,false_and,and_false,exists_false,or_false,false_or,hv.ty]
  cases d with
  |str x =>
   rw[Rep] at hv
   obtain⟨rfl,hx⟩:=hv
   simp only[G5,tNext,Gv,Eu,Gp,Gz,Eh,Ha,Ci,Hh,Gq,tC,tCB,E3,tNil,E1,tOp,tUn,E2,tB,Hb,tOr,Gx,Ej,Gw,Ed,tIf,Gu,Gy,tSl,Ec,tNoPart,tBA,Hk,tDNewK,D9,tYes,rI,rI0,rU,rEq,rNe,rIsA,rIsnotA,rItem,lenA,Dg,Fb,Ex,Fc,tupleA,lenQ,Ho,Hq,rSetD,Fa,He,Hd,Hs,rCat,rCatTT,Ek,E9,E8,Hg,Ea,Eb,Ef,tIf,Ep,Ht,Eo,En,rEqD,rNeD,Hn,Hl,Hu,Dc,Cj,Dd,De,rSortT,Dh,Ct,rSum,rMaxL,Ey,Ee,rGetL,F0,Ei,rRep,Cq,rMax2,rCount,Cr,Hm,rAppend,Df,Cb,rSetA,rSetL,L2.Dn,Fd,Ca,Cp,Cw,Ez,Ew,rStrI,rIntT,Ev,rSplit,rJoin,Eg,Em,  D.ty,Af,Ah,Ag,Ad,Ab,Ae,Bc,Bt,Bs,Ba,Aq,Bb,Bp,Bz,Bw,Bn,Ax,Bo,Bk,Bv,Bu,Bi,At,Bj,Aw,Bm,Bl,Au,Ao,Av,An,As,Ar,Al,Aj,Am,B2,Br,Bq,Ay,Ap,Az,Cv,Cf,Cu,Cd,C4,Ce,Zyq,Zyp,Zyk,Zyo,Zz7,Zzc,Zz6,Zz5,↓reduceIte,Zzp,Zyv,Zzn,Zz8,Zz2,Zzk,Zyy,Zz1,Zz0,Zyg,Zzh,Zzg,Zyz,exists_eq_left',exists_eq_left,V.int.injEq,V.bl.injEq,V.str.injEq,V.ref.injEq,V.ty.injEq,Zyu,and_true,true_and,and_assoc,exists_and_left,exists_eq_right,reduceCtorEq,false_and,and_false,exists_false,or_false,false_or,Zxf,Zxx,V.str.injEq]
   refine⟨Bf hx,Fj (λh1=>Fj (λh2=>?_) (λh2=>?_)) (λh1=>?_)⟩
   ·have e:Hr (.str x)=false:=by
     show D6 x=false
     unfold D6
     have:¬ (x.length<=8):=by
      simp at h2
      omega
     simp[this]
    have k:=k H (Same.refl H)
    rw[e] at k
    exact k
   ·have e1:decide (1<=x.length)=true:=decide_eq_true (by have:=of_decide_eq_true h1;omega)
    have e2:decide (x.length<=8)=true:=decide_eq_true (by simp at h2;omega)
    refine Da (xl x) (Bf hx) (λ_ _=>trivial) ((x.cps.toList.map λc=>decide (c∈Pg)).map V.bl) (by simp) (λi y H' hi hy s' N M hN=>?_) (λH' s' p hp=>?_)
    ·obtain⟨c,hc,rfl⟩:=hy
     walk_at "rd"
     refine⟨_,.inr (.inl ⟨_,_,rfl,rfl,rfl⟩),?_⟩
     rw[StrLaws.found_one]
     refine hN _ _ s' ?_
     rw[Zzy,Zzy,Zv8,hc]
     rfl
    ·refine⟨p,rfl,_,A0,?_⟩
     have k:=k _ (s'.trans (A6 (o:=.lst ((x.cps.toList.map λc=>decide (c∈Pg)).map V.bl)) hp))
     have e:Hr (.str x)=(Zy4 (λc=>decide (c∈Pg)) x.cps.toList).all id:=by
      show D6 x=_
      unfold D6
      rw[e1,e2,Zwu]
      rfl
     rw[e] at k
     exact k
   ·rw[if_pos (by rfl)]
    have e:Hr (.str x)=false:=by
     show D6 x=false
     unfold D6
     have:¬ (1<=x.length):=by
      simp at h1
      omega
     simp[this]
    have k:=k H (Same.refl H)
    rw[e] at k
    exact k
  |_=>exact k H (Same.refl H)
def sp_are_unlike:Sp:=λvs H Q _=>∃a xs,vs=[.ref a]/\H a=some (.lst (xs.map V.str))/\xs.length<=1000/\∀H',Same H H'->Q (.bl (unl xs)) H'
theorem Ti:Bg ["names"] ["names"] (Ai Ko):=by walk_at "sc"
theorem Tu(F:Fun K "are_unlike" "are_unlike" Ko f fd)(T:Txt mg):D3 P w K mg base CX0 1 f fd ["names"] sp_are_unlike:=by
 refine F.ok Ti (λvs H Q E h=>?_) (λcdv A outer s H vs Q E hr h=>?_)
 ·obtain⟨a,xs,rfl,_⟩:=h
  rfl
 ·obtain⟨a,xs,rfl,ha,hx,k⟩:=h
  have hu:=Ch hr
  refine⟨_,(Aa (Be (Bd (J7 rfl) rfl T.Zt4 Mw (A3 (D5 (own:=["name"]) (cap:=[0]) rfl (Du rfl) (C8 (by decide)) (G8 (pv 0))
 (λ_ _ _ _ _ _=>⟨(Ac (i:=0) (of_decide_eq_true rfl) rfl (Zzu rfl) (.inr rfl)),D0,(Ih (Fz hu) (Gf Zyl PySem.F.slot_list_count PySem.F.type_list_count ng (pv 1) (A3 (pv 0) A1)) A5 (Cc _))⟩)) A1)))),?_⟩
  walk_at "rd"
  refine⟨_,ha,?_⟩
  refine Da (Ip a _) (by rw[Zzz];exact Bf hx) (λH' s'=>s' _ _ ha) ((xs.map λx=>decide (xs.countP (λy=>decide (y=x))=1)).map V.bl) (by simp) (λi y H' hi hy s' N M hN=>?_) (λH' s' p hp=>?_)
  ·rw[Zzy] at hy
   cases e:xs[i]? with
   |none=>rw[e] at hy;cases hy
   |some z =>
    rw[e] at hy
    cases hy
    walk_at "rd"
    have ha':=s' _ _ ha
    refine⟨by unfold P5;simp only[ha'],_,ha',rfl,by simp[L6],rfl,hN _ _ s' ?_⟩
    rw[Zzy,Zzy,e]
    show some (V.bl _)=some (V.bl _)
    congr 2
    rw[List.countP_map]
    show decide (List.countP (λy=>decide (y=z)) xs=1)=decide (((List.countP ((λw=>eqV w (V.str z))∘V.str) xs:Nat):Int)=1)
    have e2:((λw=>eqV w (V.str z))∘V.str)=λy=>decide (y=z):=by
     funext y
     show (y == z)=decide (y=z)
     rw[Bool.beq_eq_decide_eq]
    rw[e2]
    rw[Zvl]
    simp
    omega
  ·refine⟨p,rfl,_,A0,?_⟩
   have k:=k _ (s'.trans (A6 (o:=.lst ((xs.map λx=>decide (xs.countP (λy=>decide (y=x))=1)).map V.bl)) hp))
   unfold unl at k
   rw[Zwu]
   exact k
theorem Kp{H:Hp}{ds:List D}{v:V}(h:Rep H (.tup ds) v):∃a xs,v=.ref a/\H a=some (.tup xs)/\xs.length=ds.length/\ds.length<=1000/\∀(i:Nat) (d:D),ds[i]?=some d->∃x,xs[i]?=some x/\Rep H d x:=by
 rw[Rep] at h
 obtain⟨a,xs,e,ha,hz,r⟩:=h
 exact⟨a,xs,e,ha,r.length,hz,λi d e=>r.get' e⟩
def sp_is_arrival:Sp:=λvs H Q _=>∃v d,vs=[v]/\Rep H d v/\∀H',Same H H'->Q (.bl (El d)) H'
theorem Nj{d:D}(h:Ii d 2 2=true):∃a b,d=.tup [a,b]:=by
 cases d with
 |tup ds =>
  have h:(decide ((2:Int)<=ds.length)&&decide ((ds.length:Int)<=2))=true:=h
  rw[Zza] at h
  have h1:=of_decide_eq_true h.1
  have h2:=of_decide_eq_true h.2
  match ds,h1,h2 with
  |[a,b],_,_=>exact⟨a,b,rfl⟩
  |[],h1,_=>simp at h1
  |[_],h1,_=>simp at h1
  |_::_::_::r,_,h2=>simp at h2;omega
 |_=>cases h
theorem dc{d:D}(h:¬ Ii d 2 2=true):∀a b,d≠.tup [a,b]:=λa b e=>h (by rw[e];rfl)
theorem Tg:Bg ["found"] ["found"] (Ai Km):=by walk_at "sc"
theorem Ts(F:Fun K "is_arrival" "is_arrival" Km f fd)(T:Txt mg)(Zuk:Has P w K mg base "is_from" 2 ["found", "least"] sp_is_from)(Zuh:Has P w K mg base "is_between" 3 ["found", "least", "most"] sp_is_between)(Zul:Has P w K mg base "is_tuple" 1 ["found", "least", "most"] sp_is_tuple):D3 P w K mg base CX0 4 f fd ["found"] sp_is_arrival:=by
 refine F.ok Tg (λvs H Q E h=>?_) (λcdv A outer s H vs Q E hr h=>?_)
 ·obtain⟨v,d,rfl,_⟩:=h
  rfl
 ·obtain⟨v,d,rfl,hv,k⟩:=h
  have hu:=Ch hr
  refine⟨_,(Aa (Be (Jf (A9 Zul hr.z rfl (A3 (pv 0) (A3 A5 (A3 A5 A1)))) (Jf (A9 Zuh hr.z rfl (A3 (A8 hu (pv 0) A5 (λ_ _=>rfl)) (A3 A5 (A3 (C0 rfl T.Ztu) A1)))) (Kx (A9 Zuk hr.z rfl (A3 (A8 hu (pv 0) A5 (λ_ _=>rfl)) (A3 A5 A1)))))))),?_⟩
  walk_at "rd"
  refine⟨v,d,2,2,rfl,hv,λH1 s1=>?_⟩
  walk_at "rd"
  refine Fj (λh=>?_) (λh=>?_)
  ·obtain⟨x,y,rfl⟩:=Nj h
   obtain⟨a,xs,rfl,ha,hl,hz,g⟩:=Kp hv
   obtain⟨vx,ex,rx⟩:=g 0 x rfl
   obtain⟨vy,ey,ry⟩:=g 1 y rfl
   refine⟨vx,Ak (j:=0) (s1 _ _ ha) ex,vx,x,0,400,rfl,rx.same s1,λH2 s2=>?_⟩
   walk_at "rd"
   refine Fj (λh2=>?_) (λh2=>?_)
   ·refine⟨vy,Ak (j:=1) (s2 _ _ (s1 _ _ ha)) ey,vy,y,0,rfl,ry.same (s1.trans s2),λH3 s3=>?_⟩
    have k:=k H3 ((s1.trans s2).trans s3)
    have e:El (.tup [x,y])=Dw y 0:=by
     show (Dz x 0 400&&Dw y 0)=_
     rw[h2,Zyc]
    rw[e] at k
    exact k
   ·have k:=k H2 (s1.trans s2)
    have e:El (.tup [x,y])=false:=by
     show (Dz x 0 400&&Dw y 0)=_
     rw[Zwt.mpr h2,Zxz]
    rw[e] at k
    exact k
  ·have k:=k H1 s1
   have e:El d=false:=by
    unfold El
    split
    ·exact absurd rfl (dc h _ _)
    ·rfl
   rw[e] at k
   exact k
theorem Of{H:Hp}{ds:List D}{xs:List V}{a:Addr}{p:D->Bool}{te:TE}{own:List Str}{cap:List Nat}{Z:St}{Q:VK}(ha:H a=some (.tup xs))(r:Reps H ds xs)(hz:ds.length<=1000)
  (hs:∀x d H',Rep H' d x->Same H H'->∀N:V->Hp->Prop,(∀H4,Same H' H4->N (.bl (p d)) H4)->te ((Fd own cap Z).set 0 (some x)) H' N)
  (hd:∀a' H',Same H H'->H' a'=some (.lst ((ds.map p).map V.bl))->Q (.ref a') H'):Zc (ItT a xs) own cap (Ci 0) tYes te Z H Q:=by
 refine Da (Fx a xs) (by rw[r.length];exact Bf hz) (λH' s'=>s' _ _ ha) ((ds.map p).map V.bl) (by simp[r.length]) (λi y H' hi hy s' N M hN=>?_) (λH' s' q hq=>?_)
 ·obtain⟨d,hd,rd⟩:=r.get hy
  show if true=true then te _ H' N else M H'
  rw[if_pos rfl]
  refine hs y d H' (rd.same s') s' N λH4 s4=>hN _ _ (s'.trans s4) ?_
  rw[Zzy,Zzy,hd]
  rfl
 ·exact hd q _ (s'.trans (A6 hq)) A0
theorem Hc{d:D}{n m:Int}(h:Ii d n m=true):∃ds,d=.tup ds/\n<=ds.length/\(ds.length:Int)<=m:=by
 cases d with
 |tup ds =>
  have h:(decide (n<=ds.length)&&decide ((ds.length:Int)<=m))=true:=h
  rw[Zza] at h
  exact⟨ds,rfl,of_decide_eq_true h.1,of_decide_eq_true h.2⟩
 |_=>cases h
def sp_are_arrivals:Sp:=λvs H Q _=>∃v d,vs=[v]/\Rep H d v/\∀H',Same H H'->Q (.bl (G6 d)) H'
theorem Qk:Bg ["found"] ["found"] (Ai Iz):=by walk_at "sc"
theorem Qq(F:Fun K "are_arrivals" "are_arrivals" Iz f fd)(T:Txt mg)(Zt1:Has P w K mg base "is_arrival" 4 ["found"] sp_is_arrival)(Zul:Has P w K mg base "is_tuple" 1 ["found", "least", "most"] sp_is_tuple):D3 P w K mg base CX0 5 f fd ["found"] sp_are_arrivals:=by
 refine F.ok Qk (λvs H Q E h=>?_) (λcdv A outer s H vs Q E hr h=>?_)
 ·obtain⟨v,d,rfl,_⟩:=h
  rfl
 ·obtain⟨v,d,rfl,hv,k⟩:=h
  have hu:=Ch hr
  refine⟨_,(Aa (Be (Jf (A9 Zul hr.z rfl (A3 (pv 0) (A3 A5 (A3 (C0 rfl T.Zu2) A1)))) (Kx (Bd (J7 rfl) rfl T.Zt4 Mw (A3 (D5 (own:=["arrival"]) (cap:=[]) rfl (Du rfl) (C8 (by decide)) (Mm (pv 0))
 (λ_ _ _ _ _ _=>⟨(Ac (i:=0) (of_decide_eq_true rfl) rfl (Zzu rfl) (.inr rfl)),D0,(A9 Zt1 hr.z rfl (A3 (pv 0) A1))⟩)) A1)))))),?_⟩
  walk_at "rd"
  refine⟨v,d,0,12,rfl,hv,λH1 s1=>?_⟩
  walk_at "rd"
  refine Fj (λh=>?_) (λh=>?_)
  ·obtain⟨ds,rfl,_,hn⟩:=Hc h
   have hv1:=hv.same s1
   rw[Rep] at hv1
   obtain⟨a,xs,rfl,ha,hz,r⟩:=hv1
   walk_at "rd"
   refine .inr ⟨xs,ha,?_⟩
   refine Of (p:=El) ha r hz (λx d H' rd s' N hN=>?_) (λa' H' s' ha'=>?_)
   ·walk_at "rd"
    exact⟨x,d,rfl,rd,hN⟩
   ·refine⟨a',rfl,_,ha',?_⟩
    have k:=k H' (s1.trans s')
    have e:G6 (.tup ds)=(ds.map El).all id:=by
     show (decide (ds.length<=12)&&ds.all El)=_
     rw[decide_eq_true (by omega),Zyc,Zwu]
     rfl
    rw[e] at k
    exact k
  ·have k:=k H1 s1
   have e:G6 d=false:=by
    cases d with
    |tup ds =>
     show (decide (ds.length<=12)&&ds.all El)=false
     have:¬ ds.length<=12:=λz=>h (by show (decide ((0:Int)<=ds.length)&&decide ((ds.length:Int)<=12))=true;simp;omega)
     rw[decide_eq_false this,Zxz]
    |_=>rfl
   rw[e] at k
   exact k
def sp_is_part:Sp:=λvs H Q _=>∃v d,vs=[v]/\Rep H d v/\∀H',Same H H'->Q (.bl (isPart d)) H'
theorem Zs:Bg ["found"] ["found"] (Ai O0):=by walk_at "sc"
theorem ah(F:Fun K "is_part" "is_part" O0 f fd)(T:Txt mg)(Zuk:Has P w K mg base "is_from" 2 ["found", "least"] sp_is_from)(Zuf:Has P w K mg base "is_name" 1 ["found"] sp_is_name)(Zul:Has P w K mg base "is_tuple" 1 ["found", "least", "most"] sp_is_tuple):D3 P w K mg base CX0 3 f fd ["found"] sp_is_part:=by
 refine F.ok Zs (λvs H Q E h=>?_) (λcdv A outer s H vs Q E hr h=>?_)
 ·obtain⟨v,d,rfl,_⟩:=h
  rfl
 ·obtain⟨v,d,rfl,hv,k⟩:=h
  have hu:=Ch hr
  refine⟨_,(Aa (Be (Jf (A9 Zul hr.z rfl (A3 (pv 0) (A3 A5 (A3 A5 A1)))) (Jf (A9 Zuf hr.z rfl (A3 (A8 hu (pv 0) A5 (λ_ _=>rfl)) A1)) (Kx (A9 Zuk hr.z rfl (A3 (A8 hu (pv 0) A5 (λ_ _=>rfl)) (A3 A5 A1)))))))),?_⟩
  walk_at "rd"
  refine⟨v,d,2,2,rfl,hv,λH1 s1=>?_⟩
  walk_at "rd"
  refine Fj (λh=>?_) (λh=>?_)
  ·obtain⟨x,y,rfl⟩:=Nj h
   obtain⟨a,xs,rfl,ha,hl,hz,g⟩:=Kp hv
   obtain⟨vx,ex,rx⟩:=g 0 x rfl
   obtain⟨vy,ey,ry⟩:=g 1 y rfl
   refine⟨vx,Ak (j:=0) (s1 _ _ ha) ex,vx,x,rfl,rx.same s1,λH2 s2=>?_⟩
   walk_at "rd"
   refine Fj (λh2=>?_) (λh2=>?_)
   ·refine⟨vy,Ak (j:=1) (s2 _ _ (s1 _ _ ha)) ey,vy,y,1,rfl,ry.same (s1.trans s2),λH3 s3=>?_⟩
    have k:=k H3 ((s1.trans s2).trans s3)
    have e:isPart (.tup [x,y])=Dw y 1:=by
     show (Hr x&&Dw y 1)=_
     rw[h2,Zyc]
    rw[e] at k
    exact k
   ·have k:=k H2 (s1.trans s2)
    have e:isPart (.tup [x,y])=false:=by
     show (Hr x&&Dw y 1)=_
     rw[Zwt.mpr h2,Zxz]
    rw[e] at k
    exact k
  ·have k:=k H1 s1
   have e:isPart d=false:=by
    unfold isPart
    split
    ·exact absurd rfl (dc h _ _)
    ·rfl
   rw[e] at k
   exact k
theorem Yp{d:D}(h:isPart d=true):∃x b,d=.tup [.str x,b]:=by
 unfold isPart at h
 split at h
 ·rename_i a b
  rw[Zza] at h
  cases a with
  |str x=>exact⟨x,b,rfl⟩
  |_=>exact absurd h.1 Zz9
 ·cases h
def sp_are_parts:Sp:=λvs H Q _=>∃v d,vs=[v]/\Rep H d v/\∀H',Same H H'->Q (.bl (L8 d)) H'
theorem Vn:Bg ["found"] ["found"] (Ai Ls):=by walk_at "sc"
theorem Wc(F:Fun K "are_parts" "are_parts" Ls f fd)(T:Txt mg)(Zsb:Has P w K mg base "is_part" 3 ["found"] sp_is_part)(Zul:Has P w K mg base "is_tuple" 1 ["found", "least", "most"] sp_is_tuple)(Zu4:Has P w K mg base "are_unlike" 1 ["names"] sp_are_unlike):D3 P w K mg base CX0 4 f fd ["found"] sp_are_parts:=by
 refine F.ok Vn (λvs H Q E h=>?_) (λcdv A outer s H vs Q E hr h=>?_)
 ·obtain⟨v,d,rfl,_⟩:=h
  rfl
 ·obtain⟨v,d,rfl,hv,k⟩:=h
  have hu:=Ch hr
  refine⟨_,(A2 (Db (PW.pt (N9 (E4 (Es (A9 Zul hr.z rfl (A3 (pv 0) (A3 A5 (A3 (C0 rfl T.Ztx) A1)))))) (Mk (E4 (Es (Bd (J7 rfl) rfl T.Zt4 Mw (A3 (D5 (own:=["part"]) (cap:=[]) rfl (Du rfl) (C8 (by decide)) (Mm (pv 0))
 (λ_ _ _ _ _ _=>⟨(Ac (i:=0) (of_decide_eq_true rfl) rfl (Zzu rfl) (.inr rfl)),D0,(A9 Zsb hr.z rfl (A3 (pv 0) A1))⟩)) A1))))))) (Aa (Be K6)) C5)
 (Aa (Be (A9 Zu4 hr.z rfl (A3 (D5 (own:=["part"]) (cap:=[]) rfl (Du rfl) (C8 (by decide)) (Mm (pv 0))
 (λ_ _ _ _ _ _=>⟨(Ac (i:=0) (of_decide_eq_true rfl) rfl (Zzu rfl) (.inr rfl)),D0,(A8 hu (pv 0) A5 (λ_ _=>rfl))⟩)) A1))))),?_⟩
  walk_at "rd"
  refine⟨v,d,0,6,rfl,hv,λH1 s1=>?_⟩
  walk_at "rd"
  cases h:Ii d 0 6 with
  |false =>
   simp only[G5,tNext,Gv,Eu,Gp,Gz,Eh,Ha,Ci,Hh,Gq,tC,tCB,E3,tNil,E1,tOp,tUn,E2,tB,Hb,tOr,Gx,Ej,Gw,Ed,tIf,Gu,Gy,tSl,Ec,tNoPart,tBA,Hk,tDNewK,D9,tYes,rI,rI0,rU,rEq,rNe,rIsA,rIsnotA,rItem,lenA,Dg,Fb,Ex,Fc,tupleA,lenQ,Ho,Hq,rSetD,Fa,He,Hd,Hs,rCat,rCatTT,Ek,E9,E8,Hg,Ea,Eb,Ef,tIf,Ep,Ht,Eo,En,rEqD,rNeD,Hn,Hl,Hu,Dc,Cj,Dd,De,rSortT,Dh,Ct,rSum,rMaxL,Ey,Ee,rGetL,F0,Ei,rRep,Cq,rMax2,rCount,Cr,Hm,rAppend,Df,Cb,rSetA,rSetL,L2.Dn,Fd,Ca,Cp,Cw,Ez,Ew,rStrI,rIntT,Ev,rSplit,rJoin,Eg,Em,  D.ty,Af,Ah,Ag,Ad,Ab,Ae,Bc,Bt,Bs,Ba,Aq,Bb,Bp,Bz,Bw,Bn,Ax,Bo,Bk,Bv,Bu,Bi,At,Bj,Aw,Bm,Bl,Au,Ao,Av,An,As,Ar,Al,Aj,Am,B2,Br,Bq,Ay,Ap,Az,Cv,Cf,Cu,Cd,C4,Ce,Zyq,Zyp,Zyk,Zyo,Zz7,Zzc,Zz6,Zz5,↓reduceIte,Zzp,Zyv,Zzn,Zz8,Zz2,Zzk,Zyy,Zz1,Zz0,Zyg,Zzh,Zzg,Zyz,exists_eq_left',exists_eq_left,V.int.injEq,V.bl.injEq,V.str.injEq,V.ref.injEq,V.ty.injEq,Zyu,and_true,true_and,and_assoc,exists_and_left,exists_eq_right,reduceCtorEq,false_and,and_false,exists_false,or_false,false_or,Zxc]
   have k:=k H1 s1
   have e:L8 d=false:=by
    cases d with
    |tup ds =>
     show (decide (ds.length<=6)&&ds.all isPart&&unl (ds.map nameOf))=false
     have:¬ ds.length<=6:=λz=>Zwt.mp h (by show (decide ((0:Int)<=ds.length)&&decide ((ds.length:Int)<=6))=true;simp;omega)
     rw[decide_eq_false this,Zxz,Zxz]
    |_=>rfl
   rw[e] at k
   exact k
  |true =>
   simp only[G5,tNext,Gv,Eu,Gp,Gz,Eh,Ha,Ci,Hh,Gq,tC,tCB,E3,tNil,E1,tOp,tUn,E2,tB,Hb,tOr,Gx,Ej,Gw,Ed,tIf,Gu,Gy,tSl,Ec,tNoPart,tBA,Hk,tDNewK,D9,tYes,rI,rI0,rU,rEq,rNe,rIsA,rIsnotA,rItem,lenA,Dg,Fb,Ex,Fc,tupleA,lenQ,Ho,Hq,rSetD,Fa,He,Hd,Hs,rCat,rCatTT,Ek,E9,E8,Hg,Ea,Eb,Ef,tIf,Ep,Ht,Eo,En,rEqD,rNeD,Hn,Hl,Hu,Dc,Cj,Dd,De,rSortT,Dh,Ct,rSum,rMaxL,Ey,Ee,rGetL,F0,Ei,rRep,Cq,rMax2,rCount,Cr,Hm,rAppend,Df,Cb,rSetA,rSetL,L2.Dn,Fd,Ca,Cp,Cw,Ez,Ew,rStrI,rIntT,Ev,rSplit,rJoin,Eg,Em,  D.ty,Af,Ah,Ag,Ad,Ab,Ae,Bc,Bt,Bs,Ba,Aq,Bb,Bp,Bz,Bw,Bn,Ax,Bo,Bk,Bv,Bu,Bi,At,Bj,Aw,Bm,Bl,Au,Ao,Av,An,As,Ar,Al,Aj,Am,B2,Br,Bq,Ay,Ap,Az,Cv,Cf,Cu,Cd,C4,Ce,Zyq,Zyp,Zyk,Zyo,Zz7,Zzc,Zz6,Zz5,↓reduceIte,Zzp,Zyv,Zzn,Zz8,Zz2,Zzk,Zyy,Zz1,Zz0,Zyg,Zzh,Zzg,Zyz,exists_eq_left',exists_eq_left,V.int.injEq,V.bl.injEq,V.str.injEq,V.ref.injEq,V.ty.injEq,Zyu,and_true,true_and,and_assoc,exists_and_left,exists_eq_right,reduceCtorEq,false_and,and_false,exists_false,or_false,false_or,Zxf,Zxx]
   obtain⟨ds,rfl,_,hn⟩:=Hc h
   have hv1:=hv.same s1
   rw[Rep] at hv1
   obtain⟨a,xs,rfl,ha,hz,r⟩:=hv1
   walk_at "rd"
   refine .inr ⟨xs,ha,?_⟩
   refine Of (p:=isPart) ha r hz (λx d H' rd s' N hN=>?_) (λa' H2 s2 ha'=>?_)
   ·walk_at "rd"
    exact⟨x,d,rfl,rd,hN⟩
   ·refine⟨a',rfl,_,ha',?_⟩
    have e0:(ds.map isPart).all id=ds.all isPart:=by rw[Zwu];rfl
    rw[e0]
    have e:L8 (.tup ds)=(ds.all isPart&&unl (ds.map nameOf)):=by
     show (decide (ds.length<=6)&&ds.all isPart&&unl (ds.map nameOf))=_
     rw[decide_eq_true (by omega),Zyc]
    rw[e] at k
    cases hp:ds.all isPart with
    |false =>
     rw[hp,Zxz] at k
     simp only[G5,tNext,Gv,Eu,Gp,Gz,Eh,Ha,Ci,Hh,Gq,tC,tCB,E3,tNil,E1,tOp,tUn,E2,tB,Hb,tOr,Gx,Ej,Gw,Ed,tIf,Gu,Gy,tSl,Ec,tNoPart,tBA,Hk,tDNewK,D9,tYes,rI,rI0,rU,rEq,rNe,rIsA,rIsnotA,rItem,lenA,Dg,Fb,Ex,Fc,tupleA,lenQ,Ho,Hq,rSetD,Fa,He,Hd,Hs,rCat,rCatTT,Ek,E9,E8,Hg,Ea,Eb,Ef,tIf,Ep,Ht,Eo,En,rEqD,rNeD,Hn,Hl,Hu,Dc,Cj,Dd,De,rSortT,Dh,Ct,rSum,rMaxL,Ey,Ee,rGetL,F0,Ei,rRep,Cq,rMax2,rCount,Cr,Hm,rAppend,Df,Cb,rSetA,rSetL,L2.Dn,Fd,Ca,Cp,Cw,Ez,Ew,rStrI,rIntT,Ev,rSplit,rJoin,Eg,Em,  D.ty,Af,Ah,Ag,Ad,Ab,Ae,Bc,Bt,Bs,Ba,Aq,Bb,Bp,Bz,Bw,Bn,Ax,Bo,Bk,Bv,Bu,Bi,At,Bj,Aw,Bm,Bl,Au,Ao,Av,An,As,Ar,Al,Aj,Am,B2,Br,Bq,Ay,Ap,Az,Cv,Cf,Cu,Cd,C4,Ce,Zyq,Zyp,Zyk,Zyo,Zz7,Zzc,Zz6,Zz5,↓reduceIte,Zzp,Zyv,Zzn,Zz8,Zz2,Zzk,Zyy,Zz1,Zz0,Zyg,Zzh,Zzg,Zyz,exists_eq_left',exists_eq_left,V.int.injEq,V.bl.injEq,V.str.injEq,V.ref.injEq,V.ty.injEq,Zyu,and_true,true_and,and_assoc,exists_and_left,exists_eq_right,reduceCtorEq,false_and,and_false,exists_false,or_false,false_or,Zxc]
     exact k H2 (s1.trans s2)
    |true =>
     rw[hp,Zyc] at k
     simp only[G5,tNext,Gv,Eu,Gp,Gz,Eh,Ha,Ci,Hh,Gq,tC,tCB,E3,tNil,E1,tOp,tUn,E2,tB,Hb,tOr,Gx,Ej,Gw,Ed,tIf,Gu,Gy,tSl,Ec,tNoPart,tBA,Hk,tDNewK,D9,tYes,rI,rI0,rU,rEq,rNe,rIsA,rIsnotA,rItem,lenA,Dg,Fb,Ex,Fc,tupleA,lenQ,Ho,Hq,rSetD,Fa,He,Hd,Hs,rCat,rCatTT,Ek,E9,E8,Hg,Ea,Eb,Ef,tIf,Ep,Ht,Eo,En,rEqD,rNeD,Hn,Hl,Hu,Dc,Cj,Dd,De,rSortT,Dh,Ct,rSum,rMaxL,Ey,Ee,rGetL,F0,Ei,rRep,Cq,rMax2,rCount,Cr,Hm,rAppend,Df,Cb,rSetA,rSetL,L2.Dn,Fd,Ca,Cp,Cw,Ez,Ew,rStrI,rIntT,Ev,rSplit,rJoin,Eg,Em,  D.ty,Af,Ah,Ag,Ad,Ab,Ae,Bc,Bt,Bs,Ba,Aq,Bb,Bp,Bz,Bw,Bn,Ax,Bo,Bk,Bv,Bu,Bi,At,Bj,Aw,Bm,Bl,Au,Ao,Av,An,As,Ar,Al,Aj,Am,B2,Br,Bq,Ay,Ap,Az,Cv,Cf,Cu,Cd,C4,Ce,Zyq,Zyp,Zyk,Zyo,Zz7,Zzc,Zz6,Zz5,↓reduceIte,Zzp,Zyv,Zzn,Zz8,Zz2,Zzk,Zyy,Zz1,Zz0,Zyg,Zzh,Zzg,Zyz,exists_eq_left',exists_eq_left,V.int.injEq,V.bl.injEq,V.str.injEq,V.ref.injEq,V.ty.injEq,Zyu,and_true,true_and,and_assoc,exists_and_left,exists_eq_right,reduceCtorEq,false_and,and_false,exists_false,or_false,false_or,Zxf,Zxx]
     have ha2:=s2 _ _ ha
     have r2:=r.same s2
     refine .inr ⟨xs,ha2,?_⟩
     refine Da (Fx a xs) (by rw[r.length];exact Bf hz) (λH' s'=>s' _ _ ha2) ((ds.map nameOf).map V.str) (by simp[r.length]) (λi y H' hi hy s' N M hN=>?_) (λH' s' q hq=>?_)
     ·obtain⟨d,hd,rd⟩:=r2.get hy
      obtain⟨z,b,rfl⟩:=Yp (Zyi.mp hp d (Zzr hd))
      obtain⟨c,ys,rfl,hc,hl,_,g⟩:=Kp rd
      obtain⟨vx,ex,rx⟩:=g 0 _ rfl
      rw[Rep] at rx
      obtain⟨rfl,_⟩:=rx
      walk_at "rd"
      refine⟨_,Ak (j:=0) (s' _ _ hc) ex,hN _ _ s' ?_⟩
      rw[Zzy,Zzy,hd]
      rfl
     ·refine⟨q,_,rfl,A0,by rw[Zzz];exact hz,λH5 s5=>k H5 ?_⟩
      exact((s1.trans s2).trans s').trans ((A6 hq).trans s5)
def sp_is_ware:Sp:=λvs H Q _=>∃v d,vs=[v]/\Rep H d v/\∀H',Same H H'->Q (.bl (isWare d)) H'
theorem Tw{d:D}(h:Ii d 7 7=true):∃n l g f s c p,d=.tup [n,l,g,f,s,c,p]:=by
 obtain⟨ds,rfl,h1,h2⟩:=Hc h
 match ds,h1,h2 with
 |[n,l,g,f,s,c,p],_,_=>exact⟨n,l,g,f,s,c,p,rfl⟩
 |[],h1,_=>simp at h1
 |[_],h1,_=>simp at h1
 |[_,_],h1,_=>simp at h1
 |[_,_,_],h1,_=>simp at h1
 |[_,_,_,_],h1,_=>simp at h1
 |[_,_,_,_,_],h1,_=>simp at h1
 |[_,_,_,_,_,_],h1,_=>simp at h1
 |_::_::_::_::_::_::_::_::r,_,h2=>simp at h2;omega
theorem Zq:Bg ["found"] ["found"] (Ai Nx):=by walk_at "sc"
theorem ae(F:Fun K "is_ware" "is_ware" Nx f fd)(T:Txt mg)(Zul:Has P w K mg base "is_tuple" 1 ["found", "least", "most"] sp_is_tuple)(Zuk:Has P w K mg base "is_from" 2 ["found", "least"] sp_is_from)(Zuh:Has P w K mg base "is_between" 3 ["found", "least", "most"] sp_is_between)(Zuf:Has P w K mg base "is_name" 1 ["found"] sp_is_name)(Zss:Has P w K mg base "are_parts" 4 ["found"] sp_are_parts)(Ztf:Has P w K mg base "are_arrivals" 5 ["found"] sp_are_arrivals):D3 P w K mg base CX0 6 f fd ["found"] sp_is_ware:=by
 refine F.ok Zq (λvs H Q E h=>?_) (λcdv A outer s H vs Q E hr h=>?_)
 ·obtain⟨v,d,rfl,_⟩:=h
  rfl
 ·obtain⟨v,d,rfl,hv,k⟩:=h
  have hu:=Ch hr
  refine⟨_,(A2 (Db (E4 (Es (A9 Zul hr.z rfl (A3 (pv 0) (A3 (C0 rfl T.Ztn) (A3 (C0 rfl T.Ztn) A1)))))) (Aa (Be K6)) C5)
 (A2 (Db (PW.pt (N9 (E4 (Es (A9 Zuf hr.z rfl (A3 (A8 hu (pv 0) (C0 rfl T.Zub) (λ_ _=>rfl)) A1)))) (N9 (E4 (Es (A9 Zuh hr.z rfl (A3 (A8 hu (pv 0) (C0 rfl T.Zt3) (λ_ _=>rfl)) (A3 A5 (A3 (C0 rfl T.Ztl) A1)))))) (Mk (E4 (Es (A9 Zuk hr.z rfl (A3 (A8 hu (pv 0) (C0 rfl T.Zth) (λ_ _=>rfl)) (A3 A5 A1))))))))) (Aa (Be K6)) C5)
 (A2 (Db (PW.pt (N9 (E4 (Es (A9 Zuk hr.z rfl (A3 (A8 hu (pv 0) (C0 rfl T.Zti) (λ_ _=>rfl)) (A3 A5 A1))))) (Mk (E4 (Es (A9 Zuk hr.z rfl (A3 (A8 hu (pv 0) (C0 rfl T.Zt2) (λ_ _=>rfl)) (A3 A5 A1)))))))) (Aa (Be K6)) C5)
 (Aa (Be (Jf (A9 Ztf hr.z rfl (A3 (A8 hu (pv 0) (C0 rfl T.Ztj) (λ_ _=>rfl)) A1)) (Kx (A9 Zss hr.z rfl (A3 (A8 hu (pv 0) (C0 rfl T.Ztg) (λ_ _=>rfl)) A1))))))))),?_⟩
  walk_at "rd"
  refine⟨v,d,7,7,rfl,hv,λH1 s1=>?_⟩
  walk_at "rd"
  cases h:Ii d 7 7 with
  |false =>
   simp only[G5,tNext,Gv,Eu,Gp,Gz,Eh,Ha,Ci,Hh,Gq,tC,tCB,E3,tNil,E1,tOp,tUn,E2,tB,Hb,tOr,Gx,Ej,Gw,Ed,tIf,Gu,Gy,tSl,Ec,tNoPart,tBA,Hk,tDNewK,D9,tYes,rI,rI0,rU,rEq,rNe,rIsA,rIsnotA,rItem,lenA,Dg,Fb,Ex,Fc,tupleA,lenQ,Ho,Hq,rSetD,Fa,He,Hd,Hs,rCat,rCatTT,Ek,E9,E8,Hg,Ea,Eb,Ef,tIf,Ep,Ht,Eo,En,rEqD,rNeD,Hn,Hl,Hu,Dc,Cj,Dd,De,rSortT,Dh,Ct,rSum,rMaxL,Ey,Ee,rGetL,F0,Ei,rRep,Cq,rMax2,rCount,Cr,Hm,rAppend,Df,Cb,rSetA,rSetL,L2.Dn,Fd,Ca,Cp,Cw,Ez,Ew,rStrI,rIntT,Ev,rSplit,rJoin,Eg,Em,  D.ty,Af,Ah,Ag,Ad,Ab,Ae,Bc,Bt,Bs,Ba,Aq,Bb,Bp,Bz,Bw,Bn,Ax,Bo,Bk,Bv,Bu,Bi,At,Bj,Aw,Bm,Bl,Au,Ao,Av,An,As,Ar,Al,Aj,Am,B2,Br,Bq,Ay,Ap,Az,Cv,Cf,Cu,Cd,C4,Ce,Zyq,Zyp,Zyk,Zyo,Zz7,Zzc,Zz6,Zz5,↓reduceIte,Zzp,Zyv,Zzn,Zz8,Zz2,Zzk,Zyy,Zz1,Zz0,Zyg,Zzh,Zzg,Zyz,exists_eq_left',exists_eq_left,V.int.injEq,V.bl.injEq,V.str.injEq,V.ref.injEq,V.ty.injEq,Zyu,and_true,true_and,and_assoc,exists_and_left,exists_eq_right,reduceCtorEq,false_and,and_false,exists_false,or_false,false_or,Zxc]
   have k:=k H1 s1
   have e:isWare d=false:=by
    unfold isWare
    split
    ·exact absurd h (by simp[Ii])
    ·rfl
   rw[e] at k
   exact k
  |true =>
   simp only[G5,tNext,Gv,Eu,Gp,Gz,Eh,Ha,Ci,Hh,Gq,tC,tCB,E3,tNil,E1,tOp,tUn,E2,tB,Hb,tOr,Gx,Ej,Gw,Ed,tIf,Gu,Gy,tSl,Ec,tNoPart,tBA,Hk,tDNewK,D9,tYes,rI,rI0,rU,rEq,rNe,rIsA,rIsnotA,rItem,lenA,Dg,Fb,Ex,Fc,tupleA,lenQ,Ho,Hq,rSetD,Fa,He,Hd,Hs,rCat,rCatTT,Ek,E9,E8,Hg,Ea,Eb,Ef,tIf,Ep,Ht,Eo,En,rEqD,rNeD,Hn,Hl,Hu,Dc,Cj,Dd,De,rSortT,Dh,Ct,rSum,rMaxL,Ey,Ee,rGetL,F0,Ei,rRep,Cq,rMax2,rCount,Cr,Hm,rAppend,Df,Cb,rSetA,rSetL,L2.Dn,Fd,Ca,Cp,Cw,Ez,Ew,rStrI,rIntT,Ev,rSplit,rJoin,Eg,Em,  D.ty,Af,Ah,Ag,Ad,Ab,Ae,Bc,Bt,Bs,Ba,Aq,Bb,Bp,Bz,Bw,Bn,Ax,Bo,Bk,Bv,Bu,Bi,At,Bj,Aw,Bm,Bl,Au,Ao,Av,An,As,Ar,Al,Aj,Am,B2,Br,Bq,Ay,Ap,Az,Cv,Cf,Cu,Cd,C4,Ce,Zyq,Zyp,Zyk,Zyo,Zz7,Zzc,Zz6,Zz5,↓reduceIte,Zzp,Zyv,Zzn,Zz8,Zz2,Zzk,Zyy,Zz1,Zz0,Zyg,Zzh,Zzg,Zyz,exists_eq_left',exists_eq_left,V.int.injEq,V.bl.injEq,V.str.injEq,V.ref.injEq,V.ty.injEq,Zyu,and_true,true_and,and_assoc,exists_and_left,exists_eq_right,reduceCtorEq,false_and,and_false,exists_false,or_false,false_or,Zxf,Zxx]
   obtain⟨n,l,g,f,s,c,p,rfl⟩:=Tw h
   obtain⟨a,xs,rfl,ha,hl,hz,gt⟩:=Kp hv
   obtain⟨v0,e0,r0⟩:=gt 0 _ rfl
   obtain⟨v1,e1,r1⟩:=gt 1 _ rfl
   obtain⟨v2,e2,r2⟩:=gt 2 _ rfl
   obtain⟨v3,e3,r3⟩:=gt 3 _ rfl
   obtain⟨v4,e4,r4⟩:=gt 4 _ rfl
   obtain⟨v5,e5,r5⟩:=gt 5 _ rfl
   obtain⟨v6,e6,r6⟩:=gt 6 _ rfl
   have k:∀H',Same H H'->Q (.bl (Hr n&&Dz l 0 30&&Dw g 1&&Dw f 0&&Dw s 0&&G6 c&&L8 p)) H':=k
   have st:=s1
   refine⟨v0,Ak (j:=0) (st _ _ ha) e0,v0,n,rfl,r0.same st,λH2 s2=>?_⟩
   replace st:=st.trans s2
   cases h0:Hr n with
   |false=>simp only[G5,tNext,Gv,Eu,Gp,Gz,Eh,Ha,Ci,Hh,Gq,tC,tCB,E3,tNil,E1,tOp,tUn,E2,tB,Hb,tOr,Gx,Ej,Gw,Ed,tIf,Gu,Gy,tSl,Ec,tNoPart,tBA,Hk,tDNewK,D9,tYes,rI,rI0,rU,rEq,rNe,rIsA,rIsnotA,rItem,lenA,Dg,Fb,Ex,Fc,tupleA,lenQ,Ho,Hq,rSetD,Fa,He,Hd,Hs,rCat,rCatTT,Ek,E9,E8,Hg,Ea,Eb,Ef,tIf,Ep,Ht,Eo,En,rEqD,rNeD,Hn,Hl,Hu,Dc,Cj,Dd,De,rSortT,Dh,Ct,rSum,rMaxL,Ey,Ee,rGetL,F0,Ei,rRep,Cq,rMax2,rCount,Cr,Hm,rAppend,Df,Cb,rSetA,rSetL,L2.Dn,Fd,Ca,Cp,Cw,Ez,Ew,rStrI,rIntT,Ev,rSplit,rJoin,Eg,Em,  D.ty,Af,Ah,Ag,Ad,Ab,Ae,Bc,Bt,Bs,Ba,Aq,Bb,Bp,Bz,Bw,Bn,Ax,Bo,Bk,Bv,Bu,Bi,At,Bj,Aw,Bm,Bl,Au,Ao,Av,An,As,Ar,Al,Aj,Am,B2,Br,Bq,Ay,Ap,Az,Cv,Cf,Cu,Cd,C4,Ce,Zyq,Zyp,Zyk,Zyo,Zz7,Zzc,Zz6,Zz5,↓reduceIte,Zzp,Zyv,Zzn,Zz8,Zz2,Zzk,Zyy,Zz1,Zz0,Zyg,Zzh,Zzg,Zyz,exists_eq_left',exists_eq_left,V.int.injEq,V.bl.injEq,V.str.injEq,V.ref.injEq,V.ty.injEq,Zyu,and_true,true_and,and_assoc,exists_and_left,exists_eq_right,reduceCtorEq,false_and,and_false,exists_false,or_false,false_or,Zxc];rw[h0] at k;exact k _ st
   |true =>
   simp only[G5,tNext,Gv,Eu,Gp,Gz,Eh,Ha,Ci,Hh,Gq,tC,tCB,E3,tNil,E1,tOp,tUn,E2,tB,Hb,tOr,Gx,Ej,Gw,Ed,tIf,Gu,Gy,tSl,Ec,tNoPart,tBA,Hk,tDNewK,D9,tYes,rI,rI0,rU,rEq,rNe,rIsA,rIsnotA,rItem,lenA,Dg,Fb,Ex,Fc,tupleA,lenQ,Ho,Hq,rSetD,Fa,He,Hd,Hs,rCat,rCatTT,Ek,E9,E8,Hg,Ea,Eb,Ef,tIf,Ep,Ht,Eo,En,rEqD,rNeD,Hn,Hl,Hu,Dc,Cj,Dd,De,rSortT,Dh,Ct,rSum,rMaxL,Ey,Ee,rGetL,F0,Ei,rRep,Cq,rMax2,rCount,Cr,Hm,rAppend,Df,Cb,rSetA,rSetL,L2.Dn,Fd,Ca,Cp,Cw,Ez,Ew,rStrI,rIntT,Ev,rSplit,rJoin,Eg,Em,  D.ty,Af,Ah,Ag,Ad,Ab,Ae,Bc,Bt,Bs,Ba,Aq,Bb,Bp,Bz,Bw,Bn,Ax,Bo,Bk,Bv,Bu,Bi,At,Bj,Aw,Bm,Bl,Au,Ao,Av,An,As,Ar,Al,Aj,Am,B2,Br,Bq,Ay,Ap,Az,Cv,Cf,Cu,Cd,C4,Ce,Zyq,Zyp,Zyk,Zyo,Zz7,Zzc,Zz6,Zz5,↓reduceIte,Zzp,Zyv,Zzn,Zz8,Zz2,Zzk,Zyy,Zz1,Zz0,Zyg,Zzh,Zzg,Zyz,exists_eq_left',exists_eq_left,V.int.injEq,V.bl.injEq,V.str.injEq,V.ref.injEq,V.ty.injEq,Zyu,and_true,true_and,and_assoc,exists_and_left,exists_eq_right,reduceCtorEq,false_and,and_false,exists_false,or_false,false_or,Zxf,Zxx]
   refine⟨v1,Ak (j:=1) (st _ _ ha) e1,v1,l,0,30,rfl,r1.same st,λH3 s3=>?_⟩
   replace st:=st.trans s3
   cases h1:Dz l 0 30 with
   |false=>simp only[G5,tNext,Gv,Eu,Gp,Gz,Eh,Ha,Ci,Hh,Gq,tC,tCB,E3,tNil,E1,tOp,tUn,E2,tB,Hb,tOr,Gx,Ej,Gw,Ed,tIf,Gu,Gy,tSl,Ec,tNoPart,tBA,Hk,tDNewK,D9,tYes,rI,rI0,rU,rEq,rNe,rIsA,rIsnotA,rItem,lenA,Dg,Fb,Ex,Fc,tupleA,lenQ,Ho,Hq,rSetD,Fa,He,Hd,Hs,rCat,rCatTT,Ek,E9,E8,Hg,Ea,Eb,Ef,tIf,Ep,Ht,Eo,En,rEqD,rNeD,Hn,Hl,Hu,Dc,Cj,Dd,De,rSortT,Dh,Ct,rSum,rMaxL,Ey,Ee,rGetL,F0,Ei,rRep,Cq,rMax2,rCount,Cr,Hm,rAppend,Df,Cb,rSetA,rSetL,L2.Dn,Fd,Ca,Cp,Cw,Ez,Ew,rStrI,rIntT,Ev,rSplit,rJoin,Eg,Em,  D.ty,Af,Ah,Ag,Ad,Ab,Ae,Bc,Bt,Bs,Ba,Aq,Bb,Bp,Bz,Bw,Bn,Ax,Bo,Bk,Bv,Bu,Bi,At,Bj,Aw,Bm,Bl,Au,Ao,Av,An,As,Ar,Al,Aj,Am,B2,Br,Bq,Ay,Ap,Az,Cv,Cf,Cu,Cd,C4,Ce,Zyq,Zyp,Zyk,Zyo,Zz7,Zzc,Zz6,Zz5,↓reduceIte,Zzp,Zyv,Zzn,Zz8,Zz2,Zzk,Zyy,Zz1,Zz0,Zyg,Zzh,Zzg,Zyz,exists_eq_left',exists_eq_left,V.int.injEq,V.bl.injEq,V.str.injEq,V.ref.injEq,V.ty.injEq,Zyu,and_true,true_and,and_assoc,exists_and_left,exists_eq_right,reduceCtorEq,false_and,and_false,exists_false,or_false,false_or,Zxc];rw[h0,h1] at k;exact k _ st
   |true =>
   simp only[G5,tNext,Gv,Eu,Gp,Gz,Eh,Ha,Ci,Hh,Gq,tC,tCB,E3,tNil,E1,tOp,tUn,E2,tB,Hb,tOr,Gx,Ej,Gw,Ed,tIf,Gu,Gy,tSl,Ec,tNoPart,tBA,Hk,tDNewK,D9,tYes,rI,rI0,rU,rEq,rNe,rIsA,rIsnotA,rItem,lenA,Dg,Fb,Ex,Fc,tupleA,lenQ,Ho,Hq,rSetD,Fa,He,Hd,Hs,rCat,rCatTT,Ek,E9,E8,Hg,Ea,Eb,Ef,tIf,Ep,Ht,Eo,En,rEqD,rNeD,Hn,Hl,Hu,Dc,Cj,Dd,De,rSortT,Dh,Ct,rSum,rMaxL,Ey,Ee,rGetL,F0,Ei,rRep,Cq,rMax2,rCount,Cr,Hm,rAppend,Df,Cb,rSetA,rSetL,L2.Dn,Fd,Ca,Cp,Cw,Ez,Ew,rStrI,rIntT,Ev,rSplit,rJoin,Eg,Em,  D.ty,Af,Ah,Ag,Ad,Ab,Ae,Bc,Bt,Bs,Ba,Aq,Bb,Bp,Bz,Bw,Bn,Ax,Bo,Bk,Bv,Bu,Bi,At,Bj,Aw,Bm,Bl,Au,Ao,Av,An,As,Ar,Al,Aj,Am,B2,Br,Bq,Ay,Ap,Az,Cv,Cf,Cu,Cd,C4,Ce,Zyq,Zyp,Zyk,Zyo,Zz7,Zzc,Zz6,Zz5,↓reduceIte,Zzp,Zyv,Zzn,Zz8,Zz2,Zzk,Zyy,Zz1,Zz0,Zyg,Zzh,Zzg,Zyz,exists_eq_left',exists_eq_left,V.int.injEq,V.bl.injEq,V.str.injEq,V.ref.injEq,V.ty.injEq,Zyu,and_true,true_and,and_assoc,exists_and_left,exists_eq_right,reduceCtorEq,false_and,and_false,exists_false,or_false,false_or,Zxf,Zxx]
   refine⟨v2,Ak (j:=2) (st _ _ ha) e2,v2,g,1,rfl,r2.same st,λH4 s4=>?_⟩
   replace st:=st.trans s4
   cases h2:Dw g 1 with
   |false=>simp only[G5,tNext,Gv,Eu,Gp,Gz,Eh,Ha,Ci,Hh,Gq,tC,tCB,E3,tNil,E1,tOp,tUn,E2,tB,Hb,tOr,Gx,Ej,Gw,Ed,tIf,Gu,Gy,tSl,Ec,tNoPart,tBA,Hk,tDNewK,D9,tYes,rI,rI0,rU,rEq,rNe,rIsA,rIsnotA,rItem,lenA,Dg,Fb,Ex,Fc,tupleA,lenQ,Ho,Hq,rSetD,Fa,He,Hd,Hs,rCat,rCatTT,Ek,E9,E8,Hg,Ea,Eb,Ef,tIf,Ep,Ht,Eo,En,rEqD,rNeD,Hn,Hl,Hu,Dc,Cj,Dd,De,rSortT,Dh,Ct,rSum,rMaxL,Ey,Ee,rGetL,F0,Ei,rRep,Cq,rMax2,rCount,Cr,Hm,rAppend,Df,Cb,rSetA,rSetL,L2.Dn,Fd,Ca,Cp,Cw,Ez,Ew,rStrI,rIntT,Ev,rSplit,rJoin,Eg,Em,  D.ty,Af,Ah,Ag,Ad,Ab,Ae,Bc,Bt,Bs,Ba,Aq,Bb,Bp,Bz,Bw,Bn,Ax,Bo,Bk,Bv,Bu,Bi,At,Bj,Aw,Bm,Bl,Au,Ao,Av,An,As,Ar,Al,Aj,Am,B2,Br,Bq,Ay,Ap,Az,Cv,Cf,Cu,Cd,C4,Ce,Zyq,Zyp,Zyk,Zyo,Zz7,Zzc,Zz6,Zz5,↓reduceIte,Zzp,Zyv,Zzn,Zz8,Zz2,Zzk,Zyy,Zz1,Zz0,Zyg,Zzh,Zzg,Zyz,exists_eq_left',exists_eq_left,V.int.injEq,V.bl.injEq,V.str.injEq,V.ref.injEq,V.ty.injEq,Zyu,and_true,true_and,and_assoc,exists_and_left,exists_eq_right,reduceCtorEq,false_and,and_false,exists_false,or_false,false_or,Zxc];rw[h0,h1,h2] at k;exact k _ st
   |true =>
   simp only[G5,tNext,Gv,Eu,Gp,Gz,Eh,Ha,Ci,Hh,Gq,tC,tCB,E3,tNil,E1,tOp,tUn,E2,tB,Hb,tOr,Gx,Ej,Gw,Ed,tIf,Gu,Gy,tSl,Ec,tNoPart,tBA,Hk,tDNewK,D9,tYes,rI,rI0,rU,rEq,rNe,rIsA,rIsnotA,rItem,lenA,Dg,Fb,Ex,Fc,tupleA,lenQ,Ho,Hq,rSetD,Fa,He,Hd,Hs,rCat,rCatTT,Ek,E9,E8,Hg,Ea,Eb,Ef,tIf,Ep,Ht,Eo,En,rEqD,rNeD,Hn,Hl,Hu,Dc,Cj,Dd,De,rSortT,Dh,Ct,rSum,rMaxL,Ey,Ee,rGetL,F0,Ei,rRep,Cq,rMax2,rCount,Cr,Hm,rAppend,Df,Cb,rSetA,rSetL,L2.Dn,Fd,Ca,Cp,Cw,Ez,Ew,rStrI,rIntT,Ev,rSplit,rJoin,Eg,Em,  D.ty,Af,Ah,Ag,Ad,Ab,Ae,Bc,Bt,Bs,Ba,Aq,Bb,Bp,Bz,Bw,Bn,Ax,Bo,Bk,Bv,Bu,Bi,At,Bj,Aw,Bm,Bl,Au,Ao,Av,An,As,Ar,Al,Aj,Am,B2,Br,Bq,Ay,Ap,Az,Cv,Cf,Cu,Cd,C4,Ce,Zyq,Zyp,Zyk,Zyo,Zz7,Zzc,Zz6,Zz5,↓reduceIte,Zzp,Zyv,Zzn,Zz8,Zz2,Zzk,Zyy,Zz1,Zz0,Zyg,Zzh,Zzg,Zyz,exists_eq_left',exists_eq_left,V.int.injEq,V.bl.injEq,V.str.injEq,V.ref.injEq,V.ty.injEq,Zyu,and_true,true_and,and_assoc,exists_and_left,exists_eq_right,reduceCtorEq,false_and,and_false,exists_false,or_false,false_or,Zxf,Zxx]
   refine⟨v3,Ak (j:=3) (st _ _ ha) e3,v3,f,0,rfl,r3.same st,λH5 s5=>?_⟩
   replace st:=st.trans s5
   cases h3:Dw f 0 with
   |false=>simp only[G5,tNext,Gv,Eu,Gp,Gz,Eh,Ha,Ci,Hh,Gq,tC,tCB,E3,tNil,E1,tOp,tUn,E2,tB,Hb,tOr,Gx,Ej,Gw,Ed,tIf,Gu,Gy,tSl,Ec,tNoPart,tBA,Hk,tDNewK,D9,tYes,rI,rI0,rU,rEq,rNe,rIsA,rIsnotA,rItem,lenA,Dg,Fb,Ex,Fc,tupleA,lenQ,Ho,Hq,rSetD,Fa,He,Hd,Hs,rCat,rCatTT,Ek,E9,E8,Hg,Ea,Eb,Ef,tIf,Ep,Ht,Eo,En,rEqD,rNeD,Hn,Hl,Hu,Dc,Cj,Dd,De,rSortT,Dh,Ct,rSum,rMaxL,Ey,Ee,rGetL,F0,Ei,rRep,Cq,rMax2,rCount,Cr,Hm,rAppend,Df,Cb,rSetA,rSetL,L2.Dn,Fd,Ca,Cp,Cw,Ez,Ew,rStrI,rIntT,Ev,rSplit,rJoin,Eg,Em,  D.ty,Af,Ah,Ag,Ad,Ab,Ae,Bc,Bt,Bs,Ba,Aq,Bb,Bp,Bz,Bw,Bn,Ax,Bo,Bk,Bv,Bu,Bi,At,Bj,Aw,Bm,Bl,Au,Ao,Av,An,As,Ar,Al,Aj,Am,B2,Br,Bq,Ay,Ap,Az,Cv,Cf,Cu,Cd,C4,Ce,Zyq,Zyp,Zyk,Zyo,Zz7,Zzc,Zz6,Zz5,↓reduceIte,Zzp,Zyv,Zzn,Zz8,Zz2,Zzk,Zyy,Zz1,Zz0,Zyg,Zzh,Zzg,Zyz,exists_eq_left',exists_eq_left,V.int.injEq,V.bl.injEq,V.str.injEq,V.ref.injEq,V.ty.injEq,Zyu,and_true,true_and,and_assoc,exists_and_left,exists_eq_right,reduceCtorEq,false_and,and_false,exists_false,or_false,false_or,Zxc];rw[h0,h1,h2,h3] at k;exact k _ st
   |true =>
   simp only[G5,tNext,Gv,Eu,Gp,Gz,Eh,Ha,Ci,Hh,Gq,tC,tCB,E3,tNil,E1,tOp,tUn,E2,tB,Hb,tOr,Gx,Ej,Gw,Ed,tIf,Gu,Gy,tSl,Ec,tNoPart,tBA,Hk,tDNewK,D9,tYes,rI,rI0,rU,rEq,rNe,rIsA,rIsnotA,rItem,lenA,Dg,Fb,Ex,Fc,tupleA,lenQ,Ho,Hq,rSetD,Fa,He,Hd,Hs,rCat,rCatTT,Ek,E9,E8,Hg,Ea,Eb,Ef,tIf,Ep,Ht,Eo,En,rEqD,rNeD,Hn,Hl,Hu,Dc,Cj,Dd,De,rSortT,Dh,Ct,rSum,rMaxL,Ey,Ee,rGetL,F0,Ei,rRep,Cq,rMax2,rCount,Cr,Hm,rAppend,Df,Cb,rSetA,rSetL,L2.Dn,Fd,Ca,Cp,Cw,Ez,Ew,rStrI,rIntT,Ev,rSplit,rJoin,Eg,Em,  D.ty,Af,Ah,Ag,Ad,Ab,Ae,Bc,Bt,Bs,Ba,Aq,Bb,Bp,Bz,Bw,Bn,Ax,Bo,Bk,Bv,Bu,Bi,At,Bj,Aw,Bm,Bl,Au,Ao,Av,An,As,Ar,Al,Aj,Am,B2,Br,Bq,Ay,Ap,Az,Cv,Cf,Cu,Cd,C4,Ce,Zyq,Zyp,Zyk,Zyo,Zz7,Zzc,Zz6,Zz5,↓reduceIte,Zzp,Zyv,Zzn,Zz8,Zz2,Zzk,Zyy,Zz1,Zz0,Zyg,Zzh,Zzg,Zyz,exists_eq_left',exists_eq_left,V.int.injEq,V.bl.injEq,V.str.injEq,V.ref.injEq,V.ty.injEq,Zyu,and_true,true_and,and_assoc,exists_and_left,exists_eq_right,reduceCtorEq,false_and,and_false,exists_false,or_false,false_or,Zxf,Zxx]
   refine⟨v4,Ak (j:=4) (st _ _ ha) e4,v4,s,0,rfl,r4.same st,λH6 s6=>?_⟩
   replace st:=st.trans s6
   cases h4:Dw s 0 with
   |false=>simp only[G5,tNext,Gv,Eu,Gp,Gz,Eh,Ha,Ci,Hh,Gq,tC,tCB,E3,tNil,E1,tOp,tUn,E2,tB,Hb,tOr,Gx,Ej,Gw,Ed,tIf,Gu,Gy,tSl,Ec,tNoPart,tBA,Hk,tDNewK,D9,tYes,rI,rI0,rU,rEq,rNe,rIsA,rIsnotA,rItem,lenA,Dg,Fb,Ex,Fc,tupleA,lenQ,Ho,Hq,rSetD,Fa,He,Hd,Hs,rCat,rCatTT,Ek,E9,E8,Hg,Ea,Eb,Ef,tIf,Ep,Ht,Eo,En,rEqD,rNeD,Hn,Hl,Hu,Dc,Cj,Dd,De,rSortT,Dh,Ct,rSum,rMaxL,Ey,Ee,rGetL,F0,Ei,rRep,Cq,rMax2,rCount,Cr,Hm,rAppend,Df,Cb,rSetA,rSetL,L2.Dn,Fd,Ca,Cp,Cw,Ez,Ew,rStrI,rIntT,Ev,rSplit,rJoin,Eg,Em,  D.ty,Af,Ah,Ag,Ad,Ab,Ae,Bc,Bt,Bs,Ba,Aq,Bb,Bp,Bz,Bw,Bn,Ax,Bo,Bk,Bv,Bu,Bi,At,Bj,Aw,Bm,Bl,Au,Ao,Av,An,As,Ar,Al,Aj,Am,B2,Br,Bq,Ay,Ap,Az,Cv,Cf,Cu,Cd,C4,Ce,Zyq,Zyp,Zyk,Zyo,Zz7,Zzc,Zz6,Zz5,↓reduceIte,Zzp,Zyv,Zzn,Zz8,Zz2,Zzk,Zyy,Zz1,Zz0,Zyg,Zzh,Zzg,Zyz,exists_eq_left',exists_eq_left,V.int.injEq,V.bl.injEq,V.str.injEq,V.ref.injEq,V.ty.injEq,Zyu,and_true,true_and,and_assoc,exists_and_left,exists_eq_right,reduceCtorEq,false_and,and_false,exists_false,or_false,false_or,Zxc];rw[h0,h1,h2,h3,h4] at k;exact k _ st
   |true =>
   simp only[G5,tNext,Gv,Eu,Gp,Gz,Eh,Ha,Ci,Hh,Gq,tC,tCB,E3,tNil,E1,tOp,tUn,E2,tB,Hb,tOr,Gx,Ej,Gw,Ed,tIf,Gu,Gy,tSl,Ec,tNoPart,tBA,Hk,tDNewK,D9,tYes,rI,rI0,rU,rEq,rNe,rIsA,rIsnotA,rItem,lenA,Dg,Fb,Ex,Fc,tupleA,lenQ,Ho,Hq,rSetD,Fa,He,Hd,Hs,rCat,rCatTT,Ek,E9,E8,Hg,Ea,Eb,Ef,tIf,Ep,Ht,Eo,En,rEqD,rNeD,Hn,Hl,Hu,Dc,Cj,Dd,De,rSortT,Dh,Ct,rSum,rMaxL,Ey,Ee,rGetL,F0,Ei,rRep,Cq,rMax2,rCount,Cr,Hm,rAppend,Df,Cb,rSetA,rSetL,L2.Dn,Fd,Ca,Cp,Cw,Ez,Ew,rStrI,rIntT,Ev,rSplit,rJoin,Eg,Em,  D.ty,Af,Ah,Ag,Ad,Ab,Ae,Bc,Bt,Bs,Ba,Aq,Bb,Bp,Bz,Bw,Bn,Ax,Bo,Bk,Bv,Bu,Bi,At,Bj,Aw,Bm,Bl,Au,Ao,Av,An,As,Ar,Al,Aj,Am,B2,Br,Bq,Ay,Ap,Az,Cv,Cf,Cu,Cd,C4,Ce,Zyq,Zyp,Zyk,Zyo,Zz7,Zzc,Zz6,Zz5,↓reduceIte,Zzp,Zyv,Zzn,Zz8,Zz2,Zzk,Zyy,Zz1,Zz0,Zyg,Zzh,Zzg,Zyz,exists_eq_left',exists_eq_left,V.int.injEq,V.bl.injEq,V.str.injEq,V.ref.injEq,V.ty.injEq,Zyu,and_true,true_and,and_assoc,exists_and_left,exists_eq_right,reduceCtorEq,false_and,and_false,exists_false,or_false,false_or,Zxf,Zxx]
   refine⟨v5,Ak (j:=5) (st _ _ ha) e5,v5,c,rfl,r5.same st,λH7 s7=>?_⟩
   replace st:=st.trans s7
   rw[h0,h1,h2,h3,h4] at k
   cases h5:G6 c with
   |false=>simp only[G5,tNext,Gv,Eu,Gp,Gz,Eh,Ha,Ci,Hh,Gq,tC,tCB,E3,tNil,E1,tOp,tUn,E2,tB,Hb,tOr,Gx,Ej,Gw,Ed,tIf,Gu,Gy,tSl,Ec,tNoPart,tBA,Hk,tDNewK,D9,tYes,rI,rI0,rU,rEq,rNe,rIsA,rIsnotA,rItem,lenA,Dg,Fb,Ex,Fc,tupleA,lenQ,Ho,Hq,rSetD,Fa,He,Hd,Hs,rCat,rCatTT,Ek,E9,E8,Hg,Ea,Eb,Ef,tIf,Ep,Ht,Eo,En,rEqD,rNeD,Hn,Hl,Hu,Dc,Cj,Dd,De,rSortT,Dh,Ct,rSum,rMaxL,Ey,Ee,rGetL,F0,Ei,rRep,Cq,rMax2,rCount,Cr,Hm,rAppend,Df,Cb,rSetA,rSetL,L2.Dn,Fd,Ca,Cp,Cw,Ez,Ew,rStrI,rIntT,Ev,rSplit,rJoin,Eg,Em,  D.ty,Af,Ah,Ag,Ad,Ab,Ae,Bc,Bt,Bs,Ba,Aq,Bb,Bp,Bz,Bw,Bn,Ax,Bo,Bk,Bv,Bu,Bi,At,Bj,Aw,Bm,Bl,Au,Ao,Av,An,As,Ar,Al,Aj,Am,B2,Br,Bq,Ay,Ap,Az,Cv,Cf,Cu,Cd,C4,Ce,Zyq,Zyp,Zyk,Zyo,Zz7,Zzc,Zz6,Zz5,↓reduceIte,Zzp,Zyv,Zzn,Zz8,Zz2,Zzk,Zyy,Zz1,Zz0,Zyg,Zzh,Zzg,Zyz,exists_eq_left',exists_eq_left,V.int.injEq,V.bl.injEq,V.str.injEq,V.ref.injEq,V.ty.injEq,Zyu,and_true,true_and,and_assoc,exists_and_left,exists_eq_right,reduceCtorEq,false_and,and_false,exists_false,or_false,false_or,Zxc];rw[h5] at k;exact k _ st
   |true =>
   simp only[G5,tNext,Gv,Eu,Gp,Gz,Eh,Ha,Ci,Hh,Gq,tC,tCB,E3,tNil,E1,tOp,tUn,E2,tB,Hb,tOr,Gx,Ej,Gw,Ed,tIf,Gu,Gy,tSl,Ec,tNoPart,tBA,Hk,tDNewK,D9,tYes,rI,rI0,rU,rEq,rNe,rIsA,rIsnotA,rItem,lenA,Dg,Fb,Ex,Fc,tupleA,lenQ,Ho,Hq,rSetD,Fa,He,Hd,Hs,rCat,rCatTT,Ek,E9,E8,Hg,Ea,Eb,Ef,tIf,Ep,Ht,Eo,En,rEqD,rNeD,Hn,Hl,Hu,Dc,Cj,Dd,De,rSortT,Dh,Ct,rSum,rMaxL,Ey,Ee,rGetL,F0,Ei,rRep,Cq,rMax2,rCount,Cr,Hm,rAppend,Df,Cb,rSetA,rSetL,L2.Dn,Fd,Ca,Cp,Cw,Ez,Ew,rStrI,rIntT,Ev,rSplit,rJoin,Eg,Em,  D.ty,Af,Ah,Ag,Ad,Ab,Ae,Bc,Bt,Bs,Ba,Aq,Bb,Bp,Bz,Bw,Bn,Ax,Bo,Bk,Bv,Bu,Bi,At,Bj,Aw,Bm,Bl,Au,Ao,Av,An,As,Ar,Al,Aj,Am,B2,Br,Bq,Ay,Ap,Az,Cv,Cf,Cu,Cd,C4,Ce,Zyq,Zyp,Zyk,Zyo,Zz7,Zzc,Zz6,Zz5,↓reduceIte,Zzp,Zyv,Zzn,Zz8,Zz2,Zzk,Zyy,Zz1,Zz0,Zyg,Zzh,Zzg,Zyz,exists_eq_left',exists_eq_left,V.int.injEq,V.bl.injEq,V.str.injEq,V.ref.injEq,V.ty.injEq,Zyu,and_true,true_and,and_assoc,exists_and_left,exists_eq_right,reduceCtorEq,false_and,and_false,exists_false,or_false,false_or,Zxf,Zxx]
   refine⟨v6,Ak (j:=6) (st _ _ ha) e6,v6,p,rfl,r6.same st,λH8 s8=>?_⟩
   replace st:=st.trans s8
   rw[h5] at k
   exact k _ st
end
set_option maxHeartbeats 4000000
def Ib:D->Bool
 |.tup ds=>decide (1<=ds.length)&&decide (ds.length<=12)&&ds.all isWare&&unl (ds.map nameOf)
 |_=>false
def Gb:D->Bool
 |.tup [a,b,c]=>Hr a&&Dz b 0 400&&Dw c 0
 |_=>false
def Ic:D->Bool
 |.tup ds=>decide (ds.length<=20)&&ds.all Gb
 |_=>false
section
variable {P:Program}{w:World}{K:Zzw}{mg:Str->Option Value}{base:Heap}{f:Addr}{fd:FuncData}
theorem Yl{d:D}(h:isWare d=true):∃x b,d=.tup (.str x::b):=by
 unfold isWare at h
 split at h
 ·rename_i a l g f s c p
  simp only[Zza] at h
  cases a with
  |str x=>exact⟨x,_,rfl⟩
  |_=>exact absurd h.1.1.1.1.1.1 Zz9
 ·cases h
def sp_are_wares:Sp:=λvs H Q _=>∃v d,vs=[v]/\Rep H d v/\∀H',Same H H'->Q (.bl (Ib d)) H'
theorem Vl:Bg ["found"] ["found"] (Ai Lq):=by walk_at "sc"
theorem Wa(F:Fun K "are_wares" "are_wares" Lq f fd)(T:Txt mg)(Zsa:Has P w K mg base "is_ware" 6 ["found"] sp_is_ware)(Zul:Has P w K mg base "is_tuple" 1 ["found", "least", "most"] sp_is_tuple)(Zu4:Has P w K mg base "are_unlike" 1 ["names"] sp_are_unlike):D3 P w K mg base CX0 7 f fd ["found"] sp_are_wares:=by
 refine F.ok Vl (λvs H Q E h=>?_) (λcdv A outer s H vs Q E hr h=>?_)
 ·obtain⟨v,d,rfl,_⟩:=h
  rfl
 ·obtain⟨v,d,rfl,hv,k⟩:=h
  have hu:=Ch hr
  refine⟨_,(A2 (Db (PW.pt (N9 (E4 (Es (A9 Zul hr.z rfl (A3 (pv 0) (A3 A5 (A3 (C0 rfl T.Ztv) A1)))))) (Mk (E4 (Es (Bd (J7 rfl) rfl T.Zt4 Mw (A3 (D5 (own:=["ware"]) (cap:=[]) rfl (Du rfl) (C8 (by decide)) (Mm (pv 0))
 (λ_ _ _ _ _ _=>⟨(Ac (i:=0) (of_decide_eq_true rfl) rfl (Zzu rfl) (.inr rfl)),D0,(A9 Zsa hr.z rfl (A3 (pv 0) A1))⟩)) A1))))))) (Aa (Be K6)) C5)
 (Aa (Be (A9 Zu4 hr.z rfl (A3 (D5 (own:=["ware"]) (cap:=[]) rfl (Du rfl) (C8 (by decide)) (Mm (pv 0))
 (λ_ _ _ _ _ _=>⟨(Ac (i:=0) (of_decide_eq_true rfl) rfl (Zzu rfl) (.inr rfl)),D0,(A8 hu (pv 0) (C0 rfl T.Zub) (λ_ _=>rfl))⟩)) A1))))),?_⟩
  walk_at "rd"
  refine⟨v,d,1,12,rfl,hv,λH1 s1=>?_⟩
  walk_at "rd"
  cases h:Ii d 1 12 with
  |false =>
   simp only[G5,tNext,Gv,Eu,Gp,Gz,Eh,Ha,Ci,Hh,Gq,tC,tCB,E3,tNil,E1,tOp,tUn,E2,tB,Hb,tOr,Gx,Ej,Gw,Ed,tIf,Gu,Gy,tSl,Ec,tNoPart,tBA,Hk,tDNewK,D9,tYes,rI,rI0,rU,rEq,rNe,rIsA,rIsnotA,rItem,lenA,Dg,Fb,Ex,Fc,tupleA,lenQ,Ho,Hq,rSetD,Fa,He,Hd,Hs,rCat,rCatTT,Ek,E9,E8,Hg,Ea,Eb,Ef,tIf,Ep,Ht,Eo,En,rEqD,rNeD,Hn,Hl,Hu,Dc,Cj,Dd,De,rSortT,Dh,Ct,rSum,rMaxL,Ey,Ee,rGetL,F0,Ei,rRep,Cq,rMax2,rCount,Cr,Hm,rAppend,Df,Cb,rSetA,rSetL,L2.Dn,Fd,Ca,Cp,Cw,Ez,Ew,rStrI,rIntT,Ev,rSplit,rJoin,Eg,Em,  D.ty,Af,Ah,Ag,Ad,Ab,Ae,Bc,Bt,Bs,Ba,Aq,Bb,Bp,Bz,Bw,Bn,Ax,Bo,Bk,Bv,Bu,Bi,At,Bj,Aw,Bm,Bl,Au,Ao,Av,An,As,Ar,Al,Aj,Am,B2,Br,Bq,Ay,Ap,Az,Cv,Cf,Cu,Cd,C4,Ce,Zyq,Zyp,Zyk,Zyo,Zz7,Zzc,Zz6,Zz5,↓reduceIte,Zzp,Zyv,Zzn,Zz8,Zz2,Zzk,Zyy,Zz1,Zz0,Zyg,Zzh,Zzg,Zyz,exists_eq_left',exists_eq_left,V.int.injEq,V.bl.injEq,V.str.injEq,V.ref.injEq,V.ty.injEq,Zyu,and_true,true_and,and_assoc,exists_and_left,exists_eq_right,reduceCtorEq,false_and,and_false,exists_false,or_false,false_or,Zxc]
   have k:=k H1 s1
   have e:Ib d=false:=by
    cases d with
    |tup ds =>
     show (decide (1<=ds.length)&&decide (ds.length<=12)&&ds.all isWare&&unl (ds.map nameOf))=false
     have:¬ (1<=ds.length/\ds.length<=12):=λz=>Zwt.mp h (by show (decide ((1:Int)<=ds.length)&&decide ((ds.length:Int)<=12))=true;simp;omega)
     have e2:(decide (1<=ds.length)&&decide (ds.length<=12))=false:=by rw[<- Bool.decide_and];exact decide_eq_false this
     rw[e2,Zxz,Zxz]
    |_=>rfl
   rw[e] at k
   exact k
  |true =>
   simp only[G5,tNext,Gv,Eu,Gp,Gz,Eh,Ha,Ci,Hh,Gq,tC,tCB,E3,tNil,E1,tOp,tUn,E2,tB,Hb,tOr,Gx,Ej,Gw,Ed,tIf,Gu,Gy,tSl,Ec,tNoPart,tBA,Hk,tDNewK,D9,tYes,rI,rI0,rU,rEq,rNe,rIsA,rIsnotA,rItem,lenA,Dg,Fb,Ex,Fc,tupleA,lenQ,Ho,Hq,rSetD,Fa,He,Hd,Hs,rCat,rCatTT,Ek,E9,E8,Hg,Ea,Eb,Ef,tIf,Ep,Ht,Eo,En,rEqD,rNeD,Hn,Hl,Hu,Dc,Cj,Dd,De,rSortT,Dh,Ct,rSum,rMaxL,Ey,Ee,rGetL,F0,Ei,rRep,Cq,rMax2,rCount,Cr,Hm,rAppend,Df,Cb,rSetA,rSetL,L2.Dn,Fd,Ca,Cp,Cw,Ez,Ew,rStrI,rIntT,Ev,rSplit,rJoin,Eg,Em,  D.ty,Af,Ah,Ag,Ad,Ab,Ae,Bc,Bt,Bs,Ba,Aq,Bb,Bp,Bz,Bw,Bn,Ax,Bo,Bk,Bv,Bu,Bi,At,Bj,Aw,Bm,Bl,Au,Ao,Av,An,As,Ar,Al,Aj,Am,B2,Br,Bq,Ay,Ap,Az,Cv,Cf,Cu,Cd,C4,Ce,Zyq,Zyp,Zyk,Zyo,Zz7,Zzc,Zz6,Zz5,↓reduceIte,Zzp,Zyv,Zzn,Zz8,Zz2,Zzk,Zyy,Zz1,Zz0,Zyg,Zzh,Zzg,Zyz,exists_eq_left',exists_eq_left,V.int.injEq,V.bl.injEq,V.str.injEq,V.ref.injEq,V.ty.injEq,Zyu,and_true,true_and,and_assoc,exists_and_left,exists_eq_right,reduceCtorEq,false_and,and_false,exists_false,or_false,false_or,Zxf,Zxx]
   obtain⟨ds,rfl,hn0,hn⟩:=Hc h
   have hv1:=hv.same s1
   rw[Rep] at hv1
   obtain⟨a,xs,rfl,ha,hz,r⟩:=hv1
   walk_at "rd"
   refine .inr ⟨xs,ha,?_⟩
   refine Of (p:=isWare) ha r hz (λx d H' rd s' N hN=>?_) (λa' H2 s2 ha'=>?_)
   ·walk_at "rd"
    exact⟨x,d,rfl,rd,hN⟩
   ·refine⟨a',rfl,_,ha',?_⟩
    have e0:(ds.map isWare).all id=ds.all isWare:=by rw[Zwu];rfl
    rw[e0]
    have e:Ib (.tup ds)=(ds.all isWare&&unl (ds.map nameOf)):=by
     show (decide (1<=ds.length)&&decide (ds.length<=12)&&ds.all isWare&&unl (ds.map nameOf))=_
     rw[decide_eq_true (by omega),decide_eq_true (by omega),Zyc,Zyc]
    rw[e] at k
    cases hp:ds.all isWare with
    |false =>
     rw[hp,Zxz] at k
     simp only[G5,tNext,Gv,Eu,Gp,Gz,Eh,Ha,Ci,Hh,Gq,tC,tCB,E3,tNil,E1,tOp,tUn,E2,tB,Hb,tOr,Gx,Ej,Gw,Ed,tIf,Gu,Gy,tSl,Ec,tNoPart,tBA,Hk,tDNewK,D9,tYes,rI,rI0,rU,rEq,rNe,rIsA,rIsnotA,rItem,lenA,Dg,Fb,Ex,Fc,tupleA,lenQ,Ho,Hq,rSetD,Fa,He,Hd,Hs,rCat,rCatTT,Ek,E9,E8,Hg,Ea,Eb,Ef,tIf,Ep,Ht,Eo,En,rEqD,rNeD,Hn,Hl,Hu,Dc,Cj,Dd,De,rSortT,Dh,Ct,rSum,rMaxL,Ey,Ee,rGetL,F0,Ei,rRep,Cq,rMax2,rCount,Cr,Hm,rAppend,Df,Cb,rSetA,rSetL,L2.Dn,Fd,Ca,Cp,Cw,Ez,Ew,rStrI,rIntT,Ev,rSplit,rJoin,Eg,Em,  D.ty,Af,Ah,Ag,Ad,Ab,Ae,Bc,Bt,Bs,Ba,Aq,Bb,Bp,Bz,Bw,Bn,Ax,Bo,Bk,Bv,Bu,Bi,At,Bj,Aw,Bm,Bl,Au,Ao,Av,An,As,Ar,Al,Aj,Am,B2,Br,Bq,Ay,Ap,Az,Cv,Cf,Cu,Cd,C4,Ce,Zyq,Zyp,Zyk,Zyo,Zz7,Zzc,Zz6,Zz5,↓reduceIte,Zzp,Zyv,Zzn,Zz8,Zz2,Zzk,Zyy,Zz1,Zz0,Zyg,Zzh,Zzg,Zyz,exists_eq_left',exists_eq_left,V.int.injEq,V.bl.injEq,V.str.injEq,V.ref.injEq,V.ty.injEq,Zyu,and_true,true_and,and_assoc,exists_and_left,exists_eq_right,reduceCtorEq,false_and,and_false,exists_false,or_false,false_or,Zxc]
     exact k H2 (s1.trans s2)
    |true =>
     rw[hp,Zyc] at k
     simp only[G5,tNext,Gv,Eu,Gp,Gz,Eh,Ha,Ci,Hh,Gq,tC,tCB,E3,tNil,E1,tOp,tUn,E2,tB,Hb,tOr,Gx,Ej,Gw,Ed,tIf,Gu,Gy,tSl,Ec,tNoPart,tBA,Hk,tDNewK,D9,tYes,rI,rI0,rU,rEq,rNe,rIsA,rIsnotA,rItem,lenA,Dg,Fb,Ex,Fc,tupleA,lenQ,Ho,Hq,rSetD,Fa,He,Hd,Hs,rCat,rCatTT,Ek,E9,E8,Hg,Ea,Eb,Ef,tIf,Ep,Ht,Eo,En,rEqD,rNeD,Hn,Hl,Hu,Dc,Cj,Dd,De,rSortT,Dh,Ct,rSum,rMaxL,Ey,Ee,rGetL,F0,Ei,rRep,Cq,rMax2,rCount,Cr,Hm,rAppend,Df,Cb,rSetA,rSetL,L2.Dn,Fd,Ca,Cp,Cw,Ez,Ew,rStrI,rIntT,Ev,rSplit,rJoin,Eg,Em,  D.ty,Af,Ah,Ag,Ad,Ab,Ae,Bc,Bt,Bs,Ba,Aq,Bb,Bp,Bz,Bw,Bn,Ax,Bo,Bk,Bv,Bu,Bi,At,Bj,Aw,Bm,Bl,Au,Ao,Av,An,As,Ar,Al,Aj,Am,B2,Br,Bq,Ay,Ap,Az,Cv,Cf,Cu,Cd,C4,Ce,Zyq,Zyp,Zyk,Zyo,Zz7,Zzc,Zz6,Zz5,↓reduceIte,Zzp,Zyv,Zzn,Zz8,Zz2,Zzk,Zyy,Zz1,Zz0,Zyg,Zzh,Zzg,Zyz,exists_eq_left',exists_eq_left,V.int.injEq,V.bl.injEq,V.str.injEq,V.ref.injEq,V.ty.injEq,Zyu,and_true,true_and,and_assoc,exists_and_left,exists_eq_right,reduceCtorEq,false_and,and_false,exists_false,or_false,false_or,Zxf,Zxx]
     have ha2:=s2 _ _ ha
     have r2:=r.same s2
     refine .inr ⟨xs,ha2,?_⟩
     refine Da (Fx a xs) (by rw[r.length];exact Bf hz) (λH' s'=>s' _ _ ha2) ((ds.map nameOf).map V.str) (by simp[r.length]) (λi y H' hi hy s' N M hN=>?_) (λH' s' q hq=>?_)
     ·obtain⟨d,hd,rd⟩:=r2.get hy
      obtain⟨z,b,rfl⟩:=Yl (Zyi.mp hp d (Zzr hd))
      obtain⟨c,ys,rfl,hc,hl,_,g⟩:=Kp rd
      obtain⟨vx,ex,rx⟩:=g 0 _ rfl
      rw[Rep] at rx
      obtain⟨rfl,_⟩:=rx
      walk_at "rd"
      refine⟨_,Ak (j:=0) (s' _ _ hc) ex,hN _ _ s' ?_⟩
      rw[Zzy,Zzy,hd]
      rfl
     ·refine⟨q,_,rfl,A0,by rw[Zzz];exact hz,λH5 s5=>k H5 ?_⟩
      exact((s1.trans s2).trans s').trans ((A6 hq).trans s5)
def sp_is_want:Sp:=λvs H Q _=>∃v d,vs=[v]/\Rep H d v/\∀H',Same H H'->Q (.bl (Gb d)) H'
theorem Tv{d:D}(h:Ii d 3 3=true):∃a b c,d=.tup [a,b,c]:=by
 obtain⟨ds,rfl,h1,h2⟩:=Hc h
 match ds,h1,h2 with
 |[a,b,c],_,_=>exact⟨a,b,c,rfl⟩
 |[],h1,_=>simp at h1
 |[_],h1,_=>simp at h1
 |[_,_],h1,_=>simp at h1
 |_::_::_::_::r,_,h2=>simp at h2;omega
theorem Zr:Bg ["found"] ["found"] (Ai Ny):=by walk_at "sc"
theorem af(F:Fun K "is_want" "is_want" Ny f fd)(T:Txt mg)(Zul:Has P w K mg base "is_tuple" 1 ["found", "least", "most"] sp_is_tuple)(Zuk:Has P w K mg base "is_from" 2 ["found", "least"] sp_is_from)(Zuh:Has P w K mg base "is_between" 3 ["found", "least", "most"] sp_is_between)(Zuf:Has P w K mg base "is_name" 1 ["found"] sp_is_name):D3 P w K mg base CX0 4 f fd ["found"] sp_is_want:=by
 refine F.ok Zr (λvs H Q E h=>?_) (λcdv A outer s H vs Q E hr h=>?_)
 ·obtain⟨v,d,rfl,_⟩:=h
  rfl
 ·obtain⟨v,d,rfl,hv,k⟩:=h
  have hu:=Ch hr
  refine⟨_,(A2 (Db (E4 (Es (A9 Zul hr.z rfl (A3 (pv 0) (A3 A5 (A3 A5 A1)))))) (Aa (Be K6)) C5)
 (Aa (Be (Jf (A9 Zuf hr.z rfl (A3 (A8 hu (pv 0) A5 (λ_ _=>rfl)) A1)) (Jf (A9 Zuh hr.z rfl (A3 (A8 hu (pv 0) A5 (λ_ _=>rfl)) (A3 A5 (A3 (C0 rfl T.Ztu) A1)))) (Kx (A9 Zuk hr.z rfl (A3 (A8 hu (pv 0) A5 (λ_ _=>rfl)) (A3 A5 A1))))))))),?_⟩
  walk_at "rd"
  refine⟨v,d,3,3,rfl,hv,λH1 s1=>?_⟩
  walk_at "rd"
  cases h:Ii d 3 3 with
  |false =>
   rw[if_pos (by decide)]
   have e:Gb d=false:=by
    unfold Gb
    split
    ·cases h
    ·rfl
   have k:=k H1 s1
   rw[e] at k
   exact k
  |true =>
   rw[if_neg (by decide)]
   obtain⟨x,y,z,rfl⟩:=Tv h
   obtain⟨a,xs,rfl,ha,hl,_,g⟩:=Kp (hv.same s1)
   obtain⟨v0,e0,r0⟩:=g 0 _ rfl
   obtain⟨v1,e1,r1⟩:=g 1 _ rfl
   obtain⟨v2,e2,r2⟩:=g 2 _ rfl
   have kk:∀H',Same H H'->Q (.bl (Hr x&&Dz y 0 400&&Dw z 0)) H':=k
   refine⟨_,Ak (j:=0) ha e0,v0,x,rfl,r0,λH2 s2=>⟨_,rfl,?_⟩⟩
   cases h1:Hr x with
   |false =>
    rw[h1,Zxz,Zxz] at kk
    rw[if_neg (by decide)]
    exact kk H2 (s1.trans s2)
   |true =>
    rw[h1,Zyc] at kk
    rw[if_pos rfl]
    refine⟨_,Ak (j:=1) (s2 _ _ ha) e1,v1,y,0,400,rfl,r1.same s2,λH3 s3=>⟨_,rfl,?_⟩⟩
    cases h2:Dz y 0 400 with
    |false =>
     rw[h2,Zxz] at kk
     rw[if_neg (by decide)]
     exact kk H3 ((s1.trans s2).trans s3)
    |true =>
     rw[h2,Zyc] at kk
     rw[if_pos rfl]
     exact⟨_,Ak (j:=2) (s3 _ _ (s2 _ _ ha)) e2,v2,z,0,rfl,(r2.same s2).same s3,λH4 s4=>kk H4 (((s1.trans s2).trans s3).trans s4)⟩
def sp_are_wants:Sp:=λvs H Q _=>∃v d,vs=[v]/\Rep H d v/\∀H',Same H H'->Q (.bl (Ic d)) H'
theorem Vm:Bg ["found"] ["found"] (Ai Lr):=by walk_at "sc"
theorem Wb(F:Fun K "are_wants" "are_wants" Lr f fd)(T:Txt mg)(Zs9:Has P w K mg base "is_want" 4 ["found"] sp_is_want)(Zul:Has P w K mg base "is_tuple" 1 ["found", "least", "most"] sp_is_tuple):D3 P w K mg base CX0 5 f fd ["found"] sp_are_wants:=by
 refine F.ok Vm (λvs H Q E h=>?_) (λcdv A outer s H vs Q E hr h=>?_)
 ·obtain⟨v,d,rfl,_⟩:=h
  rfl
 ·obtain⟨v,d,rfl,hv,k⟩:=h
  have hu:=Ch hr
  refine⟨_,(Aa (Be (Jf (A9 Zul hr.z rfl (A3 (pv 0) (A3 A5 (A3 (C0 rfl T.Ztw) A1)))) (Kx (Bd (J7 rfl) rfl T.Zt4 Mw (A3 (D5 (own:=["want"]) (cap:=[]) rfl (Du rfl) (C8 (by decide)) (Mm (pv 0))
 (λ_ _ _ _ _ _=>⟨(Ac (i:=0) (of_decide_eq_true rfl) rfl (Zzu rfl) (.inr rfl)),D0,(A9 Zs9 hr.z rfl (A3 (pv 0) A1))⟩)) A1)))))),?_⟩
  walk_at "rd"
  refine⟨v,d,0,20,rfl,hv,λH1 s1=>?_⟩
  walk_at "rd"
  refine Fj (λh=>?_) (λh=>?_)
  ·obtain⟨ds,rfl,_,hn⟩:=Hc h
   have hv1:=hv.same s1
   rw[Rep] at hv1
   obtain⟨a,xs,rfl,ha,hz,r⟩:=hv1
   walk_at "rd"
   refine .inr ⟨xs,ha,?_⟩
   refine Of (p:=Gb) ha r hz (λx d H' rd s' N hN=>?_) (λa' H' s' ha'=>?_)
   ·walk_at "rd"
    exact⟨x,d,rfl,rd,hN⟩
   ·refine⟨a',rfl,_,ha',?_⟩
    have k:=k H' (s1.trans s')
    have e:Ic (.tup ds)=(ds.map Gb).all id:=by
     show (decide (ds.length<=20)&&ds.all Gb)=_
     rw[decide_eq_true (by omega),Zyc,Zwu]
     rfl
    rw[e] at k
    exact k
  ·have k:=k H1 s1
   have e:Ic d=false:=by
    cases d with
    |tup ds =>
     show (decide (ds.length<=20)&&ds.all Gb)=false
     have:¬ ds.length<=20:=λz=>h (by show (decide ((0:Int)<=ds.length)&&decide ((ds.length:Int)<=20))=true;simp;omega)
     rw[decide_eq_false this,Zxz]
    |_=>rfl
   rw[e] at k
   exact k
end
set_option maxHeartbeats 4000000
def S5:D->List D
 |.tup [_,_,_,_,_,_,.tup ps]=>ps
 |_=>[]
def K8(ws us:List D):List Str:=us.map nameOf++(ws.map λw=>(S5 w).map nameOf).flatten
def Jy:D->Bool
 |.tup [.tup ws,.tup us]=>Ib (.tup ws)&&Ic (.tup us)&&(K8 ws us).all λx=>decide (x∈ws.map nameOf)
 |_=>false
theorem Pi{d:D}(h:isWare d=true):∃n l g f s c ps,d=.tup [n,l,g,f,s,c,.tup ps]/\ps.length<=6/\(∀p∈ps,isPart p=true)/\S5 d=ps:=by
 unfold isWare at h
 split at h
 ·rename_i a l g f s c p
  simp only[Zza] at h
  have hp:=h.2
  cases p with
  |tup ps =>
   have hp:(decide (ps.length<=6)&&ps.all isPart&&unl (ps.map nameOf))=true:=hp
   simp only[Zza] at hp
   exact⟨a,l,g,f,s,c,ps,rfl,of_decide_eq_true hp.1.1,λq hq=>Zyi.mp hp.1.2 q hq,rfl⟩
  |_=>exact absurd hp Zz9
 ·cases h
theorem lx{H:Hp}{x:Str}{b:List D}{v:V}(h:Rep H (.tup (.str x::b)) v):Ol H v (.int 0) (.str x):=by
 obtain⟨c,ys,rfl,hc,hl,_,g⟩:=Kp h
 obtain⟨vx,ex,rx⟩:=g 0 _ rfl
 rw[Rep] at rx
 obtain⟨rfl,_⟩:=rx
 exact Ak (j:=0) hc ex
set_option maxHeartbeats 4000000
section
variable {P:Program}{w:World}{K:Zzw}{mg:Str->Option Value}{base:Heap}{f:Addr}{fd:FuncData}{Pt:Addr}
def zg(w:Wr):Prop:=w.parts.length<=1000/\w.coming.length<=1000
structure bq(S:Sh):Prop where
 names:(S.wares.map (·.name)).Nodup
 len:S.wares.length<=1000
 wares:∀w∈S.wares,zg w
def sp_part_names:Sp:=λvs H Q _=>∃(v:V) (w:Wr),vs=[v]/\RD H w.d v/\zg w/\∀p H',H p=none->H' p=some (.lst ((w.parts.map (·.1)).map V.str))->Same H H'->Q (.ref p) H'
theorem Te:Bg ["ware"] ["ware"] (Ai Kf):=by walk_at "sc"
theorem Tl(F:Fun K "part_names" "part_names" Kf f fd)(T:Txt mg):D3 P w K mg base CX0 1 f fd ["ware"] sp_part_names:=by
 refine F.ok Te (λvs H Q E h=>?_) (λcdv A outer s H vs Q E hr h=>?_)
 ·obtain⟨v,w,rfl,_⟩:=h
  rfl
 ·obtain⟨v,w,rfl,rw',ok,k⟩:=h
  have hu:=Ch hr
  refine⟨_,(Aa (Be (D5 (own:=["part"]) (cap:=[]) rfl (Du rfl) (C8 (by decide)) (E5 (A8 hu (pv 0) (C0 rfl T.Ztg) (λ_ _=>rfl)))
 (λ_ _ _ _ _ _=>⟨(Ac (i:=0) (of_decide_eq_true rfl) rfl (Zzu rfl) (.inr rfl)),D0,(A8 hu (pv 0) A5 (λ_ _=>rfl))⟩)))),?_⟩
  obtain⟨a,c,p,rfl,ha,rc,rp⟩:=Dq rw'
  obtain⟨b,ps,rfl,hb,rps⟩:=RD.tup_of rp
  have hl:=Cm rps
  walk_at "rd"
  refine⟨_,Ak (j:=6) ha rfl,b,rfl,_,hb,?_⟩
  refine Da (Fx b _) (Bf (by rw[hl];exact ok.1)) (λH' s'=>s' _ _ hb) ((w.parts.map (·.1)).map V.str) (by rw[Zzz,Zzz,hl]) (λi x H' hi hx s' N M hN=>?_) (λH' s' p hp=>?_)
  ·obtain⟨y,hy,ry⟩:=D4 rps hx
   obtain⟨e,rfl,he⟩:=O9 ry
   walk_at "rd"
   exact⟨_,Ak (j:=0) (s' _ _ he) rfl,hN _ _ s' (by rw[Zzy,Zzy,hy];rfl)⟩
  ·exact k p _ (Same.free s' hp) A0 (s'.trans (A6 hp))
def sp_ware_of:Sp:=λvs H Q _=>∃(v:V) (S:Sh) (n:Str),vs=[v,.str n]/\RD H S.d v/\bq S/\n∈S.wares.map (·.name)/\∀x w,w∈S.wares->w.name=n->RD H w.d x->Q x H
def wo(b:V)(n:Str)(ws:List Wr)(H:Hp)(i:Nat)(Z:St)(H':Hp):Prop:=∃c:Option V,Z=[some b,some (.str n),c]/\H'=H/\∀w∈ws.take i,w.name≠n
theorem sc_ware_of:Bg ["shop", "name", "ware"] ["shop", "name"] (Ai Nu):=by walk_at "sc"
theorem ab(F:Fun K "ware_of" "ware_of" Nu f fd)(T:Txt mg):D3 P w K mg base CX0 1 f fd ["shop", "name"] sp_ware_of:=by
 refine F.ok sc_ware_of (λvs H Q E h=>?_) (λcdv A outer s H vs Q E hr h=>?_)
 ·obtain⟨v,S,n,rfl,_⟩:=h
  rfl
 ·obtain⟨v,S,n,rfl,rs,ok,hn,k⟩:=h
  have hu:=Ch hr
  refine⟨_,(A2 (D2 PassesOwn.never rfl (E5 (A8 hu (pv 0) A5 (λ_ _=>rfl))) (Ac (i:=2) sc_ware_of.nd rfl (Zzu rfl))
 (Aa (Db (C6 (Fz hu) (A8 hu (pv 2) (C0 rfl T.Zub) (λ_ _=>rfl)) (pv 1) (Cc _)) (Aa (Be (pv 2))) C5)))
 (Aa mf)),?_⟩
  obtain⟨a,b,c,ws,us,rfl,ha,hb,hc,rws,rus⟩:=Gn rs
  have hl:=Cm rws
  walk_at "rd"
  refine⟨_,Ak (j:=0) ha rfl,b,rfl,_,hb,?_⟩
  refine Er (Fx b _) (wo (.ref a) n S.wares H) ⟨_,rfl,rfl,by simp⟩ (λi Z H' _ h=>by obtain⟨_,_,rfl,_⟩:=h;exact hb) (λi x Z H' hi hx h=>?_) (λZ H' h=>?_)
  ·obtain⟨c,rfl,rfl,hno⟩:=h
   obtain⟨w,hw,rw'⟩:=D4 rws hx
   obtain⟨e,c1,c2,rfl,he,_⟩:=Dq rw'
   walk_at "rd"
   refine⟨_,Ak (j:=0) he rfl,rfl,Fj (λh=>?_) (λh=>?_)⟩
   ·exact k _ w (Zzr hw) (by have:=of_decide_eq_true h;cases this;rfl) rw'
   ·refine⟨_,rfl,rfl,λw' hw'=>?_⟩
    rw[Zyx,hw] at hw'
    rcases Zyj.mp hw' with z | z
    ·exact hno w' z
    ·have e:w'=w:=by simpa using z
     subst e
     intro e
     exact h (decide_eq_true (by rw[e]))
  ·obtain⟨c,rfl,rfl,hno⟩:=h
   rw[hl,Zyt] at hno
   obtain⟨w,hw,e⟩:=Zzv.mp hn
   exact absurd e (hno w hw)
def sp_without_ends:Sp:=λvs H Q _=>∃(a:Addr) (kvs:List (Key×V)) (G:Gr),vs=[.ref a]/\H a=some (.dK kvs)/\PDk H kvs G/\(Co G).Nodup/\G.length<=1000/\(∀e∈G,e.2.length<=1000) /\
 ∀p kvs' H',H p=none->H' p=some (.dK kvs')->PDk H' kvs' (jk G)->But a H H'->Q (.ref p) H'
def x8(a p:Addr)(o:Obj)(kvs:List (Key×V))(G:Gr)(H:Hp)(i:Nat)(Z:St)(H':Hp):Prop:=∃(n g:Option V) (kvs':List (Key×V)),Z=[some (.ref a),some (.ref p),n,g]/\H' a=some (.frz o (.dK kvs))/\H' p=some (.dK kvs')/\PDk H' kvs' ((G.take i).filterMap (Gc (Co G)))/\But a H H'
def A0s(a p:Addr)(o:Obj)(kvs kvs':List (Key×V))(G G':Gr)(ps:List Str)(H:Hp)(i:Nat)(acc:List V)(H':Hp):Prop:=acc=(Sv (Co G) (ps.take i)).map V.str/\H' a=some (.frz o (.dK kvs))/\H' p=some (.dK kvs')/\PDk H' kvs' G'/\But a H H'/\PDk H' kvs G
theorem Uu{ks ps:List Str}{i:Nat}{x:Str}(h:ps[i]?=some x):Sv ks (ps.take (i+1))=Sv ks (ps.take i)++if decide (x∈ks)=true then [x] else []:=by
 unfold Sv
 rw[Zyx,h,Zys]
 by_cases hx:x∈ks
 ·simp[hx]
 ·simp[hx]
theorem sc_without_ends:Bg ["parts", "left", "name", "going_on"] ["parts"] (Ai Iw):=by walk_at "sc"
theorem Qm(F:Fun K "without_ends" "without_ends" Iw f fd)(T:Txt mg):D3 P w K mg base CX0 1 f fd ["parts"] sp_without_ends:=by
 refine F.ok sc_without_ends (λvs H Q E h=>?_) (λcdv A outer s H vs Q E hr h=>?_)
 ·obtain⟨a,kvs,G,rfl,_⟩:=h
  rfl
 ·obtain⟨a,kvs,G,rfl,ha,pd,nd,hG,hps,k⟩:=h
  have hu:=Ch hr
  have hkl:=pd.len
  have ndk:(kvs.map (·.1)).Nodup:=by rw[pd.keys];exact jc nd
  refine⟨_,(A2 (Bh (i:=1) sc_without_ends.nd rfl (Zzu rfl) Na)
 (A2 (D2 PassesOwn.never rfl (mh (pv 0)) (Ac (i:=2) sc_without_ends.nd rfl (Zzu rfl))
 (A2 (G7 (own:=["part"]) (cap:=[0]) (i:=3) rfl (Du rfl) (C8 (by decide)) sc_without_ends.nd rfl rfl (G8 (A8 hu (pv 0) (pv 2) (λ_ _=>rfl)))
 (λ_ _ _ _ _ _=>⟨(Ac (i:=0) (of_decide_eq_true rfl) rfl (Zzu rfl) (.inr rfl)),(Lu (C6 (Py hu) (pv 0) (pv 1) rfl)),(pv 0)⟩))
 (Aa (Db (tz (pv 3)) (Aa (Je (pv 3) (Jx (pv 1) (pv 2) (Kw hu)))) C5))))
 (Aa (Be (pv 1))))),?_⟩
  walk_at "rd"
  refine λp hp=>⟨_,by rw[A7 (A4 ha hp)];exact ha,λo=>?_⟩
  have nap:a≠p:=A4 ha hp
  have b0:But a H (upd (upd H p (.dK [])) a (.frz o (.dK kvs))):=(R8 hp).trans Ws
  have pl:∀{H':Hp},But a H H'->PDk H' kvs G:=λ{H'} bt=>pd.mono λl xs h=>bt l _ (λz=>by rw[z,ha] at h;cases h) h
  refine Er (ox a o kvs) (x8 a p o kvs G H) ⟨_,_,[],rfl,A0,by rw[A7 (Zzi nap),A0],.nil,b0⟩ (λi Z H' _ h=>by obtain⟨_,_,_,_,h,_⟩:=h;exact h) (λi x Z H' hi hx h=>?_) (λZ H' h=>?_)
  ·obtain⟨n,g,kvs',rfl,h1,h2,h3,bt⟩:=h
   obtain⟨key,val,hk,rfl⟩:=hx
   obtain⟨e,l,he,rfl,rfl,hl⟩:=PDk.get' (pl bt) hk
   have hv:=Rj ndk hk
   have hmem:=Zzr he
   refine z7 (λZ' H''=>∃q:Addr,Z'=[some (.ref a),some (.ref p),some (.str e.1),some (.ref q)]/\H'' q=some (.lst ((Sv (Co G) e.2).map V.str))/\H'' a=some (.frz o (.dK kvs))/\H'' p=some (.dK kvs')/\PDk H'' kvs' ((G.take i).filterMap (Gc (Co G)))/\But a H H'') ?_ (λKK hK=>?_)
   ·rintro Z' H'' ⟨q,rfl,hq,g1,g2,g3,gb⟩
    walk_at "rd"
    refine⟨_,hq,?_⟩
    have et:(G.take (i+1)).filterMap (Gc (Co G))=(G.take i).filterMap (Gc (Co G))++(Gc (Co G) e).toList:=by
     rw[Zyx,he,List.filterMap_append]
     cases hc:Gc (Co G) e<;>simp[hc]
    refine Fj (λhz=>?_) (λhz=>?_)
    ·have hne:Sv (Co G) e.2≠[]:=λz=>by rw[z] at hz;exact absurd hz (by decide)
     have hc:Gc (Co G) e=some (e.1,Sv (Co G) e.2):=by unfold Gc;rw[if_neg hne]
     have nin:e.1∉Co ((G.take i).filterMap (Gc (Co G))):=λm=>by
      have m':e.1∈Co (G.take i):=(keys_filter (ks:=Co G) (G:=G.take i)).subset m
      have nd':(Co (G.take i)++Co (G.drop i)).Nodup:=by
       have:Co (G.take i)++Co (G.drop i)=Co G:=by unfold Co;rw[<- Zzq,Zvt]
       rw[this];exact nd
      have hlt:i<G.length:=(Zz4.mp he).1
      have md:e.1∈Co (G.drop i):=by
       unfold Co
       rw[List.drop_eq_getElem_cons hlt]
       have:G[i]=e:=(Zz4.mp he).2
       rw[this,Zzp]
       exact Zzf
      exact(Zve.mp nd').2.2 _ m' _ md rfl
     have hlen':kvs'.length<sizeLine:=by
      have:=g3.len
      have h5:((G.take i).filterMap (Gc (Co G))).length<=(G.take i).length:=List.length_filterMap_le _ _
      rw[Zye] at h5
      exact Zya (m:=1000) (by omega) (by decide)
     refine⟨kvs',.inr e.1,rfl,g2,hlen',?_⟩
     have ku:∀l xs,H'' l=some (.lst xs)->upd H'' p (.dK (Jc kvs' (.inr e.1) (.ref q))) l=some (.lst xs):=λl xs h=>by rw[A7 (λz=>by rw[z,g2] at h;cases h)];exact h
     refine⟨_,_,_,rfl,by rw[A7 nap];exact g1,A0,?_,?_⟩
     ·rw[et,hc]
      exact(g3.mono ku).snoc nin (ku _ _ hq)
     ·exact λb o' nb hb=>by rw[A7 (A4 hb hp)];exact gb b o' nb hb
    ·have hne:Sv (Co G) e.2=[]:=by
      cases hx:Sv (Co G) e.2 with
      |nil=>rfl
      |cons y r=>rw[hx] at hz;exact absurd rfl hz
     have hc:Gc (Co G) e=none:=by unfold Gc;rw[if_pos hne]
     exact⟨_,_,_,rfl,g1,g2,by rw[et,hc];simpa using g3,gb⟩
   ·walk_at "rd"
    refine⟨_,L0 (.inr ⟨o,h1⟩) hv,l,rfl,_,hl,?_⟩
    refine Jz (Ip l _) (Bf (by rw[Zzz];exact hps e hmem)) (A0s a p o kvs kvs' G ((G.take i).filterMap (Gc (Co G))) e.2 H) ⟨rfl,h1,h2,h3,bt,pl bt⟩ (λj acc H2 _ h=>?_) (λj acc H2 h=>?_) (λj x acc H2 hj hx h=>?_) (λacc H2 h q hq=>?_)
    ·obtain⟨_,_,_,_,hb,hpd⟩:=h
     obtain⟨l2,hl2,hl3⟩:=PDk.get hpd he
     rw[hk] at hl2
     cases hl2
     exact hl3
    ·rw[h.1,Zzz]
     refine Zyf (Zxo _ _) ?_
     rw[Zye]
     exact Nat.min_le_left _ _
    ·obtain⟨rfl,w1,w2,w3,w4,w5⟩:=h
     rw[Zzy] at hx
     cases ex:e.2[j]? with
     |none=>rw[ex] at hx;cases hx
     |some y =>
     rw[ex] at hx
     cases hx
     walk_at "rd"
     refine⟨_,.inr (.inr ⟨a,kvs,.inr y,rfl,rfl,.inr ⟨o,w1⟩,rfl⟩),?_⟩
     rw[w5.has y]
     refine Fj (λhy=>?_) (λhy=>?_)
     ·exact⟨by rw[Uu ex,if_pos hy,Zzq];rfl,w1,w2,w3,w4,w5⟩
     ·exact⟨by rw[Uu ex,if_neg hy,Zzn],w1,w2,w3,w4,w5⟩
    ·obtain⟨rfl,w1,w2,w3,w4,w5⟩:=h
     rw[Zzz,Zyt]
     have nq:∀{b:Addr} {o':HO} (o'':HO),H2 b=some o'->upd H2 q o'' b=some o':=λ{b o'} o'' hb=>by rw[A7 (A4 hb hq)];exact hb
     exact hK _ _ ⟨q,rfl,A0,nq _ w1,nq _ w2,w3.mono λl xs h=>nq _ h,w4.trans (R8 hq)⟩
  ·obtain⟨n,g,kvs',rfl,h1,h2,h3,bt⟩:=h
   walk_at "rd"
   rw[hkl,Zyt] at h3
   exact k p kvs' H' hp h2 h3 bt
def sp_endless_parts:Sp:=λvs H Q _=>∃(v:V) (S:Sh),vs=[v]/\RD H S.d v/\bq S/\∀p kvs' H',H p=none->H' p=some (.dK kvs')->PDk H' kvs' (T1 S.wares.length (L3 S))->Same H H'->Q (.ref p) H'
def zw(v:V)(p:Addr)(S:Sh)(H:Hp)(i:Nat)(Z:St)(H':Hp):Prop:=∃(n g:Option V) (kvs':List (Key×V)),Z=[some v,some (.ref p),n,g]/\H' p=some (.dK kvs')/\PDk H' kvs' ((L3 S).take i)/\Same H H'
def zq(v:V)(S:Sh)(H:Hp)(i:Nat)(Z:St)(H':Hp):Prop:=∃(q:Addr) (n g:Option V) (kvs':List (Key×V)),Z=[some v,some (.ref q),n,g]/\H q=none/\H' q=some (.dK kvs')/\PDk H' kvs' (T1 i (L3 S))/\Same H H'
theorem vj(S:Sh):Co (L3 S)=S.wares.map (·.name):=by unfold Co L3;rw[Zyh];rfl
theorem bc(S:Sh):(L3 S).length=S.wares.length:=by unfold L3;rw[Zzz]
theorem ou{S:Sh}(ok:bq S):∀e∈L3 S,e.2.length<=1000:=λe he=>by
 obtain⟨w,hw,rfl⟩:=Zzv.mp he
 show (w.parts.map (·.1)).length<=1000
 rw[Zzz]
 exact(ok.wares w hw).1
theorem sc_endless_parts:Bg ["shop", "parts", "ware", "turn"] ["shop"] (Ai Ig):=by walk_at "sc"
theorem Pz(F:Fun K "endless_parts" "endless_parts" Ig f fd)(T:Txt mg)(Zug:Has P w K mg base "part_names" 1 ["ware"] sp_part_names)(Zte:Has P w K mg base "without_ends" 1 ["parts"] sp_without_ends):D3 P w K mg base CX0 2 f fd ["shop"] sp_endless_parts:=by
 refine F.ok sc_endless_parts (λvs H Q E h=>?_) (λcdv A outer s H vs Q E hr h=>?_)
 ·obtain⟨v,S,rfl,_⟩:=h
  rfl
 ·obtain⟨v,S,rfl,rs,ok,k⟩:=h
  have hu:=Ch hr
  have nd:(Co (L3 S)).Nodup:=by rw[vj];exact ok.names
  refine⟨_,(A2 (Bh (i:=1) sc_endless_parts.nd rfl (Zzu rfl) Na)
 (A2 (D2 PassesOwn.never rfl (E5 (A8 hu (pv 0) A5 (λ_ _=>rfl))) (Ac (i:=2) sc_endless_parts.nd rfl (Zzu rfl))
 (Aa (Je (A9 Zug hr.z rfl (A3 (pv 2) A1)) (Jx (pv 1) (A8 hu (pv 2) (C0 rfl T.Zub) (λ_ _=>rfl)) (Kw hu)))))
 (A2 (D2 PassesOwn.never rfl (Dy rfl T.Zud (A3 (Bd Dp rfl T.Zue Fu (A3 (A8 hu (pv 0) A5 (λ_ _=>rfl)) A1)) A1)) (Ac (i:=3) sc_endless_parts.nd rfl (Zzu rfl))
 (Aa (Bh (i:=1) sc_endless_parts.nd rfl (Zzu rfl) (A9 Zte hr.z rfl (A3 (pv 1) A1)))))
 (Aa (Be (pv 1)))))),?_⟩
  obtain⟨a,b,c,ws,us,rfl,ha,hb,hc,rws,rus⟩:=Gn rs
  have hl:=Cm rws
  refine z6 (λZ' H'=>∃(p:Addr) (n g:Option V) (kvs':List (Key×V)),Z'=[some (.ref a),some (.ref p),n,g]/\H p=none/\H' p=some (.dK kvs')/\PDk H' kvs' (L3 S)/\Same H H') ?_ (λKK hK=>?_)
  ·rintro Z' H1 ⟨p,n,g,kvs',rfl,hp,hp1,pd,sm⟩
   walk_at "rd"
   refine⟨_,Ak (j:=0) (sm _ _ ha) rfl,b,rfl,_,.inr (sm _ _ hb),by omega,by have:=ok.len;omega,?_⟩
   have en:((ws.length:Nat):Int).toNat=S.wares.length:=by omega
   rw[en]
   refine Er (L4 0 _) (zq (.ref a) S H) ⟨p,_,_,_,rfl,hp,hp1,pd,sm⟩ (λ_ _ _ _ _=>trivial) (λi x Z H2 hi hx h=>?_) (λZ H2 h=>?_)
   ·obtain⟨q,n,g,kvs',rfl,hq,hq1,pd,sm⟩:=h
    walk_at "rd"
    refine⟨q,kvs',_,rfl,hq1,pd,T0 nd i,by have:=Yz (L3 S) i;rw[bc] at this;have:=ok.len;omega,λe he=>?_,λp2 kvs2 H3 hp2 hp3 pd3 bt=>?_⟩
    ·obtain⟨ps,h1,_,h3⟩:=Mv i he
     have:=ou ok _ h1
     have:ps.length<=1000:=this
     omega
    ·exact⟨p2,_,_,kvs2,rfl,Same.free sm hp2,hp3,pd3,λb' o hb'=>bt b' o (A4 hb' hq) (sm b' o hb')⟩
   ·obtain⟨q,n,g,kvs',rfl,hq,hq1,pd,sm⟩:=h
    walk_at "rd"
    exact k q kvs' H2 hq hq1 pd sm
  ·walk_at "rd"
   refine λp hp=>?_
   refine⟨_,Ak (j:=0) (by rw[A7 (A4 ha hp)];exact ha) rfl,b,rfl,_,by rw[A7 (A4 hb hp)];exact hb,?_⟩
   refine Er (Fx b _) (zw (.ref a) p S H) ⟨_,_,[],rfl,A0,.nil,A6 hp⟩ (λi Z H' _ h=>by obtain⟨_,_,_,_,_,_,s⟩:=h;exact s _ _ hb) (λi x Z H' hi hx h=>?_) (λZ H' h=>?_)
   ·obtain⟨n,g,kvs',rfl,h1,h2,sm⟩:=h
    obtain⟨w,hw,rw'⟩:=D4 rws hx
    have hg:(L3 S)[i]?=some (w.name,w.parts.map (·.1)):=by unfold L3;rw[Zzy,hw];rfl
    walk_at "rd"
    refine⟨x,w,rfl,RD.same sm _ _ rw',ok.wares w (Zzr hw),λq H2 hq hq2 sm2=>?_⟩
    obtain⟨e,c1,c2,rfl,he,_⟩:=Dq rw'
    have sm02:=sm.trans sm2
    have nin:w.name∉Co ((L3 S).take i):=λm=>by
     have nd':(Co ((L3 S).take i)++Co ((L3 S).drop i)).Nodup:=by
      have:Co ((L3 S).take i)++Co ((L3 S).drop i)=Co (L3 S):=by unfold Co;rw[<- Zzq,Zvt]
      rw[this];exact nd
     have hlt:i<(L3 S).length:=(Zz4.mp hg).1
     have md:w.name∈Co ((L3 S).drop i):=by
      unfold Co
      rw[List.drop_eq_getElem_cons hlt]
      have:(L3 S)[i]=(w.name,w.parts.map (·.1)):=(Zz4.mp hg).2
      rw[this,Zzp]
      exact Zzf
     exact(Zve.mp nd').2.2 _ m _ md rfl
    have hp2:=sm2 p _ h1
    refine⟨_,Ak (j:=0) (sm02 _ _ he) rfl,kvs',.inr w.name,rfl,hp2,?_,?_⟩
    ·have:=h2.len
     rw[Zye,bc] at this
     have:=ok.len
     exact Zya (m:=1000) (by omega) (by decide)
    ·have ku:∀l xs,H2 l=some (.lst xs)->upd H2 p (.dK (Jc kvs' (.inr w.name) (.ref q))) l=some (.lst xs):=λl xs h=>by rw[A7 (λz=>by rw[z,hp2] at h;cases h)];exact h
     refine⟨_,_,_,rfl,A0,?_,λb' o hb'=>by rw[A7 (A4 hb' hp)];exact sm02 b' o hb'⟩
     rw[Zyx,hg]
     exact((h2.mono λl xs h=>sm2 l _ h).mono ku).snoc nin (ku _ _ hq2)
   ·obtain⟨n,g,kvs',rfl,h1,h2,sm⟩:=h
    rw[hl,<- bc,Zyt] at h2
    exact hK _ _ ⟨p,_,_,kvs',rfl,hp,h1,h2,sm⟩
def X2(S:Sh):Prop:=T1 S.wares.length (L3 S)=[]
def sp_ring:Sp:=λvs H Q _=>∃(v:V) (S:Sh),vs=[v]/\RD H S.d v/\bq S/\X2 S/\∀H',Same H H'->Q .non H'
theorem sc_ring:Bg ["shop", "parts", "way", "name"] ["shop"] (Ai Vo):=by walk_at "sc"
theorem uz(F:Fun K "ring" "ring" Vo f fd)(T:Txt mg)(Ztk:Has P w K mg base "endless_parts" 2 ["shop"] sp_endless_parts):D3 P w K mg base CX0 3 f fd ["shop"] sp_ring:=by
 refine F.ok sc_ring (λvs H Q E h=>?_) (λcdv A outer s H vs Q E hr h=>?_)
 ·obtain⟨v,S,rfl,_⟩:=h
  rfl
 ·obtain⟨v,S,rfl,rs,ok,no,k⟩:=h
  have hu:=Ch hr
  refine⟨_,(A2 (Bh (i:=1) sc_ring.nd rfl (Zzu rfl) (A9 Ztk hr.z rfl (A3 (pv 0) A1)))
 (A2 (Db (E4 (u8 (pv 1))) (Aa (Be Ot)) C5)
 Jd)),?_⟩
  walk_at "rd"
  refine⟨v,S,rfl,rs,ok,λp kvs H' hp hp' pd sm=>?_⟩
  rw[no] at pd
  cases pd
  exact⟨p,rfl,[],hp',iteT (k H' sm)⟩
def sp_check_rings:Sp:=λvs H Q _=>∃(v:V) (S:Sh),vs=[v]/\RD H S.d v/\bq S/\X2 S/\∀H',Same H H'->Q .non H'
theorem sc_check_rings:Bg ["shop", "found", "names"] ["shop"] (Ai Jp):=by walk_at "sc"
theorem Sd(F:Fun K "check_rings" "check_rings" Jp f fd)(T:Txt mg)(Zrz:Has P w K mg base "ring" 3 ["shop"] sp_ring):D3 P w K mg base CX0 4 f fd ["shop"] sp_check_rings:=by
 refine F.ok sc_check_rings (λvs H Q E h=>?_) (λcdv A outer s H vs Q E hr h=>?_)
 ·obtain⟨v,S,rfl,_⟩:=h
  rfl
 ·obtain⟨v,S,rfl,rs,ok,no,k⟩:=h
  have hu:=Ch hr
  refine⟨_,(A2 (Bh (i:=1) sc_check_rings.nd rfl (Zzu rfl) (A9 Zrz hr.z rfl (A3 (pv 0) A1)))
 (Aa (Db (C6 Px (pv 1) Ot (Cc _)) Jd C5))),?_⟩
  walk_at "rd"
  refine⟨v,S,rfl,rs,ok,no,λH' sm=>?_⟩
  walk_at "rd"
  exact A09 trivial (k H' sm)
end
set_option maxHeartbeats 4000000
section
variable {P:Program}{w:World}{K:Zzw}{mg:Str->Option Value}{base:Heap}{f:Addr}{fd:FuncData}{Pt:Addr}
structure Z9(S:Sh):Prop extends Lev S where
 ok:bq S
 few:S.wares.length<64
theorem av{S:Sh}(h:Lev S):X2 S:=by
 obtain⟨r,h1,h2⟩:=h.low
 unfold X2
 refine q8 (r:=r) (λe he x hx=>?_) (λe he=>?_)
 ·obtain⟨w,hw,rfl⟩:=Zzv.mp he
  obtain⟨p,hp,rfl⟩:=Zzv.mp hx
  exact h2 w hw p hp
 ·obtain⟨w,hw,rfl⟩:=Zzv.mp he
  exact h1 w hw
def Cl(S:Sh):List Str:=S.wares.map (·.name)
theorem Il(S:Sh):(Cl S).length=S.wares.length:=by unfold Cl;rw[Zzz]
def sp_names_of:Sp:=λvs H Q _=>∃(v:V) (S:Sh),vs=[v]/\RD H S.d v/\S.wares.length<=1000/\∀p H',H p=none->H' p=some (.lst ((Cl S).map V.str))->Same H H'->Q (.ref p) H'
theorem Xd:Bg ["shop"] ["shop"] (Ai Ma):=by walk_at "sc"
theorem Xy(F:Fun K "names_of" "names_of" Ma f fd)(T:Txt mg):D3 P w K mg base CX0 1 f fd ["shop"] sp_names_of:=by
 refine F.ok Xd (λvs H Q E h=>?_) (λcdv A outer s H vs Q E hr h=>?_)
 ·obtain⟨v,S,rfl,_⟩:=h
  rfl
 ·obtain⟨v,S,rfl,rs,hlen,k⟩:=h
  have hu:=Ch hr
  refine⟨_,(Aa (Be (D5 (own:=["ware"]) (cap:=[]) rfl (Du rfl) (C8 (by decide)) (E5 (A8 hu (pv 0) A5 (λ_ _=>rfl)))
 (λ_ _ _ _ _ _=>⟨(Ac (i:=0) (of_decide_eq_true rfl) rfl (Zzu rfl) (.inr rfl)),D0,(A8 hu (pv 0) (C0 rfl T.Zub) (λ_ _=>rfl))⟩)))),?_⟩
  obtain⟨a,b,c,ws,us,rfl,ha,hb,hc,rws,rus⟩:=Gn rs
  have hl:=Cm rws
  walk_at "rd"
  refine⟨_,Ak (j:=0) ha rfl,b,rfl,_,hb,?_⟩
  refine Da (Fx b _) (Bf (by omega)) (λH' s'=>s' _ _ hb) ((Cl S).map V.str) (by rw[Zzz,Il,hl]) (λi x H' hi hx s' N M hN=>?_) (λH' s' p hp=>?_)
  ·obtain⟨y,hy,ry⟩:=D4 rws hx
   obtain⟨e,c1,c2,rfl,he,_⟩:=Dq ry
   walk_at "rd"
   refine⟨_,Ak (j:=0) (s' _ _ he) rfl,hN _ _ s' ?_⟩
   unfold Cl
   rw[Zzy,Zzy,hy]
   rfl
  ·exact k p _ (Same.free s' hp) A0 (s'.trans (A6 hp))
def sp_levels:Sp:=λvs H Q _=>∃(v:V) (S:Sh),vs=[v]/\RD H S.d v/\Z9 S/\∀p H',H p=none->H' p=some (.dK (fnD (Cl S) (lv S)))->Same H H'->Q (.ref p) H'
def wm(v:V)(p:Addr)(S:Sh)(H:Hp)(i:Nat)(Z:St)(H':Hp):Prop:=∃o1 o2 o3 o4:Option V,Z=[some v,some (.ref p),o1,o2,o3,o4]/\H' p=some (.dK (fnD ((Cl S).take i) λ_=>0))/\Same H H'
def xr(S:Sh)(k i j:Nat)(g:Str->Int):Prop:=(∀x,0<=g x/\lvF S k x<=g x/\(x∈Cl S->g x<=lv S x))/\(∀w∈S.wares.take i,∀p∈w.parts,1+lvF S k w.name<=g p.1)/\∀w,S.wares[i]?=some w->∀p∈w.parts.take j,1+lvF S k w.name<=g p.1
def wp(v:V)(p:Addr)(S:Sh)(H:Hp)(k:Nat)(Z:St)(H':Hp):Prop:=∃(o1 o2 o3 o4:Option V) (g:Str->Int),Z=[some v,some (.ref p),o1,o2,o3,o4]/\H' p=some (.dK (fnD (Cl S) g))/\(∀x,0<=g x/\lvF S k x<=g x/\(x∈Cl S->g x<=lv S x))/\Same H H'
def wq(v:V)(p:Addr)(S:Sh)(k:Nat)(H:Hp)(i:Nat)(Z:St)(H':Hp):Prop:=∃(o1 o2 o3 o4:Option V) (g:Str->Int),Z=[some v,some (.ref p),o1,o2,o3,o4]/\H' p=some (.dK (fnD (Cl S) g))/\xr S k i 0 g/\Same H H'
def qw(v:V)(p:Addr)(t:V)(S:Sh)(k i:Nat)(H:Hp)(j:Nat)(Z:St)(H':Hp):Prop:=∃(o1 o2 o4:Option V) (g:Str->Int),Z=[some v,some (.ref p),o1,o2,some t,o4]/\H' p=some (.dK (fnD (Cl S) g))/\xr S k i j g/\Same H H'
theorem sc_levels:Bg ["shop", "told", "name", "turn", "ware", "part"] ["shop"] (Ai Pb):=by walk_at "sc"
theorem im(F:Fun K "levels" "levels" Pb f fd)(T:Txt mg)(Zt8:Has P w K mg base "check_rings" 4 ["shop"] sp_check_rings)(Zuj:Has P w K mg base "names_of" 1 ["shop"] sp_names_of)(Zug:Has P w K mg base "part_names" 1 ["ware"] sp_part_names):D3 P w K mg base CX0 5 f fd ["shop"] sp_levels:=by
 refine F.ok sc_levels (λvs H Q E h=>?_) (λcdv A outer s H vs Q E hr h=>?_)
 ·obtain⟨v,S,rfl,_⟩:=h
  rfl
 ·obtain⟨v,S,rfl,rs,L,k⟩:=h
  have hu:=Ch hr
  refine⟨_,(A2 (Fm (A9 Zt8 hr.z rfl (A3 (pv 0) A1)))
 (A2 (Bh (i:=1) sc_levels.nd rfl (Zzu rfl) Na)
 (A2 (D2 PassesOwn.never rfl (G8 (A9 Zuj hr.z rfl (A3 (pv 0) A1))) (Ac (i:=2) sc_levels.nd rfl (Zzu rfl))
 (Aa (Je A5 (Jx (pv 1) (pv 2) (Kw hu)))))
 (A2 (D2 PassesOwn.never rfl (Dy rfl T.Zud (A3 (Bd Dp rfl T.Zue Fu (A3 (A8 hu (pv 0) A5 (λ_ _=>rfl)) A1)) A1)) (Ac (i:=3) sc_levels.nd rfl (Zzu rfl))
 (Aa (D2 PassesOwn.never rfl (E5 (A8 hu (pv 0) A5 (λ_ _=>rfl))) (Ac (i:=4) sc_levels.nd rfl (Zzu rfl))
 (Aa (D2 PassesOwn.never rfl (G8 (A9 Zug hr.z rfl (A3 (pv 4) A1))) (Ac (i:=5) sc_levels.nd rfl (Zzu rfl))
 (Aa (Je (Bd (Oe rfl) rfl T.Zsg Ox (A3 (A8 hu (pv 1) (pv 5) (λ_ _=>rfl)) (A3 (C7 Ds (A8 hu (pv 1) (A8 hu (pv 4) (C0 rfl T.Zub) (λ_ _=>rfl)) (λ_ _=>rfl)) A5) A1))) (Jx (pv 1) (pv 5) (Kw hu)))))))))
 (Aa (Be (pv 1))))))),?_⟩
  have hfew:=L.few
  walk_at "rd"
  refine⟨v,S,rfl,rs,L.ok,av L.toLev,λH1 sm1=>?_⟩
  obtain⟨a,b,c,ws,us,rfl,ha,hb,hc,rws,rus⟩:=Gn rs
  have hl:=Cm rws
  intro p hp
  have u1:=sm1.trans (A6 (o:=.dK []) hp)
  have fp:H p=none:=Same.free sm1 hp
  have hnl:=Il S
  refine⟨.ref a,S,rfl,RD.same u1 _ _ rs,by omega,λq H2 hq hq2 sm2=>⟨q,rfl,_,hq2,?_⟩⟩
  have hp2:=sm2 p _ A0
  have s2:=u1.trans sm2
  have qp:q≠p:=λz=>by rw[z,A0] at hq;cases hq
  refine Er (Ip q _) (λi Z H'=>wm (.ref a) p S H i Z H'/\H' q=some (.lst ((Cl S).map V.str))) ⟨⟨_,_,_,_,rfl,hp2,s2⟩,hq2⟩ (λi Z H' _ h=>h.2) (λi x Z H3 hi hx h=>?_) (λZ H3 h=>?_)
  ·obtain⟨⟨o1,o2,o3,o4,rfl,hp3,s3⟩,hq3⟩:=h
   rw[Zzz] at hi
   rw[Zzy] at hx
   cases en:(Cl S)[i]? with
   |none=>rw[en] at hx;cases hx
   |some nm =>
   rw[en] at hx
   have hx:V.str nm=x:=Zz3 hx
   subst hx
   walk_at "rd"
   refine⟨_,.inr nm,rfl,hp3,?_,⟨_,_,_,_,rfl,?_,λb' o' hb'=>by rw[A7 (A4 hb' fp)];exact s3 b' o' hb'⟩,by rw[A7 qp];exact hq3⟩
   ·rw[ee,Zye]
    exact Zya (m:=1000) (by omega) (by decide)
   ·have nin:nm∉(Cl S).take i:=Nt L.nd en
    rw[A0,vw nin,Zyx,en]
    exact congrArg (λz=>some (HO.dK z)) (Uw λx _=>by split<;>rfl)
  ·obtain⟨⟨o1,o2,o3,o4,rfl,hp3,s3⟩,_⟩:=h
   rw[Zzz,Zyt] at hp3
   walk_at "rd"
   refine⟨_,Ak (j:=0) (s3 _ _ ha) rfl,b,rfl,_,.inr (s3 _ _ hb),by omega,by omega,?_⟩
   have en:((ws.length:Nat):Int).toNat=S.wares.length:=by omega
   rw[en]
   refine Er (L4 0 _) (wp (.ref a) p S H) ⟨_,_,_,_,λ_=>0,rfl,hp3,λx=>⟨Zy3 _,Zy3 _,λ_=>Um S x⟩,s3⟩ (λ_ _ _ _ _=>trivial) (λk' x Z H4 hi hx h=>?_) (λZ H4 h=>?_)
   ·obtain⟨o1,o2,o3,o4,g,rfl,hp4,hg,s4⟩:=h
    walk_at "rd"
    refine⟨_,Ak (j:=0) (s4 _ _ ha) rfl,b,rfl,_,s4 _ _ hb,?_⟩
    refine Er (Fx b _) (wq (.ref a) p S k' H) ⟨_,_,_,_,g,rfl,hp4,⟨hg,(λw hw=>by cases hw),λw _ p hp=>by cases hp⟩,s4⟩ (λi Z H' _ h=>by obtain⟨_,_,_,_,_,_,_,_,s⟩:=h;exact s _ _ hb) (λi y Z H5 hi2 hy h=>?_) (λZ H5 h=>?_)
    ·obtain⟨o1,o2,o3,o4,g,rfl,hp5,hg,s5⟩:=h
     obtain⟨t,ht,rt⟩:=D4 rws hy
     have htm:=Zzr ht
     obtain⟨te,d1,d2,rfl,hte,_⟩:=Dq rt
     walk_at "rd"
     refine⟨.ref te,t,rfl,RD.same s5 _ _ rt,L.ok.wares t htm,λq2 H6 hq6 hq7 sm6=>⟨q2,rfl,_,hq7,?_⟩⟩
     have hp6:=sm6 p _ hp5
     have s6:=s5.trans sm6
     have q2p:q2≠p:=λz=>by rw[z,hp5] at hq6;cases hq6
     refine Er (Ip q2 _) (λj Z H'=>qw (.ref a) p (.ref te) S k' i H j Z H'/\H' q2=some (.lst ((t.parts.map (·.1)).map V.str))) ⟨⟨_,_,_,g,rfl,hp6,hg,s6⟩,hq7⟩ (λj Z H' _ h=>h.2) (λj z Z H7 hj hz h=>?_) (λZ H7 h=>?_)
     ·obtain⟨⟨o1,o2,o4,g,rfl,hp7,hg,s7⟩,hq8⟩:=h
      rw[Zzz,Zzz] at hj
      obtain⟨pp,hpp⟩:∃pp,t.parts[j]?=some pp:=⟨_,Zzs hj⟩
      rw[Zzy,Zzy,hpp] at hz
      have hz:V.str pp.1=z:=Zz3 hz
      subst hz
      have hpm:=Zzr hpp
      have hown:pp.1∈Cl S:=L.own t htm pp hpm
      have htn:t.name∈Cl S:=Zzv.mpr ⟨t,htm,rfl⟩
      walk_at "rd"
      have hg1:=(hg.1 pp.1)
      have hgt:=(hg.1 t.name)
      have hup:g t.name+1<=lv S pp.1:=by have h1:=hgt.2.2 htn;have h2:=Qy L.toLev htm hpm;omega
      refine⟨.int (g pp.1),L0 (.inl hp7) (R0 hown),_,Ak (j:=0) (s7 _ _ hte) rfl,.int (g t.name),L0 (.inl hp7) (R0 htn),_,rfl,_,rfl,_,.inr pp.1,rfl,hp7,by rw[ee,hnl];exact Zya (m:=1000) (by omega) (by decide),?_,by rw[A7 q2p];exact hq8⟩
      rw[vt hown]
      refine⟨_,_,_,λx=>if x=pp.1 then (if g t.name+1 > g pp.1 then g t.name+1 else g pp.1) else g x,rfl,A0,?_,λb' o' hb'=>by rw[A7 (A4 hb' fp)];exact s7 b' o' hb'⟩
      have gr:∀x,g x<=(if x=pp.1 then (if g t.name+1 > g pp.1 then g t.name+1 else g pp.1) else g x):=λx=>by
       split
       ·rename_i e;rw[e];split<;>omega
       ·exact Zy3 _
      refine⟨λx=>⟨Zx7 (hg.1 x).1 (gr x),Zx7 (hg.1 x).2.1 (gr x),λhx=>?_⟩,λw hw p hp=>Zx7 (hg.2.1 w hw p hp) (gr p.1),λw hw p hp=>?_⟩
      ·show (if x=pp.1 then (if g t.name+1 > g pp.1 then g t.name+1 else g pp.1) else g x)<=lv S x
       split
       ·rename_i e;rw[e];have:=hg1.2.2 hown;split<;>omega
       ·exact(hg.1 x).2.2 hx
      ·rw[ht] at hw
       have e:t=w:=Zz3 hw
       subst e
       rw[Zyx,hpp] at hp
       rcases Zyj.mp hp with m | m
       ·exact Zx7 (hg.2.2 t ht p m) (gr p.1)
       ·have e:p=pp:=by simpa using m
        subst e
        show 1+lvF S k' t.name<=(if p.1=p.1 then (if g t.name+1 > g p.1 then g t.name+1 else g p.1) else g p.1)
        rw[if_pos rfl]
        have:=hgt.2.1
        split<;>omega
     ·obtain⟨⟨o1,o2,o4,g,rfl,hp7,hg,s7⟩,_⟩:=h
      rw[Zzz,Zzz] at hg
      refine⟨_,_,_,_,g,rfl,hp7,⟨hg.1,λw hw p hp=>?_,λw _ p hp=>by cases hp⟩,s7⟩
      rw[Zyx,ht] at hw
      rcases Zyj.mp hw with m | m
      ·exact hg.2.1 w m p hp
      ·have e:w=t:=by simpa using m
       subst e
       exact hg.2.2 w ht p (by rw[Zyt];exact hp)
    ·obtain⟨o1,o2,o3,o4,g,rfl,hp5,hg,s5⟩:=h
     rw[hl] at hg
     exact⟨_,_,_,_,g,rfl,hp5,λx=>⟨(hg.1 x).1,nh (λx=>(hg.1 x).1) (λw hw p hp=>hg.2.1 w (by rw[Zyt];exact hw) p hp) x,(hg.1 x).2.2⟩,s5⟩
   ·obtain⟨o1,o2,o3,o4,g,rfl,hp4,hg,s4⟩:=h
    walk_at "rd"
    refine k p H4 fp ?_ s4
    rw[hp4]
    exact congrArg (λz=>some (HO.dK z)) (Uw λx hx=>Int.le_antisymm ((hg x).2.2 hx) (hg x).2.1)
def Ps(Pt:Addr):Sp:=λvs H Q _=>∃(v:V) (S:Sh),vs=[v]/\RD H S.d v/\Z9 S/\Tb H Pt/\∀p ys H',H p=none->H' p=some (.lst (ys.map V.str))->Vb (lv S) (Cl S) ys->Np (lv S) (Cl S) ys->Tb H' Pt->But Pt H H'->Q (.ref p) H'
theorem sc_worked:Bg ["shop", "level_of"] ["shop"] (Ai P9):=by walk_at "sc"
theorem ij{ct:Addr}(F:Fun K "worked" "worked" P9 f fd)(T:Txt mg)(Zs5:Has P w K mg base "levels" 5 ["shop"] sp_levels)(Zuj:Has P w K mg base "names_of" 1 ["shop"] sp_names_of)(C:rj K f ct Pt)(hB:Op mg base):D3 P w K mg base CX0 6 f fd ["shop"] (Ps Pt):=by
 refine F.okC C sc_worked (λvs H Q E h=>?_) (λA outer s H vs Q E hr h=>?_)
 ·obtain⟨v,S,rfl,_⟩:=h
  rfl
 ·obtain⟨v,S,rfl,rs,L,tb,k⟩:=h
  have hu:=Ch hr
  refine⟨_,(A2 (Bh (i:=1) sc_worked.nd rfl (Zvu rfl) (A9 Zs5 hr.z rfl (A3 (pv 0) A1)))
 (Aa (Be (mi (i:=1) (nm := "name") (lv := "level_of") rfl T.Zs0 (A9 Zuj hr.z rfl (A3 (pv 0) A1)) hr rfl C.hd hB rfl rfl rfl (λ_ h=>Z2 rfl h) ⟨rfl,rfl,rfl,rfl,rfl,by decide⟩ (λ_ _ _ _ _=>rfl))))),?_⟩
  have hfew:=L.few
  walk_at "rd"
  refine⟨v,S,rfl,rs,L,λp H1 hp hp1 sm1=>?_⟩
  refine⟨v,S,rfl,RD.same sm1 _ _ rs,by omega,λq H2 hq hq2 sm2=>?_⟩
  have s2:=sm1.trans sm2
  unfold Cj
  refine⟨q,Cl S,p,fnD (Cl S) (lv S),lv S,rfl,hq2,by rw[Il];exact hfew,rfl,sm2 _ _ hp1,λx hx=>R0 hx,TblAt.same tb s2,λr ys H3 hr3 hr4 so sb tb3 bt=>?_⟩
  exact k r ys H3 (Same.free s2 hr3) hr4 so sb tb3 (λb o nb hb=>bt b o nb (s2 b o hb))
theorem Tb.same{H H':Hp}{Pt:Addr}(t:Tb H Pt)(s:Same H H'):Tb H' Pt:=TblAt.same t s
theorem Tb.at{H:Hp}{Pt:Addr}(t:Tb H Pt):∃u,H Pt=some (.tbl u):=t.elim (λe=>⟨_,e⟩) (λz0=>by obtain⟨_,e,_⟩:=z0;exact ⟨_,e⟩)
theorem bz{H H':Hp}{Pt:Addr}(t:Tb H Pt)(b:But Pt H H'):KeepU H H':=λa xs e=>b a _ (λz=>by obtain⟨u,hu⟩:=t.at;rw[z,hu] at e;cases e) e
theorem Om{H:Hp}{Pt p:Addr}{o:HO}(t:Tb H Pt)(h:H p=some o)(hn:∀u,o≠.tbl u):p≠Pt:=λz=>by
 obtain⟨u,e⟩:=t.at
 rw[<- z,h] at e
 exact hn u (Zz3 e)
end
set_option maxHeartbeats 4000000
def Z6(c:Int×Int):D:=.tup [.int c.1,.int c.2]
def My(p:Str×Int):D:=.tup [.str p.1,.int p.2]
def Ge(w:Wr):D:=.tup [.str w.name,.int w.lag,.int w.gives,.int w.floor,.int w.stock,.tup (w.coming.map Z6),.tup (w.parts.map My)]
def Mx(u:Wt):D:=.tup [.str u.1,.int u.2.1,.int u.2.2]
theorem No{α:Type}{f:α->D}{p:D->Bool}(g:∀d,p d=true->∃x,d=f x):∀ds:List D,ds.all p=true->∃xs:List α,ds=xs.map f
 |[],_=>⟨[],rfl⟩
 |d::r,h=>by
  rw[Zwe,Zza] at h
  obtain⟨x,rfl⟩:=g d h.1
  obtain⟨xs,rfl⟩:=No g r h.2
  exact⟨x::xs,rfl⟩
theorem Wg{d:D}(h:Hr d=true):∃x,d=.str x:=by
 cases d with
 |str x=>exact⟨x,rfl⟩
 |_=>cases h
theorem Oc{d:D}{n:Int}(h:Dw d n=true):∃i,d=.int i:=by
 cases d with
 |int x=>exact⟨x,rfl⟩
 |_=>cases h
theorem Ww{d:D}{n m:Int}(h:Dz d n m=true):∃i,d=.int i:=by
 cases d with
 |int x=>exact⟨x,rfl⟩
 |_=>cases h
theorem ze{d:D}(h:El d=true):∃c,d=Z6 c:=by
 unfold El at h
 split at h
 ·simp only[Zza] at h
  obtain⟨i,rfl⟩:=Ww h.1
  obtain⟨j,rfl⟩:=Oc h.2
  exact⟨(i,j),rfl⟩
 ·cases h
theorem uk{d:D}(h:isPart d=true):∃c,d=My c:=by
 unfold isPart at h
 split at h
 ·simp only[Zza] at h
  obtain⟨i,rfl⟩:=Wg h.1
  obtain⟨j,rfl⟩:=Oc h.2
  exact⟨(i,j),rfl⟩
 ·cases h
theorem se{d:D}(h:Gb d=true):∃u,d=Mx u:=by
 unfold Gb at h
 split at h
 ·simp only[Zza] at h
  obtain⟨x,rfl⟩:=Wg h.1.1
  obtain⟨i,rfl⟩:=Ww h.1.2
  obtain⟨j,rfl⟩:=Oc h.2
  exact⟨(x,i,j),rfl⟩
 ·cases h
theorem bv{d:D}(h:isWare d=true):∃u:Wr,d=Ge u/\zg u:=by
 unfold isWare at h
 split at h
 ·rename_i n l g f s c p
  simp only[Zza] at h
  obtain⟨⟨⟨⟨⟨⟨h1,h2⟩,h3⟩,h4⟩,h5⟩,h6⟩,h7⟩:=h
  obtain⟨x,rfl⟩:=Wg h1
  obtain⟨i2,rfl⟩:=Ww h2
  obtain⟨i3,rfl⟩:=Oc h3
  obtain⟨i4,rfl⟩:=Oc h4
  obtain⟨i5,rfl⟩:=Oc h5
  cases c with
  |tup cs =>
   cases p with
   |tup ps =>
    have h6:(decide (cs.length<=12)&&cs.all El)=true:=h6
    have h7:(decide (ps.length<=6)&&ps.all isPart&&unl (ps.map nameOf))=true:=h7
    simp only[Zza,decide_eq_true_eq] at h6 h7
    obtain⟨cs,rfl⟩:=No (λd=>ze) _ h6.2
    obtain⟨ps,rfl⟩:=No (λd=>uk) _ h7.1.2
    have l6:=h6.1
    have l7:=h7.1.1
    rw[Zzz] at l6 l7
    exact⟨⟨x,i2,i3,i4,i5,cs,ps⟩,rfl,by show ps.length<=1000;omega,by show cs.length<=1000;omega⟩
   |_=>cases h7
  |_=>cases h6
 ·cases h
mutual
def toP:D->PyData
 |.int i=>.int i
 |.str x=>.str x
 |.tup ds=>.tuple (Tc ds)
 |.non=>.none
 |.bl _=>.none
 |.lst=>.none
 |.dct=>.none
def Tc:List D->List PyData
 |[]=>[]
 |d::r=>toP d::Tc r
end
mutual
def okP:D->Bool
 |.int _=>true
 |.str _=>true
 |.tup ds=>Qr ds
 |.non=>false
 |.bl _=>false
 |.lst=>false
 |.dct=>false
def Qr:List D->Bool
 |[]=>true
 |d::r=>okP d&&Qr r
end
mutual
theorem Zv{H:Hp}:∀(d:D) (v:V),okP d=true->Rep H d v->RD H (toP d) v
 |.int i,v,_,h=>by rw[Rep] at h;rw[toP,RD];exact h
 |.str x,v,_,h=>by rw[Rep] at h;rw[toP,RD];exact h.1
 |.tup ds,v,o,h=>by
  rw[okP] at o
  rw[Rep] at h
  obtain⟨a,xs,rfl,ha,_,r⟩:=h
  rw[toP]
  exact RD.tup_mk ha (Xk ds xs o r)
 |.non,_,o,_=>by rw[okP] at o;cases o
 |.bl _,_,o,_=>by rw[okP] at o;cases o
 |.lst,_,o,_=>by rw[okP] at o;cases o
 |.dct,_,o,_=>by rw[okP] at o;cases o
theorem Xk{H:Hp}:∀(ds:List D) (xs:List V),Qr ds=true->Reps H ds xs->RDs H (Tc ds) xs
 |[],xs,_,h=>by rw[Reps] at h;rw[h,Tc];exact RDs.nil
 |d::r,xs,o,h=>by
  rw[Qr,Zza] at o
  rw[Reps] at h
  obtain⟨x,ys,rfl,h1,h2⟩:=h
  rw[Tc]
  exact RDs.cons (Zv d x o.1 h1) (Xk r ys o.2 h2)
end
theorem Rn{α:Type}(f:α->D):∀xs:List α,Tc (xs.map f)=xs.map λx=>toP (f x)
 |[]=>by rw[Zyv,Tc];rfl
 |x::r=>by rw[Zzp,Tc,Rn f r];rfl
theorem Nc{α:Type}(f:α->D)(h:∀x,okP (f x)=true):∀xs:List α,Qr (xs.map f)=true
 |[]=>by rw[Zyv,Qr]
 |x::r=>by rw[Zzp,Qr,h x,Nc f h r];rfl
theorem Y6(u:Wr):okP (Ge u)=true:=by
 unfold Ge
 simp only[okP,Qr,Nc Z6 (λc=>by unfold Z6;simp only[okP,Qr,Zxg]),Nc My (λc=>by unfold My;simp only[okP,Qr,Zxg]),Zxg]
theorem X9(u:Wr):toP (Ge u)=u.d:=by
 unfold Ge Wr.d
 simp only[toP,Tc,Rn]
 rfl
theorem tj{H:Hp}{u:Wr}{v:V}(h:Rep H (Ge u) v):RD H u.d v:=by
 rw[<- X9]
 exact Zv _ _ (Y6 u) h
theorem tm{H:Hp}{ws:List Wr}{us:List Wt}{v:V}(h:Rep H (.tup [.tup (ws.map Ge),.tup (us.map Mx)]) v):RD H (Sh.d ⟨ws,us⟩) v:=by
 have e:toP (.tup [.tup (ws.map Ge),.tup (us.map Mx)])=Sh.d ⟨ws,us⟩:=by
  unfold Sh.d
  simp only[toP,Tc,Rn,X9]
  rfl
 rw[<- e]
 refine Zv _ _ ?_ h
 simp only[okP,Qr,Nc Ge Y6,Nc Mx (λc=>by unfold Mx;simp only[okP,Qr,Zxg]),Zxg]
theorem ia{H:Hp}{v:V}{d:D}{Q:VK}{E:XK}(h:Rep H d v)(hw:isWare d=true)(k:∀p H',H p=none->H' p=some (.lst (((S5 d).map nameOf).map V.str))->Same H H'->Q (.ref p) H'):sp_part_names [v] H Q E:=by
 obtain⟨u,rfl,ok⟩:=bv hw
 have e:(S5 (Ge u)).map nameOf=u.parts.map (·.1):=by
  show (u.parts.map My).map nameOf=_
  rw[Zyh]
  rfl
 rw[e] at k
 exact⟨v,u,rfl,tj h,ok,k⟩
theorem Uk{H:Hp}{v:V}{ws us:List D}{Q:VK}{E:XK}(h:Rep H (.tup [.tup ws,.tup us]) v)(hw:∀d∈ws,isWare d=true)(hus:∀d∈us,Gb d=true)(hl:ws.length<=12)(k:∀p H',H p=none->H' p=some (.lst ((ws.map nameOf).map V.str))->Same H H'->Q (.ref p) H'):sp_names_of [v] H Q E:=by
 obtain⟨ws,rfl⟩:=No (f:=Ge) (λd hd=>(bv hd).imp λ_ z=>z.1) ws (Zyi.mpr hw)
 obtain⟨us,rfl⟩:=No (f:=Mx) (λd=>se) us (Zyi.mpr hus)
 rw[Zzz] at hl
 have e:(ws.map Ge).map nameOf=Cl ⟨ws,us⟩:=by
  rw[Zyh]
  rfl
 rw[e] at k
 exact⟨v,⟨ws,us⟩,rfl,tm h,by show ws.length<=1000;omega,k⟩
section
variable {P:Program}{w:World}{K:Zzw}{mg:Str->Option Value}{base:Heap}{f:Addr}{fd:FuncData}
theorem Ym{d:D}(h:Gb d=true):∃x b,d=.tup (.str x::b):=by
 unfold Gb at h
 split at h
 ·rename_i a b c
  simp only[Zza] at h
  cases a with
  |str x=>exact⟨x,_,rfl⟩
  |_=>exact absurd h.1.1 Zz9
 ·cases h
def sp_needed_names:Sp:=λvs H Q _=>∃(v:V) (ws us:List D),vs=[v]/\Rep H (.tup [.tup ws,.tup us]) v/\(∀d∈ws,isWare d=true)/\ws.length<=12/\(∀d∈us,Gb d=true)/\us.length<=20/\∀p H',H p=none->H' p=some (.lst ((K8 ws us).map V.str))->Same H H'->Q (.ref p) H'
def A0p(v:V)(p:Addr)(ws us:List D)(H:Hp)(i:Nat)(Z:St)(H':Hp):Prop:=∃o2:Option V,Z=[some v,some (.ref p),o2]/\H' p=some (.lst ((K8 (ws.take i) us).map V.str))/\Same H H'
theorem Ya{ws us:List D}(hw:∀d∈ws,isWare d=true):(K8 ws us).length<=us.length+6*ws.length:=by
 unfold K8
 rw[Zym,Zzz]
 have:((ws.map λw=>(S5 w).map nameOf).flatten).length<=6*ws.length:=by
  induction ws with
  |nil=>exact Zzm _
  |cons d r ih =>
   obtain⟨_,_,_,_,_,_,ps,_,h6,_,e⟩:=Pi (hw d Zzf)
   rw[Zzp,Zyr,Zym,Zzz,e,Zzk]
   have:=ih λx hx=>hw x (Zzd _ hx)
   omega
 omega
theorem sc_needed_names:Bg ["shop", "names", "ware"] ["shop"] (Ai Ix):=by walk_at "sc"
theorem Qn(F:Fun K "needed_names" "needed_names" Ix f fd)(T:Txt mg)(Zug:Has P w K mg base "part_names" 1 ["ware"] sp_part_names):D3 P w K mg base CX0 2 f fd ["shop"] sp_needed_names:=by
 refine F.ok sc_needed_names (λvs H Q E h=>?_) (λcdv A outer s H vs Q E hr h=>?_)
 ·obtain⟨v,ws,us,rfl,_⟩:=h
  rfl
 ·obtain⟨v,ws,us,rfl,hv,hw,hl,hus,hul,k⟩:=h
  have hu:=Ch hr
  refine⟨_,(A2 (G7 (own:=["want"]) (cap:=[]) (i:=1) rfl (Du rfl) (C8 (by decide)) sc_needed_names.nd rfl rfl (E5 (A8 hu (pv 0) A5 (λ_ _=>rfl)))
 (λ_ _ _ _ _ _=>⟨(Ac (i:=0) (of_decide_eq_true rfl) rfl (Zzu rfl) (.inr rfl)),D0,(A8 hu (pv 0) A5 (λ_ _=>rfl))⟩))
 (A2 (D2 PassesOwn.never rfl (E5 (A8 hu (pv 0) A5 (λ_ _=>rfl))) (Ac (i:=2) sc_needed_names.nd rfl (Zzu rfl))
 (Aa (Fm (Gf Zyl Zw8 Zw7 Ob (pv 1) (A3 (A9 Zug hr.z rfl (A3 (pv 2) A1)) A1)))))
 (Aa (Be (pv 1))))),?_⟩
  walk_at "rd"
  obtain⟨a,xs,rfl,ha,hxl,_,g⟩:=Kp hv
  obtain⟨v0,e0,r0⟩:=g 0 _ rfl
  obtain⟨v1,e1,r1⟩:=g 1 _ rfl
  rw[Rep] at r0 r1
  obtain⟨b,ys,rfl,hb,hz,r⟩:=r0
  obtain⟨c,zs,rfl,hc,hz1,rz⟩:=r1
  refine⟨_,Ak (j:=1) ha e1,c,rfl,zs,hc,?_⟩
  refine Da (Fx c zs) (by rw[rz.length];exact Bf (by omega)) (λH' s'=>s' _ _ hc) ((us.map nameOf).map V.str) (by simp[rz.length]) (λi y H' hi hy s' N M hN=>?_) (λH1 s1 p hp=>?_)
  ·obtain⟨d,hd,rd⟩:=rz.get hy
   obtain⟨z,bb,rfl⟩:=Ym (hus d (Zzr hd))
   walk_at "rd"
   exact⟨_,lx (rd.same s'),hN _ _ s' (by rw[Zzy,Zzy,hd];rfl)⟩
  have u1:=s1.trans (A6 (o:=.lst ((us.map nameOf).map V.str)) hp)
  have fp:H p=none:=Same.free s1 hp
  refine⟨_,Ak (j:=0) (u1 _ _ ha) e0,b,rfl,ys,u1 _ _ hb,?_⟩
  refine Er (Fx b ys) (A0p (.ref a) p ws us H) ⟨_,rfl,by rw[A0];unfold K8;simp,u1⟩ (λi Z H' _ h=>by obtain⟨_,_,_,s⟩:=h;exact s _ _ hb) (λi x Z H2 hi hx h=>?_) (λZ H2 h=>?_)
  ·obtain⟨o2,rfl,hp2,s2⟩:=h
   obtain⟨d,hd,rd⟩:=r.get hx
   have hdm:=Zzr hd
   obtain⟨_,_,_,_,_,_,ps,_,h6,_,epd⟩:=Pi (hw d hdm)
   walk_at "rd"
   refine⟨G2 hp2,ia (rd.same s2) (hw d hdm) λq H3 hq hq3 s3=>?_⟩
   have hp3:=s3 _ _ hp2
   have hnl:=Ya (us:=us) (ws:=ws.take i) λx hx=>hw x (Zuz hx)
   rw[Zye] at hnl
   have hil:=(Zz4.mp hd).1
   refine⟨p,q,_,_,rfl,rfl,hp3,hq3,Zyf (m:=1000) (by rw[Zzz,Zzz,Zzz,epd];omega) (by decide),_,rfl,?_,λb' o' e=>?_⟩
   ·rw[A0,<- Zzq]
    congr 3
    unfold K8
    rw[Zyx,hd,Zzq,Zw6,List.append_assoc]
    simp
   ·rw[A7 (A4 e fp)]
    exact s3 _ _ (s2 _ _ e)
  ·obtain⟨o2,rfl,hp2,s2⟩:=h
   walk_at "rd"
   rw[r.length,Zyt] at hp2
   exact k p H2 fp hp2 s2
def sp_is_shop:Sp:=λvs H Q _=>∃v d,vs=[v]/\Rep H d v/\∀H',Same H H'->Q (.bl (Jy d)) H'
theorem sc_is_shop:Bg ["found", "names"] ["found"] (Ai Nz):=by walk_at "sc"
theorem ag(F:Fun K "is_shop" "is_shop" Nz f fd)(T:Txt mg)(Zsr:Has P w K mg base "are_wants" 5 ["found"] sp_are_wants)(Zsq:Has P w K mg base "are_wares" 7 ["found"] sp_are_wares)(Zul:Has P w K mg base "is_tuple" 1 ["found", "least", "most"] sp_is_tuple)(Zuj:Has P w K mg base "names_of" 1 ["shop"] sp_names_of)(Ztd:Has P w K mg base "needed_names" 2 ["shop"] sp_needed_names):D3 P w K mg base CX0 8 f fd ["found"] sp_is_shop:=by
 refine F.ok sc_is_shop (λvs H Q E h=>?_) (λcdv A outer s H vs Q E hr h=>?_)
 ·obtain⟨v,d,rfl,_⟩:=h
  rfl
 ·obtain⟨v,d,rfl,hv,k⟩:=h
  have hu:=Ch hr
  refine⟨_,(A2 (Db (PW.pt (N9 (E4 (Es (A9 Zul hr.z rfl (A3 (pv 0) (A3 A5 (A3 A5 A1)))))) (N9 (E4 (Es (A9 Zsq hr.z rfl (A3 (A8 hu (pv 0) A5 (λ_ _=>rfl)) A1)))) (Mk (E4 (Es (A9 Zsr hr.z rfl (A3 (A8 hu (pv 0) A5 (λ_ _=>rfl)) A1)))))))) (Aa (Be K6)) C5)
 (A2 (Bh (i:=1) sc_is_shop.nd rfl (Zvu rfl) (A9 Zuj hr.z rfl (A3 (pv 0) A1)))
 (Aa (Be (Bd (J7 rfl) rfl T.Zt4 Mw (A3 (D5 (own:=["name"]) (cap:=[1]) rfl (Du rfl) (C8 (by decide)) (G8 (A9 Ztd hr.z rfl (A3 (pv 0) A1)))
 (λ_ _ _ _ _ _=>⟨(Ac (i:=0) (of_decide_eq_true rfl) rfl (Zzu rfl) (.inr rfl)),D0,(Ih (Py hu) (pv 0) (pv 1) rfl)⟩)) A1)))))),?_⟩
  walk_at "rd"
  refine⟨v,d,2,2,rfl,hv,λH1 s1=>?_⟩
  walk_at "rd"
  have no:Jy d=false->Q (.bl false) H1:=λe=>by
   have k:=k H1 s1
   rw[e] at k
   exact k
  cases h:Ii d 2 2 with
  |false =>
   rw[if_pos (by decide)]
   refine no ?_
   unfold Jy
   split
   ·cases h
   ·rfl
  |true =>
  rw[if_neg (by decide)]
  obtain⟨x,y,rfl⟩:=Nj h
  obtain⟨a,xs,rfl,ha,hl,_,g⟩:=Kp (hv.same s1)
  obtain⟨v0,e0,r0⟩:=g 0 _ rfl
  obtain⟨v1,e1,r1⟩:=g 1 _ rfl
  refine⟨_,Ak (j:=0) ha e0,v0,x,rfl,r0,λH2 s2=>⟨_,rfl,?_⟩⟩
  cases h1:Ib x with
  |false =>
   rw[if_pos (by decide)]
   have e:Jy (.tup [x,y])=false:=by
    unfold Jy
    split
    ·rename_i ws us e
     cases e
     rw[h1,Zxz,Zxz]
    ·rfl
   have k:=k H2 (s1.trans s2)
   rw[e] at k
   exact k
  |true =>
  rw[if_neg (by decide)]
  refine⟨_,Ak (j:=1) (s2 _ _ ha) e1,v1,y,rfl,r1.same s2,λH3 s3=>⟨_,rfl,?_⟩⟩
  cases h2:Ic y with
  |false =>
   rw[if_pos (by decide)]
   have e:Jy (.tup [x,y])=false:=by
    unfold Jy
    split
    ·rename_i ws us e
     cases e
     rw[h2,Zuu,Zxz]
    ·rfl
   have k:=k H3 ((s1.trans s2).trans s3)
   rw[e] at k
   exact k
  |true =>
  rw[if_neg (by decide)]
  obtain⟨ws,rfl⟩:∃ws,x=.tup ws:=by
   cases x with
   |tup ws=>exact⟨ws,rfl⟩
   |_=>cases h1
  obtain⟨us,rfl⟩:∃us,y=.tup us:=by
   cases y with
   |tup us=>exact⟨us,rfl⟩
   |_=>cases h2
  have h1':(decide (1<=ws.length)&&decide (ws.length<=12)&&ws.all isWare&&unl (ws.map nameOf))=true:=h1
  have h2':(decide (us.length<=20)&&us.all Gb)=true:=h2
  simp only[Zza] at h1' h2'
  have hw:∀d∈ws,isWare d=true:=Zyi.mp h1'.1.2
  have hwl:=of_decide_eq_true h1'.1.1.2
  have hus:∀d∈us,Gb d=true:=Zyi.mp h2'.2
  have hul:=of_decide_eq_true h2'.1
  have s03:=(s1.trans s2).trans s3
  refine Uk (hv.same s03) hw hus hwl λp H4 hp hp4 s4=>?_
  refine⟨_,ws,us,rfl,(hv.same s03).same s4,hw,hwl,hus,hul,λq H5 hq hq5 s5=>⟨q,rfl,_,hq5,?_⟩⟩
  have hnl:=Ya (us:=us) hw
  have hp5:=s5 _ _ hp4
  refine Da (Ip q _) (Bf (by rw[Zzz];omega)) (λH' s'=>s' _ _ hq5) (((K8 ws us).map λz=>decide (z∈ws.map nameOf)).map V.bl) (by rw[Zzz,Zzz,Zzz]) (λi z H' hi hz s' N M hN=>?_) (λH6 s6 r hr6=>?_)
  ·rw[Zzy] at hz
   cases en:(K8 ws us)[i]? with
   |none=>rw[en] at hz;cases hz
   |some nm =>
   rw[en] at hz
   have hz:V.str nm=z:=Zz3 hz
   subst hz
   walk_at "rd"
   refine⟨_,.inl ⟨p,_,rfl,.inl (s' _ _ hp5),rfl,Og _,rfl⟩,?_⟩
   rw[Pl]
   exact hN _ _ s' (by rw[Zzy,Zzy,en];rfl)
  ·refine⟨r,rfl,_,A0,?_⟩
   have k:=k _ ((s03.trans s4).trans ((s5.trans s6).trans (A6 (o:=.lst (((K8 ws us).map λz=>decide (z∈ws.map nameOf)).map V.bl)) hr6)))
   have e:Jy (.tup [.tup ws,.tup us])=((K8 ws us).map λz=>decide (z∈ws.map nameOf)).all id:=by
    show (Ib (.tup ws)&&Ic (.tup us)&&(K8 ws us).all λx=>decide (x∈ws.map nameOf))=_
    rw[h1,h2,Zyc,Zyc,Zwu]
    rfl
   rw[e] at k
   exact k
end
set_option maxHeartbeats 4000000
section
variable {P:Program}{w:World}{K:Zzw}{mg:Str->Option Value}{base:Heap}{f:Addr}{fd:FuncData}
def figs:List Nat:=("0123456789" : Str).cps.toList
def Ju(x:Str):Bool:=decide (x = "0")||!decide ((⟨#[x.cps.toList.headD 0]⟩:Str) = "0")
def L1(x:Str):Bool:=decide (1<=x.length)&&decide (x.length<=60)&&(x.cps.toList.all λc=>decide (c∈figs))&&Ju x
def Q2:D->Bool
 |.str x=>L1 x
 |_=>false
theorem vb{x:Str}{bs:List Bool}{Q:VK}{H2:Hp}(hx:x.length<=1000)(h1:1<=x.length)(k:Q (V.bl (bs.all id&&Ju x)) H2) :
  if (!bs.all id)=true then Q (V.bl false) H2 else lm (V.str x) (V.str (Str.ofString "0"))=true/\if decide (x=Str.ofString "0")=true then Q (V.bl true) H2 else ∃v,Ol H2 (V.str x) (V.int 0) v/\lm v (V.str (Str.ofString "0"))=true/\Q (V.bl !decide (v=V.str (Str.ofString "0"))) H2:=by
 cases ha:bs.all id with
 |false =>
  rw[ha] at k
  exact k
 |true =>
  rw[ha,Zyc] at k
  rw[if_neg (by decide)]
  refine⟨rfl,Fj (λh4=>?_) (λh4=>?_)⟩
  ·have:Ju x=true:=by
    unfold Ju
    have h4:decide (x=("0" : Str))=true:=h4
    rw[h4]
    rfl
   rw[this] at k
   exact k
  ·have hl:x.cps.toList.length=x.length:=Zwr
   refine⟨_,yt (Bf hx) (by decide) (c:=x.cps.toList.headD 0) ?_,rfl,?_⟩
   ·cases e:x.cps.toList with
    |nil=>rw[e] at hl;simp at hl;omega
    |cons a r=>rfl
   ·have:Ju x=!decide (V.str (⟨#[x.cps.toList.headD 0]⟩:Str)=V.str (Str.ofString "0")):=by
     unfold Ju
     have h4:decide (x=("0" : Str))=false:=Zwt.mpr h4
     rw[h4,Bool.false_or]
     congr 1
     exact decide_eq_decide.mpr ⟨λz=>by rw[z],λz=>V.str.inj z⟩
    rw[this] at k
    exact k
def sp_is_number:Sp:=λvs H Q _=>∃v d,vs=[v]/\Rep H d v/\∀H',Same H H'->Q (.bl (Q2 d)) H'
theorem Vk:Bg ["word"] ["word"] (Ai Lo):=by walk_at "sc"
theorem W8(F:Fun K "is_number" "is_number" Lo f fd)(T:Txt mg):D3 P w K mg base CX0 1 f fd ["word"] sp_is_number:=by
 refine F.ok Vk (λvs H Q E h=>?_) (λcdv A outer s H vs Q E hr h=>?_)
 ·obtain⟨v,d,rfl,_⟩:=h
  rfl
 ·obtain⟨v,d,rfl,hv,k⟩:=h
  have hu:=Ch hr
  refine⟨_,(A2 (Db (PW.pt (N9 (E4 (Es (Bd Ir rfl T.Zu7 Gj (A3 (pv 0) (A3 (O8 (v:=.ty "str") rfl T.Ztp K0 rfl) A1))))) (Mk (E4 (Xo S7 S7 A5 (Bd call_lenA rfl T.Zue Fu (A3 (pv 0) A1)) (C0 rfl T.Zu6)))))) (Aa (Be K6)) C5)
 (A2 (Db (E4 (Es (Bd (J7 rfl) rfl T.Zt4 Mw (A3 (D5 (own:=["sign"]) (cap:=[]) rfl (Du rfl) (C8 (by decide)) (Mm (pv 0))
 (λ_ _ _ _ _ _=>⟨(Ac (i:=0) (of_decide_eq_true rfl) rfl (Zzu rfl) (.inr rfl)),D0,(Ih (Py hu) (pv 0) (Xq rfl T.Zta) rfl)⟩)) A1)))) (Aa (Be K6)) C5)
 (Aa (Be (A01 (Ih (Fz hu) (pv 0) D7 (Cc _)) (Kx (Ih (Vv hu) (A8 hu (pv 0) A5 (λ_ _=>rfl)) D7 (Cc _)))))))),?_⟩
  simp only[G5,tNext,Gv,Eu,Gp,Gz,Eh,Ha,Ci,Hh,Gq,tC,tCB,E3,tNil,E1,tOp,tUn,E2,tB,Hb,tOr,Gx,Ej,Gw,Ed,tIf,Gu,Gy,tSl,Ec,tNoPart,tBA,Hk,tDNewK,D9,tYes,rI,rI0,rU,rEq,rNe,rIsA,rIsnotA,rItem,lenA,Dg,Fb,Ex,Fc,tupleA,lenQ,Ho,Hq,rSetD,Fa,He,Hd,Hs,rCat,rCatTT,Ek,E9,E8,Hg,Ea,Eb,Ef,tIf,Ep,Ht,Eo,En,rEqD,rNeD,Hn,Hl,Hu,Dc,Cj,Dd,De,rSortT,Dh,Ct,rSum,rMaxL,Ey,Ee,rGetL,F0,Ei,rRep,Cq,rMax2,rCount,Cr,Hm,rAppend,Df,Cb,rSetA,rSetL,L2.Dn,Fd,Ca,Cp,Cw,Ez,Ew,rStrI,rIntT,Ev,rSplit,rJoin,Eg,Em,  D.ty,Af,Ah,Ag,Ad,Ab,Ae,Bc,Bt,Bs,Ba,Aq,Bb,Bp,Bz,Bw,Bn,Ax,Bo,Bk,Bv,Bu,Bi,At,Bj,Aw,Bm,Bl,Au,Ao,Av,An,As,Ar,Al,Aj,Am,B2,Br,Bq,Ay,Ap,Az,Cv,Cf,Cu,Cd,C4,Ce,Zyq,Zyp,Zyk,Zyo,Zz7,Zzc,Zz6,Zz5,↓reduceIte,Zzp,Zyv,Zzn,Zz8,Zz2,Zzk,Zyy,Zz1,Zz0,Zyg,Zzh,Zzg,Zyz,exists_eq_left',exists_eq_left,V.int.injEq,V.bl.injEq,V.str.injEq,V.ref.injEq,V.ty.injEq,Zyu,and_true,true_and,and_assoc,exists_and_left,exists_eq_right,reduceCtorEq,false_and,and_false,exists_false,or_false,false_or,hv.ty]
  cases d with
  |str x =>
   rw[Rep] at hv
   obtain⟨rfl,hx⟩:=hv
   have k0:=k H (Same.refl H)
   simp only[G5,tNext,Gv,Eu,Gp,Gz,Eh,Ha,Ci,Hh,Gq,tC,tCB,E3,tNil,E1,tOp,tUn,E2,tB,Hb,tOr,Gx,Ej,Gw,Ed,tIf,Gu,Gy,tSl,Ec,tNoPart,tBA,Hk,tDNewK,D9,tYes,rI,rI0,rU,rEq,rNe,rIsA,rIsnotA,rItem,lenA,Dg,Fb,Ex,Fc,tupleA,lenQ,Ho,Hq,rSetD,Fa,He,Hd,Hs,rCat,rCatTT,Ek,E9,E8,Hg,Ea,Eb,Ef,tIf,Ep,Ht,Eo,En,rEqD,rNeD,Hn,Hl,Hu,Dc,Cj,Dd,De,rSortT,Dh,Ct,rSum,rMaxL,Ey,Ee,rGetL,F0,Ei,rRep,Cq,rMax2,rCount,Cr,Hm,rAppend,Df,Cb,rSetA,rSetL,L2.Dn,Fd,Ca,Cp,Cw,Ez,Ew,rStrI,rIntT,Ev,rSplit,rJoin,Eg,Em,  D.ty,Af,Ah,Ag,Ad,Ab,Ae,Bc,Bt,Bs,Ba,Aq,Bb,Bp,Bz,Bw,Bn,Ax,Bo,Bk,Bv,Bu,Bi,At,Bj,Aw,Bm,Bl,Au,Ao,Av,An,As,Ar,Al,Aj,Am,B2,Br,Bq,Ay,Ap,Az,Cv,Cf,Cu,Cd,C4,Ce,Zyq,Zyp,Zyk,Zyo,Zz7,Zzc,Zz6,Zz5,↓reduceIte,Zzp,Zyv,Zzn,Zz8,Zz2,Zzk,Zyy,Zz1,Zz0,Zyg,Zzh,Zzg,Zyz,exists_eq_left',exists_eq_left,V.int.injEq,V.bl.injEq,V.str.injEq,V.ref.injEq,V.ty.injEq,Zyu,and_true,true_and,and_assoc,exists_and_left,exists_eq_right,reduceCtorEq,false_and,and_false,exists_false,or_false,false_or,Zxf,Zxx,V.str.injEq]
   refine⟨Bf hx,Fj (λh1=>Fj (λh2=>?_) (λh2=>?_)) (λh1=>?_)⟩
   ·have e:L1 x=false:=by
     unfold L1
     have:¬ (x.length<=60):=by
      simp at h2
      omega
     simp[this]
    rw[show Q2 (.str x)=false from e] at k0
    exact k0
   ·have e1:decide (1<=x.length)=true:=decide_eq_true (by have:=of_decide_eq_true h1;omega)
    have e2:decide (x.length<=60)=true:=decide_eq_true (by simp at h2;omega)
    refine Da (xl x) (Bf hx) (λ_ _=>trivial) ((x.cps.toList.map λc=>decide (c∈figs)).map V.bl) (by simp) (λi y H' hi hy s' N M hN=>?_) (λH' s' p hp=>?_)
    ·obtain⟨c,hc,rfl⟩:=hy
     walk_at "rd"
     refine⟨_,.inr (.inl ⟨_,_,rfl,rfl,rfl⟩),?_⟩
     rw[StrLaws.found_one]
     refine hN _ _ s' ?_
     rw[Zzy,Zzy,Zv8,hc]
     rfl
    ·refine⟨p,rfl,_,A0,?_⟩
     have k:=k _ (s'.trans (A6 (o:=.lst ((x.cps.toList.map λc=>decide (c∈figs)).map V.bl)) hp))
     generalize upd H' p (.lst ((x.cps.toList.map λc=>decide (c∈figs)).map V.bl))=H2 at k ⊢
     have e:Q2 (.str x)=((x.cps.toList.map λc=>decide (c∈figs)).all id&&Ju x):=by
      show L1 x=_
      unfold L1
      rw[e1,e2,Zwu]
      rfl
     rw[e] at k
     exact vb hx (of_decide_eq_true e1) k
   ·rw[if_pos (by rfl)]
    have e:L1 x=false:=by
     unfold L1
     have:¬ (1<=x.length):=by
      simp at h1
      omega
     simp[this]
    rw[show Q2 (.str x)=false from e] at k0
    exact k0
  |_=>exact k H (Same.refl H)
theorem U7:∀(k m:Nat),m<10^(k+1)->(Zwj 10 m).length<=k+1
 |0,m,h=>by rw[Zw5 (by omega)];exact Zzm _
 |k+1,m,h=>by
  by_cases z:m<10
  ·rw[Zw5 z]
   show 1<=k+1+1
   omega
  ·have hm:m % 10<10:=Nat.mod_lt m (by decide)
   have t:Zwj 10 (m / 10)++Zwj 10 (m % 10)=Zwj 10 (10*(m / 10)+m % 10):=Nat.toDigits_append_toDigits (by decide) (by omega) hm
   rw[Nat.div_add_mod] at t
   rw[<- t,Zym,Zw5 hm]
   have:=U7 k (m / 10) (by rw[Nat.pow_succ] at h;omega)
   show _+1<=_
   omega
theorem Zh:∀(m:Nat),0<m->∃c r,Zwj 10 m=c::r/\c.toNat≠48:=by
 intro m
 induction m using Nat.strongRecOn with
 |_ m ih =>
  intro h0
  by_cases z:m<10
  ·rw[Zw5 z]
   have k:∀d:Nat,d<10->0<d->(Nat.digitChar d).toNat≠48:=by decide
   exact⟨_,[],rfl,k m z h0⟩
  ·have hm:m % 10<10:=Nat.mod_lt m (by decide)
   have t:Zwj 10 (m / 10)++Zwj 10 (m % 10)=Zwj 10 (10*(m / 10)+m % 10):=Nat.toDigits_append_toDigits (by decide) (by omega) hm
   rw[Nat.div_add_mod] at t
   obtain⟨c,r,e,hc⟩:=ih (m / 10) (by omega) (by omega)
   exact⟨c,r++Zwj 10 (m % 10),by rw[<- t,e];rfl,hc⟩
theorem cg{n:Int}(h0:0<=n)(h1:n<10^60):L1 (Str.ofString (toString n))=true/\PySem.intText? (Str.ofString (toString n))=some n/\1<=(Str.ofString (toString n)).length/\(Str.ofString (toString n)).length<=60:=by
 obtain⟨m,rfl⟩:=Int.eq_ofNat_of_zero_le h0
 have hs:=KIN.signs_num m
 have hl:(Str.ofString (toString ((m:Nat):Int))).cps.toList.length=(Str.ofString (toString ((m:Nat):Int))).length:=Zwr
 rw[hs,Zzz] at hl
 have a1:=U7 59 m (by omega)
 have a0:=toDigits_len_ge 10 m
 have hd:∀c∈(Str.ofString (toString ((m:Nat):Int))).cps.toList,48<=c/\c<=57:=by
  intro c hc
  rw[hs] at hc
  obtain⟨ch,hch,e⟩:=Zzv.mp hc
  have r:=PyProof.Rows.digit_range (Nat.isDigit_of_mem_toDigits (by decide) (by decide) hch)
  rw[<- e]
  exact r
 have ne:(Str.ofString (toString ((m:Nat):Int))).cps.toList≠[]:=by
  intro e
  have:=congrArg Zwa e
  rw[hs,Zzz,Zyy] at this
  omega
 refine⟨?_,?_,by omega,by omega⟩
 ·unfold L1
  rw[decide_eq_true (by omega:1<=_),decide_eq_true (by omega:_<=60),Zyc,Zyc,Zza]
  constructor
  ·rw[Zyi]
   intro c hc
   have:=hd c hc
   have k:∀c:Nat,48<=c->c<=57->c∈figs:=by
    intro c h1 h2
    have:c=48\/c=49\/c=50\/c=51\/c=52\/c=53\/c=54\/c=55\/c=56\/c=57:=by omega
    rcases this with e | e | e | e | e | e | e | e | e | e<;>rw[e]<;>decide +kernel
   exact decide_eq_true (k c this.1 this.2)
  ·unfold Ju
   by_cases z:m=0
   ·subst z
    have:(Str.ofString (toString (((0:Nat)):Int)))=("0" : Str):=rfl
    rw[decide_eq_true this]
    rfl
   ·obtain⟨c,r,e,hc⟩:=Zh m (by omega)
    have:¬ ((⟨#[(Str.ofString (toString ((m:Nat):Int))).cps.toList.headD 0]⟩:Str) = "0"):=by
     rw[hs,e]
     intro q
     have q:=congrArg (λz:Str=>z.cps.toList) q
     have e2:("0" : Str).cps.toList=[48]:=by decide +kernel
     rw[e2] at q
     exact hc (Zup q).1
    rw[decide_eq_false this,Zxc,Bool.or_true]
 ·have e:=intText_digits hd ne (by omega)
  rw[hs,KIN.val_back] at e
  exact e
def sp_read_number:Sp:=λvs H Q _=>∃(x:Str) (n:Int),vs=[.str x]/\x.length<=60/\L1 x=true/\PySem.intText? x=some n/\∀H',Same H H'->Q (.int n) H'
theorem Rt:Bg ["word"] ["word"] (Ai Jk):=by walk_at "sc"
theorem S8(F:Fun K "read_number" "read_number" Jk f fd)(T:Txt mg)(Zsp:Has P w K mg base "is_number" 1 ["word"] sp_is_number):D3 P w K mg base CX0 2 f fd ["word"] sp_read_number:=by
 refine F.ok Rt (λvs H Q E h=>?_) (λcdv A outer s H vs Q E hr h=>?_)
 ·obtain⟨x,n,rfl,_⟩:=h
  rfl
 ·obtain⟨x,n,rfl,hx,hb,hn,k⟩:=h
  have hu:=Ch hr
  refine⟨_,(A2 (Db (E4 (Es (A9 Zsp hr.z rfl (A3 (pv 0) A1)))) Jd C5)
 (Aa (Be (Cy js rfl T.Zry bn (A3 (pv 0) A1))))),?_⟩
  walk_at "rd"
  refine⟨.str x,.str x,rfl,by rw[Rep];exact⟨rfl,by omega⟩,λH1 sm=>⟨Q2 (.str x),rfl,?_⟩⟩
  rw[show Q2 (.str x)=true from hb,if_neg (by decide)]
  exact⟨n,hn,by omega,k H1 sm⟩
def sp_read_name:Sp:=λvs H Q _=>∃(x:Str),vs=[.str x]/\D6 x=true/\∀H',Same H H'->Q (.str x) H'
theorem Vj:Bg ["word"] ["word"] (Ai Ld):=by walk_at "sc"
theorem Vy(F:Fun K "read_name" "read_name" Ld f fd)(T:Txt mg)(Zuf:Has P w K mg base "is_name" 1 ["found"] sp_is_name):D3 P w K mg base CX0 2 f fd ["word"] sp_read_name:=by
 refine F.ok Vj (λvs H Q E h=>?_) (λcdv A outer s H vs Q E hr h=>?_)
 ·obtain⟨x,rfl,_⟩:=h
  rfl
 ·obtain⟨x,rfl,hb,k⟩:=h
  have hu:=Ch hr
  refine⟨_,(A2 (Db (E4 (Es (A9 Zuf hr.z rfl (A3 (pv 0) A1)))) Jd C5)
 (Aa (Be (pv 0)))),?_⟩
  walk_at "rd"
  have hx:x.length<=8:=by
   unfold D6 at hb
   simp only[Zza,decide_eq_true_eq] at hb
   exact hb.1.2
  refine⟨.str x,.str x,rfl,by rw[Rep];exact⟨rfl,by omega⟩,λH1 sm=>⟨Hr (.str x),rfl,?_⟩⟩
  rw[show Hr (.str x)=true from hb,if_neg (by decide)]
  exact k H1 sm
end
set_option maxHeartbeats 4000000
section
variable {P:Program}{w:World}{K:Zzw}{mg:Str->Option Value}{base:Heap}{f:Addr}{fd:FuncData}
def cellT:Key->Str
 |.inl i=>Str.ofString (toString i)
 |.inr x=>x
def Ly:Key->Str
 |.inl _ => "number"
 |.inr _ => "name"
def Ta:Key->Prop
 |.inl i=>0<=i/\i<10^60
 |.inr x=>D6 x=true
def On(K:Zzw):Sp:=λvs H Q _=>∃(a b:Addr) (ks:List Key),vs=[.ref a,.ref b]/\H a=some (.lst ((ks.map cellT).map V.str))/\SqT K H b ((ks.map Ly).map V.str)/\ks.length<=100/\(∀k∈ks,Ta k)/\∀p H',H p=none->H' p=some (.lst (ks.map kV))->Same H H'->Q (.ref p) H'
def xo(a b p:Addr)(ks:List Key)(H:Hp)(i:Nat)(Z:St)(H':Hp):Prop:=∃o1 o2:Option V,Z=[some (.ref a),some (.ref b),some (.ref p),o1,o2]/\H' p=some (.lst ((ks.take i).map kV))/\Same H H'
theorem Xc{K:Zzw}{H H':Hp}{b:Addr}{xs:List V}(h:SqT K H b xs)(s:Same H H'):SqT K H' b xs:=by
 rcases h with (e | ⟨o,e⟩) | h
 ·exact .inl (.inl (s _ _ e))
 ·exact .inl (.inr ⟨o,s _ _ e⟩)
 ·exact .inr h
theorem sc_read_words:Bg ["words", "form", "told", "word", "sort"] ["words", "form"] (Ai Ke):=by walk_at "sc"
theorem Tk(F:Fun K "read_words" "read_words" Ke f fd)(T:Txt mg)(Zso:Has P w K mg base "read_name" 2 ["word"] sp_read_name)(Zt7:Has P w K mg base "read_number" 2 ["word"] sp_read_number):D3 P w K mg base CX0 3 f fd ["words", "form"] (On K):=by
 refine F.ok sc_read_words (λvs H Q E h=>?_) (λcdv A outer s H vs Q E hr h=>?_)
 ·obtain⟨a,b,ks,rfl,_⟩:=h
  rfl
 ·obtain⟨a,b,ks,rfl,ha,hb,hl,ok,k⟩:=h
  have hu:=Ch hr
  refine⟨_,(A2 (Db (PW.pt (N9 (C6 ye (pv 1) Ot (Cc _)) (Mk (C6 (Vv hu) (Bd Dp rfl T.Zue Fu (A3 (pv 0) A1)) (Bd J6 rfl T.Zue Fu (A3 (pv 1) A1)) (Cc _))))) Jd C5)
 (A2 (Bh (i:=2) sc_read_words.nd rfl (Zzu rfl) (Dl A1))
 (A2 (D2 PassesOwn.never rfl (uc rfl T.Zs2 (A3 (pv 0) (A3 (pv 1) A1))) (Gk (n:=2) rfl (C2 (Ac (i:=3) sc_read_words.nd rfl (Zzu rfl)) (C2 (Ac (i:=4) sc_read_words.nd rfl (Zzu rfl)) Fn)))
 (Aa (Fm (Gf Zyl Zy2 Zy1 Fi (pv 2) (A3 (mj (C6 (Fz hu) (pv 4) D7 (Cc _)) (A9 Zso hr.z rfl (A3 (pv 3) A1)) (A9 Zt7 hr.z rfl (A3 (pv 3) A1))) A1)))))
 (Aa (Be (pv 2)))))),?_⟩
  walk_at "rd"
  rw[if_neg (by decide)]
  refine⟨_,.inl ha,_,.inr hb,rfl,?_⟩
  rw[if_neg (by rw[decide_eq_true (by simp only[Zzz])];decide)]
  refine⟨by decide,λp hp=>?_⟩
  have u:=A6 (o:=.lst []) hp
  have hpa:a≠p:=A4 ha hp
  refine⟨_,u _ _ ha,_,Xc hb u,?_⟩
  have hmin:min ((ks.map cellT).map V.str).length ((ks.map Ly).map V.str).length=ks.length:=by simp only[Zzz,Zv1]
  refine Yt (yu _ a b _ _) (xo a b p ks H) ⟨_,_,rfl,A0,u⟩ (λi Z H' _ h=>?_) (λi ys t Z H' hi hy h ht=>?_) (λZ H' h=>?_)
  ·obtain⟨_,_,_,_,s'⟩:=h
   exact⟨s' _ _ ha,Xc hb s'⟩
  ·obtain⟨o1,o2,rfl,hp1,s1⟩:=h
   obtain⟨y,z,ey,ez,rfl⟩:=hy
   rw[Zzy,Zzy] at ey ez
   obtain⟨kk,ek⟩:∃kk,ks[i]?=some kk:=⟨_,Zzs (by rw[hmin] at hi;exact hi)⟩
   rw[ek] at ey ez
   have ey:V.str (cellT kk)=y:=Zz3 ey
   have ez:V.str (Ly kk)=z:=Zz3 ez
   subst ey ez
   have ut:=A6 (o:=.tup [V.str (cellT kk),V.str (Ly kk)]) ht
   have s2:=s1.trans ut
   have hp2:=ut _ _ hp1
   refine gT2 ?_
   generalize upd H' t (.tup [V.str (cellT kk),V.str (Ly kk)])=H2 at s2 hp2
   walk_at "rd"
   have okk:=ok kk (Zzr ek)
   have hlen:((ks.take i).map kV).length<1000:=by rw[Zzz,Zye];omega
   have go:∀H3,Same H2 H3->∃x,H3 p=some (.lst x)/\x.length<sizeLine/\xo a b p ks H (i+1) [some (.ref a),some (.ref b),some (.ref p),some (.str (cellT kk)),some (.str (Ly kk))] (upd H3 p (.lst (x++[kV kk]))):=λH3 s3=>by
    refine⟨_,s3 _ _ hp2,Zyn hlen (Bf (Zzm _)),_,_,rfl,?_,λc o e=>?_⟩
    ·rw[A0,Zyx,ek,Zzq]
     rfl
    ·rw[A7 (A4 e hp)]
     exact s3 _ _ (s2 _ _ e)
   refine⟨G2 hp2,rfl,?_⟩
   cases kk with
   |inr x =>
    rw[if_pos (by show decide (("name" : Str) = "name")=true;decide +kernel)]
    exact⟨x,rfl,okk,λH3 s3=>go H3 s3⟩
   |inl n =>
    rw[if_neg (by show ¬ decide (("number" : Str) = "name")=true;decide +kernel)]
    have q:=cg okk.1 okk.2
    exact⟨_,n,rfl,q.2.2.2,q.1,q.2.1,λH3 s3=>go H3 s3⟩
  ·obtain⟨o1,o2,rfl,hp1,s1⟩:=h
   rw[hmin,Zyt] at hp1
   walk_at "rd"
   exact k p H' hp hp1 s1
end
set_option maxHeartbeats 4000000
section
variable {P:Program}{w:World}{K:Zzw}{mg:Str->Option Value}{base:Heap}{f:Addr}{fd:FuncData}
theorem Gi{xs:List V}{i:Int}(hi:0<=i):J8 xs (some i) none=xs.drop i.toNat:=by
 unfold J8
 rw[lq hi]
 have e:HT.sIx xs.length xs.length none=xs.length:=rfl
 rw[e]
 by_cases h:i.toNat<=xs.length
 ·rw[Nat.min_eq_left h,Zvb (by rw[Zx2];exact Zzm _)]
 ·have h:xs.length<=i.toNat:=by omega
  rw[Nat.min_eq_right h,List.drop_length,List.drop_of_length_le h,List.take_nil]
def L5:List (Str×List Str):=[("ware",["name", "number", "number", "number", "number"]),("coming",["name", "number", "number"]),("part",["name", "name", "number"]),("want",["name", "number", "number"])]
structure L9(r:Str×List Key):Prop where
 form:(r.1,r.2.map Ly)∈L5
 cells:∀k∈r.2,Ta k
def Oq(r:Str×List Key):Str:=Str.join (one 32) (r.1::r.2.map cellT)
def rowV(r:Str×List Key):List V:=.str r.1::r.2.map kV
theorem R7{k:Key}(h:Ta k):(32∉(cellT k).cps.toList/\10∉(cellT k).cps.toList)/\(cellT k).length<=60:=by
 cases k with
 |inl n =>
  obtain⟨h1,h2,h3,h4⟩:=cg h.1 h.2
  refine⟨?_,h4⟩
  unfold L1 at h1
  simp only[Zza] at h1
  have all:=Zyi.mp h1.1.2
  exact⟨λz=>absurd (of_decide_eq_true (all 32 z)) (by decide +kernel),λz=>absurd (of_decide_eq_true (all 10 z)) (by decide +kernel)⟩
 |inr x =>
  have h:D6 x=true:=h
  unfold D6 at h
  simp only[Zza,decide_eq_true_eq] at h
  have all:=Zyi.mp h.2
  exact⟨⟨λz=>absurd (of_decide_eq_true (all 32 z)) (by decide +kernel),λz=>absurd (of_decide_eq_true (all 10 z)) (by decide +kernel)⟩,Zyf h.1.2 (by decide)⟩
theorem L7{r:Str×List Key}(h:L9 r):(32∉r.1.cps.toList/\10∉r.1.cps.toList)/\r.1.length<=60/\r.2.length<=5:=by
 have hf:=h.form
 unfold L5 at hf
 simp only[Zzt,Zzj,or_false,Prod.mk.injEq] at hf
 have g:∀x:Str,x = "ware" \/ x = "coming" \/ x = "part" \/ x = "want" -> (32∉x.cps.toList/\10∉x.cps.toList)/\x.length<=60:=λx hx=>by
  rcases hx with rfl | rfl | rfl | rfl<;>decide +kernel
 have hl:r.2.length=(r.2.map Ly).length:=by rw[Zzz]
 rcases hf with ⟨e1,e2⟩ | ⟨e1,e2⟩ | ⟨e1,e2⟩ | ⟨e1,e2⟩<;>rw[e2] at hl
 ·exact⟨(g r.1 (.inl e1)).1,(g r.1 (.inl e1)).2,by rw[hl];decide⟩
 ·exact⟨(g r.1 (.inr (.inl e1))).1,(g r.1 (.inr (.inl e1))).2,by rw[hl];decide⟩
 ·exact⟨(g r.1 (.inr (.inr (.inl e1)))).1,(g r.1 (.inr (.inr (.inl e1)))).2,by rw[hl];decide⟩
 ·exact⟨(g r.1 (.inr (.inr (.inr e1)))).1,(g r.1 (.inr (.inr (.inr e1)))).2,by rw[hl];decide⟩
theorem Nq{r:Str×List Key}(h:L9 r){P:Str->Prop}(h1:P r.1)(h2:∀k∈r.2,P (cellT k)):∀w∈r.1::r.2.map cellT,P w:=λw hw=>by
 rcases Zzt.mp hw with rfl | hw
 ·exact h1
 ·obtain⟨k,hk,rfl⟩:=Zzv.mp hw
  exact h2 k hk
theorem gu{r:Str×List Key}(h:L9 r):Txt.split (Oq r) (one 32)=r.1::r.2.map cellT :=
 Rr (by decide) (by simp) (Nq h (P:=λw=>32∉w.cps.toList) (L7 h).1.1 λk hk=>(R7 (h.cells k hk)).1.1)
theorem Vq{r:Str×List Key}(h:L9 r):(Oq r).length<=400:=by
 have:=Sq (sep:=one 32) (B:=60) (Nq h (P:=λw=>w.length<=60) (L7 h).2.1 λk hk=>(R7 (h.cells k hk)).2)
 have hl:=(L7 h).2.2
 simp only[Zzk,Zzz] at this
 have l1:(one 32).length=1:=rfl
 unfold Oq
 rw[l1] at this
 omega
def sp_read_row:Sp:=λvs H Q _=>∃(r:Str×List Key),vs=[.str (Oq r)]/\L9 r/\∀p H',H p=none->H' p=some (.lst (rowV r))->Same H H'->Q (.ref p) H'
theorem sc_read_row:Bg ["row", "words"] ["row"] (Ai M9):=by walk_at "sc"
theorem Xx(F:Fun K "read_row" "read_row" M9 f fd)(T:Txt mg)(R:Rws w K mg)(Zt0:Has P w K mg base "read_words" 3 ["words", "form"] (On K)):D3 P w K mg base CX0 4 f fd ["row"] sp_read_row:=by
 refine F.ok sc_read_row (λvs H Q E h=>?_) (λcdv A outer s H vs Q E hr h=>?_)
 ·obtain⟨r,rfl,_⟩:=h
  rfl
 ·obtain⟨r,rfl,ok,k⟩:=h
  have hu:=Ch hr
  obtain⟨R_a,R_l,R_m,R_t,f1,f2,f3,f4,_⟩:=R
  refine⟨_,(A2 (Bh (i:=1) sc_read_row.nd rfl (Zzu rfl) (Gf Zx6 PySem.F.slot_str_split PySem.F.type_str_split Yb (pv 0) (A3 D7 A1)))
 (Aa (Be (C7 Ov (Dl (A3 (A8 hu (pv 1) A5 (λ_ _=>rfl)) A1)) (A9 Zt0 hr.z rfl (A3 (Hw Jj (pv 1) (Jq A5) Jr) (A3 (uh R_t (Vt (v:=.ref R_a) rfl R_m rfl) (A8 hu (pv 1) A5 (λ_ _=>rfl)) ⟨rfl,rfl,rfl,rfl⟩) A1))))))),?_⟩
  walk_at "rd"
  have fm:Zb K R_l r.1 (r.2.map Ly):=by
   have hf:=ok.form
   unfold L5 at hf
   simp only[Zzt,Zzj,or_false,Prod.mk.injEq] at hf
   rcases hf with ⟨q1,q2⟩ | ⟨q1,q2⟩ | ⟨q1,q2⟩ | ⟨q1,q2⟩<;>rw[q1,q2]<;>assumption
  obtain⟨fa,tl,q1,q2,q3⟩:=fm
  have hl5:=(L7 ok).2.2
  have htl:tl.length<=1000:=by
   have:=congrArg Zwa q3
   rw[Zzz,Zzz] at this
   omega
  have sq:∀H':Hp,SqT K H' fa ((r.2.map Ly).map V.str):=λH'=>by rw[<- q3];exact q2.sq htl H'
  refine⟨rfl,32,by decide +kernel,Zyf (Vq ok) (by decide),λp hp=>?_⟩
  rw[gu ok,Zzp]
  have u1:=A6 (o:=.lst (V.str r.1::(r.2.map cellT).map V.str)) hp
  refine⟨_,E7 (j:=0) A0 rfl,by decide,λp1 hp1=>?_⟩
  have u2:=A6 (o:=.lst [V.str r.1]) hp1
  refine⟨_,u2 _ _ A0,λp2 hp2=>?_⟩
  have ec:J8 (V.str r.1::(r.2.map cellT).map V.str) (some 1) none=(r.2.map cellT).map V.str:=by
   rw[Gi (by decide)]
   rfl
  rw[ec]
  have u3:=A6 (o:=.lst ((r.2.map cellT).map V.str)) hp2
  refine⟨_,E7 (j:=0) (u3 _ _ (u2 _ _ A0)) rfl,_,rfl,?_⟩
  rw[q1]
  have uu:=(u1.trans u2).trans u3
  refine⟨p2,fa,r.2,rfl,A0,sq _,by omega,ok.cells,λp3 H3 hp3 hp3' s3=>⟨p3,rfl,_,s3 _ _ (u3 _ _ A0),_,hp3',Bf (by rw[Zzz];simp;omega),λp4 hp4=>?_⟩⟩
  exact k p4 _ (Same.free (uu.trans s3) hp4) A0 ((uu.trans s3).trans (A6 hp4))
end
set_option maxHeartbeats 4000000
section
variable {P:Program}{w:World}{K:Zzw}{mg:Str->Option Value}{base:Heap}{f:Addr}{fd:FuncData}
def Ph:Key->PyData
 |.inl i=>.int i
 |.inr x=>.str x
abbrev R3:=Str×Str×List Key
def r3(r:R3):Str×List Key:=(r.1,.inr r.2.1::r.2.2)
def r3D(r:R3):PyData:=.list (.str r.1::.str r.2.1::r.2.2.map Ph)
def Qc(r:R3):PyData:=.tuple (r.2.2.map Ph)
def Hv(s n:Str)(r:R3):Bool:=decide (r.1=s)&&decide (r.2.1=n)
theorem y8{H:Hp}{k:Key}{v:V}(h:RD H (Ph k) v):v=kV k:=by
 cases k with
 |inl i=>rw[Ph,RD] at h;exact h
 |inr x=>rw[Ph,RD] at h;exact h
theorem tu{H:Hp}(k:Key):RD H (Ph k) (kV k):=by
 cases k with
 |inl i=>exact RD.int_mk
 |inr x=>exact RD.str_mk
theorem Xl{H:Hp}:∀{ks:List Key} {vs:List V},RDs H (ks.map Ph) vs->vs=ks.map kV
 |[],vs,h=>RDs.nil_of h
 |k::r,vs,h=>by
  obtain⟨x,r',rfl,h1,h2⟩:=RDs.cons_of h
  rw[y8 h1,Xl h2]
  rfl
theorem M3{H:Hp}:∀ks:List Key,RDs H (ks.map Ph) (ks.map kV)
 |[]=>RDs.nil
 |k::r=>RDs.cons (tu k) (M3 r)
theorem Qw{H:Hp}{ds:List PyData}{v:V}(h:RD H (.list ds) v):∃a xs,v=.ref a/\H a=some (.lst xs)/\RDs H ds xs:=by rw[RD] at h;exact h
theorem cp{H:Hp}{r:R3}{v:V}(h:RD H (r3D r) v):∃a,v=.ref a/\H a=some (.lst (.str r.1::.str r.2.1::r.2.2.map kV)):=by
 obtain⟨a,xs,rfl,ha,hx⟩:=Qw h
 obtain⟨x,r1,rfl,h1,h2⟩:=RDs.cons_of hx
 obtain⟨y,r2,rfl,h3,h4⟩:=RDs.cons_of h2
 rw[RD] at h1 h3
 rw[h1,h3,Xl h4] at ha
 exact⟨a,rfl,ha⟩
def sp_rows_of:Sp:=λvs H Q _=>∃(a:Addr) (rs:List R3) (s n:Str),vs=[.ref a,.str s,.str n]/\RD H (.list (rs.map r3D)) (.ref a)/\rs.length<=1000/\(∀r∈rs,r.2.2.length<=5)/\∀p xs H',H p=none->H' p=some (.lst xs)->RDs H' ((rs.filter (Hv s n)).map Qc) xs->Same H H'->Q (.ref p) H'
theorem Zp:Bg ["rows", "sort", "name"] ["rows", "sort", "name"] (Ai Nv):=by walk_at "sc"
theorem ac(F:Fun K "rows_of" "rows_of" Nv f fd)(T:Txt mg):D3 P w K mg base CX0 1 f fd ["rows", "sort", "name"] sp_rows_of:=by
 refine F.ok Zp (λvs H Q E h=>?_) (λcdv A outer s H vs Q E hr h=>?_)
 ·obtain⟨a,rs,s,n,rfl,_⟩:=h
  rfl
 ·obtain⟨a,rs,s',n,rfl,hrd,hl,hk,k⟩:=h
  have hu:=Ch hr
  refine⟨_,(Aa (Be (D5 (own:=["row"]) (cap:=[1,2]) rfl (Du rfl) (C8 (by decide)) (G8 (pv 0))
 (λ_ _ _ _ _ _=>⟨(Ac (i:=0) (of_decide_eq_true rfl) rfl (Zzu rfl) (.inr rfl)),(Lu (PW.pt (Os (C6 (Fz hu) (A8 hu (pv 0) A5 (λ_ _=>rfl)) (pv 1) (Cc _)) (Ml (C6 (Fz hu) (A8 hu (pv 0) A5 (λ_ _=>rfl)) (pv 2) (Cc _)))))),(Cy Dv rfl T.Zua G3 (A3 (Hw Jj (pv 0) (Jq A5) Jr) A1))⟩)))),?_⟩
  walk_at "rd"
  obtain⟨a',vs,ea,ha,rv⟩:=Qw hrd
  cases ea
  have hvl:=Cm rv
  refine⟨_,ha,?_⟩
  refine Jz (Ip a _) (Bf (by omega)) (λi acc H'=>RDs H' (((rs.take i).filter (Hv s' n)).map Qc) acc/\Same H H') ⟨RDs.nil,Same.refl _⟩ (λi acc H' _ h=>h.2 _ _ ha) (λi acc H' h=>?_) (λi x acc H' hi hx h=>?_) (λacc H' h p hp=>?_)
  ·have:=Cm h.1
   have h2:((rs.take i).filter (Hv s' n)).length<=i:=Zyf (Zxo _ _) (by rw[Zye];omega)
   omega
  ·obtain⟨racc,s1⟩:=h
   obtain⟨r,er,rr⟩:=D4 rv hx
   obtain⟨ra,rfl,hra⟩:=cp rr
   have hra1:=s1 _ _ hra
   have et:(rs.take (i+1)).filter (Hv s' n)=(rs.take i).filter (Hv s' n)++if Hv s' n r=true then [r] else []:=by
    rw[Zyx,er,Zys]
    congr 1
    by_cases z:Hv s' n r=true
    ·rw[if_pos z];simp[z]
    ·rw[if_neg z];simp[z]
   walk_at "rd"
   refine⟨_,E7 (j:=0) hra1 rfl,rfl,?_⟩
   have no:Hv s' n r=false->RDs H' (((rs.take (i+1)).filter (Hv s' n)).map Qc) acc/\Same H H':=λz=>by
    rw[et,if_neg (by rw[z];decide),Zzn]
    exact⟨racc,s1⟩
   refine Fj (λz1=>⟨_,E7 (j:=1) hra1 rfl,rfl,Fj (λz2=>?_) (λz2=>no ?_)⟩) (λz1=>no ?_)
   ·have e1:r.1=s':=V.str.inj (of_decide_eq_true z1)
    have e2:r.2.1=n:=V.str.inj (of_decide_eq_true z2)
    have ec:J8 (V.str r.1::V.str r.2.1::r.2.2.map kV) (some 2) none=r.2.2.map kV:=by
     rw[Gi (by decide)]
     rfl
    refine⟨_,hra1,λp hp=>?_⟩
    rw[ec]
    refine⟨_,.inl ⟨A0,λl hl=>?_⟩⟩
    have u:=(A6 (o:=.lst (r.2.2.map kV)) hp).trans (A6 (o:=.tup (r.2.2.map kV)) hl)
    refine⟨?_,s1.trans u⟩
    rw[et,if_pos (by unfold Hv;rw[decide_eq_true e1,decide_eq_true e2];rfl),Zzq]
    exact RDs.app (RDs.same u _ _ racc) (RDs.one (RD.tup_mk A0 (M3 _)))
   ·have h2:decide (r.2.1=n)=false:=decide_eq_false λz=>z2 (decide_eq_true (by rw[z]))
    unfold Hv
    rw[h2,Zuu]
   ·have h1:decide (r.1=s')=false:=decide_eq_false λz=>z1 (decide_eq_true (by rw[z]))
    unfold Hv
    rw[h1,Zxz]
  ·obtain⟨racc,s1⟩:=h
   rw[hvl,Zyt] at racc
   exact k p acc _ (Same.free s1 hp) A0 (RDs.same (A6 hp) _ _ racc) (s1.trans (A6 hp))
end
set_option maxHeartbeats 4000000
section
variable {P:Program}{w:World}{K:Zzw}{mg:Str->Option Value}{base:Heap}{f:Addr}{fd:FuncData}
def Ku(rs:List R3)(r:R3):PyData:=.tuple ((.str r.2.1::r.2.2.map Ph)++[.tuple ((rs.filter (Hv "coming" r.2.1)).map Qc),.tuple ((rs.filter (Hv "part" r.2.1)).map Qc)])
def jz(r:R3):PyData:=.tuple (.str r.2.1::r.2.2.map Ph)
def isS(s:Str)(r:R3):Bool:=decide (r.1=s)
def wrD(rs:List R3):PyData:=.tuple [.tuple ((rs.filter (isS "ware")).map (Ku rs)),.tuple ((rs.filter (isS "want")).map jz)]
theorem de:∀xs ys:List PyData,Ga xs=true->Ga ys=true->Ga (xs++ys)=true
 |[],ys,_,h=>h
 |x::r,ys,h1,h2=>by
  rw[Ga,Zza] at h1
  rw[Zz2,Ga,h1.1,de r ys h1.2 h2]
  rfl
theorem mx(k:Key):Hj (Ph k)=true:=by cases k<;>rfl
theorem We(r:R3):Hj (Qc r)=true:=by
 unfold Qc
 rw[Hj]
 exact Fq Ph mx _
theorem mv(rs:List R3)(r:R3):Hj (Ku rs r)=true:=by
 unfold Ku
 rw[Hj]
 refine de _ _ ?_ ?_
 ·rw[Ga,Fq Ph mx]
  rfl
 ·simp only[Ga,Hj,Fq Qc We,Zxg]
theorem Pj{rs:List R3}{s:Str}{i:Nat}{r:R3}(h:rs[i]?=some r):(rs.take (i+1)).filter (isS s)=(rs.take i).filter (isS s)++if r.1=s then [r] else []:=by
 rw[Zyx,h,Zys]
 congr 1
 unfold isS
 by_cases z:r.1=s
 ·rw[if_pos z];simp[z]
 ·rw[if_neg z];simp[z]
theorem vh{H:Hp}{l:Addr}{xs ys:List V}(h:H l=some (.lst xs)):KeepU H (upd H l (.lst ys)):=Wj h (λ_ z=>by cases z)
def sp_written_shop:Sp:=λvs H Q _=>∃(a:Addr) (rs:List R3),vs=[.ref a]/\RD H (.list (rs.map r3D)) (.ref a)/\rs.length<=1000/\(∀r∈rs,r.2.2.length<=5)/\∀t H',RD H' (wrD rs) (.ref t)->Same H H'->Q (.ref t) H'
def A0f(a q:Addr)(rs:List R3)(H:Hp)(i:Nat)(Z:St)(H':Hp):Prop:=∃(vs:List V) (o1 o2 o3:Option V),Z=[some (.ref a),some (.ref q),o1,o2,o3,none]/\H' q=some (.lst vs)/\RDs H' (((rs.take i).filter (isS "ware")).map (Ku rs)) vs/\Same H H'
theorem sc_written_shop:Bg ["rows", "wares", "row", "coming", "parts", "wants"] ["rows"] (Ai Iv):=by walk_at "sc"
theorem Ql(F:Fun K "written_shop" "written_shop" Iv f fd)(T:Txt mg)(Zst:Has P w K mg base "rows_of" 1 ["rows", "sort", "name"] sp_rows_of):D3 P w K mg base CX0 2 f fd ["rows"] sp_written_shop:=by
 refine F.ok sc_written_shop (λvs H Q E h=>?_) (λcdv A outer s H vs Q E hr h=>?_)
 ·obtain⟨a,rs,rfl,_⟩:=h
  rfl
 ·obtain⟨a,rs,rfl,hrd,hl,hk,k⟩:=h
  have hu:=Ch hr
  refine⟨_,(A2 (Bh (i:=1) sc_written_shop.nd rfl (Zzu rfl) (Dl A1))
 (A2 (D2 PassesOwn.never rfl (G8 (pv 0)) (Ac (i:=2) sc_written_shop.nd rfl (Zzu rfl))
 (Aa (Db (C6 (Fz hu) (A8 hu (pv 2) A5 (λ_ _=>rfl)) D7 (Cc _)) (A2 (Bh (i:=3) sc_written_shop.nd rfl (Zzu rfl) (Cy Dv rfl T.Zua G3 (A3 (A9 Zst hr.z rfl (A3 (pv 0) (A3 D7 (A3 (A8 hu (pv 2) A5 (λ_ _=>rfl)) A1)))) A1)))
 (A2 (Bh (i:=4) sc_written_shop.nd rfl (Zzu rfl) (Cy Dv rfl T.Zua G3 (A3 (A9 Zst hr.z rfl (A3 (pv 0) (A3 D7 (A3 (A8 hu (pv 2) A5 (λ_ _=>rfl)) A1)))) A1)))
 (Aa (Fm (Gf Zyl Zy2 Zy1 Fi (pv 1) (A3 (C7 Xt (Cy Dv rfl T.Zua G3 (A3 (Hw Jj (pv 2) (Jq A5) Jr) A1)) (G9 (A3 (pv 3) (A3 (pv 4) A1)))) A1)))))) C5)))
 (A2 (G7 (own:=["row"]) (cap:=[]) (i:=5) rfl (Du rfl) (C8 (by decide)) sc_written_shop.nd rfl rfl (G8 (pv 0))
 (λ_ _ _ _ _ _=>⟨(Ac (i:=0) (of_decide_eq_true rfl) rfl (Zzu rfl) (.inr rfl)),(Lu (C6 (Fz hu) (A8 hu (pv 0) A5 (λ_ _=>rfl)) D7 (Cc _))),(Cy Dv rfl T.Zua G3 (A3 (Hw Jj (pv 0) (Jq A5) Jr) A1))⟩))
 (Aa (Be (G9 (A3 (Cy Dv rfl T.Zua G3 (A3 (pv 1) A1)) (A3 (Cy Dv rfl T.Zua G3 (A3 (pv 5) A1)) A1)))))))),?_⟩
  walk_at "rd"
  obtain⟨a',vs,ea,ha,rv⟩:=Qw hrd
  cases ea
  have hvl:=Cm rv
  refine⟨by decide,λq hq=>?_⟩
  have uq:=A6 (o:=.lst []) hq
  refine⟨_,uq _ _ ha,?_⟩
  refine Er (Ip a _) (A0f a q rs H) ⟨[],_,_,_,rfl,A0,RDs.nil,uq⟩ (λi Z H' _ h=>by obtain⟨_,_,_,_,_,_,_,s'⟩:=h;exact s' _ _ ha) (λi x Z H1 hi hx h=>?_) (λZ H1 h=>?_)
  ·obtain⟨ws,o1,o2,o3,rfl,hq1,r1,s1⟩:=h
   obtain⟨r,er,rr⟩:=D4 rv hx
   obtain⟨ra,rfl,hra⟩:=cp rr
   have hra1:=s1 _ _ hra
   walk_at "rd"
   refine⟨_,E7 (j:=0) hra1 rfl,rfl,Fj (λz=>?_) (λz=>?_)⟩
   ·have z:r.1 = "ware" := V.str.inj (of_decide_eq_true z)
    refine⟨_,E7 (j:=1) hra1 rfl,a,rs,_,_,rfl,RD.same s1 _ _ hrd,hl,hk,λp2 x2 H2 hp2 hp2' rc2 sm2=>⟨p2,rfl,x2,.inl ⟨hp2',λl1 hl1=>?_⟩⟩⟩
    have u3:=A6 (o:=.tup x2) hl1
    have s3:=(s1.trans sm2).trans u3
    have hl1':upd H2 l1 (.tup x2) l1=some (.tup x2):=A0
    have rc3:=RDs.same u3 _ _ rc2
    have hq3:=u3 _ _ (sm2 _ _ hq1)
    have r3':=RDs.same (sm2.trans u3) _ _ r1
    generalize upd H2 l1 (.tup x2)=H3 at s3 hl1' rc3 hq3 r3'
    refine⟨_,E7 (j:=1) (s3 _ _ hra) rfl,a,rs,_,_,rfl,RD.same s3 _ _ hrd,hl,hk,λp4 x4 H4 hp4 hp4' rc4 sm4=>⟨p4,rfl,x4,.inl ⟨hp4',λl2 hl2=>?_⟩⟩⟩
    have u5:=A6 (o:=.tup x4) hl2
    have s5:=(s3.trans sm4).trans u5
    have hl2':upd H4 l2 (.tup x4) l2=some (.tup x4):=A0
    have hl15:=u5 _ _ (sm4 _ _ hl1')
    have rc5:=RDs.same (sm4.trans u5) _ _ rc3
    have rp5:=RDs.same u5 _ _ rc4
    have hq5:=u5 _ _ (sm4 _ _ hq3)
    have r5':=RDs.same (sm4.trans u5) _ _ r3'
    generalize upd H4 l2 (.tup x4)=H5 at s5 hl2' hl15 rc5 rp5 hq5 r5'
    have ec:J8 (V.str r.1::V.str r.2.1::r.2.2.map kV) (some 1) none=V.str r.2.1::r.2.2.map kV:=by
     rw[Gi (by decide)]
     rfl
    refine⟨G2 hq5,_,s5 _ _ hra,λp6 hp6=>?_⟩
    rw[ec]
    refine⟨_,.inl ⟨A0,λl3 hl3=>⟨by decide,λp7 hp7=>?_⟩⟩⟩
    have u6:=(A6 (o:=.lst (V.str r.2.1::r.2.2.map kV)) hp6).trans (A6 (o:=.tup (V.str r.2.1::r.2.2.map kV)) hl3)
    have u7:=A6 (o:=.tup [V.ref l1,V.ref l2]) hp7
    have hkr:=hk r (Zzr er)
    refine⟨_,u7 _ _ A0,_,A0,Bf (by simp only[Zzk,Zzz,Zyy];omega),λp8 H8 hp8 sm8 _=>?_⟩
    have ux:=(u6.trans u7).trans sm8
    have hlw:=Cm r1
    have hlw2:((rs.take i).filter (isS "ware")).length<=1000:=Zyf (Zxo _ _) (by rw[Zye];omega)
    have hiw:((rs.take i).filter (isS "ware")).length<1000:=Zya (Zxo _ _) (by rw[Zye];have:=(Zz4.mp er).1;omega)
    have hqx:=ux _ _ hq5
    have kx:=vh (ys:=ws++[V.ref p8]) hqx
    refine⟨ws,hqx,Zyn (show ws.length<1000 by omega) (Bf (Zzm _)),_,_,_,_,rfl,A0,?_,?_⟩
    ·rw[Pj er,if_pos z,Zzq]
     refine RDs.app (RDs.ku (ux.ku.trans kx) _ _ (Fq _ (mv rs) _) r5') (RDs.one ?_)
     unfold Ku
     refine RD.tup_mk (xs:=(V.str r.2.1::r.2.2.map kV)++[V.ref l1,V.ref l2]) (kx _ _ hp8) (RDs.app (RDs.cons RD.str_mk (M3 _)) (RDs.cons (RD.tup_mk ?_ (RDs.ku (ux.ku.trans kx) _ _ (Fq _ We _) rc5)) (RDs.one (RD.tup_mk ?_ (RDs.ku (ux.ku.trans kx) _ _ (Fq _ We _) rp5)))))
     ·exact kx _ _ (ux _ _ hl15)
     ·exact kx _ _ (ux _ _ hl2')
    ·intro c o e
     rw[A7 (A4 e hq)]
     exact ux _ _ (s5 _ _ e)
   ·have z:¬ r.1 = "ware" := λy=>z (decide_eq_true (by rw[y]))
    refine⟨ws,_,_,_,rfl,hq1,?_,s1⟩
    rw[Pj er,if_neg z,Zzn]
    exact r1
  ·obtain⟨ws,o1,o2,o3,rfl,hq1,r1,s1⟩:=h
   rw[hvl,Zyt] at r1
   walk_at "rd"
   refine⟨_,s1 _ _ ha,?_⟩
   refine Jz (Ip a _) (Bf (by omega)) (λi acc H'=>RDs H' (((rs.take i).filter (isS "want")).map jz) acc/\Same H1 H') ⟨RDs.nil,Same.refl _⟩ (λi acc H' _ h=>h.2 _ _ (s1 _ _ ha)) (λi acc H' h=>?_) (λi x acc H' hi hx h=>?_) (λacc H' h p hp=>?_)
   ·have:=Cm h.1
    have h2:((rs.take i).filter (isS "want")).length<=i:=Zyf (Zxo _ _) (by rw[Zye];omega)
    omega
   ·obtain⟨racc,s2⟩:=h
    obtain⟨r,er,rr⟩:=D4 rv hx
    obtain⟨ra,rfl,hra⟩:=cp rr
    have hra1:=s2 _ _ (s1 _ _ hra)
    walk_at "rd"
    refine⟨_,E7 (j:=0) hra1 rfl,rfl,Fj (λz=>?_) (λz=>?_)⟩
    ·have z:r.1 = "want" := V.str.inj (of_decide_eq_true z)
     have ec:J8 (V.str r.1::V.str r.2.1::r.2.2.map kV) (some 1) none=V.str r.2.1::r.2.2.map kV:=by
      rw[Gi (by decide)]
      rfl
     refine⟨_,hra1,λp hp=>?_⟩
     rw[ec]
     refine⟨_,.inl ⟨A0,λl hl=>?_⟩⟩
     have u:=(A6 (o:=.lst (V.str r.2.1::r.2.2.map kV)) hp).trans (A6 (o:=.tup (V.str r.2.1::r.2.2.map kV)) hl)
     refine⟨?_,s2.trans u⟩
     rw[Pj er,if_pos z,Zzq]
     exact RDs.app (RDs.same u _ _ racc) (RDs.one (RD.tup_mk A0 (RDs.cons RD.str_mk (M3 _))))
    ·have z:¬ r.1 = "want" := λy=>z (decide_eq_true (by rw[y]))
     rw[Pj er,if_neg z,Zzn]
     exact⟨racc,s2⟩
   ·obtain⟨racc,s2⟩:=h
    rw[hvl,Zyt] at racc
    have up:=A6 (o:=.lst acc) hp
    refine⟨ws,.inl ⟨(s2.trans up) _ _ hq1,λl hl=>⟨p,rfl,acc,.inl ⟨A6 hl _ _ A0,λl2 hl2=>⟨by decide,λt ht=>?_⟩⟩⟩⟩⟩
    have v1:=A6 (o:=.tup ws) hl
    have v2:=A6 (o:=.tup acc) hl2
    have v3:=A6 (o:=.tup [V.ref l,V.ref l2]) ht
    have vv:=(v1.trans v2).trans v3
    refine k t _ ?_ (((s1.trans s2).trans up).trans vv)
    unfold wrD
    exact RD.tup_mk A0 (RDs.cons (RD.tup_mk (v3 _ _ (v2 _ _ A0)) (RDs.same ((s2.trans up).trans vv) _ _ r1)) (RDs.one (RD.tup_mk (v3 _ _ A0) (RDs.same (up.trans vv) _ _ racc))))
end
set_option maxHeartbeats 4000000
section
variable {P:Program}{w:World}{K:Zzw}{mg:Str->Option Value}{base:Heap}{f:Addr}{fd:FuncData}
def Zj(rs:List R3):Str:=Str.join (one 10) (rs.map λr=>Oq (r3 r))
theorem lu{r:Str×List Key}(h:L9 r):10∉(Oq r).cps.toList:=by
 have g:∀ws:List Str,(∀w∈ws,10∉w.cps.toList)->10∉(Str.join (one 32) ws).cps.toList:=λws=>by
  induction ws with
  |nil=>intro _ z;exact absurd z (by decide +kernel)
  |cons w r ih =>
   intro hw
   cases r with
   |nil=>exact hw w Zzf
   |cons v r =>
    rw[Ni]
    intro z
    rcases Zyj.mp z with z | z
    ·exact hw w Zzf z
    ·rcases Zzt.mp z with z | z
     ·exact absurd z (by decide)
     ·exact ih (λy hy=>hw y (Zzd _ hy)) z
 exact g _ (Nq h (P:=λw=>10∉w.cps.toList) (L7 h).1.2 λk hk=>(R7 (h.cells k hk)).1.2)
theorem Zi{rs:List R3}(h0:rs≠[])(h:∀r∈rs,L9 (r3 r)):Txt.split (Zj rs) (one 10)=rs.map λr=>Oq (r3 r) :=
 Rr (by decide) (by simpa using h0) λw hw=>by
  obtain⟨r,hr,rfl⟩:=Zzv.mp hw
  exact lu (h r hr)
theorem kn{rs:List R3}(h:∀r∈rs,L9 (r3 r)):(Zj rs).length<=rs.length*400+rs.length:=by
 have:=Sq (sep:=one 10) (B:=400) (xs:=rs.map λr=>Oq (r3 r)) λw hw=>by
  obtain⟨r,hr,rfl⟩:=Zzv.mp hw
  exact Vq (h r hr)
 rw[Zzz,show (one 10).length=1 from rfl,Nat.mul_one] at this
 exact this
mutual
def toD:PyData->D
 |.int i=>.int i
 |.str x=>.str x
 |.tuple ds=>.tup (N1 ds)
 |.none=>.non
 |.bool b=>.bl b
 |.list _=>.lst
 |.dict _=>.dct
def N1:List PyData->List D
 |[]=>[]
 |d::r=>toD d::N1 r
end
mutual
def Oi:PyData->Bool
 |.int _=>true
 |.str x=>decide (x.length<=1000)
 |.tuple ds=>decide (ds.length<=1000)&&Lw ds
 |.none=>false
 |.bool _=>false
 |.list _=>false
 |.dict _=>false
def Lw:List PyData->Bool
 |[]=>true
 |d::r=>Oi d&&Lw r
end
theorem Xa:∀ds:List PyData,(N1 ds).length=ds.length
 |[]=>rfl
 |d::r=>by rw[N1,Zzk,Zzk,Xa r]
theorem P6{α:Type}(f:α->PyData):∀xs:List α,N1 (xs.map f)=xs.map λx=>toD (f x)
 |[]=>rfl
 |x::r=>by rw[Zzp,N1,P6 f r];rfl
mutual
theorem Vs{H:Hp}:∀(d:PyData) (v:V),Oi d=true->RD H d v->Rep H (toD d) v
 |.int i,v,_,h=>by rw[RD] at h;rw[toD,Rep];exact h
 |.str x,v,f,h=>by rw[RD] at h;rw[toD,Rep];exact⟨h,by rw[Oi] at f;exact of_decide_eq_true f⟩
 |.tuple ds,v,f,h=>by
  rw[RD] at h
  obtain⟨a,xs,h1,h2,h3⟩:=h
  rw[Oi,Zza] at f
  rw[toD,Rep]
  exact⟨a,xs,h1,h2,by rw[Xa];exact of_decide_eq_true f.1,Xj ds xs f.2 h3⟩
 |.none,_,f,_=>by rw[Oi] at f;cases f
 |.bool _,_,f,_=>by rw[Oi] at f;cases f
 |.list _,_,f,_=>by rw[Oi] at f;cases f
 |.dict _,_,f,_=>by rw[Oi] at f;cases f
theorem Xj{H:Hp}:∀(ds:List PyData) (vs:List V),Lw ds=true->RDs H ds vs->Reps H (N1 ds) vs
 |[],vs,_,h=>by rw[RDs.nil_of h,N1,Reps]
 |d::r,vs,f,h=>by
  rw[Lw,Zza] at f
  obtain⟨x,r',rfl,h1,h2⟩:=RDs.cons_of h
  rw[N1,Reps]
  exact⟨x,r',rfl,Vs d x f.1 h1,Xj r r' f.2 h2⟩
end
end
set_option maxHeartbeats 4000000
section
variable {P:Program}{w:World}{K:Zzw}{mg:Str->Option Value}{base:Heap}{f:Addr}{fd:FuncData}
theorem Zn{ws us:List D}(h:Jy (.tup [.tup ws,.tup us])=true):(∀d∈ws,isWare d=true)/\ws.length<=12:=by
 have h:(Ib (.tup ws)&&Ic (.tup us)&&(K8 ws us).all λx=>decide (x∈ws.map nameOf))=true:=h
 simp only[Zza] at h
 have ha:(decide (1<=ws.length)&&decide (ws.length<=12)&&ws.all isWare&&unl (ws.map nameOf))=true:=h.1.1
 simp only[Zza,decide_eq_true_eq] at ha
 exact⟨λd hd=>Zyi.mp ha.1.2 d hd,ha.1.1.2⟩
theorem Zo{ws us:List D}(h:Jy (.tup [.tup ws,.tup us])=true):∀d∈us,Gb d=true:=by
 have h:(Ib (.tup ws)&&Ic (.tup us)&&(K8 ws us).all λx=>decide (x∈ws.map nameOf))=true:=h
 simp only[Zza] at h
 have ha:(decide (us.length<=20)&&us.all Gb)=true:=h.1.2
 simp only[Zza] at ha
 exact λd hd=>Zyi.mp ha.2 d hd
structure Z8(rs:List R3):Prop where
 ne:rs≠[]
 len:rs.length<=400
 ok:∀r∈rs,L9 (r3 r)
 fit:Oi (wrD rs)=true
 shop:Jy (toD (wrD rs))=true
 own:∀r∈rs,r.2.1∈(rs.filter (isS "ware")).map (·.2.1)
theorem A07(rs:List R3)(r:R3):nameOf (toD (Ku rs r))=r.2.1:=by
 unfold Ku
 rw[toD,Zz2,N1,toD]
 rfl
def sp_read_shop:Sp:=λvs H Q _=>∃(rs:List R3),vs=[.str (Zj rs)]/\Z8 rs/\∀t H',RD H' (wrD rs) (.ref t)->Same H H'->Q (.ref t) H'
theorem sc_read_shop:Bg ["text", "rows", "shop"] ["text"] (Ai Lc):=by walk_at "sc"
theorem Vx(F:Fun K "read_shop" "read_shop" Lc f fd)(T:Txt mg)(Zse:Has P w K mg base "read_row" 4 ["row"] sp_read_row)(Ztc:Has P w K mg base "written_shop" 2 ["rows"] sp_written_shop)(Zuj:Has P w K mg base "names_of" 1 ["shop"] sp_names_of)(Zs8:Has P w K mg base "is_shop" 8 ["found"] sp_is_shop):D3 P w K mg base CX0 9 f fd ["text"] sp_read_shop:=by
 refine F.ok sc_read_shop (λvs H Q E h=>?_) (λcdv A outer s H vs Q E hr h=>?_)
 ·obtain⟨rs,rfl,_⟩:=h
  rfl
 ·obtain⟨rs,rfl,sr,k⟩:=h
  have hu:=Ch hr
  refine⟨_,(A2 (Db (E4 (Es (Bd Ir rfl T.Zu7 Gj (A3 (pv 0) (A3 (O8 (v:=.ty "str") rfl T.Ztp K0 rfl) A1))))) Jd C5)
 (A2 (G7 (own:=["row"]) (cap:=[]) (i:=1) rfl (Du rfl) (C8 (by decide)) sc_read_shop.nd rfl rfl (Mm (Gf Zx6 PySem.F.slot_str_split PySem.F.type_str_split Yb (pv 0) (A3 D7 A1)))
 (λ_ _ _ _ _ _=>⟨(Ac (i:=0) (of_decide_eq_true rfl) rfl (Zzu rfl) (.inr rfl)),D0,(A9 Zse hr.z rfl (A3 (pv 0) A1))⟩))
 (A2 (Bh (i:=2) sc_read_shop.nd rfl (Zvu rfl) (A9 Ztc hr.z rfl (A3 (pv 1) A1)))
 (A2 (Db (PW.pt (N9 (E4 (Es (A9 Zs8 hr.z rfl (A3 (pv 2) A1)))) (Mk (E4 (Es (Bd (J7 rfl) rfl T.Zt4 Mw (A3 (D5 (own:=["row"]) (cap:=[2]) rfl (Du rfl) (C8 (by decide)) (G8 (pv 1))
 (λ_ _ _ _ _ _=>⟨(Ac (i:=0) (of_decide_eq_true rfl) rfl (Zzu rfl) (.inr rfl)),D0,(Ih (Py hu) (A8 hu (pv 0) A5 (λ_ _=>rfl)) (A9 Zuj hr.z rfl (A3 (pv 1) A1)) rfl)⟩)) A1))))))) Jd C5)
 (Aa (Be (pv 2))))))),?_⟩
  have hl:=sr.len
  have htl:=kn sr.ok
  have h5:∀r∈rs,r.2.2.length<=5:=λr hr=>by
   have:=(L7 (sr.ok r hr)).2.2
   have e:(r3 r).2.length=r.2.2.length+1:=rfl
   omega
  walk_at "rd"
  refine⟨_,rfl,?_⟩
  rw[if_neg (by decide)]
  refine⟨rfl,10,by decide +kernel,by omega,λp hp=>.inl ⟨_,A0,?_⟩⟩
  rw[Zi sr.ne sr.ok]
  have u1:=A6 (o:=.lst ((rs.map λr=>Oq (r3 r)).map V.str)) hp
  have hp1:upd H p (.lst ((rs.map λr=>Oq (r3 r)).map V.str)) p=some (.lst ((rs.map λr=>Oq (r3 r)).map V.str)):=A0
  generalize upd H p (.lst ((rs.map λr=>Oq (r3 r)).map V.str))=H1 at u1 hp1
  refine Jz (Ip p _) (Bf (by simp only[Zzz];omega)) (λi acc H'=>RDs H' ((rs.take i).map r3D) acc/\Same H1 H') ⟨RDs.nil,Same.refl _⟩ (λi acc H' _ h=>h.2 _ _ hp1) (λi acc H' h=>?_) (λi x acc H' hi hx h=>?_) (λacc H2 h q hq=>?_)
  ·have:=Cm h.1
   rw[Zye] at this
   omega
  ·obtain⟨racc,s1⟩:=h
   rw[Zzy,Zzy] at hx
   cases er:rs[i]? with
   |none=>rw[er] at hx;cases hx
   |some r =>
   rw[er] at hx
   have hx:V.str (Oq (r3 r))=x:=Zz3 hx
   subst hx
   walk_at "rd"
   refine⟨r3 r,rfl,sr.ok r (Zzr er),λp3 H3 hp3 hp3' s3=>⟨?_,s1.trans s3⟩⟩
   rw[Zyx,er,Zzq]
   refine RDs.app (RDs.same s3 _ _ racc) (RDs.one ?_)
   show RD H3 (.list (.str r.1::.str r.2.1::r.2.2.map Ph)) (.ref p3)
   rw[RD]
   exact⟨p3,_,rfl,hp3',RDs.cons RD.str_mk (RDs.cons RD.str_mk (M3 _))⟩
  ·obtain⟨racc,s1⟩:=h
   simp only[Zzz,Zyt] at racc
   have u2:=A6 (o:=.lst acc) hq
   have hq2:upd H2 q (.lst acc) q=some (.lst acc):=A0
   have s2:=(u1.trans s1).trans u2
   have racc:=RDs.same u2 _ _ racc
   generalize upd H2 q (.lst acc)=H3 at hq2 s2 racc
   have rrd:RD H3 (.list (rs.map r3D)) (.ref q):=by rw[RD];exact⟨q,acc,rfl,hq2,racc⟩
   refine⟨q,rs,rfl,rrd,by omega,h5,λt H4 rt s4=>?_⟩
   have rep4:=Vs _ _ sr.fit rt
   refine⟨.ref t,toD (wrD rs),rfl,rep4,λH5 s5=>⟨_,rfl,?_⟩⟩
   rw[sr.shop,if_neg (by decide)]
   have s05:=s4.trans s5
   obtain⟨q',vs5,eq5,hq5,rv5⟩:=Qw (RD.same s05 _ _ rrd)
   cases eq5
   have hv5:=Cm rv5
   refine⟨q,rfl,vs5,hq5,?_⟩
   have sh:=sr.shop
   unfold wrD at sh
   rw[toD,N1,N1,N1,toD,toD] at sh
   obtain⟨aw,lw⟩:=Zn sh
   have auw:=Zo sh
   refine Da (Ip q _) (Bf (by omega)) (λH' s'=>s' _ _ hq5) ((rs.map λ_=>true).map V.bl) (by rw[Zzz,Zzz];omega) (λi x H' hi hx s' N M hN=>?_) (λH' s' p6 hp6=>?_)
   ·obtain⟨r,er,rr⟩:=D4 rv5 hx
    obtain⟨ra,rfl,hra⟩:=cp rr
    walk_at "rd"
    have rep6:=Vs _ _ sr.fit (RD.same (s5.trans s') _ _ rt)
    unfold wrD at rep6
    rw[toD,N1,N1,N1,toD,toD] at rep6
    refine⟨_,E7 (j:=1) (s' _ _ hra) rfl,Uk rep6 aw auw lw λp7 H7 hp7 hp7' s7=>⟨true,.inl ⟨p7,_,rfl,.inl hp7',rfl,Og _,?_⟩,hN _ _ (s'.trans s7) ?_⟩⟩
    ·have hm:=sr.own r (Zzr er)
     rw[Pl,decide_eq_true]
     rw[P6,Zyh]
     have e:(nameOf∘λx=>toD (Ku rs x))=λr:R3=>r.2.1:=funext λr=>A07 rs r
     rw[e]
     exact hm
    ·rw[Zzy,Zzy,er]
     rfl
   ·refine⟨p6,rfl,_,A0,?_⟩
    rw[if_neg (by rw[show (rs.map λ_=>true).all id=true by rw[Zyi];intro x hx;obtain⟨y,_,rfl⟩:=Zzv.mp hx;rfl];decide)]
    have u6:=A6 (o:=.lst ((rs.map λ_=>true).map V.bl)) hp6
    exact k t _ (RD.same (s5.trans (s'.trans u6)) _ _ rt) (s2.trans (s05.trans (s'.trans u6)))
end
set_option maxHeartbeats 4000000
section
variable {P:Program}{w:World}{K:Zzw}{mg:Str->Option Value}{base:Heap}{f:Addr}{fd:FuncData}{Pt:Addr}
theorem n0{x:Str}(h:D6 x=true):PyData.strOk x=true:=by
 unfold D6 at h
 simp only[Zza] at h
 have all:=Zyi.mp h.2
 have lt:∀c∈Pg,c<0x110000:=by decide +kernel
 unfold PyData.strOk
 rw[<- Array.all_toList]
 exact Zyi.mpr λc hc=>decide_eq_true (lt c (of_decide_eq_true (all c hc)))
def StOk2(H:Hp)(st:Addr):Prop:=∃x y:Int,H st=some (.lst [.int x,.int y])
theorem StOk2.same{H H':Hp}{st:Addr}(h:StOk2 H st)(s:Same H H'):StOk2 H' st:=by obtain⟨x,y,e⟩:=h;exact⟨x,y,s _ _ e⟩
theorem StOk2.but{H H':Hp}{a st:Addr}(h:StOk2 H a)(s:But st H H')(hs:StOk2 H' st):StOk2 H' a:=by
 by_cases e:a=st
 ·rw[e];exact hs
 ·obtain⟨x,y,q⟩:=h
  exact⟨x,y,s _ _ e q⟩
def Uh:List V->Bool
 |.int _::_=>false
 |_=>true
theorem StOk2.ne{H:Hp}{st a:Addr}{xs:List V}(h:StOk2 H st)(ha:H a=some (.lst xs))(n:Uh xs=true):a≠st:=λe=>by
 obtain⟨x,y,q⟩:=h
 rw[e,q] at ha
 cases ha
 cases n
theorem StOk2.neT{H:Hp}{st a:Addr}{xs:List V}(h:StOk2 H st)(ha:H a=some (.tup xs)):a≠st:=λe=>by
 obtain⟨x,y,q⟩:=h
 rw[e,q] at ha
 cases ha
theorem Q6{H H':Hp}{st:Addr}(s:But st H H')(h:StOk2 H st):KeepU H H':=λa xs e=>s a _ (h.neT e) e
def N7(K:Zzw):Sp:=λvs H Q _=>∃(a:Addr) (ns:List Int) (k:Int),vs=[.ref a,.int k]/\SqL K H a (ns.map V.int)/\ns.length<=63/\0<=k/\∀c,0<=c->c<10^60->Q (.int c) H
theorem Ru:Bg ["_law_script", "_law_k"] ["_law_script", "_law_k"] (Ai Jm):=by walk_at "sc"
theorem Sa(F:Fun K "_law_cell_at" "_law_cell_at" Jm f fd)(T:Txt mg):D3 P w K mg base CX0 1 f fd ["_law_script", "_law_k"] (N7 K):=by
 refine F.ok Ru (λvs H Q E h=>?_) (λcdv A outer s H vs Q E hr h=>?_)
 ·obtain⟨a,ns,k,rfl,_⟩:=h
  rfl
 ·obtain⟨a,ns,k,rfl,hS,hlen,k0,q⟩:=h
  have hu:=Ch hr
  refine⟨_,(A2 (Db (C6 (Lz hu) (pv 1) (Bd J6 rfl T.Zue Fu (A3 (pv 0) A1)) (Cc _)) (Aa (Be (C7 Pw (xh dq (pv 0) (pv 1) (λ_ _=>rfl)) (C7 mo A5 A5)))) C5)
 (Aa (Be A5))),?_⟩
  walk_at "rd"
  refine⟨_,.inl hS,Fj (λh=>?_) (λh=>q 0 (by decide) (by decide))⟩
  have h:=of_decide_eq_true h
  rw[Zzz] at h
  have hk:k.toNat<ns.length:=by omega
  have e:((k.toNat:Nat):Int)=k:=by omega
  refine⟨a,_,k,.int ns[k.toNat],rfl,rfl,hS,?_,⟨by decide,by decide,by decide⟩,_,rfl,by decide +kernel,?_⟩
  ·have q:=Po (xs:=ns.map V.int) (j:=k.toNat) (v:=V.int ns[k.toNat]) (by rw[Zzy,Zzs hk];rfl)
   rw[e] at q
   exact q
  ·exact q _ (Zv2 _ (by decide +kernel)) (Zvi _ (by decide +kernel))
def P8(K:Zzw):Sp:=λvs H Q _=>∃(a:Addr) (ns:List Int) (k s:Int),vs=[.ref a,.int k,.int s]/\SqL K H a (ns.map V.int)/\ns.length<=63/\0<=k/\∀st H',H st=none->StOk2 H' st->Same H H'->Q (.ref st) H'
theorem sc_law_drawn:Bg ["_law_script", "_law_k", "_law_salt", "_law_cell", "_law_mixed"] ["_law_script", "_law_k", "_law_salt"] (Ai Lm):=by walk_at "sc"
theorem W6(F:Fun K "_law_drawn" "_law_drawn" Lm f fd)(T:Txt mg)(Zto:Has P w K mg base "_law_cell_at" 1 ["_law_script", "_law_k"] (N7 K)):D3 P w K mg base CX0 2 f fd ["_law_script", "_law_k", "_law_salt"] (P8 K):=by
 refine F.ok sc_law_drawn (λvs H Q E h=>?_) (λcdv A outer s H vs Q E hr h=>?_)
 ·obtain⟨a,ns,k,s,rfl,_⟩:=h
  rfl
 ·obtain⟨a,ns,k,sa,rfl,hS,hlen,k0,q⟩:=h
  have hu:=Ch hr
  refine⟨_,(A2 (Bh (i:=3) sc_law_drawn.nd rfl (Zzu rfl) (A9 Zto hr.z rfl (A3 (pv 0) (A3 (pv 1) A1))))
 (A2 (Bh (i:=4) sc_law_drawn.nd rfl (Zzu rfl) (C7 Pw (C7 Ds (C7 Ds (C7 J0 (pv 3) A5) (C7 J0 A5 (C7 Ds (pv 1) (pv 2)))) A5) A5))
 (A2 (Db (C6 (Fz hu) (C7 Pw (A9 Zto hr.z rfl (A3 (pv 0) (A3 A5 A1))) A5) A5 (Cc _)) (Aa (Be (Dl (A3 (C7 Nb (pv 3) (C7 Ds A5 (Cy jt rfl T.Zry bn (A3 (Ih (Fz hu) (pv 1) A5 (Cc _)) A1)))) (A3 (pv 4) A1))))) C5)
 (Aa (Be (Dl (A3 A5 (A3 (pv 4) A1)))))))),?_⟩
  walk_at "rd"
  refine⟨a,ns,k,rfl,hS,hlen,k0,λc c0 c1=>?_⟩
  walk_at "rd"
  refine⟨.inl (.inr ⟨by decide,by decide⟩),.inl (.inl ⟨by decide,by decide⟩),by decide,?_⟩
  refine⟨a,ns,0,rfl,hS,hlen,by decide,λd d0 d1=>?_⟩
  walk_at "rd"
  refine⟨by decide,rfl,Fj (λ_=>?_) (λ_=>?_)⟩
  ·refine⟨rfl,?_⟩
   have hj:∀b:Bool,(0:Int)<1+(if b=true then 1 else 0)/\(1+(if b=true then 1 else 0):Int)<10^200:=by decide +kernel
   exact⟨(hj _).1,(hj _).2,by decide,λp hp=>q p _ hp ⟨_,_,A0⟩ (A6 hp)⟩
  ·exact⟨by decide,λp hp=>q p _ hp ⟨_,_,A0⟩ (A6 hp)⟩
def sp_law_next:Sp:=λvs H Q _=>∃st m,vs=[.ref st,.int m]/\StOk2 H st/\0<m/\m<10^200/\∀d H',0<=d->d<m->StOk2 H' st->But st H H'->Q (.int d) H'
theorem sc_law_next:Bg ["_law_state", "_law_many", "_law_digit"] ["_law_state", "_law_many"] (Ai Md):=by walk_at "sc"
theorem Y1(F:Fun K "_law_next" "_law_next" Md f fd)(T:Txt mg):D3 P w K mg base CX0 1 f fd ["_law_state", "_law_many"] sp_law_next:=by
 refine F.ok sc_law_next (λvs H Q E h=>?_) (λcdv A outer s H vs Q E hr h=>?_)
 ·obtain⟨st,m,rfl,_⟩:=h
  rfl
 ·obtain⟨st,m,rfl,⟨x,y,hs⟩,h0,hm,k⟩:=h
  have hu:=Ch hr
  refine⟨_,(A2 (Db (C6 Xs (A8 hu (pv 0) A5 (λ_ _=>rfl)) A5 (Cc _)) (A2 (Bh (i:=2) sc_law_next.nd rfl (Zzu rfl) (C7 Pw (A8 hu (pv 0) A5 (λ_ _=>rfl)) (pv 1)))
 (A2 (Je (C7 Nb (A8 hu (pv 0) A5 (λ_ _=>rfl)) (pv 1)) (Jx (pv 0) A5 Jt))
 (Aa (Be (pv 2))))) C5)
 (A2 (Je (C7 Pw (C7 Ds (C7 J0 (A8 hu (pv 0) A5 (λ_ _=>rfl)) A5) A5) A5) (Jx (pv 0) A5 Jt))
 (Aa (Be (C7 Pw (C7 Nb (A8 hu (pv 0) A5 (λ_ _=>rfl)) A5) (pv 1)))))),?_⟩
  walk_at "rd"
  have i0:Ol H (.ref st) (.int 0) (.int x):=E7 (j:=0) hs rfl
  have i1:Ol H (.ref st) (.int 1) (.int y):=E7 (j:=1) hs rfl
  refine⟨_,i0,_,rfl,Fj (λ_=>?_) (λ_=>?_)⟩
  ·refine⟨_,i0,_,rfl,h0,_,i0,_,rfl,h0,hm,_,hs,0,by simp[ixN],?_⟩
   exact k _ _ (Zv2 _ (by omega)) (Zvi _ h0) ⟨x / m,y,by rw[A0];rfl⟩ Ws
  ·refine⟨_,i1,_,rfl,.inl (.inr ⟨by decide,by decide⟩),by decide,_,hs,1,by simp[ixN],?_⟩
   refine⟨_,E7 (j:=1) A0 rfl,_,rfl,by decide,by decide +kernel,h0,?_⟩
   exact k _ _ (Zv2 _ (by omega)) (Zvi _ h0) ⟨x,_,by rw[A0];rfl⟩ Ws
def sp_law_amount:Sp:=λvs H Q _=>∃st,vs=[.ref st]/\StOk2 H st/\∀n H',0<=n->n<10^32->StOk2 H' st->But st H H'->Q (.int n) H'
theorem sc_law_amount:Bg ["_law_state", "_law_amount_here"] ["_law_state"] (Ai Kk):=by walk_at "sc"
theorem Tq(F:Fun K "_law_amount" "_law_amount" Kk f fd)(T:Txt mg)(Zum:Has P w K mg base "_law_next" 1 ["_law_state", "_law_many"] sp_law_next):D3 P w K mg base CX0 2 f fd ["_law_state"] sp_law_amount:=by
 refine F.ok sc_law_amount (λvs H Q E h=>?_) (λcdv A outer s H vs Q E hr h=>?_)
 ·obtain⟨st,rfl,_⟩:=h
  rfl
 ·obtain⟨st,rfl,hs,k⟩:=h
  have hu:=Ch hr
  refine⟨_,(A2 (Bh (i:=1) sc_law_amount.nd rfl (Zzu rfl) (A9 Zum hr.z rfl (A3 (pv 0) (A3 A5 A1))))
 (A2 (Db (C6 (Fz hu) (A9 Zum hr.z rfl (A3 (pv 0) (A3 A5 A1))) A5 (Cc _)) (Aa (Be (C7 Ds (C7 J0 (C7 Ds A5 (pv 1)) (C7 mo A5 A5)) (A9 Zum hr.z rfl (A3 (pv 0) (A3 A5 A1)))))) C5)
 (Aa (Be (pv 1))))),?_⟩
  walk_at "rd"
  refine⟨st,10,rfl,hs,by decide,by decide +kernel,λd H1 d0 d1 s1 b1=>?_⟩
  walk_at "rd"
  refine⟨st,8,rfl,s1,by decide,by decide +kernel,λd' H2 _ _ s2 b2=>?_⟩
  walk_at "rd"
  have b2:=b1.trans b2
  refine⟨rfl,Fj (λ_=>?_) (λ_=>k d H2 d0 (Int.lt_trans d1 (by decide)) s2 b2)⟩
  refine⟨⟨by decide,by decide,by decide⟩,.inl (.inl ⟨by omega,by omega⟩),?_⟩
  refine⟨st,9,rfl,s2,by decide,by decide +kernel,λe H3 e0 e1 s3 b3=>?_⟩
  have q:(0:Int)<=(1+d)*10^Int.toNat 30+e/\(1+d)*10^Int.toNat 30+e<10^32:=by
   have:(10:Int)^Int.toNat 30=1000000000000000000000000000000:=by decide
   rw[this]
   omega
  exact⟨e,rfl,k _ H3 q.1 q.2 s3 (b2.trans b3)⟩
structure Raw where
 a:Addr
 c:Addr
 q:Addr
 w:Wr
def RawOk(H:Hp)(r:Raw):Prop:=H r.a=some (.lst [.str r.w.name,.int r.w.lag,.int r.w.gives,.int r.w.floor,.int r.w.stock,.ref r.c,.ref r.q])/\(∃cv,H r.c=some (.lst cv)/\RDs H (r.w.coming.map Q7) cv)/\∃pv,H r.q=some (.lst pv)/\RDs H (r.w.parts.map J9) pv
theorem RawOk.mono{H H':Hp}{r:Raw}(h:RawOk H r)(k:∀b xs,b=r.a\/b=r.c\/b=r.q->H b=some (.lst xs)->H' b=some (.lst xs))(u:KeepU H H'):RawOk H' r:=by
 obtain⟨h1,⟨cv,h2,h3⟩,pv,h4,h5⟩:=h
 exact⟨k _ _ (.inl rfl) h1,⟨cv,k _ _ (.inr (.inl rfl)) h2,RDs.ku u _ _ (Fq Q7 ak _) h3⟩,pv,k _ _ (.inr (.inr rfl)) h4,RDs.ku u _ _ (Fq J9 Mo _) h5⟩
theorem Q0{H:Hp}{xs:List (Int×Int)}{vs:List V}(h:RDs H (xs.map Q7) vs):Uh vs=true:=by
 cases xs with
 |nil=>rw[RDs.nil_of h];rfl
 |cons x r =>
  obtain⟨v,t,rfl,hv,_⟩:=RDs.cons_of h
  obtain⟨a,rfl,_⟩:=T6 hv
  rfl
theorem Si{H:Hp}{xs:List (Str×Int)}{vs:List V}(h:RDs H (xs.map J9) vs):Uh vs=true:=by
 cases xs with
 |nil=>rw[RDs.nil_of h];rfl
 |cons x r =>
  obtain⟨v,t,rfl,hv,_⟩:=RDs.cons_of h
  obtain⟨a,rfl,_⟩:=O9 hv
  rfl
theorem Sf{H:Hp}{xs:List Wt}{vs:List V}(h:RDs H (xs.map La) vs):Uh vs=true:=by
 cases xs with
 |nil=>rw[RDs.nil_of h];rfl
 |cons x r =>
  obtain⟨v,t,rfl,hv,_⟩:=RDs.cons_of h
  obtain⟨a,rfl,_⟩:=Nr hv
  rfl
theorem Kz(as:List Addr):Uh (as.map V.ref)=true:=by cases as<;>rfl
theorem RawOk.but{H H':Hp}{r:Raw}{st:Addr}(h:RawOk H r)(b:But st H H')(s:StOk2 H st):RawOk H' r:=by
 refine h.mono (λx xs e hx=>b x _ ?_ hx) (Q6 b s)
 obtain⟨h1,⟨cv,h2,h3⟩,pv,h4,h5⟩:=h
 rcases e with rfl | rfl | rfl
 ·exact s.ne h1 rfl
 ·exact s.ne h2 (Q0 h3)
 ·exact s.ne h4 (Si h5)
theorem S3{H:Hp}{p:Addr}{ns:List Int}{d:Int}{lo hi:Int}(h:H p=some (.lst (ns.map V.int)))(d0:0<=d)(d1:d<ns.length)(hb:∀n∈ns,lo<=n/\n<=hi):∃n,lo<=n/\n<=hi/\Ol H (.ref p) (.int d) (.int n):=by
 have hd:d.toNat<ns.length:=by omega
 have:=hb _ (Zvq hd)
 exact⟨ns[d.toNat],this.1,this.2,Mr (.inl h) d0 (by rw[Zzy,Zzs hd];rfl)⟩
structure WB(w:Wr):Prop where
 lag:0<=w.lag/\w.lag<=30
 gives:1<=w.gives/\w.gives<=100
 floor:0<=w.floor/\w.floor<=100
 stock:0<=w.stock/\w.stock<=100
 parts:w.parts.length<=12
 amts:∀p∈w.parts,1<=p.2/\p.2<=100
 nds:(w.parts.map (·.1)).Nodup
structure RawsOk(H:Hp)(rs:List Raw):Prop where
 each:∀r∈rs,RawOk H r
 nd:(rs.map (·.c)).Nodup
 apart:∀r∈rs,∀r'∈rs,r.c≠r'.a/\r.c≠r'.q
theorem RawsOk.perm{H:Hp}{rs rs':List Raw}(h:RawsOk H rs)(p:rs'.Perm rs):RawsOk H rs' :=
 ⟨λr hr=>h.each r (p.mem_iff.mp hr),(p.map _).nodup_iff.mpr h.nd,λr hr r' hr'=>h.apart r (p.mem_iff.mp hr) r' (p.mem_iff.mp hr')⟩
def Kth(Pn:List Str)(m:Nat)(i:Nat)(w:Wr):Prop:=Pn[i]?=some w.name/\WB w/\∀p∈w.parts,∃j,i<j/\j<m/\Pn[j]?=some p.1
structure WsOk(ws:List Wr):Prop where
 nd:(ws.map (·.name)).Nodup
 wb:∀w∈ws,WB w
 txt:∀w∈ws,D6 w.name=true
 own:∀w∈ws,∀p∈w.parts,p.1∈ws.map (·.name)
 low:∃r:Str->Nat,(∀w∈ws,r w.name<ws.length)/\∀w∈ws,∀p∈w.parts,r p.1<r w.name
theorem WsOk.perm{ws ws':List Wr}(h:WsOk ws)(p:ws'.Perm ws):WsOk ws':=by
 refine⟨(p.map _).nodup_iff.mpr h.nd,λw hw=>h.wb w (p.mem_iff.mp hw),λw hw=>h.txt w (p.mem_iff.mp hw),λw hw q hq=>(p.map _).mem_iff.mpr (h.own w (p.mem_iff.mp hw) q hq),?_⟩
 obtain⟨r,h1,h2⟩:=h.low
 exact⟨r,λw hw=>by rw[p.length_eq];exact h1 w (p.mem_iff.mp hw),λw hw=>h2 w (p.mem_iff.mp hw)⟩
theorem Wn{Pn:List Str}(nd:Pn.Nodup){i:Nat}{x:Str}(h:Pn[i]?=some x):Pn.idxOf x=i:=by
 obtain⟨hi,rfl⟩:=Zz4.mp h
 exact nd.idxOf_getElem i hi
theorem zx{Pn:List Str}{ws:List Wr}(nd:Pn.Nodup)(hs:∀x∈Pn,D6 x=true)(h:∀(i:Nat) (w:Wr),ws[i]?=some w->Kth Pn ws.length i w)(hm:ws.length<=Pn.length):WsOk ws:=by
 have en:ws.map (·.name)=Pn.take ws.length:=by
  apply Zx5
  intro i
  rw[Zzy,Zw0]
  by_cases hi:i<ws.length
  ·rw[if_pos hi,Zzs hi]
   exact(h i _ (Zzs hi)).1.symm
  ·rw[if_neg hi,Zy9 (by omega)]
   rfl
 have at':∀w∈ws,∃i,i<ws.length/\Kth Pn ws.length i w:=λw hw=>by
  obtain⟨i,hi,e⟩:=Zx9.mp hw
  exact⟨i,hi,h i w (by rw[Zzs hi,e])⟩
 refine⟨by rw[en];exact(List.take_sublist _ _).nodup nd,λw hw=>?_,λw hw=>?_,λw hw p hp=>?_,λx=>ws.length - 1 - Pn.idxOf x,λw hw=>?_,λw hw p hp=>?_⟩
 ·obtain⟨i,_,k⟩:=at' w hw;exact k.2.1
 ·obtain⟨i,_,k⟩:=at' w hw
  exact hs _ (Zzr k.1)
 ·obtain⟨i,_,k⟩:=at' w hw
  obtain⟨j,h1,h2,h3⟩:=k.2.2 p hp
  rw[en]
  refine Zzr (i:=j) ?_
  rw[Zw0,if_pos h2]
  exact h3
 ·obtain⟨i,hi,k⟩:=at' w hw
  show ws.length - 1 - Pn.idxOf w.name<ws.length
  omega
 ·obtain⟨i,hi,k⟩:=at' w hw
  obtain⟨j,h1,h2,h3⟩:=k.2.2 p hp
  show ws.length - 1 - Pn.idxOf p.1<ws.length - 1 - Pn.idxOf w.name
  rw[Wn nd k.1,Wn nd h3]
  omega
end
set_option maxHeartbeats 4000000
section
variable {P:Program}{w:World}{K:Zzw}{mg:Str->Option Value}{base:Heap}{f:Addr}{fd:FuncData}{Pt:Addr}
theorem RawsOk.but{H H':Hp}{rs:List Raw}{st:Addr}(h:RawsOk H rs)(b:But st H H')(s:StOk2 H st):RawsOk H' rs:=⟨λr hr=>(h.each r hr).but b s,h.nd,h.apart⟩
theorem RawsOk.same{H H':Hp}{rs:List Raw}(h:RawsOk H rs)(s:Same H H'):RawsOk H' rs:=⟨λr hr=>(h.each r hr).mono (λb xs _ e=>s b _ e) s.ku,h.nd,h.apart⟩
def pool0:List Str:=["a", "ab", "b", "ba", "c", "frame", "nut", "wheel"]
theorem ub:pool0.Nodup:=by decide +kernel
theorem ua:∀x∈pool0,D6 x=true:=by decide +kernel
structure A0k(Pn:List Str):Prop where
 nd:Pn.Nodup
 len:Pn.length=pool0.length
 txt:∀x∈Pn,D6 x=true
theorem y9(c:Nat):A0k (pool0.drop c++pool0.take c):=by
 have p:(pool0.drop c++pool0.take c).Perm pool0:=by
  refine List.perm_append_comm.trans ?_
  rw[Zvt]
 exact⟨p.nodup_iff.mpr ub,p.length_eq,λx hx=>ua x (p.mem_iff.mp hx)⟩
def fu(st pl wl:Addr)(m:Nat)(c:Int)(Pn:List Str)(H:Hp)(i:Nat)(Z:St)(H':Hp):Prop:=∃(rs:List Raw) (o1 o2 o3 o4 o5 o6 o7 o8:Option V),
 Z=[some (.ref st),some (.int m),some (.ref pl),some (.int c),some (.ref wl),o1,o2,o3,o4,o5,o6,o7,o8]/\rs.length=i/\H' wl=some (.lst ((rs.map (·.a)).map V.ref))/\H' pl=some (.lst (Pn.map V.str))/\RawsOk H' rs /\
 (∀j r,rs[j]?=some r->Kth Pn m j r.w/\r.w.coming=[]/\H r.a=none/\H r.c=none/\H r.q=none/\r.a≠wl/\r.c≠wl/\r.q≠wl)/\StOk2 H' st/\But st H H'
def MadeB(st pl wl:Addr)(Pn:List Str)(rs:List Raw)(H Hx:Hp):Prop:=Hx wl=some (.lst ((rs.map (·.a)).map V.ref))/\Hx pl=some (.lst (Pn.map V.str))/\RawsOk Hx rs/\StOk2 Hx st/\But st H Hx
theorem MadeB.same{st pl wl:Addr}{Pn:List Str}{rs:List Raw}{H Hx H':Hp}(h:MadeB st pl wl Pn rs H Hx)(s:Same Hx H'):MadeB st pl wl Pn rs H H' :=
 ⟨s _ _ h.1,s _ _ h.2.1,h.2.2.1.same s,h.2.2.2.1.same s,h.2.2.2.2.same s⟩
theorem Sg(xs:List Str):Uh (xs.map V.str)=true:=by cases xs<;>rfl
theorem MadeB.nx{st pl wl:Addr}{Pn:List Str}{rs:List Raw}{H Hx H':Hp}(h:MadeB st pl wl Pn rs H Hx)(s:StOk2 H' st)(b:But st Hx H'):MadeB st pl wl Pn rs H H' :=
 ⟨b _ _ (h.2.2.2.1.ne h.1 (Kz _)) h.1,b _ _ (h.2.2.2.1.ne h.2.1 (Sg _)) h.2.1,h.2.2.1.but b h.2.2.2.1,s,h.2.2.2.2.trans b⟩
theorem MadeB.ne{st pl wl p:Addr}{Pn:List Str}{rs:List Raw}{H Hx:Hp}(h:MadeB st pl wl Pn rs H Hx)(hp:Hx p=none):p≠st:=λe=>by
 obtain⟨x,y,q⟩:=h.2.2.2.1
 rw[e,q] at hp
 cases hp
theorem RawOk.ne{H:Hp}{r:Raw}{st b:Addr}(h:RawOk H r)(s:StOk2 H st)(e:b=r.a\/b=r.c\/b=r.q):b≠st:=by
 obtain⟨h1,⟨cv,h2,h3⟩,pv,h4,h5⟩:=h
 rcases e with rfl | rfl | rfl
 ·exact s.ne h1 rfl
 ·exact s.ne h2 (Q0 h3)
 ·exact s.ne h4 (Si h5)
theorem RawOk.fresh{H:Hp}{r:Raw}{p b:Addr}(h:RawOk H r)(hp:H p=none)(e:b=r.a\/b=r.c\/b=r.q):b≠p:=by
 obtain⟨h1,⟨cv,h2,h3⟩,pv,h4,h5⟩:=h
 rcases e with rfl | rfl | rfl
 ·exact A4 h1 hp
 ·exact A4 h2 hp
 ·exact A4 h4 hp
def ww(st pl wl pa:Addr)(m:Nat)(k:Nat)(c:Int)(lag fl sk:Int)(Pn:List Str)(H1:Hp)(i:Nat)(Z:St)(H':Hp):Prop:=∃(ps:List (Str×Int)) (pv:List V) (o6 o7 o8:Option V),
 Z=[some (.ref st),some (.int m),some (.ref pl),some (.int c),some (.ref wl),some (.int k),some (.int lag),some (.int fl),some (.int sk),some (.ref pa),o6,o7,o8]/\H' pa=some (.lst pv)/\RDs H' (ps.map J9) pv/\ps.length<=i /\
 (∀p∈ps,1<=p.2/\p.2<=100)/\(∀p∈ps,∃j,k<j/\j<k+1+i/\Pn[j]?=some p.1)/\(ps.map (·.1)).Nodup/\StOk2 H' st/\(∀b o,b≠st->b≠pa->H1 b=some o->H' b=some o)
def sp_law_wares:Sp:=λvs H Q _=>∃(st:Addr) (m:Nat),vs=[.ref st,.int m]/\StOk2 H st/\1<=m/\m<=pool0.length/\∀l (rs:List Raw) H',H l=none->H' l=some (.lst ((rs.map (·.a)).map V.ref))->rs.length=m->RawsOk H' rs->WsOk (rs.map (·.w))->(∀r∈rs,r.w.coming=[]/\H r.a=none/\H r.c=none/\H r.q=none/\r.c≠l)->StOk2 H' st->But st H H'->Q (.ref l) H'
theorem sc_law_wares:Bg ["_law_state", "_law_many", "_law_pool", "_law_cut", "_law_wares_here", "_law_k", "_law_lag", "_law_floor", "_law_stock", "_law_parts", "_law_j", "_law_amount_here", "_law_spot"] ["_law_state", "_law_many"] (Ai Lf):=by walk_at "sc"
theorem W0(F:Fun K "_law_wares" "_law_wares" Lf f fd)(T:Txt mg)(Zum:Has P w K mg base "_law_next" 1 ["_law_state", "_law_many"] sp_law_next):D3 P w K mg base CX0 2 f fd ["_law_state", "_law_many"] sp_law_wares:=by
 refine F.ok sc_law_wares (λvs H Q E h=>?_) (λcdv A outer s H vs Q E hr h=>?_)
 ·obtain⟨st,m,rfl,_⟩:=h
  rfl
 ·obtain⟨st,m,rfl,hs,m1,m8,k⟩:=h
  have hp8:pool0.length=8:=rfl
  have m200:(m:Int)<10^200:=Zwx (b:=8) (by omega) (by decide +kernel)
  have hu:=Ch hr
  refine⟨_,(A2 (Bh (i:=2) sc_law_wares.nd rfl (Zzu rfl) (Dl (A3 D7 (A3 D7 (A3 D7 (A3 D7 (A3 D7 (A3 D7 (A3 D7 (A3 D7 A1))))))))))
 (A2 (Bh (i:=3) sc_law_wares.nd rfl (Zzu rfl) (A9 Zum hr.z rfl (A3 (pv 0) (A3 A5 A1))))
 (A2 (Bh (i:=2) sc_law_wares.nd rfl (Zzu rfl) (C7 Ov (Hw Jj (pv 2) (Jq (pv 3)) Jr) (Hw Jj (pv 2) Jr (Jq (pv 3)))))
 (A2 (Bh (i:=4) sc_law_wares.nd rfl (Zzu rfl) (Dl A1))
 (A2 (D2 PassesOwn.never rfl (Dy rfl T.Zud (A3 (pv 1) A1)) (Ac (i:=5) sc_law_wares.nd rfl (Zzu rfl))
 (A2 (Bh (i:=6) sc_law_wares.nd rfl (Zzu rfl) (A8 hu (Dl (A3 A5 (A3 A5 (A3 A5 (A3 A5 (A3 A5 (A3 A5 A1))))))) (A9 Zum hr.z rfl (A3 (pv 0) (A3 A5 A1))) (λ_ _=>rfl)))
 (A2 (Bh (i:=7) sc_law_wares.nd rfl (Zzu rfl) (A8 hu (Dl (A3 A5 (A3 A5 (A3 A5 (A3 A5 (A3 A5 (A3 A5 A1))))))) (A9 Zum hr.z rfl (A3 (pv 0) (A3 A5 A1))) (λ_ _=>rfl)))
 (A2 (Bh (i:=8) sc_law_wares.nd rfl (Zzu rfl) (A8 hu (Dl (A3 A5 (A3 (pv 7) (A3 (C7 Ds (pv 7) (A9 Zum hr.z rfl (A3 (pv 0) (A3 A5 A1)))) (A3 (C7 J0 (pv 7) A5) A1))))) (A9 Zum hr.z rfl (A3 (pv 0) (A3 A5 A1))) (λ_ _=>rfl)))
 (A2 (Bh (i:=9) sc_law_wares.nd rfl (Zzu rfl) (Dl A1))
 (A2 (D2 PassesOwn.never rfl (S4 rfl T.Zud (A3 (C7 Ds (pv 5) A5) (A3 (pv 1) A1))) (Ac (i:=10) sc_law_wares.nd rfl (Zzu rfl))
 (A2 (Bh (i:=11) sc_law_wares.nd rfl (Zzu rfl) (Bd (Oe rfl) rfl T.Zsg Ox (A3 A5 (A3 (C7 Ou (A9 Zum hr.z rfl (A3 (pv 0) (A3 A5 A1))) A5) A1))))
 (Aa (Db (C6 Xs (pv 11) A5 (Cc _)) (Aa (Fm (Gf Zyl Zy2 Zy1 Fi (pv 9) (A3 (G9 (A3 (A8 hu (pv 2) (pv 10) (λ_ _=>rfl)) (A3 (pv 11) A1))) A1)))) C5))))
 (Aa (Fm (Gf Zyl Zy2 Zy1 Fi (pv 4) (A3 (Dl (A3 (A8 hu (pv 2) (pv 5) (λ_ _=>rfl)) (A3 (pv 6) (A3 (C7 Ds A5 (A9 Zum hr.z rfl (A3 (pv 0) (A3 A5 A1)))) (A3 (pv 7) (A3 (pv 8) (A3 (Dl A1) (A3 (pv 9) A1)))))))) A1))))))))))
 (A2 (Bh (i:=12) sc_law_wares.nd rfl (Zzu rfl) (A9 Zum hr.z rfl (A3 (pv 0) (A3 (pv 1) A1))))
 (Aa (Be (C7 Ov (Hw Jj (pv 4) (Jq (pv 12)) Jr) (ug rfl rfl T.Zru rfl T.Zrx (Hw Jj (pv 4) Jr (Jq (pv 12))))))))))))),?_⟩
  refine cut3 (λZ' H'=>∃(pl:Addr) (c:Int) (Pn:List Str),Z'=[some (.ref st),some (.int m),some (.ref pl),some (.int c),none,none,none,none,none,none,none,none,none]/\H' pl=some (.lst (Pn.map V.str))/\A0k Pn/\H pl=none/\StOk2 H' st/\But st H H') ?_ (λKK hK=>?_)
  ·rintro Z' H1 ⟨pl,c,Pn,rfl,hpl,pn,fpl,s1,b1⟩
   refine z6 (λZ' H'=>∃wl:Addr,fu st pl wl m c Pn H m Z' H'/\H wl=none) ?_ (λKK hK=>?_)
   ·rintro Z' H2 ⟨wl,⟨rs,o1,o2,o3,o4,o5,o6,o7,o8,rfl,hrs,hwl,hpl2,raws,each,s2,b2⟩,fwl⟩
    walk_at "rd"
    refine⟨st,m,rfl,s2,by omega,m200,λd H3 d0 d1 s3 b3=>?_⟩
    have hwl3:=b3 wl _ (s2.ne hwl (Kz _)) hwl
    refine⟨d,rfl,_,hwl3,λp hp=>⟨d,rfl,_,by rw[A7 (A4 hwl3 hp)];exact hwl3,λp1 hp1=>⟨_,A0,λp2 hp2=>⟨J8 ((rs.map (·.a)).map V.ref) (some d) none,?_,_,A0,?_,λp3 hp3=>?_⟩⟩⟩⟩
    ·have n1:p≠p1:=A4 A0 hp1
     have e1:upd (upd H3 p (.lst (J8 ((rs.map (·.a)).map V.ref) (some d) none))) p1 (.lst (J8 ((rs.map (·.a)).map V.ref) none (some d))) p=some (.lst (J8 ((rs.map (·.a)).map V.ref) (some d) none)):=by rw[A7 n1,A0]
     rw[A7 (A4 e1 hp2)]
     exact e1
    ·rw[Gi d0,Pm d0,Zux,Zx2,Zye,Zzz,Zzz]
     exact Bf (by omega)
    ·have t1:=A6 (o:=.lst (J8 ((rs.map (·.a)).map V.ref) (some d) none)) hp
     have t2:=t1.trans (A6 (o:=.lst (J8 ((rs.map (·.a)).map V.ref) none (some d))) hp1)
     have t3:=t2.trans (A6 (o:=.lst (J8 ((rs.map (·.a)).map V.ref) none (some d)).reverse) hp2)
     have t4:=t3.trans (A6 (o:=.lst (J8 ((rs.map (·.a)).map V.ref) (some d) none++(J8 ((rs.map (·.a)).map V.ref) none (some d)).reverse)) hp3)
     have pm:(rs.drop d.toNat++(rs.take d.toNat).reverse).Perm rs:=by
      refine((List.Perm.refl _).append (List.reverse_perm _)).trans (List.perm_append_comm.trans ?_)
      rw[Zvt]
     have raws3:RawsOk H3 rs:=raws.but b3 s2
     have f3:H3 p3=none:=Same.free t3 hp3
     refine k p3 (rs.drop d.toNat++(rs.take d.toNat).reverse) _ ?_ ?_ (by rw[pm.length_eq];exact hrs) ((raws3.same t4).perm pm) ?_ (λr hr=>?_) (s3.same t4) ((b2.trans b3).same t4)
     ·refine(b2.trans b3).none (λe=>?_) f3
      obtain⟨x,y,q⟩:=s3
      rw[<- e,f3] at q
      cases q
     ·rw[A0,Gi d0,Pm d0,Zzq,Zzq,<- Zuo,<- Zuo,List.map_reverse,List.map_reverse,<- Zun,<- Zun]
     ·rw[Zzq,<- Zzq]
      refine WsOk.perm (ws:=rs.map (·.w)) (zx pn.nd pn.txt (λj w hw=>?_) (by rw[Zzz,pn.len];omega)) (pm.map _)
      rw[Zzy] at hw
      cases er:rs[j]? with
      |none=>rw[er] at hw;cases hw
      |some r =>
       rw[er] at hw
       cases hw
       rw[Zzz,hrs]
       exact(each j r er).1
     ·have hr':=pm.mem_iff.mp hr
      obtain⟨j,hj,e⟩:=Zx9.mp hr'
      obtain⟨_,e1,e2,e3,e4,_⟩:=each j r (by rw[Zzs hj,e])
      obtain⟨_,⟨cv,hc,_⟩,_⟩:=raws3.each r hr'
      exact⟨e1,e2,e3,e4,A4 (t3 _ _ hc) hp3⟩
   ·walk_at "rd"
    refine⟨Zy0 _,λwl hwl=>⟨by omega,by omega,?_⟩⟩
    have nwp:pl≠wl:=A4 hpl hwl
    have nws:st≠wl:=λe=>by obtain⟨x,y,q⟩:=s1;rw[e,hwl] at q;cases q
    have fwl:H wl=none:=b1.none (Zzi nws) hwl
    have em:((m:Nat):Int).toNat=m:=by omega
    rw[em]
    refine Er (L4 0 _) (fu st pl wl m c Pn H) ⟨[],_,_,_,_,_,_,_,_,rfl,rfl,A0,by rw[A7 nwp];exact hpl,⟨(λ_ h=>nomatch h),Zwy,(λ_ h=>nomatch h)⟩,(λ_ _ h=>nomatch h),?_,b1.new hwl⟩ (λ_ _ _ _ _=>trivial) (λi x Z H2 hi hx h=>?_) (λZ H2 h=>?_)
    ·obtain⟨x,y,q⟩:=s1;exact⟨x,y,by rw[A7 nws];exact q⟩
    ·obtain⟨rs,o1,o2,o3,o4,o5,o6,o7,o8,rfl,hrs,hwl2,hpl2,raws,each,s2,b2⟩:=h
     subst hx
     have ei:(0:Int)+(i:Int)=i:=Int.zero_add _
     rw[ei]
     have B0:MadeB st pl wl Pn rs H H2:=⟨hwl2,hpl2,raws,s2,b2⟩
     walk_at "rd"
     refine⟨by decide,λp1 hp1=>?_⟩
     have n1:=B0.ne hp1
     have B1:=B0.same (A6 (o:=.lst [V.int 0,V.int 0,V.int 1,V.int 1,V.int 2,V.int 3]) hp1)
     refine⟨st,6,rfl,B1.2.2.2.1,by decide,by decide +kernel,λd1 H3 d10 d11 s3 b3=>?_⟩
     have B3:=B1.nx s3 b3
     obtain⟨lag,lag0,lag1,it1⟩:=S3 (ns:=[0,0,1,1,2,3]) (lo:=0) (hi:=30) (b3 p1 _ n1 A0) d10 (by simpa using d11) (by decide)
     refine⟨_,it1,by decide,λp2 hp2=>?_⟩
     have n2:=B3.ne hp2
     have B4:=B3.same (A6 (o:=.lst [V.int 0,V.int 0,V.int 0,V.int 1,V.int 2,V.int 5]) hp2)
     refine⟨st,6,rfl,B4.2.2.2.1,by decide,by decide +kernel,λd2 H5 d20 d21 s5 b5=>?_⟩
     have B5:=B4.nx s5 b5
     obtain⟨fl,fl0,fl1,it2⟩:=S3 (ns:=[0,0,0,1,2,5]) (lo:=0) (hi:=5) (b5 p2 _ n2 A0) d20 (by simpa using d21) (by decide)
     refine⟨_,it2,st,10,rfl,s5,by decide,by decide +kernel,λd3 H6 d30 d31 s6 b6=>?_⟩
     have B6:=B5.nx s6 b6
     refine⟨fl,rfl,d3,rfl,fl,rfl,.inl (.inr ⟨by decide,by decide⟩),by decide,λp3 hp3=>?_⟩
     have n3:=B6.ne hp3
     have B7:=B6.same (A6 (o:=.lst [V.int 0,V.int fl,V.int (fl+d3),V.int (fl*3)]) hp3)
     refine⟨st,4,rfl,B7.2.2.2.1,by decide,by decide +kernel,λd4 H8 d40 d41 s8 b8=>?_⟩
     have B8:=B7.nx s8 b8
     obtain⟨sk,sk0,sk1,it3⟩:=S3 (ns:=[0,fl,fl+d3,fl*3]) (lo:=0) (hi:=100) (b8 p3 _ n3 A0) d40 (by simpa using d41) (by
      intro n hn
      simp only[Zzt,Zzj,or_false] at hn
      rcases hn with rfl | rfl | rfl | rfl<;>omega)
     refine⟨_,it3,by decide,λpa hpa=>⟨by omega,by omega,by omega,by omega,?_⟩⟩
     have npa:=B8.ne hpa
     have B9:=B8.same (A6 (o:=.lst []) hpa)
     have fpa:H pa=none:=B8.2.2.2.2.none npa hpa
     have nwp':wl≠pa:=A4 B8.1 hpa
     have npp':pl≠pa:=A4 B8.2.1 hpa
     have napart:∀r∈rs,r.a≠pa/\r.c≠pa/\r.q≠pa:=λr hr=>by
      obtain⟨h1,⟨cv,h2,_⟩,pv,h4,_⟩:=B8.2.2.1.each r hr
      exact⟨A4 h1 hpa,A4 h2 hpa,A4 h4 hpa⟩
     have lift:∀Hx:Hp,StOk2 Hx st->(∀b o,b≠st->b≠pa->upd H8 pa (.lst []) b=some o->Hx b=some o)->MadeB st pl wl Pn rs H Hx:=λHx sx kx=>by
      obtain⟨c1,c2,c3,c4,c5⟩:=B9
      refine⟨kx _ _ (c4.ne c1 (Kz _)) nwp' c1,kx _ _ (c4.ne c2 (Sg _)) npp' c2,⟨λr hr=>(c3.each r hr).mono (λb xs e hb=>kx b _ ((c3.each r hr).ne c4 e) ?_ hb) (λa xs h=>kx a _ (c4.neT h) (λe=>?_) h),c3.nd,c3.apart⟩,sx,λb o nb hb=>kx b o nb (A4 hb fpa) (c5 b o nb hb)⟩
      ·obtain⟨w1,w2,w3⟩:=napart r hr
       rcases e with rfl | rfl | rfl
       ·exact w1
       ·exact w2
       ·exact w3
      ·rw[e,A0] at h;cases h
     have er:((m:Int) - ((i:Int)+1)).toNat=m - (i+1):=by omega
     rw[er]
     refine Er (L4 _ _) (ww st pl wl pa m i c lag fl sk Pn (upd H8 pa (.lst []))) ⟨[],[],_,_,_,rfl,A0,RDs.nil,Zzm _,(λ_ h=>nomatch h),(λ_ h=>nomatch h),Zwy,B9.2.2.2.1,λb o _ _ h=>h⟩ (λ_ _ _ _ _=>trivial) (λt x Z Hx ht hx h=>?_) (λZ Hx h=>?_)
     ·obtain⟨ps,pv,o6,o7,o8,rfl,hpv,rpv,lps,amts,own,ndp,sx,kx⟩:=h
      subst hx
      have Bx:=lift Hx sx kx
      have hj:i+1+t<Pn.length:=by rw[pn.len];omega
      have hjn:Pn[i+1+t]?=some Pn[i+1+t]:=Zzs hj
      walk_at "rd"
      refine⟨st,6,rfl,sx,by decide,by decide +kernel,λd Hy e0 e1 sy by'=>⟨d,rfl,?_⟩⟩
      have By:=Bx.nx sy by'
      have hpv':=by' pa _ npa hpv
      have rpv':=RDs.ku (Q6 by' sx) _ _ (Fq J9 Mo _) rpv
      have ky:∀b o,b≠st->b≠pa->upd H8 pa (.lst []) b=some o->Hy b=some o:=λb o n1 n2 h=>by' b o n1 (kx b o n1 n2 h)
      generalize hq:(if d - 2 > 0 then d - 2 else 0)=am
      have am1:am<=3:=by rw[<- hq];split<;>omega
      refine Fj (λhz=>?_) (λhz=>?_)
      ·have hz:=of_decide_eq_true hz
       refine⟨G2 hpv',.str Pn[i+1+t],Mr (.inl By.2.1) (by omega) ?_,by decide,λt' ht'=>⟨pv,by rw[A7 (A4 hpv' ht')];exact hpv',?_,?_⟩⟩
       ·have:((i:Int)+1+(t:Int)).toNat=i+1+t:=by omega
        rw[this,Zzy,hjn]
        rfl
       ·have:=RDs.len rpv
        rw[Zzz] at this
        exact Zya (m:=1000) (by omega) (by decide)
       ·have u1:KeepU Hy (upd Hy t' (.tup [.str Pn[i+1+t],.int am])):=yj ht'
        have h1:upd Hy t' (.tup [.str Pn[i+1+t],.int am]) pa=some (.lst pv):=by rw[A7 (A4 hpv' ht')];exact hpv'
        have u2:KeepU Hy (upd (upd Hy t' (.tup [.str Pn[i+1+t],.int am])) pa (.lst (pv++[.ref t']))):=u1.trans (Wj h1 (λ_ z=>by cases z))
        have ntp:t'≠pa:=λe=>by rw[e,hpv'] at ht';cases ht'
        have nts:t'≠st:=By.ne ht'
        refine⟨ps++[(Pn[i+1+t],am)],pv++[.ref t'],_,_,_,rfl,A0,?_,by simp;omega,λp hp=>?_,λp hp=>?_,?_,?_,λb o n1 n2 h=>?_⟩
        ·rw[Zzq]
         refine RDs.app (RDs.ku u2 _ _ (Fq J9 Mo _) rpv') (RDs.one ?_)
         exact RD.tup_mk (by rw[A7 ntp,A0]) (RDs.cons RD.str_mk (RDs.one RD.int_mk))
        ·rcases Zyj.mp hp with z | z
         ·exact amts p z
         ·rw[Zyw.mp z];exact⟨by omega,by omega⟩
        ·rcases Zyj.mp hp with z | z
         ·obtain⟨j,j1,j2,j3⟩:=own p z
          exact⟨j,j1,by omega,j3⟩
         ·rw[Zyw.mp z];exact⟨i+1+t,by omega,by omega,hjn⟩
        ·rw[Zzq]
         refine Zve.mpr ⟨ndp,by simp,λx hx y hy e=>?_⟩
         have ey:y=Pn[i+1+t]:=by simpa using hy
         obtain⟨p,hp,rfl⟩:=Zzv.mp hx
         obtain⟨j,j1,j2,j3⟩:=own p hp
         have:=Wn pn.nd j3
         rw[e,ey,Wn pn.nd hjn] at this
         omega
        ·obtain⟨x,y,q⟩:=sy
         exact⟨x,y,by rw[A7 (Zzi npa),A7 (Zzi nts)];exact q⟩
        ·have:=ky b o n1 n2 h
         rw[A7 n2,A7 (A4 this ht')]
         exact this
      ·exact⟨ps,pv,_,_,_,rfl,hpv',rpv',by omega,amts,λp hp=>by obtain⟨j,j1,j2,j3⟩:=own p hp;exact⟨j,j1,by omega,j3⟩,ndp,sy,ky⟩
     ·obtain⟨ps,pv,o6,o7,o8,rfl,hpv,rpv,lps,amts,own,ndp,sx,kx⟩:=h
      have Bx:=lift Hx sx kx
      have hil:i<Pn.length:=by rw[pn.len];omega
      obtain⟨nm,hin⟩:∃x,Pn[i]?=some x:=⟨_,Zzs hil⟩
      walk_at "rd"
      refine⟨G2 Bx.1,.str nm,E7 (j:=i) Bx.2.1 (by rw[Zzy,hin];rfl),st,5,rfl,sx,by decide,by decide +kernel,λx Hy x0 x1 sy by'=>⟨x,rfl,Zy0 _,λcc hcc=>⟨by decide,λaa haa=>?_⟩⟩⟩
      have By:=Bx.nx sy by'
      have hpv':=by' pa _ npa hpv
      have rpv':=RDs.ku (Q6 by' sx) _ _ (Fq J9 Mo _) rpv
      have fcs:cc≠st:=By.ne hcc
      have nca:cc≠aa:=A4 A0 haa
      have haaY:Hy aa=none:=by rw[A7 (Zzi nca)] at haa;exact haa
      have fas:aa≠st:=By.ne haaY
      have nwc:wl≠cc:=A4 By.1 hcc
      have nwa:wl≠aa:=A4 By.1 haaY
      have npc:pa≠cc:=A4 hpv' hcc
      have npaa:pa≠aa:=A4 hpv' haaY
      have fcH:H cc=none:=By.2.2.2.2.none fcs hcc
      have faH:H aa=none:=By.2.2.2.2.none fas haaY
      refine⟨(rs.map (·.a)).map V.ref,by rw[A7 nwa,A7 nwc];exact By.1,?_,?_⟩
      ·rw[Zzz,Zzz]
       exact Zya (m:=1000) (by omega) (by decide)
      ·generalize hR:(HO.lst [V.str nm,V.int lag,V.int (1+x),V.int fl,V.int sk,V.ref cc,V.ref pa])=oR
       have kf:∀b o,b≠wl->Hy b=some o->upd (upd (upd Hy cc (.lst [])) aa oR) wl (.lst ((rs.map (·.a)).map V.ref++[.ref aa])) b=some o:=λb o n h=>by
        rw[A7 n,A7 (A4 h haaY),A7 (A4 h hcc)];exact h
       have uf:KeepU Hy (upd (upd (upd Hy cc (.lst [])) aa oR) wl (.lst ((rs.map (·.a)).map V.ref++[.ref aa]))):=λa xs h=>kf a _ (λe=>by rw[e,By.1] at h;cases h) h
       have oldne:∀r∈rs,(r.a≠wl/\r.c≠wl/\r.q≠wl):=λr hr=>by
        obtain⟨j,hj,e⟩:=Zx9.mp hr
        exact(each j r (by rw[Zzs hj,e])).2.2.2.2.2
       refine⟨rs++[⟨aa,cc,pa,⟨nm,lag,1+x,fl,sk,[],ps⟩⟩],_,_,_,_,_,_,_,_,rfl,by simp[hrs],?_,kf _ _ (λe=>?_) By.2.1,⟨λr hr=>?_,?_,λr hr r' hr'=>?_⟩,λj r hj=>?_,?_,λb o nb hb=>?_⟩
       ·rw[A0,Zzq,Zzq];rfl
       ·rw[e] at hpl2
        have:=By.2.1
        rw[e,By.1] at this
        have z:=congrArg (λo=>match o with | some (HO.lst (V.str _::_))=>true | _=>false) this
        cases hP:Pn with
        |nil=>have:=pn.len;rw[hP] at this;cases this
        |cons y r=>rw[hP] at z;cases rs<;>cases z
       ·rcases Zyj.mp hr with z | z
        ·refine(By.2.2.1.each r z).mono (λb xs e hb=>kf b _ ?_ hb) uf
         obtain⟨w1,w2,w3⟩:=oldne r z
         rcases e with rfl | rfl | rfl
         ·exact w1
         ·exact w2
         ·exact w3
        ·have e:r=_:=Zyw.mp z
         subst e
         refine⟨?_,⟨[],?_,RDs.nil⟩,pv,kf _ _ (Zzi nwp') hpv',RDs.ku uf _ _ (Fq J9 Mo _) rpv'⟩
         ·rw[A7 (Zzi nwa),A0,<- hR]
         ·rw[A7 (Zzi nwc),A7 nca,A0]
       ·rw[Zzq]
        refine Zve.mpr ⟨By.2.2.1.nd,by simp,λx hx y hy e=>?_⟩
        have ey:y=cc:=by simpa using hy
        obtain⟨r,hr,rfl⟩:=Zzv.mp hx
        exact(By.2.2.1.each r hr).fresh hcc (.inr (.inl rfl)) (e.trans ey)
       ·rcases Zyj.mp hr with z | z<;>rcases Zyj.mp hr' with z' | z'
        ·exact By.2.2.1.apart r z r' z'
        ·have e:r'=_:=Zyw.mp z'
         subst e
         exact⟨(By.2.2.1.each r z).fresh haaY (.inr (.inl rfl)),(napart r z).2.1⟩
        ·have e:r=_:=Zyw.mp z
         subst e
         exact⟨Zzi ((By.2.2.1.each r' z').fresh hcc (.inl rfl)),Zzi ((By.2.2.1.each r' z').fresh hcc (.inr (.inr rfl)))⟩
        ·have e:r=_:=Zyw.mp z
         have e':r'=_:=Zyw.mp z'
         subst e e'
         exact⟨nca,Zzi npc⟩
       ·by_cases hlt:j<rs.length
        ·rw[Zww hlt] at hj
         exact each j r hj
        ·have hj2:j=rs.length:=by
          have:=(Zz4.mp hj).1
          simp at this
          omega
         rw[hj2,Zx8 (Zzm _),Zyo] at hj
         have e:r=_:=(Zz3 hj).symm
         subst e
         refine⟨⟨by rw[hj2,hrs];exact hin,⟨⟨lag0,lag1⟩,⟨by show 1<=1+x;omega,by show 1+x<=100;omega⟩,⟨fl0,by show fl<=100;omega⟩,⟨sk0,sk1⟩,by show ps.length<=12;omega,amts,ndp⟩,λp hp=>?_⟩,rfl,faH,fcH,fpa,Zzi nwa,Zzi nwc,Zzi nwp'⟩
         obtain⟨j',j1,j2,j3⟩:=own p hp
         exact⟨j',by omega,by omega,j3⟩
       ·obtain⟨x,y,q⟩:=sy
        exact⟨x,y,kf _ _ (λe=>by rw[<- e] at fwl;exact absurd (By.2.2.2.1) (λh=>by obtain⟨x',y',q'⟩:=h;rw[e,By.1] at q';cases rs<;>cases q')) q⟩
       ·have nbw:b≠wl:=A4 hb fwl
        exact kf b o nbw (By.2.2.2.2 b o nb hb)
    ·exact hK _ _ ⟨wl,h,fwl⟩
  ·walk_at "rd"
   refine⟨by decide,λp0 hp0=>?_⟩
   have np0:st≠p0:=λe=>by obtain⟨x,y,q⟩:=hs;rw[e,hp0] at q;cases q
   refine⟨st,8,rfl,?_,by decide,by decide +kernel,λd H1 d0 d1 s1 b1=>?_⟩
   ·obtain⟨x,y,q⟩:=hs;exact⟨x,y,by rw[A7 np0];exact q⟩
   walk_at "rd"
   have h0:H1 p0=some (.lst (pool0.map V.str)):=b1 p0 _ (Zzi np0) A0
   refine⟨_,h0,λp hp=>⟨_,by rw[A7 (A4 h0 hp)];exact h0,λp1 hp1=>⟨_,by rw[A7 (A4 A0 hp1),A0],_,A0,?_,λp2 hp2=>?_⟩⟩⟩
   ·rw[Gi d0,Pm d0,Zx2,Zye,Zzz]
    exact Bf (by omega)
   ·have t1:=A6 (o:=.lst (J8 (pool0.map V.str) (some d) none)) hp
    have t2:=t1.trans (A6 (o:=.lst (J8 (pool0.map V.str) none (some d))) hp1)
    have t3:=t2.trans (A6 (o:=.lst (J8 (pool0.map V.str) (some d) none++J8 (pool0.map V.str) none (some d))) hp2)
    have b01:But st H H1:=(R8 hp0).trans b1
    refine hK _ _ ⟨p2,d,pool0.drop d.toNat++pool0.take d.toNat,rfl,?_,y9 _,?_,s1.same t3,b01.same t3⟩
    ·rw[A0,Gi d0,Pm d0,Zzq,Zuo,Zun]
    ·refine b01.none (λe=>?_) (Same.free t2 hp2)
     obtain⟨x,y,q⟩:=s1
     rw[e] at hp2
     rw[t2 _ _ q] at hp2
     cases hp2
end
set_option maxHeartbeats 4000000
section
variable {P:Program}{w:World}{K:Zzw}{mg:Str->Option Value}{base:Heap}{f:Addr}{fd:FuncData}{Pt:Addr}
def core(w:Wr):Wr:={w with coming:=[]}
def Zd(sz:Int)(cs:List (Int×Int)):Prop:=cs.length<=12/\∀p∈cs,(0<=p.1/\p.1<sz)/\0<=p.2/\p.2<10^32
def Wz(sz:Int)(names:List Str)(us:List Wt):Prop:=us.length<=20/\∀u∈us,u.1∈names/\(0<=u.2.1/\u.2.1<sz)/\0<=u.2.2/\u.2.2<10^32
theorem Mq{α β:Type}{f:α->β}{l:List α}{i:Nat}{x y:α}(h:l[i]?=some y)(e:f x=f y):(l.set i x).map f=l.map f:=by
 rw[Zvh,e]
 apply Zx5
 intro j
 by_cases hj:i=j
 ·subst hj
  have hi:i<l.length:=(Zz4.mp h).1
  rw[Zvy (by rw[Zzz];exact hi),Zzy,h]
  rfl
 ·rw[Zxj hj]
theorem WsOk.core{ws ws':List Wr}(h:WsOk ws)(e:ws'.map core=ws.map core):WsOk ws':=by
 have f:∀{β:Type} (g:Wr->β),(∀w,g (K92.core w)=g w)->ws'.map g=ws.map g:=λ{β} g hg=>by
  have:=congrArg (Zy4 g) e
  rw[Zyh,Zyh] at this
  have q:g∘K92.core=g:=funext hg
  rw[q] at this
  exact this
 have fn:=f (·.name) (λ_=>rfl)
 have fl:ws'.length=ws.length:=by have:=congrArg Zwa fn;rw[Zzz,Zzz] at this;exact this
 have mem:∀w∈ws',∃w0∈ws,K92.core w0=K92.core w:=λw hw=>by
  have:K92.core w∈ws.map K92.core:=by rw[<- e];exact Zzv.mpr ⟨w,hw,rfl⟩
  obtain⟨w0,h0,e0⟩:=Zzv.mp this
  exact⟨w0,h0,e0⟩
 have cn:∀{w w0:Wr},K92.core w0=K92.core w->w.name=w0.name/\w.parts=w0.parts/\(WB w0->WB w):=λ{w w0} e=>by
  have e1:=congrArg Wr.name e
  have e2:=congrArg Wr.parts e
  have e3:=congrArg Wr.lag e
  have e4:=congrArg Wr.gives e
  have e5:=congrArg Wr.floor e
  have e6:=congrArg Wr.stock e
  simp only[K92.core] at e1 e2 e3 e4 e5 e6
  refine⟨e1.symm,e2.symm,λh=>?_⟩
  obtain⟨a,b,c,d,p,q,r⟩:=h
  exact⟨e3▸a,e4▸b,e5▸c,e6▸d,e2▸p,e2▸q,e2▸r⟩
 refine⟨by rw[fn];exact h.nd,λw hw=>?_,λw hw=>?_,λw hw p hp=>?_,?_⟩
 ·obtain⟨w0,h0,e0⟩:=mem w hw;exact(cn e0).2.2 (h.wb w0 h0)
 ·obtain⟨w0,h0,e0⟩:=mem w hw;rw[(cn e0).1];exact h.txt w0 h0
 ·obtain⟨w0,h0,e0⟩:=mem w hw;rw[fn];rw[(cn e0).2.1] at hp;exact h.own w0 h0 p hp
 ·obtain⟨r,h1,h2⟩:=h.low
  refine⟨r,λw hw=>?_,λw hw p hp=>?_⟩
  ·obtain⟨w0,h0,e0⟩:=mem w hw;rw[(cn e0).1,fl];exact h1 w0 h0
  ·obtain⟨w0,h0,e0⟩:=mem w hw;rw[(cn e0).1];rw[(cn e0).2.1] at hp;exact h2 w0 h0 p hp
structure FillB(l cl wl:Addr)(sz:Int)(rs rs':List Raw)(sts:List Addr)(us:List Wt)(uv:List V)(H Hx:Hp):Prop where
 hl:Hx l=some (.lst ((rs.map (·.a)).map V.ref))
 hcl:Hx cl=some (.lst (sts.map V.ref))
 hwl:Hx wl=some (.lst uv)
 huv:RDs Hx (us.map La) uv
 uok:Wz sz ((rs.map (·.w)).map (·.name)) us
 raws:RawsOk Hx rs'
 ma:rs'.map (·.a)=rs.map (·.a)
 mc:rs'.map (·.c)=rs.map (·.c)
 mw:(rs'.map (·.w)).map core=(rs.map (·.w)).map core
 com:∀r∈rs',Zd sz r.w.coming
 nw:∀r∈rs',r.a≠wl/\r.c≠wl/\r.q≠wl/\r.c≠l/\r.c≠cl
 st:∀s∈sts,StOk2 Hx s
 kp:∀b o,b∉sts->b∉rs.map (·.c)->H b=some o->Hx b=some o
theorem FillB.nx{l cl wl st:Addr}{sz:Int}{rs rs':List Raw}{sts:List Addr}{us:List Wt}{uv:List V}{H Hx H':Hp}(h:FillB l cl wl sz rs rs' sts us uv H Hx)(hm:st∈sts)(s:StOk2 H' st)(b:But st Hx H'):FillB l cl wl sz rs rs' sts us uv H H':=by
 have s0:=h.st st hm
 exact⟨b _ _ (s0.ne h.hl (Kz _)) h.hl,b _ _ (s0.ne h.hcl (Kz _)) h.hcl,b _ _ (s0.ne h.hwl (Sf h.huv)) h.hwl,RDs.ku (Q6 b s0) _ _ (Fq La Qx _) h.huv,h.uok,h.raws.but b s0,h.ma,h.mc,h.mw,h.com,h.nw,
  λx hx=>(h.st x hx).but b s,λx o n1 n2 hb=>b x o (λe=>n1 (e▸hm)) (h.kp x o n1 n2 hb)⟩
theorem FillB.same{l cl wl:Addr}{sz:Int}{rs rs':List Raw}{sts:List Addr}{us:List Wt}{uv:List V}{H Hx H':Hp}(h:FillB l cl wl sz rs rs' sts us uv H Hx)(s:Same Hx H'):FillB l cl wl sz rs rs' sts us uv H H' :=
 ⟨s _ _ h.hl,s _ _ h.hcl,s _ _ h.hwl,RDs.same s _ _ h.huv,h.uok,h.raws.same s,h.ma,h.mc,h.mw,h.com,h.nw,λx hx=>(h.st x hx).same s,λx o n1 n2 hb=>s x o (h.kp x o n1 n2 hb)⟩
theorem FillB.want{l cl wl t:Addr}{sz:Int}{rs rs':List Raw}{sts:List Addr}{us:List Wt}{uv:List V}{H Hx:Hp}{u:Wt}(h:FillB l cl wl sz rs rs' sts us uv H Hx)(hw:H wl=none)(ht:Hx t=some (.tup [.str u.1,.int u.2.1,.int u.2.2]))(hl:us.length<20)
  (hu:u.1∈(rs.map (·.w)).map (·.name)/\(0<=u.2.1/\u.2.1<sz)/\0<=u.2.2/\u.2.2<10^32) (nl:wl≠l/\wl≠cl):FillB l cl wl sz rs rs' sts (us++[u]) (uv++[.ref t]) H (upd Hx wl (.lst (uv++[.ref t]))):=by
 have ku:KeepU Hx (upd Hx wl (.lst (uv++[.ref t]))):=Wj h.hwl (λ_ z=>by cases z)
 have ntw:t≠wl:=λe=>by rw[e,h.hwl] at ht;cases ht
 refine⟨by rw[A7 (Zzi nl.1)];exact h.hl,by rw[A7 (Zzi nl.2)];exact h.hcl,A0,?_,⟨by rw[Zym,Zx3];omega,λx hx=>?_⟩,⟨λr hr=>(h.raws.each r hr).mono (λb xs e hb=>?_) ku,h.raws.nd,h.raws.apart⟩,h.ma,h.mc,h.mw,h.com,h.nw,λs hs=>?_,λb o n1 n2 hb=>?_⟩
 ·rw[Zzq]
  exact RDs.app (RDs.ku ku _ _ (Fq La Qx _) h.huv) (RDs.one (RD.tup_mk (by rw[A7 ntw];exact ht) (RDs.cons RD.str_mk (RDs.cons RD.int_mk (RDs.one RD.int_mk)))))
 ·rcases Zyj.mp hx with z | z
  ·exact h.uok.2 x z
  ·rw[Zyw.mp z];exact hu
 ·obtain⟨w1,w2,w3,_⟩:=h.nw r hr
  rcases e with rfl | rfl | rfl
  ·rw[A7 w1];exact hb
  ·rw[A7 w2];exact hb
  ·rw[A7 w3];exact hb
 ·obtain⟨x,y,q⟩:=h.st s hs
  exact⟨x,y,by rw[A7 (Zzi ((h.st s hs).ne h.hwl (Sf h.huv)))];exact q⟩
 ·rw[A7 (A4 hb hw)]
  exact h.kp b o n1 n2 hb
theorem FillB.thing{l cl wl t:Addr}{sz:Int}{rs rs':List Raw}{sts:List Addr}{us:List Wt}{uv cv:List V}{H Hx:Hp}{i:Nat}{r:Raw}{y:Int×Int}(h:FillB l cl wl sz rs rs' sts us uv H Hx)(hi:rs'[i]?=some r)(hc:Hx r.c=some (.lst cv))(rc:RDs Hx (r.w.coming.map Q7) cv)
  (ht:Hx t=some (.tup [.int y.1,.int y.2])) (hl:r.w.coming.length<12) (hy:(0<=y.1/\y.1<sz)/\0<=y.2/\y.2<10^32) :
  FillB l cl wl sz rs (rs'.set i {r with w:={r.w with coming:=r.w.coming++[y]}}) sts us uv H (upd Hx r.c (.lst (cv++[.ref t]))):=by
 have hm:=Zzr hi
 have ku:KeepU Hx (upd Hx r.c (.lst (cv++[.ref t]))):=Wj hc (λ_ z=>by cases z)
 have ntc:t≠r.c:=λe=>by rw[e,hc] at ht;cases ht
 obtain⟨w1,w2,w3,w4,w5⟩:=h.nw r hm
 have hil:i<rs'.length:=(Zz4.mp hi).1
 have hgi:rs'[i]=r:=(Zz4.mp hi).2
 have setmem:∀r'∈rs'.set i {r with w:={r.w with coming:=r.w.coming++[y]}},r'={r with w:={r.w with coming:=r.w.coming++[y]}}\/(r'∈rs'/\r'.c≠r.c):=λr' hr'=>by
  obtain⟨j,hj,e⟩:=Zx9.mp hr'
  have hj':j<rs'.length:=by simpa using hj
  by_cases hij:i=j
  ·subst hij
   rw[List.getElem_set_self] at e
   exact .inl e.symm
  ·rw[List.getElem_set_ne hij] at e
   refine .inr ⟨e▸Zvq hj',λec=>hij ?_⟩
   have e1:(rs'.map (·.c))[i]?=(rs'.map (·.c))[j]?:=by
    rw[Zzy,Zzy,hi,Zzs hj',e]
    show some r.c=some r'.c
    rw[ec]
   exact(List.getElem?_inj (by rw[Zzz];exact hil) h.raws.nd).mp e1
 have mc:(rs'.set i {r with w:={r.w with coming:=r.w.coming++[y]}}).map (·.c)=rs'.map (·.c):=Mq hi rfl
 refine⟨by rw[A7 (Zzi w4)];exact h.hl,by rw[A7 (Zzi w5)];exact h.hcl,by rw[A7 (Zzi w2)];exact h.hwl,RDs.ku ku _ _ (Fq La Qx _) h.huv,h.uok,⟨λr' hr'=>?_,by rw[mc];exact h.raws.nd,λr1 hr1 r2 hr2=>?_⟩,
  (Mq (x:={r with w:={r.w with coming:=r.w.coming++[y]}}) hi rfl).trans h.ma,mc.trans h.mc,?_,λr' hr'=>?_,λr' hr'=>?_,λs hs=>?_,λb o n1 n2 hb=>?_⟩
 ·rcases setmem r' hr' with e | ⟨m,nc⟩
  ·subst e
   obtain⟨h1,_,pv,h4,h5⟩:=h.raws.each r hm
   obtain⟨a1,a2⟩:=h.raws.apart r hm r hm
   refine⟨by rw[A7 (Zzi a1)];exact h1,⟨cv++[.ref t],A0,?_⟩,pv,by rw[A7 (Zzi a2)];exact h4,RDs.ku ku _ _ (Fq J9 Mo _) h5⟩
   rw[Zzq]
   exact RDs.app (RDs.ku ku _ _ (Fq Q7 ak _) rc) (RDs.one (RD.tup_mk (by rw[A7 ntc];exact ht) (RDs.cons RD.int_mk (RDs.one RD.int_mk))))
  ·refine(h.raws.each r' m).mono (λb xs e hb=>?_) ku
   obtain⟨a1,a2⟩:=h.raws.apart r hm r' m
   rcases e with rfl | rfl | rfl
   ·rw[A7 (Zzi a1)];exact hb
   ·rw[A7 nc];exact hb
   ·rw[A7 (Zzi a2)];exact hb
 ·have f:∀r1∈rs'.set i {r with w:={r.w with coming:=r.w.coming++[y]}},∃r0∈rs',r0.a=r1.a/\r0.c=r1.c/\r0.q=r1.q:=λr1 hr1=>by
   rcases setmem r1 hr1 with e | ⟨m,_⟩
   ·subst e;exact⟨r,hm,rfl,rfl,rfl⟩
   ·exact⟨r1,m,rfl,rfl,rfl⟩
  obtain⟨r3,m3,e1,e2,e3⟩:=f r1 hr1
  obtain⟨r4,m4,e4,e5,e6⟩:=f r2 hr2
  have:=h.raws.apart r3 m3 r4 m4
  rw[e2,e4,e6] at this
  exact this
 ·have e1:=Mq (f:=K92.core∘(·.w)) hi (x:={r with w:={r.w with coming:=r.w.coming++[y]}}) rfl
  have e2:=h.mw
  rw[Zyh] at e2 ⊢
  exact e1.trans e2
 ·rcases setmem r' hr' with e | ⟨m,_⟩
  ·subst e
   obtain⟨c1,c2⟩:=h.com r hm
   refine⟨by show (r.w.coming++[y]).length<=12;rw[Zym,Zx3];omega,λp hp=>?_⟩
   rcases Zyj.mp hp with z | z
   ·exact c2 p z
   ·rw[Zyw.mp z];exact hy
  ·exact h.com r' m
 ·rcases setmem r' hr' with e | ⟨m,_⟩
  ·subst e;exact h.nw r hm
  ·exact h.nw r' m
 ·obtain⟨x,z,q⟩:=h.st s hs
  exact⟨x,z,by rw[A7 (Zzi ((h.st s hs).ne hc (Q0 rc)))];exact q⟩
 ·have nb:b≠r.c:=λe=>n2 (by rw[<- h.mc,e];exact Zzv.mpr ⟨r,hm,rfl⟩)
  rw[A7 nb]
  exact h.kp b o n1 n2 hb
def R9(l cl wl:Addr)(sz:Int)(rs:List Raw)(sts:List Addr)(H:Hp)(i:Nat)(Z:St)(H':Hp):Prop:=∃(rs':List Raw) (us:List Wt) (uv:List V) (o4 o5 o6 o7:Option V),Z=[some (.ref l),some (.ref cl),some (.int sz),some (.ref wl),o4,o5,o6,o7]/\FillB l cl wl sz rs rs' sts us uv H H'
def wn(rs:List Raw)(H:Hp)(i:Nat)(acc:List V)(H':Hp):Prop:=acc.length=i/\RDs H' ((rs.take i).map λr=>r.w.d) acc/\Same H H'
def sp_law_filled:Sp:=λvs H Q _=>∃(l cl:Addr) (sz:Int) (rs:List Raw) (sts:List Addr),vs=[.ref l,.ref cl,.int sz]/\1<=sz/\sz<=1000/\H l=some (.lst ((rs.map (·.a)).map V.ref))/\H cl=some (.lst (sts.map V.ref))/\sts.length<=100/\RawsOk H rs/\(∀r∈rs,r.w.coming=[]/\r.c≠l/\r.c≠cl) /\
 1<=rs.length/\rs.length<=100/\(∀s∈sts,StOk2 H s)/\∀x (S:Sh) H',RD H' S.d x->S.wares.map core=(rs.map (·.w)).map core->(∀w∈S.wares,Zd sz w.coming)->Wz sz ((rs.map (·.w)).map (·.name)) S.wants->(∀b o,b∉sts->b∉rs.map (·.c)->H b=some o->H' b=some o)->Q x H'
theorem sc_law_filled:Bg ["_law_wares_here", "_law_cells", "_law_sized", "_law_wants", "_law_state", "_law_ware_here", "_law_kind", "_law_thing"] ["_law_wares_here", "_law_cells", "_law_sized"] (Ai Kj):=by walk_at "sc"
theorem Tp(F:Fun K "_law_filled" "_law_filled" Kj f fd)(T:Txt mg)(Zum:Has P w K mg base "_law_next" 1 ["_law_state", "_law_many"] sp_law_next)(Zsz:Has P w K mg base "_law_amount" 2 ["_law_state"] sp_law_amount):D3 P w K mg base CX0 3 f fd ["_law_wares_here", "_law_cells", "_law_sized"] sp_law_filled:=by
 refine F.ok sc_law_filled (λvs H Q E h=>?_) (λcdv A outer s H vs Q E hr h=>?_)
 ·obtain⟨l,cl,sz,rs,sts,rfl,_⟩:=h
  rfl
 ·obtain⟨l,cl,sz,rs,sts,rfl,z1,z2,hl,hcl,hsl,raws,hr0,hr1,hr2,hst,k⟩:=h
  have hu:=Ch hr
  refine⟨_,(A2 (Bh (i:=3) sc_law_filled.nd rfl (Zzu rfl) (Dl A1))
 (A2 (D2 PassesOwn.never rfl (G8 (pv 1)) (Ac (i:=4) sc_law_filled.nd rfl (Zzu rfl))
 (A2 (Bh (i:=5) sc_law_filled.nd rfl (Zzu rfl) (A8 hu (pv 0) (A9 Zum hr.z rfl (A3 (pv 4) (A3 (Bd Dp rfl T.Zue Fu (A3 (pv 0) A1)) A1))) (λ_ _=>rfl)))
 (A2 (Bh (i:=6) sc_law_filled.nd rfl (Zzu rfl) (A9 Zum hr.z rfl (A3 (pv 4) (A3 A5 A1))))
 (A2 (Bh (i:=7) sc_law_filled.nd rfl (Zzu rfl) (G9 (A3 (A9 Zum hr.z rfl (A3 (pv 4) (A3 (pv 2) A1))) (A3 (A9 Zsz hr.z rfl (A3 (pv 4) A1)) A1))))
 (Aa (Db (PW.pt (Os (C6 (Lz hu) (pv 6) A5 (Cc _)) (Ml (C6 (Lz hu) (Bd Dp rfl T.Zue Fu (A3 (pv 3) A1)) A5 (Cc _))))) (Aa (Fm (Gf Zyl Zy2 Zy1 Fi (pv 3) (A3 (G9 (A3 (A8 hu (pv 5) A5 (λ_ _=>rfl)) (A3 (A8 hu (pv 7) A5 (λ_ _=>rfl)) (A3 (A8 hu (pv 7) A5 (λ_ _=>rfl)) A1)))) A1)))) (Aa (Db (C6 (Lz hu) (Bd Dp rfl T.Zue Fu (A3 (A8 hu (pv 5) A5 (λ_ _=>rfl)) A1)) A5 (Cc _)) (Aa (Fm (Gf Zyl Zy2 Zy1 Fi (A8 hu (pv 5) A5 (λ_ _=>rfl)) (A3 (pv 7) A1)))) C5))))))))
 (Aa (Be (G9 (A3 (Cy Dv rfl T.Zua G3 (A3 (D5 (own:=["_law_ware_here"]) (cap:=[]) rfl (Du rfl) (C8 (by decide)) (G8 (pv 0))
 (λ_ _ _ _ _ _=>⟨(Ac (i:=0) (of_decide_eq_true rfl) rfl (Zzu rfl) (.inr rfl)),D0,(C7 Xt (Cy Dv rfl T.Zua G3 (A3 (Hw Jj (pv 0) Jr (Jq A5)) A1)) (G9 (A3 (Cy Dv rfl T.Zua G3 (A3 (A8 hu (pv 0) A5 (λ_ _=>rfl)) A1)) (A3 (Cy Dv rfl T.Zua G3 (A3 (A8 hu (pv 0) A5 (λ_ _=>rfl)) A1)) A1))))⟩)) A1)) (A3 (Cy Dv rfl T.Zua G3 (A3 (pv 3) A1)) A1))))))),?_⟩
  refine z6 (λZ' H'=>∃wl:Addr,R9 l cl wl sz rs sts H sts.length Z' H') ?_ (λKK hK=>?_)
  ·rintro Z' H1 ⟨wl,rs',us,uv,o4,o5,o6,o7,rfl,B⟩
   have hlr:rs'.length=rs.length:=by have:=congrArg Zwa B.ma;rw[Zzz,Zzz] at this;exact this
   have hl1:H1 l=some (.lst ((rs'.map (·.a)).map V.ref)):=by rw[B.ma];exact B.hl
   walk_at "rd"
   refine⟨_,hl1,?_⟩
   refine Jz (Ip l _) (Bf (by rw[Zzz,Zzz];omega)) (wn rs' H1) ⟨rfl,RDs.nil,Same.refl _⟩ (λi acc H' _ h=>h.2.2 _ _ hl1) (λi acc H' h=>Zvj h.1) (λi x acc H2 hi hx h=>?_) (λacc H2 h p hp=>?_)
   ·obtain⟨h1,h2,sm⟩:=h
    rw[Zzy,Zzy] at hx
    cases er:rs'[i]? with
    |none=>rw[er] at hx;cases hx
    |some r =>
    rw[er] at hx
    cases hx
    obtain⟨ra,⟨cv,rc,rcv⟩,pv,rq,rpv⟩:=(B.raws.same sm).each r (Zzr er)
    walk_at "rd"
    refine⟨_,ra,λp1 hp1=>?_⟩
    have e5:J8 [V.str r.w.name,V.int r.w.lag,V.int r.w.gives,V.int r.w.floor,V.int r.w.stock,V.ref r.c,V.ref r.q] none (some 5)=[V.str r.w.name,V.int r.w.lag,V.int r.w.gives,V.int r.w.floor,V.int r.w.stock]:=by rw[Pm (by decide)];rfl
    rw[e5]
    have t1:=A6 (o:=.lst [V.str r.w.name,V.int r.w.lag,V.int r.w.gives,V.int r.w.floor,V.int r.w.stock]) hp1
    refine⟨_,.inl ⟨A0,λq1 hq1=>?_⟩⟩
    have t2:=t1.trans (A6 (o:=.tup [V.str r.w.name,V.int r.w.lag,V.int r.w.gives,V.int r.w.floor,V.int r.w.stock]) hq1)
    refine⟨.ref r.c,E7 (j:=5) (t2 _ _ ra) rfl,r.c,rfl,cv,.inl ⟨t2 _ _ rc,λq2 hq2=>?_⟩⟩
    have t3:=t2.trans (A6 (o:=.tup cv) hq2)
    refine⟨.ref r.q,E7 (j:=6) (t3 _ _ ra) rfl,r.q,rfl,pv,.inl ⟨t3 _ _ rq,λq3 hq3=>?_⟩⟩
    have t4:=t3.trans (A6 (o:=.tup pv) hq3)
    refine⟨by decide,λq4 hq4=>?_⟩
    have t5:=t4.trans (A6 (o:=.tup [V.ref q2,V.ref q3]) hq4)
    have g1:=(A6 (o:=.tup cv) hq2).trans ((A6 (o:=.tup pv) hq3).trans (A6 (o:=.tup [V.ref q2,V.ref q3]) hq4))
    have g2:=(A6 (o:=.tup pv) hq3).trans (A6 (o:=.tup [V.ref q2,V.ref q3]) hq4)
    refine⟨_,g1 q1 _ A0,_,A0,(show 5+2<=sizeLine by decide),λp H3 hp3 sm3 _=>?_⟩
    refine⟨by simp[h1],?_,sm.trans (t5.trans sm3)⟩
    rw[Zyx,er,Zzq]
    refine RDs.app (RDs.same (t5.trans sm3) _ _ h2) (RDs.one ?_)
    show RD H3 r.w.d (.ref p)
    unfold Wr.d
    refine RD.tup_mk hp3 ?_
    refine RDs.cons RD.str_mk (RDs.cons RD.int_mk (RDs.cons RD.int_mk (RDs.cons RD.int_mk (RDs.cons RD.int_mk (RDs.cons ?_ (RDs.one ?_))))))
    ·exact RD.tup_mk (sm3 _ _ (g2 q2 _ A0)) (RDs.same (t5.trans sm3) _ _ rcv)
    ·exact RD.tup_mk (sm3 _ _ (A6 hq4 q3 _ A0)) (RDs.same (t5.trans sm3) _ _ rpv)
   ·obtain⟨h1,h2,sm⟩:=h
    rw[Zzz,Zzz,Zyt] at h2
    have u1:=A6 (o:=.lst acc) hp
    refine⟨p,rfl,acc,.inl ⟨A0,λq1 hq1=>?_⟩⟩
    have u2:=u1.trans (A6 (o:=.tup acc) hq1)
    refine⟨uv,.inl ⟨u2 _ _ (sm _ _ B.hwl),λq2 hq2=>⟨by decide,λq3 hq3=>?_⟩⟩⟩
    have v1:=(A6 (o:=.tup uv) hq2).trans (A6 (o:=.tup [V.ref q1,V.ref q2]) hq3)
    have u4:=u2.trans v1
    refine k _ ⟨rs'.map (·.w),us⟩ _ ?_ B.mw (λw hw=>?_) B.uok (λb o n1 n2 hb=>u4 _ _ (sm _ _ (B.kp b o n1 n2 hb)))
    ·unfold Sh.d
     refine RD.tup_mk A0 (RDs.cons (RD.tup_mk (v1 q1 _ A0) ?_) (RDs.one (RD.tup_mk (A6 hq3 q2 _ A0) (RDs.same (sm.trans u4) _ _ B.huv))))
     rw[Zyh]
     exact RDs.same u4 _ _ h2
    ·obtain⟨r,hr,rfl⟩:=Zzv.mp hw
     exact B.com r hr
  ·walk_at "rd"
   refine⟨Zy0 _,λwl hwl=>⟨_,by rw[A7 (A4 hcl hwl)];exact hcl,?_⟩⟩
   have sm0:=A6 (o:=.lst []) hwl
   refine Er (Ip cl _) (R9 l cl wl sz rs sts H) ⟨rs,[],[],_,_,_,_,rfl,⟨sm0 _ _ hl,sm0 _ _ hcl,A0,RDs.nil,⟨Zy0 _,λ_ h=>nomatch h⟩,raws.same sm0,rfl,rfl,rfl,λr hr=>by rw[(hr0 r hr).1];exact⟨Zy0 _,λ_ h=>nomatch h⟩,λr hr=>⟨(raws.each r hr).fresh hwl (.inl rfl),(raws.each r hr).fresh hwl (.inr (.inl rfl)),(raws.each r hr).fresh hwl (.inr (.inr rfl)),(hr0 r hr).2.1,(hr0 r hr).2.2⟩,λs hs=>(hst s hs).same sm0,λb o _ _ hb=>sm0 b o hb⟩⟩ (λi Z H' _ h=>?_) (λi x Z H2 hi hx h=>?_) (λZ H2 h=>?_)
   ·obtain⟨_,_,_,_,_,_,_,_,B⟩:=h;exact B.hcl
   ·obtain⟨rs',us,uv,o4,o5,o6,o7,rfl,B⟩:=h
    rw[Zzy] at hx
    cases es:sts[i]? with
    |none=>rw[es] at hx;cases hx
    |some st =>
    rw[es] at hx
    cases hx
    have hm:=Zzr es
    have hlr:rs'.length=rs.length:=by have:=congrArg Zwa B.ma;rw[Zzz,Zzz] at this;exact this
    have nwl:wl≠l/\wl≠cl:=⟨Zzi (A4 hl hwl),Zzi (A4 hcl hwl)⟩
    walk_at "rd"
    refine⟨_,.inl B.hl,st,_,rfl,B.st st hm,?_,?_,λd H3 d0 d1 s3 b3=>?_⟩
    ·rw[Zzz,Zzz];omega
    ·rw[Zzz,Zzz]
     exact Zwx (b:=100) (by omega) (by decide +kernel)
    rw[Zzz,Zzz] at d1
    have B3:=B.nx hm s3 b3
    have hd:d.toNat<rs'.length:=by omega
    obtain⟨r,hri⟩:∃r,rs'[d.toNat]?=some r:=⟨_,Zzs hd⟩
    have hrm:=Zzr hri
    refine⟨.ref r.a,Mr (.inl B3.hl) d0 ?_,st,3,rfl,s3,by decide,by decide +kernel,λkd H4 k0 k1 s4 b4=>?_⟩
    ·rw[<- B.ma,Zzy,Zzy,hri]
     rfl
    have B4:=B3.nx hm s4 b4
    refine⟨st,sz,rfl,s4,by omega,Zwx z2 (by decide +kernel),λdy H5 y0 y1 s5 b5=>?_⟩
    have B5:=B4.nx hm s5 b5
    refine⟨st,rfl,s5,λam H6 a0 a1 s6 b6=>⟨by decide,λp hp=>?_⟩⟩
    have B6:=B5.nx hm s6 b6
    have B7:=B6.same (A6 (o:=.tup [.int dy,.int am]) hp)
    have ht:upd H6 p (.tup [.int dy,.int am]) p=some (.tup [.int dy,.int am]):=A0
    generalize upd H6 p (.tup [.int dy,.int am])=H7 at B7 ht
    obtain⟨ra,⟨cv,rc,rcv⟩,rq⟩:=B7.raws.each r hrm
    have lcv:cv.length=r.w.coming.length:=Cm rcv
    have hcom:=B7.com r hrm
    have things:∃v_1,Ol H7 (V.ref r.a) (V.int 5) v_1/\∃p_1,v_1=V.ref p_1/\∃x_4,(H7 p_1=some (HO.lst x_4)\/H7 p_1=some (HO.tup x_4))/\if decide ((x_4.length:Int)<12)=true then
      ∃v_2,Ol H7 (V.ref r.a) (V.int 5) v_2/\P5 H7 v_2=some "list" /\ ∃l_1,v_2=V.ref l_1/\∃x_5,H7 l_1=some (HO.lst x_5)/\x_5.length<sizeLine /\
       R9 l cl wl sz rs sts H (i+1) [some (V.ref l),some (V.ref cl),some (V.int sz),some (V.ref wl),some (V.ref st),some (V.ref r.a),some (V.int kd),some (V.ref p)] (upd H7 l_1 (HO.lst (x_5++[V.ref p])))
      else R9 l cl wl sz rs sts H (i+1) [some (V.ref l),some (V.ref cl),some (V.int sz),some (V.ref wl),some (V.ref st),some (V.ref r.a),some (V.int kd),some (V.ref p)] H7:=by
     refine⟨.ref r.c,E7 (j:=5) ra rfl,r.c,rfl,cv,.inl rc,Fj (λhz=>?_) (λhz=>⟨rs',us,uv,_,_,_,_,rfl,B7⟩)⟩
     have hz:=of_decide_eq_true hz
     exact⟨.ref r.c,E7 (j:=5) ra rfl,G2 rc,r.c,rfl,cv,rc,Zya (m:=12) (by omega) (by decide),_,us,uv,_,_,_,_,rfl,B7.thing (y:=(dy,am)) hri rc rcv ht (by omega) ⟨⟨y0,y1⟩,a0,a1⟩⟩
    refine⟨kd,rfl,Fj (λ_=>?_) (λ_=>things)⟩
    refine⟨uv,.inl B7.hwl,Fj (λhz=>?_) (λ_=>things)⟩
    have hz:=of_decide_eq_true hz
    have luv:uv.length=us.length:=Cm B7.huv
    refine⟨G2 B7.hwl,.str r.w.name,E7 (j:=0) ra rfl,.int dy,Ak (j:=0) ht rfl,.int am,Ak (j:=1) ht rfl,by decide,λt ht'=>?_⟩
    have B8:=B7.same (A6 (o:=.tup [.str r.w.name,.int dy,.int am]) ht')
    refine⟨uv,B8.hwl,Zya (m:=20) (by omega) (by decide),rs',us++[(r.w.name,dy,am)],_,_,_,_,_,rfl,B8.want (u:=(r.w.name,dy,am)) hwl A0 (by omega) ⟨?_,⟨y0,y1⟩,a0,a1⟩ nwl⟩
    have en:(rs'.map (·.w)).map (·.name)=(rs.map (·.w)).map (·.name):=by
     have:=congrArg (Zy4 (·.name)) B.mw
     rw[Zyh (g:=λx=>Wr.name x),Zyh (g:=λx=>Wr.name x)] at this
     exact this
    rw[<- en]
    exact Zzv.mpr ⟨r.w,Zzv.mpr ⟨r,hrm,rfl⟩,rfl⟩
   ·rw[Zzz] at h
    exact hK _ _ ⟨wl,h⟩
theorem Uf{H Hx H':Hp}{st:Addr}(s:Same H Hx)(b:But st Hx H')(h:H st=none):Same H H':=λx o hx=>b x o (A4 hx h) (s x o hx)
structure Good(sz:Int)(S:Sh):Prop where
 ws:WsOk S.wares
 len:1<=S.wares.length/\S.wares.length<=12
 com:∀w∈S.wares,Zd sz w.coming
 wants:Wz sz (S.wares.map (·.name)) S.wants
theorem Good.ok{sz:Int}{S:Sh}(g:Good sz S):bq S:=⟨g.ws.nd,by have:=g.len.2;omega,λw hw=>⟨Zyf (g.ws.wb w hw).parts (by decide),Zyf (g.com w hw).1 (by decide)⟩⟩
mutual
theorem Yv:∀d:PyData,d.canLay0=true->PyData.eqv d d=true
 |.none,_=>by rw[PyData.eqv]
 |.bool b,_=>by rw[PyData.eqv];simp
 |.int i,_=>by rw[PyData.eqv];simp
 |.str x,_=>by rw[PyData.eqv];simp
 |.list xs,h=>by
  rw[PyData.canLay0] at h
  rw[PyData.eqv]
  exact Nl xs h
 |.tuple xs,h=>by
  rw[PyData.canLay0] at h
  rw[PyData.eqv]
  exact Nl xs h
 |.dict _,h=>by rw[PyData.canLay0] at h;cases h
theorem Nl:∀ds:List PyData,PyData.canLayAll0 ds=true->PyData.eqvAll ds ds=true
 |[],_=>by rw[PyData.eqvAll]
 |d::ds,h=>by
  rw[PyData.canLayAll0,Zza] at h
  rw[PyData.eqvAll,Yv d h.1,Nl ds h.2]
  rfl
end
theorem Good.txt{sz:Int}{S:Sh}(g:Good sz S):∀x∈S.wares.map (·.name),PyData.strOk x=true:=λx hx=>by
 obtain⟨w,hw,rfl⟩:=Zzv.mp hx
 exact n0 (g.ws.txt w hw)
end
set_option maxHeartbeats 4000000
section
variable {P:Program}{w:World}{K:Zzw}{mg:Str->Option Value}{base:Heap}{f:Addr}{fd:FuncData}{Pt:Addr}
def PlanAt(H:Hp)(a:Addr)(S:Sh)(plan:Str->List Int):Prop:=∃kvs,Rd H a (.dK kvs)/\∀nm∈S.wares.map (·.name),∃l:Addr,Fk kvs (.inr nm)=some (.ref l)/\H l=some (.lst ((plan nm).map V.int))/\(plan nm).length=daysN S/\∀x∈plan nm,0<=x/\x<10^2000
def PlanFor(H:Hp)(a:Addr)(S:Sh)(plan:Str->List Int)(P:Str->Prop):Prop:=∃kvs,Rd H a (.dK kvs)/\∀nm∈S.wares.map (·.name),P nm->∃l:Addr,Fk kvs (.inr nm)=some (.ref l)/\H l=some (.lst ((plan nm).map V.int))/\(plan nm).length=daysN S/\∀x∈plan nm,0<=x/\x<10^2000
theorem PlanAt.for{H:Hp}{a:Addr}{S:Sh}{plan:Str->List Int}(h:PlanAt H a S plan)(P:Str->Prop):PlanFor H a S plan P:=by obtain⟨kvs,h1,h2⟩:=h;exact⟨kvs,h1,λnm hn _=>h2 nm hn⟩
def qq(S:Sh)(x nm:Str):Prop:=∃t∈S.wares,t.name=nm/\∃p∈t.parts,p.1=x
theorem _root_.L2.Rd.same{H H':Hp}{a:Addr}{u:HO}(h:Rd H a u)(s:Same H H'):Rd H' a u:=h.elim (λe=>.inl (s _ _ e)) (λz0=>by obtain⟨o,e⟩:=z0;exact .inr ⟨o,s _ _ e⟩)
theorem PlanAt.same{H H':Hp}{a:Addr}{S:Sh}{plan:Str->List Int}(h:PlanAt H a S plan)(s:Same H H'):PlanAt H' a S plan:=by
 obtain⟨kvs,h1,h2⟩:=h
 exact⟨kvs,h1.same s,λnm hn=>by obtain⟨l,e1,e2,e3⟩:=h2 nm hn;exact⟨l,e1,s _ _ e2,e3⟩⟩
theorem PlanFor.same{H H':Hp}{a:Addr}{S:Sh}{plan:Str->List Int}{P:Str->Prop}(h:PlanFor H a S plan P)(s:Same H H'):PlanFor H' a S plan P:=by
 obtain⟨kvs,h1,h2⟩:=h
 exact⟨kvs,h1.same s,λnm hn hP=>by obtain⟨l,e1,e2,e3⟩:=h2 nm hn hP;exact⟨l,e1,s _ _ e2,e3⟩⟩
theorem Good.days{sz:Int}{S:Sh}(g:Good sz S)(hz:0<sz)(hz2:sz<=1000):1<=daysN S/\daysN S<=1000/\((daysN S:Nat):Int)=1+Jg (S.wants.map λu=>u.2.1)/\∀u∈S.wants,u.2.1.toNat<daysN S:=by
 have h0:0<=Jg (S.wants.map λu=>u.2.1):=Wh λx hx=>by
  obtain⟨u,hu,rfl⟩:=Zzv.mp hx
  exact(g.wants.2 u hu).2.1.1
 have h1:Jg (S.wants.map λu=>u.2.1)<sz:=dh hz λx hx=>by
  obtain⟨u,hu,rfl⟩:=Zzv.mp hx
  exact(g.wants.2 u hu).2.1.2
 unfold daysN
 refine⟨by omega,by omega,by omega,λu hu=>?_⟩
 have h2:u.2.1<=Jg (S.wants.map λu=>u.2.1):=Wi (Zzv.mpr ⟨u,hu,rfl⟩)
 have h3:=(g.wants.2 u hu).2.1.1
 omega
def sp_count_days:Sp:=λvs H Q _=>∃(v:V) (S:Sh),vs=[v]/\RD H S.d v/\S.wants.length<=1000/\∀H',Same H H'->Q (.int (1+Jg (S.wants.map λu=>u.2.1))) H'
theorem Th:Bg ["shop"] ["shop"] (Ai Kn):=by walk_at "sc"
theorem Tt(F:Fun K "count_days" "count_days" Kn f fd)(T:Txt mg):D3 P w K mg base CX0 1 f fd ["shop"] sp_count_days:=by
 refine F.ok Th (λvs H Q E h=>?_) (λcdv A outer s H vs Q E hr h=>?_)
 ·obtain⟨v,S,rfl,_⟩:=h
  rfl
 ·obtain⟨v,S,rfl,rs,hw,k⟩:=h
  have hu:=Ch hr
  refine⟨_,(Aa (Be (C7 Ds A5 (ue rfl rfl T.Zsg (D5 (own:=["want"]) (cap:=[]) rfl (Du rfl) (C8 (by decide)) (E5 (A8 hu (pv 0) A5 (λ_ _=>rfl)))
 (λ_ _ _ _ _ _=>⟨(Ac (i:=0) (of_decide_eq_true rfl) rfl (Zzu rfl) (.inr rfl)),D0,(A8 hu (pv 0) (C0 rfl T.Ztt) (λ_ _=>rfl))⟩)))))),?_⟩
  obtain⟨a,b,c,ws,us,rfl,ha,hb,hc,rws,rus⟩:=Gn rs
  have hl:=Cm rus
  walk_at "rd"
  refine⟨_,Ak (j:=1) ha rfl,c,rfl,us,hc,?_⟩
  refine Da (Fx c _) (Bf (by omega)) (λH' s'=>s' _ _ hc) ((S.wants.map λu=>u.2.1).map V.int) (by rw[Zzz,Zzz,hl]) (λi x H' hi hx s' N M hN=>?_) (λH' s' p hp=>?_)
  ·obtain⟨y,hy,ry⟩:=D4 rus hx
   obtain⟨e,rfl,he⟩:=Nr ry
   walk_at "rd"
   exact⟨_,Ak (j:=1) (s' _ _ he) rfl,hN _ _ s' (by rw[Zzy,Zzy,hy];rfl)⟩
  ·exact⟨p,rfl,_,A0,k _ (s'.trans (A6 hp))⟩
def sp_begun_row:Sp:=λvs H Q _=>∃(a:Addr) (v:V) (S:Sh) (plan:Str->List Int) (w:Wr) (P:Str->Prop),vs=[.ref a,v]/\PlanFor H a S plan P/\P w.name/\daysN S<=1000/\RD H w.d v/\w∈S.wares/\0<=w.lag/\w.lag<=1000/\∀p H',H p=none->H' p=some (.lst ((Gg (plan w.name) w.lag).map V.int))->Same H H'->Q (.ref p) H'
theorem sc_begun_row:Bg ["plan", "ware", "lots"] ["plan", "ware"] (Ai Lp):=by walk_at "sc"
theorem W9(F:Fun K "begun_row" "begun_row" Lp f fd)(T:Txt mg):D3 P w K mg base CX0 1 f fd ["plan", "ware"] sp_begun_row:=by
 refine F.ok sc_begun_row (λvs H Q E h=>?_) (λcdv A outer s H vs Q E hr h=>?_)
 ·obtain⟨a,v,S,plan,w,P,rfl,_⟩:=h
  rfl
 ·obtain⟨a,v,S,plan,w,P',rfl,⟨kvs,hk,hpl⟩,hP,hd,rw',hm,l0,l1,k⟩:=h
  have hu:=Ch hr
  refine⟨_,(A2 (Bh (i:=2) sc_begun_row.nd rfl (Zzu rfl) (A8 hu (pv 0) (A8 hu (pv 1) (C0 rfl T.Zub) (λ_ _=>rfl)) (λ_ _=>rfl)))
 (Aa (Be (C7 Ov (Hw Jj (pv 2) (Jq (A8 hu (pv 1) (C0 rfl T.Zt3) (λ_ _=>rfl))) Jr) (C7 Zz (Dl (A3 A5 A1)) (Bd (Od rfl) rfl T.Zs1 Wu (A3 (A8 hu (pv 1) (C0 rfl T.Zt3) (λ_ _=>rfl)) (A3 (Bd Dp rfl T.Zue Fu (A3 (pv 2) A1)) A1)))))))),?_⟩
  obtain⟨e,c1,c2,rfl,he,_⟩:=Dq rw'
  obtain⟨l,hv,hl,hlen,_⟩:=hpl w.name (Zzv.mpr ⟨w,hm,rfl⟩) hP
  walk_at "rd"
  refine⟨_,Ak (j:=0) he rfl,.ref l,L0 hk hv,_,Ak (j:=1) he rfl,?_⟩
  refine⟨w.lag,rfl,l,rfl,_,hl,λp1 hp1=>⟨by decide,λp2 hp2=>?_⟩⟩
  have u1:=A6 (o:=.lst (J8 ((plan w.name).map V.int) (some w.lag) none)) hp1
  have u2:=u1.trans (A6 (o:=.lst [V.int 0]) hp2)
  refine⟨_,Ak (j:=1) (u2 _ _ he) rfl,l,rfl,_,.inl (u2 _ _ hl),w.lag,rfl,[V.int 0],A0,?_,?_,?_,λp3 hp3=>?_⟩
  ·split<;>omega
  ·rw[Zzz];split<;>omega
  ·refine Bf ?_
   rw[Zzz,Zx3]
   split<;>omega
  ·have emin:(if (((plan w.name).map V.int).length:Int)<w.lag then (((plan w.name).map V.int).length:Int) else w.lag).toNat=min w.lag.toNat (plan w.name).length:=by
    rw[Zzz]
    split<;>omega
   rw[emin,Rz,Gi l0]
   have u3:=u2.trans (A6 (o:=.lst ((C9 (min w.lag.toNat (plan w.name).length) λ_=>0).map V.int)) hp3)
   rw[Gi l0] at u3
   have n12:p1≠p2:=A4 A0 hp2
   refine⟨((plan w.name).map V.int).drop w.lag.toNat,?_,_,A0,?_,λp4 hp4=>?_⟩
   ·rw[A7 (λe=>by rw[<- e,A7 n12,A0] at hp3;cases hp3),A7 n12,A0]
   ·refine Bf ?_
    rw[Zx2,Zzz,Zzz,C1]
    omega
   ·refine k p4 _ (Same.free u3 hp4) ?_ (u3.trans (A6 hp4))
    rw[A0,<- Zuo,<- Zzq,qi]
def sp_wants_row:Sp:=λvs H Q _=>∃(v x:V) (S:Sh) (w:Wr) (sz:Int),vs=[v,x]/\RD H S.d v/\RD H w.d x/\Good sz S/\0<sz/\sz<=1000/\∀p H',H p=none->H' p=some (.lst ((C9 (daysN S) λd=>Cn (wAt w.name d) S.wants).map V.int))->Same H H'->Q (.ref p) H'
def qo(v x:V)(p:Addr)(S:Sh)(nm:Str)(H:Hp)(i:Nat)(Z:St)(H':Hp):Prop:=∃o:Option V,Z=[some v,some x,some (.ref p),o]/\H' p=some (.lst ((C9 (daysN S) λd=>Cn (wAt nm d) (S.wants.take i)).map V.int))/\Same H H'
theorem sc_wants_row:Bg ["shop", "ware", "told", "want"] ["shop", "ware"] (Ai Lb):=by walk_at "sc"
theorem Vw(F:Fun K "wants_row" "wants_row" Lb f fd)(T:Txt mg)(Zu3:Has P w K mg base "count_days" 1 ["shop"] sp_count_days):D3 P w K mg base CX0 2 f fd ["shop", "ware"] sp_wants_row:=by
 refine F.ok sc_wants_row (λvs H Q E h=>?_) (λcdv A outer s H vs Q E hr h=>?_)
 ·obtain⟨v,x,S,w,sz,rfl,_⟩:=h
  rfl
 ·obtain⟨v,x,S,w,sz,rfl,rs,rx,g,z0,z1,k⟩:=h
  have hu:=Ch hr
  obtain⟨n1,n2,n3,n4⟩:=g.days z0 z1
  refine⟨_,(A2 (Bh (i:=2) sc_wants_row.nd rfl (Zzu rfl) (C7 Zz (Dl (A3 A5 A1)) (A9 Zu3 hr.z rfl (A3 (pv 0) A1))))
 (A2 (D2 PassesOwn.never rfl (E5 (A8 hu (pv 0) A5 (λ_ _=>rfl))) (Ac (i:=3) sc_wants_row.nd rfl (Zzu rfl))
 (Aa (Db (C6 (Fz hu) (A8 hu (pv 3) (C0 rfl T.Zts) (λ_ _=>rfl)) (A8 hu (pv 1) (C0 rfl T.Zub) (λ_ _=>rfl)) (Cc _)) (Aa (cq (pv 2) (A8 hu (pv 3) (C0 rfl T.Ztt) (λ_ _=>rfl)) dz (A8 hu (pv 3) (C0 rfl T.Zu1) (λ_ _=>rfl)) Pk Jt)) C5)))
 (Aa (Be (pv 2))))),?_⟩
  obtain⟨a,b,c,ws,us,rfl,ha,hb,hc,rws,rus⟩:=Gn rs
  obtain⟨xe,c1,c2,rfl,hxe,_⟩:=Dq rx
  have hl:=Cm rus
  walk_at "rd"
  refine⟨by decide,λp0 hp0=>?_⟩
  have u0:=A6 (o:=.lst [V.int 0]) hp0
  refine⟨.ref a,S,rfl,RD.same u0 _ _ rs,by have:=g.wants.1;omega,λH1 sm1=>?_⟩
  have h01:=sm1 p0 _ A0
  have sm01:=u0.trans sm1
  rw[<- n3]
  refine⟨_,rfl,_,h01,by omega,by omega,by rw[Zx3];exact Bf (by omega),λp hp=>?_⟩
  have u1:=sm01.trans (A6 (o:=.lst ((C9 (daysN S) λ_=>0).map V.int)) hp)
  have en:((daysN S:Nat):Int).toNat=daysN S:=by omega
  rw[en,Rz]
  refine⟨_,Ak (j:=1) (u1 _ _ ha) rfl,c,rfl,us,u1 _ _ hc,?_⟩
  refine Er (Fx c _) (qo (.ref a) (.ref xe) p S w.name H) ⟨_,rfl,?_,u1⟩ (λi Z H' _ h=>by obtain⟨_,_,_,s⟩:=h;exact s _ _ hc) (λi y Z H2 hi hy h=>?_) (λZ H2 h=>?_)
  ·rw[A0]
   exact congrArg (λz=>some (HO.lst (Zy4 V.int z))) (Dr λd _=>by simp[M0])
  ·obtain⟨o,rfl,hp2,sm⟩:=h
   obtain⟨u,hu',ru⟩:=D4 rus hy
   obtain⟨e,rfl,he⟩:=Nr ru
   have he':=sm _ _ he
   have hx':=sm _ _ hxe
   have hum:=Zzr hu'
   walk_at "rd"
   refine⟨_,Ak (j:=0) he' rfl,_,Ak (j:=0) hx' rfl,rfl,Fj (λhz=>?_) (λhz=>?_)⟩
   ·have hz:=of_decide_eq_true hz
    have hz:u.1=w.name:=V.str.inj hz
    have hd:=n4 u hum
    have hd0:=(g.wants.2 u hum).2.1.1
    refine⟨_,Ak (j:=1) he' rfl,_,u.2.1,rfl,hp2,hd0,_,by rw[Zzy,D8 hd];rfl,_,Ak (j:=2) he' rfl,_,rfl,_,rfl,_,_,rfl,hp2,u.2.1.toNat,?_,?_⟩
    ·rw[Zzz,C1]
     unfold ixN
     rw[if_pos hd0,if_pos (by omega)]
    ·refine⟨_,rfl,?_,λb' o' hb'=>by rw[A7 (A4 hb' (Same.free sm01 hp))];exact sm b' o' hb'⟩
     rw[A0,<- Zvh,O7]
     refine congrArg (λz=>some (HO.lst (Zy4 V.int z))) (Dr λd _=>?_)
     rw[Gh _ hu']
     unfold wAt
     by_cases e1:d=u.2.1.toNat
     ·subst e1
      rw[if_pos rfl,if_pos ⟨hz,by omega⟩]
     ·rw[if_neg e1,if_neg (λq=>e1 (by omega)),Zxd]
   ·refine⟨_,rfl,?_,sm⟩
    rw[hp2]
    refine congrArg (λz=>some (HO.lst (Zy4 V.int z))) (Dr λd _=>?_)
    rw[Gh _ hu']
    unfold wAt
    rw[if_neg (c:=u.1=w.name/\_) (λq=>hz (decide_eq_true (by rw[q.1]))),Zxd]
  ·obtain⟨o,rfl,hp2,sm⟩:=h
   walk_at "rd"
   rw[hl,Zyt] at hp2
   exact k p H2 (Same.free sm01 hp) hp2 sm
end
set_option maxHeartbeats 4000000
section
variable {P:Program}{w:World}{K:Zzw}{mg:Str->Option Value}{base:Heap}{f:Addr}{fd:FuncData}{Pt:Addr}
def sp_needs_row:Sp:=λvs H Q _=>∃(v:V) (a:Addr) (x:V) (S:Sh) (plan:Str->List Int) (w:Wr) (sz:Int),vs=[v,.ref a,x]/\RD H S.d v/\PlanFor H a S plan (qq S w.name)/\RD H w.d x/\Good sz S/\0<sz/\sz<=1000/\∀p H',H p=none->H' p=some (.lst ((Ck S plan w.name).map V.int))->Same H H'->Q (.ref p) H'
def qt(v:V)(a:Addr)(x:V)(S:Sh)(plan:Str->List Int)(nm:Str)(H:Hp)(i:Nat)(Z:St)(H':Hp):Prop:=∃(q:Addr) (o1 o2 o3:Option V),Z=[some v,some (.ref a),some x,some (.ref q),o1,o2,o3]/\H q=none /\
 H' q=some (.lst ((C9 (daysN S) λd=>Cn (wAt nm d) S.wants+Cn (pAt plan nm d) (S.wares.take i)).map V.int))/\Same H H'
def qu(v:V)(a:Addr)(x t:V)(S:Sh)(plan:Str->List Int)(nm:Str)(w:Wr)(i:Nat)(H:Hp)(j:Nat)(Z:St)(H':Hp):Prop:=∃(q:Addr) (o2 o3:Option V),Z=[some v,some (.ref a),some x,some (.ref q),some t,o2,o3]/\H q=none /\
 H' q=some (.lst ((C9 (daysN S) λd=>Cn (wAt nm d) S.wants+Cn (pAt plan nm d) (S.wares.take i)+Cn (λp:Str×Int=>if p.1=nm then p.2*bAt (plan w.name) w.lag d else 0) (w.parts.take j)).map V.int))/\Same H H'
def zf(n:Nat)(g:Nat->Int)(H1:Hp)(i:Nat)(acc:List V)(H':Hp):Prop:=acc=((C9 n g).take i).map V.int/\i<=n/\Same H1 H'
theorem Mj{n i:Nat}{g:Nat->Int}(h:i<=n):(C9 n g).take i=C9 i g:=by
 unfold C9
 rw[<- Zun,List.take_range,Nat.min_eq_left h]
theorem sc_needs_row:Bg ["shop", "plan", "ware", "told", "taker", "part", "amount"] ["shop", "plan", "ware"] (Ai Le):=by walk_at "sc"
theorem Vz(F:Fun K "needs_row" "needs_row" Le f fd)(T:Txt mg)(Zsn:Has P w K mg base "wants_row" 2 ["shop", "ware"] sp_wants_row)(Zsm:Has P w K mg base "begun_row" 1 ["plan", "ware"] sp_begun_row):D3 P w K mg base CX0 3 f fd ["shop", "plan", "ware"] sp_needs_row:=by
 refine F.ok sc_needs_row (λvs H Q E h=>?_) (λcdv A outer s H vs Q E hr h=>?_)
 ·obtain⟨v,a,x,S,plan,w,sz,rfl,_⟩:=h
  rfl
 ·obtain⟨v,a,x,S,plan,w,sz,rfl,rs,pl,rx,g,z0,z1,k⟩:=h
  have hu:=Ch hr
  obtain⟨n1,n2,n3,n4⟩:=g.days z0 z1
  refine⟨_,(A2 (Bh (i:=3) sc_needs_row.nd rfl (Zzu rfl) (A9 Zsn hr.z rfl (A3 (pv 0) (A3 (pv 2) A1))))
 (A2 (D2 PassesOwn.never rfl (E5 (A8 hu (pv 0) A5 (λ_ _=>rfl))) (Ac (i:=4) sc_needs_row.nd rfl (Zzu rfl))
 (Aa (D2 PassesOwn.never rfl (E5 (A8 hu (pv 4) (C0 rfl T.Ztg) (λ_ _=>rfl))) (Gk (n:=2) rfl (C2 (Ac (i:=5) sc_needs_row.nd rfl (Zzu rfl)) (C2 (Ac (i:=6) sc_needs_row.nd rfl (Zvu rfl)) Fn)))
 (Aa (Db (C6 (Fz hu) (pv 5) (A8 hu (pv 2) (C0 rfl T.Zub) (λ_ _=>rfl)) (Cc _)) (Aa (G7 (own:=["goes", "lots"]) (cap:=[6]) (i:=3) rfl (Du rfl) Io sc_needs_row.nd rfl rfl (cu rfl T.Zs2 (A3 (pv 3) (A3 (A9 Zsm hr.z rfl (A3 (pv 1) (A3 (pv 4) A1))) A1)))
 (λ_ _ _ _ _ _=>⟨(Gk (n:=2) rfl (C2 (Ac (i:=0) (of_decide_eq_true rfl) rfl (Zzu rfl) (.inr rfl)) (C2 (Ac (i:=1) (of_decide_eq_true rfl) rfl (Zzu rfl) (.inr rfl)) Fn))),D0,(C7 Ds (pv 0) (C7 J0 (pv 2) (pv 1)))⟩))) C5)))))
 (Aa (Be (pv 3))))),?_⟩
  obtain⟨sa,sb,sc,ws,us,rfl,ha,hb,hc,rws,rus⟩:=Gn rs
  obtain⟨xe,c1,c2,rfl,hxe,_⟩:=Dq rx
  have hl:=Cm rws
  walk_at "rd"
  refine⟨.ref sa,.ref xe,S,w,sz,rfl,rs,rx,g,z0,z1,λq0 H1 hq0 hq1 sm1=>?_⟩
  refine⟨_,Ak (j:=0) (sm1 _ _ ha) rfl,sb,rfl,ws,sm1 _ _ hb,?_⟩
  refine Er (Fx sb _) (qt (.ref sa) a (.ref xe) S plan w.name H) ⟨q0,_,_,_,rfl,hq0,?_,sm1⟩ (λi Z H' _ h=>by obtain⟨_,_,_,_,_,_,_,s⟩:=h;exact s _ _ hb) (λi y Z H2 hi hy h=>?_) (λZ H2 h=>?_)
  ·rw[hq1]
   exact congrArg (λz=>some (HO.lst (Zy4 V.int z))) (Dr λd _=>by rw[Zvg,M0,Zxd])
  ·obtain⟨q,o1,o2,o3,rfl,hq,hq2,sm⟩:=h
   obtain⟨t,ht,rt⟩:=D4 rws hy
   have htm:=Zzr ht
   have wb:=g.ws.wb t htm
   obtain⟨te,d1,d2,rfl,hte,rc,rp⟩:=Dq rt
   obtain⟨pb,pv,rfl,hpb,rpv⟩:=RD.tup_of rp
   have hlp:=Cm rpv
   walk_at "rd"
   refine⟨_,Ak (j:=6) (sm _ _ hte) rfl,pb,rfl,pv,sm _ _ hpb,?_⟩
   refine Er (Fx pb _) (qu (.ref sa) a (.ref xe) (.ref te) S plan w.name t i H) ⟨q,_,_,rfl,hq,?_,sm⟩ (λj Z H' _ h=>by obtain⟨_,_,_,_,_,_,s⟩:=h;exact s _ _ hpb) (λj y Z H3 hj hy h=>?_) (λZ H3 h=>?_)
   ·rw[hq2]
    exact congrArg (λz=>some (HO.lst (Zy4 V.int z))) (Dr λd _=>by rw[Zvg,M0,Zxd])
   ·obtain⟨q,o2,o3,rfl,hq,hq2,sm⟩:=h
    obtain⟨pp,hpp,rpp⟩:=D4 rpv hy
    have hppm:=Zzr hpp
    obtain⟨pe,rfl,hpe⟩:=O9 rpp
    refine gt2 (sm _ _ hpe) ?_
    walk_at "rd"
    refine⟨_,Ak (j:=0) (sm _ _ hxe) rfl,rfl,Fj (λhz=>?_) (λhz=>?_)⟩
    ·have hz:pp.1=w.name:=V.str.inj (of_decide_eq_true hz)
     have hT:qq S w.name t.name:=⟨t,htm,rfl,pp,hppm,hz⟩
     refine⟨a,.ref te,S,plan,t,_,rfl,pl.same sm,hT,n2,RD.same sm _ _ rt,htm,wb.lag.1,by have:=wb.lag.2;omega,λb H4 hb4 hb5 sm4=>?_⟩
     have hq4:=sm4 _ _ hq2
     have sm04:=sm.trans sm4
     refine⟨b,rfl,_,hq4,_,hb5,?_⟩
     obtain⟨kvs,hkv,hpl⟩:=pl
     obtain⟨l,hv,hll,hlen,hbd⟩:=hpl t.name (Zzv.mpr ⟨t,htm,rfl⟩) hT
     have lb:(Gg (plan t.name) t.lag).length=daysN S:=by unfold Gg;rw[C1,hlen]
     have en:min (((C9 (daysN S) λd=>Cn (wAt w.name d) S.wants+Cn (pAt plan w.name d) (S.wares.take i)+Cn (λp:Str×Int=>if p.1=w.name then p.2*bAt (plan t.name) t.lag d else 0) (t.parts.take j)).map V.int).length) (((Gg (plan t.name) t.lag).map V.int).length)=daysN S:=by
      rw[Zzz,Zzz,C1,lb,Zv1]
     have G:=ow q b ((C9 (daysN S) λd=>Cn (wAt w.name d) S.wants+Cn (pAt plan w.name d) (S.wares.take i)+Cn (λp:Str×Int=>if p.1=w.name then p.2*bAt (plan t.name) t.lag d else 0) (t.parts.take j)).map V.int) ((Gg (plan t.name) t.lag).map V.int)
     rw[en] at G
     refine z8 G (Bf n2) (zf (daysN S) (λd=>Cn (wAt w.name d) S.wants+Cn (pAt plan w.name d) (S.wares.take i)+Cn (λp:Str×Int=>if p.1=w.name then p.2*bAt (plan t.name) t.lag d else 0) (t.parts.take j)+pp.2*bAt (plan t.name) t.lag d) H4) ⟨rfl,Zy0 _,Same.refl _⟩ (λr acc H' _ h=>⟨h.2.2 _ _ hq4,h.2.2 _ _ hb5⟩) (λr acc H' h=>?_) (λr ys z acc H5 hr hys h hz5=>?_) (λacc H5 h p hp=>?_)
     ·rw[h.1,Zzz,Mj h.2.1,C1]
      exact Zzm _
     ·obtain⟨rfl,h2,h3⟩:=h
      obtain⟨y1,y2,e1,e2,rfl⟩:=hys
      rw[Zzy,D8 hr] at e1
      cases e1
      have hbg:(Gg (plan t.name) t.lag)[r]?=some (bAt (plan t.name) t.lag r):=by unfold Gg;rw[D8 (by rw[hlen];exact hr)]
      rw[Zzy,hbg] at e2
      cases e2
      refine gT2 ?_
      walk_at "rd"
      have hamt:=wb.amts pp hppm
      refine⟨.inl (.inl ⟨by omega,by omega⟩),?_,hr,h3.trans (A6 hz5)⟩
      rw[Mj (by omega),Mj (by omega),Jb,Zzq]
      rfl
     ·obtain⟨rfl,h2,h3⟩:=h
      rw[Mj (Zzm _)]
      refine⟨p,_,_,rfl,Same.free (sm04.trans h3) hp,?_,(sm04.trans h3).trans (A6 hp)⟩
      rw[A0]
      refine congrArg (λz=>some (HO.lst (Zy4 V.int z))) (Dr λd _=>?_)
      rw[Gh _ hpp,if_pos hz]
      omega
    ·refine⟨q,_,_,rfl,hq,?_,sm⟩
     rw[hq2]
     refine congrArg (λz=>some (HO.lst (Zy4 V.int z))) (Dr λd _=>?_)
     rw[Gh _ hpp,if_neg (c:=pp.1=w.name) (λe=>hz (decide_eq_true (by rw[e]))),Zxd]
   ·obtain⟨q,o2,o3,rfl,hq,hq2,sm⟩:=h
    rw[hlp,Zyt] at hq2
    refine⟨q,_,_,_,rfl,hq,?_,sm⟩
    rw[hq2]
    refine congrArg (λz=>some (HO.lst (Zy4 V.int z))) (Dr λd _=>?_)
    rw[Gh _ ht]
    unfold pAt
    omega
  ·obtain⟨q,o1,o2,o3,rfl,hq,hq2,sm⟩:=h
   walk_at "rd"
   rw[hl,Zyt] at hq2
   exact k q H2 hq hq2 sm
end
set_option maxHeartbeats 4000000
section
variable {P:Program}{w:World}{K:Zzw}{mg:Str->Option Value}{base:Heap}{f:Addr}{fd:FuncData}{Pt:Addr}
def X7(ns:List Int)(j:Nat):Int:=(ns.take j).sum
def cum(ns:List Int)(n:Nat):List Int:=(Zxy n).map λj=>X7 ns (j+1)
theorem Pp{ns:List Int}{i:Nat}{c:Int}(h:ns[i]?=some c):X7 ns (i+1)=X7 ns i+c:=by
 unfold X7
 rw[Zyx,h,List.sum_append]
 simp
theorem qc(ns:List Int)(n:Nat):cum ns (n+1)=cum ns n++[X7 ns (n+1)]:=by
 unfold cum
 rw[List.range_succ,Zzq]
 rfl
theorem wa(ns:List Int)(n:Nat):(cum ns n).length=n:=by simp[cum]
def zp(r p:Addr)(ns:List Int)(H:Hp)(i:Nat)(Z:St)(H':Hp):Prop:=∃c:Option V,Z=[some (.ref r),some (.ref p),some (.int (X7 ns i)),c]/\H' p=some (.lst ((cum ns i).map V.int))/\Same H H'
def sp_so_far:Sp:=λvs H Q _=>∃(r:Addr) (ns:List Int),vs=[.ref r]/\H r=some (.lst (ns.map V.int))/\ns.length<=1000/\∀p H',H p=none->H' p=some (.lst ((cum ns ns.length).map V.int))->Same H H'->Q (.ref p) H'
theorem sc_so_far:Bg ["row", "told", "total", "number"] ["row"] (Ai Pa):=by walk_at "sc"
theorem ik(F:Fun K "so_far" "so_far" Pa f fd)(T:Txt mg):D3 P w K mg base CX0 1 f fd ["row"] sp_so_far:=by
 refine F.ok sc_so_far (λvs H Q E h=>?_) (λcdv A outer s H vs Q E hr h=>?_)
 ·obtain⟨r,ns,rfl,_⟩:=h
  rfl
 ·obtain⟨r,ns,rfl,hr0,hl,k⟩:=h
  have hu:=Ch hr
  refine⟨_,(A2 (Bh (i:=1) sc_so_far.nd rfl (Zzu rfl) (Dl A1))
 (A2 (Bh (i:=2) sc_so_far.nd rfl (Zzu rfl) A5)
 (A2 (D2 PassesOwn.never rfl (G8 (pv 0)) (Ac (i:=3) sc_so_far.nd rfl (Zzu rfl))
 (A2 (Zx (i:=2) sc_so_far.nd rfl (Zzu rfl) (pv 3) Pk)
 (Aa (Fm (Gf Zyl Zy2 Zy1 Fi (pv 1) (A3 (pv 2) A1))))))
 (Aa (Be (pv 1)))))),?_⟩
  walk_at "rd"
  refine⟨Zy0 _,λp hp=>⟨_,by rw[A7 (A4 hr0 hp)];exact hr0,?_⟩⟩
  refine Er (Ip r _) (zp r p ns H) ⟨_,rfl,A0,A6 hp⟩ (λi Z H' _ h=>by obtain⟨_,_,_,s⟩:=h;exact s _ _ hr0) (λi x Z H' hi hx h=>?_) (λZ H' h=>?_)
  ·obtain⟨c,rfl,h1,sm⟩:=h
   have hi':i<ns.length:=by simpa using hi
   rw[Zzy] at hx
   cases ec:ns[i]? with
   |none=>rw[ec] at hx;cases hx
   |some c =>
   rw[ec] at hx
   cases hx
   walk_at "rd"
   refine⟨G2 h1,_,h1,Zya (m:=1000) (by rw[Zzz,wa];omega) (by decide),?_⟩
   refine⟨_,by rw[Pp ec],?_,λb o hb=>?_⟩
   ·rw[A0,qc,Zzq,Pp ec];rfl
   ·rw[A7 (A4 hb hp)];exact sm b o hb
  ·obtain⟨c,rfl,h1,sm⟩:=h
   walk_at "rd"
   rw[Zzz] at h1
   exact k p H' hp h1 sm
theorem X6{n:Nat}{f:Nat->Int}:∀{d:Nat},d<=n->X7 (C9 n f) d=upS f d
 |0,_=>by simp[X7,upS]
 |d+1,h=>by rw[Pp (D8 (by omega)),X6 (by omega),upS]
theorem w9{n:Nat}{f:Nat->Int}:cum (C9 n f) (C9 n f).length=C9 n λd=>upS f (d+1):=by
 rw[C1]
 unfold cum
 show _=(Zxy n).map _
 apply Zx4
 intro d hd
 exact X6 (by have:=Zwp.mp hd;omega)
def sp_arrivals_row:Sp:=λvs H Q _=>∃(v x:V) (S:Sh) (w:Wr) (sz:Int),vs=[v,x]/\RD H S.d v/\RD H w.d x/\Good sz S/\0<sz/\sz<=1000/\w.coming.length<=1000/\(∀p∈w.coming,0<=p.1)/\∀p H',H p=none->H' p=some (.lst ((C9 (daysN S) (Go w)).map V.int))->Same H H'->Q (.ref p) H'
def zu(v x:V)(p:Addr)(S:Sh)(w:Wr)(H:Hp)(i:Nat)(Z:St)(H':Hp):Prop:=∃o1 o2:Option V,Z=[some v,some x,some (.ref p),o1,o2]/\H' p=some (.lst ((C9 (daysN S) λd=>(if d=0 then w.stock else 0)+Cn (cAt d) (w.coming.take i)).map V.int))/\Same H H'
theorem sc_arrivals_row:Bg ["shop", "ware", "told", "day", "amount"] ["shop", "ware"] (Ai Iy):=by walk_at "sc"
theorem Qo(F:Fun K "arrivals_row" "arrivals_row" Iy f fd)(T:Txt mg)(Zu3:Has P w K mg base "count_days" 1 ["shop"] sp_count_days):D3 P w K mg base CX0 2 f fd ["shop", "ware"] sp_arrivals_row:=by
 refine F.ok sc_arrivals_row (λvs H Q E h=>?_) (λcdv A outer s H vs Q E hr h=>?_)
 ·obtain⟨v,x,S,w,sz,rfl,_⟩:=h
  rfl
 ·obtain⟨v,x,S,w,sz,rfl,rs,rx,g,z0,z1,hcl,hcd,k⟩:=h
  have hu:=Ch hr
  obtain⟨n1,n2,n3,n4⟩:=g.days z0 z1
  refine⟨_,(A2 (Bh (i:=2) sc_arrivals_row.nd rfl (Zzu rfl) (C7 Zz (Dl (A3 A5 A1)) (A9 Zu3 hr.z rfl (A3 (pv 0) A1))))
 (A2 (Je (A8 hu (pv 1) (C0 rfl T.Zt2) (λ_ _=>rfl)) (Jx (pv 2) A5 Jt))
 (A2 (D2 PassesOwn.never rfl (E5 (A8 hu (pv 1) (C0 rfl T.Ztj) (λ_ _=>rfl))) (Gk (n:=2) rfl (C2 (Ac (i:=3) sc_arrivals_row.nd rfl (Zzu rfl)) (C2 (Ac (i:=4) sc_arrivals_row.nd rfl (Zzu rfl)) Fn)))
 (Aa (Db (C6 (Lz hu) (pv 3) (Bd Dp rfl T.Zue Fu (A3 (pv 2) A1)) (Cc _)) (Aa (cq (pv 2) (pv 3) dz (pv 4) Pk Jt)) C5)))
 (Aa (Be (pv 2)))))),?_⟩
  obtain⟨xe,c1,c2,rfl,hxe,rc,_⟩:=Dq rx
  obtain⟨cb,cv,rfl,hcb,rcv⟩:=RD.tup_of rc
  have hl:=Cm rcv
  walk_at "rd"
  refine⟨by decide,λp0 hp0=>?_⟩
  have u0:=A6 (o:=.lst [V.int 0]) hp0
  refine⟨v,S,rfl,RD.same u0 _ _ rs,by have:=g.wants.1;omega,λH1 sm1=>?_⟩
  have h01:=sm1 p0 _ A0
  have sm01:=u0.trans sm1
  rw[<- n3]
  refine⟨_,rfl,_,h01,by omega,by omega,by rw[Zx3];exact Bf (by omega),λp hp=>?_⟩
  have u1:=sm01.trans (A6 (o:=.lst ((C9 (daysN S) λ_=>0).map V.int)) hp)
  have en:((daysN S:Nat):Int).toNat=daysN S:=by omega
  rw[en,Rz]
  have fp:H p=none:=Same.free sm01 hp
  refine⟨_,Ak (j:=4) (u1 _ _ hxe) rfl,_,A0,0,?_,?_⟩
  ·rw[Zzz,C1]
   unfold ixN
   rw[if_pos (by decide),if_pos (by omega)]
   rfl
  have kx:∀{b:Addr} {o o' o2:HO},H b=some o->upd (upd H1 p o') p o2 b=some o:=λ{b o o' o2} hb=>by rw[A7 (A4 hb fp),A7 (A4 hb fp)];exact sm01 b o hb
  refine⟨_,Ak (j:=5) (kx hxe) rfl,cb,rfl,cv,kx hcb,?_⟩
  refine Er (Fx cb _) (zu v (.ref xe) p S w H) ⟨_,_,rfl,?_,λb o hb=>kx hb⟩ (λi Z H' _ h=>by obtain⟨_,_,_,_,s⟩:=h;exact s _ _ hcb) (λi y Z H2 hi hy h=>?_) (λZ H2 h=>?_)
  ·rw[A0,<- Zvh,O7]
   exact congrArg (λz=>some (HO.lst (Zy4 V.int z))) (Dr λd _=>by rw[Zvg,M0,Zxd])
  ·obtain⟨o1,o2,rfl,hp2,sm⟩:=h
   obtain⟨u,hu',ru⟩:=D4 rcv hy
   obtain⟨e,rfl,he⟩:=T6 ru
   refine gt2 (sm _ _ he) ?_
   have hd0:=hcd u (Zzr hu')
   walk_at "rd"
   refine⟨_,.inl hp2,Fj (λhz=>?_) (λhz=>?_)⟩
   ·have hz:=of_decide_eq_true hz
    rw[Zzz,C1] at hz
    have hd:u.1.toNat<daysN S:=by omega
    refine⟨_,hp2,hd0,_,by rw[Zzy,D8 hd];rfl,_,rfl,_,hp2,u.1.toNat,?_,?_⟩
    ·rw[Zzz,C1]
     unfold ixN
     rw[if_pos hd0,if_pos (by omega)]
    ·refine⟨_,_,rfl,?_,λb' o' hb'=>by rw[A7 (A4 hb' fp)];exact sm b' o' hb'⟩
     rw[A0,<- Zvh,O7]
     refine congrArg (λz=>some (HO.lst (Zy4 V.int z))) (Dr λd _=>?_)
     rw[Gh _ hu']
     unfold cAt
     by_cases e1:d=u.1.toNat
     ·subst e1
      rw[if_pos rfl,if_pos (c:=u.1=_) (by omega)]
      omega
     ·rw[if_neg e1,if_neg (c:=u.1=_) (λq=>e1 (by omega)),Zxd]
   ·have hz:¬ u.1<(daysN S:Int):=λq=>hz (decide_eq_true (by rw[Zzz,C1];exact q))
    refine⟨_,_,rfl,?_,sm⟩
    rw[hp2]
    refine congrArg (λz=>some (HO.lst (Zy4 V.int z))) (Dr λd hd=>?_)
    rw[Gh _ hu']
    unfold cAt
    rw[if_neg (c:=u.1=_) (λq=>hz (by omega)),Zxd]
  ·obtain⟨o1,o2,rfl,hp2,sm⟩:=h
   walk_at "rd"
   rw[hl,Zyt] at hp2
   exact k p H2 fp hp2 sm
def sp_stocks_row:Sp:=λvs H Q _=>∃(v:V) (a:Addr) (x:V) (S:Sh) (plan:Str->List Int) (w:Wr) (sz:Int),vs=[v,.ref a,x]/\RD H S.d v/\PlanAt H a S plan/\RD H w.d x/\w∈S.wares/\Good sz S/\0<sz/\sz<=1000/\∀p H',H p=none->H' p=some (.lst ((D1 S plan w).map V.int))->Same H H'->Q (.ref p) H'
def zr(v:V)(a:Addr)(x:V)(p:Addr)(S:Sh)(plan:Str->List Int)(w:Wr)(H1:Hp)(i:Nat)(Z:St)(H':Hp):Prop:=∃o1 o2 o3:Option V,Z=[some v,some (.ref a),some x,some (.ref p),o1,o2,o3]/\i<=daysN S/\H' p=some (.lst ((C9 i (M7 S plan w)).map V.int))/\∀b o,b≠p->H1 b=some o->H' b=some o
theorem sc_stocks_row:Bg ["shop", "plan", "ware", "changes", "comes", "lots", "goes"] ["shop", "plan", "ware"] (Ai Kd):=by walk_at "sc"
theorem Tj(F:Fun K "stocks_row" "stocks_row" Kd f fd)(T:Txt mg)(Zu0:Has P w K mg base "needs_row" 3 ["shop", "plan", "ware"] sp_needs_row)(Zu9:Has P w K mg base "arrivals_row" 2 ["shop", "ware"] sp_arrivals_row)(Zs4:Has P w K mg base "so_far" 1 ["row"] sp_so_far):D3 P w K mg base CX0 4 f fd ["shop", "plan", "ware"] sp_stocks_row:=by
 refine F.ok sc_stocks_row (λvs H Q E h=>?_) (λcdv A outer s H vs Q E hr h=>?_)
 ·obtain⟨v,a,x,S,plan,w,sz,rfl,_⟩:=h
  rfl
 ·obtain⟨v,a,x,S,plan,w,sz,rfl,rs,pl,rx,hm,g,z0,z1,k⟩:=h
  have hu:=Ch hr
  obtain⟨n1,n2,n3,n4⟩:=g.days z0 z1
  have wb:=g.ws.wb w hm
  refine⟨_,(A2 (Bh (i:=3) sc_stocks_row.nd rfl (Zzu rfl) (Dl A1))
 (A2 (D2 PassesOwn.never rfl (ud rfl T.Zs2 (A3 (A9 Zu9 hr.z rfl (A3 (pv 0) (A3 (pv 2) A1))) (A3 (A8 hu (pv 1) (A8 hu (pv 2) (C0 rfl T.Zub) (λ_ _=>rfl)) (λ_ _=>rfl)) (A3 (A9 Zu0 hr.z rfl (A3 (pv 0) (A3 (pv 1) (A3 (pv 2) A1)))) A1)))) (Gk (n:=3) rfl (C2 (Ac (i:=4) sc_stocks_row.nd rfl (Zzu rfl)) (C2 (Ac (i:=5) sc_stocks_row.nd rfl (Zzu rfl)) (C2 (Ac (i:=6) sc_stocks_row.nd rfl (Zzu rfl)) Fn))))
 (Aa (Fm (Gf Zyl Zy2 Zy1 Fi (pv 3) (A3 (C7 Ou (C7 Ds (pv 4) (C7 J0 (A8 hu (pv 2) (C0 rfl T.Zth) (λ_ _=>rfl)) (pv 5))) (pv 6)) A1)))))
 (Aa (Be (A9 Zs4 hr.z rfl (A3 (pv 3) A1)))))),?_⟩
  obtain⟨xe,c1,c2,rfl,hxe,_⟩:=Dq rx
  obtain⟨kvs,hkv,hpl⟩:=id pl
  obtain⟨l,hv,hll,hlen,hbd⟩:=hpl w.name (Zzv.mpr ⟨w,hm,rfl⟩)
  walk_at "rd"
  refine⟨Zy0 _,λp hp=>?_⟩
  have u0:=A6 (o:=.lst []) hp
  have hcom:=g.com w hm
  refine⟨v,.ref xe,S,w,sz,rfl,RD.same u0 _ _ rs,RD.same u0 _ _ rx,g,z0,z1,by have:=hcom.1;omega,λq hq=>(hcom.2 q hq).1.1,λq1 H1 hq1 hq2 sm1=>?_⟩
  have s01:=u0.trans sm1
  refine⟨_,Ak (j:=0) (s01 _ _ hxe) rfl,_,L0 (hkv.same s01) hv,?_⟩
  refine⟨v,a,.ref xe,S,plan,w,sz,rfl,RD.same s01 _ _ rs,(pl.same s01).for _,RD.same s01 _ _ rx,g,z0,z1,λq2 H2 hq3 hq4 sm2=>?_⟩
  have s02:=s01.trans sm2
  have hp2:H2 p=some (.lst []):=sm2 _ _ (sm1 _ _ A0)
  refine⟨q1,rfl,l,rfl,q2,rfl,_,sm2 _ _ hq2,_,s02 _ _ hll,_,hq4,?_⟩
  have lz:min ((C9 (daysN S) (Go w)).map V.int).length (min ((plan w.name).map V.int).length ((Ck S plan w.name).map V.int).length)=daysN S:=by
   rw[Zzz,Zzz,Zzz,C1,hlen]
   unfold Ck
   rw[C1,Zv1,Zv1]
  have G:=yv q1 l q2 ((C9 (daysN S) (Go w)).map V.int) ((plan w.name).map V.int) ((Ck S plan w.name).map V.int)
  rw[lz] at G
  have q1p:q1≠p:=λe=>by rw[e,A0] at hq1;cases hq1
  have lp:l≠p:=A4 hll hp
  have q2p:q2≠p:=λe=>by rw[e,sm1 _ _ A0] at hq3;cases hq3
  have xp:xe≠p:=A4 hxe hp
  refine Yt G (zr v a (.ref xe) p S plan w H2) ⟨_,_,_,rfl,Zy0 _,hp2,λb o _ h=>h⟩ (λi Z H' _ h=>by obtain⟨_,_,_,_,_,_,s⟩:=h;exact⟨s _ _ q1p (sm2 _ _ hq2),s _ _ lp (s02 _ _ hll),s _ _ q2p hq4⟩) (λi ys pt Z H3 hi hys h hpt=>?_) (λZ H3 h=>?_)
  ·obtain⟨o1,o2,o3,rfl,hi',hp3,kp⟩:=h
   obtain⟨y1,y2,y3,e1,e2,e3,rfl⟩:=hys
   have ep:(plan w.name)[i]?=some ((plan w.name).getD i 0):=by
    rw[Zzo,Zzs (by omega)]
    rfl
   rw[Zzy,D8 hi] at e1
   cases e1
   rw[Zzy,ep] at e2
   cases e2
   unfold Ck at e3
   rw[Zzy,D8 hi] at e3
   cases e3
   have hb:=hbd _ (Zzr ep)
   have hg:=wb.gives
   refine gT3 ?_
   walk_at "rd"
   have pp:p≠pt:=A4 hp3 hpt
   have kx:upd H3 pt (.tup [V.int (Go w i),V.int ((plan w.name).getD i 0),V.int (E6 S plan w.name i)]) xe=some (.tup [V.str w.name,V.int w.lag,V.int w.gives,V.int w.floor,V.int w.stock,c1,c2]):=by
    rw[A7 (A4 (kp _ _ xp (s02 _ _ hxe)) hpt)]
    exact kp _ _ xp (s02 _ _ hxe)
   have hp4:upd H3 pt (.tup [V.int (Go w i),V.int ((plan w.name).getD i 0),V.int (E6 S plan w.name i)]) p=some (.lst ((C9 i (M7 S plan w)).map V.int)):=by
    rw[A7 pp]
    exact hp3
   refine⟨G2 hp4,_,Ak (j:=2) kx rfl,_,rfl,.inl (.inl ⟨by omega,by omega⟩),_,hp4,?_,_,_,_,rfl,hi,?_,λb o nb hb=>?_⟩
   ·rw[Zzz,C1]
    exact Zya (m:=1000) (by omega) (by decide)
   ·rw[A0,Jb,Zzq]
    rfl
   ·rw[A7 nb,A7 (A4 (kp _ _ nb hb) hpt)]
    exact kp _ _ nb hb
  ·obtain⟨o1,o2,o3,rfl,hi',hp3,kp⟩:=h
   walk_at "rd"
   refine⟨p,C9 (daysN S) (M7 S plan w),rfl,hp3,by rw[C1];exact n2,λr H4 hr hr4 sm4=>?_⟩
   have sm04:Same H H4:=λb o hb=>sm4 _ _ (kp _ _ (A4 hb hp) (s02 _ _ hb))
   refine k r H4 ?_ ?_ sm04
   ·cases e:H r with
    |none=>rfl
    |some o =>
     rw[kp _ _ (A4 e hp) (s02 _ _ e)] at hr
     cases hr
   ·rw[hr4,w9]
    rfl
end
set_option maxHeartbeats 4000000
section
variable {P:Program}{w:World}{K:Zzw}{mg:Str->Option Value}{base:Heap}{f:Addr}{fd:FuncData}{Pt:Addr}
def sp_lots_for:Sp:=λvs H Q _=>∃m g,vs=[.int m,.int g]/\0<g/\g<10^200/\Q (.int (Dt m g)) H
theorem Xe:Bg ["amount", "gives"] ["amount", "gives"] (Ai Mb):=by walk_at "sc"
theorem Xz(F:Fun K "lots_for" "lots_for" Mb f fd)(T:Txt mg):D3 P w K mg base CX0 1 f fd ["amount", "gives"] sp_lots_for:=by
 refine F.ok Xe (λvs H Q E h=>?_) (λcdv A outer s H vs Q E hr h=>?_)
 ·obtain⟨m,g,rfl,_⟩:=h
  rfl
 ·obtain⟨m,g,rfl,h0,h1,k⟩:=h
  have hu:=Ch hr
  refine⟨_,(Aa (Be (Bd (Oe rfl) rfl T.Zsg Ox (A3 A5 (A3 (Xp Rm (C7 Nb (Xp Rm (pv 0)) (pv 1))) A1))))),?_⟩
  walk_at "rd"
  exact⟨h0,h1,k⟩
theorem Nk{sz:Int}{S:Sh}(g:Good sz S):Z9 S where
 nd:=g.ws.nd
 own:=g.ws.own
 low:=g.ws.low
 ok:=g.ok
 few:=by have:=g.len.2;omega
theorem Wo{sz:Int}{S:Sh}(g:Good sz S):X0 S where
 wb:=λw hw=>by
  have b:=g.ws.wb w hw
  exact⟨⟨b.gives.1,Zx7 b.gives.2 (by decide +kernel)⟩,⟨b.floor.1,Zx7 b.floor.2 (by decide +kernel)⟩,b.stock.1,b.parts,λp hp=>⟨(b.amts p hp).1,Zx7 (b.amts p hp).2 (by decide +kernel)⟩⟩
 com:=λw hw p hp=>((g.com w hw).2 p hp).2.1
 few:=g.len.2
 wt:=⟨g.wants.1,λu hu=>⟨(g.wants.2 u hu).2.2.1,Zx7 (Int.le_of_lt (g.wants.2 u hu).2.2.2) (by decide +kernel)⟩⟩
theorem Ms{xs:List Int}{i:Nat}{y:V}(h:(xs.map V.int)[i]?=some y):y=.int (xs.getD i 0):=by
 rw[Zzy] at h
 rw[Zzo]
 cases e:xs[i]? with
 |none=>rw[e] at h;cases h
 |some x=>rw[e] at h;cases h;rfl
theorem gc{S:Sh}(nd:(S.wares.map (·.name)).Nodup){a b:Wr}(h1:a∈S.wares)(h2:b∈S.wares)(e:a.name=b.name):a=b:=by
 have:=P0 nd h1
 rw[e,P0 nd h2] at this
 exact(Zz3 this).symm
def qy(a b p:Addr)(g f:Int)(xs ys:List Int)(H:Hp)(i:Nat)(Z:St)(H':Hp):Prop:=∃c d e:Option V,Z=[some (.ref a),some (.ref b),some (.int g),some (.int f),some (.ref p),some (.int (above f g xs ys i)),c,d,e] /\
 H' p=some (.lst ((lots f g xs ys i).map V.int))/\Same H H'
def sp_least_lots:Sp:=λvs H Q _=>∃(a b:Addr) (g f:Int) (xs ys:List Int),vs=[.ref a,.ref b,.int g,.int f]/\H a=some (.lst (xs.map V.int))/\H b=some (.lst (ys.map V.int))/\ys.length=xs.length/\xs.length<=1000 /\
 0<g/\g<10^200/\(∀i,i<xs.length->CMulB g (Ka f g xs ys i))/\∀p H',H p=none->H' p=some (.lst ((lots f g xs ys xs.length).map V.int))->Same H H'->Q (.ref p) H'
theorem sc_least_lots:Bg ["have", "need", "gives", "floor", "told", "above_floor", "comes", "goes", "lots"] ["have", "need", "gives", "floor"] (Ai Kg):=by walk_at "sc"
theorem Tm(F:Fun K "least_lots" "least_lots" Kg f fd)(T:Txt mg)(Zsd:Has P w K mg base "lots_for" 1 ["amount", "gives"] sp_lots_for):D3 P w K mg base CX0 2 f fd ["have", "need", "gives", "floor"] sp_least_lots:=by
 refine F.ok sc_least_lots (λvs H Q E h=>?_) (λcdv A outer s H vs Q E hr h=>?_)
 ·obtain⟨a,b,g,f,xs,ys,rfl,_⟩:=h
  rfl
 ·obtain⟨a,b,g,fl,xs,ys,rfl,ha,hb,hl,hn,g0,g200,hm,k⟩:=h
  have hu:=Ch hr
  refine⟨_,(A2 (Bh (i:=4) sc_least_lots.nd rfl (Zzu rfl) (Dl A1))
 (A2 (Bh (i:=5) sc_least_lots.nd rfl (Zzu rfl) (Xp Rm (pv 3)))
 (A2 (D2 PassesOwn.never rfl (cu rfl T.Zs2 (A3 (pv 0) (A3 (pv 1) A1))) (Gk (n:=2) rfl (C2 (Ac (i:=6) sc_least_lots.nd rfl (Zzu rfl)) (C2 (Ac (i:=7) sc_least_lots.nd rfl (Zzu rfl)) Fn)))
 (A2 (Zx (i:=5) sc_least_lots.nd rfl (Zzu rfl) (C7 Ou (pv 6) (pv 7)) Pk)
 (A2 (Bh (i:=8) sc_least_lots.nd rfl (Zzu rfl) (A9 Zsd hr.z rfl (A3 (Xp Rm (pv 5)) (A3 (pv 2) A1))))
 (A2 (Zx (i:=5) sc_least_lots.nd rfl (Zzu rfl) (C7 J0 (pv 2) (pv 8)) Pk)
 (Aa (Fm (Gf Zyl Zy2 Zy1 Fi (pv 4) (A3 (pv 8) A1))))))))
 (Aa (Be (pv 4)))))),?_⟩
  walk_at "rd"
  refine⟨Zy0 _,λp hp=>⟨_,by rw[A7 (A4 ha hp)];exact ha,_,by rw[A7 (A4 hb hp)];exact hb,?_⟩⟩
  have en:min (xs.map V.int).length (ys.map V.int).length=xs.length:=by rw[Zzz,Zzz];omega
  refine Yt (ow a b _ _) (qy a b p g fl xs ys H) ⟨_,_,_,rfl,A0,A6 hp⟩ (λi Z H' _ h=>by obtain⟨_,_,_,_,_,s⟩:=h;exact⟨s _ _ ha,s _ _ hb⟩) (λi us t Z H' hi hy h ht=>?_) (λZ H' h=>?_)
  ·obtain⟨c,d,e,rfl,h1,sm⟩:=h
   obtain⟨y,z,ey,ez,rfl⟩:=hy
   have hy:=Ms ey
   have hz:=Ms ez
   subst hy hz
   refine gT2 ?_
   walk_at "rd"
   refine⟨_,_,rfl,g0,g200,?_⟩
   have eL:Dt (-(above fl g xs ys i+(xs.getD i 0 - ys.getD i 0))) g=Ka fl g xs ys i:=rfl
   rw[eL]
   have hp':upd H' t (.tup [.int (xs.getD i 0),.int (ys.getD i 0)]) p=some (.lst ((lots fl g xs ys i).map V.int)):=by rw[A7 (A4 h1 ht)];exact h1
   walk_at "rd"
   refine⟨hm i (by omega),G2 hp',_,hp',Zya (m:=1000) (by rw[Zzz,Yg];omega) (by decide),?_⟩
   refine⟨_,_,_,rfl,?_,λb' o hb'=>?_⟩
   ·rw[A0,iw,Zzq];rfl
   ·rw[A7 (A4 hb' hp)]
    exact(sm.trans (A6 ht)) b' o hb'
  ·obtain⟨c,d,e,rfl,h1,sm⟩:=h
   walk_at "rd"
   rw[en] at h1
   exact k p H' hp h1 sm
def vz:Option Nat->V
 |some d=>.int d
 |none=>.non
def sp_first_early:Sp:=λvs H Q _=>∃(a:Addr) (row:List Int) (lag:Int),vs=[.ref a,.int lag]/\H a=some (.lst (row.map V.int))/\row.length<=1000/\∀H',Same H H'->Q (vz (Dx row lag)) H'
def rg(a:Addr)(lag:Int)(row:List Int)(H:Hp)(i:Nat)(Z:St)(H':Hp):Prop:=∃c d:Option V,Z=[some (.ref a),some (.int lag),c,d]/\Gm row lag i=none/\Same H H'
theorem sc_first_early:Bg ["lots", "lag", "day", "count"] ["lots", "lag"] (Ai Jo):=by walk_at "sc"
theorem Sc(F:Fun K "first_early" "first_early" Jo f fd)(T:Txt mg):D3 P w K mg base CX0 1 f fd ["lots", "lag"] sp_first_early:=by
 refine F.ok sc_first_early (λvs H Q E h=>?_) (λcdv A outer s H vs Q E hr h=>?_)
 ·obtain⟨a,row,lag,rfl,_⟩:=h
  rfl
 ·obtain⟨a,row,lag,rfl,ha,hl,k⟩:=h
  have hu:=Ch hr
  refine⟨_,(A2 (D2 PassesOwn.never rfl (cw rfl T.Zs6 (A3 (pv 0) A1)) (Gk (n:=2) rfl (C2 (Ac (i:=2) sc_first_early.nd rfl (Zzu rfl)) (C2 (Ac (i:=3) sc_first_early.nd rfl (Zzu rfl)) Fn)))
 (Aa (Db (PW.pt (Os (C6 (Lz hu) (pv 2) (pv 1) (Cc _)) (Ml (C6 Xs (pv 3) A5 (Cc _))))) (Aa (Be (pv 2))) C5)))
 (Aa (Be Ot))),?_⟩
  walk_at "rd"
  refine⟨_,ha,?_⟩
  refine Yt (xm a _) (rg a lag row H) ⟨_,_,rfl,rfl,Same.refl _⟩ (λi Z H' _ h=>by obtain⟨_,_,_,_,s⟩:=h;exact s _ _ ha) (λi us t Z H' hi hy h ht=>?_) (λZ H' h=>?_)
  ·obtain⟨c,d,rfl,hn,sm⟩:=h
   obtain⟨y,ey,rfl⟩:=hy
   have hy:=Ms ey
   subst hy
   rw[Zzz] at hi
   have s2:=sm.trans (A6 (o:=.tup [.int i,.int (row.getD i 0)]) ht)
   have es:Gm row lag (i+1)=if (i:Int)<lag/\0<row.getD i 0 then some i else none:=by rw[Gm,hn]
   refine gT2 ?_
   walk_at "rd"
   refine Fj (λh1=>Fj (λh2=>?_) (λh2=>?_)) (λh1=>?_)
   ·have h1:=of_decide_eq_true h1
    have h2:=of_decide_eq_true h2
    rw[if_pos ⟨h1,h2⟩] at es
    have e:Dx row lag=some i:=be es (by omega)
    have:=k _ s2
    rw[e] at this
    exact this
   ·exact⟨_,_,rfl,by rw[es,if_neg (λc=>h2 (decide_eq_true c.2))],s2⟩
   ·exact⟨_,_,rfl,by rw[es,if_neg (λc=>h1 (decide_eq_true c.1))],s2⟩
  ·obtain⟨c,d,rfl,hn,sm⟩:=h
   rw[Zzz] at hn
   walk_at "rd"
   have:=k _ sm
   unfold Dx at this
   rw[hn] at this
   exact this
def A0u(kvs:List (Key×V))(l:List Str):Prop:=∀nm∈l,∀nm'∈l,∀q:Addr,Fk kvs (.inr nm)=some (.ref q)->Fk kvs (.inr nm')=some (.ref q)->nm=nm'
def qv(H H':Hp)(a:Addr)(S:Sh)(l:List Str):Prop:=∃kvs,H' a=some (.dK kvs)/\kvs.map (·.1)=l.map Zxk/\(∀nm∈l,∃q:Addr,H q=none/\q≠a/\Fk kvs (.inr nm)=some (.ref q)/\H' q=some (.lst ((LR S nm).map V.int)))/\A0u kvs l
def Rs(Pt:Addr):Sp:=λvs H Q _=>∃(v:V) (S:Sh) (sz:Int),vs=[v]/\RD H S.d v/\Good sz S/\0<sz/\sz<=1000/\Tb H Pt/\∀(t p:Addr) (ys:List Str) (i:Nat) (H':Hp),H t=none->H p=none->t≠p->Np (lv S) (Cl S) ys->qv H H' p S (ys.take i)->(∀w∈S.wares,w.name∈ys.take i->Dx (LR S w.name) w.lag=none)->Tb H' Pt->But Pt H H' ->
 ((i=ys.length/\H' t=some (.tup [.str "plan",.ref p]))\/∃(w:Wr) (d:Nat),w∈S.wares/\ys[i]?=some w.name/\Dx (LR S w.name) w.lag=some d/\H' t=some (.tup [.str "short",.ref p,.str w.name,.int d,.int ((LR S w.name).getD d 0)]))->Q (.ref t) H'
def wv(v:V)(p:Addr)(S:Sh)(ys:List Str)(H H1:Hp)(i:Nat)(Z:St)(H':Hp):Prop:=∃o2 o3 o4 o5:Option V,Z=[some v,some (.ref p),o2,o3,o4,o5]/\qv H H' p S (ys.take i)/\(∀w∈S.wares,w.name∈ys.take i->Dx (LR S w.name) w.lag=none)/\∀b o,b≠p->H1 b=some o->H' b=some o
theorem sc_planned:Bg ["shop", "plan", "name", "ware", "lots", "day"] ["shop"] (Ai Nw):=by walk_at "sc"
theorem ad(F:Fun K "planned" "planned" Nw f fd)(T:Txt mg)(Ztb:Has P w K mg base "worked" 6 ["shop"] (Ps Pt))(Ztm:Has P w K mg base "ware_of" 1 ["shop", "name"] sp_ware_of)(Zsy:Has P w K mg base "least_lots" 2 ["have", "need", "gives", "floor"] sp_least_lots)(Zu0:Has P w K mg base "needs_row" 3 ["shop", "plan", "ware"] sp_needs_row)(Zu9:Has P w K mg base "arrivals_row" 2 ["shop", "ware"] sp_arrivals_row)(Zu8:Has P w K mg base "first_early" 1 ["lots", "lag"] sp_first_early):D3 P w K mg base CX0 7 f fd ["shop"] (Rs Pt):=by
 refine F.ok sc_planned (λvs H Q E h=>?_) (λcdv A outer s H vs Q E hr h=>?_)
 ·obtain⟨v,S,sz,rfl,_⟩:=h
  rfl
 ·obtain⟨v,S,sz,rfl,rs,g,z0,z1,tb,k⟩:=h
  have hu:=Ch hr
  obtain⟨n1,n2,n3,n4⟩:=g.days z0 z1
  refine⟨_,(A2 (Bh (i:=1) sc_planned.nd rfl (Zzu rfl) Na)
 (A2 (D2 PassesOwn.never rfl (G8 (A9 Ztb hr.z rfl (A3 (pv 0) A1))) (Ac (i:=2) sc_planned.nd rfl (Zzu rfl))
 (A2 (Bh (i:=3) sc_planned.nd rfl (Zzu rfl) (A9 Ztm hr.z rfl (A3 (pv 0) (A3 (pv 2) A1))))
 (A2 (Bh (i:=4) sc_planned.nd rfl (Zzu rfl) (A9 Zsy hr.z rfl (A3 (A9 Zu9 hr.z rfl (A3 (pv 0) (A3 (pv 3) A1))) (A3 (A9 Zu0 hr.z rfl (A3 (pv 0) (A3 (pv 1) (A3 (pv 3) A1)))) (A3 (A8 hu (pv 3) (C0 rfl T.Zth) (λ_ _=>rfl)) (A3 (A8 hu (pv 3) (C0 rfl T.Zti) (λ_ _=>rfl)) A1))))))
 (A2 (Bh (i:=5) sc_planned.nd rfl (Zzu rfl) (A9 Zu8 hr.z rfl (A3 (pv 4) (A3 (A8 hu (pv 3) (C0 rfl T.Zt3) (λ_ _=>rfl)) A1))))
 (A2 (Db (C6 Px (pv 5) Ot (Cc _)) (Aa (Be (G9 (A3 D7 (A3 (pv 1) (A3 (pv 2) (A3 (pv 5) (A3 (A8 hu (pv 4) (pv 5) (λ_ _=>rfl)) A1)))))))) C5)
 (Aa (Je (pv 4) (Jx (pv 1) (pv 2) (Kw hu)))))))))
 (Aa (Be (G9 (A3 D7 (A3 (pv 1) A1))))))),?_⟩
  have L:=Nk g
  have PL:=Wo g
  have hfew:=L.few
  walk_at "rd"
  intro p hp
  have u0:=A6 (o:=.dK []) hp
  refine⟨v,S,rfl,RD.same u0 _ _ rs,L,tb.same u0,λq ys H1 hq hq1 so sb tb1 bt1=>⟨q,rfl,_,hq1,?_⟩⟩
  have tb0:=tb.same u0
  have pPt:p≠Pt:=λz=>by obtain⟨u,e⟩:=tb.at;rw[<- z,hp] at e;cases e
  have hp1:H1 p=some (.dK []):=bt1 _ _ pPt A0
  have qp:q≠p:=Uj hq1 hp1 (λz=>by cases z)
  have hyl:ys.length=S.wares.length:=by rw[so.1.length_eq,Il]
  have ndy:ys.Nodup:=so.1.nodup_iff.mpr L.nd
  have so':Vb (lv S) (S.wares.map (·.name)) ys:=so
  have rs1:=RD.ku (bz tb0 bt1) _ _ (Mn S) (RD.same u0 _ _ rs)
  have fresh:∀(H':Hp) (b:Addr),(∀b o,b≠p->H1 b=some o->H' b=some o)->H' b=none->b≠p->H b=none:=λH' b kp hb nb=>by
   cases e:H b with
   |none=>rfl
   |some o =>
    by_cases z:b=Pt
    ·obtain⟨u,e2⟩:=tb1.at
     rw[z,kp _ _ (Zzi pPt) e2] at hb
     cases hb
    ·rw[kp _ _ nb (bt1 _ _ z (u0 _ _ e))] at hb
     cases hb
  have keepB:∀(H':Hp),(∀b o,b≠p->H1 b=some o->H' b=some o)->But Pt H H':=λH' kp b o nb e=>kp _ _ (A4 e hp) (bt1 _ _ nb (u0 _ _ e))
  have keepT:∀(H':Hp),(∀b o,b≠p->H1 b=some o->H' b=some o)->Tb H' Pt:=λH' kp=>by
   rcases tb1 with e | ⟨c,e,e2⟩
   ·exact .inl (kp _ _ (Zzi pPt) e)
   ·exact .inr ⟨c,kp _ _ (Zzi pPt) e,kp _ _ (λz=>by rw[z,hp1] at e2;cases e2) e2⟩
  refine Er (Ip q _) (wv v p S ys H H1) ⟨_,_,_,_,rfl,⟨[],hp1,rfl,(λnm hn=>by cases hn),λnm hn=>by cases hn⟩,(λw _ hn=>by cases hn),λb o _ e=>e⟩ (λi Z H' _ h=>by obtain⟨_,_,_,_,_,_,_,kp⟩:=h;exact kp _ _ qp hq1) (λi x Z H2 hi hx h=>?_) (λZ H2 h=>?_)
  ·obtain⟨o2,o3,o4,o5,rfl,⟨kvs,hp2,hks,hrow,hap⟩,hne,kp⟩:=h
   rw[Zzy] at hx
   cases en:ys[i]? with
   |none=>rw[en] at hx;cases hx
   |some nm =>
   rw[en] at hx
   have hx:V.str nm=x:=Zz3 hx
   subst hx
   have hny:=Zzr en
   have hnm:nm∈S.wares.map (·.name):=so.1.mem_iff.mp hny
   have hil:i<ys.length:=(Zz4.mp en).1
   have ku2:KeepU H1 H2:=λb xs e=>kp b _ (Uj e hp1 (λz=>by cases z)) e
   have rs2:=RD.ku ku2 _ _ (Mn S) rs1
   walk_at "rd"
   refine⟨v,S,nm,rfl,rs2,L.ok,hnm,λt wt hwt ewt rt=>?_⟩
   subst ewt
   have hcom:=g.com wt hwt
   have wb:=g.ws.wb wt hwt
   obtain⟨te,d1,d2,rfl,hte,rc,rp⟩:=Dq rt
   refine⟨v,.ref te,S,wt,sz,rfl,rs2,rt,g,z0,z1,by have:=hcom.1;omega,λq hq=>(hcom.2 q hq).1.1,λq1 H3 hq1' hq3 sm3=>?_⟩
   have pf:PlanFor H3 p S (LR S) (qq S wt.name):=⟨kvs,.inl (sm3 _ _ hp2),λnm' hn' hT=>by
    obtain⟨u,hu',rfl,pp,hpp,e⟩:=hT
    obtain⟨qr,_,_,hv,hl⟩:=hrow u.name (ko L.toLev so' en hu' hpp e)
    exact⟨qr,hv,sm3 _ _ hl,T7 L.toLev hu',λx hx=>⟨(Vc PL _ x hx).1,Int.lt_trans (Vc PL _ x hx).2 (by decide +kernel)⟩⟩⟩
   refine⟨v,p,.ref te,S,LR S,wt,sz,rfl,RD.same sm3 _ _ rs2,pf,RD.same sm3 _ _ rt,g,z0,z1,λq2 H4 hq4 hq5 sm4=>?_⟩
   have s24:=sm3.trans sm4
   have hte4:=s24 _ _ hte
   refine⟨_,Ak (j:=2) hte4 rfl,_,Ak (j:=3) hte4 rfl,?_⟩
   have lrq:lots wt.floor wt.gives (C9 (daysN S) (Go wt)) (Ck S (LR S) wt.name) (C9 (daysN S) (Go wt)).length=LR S wt.name:=by rw[C1,<- fv L.toLev hwt]
   refine⟨q1,q2,wt.gives,wt.floor,C9 (daysN S) (Go wt),Ck S (LR S) wt.name,rfl,sm4 _ _ hq3,hq5,by unfold Ck;rw[C1,C1],by rw[C1];exact n2,by have:=wb.gives.1;omega,Zwx wb.gives.2 (by decide +kernel),λj hj=>.inl (.inl ⟨by have:=wb.gives.1;omega,by have:=wb.gives.2;omega⟩),λr H5 hr5 hr6 sm5=>?_⟩
   rw[lrq] at hr6
   have s25:=s24.trans sm5
   refine⟨_,Ak (j:=1) (s25 _ _ hte) rfl,r,LR S wt.name,wt.lag,rfl,hr6,by rw[T7 L.toLev hwt];exact n2,λH6 sm6=>?_⟩
   have s26:=s25.trans sm6
   have hr7:=sm6 _ _ hr6
   have hp6:=s26 _ _ hp2
   have kp6:∀b o,b≠p->H1 b=some o->H6 b=some o:=λb o nb e=>s26 _ _ (kp b o nb e)
   have rp:r≠p:=λz=>by rw[z,s24 _ _ hp2] at hr5;cases hr5
   have hr0:H r=none:=by
    have h2r:H2 r=none:=Same.free s24 hr5
    exact fresh H2 r kp h2r rp
   have hrow6:∀nm'∈ys.take i,∃q':Addr,H q'=none/\q'≠p/\Fk kvs (.inr nm')=some (.ref q')/\H6 q'=some (.lst ((LR S nm').map V.int)):=λnm' hn'=>by obtain⟨q',e1,e2,e3,e4⟩:=hrow nm' hn';exact⟨q',e1,e2,e3,s26 _ _ e4⟩
   cases ea:Dx (LR S wt.name) wt.lag with
   |some d =>
    have hd:=Jw ea
    have hdl:d<(LR S wt.name).length:=hd.1
    have eg:(LR S wt.name)[d]?=some ((LR S wt.name).getD d 0):=by rw[Zzo,Zzs hdl];rfl
    show if (!decide (V.int (d:Int)=V.non))=true then _ else _
    rw[if_pos (by rw[decide_eq_false (λz=>by cases z)];rfl)]
    refine⟨.int ((LR S wt.name).getD d 0),E7 hr7 (by rw[Zzy,eg];rfl),by decide,λt ht=>?_⟩
    have tp:t≠p:=λz=>by rw[z,hp6] at ht;cases ht
    have u7:=A6 (o:=.tup [.str "short",.ref p,.str wt.name,.int d,.int ((LR S wt.name).getD d 0)]) ht
    have kp7:∀b o,b≠p->H1 b=some o->upd H6 t (.tup [.str "short",.ref p,.str wt.name,.int d,.int ((LR S wt.name).getD d 0)]) b=some o:=λb o nb e=>u7 _ _ (kp6 b o nb e)
    exact k t p ys i _ (fresh H6 t kp6 ht tp) hp tp sb ⟨kvs,u7 _ _ hp6,hks,λnm' hn'=>by obtain⟨q',e1,e2,e3,e4⟩:=hrow6 nm' hn';exact⟨q',e1,e2,e3,u7 _ _ e4⟩,hap⟩ hne (keepT _ kp7) (keepB _ kp7) (.inr ⟨wt,d,hwt,en,ea,A0⟩)
   |none =>
    show if (!decide (V.non=V.non))=true then _ else _
    rw[if_neg (by decide)]
    have hkl:kvs.length<=64:=by
     have:=congrArg Zwa hks
     rw[Zzz,Zzz,Zye] at this
     omega
    refine⟨kvs,.inr wt.name,rfl,hp6,Zya hkl (by decide),_,_,_,_,rfl,⟨_,A0,?_,λnm' hn'=>?_,λnm1 hn1 nm2 hn2 q1' v1 v2=>?_⟩,λw' hw' hn'=>?_,λb o nb e=>by rw[A7 nb];exact kp6 b o nb e⟩
    ·have nn:Fk kvs (.inr wt.name)=none:=by
      cases e:Fk kvs (.inr wt.name) with
      |none=>rfl
      |some z =>
       have h3:=sf e
       rw[hks] at h3
       obtain⟨y,hy,e2⟩:=Zzv.mp h3
       rw[Zwb e2] at hy
       exact absurd hy (Nt ndy en)
     rw[S1 _ nn,Zzq,hks,Zyx,en,Zzq]
     rfl
    ·rw[Zyx,en] at hn'
     rcases Zyj.mp hn' with z | z
     ·obtain⟨q',e1,e2,e3,e4⟩:=hrow6 nm' z
      refine⟨q',e1,e2,by rw[Kv,if_neg (λz2=>Nt ndy en (by rw[<- Zwb z2];exact z))];exact e3,by rw[A7 e2];exact e4⟩
     ·have e:nm'=wt.name:=by simpa using z
      subst e
      exact⟨r,hr0,rp,by rw[Kv,if_pos rfl],by rw[A7 rp];exact hr7⟩
    ·have old:∀nm'∈ys.take i,∀q':Addr,Fk (Jc kvs (.inr wt.name) (.ref r)) (.inr nm')=some (.ref q')->Fk kvs (.inr nm')=some (.ref q')/\q'≠r:=λnm' hn' q' e=>by
      rw[Kv,if_neg (λz2=>Nt ndy en (by rw[<- Zwb z2];exact hn'))] at e
      refine⟨e,λz=>?_⟩
      obtain⟨q2',_,_,e3,e4⟩:=hrow nm' hn'
      rw[e] at e3
      cases e3
      rw[z,Same.free s24 hr5] at e4
      cases e4
     have new:∀nm',nm'∈ys.take (i+1)->nm'∈ys.take i\/nm'=wt.name:=λnm' hn'=>by
      rw[Zyx,en] at hn'
      rcases Zyj.mp hn' with z | z
      ·exact .inl z
      ·exact .inr (by simpa using z)
     rcases new nm1 hn1 with z1 | z1<;>rcases new nm2 hn2 with z2 | z2
     ·exact hap nm1 z1 nm2 z2 q1' (old nm1 z1 q1' v1).1 (old nm2 z2 q1' v2).1
     ·rw[z2,Kv,if_pos rfl] at v2
      cases v2
      exact absurd rfl (old nm1 z1 _ v1).2
     ·rw[z1,Kv,if_pos rfl] at v1
      cases v1
      exact absurd rfl (old nm2 z2 _ v2).2
     ·rw[z1,z2]
    ·rw[Zyx,en] at hn'
     rcases Zyj.mp hn' with z | z
     ·exact hne w' hw' z
     ·have e:w'.name=wt.name:=by simpa using z
      rw[gc L.nd hw' hwt e]
      exact ea
  ·obtain⟨o2,o3,o4,o5,rfl,hrow,hne,kp⟩:=h
   rw[Zzz] at hrow hne
   walk_at "rd"
   refine⟨by decide,λt ht=>?_⟩
   obtain⟨kvs,hp2,hks,hr2,hap⟩:=hrow
   have tp:t≠p:=λz=>by rw[z,hp2] at ht;cases ht
   have u7:=A6 (o:=.tup [.str "plan",.ref p]) ht
   have kp7:∀b o,b≠p->H1 b=some o->upd H2 t (.tup [.str "plan",.ref p]) b=some o:=λb o nb e=>u7 _ _ (kp b o nb e)
   exact k t p ys ys.length _ (fresh H2 t kp ht tp) hp tp sb ⟨kvs,u7 _ _ hp2,hks,λnm' hn'=>by obtain⟨q',e1,e2,e3,e4⟩:=hr2 nm' hn';exact⟨q',e1,e2,e3,u7 _ _ e4⟩,hap⟩ hne (keepT _ kp7) (keepB _ kp7) (.inl ⟨rfl,A0⟩)
end
set_option maxHeartbeats 4000000
section
variable {P:Program}{w:World}{K:Zzw}{mg:Str->Option Value}{base:Heap}{f:Addr}{fd:FuncData}{Pt:Addr}
theorem PlanAt.tb{H H':Hp}{a Pt:Addr}{S:Sh}{plan:Str->List Int}(h:PlanAt H a S plan)(tb:Tb H Pt)(bt:But Pt H H'):PlanAt H' a S plan:=by
 obtain⟨kvs,h1,h2⟩:=h
 refine⟨kvs,?_,λnm hn=>by obtain⟨l,e1,e2,e3⟩:=h2 nm hn;exact⟨l,e1,bt _ _ (Om tb e2 λu z=>by cases z) e2,e3⟩⟩
 rcases h1 with e | ⟨o,e⟩
 ·exact .inl (bt _ _ (Om tb e λu z=>by cases z) e)
 ·exact .inr ⟨o,bt _ _ (Om tb e λu z=>by cases z) e⟩
theorem lj(i:Int)(o:Option Nat):lm (.int i) (vz o)=true:=by cases o<;>rfl
theorem yy{i:Nat}{o:Option Nat}(h:V.int i=vz o):o=some i:=by
 cases o with
 |none=>cases h
 |some d =>
  have:(i:Int)=d:=V.int.inj h
  rw[Int.ofNat.inj this]
def sp_first_fault:Sp:=λvs H Q _=>∃(v:V) (a:Addr) (x:V) (S:Sh) (plan:Str->List Int) (w:Wr) (sz:Int),vs=[v,.ref a,x]/\RD H S.d v/\PlanAt H a S plan/\RD H w.d x/\w∈S.wares/\Good sz S/\0<sz/\sz<=1000 /\
 (∀H',Same H H'->J5 S plan w=none->Q .non H')/\∀t H' y,H t=none->Same H H'->J5 S plan w=some y->H' t=some (.tup [.str y.1,.str w.name,.int y.2])->Q (.ref t) H'
def rf(v:V)(a:Addr)(x:V)(S:Sh)(plan:Str->List Int)(w:Wr)(H:Hp)(i:Nat)(Z:St)(H':Hp):Prop:=∃o4 o5:Option V,Z=[some v,some (.ref a),some x,some (vz (Dx (plan w.name) w.lag)),o4,o5]/\Et S plan w i=none/\Same H H'
theorem sc_first_fault:Bg ["shop", "plan", "ware", "early", "day", "left"] ["shop", "plan", "ware"] (Ai Jn):=by walk_at "sc"
theorem Sb(F:Fun K "first_fault" "first_fault" Jn f fd)(T:Txt mg)(Zu8:Has P w K mg base "first_early" 1 ["lots", "lag"] sp_first_early)(Zsx:Has P w K mg base "stocks_row" 4 ["shop", "plan", "ware"] sp_stocks_row):D3 P w K mg base CX0 5 f fd ["shop", "plan", "ware"] sp_first_fault:=by
 refine F.ok sc_first_fault (λvs H Q E h=>?_) (λcdv A outer s H vs Q E hr h=>?_)
 ·obtain⟨v,a,x,S,plan,w,sz,rfl,_⟩:=h
  rfl
 ·obtain⟨v,a,x,S,plan,w,sz,rfl,rs,pl,rx,hm,g,z0,z1,kN,kS⟩:=h
  have hu:=Ch hr
  obtain⟨n1,n2,n3,n4⟩:=g.days z0 z1
  refine⟨_,(A2 (Bh (i:=3) sc_first_fault.nd rfl (Zzu rfl) (A9 Zu8 hr.z rfl (A3 (A8 hu (pv 1) (A8 hu (pv 2) (C0 rfl T.Zub) (λ_ _=>rfl)) (λ_ _=>rfl)) (A3 (A8 hu (pv 2) (C0 rfl T.Zt3) (λ_ _=>rfl)) A1))))
 (A2 (D2 PassesOwn.never rfl (cw rfl T.Zs6 (A3 (A9 Zsx hr.z rfl (A3 (pv 0) (A3 (pv 1) (A3 (pv 2) A1)))) A1)) (Gk (n:=2) rfl (C2 (Ac (i:=4) sc_first_fault.nd rfl (Zzu rfl)) (C2 (Ac (i:=5) sc_first_fault.nd rfl (Zzu rfl)) Fn)))
 (A2 (Db (C6 (Fz hu) (pv 4) (pv 3) (Cc _)) (Aa (Be (G9 (A3 D7 (A3 (A8 hu (pv 2) (C0 rfl T.Zub) (λ_ _=>rfl)) (A3 (pv 4) A1)))))) C5)
 (Aa (Db (C6 (Lz hu) (pv 5) (A8 hu (pv 2) (C0 rfl T.Zti) (λ_ _=>rfl)) (Cc _)) (Aa (Be (G9 (A3 D7 (A3 (A8 hu (pv 2) (C0 rfl T.Zub) (λ_ _=>rfl)) (A3 (pv 4) A1)))))) C5))))
 (Aa (Be Ot)))),?_⟩
  obtain⟨xe,c1,c2,rfl,hxe,_⟩:=Dq rx
  obtain⟨kvs,hkv,hpl⟩:=id pl
  obtain⟨l,hv,hll,hlen,hbd⟩:=hpl w.name (Zzv.mpr ⟨w,hm,rfl⟩)
  walk_at "rd"
  refine⟨_,Ak (j:=0) hxe rfl,_,L0 hkv hv,_,Ak (j:=1) hxe rfl,l,plan w.name,w.lag,rfl,hll,by rw[hlen];exact n2,λH1 sm1=>?_⟩
  refine⟨v,a,.ref xe,S,plan,w,sz,rfl,RD.same sm1 _ _ rs,pl.same sm1,RD.same sm1 _ _ rx,hm,g,z0,z1,λq H2 hq hq2 sm2=>?_⟩
  have s02:=sm1.trans sm2
  have slen:(D1 S plan w).length=daysN S:=by unfold D1;rw[C1]
  refine⟨q,rfl,_,hq2,?_⟩
  refine Yt (xm q _) (rf v a (.ref xe) S plan w H2) ⟨_,_,rfl,rfl,Same.refl _⟩ (λi Z H' _ h=>by obtain⟨_,_,_,_,s⟩:=h;exact s _ _ hq2) (λi us t Z H3 hi hy h ht=>?_) (λZ H3 h=>?_)
  ·obtain⟨o4,o5,rfl,hn,sm⟩:=h
   obtain⟨y,ey,rfl⟩:=hy
   have hy:=Ms ey
   subst hy
   rw[Zzz,slen] at hi
   have s4:=s02.trans (sm.trans (A6 (o:=.tup [.int i,.int ((D1 S plan w).getD i 0)]) ht))
   have s24:=sm.trans (A6 (o:=.tup [.int i,.int ((D1 S plan w).getD i 0)]) ht)
   have es:Et S plan w (i+1)=if Dx (plan w.name) w.lag=some i then some (("early" : Str),i) else if (D1 S plan w).getD i 0<w.floor then some (("below" : Str),i) else none:=by rw[Et,hn]
   refine gT2 ?_
   generalize upd H3 t (.tup [.int i,.int ((D1 S plan w).getD i 0)])=H4 at s4 s24
   walk_at "rd"
   have hxe4:=s4 _ _ hxe
   refine⟨lj _ _,Fj (λh1=>?_) (λh1=>?_)⟩
   ·have h1:=yy (of_decide_eq_true h1)
    rw[if_pos h1] at es
    refine⟨_,Ak (j:=0) hxe4 rfl,by decide,λt2 ht2=>?_⟩
    exact kS t2 _ ("early",i) (Same.free s4 ht2) (s4.trans (A6 ht2)) (Mt es (by omega)) A0
   ·have h1:¬ Dx (plan w.name) w.lag=some i:=λe=>h1 (decide_eq_true (by rw[e];rfl))
    rw[if_neg h1] at es
    refine⟨_,Ak (j:=3) hxe4 rfl,_,rfl,Fj (λh2=>?_) (λh2=>?_)⟩
    ·rw[if_pos (of_decide_eq_true h2)] at es
     refine⟨_,Ak (j:=0) hxe4 rfl,by decide,λt2 ht2=>?_⟩
     exact kS t2 _ ("below",i) (Same.free s4 ht2) (s4.trans (A6 ht2)) (Mt es (by omega)) A0
    ·exact⟨_,_,rfl,by rw[es,if_neg (λz=>h2 (decide_eq_true z))],s24⟩
  ·obtain⟨o4,o5,rfl,hn,sm⟩:=h
   rw[Zzz,slen] at hn
   walk_at "rd"
   exact kN _ (s02.trans sm) hn
def Ue(Pt:Addr):Sp:=λvs H Q _=>∃(v:V) (a:Addr) (S:Sh) (plan:Str->List Int) (sz:Int),vs=[v,.ref a]/\RD H S.d v/\PlanAt H a S plan/\Good sz S/\0<sz/\sz<=1000/\Tb H Pt/\∀(t:Addr) (ys:List Str) (H':Hp),H t=none->Np (lv S) (Cl S) ys->H' t=some (.tup (oh (Mz S plan ys)))->Tb H' Pt->But Pt H H'->Q (.ref t) H'
def zj(v:V)(a:Addr)(S:Sh)(plan:Str->List Int)(ys:List Str)(H1:Hp)(i:Nat)(Z:St)(H':Hp):Prop:=∃o2 o3:Option V,Z=[some v,some (.ref a),o2,o3]/\N5 S plan ys i=none/\Same H1 H'
theorem sc_judged:Bg ["shop", "plan", "name", "fault"] ["shop", "plan"] (Ai Pc):=by walk_at "sc"
theorem io(F:Fun K "judged" "judged" Pc f fd)(T:Txt mg)(Ztb:Has P w K mg base "worked" 6 ["shop"] (Ps Pt))(Zt6:Has P w K mg base "first_fault" 5 ["shop", "plan", "ware"] sp_first_fault)(Ztm:Has P w K mg base "ware_of" 1 ["shop", "name"] sp_ware_of):D3 P w K mg base CX0 7 f fd ["shop", "plan"] (Ue Pt):=by
 refine F.ok sc_judged (λvs H Q E h=>?_) (λcdv A outer s H vs Q E hr h=>?_)
 ·obtain⟨v,a,S,plan,sz,rfl,_⟩:=h
  rfl
 ·obtain⟨v,a,S,plan,sz,rfl,rs,pl,g,z0,z1,tb,k⟩:=h
  have hu:=Ch hr
  refine⟨_,(A2 (D2 PassesOwn.never rfl (G8 (A9 Ztb hr.z rfl (A3 (pv 0) A1))) (Ac (i:=2) sc_judged.nd rfl (Zzu rfl))
 (A2 (Bh (i:=3) sc_judged.nd rfl (Zzu rfl) (A9 Zt6 hr.z rfl (A3 (pv 0) (A3 (pv 1) (A3 (A9 Ztm hr.z rfl (A3 (pv 0) (A3 (pv 2) A1))) A1)))))
 (Aa (Db (C6 Px (pv 3) Ot (Cc _)) (Aa (Be (pv 3))) C5))))
 (Aa (Be (G9 (A3 D7 A1))))),?_⟩
  have L:=Nk g
  walk_at "rd"
  refine⟨v,S,rfl,rs,L,tb,λq ys H1 hq hq1 so sb tb1 bt1=>⟨q,rfl,_,hq1,?_⟩⟩
  have rs1:=RD.ku (bz tb bt1) _ _ (Mn S) rs
  have pl1:=pl.tb tb bt1
  have fresh:∀(H':Hp) (b:Addr),Same H1 H'->H' b=none->H b=none:=λH' b s hb=>by
   cases e:H b with
   |none=>rfl
   |some o =>
    by_cases z:b=Pt
    ·obtain⟨u,e2⟩:=tb1.at
     rw[z,s _ _ e2] at hb
     cases hb
    ·rw[s _ _ (bt1 _ _ z e)] at hb
     cases hb
  refine Er (Ip q _) (zj v a S plan ys H1) ⟨_,_,rfl,rfl,Same.refl _⟩ (λi Z H' _ h=>by obtain⟨_,_,_,_,s⟩:=h;exact s _ _ hq1) (λi x Z H2 hi hx h=>?_) (λZ H2 h=>?_)
  ·obtain⟨o2,o3,rfl,hn,s2⟩:=h
   rw[Zzy] at hx
   cases en:ys[i]? with
   |none=>rw[en] at hx;cases hx
   |some nm =>
   rw[en] at hx
   have hx:V.str nm=x:=Zz3 hx
   subst hx
   have hnm:nm∈S.wares.map (·.name):=so.1.mem_iff.mp (Zzr en)
   have hil:i<ys.length:=(Zz4.mp en).1
   walk_at "rd"
   refine⟨v,S,nm,rfl,RD.same s2 _ _ rs1,L.ok,hnm,λt wt hwt ewt rt=>?_⟩
   subst ewt
   have st:=Q1 L.nd hn en hwt
   refine⟨v,a,t,S,plan,wt,sz,rfl,RD.same s2 _ _ rs1,pl1.same s2,rt,hwt,g,z0,z1,λH3 s3 ef=>?_,λt2 H3 y ht2 s3 ef e2=>?_⟩
   ·rw[ef] at st
    rw[if_neg (by decide)]
    exact⟨_,_,rfl,st,s2.trans s3⟩
   ·rw[ef] at st
    rw[if_pos (by rw[decide_eq_false (λz=>by cases z)];rfl)]
    have ej:Mz S plan ys=some (y.1,wt.name,y.2):=So st (by omega)
    refine k t2 ys H3 (fresh H2 t2 s2 ht2) sb ?_ (tb1.same (s2.trans s3)) (λb o nb e=>(s2.trans s3) _ _ (bt1 b o nb e))
    rw[ej]
    exact e2
  ·obtain⟨o2,o3,rfl,hn,s2⟩:=h
   rw[Zzz] at hn
   walk_at "rd"
   refine⟨by decide,λt ht=>?_⟩
   have u3:=A6 (o:=.tup [.str "good"]) ht
   refine k t ys _ (fresh H2 t s2 ht) sb ?_ (tb1.same (s2.trans u3)) (λb o nb e=>(s2.trans u3) _ _ (bt1 b o nb e))
   have:Mz S plan ys=none:=hn
   rw[this]
   exact A0
end
set_option maxHeartbeats 4000000
section
variable {P:Program}{w:World}{K:Zzw}{mg:Str->Option Value}{base:Heap}{f:Addr}{fd:FuncData}{Pt:Addr}
def G1(ws:List Wr)(x:Str):List Str:=(ws.filter λw=>decide (x∈w.parts.map (·.1))).map (·.name)
theorem Rk{ws:List Wr}{x:Str}{i:Nat}{t:Wr}(h:ws[i]?=some t):G1 (ws.take (i+1)) x=G1 (ws.take i) x++if decide (x∈t.parts.map (·.1))=true then [t.name] else []:=by
 unfold G1
 rw[Zyx,h,Zys,Zzq]
 congr 1
 by_cases hx:x∈t.parts.map (·.1)
 ·rw[if_pos (decide_eq_true hx)]
  show Zy4 _ (Zwm _ [t])=_
  rw[Zxr,if_pos (decide_eq_true hx)]
  rfl
 ·rw[if_neg (λz=>hx (of_decide_eq_true z))]
  show Zy4 _ (Zwm _ [t])=_
  rw[Zxr,if_neg (λz=>hx (of_decide_eq_true z))]
  rfl
theorem ge{S:Sh}{x y:Str}(h:y∈G1 S.wares x):∃t∈S.wares,t.name=y/\∃p∈t.parts,p.1=x:=by
 unfold G1 at h
 obtain⟨t,ht,e⟩:=Zzv.mp h
 obtain⟨h1,h2⟩:=Zwi.mp ht
 obtain⟨p,hp,e2⟩:=Zzv.mp (of_decide_eq_true h2)
 exact⟨t,h1,e,p,hp,e2⟩
def A0g(S:Sh)(x:Str)(H:Hp)(i:Nat)(acc:List V)(H':Hp):Prop:=acc=(G1 (S.wares.take i) x).map V.str/\Same H H'
def Kc:Nat->Sp
 |0=>λ_ _ _ _=>False
 |n+1=>λvs H Q _=>∃(v:V) (S:Sh) (x:Str),vs=[v,.str x]/\RD H S.d v/\Z9 S/\x∈Cl S/\lv S x<=n/\∀H',Same H H'->Q (.int (lv S x)) H'
theorem sc_law_level:Bg ["_law_shop", "_law_name", "_law_users"] ["_law_shop", "_law_name"] (Ai Ll):=by walk_at "sc"
theorem W5(F:Fun K "_law_level" "_law_level" Ll f fd)(T:Txt mg)(hm:mg "_law_level" = some (.ref f))(hk:Zvv K (.ref f)=true)(hb:Binds K fd ["_law_shop", "_law_name"] []):∀n,D3 P w K mg base CX0 n f fd ["_law_shop", "_law_name"] (Kc n):=by
 intro n
 induction n
 ·exact⟨λ_ _ _ _ h=>False.elim h,λ_ _ _ _ _ _ _ _ _ _ _ _ _ h=>False.elim h⟩
 rename_i n ih
 have Ztr:Has P w K mg base "_law_level" n ["_law_shop", "_law_name"] (Kc n):=⟨f,fd,hm,hk,hb,ih⟩
 refine F.ok sc_law_level (λvs H Q E h=>?_) (λcdv A outer s H vs Q E hr h=>?_)
 ·obtain⟨v,S,x,rfl,_⟩:=h
  rfl
 ·obtain⟨v,S,x,rfl,rs,L,hx,hle,k⟩:=h
  have hu:=Ch hr
  refine⟨_,(A2 (G7 (own:=["_law_ware_here"]) (cap:=[1]) (i:=2) rfl (Du rfl) (C8 (by decide)) sc_law_level.nd rfl rfl (E5 (A8 hu (pv 0) A5 (λ_ _=>rfl)))
 (λ_ _ _ _ _ _=>⟨(Ac (i:=0) (of_decide_eq_true rfl) rfl (Zzu rfl) (.inr rfl)),(Lu (C6 (Py hu) (pv 1) (D5 (own:=["_law_part", "_law_amount_here"]) (cap:=[]) rfl (Du rfl) Io (E5 (A8 hu (pv 0) A5 (λ_ _=>rfl)))
 (λ_ _ _ _ _ _=>⟨(Gk (n:=2) rfl (C2 (Ac (i:=0) (of_decide_eq_true rfl) rfl (Zzu rfl) (.inr rfl)) (C2 (Ac (i:=1) (of_decide_eq_true rfl) rfl (Zzu rfl) (.inr rfl)) Fn))),D0,(pv 0)⟩)) rfl)),(A8 hu (pv 0) A5 (λ_ _=>rfl))⟩))
 (Aa (Be (Bd (V4 rfl) rfl T.Zsg Ox (A3 (C7 Ov (Dl (A3 A5 A1)) (D5 (own:=["_law_user"]) (cap:=[0]) rfl (Du rfl) (C8 (by decide)) (G8 (pv 2))
 (λ_ _ _ _ _ _=>⟨(Ac (i:=0) (of_decide_eq_true rfl) rfl (Zzu rfl) (.inr rfl)),D0,(C7 Ds A5 (A9 Ztr hr rfl (A3 (pv 1) (A3 (pv 0) A1))))⟩))) A1))))),?_⟩
  obtain⟨sa,sb,sc,ws,us,rfl,hsa,hsb,hsc,rws,rus⟩:=Gn rs
  have hl:=Cm rws
  have hfew:=L.few
  walk_at "rd"
  refine⟨_,Ak (j:=0) hsa rfl,sb,rfl,ws,hsb,?_⟩
  refine Jz (Fx sb _) (Bf (by omega)) (A0g S x H) ⟨rfl,Same.refl _⟩ (λi acc H' _ h=>h.2 _ _ hsb) (λi acc H' h=>?_) (λi y acc H1 hi hy h=>?_) (λacc H1 h p hp=>?_)
  ·rw[h.1]
   unfold G1
   rw[Zzz,Zzz]
   exact Zyf (Zxo _ _) (by rw[Zye];exact Nat.min_le_left _ _)
  ·obtain⟨rfl,s1⟩:=h
   obtain⟨t,ht,rt⟩:=D4 rws hy
   obtain⟨te,c1,c2,rfl,hte,rc,rp⟩:=Dq rt
   obtain⟨pb,pv,rfl,hpb,rpv⟩:=RD.tup_of rp
   have hlp:=Cm rpv
   have hpl:=(L.ok.wares t (Zzr ht)).1
   have s1te:=s1 _ _ hte
   have s1pb:=s1 _ _ hpb
   walk_at "rd"
   refine⟨_,Ak (j:=6) s1te rfl,pb,rfl,pv,s1pb,?_⟩
   refine Da (Fx pb _) (Bf (by omega)) (λH' s'=>s' _ _ s1pb) ((t.parts.map (·.1)).map V.str) (by rw[Zzz,Zzz,hlp]) (λj z H2 hj hz s2 N M hN=>?_) (λH2 s2 q hq=>?_)
   ·obtain⟨pp,hpp,rpp⟩:=D4 rpv hz
    obtain⟨pe,rfl,hpe⟩:=O9 rpp
    refine gt2 (s2 _ _ (s1 _ _ hpe)) ?_
    walk_at "rd"
    exact hN _ _ s2 (by rw[Zzy,Zzy,hpp];rfl)
   ·have s3:=s1.trans (s2.trans (A6 (o:=.lst ((t.parts.map (·.1)).map V.str)) hq))
    refine⟨_,.inl ⟨q,_,rfl,.inl A0,rfl,Og _,rfl⟩,?_⟩
    rw[Pl]
    refine Fj (λhb=>?_) (λhb=>?_)
    ·refine⟨_,Ak (j:=0) (s3 _ _ hte) rfl,?_,s3⟩
     rw[Rk ht,if_pos hb,Zzq]
     rfl
    ·refine⟨?_,s3⟩
     rw[Rk ht,if_neg hb,Zzn]
  ·obtain⟨rfl,s1⟩:=h
   rw[hl,Zyt]
   walk_at "rd"
   refine⟨by decide,λr hr2=>?_⟩
   have u1:=A6 (o:=.lst ((G1 S.wares x).map V.str)) hp
   have u2:=A6 (o:=.lst [V.int 0]) hr2
   have hp2:=u2 _ _ A0
   have hr3:upd (upd H1 p (.lst ((G1 S.wares x).map V.str))) r (.lst [V.int 0]) r=some (.lst [V.int 0]):=A0
   have s2:=s1.trans (u1.trans u2)
   generalize upd (upd H1 p (.lst ((G1 S.wares x).map V.str))) r (.lst [V.int 0])=H2 at hp2 hr3 s2
   have ulen:(G1 S.wares x).length<=1000:=by
    unfold G1
    rw[Zzz]
    exact Zyf (Zxo _ _) (by omega)
   have elv:((Iu S x).map λu=>1+lv S u.name)=(G1 S.wares x).map λy=>1+lv S y:=by
    unfold Iu G1
    rw[Zyh]
    rfl
   obtain⟨wx,hwx,ewx⟩:=Zzv.mp hx
   refine⟨_,hp2,?_⟩
   refine Da (Ip p _) (Bf (by rw[Zzz];exact ulen)) (λH' s'=>s' _ _ hp2) (((G1 S.wares x).map λy=>1+lv S y).map V.int) (by rw[Zzz,Zzz,Zzz]) (λj y H3 hj hy s3 N M hN=>?_) (λH3 s3 q hq=>?_)
   ·rw[Zzy] at hy
    cases ey:(G1 S.wares x)[j]? with
    |none=>rw[ey] at hy;cases hy
    |some nm =>
    rw[ey] at hy
    have hy:V.str nm=y:=Zz3 hy
    subst hy
    obtain⟨t,ht,et,pp,hpp,ep⟩:=ge (Zzr ey)
    have h1:=Qy L.toLev ht hpp
    rw[ep,et] at h1
    have h0:=Um S nm
    walk_at "rd"
    cases n with
    |zero=>exact absurd hle (by omega)
    |succ m =>
    refine⟨.ref sa,S,nm,rfl,RD.same (s2.trans s3) _ _ rs,L,by rw[<- et];exact Zzv.mpr ⟨t,ht,rfl⟩,by omega,λH4 s4=>⟨_,rfl,hN _ _ (s3.trans s4) (by rw[Zzy,Zzy,ey];rfl)⟩⟩
   ·have u4:=A6 (o:=.lst (((G1 S.wares x).map λy=>1+lv S y).map V.int)) hq
    refine⟨q,rfl,_,u4 _ _ (s3 _ _ hr3),_,A0,?_,λq2 hq2=>?_⟩
    ·rw[Zzz,Zzz]
     exact Zyf (show [V.int 0].length+(G1 S.wares x).length<=1001 by show 1+_<=_;omega) (by decide)
    ·refine⟨0::((G1 S.wares x).map λy=>1+lv S y),by rw[A0];rfl,(λz=>by cases z),?_⟩
     have em:Sm (0::((G1 S.wares x).map λy=>1+lv S y))=lv S x:=by
      rw[Ul _ (λz hz=>by obtain⟨y,_,rfl⟩:=Zzv.mp hz;have:=Um S y;show 0<=1+lv S y;omega),<- elv,<- ewx,xj L.toLev hwx]
     rw[em]
     exact k _ (s2.trans (s3.trans (u4.trans (A6 hq2))))
theorem nj(S:Sh):∀k x,lvF S k x<=k
 |0,_=>Zy3 _
 |k+1,x=>by
  show Jg ((Iu S x).map λu=>1+lvF S k u.name)<=((k+1:Nat):Int)
  unfold Jg
  split
  ·omega
  ·rename_i hn
   obtain⟨u,hu,e⟩:=Zzv.mp (M4 hn)
   have:=nj S k u.name
   rw[<- e]
   omega
def wu(S:Sh)(H:Hp)(i:Nat)(acc:List V)(H':Hp):Prop:=∃as:List Addr,acc=as.map V.ref/\as.length=i/\(∀j,j<i->H' (as.getD j 0)=some (.tup [.int (lv S ((Cl S).getD j "")),.int j]))/\Same H H'
def sp_law_order:Sp:=λvs H Q _=>∃(v:V) (S:Sh),vs=[v]/\RD H S.d v/\Z9 S/\S.wares.length<=12/\∀p ys H',H p=none->H' p=some (.lst (ys.map V.str))->Np (lv S) (Cl S) ys->Same H H'->Q (.ref p) H'
theorem sc_law_order:Bg ["_law_shop", "_law_ranked"] ["_law_shop"] (Ai Li):=by walk_at "sc"
theorem W2(F:Fun K "_law_order" "_law_order" Li f fd)(T:Txt mg)(Ztr:Has P w K mg base "_law_level" 13 ["_law_shop", "_law_name"] (Kc 13)):D3 P w K mg base CX0 14 f fd ["_law_shop"] sp_law_order:=by
 refine F.ok sc_law_order (λvs H Q E h=>?_) (λcdv A outer s H vs Q E hr h=>?_)
 ·obtain⟨v,S,rfl,_⟩:=h
  rfl
 ·obtain⟨v,S,rfl,rs,L,h12,k⟩:=h
  have hu:=Ch hr
  refine⟨_,(A2 (G7 (own:=["_law_k"]) (cap:=[0]) (i:=1) rfl (Du rfl) (C8 (by decide)) sc_law_order.nd rfl rfl (Dy rfl T.Zud (A3 (Bd Dp rfl T.Zue Fu (A3 (A8 hu (pv 0) A5 (λ_ _=>rfl)) A1)) A1))
 (λ_ _ _ _ _ _=>⟨(Ac (i:=0) (of_decide_eq_true rfl) rfl (Zzu rfl) (.inr rfl)),D0,(G9 (A3 (A9 Ztr hr.z rfl (A3 (pv 1) (A3 (A8 hu (A8 hu (A8 hu (pv 1) A5 (λ_ _=>rfl)) (pv 0) (λ_ _=>rfl)) A5 (λ_ _=>rfl)) A1))) (A3 (pv 0) A1)))⟩))
 (Aa (Be (D5 (own:=["_law_level_here", "_law_k"]) (cap:=[0]) rfl (Du rfl) Io (G8 (Bd bh rfl T.Zs0 V5 (A3 (pv 1) A1)))
 (λ_ _ _ _ _ _=>⟨(Gk (n:=2) rfl (C2 (Ac (i:=0) (of_decide_eq_true rfl) rfl (Zzu rfl) (.inr rfl)) (C2 (Ac (i:=1) (of_decide_eq_true rfl) rfl (Zzu rfl) (.inr rfl)) Fn))),D0,(A8 hu (A8 hu (A8 hu (pv 2) A5 (λ_ _=>rfl)) (pv 1) (λ_ _=>rfl)) A5 (λ_ _=>rfl))⟩))))),?_⟩
  obtain⟨sa,sb,sc,ws,us,rfl,hsa,hsb,hsc,rws,rus⟩:=Gn rs
  have hl:=Cm rws
  have hfew:=L.few
  walk_at "rd"
  have hnl:=Il S
  have nameD:∀j t,S.wares[j]?=some t->(Cl S).getD j "" = t.name:=λj t ht=>by
   unfold Cl
   rw[Zzo,Zzy,ht]
   rfl
  have lv13:∀x,lv S x<=12:=λx=>Zx7 (nj S _ x) (by omega)
  refine⟨_,Ak (j:=0) hsa rfl,sb,rfl,ws,.inr hsb,by omega,by omega,?_⟩
  have en:((ws.length:Nat):Int).toNat=S.wares.length:=by omega
  rw[en]
  refine Jz (L4 0 _) (Bf (by omega)) (wu S H) ⟨[],rfl,rfl,(λj hj=>absurd hj (Nat.not_lt_zero _)),Same.refl _⟩ (λ_ _ _ _ _=>trivial) (λi acc H' h=>by obtain⟨as,rfl,e,_⟩:=h;rw[Zzz,e];exact Zzm _) (λi y acc H1 hi hy h=>?_) (λacc H1 h p hp=>?_)
  ·obtain⟨as,rfl,ea,ht,s1⟩:=h
   subst hy
   obtain⟨t,htw⟩:∃t,S.wares[i]?=some t:=⟨_,Zzs hi⟩
   obtain⟨x,hx,rx⟩:∃x,ws[i]?=some x/\RD H t.d x:=by
    obtain⟨x,hx⟩:∃x,ws[i]?=some x:=⟨_,Zzs (by omega)⟩
    obtain⟨t',ht',rt'⟩:=D4 rws hx
    rw[htw] at ht'
    cases ht'
    exact⟨x,hx,rt'⟩
   obtain⟨te,c1,c2,rfl,hte,_⟩:=Dq rx
   walk_at "rd"
   have e0:(0+(i:Int))=((i:Nat):Int):=by omega
   rw[e0]
   refine⟨_,Ak (j:=0) (s1 _ _ hsa) rfl,_,Ak (j:=i) (s1 _ _ hsb) hx,_,Ak (j:=0) (s1 _ _ hte) rfl,?_⟩
   refine⟨.ref sa,S,t.name,rfl,RD.same s1 _ _ rs,L,Zzv.mpr ⟨t,Zzr htw,rfl⟩,lv13 _,λH2 s2=>⟨by decide,λe he=>?_⟩⟩
   have u3:=A6 (o:=.tup [.int (lv S t.name),.int i]) he
   refine⟨as++[e],by rw[Zzq];rfl,by rw[Zym,ea];rfl,λj hj=>?_,s1.trans (s2.trans u3)⟩
   by_cases hj2:j<i
   ·have e1:(as++[e]).getD j 0=as.getD j 0:=by rw[Zzo,Zzo,Zww (by omega)]
    rw[e1]
    exact u3 _ _ (s2 _ _ (ht j hj2))
   ·have ej:j=i:=by omega
    subst ej
    have e1:(as++[e]).getD j 0=e:=by rw[Zzo,Zx8 (by omega),ea,Zyo];rfl
    rw[e1,A0,nameD j t htw]
  ·obtain⟨as,rfl,ea,ht,s1⟩:=h
   have u2:=A6 (o:=.lst (as.map V.ref)) hp
   refine⟨p,rfl,as,A0,by omega,λi=>lv S ((Cl S).getD i ""),λi hi=>u2 _ _ (ht i (by omega)),λr ps hr2 pm pw=>?_⟩
   have u3:=A6 (o:=.lst (ps.map λi=>V.ref (as.getD i 0))) hr2
   have s3:=s1.trans (u2.trans u3)
   have htup:∀i,i<as.length->upd (upd H1 p (.lst (as.map V.ref))) r (.lst (ps.map λi=>V.ref (as.getD i 0))) (as.getD i 0)=some (.tup [.int (lv S ((Cl S).getD i "")),.int i]):=λi hi=>u3 _ _ (u2 _ _ (ht i (by omega)))
   have hr3:upd (upd H1 p (.lst (as.map V.ref))) r (.lst (ps.map λi=>V.ref (as.getD i 0))) r=some (.lst (ps.map λi=>V.ref (as.getD i 0))):=A0
   generalize upd (upd H1 p (.lst (as.map V.ref))) r (.lst (ps.map λi=>V.ref (as.getD i 0)))=H3 at s3 htup hr3
   have hpl:ps.length=as.length:=by rw[pm.length_eq,Zvw]
   refine⟨_,hr3,?_⟩
   refine Da (Ip r _) (Bf (by rw[Zzz];omega)) (λH' s'=>s' _ _ hr3) ((ps.map λi=>(Cl S).getD i "").map V.str) (by rw[Zzz,Zzz,Zzz]) (λj y H4 hj hy s4 N M hN=>?_) (λH4 s4 q hq=>?_)
   ·rw[Zzy] at hy
    cases ep:ps[j]? with
    |none=>rw[ep] at hy;cases hy
    |some i =>
    rw[ep] at hy
    have hy:V.ref (as.getD i 0)=y:=Zz3 hy
    subst hy
    have hi:i<as.length:=Zwp.mp (pm.mem_iff.mp (Zzr ep))
    obtain⟨t,htw⟩:∃t,S.wares[i]?=some t:=⟨_,Zzs (by omega)⟩
    obtain⟨x,hx⟩:∃x,ws[i]?=some x:=⟨_,Zzs (by omega)⟩
    obtain⟨t',ht',rt'⟩:=D4 rws hx
    rw[htw] at ht'
    cases ht'
    obtain⟨te,c1,c2,rfl,hte,_⟩:=Dq rt'
    have s34:=s3.trans s4
    refine gt2 (s4 _ _ (htup i hi)) ?_
    walk_at "rd"
    refine⟨_,Ak (j:=0) (s34 _ _ hsa) rfl,_,Ak (j:=i) (s34 _ _ hsb) hx,_,Ak (j:=0) (s34 _ _ hte) rfl,hN _ _ s4 ?_⟩
    rw[Zzy,Zzy,ep]
    show some (V.str ((Cl S).getD i ""))=_
    rw[nameD i t htw]
   ·refine k q _ _ (Same.free (s3.trans s4) hq) A0 ⟨ps,?_,rfl,pw⟩ ((s3.trans s4).trans (A6 hq))
    rw[hnl,<- ea]
    exact pm
end
set_option maxHeartbeats 4000000
section
variable {P:Program}{w:World}{K:Zzw}{mg:Str->Option Value}{base:Heap}{f:Addr}{fd:FuncData}{Pt:Addr}
def sp_law_ware:Sp:=λvs H Q _=>∃(v:V) (S:Sh) (w:Wr) (sz:Int),vs=[v,.str w.name]/\RD H S.d v/\Good sz S/\w∈S.wares/\∀x H',RD H' w.d x->Same H H'->Q x H'
theorem X4{ws:List Wr}(nd:(ws.map (·.name)).Nodup){w:Wr}(h:w∈ws):ws.filter (λt=>decide (t.name=w.name))=[w]:=by
 induction ws with
 |nil=>cases h
 |cons t r ih =>
  obtain⟨h1,h2⟩:=Zy7.mp nd
  rw[Zxr]
  by_cases e:t.name=w.name
  ·rw[if_pos (decide_eq_true e)]
   have z:r.filter (λt=>decide (t.name=w.name))=[]:=Zvx.mpr λx hx hd=>h1 (Zzv.mpr ⟨x,hx,(of_decide_eq_true hd).trans e.symm⟩)
   rw[z]
   rcases Zzt.mp h with q | q
   ·rw[q]
   ·exact absurd (Zzv.mpr ⟨w,q,e.symm⟩) h1
  ·rw[if_neg (by rw[decide_eq_false e];decide)]
   rcases Zzt.mp h with q | q
   ·exact absurd (by rw[q]) e
   ·exact ih h2 q
def zi(nm:Str)(S:Sh)(H:Hp)(i:Nat)(acc:List V)(H':Hp):Prop:=RDs H' (((S.wares.take i).filter λt=>decide (t.name=nm)).map Wr.d) acc/\acc.length<=i/\Same H H'
theorem tf{H:Hp}{d:PyData}{vs:List V}(h:RDs H [d] vs):∃x,vs=[x]/\RD H d x:=by
 obtain⟨x,r,rfl,h1,h2⟩:=RDs.cons_of h
 rw[RDs.nil_of h2]
 exact⟨x,rfl,h1⟩
def zt(v:V)(a:Addr)(nm:Str)(p:Addr)(lag:Int)(g:Nat->Int)(H:Hp)(i:Nat)(Z:St)(H':Hp):Prop:=∃o1 o2:Option V,Z=[some v,some (.ref a),some (.str nm),some (.int lag),some (.ref p),o1,o2]/\H' p=some (.lst ((C9 i g).map V.int))/\Same H H'
theorem Xf:Bg ["_law_shop", "_law_name"] ["_law_shop", "_law_name"] (Ai Mc):=by walk_at "sc"
theorem Y0(F:Fun K "_law_ware" "_law_ware" Mc f fd)(T:Txt mg):D3 P w K mg base CX0 1 f fd ["_law_shop", "_law_name"] sp_law_ware:=by
 refine F.ok Xf (λvs H Q E h=>?_) (λcdv A outer s H vs Q E hr h=>?_)
 ·obtain⟨v,S,w,sz,rfl,_⟩:=h
  rfl
 ·obtain⟨v,S,w,sz,rfl,rs,g,hm,k⟩:=h
  have hu:=Ch hr
  refine⟨_,(Aa (Be (A8 hu (D5 (own:=["_law_ware_here"]) (cap:=[1]) rfl (Du rfl) (C8 (by decide)) (E5 (A8 hu (pv 0) A5 (λ_ _=>rfl)))
 (λ_ _ _ _ _ _=>⟨(Ac (i:=0) (of_decide_eq_true rfl) rfl (Zzu rfl) (.inr rfl)),(Lu (C6 (Fz hu) (A8 hu (pv 0) A5 (λ_ _=>rfl)) (pv 1) (Cc _))),(pv 0)⟩)) A5 (λ_ _=>rfl)))),?_⟩
  obtain⟨sa,sb,sc,ws,us,rfl,ha,hb,hc,rws,rus⟩:=Gn rs
  have hl:=Cm rws
  walk_at "rd"
  refine⟨_,Ak (j:=0) ha rfl,sb,rfl,ws,hb,?_⟩
  refine Jz (Fx sb _) (Bf (by have:=g.len.2;omega)) (zi w.name S H) ⟨RDs.nil,Zy0 _,Same.refl _⟩ (λi acc H' _ h=>h.2.2 _ _ hb) (λi acc H' h=>h.2.1) (λi x acc H' hi hx h=>?_) (λacc H' h p hp=>?_)
  ·obtain⟨h1,h2,h3⟩:=h
   obtain⟨t,ht,rt⟩:=D4 rws hx
   obtain⟨te,d1,d2,rfl,hte,_⟩:=Dq rt
   walk_at "rd"
   refine⟨_,Ak (j:=0) (h3 _ _ hte) rfl,rfl,Fj (λhz=>?_) (λhz=>?_)⟩
   ·have hz:t.name=w.name:=V.str.inj (of_decide_eq_true hz)
    refine⟨?_,by rw[Zym];exact Nat.succ_le_succ h2,h3⟩
    rw[Zyx,ht,Zys,Zzq]
    show RDs _ (_++Zy4 Wr.d (Zwm _ [t])) _
    rw[Zxr,if_pos (decide_eq_true hz)]
    exact RDs.app h1 (RDs.one (RD.same h3 _ _ rt))
   ·have hz:¬ t.name=w.name:=λe=>hz (decide_eq_true (by rw[e]))
    refine⟨?_,Nat.le_succ_of_le h2,h3⟩
    rw[Zyx,ht,Zys,Zzq]
    show RDs _ (_++Zy4 Wr.d (Zwm _ [t])) _
    rw[Zxr,if_neg (by rw[decide_eq_false hz];decide)]
    show RDs _ (_++[]) _
    rw[Zzn]
    exact h1
  ·obtain⟨h1,h2,h3⟩:=h
   rw[hl,Zyt,X4 g.ws.nd hm] at h1
   obtain⟨x,rfl,rx⟩:=tf h1
   have u:=A6 (o:=.lst [x]) hp
   exact⟨x,E7 (j:=0) A0 rfl,k x _ (RD.same u _ _ rx) (h3.trans u)⟩
def sp_law_days:Sp:=λvs H Q _=>∃(v:V) (S:Sh) (sz:Int),vs=[v]/\RD H S.d v/\Good sz S/\0<sz/\sz<=1000/\∀H',Same H H'->Q (.int (daysN S:Nat)) H'
theorem Xg:Bg ["_law_shop"] ["_law_shop"] (Ai Mf):=by walk_at "sc"
theorem Y3(F:Fun K "_law_days" "_law_days" Mf f fd)(T:Txt mg):D3 P w K mg base CX0 1 f fd ["_law_shop"] sp_law_days:=by
 refine F.ok Xg (λvs H Q E h=>?_) (λcdv A outer s H vs Q E hr h=>?_)
 ·obtain⟨v,S,sz,rfl,_⟩:=h
  rfl
 ·obtain⟨v,S,sz,rfl,rs,g,z0,z1,k⟩:=h
  have hu:=Ch hr
  refine⟨_,(Aa (Be (C7 Ds A5 (Bd (V4 rfl) rfl T.Zsg Ox (A3 (C7 Ov (Dl (A3 A5 A1)) (D5 (own:=["_law_want"]) (cap:=[]) rfl (Du rfl) (C8 (by decide)) (E5 (A8 hu (pv 0) A5 (λ_ _=>rfl)))
 (λ_ _ _ _ _ _=>⟨(Ac (i:=0) (of_decide_eq_true rfl) rfl (Zzu rfl) (.inr rfl)),D0,(A8 hu (pv 0) A5 (λ_ _=>rfl))⟩))) A1))))),?_⟩
  obtain⟨sa,sb,sc,ws,us,rfl,ha,hb,hc,rws,rus⟩:=Gn rs
  have hl:=Cm rus
  walk_at "rd"
  obtain⟨n1,n2,n3,n4⟩:=g.days z0 z1
  refine⟨by decide,λp hp=>?_⟩
  have u:=A6 (o:=.lst [V.int 0]) hp
  refine⟨_,Ak (j:=1) (u _ _ ha) rfl,sc,rfl,us,u _ _ hc,?_⟩
  have hwl:=g.wants.1
  refine Da (Fx sc _) (Bf (by omega)) (λH' s'=>s' _ _ (u _ _ hc)) ((S.wants.map λu=>u.2.1).map V.int) (by rw[Zzz,Zzz,hl]) (λi x H' hi hx s' N M hN=>?_) (λH' s' q hq=>?_)
  ·obtain⟨y,hy,ry⟩:=D4 rus hx
   obtain⟨e,rfl,he⟩:=Nr ry
   walk_at "rd"
   exact⟨_,Ak (j:=1) (s' _ _ (u _ _ he)) rfl,hN _ _ s' (by rw[Zzy,Zzy,hy];rfl)⟩
  ·have s2:=s'.trans (A6 (o:=.lst ((S.wants.map λu=>u.2.1).map V.int)) hq)
   refine⟨q,rfl,_,s2 _ _ A0,_,A0,Bf (by rw[Zzz,Zzz,Zx3];omega),λr hr2=>?_⟩
   refine⟨0::S.wants.map λu=>u.2.1,A0,(λe=>nomatch e),?_⟩
   rw[Ul _ (λx hx=>by obtain⟨y,hy,rfl⟩:=Zzv.mp hx;exact(g.wants.2 y hy).2.1.1),<- n3]
   exact k _ ((u.trans s2).trans (A6 hr2))
def wy(v:V)(a:Addr)(nm:Str)(q:Addr)(S:Sh)(H:Hp)(i:Nat)(Z:St)(H':Hp):Prop:=∃o1 o2 o3 o4:Option V,Z=[some v,some (.ref a),some (.str nm),some (.ref q),o1,o2,o3,o4]/\H' q=some (.lst ((C9 (daysN S) λd=>Cn (wAt nm d) (S.wants.take i)).map V.int))/\Same H H'
def A0h(v:V)(a:Addr)(nm:Str)(S:Sh)(plan:Str->List Int)(H:Hp)(i:Nat)(Z:St)(H':Hp):Prop:=∃(q:Addr) (o1 o2 o3 o4:Option V),Z=[some v,some (.ref a),some (.str nm),some (.ref q),o1,o2,o3,o4]/\H q=none/\H' q=some (.lst ((C9 (daysN S) λd=>Cn (wAt nm d) S.wants+Cn (pAt plan nm d) (S.wares.take i)).map V.int))/\Same H H'
def A0v(nm:Str)(ps:List (Str×Int))(H:Hp)(j:Nat)(acc:List V)(H':Hp):Prop:=acc=(((ps.take j).filter λp=>decide (p.1=nm)).map (·.2)).map V.int/\Same H H'
def Qz:List Int->Int->Int
 |[],_=>0
 |a::_,b=>a*b
theorem ic{ps:List (Str×Int)}{nm:Str}{b:Int}(nd:(ps.map (·.1)).Nodup):Cn (λp:Str×Int=>if p.1=nm then p.2*b else 0) ps=Qz ((ps.filter λp=>decide (p.1=nm)).map (·.2)) b:=by
 rw[ib nd]
 generalize (ps.filter λp=>decide (p.1=nm)).map (·.2)=ms
 cases ms<;>rfl
def sp_law_begun:Sp:=λvs H Q _=>∃(v:V) (a:Addr) (S:Sh) (plan:Str->List Int) (w:Wr) (sz:Int),vs=[v,.ref a,.str w.name]/\RD H S.d v/\PlanAt H a S plan/\w∈S.wares/\Good sz S/\0<sz/\sz<=1000/\∀p H',H p=none->H' p=some (.lst ((Gg (plan w.name) w.lag).map V.int))->Same H H'->Q (.ref p) H'
theorem sc_law_begun:Bg ["_law_shop", "_law_plan", "_law_name", "_law_lag", "_law_found", "_law_day", "_law_lots_here"] ["_law_shop", "_law_plan", "_law_name"] (Ai Ln):=by walk_at "sc"
theorem W7(F:Fun K "_law_begun" "_law_begun" Ln f fd)(T:Txt mg)(Zui:Has P w K mg base "_law_ware" 1 ["_law_shop", "_law_name"] sp_law_ware)(Zuc:Has P w K mg base "_law_days" 1 ["_law_shop"] sp_law_days):D3 P w K mg base CX0 2 f fd ["_law_shop", "_law_plan", "_law_name"] sp_law_begun:=by
 refine F.ok sc_law_begun (λvs H Q E h=>?_) (λcdv A outer s H vs Q E hr h=>?_)
 ·obtain⟨v,a,S,plan,w,sz,rfl,_⟩:=h
  rfl
 ·obtain⟨v,a,S,plan,w,sz,rfl,rs,pl,hm,g,z0,z1,k⟩:=h
  have hu:=Ch hr
  refine⟨_,(A2 (Bh (i:=3) sc_law_begun.nd rfl (Zzu rfl) (A8 hu (A9 Zui hr.z rfl (A3 (pv 0) (A3 (pv 2) A1))) A5 (λ_ _=>rfl)))
 (A2 (Bh (i:=4) sc_law_begun.nd rfl (Zzu rfl) (Dl A1))
 (A2 (D2 PassesOwn.never rfl (Dy rfl T.Zud (A3 (A9 Zuc hr.z rfl (A3 (pv 0) A1)) A1)) (Ac (i:=5) sc_law_begun.nd rfl (Zzu rfl))
 (A2 (Bh (i:=6) sc_law_begun.nd rfl (Zzu rfl) A5)
 (A2 (Db (C6 (Lz hu) (C7 Ds (pv 5) (pv 3)) (A9 Zuc hr.z rfl (A3 (pv 0) A1)) (Cc _)) (Aa (Bh (i:=6) sc_law_begun.nd rfl (Zzu rfl) (A8 hu (A8 hu (pv 1) (pv 2) (λ_ _=>rfl)) (C7 Ds (pv 5) (pv 3)) (λ_ _=>rfl)))) C5)
 (Aa (Fm (Gf Zyl Zy2 Zy1 Fi (pv 4) (A3 (pv 6) A1)))))))
 (Aa (Be (pv 4)))))),?_⟩
  walk_at "rd"
  obtain⟨n1,n2,n3,n4⟩:=g.days z0 z1
  have wb:=g.ws.wb w hm
  refine⟨v,S,w,sz,rfl,rs,g,hm,λx H1 rx sm1=>?_⟩
  obtain⟨xe,c1,c2,rfl,hxe,_⟩:=Dq rx
  refine⟨_,Ak (j:=1) hxe rfl,Zy0 _,λp hp=>?_⟩
  have u1:=sm1.trans (A6 (o:=.lst []) hp)
  have fp:H p=none:=Same.free sm1 hp
  refine⟨v,S,sz,rfl,RD.same u1 _ _ rs,g,z0,z1,λH2 sm2=>⟨_,rfl,by omega,by omega,?_⟩⟩
  have en:((daysN S:Nat):Int).toNat=daysN S:=by omega
  rw[en]
  obtain⟨kvs,hkv,hpl⟩:=id pl
  obtain⟨l,hv,hll,hlen,hbd⟩:=hpl w.name (Zzv.mpr ⟨w,hm,rfl⟩)
  refine Er (L4 0 _) (zt v a w.name p w.lag (bAt (plan w.name) w.lag) H) ⟨_,_,rfl,sm2 _ _ A0,u1.trans sm2⟩ (λ_ _ _ _ _=>trivial) (λi x Z H3 hi hx h=>?_) (λZ H3 h=>?_)
  ·obtain⟨o1,o2,rfl,hp3,sm3⟩:=h
   subst hx
   walk_at "rd"
   refine⟨v,S,sz,rfl,RD.same sm3 _ _ rs,g,z0,z1,λH4 sm4=>?_⟩
   have hp4:=sm4 _ _ hp3
   have s4:=sm3.trans sm4
   refine⟨_,rfl,Fj (λhz=>?_) (λhz=>?_)⟩
   ·have hz:=of_decide_eq_true hz
    have hl0:=wb.lag.1
    have ix:(0+(i:Int)+w.lag).toNat=i+w.lag.toNat:=by omega
    have lt:i+w.lag.toNat<(plan w.name).length:=by omega
    refine⟨_,L0 (hkv.same s4) hv,.int ((plan w.name).getD (i+w.lag.toNat) 0),Mr (.inl (s4 _ _ hll)) (by omega) (by rw[ix,Zzy,Zzo,Zzs lt];rfl),G2 hp4,_,hp4,by rw[Zzz,C1];exact Zya (m:=1000) (by omega) (by decide),_,_,rfl,?_,λb o hb=>by rw[A7 (A4 hb fp)];exact s4 b o hb⟩
    rw[A0,Jb,Zzq]
    unfold bAt
    simp only[if_pos lt,Zzp,Zyv]
   ·have hz:¬ 0+(i:Int)+w.lag<((daysN S:Nat):Int):=λq=>hz (decide_eq_true q)
    have hl0:=wb.lag.1
    have lt:¬ i+w.lag.toNat<(plan w.name).length:=by omega
    refine⟨G2 hp4,_,hp4,by rw[Zzz,C1];exact Zya (m:=1000) (by omega) (by decide),_,_,rfl,?_,λb o hb=>by rw[A7 (A4 hb fp)];exact s4 b o hb⟩
    rw[A0,Jb,Zzq]
    unfold bAt
    simp only[if_neg lt,Zzp,Zyv]
  ·obtain⟨o1,o2,rfl,hp3,sm3⟩:=h
   walk_at "rd"
   refine k p H3 fp ?_ sm3
   rw[hp3]
   unfold Gg
   rw[hlen]
def sp_law_needs:Sp:=λvs H Q _=>∃(v:V) (a:Addr) (S:Sh) (plan:Str->List Int) (w:Wr) (sz:Int),vs=[v,.ref a,.str w.name]/\RD H S.d v/\PlanAt H a S plan/\w∈S.wares/\Good sz S/\0<sz/\sz<=1000/\∀p H',H p=none->H' p=some (.lst ((Ck S plan w.name).map V.int))->Same H H'->Q (.ref p) H'
theorem sc_law_needs:Bg ["_law_shop", "_law_plan", "_law_name", "_law_found", "_law_want", "_law_ware_here", "_law_amounts", "_law_lots_here"] ["_law_shop", "_law_plan", "_law_name"] (Ai Lj):=by walk_at "sc"
theorem W3(F:Fun K "_law_needs" "_law_needs" Lj f fd)(T:Txt mg)(Zuc:Has P w K mg base "_law_days" 1 ["_law_shop"] sp_law_days)(Zsl:Has P w K mg base "_law_begun" 2 ["_law_shop", "_law_plan", "_law_name"] sp_law_begun):D3 P w K mg base CX0 3 f fd ["_law_shop", "_law_plan", "_law_name"] sp_law_needs:=by
 refine F.ok sc_law_needs (λvs H Q E h=>?_) (λcdv A outer s H vs Q E hr h=>?_)
 ·obtain⟨v,a,S,plan,w,sz,rfl,_⟩:=h
  rfl
 ·obtain⟨v,a,S,plan,w,sz,rfl,rs,pl,hm,g,z0,z1,k⟩:=h
  have hu:=Ch hr
  have hu4:=du hr
  refine⟨_,(A2 (Bh (i:=3) sc_law_needs.nd rfl (Zvu rfl) (D5 (own:=["_law_day"]) (cap:=[]) rfl (Du rfl) (C8 (by decide)) (Dy rfl T.Zud (A3 (A9 Zuc hr.z rfl (A3 (pv 0) A1)) A1))
 (λ_ _ _ _ _ _=>⟨(Ac (i:=0) (of_decide_eq_true rfl) rfl (Zzu rfl) (.inr rfl)),D0,A5⟩)))
 (A2 (D2 PassesOwn.never rfl (E5 (A8 hu (pv 0) A5 (λ_ _=>rfl))) (Ac (i:=4) sc_law_needs.nd rfl (Zzu rfl))
 (Aa (Db (C6 (Fz hu) (A8 hu (pv 4) A5 (λ_ _=>rfl)) (pv 2) (Cc _)) (Aa (Je (C7 Ds (A8 hu (pv 3) (A8 hu (pv 4) A5 (λ_ _=>rfl)) (λ_ _=>rfl)) (A8 hu (pv 4) A5 (λ_ _=>rfl))) (Jx (pv 3) (A8 hu (pv 4) A5 (λ_ _=>rfl)) Jt))) C5)))
 (A2 (D2 PassesOwn.never rfl (E5 (A8 hu (pv 0) A5 (λ_ _=>rfl))) (Ac (i:=5) sc_law_needs.nd rfl (Zzu rfl))
 (A2 (Bh (i:=6) sc_law_needs.nd rfl (Zvu rfl) (D5 (own:=["_law_part", "_law_amount_here"]) (cap:=[2]) rfl (Du rfl) Io (E5 (A8 hu (pv 5) A5 (λ_ _=>rfl)))
 (λ_ _ _ _ _ _=>⟨(Gk (n:=2) rfl (C2 (Ac (i:=0) (of_decide_eq_true rfl) rfl (Zzu rfl) (.inr rfl)) (C2 (Ac (i:=1) (of_decide_eq_true rfl) rfl (Zzu rfl) (.inr rfl)) Fn))),(Lu (C6 (Fz hu) (pv 0) (pv 2) (Cc _))),(pv 1)⟩)))
 (Aa (Db (C6 (yc hu4) (pv 6) (Dl A1) (Cc _)) (A2 (Bh (i:=7) sc_law_needs.nd rfl (Zvu rfl) (A9 Zsl hr.z rfl (A3 (pv 0) (A3 (pv 1) (A3 (A8 hu (pv 5) A5 (λ_ _=>rfl)) A1)))))
 (Aa (Bh (i:=3) sc_law_needs.nd rfl (Zvu rfl) (D5 (own:=["_law_day"]) (cap:=[3,6,7]) rfl (Du rfl) (C8 (by decide)) (Dy rfl T.Zud (A3 (Bd Dp rfl T.Zue Fu (A3 (pv 3) A1)) A1))
 (λ_ _ _ _ _ _=>⟨(Ac (i:=0) (of_decide_eq_true rfl) rfl (Zzu rfl) (.inr rfl)),D0,(C7 Ds (A8 hu (pv 1) (pv 0) (λ_ _=>rfl)) (C7 J0 (A8 hu (pv 2) A5 (λ_ _=>rfl)) (A8 hu (pv 3) (pv 0) (λ_ _=>rfl))))⟩))))) C5))))
 (Aa (Be (pv 3)))))),?_⟩
  walk_at "rd"
  obtain⟨n1,n2,n3,n4⟩:=g.days z0 z1
  refine⟨v,S,sz,rfl,rs,g,z0,z1,λH1 sm1=>⟨_,rfl,by omega,by omega,?_⟩⟩
  have en:((daysN S:Nat):Int).toNat=daysN S:=by omega
  rw[en]
  refine Da (L4 0 _) (Bf n2) (λ_ _=>trivial) ((C9 (daysN S) λ_=>0).map V.int) (by rw[Zzz,C1]) (λi x H' hi hx s' N M hN=>?_) (λH2 s2 q hq=>?_)
  ·walk_at "rd"
   exact hN _ _ s' (by rw[Zzy,D8 hi];rfl)
  obtain⟨sa,sb,sc,ws,us,rfl,ha,hb,hc,rws,rus⟩:=Gn rs
  have hlw:=Cm rws
  have hlu:=Cm rus
  have fq:H q=none:=Same.free (sm1.trans s2) hq
  have u2:=(sm1.trans s2).trans (A6 (o:=.lst ((C9 (daysN S) λ_=>0).map V.int)) hq)
  refine⟨_,Ak (j:=1) (u2 _ _ ha) rfl,sc,rfl,us,u2 _ _ hc,?_⟩
  refine Er (Fx sc _) (wy (.ref sa) a w.name q S H) ⟨_,_,_,_,rfl,?_,u2⟩ (λi Z H' _ h=>by obtain⟨_,_,_,_,_,_,s⟩:=h;exact s _ _ hc) (λi y Z H3 hi hy h=>?_) (λZ H3 h=>?_)
  ·rw[A0]
   exact congrArg (λz=>some (HO.lst (Zy4 V.int z))) (Dr λd _=>by rw[Zvg,M0])
  ·obtain⟨o1,o2,o3,o4,rfl,hq3,sm⟩:=h
   obtain⟨u,hu',ru⟩:=D4 rus hy
   obtain⟨e,rfl,he⟩:=Nr ru
   have he':=sm _ _ he
   have hum:=Zzr hu'
   walk_at "rd"
   refine⟨_,Ak (j:=0) he' rfl,rfl,Fj (λhz=>?_) (λhz=>?_)⟩
   ·have hz:u.1=w.name:=V.str.inj (of_decide_eq_true hz)
    have hd:=n4 u hum
    have hd0:=(g.wants.2 u hum).2.1.1
    refine⟨_,Ak (j:=1) he' rfl,.int (Cn (wAt w.name u.2.1.toNat) (S.wants.take i)),Mr (.inl hq3) hd0 (by rw[Zzy,D8 hd];rfl),_,Ak (j:=2) he' rfl,_,rfl,_,rfl,_,Ak (j:=1) he' rfl,_,_,rfl,hq3,u.2.1.toNat,?_,?_⟩
    ·rw[Zzz,C1]
     unfold ixN
     rw[if_pos hd0,if_pos (by omega)]
    ·refine⟨_,_,_,_,rfl,?_,λb' o' hb'=>by rw[A7 (A4 hb' fq)];exact sm b' o' hb'⟩
     rw[A0,<- Zvh,O7]
     refine congrArg (λz=>some (HO.lst (Zy4 V.int z))) (Dr λd _=>?_)
     rw[Gh _ hu']
     unfold wAt
     by_cases e1:d=u.2.1.toNat
     ·subst e1
      rw[if_pos rfl,if_pos ⟨hz,by omega⟩]
     ·rw[if_neg e1,if_neg (λq=>e1 (by omega)),Zxd]
   ·refine⟨_,_,_,_,rfl,?_,sm⟩
    rw[hq3]
    refine congrArg (λz=>some (HO.lst (Zy4 V.int z))) (Dr λd _=>?_)
    rw[Gh _ hu']
    unfold wAt
    rw[if_neg (c:=u.1=w.name/\_) (λq=>hz (decide_eq_true (by rw[q.1]))),Zxd]
  ·obtain⟨o1,o2,o3,o4,rfl,hq3,sm⟩:=h
   rw[hlu,Zyt] at hq3
   walk_at "rd"
   refine⟨_,Ak (j:=0) (sm _ _ ha) rfl,sb,rfl,ws,sm _ _ hb,?_⟩
   refine Er (Fx sb _) (A0h (.ref sa) a w.name S plan H) ⟨q,_,_,_,_,rfl,fq,?_,sm⟩ (λi Z H' _ h=>by obtain⟨_,_,_,_,_,_,_,_,s⟩:=h;exact s _ _ hb) (λi y Z H4 hi hy h=>?_) (λZ H4 h=>?_)
   ·rw[hq3]
    exact congrArg (λz=>some (HO.lst (Zy4 V.int z))) (Dr λd _=>by rw[Zvg,M0,Zxd])
   ·obtain⟨q,o1,o2,o3,o4,rfl,fq,hq4,sm4⟩:=h
    obtain⟨t,ht,rt⟩:=D4 rws hy
    have htm:=Zzr ht
    have wb:=g.ws.wb t htm
    obtain⟨te,d1,d2,rfl,hte,rc,rp⟩:=Dq rt
    obtain⟨pb,pv,rfl,hpb,rpv⟩:=RD.tup_of rp
    have hlp:=Cm rpv
    walk_at "rd"
    refine⟨_,Ak (j:=6) (sm4 _ _ hte) rfl,pb,rfl,pv,sm4 _ _ hpb,?_⟩
    refine Jz (Fx pb _) (Bf (by have:=wb.parts;omega)) (A0v w.name t.parts H4) ⟨rfl,Same.refl _⟩ (λj acc H' _ h=>h.2 _ _ (sm4 _ _ hpb)) (λj acc H' h=>?_) (λj x acc H5 hj hx h=>?_) (λacc H5 h r hr5=>?_)
    ·rw[h.1,Zzz,Zzz]
     exact Zyf (Zxo _ _) (by rw[Zye];omega)
    ·obtain⟨rfl,s5⟩:=h
     obtain⟨pp,hpp,rpp⟩:=D4 rpv hx
     obtain⟨pe,rfl,hpe⟩:=O9 rpp
     refine gt2 (s5 _ _ (sm4 _ _ hpe)) ?_
     walk_at "rd"
     refine⟨rfl,Fj (λhz=>?_) (λhz=>?_)⟩
     ·have hz:pp.1=w.name:=of_decide_eq_true hz
      refine⟨?_,s5⟩
      rw[Zyx,hpp,Zys,Zzq,Zzq]
      show _=_++Zy4 V.int (Zy4 (λx=>x.2) (Zwm _ [pp]))
      rw[Zxr,if_pos (decide_eq_true hz)]
      rfl
     ·have hz:¬ pp.1=w.name:=λe=>hz (decide_eq_true e)
      refine⟨?_,s5⟩
      rw[Zyx,hpp,Zys,Zzq,Zzq]
      show _=_++Zy4 V.int (Zy4 (λx=>x.2) (Zwm _ [pp]))
      rw[Zxr,if_neg (by rw[decide_eq_false hz];decide)]
      exact(Zzn _).symm
    ·obtain⟨rfl,s5⟩:=h
     rw[hlp,Zyt]
     have er:∀d,Cn (pAt plan w.name d) (S.wares.take (i+1))=Cn (pAt plan w.name d) (S.wares.take i)+Qz ((t.parts.filter λp=>decide (p.1=w.name)).map (·.2)) (bAt (plan t.name) t.lag d):=λd=>by
      rw[Gh _ ht]
      unfold pAt
      rw[ic wb.nds]
     have am:∀x∈(t.parts.filter λp=>decide (p.1=w.name)).map (·.2),1<=x/\x<=100:=λx hx=>by
      obtain⟨y,hy,rfl⟩:=Zzv.mp hx
      exact wb.amts y (Zwi.mp hy).1
     generalize (t.parts.filter λp=>decide (p.1=w.name)).map (·.2)=ms at er am
     have u5:=A6 (o:=.lst (ms.map V.int)) hr5
     have hr6:upd H5 r (.lst (ms.map V.int)) r=some (.lst (ms.map V.int)):=A0
     have s6:=(sm4.trans s5).trans u5
     have hq6:=u5 _ _ (s5 _ _ hq4)
     generalize upd H5 r (.lst (ms.map V.int))=H6 at hr6 s6 hq6
     refine⟨Zy0 _,λz hz6=>?_⟩
     have u6:=A6 (o:=.lst []) hz6
     refine⟨Vr ms,ly (u6 _ _ hr6),Vr [],ly A0,da _,da _,?_⟩
     rw[pi]
     have s7:=s6.trans u6
     have hq7:=u6 _ _ hq6
     have hr7:=u6 _ _ hr6
     generalize upd H6 z (.lst [])=H7 at s7 hq7 hr7
     cases ms with
     |nil =>
      rw[if_neg (by decide)]
      refine⟨q,_,_,_,_,rfl,fq,?_,s7⟩
      rw[hq7]
      refine congrArg (λz=>some (HO.lst (Zy4 V.int z))) (Dr λd _=>?_)
      rw[er,Qz,Zxd]
     |cons m ms =>
      rw[if_pos (by simp)]
      refine⟨_,Ak (j:=0) (s7 _ _ hte) rfl,?_⟩
      refine⟨.ref sa,a,S,plan,t,sz,rfl,RD.same s7 _ _ rs,pl.same s7,htm,g,z0,z1,λb H8 fb hb8 sm8=>?_⟩
      have hq8:=sm8 _ _ hq7
      have hr8:=sm8 _ _ hr7
      refine⟨_,.inl hq8,?_⟩
      have ln:(Zy4 V.int (C9 (daysN S) λd=>Cn (wAt w.name d) S.wants+Cn (pAt plan w.name d) (S.wares.take i))).length=daysN S:=by rw[Zzz,C1]
      rw[ln,en]
      refine⟨by omega,by omega,?_⟩
      obtain⟨kvs,hkv,hpl⟩:=pl
      obtain⟨l,hv,hll,hlen,hbd⟩:=hpl t.name (Zzv.mpr ⟨t,htm,rfl⟩)
      have hm1:=am m Zzf
      refine Da (L4 0 _) (Bf n2) (λ_ _=>trivial) ((C9 (daysN S) λd=>Cn (wAt w.name d) S.wants+Cn (pAt plan w.name d) (S.wares.take i)+m*bAt (plan t.name) t.lag d).map V.int) (by rw[Zzz,C1]) (λj x H' hj hx s' N M hN=>?_) (λH9 s9 y hy9=>?_)
      ·subst hx
       have ix:(0+(j:Int)).toNat=j:=by omega
       walk_at "rd"
       refine⟨.int (Cn (wAt w.name j) S.wants+Cn (pAt plan w.name j) (S.wares.take i)),Mr (.inl (s' _ _ hq8)) (by omega) (by rw[ix,Zzy,D8 hj];rfl),.int m,E7 (j:=0) (s' _ _ hr8) rfl,.int (bAt (plan t.name) t.lag j),Mr (.inl (s' _ _ hb8)) (by omega) (by rw[ix,Zzy];unfold Gg;rw[D8 (by rw[hlen];exact hj)];rfl),_,rfl,_,rfl,.inl (.inl ⟨by omega,by omega⟩),_,rfl,hN _ _ s' (by rw[Zzy,D8 hj];rfl)⟩
      ·have u9:=(s7.trans sm8).trans (s9.trans (A6 (o:=.lst ((C9 (daysN S) λd=>Cn (wAt w.name d) S.wants+Cn (pAt plan w.name d) (S.wares.take i)+m*bAt (plan t.name) t.lag d).map V.int)) hy9))
       refine⟨y,_,_,_,_,rfl,Same.free ((s7.trans sm8).trans s9) hy9,?_,u9⟩
       rw[A0]
       refine congrArg (λz=>some (HO.lst (Zy4 V.int z))) (Dr λd _=>?_)
       rw[er,Qz]
       omega
   ·obtain⟨q,o1,o2,o3,o4,rfl,fq,hq4,sm4⟩:=h
    rw[hlw,Zyt] at hq4
    walk_at "rd"
    exact k q H4 fq hq4 sm4
def Iq(S:Sh)(plan:Str->List Int)(w:Wr)(d:Nat):Int:=Cn (cAt d) w.coming+w.gives*(plan w.name).getD d 0 - E6 S plan w.name d
theorem Uc(S:Sh)(plan:Str->List Int)(w:Wr):∀d,upS (M7 S plan w) (d+1)=w.stock+upS (Iq S plan w) (d+1)
 |0=>by simp only[upS,M7,Iq,Go];rw[if_pos trivial];omega
 |d+1=>by
  have e1:upS (M7 S plan w) (d+1+1)=upS (M7 S plan w) (d+1)+M7 S plan w (d+1):=rfl
  have e2:upS (Iq S plan w) (d+1+1)=upS (Iq S plan w) (d+1)+Iq S plan w (d+1):=rfl
  rw[e1,e2,Uc S plan w d]
  have e3:M7 S plan w (d+1)=Iq S plan w (d+1):=by
   simp only[M7,Iq,Go]
   rw[if_neg (by omega),Int.zero_add]
  rw[e3,Int.add_assoc]
def zh(v:V)(a:Addr)(nm:Str)(xe q p:Addr)(st:Int)(f:Nat->Int)(H1:Hp)(i:Nat)(Z:St)(H':Hp):Prop:=∃o:Option V,Z=[some v,some (.ref a),some (.str nm),some (.ref xe),some (.ref q),some (.int (st+upS f i)),some (.ref p),o]/\H' p=some (.lst ((C9 i λd=>st+upS f (d+1)).map V.int))/\∀b o,b≠p->H1 b=some o->H' b=some o
def A0t(d:Nat)(ps:List (Int×Int))(H:Hp)(j:Nat)(acc:List V)(H':Hp):Prop:=acc=(((ps.take j).filter λp=>decide (p.1=(d:Int))).map (·.2)).map V.int/\Same H H'
theorem Vf(d:Nat):∀ps:List (Int×Int),((ps.filter λp=>decide (p.1=(d:Int))).map (·.2)).sum=Cn (cAt d) ps
 |[]=>rfl
 |p::r=>by
  rw[Fv,<- Vf d r,Zxr]
  unfold cAt
  by_cases e:p.1=(d:Int)
  ·rw[if_pos (decide_eq_true e),if_pos e,Zzp,List.sum_cons]
  ·rw[if_neg (by rw[decide_eq_false e];decide),if_neg e,Int.zero_add]
def sp_law_stocks:Sp:=λvs H Q _=>∃(v:V) (a:Addr) (S:Sh) (plan:Str->List Int) (w:Wr) (sz:Int),vs=[v,.ref a,.str w.name]/\RD H S.d v/\PlanAt H a S plan/\w∈S.wares/\Good sz S/\0<sz/\sz<=1000/\∀p H',H p=none->H' p=some (.lst ((D1 S plan w).map V.int))->Same H H'->Q (.ref p) H'
theorem sc_law_stocks:Bg ["_law_shop", "_law_plan", "_law_name", "_law_ware_here", "_law_gone", "_law_left", "_law_found", "_law_day"] ["_law_shop", "_law_plan", "_law_name"] (Ai Kh):=by walk_at "sc"
theorem Tn(F:Fun K "_law_stocks" "_law_stocks" Kh f fd)(T:Txt mg)(Zui:Has P w K mg base "_law_ware" 1 ["_law_shop", "_law_name"] sp_law_ware)(Ztz:Has P w K mg base "_law_needs" 3 ["_law_shop", "_law_plan", "_law_name"] sp_law_needs):D3 P w K mg base CX0 4 f fd ["_law_shop", "_law_plan", "_law_name"] sp_law_stocks:=by
 refine F.ok sc_law_stocks (λvs H Q E h=>?_) (λcdv A outer s H vs Q E hr h=>?_)
 ·obtain⟨v,a,S,plan,w,sz,rfl,_⟩:=h
  rfl
 ·obtain⟨v,a,S,plan,w,sz,rfl,rs,pl,hm,g,z0,z1,k⟩:=h
  have hu:=Ch hr
  refine⟨_,(A2 (Bh (i:=3) sc_law_stocks.nd rfl (Zzu rfl) (A9 Zui hr.z rfl (A3 (pv 0) (A3 (pv 2) A1))))
 (A2 (Bh (i:=4) sc_law_stocks.nd rfl (Zzu rfl) (A9 Ztz hr.z rfl (A3 (pv 0) (A3 (pv 1) (A3 (pv 2) A1)))))
 (A2 (Bh (i:=5) sc_law_stocks.nd rfl (Zzu rfl) (A8 hu (pv 3) A5 (λ_ _=>rfl)))
 (A2 (Bh (i:=6) sc_law_stocks.nd rfl (Zzu rfl) (Dl A1))
 (A2 (D2 PassesOwn.never rfl (Dy rfl T.Zud (A3 (Bd Dp rfl T.Zue Fu (A3 (pv 4) A1)) A1)) (Ac (i:=7) sc_law_stocks.nd rfl (Zvu rfl))
 (A2 (Bh (i:=5) sc_law_stocks.nd rfl (Zzu rfl) (C7 Ds (pv 5) (Bd (Q5 rfl) rfl T.Zrw bj (A3 (D5 (own:=["_law_when", "_law_amount_here"]) (cap:=[7]) rfl (Du rfl) Io (E5 (A8 hu (pv 3) A5 (λ_ _=>rfl)))
 (λ_ _ _ _ _ _=>⟨(Gk (n:=2) rfl (C2 (Ac (i:=0) (of_decide_eq_true rfl) rfl (Zzu rfl) (.inr rfl)) (C2 (Ac (i:=1) (of_decide_eq_true rfl) rfl (Zzu rfl) (.inr rfl)) Fn))),(Lu (C6 (Fz hu) (pv 0) (pv 2) (Cc _))),(pv 1)⟩)) A1))))
 (A2 (Bh (i:=5) sc_law_stocks.nd rfl (Zzu rfl) (C7 Ou (C7 Ds (pv 5) (C7 J0 (A8 hu (pv 3) A5 (λ_ _=>rfl)) (A8 hu (A8 hu (pv 1) (pv 2) (λ_ _=>rfl)) (pv 7) (λ_ _=>rfl)))) (A8 hu (pv 4) (pv 7) (λ_ _=>rfl))))
 (Aa (Fm (Gf Zyl Zy2 Zy1 Fi (pv 6) (A3 (pv 5) A1)))))))
 (Aa (Be (pv 6)))))))),?_⟩
  walk_at "rd"
  obtain⟨n1,n2,n3,n4⟩:=g.days z0 z1
  have wb:=g.ws.wb w hm
  refine⟨v,S,w,sz,rfl,rs,g,hm,λx H1 rx sm1=>?_⟩
  obtain⟨xe,c1,c2,rfl,hxe,rc,_⟩:=Dq rx
  obtain⟨cb,cv,rfl,hcb,rcv⟩:=RD.tup_of rc
  refine⟨v,a,S,plan,w,sz,rfl,RD.same sm1 _ _ rs,pl.same sm1,hm,g,z0,z1,λq H2 hq hq2 sm2=>?_⟩
  refine⟨_,Ak (j:=4) (sm2 _ _ hxe) rfl,Zy0 _,λp hp=>?_⟩
  have u2:=A6 (o:=.lst []) hp
  refine⟨q,rfl,_,.inl (u2 _ _ hq2),?_⟩
  have ln:(Zy4 V.int (Ck S plan w.name)).length=daysN S:=by rw[Zzz];unfold Ck;rw[C1]
  rw[ln]
  refine⟨by omega,by omega,?_⟩
  have en:((daysN S:Nat):Int).toNat=daysN S:=by omega
  rw[en]
  have fp:H p=none:=Same.free (sm1.trans sm2) hp
  have s12:=sm1.trans sm2
  have hcl:=Cm rcv
  have hcom:=g.com w hm
  obtain⟨kvs,hkv,hpl⟩:=id pl
  obtain⟨l,hv,hll,hlen,hbd⟩:=hpl w.name (Zzv.mpr ⟨w,hm,rfl⟩)
  refine Er (L4 0 _) (zh v a w.name xe q p w.stock (Iq S plan w) H2) ⟨none,by simp only[upS,Zxd],A0,λb o hb ho=>by rw[A7 hb];exact ho⟩ (λ_ _ _ _ _=>trivial) (λi x Z H3 hi hx h=>?_) (λZ H3 h=>?_)
  ·obtain⟨o1,rfl,hp3,kp⟩:=h
   subst hx
   walk_at "rd"
   have ne:∀{b:Addr} {o:HO},H2 b=some o->H3 b=some o:=λ{b o} hb=>kp _ _ (A4 hb hp) hb
   refine⟨_,Ak (j:=5) (ne (sm2 _ _ hxe)) rfl,cb,rfl,cv,ne (sm2 _ _ hcb),?_⟩
   refine Jz (Fx cb _) (Bf (by have:=hcom.1;omega)) (A0t i w.coming H3) ⟨rfl,Same.refl _⟩ (λj acc H' _ h=>h.2 _ _ (ne (sm2 _ _ hcb))) (λj acc H' h=>?_) (λj x acc H5 hj hx h=>?_) (λacc H5 h r hr5=>?_)
   ·rw[h.1,Zzz,Zzz]
    exact Zyf (Zxo _ _) (by rw[Zye];omega)
   ·obtain⟨rfl,s5⟩:=h
    obtain⟨pp,hpp,rpp⟩:=D4 rcv hx
    obtain⟨pe,rfl,hpe⟩:=T6 rpp
    refine gt2 (s5 _ _ (ne (sm2 _ _ hpe))) ?_
    walk_at "rd"
    refine⟨rfl,Fj (λhz=>?_) (λhz=>?_)⟩
    ·have hz:pp.1=(i:Int):=by have:=of_decide_eq_true hz;omega
     refine⟨?_,s5⟩
     rw[Zyx,hpp,Zys,Zzq,Zzq]
     show _=_++Zy4 V.int (Zy4 (λx=>x.2) (Zwm _ [pp]))
     rw[Zxr,if_pos (decide_eq_true hz)]
     rfl
    ·have hz:¬ pp.1=(i:Int):=λe=>hz (decide_eq_true (by omega))
     refine⟨?_,s5⟩
     rw[Zyx,hpp,Zys,Zzq,Zzq]
     show _=_++Zy4 V.int (Zy4 (λx=>x.2) (Zwm _ [pp]))
     rw[Zxr,if_neg (by rw[decide_eq_false hz];decide)]
     exact(Zzn _).symm
   ·obtain⟨rfl,s5⟩:=h
    rw[hcl,Zyt]
    have hr6:upd H5 r (.lst (((w.coming.filter λp=>decide (p.1=(i:Int))).map (·.2)).map V.int)) r=some (.lst (((w.coming.filter λp=>decide (p.1=(i:Int))).map (·.2)).map V.int)):=A0
    have u5:=s5.trans (A6 (o:=.lst (((w.coming.filter λp=>decide (p.1=(i:Int))).map (·.2)).map V.int)) hr5)
    have hs:=Vf i w.coming
    generalize (w.coming.filter λp=>decide (p.1=(i:Int))).map (·.2)=ms at hr6 u5 hs
    generalize upd H5 r (.lst (ms.map V.int))=H6 at hr6 u5
    have ep:(plan w.name)[i]?=some ((plan w.name).getD i 0):=by
     rw[Zzo,Zzs (by omega)]
     rfl
    have hb:=hbd _ (Zzr ep)
    have hg:=wb.gives
    have ix:(0+(i:Int)).toNat=i:=by omega
    have hp6:=u5 _ _ hp3
    refine⟨r,rfl,ms,hr6,_,Ak (j:=2) (u5 _ _ (ne (sm2 _ _ hxe))) rfl,_,L0 (((hkv.same s12).same λb o h=>ne h).same u5) hv,.int ((plan w.name).getD i 0),Mr (.inl (u5 _ _ (ne (s12 _ _ hll)))) (by omega) (by rw[ix,Zzy,ep];rfl),_,rfl,_,rfl,.inl (.inl ⟨by omega,by omega⟩),.int (E6 S plan w.name i),Mr (.inl (u5 _ _ (ne hq2))) (by omega) (by rw[ix,Zzy];unfold Ck;rw[D8 hi];rfl),_,rfl,G2 hp6,_,hp6,by rw[Zzz,C1];exact Zya (m:=1000) (by omega) (by decide),some (.int (0+i)),?_,?_,λb o nb hb=>?_⟩
    ·have e2:upS (Iq S plan w) (i+1)=upS (Iq S plan w) i+Iq S plan w i:=rfl
     rw[e2,hs]
     simp only[Iq]
     rw[show w.stock+upS (Iq S plan w) i+Cn (cAt i) w.coming+w.gives*(plan w.name).getD i 0 - E6 S plan w.name i=w.stock+(upS (Iq S plan w) i+(Cn (cAt i) w.coming+w.gives*(plan w.name).getD i 0 - E6 S plan w.name i)) by omega]
    ·have e2:upS (Iq S plan w) (i+1)=upS (Iq S plan w) i+Iq S plan w i:=rfl
     rw[A0,Jb,Zzq,hs]
     simp only[Zzp,Zyv]
     rw[e2]
     simp only[Iq]
     rw[show w.stock+upS (Iq S plan w) i+Cn (cAt i) w.coming+w.gives*(plan w.name).getD i 0 - E6 S plan w.name i=w.stock+(upS (Iq S plan w) i+(Cn (cAt i) w.coming+w.gives*(plan w.name).getD i 0 - E6 S plan w.name i)) by omega]
    ·rw[A7 nb]
     exact u5 _ _ (kp _ _ nb hb)
  ·obtain⟨o1,rfl,hp3,kp⟩:=h
   walk_at "rd"
   refine k p H3 fp ?_ (λb o hb=>kp _ _ (A4 hb fp) (s12 _ _ hb))
   rw[hp3]
   unfold D1
   exact congrArg (λz=>some (HO.lst (Zy4 V.int z))) (Dr λd _=>(Uc S plan w d).symm)
end
set_option maxHeartbeats 4000000
section
variable {P:Program}{w:World}{K:Zzw}{mg:Str->Option Value}{base:Heap}{f:Addr}{fd:FuncData}{Pt:Addr}
def sp_law_judged:Sp:=λvs H Q _=>∃(v:V) (a:Addr) (S:Sh) (plan:Str->List Int) (sz:Int),vs=[v,.ref a]/\RD H S.d v/\PlanAt H a S plan/\Good sz S/\0<sz/\sz<=1000/\∀(t:Addr) (ys:List Str) (H':Hp),H t=none->Np (lv S) (Cl S) ys->H' t=some (.tup (oh (Mz S plan ys)))->Same H H'->Q (.ref t) H'
def A0r(v:V)(a:Addr)(S:Sh)(plan:Str->List Int)(ys:List Str)(H:Hp)(i:Nat)(Z:St)(H':Hp):Prop:=∃o2 o3 o4 o5:Option V,Z=[some v,some (.ref a),o2,o3,o4,o5]/\N5 S plan ys i=none/\Same H H'
def xw(v:V)(a:Addr)(S:Sh)(plan:Str->List Int)(w:Wr)(x:V)(q:Addr)(H:Hp)(i:Nat)(Z:St)(H':Hp):Prop:=∃o5:Option V,Z=[some v,some (.ref a),some (.str w.name),some x,some (.ref q),o5]/\Et S plan w i=none/\H'=H
theorem sc_law_judged:Bg ["_law_shop", "_law_plan", "_law_name", "_law_ware_here", "_law_left", "_law_day"] ["_law_shop", "_law_plan"] (Ai Ki):=by walk_at "sc"
theorem To(F:Fun K "_law_judged" "_law_judged" Ki f fd)(T:Txt mg)(Zty:Has P w K mg base "_law_order" 14 ["_law_shop"] sp_law_order)(Zui:Has P w K mg base "_law_ware" 1 ["_law_shop", "_law_name"] sp_law_ware)(Zsw:Has P w K mg base "_law_stocks" 4 ["_law_shop", "_law_plan", "_law_name"] sp_law_stocks):D3 P w K mg base CX0 15 f fd ["_law_shop", "_law_plan"] sp_law_judged:=by
 refine F.ok sc_law_judged (λvs H Q E h=>?_) (λcdv A outer s H vs Q E hr h=>?_)
 ·obtain⟨v,a,S,plan,sz,rfl,_⟩:=h
  rfl
 ·obtain⟨v,a,S,plan,sz,rfl,rs,pl,g,z0,z1,k⟩:=h
  have hu:=Ch hr
  refine⟨_,(A2 (D2 PassesOwn.never rfl (G8 (A9 Zty hr.z rfl (A3 (pv 0) A1))) (Ac (i:=2) sc_law_judged.nd rfl (Zzu rfl))
 (A2 (Bh (i:=3) sc_law_judged.nd rfl (Zzu rfl) (A9 Zui hr.z rfl (A3 (pv 0) (A3 (pv 2) A1))))
 (A2 (Bh (i:=4) sc_law_judged.nd rfl (Zzu rfl) (A9 Zsw hr.z rfl (A3 (pv 0) (A3 (pv 1) (A3 (pv 2) A1)))))
 (Aa (D2 PassesOwn.never rfl (Dy rfl T.Zud (A3 (Bd Dp rfl T.Zue Fu (A3 (pv 4) A1)) A1)) (Ac (i:=5) sc_law_judged.nd rfl (Zzu rfl))
 (A2 (Db (PW.pt (Os (C6 Xs (A8 hu (A8 hu (pv 1) (pv 2) (λ_ _=>rfl)) (pv 5) (λ_ _=>rfl)) A5 (Cc _)) (Ml (C6 (Lz hu) (pv 5) (A8 hu (pv 3) A5 (λ_ _=>rfl)) (Cc _))))) (Aa (Be (G9 (A3 D7 (A3 (pv 2) (A3 (pv 5) A1)))))) C5)
 (Aa (Db (C6 (Lz hu) (A8 hu (pv 4) (pv 5) (λ_ _=>rfl)) (A8 hu (pv 3) A5 (λ_ _=>rfl)) (Cc _)) (Aa (Be (G9 (A3 D7 (A3 (pv 2) (A3 (pv 5) A1)))))) C5))))))))
 (Aa (Be (G9 (A3 D7 A1))))),?_⟩
  have L:=Nk g
  walk_at "rd"
  refine⟨v,S,rfl,rs,L,g.len.2,λq ys H1 hq hq1 sb s1=>⟨q,rfl,_,hq1,?_⟩⟩
  have so:=M2 sb
  refine Er (Ip q _) (A0r v a S plan ys H1) ⟨_,_,_,_,rfl,rfl,Same.refl _⟩ (λi Z H' _ h=>by obtain⟨_,_,_,_,_,_,s⟩:=h;exact s _ _ hq1) (λi x Z H2 hi hx h=>?_) (λZ H2 h=>?_)
  ·obtain⟨o2,o3,o4,o5,rfl,hn,s2⟩:=h
   rw[Zzy] at hx
   cases en:ys[i]? with
   |none=>rw[en] at hx;cases hx
   |some nm =>
   rw[en] at hx
   have hx:V.str nm=x:=Zz3 hx
   subst hx
   have hnm:nm∈S.wares.map (·.name):=so.1.mem_iff.mp (Zzr en)
   have hil:i<ys.length:=(Zz4.mp en).1
   obtain⟨w,hw,rfl⟩:=Zzv.mp hnm
   have s02:=s1.trans s2
   walk_at "rd"
   obtain⟨n1,n2,n3,n4⟩:=g.days z0 z1
   obtain⟨kvs,hkv,hpl⟩:=id pl
   obtain⟨l,hv,hll,hlen,hbd⟩:=hpl w.name (Zzv.mpr ⟨w,hw,rfl⟩)
   have slen:(D1 S plan w).length=daysN S:=by unfold D1;rw[C1]
   have st:=Q1 L.nd hn en hw
   refine⟨v,S,w,sz,rfl,RD.same s02 _ _ rs,g,hw,λx3 H3 rx3 sm3=>?_⟩
   refine⟨v,a,S,plan,w,sz,rfl,RD.same (s02.trans sm3) _ _ rs,pl.same (s02.trans sm3),hw,g,z0,z1,λq4 H4 hq4 hq5 sm4=>?_⟩
   obtain⟨xe,c1,c2,rfl,hxe,_⟩:=Dq rx3
   have s24:=sm3.trans sm4
   have s04:=s02.trans s24
   have hxe4:=sm4 _ _ hxe
   have hl4:=s04 _ _ hll
   refine⟨q4,rfl,_,.inl hq5,by rw[Zzz,slen];omega,by rw[Zzz,slen];omega,?_⟩
   rw[Zzz,slen,show ((daysN S:Nat):Int).toNat=daysN S by omega]
   refine Er (L4 0 _) (xw v a S plan w (.ref xe) q4 H4) ⟨_,rfl,rfl,rfl⟩ (λ_ _ _ _ _=>trivial) (λj y Z H5 hj hy h=>?_) (λZ H5 h=>?_)
   ·obtain⟨o5,rfl,hf,rfl⟩:=h
    subst hy
    have e0:(0+(j:Int))=((j:Nat):Int):=by omega
    rw[e0]
    have ep:(plan w.name)[j]?=some ((plan w.name).getD j 0):=by rw[Zzo,Zzs (by omega)];rfl
    have es2:(D1 S plan w)[j]?=some ((D1 S plan w).getD j 0):=by rw[Zzo,Zzs (by omega)];rfl
    have fe:=Qg hlen hj hf
    have es:Et S plan w (j+1)=if Dx (plan w.name) w.lag=some j then some (("early" : Str),j) else if (D1 S plan w).getD j 0<w.floor then some (("below" : Str),j) else none:=by rw[Et,hf]
    have hkv4:=hkv.same s04
    have told:∀(kd:Str) (p2:Addr),Et S plan w (j+1)=some (kd,j)->H5 p2=none->Q (.ref p2) (upd H5 p2 (.tup [.str kd,.str w.name,.int j])):=λkd p2 ef hp2=>by
     have fa:=Mt ef (by omega)
     rw[fa] at st
     have ej:Mz S plan ys=some (kd,w.name,j):=So st (by omega)
     refine k p2 ys _ (Same.free s04 hp2) sb ?_ (s04.trans (A6 hp2))
     rw[ej]
     exact A0
    have i1:Ol H5 (.ref l) (.int j) (.int ((plan w.name).getD j 0)):=E7 hl4 (by rw[Zzy,ep];rfl)
    have i2:Ol H5 (.ref q4) (.int j) (.int ((D1 S plan w).getD j 0)):=E7 hq5 (by rw[Zzy,es2];rfl)
    have i3:Ol H5 (.ref xe) (.int 3) (.int w.floor):=Ak (j:=3) hxe4 rfl
    have rest:¬ ((j:Int)<w.lag/\0<(plan w.name).getD j 0)->if decide ((D1 S plan w).getD j 0<w.floor)=true then 3<=sizeLine/\∀p2:Addr,H5 p2=none->Q (.ref p2) (upd H5 p2 (.tup [.str (Str.ofString "below"),.str w.name,.int j])) else xw v a S plan w (.ref xe) q4 H5 (j+1) [some v,some (.ref a),some (.str w.name),some (.ref xe),some (.ref q4),some (.int j)] H5:=λhne=>by
     rw[if_neg (λz=>hne (fe.mp z))] at es
     refine Fj (λhb=>?_) (λhb=>?_)
     ·rw[if_pos (of_decide_eq_true hb)] at es
      exact⟨by decide,λp2 hp2=>told _ p2 es hp2⟩
     ·rw[if_neg (λz=>hb (decide_eq_true z))] at es
      exact⟨_,rfl,es,rfl⟩
    walk_at "rd"
    refine⟨_,L0 hkv4 hv,_,i1,_,rfl,Fj (λh1=>?_) (λh1=>?_)⟩
    ·have h1:=of_decide_eq_true h1
     refine⟨_,Ak (j:=1) hxe4 rfl,_,rfl,Fj (λh2=>?_) (λh2=>?_)⟩
     ·have h2:=of_decide_eq_true h2
      rw[if_pos (fe.mpr ⟨h2,h1⟩)] at es
      exact⟨by decide,λp2 hp2=>told _ p2 es hp2⟩
     ·exact⟨_,i2,_,i3,_,rfl,_,rfl,rest λc=>h2 (decide_eq_true c.1)⟩
    ·exact⟨_,i2,_,i3,_,rfl,_,rfl,rest λc=>h1 (decide_eq_true c.2)⟩
   ·obtain⟨o5,rfl,hf,rfl⟩:=h
    have ef:J5 S plan w=none:=hf
    rw[ef] at st
    exact⟨_,_,_,_,rfl,st,s2.trans s24⟩
  ·obtain⟨o2,o3,o4,o5,rfl,hn,s2⟩:=h
   rw[Zzz] at hn
   walk_at "rd"
   refine⟨by decide,λt ht=>?_⟩
   have u3:=A6 (o:=.tup [.str "good"]) ht
   refine k t ys _ (Same.free (s1.trans s2) ht) sb ?_ ((s1.trans s2).trans u3)
   have:Mz S plan ys=none:=hn
   rw[this]
   exact A0
end
set_option maxHeartbeats 4000000
section
variable {P:Program}{w:World}{K:Zzw}{mg:Str->Option Value}{base:Heap}{f:Addr}{fd:FuncData}{Pt:Addr}
theorem wd{S:Sh}(L:Lev S){w:Wr}(hw:w∈S.wares){i:Nat}(hi:i<daysN S):M7 S (LR S) w i=(C9 (daysN S) (Go w)).getD i 0+w.gives*Ka w.floor w.gives (C9 (daysN S) (Go w)) (Ck S (LR S) w.name) i - (Ck S (LR S) w.name).getD i 0:=by
 unfold M7
 rw[Ik hi]
 have e1:(LR S w.name).getD i 0=Ka w.floor w.gives (C9 (daysN S) (Go w)) (Ck S (LR S) w.name) i:=by rw[fv L hw,Uo hi]
 have e2:(Ck S (LR S) w.name).getD i 0=E6 S (LR S) w.name i:=by unfold Ck;rw[Ik hi]
 rw[e1,e2]
theorem Rq{S:Sh}(L:Lev S)(E:X0 S){w:Wr}(hw:w∈S.wares){i:Nat}(hi:i<daysN S)(hp:0<(LR S w.name).getD i 0):(D1 S (LR S) w).getD i 0 - w.gives<w.floor:=by
 have h:=Va (M7 S (LR S) w) (λj hj=>wd L hw hj) (i+1) hi
 rw[fv L hw,Uo hi] at hp
 have h2:=Z7 (show 0<w.gives by have:=(E.wb w hw).1.1;omega) hp
 unfold D1
 rw[Ik hi]
 omega
def Ia(xs:List Int)(d:Nat):Int:=upS (λi=>xs.getD i 0) d
theorem Pq{f g:Nat->Int}:∀d,(∀i,i<d->f i=g i)->upS f d=upS g d
 |0,_=>rfl
 |d+1,h=>by show upS f d+f d=upS g d+g d;rw[Pq d λi hi=>h i (by omega),h d (by omega)]
theorem Zf{f:Nat->Int}:∀d,(∀i,i<d->0<=f i)->0<=upS f d
 |0,_=>Zy3 _
 |d+1,h=>by
  show 0<=upS f d+f d
  have:=Zf d λi hi=>h i (by omega)
  have:=h d (by omega)
  omega
theorem P4{f:Nat->Int}:∀d,(∀i,i<d->f i=0)->upS f d=0
 |0,_=>rfl
 |d+1,h=>by show upS f d+f d=0;rw[P4 d λi hi=>h i (by omega),h d (by omega)];rfl
theorem Qu(f g:Nat->Int):∀d,upS (λi=>f i+g i) d=upS f d+upS g d
 |0=>rfl
 |d+1=>by show upS (λi=>f i+g i) d+(f d+g d)=upS f d+f d+(upS g d+g d);rw[Qu f g d];omega
theorem Qt(c:Int)(f:Nat->Int):∀d,upS (λi=>c*f i) d=c*upS f d
 |0=>by show (0:Int)=c*0;omega
 |d+1=>by show upS (λi=>c*f i) d+c*f d=c*(upS f d+f d);rw[Qt c f d,Int.mul_add]
theorem U4(f:Nat->Int)(k:Nat):∀d,upS (λi=>f (i+k)) d=upS f (d+k) - upS f k
 |0=>by show (0:Int)=upS f (0+k) - upS f k;rw[Zyk];omega
 |d+1=>by
  show upS (λi=>f (i+k)) d+f (d+k)=upS f (d+1+k) - upS f k
  rw[U4 f k d,show d+1+k=(d+k)+1 by omega]
  show _=upS f (d+k)+f (d+k) - upS f k
  omega
theorem Xb{α:Type}(f g:α->Int):∀l:List α,Cn (λx=>f x+g x) l=Cn f l+Cn g l
 |[]=>rfl
 |x::r=>by rw[Fv,Fv,Fv,Xb f g r];omega
theorem Pr{α:Type}{f g:α->Int}:∀{l:List α},(∀x∈l,f x<=g x)->Cn f l<=Cn g l
 |[],_=>Zy3 _
 |x::r,h=>by
  rw[Fv,Fv]
  have:=h x Zzf
  have:=Pr λy hy=>h y (Zzd _ hy)
  omega
theorem Rl{α:Type}(F:Nat->α->Int)(l:List α):∀d,upS (λi=>Cn (F i) l) d=Cn (λx=>upS (λi=>F i x) d) l
 |0=>(U9 λ_ _=>rfl).symm
 |d+1=>by
  show upS (λi=>Cn (F i) l) d+Cn (F d) l=_
  rw[Rl F l d,<- Xb]
  rfl
theorem zc(row:List Int)(lag:Int)(d:Nat):bAt row lag d=row.getD (d+lag.toNat) 0:=by
 unfold bAt
 split
 ·rfl
 ·rw[Zzo,Zy9 (by omega)]
  rfl
theorem V1(row:List Int)(lag:Int)(d:Nat):upS (bAt row lag) d=Ia row (d+lag.toNat) - Ia row lag.toNat:=by
 unfold Ia
 rw[<- U4 (λi=>row.getD i 0)]
 exact Pq d λi _=>zc row lag i
theorem jl(plan:Str->List Int)(nm:Str)(w:Wr)(d:Nat):upS (λi=>pAt plan nm i w) d=Cn (λp:Str×Int=>if p.1=nm then p.2*upS (bAt (plan w.name) w.lag) d else 0) w.parts:=by
 unfold pAt
 rw[Rl]
 refine M8 λp _=>?_
 by_cases e:p.1=nm
 ·rw[if_pos e,<- Qt]
  exact Pq d λi _=>by rw[if_pos e]
 ·rw[if_neg e]
  exact P4 d λi _=>by rw[if_neg e]
theorem Z0(S:Sh)(plan:Str->List Int)(nm:Str)(d:Nat):upS (E6 S plan nm) d=upS (λi=>Cn (wAt nm i) S.wants) d+Cn (λw:Wr=>Cn (λp:Str×Int=>if p.1=nm then p.2*upS (bAt (plan w.name) w.lag) d else 0) w.parts) S.wares:=by
 have:E6 S plan nm=λi=>Cn (wAt nm i) S.wants+Cn (pAt plan nm i) S.wares:=rfl
 rw[this,Qu,Rl (λi w=>pAt plan nm i w)]
 congr 1
 exact M8 λw _=>jl plan nm w d
theorem iq{S:Sh}(E:X0 S){plan plan':Str->List Int}{nm:Str}(h:∀t∈S.wares,∀p∈t.parts,p.1=nm->∀d,upS (bAt (plan t.name) t.lag) d<=upS (bAt (plan' t.name) t.lag) d)(d:Nat):upS (E6 S plan nm) d<=upS (E6 S plan' nm) d:=by
 rw[Z0,Z0]
 have:Cn (λw:Wr=>Cn (λp:Str×Int=>if p.1=nm then p.2*upS (bAt (plan w.name) w.lag) d else 0) w.parts) S.wares<=Cn (λw:Wr=>Cn (λp:Str×Int=>if p.1=nm then p.2*upS (bAt (plan' w.name) w.lag) d else 0) w.parts) S.wares:=by
  refine Pr λw hw=>Pr λp hp=>?_
  by_cases e:p.1=nm
  ·rw[if_pos e,if_pos e]
   exact Zws (h w hw p hp e d) (by have:=((E.wb w hw).2.2.2.2 p hp).1;omega)
  ·rw[if_neg e,if_neg e]
   exact Zy3 _
 omega
theorem Ub(S:Sh)(plan:Str->List Int)(w:Wr)(d:Nat):upS (M7 S plan w) d=upS (Go w) d+w.gives*Ia (plan w.name) d - upS (E6 S plan w.name) d:=by
 have e:M7 S plan w=λi=>Go w i+(w.gives*(plan w.name).getD i 0+(-1)*E6 S plan w.name i):=by
  funext i
  unfold M7
  omega
 rw[e,Qu,Qu (λi=>w.gives*(plan w.name).getD i 0),Qt,Qt]
 unfold Ia
 omega
theorem T3{xs:List Int}{n:Nat}(h:xs.length<=n):∀k,Ia xs (n+k)=Ia xs n
 |0=>rfl
 |k+1=>by
  show Ia xs (n+k)+xs.getD (n+k) 0=Ia xs n
  rw[T3 h k,Zzo,Zy9 (by omega)]
  show Ia xs n+0=_
  omega
structure fw(S:Sh)(plan:Str->List Int):Prop where
 len:∀w∈S.wares,(plan w.name).length=daysN S
 nn:∀w∈S.wares,∀i,0<=(plan w.name).getD i 0
 early:∀w∈S.wares,∀i:Nat,(i:Int)<w.lag->(plan w.name).getD i 0=0
 floor:∀w∈S.wares,∀i,i<daysN S->w.floor<=upS (M7 S plan w) (i+1)
theorem Ur{S:Sh}(L:Lev S)(E:X0 S){plan:Str->List Int}(hk:fw S plan):∀n:Nat,∀w∈S.wares,lv S w.name<=n->∀d,Ia (LR S w.name) d<=Ia (plan w.name) d:=by
 intro n
 induction n using Nat.strongRecOn with
 |_ n ih =>
 intro w hw hl
 have nd:∀d,upS (E6 S (LR S) w.name) d<=upS (E6 S plan w.name) d:=iq E λt ht p hp e d=>by
  have h1:=Qy L ht hp
  rw[e] at h1
  have h0:=Um S t.name
  have q:=ih (lv S t.name).toNat (by omega) t ht (by omega)
  rw[V1,V1]
  have z1:Ia (plan t.name) t.lag.toNat=0:=P4 _ λi hi=>hk.early t ht i (by omega)
  have z2:0<=Ia (LR S t.name) t.lag.toNat:=Zf _ λi _=>(Wp (B:=10^600) (by decide) (λx hx=>⟨(Vc E _ x hx).1,Int.le_of_lt (Vc E _ x hx).2⟩) i).1
  have z3:=q t.lag.toNat
  have z4:=q (d+t.lag.toNat)
  omega
 have gp:0<w.gives:=by have:=(E.wb w hw).1.1;omega
 have low:∀d,d<=daysN S->Ia (LR S w.name) d<=Ia (plan w.name) d:=by
  intro d
  induction d with
  |zero=>exact λ_=>Zy3 _
  |succ d ihd =>
   intro hd
   have q:=ihd (by omega)
   have z:=hk.nn w hw d
   by_cases hp:0<(LR S w.name).getD d 0
   ·have h1:=Rq L E hw (i:=d) (by omega) hp
    unfold D1 at h1
    rw[Ik (by omega),Ub] at h1
    have h2:=hk.floor w hw d (by omega)
    rw[Ub] at h2
    have h3:=nd (d+1)
    have h4:w.gives*Ia (LR S w.name) (d+1)<w.gives*(Ia (plan w.name) (d+1)+1):=by rw[Int.mul_add];omega
    have h5:=Int.lt_of_mul_lt_mul_left h4 (by omega)
    omega
   ·show Ia (LR S w.name) d+(LR S w.name).getD d 0<=Ia (plan w.name) d+(plan w.name).getD d 0
    omega
 intro d
 by_cases hd:d<=daysN S
 ·exact low d hd
 ·have e:d=daysN S+(d - daysN S):=by omega
  rw[e,T3 (by rw[T7 L hw];exact Zzm _),T3 (by rw[hk.len w hw];exact Zzm _)]
  exact low _ (Zzm _)
theorem Yh{S:Sh}(L:Lev S)(E:X0 S){plan:Str->List Int}(hk:fw S plan){w:Wr}(hw:w∈S.wares):Dx (LR S w.name) w.lag=none:=by
 cases e:Dx (LR S w.name) w.lag with
 |none=>rfl
 |some d =>
  have h:=Jw (show Gm (LR S w.name) w.lag (LR S w.name).length=some d from e)
  have q:=Ur L E hk (lv S w.name).toNat w hw (by have:=Um S w.name;omega) (d+1)
  have z1:Ia (plan w.name) (d+1)=0:=P4 _ λi hi=>hk.early w hw i (by omega)
  have z2:0<=Ia (LR S w.name) d:=Zf _ λi _=>(Wp (B:=10^600) (by decide) (λx hx=>⟨(Vc E _ x hx).1,Int.le_of_lt (Vc E _ x hx).2⟩) i).1
  have z3:Ia (LR S w.name) (d+1)=Ia (LR S w.name) d+(LR S w.name).getD d 0:=rfl
  omega
theorem Lx{S:Sh}{plan:Str->List Int}{w:Wr}(h:J5 S plan w=none):∀n,n<=daysN S->Et S plan w n=none:=λn hn=>by
 cases q:Et S plan w n with
 |none=>rfl
 |some x=>rw[Mt q hn] at h;cases h
theorem j5{S:Sh}(L:Lev S){plan:Str->List Int}{ys:List Str}(hy:∀w∈S.wares,w.name∈ys)(h:Mz S plan ys=none)(hl:∀w∈S.wares,(plan w.name).length=daysN S)(hn:∀w∈S.wares,∀i,0<=(plan w.name).getD i 0):fw S plan:=by
 have fa:∀w∈S.wares,J5 S plan w=none:=λw hw=>by
  obtain⟨i,hi⟩:=Zv7.mp (hy w hw)
  have il:i<ys.length:=(Zz4.mp hi).1
  have z:∀k,k<=ys.length->N5 S plan ys k=none:=λk hk=>by
   cases q:N5 S plan ys k with
   |none=>rfl
   |some x=>rw[So q hk] at h;cases h
  have z1:=z (i+1) (by omega)
  rw[Q1 L.nd (z i (by omega)) hi hw] at z1
  cases q:J5 S plan w with
  |none=>rfl
  |some x=>rw[q] at z1;cases z1
 refine⟨hl,hn,λw hw i hi=>?_,λw hw i hi=>?_⟩
 ·have hz:=hn w hw i
  by_cases il:i<daysN S
  ·have f:=Lx (fa w hw) i (by omega)
   have f1:=Lx (fa w hw) (i+1) (by omega)
   rw[Et,f] at f1
   have z2:(if Dx (plan w.name) w.lag=some i then some (("early" : Str),i) else if (D1 S plan w).getD i 0<w.floor then some (("below" : Str),i) else none)=none:=f1
   have z3:¬ Dx (plan w.name) w.lag=some i:=λz=>by rw[if_pos z] at z2;cases z2
   rw[Qg (hl w hw) il f] at z3
   by_cases z4:0<(plan w.name).getD i 0
   ·exact absurd ⟨hi,z4⟩ z3
   ·omega
  ·rw[Zzo,Zy9 (by rw[hl w hw];omega)]
   rfl
 ·have f:=Lx (fa w hw) i (by omega)
  have f1:=Lx (fa w hw) (i+1) (by omega)
  rw[Et,f] at f1
  have z2:(if Dx (plan w.name) w.lag=some i then some (("early" : Str),i) else if (D1 S plan w).getD i 0<w.floor then some (("below" : Str),i) else none)=none:=f1
  have e:(D1 S plan w).getD i 0=upS (M7 S plan w) (i+1):=by unfold D1;rw[Ik hi]
  rw[e] at z2
  by_cases z4:upS (M7 S plan w) (i+1)<w.floor
  ·rw[if_pos z4] at z2
   split at z2<;>cases z2
  ·omega
end
set_option maxHeartbeats 4000000
section
variable {P:Program}{w:World}{K:Zzw}{mg:Str->Option Value}{base:Heap}{f:Addr}{fd:FuncData}{Pt:Addr}
theorem wc{cs:List (Int×Int)}{sz:Int}(h:Zd sz cs)(d:Nat):0<=Cn (cAt d) cs:=P7 λp hp=>by
 unfold cAt
 split
 ·exact(h.2 p hp).2.1
 ·exact Zy3 _
theorem yr{n:Nat}{i:Int}(h:i.toNat<n)(h0:0<=i):ixN n i=some i.toNat:=by
 unfold ixN
 rw[if_pos h0,if_pos (by omega)]
theorem kt{B:Int}:∀{row:List Int},(∀y∈row,0<=y/\y<=B)->0<=row.sum/\row.sum<=row.length*B
 |[],_=>by simp
 |y::r,h=>by
  have h1:=h y Zzf
  have ih:=kt λz hz=>h z (Zzd _ hz)
  rw[List.sum_cons,Zzk]
  refine⟨by omega,?_⟩
  rw[show ((r.length+1:Nat):Int)*B=r.length*B+B by rw[Int.natCast_add,Int.add_mul];omega]
  omega
def sp_law_lots:Sp:=λvs H Q _=>∃(x:V) (q st:Addr) (w:Wr) (gone:List Int) (sz G:Int),vs=[x,.ref q,.ref st]/\RD H w.d x/\H q=some (.lst (gone.map V.int))/\q≠st/\StOk2 H st/\WB w/\Zd sz w.coming/\(1<=gone.length/\gone.length<=9)/\(∀y∈gone,0<=y/\y<=G) /\
 ∀(p:Addr) (row:List Int) H',H p=none->H' p=some (.lst (row.map V.int))->row.length=gone.length->(∀y∈row,0<=y/\y<=9*(w.floor+G+3))->StOk2 H' st->But st H H'->Q (.ref p) H'
def xt(x:V)(q st p:Addr)(w:Wr)(G:Int)(H:Hp)(i:Nat)(Z:St)(H':Hp):Prop:=∃(o5 o6:Option V) (lf:Int) (row:List Int),Z=[some x,some (.ref q),some (.ref st),some (.int lf),some (.ref p),o5,o6,none]/\0<=lf/\H' p=some (.lst (row.map V.int))/\row.length=i/\(∀y∈row,0<=y/\y<=w.floor+G+3)/\StOk2 H' st/\But st H H'
theorem sc_law_lots:Bg ["_law_ware_here", "_law_gone", "_law_state", "_law_left", "_law_row", "_law_day", "_law_lots_here", "_law_total"] ["_law_ware_here", "_law_gone", "_law_state"] (Ai Me):=by walk_at "sc"
theorem Y2(F:Fun K "_law_lots" "_law_lots" Me f fd)(T:Txt mg)(Zum:Has P w K mg base "_law_next" 1 ["_law_state", "_law_many"] sp_law_next):D3 P w K mg base CX0 2 f fd ["_law_ware_here", "_law_gone", "_law_state"] sp_law_lots:=by
 refine F.ok sc_law_lots (λvs H Q E h=>?_) (λcdv A outer s H vs Q E hr h=>?_)
 ·obtain⟨x,q,st,w,gone,sz,G,rfl,_⟩:=h
  rfl
 ·obtain⟨x,q,st,w,gone,sz,G,rfl,rx,hq,qst,hst,wb,hcom,hgl,hgo,k⟩:=h
  have hu:=Ch hr
  refine⟨_,(A2 (Bh (i:=3) sc_law_lots.nd rfl (Zzu rfl) (A8 hu (pv 0) A5 (λ_ _=>rfl)))
 (A2 (Bh (i:=4) sc_law_lots.nd rfl (Zzu rfl) (Dl A1))
 (A2 (D2 PassesOwn.never rfl (Dy rfl T.Zud (A3 (Bd Dp rfl T.Zue Fu (A3 (pv 1) A1)) A1)) (Ac (i:=5) sc_law_lots.nd rfl (Zvu rfl))
 (A2 (Bh (i:=3) sc_law_lots.nd rfl (Zzu rfl) (C7 Ou (C7 Ds (pv 3) (Bd (Q5 rfl) rfl T.Zrw bj (A3 (D5 (own:=["_law_when", "_law_amount_here"]) (cap:=[5]) rfl (Du rfl) Io (E5 (A8 hu (pv 0) A5 (λ_ _=>rfl)))
 (λ_ _ _ _ _ _=>⟨(Gk (n:=2) rfl (C2 (Ac (i:=0) (of_decide_eq_true rfl) rfl (Zzu rfl) (.inr rfl)) (C2 (Ac (i:=1) (of_decide_eq_true rfl) rfl (Zzu rfl) (.inr rfl)) Fn))),(Lu (C6 (Fz hu) (pv 0) (pv 2) (Cc _))),(pv 1)⟩)) A1))) (A8 hu (pv 1) (pv 5) (λ_ _=>rfl))))
 (A2 (Bh (i:=6) sc_law_lots.nd rfl (Zzu rfl) (Bd (Oe rfl) rfl T.Zsg Ox (A3 A5 (A3 (Xp Rm (C7 Nb (C7 Ou (pv 3) (A8 hu (pv 0) A5 (λ_ _=>rfl))) (A8 hu (pv 0) A5 (λ_ _=>rfl)))) A1))))
 (A2 (Db (PW.pt (Os (C6 (Fz hu) (A9 Zum hr.z rfl (A3 (pv 2) (A3 A5 A1))) A5 (Cc _)) (Ml (C6 xi (pv 5) (A8 hu (pv 0) A5 (λ_ _=>rfl)) (Cc _))))) (Aa (Bh (i:=6) sc_law_lots.nd rfl (Zzu rfl) (C7 Ds (C7 Ds (pv 6) A5) (A9 Zum hr.z rfl (A3 (pv 2) (A3 A5 A1)))))) C5)
 (A2 (Fm (Gf Zyl Zy2 Zy1 Fi (pv 4) (A3 (pv 6) A1)))
 (Aa (Bh (i:=3) sc_law_lots.nd rfl (Zzu rfl) (C7 Ds (pv 3) (C7 J0 (A8 hu (pv 0) A5 (λ_ _=>rfl)) (pv 6))))))))))
 (A2 (Db (C6 (Fz hu) (A9 Zum hr.z rfl (A3 (pv 2) (A3 A5 A1))) A5 (Cc _)) (A2 (Bh (i:=7) sc_law_lots.nd rfl (Zzu rfl) (Bd (Q5 rfl) rfl T.Zrw bj (A3 (pv 4) A1)))
 (A2 (G7 (own:=["_law_one"]) (cap:=[]) (i:=4) rfl (Du rfl) (C8 (by decide)) sc_law_lots.nd rfl rfl (G8 (pv 4))
 (λ_ _ _ _ _ _=>⟨(Ac (i:=0) (of_decide_eq_true rfl) rfl (Zzu rfl) (.inr rfl)),D0,A5⟩))
 (Aa (Je (pv 7) (Jx (pv 4) (Bd (Od rfl) rfl T.Zs1 Wu (A3 (C7 Ou (Bd Dp rfl T.Zue Fu (A3 (pv 4) A1)) A5) (A3 (A8 hu (pv 0) A5 (λ_ _=>rfl)) A1))) Jt))))) C5)
 (Aa (Be (pv 4))))))),?_⟩
  obtain⟨xe,c1,c2,rfl,hxe,rc,_⟩:=Dq rx
  obtain⟨cb,cv,rfl,hcb,rcv⟩:=RD.tup_of rc
  have hcl:=Cm rcv
  have hc12:=hcom.1
  walk_at "rd"
  refine⟨_,Ak (j:=4) hxe rfl,Zy0 _,λp hp=>?_⟩
  have u0:=A6 (o:=.lst []) hp
  have nxst:xe≠st:=λz=>by obtain⟨a,b,e⟩:=hst;rw[z,e] at hxe;cases hxe
  have ncst:cb≠st:=λz=>by obtain⟨a,b,e⟩:=hst;rw[z,e] at hcb;cases hcb
  have npst:p≠st:=λz=>by obtain⟨a,b,e⟩:=hst;rw[z,e] at hp;cases hp
  refine⟨_,.inl (u0 _ _ hq),?_⟩
  rw[Zzz]
  refine⟨by omega,by omega,?_⟩
  rw[show ((gone.length:Nat):Int).toNat=gone.length by omega]
  refine Er (L4 0 _) (xt (.ref xe) q st p w G H) ⟨_,_,w.stock,[],rfl,wb.stock.1,A0,rfl,(λy hy=>by cases hy),hst.same u0,N8 u0⟩ (λ_ _ _ _ _=>trivial) (λi y Z H1 hi hy h=>?_) (λZ H1 h=>?_)
  ·obtain⟨o5,o6,lf,row,rfl,l0,hp1,hrl,hrow,s1,b1⟩:=h
   subst hy
   rw[show (0+(i:Int))=((i:Nat):Int) by omega]
   have hxe1:=b1 _ _ nxst hxe
   have hcb1:=b1 _ _ ncst hcb
   have hq1:=b1 _ _ qst hq
   have hgv:=wb.gives
   walk_at "rd"
   refine⟨_,Ak (j:=5) hxe1 rfl,cb,rfl,cv,hcb1,?_⟩
   refine Jz (Fx cb _) (Bf (by omega)) (A0t i w.coming H1) ⟨rfl,Same.refl _⟩ (λj acc H' _ h=>h.2 _ _ hcb1) (λj acc H' h=>?_) (λj x acc H6 hj hx h=>?_) (λacc H6 h r hr6=>?_)
   ·rw[h.1,Zzz,Zzz]
    exact Zyf (Zxo _ _) (by rw[Zye];omega)
   ·obtain⟨rfl,s6⟩:=h
    obtain⟨pp,hpp,rpp⟩:=D4 rcv hx
    obtain⟨pe,rfl,hpe⟩:=T6 rpp
    refine gt2 (s6 _ _ (b1 _ _ (λz=>by obtain⟨a,b,e⟩:=hst;rw[z,e] at hpe;cases hpe) hpe)) ?_
    walk_at "rd"
    refine⟨rfl,Fj (λhz=>?_) (λhz=>?_)⟩
    ·have hz:pp.1=(i:Int):=by have:=of_decide_eq_true hz;omega
     refine⟨?_,s6⟩
     rw[Zyx,hpp,Zys,Zzq,Zzq]
     show _=_++Zy4 V.int (Zy4 (λx=>x.2) (Zwm _ [pp]))
     rw[Zxr,if_pos (decide_eq_true hz)]
     rfl
    ·have hz:¬ pp.1=(i:Int):=λe=>hz (decide_eq_true (by omega))
     refine⟨?_,s6⟩
     rw[Zyx,hpp,Zys,Zzq,Zzq]
     show _=_++Zy4 V.int (Zy4 (λx=>x.2) (Zwm _ [pp]))
     rw[Zxr,if_neg (by rw[decide_eq_false hz];decide)]
     exact(Zzn _).symm
   ·obtain⟨rfl,s6⟩:=h
    rw[hcl,Zyt]
    have hr7:upd H6 r (.lst (((w.coming.filter λp=>decide (p.1=(i:Int))).map (·.2)).map V.int)) r=some (.lst (((w.coming.filter λp=>decide (p.1=(i:Int))).map (·.2)).map V.int)):=A0
    have u6:=s6.trans (A6 (o:=.lst (((w.coming.filter λp=>decide (p.1=(i:Int))).map (·.2)).map V.int)) hr6)
    have hs:=Vf i w.coming
    generalize (w.coming.filter λp=>decide (p.1=(i:Int))).map (·.2)=ms at hr7 u6 hs
    generalize upd H6 r (.lst (ms.map V.int))=H7 at hr7 u6
    have hs0:=wc hcom i
    rw[<- hs] at hs0
    have hxe7:=u6 _ _ hxe1
    have hp7:=u6 _ _ hp1
    have s7:=s1.same u6
    have b7:But st H H7:=b1.trans (N8 u6)
    have eg:gone[i]?=some (gone.getD i 0):=by rw[Zzo,Zzs hi];rfl
    have hgd:=hgo _ (Zzr eg)
    refine⟨r,rfl,ms,hr7,_,E7 (u6 _ _ hq1) (by rw[Zzy,eg];rfl),_,rfl,_,Ak (j:=3) hxe7 rfl,_,rfl,_,Ak (j:=2) hxe7 rfl,_,rfl,by omega,Zwx hgv.2 (by decide +kernel),?_⟩
    have el:(if -((lf+ms.sum - gone.getD i 0 - w.floor) / w.gives) > 0 then -((lf+ms.sum - gone.getD i 0 - w.floor) / w.gives) else 0)=Dt (-(lf+ms.sum - gone.getD i 0 - w.floor)) w.gives:=by
     unfold Dt
     rw[Int.neg_neg]
    rw[el]
    have l1:=Up (-(lf+ms.sum - gone.getD i 0 - w.floor)) w.gives
    have l2:=Oo (m:=-(lf+ms.sum - gone.getD i 0 - w.floor)) (g:=w.gives) (by omega)
    have wf:=wb.floor.1
    have l3:Dt (-(lf+ms.sum - gone.getD i 0 - w.floor)) w.gives<=w.floor+G:=by
     by_cases hm:0<=-(lf+ms.sum - gone.getD i 0 - w.floor)
     ·have:=Uq (g:=w.gives) (by omega) hm
      omega
     ·rw[Qe (by omega) (by omega)]
      omega
    generalize Dt (-(lf+ms.sum - gone.getD i 0 - w.floor)) w.gives=Lh at l1 l2 l3
    have fin:∀(H8:Hp) (lots:Int),0<=lots->Lh<=lots->lots<=Lh+3->H8 p=some (.lst (row.map V.int))->StOk2 H8 st->But st H H8->xt (.ref xe) q st p w G H (i+1) [some (.ref xe),some (.ref q),some (.ref st),some (.int (lf+ms.sum - gone.getD i 0+w.gives*lots)),some (.ref p),some (.int i),some (.int lots),none] (upd H8 p (.lst (row.map V.int++[.int lots]))):=λH8 lots m0 m1 m2 hp8 s8 b8=>by
     have m3:w.gives*Lh<=w.gives*lots:=Zws m1 (by omega)
     refine⟨_,_,_,row++[lots],rfl,by omega,?_,by rw[Zym,hrl];rfl,λy hy=>?_,?_,λb o nb e=>?_⟩
     ·rw[A0,Zzq];rfl
     ·rcases Zyj.mp hy with z | z
      ·exact hrow y z
      ·rw[Zyw.mp z];exact⟨m0,by omega⟩
     ·obtain⟨x,y,e⟩:=s8
      exact⟨x,y,by rw[A7 (Zzi npst)];exact e⟩
     ·rw[A7 (A4 e hp)]
      exact b8 _ _ nb e
    have hx8:∀{Hx:Hp} (z:List V),Hx p=some (.lst (row.map V.int))->Hx xe=some (.tup [.str w.name,.int w.lag,.int w.gives,.int w.floor,.int w.stock,.ref cb,c2])->upd Hx p (.lst z) xe=some (.tup [.str w.name,.int w.lag,.int w.gives,.int w.floor,.int w.stock,.ref cb,c2]):=λz h1 h2=>by rw[A7 (λy=>by rw[y,h1] at h2;cases h2)];exact h2
    refine⟨st,6,rfl,s7,by decide,by decide +kernel,λd H8 d0 d1 s8 b8=>⟨rfl,?_⟩⟩
    have hp8:=b8 _ _ npst hp7
    have hxe8:=b8 _ _ nxst hxe7
    have rl:(row.map V.int).length<sizeLine:=Zya (m:=1000) (by rw[Zzz];omega) (by decide)
    refine Fj (λc=>⟨_,Ak (j:=1) hxe8 rfl,_,rfl,Fj (λc2=>⟨st,3,rfl,s8,by decide,by decide +kernel,λe H9 e0 e1 s9 b9=>?_⟩) (λc2=>?_)⟩) (λc=>?_)
    ·have hp9:=b9 _ _ npst hp8
     have hxe9:=b9 _ _ nxst hxe8
     exact⟨e,rfl,G2 hp9,_,hp9,rl,_,Ak (j:=2) (hx8 _ hp9 hxe9) rfl,_,rfl,(.inl (.inl ⟨by omega,by omega⟩)),fin H9 _ (by omega) (by omega) (by omega) hp9 s9 ((b7.trans b8).trans b9)⟩
    ·exact⟨G2 hp8,_,hp8,rl,_,Ak (j:=2) (hx8 _ hp8 hxe8) rfl,_,rfl,(.inl (.inl ⟨by omega,by omega⟩)),fin H8 _ (by omega) (by omega) (by omega) hp8 s8 (b7.trans b8)⟩
    ·exact⟨G2 hp8,_,hp8,rl,_,Ak (j:=2) (hx8 _ hp8 hxe8) rfl,_,rfl,(.inl (.inl ⟨by omega,by omega⟩)),fin H8 _ (by omega) (by omega) (by omega) hp8 s8 (b7.trans b8)⟩
  ·obtain⟨o5,o6,lf,row,rfl,l0,hp1,hrl,hrow,s1,b1⟩:=h
   walk_at "rd"
   refine⟨st,4,rfl,s1,by decide,by decide +kernel,λd H2 d0 d1 s2 b2=>⟨rfl,?_⟩⟩
   have hp2:=b2 _ _ npst hp1
   have hxe2:=b2 _ _ nxst (b1 _ _ nxst hxe)
   have b02:=b1.trans b2
   have hl:=hgl
   have hlen:row.length=gone.length:=hrl
   have g0:0<=G:=by
    cases hg:gone with
    |nil=>rw[hg] at hl;exact absurd hl.1 (by decide)
    |cons y r=>have:=hgo y (by rw[hg];exact Zzf);omega
   have f0:=wb.floor.1
   have rb:∀y∈row,0<=y/\y<=9*(w.floor+G+3):=λy hy=>by have:=hrow y hy;omega
   refine Fj (λc=>?_) (λc=>k p row H2 hp hp2 hrl rb s2 b02)
   refine⟨row,hp2,_,hp2,Da (Ip p _) (Bf (by rw[Zzz];omega)) (λH' s'=>s' _ _ hp2) ((row.map λ_=>(0:Int)).map V.int) (by rw[Zzz,Zzz,Zzz]) (λj y H' hj hy s' N M hN=>?_) (λH3 s3 q3 hq3=>?_)⟩
   ·walk_at "rd"
    refine hN _ _ s' ?_
    rw[Zzz] at hj
    rw[Zzy,Zzy,Zzs hj]
    rfl
   ·have u3:=A6 (o:=.lst ((row.map λ_=>(0:Int)).map V.int)) hq3
    have n3:q3≠st:=λz=>by obtain⟨x,y,e⟩:=s2;rw[z,s3 _ _ e] at hq3;cases hq3
    have h3:H q3=none:=by
     cases e:H q3 with
     |none=>rfl
     |some o=>rw[s3 _ _ (b02 _ _ n3 e)] at hq3;cases hq3
    have lag0:=wb.lag.1
    have e9:((row.map λ_=>(0:Int)).map V.int).length=row.length:=by rw[Zzz,Zzz]
    obtain⟨sm1,sm2⟩:=kt (B:=w.floor+G+3) hrow
    have sm3:row.length*(w.floor+G+3)<=9*(w.floor+G+3):=Int.mul_le_mul_of_nonneg_right (by omega) (by omega)
    refine⟨q3,rfl,_,.inl A0,_,Ak (j:=1) (u3 _ _ (s3 _ _ hxe2)) rfl,_,rfl,q3,rfl,_,A0,_,yr (by rw[e9];split<;>omega) (by rw[e9];split<;>omega),?_⟩
    generalize (if w.lag<((((row.map λ_=>(0:Int)).map V.int).length:Nat):Int) - 1 then w.lag else ((((row.map λ_=>(0:Int)).map V.int).length:Nat):Int) - 1).toNat=j
    refine k q3 ((row.map λ_=>(0:Int)).set j row.sum) _ h3 (by rw[A0,Zvh]) (by rw[List.length_set,Zzz];exact hrl) (λy hy=>?_) ?_ (λb o nb e=>?_)
    ·rcases List.mem_or_eq_of_mem_set hy with z | z
     ·obtain⟨_,_,rfl⟩:=Zzv.mp z
      exact⟨Zy3 _,by omega⟩
     ·rw[z]
      exact⟨sm1,by omega⟩
    ·obtain⟨x,y,e⟩:=s2
     exact⟨x,y,by rw[A7 (Zzi n3),A7 (Zzi n3)];exact s3 _ _ e⟩
    ·rw[A7 (A4 e h3),A7 (A4 e h3)]
     exact s3 _ _ (b02 _ _ nb e)
def sp_law_no_more:Sp:=λvs H Q _=>∃(a b:Addr) (xs ys:List Int),vs=[.ref a,.ref b]/\H a=some (.lst (xs.map V.int))/\H b=some (.lst (ys.map V.int))/\xs.length=ys.length/\xs.length<=1000/\(∀d,Ia xs d<=Ia ys d)/\Q (.bl true) H
def A0o(a b:Addr)(xs ys:List Int)(H:Hp)(i:Nat)(Z:St)(H':Hp):Prop:=∃o4:Option V,Z=[some (.ref a),some (.ref b),some (.int (Ia xs i)),some (.int (Ia ys i)),o4]/\H'=H
theorem sc_law_no_more:Bg ["_law_one", "_law_other_here", "_law_total", "_law_more", "_law_day"] ["_law_one", "_law_other_here"] (Ai Jl):=by walk_at "sc"
theorem S9(F:Fun K "_law_no_more" "_law_no_more" Jl f fd)(T:Txt mg):D3 P w K mg base CX0 1 f fd ["_law_one", "_law_other_here"] sp_law_no_more:=by
 refine F.ok sc_law_no_more (λvs H Q E h=>?_) (λcdv A outer s H vs Q E hr h=>?_)
 ·obtain⟨a,b,xs,ys,rfl,_⟩:=h
  rfl
 ·obtain⟨a,b,xs,ys,rfl,ha,hb,hl,hl2,hc,k⟩:=h
  have hu:=Ch hr
  refine⟨_,(A2 (Bh (i:=2) sc_law_no_more.nd rfl (Zzu rfl) A5)
 (A2 (Bh (i:=3) sc_law_no_more.nd rfl (Zzu rfl) A5)
 (A2 (D2 PassesOwn.never rfl (Dy rfl T.Zud (A3 (Bd Dp rfl T.Zue Fu (A3 (pv 0) A1)) A1)) (Ac (i:=4) sc_law_no_more.nd rfl (Zzu rfl))
 (A2 (Bh (i:=2) sc_law_no_more.nd rfl (Zzu rfl) (C7 Ds (pv 2) (A8 hu (pv 0) (pv 4) (λ_ _=>rfl))))
 (A2 (Bh (i:=3) sc_law_no_more.nd rfl (Zzu rfl) (C7 Ds (pv 3) (A8 hu (pv 1) (pv 4) (λ_ _=>rfl))))
 (Aa (Db (C6 Xs (pv 2) (pv 3) (Cc _)) (Aa (Be K6)) C5)))))
 (Aa (Be K6))))),?_⟩
  walk_at "rd"
  refine⟨_,.inl ha,?_⟩
  rw[Zzz]
  refine⟨by omega,by omega,?_⟩
  rw[show ((xs.length:Nat):Int).toNat=xs.length by omega]
  refine Er (L4 0 _) (A0o a b xs ys H) ⟨_,rfl,rfl⟩ (λ_ _ _ _ _=>trivial) (λi y Z H1 hi hy h=>?_) (λZ H1 h=>?_)
  ·obtain⟨o4,rfl,rfl⟩:=h
   subst hy
   rw[show (0+(i:Int))=((i:Nat):Int) by omega]
   walk_at "rd"
   have e1:xs[i]?=some (xs.getD i 0):=by rw[Zzo,Zzs hi];rfl
   have e2:ys[i]?=some (ys.getD i 0):=by rw[Zzo,Zzs (by omega)];rfl
   refine⟨_,E7 ha (by rw[Zzy,e1];rfl),_,rfl,_,E7 hb (by rw[Zzy,e2];rfl),_,rfl,?_⟩
   have h1:Ia xs (i+1)=Ia xs i+xs.getD i 0:=rfl
   have h2:Ia ys (i+1)=Ia ys i+ys.getD i 0:=rfl
   have h3:=hc (i+1)
   rw[if_neg (by rw[decide_eq_true_eq];omega)]
   exact⟨_,rfl,rfl⟩
  ·obtain⟨o4,rfl,rfl⟩:=h
   walk_at "rd"
   exact k
end
set_option maxHeartbeats 4000000
section
variable {P:Program}{w:World}{K:Zzw}{mg:Str->Option Value}{base:Heap}{f:Addr}{fd:FuncData}{Pt:Addr}
def PlB(H:Hp)(a st:Addr)(S:Sh)(l:List Str)(plan:Str->List Int)(B:Int)(n:Nat):Prop:=∃kvs,H a=some (.dK kvs)/\kvs.length<=n/\∀nm∈l,∃q:Addr,Fk kvs (.inr nm)=some (.ref q)/\q≠st/\H q=some (.lst ((plan nm).map V.int))/\(plan nm).length=daysN S/\∀x∈plan nm,0<=x/\x<=B
theorem PlB.put{H:Hp}{a st q:Addr}{S:Sh}{l l':List Str}{plan:Str->List Int}{B B':Int}{n:Nat}{kvs:List (Key×V)}{nm:Str}{row:List Int}(h1:H a=some (.dK kvs))(h2:kvs.length<=n)(h3:∀nm∈l,∃q:Addr,Fk kvs (.inr nm)=some (.ref q)/\q≠st/\H q=some (.lst ((plan nm).map V.int))/\(plan nm).length=daysN S/\∀x∈plan nm,0<=x/\x<=B)
  (hq:H q=some (.lst (row.map V.int))) (qst:q≠st) (hl:row.length=daysN S) (hb:∀x∈row,0<=x/\x<=B') (hB:B<=B') (hl':∀y∈l',y=nm\/y∈l):PlB (upd H a (.dK (Jc kvs (.inr nm) (.ref q)))) a st S l' (λy=>if y=nm then row else plan y) B' (n+1):=by
 refine⟨_,A0,?_,λy hy=>?_⟩
 ·have:=Ng kvs (.inr nm) (.ref q)
  omega
 ·by_cases e:y=nm
  ·subst e
   refine⟨q,by rw[Kv,if_pos rfl],qst,?_,?_,?_⟩
   ·show upd H a _ q=some (.lst ((if y=y then row else plan y).map V.int))
    rw[if_pos rfl,A7 (Uj hq h1 (λz=>by cases z))]
    exact hq
   ·show (if y=y then row else plan y).length=_
    rw[if_pos rfl];exact hl
   ·show ∀x∈(if y=y then row else plan y),_
    rw[if_pos rfl];exact hb
  ·rcases hl' y hy with z | z
   ·exact absurd z e
   ·obtain⟨q',e1,e2,e3,e4,e5⟩:=h3 y z
    refine⟨q',by rw[Kv,if_neg (λz=>e (Zwb z))];exact e1,e2,?_,?_,?_⟩
    ·show upd H a _ q'=some (.lst ((if y=nm then row else plan y).map V.int))
     rw[if_neg e,A7 (Uj e3 h1 (λz=>by cases z))]
     exact e3
    ·show (if y=nm then row else plan y).length=_
     rw[if_neg e];exact e4
    ·show ∀x∈(if y=nm then row else plan y),_
     rw[if_neg e];exact λx hx=>⟨(e5 x hx).1,Zx7 (e5 x hx).2 hB⟩
theorem PlB.at{H:Hp}{a st:Addr}{S:Sh}{plan:Str->List Int}{i n:Nat}(h:PlB H a st S (Cl S) plan (10^(45*i)) n)(hi:i<=12):PlanAt H a S plan:=by
 obtain⟨kvs,h1,_,h3⟩:=h
 have h2:(10:Int)^(45*i)<=10^(45*12):=by
  have:(10:Nat)^(45*i)<=10^(45*12):=Zv4 (by decide) (Nat.mul_le_mul_left _ hi)
  exact_mod_cast this
 exact⟨kvs,.inl h1,λnm hn=>by obtain⟨q,e1,_,e3,e4,e5⟩:=h3 nm hn;exact⟨q,e1,e3,e4,λx hx=>⟨(e5 x hx).1,Zwx (Zx7 (e5 x hx).2 h2) (by decide +kernel)⟩⟩⟩
def KeyIn(H:Hp)(a:Addr)(S:Sh):Prop:=∀kvs,H a=some (.dK kvs)->∀kv∈kvs,∃nm∈Cl S,kv.1=Zxk nm
theorem KeyIn.keep{H H':Hp}{a:Addr}{S:Sh}{kvs:List (Key×V)}(h:KeyIn H a S)(e:H a=some (.dK kvs))(e':H' a=some (.dK kvs)):KeyIn H' a S:=λks k=>h ks (by rw[e,<- k,e'])
theorem KeyIn.put{H H':Hp}{a:Addr}{S:Sh}{kvs:List (Key×V)}{nm:Str}{v:V}(h:KeyIn H a S)(e:H a=some (.dK kvs))(hn:nm∈Cl S):KeyIn (upd H' a (.dK (Jc kvs (.inr nm) v))) a S:=λks k kv hk=>by
 rw[A0] at k
 have k:=HO.dK.inj (Zz3 k)
 rw[<- k] at hk
 unfold Jc at hk
 split at hk
 ·obtain⟨x,hx,rfl⟩:=Zzv.mp hk
  obtain⟨y,hy,ey⟩:=h kvs e x hx
  refine⟨y,hy,?_⟩
  split
  ·exact ey
  ·exact ey
 ·rcases Zyj.mp hk with z | z
  ·exact h kvs e kv z
  ·rw[Zyw.mp z]
   exact⟨nm,hn,rfl⟩
theorem Good.days9{sz:Int}{S:Sh}(g:Good sz S)(hz:0<sz)(hz2:sz<=9):daysN S<=9:=by
 obtain⟨_,_,n3,_⟩:=g.days hz (by omega)
 have h1:Jg (S.wants.map λu=>u.2.1)<sz:=dh hz λx hx=>by
  obtain⟨u,hu,rfl⟩:=Zzv.mp hx
  exact(g.wants.2 u hu).2.1.2
 omega
def sp_law_other:Sp:=λvs H Q _=>∃(v:V) (st:Addr) (S:Sh) (sz:Int),vs=[v,.ref st]/\RD H S.d v/\Good sz S/\0<sz/\sz<=9/\StOk2 H st/\∀(a:Addr) (plan:Str->List Int) H',H a=none->PlanAt H' a S plan->KeyIn H' a S->(∃kvs,H' a=some (.dK kvs)/\kvs.length<=24)->StOk2 H' st->But st H H'->Q (.ref a) H'
def A0m(v:V)(st a:Addr)(S:Sh)(H:Hp)(i:Nat)(Z:St)(H':Hp):Prop:=∃(o3 o4 o5:Option V) (plan:Str->List Int),Z=[some v,some (.ref st),some (.ref a),o3,o4,o5]/\PlB H' a st S ((Cl S).take i) plan 1 i/\(∀nm,∀x∈plan nm,0<=x/\x<=1)/\KeyIn H' a S/\Same H H'
def A0n(v:V)(st a o:Addr)(ys:List Str)(S:Sh)(H:Hp)(i:Nat)(Z:St)(H':Hp):Prop:=∃(o3 o4 o5:Option V) (plan:Str->List Int),Z=[some v,some (.ref st),some (.ref a),o3,o4,o5]/\PlB H' a st S (Cl S) plan (10^(45*i)) (12+i)/\(∀nm,∀x∈plan nm,0<=x/\x<=10^(45*i))/\KeyIn H' a S/\H' o=some (.lst (ys.map V.str))/\StOk2 H' st/\But st H H'
theorem sc_law_other:Bg ["_law_shop", "_law_state", "_law_plan", "_law_ware_here", "_law_name", "_law_gone"] ["_law_shop", "_law_state"] (Ai Lg):=by walk_at "sc"
theorem W1(F:Fun K "_law_other" "_law_other" Lg f fd)(T:Txt mg)(Zuc:Has P w K mg base "_law_days" 1 ["_law_shop"] sp_law_days)(Zty:Has P w K mg base "_law_order" 14 ["_law_shop"] sp_law_order)(Ztz:Has P w K mg base "_law_needs" 3 ["_law_shop", "_law_plan", "_law_name"] sp_law_needs)(Zsc:Has P w K mg base "_law_lots" 2 ["_law_ware_here", "_law_gone", "_law_state"] sp_law_lots)(Zui:Has P w K mg base "_law_ware" 1 ["_law_shop", "_law_name"] sp_law_ware):D3 P w K mg base CX0 15 f fd ["_law_shop", "_law_state"] sp_law_other:=by
 refine F.ok sc_law_other (λvs H Q E h=>?_) (λcdv A outer s H vs Q E hr h=>?_)
 ·obtain⟨v,st,S,sz,rfl,_⟩:=h
  rfl
 ·obtain⟨v,st,S,sz,rfl,rs,g,z0,z1,hst,k⟩:=h
  have hu:=Ch hr
  refine⟨_,(A2 (Bh (i:=2) sc_law_other.nd rfl (Zzu rfl) Na)
 (A2 (D2 PassesOwn.never rfl (E5 (A8 hu (pv 0) A5 (λ_ _=>rfl))) (Ac (i:=3) sc_law_other.nd rfl (Zzu rfl))
 (Aa (Je (D5 (own:=["_law_day"]) (cap:=[]) rfl (Du rfl) (C8 (by decide)) (Dy rfl T.Zud (A3 (A9 Zuc hr.z rfl (A3 (pv 0) A1)) A1))
 (λ_ _ _ _ _ _=>⟨(Ac (i:=0) (of_decide_eq_true rfl) rfl (Zzu rfl) (.inr rfl)),D0,A5⟩)) (Jx (pv 2) (A8 hu (pv 3) A5 (λ_ _=>rfl)) (Kw hu)))))
 (A2 (D2 PassesOwn.never rfl (G8 (A9 Zty hr.z rfl (A3 (pv 0) A1))) (Ac (i:=4) sc_law_other.nd rfl (Zzu rfl))
 (A2 (Bh (i:=5) sc_law_other.nd rfl (Zzu rfl) (A9 Ztz hr.z rfl (A3 (pv 0) (A3 (pv 2) (A3 (pv 4) A1)))))
 (Aa (Je (A9 Zsc hr.z rfl (A3 (A9 Zui hr.z rfl (A3 (pv 0) (A3 (pv 4) A1))) (A3 (pv 5) (A3 (pv 1) A1)))) (Jx (pv 2) (pv 4) (Kw hu))))))
 (Aa (Be (pv 2)))))),?_⟩
  walk_at "rd"
  have z9:=z1
  have z1:sz<=1000:=by omega
  obtain⟨n1,n2,n3,n4⟩:=g.days z0 z1
  have L:=Nk g
  have E:=Wo g
  intro a ha0
  obtain⟨sa,sb,sc,ws,us,ev,ha,hb,hc,rws,rus⟩:=Gn rs
  have hl:=Cm rws
  have hl2:=g.len.2
  have u0:=A6 (o:=.dK []) ha0
  have nast:a≠st:=λz=>by obtain⟨x,y,e⟩:=hst;rw[z,e] at ha0;cases ha0
  refine⟨_,by rw[ev];exact Ak (j:=0) (u0 _ _ ha) rfl,sb,rfl,ws,u0 _ _ hb,?_⟩
  refine Er (Fx sb _) (A0m v st a S H) ⟨_,_,_,λ_=>[],rfl,⟨[],A0,Zzm _,(λnm h=>by cases h)⟩,(λnm x h=>by cases h),(λks k kv hk=>by rw[A0] at k;rw[<- HO.dK.inj (Zz3 k)] at hk;cases hk),u0⟩ (λi Z H' _ h=>by obtain⟨_,_,_,_,_,_,_,_,s⟩:=h;exact s _ _ hb) (λi y Z H1 hi hy h=>?_) (λZ H1 h=>?_)
  ·obtain⟨o3,o4,o5,plan,rfl,⟨kvs,hk1,hk2,hk3⟩,hpb,ki,s1⟩:=h
   obtain⟨t,ht,rt⟩:=D4 rws hy
   obtain⟨te,d1,d2,rfl,hte,_⟩:=Dq rt
   have hnm:(Cl S)[i]?=some t.name:=by unfold Cl;rw[Zzy,ht];rfl
   walk_at "rd"
   refine⟨v,S,sz,rfl,RD.same s1 _ _ rs,g,z0,z1,λH4 s4=>⟨_,rfl,by omega,by omega,?_⟩⟩
   have ed:((daysN S:Nat):Int).toNat=daysN S:=by omega
   rw[ed]
   refine Da (L4 0 _) (Bf n2) (λ_ _=>trivial) ((C9 (daysN S) λ_=>0).map V.int) (by rw[Zzz,C1]) (λj x H' hj hx s' N M hN=>?_) (λH5 s5 q hq=>?_)
   ·walk_at "rd"
    refine hN _ _ s' ?_
    unfold C9
    rw[Zzy,Zzy,Zuw hj]
    rfl
   ·have u5:=A6 (o:=.lst ((C9 (daysN S) λ_=>0).map V.int)) hq
    have hq5:upd H5 q (.lst ((C9 (daysN S) λ_=>0).map V.int)) q=some (.lst ((C9 (daysN S) λ_=>0).map V.int)):=A0
    have s15:=(s4.trans s5).trans u5
    have nqst:q≠st:=λz=>by obtain⟨x,y,e⟩:=hst;rw[z,s5 _ _ (s4 _ _ (s1 _ _ e))] at hq;cases hq
    generalize upd H5 q (.lst ((C9 (daysN S) λ_=>0).map V.int))=H6 at hq5 s15
    have zb:∀x∈C9 (daysN S) (λ_=>0),(0:Int)<=x/\x<=1:=λx hx=>by
     unfold C9 at hx
     obtain⟨j,_,rfl⟩:=Zzv.mp hx
     exact⟨Zy3 _,by decide⟩
    refine⟨_,Ak (j:=0) (s15 _ _ (s1 _ _ hte)) rfl,kvs,.inr t.name,rfl,s15 _ _ hk1,Zya (m:=1000) (by omega) (by decide),_,_,_,_,rfl,PlB.put (s15 _ _ hk1) hk2 (λnm hn=>by obtain⟨q,e1,e2,e3,e4⟩:=hk3 nm hn;exact⟨q,e1,e2,s15 _ _ e3,e4⟩) hq5 nqst (C1 _ _) zb (Zy3 _) (λy hy=>?_),λnm x hx=>?_,ki.put hk1 (Zzr hnm),λb o e=>?_⟩
    ·rw[Zyx,hnm,Zyj] at hy
     rcases hy with z | z
     ·exact .inr z
     ·exact .inl (Zyw.mp z)
    ·have hx:x∈(if nm=t.name then C9 (daysN S) (λ_=>0) else plan nm):=hx
     split at hx
     ·exact zb x hx
     ·exact hpb nm x hx
    ·rw[A7 (A4 e ha0)]
     exact s15 _ _ (s1 _ _ e)
  ·obtain⟨o3,o4,o5,plan,rfl,pb,hpb,ki,s1⟩:=h
   rw[Zvb (by rw[Il,hl];exact Zzm _)] at pb
   walk_at "rd"
   refine⟨v,S,rfl,RD.same s1 _ _ rs,L,g.len.2,λo ys H2 ho ho2 sb2 s2=>⟨o,rfl,_,ho2,?_⟩⟩
   have so:=M2 sb2
   have hyl:ys.length<=12:=by have:=so.1.length_eq;rw[this,Il];exact g.len.2
   have s02:=s1.trans s2
   have nost:o≠st:=λz=>by obtain⟨x,y,e⟩:=hst;rw[z,s1 _ _ e] at ho;cases ho
   have pb2:PlB H2 a st S (Cl S) plan 1 12:=by
    obtain⟨kvs,e1,e2,e3⟩:=pb
    exact⟨kvs,s2 _ _ e1,by omega,λnm hn=>by obtain⟨q,f1,f2,f3,f4⟩:=e3 nm hn;exact⟨q,f1,f2,s2 _ _ f3,f4⟩⟩
   refine Er (Ip o _) (A0n v st a o ys S H) ⟨_,_,_,plan,rfl,pb2,hpb,(by obtain⟨kvs,e1,_⟩:=pb;exact ki.keep e1 (s2 _ _ e1)),ho2,hst.same s02,N8 s02⟩ (λi Z H' _ h=>by obtain⟨_,_,_,_,_,_,_,_,z,_,_⟩:=h;exact z) (λi x Z H3 hi hx h=>?_) (λZ H3 h=>?_)
   ·obtain⟨p3,p4,p5,plan,rfl,pb,hpb,ki,ho3,s3,b3⟩:=h
    rw[Zzy] at hx
    cases en:ys[i]? with
    |none=>rw[en] at hx;cases hx
    |some nm =>
    rw[en] at hx
    have hx:V.str nm=x:=Zz3 hx
    subst hx
    rw[Zzz] at hi
    obtain⟨w,hw,rfl⟩:=Zzv.mp (so.1.mem_iff.mp (Zzr en))
    have rs3:RD H3 S.d v:=RD.ku (Q6 b3 hst) _ _ (Mn S) rs
    walk_at "rd"
    refine⟨v,a,S,plan,w,sz,rfl,rs3,pb.at (by omega),hw,g,z0,z1,λq H4 hq hq4 s4=>?_⟩
    refine⟨v,S,w,sz,rfl,RD.same s4 _ _ rs3,g,hw,λx5 H5 rx s5=>?_⟩
    have s35:=s4.trans s5
    have s5':=s3.same s35
    have nqst:q≠st:=λz=>by obtain⟨x,y,e⟩:=s3;rw[z,e] at hq;cases hq
    have gl:(Ck S plan w.name).length=daysN S:=by unfold Ck;rw[C1]
    have hB:(0:Int)<=10^(45*i):=Int.pow_nonneg (by decide)
    have hn:∀y∈Ck S plan w.name,0<=y/\y<=20*10^41+12*(12*(10^41*10^(45*i))):=λy hy=>by
     unfold Ck C9 at hy
     obtain⟨d,_,rfl⟩:=Zzv.mp hy
     exact Ui E hB hpb _ d
    refine⟨x5,q,st,w,Ck S plan w.name,sz,_,rfl,rx,s5 _ _ hq4,nqst,s5',g.ws.wb w hw,g.com w hw,by rw[gl];exact⟨n1,g.days9 z0 z9⟩,hn,λp6 row H6 hp6 hp6' hrl hrow s6 b6=>?_⟩
    obtain⟨kvs,e1,e2,e3⟩:=pb
    have ha6:=b6 _ _ nast (s35 _ _ e1)
    have ho6:=b6 _ _ nost (s35 _ _ ho3)
    have h1:(1:Int)<=10^(45*i):=Int.pow_pos (by decide)
    have e45:(10:Int)^(45*(i+1))=10^(45*i)*10^45:=by rw[<- Int.pow_add];rfl
    have np6:p6≠st:=λz=>by obtain⟨x,y,e⟩:=s5';rw[z,e] at hp6;cases hp6
    have rowb:∀y∈row,0<=y/\y<=10^(45*(i+1)):=λy hy=>by
     have h2:=hrow y hy
     have hf:=(g.ws.wb w hw).floor.2
     rw[e45]
     generalize (10:Int)^(45*i)=B at hB h1 h2 ⊢
     omega
    have lebb:(10:Int)^(45*i)<=10^(45*(i+1)):=by
     rw[e45]
     generalize (10:Int)^(45*i)=B at hB h1 ⊢
     omega
    refine⟨kvs,.inr w.name,rfl,ha6,Zya (m:=1000) (by omega) (by decide),_,_,_,_,rfl,PlB.put (l':=Cl S) ha6 e2 (λnm hn=>by obtain⟨q,f1,f2,f3,f4⟩:=e3 nm hn;exact⟨q,f1,f2,b6 _ _ f2 (s35 _ _ f3),f4⟩) hp6' np6 (by rw[hrl,gl]) rowb lebb (λy hy=>.inr hy),λnm x hx=>?_,ki.put e1 (Zzv.mpr ⟨w,hw,rfl⟩),?_,?_,λb o' nb e=>?_⟩
    ·have hx:x∈(if nm=w.name then row else plan nm):=hx
     split at hx
     ·exact rowb x hx
     ·exact⟨(hpb nm x hx).1,Zx7 (hpb nm x hx).2 lebb⟩
    ·rw[A7 (Uj ho6 ha6 (λz=>by cases z))]
     exact ho6
    ·obtain⟨x,y,e⟩:=s6
     exact⟨x,y,by rw[A7 (Zzi nast)];exact e⟩
    ·rw[A7 (A4 e ha0)]
     exact b6 _ _ nb (s35 _ _ (b3 _ _ nb e))
   ·obtain⟨p3,p4,p5,plan,rfl,pb,hpb,ki,ho3,s3,b3⟩:=h
    walk_at "rd"
    refine k a plan H3 ha0 (pb.at (by rw[Zzz];exact hyl)) ki (by obtain⟨kvs,e1,e2,_⟩:=pb;rw[Zzz] at e2;exact⟨kvs,e1,by omega⟩) s3 b3
end
set_option maxHeartbeats 4000000
def WB52(w:Wr):Prop:=(0<=w.lag/\w.lag<=30)/\(1<=w.gives/\w.gives<=100)/\(0<=w.floor/\w.floor<=100)/\(0<=w.stock/\w.stock<=10^42)/\w.parts.length<=6/\(∀p∈w.parts,1<=p.2/\p.2<=100)/\(w.parts.map (·.1)).Nodup/\w.coming.length<=12/\∀c∈w.coming,(0<=c.1/\c.1<9)/\0<=c.2/\c.2<10^41
structure SD(S:Sh):Prop where
 n:1<=S.wares.length/\S.wares.length<=12
 nm:∀w∈S.wares,D6 w.name=true
 nd:(S.wares.map (·.name)).Nodup
 wb:∀w∈S.wares,WB52 w
 own:∀w∈S.wares,∀p∈w.parts,p.1∈S.wares.map (·.name)
 un:S.wants.length<=20
 us:∀u∈S.wants,u.1∈S.wares.map (·.name)/\(0<=u.2.1/\u.2.1<9)/\0<=u.2.2/\u.2.2<10^41
def wareR(w:Wr):R3:=("ware",w.name,[.inl w.lag,.inl w.gives,.inl w.floor,.inl w.stock])
def Nn(n:Str)(c:Int×Int):R3:=("coming",n,[.inl c.1,.inl c.2])
def Ky(n:Str)(p:Str×Int):R3:=("part",n,[.inr p.1,.inl p.2])
def wantR(u:Wt):R3:=("want",u.1,[.inl u.2.1,.inl u.2.2])
def txv(r:R3):V:=.str (Oq (r3 r))
def J4(w:Wr):List (List R3):=[w.coming.map (Nn w.name),w.parts.map (Ky w.name)]
def Fl(S:Sh):List (List R3):=S.wares.map wareR::S.wants.map wantR::S.wares.flatMap J4
theorem ss:(Str.ofString " ")=one 32:=by decide +kernel
theorem O6{r:R3}(h:L9 (r3 r)):∀y∈r.1::(r3 r).2.map cellT,y.length<=60:=Nq h (P:=λw=>w.length<=60) (L7 h).2.1 λk hk=>(R7 (h.cells k hk)).2
theorem Q4{i:Int}(h:Ta (.inl i)):i.natAbs<10^500:=by
 have h:0<=i/\i<10^60:=h
 have:i.natAbs<10^60:=by omega
 exact Zv5 this (by decide +kernel)
theorem Vp{S:Sh}(sd:SD S){w:Wr}(hw:w∈S.wares):L9 (r3 (wareR w))/\(∀c∈w.coming,L9 (r3 (Nn w.name c)))/\∀p∈w.parts,L9 (r3 (Ky w.name p)):=by
 have wb:=sd.wb w hw
 have nm:Ta (.inr w.name):=sd.nm w hw
 have big:(10:Int)^42<10^60:=by decide +kernel
 have big2:(10:Int)^41<10^60:=by decide +kernel
 refine⟨⟨by show (_,_)∈L5;unfold L5;simp[r3,wareR,Ly],λk hk=>?_⟩,λc hc=>⟨by show (_,_)∈L5;unfold L5;simp[r3,Nn,Ly],λk hk=>?_⟩,λp hp=>⟨by show (_,_)∈L5;unfold L5;simp[r3,Ky,Ly],λk hk=>?_⟩⟩
 ·simp only[r3,wareR,Zzt,Zzj,or_false] at hk
  obtain⟨h1,h2,h3,h4,_⟩:=wb
  rcases hk with rfl | rfl | rfl | rfl | rfl
  ·exact nm
  ·exact⟨h1.1,by omega⟩
  ·exact⟨by omega,by omega⟩
  ·exact⟨h3.1,by omega⟩
  ·exact⟨h4.1,by omega⟩
 ·simp only[r3,Nn,Zzt,Zzj,or_false] at hk
  have h:=wb.2.2.2.2.2.2.2.2 c hc
  rcases hk with rfl | rfl | rfl
  ·exact nm
  ·exact⟨h.1.1,by omega⟩
  ·exact⟨h.2.1,by omega⟩
 ·simp only[r3,Ky,Zzt,Zzj,or_false] at hk
  have h:=wb.2.2.2.2.2.1 p hp
  rcases hk with rfl | rfl | rfl
  ·exact nm
  ·obtain⟨w',hw',e⟩:=Zzv.mp (sd.own w hw p hp)
   have:D6 w'.name=true:=sd.nm w' hw'
   rw[e] at this
   exact this
  ·exact⟨by omega,by omega⟩
theorem bw{S:Sh}(sd:SD S){u:Wt}(hu:u∈S.wants):L9 (r3 (wantR u)):=by
 have h:=sd.us u hu
 have big2:(10:Int)^41<10^60:=by decide +kernel
 refine⟨by show (_,_)∈L5;unfold L5;simp[r3,wantR,Ly],λk hk=>?_⟩
 simp only[r3,wantR,Zzt,Zzj,or_false] at hk
 rcases hk with rfl | rfl | rfl
 ·obtain⟨w',hw',e⟩:=Zzv.mp h.1
  have:D6 w'.name=true:=sd.nm w' hw'
  rw[e] at this
  exact this
 ·exact⟨h.2.1.1,by omega⟩
 ·exact⟨h.2.2.1,by omega⟩
def One(φ:R3->Bool)(gs:List (List R3)):Prop:=gs.Pairwise λg h=>g.filter φ=[]\/h.filter φ=[]
structure Mg(S:Sh)(rs:List R3)(gs:List (List R3)):Prop where
 all:∀r∈rs++gs.flatten,r∈(Fl S).flatten
 len:rs.length+gs.flatten.length=(Fl S).flatten.length
 fl:∀φ,One φ (Fl S)->One φ gs/\rs.filter φ++gs.flatten.filter φ=(Fl S).flatten.filter φ
theorem Fy{α:Type}{φ:R3->Bool}{f:α->R3}{xs:List α}(h:∀x∈xs,φ (f x)=false):(xs.map f).filter φ=[]:=by
 rw[Zvx]
 intro r hr
 obtain⟨x,hx,rfl⟩:=Zzv.mp hr
 rw[h x hx]
 exact Zz9
theorem R5{α:Type}{φ:R3->Bool}{f:α->R3}{xs:List α}(h:∀x∈xs,φ (f x)=true):(xs.map f).filter φ=xs.map f:=by
 rw[List.filter_eq_self]
 intro r hr
 obtain⟨x,hx,rfl⟩:=Zzv.mp hr
 exact h x hx
theorem Ss{φ:R3->Bool}{w:Wr}(h1:∀c,φ (Nn w.name c)=false)(h2:∀p,φ (Ky w.name p)=false):∀g∈J4 w,g.filter φ=[]:=λg hg=>by
 unfold J4 at hg
 rcases Zzt.mp hg with z | z
 ·rw[z];exact Fy λc _=>h1 c
 ·rw[Zyw.mp z];exact Fy λc _=>h2 c
theorem M5{φ:R3->Bool}{gs:List (List R3)}(h:∀g∈gs,g.filter φ=[]):gs.flatten.filter φ=[]:=by
 rw[Zvx]
 intro r hr
 obtain⟨g,hg,hr⟩:=List.mem_flatten.mp hr
 exact Zvx.mp (h g hg) r hr
theorem Xv{φ:R3->Bool}{gs:List (List R3)}(h:∀g∈gs,g.filter φ=[]):One φ gs:=by
 refine Zwv.mpr λi j hi hj _=>.inl (h _ (Zvq hi))
theorem Hz{φ:R3->Bool}{g:List R3}{gs:List (List R3)}(h:g.filter φ=[]\/∀x∈gs,x.filter φ=[])(o:One φ gs):One φ (g::gs):=Zvz.mpr ⟨λx hx=>h.imp id λz=>z x hx,o⟩
def ja(s:Str):Prop:=s = "coming" \/ s = "part"
theorem Kt{s n m:Str}{x:Str}{ks:List Key}(h:m≠n):Hv s n (x,m,ks)=false:=by
 unfold Hv
 rw[decide_eq_false h,Zuu]
theorem Ks{s n m:Str}{x:Str}{ks:List Key}(h:x≠s):Hv s n (x,m,ks)=false:=by
 unfold Hv
 rw[decide_eq_false h,Zxz]
theorem Ug{s n:Str}{ks:List Key}:Hv s n (s,n,ks)=true:=by
 unfold Hv
 rw[decide_eq_true rfl,decide_eq_true rfl]
 rfl
theorem xf{s n:Str}(h:ja s)(w:Wr):Hv s n (wareR w)=false:=Ks (by rcases h with rfl | rfl<;>decide +kernel)
theorem xg{s n:Str}(h:ja s)(u:Wt):Hv s n (wantR u)=false:=Ks (by rcases h with rfl | rfl<;>decide +kernel)
theorem Sx{s n:Str}{ws:List Wr}(h:∀w∈ws,w.name≠n):∀g∈ws.flatMap J4,g.filter (Hv s n)=[]:=λg hg=>by
 obtain⟨w,hw,hg⟩:=List.mem_flatMap.mp hg
 exact Ss (λc=>Kt (h w hw)) (λp=>Kt (h w hw)) g hg
theorem Xw{s n:Str}(hs:ja s):∀{ws:List Wr},(ws.map (·.name)).Nodup->One (Hv s n) (ws.flatMap J4)
 |[],_=>List.Pairwise.nil
 |w::r,nd=>by
  have nd:=Zy7.mp (show (w.name::r.map (·.name)).Nodup from nd)
  have o:=Xw hs nd.2 (n:=n)
  rw[Zvd]
  show One _ (_::_::r.flatMap J4)
  by_cases z:w.name=n
  ·have ot:∀g∈r.flatMap J4,g.filter (Hv s n)=[]:=Sx λw' hw' e=>nd.1 (by rw[z,<- e];exact Zzv.mpr ⟨w',hw',rfl⟩)
   refine Hz ?_ (Hz (.inr ot) o)
   rcases hs with rfl | rfl
   ·refine .inr λx hx=>?_
    rcases Zzt.mp hx with e | hx
    ·rw[e];exact Fy λp _=>Ks (by decide +kernel)
    ·exact ot x hx
   ·exact .inl (Fy λp _=>Ks (by decide +kernel))
  ·exact Hz (.inl (Fy λc _=>Kt z)) (Hz (.inl (Fy λc _=>Kt z)) o)
theorem Xu{s n:Str}(hs:ja s){S:Sh}(nd:(S.wares.map (·.name)).Nodup):One (Hv s n) (Fl S) :=
 Hz (.inl (Fy λw _=>xf hs w)) (Hz (.inl (Fy λu _=>xg hs u)) (Xw hs nd))
theorem Ux{s:Str}(hs:ja s){w:Wr}:∀{ws:List Wr},(ws.map (·.name)).Nodup->w∈ws->(ws.flatMap J4).flatten.filter (Hv s w.name)=(J4 w).flatten.filter (Hv s w.name)
 |[],_,h=>nomatch h
 |v::r,nd,h=>by
  have nd:=Zy7.mp (show (v.name::r.map (·.name)).Nodup from nd)
  rw[Zvd,Zw6,Zys]
  rcases Zzt.mp h with z | z
  ·subst z
   rw[M5 (gs:=r.flatMap J4) (Sx λw' hw' e=>nd.1 (by rw[<- e];exact Zzv.mpr ⟨w',hw',rfl⟩)),Zzn]
  ·have ne:v.name≠w.name:=λe=>nd.1 (by rw[e];exact Zzv.mpr ⟨w,z,rfl⟩)
   rw[M5 (gs:=J4 v) (Ss (λc=>Kt ne) (λp=>Kt ne)),Zz8,Ux hs nd.2 z]
theorem vq(w:Wr):(J4 w).flatten.filter (Hv "coming" w.name)=w.coming.map (Nn w.name):=by
 unfold J4
 rw[Zyr,Zyr,Zwo,Zzn,Zys,R5 (f:=Nn w.name) (λc _=>Ug),Fy (f:=Ky w.name) (λp _=>Ks (by decide +kernel)),Zzn]
theorem oq(w:Wr):(J4 w).flatten.filter (Hv "part" w.name)=w.parts.map (Ky w.name):=by
 unfold J4
 rw[Zyr,Zyr,Zwo,Zzn,Zys,R5 (f:=Ky w.name) (λc _=>Ug),Fy (f:=Nn w.name) (λp _=>Ks (by decide +kernel)),Zz8]
theorem Qf{s:Str}(hs:ja s){S:Sh}(nd:(S.wares.map (·.name)).Nodup){w:Wr}(hw:w∈S.wares):(Fl S).flatten.filter (Hv s w.name)=(J4 w).flatten.filter (Hv s w.name):=by
 unfold Fl
 rw[Zyr,Zyr,Zys,Zys,Fy (f:=wareR) (λw _=>xf hs w),Fy (f:=wantR) (λu _=>xg hs u),Zz8,Zz8,Ux hs nd hw]
theorem Yu{s:Str}(h1:s ≠ "coming")(h2:s ≠ "part")(ws:List Wr):∀g∈ws.flatMap J4,g.filter (isS s)=[]:=λg hg=>by
 obtain⟨w,hw,hg⟩:=List.mem_flatMap.mp hg
 exact Ss (λc=>decide_eq_false (Zzi h1)) (λp=>decide_eq_false (Zzi h2)) g hg
theorem Yn(S:Sh):One (isS "ware") (Fl S)/\(Fl S).flatten.filter (isS "ware")=S.wares.map wareR:=by
 have f:=Yu (s := "ware") (by decide +kernel) (by decide +kernel) S.wares
 have u:(S.wants.map wantR).filter (isS "ware")=[]:=Fy λu _=>decide_eq_false (show ("want" : Str) ≠ "ware" by decide +kernel)
 refine⟨Hz (.inr λx hx=>?_) (Hz (.inl u) (Xv f)),?_⟩
 ·rcases Zzt.mp hx with e | hx
  ·rw[e];exact u
  ·exact f x hx
 ·unfold Fl
  rw[Zyr,Zyr,Zys,Zys,u,M5 f,Zz8,Zzn,R5 (f:=wareR) λw _=>decide_eq_true rfl]
theorem Yo(S:Sh):One (isS "want") (Fl S)/\(Fl S).flatten.filter (isS "want")=S.wants.map wantR:=by
 have f:=Yu (s := "want") (by decide +kernel) (by decide +kernel) S.wares
 have u:(S.wares.map wareR).filter (isS "want")=[]:=Fy λu _=>decide_eq_false (show ("ware" : Str) ≠ "want" by decide +kernel)
 refine⟨Hz (.inl u) (Hz (.inr f) (Xv f)),?_⟩
 unfold Fl
 rw[Zyr,Zyr,Zys,Zys,u,M5 f,Zz8,Zzn,R5 (f:=wantR) λw _=>decide_eq_true rfl]
theorem kh{xs:List Str}(h:xs.Nodup):unl xs=true:=by
 unfold unl
 refine Zyi.mpr λx hx=>decide_eq_true ?_
 have e:(λy=>decide (y=x))=λy:Str=>y == x:=by
  funext y
  rw[Bool.beq_eq_decide_eq]
 rw[e]
 show xs.count x=1
 rw[h.count,if_pos hx]
theorem kl(w:Wr):toD w.d=Ge w:=by
 unfold Wr.d Ge
 simp only[toD,N1,P6]
 rfl
theorem km(S:Sh):toD S.d=.tup [.tup (S.wares.map Ge),.tup (S.wants.map Mx)]:=by
 unfold Sh.d
 simp only[toD,N1,P6,kl]
 rfl
theorem j8{S:Sh}(sd:SD S){w:Wr}(hw:w∈S.wares):isWare (Ge w)=true:=by
 obtain⟨h1,h2,h3,h4,h5,h6,h7,h8,h9⟩:=sd.wb w hw
 show (D6 w.name&&Dz (.int w.lag) 0 30&&Dw (.int w.gives) 1&&Dw (.int w.floor) 0&&Dw (.int w.stock) 0&&G6 (.tup (w.coming.map Z6))&&L8 (.tup (w.parts.map My)))=true
 have e2:Dz (.int w.lag) 0 30=true:=by
  show (decide (0<=w.lag)&&decide (w.lag<=30))=true
  rw[decide_eq_true h1.1,decide_eq_true h1.2]
  rfl
 have e3:Dw (.int w.gives) 1=true:=decide_eq_true h2.1
 have e4:Dw (.int w.floor) 0=true:=decide_eq_true h3.1
 have e5:Dw (.int w.stock) 0=true:=decide_eq_true h4.1
 have e6:G6 (.tup (w.coming.map Z6))=true:=by
  show (decide ((w.coming.map Z6).length<=12)&&(w.coming.map Z6).all El)=true
  rw[Zzz,decide_eq_true h8,Zyc]
  refine Zyi.mpr λd hd=>?_
  obtain⟨p,hp,rfl⟩:=Zzv.mp hd
  have q:=h9 p hp
  show ((decide (0<=p.1)&&decide (p.1<=400))&&decide (0<=p.2))=true
  rw[decide_eq_true q.1.1,decide_eq_true (by omega:p.1<=400),decide_eq_true q.2.1]
  rfl
 have e7:L8 (.tup (w.parts.map My))=true:=by
  show (decide ((w.parts.map My).length<=6)&&(w.parts.map My).all isPart&&unl ((w.parts.map My).map nameOf))=true
  have e:(w.parts.map My).map nameOf=w.parts.map (·.1):=by
   rw[Zyh]
   rfl
  rw[Zzz,decide_eq_true h5,e,kh h7,Zxg,Zyc]
  refine Zyi.mpr λd hd=>?_
  obtain⟨p,hp',rfl⟩:=Zzv.mp hd
  show (D6 p.1&&decide (1<=p.2))=true
  obtain⟨w',hw',e⟩:=Zzv.mp (sd.own w hw p hp')
  have en:D6 w'.name=true:=sd.nm w' hw'
  rw[e] at en
  rw[en,decide_eq_true (h6 p hp').1]
  rfl
 rw[sd.nm w hw,e2,e3,e4,e5,e6,e7]
 rfl
theorem j9{S:Sh}(sd:SD S):Jy (toD S.d)=true:=by
 rw[km]
 have en:(S.wares.map Ge).map nameOf=S.wares.map (·.name):=by
  rw[Zyh]
  rfl
 show (Ib (.tup (S.wares.map Ge))&&Ic (.tup (S.wants.map Mx))&&(K8 (S.wares.map Ge) (S.wants.map Mx)).all λx=>decide (x∈(S.wares.map Ge).map nameOf))=true
 have e1:Ib (.tup (S.wares.map Ge))=true:=by
  show (decide (1<=(S.wares.map Ge).length)&&decide ((S.wares.map Ge).length<=12)&&(S.wares.map Ge).all isWare&&unl ((S.wares.map Ge).map nameOf))=true
  rw[en,Zzz,decide_eq_true sd.n.1,decide_eq_true sd.n.2,kh sd.nd,Zxg,Zyc,Zyc]
  refine Zyi.mpr λd hd=>?_
  obtain⟨w,hw,rfl⟩:=Zzv.mp hd
  exact j8 sd hw
 have e2:Ic (.tup (S.wants.map Mx))=true:=by
  show (decide ((S.wants.map Mx).length<=20)&&(S.wants.map Mx).all Gb)=true
  rw[Zzz,decide_eq_true sd.un,Zyc]
  refine Zyi.mpr λd hd=>?_
  obtain⟨u,hu,rfl⟩:=Zzv.mp hd
  have h:=sd.us u hu
  show (D6 u.1&&(decide (0<=u.2.1)&&decide (u.2.1<=400))&&decide (0<=u.2.2))=true
  obtain⟨w',hw',e⟩:=Zzv.mp h.1
  have en:D6 w'.name=true:=sd.nm w' hw'
  rw[e] at en
  rw[en,decide_eq_true h.2.1.1,decide_eq_true (by omega:u.2.1<=400),decide_eq_true h.2.2.1]
  rfl
 rw[e1,e2,Zyc,Zyc,en]
 refine Zyi.mpr λx hx=>decide_eq_true ?_
 unfold K8 at hx
 rcases Zyj.mp hx with z | z
 ·rw[Zyh] at z
  obtain⟨u,hu,rfl⟩:=Zzv.mp z
  exact(sd.us u hu).1
 ·obtain⟨l,hl,hx⟩:=List.mem_flatten.mp z
  rw[Zyh] at hl
  obtain⟨w,hw,rfl⟩:=Zzv.mp hl
  have hx:x∈(w.parts.map My).map nameOf:=hx
  rw[Zyh] at hx
  obtain⟨p,hp,rfl⟩:=Zzv.mp hx
  exact sd.own w hw p hp
theorem M6{α:Type}{f:α->PyData}:∀{xs:List α},(∀x∈xs,Oi (f x)=true)->Lw (xs.map f)=true
 |[],_=>rfl
 |x::r,h=>by
  rw[Zzp,Lw,h x Zzf,M6 λy hy=>h y (Zzd _ hy)]
  rfl
theorem Sl{x:Str}(h:D6 x=true):decide (x.length<=1000)=true:=by
 unfold D6 at h
 simp only[Zza,decide_eq_true_eq] at h
 exact decide_eq_true (by omega)
theorem pc{S:Sh}(sd:SD S){w:Wr}(hw:w∈S.wares):Oi w.d=true:=by
 obtain⟨h1,h2,h3,h4,h5,h6,h7,h8,h9⟩:=sd.wb w hw
 have e1:Lw (w.coming.map Q7)=true:=M6 λc hc=>rfl
 have e2:Lw (w.parts.map J9)=true:=M6 λp hp=>by
  obtain⟨w',hw',e⟩:=Zzv.mp (sd.own w hw p hp)
  have en:D6 w'.name=true:=sd.nm w' hw'
  rw[e] at en
  unfold J9
  simp only[Oi,Lw,Sl en]
  rfl
 unfold Wr.d
 simp only[Oi,Lw,e1,e2,Sl (sd.nm w hw),Zzz,decide_eq_true (by omega:w.coming.length<=1000),decide_eq_true (by omega:w.parts.length<=1000)]
 rfl
theorem ph{S:Sh}(sd:SD S):Oi S.d=true:=by
 have hn:=sd.n
 have hu:=sd.un
 have e1:Lw (S.wares.map Wr.d)=true:=M6 λw hw=>pc sd hw
 have e2:Lw (S.wants.map La)=true:=M6 λu hu=>by
  obtain⟨w',hw',e⟩:=Zzv.mp (sd.us u hu).1
  have en:D6 w'.name=true:=sd.nm w' hw'
  rw[e] at en
  unfold La
  simp only[Oi,Lw,Sl en]
  rfl
 unfold Sh.d
 simp only[Oi,Lw,e1,e2,Zzz,decide_eq_true (by omega:S.wares.length<=1000),decide_eq_true (by omega:S.wants.length<=1000)]
 rfl
theorem jy{S:Sh}(sd:SD S){rs:List R3}(h:Mg S rs []):wrD rs=S.d/\rs.filter (isS "ware")=S.wares.map wareR:=by
 have pk:∀φ,One φ (Fl S)->rs.filter φ=(Fl S).flatten.filter φ:=λφ o=>by
  have:=(h.fl φ o).2
  rw[<- this]
  show _=_++[]
  rw[Zzn]
 have ew:rs.filter (isS "ware")=S.wares.map wareR:=by rw[pk _ (Yn S).1,(Yn S).2]
 have eu:rs.filter (isS "want")=S.wants.map wantR:=by rw[pk _ (Yo S).1,(Yo S).2]
 refine⟨?_,ew⟩
 unfold wrD Sh.d
 rw[ew,eu,Zyh,Zyh]
 have e1:S.wares.map (Ku rs∘wareR)=S.wares.map Wr.d:=by
  refine Zx4 λw hw=>?_
  show Ku rs (wareR w)=w.d
  unfold Ku
  have n:(wareR w).2.1=w.name:=rfl
  rw[n,pk _ (Xu (.inl rfl) sd.nd),pk _ (Xu (.inr rfl) sd.nd),Qf (.inl rfl) sd.nd hw,Qf (.inr rfl) sd.nd hw,vq,oq,Zyh,Zyh]
  rfl
 rw[e1]
 rfl
theorem Su{S:Sh}(sd:SD S){r:R3}(h:r∈(Fl S).flatten):L9 (r3 r)/\r.2.1∈S.wares.map (·.name):=by
 unfold Fl at h
 rw[Zyr,Zyr] at h
 have own:∀{w:Wr},w∈S.wares->w.name∈S.wares.map (·.name):=λhw=>Zzv.mpr ⟨_,hw,rfl⟩
 rcases Zyj.mp h with h | h
 ·obtain⟨w,hw,rfl⟩:=Zzv.mp h
  exact⟨(Vp sd hw).1,own hw⟩
 rcases Zyj.mp h with h | h
 ·obtain⟨u,hu,rfl⟩:=Zzv.mp h
  exact⟨bw sd hu,(sd.us u hu).1⟩
 obtain⟨g,hg,hr⟩:=List.mem_flatten.mp h
 obtain⟨w,hw,hg⟩:=List.mem_flatMap.mp hg
 obtain⟨_,okc,okp⟩:=Vp sd hw
 unfold J4 at hg
 rcases Zzt.mp hg with z | z
 ·rw[z] at hr
  obtain⟨c,hc,rfl⟩:=Zzv.mp hr
  exact⟨okc c hc,own hw⟩
 ·rw[Zyw.mp z] at hr
  obtain⟨c,hc,rfl⟩:=Zzv.mp hr
  exact⟨okp c hc,own hw⟩
theorem Q3{S:Sh}(sd:SD S):∀{ws:List Wr},(∀w∈ws,w∈S.wares)->(ws.flatMap J4).flatten.length<=18*ws.length
 |[],_=>Zzm _
 |w::r,h=>by
  have ih:=Q3 sd (ws:=r) λx hx=>h x (Zzd _ hx)
  obtain⟨_,_,_,_,h5,_,_,h8,_⟩:=sd.wb w (h w Zzf)
  rw[Zvd,Zw6,Zym,Zzk]
  have:(J4 w).flatten.length=w.coming.length+w.parts.length:=by
   unfold J4
   simp only[Zyr,Zwo,Zzn,Zym,Zzz]
  omega
theorem ba{S:Sh}(sd:SD S):(Fl S).flatten.length<=248:=by
 have hn:=sd.n
 have hu:=sd.un
 have:=Q3 sd (ws:=S.wares) λ_ h=>h
 unfold Fl
 rw[Zyr,Zyr,Zym,Zym,Zzz,Zzz]
 omega
theorem gq{S:Sh}(sd:SD S){rs:List R3}(h:Mg S rs []):Z8 rs:=by
 obtain⟨e1,e2⟩:=jy sd h
 have hn:=sd.n
 have hl:=h.len
 have gl:=ba sd
 have hall:∀r∈rs,r∈(Fl S).flatten:=λr hr=>h.all r (Zxa _ hr)
 refine⟨λz=>?_,by omega,λr hr=>(Su sd (hall r hr)).1,by rw[e1];exact ph sd,by rw[e1];exact j9 sd,λr hr=>?_⟩
 ·rw[z] at e2
  have:=congrArg Zwa e2
  rw[Zzz] at this
  have:0=S.wares.length:=this
  omega
 ·rw[e2,Zyh]
  exact(Su sd (hall r hr)).2
set_option maxHeartbeats 4000000
section
variable {P:Program}{w:World}{K:Zzw}{mg:Str->Option Value}{base:Heap}{f:Addr}{fd:FuncData}
def Oa(S:Sh):List R3:=(S.wares.flatMap J4).flatten++S.wants.map wantR
theorem Yd(S:Sh):Mg S (S.wares.map wareR++Oa S) []:=by
 unfold Oa
 refine⟨λr hr=>?_,?_,λφ o=>?_⟩
 ·rw[Zwo,Zzn] at hr
  unfold Fl
  rw[Zyr,Zyr]
  rcases Zyj.mp hr with h | h
  ·exact Zxa _ h
  ·rcases Zyj.mp h with h | h
   ·exact Zyd _ (Zyd _ h)
   ·exact Zyd _ (Zxa _ h)
 ·unfold Fl
  simp only[Zyr,Zwo,Zym,Zzz,Zyy]
  omega
 ·refine⟨List.Pairwise.nil,?_⟩
  rw[Zwo,List.filter_nil,Zzn]
  unfold Fl at o ⊢
  have o:=Zvz.mp o
  have o2:=Zvz.mp o.2
  rw[Zyr,Zyr,Zys,Zys,Zys,Zys]
  by_cases y:(S.wants.map wantR).filter φ=[]
  ·rw[y,Zzn,Zz8]
  ·rw[M5 λg hg=>(o2.1 g hg).resolve_left y,Zz8,Zzn]
structure TwoAt(p q:Addr)(H0 H:Hp)(rs ts:List R3):Prop where
 hp:H p=some (.lst (rs.map txv))
 hq:H q=some (.lst (ts.map txv))
 ne:p≠q
 np:H0 p=none
 nq:H0 q=none
 s:Same H0 H
theorem TwoAt.same{p q:Addr}{H0 H H':Hp}{rs ts:List R3}(h:TwoAt p q H0 H rs ts)(s:Same H H'):TwoAt p q H0 H' rs ts:=⟨s _ _ h.hp,s _ _ h.hq,h.ne,h.np,h.nq,h.s.trans s⟩
theorem TwoAt.put{p q:Addr}{H0 H:Hp}{rs ts:List R3}(h:TwoAt p q H0 H rs ts)(x:R3):TwoAt p q H0 (upd H p (.lst (rs.map txv++[txv x]))) (rs++[x]) ts :=
 ⟨by rw[Zzq];exact A0,by rw[A7 (Zzi h.ne)];exact h.hq,h.ne,h.np,h.nq,λa u e=>by rw[A7 (A4 e h.np)];exact h.s a u e⟩
theorem TwoAt.ext{p q:Addr}{H0 H:Hp}{rs ts:List R3}(h:TwoAt p q H0 H rs ts)(xs:List R3):TwoAt p q H0 (upd H q (.lst (ts.map txv++xs.map txv))) rs (ts++xs) :=
 ⟨by rw[A7 h.ne];exact h.hp,by rw[Zzq];exact A0,h.ne,h.np,h.nq,λa u e=>by rw[A7 (A4 e h.nq)];exact h.s a u e⟩
theorem gt7{K:Zzw}{i1 i2 i3 i4 i5 i6 i7:Nat}{p:Addr}{x1 x2 x3 x4 x5 x6 x7:V}{Z:St}{H:Hp}{Q:St->Hp->Prop}(e:H p=some (.tup [x1,x2,x3,x4,x5,x6,x7]))(h:Q (((((((Z.set i1 (some x1)).set i2 (some x2)).set i3 (some x3)).set i4 (some x4)).set i5 (some x5)).set i6 (some x6)).set i7 (some x7)) H) :
  Ys K 7 (Gs (Ci i1) (Gs (Ci i2) (Gs (Ci i3) (Gs (Ci i4) (Gs (Ci i5) (Gs (Ci i6) (Gs (Ci i7) gNil))))))) (.ref p) Z H Q:=⟨p,_,rfl,SqT.of e,rfl,_,_,rfl,_,_,rfl,_,_,rfl,_,_,rfl,_,_,rfl,_,_,rfl,_,_,rfl,rfl,h⟩
def A0q(v:V)(S:Sh)(p q:Addr)(H:Hp)(i:Nat)(Z:St)(H':Hp):Prop:=∃o3 o4 o5 o6 o7 o8 o9:Option V,Z=[some v,some (.ref p),some (.ref q),o3,o4,o5,o6,o7,o8,o9]/\TwoAt p q H H' ((S.wares.take i).map wareR) ((S.wares.take i).flatMap J4).flatten
theorem Uy{S:Sh}(sd:SD S)(i:Nat):((S.wares.take i).flatMap J4).flatten.length<=216:=by
 have:=Q3 sd (ws:=S.wares.take i) λw hw=>Zuz hw
 have hn:=sd.n
 rw[Zye] at this
 omega
def sp_law_lines:Sp:=λvs H Q _=>∃(v:V) (S:Sh),vs=[v]/\RD H S.d v/\SD S/\∀(t p q:Addr) H',H' t=some (.tup [.ref p,.ref q])->H' p=some (.lst ((S.wares.map wareR).map txv))->H' q=some (.lst ((Oa S).map txv))->Same H H'->Q (.ref t) H'
theorem sc_law_lines:Bg ["_law_shop", "_law_first", "_law_others", "_law_name", "_law_lag", "_law_gives", "_law_floor", "_law_stock", "_law_coming", "_law_parts"] ["_law_shop"] (Ai Lk):=by walk_at "sc"
theorem W4(F:Fun K "_law_lines" "_law_lines" Lk f fd)(T:Txt mg):D3 P w K mg base CX0 1 f fd ["_law_shop"] sp_law_lines:=by
 refine F.ok sc_law_lines (λvs H Q E h=>?_) (λcdv A outer s H vs Q E hr h=>?_)
 ·obtain⟨v,S,rfl,_⟩:=h
  rfl
 ·obtain⟨v,S,rfl,rS,sd,k⟩:=h
  have hu:=Ch hr
  refine⟨_,(A2 (Bh (i:=1) sc_law_lines.nd rfl (Zzu rfl) (Dl A1))
 (A2 (Bh (i:=2) sc_law_lines.nd rfl (Zzu rfl) (Dl A1))
 (A2 (D2 PassesOwn.never rfl (E5 (A8 hu (pv 0) A5 (λ_ _=>rfl))) (Gk (n:=7) rfl (C2 (Ac (i:=3) sc_law_lines.nd rfl (Zvu rfl)) (C2 (Ac (i:=4) sc_law_lines.nd rfl (Zzu rfl)) (C2 (Ac (i:=5) sc_law_lines.nd rfl (Zzu rfl)) (C2 (Ac (i:=6) sc_law_lines.nd rfl (Zzu rfl)) (C2 (Ac (i:=7) sc_law_lines.nd rfl (Zzu rfl)) (C2 (Ac (i:=8) sc_law_lines.nd rfl (Zzu rfl)) (C2 (Ac (i:=9) sc_law_lines.nd rfl (Zzu rfl)) Fn))))))))
 (A2 (Fm (Gf Zyl Zy2 Zy1 Fi (pv 1) (A3 (Gf Zx6 Zwh Zwg Pd D7 (A3 (Dl (A3 D7 (A3 (pv 3) (A3 (Cy Hi rfl T.Ztp K0 (A3 (pv 4) A1)) (A3 (Cy Hi rfl T.Ztp K0 (A3 (pv 5) A1)) (A3 (Cy Hi rfl T.Ztp K0 (A3 (pv 6) A1)) (A3 (Cy Hi rfl T.Ztp K0 (A3 (pv 7) A1)) A1))))))) A1)) A1)))
 (A2 (Fm (Gf Zyl Zw8 Zw7 Ob (pv 2) (A3 (D5 (own:=["_law_day", "_law_amount_here"]) (cap:=[3]) rfl (Du rfl) Io (E5 (pv 8))
 (λ_ _ _ _ _ _=>⟨(Gk (n:=2) rfl (C2 (Ac (i:=0) (of_decide_eq_true rfl) rfl (Zzu rfl) (.inr rfl)) (C2 (Ac (i:=1) (of_decide_eq_true rfl) rfl (Zzu rfl) (.inr rfl)) Fn))),D0,(Gf Zx6 Zwh Zwg Pd D7 (A3 (Dl (A3 D7 (A3 (pv 2) (A3 (Cy Hi rfl T.Ztp K0 (A3 (pv 0) A1)) (A3 (Cy Hi rfl T.Ztp K0 (A3 (pv 1) A1)) A1))))) A1))⟩)) A1)))
 (Aa (Fm (Gf Zyl Zw8 Zw7 Ob (pv 2) (A3 (D5 (own:=["_law_part", "_law_amount_here"]) (cap:=[3]) rfl (Du rfl) Io (E5 (pv 9))
 (λ_ _ _ _ _ _=>⟨(Gk (n:=2) rfl (C2 (Ac (i:=0) (of_decide_eq_true rfl) rfl (Zzu rfl) (.inr rfl)) (C2 (Ac (i:=1) (of_decide_eq_true rfl) rfl (Zzu rfl) (.inr rfl)) Fn))),D0,(Gf Zx6 Zwh Zwg Pd D7 (A3 (Dl (A3 D7 (A3 (pv 2) (A3 (pv 0) (A3 (Cy Hi rfl T.Ztp K0 (A3 (pv 1) A1)) A1))))) A1))⟩)) A1)))))))
 (A2 (Fm (Gf Zyl Zw8 Zw7 Ob (pv 2) (A3 (D5 (own:=["_law_name", "_law_day", "_law_amount_here"]) (cap:=[]) rfl (Du rfl) jf (E5 (A8 hu (pv 0) A5 (λ_ _=>rfl)))
 (λ_ _ _ _ _ _=>⟨(Gk (n:=3) rfl (C2 (Ac (i:=0) (of_decide_eq_true rfl) rfl (Zzu rfl) (.inr rfl)) (C2 (Ac (i:=1) (of_decide_eq_true rfl) rfl (Zzu rfl) (.inr rfl)) (C2 (Ac (i:=2) (of_decide_eq_true rfl) rfl (Zzu rfl) (.inr rfl)) Fn)))),D0,(Gf Zx6 Zwh Zwg Pd D7 (A3 (Dl (A3 D7 (A3 (pv 0) (A3 (Cy Hi rfl T.Ztp K0 (A3 (pv 1) A1)) (A3 (Cy Hi rfl T.Ztp K0 (A3 (pv 2) A1)) A1))))) A1))⟩)) A1)))
 (Aa (Be (G9 (A3 (pv 1) (A3 (pv 2) A1))))))))),?_⟩
  walk_at "rd"
  obtain⟨a,b,c,ws,us,rfl,ha,hb,hc,rw3,ru3⟩:=Gn rS
  have hwl:=Cm rw3
  have hul:=Cm ru3
  have hn:=sd.n
  refine⟨by decide,λp hp=>⟨by decide,λq hq=>?_⟩⟩
  have u1:=A6 (o:=.lst []) hp
  have u2:=A6 (o:=.lst []) hq
  have u:=u1.trans u2
  have pq:p≠q:=λz=>by rw[<- z,A0] at hq;cases hq
  have nq:H q=none:=by rw[A7 (Zzi pq)] at hq;exact hq
  refine⟨_,Ak (j:=0) (u _ _ ha) rfl,b,rfl,ws,u _ _ hb,Er (Fx b _) (A0q (.ref a) S p q H) ⟨_,_,_,_,_,_,_,rfl,⟨u2 _ _ A0,A0,pq,hp,nq,u⟩⟩ (λi Z H' _ h=>by obtain⟨_,_,_,_,_,_,_,_,o⟩:=h;exact o.s _ _ hb) (λi x Z H4 hi hx h=>?_) (λZ H4 h=>?_)⟩
  ·obtain⟨o3,o4,o5,o6,o7,o8,o9,rfl,tw⟩:=h
   obtain⟨w',ew,rw'⟩:=D4 rw3 hx
   obtain⟨aw,cv,pv,rfl,haw,rc,rp'⟩:=Dq rw'
   have hw':=Zzr ew
   obtain⟨okw,okc,okp⟩:=Vp sd hw'
   have et:S.wares.take (i+1)=S.wares.take i++[w']:=by rw[Zyx,ew];rfl
   have pl:=Uy sd i
   have c12:=(sd.wb w' hw').2.2.2.2.2.2.2.1
   have p6:=(sd.wb w' hw').2.2.2.2.1
   obtain⟨ca,cvs,rfl,hca,rcs⟩:=RD.tup_of rc
   obtain⟨pa,pvs,rfl,hpa,rps⟩:=RD.tup_of rp'
   have hcl:=Cm rcs
   have hpl:=Cm rps
   refine gt7 (tw.s _ _ haw) ?_
   refine z7 (λZ' H'=>Z'=[some (.ref a),some (.ref p),some (.ref q),some (.str w'.name),some (.int w'.lag),some (.int w'.gives),some (.int w'.floor),some (.int w'.stock),some (.ref ca),some (.ref pa)]/\TwoAt p q H H' ((S.wares.take (i+1)).map wareR) ((S.wares.take i).flatMap J4).flatten) (λZ' H5 hM=>?_) (λKK hK=>?_)
   rotate_left
   ·walk_at "rd"
    have cs:∀z:Int,.inl z∈(r3 (wareR w')).2->z.natAbs<10^500:=λz hz=>Q4 (okw.cells _ hz)
    refine⟨G2 tw.hp,rfl,cs _ (by simp[r3,wareR]),cs _ (by simp[r3,wareR]),cs _ (by simp[r3,wareR]),cs _ (by simp[r3,wareR]),by decide,λq4 hq4=>⟨(wareR w').1::(r3 (wareR w')).2.map cellT,A0,60,O6 okw,by show 6*60+6*1<=16777216;decide,?_⟩⟩
    have tw4:=tw.same (A6 (o:=.lst (((wareR w').1::(r3 (wareR w')).2.map cellT).map V.str)) hq4)
    refine⟨_,tw4.hp,Zyn (m:=1000) (by simp only[Zzz,Zye];omega) (Bf (Zzm _)),hK _ _ ⟨rfl,?_⟩⟩
    rw[ss,et,Zzq]
    exact tw4.put (wareR w')
   obtain⟨rfl,tw5⟩:=hM
   refine z7 (λZ' H'=>Z'=[some (.ref a),some (.ref p),some (.ref q),some (.str w'.name),some (.int w'.lag),some (.int w'.gives),some (.int w'.floor),some (.int w'.stock),some (.ref ca),some (.ref pa)]/\TwoAt p q H H' ((S.wares.take (i+1)).map wareR) (((S.wares.take i).flatMap J4).flatten++w'.coming.map (Nn w'.name))) (λZ' H6 hM=>?_) (λKK hK=>?_)
   rotate_left
   ·simp only[G5,tNext,Gv,Eu,Gp,Gz,Eh,Ha,Ci,Hh,Gq,tC,tCB,E3,tNil,E1,tOp,tUn,E2,tB,Hb,tOr,Gx,Ej,Gw,Ed,tIf,Gu,Gy,tSl,Ec,tNoPart,tBA,Hk,tDNewK,D9,tYes,rI,rI0,rU,rEq,rNe,rIsA,rIsnotA,rItem,lenA,Dg,Fb,Ex,Fc,tupleA,lenQ,Ho,Hq,rSetD,Fa,He,Hd,Hs,rCat,rCatTT,Ek,E9,E8,Hg,Ea,Eb,Ef,tIf,Ep,Ht,Eo,En,rEqD,rNeD,Hn,Hl,Hu,Dc,Cj,Dd,De,rSortT,Dh,Ct,rSum,rMaxL,Ey,Ee,rGetL,F0,Ei,rRep,Cq,rMax2,rCount,Cr,Hm,rAppend,Df,Cb,rSetA,rSetL,L2.Dn,Fd,Ca,Cp,Cw,Ez,Ew,rStrI,rIntT,Ev,rSplit,rJoin,Eg,Em,  D.ty,Af,Ah,Ag,Ad,Ab,Ae,Bc,Bt,Bs,Ba,Aq,Bb,Bp,Bz,Bw,Bn,Ax,Bo,Bk,Bv,Bu,Bi,At,Bj,Aw,Bm,Bl,Au,Ao,Av,An,As,Ar,Al,Aj,Am,B2,Br,Bq,Ay,Ap,Az,Cv,Cf,Cu,Cd,C4,Ce,Zyq,Zyp,Zyk,Zyo,Zz7,Zzc,Zz6,Zz5,↓reduceIte,Zzp,Zyv,Zzn,Zz8,Zz2,Zzk,Zyy,Zz1,Zz0,Zyg,Zzh,Zzg,Zyz,exists_eq_left',exists_eq_left,V.int.injEq,V.bl.injEq,V.str.injEq,V.ref.injEq,V.ty.injEq,Zyu,and_true,true_and,and_assoc,exists_and_left,exists_eq_right,reduceCtorEq,false_and,and_false,exists_false,or_false,false_or,rExtend]
    have hca5:=tw5.s _ _ hca
    refine⟨G2 tw5.hq,cvs,hca5,?_⟩
    refine Da (Fx ca _) (Bf (by omega)) (λH' s'=>s' _ _ hca5) ((w'.coming.map (Nn w'.name)).map txv) (by rw[Zzz,Zzz,hcl]) (λj y H' hj hy s' N M hN=>?_) (λH6 s6 q3 hq3=>?_)
    ·obtain⟨cc,ec,rcc⟩:=D4 rcs hy
     obtain⟨cca,rfl,hcca⟩:=T6 rcc
     refine gt2 (s' _ _ (tw5.s _ _ hcca)) ?_
     walk_at "rd"
     have ok:=okc cc (Zzr ec)
     refine⟨rfl,Q4 (ok.cells (.inl cc.1) (by simp[r3,Nn])),Q4 (ok.cells (.inl cc.2) (by simp[r3,Nn])),by decide,λq4 hq4=>⟨(Nn w'.name cc).1::(r3 (Nn w'.name cc)).2.map cellT,A0,60,O6 ok,by show 4*60+4*1<=16777216;decide,hN _ _ (s'.trans (A6 hq4)) ?_⟩⟩
     rw[Zzy,Zzy,ec,ss]
     rfl
    ·have v3:=A6 (o:=.lst ((w'.coming.map (Nn w'.name)).map txv)) hq3
     exact⟨q3,rfl,_,v3 _ _ (s6 _ _ tw5.hq),_,A0,Bf (by simp only[Zzz];omega),hK _ _ ⟨rfl,((tw5.same s6).same v3).ext (w'.coming.map (Nn w'.name))⟩⟩
   obtain⟨rfl,tw6⟩:=hM
   simp only[G5,tNext,Gv,Eu,Gp,Gz,Eh,Ha,Ci,Hh,Gq,tC,tCB,E3,tNil,E1,tOp,tUn,E2,tB,Hb,tOr,Gx,Ej,Gw,Ed,tIf,Gu,Gy,tSl,Ec,tNoPart,tBA,Hk,tDNewK,D9,tYes,rI,rI0,rU,rEq,rNe,rIsA,rIsnotA,rItem,lenA,Dg,Fb,Ex,Fc,tupleA,lenQ,Ho,Hq,rSetD,Fa,He,Hd,Hs,rCat,rCatTT,Ek,E9,E8,Hg,Ea,Eb,Ef,tIf,Ep,Ht,Eo,En,rEqD,rNeD,Hn,Hl,Hu,Dc,Cj,Dd,De,rSortT,Dh,Ct,rSum,rMaxL,Ey,Ee,rGetL,F0,Ei,rRep,Cq,rMax2,rCount,Cr,Hm,rAppend,Df,Cb,rSetA,rSetL,L2.Dn,Fd,Ca,Cp,Cw,Ez,Ew,rStrI,rIntT,Ev,rSplit,rJoin,Eg,Em,  D.ty,Af,Ah,Ag,Ad,Ab,Ae,Bc,Bt,Bs,Ba,Aq,Bb,Bp,Bz,Bw,Bn,Ax,Bo,Bk,Bv,Bu,Bi,At,Bj,Aw,Bm,Bl,Au,Ao,Av,An,As,Ar,Al,Aj,Am,B2,Br,Bq,Ay,Ap,Az,Cv,Cf,Cu,Cd,C4,Ce,Zyq,Zyp,Zyk,Zyo,Zz7,Zzc,Zz6,Zz5,↓reduceIte,Zzp,Zyv,Zzn,Zz8,Zz2,Zzk,Zyy,Zz1,Zz0,Zyg,Zzh,Zzg,Zyz,exists_eq_left',exists_eq_left,V.int.injEq,V.bl.injEq,V.str.injEq,V.ref.injEq,V.ty.injEq,Zyu,and_true,true_and,and_assoc,exists_and_left,exists_eq_right,reduceCtorEq,false_and,and_false,exists_false,or_false,false_or,rExtend]
   have hpa6:=tw6.s _ _ hpa
   refine⟨G2 tw6.hq,pvs,hpa6,?_⟩
   refine Da (Fx pa _) (Bf (by omega)) (λH' s'=>s' _ _ hpa6) ((w'.parts.map (Ky w'.name)).map txv) (by rw[Zzz,Zzz,hpl]) (λj y H' hj hy s' N M hN=>?_) (λH7 s7 q3 hq3=>?_)
   ·obtain⟨cc,ec,rcc⟩:=D4 rps hy
    obtain⟨cca,rfl,hcca⟩:=O9 rcc
    refine gt2 (s' _ _ (tw6.s _ _ hcca)) ?_
    walk_at "rd"
    have ok:=okp cc (Zzr ec)
    refine⟨rfl,Q4 (ok.cells (.inl cc.2) (by simp[r3,Ky])),by decide,λq4 hq4=>⟨(Ky w'.name cc).1::(r3 (Ky w'.name cc)).2.map cellT,A0,60,O6 ok,by show 4*60+4*1<=16777216;decide,hN _ _ (s'.trans (A6 hq4)) ?_⟩⟩
    rw[Zzy,Zzy,ec,ss]
    rfl
   ·have v3:=A6 (o:=.lst ((w'.parts.map (Ky w'.name)).map txv)) hq3
    have ef:((S.wares.take (i+1)).flatMap J4).flatten=(((S.wares.take i).flatMap J4).flatten++w'.coming.map (Nn w'.name))++w'.parts.map (Ky w'.name):=by
     rw[et,List.flatMap_append,Zw6,List.append_assoc]
     unfold J4
     simp only[Zvd,List.flatMap_nil,Zyr,Zwo,Zzn]
    exact⟨q3,rfl,_,v3 _ _ (s7 _ _ tw6.hq),_,A0,Bf (by simp only[Zzz,Zym];omega),_,_,_,_,_,_,_,rfl,ef▸((tw6.same s7).same v3).ext (w'.parts.map (Ky w'.name))⟩
  ·obtain⟨o3,o4,o5,o6,o7,o8,o9,rfl,tw⟩:=h
   simp only[G5,tNext,Gv,Eu,Gp,Gz,Eh,Ha,Ci,Hh,Gq,tC,tCB,E3,tNil,E1,tOp,tUn,E2,tB,Hb,tOr,Gx,Ej,Gw,Ed,tIf,Gu,Gy,tSl,Ec,tNoPart,tBA,Hk,tDNewK,D9,tYes,rI,rI0,rU,rEq,rNe,rIsA,rIsnotA,rItem,lenA,Dg,Fb,Ex,Fc,tupleA,lenQ,Ho,Hq,rSetD,Fa,He,Hd,Hs,rCat,rCatTT,Ek,E9,E8,Hg,Ea,Eb,Ef,tIf,Ep,Ht,Eo,En,rEqD,rNeD,Hn,Hl,Hu,Dc,Cj,Dd,De,rSortT,Dh,Ct,rSum,rMaxL,Ey,Ee,rGetL,F0,Ei,rRep,Cq,rMax2,rCount,Cr,Hm,rAppend,Df,Cb,rSetA,rSetL,L2.Dn,Fd,Ca,Cp,Cw,Ez,Ew,rStrI,rIntT,Ev,rSplit,rJoin,Eg,Em,  D.ty,Af,Ah,Ag,Ad,Ab,Ae,Bc,Bt,Bs,Ba,Aq,Bb,Bp,Bz,Bw,Bn,Ax,Bo,Bk,Bv,Bu,Bi,At,Bj,Aw,Bm,Bl,Au,Ao,Av,An,As,Ar,Al,Aj,Am,B2,Br,Bq,Ay,Ap,Az,Cv,Cf,Cu,Cd,C4,Ce,Zyq,Zyp,Zyk,Zyo,Zz7,Zzc,Zz6,Zz5,↓reduceIte,Zzp,Zyv,Zzn,Zz8,Zz2,Zzk,Zyy,Zz1,Zz0,Zyg,Zzh,Zzg,Zyz,exists_eq_left',exists_eq_left,V.int.injEq,V.bl.injEq,V.str.injEq,V.ref.injEq,V.ty.injEq,Zyu,and_true,true_and,and_assoc,exists_and_left,exists_eq_right,reduceCtorEq,false_and,and_false,exists_false,or_false,false_or,rExtend]
   rw[show S.wares.take ws.length=S.wares by rw[hwl,Zyt]] at tw
   have u20:=sd.un
   have pl:=Uy sd S.wares.length
   rw[Zyt] at pl
   refine⟨G2 tw.hq,_,Ak (j:=1) (tw.s _ _ ha) rfl,c,rfl,us,tw.s _ _ hc,?_⟩
   refine Da (Fx c _) (Bf (by omega)) (λH' s'=>s' _ _ (tw.s _ _ hc)) ((S.wants.map wantR).map txv) (by rw[Zzz,Zzz,hul]) (λj y H' hj hy s' N M hN=>?_) (λH7 s7 q3 hq3=>?_)
   ·obtain⟨cc,ec,rcc⟩:=D4 ru3 hy
    obtain⟨cca,rfl,hcca⟩:=Nr rcc
    refine gt3 (s' _ _ (tw.s _ _ hcca)) ?_
    walk_at "rd"
    have ok:=bw sd (Zzr ec)
    refine⟨rfl,Q4 (ok.cells (.inl cc.2.1) (by simp[r3,wantR])),Q4 (ok.cells (.inl cc.2.2) (by simp[r3,wantR])),by decide,λq4 hq4=>⟨(wantR cc).1::(r3 (wantR cc)).2.map cellT,A0,60,O6 ok,by show 4*60+4*1<=16777216;decide,hN _ _ (s'.trans (A6 hq4)) ?_⟩⟩
    rw[Zzy,Zzy,ec,ss]
    rfl
   ·have v3:=A6 (o:=.lst ((S.wants.map wantR).map txv)) hq3
    have tw8:=((tw.same s7).same v3).ext (S.wants.map wantR)
    refine⟨q3,rfl,_,v3 _ _ (s7 _ _ tw.hq),_,A0,Bf (by simp only[Zzz];omega),by decide,λt ht=>?_⟩
    have v9:=A6 (o:=.tup [.ref p,.ref q]) ht
    have tw9:=tw8.same v9
    exact k t p q _ A0 tw9.hp tw9.hq tw9.s
end
set_option maxHeartbeats 4000000
section
variable {P:Program}{w:World}{K:Zzw}{mg:Str->Option Value}{base:Heap}{f:Addr}{fd:FuncData}{Pt:Addr}
theorem cm{H:Hp}{a:Addr}(h:H a=some (.tup [.str "good"])):RD H (.tuple [.str "good"]) (.ref a):=by
 rw[RD]
 exact⟨a,_,rfl,h,by rw[RDs];exact⟨_,_,rfl,by rw[RD],by rw[RDs]⟩⟩
theorem cy:okD (.tuple [.str "good"])=true:=by decide +kernel
theorem pj:PyData.eqv (.tuple [.str "good"]) (.tuple [.str "good"])=true:=Yv _ (by decide +kernel)
theorem Uz{S:Sh}{plan:Str->List Int}{w:Wr}:∀{n:Nat} {x:Str×Nat},Et S plan w n=some x->PyData.strOk x.1=true
 |0,x,h=>by rw[Et] at h;cases h
 |n+1,x,h=>by
  rw[Et] at h
  split at h
  ·rename_i y e
   rw[<- Zz3 h]
   exact Uz e
  ·split at h
   ·rw[<- Zz3 h];exact(by decide +kernel:PyData.strOk ("early" : Str)=true)
   ·split at h
    ·rw[<- Zz3 h];exact(by decide +kernel:PyData.strOk ("below" : Str)=true)
    ·cases h
theorem dm{S:Sh}{plan:Str->List Int}{ys:List Str}:∀{n:Nat} {x:Str×Str×Nat},N5 S plan ys n=some x->PyData.strOk x.1=true/\x.2.1∈ys
 |0,x,h=>by rw[N5] at h;cases h
 |n+1,x,h=>by
  rw[N5] at h
  split at h
  ·rename_i y e
   rw[<- Zz3 h]
   exact dm e
  ·split at h
   ·cases h
   ·rename_i y e
    split at h
    ·cases h
    ·rename_i w e2
     cases e3:J5 S plan w with
     |none=>rw[e3] at h;cases h
     |some z =>
      rw[e3] at h
      rw[<- Zz3 h]
      exact⟨Uz e3,Zzr e⟩
def ay:Option (Str×Str×Nat)->PyData
 |none=>.tuple [.str "good"]
 |some (k,nm,d)=>.tuple [.str k,.str nm,.int d]
theorem me{H:Hp}{t:Addr}:∀{o:Option (Str×Str×Nat)},H t=some (.tup (oh o))->RD H (ay o) (.ref t)
 |none,h=>by
  rw[ay,RD]
  exact⟨t,_,rfl,h,by simp[oh,RDs,RD]⟩
 |some (k,nm,d),h=>by
  rw[ay,RD]
  exact⟨t,_,rfl,h,by simp[oh,RDs,RD]⟩
theorem mr{S:Sh}{plan:Str->List Int}{ys:List Str}(ht:∀x∈ys,PyData.strOk x=true):okD (ay (Mz S plan ys))=true:=by
 cases e:Mz S plan ys with
 |none=>decide +kernel
 |some x =>
  obtain⟨k,nm,d⟩:=x
  obtain⟨h1,h2⟩:=dm (show N5 S plan ys ys.length=some (k,nm,d) from e)
  have h3:=ht _ h2
  unfold okD
  simp[ay,PyData.canLay0,PyData.canLayAll0,PyData.depth,PyData.depthAll]
  exact⟨h1,h3⟩
theorem eh:∀j:Option (Str×Str×Nat),PyData.eqv (ay j) (.tuple [.str "good"])=decide (j=none)
 |none=>pj
 |some (k,nm,d)=>by simp[ay,PyData.eqv,PyData.eqvAll]
theorem xb{K:Zzw}{H H':Hp}{a Pt:Addr}{xs:List V}(h:SqL K H a xs)(t:Tb H Pt)(b:But Pt H H'):SqL K H' a xs:=h.elim (λr=>.inl (r.elim (λe=>.inl (b _ _ (Om t e λu z=>by cases z) e)) (λz0=>by obtain⟨o,e⟩:=z0;exact .inr ⟨o,b _ _ (Om t e λu z=>by cases z) e⟩))) .inr
def x9(H H1:Hp)(i:Nat)(acc:List V)(H':Hp):Prop:=∃sts:List Addr,acc=sts.map V.ref/\sts.length=i/\(∀s∈sts,StOk2 H' s/\H s=none/\H1 s=none)/\Same H1 H'
theorem mz:∀{way ys:List Str},way.Nodup->(∀x∈way,x∈ys)->way.length<=ys.length
 |[],_,_,_=>Zy0 _
 |x::r,ks,nd,h=>by
  rw[Zy7] at nd
  have hx:=h x Zzf
  have h1:=mz (way:=r) (ys:=ks.erase x) nd.2 λy hy=>(List.mem_erase_of_ne (λz=>nd.1 (by rw[<- z];exact hy))).mpr (h y (Zzd _ hy))
  rw[List.length_erase_of_mem hx] at h1
  have h2:=List.length_pos_of_mem hx
  rw[Zzk]
  omega
theorem sw{S:Sh}(g:Good 9 S)(h6:S.wares.length<=6):SD S:=by
 have big:(10:Int)^32<10^41:=by decide +kernel
 have big2:(100:Int)<=10^42:=by decide +kernel
 refine⟨g.len,λw hw=>g.ws.txt w hw,g.ws.nd,λw hw=>?_,g.ws.own,g.wants.1,λu hu=>?_⟩
 ·have wb:=g.ws.wb w hw
  have c:=g.com w hw
  refine⟨wb.lag,wb.gives,wb.floor,⟨wb.stock.1,by have:=wb.stock.2;omega⟩,?_,wb.amts,wb.nds,c.1,λp hp=>?_⟩
  ·have:=mz wb.nds (ys:=S.wares.map (·.name)) λx hx=>by
    obtain⟨p,hp,rfl⟩:=Zzv.mp hx
    exact g.ws.own w hw p hp
   rw[Zzz,Zzz] at this
   omega
  ·have q:=c.2 p hp
   exact⟨q.1,q.2.1,by omega⟩
 ·have q:=g.wants.2 u hu
  exact⟨q.1,q.2.1,q.2.2.1,by omega⟩
def xq(a st l cl t' p q t Pt:Addr)(H:Hp)(i:Nat)(Z:St)(H':Hp):Prop:=∃o8 o9 o10 o11:Option V,Z=[some (.ref a),some (.ref st),some (.ref l),some (.ref cl),some (.ref t'),some (.ref p),some (.ref q),some (.ref t),o8,o9,o10,o11]/\Tb H' Pt/\But Pt H H'
def xx(a st l cl t' p q t o:Addr)(k:Int)(c:Bool)(H:Hp)(i:Nat)(Z:St)(H':Hp):Prop:=∃o11:Option V,Z=[some (.ref a),some (.ref st),some (.ref l),some (.ref cl),some (.ref t'),some (.ref p),some (.ref q),some (.ref t),some (.int k),some (.ref o),some (.bl c),o11]/\H'=H
theorem zy{H:Hp}{Pt o:Addr}{ob:Obj}{kvs:List (Key×V)}(t:Tb H Pt)(h:H o=some (.dK kvs)):Tb (upd H o (.frz ob (.dK kvs))) Pt:=by
 rcases t with e | ⟨c,e,e2⟩
 ·exact .inl (by rw[A7 (λz=>by rw[z,h] at e;cases e)];exact e)
 ·exact .inr ⟨c,by rw[A7 (λz=>by rw[z,h] at e;cases e)];exact e,by rw[A7 (λz=>by rw[z,h] at e2;cases e2)];exact e2⟩
theorem sg{H H':Hp}{Pt st:Addr}(t:Tb H Pt)(s:StOk2 H st)(b:But st H H'):Tb H' Pt:=by
 obtain⟨x,y,q⟩:=s
 rcases t with e | ⟨c,e,e2⟩
 ·exact .inl (b _ _ (λz=>by rw[z,q] at e;cases e) e)
 ·exact .inr ⟨c,b _ _ (λz=>by rw[z,q] at e;cases e) e,b _ _ (λz=>by rw[z,q] at e2;cases e2) e2⟩
def Vh(K:Zzw)(Pt:Addr):Sp:=λvs H Q _=>∃(a:Addr) (ns:List Int),vs=[.ref a]/\SqL K H a (ns.map V.int)/\ns.length<=63/\Tb H Pt/\∀H',Q (.bl true) H'
theorem sc_law:Bg ["_law_script", "_law_state", "_law_wares_here", "_law_cells", "_law_shop", "_law_first", "_law_others", "_law_found", "_law_k", "_law_plan", "_law_keeps", "_law_name"] ["_law_script"] (Ai Rw):=by walk_at "sc"
theorem yg(F:Fun K "law" "law" Rw f fd)(T:Txt mg)(Ztq:Has P w K mg base "_law_drawn" 2 ["_law_script", "_law_k", "_law_salt"] (P8 K))(Zsk:Has P w K mg base "_law_wares" 2 ["_law_state", "_law_many"] sp_law_wares)(Zum:Has P w K mg base "_law_next" 1 ["_law_state", "_law_many"] sp_law_next)(Zsv:Has P w K mg base "_law_filled" 3 ["_law_wares_here", "_law_cells", "_law_sized"] sp_law_filled)(Zsj:Has P w K mg base "_law_lines" 1 ["_law_shop"] sp_law_lines)(Zsi:Has P w K mg base "read_shop" 9 ["text"] sp_read_shop)(Zs7:Has P w K mg base "planned" 7 ["shop"] (Rs Pt))(Zsh:Has P w K mg base "_law_other" 15 ["_law_shop", "_law_state"] sp_law_other)(Zsu:Has P w K mg base "_law_judged" 15 ["_law_shop", "_law_plan"] sp_law_judged)(Zs3:Has P w K mg base "judged" 7 ["shop", "plan"] (Ue Pt))(Zt5:Has P w K mg base "_law_no_more" 1 ["_law_one", "_law_other_here"] sp_law_no_more):D3 P w K mg base CX0 16 f fd ["_law_script"] (Vh K Pt):=by
 refine F.ok sc_law (λvs H Q E h=>?_) (λcdv A outer s H vs Q E hr h=>?_)
 ·obtain⟨a,ns,rfl,_⟩:=h
  rfl
 ·obtain⟨a,ns,rfl,hS,hlen,tb,k⟩:=h
  have hu:=Ch hr
  have hu4:=du hr
  refine⟨_,(A2 (Bh (i:=1) sc_law.nd rfl (Zzu rfl) (A9 Ztq hr.z rfl (A3 (pv 0) (A3 A5 (A3 A5 A1)))))
 (A2 (Bh (i:=2) sc_law.nd rfl (Zzu rfl) (A9 Zsk hr.z rfl (A3 (pv 1) (A3 (C7 Ds A5 (A9 Zum hr.z rfl (A3 (pv 1) (A3 A5 A1)))) A1))))
 (A2 (G7 (own:=["_law_k"]) (cap:=[0]) (i:=3) rfl (Du rfl) (C8 (by decide)) sc_law.nd rfl rfl (S4 rfl T.Zud (A3 A5 (A3 (Bd (Od rfl) rfl T.Zs1 Wu (A3 (Bd J6 rfl T.Zue Fu (A3 (pv 0) A1)) (A3 A5 A1))) A1)))
 (λ_ _ _ _ _ _=>⟨(Ac (i:=0) (of_decide_eq_true rfl) rfl (Zzu rfl) (.inr rfl)),D0,(A9 Ztq hr.z rfl (A3 (pv 1) (A3 (pv 0) (A3 A5 A1))))⟩))
 (A2 (Bh (i:=4) sc_law.nd rfl (Zzu rfl) (A9 Zsv hr.z rfl (A3 (pv 2) (A3 (pv 3) (A3 A5 A1)))))
 (A2 (Je (A9 Zsj hr.z rfl (A3 (pv 4) A1)) (Gk (n:=2) rfl (C2 (Ac (i:=5) sc_law.nd rfl (Zzu rfl)) (C2 (Ac (i:=6) sc_law.nd rfl (Zzu rfl)) Fn))))
 (A2 (Bh (i:=4) sc_law.nd rfl (Zzu rfl) (A9 Zsi hr.z rfl (A3 (Gf Zx6 Zwh Zwg Pd D7 (A3 (C7 Ov (pv 5) (pv 6)) A1)) A1)))
 (A2 (Bh (i:=7) sc_law.nd rfl (Zzu rfl) (A9 Zs7 hr.z rfl (A3 (pv 4) A1)))
 (A2 (D2 PassesOwn.never rfl (Dy rfl T.Zud (A3 (Bd (Od rfl) rfl T.Zs1 Wu (A3 (Bd J6 rfl T.Zue Fu (A3 (pv 0) A1)) (A3 A5 A1))) A1)) (Ac (i:=8) sc_law.nd rfl (Zzu rfl))
 (A2 (Bh (i:=9) sc_law.nd rfl (Zzu rfl) (A9 Zsh hr.z rfl (A3 (pv 4) (A3 (A9 Ztq hr.z rfl (A3 (pv 0) (A3 (pv 8) (A3 A5 A1)))) A1))))
 (A2 (Bh (i:=10) sc_law.nd rfl (Zzu rfl) (Ih (mq hu4) (A9 Zsu hr.z rfl (A3 (pv 4) (A3 (pv 9) A1))) (G9 (A3 D7 A1)) (Cc _)))
 (A2 (Db (C6 (Vv hu) (Ih (mq hu4) (A9 Zs3 hr.z rfl (A3 (pv 4) (A3 (pv 9) A1))) (G9 (A3 D7 A1)) (Cc _)) (pv 10) (Cc _)) (Aa (Be K6)) C5)
 (A2 (Db (PW.pt (Os (Es (pv 10)) (Ml (C6 (Vv hu) (A8 hu (pv 7) A5 (λ_ _=>rfl)) D7 (Cc _))))) (Aa (Be K6)) C5)
 (Aa (D2 PassesOwn.never rfl (mh (pv 9)) (Ac (i:=11) sc_law.nd rfl (Zzu rfl))
 (Aa (Db (PW.pt (Os (Es (pv 10)) (Ml (E4 (Es (A9 Zt5 hr.z rfl (A3 (A8 hu (A8 hu (pv 7) A5 (λ_ _=>rfl)) (pv 11) (λ_ _=>rfl)) (A3 (A8 hu (pv 9) (pv 11) (λ_ _=>rfl)) A1)))))))) (Aa (Be K6)) C5)))))))))
 (Aa (Be K6)))))))))),?_⟩
  walk_at "rd"
  refine⟨a,ns,1,5,rfl,hS,hlen,by decide,λst H1 fst s1 sm1=>?_⟩
  refine⟨st,4,rfl,s1,by decide,by decide +kernel,λd H2 d0 d1 s2 b2=>⟨d,rfl,?_⟩⟩
  have sm2:=Uf sm1 b2 fst
  have em:1+d=(((1+d).toNat:Nat):Int):=by omega
  rw[em]
  refine⟨st,(1+d).toNat,rfl,s2,by omega,(show (1+d).toNat<=8 by omega),λl rs H5 fl hl hrs raws ws each s5 b5=>?_⟩
  have sm5:=Uf sm2 b5 fst
  refine⟨_,.inl (sm5.seq hS),by decide,by decide,by split<;>omega,by rw[Zzz];split<;>omega,?_⟩
  rw[Zzz]
  have hcnt:((if 32<(ns.length:Int) then 32 else (ns.length:Int)) - 2).toNat<=63:=by split<;>omega
  refine Jz (L4 2 _) (Bf (by omega)) (x9 H H5) ⟨[],rfl,rfl,(λ_ h=>nomatch h),Same.refl _⟩ (λ_ _ _ _ _=>trivial) (λj acc H' h=>by obtain⟨sts,rfl,e,_⟩:=h;rw[Zzz];exact Zvj e) (λj x acc H6 hj hx h=>?_) (λacc H6 h cl hcl=>?_)
  ·obtain⟨sts,rfl,h2,h3,h4⟩:=h
   subst hx
   walk_at "rd"
   refine⟨a,ns,_,9,rfl,(sm5.trans h4).seq hS,hlen,by omega,λs' H7 fs' s7 sm7=>?_⟩
   refine⟨sts++[s'],by rw[Zzq];rfl,by simp[h2],λz hz=>?_,h4.trans sm7⟩
   rcases Zyj.mp hz with w | w
   ·exact⟨(h3 z w).1.same sm7,(h3 z w).2⟩
   ·rw[Zyw.mp w];exact⟨s7,Same.free (sm5.trans h4) fs',Same.free h4 fs'⟩
  obtain⟨sts,rfl,h2,h3,h4⟩:=h
  have u5:=A6 (o:=.lst (sts.map V.ref)) hcl
  have sm6:=h4.trans u5
  have raws6:=raws.same sm6
  refine⟨l,cl,9,rs,sts,rfl,by decide,by decide,sm6 _ _ hl,A0,by omega,raws6,(λr hr=>?_),by omega,by omega,(λs hs=>(h3 s hs).1.same u5),λx S H7 rx ec com wok kp=>?_⟩
  ·obtain⟨e1,e2,e3,e4,e5⟩:=each r hr
   obtain⟨_,⟨cv,hc,_⟩,_⟩:=raws.each r hr
   exact⟨e1,e5,A4 (h4 _ _ hc) hcl⟩
  have en:S.wares.map (·.name)=(rs.map (·.w)).map (·.name):=by
   have:=congrArg (Zy4 (λx=>Wr.name x)) ec
   rw[Zyh (g:=λx=>Wr.name x),Zyh (g:=λx=>Wr.name x)] at this
   exact this
  have el:S.wares.length=rs.length:=by
   have:=congrArg Zwa en
   rw[Zzz,Zzz,Zzz] at this
   exact this
  have g:Good 9 S:=⟨ws.core ec,by omega,com,⟨wok.1,λu hu=>by obtain⟨q0,q1⟩:=wok.2 u hu;exact⟨by rw[en];exact q0,q1⟩⟩⟩
  have sm7:Same H H7:=λb o hb=>by
   refine kp b o (λw=>?_) (λw=>?_) ((sm5.trans sm6) b o hb)
   ·have:=(h3 b w).2.1
    rw[hb] at this
    cases this
   ·obtain⟨r,hr,e⟩:=Zzv.mp w
    have:=(each r hr).2.2.1
    rw[show r.c=b from e,sm2 b o hb] at this
    cases this
  have sd:=sw g (by omega)
  have L:=Nk g
  have E:=Wo g
  refine⟨x,S,rfl,rx,sd,λt8 p q H8 ht hp hq s8=>gt2 ht ?_⟩
  have sr:=gq sd (Yd S)
  obtain⟨e1,_⟩:=jy sd (Yd S)
  have sl:=sr.len
  have n10:Str.ofString "\n" = one 10:=by decide +kernel
  walk_at "rd"
  refine⟨rfl,_,hp,_,hq,Bf (by have:=sr.len;rw[Zym] at this;simp only[Zzz] at this ⊢;omega),λp9 hp9=>⟨(S.wares.map wareR++Oa S).map λr=>Oq (r3 r),?_,400,λy hy=>?_,?_,?_⟩⟩
  ·rw[A0,<- Zzq,Zyh]
   rfl
  ·obtain⟨r,hr',rfl⟩:=Zzv.mp hy
   exact Vq (sr.ok r hr')
  ·rw[n10,Zzz]
   show _*400+_*1<=16777216
   omega
  have u9:=A6 (o:=.lst ((S.wares.map wareR).map txv++(Oa S).map txv)) hp9
  refine⟨S.wares.map wareR++Oa S,by rw[n10];rfl,sr,λt' H10 rS s10=>?_⟩
  rw[e1] at rS
  have sm10:Same H H10:=((sm7.trans s8).trans u9).trans s10
  have tb10:=tb.same sm10
  refine⟨.ref t',S,9,rfl,rS,g,by decide,by decide,tb10,λt pp ys i H11 ht11 hp11 tp sb11 ra hne tb11 bt11 hcase=>?_⟩
  have rS11:=RD.ku (bz tb10 bt11) _ _ (Mn S) rS
  have hS11:=xb (sm10.seq hS) tb10 bt11
  have hyw:∀w∈S.wares,w.name∈ys:=λw hw=>(M2 sb11).1.mem_iff.mpr (Zzv.mpr ⟨w,hw,rfl⟩)
  have hyok:∀x∈ys,PyData.strOk x=true:=λx hx=>g.txt x ((M2 sb11).1.mem_iff.mp hx)
  obtain⟨n1,n2,n3,n4⟩:=g.days (by decide) (by decide)
  have keeps:∀{plan:Str->List Int} {Hx:Hp} {o:Addr},PlanAt Hx o S plan->Mz S plan ys=none->fw S plan:=λ{plan Hx o} pl e=>by
   obtain⟨kvs,_,hpl⟩:=pl
   refine j5 L.toLev hyw e (λw hw=>by obtain⟨_,_,_,e4,_⟩:=hpl w.name (Zzv.mpr ⟨w,hw,rfl⟩);exact e4) λw hw i=>?_
   obtain⟨_,_,_,_,e5⟩:=hpl w.name (Zzv.mpr ⟨w,hw,rfl⟩)
   rw[Zzo]
   cases e6:(plan w.name)[i]? with
   |none=>exact Zy3 _
   |some y=>exact(e5 y (Zzr e6)).1
  refine⟨_,.inl hS11,by rw[Zzz];split<;>omega,by rw[Zzz];split<;>omega,?_⟩
  rw[Zzz]
  refine Er (L4 0 _) (xq a st l cl t' p q t Pt H11) ⟨_,_,_,_,rfl,tb11,But.refl _ _⟩ (λ_ _ _ _ _=>trivial) (λi6 y Z H12 hi hy h=>?_) (λZ H12 h=>?_)
  rotate_left
  ·obtain⟨o8,o9,o10,o11,rfl,_,_⟩:=h
   walk_at "rd"
   exact k _
  obtain⟨o8,o9,o10,o11,rfl,tb12,b12⟩:=h
  subst hy
  rw[show (0+(i6:Int))=((i6:Nat):Int) by omega]
  have rS12:=RD.ku (bz tb11 b12) _ _ (Mn S) rS11
  have hS12:=xb hS11 tb11 b12
  walk_at "rd"
  refine⟨a,ns,_,21,rfl,hS12,hlen,by omega,λst' H13 fst' s13 sm13=>?_⟩
  refine⟨.ref t',st',S,9,rfl,RD.same sm13 _ _ rS12,g,by decide,by decide,s13,λo plan H14 ho pl14 ki14 kl14 s14 b14=>?_⟩
  have rS14:=RD.ku (Q6 b14 s13) _ _ (Mn S) (RD.same sm13 _ _ rS12)
  refine⟨.ref t',o,S,plan,9,rfl,rS14,pl14,g,by decide,by decide,λt15 ys15 H15 ht15 sb15 h15 sm15=>?_⟩
  rw[Ud sb15 sb11] at h15
  refine⟨by decide,λg1 hg1=>⟨_,me (A6 hg1 _ _ h15),_,cm A0,mr hyok,cy,?_⟩⟩
  rw[eh]
  have u16:=A6 (o:=.tup [.str "good"]) hg1
  have s1416:=sm15.trans u16
  have tb14:=sg (tb12.same sm13) s13 b14
  have tb16:=tb14.same s1416
  have k1114:∀b u,b≠Pt->H11 b=some u->H14 b=some u:=λb u nb e=>by
   have e2:=b12 _ _ nb e
   exact b14 _ _ (λz=>by rw[z,fst'] at e2;cases e2) (sm13 _ _ e2)
  generalize upd H15 g1 (.tup [.str "good"])=H16 at s1416 tb16
  refine⟨.ref t',o,S,plan,9,rfl,RD.same s1416 _ _ rS14,pl14.same s1416,g,by decide,by decide,tb16,λt17 ys17 H17 ht17 sb17 h17 tb17 bt17=>?_⟩
  rw[Ud sb17 sb11] at h17
  refine⟨by decide,λg2 hg2=>⟨_,me (A6 hg2 _ _ h17),_,cm A0,mr hyok,cy,?_⟩⟩
  rw[eh]
  have u18:=A6 (o:=.tup [.str "good"]) hg2
  have tb18:=tb17.same u18
  have k1418:∀b u,b≠Pt->H14 b=some u->upd H17 g2 (.tup [.str "good"]) b=some u:=λb u nb e=>u18 _ _ (bt17 _ _ nb (s1416 _ _ e))
  generalize upd H17 g2 (.tup [.str "good"])=H18 at k1418 tb18
  obtain⟨kvs,hko,hkl⟩:=kl14
  have oPt:o≠Pt:=Om tb14 hko λu z=>by cases z
  have hko18:=k1418 _ _ oPt hko
  have keyo:=ki14 kvs hko
  obtain⟨kvs',hk',hpl⟩:=pl14
  have ek:kvs'=kvs:=by
   rcases hk' with e | ⟨ob,e⟩
   ·rw[hko] at e;exact(HO.dK.inj (Zz3 e)).symm
   ·rw[hko] at e;cases e
  subst ek
  have kf:∀(ob:Obj) b u,b≠Pt->H11 b=some u->upd H18 o (.frz ob (.dK kvs')) b=some u:=λob b u nb e=>by
   rw[A7 (λz=>by have:=sm13 _ _ (b12 _ _ nb e);rw[z,ho] at this;cases this)]
   exact k1418 _ _ nb (k1114 b u nb e)
  have fin:∀(ob:Obj) (o8 o9 o10 o11:Option V),xq a st l cl t' p q t Pt H11 (i6+1) [some (.ref a),some (.ref st),some (.ref l),some (.ref cl),some (.ref t'),some (.ref p),some (.ref q),some (.ref t),o8,o9,o10,o11] (upd H18 o (.frz ob (.dK kvs'))):=λob o8 o9 o10 o11=>⟨_,_,_,_,rfl,zy tb18 hko18,kf ob⟩
  by_cases cz:Mz S plan ys=none
  ·rw[decide_eq_true cz]
   refine⟨rfl,?_⟩
   rw[if_neg (by decide),if_pos rfl]
   have kp:=keeps ⟨kvs',hk',hpl⟩ cz
   rcases hcase with ⟨hi',h2⟩ | ⟨wr,d',hwr,hi',hed,h2⟩
   ·have tPt:t≠Pt:=Om tb11 h2 λu z=>by cases z
    have h218:=k1418 _ _ tPt (k1114 _ _ tPt h2)
    refine⟨_,Ak (j:=0) h218 rfl,rfl,?_⟩
    rw[if_neg (by decide)]
    refine⟨o,rfl,kvs',hko18,λob=>?_⟩
    subst hi'
    rw[Zyt] at ra hne
    obtain⟨kvs2,hp9,hk2,rows,ap⟩:=ra
    have pPt:pp≠Pt:=Om tb11 hp9 λu z=>by cases z
    refine Er (ox o ob kvs') (xx a st l cl t' p q t o i6 true (upd H18 o (.frz ob (.dK kvs')))) ⟨_,rfl,rfl⟩ (λi Z H' _ h=>by obtain⟨_,_,rfl⟩:=h;exact A0) (λj x Z H' hj hx h=>?_) (λZ H' h=>?_)
    ·obtain⟨o11',rfl,rfl⟩:=h
     obtain⟨ky,vv,hkv,rfl⟩:=hx
     obtain⟨nm,hnm,eky⟩:=keyo _ (Zzr hkv)
     have eky:ky=.inr nm:=eky
     subst eky
     obtain⟨w,hw,rfl⟩:=Zzv.mp hnm
     obtain⟨la,_,_,a3,a4⟩:=rows w.name (hyw w hw)
     obtain⟨lb,b1,b2,b3,b4⟩:=hpl w.name hnm
     have laPt:la≠Pt:=Om tb11 a4 λu z=>by cases z
     have lbPt:lb≠Pt:=Om tb14 b2 λu z=>by cases z
     have hlb:upd H18 o (.frz ob (.dK kvs')) lb=some (.lst ((plan w.name).map V.int)):=by
      rw[A7 (λz=>by rw[z,hko] at b2;cases b2)]
      exact k1418 _ _ lbPt b2
     walk_at "rd"
     refine⟨_,Ak (j:=1) (kf ob _ _ tPt h2) rfl,_,L0 (.inl (kf ob _ _ pPt hp9)) a3,_,L0 (.inr ⟨_,A0⟩) b1,la,lb,LR S w.name,plan w.name,rfl,kf ob _ _ laPt a4,hlb,by rw[b3];exact T7 L.toLev hw,by rw[T7 L.toLev hw];exact n2,λd=>Ur L.toLev E kp (lv S w.name).toNat w hw (by have:=Um S w.name;omega) d,?_⟩
     refine⟨true,rfl,?_⟩
     rw[if_neg (by decide)]
     exact⟨_,rfl,rfl⟩
    ·obtain⟨o11',rfl,rfl⟩:=h
     exact fin ob _ _ _ _
   ·rw[Yh L.toLev E kp hwr] at hed
    cases hed
  ·rw[decide_eq_false cz]
   refine⟨rfl,?_⟩
   rw[if_neg (by decide),if_neg (by decide)]
   refine⟨o,rfl,kvs',hko18,λob=>?_⟩
   refine Er (ox o ob kvs') (xx a st l cl t' p q t o i6 false (upd H18 o (.frz ob (.dK kvs')))) ⟨_,rfl,rfl⟩ (λi Z H' _ h=>by obtain⟨_,_,rfl⟩:=h;exact A0) (λj x Z H' hj hx h=>?_) (λZ H' h=>?_)
   ·obtain⟨o11',rfl,rfl⟩:=h
    walk_at "rd"
    exact⟨_,rfl,rfl⟩
   ·obtain⟨o11',rfl,rfl⟩:=h
    exact fin ob _ _ _ _
end
abbrev aI(K:Zzw)(x:Str)(f:Addr):Prop:=Zxw K mainGlobals x=some (some (.ref f))
abbrev lI(K:Zzw)(x:Str)(s:Stmt)(f:Addr)(o:Value)(d:Option Addr)(k c p:Value)(n:Option Addr)(v t:Value)(l:Array (Option Value)):Prop:=K.lookup f=some ⟨o,d,.func (Zwl x x (Mu s) (Kq s) (Ai s) .none k c p n v t),l⟩
abbrev cI(K:Zzw)(v:Value)(x:Str):Prop:=Zuv K v x=true
abbrev kI(K:Zzw)(f:Addr):Prop:=Zvv K (.ref f)=true
abbrev zI(K:Zzw)(x:Str):Prop:=Zxw K mainGlobals x=some none
def Dm(P:Program)(w:World)(base:Heap)(K:Zzw)(mg:Str->Option Value):Prop:=∃h:Heap,K.In h/\h.Ns mainGlobals mg
theorem Do{P:Program}{w:World}{K:Zzw}{mg:Str->Option Value}{base:Heap}{x:Str}{k:Nat}{st:Stmt}{f:Addr}{fd:FuncData}{ps:List Str}{sp:Sp}(D:Dm P w base K mg)(a:aI K x f)(F:Fun K x x st f fd)(o:D3 P w K mg base CX0 k f fd ps sp)
  (h:∀(kV doc pm:Value) (an:Option Addr) (cdv ct:Value) (us:List Value),us.length=ps.length->bindArgs (Zwl x x (Mu st) (Kq st) (Ai st) .none kV doc pm an cdv ct) ⟨us,[]⟩=pure (ps.zip us)):Has P w K mg base x k ps sp:=by obtain⟨_,X,G⟩:=D;exact⟨f,fd,Zy5 X G a,F.2,F.binds h,o⟩
theorem len1{C:List Value->Prop}(h:∀a:Value,C [a]):∀us:List Value,us.length=1->C us:=λus hl=>match us,hl with | [_],_=>h _
theorem len2{C:List Value->Prop}(h:∀a b:Value,C [a,b]):∀us:List Value,us.length=2->C us:=λus hl=>match us,hl with | [_,_],_=>h _ _
theorem len3{C:List Value->Prop}(h:∀a b c:Value,C [a,b,c]):∀us:List Value,us.length=3->C us:=λus hl=>match us,hl with | [_,_,_],_=>h _ _ _
theorem len4{C:List Value->Prop}(h:∀a b c d:Value,C [a,b,c,d]):∀us:List Value,us.length=4->C us:=λus hl=>match us,hl with | [_,_,_,_],_=>h _ _ _ _
theorem all_mk{l:PySem.W.OpenLaw}{w:World}{K:Zzw}{h:Heap}{mg:Str->Option Value}{fa:Addr}(X:K.In h)(G:h.Ns mainGlobals mg)(hfa:mg "law" = some (.ref fa))
  {f1 f2 f3 f4 f5 f6 f7 f8 f9 f10 f11 f12 f13 f14 f15 f16 f17 f18 f19 f20 f21 f22 f23 f24 f25 f26 f27 f28 f29 f30 f31 f32 f33 f34 f35 f36 f37 f38 f39 f40 f41 f42 f43 f44 f45 f46 f47 f48 f49 f50 f51 f52 f53 f54 f55 f56 f57 f58 f59 f60 f61 f62 f63 f64 f65:Addr} {d1 n1 d2 n2 d3 n3 d4 n4 d5 n5 d6 n6 d7 n7 d8 n8 d9 n9 d10 n10 d11 n11 d12 n12 d13 n13 d14 n14 d15 n15 d16 n16 d17 n17 d18 n18 d19 n19 d20 n20 d21 n21 d22 n22 d23 n23 d24 n24 d25 n25 d26 n26 d27 n27 d28 n28 d29 n29 d30 n30 d31 n31 d32 n32 d33 n33 d34 n34 d35 n35 d36 n36 d37 n37 d38 n38 d39 n39 d40 n40 d41 n41 d42 n42 d43 n43 d44 n44 d45 n45 d46 n46 d47 n47 d48 n48 d49 n49 d50 n50 d51 n51 d52 n52 d53 n53 d54 n54 d55 n55 d56 n56 d57 n57 d58 n58 d59 n59 d60 n60 d61 n61 d62 n62 d63 n63 d64 n64 d65 n65:Option Addr} {s1 s2 s3 s4 s5 s6 s7 s8 s9 s10 s11 s12 s13 s14 s15 s16 s17 s18 s19 s20 s21 s22 s23 s24 s25 s26 s27 s28 s29 s30 s31 s32 s33 s34 s35 s36 s37 s38 s39 s40 s41 s42 s43 s44 s45 s46 s47 s48 s49 s50 s51 s52 s53 s54 s55 s56 s57 s58 s59 s60 s61 s62 s63 s64 s65:Array (Option Value)} {o1 v1 e1 p1 g1 t1 o2 v2 e2 p2 g2 t2 o3 v3 e3 p3 g3 t3 o4 v4 e4 p4 g4 t4 o5 v5 e5 p5 g5 t5 o6 v6 e6 p6 g6 t6 o7 v7 e7 p7 g7 t7 o8 v8 e8 p8 g8 t8 o9 v9 e9 p9 g9 t9 o10 v10 e10 p10 g10 t10 o11 v11 e11 p11 g11 t11 o12 v12 e12 p12 g12 t12 o13 v13 e13 p13 g13 t13 o14 v14 e14 p14 g14 t14 o15 v15 e15 p15 g15 t15 o16 v16 e16 p16 g16 t16 o17 v17 e17 p17 g17 t17 o18 v18 e18 p18 g18 t18 o19 v19 e19 p19 g19 t19 o20 v20 e20 p20 g20 t20 o21 v21 e21 p21 g21 t21 o22 v22 e22 p22 g22 t22 o23 v23 e23 p23 g23 t23 o24 v24 e24 p24 g24 t24 o25 v25 e25 p25 g25 t25 o26 v26 e26 p26 g26 t26 o27 v27 e27 p27 g27 t27 o28 v28 e28 p28 g28 t28 o29 v29 e29 p29 g29 t29 o30 v30 e30 p30 g30 t30 o31 v31 e31 p31 g31 t31 o32 v32 e32 p32 g32 t32 o33 v33 e33 p33 g33 t33 o34 v34 e34 p34 g34 t34 o35 v35 e35 p35 g35 t35 o36 v36 e36 p36 g36 t36 o37 v37 e37 p37 g37 t37 o38 v38 e38 p38 g38 t38 o39 v39 e39 p39 g39 t39 o40 v40 e40 p40 g40 t40 o41 v41 e41 p41 g41 t41 o42 v42 e42 p42 g42 t42 o43 v43 e43 p43 g43 t43 o44 v44 e44 p44 g44 t44 o45 v45 e45 p45 g45 t45 o46 v46 e46 p46 g46 t46 o47 v47 e47 p47 g47 t47 o48 v48 e48 p48 g48 t48 o49 v49 e49 p49 g49 t49 o50 v50 e50 p50 g50 t50 o51 v51 e51 p51 g51 t51 o52 v52 e52 p52 g52 t52 o53 v53 e53 p53 g53 t53 o54 v54 e54 p54 g54 t54 o55 v55 e55 p55 g55 t55 o56 v56 e56 p56 g56 t56 o57 v57 e57 p57 g57 t57 o58 v58 e58 p58 g58 t58 o59 v59 e59 p59 g59 t59 o60 v60 e60 p60 g60 t60 o61 v61 e61 p61 g61 t61 o62 v62 e62 p62 g62 t62 o63 v63 e63 p63 g63 t63 o64 v64 e64 p64 g64 t64 o65 v65 e65 p65 g65 t65:Value} {t_COMING:Tok} {t_FIGURES:Tok} {t_FLOOR:Tok} {t_GIVES:Tok} {t_LAG:Tok} {t_LAST_DAY:Tok} {t_LETTERS:Tok} {t_MEMBERS:Tok} {t_MOST_COMING:Tok} {t_MOST_FIGURES:Tok} {t_MOST_LAG:Tok} {t_MOST_LETTERS:Tok} {t_MOST_PARTS:Tok} {t_MOST_WANTS:Tok} {t_MOST_WARES:Tok} {t_NAME:Tok} {t_PARTS:Tok} {t_STOCK:Tok} {t_WANT_AMOUNT:Tok} {t_WANT_DAY:Tok} {t_WANT_NAME:Tok} {Ra R1 R2 R3 R4:Addr} {Re Rn1 Rn2 Rn3 Rn4:Nat} {Rt1 Rt2 Rt3 Rt4 Rt1_0 Rt1_1 Rt1_2 Rt1_3 Rt1_4 Rt2_0 Rt2_1 Rt2_2 Rt3_0 Rt3_1 Rt3_2 Rt4_0 Rt4_1 Rt4_2:Tok} {ct Pt:Addr} {odc:Option Addr} {vsc:Array Value} {slc:Array (Option Value)}
  (a1:aI K "_law_cell_at" f1) (l1:lI K "_law_cell_at" Jm f1 o1 d1 v1 e1 p1 n1 g1 t1 s1) (c1:cI K g1 "_law_cell_at") (k1:kI K f1)
  (a2:aI K "_law_drawn" f2) (l2:lI K "_law_drawn" Lm f2 o2 d2 v2 e2 p2 n2 g2 t2 s2) (c2:cI K g2 "_law_drawn") (k2:kI K f2)
  (a3:aI K "_law_next" f3) (l3:lI K "_law_next" Md f3 o3 d3 v3 e3 p3 n3 g3 t3 s3) (c3:cI K g3 "_law_next") (k3:kI K f3)
  (a4:aI K "_law_wares" f4) (l4:lI K "_law_wares" Lf f4 o4 d4 v4 e4 p4 n4 g4 t4 s4) (c4:cI K g4 "_law_wares") (k4:kI K f4)
  (a5:aI K "_law_amount" f5) (l5:lI K "_law_amount" Kk f5 o5 d5 v5 e5 p5 n5 g5 t5 s5) (c5:cI K g5 "_law_amount") (k5:kI K f5)
  (a6:aI K "_law_filled" f6) (l6:lI K "_law_filled" Kj f6 o6 d6 v6 e6 p6 n6 g6 t6 s6) (c6:cI K g6 "_law_filled") (k6:kI K f6)
  (a7:aI K "_law_lines" f7) (l7:lI K "_law_lines" Lk f7 o7 d7 v7 e7 p7 n7 g7 t7 s7) (c7:cI K g7 "_law_lines") (k7:kI K f7)
  (a8:aI K "is_name" f8) (l8:lI K "is_name" O4 f8 o8 d8 v8 e8 p8 n8 g8 t8 s8) (c8:cI K g8 "is_name") (k8:kI K f8)
  (a9:aI K "read_name" f9) (l9:lI K "read_name" Ld f9 o9 d9 v9 e9 p9 n9 g9 t9 s9) (c9:cI K g9 "read_name") (k9:kI K f9)
  (a10:aI K "is_number" f10) (l10:lI K "is_number" Lo f10 o10 d10 v10 e10 p10 n10 g10 t10 s10) (c10:cI K g10 "is_number") (k10:kI K f10)
  (a11:aI K "read_number" f11) (l11:lI K "read_number" Jk f11 o11 d11 v11 e11 p11 n11 g11 t11 s11) (c11:cI K g11 "read_number") (k11:kI K f11)
  (a12:aI K "read_words" f12) (l12:lI K "read_words" Ke f12 o12 d12 v12 e12 p12 n12 g12 t12 s12) (c12:cI K g12 "read_words") (k12:kI K f12)
  (a13:aI K "read_row" f13) (l13:lI K "read_row" M9 f13 o13 d13 v13 e13 p13 n13 g13 t13 s13) (c13:cI K g13 "read_row") (k13:kI K f13)
  (a14:aI K "rows_of" f14) (l14:lI K "rows_of" Nv f14 o14 d14 v14 e14 p14 n14 g14 t14 s14) (c14:cI K g14 "rows_of") (k14:kI K f14)
  (a15:aI K "written_shop" f15) (l15:lI K "written_shop" Iv f15 o15 d15 v15 e15 p15 n15 g15 t15 s15) (c15:cI K g15 "written_shop") (k15:kI K f15)
  (a16:aI K "names_of" f16) (l16:lI K "names_of" Ma f16 o16 d16 v16 e16 p16 n16 g16 t16 s16) (c16:cI K g16 "names_of") (k16:kI K f16)
  (a17:aI K "is_tuple" f17) (l17:lI K "is_tuple" Mi f17 o17 d17 v17 e17 p17 n17 g17 t17 s17) (c17:cI K g17 "is_tuple") (k17:kI K f17)
  (a18:aI K "is_whole" f18) (l18:lI K "is_whole" Mh f18 o18 d18 v18 e18 p18 n18 g18 t18 s18) (c18:cI K g18 "is_whole") (k18:kI K f18)
  (a19:aI K "is_from" f19) (l19:lI K "is_from" O5 f19 o19 d19 v19 e19 p19 n19 g19 t19 s19) (c19:cI K g19 "is_from") (k19:kI K f19)
  (a20:aI K "is_between" f20) (l20:lI K "is_between" Kl f20 o20 d20 v20 e20 p20 n20 g20 t20 s20) (c20:cI K g20 "is_between") (k20:kI K f20)
  (a21:aI K "is_want" f21) (l21:lI K "is_want" Ny f21 o21 d21 v21 e21 p21 n21 g21 t21 s21) (c21:cI K g21 "is_want") (k21:kI K f21)
  (a22:aI K "are_wants" f22) (l22:lI K "are_wants" Lr f22 o22 d22 v22 e22 p22 n22 g22 t22 s22) (c22:cI K g22 "are_wants") (k22:kI K f22)
  (a23:aI K "is_part" f23) (l23:lI K "is_part" O0 f23 o23 d23 v23 e23 p23 n23 g23 t23 s23) (c23:cI K g23 "is_part") (k23:kI K f23)
  (a24:aI K "are_unlike" f24) (l24:lI K "are_unlike" Ko f24 o24 d24 v24 e24 p24 n24 g24 t24 s24) (c24:cI K g24 "are_unlike") (k24:kI K f24)
  (a25:aI K "are_parts" f25) (l25:lI K "are_parts" Ls f25 o25 d25 v25 e25 p25 n25 g25 t25 s25) (c25:cI K g25 "are_parts") (k25:kI K f25)
  (a26:aI K "is_arrival" f26) (l26:lI K "is_arrival" Km f26 o26 d26 v26 e26 p26 n26 g26 t26 s26) (c26:cI K g26 "is_arrival") (k26:kI K f26)
  (a27:aI K "are_arrivals" f27) (l27:lI K "are_arrivals" Iz f27 o27 d27 v27 e27 p27 n27 g27 t27 s27) (c27:cI K g27 "are_arrivals") (k27:kI K f27)
  (a28:aI K "is_ware" f28) (l28:lI K "is_ware" Nx f28 o28 d28 v28 e28 p28 n28 g28 t28 s28) (c28:cI K g28 "is_ware") (k28:kI K f28)
  (a29:aI K "are_wares" f29) (l29:lI K "are_wares" Lq f29 o29 d29 v29 e29 p29 n29 g29 t29 s29) (c29:cI K g29 "are_wares") (k29:kI K f29)
  (a30:aI K "part_names" f30) (l30:lI K "part_names" Kf f30 o30 d30 v30 e30 p30 n30 g30 t30 s30) (c30:cI K g30 "part_names") (k30:kI K f30)
  (a31:aI K "needed_names" f31) (l31:lI K "needed_names" Ix f31 o31 d31 v31 e31 p31 n31 g31 t31 s31) (c31:cI K g31 "needed_names") (k31:kI K f31)
  (a32:aI K "is_shop" f32) (l32:lI K "is_shop" Nz f32 o32 d32 v32 e32 p32 n32 g32 t32 s32) (c32:cI K g32 "is_shop") (k32:kI K f32)
  (a33:aI K "read_shop" f33) (l33:lI K "read_shop" Lc f33 o33 d33 v33 e33 p33 n33 g33 t33 s33) (c33:cI K g33 "read_shop") (k33:kI K f33)
  (a34:aI K "without_ends" f34) (l34:lI K "without_ends" Iw f34 o34 d34 v34 e34 p34 n34 g34 t34 s34) (c34:cI K g34 "without_ends") (k34:kI K f34)
  (a35:aI K "endless_parts" f35) (l35:lI K "endless_parts" Ig f35 o35 d35 v35 e35 p35 n35 g35 t35 s35) (c35:cI K g35 "endless_parts") (k35:kI K f35)
  (a36:aI K "ring" f36) (l36:lI K "ring" Vo f36 o36 d36 v36 e36 p36 n36 g36 t36 s36) (c36:cI K g36 "ring") (k36:kI K f36)
  (a37:aI K "check_rings" f37) (l37:lI K "check_rings" Jp f37 o37 d37 v37 e37 p37 n37 g37 t37 s37) (c37:cI K g37 "check_rings") (k37:kI K f37)
  (a38:aI K "levels" f38) (l38:lI K "levels" Pb f38 o38 d38 v38 e38 p38 n38 g38 t38 s38) (c38:cI K g38 "levels") (k38:kI K f38)
  (a39:aI K "worked" f39) (l39:lI K "worked" P9 f39 o39 d39 v39 e39 p39 n39 g39 t39 s39) (c39:cI K g39 "worked") (k39:kI K f39)
  (a40:aI K "ware_of" f40) (l40:lI K "ware_of" Nu f40 o40 d40 v40 e40 p40 n40 g40 t40 s40) (c40:cI K g40 "ware_of") (k40:kI K f40)
  (a41:aI K "lots_for" f41) (l41:lI K "lots_for" Mb f41 o41 d41 v41 e41 p41 n41 g41 t41 s41) (c41:cI K g41 "lots_for") (k41:kI K f41)
  (a42:aI K "least_lots" f42) (l42:lI K "least_lots" Kg f42 o42 d42 v42 e42 p42 n42 g42 t42 s42) (c42:cI K g42 "least_lots") (k42:kI K f42)
  (a43:aI K "count_days" f43) (l43:lI K "count_days" Kn f43 o43 d43 v43 e43 p43 n43 g43 t43 s43) (c43:cI K g43 "count_days") (k43:kI K f43)
  (a44:aI K "wants_row" f44) (l44:lI K "wants_row" Lb f44 o44 d44 v44 e44 p44 n44 g44 t44 s44) (c44:cI K g44 "wants_row") (k44:kI K f44)
  (a45:aI K "begun_row" f45) (l45:lI K "begun_row" Lp f45 o45 d45 v45 e45 p45 n45 g45 t45 s45) (c45:cI K g45 "begun_row") (k45:kI K f45)
  (a46:aI K "needs_row" f46) (l46:lI K "needs_row" Le f46 o46 d46 v46 e46 p46 n46 g46 t46 s46) (c46:cI K g46 "needs_row") (k46:kI K f46)
  (a47:aI K "arrivals_row" f47) (l47:lI K "arrivals_row" Iy f47 o47 d47 v47 e47 p47 n47 g47 t47 s47) (c47:cI K g47 "arrivals_row") (k47:kI K f47)
  (a48:aI K "first_early" f48) (l48:lI K "first_early" Jo f48 o48 d48 v48 e48 p48 n48 g48 t48 s48) (c48:cI K g48 "first_early") (k48:kI K f48)
  (a49:aI K "planned" f49) (l49:lI K "planned" Nw f49 o49 d49 v49 e49 p49 n49 g49 t49 s49) (c49:cI K g49 "planned") (k49:kI K f49)
  (a50:aI K "_law_days" f50) (l50:lI K "_law_days" Mf f50 o50 d50 v50 e50 p50 n50 g50 t50 s50) (c50:cI K g50 "_law_days") (k50:kI K f50)
  (a51:aI K "_law_level" f51) (l51:lI K "_law_level" Ll f51 o51 d51 v51 e51 p51 n51 g51 t51 s51) (c51:cI K g51 "_law_level") (k51:kI K f51)
  (a52:aI K "_law_order" f52) (l52:lI K "_law_order" Li f52 o52 d52 v52 e52 p52 n52 g52 t52 s52) (c52:cI K g52 "_law_order") (k52:kI K f52)
  (a53:aI K "_law_ware" f53) (l53:lI K "_law_ware" Mc f53 o53 d53 v53 e53 p53 n53 g53 t53 s53) (c53:cI K g53 "_law_ware") (k53:kI K f53)
  (a54:aI K "_law_begun" f54) (l54:lI K "_law_begun" Ln f54 o54 d54 v54 e54 p54 n54 g54 t54 s54) (c54:cI K g54 "_law_begun") (k54:kI K f54)
  (a55:aI K "_law_needs" f55) (l55:lI K "_law_needs" Lj f55 o55 d55 v55 e55 p55 n55 g55 t55 s55) (c55:cI K g55 "_law_needs") (k55:kI K f55)
  (a56:aI K "_law_lots" f56) (l56:lI K "_law_lots" Me f56 o56 d56 v56 e56 p56 n56 g56 t56 s56) (c56:cI K g56 "_law_lots") (k56:kI K f56)
  (a57:aI K "_law_other" f57) (l57:lI K "_law_other" Lg f57 o57 d57 v57 e57 p57 n57 g57 t57 s57) (c57:cI K g57 "_law_other") (k57:kI K f57)
  (a58:aI K "_law_stocks" f58) (l58:lI K "_law_stocks" Kh f58 o58 d58 v58 e58 p58 n58 g58 t58 s58) (c58:cI K g58 "_law_stocks") (k58:kI K f58)
  (a59:aI K "_law_judged" f59) (l59:lI K "_law_judged" Ki f59 o59 d59 v59 e59 p59 n59 g59 t59 s59) (c59:cI K g59 "_law_judged") (k59:kI K f59)
  (a60:aI K "so_far" f60) (l60:lI K "so_far" Pa f60 o60 d60 v60 e60 p60 n60 g60 t60 s60) (c60:cI K g60 "so_far") (k60:kI K f60)
  (a61:aI K "stocks_row" f61) (l61:lI K "stocks_row" Kd f61 o61 d61 v61 e61 p61 n61 g61 t61 s61) (c61:cI K g61 "stocks_row") (k61:kI K f61)
  (a62:aI K "first_fault" f62) (l62:lI K "first_fault" Jn f62 o62 d62 v62 e62 p62 n62 g62 t62 s62) (c62:cI K g62 "first_fault") (k62:kI K f62)
  (a63:aI K "judged" f63) (l63:lI K "judged" Pc f63 o63 d63 v63 e63 p63 n63 g63 t63 s63) (c63:cI K g63 "judged") (k63:kI K f63)
  (a64:aI K "_law_no_more" f64) (l64:lI K "_law_no_more" Jl f64 o64 d64 v64 e64 p64 n64 g64 t64 s64) (c64:cI K g64 "_law_no_more") (k64:kI K f64)
  (a65:aI K "law" f65) (l65:lI K "law" Rw f65 o65 d65 v65 e65 p65 n65 g65 t65 s65) (c65:cI K g65 "law") (k65:kI K f65)
  (z_len:zI K "len")
  (z_isinstance:zI K "isinstance")
  (z_str:zI K "str")
  (z_all:zI K "all")
  (z_bool:zI K "bool")
  (z_int:zI K "int")
  (z_tuple:zI K "tuple")
  (z_range:zI K "range")
  (z_max:zI K "max")
  (z_sorted:zI K "sorted")
  (z_zip:zI K "zip")
  (z_min:zI K "min")
  (z_enumerate:zI K "enumerate")
  (z_list:zI K "list")
  (z_reversed:zI K "reversed")
  (z_sum:zI K "sum")
  (Ztj:Zxw K mainGlobals "COMING" = some (some (.int 5 t_COMING)))
  (Zta:Zxw K mainGlobals "FIGURES" = some (some (.str "0123456789" t_FIGURES)))
  (Zti:Zxw K mainGlobals "FLOOR" = some (some (.int 3 t_FLOOR)))
  (Zth:Zxw K mainGlobals "GIVES" = some (some (.int 2 t_GIVES)))
  (Zt3:Zxw K mainGlobals "LAG" = some (some (.int 1 t_LAG)))
  (Ztu:Zxw K mainGlobals "LAST_DAY" = some (some (.int 400 t_LAST_DAY)))
  (Zt9:Zxw K mainGlobals "LETTERS" = some (some (.str "abcdefghijklmnopqrstuvwxyz" t_LETTERS)))
  (Ztn:Zxw K mainGlobals "MEMBERS" = some (some (.int 7 t_MEMBERS)))
  (Zu2:Zxw K mainGlobals "MOST_COMING" = some (some (.int 12 t_MOST_COMING)))
  (Zu6:Zxw K mainGlobals "MOST_FIGURES" = some (some (.int 60 t_MOST_FIGURES)))
  (Ztl:Zxw K mainGlobals "MOST_LAG" = some (some (.int 30 t_MOST_LAG)))
  (Zu5:Zxw K mainGlobals "MOST_LETTERS" = some (some (.int 8 t_MOST_LETTERS)))
  (Ztx:Zxw K mainGlobals "MOST_PARTS" = some (some (.int 6 t_MOST_PARTS)))
  (Ztw:Zxw K mainGlobals "MOST_WANTS" = some (some (.int 20 t_MOST_WANTS)))
  (Ztv:Zxw K mainGlobals "MOST_WARES" = some (some (.int 12 t_MOST_WARES)))
  (Zub:Zxw K mainGlobals "NAME" = some (some (.int 0 t_NAME)))
  (Ztg:Zxw K mainGlobals "PARTS" = some (some (.int 6 t_PARTS)))
  (Zt2:Zxw K mainGlobals "STOCK" = some (some (.int 4 t_STOCK)))
  (Zu1:Zxw K mainGlobals "WANT_AMOUNT" = some (some (.int 2 t_WANT_AMOUNT)))
  (Ztt:Zxw K mainGlobals "WANT_DAY" = some (some (.int 1 t_WANT_DAY)))
  (Zts:Zxw K mainGlobals "WANT_NAME" = some (some (.int 0 t_WANT_NAME)))
  (r_g:Zxw K mainGlobals "ROWS" = some (some (.ref Ra))) (r_l:K.lookup Ra=some {cls:=.type "dict",data:=.dict #[{hash:=PyData.keyHash w.params "ware",key:=.str "ware" Rt1,val:=.ref R1},{hash:=PyData.keyHash w.params "coming",key:=.str "coming" Rt2,val:=.ref R2},{hash:=PyData.keyHash w.params "part",key:=.str "part" Rt3,val:=.ref R3},{hash:=PyData.keyHash w.params "want",key:=.str "want" Rt4,val:=.ref R4}] Re}) (r_n:(Ra == sysModules)=false)
  (r_1:K.lookup R1=some {cls:=.type "tuple",data:=.seq #[Value.str "name" Rt1_0,Value.str "number" Rt1_1,Value.str "number" Rt1_2,Value.str "number" Rt1_3,Value.str "number" Rt1_4] Rn1})
  (r_2:K.lookup R2=some {cls:=.type "tuple",data:=.seq #[Value.str "name" Rt2_0,Value.str "number" Rt2_1,Value.str "number" Rt2_2] Rn2})
  (r_3:K.lookup R3=some {cls:=.type "tuple",data:=.seq #[Value.str "name" Rt3_0,Value.str "name" Rt3_1,Value.str "number" Rt3_2] Rn3})
  (r_4:K.lookup R4=some {cls:=.type "tuple",data:=.seq #[Value.str "name" Rt4_0,Value.str "number" Rt4_1,Value.str "number" Rt4_2] Rn4})
  (tq:g39=.ref ct) (tl:K.lookup ct=some ⟨.type "code",odc,.fields vsc,slc⟩) (tv:vsc[11]?=some (.ref Pt)) (tw:qe vsc ct Pt=true) (tp:K.lookup Pt=none) :
  ∃(fd:FuncData) (ct Pt:Addr),(∀(s:Shared) (v:Value),BindsTo s fd ⟨[v],[]⟩ [("_law_script",v)])/\PySem.W.tabIn K "worked" = some (ct,Pt)/\K.lookup Pt=none/\∀base:Heap,K.In base->base.Ns mainGlobals mg->Op mg base->D3 l.prog w K mg base CX0 16 fa fd ["_law_script"] (Vh K Pt):=by
 have e:=hfa.symm.trans (Zy5 X G a65)
 cases e
 have T:Txt mg:=⟨Zxv X G z_len,Zxv X G z_isinstance,Zxv X G z_str,Zxv X G z_all,Zxv X G z_bool,Zxv X G z_int,Zxv X G z_tuple,Zxv X G z_range,Zxv X G z_max,Zxv X G z_sorted,Zxv X G z_zip,Zxv X G z_min,Zxv X G z_enumerate,Zxv X G z_list,Zxv X G z_reversed,Zxv X G z_sum,⟨_,Zy5 X G Ztj⟩,⟨_,Zy5 X G Zta⟩,⟨_,Zy5 X G Zti⟩,⟨_,Zy5 X G Zth⟩,⟨_,Zy5 X G Zt3⟩,⟨_,Zy5 X G Ztu⟩,⟨_,Zy5 X G Zt9⟩,⟨_,Zy5 X G Ztn⟩,⟨_,Zy5 X G Zu2⟩,⟨_,Zy5 X G Zu6⟩,⟨_,Zy5 X G Ztl⟩,⟨_,Zy5 X G Zu5⟩,⟨_,Zy5 X G Ztx⟩,⟨_,Zy5 X G Ztw⟩,⟨_,Zy5 X G Ztv⟩,⟨_,Zy5 X G Zub⟩,⟨_,Zy5 X G Ztg⟩,⟨_,Zy5 X G Zt2⟩,⟨_,Zy5 X G Zu1⟩,⟨_,Zy5 X G Ztt⟩,⟨_,Zy5 X G Zts⟩⟩
 refine⟨Zwl "law" "law" (Mu Rw) (Kq Rw) (Ai Rw) .none v65 e65 p65 n65 g65 t65,ct,Pt,λs v=>.of_eq rfl,kq a39 l39 tq tl tv,tp,λbase _ _ hB=>?_⟩
 have D:Dm l.prog w base K mg:=⟨_,X,G⟩
 have tb:=kq a39 l39 tq tl tv
 have tc:=jm tl tv tw
 have R:Rws w K mg:=⟨Ra,[("ware",Rt1,R1),("coming",Rt2,R2),("part",Rt3,R3),("want",Rt4,R4)],Zy5 X G r_g,⟨⟨Re,r_l⟩,by show (["ware", "coming", "part", "want"]:List Str).Nodup;decide +kernel,r_n⟩,⟨R1,[("name",Rt1_0),("number",Rt1_1),("number",Rt1_2),("number",Rt1_3),("number",Rt1_4)],rfl,⟨Rn1,r_1⟩,rfl⟩,⟨R2,[("name",Rt2_0),("number",Rt2_1),("number",Rt2_2)],rfl,⟨Rn2,r_2⟩,rfl⟩,⟨R3,[("name",Rt3_0),("name",Rt3_1),("number",Rt3_2)],rfl,⟨Rn3,r_3⟩,rfl⟩,⟨R4,[("name",Rt4_0),("number",Rt4_1),("number",Rt4_2)],rfl,⟨Rn4,r_4⟩,rfl⟩,rfl⟩
 have F1:=C3 (st:=Jm) l1 c1 k1
 have Zto:=Do D a1 F1 (Sa F1 T) λ_ _ _ _ _ _=>len2 λ_ _=>rfl
 have F2:=C3 (st:=Lm) l2 c2 k2
 have Ztq:=Do D a2 F2 (W6 F2 T Zto) λ_ _ _ _ _ _=>len3 λ_ _ _=>rfl
 have F3:=C3 (st:=Md) l3 c3 k3
 have Zum:=Do D a3 F3 (Y1 F3 T) λ_ _ _ _ _ _=>len2 λ_ _=>rfl
 have F4:=C3 (st:=Lf) l4 c4 k4
 have Zsk:=Do D a4 F4 (W0 F4 T Zum) λ_ _ _ _ _ _=>len2 λ_ _=>rfl
 have F5:=C3 (st:=Kk) l5 c5 k5
 have Zsz:=Do D a5 F5 (Tq F5 T Zum) λ_ _ _ _ _ _=>len1 λ_=>rfl
 have F6:=C3 (st:=Kj) l6 c6 k6
 have Zsv:=Do D a6 F6 (Tp F6 T Zum Zsz) λ_ _ _ _ _ _=>len3 λ_ _ _=>rfl
 have F7:=C3 (st:=Lk) l7 c7 k7
 have Zsj:=Do D a7 F7 (W4 F7 T) λ_ _ _ _ _ _=>len1 λ_=>rfl
 have F8:=C3 (st:=O4) l8 c8 k8
 have Zuf:=Do D a8 F8 (ai F8 T) λ_ _ _ _ _ _=>len1 λ_=>rfl
 have F9:=C3 (st:=Ld) l9 c9 k9
 have Zso:=Do D a9 F9 (Vy F9 T Zuf) λ_ _ _ _ _ _=>len1 λ_=>rfl
 have F10:=C3 (st:=Lo) l10 c10 k10
 have Zsp:=Do D a10 F10 (W8 F10 T) λ_ _ _ _ _ _=>len1 λ_=>rfl
 have F11:=C3 (st:=Jk) l11 c11 k11
 have Zt7:=Do D a11 F11 (S8 F11 T Zsp) λ_ _ _ _ _ _=>len1 λ_=>rfl
 have F12:=C3 (st:=Ke) l12 c12 k12
 have Zt0:=Do D a12 F12 (Tk F12 T Zso Zt7) λ_ _ _ _ _ _=>len2 λ_ _=>rfl
 have F13:=C3 (st:=M9) l13 c13 k13
 have Zse:=Do D a13 F13 (Xx F13 T R Zt0) λ_ _ _ _ _ _=>len1 λ_=>rfl
 have F14:=C3 (st:=Nv) l14 c14 k14
 have Zst:=Do D a14 F14 (ac F14 T) λ_ _ _ _ _ _=>len3 λ_ _ _=>rfl
 have F15:=C3 (st:=Iv) l15 c15 k15
 have Ztc:=Do D a15 F15 (Ql F15 T Zst) λ_ _ _ _ _ _=>len1 λ_=>rfl
 have F16:=C3 (st:=Ma) l16 c16 k16
 have Zuj:=Do D a16 F16 (Xy F16 T) λ_ _ _ _ _ _=>len1 λ_=>rfl
 have F17:=C3 (st:=Mi) l17 c17 k17
 have Zul:=Do D a17 F17 (Y5 F17 T) λ_ _ _ _ _ _=>len3 λ_ _ _=>rfl
 have F18:=C3 (st:=Mh) l18 c18 k18
 have Zsf:=Do D a18 F18 (Y4 F18 T) λ_ _ _ _ _ _=>len1 λ_=>rfl
 have F19:=C3 (st:=O5) l19 c19 k19
 have Zuk:=Do D a19 F19 (aj F19 T Zsf) λ_ _ _ _ _ _=>len2 λ_ _=>rfl
 have F20:=C3 (st:=Kl) l20 c20 k20
 have Zuh:=Do D a20 F20 (Tr F20 T Zuk) λ_ _ _ _ _ _=>len3 λ_ _ _=>rfl
 have F21:=C3 (st:=Ny) l21 c21 k21
 have Zs9:=Do D a21 F21 (af F21 T Zul Zuk Zuh Zuf) λ_ _ _ _ _ _=>len1 λ_=>rfl
 have F22:=C3 (st:=Lr) l22 c22 k22
 have Zsr:=Do D a22 F22 (Wb F22 T Zs9 Zul) λ_ _ _ _ _ _=>len1 λ_=>rfl
 have F23:=C3 (st:=O0) l23 c23 k23
 have Zsb:=Do D a23 F23 (ah F23 T Zuk Zuf Zul) λ_ _ _ _ _ _=>len1 λ_=>rfl
 have F24:=C3 (st:=Ko) l24 c24 k24
 have Zu4:=Do D a24 F24 (Tu F24 T) λ_ _ _ _ _ _=>len1 λ_=>rfl
 have F25:=C3 (st:=Ls) l25 c25 k25
 have Zss:=Do D a25 F25 (Wc F25 T Zsb Zul Zu4) λ_ _ _ _ _ _=>len1 λ_=>rfl
 have F26:=C3 (st:=Km) l26 c26 k26
 have Zt1:=Do D a26 F26 (Ts F26 T Zuk Zuh Zul) λ_ _ _ _ _ _=>len1 λ_=>rfl
 have F27:=C3 (st:=Iz) l27 c27 k27
 have Ztf:=Do D a27 F27 (Qq F27 T Zt1 Zul) λ_ _ _ _ _ _=>len1 λ_=>rfl
 have F28:=C3 (st:=Nx) l28 c28 k28
 have Zsa:=Do D a28 F28 (ae F28 T Zul Zuk Zuh Zuf Zss Ztf) λ_ _ _ _ _ _=>len1 λ_=>rfl
 have F29:=C3 (st:=Lq) l29 c29 k29
 have Zsq:=Do D a29 F29 (Wa F29 T Zsa Zul Zu4) λ_ _ _ _ _ _=>len1 λ_=>rfl
 have F30:=C3 (st:=Kf) l30 c30 k30
 have Zug:=Do D a30 F30 (Tl F30 T) λ_ _ _ _ _ _=>len1 λ_=>rfl
 have F31:=C3 (st:=Ix) l31 c31 k31
 have Ztd:=Do D a31 F31 (Qn F31 T Zug) λ_ _ _ _ _ _=>len1 λ_=>rfl
 have F32:=C3 (st:=Nz) l32 c32 k32
 have Zs8:=Do D a32 F32 (ag F32 T Zsr Zsq Zul Zuj Ztd) λ_ _ _ _ _ _=>len1 λ_=>rfl
 have F33:=C3 (st:=Lc) l33 c33 k33
 have Zsi:=Do D a33 F33 (Vx F33 T Zse Ztc Zuj Zs8) λ_ _ _ _ _ _=>len1 λ_=>rfl
 have F34:=C3 (st:=Iw) l34 c34 k34
 have Zte:=Do D a34 F34 (Qm F34 T) λ_ _ _ _ _ _=>len1 λ_=>rfl
 have F35:=C3 (st:=Ig) l35 c35 k35
 have Ztk:=Do D a35 F35 (Pz F35 T Zug Zte) λ_ _ _ _ _ _=>len1 λ_=>rfl
 have F36:=C3 (st:=Vo) l36 c36 k36
 have Zrz:=Do D a36 F36 (uz F36 T Ztk) λ_ _ _ _ _ _=>len1 λ_=>rfl
 have F37:=C3 (st:=Jp) l37 c37 k37
 have Zt8:=Do D a37 F37 (Sd F37 T Zrz) λ_ _ _ _ _ _=>len1 λ_=>rfl
 have F38:=C3 (st:=Pb) l38 c38 k38
 have Zs5:=Do D a38 F38 (im F38 T Zt8 Zuj Zug) λ_ _ _ _ _ _=>len1 λ_=>rfl
 have F39:=C3 (st:=P9) l39 c39 k39
 have Ztb:=Do D a39 F39 (ij F39 T Zs5 Zuj ⟨λ_ _ _ _ e=>Z1 tb a39 e,tc⟩ hB) λ_ _ _ _ _ _=>len1 λ_=>rfl
 have F40:=C3 (st:=Nu) l40 c40 k40
 have Ztm:=Do D a40 F40 (ab F40 T) λ_ _ _ _ _ _=>len2 λ_ _=>rfl
 have F41:=C3 (st:=Mb) l41 c41 k41
 have Zsd:=Do D a41 F41 (Xz F41 T) λ_ _ _ _ _ _=>len2 λ_ _=>rfl
 have F42:=C3 (st:=Kg) l42 c42 k42
 have Zsy:=Do D a42 F42 (Tm F42 T Zsd) λ_ _ _ _ _ _=>len4 λ_ _ _ _=>rfl
 have F43:=C3 (st:=Kn) l43 c43 k43
 have Zu3:=Do D a43 F43 (Tt F43 T) λ_ _ _ _ _ _=>len1 λ_=>rfl
 have F44:=C3 (st:=Lb) l44 c44 k44
 have Zsn:=Do D a44 F44 (Vw F44 T Zu3) λ_ _ _ _ _ _=>len2 λ_ _=>rfl
 have F45:=C3 (st:=Lp) l45 c45 k45
 have Zsm:=Do D a45 F45 (W9 F45 T) λ_ _ _ _ _ _=>len2 λ_ _=>rfl
 have F46:=C3 (st:=Le) l46 c46 k46
 have Zu0:=Do D a46 F46 (Vz F46 T Zsn Zsm) λ_ _ _ _ _ _=>len3 λ_ _ _=>rfl
 have F47:=C3 (st:=Iy) l47 c47 k47
 have Zu9:=Do D a47 F47 (Qo F47 T Zu3) λ_ _ _ _ _ _=>len2 λ_ _=>rfl
 have F48:=C3 (st:=Jo) l48 c48 k48
 have Zu8:=Do D a48 F48 (Sc F48 T) λ_ _ _ _ _ _=>len2 λ_ _=>rfl
 have F49:=C3 (st:=Nw) l49 c49 k49
 have Zs7:=Do D a49 F49 (ad F49 T Ztb Ztm Zsy Zu0 Zu9 Zu8) λ_ _ _ _ _ _=>len1 λ_=>rfl
 have F50:=C3 (st:=Mf) l50 c50 k50
 have Zuc:=Do D a50 F50 (Y3 F50 T) λ_ _ _ _ _ _=>len1 λ_=>rfl
 have F51:=C3 (st:=Ll) l51 c51 k51
 have b51:=F51.binds (ps:=["_law_shop", "_law_name"]) λ_ _ _ _ _ _ us hl=>match us,hl with | [_,_],_=>rfl
 have Ztr:Has l.prog w K mg base "_law_level" 13 ["_law_shop", "_law_name"] (Kc 13):=⟨_,_,Zy5 X G a51,k51,b51,W5 F51 T (Zy5 X G a51) k51 b51 13⟩
 have F52:=C3 (st:=Li) l52 c52 k52
 have Zty:=Do D a52 F52 (W2 F52 T Ztr) λ_ _ _ _ _ _=>len1 λ_=>rfl
 have F53:=C3 (st:=Mc) l53 c53 k53
 have Zui:=Do D a53 F53 (Y0 F53 T) λ_ _ _ _ _ _=>len2 λ_ _=>rfl
 have F54:=C3 (st:=Ln) l54 c54 k54
 have Zsl:=Do D a54 F54 (W7 F54 T Zui Zuc) λ_ _ _ _ _ _=>len3 λ_ _ _=>rfl
 have F55:=C3 (st:=Lj) l55 c55 k55
 have Ztz:=Do D a55 F55 (W3 F55 T Zuc Zsl) λ_ _ _ _ _ _=>len3 λ_ _ _=>rfl
 have F56:=C3 (st:=Me) l56 c56 k56
 have Zsc:=Do D a56 F56 (Y2 F56 T Zum) λ_ _ _ _ _ _=>len3 λ_ _ _=>rfl
 have F57:=C3 (st:=Lg) l57 c57 k57
 have Zsh:=Do D a57 F57 (W1 F57 T Zuc Zty Ztz Zsc Zui) λ_ _ _ _ _ _=>len2 λ_ _=>rfl
 have F58:=C3 (st:=Kh) l58 c58 k58
 have Zsw:=Do D a58 F58 (Tn F58 T Zui Ztz) λ_ _ _ _ _ _=>len3 λ_ _ _=>rfl
 have F59:=C3 (st:=Ki) l59 c59 k59
 have Zsu:=Do D a59 F59 (To F59 T Zty Zui Zsw) λ_ _ _ _ _ _=>len2 λ_ _=>rfl
 have F60:=C3 (st:=Pa) l60 c60 k60
 have Zs4:=Do D a60 F60 (ik F60 T) λ_ _ _ _ _ _=>len1 λ_=>rfl
 have F61:=C3 (st:=Kd) l61 c61 k61
 have Zsx:=Do D a61 F61 (Tj F61 T Zu0 Zu9 Zs4) λ_ _ _ _ _ _=>len3 λ_ _ _=>rfl
 have F62:=C3 (st:=Jn) l62 c62 k62
 have Zt6:=Do D a62 F62 (Sb F62 T Zu8 Zsx) λ_ _ _ _ _ _=>len3 λ_ _ _=>rfl
 have F63:=C3 (st:=Pc) l63 c63 k63
 have Zs3:=Do D a63 F63 (io F63 T Ztb Zt6 Ztm) λ_ _ _ _ _ _=>len2 λ_ _=>rfl
 have F64:=C3 (st:=Jl) l64 c64 k64
 have Zt5:=Do D a64 F64 (S9 F64 T) λ_ _ _ _ _ _=>len2 λ_ _=>rfl
 have F65:=C3 (st:=Rw) l65 c65 k65
 exact yg F65 T Ztq Zsk Zum Zsv Zsj Zsi Zs7 Zsh Zsu Zs3 Zt5
theorem walk{l:PySem.W.OpenLaw}{q:Program}{loose:List Str}{XP:(Str->Option Value)->Heap->Prop}{YP:World->Heap->Prop}{d dw:DefRec}{K:Params->Zzw}(hn:l.most=some 63)(hdf:d.params.defaults=[])
  (hY:∀(w:World) (h:Heap),YP w h->(K w.params).In h) (hw:(PyProof.Rows.recsOf q).find? (λe=>e.name == ("worked" : Str))=some dw)
  (F:∀(w:World) (mg:Str->Option Value) (fa:Addr) (h:Heap),(K w.params).In h->h.Ns mainGlobals mg->mg d.name=some (.ref fa) ->
   ∃(fd:FuncData) (ct Pt:Addr),(∀(s:Shared) (u:Value),BindsTo s fd ⟨[u],[]⟩ [("_law_script",u)])/\PySem.W.tabIn (K w.params) "worked" = some (ct,Pt)/\(K w.params).lookup Pt=none/\∀base:Heap,(K w.params).In base->base.Ns mainGlobals mg->Op mg base->D3 l.prog w (K w.params) mg base CX0 16 fa fd ["_law_script"] (Vh (K w.params) Pt)) :
  PySem.W.WalkO q loose XP YP l.row.toRowW d [] (λf vs=>PySem.call f vs) :=
 L2.kc (n:=63) (k:=16) (x := "_law_script") (wk := "worked") (sp:=λw Pt=>Vh (K w.params) Pt) hn (by decide) hdf ⟨rfl,by decide,by decide⟩ hY hw F (λ_ _ a Pt ns hl ht hS=>⟨a,ns,rfl,hS,hl,.inl ht,λ_=>rfl⟩)
end K92
namespace PySem.W.Fast
def tw12979385299356017023:=Type
def tw6345686815132323285:=Type
def tw878437257632097584:=Type
def tw5724129879330443443:=Type
def tw17259494604931740976:=Type
def tw17863694395039601278:=Type
def tw14303425191044949409:=Type
def tw14505079800904387553:=Type
def tw1852022474492227546:=Type
def tw12723546845012285607:=Type
def tw768704780939914232:=Type
def tw4781791980055430402:=Type
def tw17627573828783927394:=Type
def tw10409898737688490680:=Type
def tw5947314316801725654:=Type
def tw11426654226703771483:=Type
def tw13798523815926047611:=Type
def tw2824833073012344042:=Type
def tw15823659072062216684:=Type
def tw15205265206320961535:=Type
def tw3843685079954847500:=Type
def tw16386718835857663038:=Type
def tw2575824565266356024:=Type
def tw13388642947640576926:=Type
def tw13034938316762964468:=Type
def tw11376581673427810000:=Type
def tw15599739052967607078:=Type
def tw10738787666997682678:=Type
def tw12958393407863451030:=Type
def tw17858830550612324417:=Type
def tw5246956825593902111:=Type
def tw2944334878840607330:=Type
def tw8396019376355374738:=Type
def tw16443715541612013921:=Type
def tw5690543437944457898:=Type
def tw6611856817428382743:=Type
def tw13609408587385066395:=Type
def tw9678093831855375669:=Type
def tw17096553366311576653:=Type
def tw11982325629407432504:=Type
def tw10841374284364083989:=Type
def tw7657496708784626515:=Type
def tw12232215915308329333:=Type
def tw13003498808204767578:=Type
def tw4362260659239488652:=Type
def tw7852391228417873682:=Type
def tw8790422049104475889:=Type
def tw6029317259228180631:=Type
def tw16214267629075109644:=Type
def tw15181997858447117971:=Type
def tw13864305288210320824:=Type
def tw6064070312905018860:=Type
def tw18429676522999951115:=Type
def tw15249732993252357750:=Type
def tw14607400933566768104:=Type
def tw13172293833283926193:=Type
def tw386282406064550521:=Type
def tw17278770627941747960:=Type
def tw16193637789121517018:=Type
def tw14375454392673030190:=Type
def tw15455137396374422727:=Type
def tw17163535101269037813:=Type
def tw10112594009609127904:=Type
def tw17799297658496105672:=Type
def tw7606645728214896277:=Type
def tw8399709335680550228:=Type
def tw1486867038361167813:=Type
def tw2938331165674742064:=Type
def tw762197264289311856:=Type
def tw9440188082340748183:=Type
def tw8451023558305074730:=Type
def tw8462459389498538522:=Type
def tw7966267442179135551:=Type
def tw3340523612988732618:=Type
def tw6088330228325500125:=Type
def tw2290581881629724321:=Type
def tw16895486963241710332:=Type
def tw14800366060864966228:=Type
def tw7955042450104555853:=Type
def tw3285843899211850177:=Type
def tw4699287119141967904:=Type
def tw16561786116658648610:=Type
def tw11727364771324757323:=Type
def tw4524778599814460551:=Type
def tw11936863109239745217:=Type
def tw4768107389614657088:=Type
def tw3721638875504744967:=Type
def tw11404851998695641368:=Type
def tw7960948208567872597:=Type
def tw15170954812934669369:=Type
def tw16668307633845228267:=Type
def tw585630102271497792:=Type
def tw8959569052750458337:=Type
def tw14100225157700267572:=Type
def tw3675969091176384340:=Type
def tw15816543413255333584:=Type
def tw6685556285641922542:=Type
def tw8467346778939714810:=Type
def tw6418647025304437179:=Type
def tw10594623967230108264:=Type
def tw14595647101444072565:=Type
def tw7838051934907951819:=Type
def tw616009361114053997:=Type
def tw10292405078973738555:=Type
def tw11066388501106500776:=Type
def tw9009342228174444946:=Type
def tw11768181716102844366:=Type
def tw4306087417608103992:=Type
def tw3043612505091801014:=Type
def tw10195323195821580211:=Type
def tw452857827468885497:=Type
def tw1868044732060491857:=Type
def tw13874811351231363200:=Type
def tw528999467091156751:=Type
def tw15836407235071393742:=Type
def tw11368579134823914647:=Type
def tw9889677475779244695:=Type
def tw6973048438013411150:=Type
def tw266170216333051134:=Type
def tw4429885469708819474:=Type
def tw12303061009393445923:=Type
def tw10616370098707524503:=Type
def tw10535217419890513965:=Type
def tw15025024558942629656:=Type
def tw13515398395084828387:=Type
def tw16601475935066744569:=Type
def tw9352986402708973129:=Type
def tw11354922817767751477:=Type
def tw2485934377645629045:=Type
def tw987358473970279176:=Type
def tw6757623575517944512:=Type
def tw5789008123200753610:=Type
def tw564581195981869169:=Type
def tw10590052421755791764:=Type
def tw12989831241080327033:=Type
def tw864346404058973400:=Type
def tw13013440033767468305:=Type
def tw5710922353237941388:=Type
def tw5827899434092579767:=Type
def tw12391590019313893566:=Type
def tw13982902093860165445:=Type
def tw8935233371613022416:=Type
def tw5909222047882716962:=Type
def tw15292235818771928143:=Type
def tw15634604378854944013:=Type
def tw8935509490556215600:=Type
def tw17999939002438344298:=Type
def tw14848006614820408851:=Type
def tw4769571569309002350:=Type
def tw2217384528111579955:=Type
def tw1582121033087463636:=Type
def tw1325832566256189655:=Type
def tw2481853827478446020:=Type
def tw18301883428295328340:=Type
def tw7509585060099624047:=Type
def tw8328404598423978912:=Type
def tw2292031451603531970:=Type
def tw8448486835880743949:=Type
def tw15624481493606341802:=Type
def tw12891615086137488581:=Type
def tw17087495465013869778:=Type
def tw2594492533916224047:=Type
def tw5677327115179458713:=Type
def tw4626541908295401014:=Type
def tw1762446755032079229:=Type
def tw9290944611897389864:=Type
def tw6760553251828919209:=Type
def tw15716890105575748285:=Type
def tw7889729966258861835:=Type
def tw7011462817430266393:=Type
def tw17713647722560317317:=Type
def tw3437087188701168262:=Type
def tw6385608560681640142:=Type
def tw6156384236479630990:=Type
def tw6074091293327234385:=Type
def tw3957396367389252113:=Type
def tw2714531338115720782:=Type
def tw8432753578636489433:=Type
def tw9521768246384947827:=Type
def tw2605676719271067068:=Type
def tw3969711753792638028:=Type
def tw6662566527159766416:=Type
def tw12971468568154335460:=Type
def tw17092964502488802321:=Type
def tw14707412688521161952:=Type
def tw17973126340204481918:=Type
def tw13179528456011174053:=Type
def tw6539436838462319201:=Type
def tw12644254470854919008:=Type
def tw12371320699715431478:=Type
def tw18030135989894495847:=Type
def tw3389579032293631214:=Type
def tw12309913456363303316:=Type
def tw16943637724967307790:=Type
def tw1306448474122314817:=Type
def tw3425846777647198268:=Type
def tw15534810455759341248:=Type
def tw2682376538487912152:=Type
def tw11681898991799624513:=Type
def tw7094881159744223031:=Type
def tw3573373718885629204:=Type
def tw10564984288636969172:=Type
def tw17435234431128850019:=Type
def tw14676927915810479788:=Type
def tw9398240743433730377:=Type
def tw13901197984018039605:=Type
def tw4996842858746536592:=Type
def tw6791837988667150899:=Type
def tw3625652847347947597:=Type
def tw17689495219414258424:=Type
def tw15144693276925012640:=Type
def tw6943493672783812103:=Type
def tw17000440379084246025:=Type
def tw13227842064068069792:=Type
def tw12362101499444944980:=Type
def tw1474455816837038255:=Type
def tw13243180514490288914:=Type
def tw6049775068819295749:=Type
def tw18314328133272125806:=Type
def tw1666112107122356945:=Type
def tw12666054530251163989:=Type
def tw17321949387124823303:=Type
def tw16394146520838590246:=Type
def tw1537060425153867930:=Type
def tw2445642120671671268:=Type
def tw10988250078403857312:=Type
def tw9132093539723412710:=Type
def tw7909399241803473145:=Type
def tw3127807951351716626:=Type
def tw12483204478268750531:=Type
def tw7420868426688848137:=Type
def tw6574081332617206372:=Type
def tw4397440351560162554:=Type
def tw9000035043993950792:=Type
def tw7734146527058385068:=Type
def tw3337777590680934835:=Type
def tw17114648967668281826:=Type
def tw9125171260179265193:=Type
def tw8731285874423450056:=Type
def tw5486681543380504314:=Type
def tw16440886619359934784:=Type
def tw16257718736808072510:=Type
def tw16592225908522013115:=Type
def tw16490174312295133110:=Type
def tw16010416099504570054:=Type
def tw13105385105880386910:=Type
def tw673120609666700136:=Type
def tw18321932358427758565:=Type
def tw14875423292065316543:=Type
def tw7041203655639713158:=Type
def tw10822599016512856229:=Type
def tw7440713773546010560:=Type
def tw289721659916277517:=Type
def tw15858916635872907583:=Type
def tw14451621327582444092:=Type
def tw6355784939939590024:=Type
def tw17732490786241962560:=Type
def tw2866550751495215206:=Type
def tw17391908885659165843:=Type
def tw647616338911560151:=Type
def tw7113757933434152974:=Type
def tw10436912456802430541:=Type
def tw6712184719863421570:=Type
def tw3786015793675717856:=Type
def tw2724101098137296428:=Type
def tw7898989032491121472:=Type
def tw8352343478150404651:=Type
def tw16324800659099358850:=Type
def tw14107572880931223026:=Type
def tw16762519449655914823:=Type
def tw11844344449323094104:=Type
def tw17921160592045391579:=Type
def tw3295940035139649009:=Type
def tw9043427941261257911:=Type
def tw5919811614832691115:=Type
def tw12505153648287315693:=Type
def tw10909376150962998631:=Type
def tw3713390880832606602:=Type
def tw10967137772593669459:=Type
def tw3928522766828434819:=Type
def tw15683905683522003085:=Type
def tw14778420333772808102:=Type
def tw4213419224856839685:=Type
def tw2881945848922024652:=Type
def tw2145926931627730048:=Type
def tw6288136355542803784:=Type
def tw16453119416682199747:=Type
def tw9037960296340178511:=Type
def tw15620360067903194824:=Type
def tw6569614428903311924:=Type
def tw10816448094184243881:=Type
def tw2272660886379827200:=Type
def tw17051101220567476662:=Type
def tw14389856934460827512:=Type
def tw12840934325023816551:=Type
def tw10705658976004449853:=Type
def tw10744330630310838805:=Type
def tw2211062094989381502:=Type
def tw8858787914066247749:=Type
def tw7655583764099661781:=Type
def tw2023449633444625631:=Type
def tw14452642899234930656:=Type
def tw9809303448677814122:=Type
def tw9662327625175478998:=Type
def tw3034881368421048571:=Type
def tw17301693475663408496:=Type
def tw1232609410216230004:=Type
def tw17410420693866161133:=Type
def tw16009136072986169458:=Type
def tw13016897921506782509:=Type
def tw197105560458012297:=Type
def tw18187802020696163881:=Type
def tw1765437430585010075:=Type
def tw16949343464017980027:=Type
def tw16587733058910456195:=Type
def tw12792952467289008144:=Type
end PySem.W.Fast
open PySem PySem.W PyProof.Rows
set_option maxRecDepth 100000 in
set_option maxHeartbeats 0 in
theorem PySem.Challenge.cw_needplan_k92_whole_none_keeps_holds : PySem.Challenge.rw_needplan_k92_whole_none_keeps.Holds := by
 w_on;o_law;k_head;(case hw=>w_witness2)
 k_fill
 refine K92.walk (l:=PySem.Challenge.rw_needplan_k92_whole_none_keeps) rfl rfl (λw h Y=>PySem.W.km_in_of Y) rfl ?F
 case F =>
  intro w mg fa h KX G hmg
  refine' K92.all_mk KX G hmg ?a1 ?l1 ?c1 ?k1 ?a2 ?l2 ?c2 ?k2 ?a3 ?l3 ?c3 ?k3 ?a4 ?l4 ?c4 ?k4 ?a5 ?l5 ?c5 ?k5 ?a6 ?l6 ?c6 ?k6 ?a7 ?l7 ?c7 ?k7 ?a8 ?l8 ?c8 ?k8 ?a9 ?l9 ?c9 ?k9 ?a10 ?l10 ?c10 ?k10 ?a11 ?l11 ?c11 ?k11 ?a12 ?l12 ?c12 ?k12 ?a13 ?l13 ?c13 ?k13 ?a14 ?l14 ?c14 ?k14 ?a15 ?l15 ?c15 ?k15 ?a16 ?l16 ?c16 ?k16 ?a17 ?l17 ?c17 ?k17 ?a18 ?l18 ?c18 ?k18 ?a19 ?l19 ?c19 ?k19 ?a20 ?l20 ?c20 ?k20 ?a21 ?l21 ?c21 ?k21 ?a22 ?l22 ?c22 ?k22 ?a23 ?l23 ?c23 ?k23 ?a24 ?l24 ?c24 ?k24 ?a25 ?l25 ?c25 ?k25 ?a26 ?l26 ?c26 ?k26 ?a27 ?l27 ?c27 ?k27 ?a28 ?l28 ?c28 ?k28 ?a29 ?l29 ?c29 ?k29 ?a30 ?l30 ?c30 ?k30 ?a31 ?l31 ?c31 ?k31 ?a32 ?l32 ?c32 ?k32 ?a33 ?l33 ?c33 ?k33 ?a34 ?l34 ?c34 ?k34 ?a35 ?l35 ?c35 ?k35 ?a36 ?l36 ?c36 ?k36 ?a37 ?l37 ?c37 ?k37 ?a38 ?l38 ?c38 ?k38 ?a39 ?l39 ?c39 ?k39 ?a40 ?l40 ?c40 ?k40 ?a41 ?l41 ?c41 ?k41 ?a42 ?l42 ?c42 ?k42 ?a43 ?l43 ?c43 ?k43 ?a44 ?l44 ?c44 ?k44 ?a45 ?l45 ?c45 ?k45 ?a46 ?l46 ?c46 ?k46 ?a47 ?l47 ?c47 ?k47 ?a48 ?l48 ?c48 ?k48 ?a49 ?l49 ?c49 ?k49 ?a50 ?l50 ?c50 ?k50 ?a51 ?l51 ?c51 ?k51 ?a52 ?l52 ?c52 ?k52 ?a53 ?l53 ?c53 ?k53 ?a54 ?l54 ?c54 ?k54 ?a55 ?l55 ?c55 ?k55 ?a56 ?l56 ?c56 ?k56 ?a57 ?l57 ?c57 ?k57 ?a58 ?l58 ?c58 ?k58 ?a59 ?l59 ?c59 ?k59 ?a60 ?l60 ?c60 ?k60 ?a61 ?l61 ?c61 ?k61 ?a62 ?l62 ?c62 ?k62 ?a63 ?l63 ?c63 ?k63 ?a64 ?l64 ?c64 ?k64 ?a65 ?l65 ?c65 ?k65 ?z_len ?z_isinstance ?z_str ?z_all ?z_bool ?z_int ?z_tuple ?z_range ?z_max ?z_sorted ?z_zip ?z_min ?z_enumerate ?z_list ?z_reversed ?z_sum ?Ztj ?Zta ?Zti ?Zth ?Zt3 ?Ztu ?Zt9 ?Ztn ?Zu2 ?Zu6 ?Ztl ?Zu5 ?Ztx ?Ztw ?Ztv ?Zub ?Ztg ?Zt2 ?Zu1 ?Ztt ?Zts ?r_g ?r_l ?r_n ?r_1 ?r_2 ?r_3 ?r_4 ?tq ?tl ?tv ?tw ?tp
  (case a1 | a2 | a3 | a4 | a5 | a6 | a7 | a8 | a9 | a10 | a11 | a12 | a13 | a14 | a15 | a16 | a17 | a18 | a19 | a20 | a21 | a22 | a23 | a24 | a25 | a26 | a27 | a28 | a29 | a30 | a31 | a32 | a33 | a34 | a35 | a36 | a37 | a38 | a39 | a40 | a41 | a42 | a43 | a44 | a45 | a46 | a47 | a48 | a49 | a50 | a51 | a52 | a53 | a54 | a55 | a56 | a57 | a58 | a59 | a60 | a61 | a62 | a63 | a64 | a65=>delta K92.aI;k_is)
  (case l1 | l2 | l3 | l4 | l5 | l6 | l7 | l8 | l9 | l10 | l11 | l12 | l13 | l14 | l15 | l16 | l17 | l18 | l19 | l20 | l21 | l22 | l23 | l24 | l25 | l26 | l27 | l28 | l29 | l30 | l31 | l32 | l33 | l34 | l35 | l36 | l37 | l38 | l39 | l40 | l41 | l42 | l43 | l44 | l45 | l46 | l47 | l48 | l49 | l50 | l51 | l52 | l53 | l54 | l55 | l56 | l57 | l58 | l59 | l60 | l61 | l62 | l63 | l64 | l65=>delta K92.lI;k_is)
  (case c1 | c2 | c3 | c4 | c5 | c6 | c7 | c8 | c9 | c10 | c11 | c12 | c13 | c14 | c15 | c16 | c17 | c18 | c19 | c20 | c21 | c22 | c23 | c24 | c25 | c26 | c27 | c28 | c29 | c30 | c31 | c32 | c33 | c34 | c35 | c36 | c37 | c38 | c39 | c40 | c41 | c42 | c43 | c44 | c45 | c46 | c47 | c48 | c49 | c50 | c51 | c52 | c53 | c54 | c55 | c56 | c57 | c58 | c59 | c60 | c61 | c62 | c63 | c64 | c65=>delta K92.cI;k_is)
  (case k1 | k2 | k3 | k4 | k5 | k6 | k7 | k8 | k9 | k10 | k11 | k12 | k13 | k14 | k15 | k16 | k17 | k18 | k19 | k20 | k21 | k22 | k23 | k24 | k25 | k26 | k27 | k28 | k29 | k30 | k31 | k32 | k33 | k34 | k35 | k36 | k37 | k38 | k39 | k40 | k41 | k42 | k43 | k44 | k45 | k46 | k47 | k48 | k49 | k50 | k51 | k52 | k53 | k54 | k55 | k56 | k57 | k58 | k59 | k60 | k61 | k62 | k63 | k64 | k65=>delta K92.kI;k_is)
  (case z_len | z_isinstance | z_str | z_all | z_bool | z_int | z_tuple | z_range | z_max | z_sorted | z_zip | z_min | z_enumerate | z_list | z_reversed | z_sum=>delta K92.zI;k_is)
  (case Ztj | Zta | Zti | Zth | Zt3 | Ztu | Zt9 | Ztn | Zu2 | Zu6 | Ztl | Zu5 | Ztx | Ztw | Ztv | Zub | Ztg | Zt2 | Zu1 | Ztt | Zts=>k_is)
  (case r_g | r_l | r_1 | r_2 | r_3 | r_4=>k_is)
  (case tq=>rfl)
  (case tl=>k_is)
  (case tv=>rfl)
  (case tw=>rfl)
  (case tp=>rfl)
  (case r_n=>rfl)
