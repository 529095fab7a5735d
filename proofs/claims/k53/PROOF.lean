import PyProof.Rows.All
import Wide.All
import OpenK.AllK
import Wide.FinOn
import Lean
import PyProof.EqAt
import PyProof.EqKinds
import PyProof.TupleCall
import PySem.Challenge.RW_needplan_k53_refused_texts
open List renaming length_map → Zzz, length_cons → Zzy, mem_cons → Zzw, getElem?_map → Zzv, mem_cons_self → Zzs, append_nil → Zzq, map_cons → Zzp, getElem?_cons_succ → Zzo, size_toArray → Zzn, getElem?_cons_zero → Zzm, mem_append_right → Zzl, mem_singleton → Zzk, mem_cons_of_mem → Zzi, length_append → Zzh, replicate_succ → Zzg, cons_append → Zze, mem_map → Zza, set_cons_succ → Zz9, not_mem_nil → Zz8, replicate_zero → Zz7, getD_cons_zero → Zz6, getD_cons_succ → Zz5, set_cons_zero → Zz3, all_eq_true → Zz2, nil_append → Zyz, length_nil → Zyy, mem_of_getElem? → Zyv, map_nil → Zyr, mem_append → Zyq, map_append → Zyo, length_take → Zyg, set_nil → Zyb, getElem?_eq_getElem → Zya, filter_append → Zy8, flatten_cons → Zy7, map_map → Zy6, nodup_cons → Zy3, getElem?_eq_some_iff → Zy1, mem_append_left → Zxz, take_add_one → Zxw, lookup_cons → Zxt, flatten_nil → Zxs, getElem?_set_ne → Zxq, length_drop → Zxp, take_length → Zxo, mem_filter → Zxl, length_singleton → Zxi, all_map → Zxg, mem_of_mem_take → Zxf, getElem?_append_right → Zxa, replicate → Zx9, getElem?_eq_none → Zx8, length_filter_le → Zx6, range → Zx2, find?_cons → Zwx, length_range → Zww, getElem?_append_left → Zwv, flatten_append → Zwq, all_cons → Zwl, map_take → Zwk, take_of_length_le → Zwi, length → Zwc, filterMap_cons → Zwb, length_set → Zw8, pairwise_iff_getElem → Zw6, reverse_cons → Zw0, ext_getElem? → Zvz, append_assoc → Zvy, flatMap_cons → Zvx, getElem?_set_self → Zvw, filter_eq_nil_iff → Zvr, map_drop → Zvq, filter_cons → Zvp, map → Zvo, mem_flatten → Zvn, forIn_cons → Zvk, getElem?_of_mem → Zvi, mem_of_mem_drop → Zvh, nodup_nil → Zvg, mem_filterMap → Zvf, getElem?_drop → Zvd, pairwise_cons → Zvc
open PySem.W renaming Frag → Zzx, nsIn → Zzu, mg_of → Zzr, keepIn → Zzb, codeIn → Zz1, fnOf → Zyx, mg_none_of → Zxx, kia_one → Zxk
open Nat renaming le_refl → Zzt, lt_of_lt_of_le → Zzd, le_trans → Zyu, reduceAdd → Zyf, reduceSub → Zye, zero_add → Zyd, sub_self → Zyc, ne_of_lt → Zxh, toDigits → Zwz, zero_le → Zwt, toDigits_of_lt_base → Zwp, lt_irrefl → Zwm, lt_of_le_of_lt → Zve
open PySem.Heap renaming get?_push_of_some → Zzj, lt_size → Zzc, get?_push_size → Zyn, get?_update_other → Zxb, SameBut → Zx1, size_push → Zws, get?_update_self → Zvm
open Bool renaming and_eq_true → Zzf, false_ne_true → Zz4, false_and → Zyt, true_and → Zyl, false_eq_true → Zy2, eq_false_iff → Zy0, and_eq_true_iff → Zxy, and_false → Zxu, not_true → Zxn, not_false → Zxm, and_true → Zxj, and_eq_false_iff → Zx7, eq_iff_iff → Zwa
open Or renaming inl → Zz0
open Option.some renaming injEq → Zyw, inj → Zyk
open PySem.F renaming plainAttrs_str → Zys, plainAttrs_list → Zym, slot_str_join → Zyi, type_str_join → Zyh, slot_list_append → Zy5, type_list_append → Zy4, args_tuple_add_2 → Zw4, entry_tuple_add → Zw1, slot_tuple_add → Zvv, slot_str_split → Zvt, type_str_split → Zvs
open List.cons renaming injEq → Zyp, inj → Zwe
open Ne renaming symm → Zyj
open PySem.NameKind renaming free → Zy9, cell → Zwf
open PySem.Builtin.SmallTypes renaming nextOf → Zxv, ownedTupleIsFree → Zxe, ownedTupleHandOut → Zw2
open PyProof.Rows renaming slot_tuple_getitem → Zxr, callWith_type1 → Zx0
open Array renaming length_toList → Zxd, getElem?_toList → Zwy, getElem?_eq_some_iff → Zwd, getElem?_eq_getElem → Zw7
open PySem renaming mem_of_lookup → Zxc, intText? → Zwg
open Int renaming emod_lt_of_pos → Zx5, emod_nonneg → Zx4, eq_ofNat_of_zero_le → Zwo, lt_of_le_of_lt → Zwj
open PySem.Builtin.Str renaming strKind → Zx3
open PySem.Builtin.Slice renaming slicePlaces → Zwu, sliceAdjust → Zw9
open PySem.Builtin.Tuple renaming tupleExact → Zwr
open Sum renaming inr → Zwn
open List.Pairwise renaming nil → Zwh
open Option renaming isSome_iff_exists → Zw5
open PySem.Builtin.List renaming listTooLong → Zw3
open PySem.Calls renaming callWith_builtin → Zvu, evalArgs_plain → Zvj
open PySem.StrLaws renaming glued_eq_join → Zvl
open Prod.mk renaming injEq → Zvb
set_option maxRecDepth 100000
set_option maxHeartbeats 4000000
set_option Elab.async false
set_option linter.all false
namespace L2
open PySem PySem.Spec PyProof.Rows
abbrev Key:=Sum Int Str
def Q7:Key->Value->Bool
 |.inl k,v=>Value.isInt k v
 |.inr x,v=>Value.isStrOf x v
def keyH(w:World):Key->Int
 |.inl k=>hashInt k
 |.inr x=>hashStr w x
theorem Fe:∀{k:Key} {v:Value},Q7 k v=true->(∃i t,k=Sum.inl i/\v=Value.int i t)\/(∃x t,k=Zwn x/\v=Value.str x t)
 |.inl i,v,h=>by
  obtain⟨t,e⟩:=Value.isInt_shape (k:=i) (v:=v) h
  exact .inl ⟨i,t,rfl,e⟩
 |.inr x,v,h=>by
  obtain⟨t,e⟩:=Value.isStrOf_shape (x:=x) (v:=v) h
  exact .inr ⟨x,t,rfl,e⟩
theorem Wc(i:Int)(t:Tok):Q7 (.inl i) (.int i t)=true:=by simp[Q7,Value.isInt]
theorem Wb(x:Str)(t:Tok):Q7 (.inr x) (.str x t)=true:=by simp[Q7,Value.isStrOf]
theorem dc(a b:Int):decide ((Sum.inl a:Key)=Sum.inl b)=(a == b):=by
 by_cases e:a=b
 ·subst e;simp
 ·have h:¬ (Sum.inl a:Key)=Sum.inl b:=λq=>e (Sum.inl.inj q)
  rw[decide_eq_false h]
  exact(beq_eq_false_iff_ne.mpr e).symm
theorem d8(a b:Str):decide ((Zwn a:Key)=Zwn b)=decide (a=b):=by
 by_cases e:a=b
 ·subst e;simp
 ·have h:¬ (Zwn a:Key)=Zwn b:=λq=>e (Sum.inr.inj q)
  rw[decide_eq_false h,decide_eq_false e]
theorem db(a:Int)(b:Str):decide ((Sum.inl a:Key)=Zwn b)=false:=decide_eq_false (λq=>nomatch q)
theorem d9(a:Str)(b:Int):decide ((Zwn a:Key)=Sum.inl b)=false:=decide_eq_false (λq=>nomatch q)
def G4(prog:Program)(w:World):PySem.KeyKind prog w Key where
 is:=Q7
 hash:=keyH w
 inj:=λv a b ha hb=>by
  rcases Fe ha with ⟨i,t,rfl,rfl⟩ | ⟨x,t,rfl,rfl⟩
  ·rcases Fe hb with ⟨j,u,rfl,e⟩ | ⟨y,u,rfl,e⟩
   ·injection e with e1 _;rw[e1]
   ·exact nomatch e
  ·rcases Fe hb with ⟨j,u,rfl,e⟩ | ⟨y,u,rfl,e⟩
   ·exact nomatch e
   ·injection e with e1 _;rw[e1]
 byValue:=λk v h=>by
  rcases Fe h with ⟨i,t,rfl,rfl⟩ | ⟨x,t,rfl,rfl⟩<;>rfl
 pyHash:=λhv h=>by
  rcases Fe hv with ⟨i,t,rfl,rfl⟩ | ⟨x,t,rfl,rfl⟩
  ·exact wpAny_pyHash_int h
  ·exact wpAny_pyHash_str h
 eqBool:=λhu hv h=>by
  rcases Fe hu with ⟨i,t,rfl,rfl⟩ | ⟨x,t,rfl,rfl⟩
  ·rcases Fe hv with ⟨j,u,rfl,rfl⟩ | ⟨y,u,rfl,rfl⟩
   ·rw[dc] at h;exact wpAny_eqBool_int h
   ·rw[db] at h;exact SeqAt.EqAt.int_str i t y u _ _ _ _ h
  ·rcases Fe hv with ⟨j,u,rfl,rfl⟩ | ⟨y,u,rfl,rfl⟩
   ·rw[d9] at h;exact SeqAt.EqAt.str_int x t j u _ _ _ _ h
   ·rw[d8] at h;exact wpAny_eqBool_str h
 «strs»:=λk x t v h=>by
  rcases Fe h with ⟨i,u,rfl,e⟩ | ⟨y,u,rfl,e⟩
  ·exact nomatch e
  ·injection e with e1 _
   subst e1
   cases v<;>rfl
theorem Tg(prog:Program)(w:World)(i:Int)(t:Tok):(G4 prog w).is (.inl i) (.int i t)=true:=Wc i t
theorem Kq(prog:Program)(w:World)(x:Str)(t:Tok):(G4 prog w).is (.inr x) (.str x t)=true:=Wb x t
inductive V where
 |non | bl (b:Bool) | int (i:Int) | str (x:Str) | byt (b:Array UInt8) | flt (b:UInt64) | ref (a:Addr) | ty (n:String)
 deriving DecidableEq
def RelV:V->Value->Prop
 |.non,u=>u=Value.none
 |.bl b,u=>u=Value.bool b
 |.int i,u=>∃t,u=Value.int i t
 |.str x,u=>∃t,u=Value.str x t
 |.byt b,u=>∃t,u=Value.bytes b t
 |.flt b,u=>∃t,u=Value.float b t
 |.ref a,u=>u=Value.ref a
 |.ty n,u=>u=Value.type n
abbrev Vals:List V->List Value->Prop:=Paired RelV
theorem Vals.length{xs:List V}{us:List Value}(r:Vals xs us):xs.length=us.length:=Paired.length r
theorem Vals.get:∀{xs:List V} {us:List Value} {i:Nat} {x:V},Vals xs us->xs[i]?=some x->∃u,us[i]?=some u/\RelV x u
 |_,_,_,_,.nil,e=>by simp at e
 |_,_,0,_,.cons r _,e=>by simp at e;subst e;exact⟨_,rfl,r⟩
 |_,_,i+1,x,.cons _ t,e=>by
  obtain⟨u,h1,h2⟩:=Vals.get (i:=i) (x:=x) t (by simpa using e)
  exact⟨u,by simpa using h1,h2⟩
theorem Vals.set{x:V}{u:Value}(r:RelV x u):∀{xs:List V} {us:List Value} (i:Nat),Vals xs us->Vals (xs.set i x) (us.set i u)
 |_,_,_,.nil=>.nil
 |_,_,0,.cons _ t=>.cons r t
 |_,_,i+1,.cons q t=>.cons q (Vals.set r i t)
theorem Vals.append:∀{xs ys:List V} {us ws:List Value},Vals xs us->Vals ys ws->Vals (xs++ys) (us++ws)
 |_,_,_,_,.nil,s=>s
 |_,_,_,_,.cons r t,s=>.cons r (Vals.append t s)
theorem Vals.take:∀{xs:List V} {us:List Value} (n:Nat),Vals xs us->Vals (xs.take n) (us.take n)
 |_,_,0,_=>.nil
 |_,_,_+1,.nil=>.nil
 |_,_,n+1,.cons r t=>.cons r (Vals.take n t)
theorem Vals.drop:∀{xs:List V} {us:List Value} (n:Nat),Vals xs us->Vals (xs.drop n) (us.drop n)
 |_,_,0,r=>r
 |_,_,_+1,.nil=>.nil
 |_,_,n+1,.cons _ t=>Vals.drop n t
def RelO:Option V->Option Value->Prop
 |some v,some u=>RelV v u
 |none,none=>True
 |_,_=>False
def KV{κ:Type}:List (κ×V)->List (κ×Value)->Prop:=Paired λ(p:κ×V) (q:κ×Value)=>p.1=q.1/\RelV p.2 q.2
def kV:Key->V
 |.inl i=>.int i
 |.inr x=>.str x
inductive HO where
 |lst (xs:List V)
 |tup (xs:List V)
 |dK (kvs:List (Key×V)) | dT (kvs:List (List Key×V))
 |set (S:Int->Bool) (n:Nat)
 |ins (C dx:Addr) (fs:List (Str×V))
 |own (x:Addr)
 |xd (fs:List (Str×V))
 |met (f x:Addr)
 |rng (lo hi:Int)
 |frz (o:Obj) (u:HO)
 |tbl (ps:Array Value)
 |ext (φ:Heap->Prop)
abbrev Hp:=Addr->Option HO
def upd(H:Hp)(a:Addr)(o:HO):Hp:=λb=>if b=a then some o else H b
theorem A1{H:Hp}{a:Addr}{o:HO}:upd H a o a=some o:=by unfold upd;rw[if_pos rfl]
theorem Bd{H:Hp}{a b:Addr}{o:HO}(h:b≠a):upd H a o b=H b:=by unfold upd;rw[if_neg h]
theorem g7{H:Hp}{a b:Addr}{o u:HO}(h:H a=some o)(h':H b=some u)(d:o≠u):a≠b:=by
 intro e;subst e;rw[h] at h';exact d (Zyk h')
theorem Bj{H:Hp}{a b:Addr}{o:HO}(h:H a=some o)(h':H b=none):a≠b:=by
 intro e;subst e;rw[h] at h';cases h'
section
variable (P:Program)(w:World)
def ObjOk(H:Hp)(h:Heap)(a:Addr):HO->Prop
 |.lst xs=>xs.length<=sizeLine/\∃(its:List Value) (n:Nat),Vals xs its/\h.get? a=some {cls:=.type "list",data:=.seq its.toArray n}
 |.tup xs=>xs.length<=sizeLine/\∃its:List Value,Vals xs its/\IsTup h a its.toArray
 |.dK kvs=>kvs.length<=sizeLine/\(a == sysModules)=false/\∃vs,KV kvs vs/\h.DictOf (G4 P w) a vs
 |.dT kvs=>kvs.length<=sizeLine/\(a == sysModules)=false/\∃xs:List (List Key×Addr×Value),
   Paired (λ(p:List Key×V) (q:List Key×Addr×Value)=>p.1=q.1/\H q.2.1=some (.tup (p.1.map kV))/\RelV p.2 q.2.2) kvs xs /\
   ∃o es ep,h.get? a=some o/\o.ExactDict/\o.data=.dict es ep/\es.toList=xs.map (entryOfKey (tupleKind (G4 P w)))/\(xs.map (·.1)).Nodup
 |.set S n=>h.SetOf (intKind P w) a S n
 |.ins C dx fs=>H dx=some (.own a)/\fs.length<=1000/\dx≠a/\h.get? a=some (PySem.W.instObj C dx) /\
   ∃mA,h.Ns1 dx mA/\(∀f,RelO (fs.lookup f) (mA f))/\PySem.Within mA (fs.map (·.1))
 |.own _=>∃o,h.get? a=some o
 |.xd fs=>∃mA,h.Ns1 a mA/\∀f,RelO (fs.lookup f) (mA f)
 |.rng lo hi=>∃t u v,h.get? a=some {cls:=.type "range",data:=.fields #[.int lo t,.int hi u,.int 1 v]}
 |.frz o u=>h.get? a=some o/\ObjOk H h a u
 |.tbl ps=>h.get? a=some {cls:=.none,data:=.fields ps}
 |.met f x=>h.get? a=some (PySem.W.methodObj (.ref f) (.ref x))
 |.ext φ=>φ h/\(∃o,h.get? a=some o)/\∀h1 h2:Heap,φ h1->(∀o,h1.get? a=some o->h2.get? a=some o)->φ h2
def HOk(H:Hp)(h:Heap):Prop:=∀a o,H a=some o->ObjOk P w H h a o
end
section
variable {P:Program}{w:World}{H H':Hp}{h h':Heap}{a:Addr}{o:HO}
theorem ObjOk.lt(x:ObjOk P w H h a o):a<h.objs.size:=by
 cases o with
 |lst xs=>obtain⟨_,_,_,_,e⟩:=x;exact Zzc e
 |tup xs=>obtain⟨_,_,_,p⟩:=x;exact p.lt
 |dK kvs=>obtain⟨_,_,_,_,o,_,_,e,_⟩:=x;exact Zzc e
 |dT kvs=>obtain⟨_,_,_,_,o,_,_,e,_⟩:=x;exact Zzc e
 |set S n=>obtain⟨o,_,_,_,e,_⟩:=x;exact Zzc e
 |ins C dx fs=>obtain⟨_,_,_,e,_⟩:=x;exact Zzc e
 |own y=>obtain⟨_,e⟩:=x;exact Zzc e
 |xd fs=>obtain⟨_,⟨_,_,_,e,_⟩,_⟩:=x;exact Zzc e
 |rng lo hi=>obtain⟨_,_,_,e⟩:=x;exact Zzc e
 |frz ob u=>obtain⟨e,_⟩:=x;exact Zzc e
 |tbl ps=>exact Zzc (show h.get? a=some _ from x)
 |met f y=>exact Zzc (show h.get? a=some _ from x)
 |ext φ=>obtain⟨_,⟨_,e⟩,_⟩:=x;exact Zzc e
theorem Paired.mapP{α β:Type}{F G:α->β->Prop}:∀{l₁:List α} {l₂:List β},Paired F l₁ l₂->(∀a b,F a b->G a b)->Paired G l₁ l₂
 |_,_,.nil,_=>.nil
 |_,_,.cons r t,f=>.cons (f _ _ r) (Paired.mapP t f)
theorem ObjOk.stay(x:ObjOk P w H h a o)(k:∀b u,(b=a\/H b=some (.own a))->h.get? b=some u->h'.get? b=some u)
  (ho:∀b,H b=some (.own a)->H' b=some (.own a)) (ht:∀b xs,H b=some (.tup xs)->H' b=some (.tup xs)):ObjOk P w H' h' a o:=by
 induction o with
 |lst xs=>obtain⟨z,its,n,r,e⟩:=x;exact⟨z,its,n,r,k _ _ (.inl rfl) e⟩
 |tup xs=>obtain⟨z,its,r,ob,e,c⟩:=x;exact⟨z,its,r,ob,k _ _ (.inl rfl) e,c⟩
 |dK kvs=>obtain⟨z,y,vs,r,ob,es,ep,e,c⟩:=x;exact⟨z,y,vs,r,ob,es,ep,k _ _ (.inl rfl) e,c⟩
 |dT kvs =>
  obtain⟨z,y,xs,r,ob,es,ep,e,c⟩:=x
  exact⟨z,y,xs,Paired.mapP r λp q z=>⟨z.1,ht _ _ z.2.1,z.2.2⟩,ob,es,ep,k _ _ (.inl rfl) e,c⟩
 |set S n=>obtain⟨ob,es,ep,t,e,c⟩:=x;exact⟨ob,es,ep,t,k _ _ (.inl rfl) e,c⟩
 |ins C dx fs =>
  obtain⟨d,z,ne,e,mA,⟨od,es,ep,e2,c⟩,r⟩:=x
  exact⟨ho _ d,z,ne,k _ _ (.inl rfl) e,mA,⟨od,es,ep,k _ _ (.inr d) e2,c⟩,r⟩
 |own y=>obtain⟨ob,e⟩:=x;exact⟨ob,k _ _ (.inl rfl) e⟩
 |xd fs=>obtain⟨mA,⟨od,es,ep,e,c⟩,r⟩:=x;exact⟨mA,⟨od,es,ep,k _ _ (.inl rfl) e,c⟩,r⟩
 |rng lo hi=>obtain⟨t,u,v,e⟩:=x;exact⟨t,u,v,k _ _ (.inl rfl) e⟩
 |frz ob u ih=>obtain⟨e,q⟩:=x;exact⟨k _ _ (.inl rfl) e,ih q⟩
 |tbl ps =>
  have e:h.get? a=some {cls:=.none,data:=.fields ps}:=x
  show h'.get? a=some {cls:=.none,data:=.fields ps}
  exact k a _ (.inl rfl) e
 |met f y =>
  have e:h.get? a=some (PySem.W.methodObj (.ref f) (.ref y)):=x
  show h'.get? a=some (PySem.W.methodObj (.ref f) (.ref y))
  exact k a _ (.inl rfl) e
 |ext φ=>obtain⟨p,⟨o,e⟩,st⟩:=x;exact⟨st _ _ p λo q=>k _ _ (.inl rfl) q,⟨o,k _ _ (.inl rfl) e⟩,st⟩
theorem HOk.lt(x:HOk P w H h)(e:H a=some o):a<h.objs.size:=(x a o e).lt
theorem HOk.fresh(x:HOk P w H h)(e:h.objs.size<=a):H a=none:=by
 cases q:H a with
 |none=>rfl
 |some u=>exact absurd (Zzd (x.lt q) e) (Zwm _)
theorem HOk.kept(x:HOk P w H h)(k:∀b u,h.get? b=some u->h'.get? b=some u):HOk P w H h':=λa o e =>
 (x a o e).stay (λb u _ q=>k b u q) (λ_ q=>q) λ_ _ q=>q
theorem HOk.laid(x:HOk P w H h)(k:∀b u,h.get? b=some u->h'.get? b=some u)(hp:h.objs.size<=a)(new:ObjOk P w (upd H a o) h' a o):HOk P w (upd H a o) h':=λb u e=>by
 have hn:=x.fresh hp
 by_cases hb:b=a
 ·subst hb;rw[A1] at e;cases e;exact new
 ·rw[Bd hb] at e
  exact(x b u e).stay (λc v _ q=>k c v q) (λc q=>by rw[Bd (Bj q hn)];exact q) λc xs q=>by rw[Bd (Bj q hn)];exact q
end
def Rd(H:Hp)(a:Addr)(u:HO):Prop:=H a=some u\/∃o,H a=some (.frz o u)
theorem Rd.ok{P:Program}{w:World}{H:Hp}{h:Heap}{a:Addr}{u:HO}(r:Rd H a u)(x:HOk P w H h):ObjOk P w H h a u:=by
 rcases r with r | ⟨o,r⟩
 ·exact x a u r
 ·obtain⟨_,q⟩:=x a _ r
  exact q
def Mut:Option HO->Prop
 |some (.lst _)=>True
 |some (.dK _)=>True
 |some (.dT _)=>True
 |some (.set _ _)=>True
 |some (.ins _ _ _)=>True
 |some (.ext _)=>True
 |_=>False
section
variable {P:Program}{w:World}{H:Hp}{h h':Heap}{x e:Addr}{o':HO}
theorem HOk.write(ok:HOk P w H h)(mu:Mut (H x))(he:e=x\/H e=some (.own x))(k:∀b u,b≠e->h.get? b=some u->h'.get? b=some u)(heo:∃u,h'.get? e=some u)
  (new:ObjOk P w (upd H x o') h' x o'):HOk P w (upd H x o') h':=λb u q=>by
 have nown:∀c y,H c=some (.own y)->c≠x:=λc y r z=>by subst z;rw[r] at mu;exact mu
 have ntup:∀c xs,H c=some (.tup xs)->c≠x:=λc xs r z=>by subst z;rw[r] at mu;exact mu
 by_cases hb:b=x
 ·subst hb;rw[A1] at q;cases q;exact new
 ·rw[Bd hb] at q
  by_cases hbe:b=e
  ·have q':H b=some (.own x):=by
    rcases he with z | z
    ·exact absurd (hbe.trans z) hb
    ·rw[hbe];exact z
   rw[q] at q';cases q'
   obtain⟨v,hv⟩:=heo
   exact⟨v,by rw[hbe];exact hv⟩
  ·refine(ok b u q).stay (λc v hc r=>k c v ?_ r) (λc r=>by rw[Bd (nown c b r)];exact r) λc xs r=>by rw[Bd (ntup c xs r)];exact r
   rcases hc with rfl | hc
   ·exact hbe
   ·rintro rfl
    rcases he with z | z
    ·exact nown c b hc z
    ·rw[hc] at z;cases z;exact hb rfl
end
structure Un(fs ex:List Addr)(H H':Hp)(h h':Heap):Prop where
 keep:∀b o,h.get? b=some o->H b=none->b∉fs->b∉ex->h'.get? b=some o
 slot:∀b o,h.get? b=some o->H b=none->b∈fs->b∉ex->∃sl,h'.get? b=some {o with slots:=sl}
 free:∀b o,h.get? b=some o->H b=none->b∉ex->H' b=none
 there:∀b o,h.get? b=some o->b∉ex->∃o',h'.get? b=some o'
 tups:∀b xs,H b=some (.tup xs)->H' b=some (.tup xs)
 frzs:∀b o u,H b=some (.frz o u)->H' b=some (.frz o u)
 tbls:∀b ps,H b=some (.tbl ps)->∃more,H' b=some (.tbl (ps++more))
section
variable {fs fs' ex ex':List Addr}{H H1 H2:Hp}{h h1 h2 h':Heap}{a x e:Addr}{o:HO}
theorem Un.any(u:Un fs ex H H1 h h1){b:Addr}{ob:Obj}(q:h.get? b=some ob)(n:H b=none)(hx:b∉ex):∃sl,h1.get? b=some {ob with slots:=sl}:=by
 by_cases hb:b∈fs
 ·exact u.slot b ob q n hb hx
 ·exact⟨ob.slots,u.keep b ob q n hb hx⟩
theorem Un.kept(k:∀b u,h.get? b=some u->h'.get? b=some u):Un fs ex H H h h' :=
 ⟨λb ob q _ _ _=>k b ob q,λb ob q _ _ _=>⟨ob.slots,k b ob q⟩,λ_ _ _ n _=>n,λb ob q _=>⟨ob,k b ob q⟩,λ_ _ q=>q,λ_ _ _ q=>q,λ_ ps q=>⟨#[],by rw[q];simp⟩⟩
theorem Un.refl:Un fs ex H H h h:=Un.kept λ_ _ q=>q
theorem Un.laid(k:∀b u,h.get? b=some u->h'.get? b=some u)(hp:h.objs.size<=a)(hn:H a=none):Un fs ex H (upd H a o) h h' where
 keep:=λb u q _ _ _=>k b u q
 slot:=λb u q _ _ _=>⟨u.slots,k b u q⟩
 free:=λb u q n _=>by rw[Bd (Zxh (Zzd (Zzc q) hp))];exact n
 there:=λb u q _=>⟨u,k b u q⟩
 tups:=λb xs q=>by rw[Bd (Bj q hn)];exact q
 frzs:=λb u xs q=>by rw[Bd (Bj q hn)];exact q
 tbls:=λb ps q=>⟨#[],by rw[Bd (Bj q hn),q];simp⟩
theorem Un.write(mu:Mut (H x))(he:e=x\/H e=some (.own x))(k:∀b u,b≠e->h.get? b=some u->h'.get? b=some u)(heo:∃u,h'.get? e=some u):Un fs ex H (upd H x o) h h':=by
 have hx:∀b,H b=none->b≠x:=λb n z=>by subst z;rw[n] at mu;exact mu
 have hb:∀b,H b=none->b≠e:=λb n z=>by
  subst z
  rcases he with r | r
  ·exact hx b n r
  ·rw[n] at r;cases r
 have hm:∀b u,H b=some u->¬ Mut (some u)->b≠x:=λb u q nm z=>by subst z;rw[q] at mu;exact nm mu
 refine⟨λb u q n _ _=>k b u (hb b n) q,λb u q n _ _=>⟨u.slots,k b u (hb b n) q⟩,λb u q n _=>by rw[Bd (hx b n)];exact n,λb u q _=>?_,
  λb xs q=>by rw[Bd (hm b _ q λz=>z)];exact q,λb u xs q=>by rw[Bd (hm b _ q λz=>z)];exact q,λb ps q=>⟨#[],by rw[Bd (hm b _ q λz=>z),q];simp⟩⟩
 by_cases hbe:b=e
 ·subst hbe;exact heo
 ·exact⟨u,k b u hbe q⟩
end
def trk(h:Heap)(H:Hp):List Addr:=(Zx2 h.objs.size).filter λa=>(H a).isSome
def Rz(h:Heap)(H:Hp):Heap:=PySem.W.hideAll h (trk h H)
theorem Wi(h:Heap)(H:Hp):(Rz h H).objs.size=h.objs.size:=PySem.W.hideAll_size _ _
theorem Yb{h:Heap}{H:Hp}{b:Addr}{o:Obj}(e:h.get? b=some o)(n:H b=none):(Rz h H).get? b=some o :=
 PySem.W.hideAll_get _ e λhm=>by
  have q:(H b).isSome=true:=(Zxl.mp hm).2
  rw[n] at q;simp at q
theorem Zn{h:Heap}{H:Hp}{b:Addr}{o:Obj}(e:(Rz h H).get? b=some o):h.get? b=some o/\H b=none:=by
 have e':h.get? b=some o:=PySem.W.of_hideAll (trk h H) e
 refine⟨e',?_⟩
 cases q:H b with
 |none=>rfl
 |some x =>
  have hm:b∈trk h H:=Zxl.mpr ⟨List.mem_range.mpr (Zzc e'),by simp[q]⟩
  have z:(Rz h H).get? b=none:=PySem.W.hideAll_none (trk h H) hm
  rw[z] at e;cases e
def ak(g h:Heap)(L:Addr):List (Addr×Obj):=(Zx2 h.objs.size).filterMap λa=>if a=L\/(g.get? a).isSome=true then none else (h.get? a).map λo=>(a,o)
def rest(g h:Heap)(L d:Addr):List (Addr×Obj):=(ak g h L).filter λp=>decide (p.1≠d)
structure Mod(K:Zzx)(mg:Str->Option Value)(base:Heap):Prop where
 kin:K.In base
 glob:base.Ns mainGlobals mg
 blt:∃mb,base.Ns builtinsNs mb/\∀x:Str,x ≠ "__name__" -> mb x=bootBuiltins x
 nolimit:base.NoLimit
structure Cx where
 prog:Program
 w:World
 K:Zzx
 mg:Str->Option Value
 base:Heap
 A:Around
 N:List Str
 s₀:Shared
 H₀:Hp
 env:Env
 outer:List Env
 stack:List Env
 ex:List Addr
 fn:Str->Bool
 calm:Bool
 pn:List (Addr×Obj)
 xe:Value->Shared->Prop
def frs(l:List Env):List Addr:=l.filterMap (·.frame)
abbrev Cx.fs(X:Cx):List Addr:=frs X.outer
def Vis(sc:Scope)(x:Str):Prop:=sc.names.lookup x=some .local\/sc.names.lookup x=some .cell\/sc.names.lookup x=some .free
def Loc(sc:Scope)(x:Str):Prop:=sc.names.lookup x=some .local\/sc.names.lookup x=some .cell
def Look(env:Env)(h:Heap)(m:Str->Option Value)(x:Str)(u:Value):Prop :=
 (env.kindOf x=some .local/\m x=some u)\/((env.kindOf x=some .cell\/env.kindOf x=some .free)/\∃c,env.cells.lookup x=some c/\h.IsCell c (some u))
structure Cx.Ok(X:Cx):Prop where
 mod:Mod X.K X.mg X.base
 kind:X.env.scope.kind=.function
 glob:X.env.globals=mainGlobals
 blt:X.env.builtins=builtinsNs
 above:X.s₀.heap.objs.size<=X.env.locals
 inj:∀x y c,X.env.cells.lookup x=some c->X.env.cells.lookup y=some c->x=y
 has:∀x,(X.env.kindOf x=some .cell\/X.env.kindOf x=some .free)->∃c,X.env.cells.lookup x=some c
 cab:∀x c,X.fn x=true->X.env.cells.lookup x=some c->X.s₀.heap.objs.size<=c
 hd:X.calm=true->X.A.handled=none
 frames:X.A.frames=some X.stack
 stk:X.stack=X.outer\/(X.stack=X.env::X.outer/\X.env.frame=some X.env.locals)
 exf:∀b∈X.ex,b≠X.env.locals/\∀x c,X.env.cells.lookup x=some c->c≠b
 bs:∀b o,X.base.get? b=some o->X.s₀.heap.get? b=some o/\X.H₀ b=none
 bsz:X.base.objs.size<=X.s₀.heap.objs.size
 noex:∀b o,X.base.get? b=some o->b∉X.ex
 exfs:∀b∈X.ex,b∉X.fs
 funs:X.s₀.heap.FunFrames X.base X.outer
 frf:∀b∈X.fs,X.H₀ b=none
structure Inv(X:Cx)(pins:List (Addr×Obj))(Z:List (Option V))(H:Hp)(s:Shared):Prop where
 ok:X.Ok
 os:s.os=X.s₀.os
 bare:AllBare s.gens
 base:Un X.fs X.ex X.H₀ H X.s₀.heap s.heap
 loc:∃m,s.heap.Ns X.env.locals m/\∀(i:Nat) (x:Str) (v:V),X.N[i]?=some x->Z[i]?=some (some v)->Vis X.env.scope x->∃u,RelV v u/\Look X.env s.heap m x u
 cell:∀x c,X.env.cells.lookup x=some c->∃v,s.heap.IsCell c v
 free:H X.env.locals=none
 freeC:∀x c,X.env.cells.lookup x=some c->H c=none
 pin:∀p∈X.pn++pins,s.heap.get? p.1=some p.2/\H p.1=none/\p.1≠X.env.locals/\p.1∉X.fs/\∀v,p.2.data≠.cell v
 hok:HOk X.prog X.w H s.heap
 len:Z.length=X.N.length
section
variable {X:Cx}{pins:List (Addr×Obj)}{Z:List (Option V)}{H H':Hp}{s:Shared}{h':Heap}
theorem Cx.Ok.nofr(ok:X.Ok){b:Addr}{o:Obj}(e:X.base.get? b=some o):b∉X.fs:=λhb=>by
 have:=(ok.funs.mem hb).1
 rw[e] at this;cases this
theorem Inv.bs(I:Inv X pins Z H s):∀b o,X.base.get? b=some o->s.heap.get? b=some o/\H b=none:=λb o e =>
 ⟨I.base.keep b o (I.ok.bs b o e).1 (I.ok.bs b o e).2 (I.ok.nofr e) (I.ok.noex b o e),I.base.free b o (I.ok.bs b o e).1 (I.ok.bs b o e).2 (I.ok.noex b o e)⟩
theorem Inv.bk(I:Inv X pins Z H s):∀b o,X.base.get? b=some o->s.heap.get? b=some o:=λb o e=>(I.bs b o e).1
theorem Inv.mod(I:Inv X pins Z H s):Mod X.K X.mg X.base:=I.ok.mod
theorem Inv.kIn(I:Inv X pins Z H s):X.K.In s.heap:=I.ok.mod.kin.keeps I.bk
theorem Inv.lt(I:Inv X pins Z H s):X.env.locals<s.heap.objs.size:=by obtain⟨_,hn,_⟩:=I.loc;exact hn.lt
theorem Inv.sz(I:Inv X pins Z H s):X.s₀.heap.objs.size<=s.heap.objs.size:=Zyu I.ok.above (Nat.le_of_lt I.lt)
theorem Inv.nofs(I:Inv X pins Z H s){a:Addr}(h:s.heap.objs.size<=a):a∉X.fs:=λhb=>by
 obtain⟨_,o,ho,_⟩:=I.ok.funs.mem hb
 exact absurd (Zzd (Zzc ho) (Zyu I.sz h)) (Zwm _)
theorem Inv.cne(I:Inv X pins Z H s):∀x c,X.env.cells.lookup x=some c->c≠X.env.locals:=λx c e z=>by
 obtain⟨v,o,ho,hd⟩:=I.cell x c e
 obtain⟨m,⟨o',es,ep,ho',hd',_⟩,_⟩:=I.loc
 rw[z,ho'] at ho;cases ho;rw[hd'] at hd;cases hd
theorem Inv.funs(I:Inv X pins Z H s):s.heap.FunFrames X.base X.outer:=by
 have all:∀(l:List Env),(∀b∈frs l,b∈X.fs)->X.s₀.heap.FunFrames X.base l->s.heap.FunFrames X.base l:=by
  intro l
  induction l with
  |nil=>intro _ _;trivial
  |cons env r ih =>
   intro hs hl
   obtain⟨hk,⟨L,o,hf,hn,ho,hd⟩,hr⟩:=hl
   have hL:L∈X.fs:=hs L (by unfold frs;rw[Zwb,hf];exact Zzs)
   obtain⟨sl,e⟩:=I.base.slot L o ho (I.ok.frf L hL) hL λz=>I.ok.exfs L z hL
   exact⟨hk,⟨L,_,hf,hn,e,hd⟩,ih (λb hb=>hs b (by unfold frs;rw[Zwb,hf];exact Zzi _ hb)) hr⟩
 exact all X.outer (λ_ hb=>hb) I.ok.funs
theorem Inv.stack(I:Inv X pins Z H s):s.heap.FunFrames X.base X.stack:=by
 rcases I.ok.stk with e | ⟨e,hf⟩
 ·rw[e];exact I.funs
 ·rw[e]
  obtain⟨m,hn,_⟩:=I.loc
  refine .cons (by rw[I.ok.kind];decide) hf hn ?_ I.funs
  exact Heap.get?_none_of_le (Zyu I.ok.bsz I.ok.above)
theorem Inv.stkSub(I:Inv X pins Z H s):∀b∈frs X.stack,b∈X.env.locals::X.fs:=λb hb=>by
 rcases I.ok.stk with e | ⟨e,hf⟩
 ·rw[e] at hb;exact Zzi _ hb
 ·rw[e] at hb
  unfold frs at hb
  rw[Zwb,hf] at hb
  exact hb
theorem Inv.stkFree(I:Inv X pins Z H s):∀b∈frs X.stack,H b=none:=λb hb=>by
 rcases Zzw.mp (I.stkSub b hb) with e | hb
 ·rw[e];exact I.free
 ·obtain⟨_,o,ho,_⟩:=I.ok.funs.mem hb
  exact I.base.free b o ho (I.ok.frf b hb) λz=>I.ok.exfs b z hb
theorem Inv.step{g':Array GenState}{t':Nat}{d':Drawn}{ch:List Addr}(I:Inv X pins Z H s)
  (hch:∀b∈ch,(b∈X.ex\/X.s₀.heap.objs.size<=b)/\b≠X.env.locals/\(∀x c,X.env.cells.lookup x=some c->c≠b)/\∀p∈X.pn++pins,p.1≠b)
  (keep:∀b o,b≠X.env.locals->b∉X.fs->b∉ch->s.heap.get? b=some o->H b=none->h'.get? b=some o)
  (slot:∀b o,b≠X.env.locals->b∈X.fs->b∉ch->s.heap.get? b=some o->H b=none->∃sl,h'.get? b=some {o with slots:=sl}) (free:∀b o,b∉ch->s.heap.get? b=some o->H b=none->H' b=none)
  (there:∀b o,b∉ch->s.heap.get? b=some o->∃o',h'.get? b=some o')
  (tups:∀b xs,H b=some (.tup xs)->H' b=some (.tup xs)) (frzs:∀b o u,H b=some (.frz o u)->H' b=some (.frz o u)) (tbls:∀b ps,H b=some (.tbl ps)->∃more,H' b=some (.tbl (ps++more)))
  (ns:∀m,s.heap.Ns X.env.locals m->h'.Ns X.env.locals m) (hok:HOk X.prog X.w H' h') (hg:AllBare g') :
  Inv X pins Z H' {s with heap:=h',gens:=g',drawn:=d',toks:=t'}:=by
 have neL:∀b o,X.s₀.heap.get? b=some o->b≠X.env.locals:=λb o e=>Zxh (Zzd (Zzc e) I.ok.above)
 have neC:∀b o,X.s₀.heap.get? b=some o->b∉X.ex->b∉ch:=λb o e hx hb=>by
  rcases(hch b hb).1 with z | z
  ·exact hx z
  ·exact absurd (Zzd (Zzc e) z) (Zwm _)
 have Kl:∀x c,X.env.cells.lookup x=some c->∀v,s.heap.IsCell c v->h'.IsCell c v:=λx c e v z0=>by
  obtain⟨o,ho,hd⟩:=z0
  have nch:c∉ch:=λz=>(hch c z).2.2.1 x c e rfl
  by_cases hc:c∈X.fs
  ·obtain⟨sl,q⟩:=slot c o (I.cne x c e) hc nch ho (I.freeC x c e)
   exact⟨_,q,hd⟩
  ·exact⟨o,keep c o (I.cne x c e) hc nch ho (I.freeC x c e),hd⟩
 refine⟨I.ok,I.os,hg,⟨λb o e n hb hx=>?_,λb o e n hb hx=>?_,λb o e n hx=>?_,λb o e hx=>?_,λb xs e=>tups b xs (I.base.tups b xs e),λb o xs e=>frzs b o xs (I.base.frzs b o xs e),λb ps e=>?_⟩,?_,λx c e=>?_,?_,λx c e=>?_,λp hp=>?_,hok,I.len⟩
 ·exact keep b o (neL b o e) hb (neC b o e hx) (I.base.keep b o e n hb hx) (I.base.free b o e n hx)
 ·obtain⟨sl,e1⟩:=I.base.slot b o e n hb hx
  obtain⟨sl',e2⟩:=slot b _ (neL b o e) hb (neC b o e hx) e1 (I.base.free b o e n hx)
  exact⟨sl',e2⟩
 ·obtain⟨o',e1⟩:=I.base.there b o e hx
  exact free b o' (neC b o e hx) e1 (I.base.free b o e n hx)
 ·obtain⟨o',e1⟩:=I.base.there b o e hx
  exact there b o' (neC b o e hx) e1
 ·obtain⟨m1,e1⟩:=I.base.tbls b ps e
  obtain⟨m2,e2⟩:=tbls b _ e1
  exact⟨m1++m2,by rw[e2,Array.append_assoc]⟩
 ·obtain⟨m,hn,hl⟩:=I.loc
  refine⟨m,ns m hn,λi x v e1 e2 e3=>?_⟩
  obtain⟨u,r,l⟩:=hl i x v e1 e2 e3
  refine⟨u,r,?_⟩
  rcases l with l | ⟨k,c,e,z⟩
  ·exact .inl l
  ·exact .inr ⟨k,c,e,Kl x c e _ z⟩
 ·obtain⟨v,z⟩:=I.cell x c e
  exact⟨v,Kl x c e v z⟩
 ·obtain⟨m,⟨o,_,_,ho,_⟩,_⟩:=I.loc
  exact free _ o (λz=>(hch _ z).2.1 rfl) ho I.free
 ·obtain⟨v,o,ho,hd⟩:=I.cell x c e
  exact free c o (λz=>(hch c z).2.2.1 x c e rfl) ho (I.freeC x c e)
 ·obtain⟨e,n,ne,nf,d⟩:=I.pin p hp
  have nch:p.1∉ch:=λz=>(hch p.1 z).2.2.2 p hp rfl
  exact⟨keep p.1 p.2 ne nf nch e n,free p.1 p.2 nch e n,ne,nf,d⟩
theorem Inv.un{t':Nat}(I:Inv X pins Z H s)(u:Un X.fs [] H H' s.heap h')(hok:HOk X.prog X.w H' h'):Inv X pins Z H' {s with heap:=h',toks:=t'}:=by
 obtain⟨m,⟨o,es,ep,ho,r⟩,_⟩:=id I.loc
 obtain⟨sl,hL⟩:=u.any ho I.free (by simp)
 exact I.step (g':=s.gens) (d':=s.drawn) (ch:=[]) (λ_ z=>nomatch z) (λb o _ hb _ e n=>u.keep b o e n hb (by simp)) (λb o _ hb _ e n=>u.slot b o e n hb (by simp)) (λb o _ e n=>u.free b o e n (by simp)) (λb o _ e=>u.there b o e (by simp)) u.tups u.frzs u.tbls (λm' hm=>by
  obtain⟨o',es',ep',ho',r'⟩:=hm
  rw[ho] at ho';cases ho'
  exact⟨_,es',ep',hL,r'⟩) hok I.bare
theorem Inv.call{g':Array GenState}{t':Nat}{d':Drawn}{ch:List Addr}(I:Inv X pins Z H s)(u:Un (frs X.stack) ch H H' s.heap h')(hok:HOk X.prog X.w H' h')(hg:AllBare g')
  (hch:∀b∈ch,(b∈X.ex\/X.s₀.heap.objs.size<=b)/\b≠X.env.locals/\(∀x c,X.env.cells.lookup x=some c->c≠b)/\∀p∈X.pn++pins,p.1≠b) :
  Inv X pins Z H' {s with heap:=h',gens:=g',drawn:=d',toks:=t'}:=by
 obtain⟨m,⟨o,es,ep,ho,r⟩,_⟩:=id I.loc
 obtain⟨sl,hL⟩:=u.any ho I.free λz=>(hch _ z).2.1 rfl
 exact I.step (ch:=ch) hch (λb o hL hb hc e n=>u.keep b o e n (λz=>(Zzw.mp (I.stkSub b z)).elim hL hb) hc) (λb o _ _ hc e n=>u.any e n hc) (λb o hc e n=>u.free b o e n hc) (λb o hc e=>u.there b o e hc) u.tups u.frzs u.tbls (λm' hm=>by
  obtain⟨o',es',ep',ho',r'⟩:=hm
  rw[ho] at ho';cases ho'
  exact⟨_,es',ep',hL,r'⟩) hok hg
theorem Inv.turned{t':Nat}{it:Addr}(I:Inv X pins Z H s)(k:∀b o,b≠it->s.heap.get? b=some o->h'.get? b=some o)(hn:H it=none)(hL:it≠X.env.locals)
  (h1:it∈X.ex\/X.s₀.heap.objs.size<=it) (h2:∀x c,X.env.cells.lookup x=some c->c≠it) (h3:∀p∈X.pn++pins,p.1≠it):Inv X pins Z H {s with heap:=h',toks:=t'}:=by
 have nit:∀b u,H b=some u->b≠it:=λb u e z=>by rw[z,hn] at e;cases e
 refine I.step (g':=s.gens) (d':=s.drawn) (ch:=[it]) (λb hb=>?_) (λb o _ _ hc e _=>k b o (λz=>hc (by simp[z])) e) (λb o _ _ hc e _=>⟨o.slots,k b o (λz=>hc (by simp[z])) e⟩) (λ_ _ _ _ n=>n)
  (λb o hc e=>⟨o,k b o (λz=>hc (by simp[z])) e⟩) (λ_ _ e=>e) (λ_ _ _ e=>e) (λb ps e=>⟨#[],by rw[e];simp⟩) (λm hm=>?_) (λb u e=>?_) I.bare
 ·have e:b=it:=by simpa using hb
  subst e
  exact⟨h1,hL,h2,h3⟩
 ·obtain⟨o,es,ep,ho,r⟩:=hm
  exact⟨o,es,ep,k _ o (Zyj hL) ho,r⟩
 ·refine(I.hok b u e).stay (λc v hc q=>k c v ?_ q) (λ_ q=>q) λ_ _ q=>q
  rcases hc with z | z
  ·rw[z];exact nit b u e
  ·exact nit c _ z
theorem Inv.tok(I:Inv X pins Z H s)(t:Nat):Inv X pins Z H {s with toks:=t}:=I.un (h':=s.heap) (t':=t) Un.refl I.hok
theorem Inv.kept{t':Nat}(I:Inv X pins Z H s)(k:∀b u,s.heap.get? b=some u->h'.get? b=some u):Inv X pins Z H {s with heap:=h',toks:=t'}:=I.un (Un.kept k) (I.hok.kept k)
theorem Inv.laid{a:Addr}{o:HO}{t':Nat}(I:Inv X pins Z H s)(k:∀b u,s.heap.get? b=some u->h'.get? b=some u)(hp:s.heap.objs.size<=a)(new:ObjOk X.prog X.w (upd H a o) h' a o) :
  Inv X pins Z (upd H a o) {s with heap:=h',toks:=t'}:=I.un (Un.laid k hp (I.hok.fresh hp)) (I.hok.laid k hp new)
theorem Inv.write{x e:Addr}{o:HO}{t':Nat}(I:Inv X pins Z H s)(mu:Mut (H x))(he:e=x\/H e=some (.own x))(k:∀b u,b≠e->s.heap.get? b=some u->h'.get? b=some u)(heo:∃u,h'.get? e=some u)
  (new:ObjOk X.prog X.w (upd H x o) h' x o):Inv X pins Z (upd H x o) {s with heap:=h',toks:=t'}:=I.un (Un.write mu he k heo) (I.hok.write mu he k heo new)
theorem Inv.weak{Z':List (Option V)}(I:Inv X pins Z H s)(hl:Z'.length=Z.length)(w:∀(i:Nat) v,Z'[i]?=some (some v)->Z[i]?=some (some v)):Inv X pins Z' H s :=
 ⟨I.ok,I.os,I.bare,I.base,by obtain⟨m,hn,hl'⟩:=I.loc;exact⟨m,hn,λi x v e1 e2 e3=>hl' i x v e1 (w i v e2) e3⟩,I.cell,I.free,I.freeC,I.pin,I.hok,hl.trans I.len⟩
theorem Inv.pins_of{pins':List (Addr×Obj)}(I:Inv X pins Z H s)(h:∀p∈pins',s.heap.get? p.1=some p.2/\H p.1=none/\p.1≠X.env.locals/\p.1∉X.fs/\∀v,p.2.data≠.cell v):Inv X pins' Z H s :=
 ⟨I.ok,I.os,I.bare,I.base,I.loc,I.cell,I.free,I.freeC,λp hp=>(Zyq.mp hp).elim (λz=>I.pin p (Zxz _ z)) (h p),I.hok,I.len⟩
theorem Op{N:List Str}(hN:N.Nodup){i j:Nat}{x:Str}(a:N[i]?=some x)(b:N[j]?=some x):i=j:=by
 obtain⟨h1,e1⟩:=Zy1.mp a
 obtain⟨h2,e2⟩:=Zy1.mp b
 exact(List.getElem_inj hN).mp (e1.trans e2.symm)
theorem N7{M:Model}{A:Around}{E:Value->Shared->Prop}{i:Nat}{x:Str}{v:V}{u:Value}{Q:Unit->Shared->Prop}(I:Inv X pins Z H s)(hN:X.N.Nodup)(hi:X.N[i]?=some x)(hx:Loc X.env.scope x)(r:RelV v u)
  (h:∀s',Inv X pins (Z.set i (some v)) H s'->(∃a,Zx1 a s.heap s'.heap/\(a=X.env.locals\/X.env.cells.lookup x=some a))->Q () s') (hf:X.fn x=true\/X.env.scope.names.lookup x=some .local:=by first | exact .inl rfl | exact .inr rfl | assumption):wpAny M A (storeName X.env x u) Q E s:=by
 obtain⟨m,hn,hl⟩:=id I.loc
 have hcls:(X.env.scope.kind == .class||(X.env.scope.kind == .module&&X.env.locals != X.env.globals))=false:=by rw[I.ok.kind];rfl
 have hiσ:i<Z.length:=by rw[I.len];exact(Zy1.mp hi).1
 have cne:=I.cne
 have tracked:∀{a:Addr} {h':Heap},(∃o,s.heap.get? a=some o/\H a=none)->Zx1 a s.heap h'->HOk X.prog X.w H h':=λ{a h'} ha hs b ob e=>by
  obtain⟨_,_,hfree⟩:=ha
  refine(I.hok b ob e).stay (λc w' hc q=>(hs.2 c ?_).trans q) (λ_ q=>q) λ_ _ q=>q
  rintro rfl
  rcases hc with rfl | hc
  ·rw[hfree] at e;cases e
  ·rw[hfree] at hc;cases hc
 rcases hx with hk | hk
 ·refine wpAny_storeName_local hk hn (λh' hn' hs=>?_) hcls
  obtain⟨oL,_,_,hoL,_⟩:=id hn
  refine h _ ⟨I.ok,I.os,I.bare,⟨λb o e n hb hx=>?_,λb o e n hb hx=>?_,I.base.free,λb o e hx=>?_,I.base.tups,I.base.frzs,I.base.tbls⟩,⟨_,hn',λj y v' e1 e2 e3=>?_⟩,λy c e=>?_,I.free,I.freeC,λp hp=>?_,tracked ⟨oL,hoL,I.free⟩ hs,by simpa using I.len⟩ ⟨_,hs,.inl rfl⟩
  ·exact(hs.2 b (Zxh (Zzd (Zzc e) I.ok.above))).trans (I.base.keep b o e n hb hx)
  ·obtain⟨sl,e1⟩:=I.base.slot b o e n hb hx
   exact⟨sl,(hs.2 b (Zxh (Zzd (Zzc e) I.ok.above))).trans e1⟩
  ·obtain⟨o',e1⟩:=I.base.there b o e hx
   exact⟨o',(hs.2 b (Zxh (Zzd (Zzc e) I.ok.above))).trans e1⟩
  ·by_cases hj:j=i
   ·subst hj
    rw[hi] at e1;cases e1
    rw[Zvw hiσ] at e2
    cases e2
    exact⟨u,r,.inl ⟨hk,by simp⟩⟩
   ·rw[Zxq (Zyj hj)] at e2
    obtain⟨u',r',q⟩:=hl j y v' e1 e2 e3
    refine⟨u',r',?_⟩
    rcases q with ⟨k,e⟩ | ⟨k,c,e,z⟩
    ·refine .inl ⟨k,?_⟩
     have:y≠x:=λe=>hj (Op hN e1 (e▸hi))
     simp[this,e]
    ·exact .inr ⟨k,c,e,z.sameBut hs (cne y c e)⟩
  ·obtain⟨w',z⟩:=I.cell y c e
   exact⟨w',z.sameBut hs (cne y c e)⟩
  ·obtain⟨e,n,ne,nf,d⟩:=I.pin p hp
   exact⟨(hs.2 p.1 ne).trans e,n,ne,nf,d⟩
 ·have hfn:X.fn x=true:=by
   rcases hf with z | z
   ·exact z
   ·rw[z] at hk;cases hk
  obtain⟨c,hc⟩:=I.ok.has x (.inl hk)
  obtain⟨w',z⟩:=I.cell x c hc
  refine wpAny_storeName_cell I.ok.kind hk hc z (λh' hc' hs=>?_)
  obtain⟨oc,hoc,hocd⟩:=id z
  refine h {s with heap:=h'} ⟨I.ok,I.os,I.bare,⟨λb o e n hb hx=>?_,λb o e n hb hx=>?_,I.base.free,λb o e hx=>?_,I.base.tups,I.base.frzs,I.base.tbls⟩,⟨m,hn.sameBut hs (Zyj (cne x c hc)),λj y v' e1 e2 e3=>?_⟩,λy c' e=>?_,I.free,I.freeC,λp hp=>?_,tracked ⟨oc,hoc,I.freeC x c hc⟩ hs,by simpa using I.len⟩ ⟨c,hs,.inr hc⟩
  ·exact(hs.2 b (Zxh (Zzd (Zzc e) (I.ok.cab x c hfn hc)))).trans (I.base.keep b o e n hb hx)
  ·obtain⟨sl,e1⟩:=I.base.slot b o e n hb hx
   exact⟨sl,(hs.2 b (Zxh (Zzd (Zzc e) (I.ok.cab x c hfn hc)))).trans e1⟩
  ·obtain⟨o',e1⟩:=I.base.there b o e hx
   exact⟨o',(hs.2 b (Zxh (Zzd (Zzc e) (I.ok.cab x c hfn hc)))).trans e1⟩
  ·by_cases hj:j=i
   ·subst hj
    rw[hi] at e1;cases e1
    rw[Zvw hiσ] at e2
    cases e2
    exact⟨u,r,.inr ⟨.inl hk,c,hc,hc'⟩⟩
   ·rw[Zxq (Zyj hj)] at e2
    obtain⟨u',r',q⟩:=hl j y v' e1 e2 e3
    refine⟨u',r',?_⟩
    rcases q with q | ⟨k,c',e,z'⟩
    ·exact .inl q
    ·refine .inr ⟨k,c',e,z'.sameBut hs ?_⟩
     rintro rfl
     exact hj (Op hN e1 (I.ok.inj _ _ _ e hc▸hi))
  ·by_cases hcc:c'=c
   ·subst hcc;exact⟨_,hc'⟩
   ·obtain⟨w2,z2⟩:=I.cell y c' e
    exact⟨w2,z2.sameBut hs hcc⟩
  ·obtain⟨e,n,ne,nf,d⟩:=I.pin p hp
   refine⟨(hs.2 p.1 ?_).trans e,n,ne,nf,d⟩
   intro q
   rw[q,hoc] at e
   have q':oc=p.2:=Zyk e
   exact d w' (by rw[<- q'];exact hocd)
theorem O7{M:Model}{A:Around}{E:Value->Shared->Prop}{i:Nat}{x:Str}{v:V}{u:Value}{Q:Unit->Shared->Prop}(I:Inv X pins Z H s)(hN:X.N.Nodup)(hi:X.N[i]?=some x)(hx:Loc X.env.scope x)(r:RelV v u)
  (h:∀s',Inv X pins (Z.set i (some v)) H s'->Q () s') (hf:X.fn x=true\/X.env.scope.names.lookup x=some .local:=by first | exact .inl rfl | exact .inr rfl | assumption):wpAny M A (storeName X.env x u) Q E s :=
 N7 I hN hi hx r (λs' I' _=>h s' I') hf
theorem Inv.call'{s':Shared}{ch:List Addr}(I:Inv X pins Z H s)(ho:s'.os=s.os)(u:Un (frs X.stack) ch H H' s.heap s'.heap)(hok:HOk X.prog X.w H' s'.heap)(hg:AllBare s'.gens)
  (hch:∀b∈ch,(b∈X.ex\/X.s₀.heap.objs.size<=b)/\b≠X.env.locals/\(∀x c,X.env.cells.lookup x=some c->c≠b)/\∀p∈X.pn++pins,p.1≠b):Inv X pins Z H' s':=by
 obtain⟨h',g',d',t',o'⟩:=s'
 have e:o'=s.os:=ho
 subst e
 exact I.call (g':=g') (t':=t') (d':=d') u hok hg hch
end
abbrev XK:=Value->Option Addr->Hp->Prop
abbrev St:=List (Option V)
abbrev VK:=V->Hp->Prop
abbrev TE:=St->Hp->VK->Prop
abbrev TT:=St->Hp->(Bool->Hp->Prop)->Prop
abbrev TA:=St->Hp->(List V->Hp->Prop)->Prop
structure Ends where
 nx:St->Hp->Prop
 rt:VK
 bk:St->Hp->Prop:=λ_ _=>False
 ct:St->Hp->Prop:=λ_ _=>False
abbrev TS:=Ends->St->Hp->Prop
def EP(X:Cx)(pins:List (Addr×Obj))(Z:St)(Q:VK)(u:Value)(s':Shared):Prop:=∃v H',Inv X pins Z H' s'/\RelV v u/\Q v H'
def TP(X:Cx)(pins:List (Addr×Obj))(Z:St)(Q:Bool->Hp->Prop)(b:Bool)(s':Shared):Prop:=∃H',Inv X pins Z H' s'/\Q b H'
def AP(X:Cx)(pins:List (Addr×Obj))(Z:St)(Q:List V->Hp->Prop)(us:List Value)(s':Shared):Prop:=∃vs H',Inv X pins Z H' s'/\Vals vs us/\Q vs H'
def SP(X:Cx)(pins:List (Addr×Obj))(D:Ends)(f:Flow)(s':Shared):Prop :=
 match f with
 |.next=>∃Z' H',Inv X pins Z' H' s'/\D.nx Z' H'
 |.brk=>∃Z' H',Inv X pins Z' H' s'/\D.bk Z' H'
 |.cont=>∃Z' H',Inv X pins Z' H' s'/\D.ct Z' H'
 |.ret u=>∃v Z' H',Inv X pins Z' H' s'/\RelV v u/\D.rt v H'
def PE(X:Cx)(e:Expr)(t:TE):Prop :=
 ∀(pins:List (Addr×Obj)) (s:Shared) (Z:St) (H:Hp) (Q:VK),Inv X pins Z H s->t Z H Q->wpAny (model X.prog X.w) X.A (eval e X.env) (EP X pins Z Q) X.xe s
def PT(X:Cx)(e:Expr)(t:TT):Prop :=
 ∀(pins:List (Addr×Obj)) (s:Shared) (Z:St) (H:Hp) (Q:Bool->Hp->Prop),Inv X pins Z H s->t Z H Q->wpAny (model X.prog X.w) X.A (isTrue e X.env (eval e X.env)) (TP X pins Z Q) X.xe s
def PW(X:Cx)(e:Expr)(t:TT):Prop :=
 ∀(whole:Sem Value) (pins:List (Addr×Obj)) (s:Shared) (Z:St) (H:Hp) (Q:Bool->Hp->Prop),Inv X pins Z H s->t Z H Q->wpAny (model X.prog X.w) X.A (isTrue e X.env whole) (TP X pins Z Q) X.xe s
theorem PW.pt{X:Cx}{e:Expr}{t:TT}(h:PW X e t):PT X e t:=h _
def PA(X:Cx)(es:List Expr)(t:TA):Prop :=
 ∀(pos:Pos) (pins:List (Addr×Obj)) (s:Shared) (Z:St) (H:Hp) (Q:List V->Hp->Prop),Inv X pins Z H s->t Z H Q->wpAny (model X.prog X.w) X.A (spliced (backTo pos (starEach es X.env))) (AP X pins Z Q) X.xe s
def PS(X:Cx)(st:Stmt)(t:TS):Prop :=
 ∀(pins:List (Addr×Obj)) (s:Shared) (Z:St) (H:Hp) (D:Ends),Inv X pins Z H s->t D Z H->wpAny (model X.prog X.w) X.A (exec st X.env) (SP X pins D) X.xe s
def PSs(X:Cx)(st:List Stmt)(t:TS):Prop :=
 ∀(pins:List (Addr×Obj)) (s:Shared) (Z:St) (H:Hp) (D:Ends),Inv X pins Z H s->t D Z H->wpAny (model X.prog X.w) X.A (execs st X.env) (SP X pins D) X.xe s
theorem thn{α:Type}{t:Sem α}{Q Q':α->Shared->Prop}{M:Model}{A:Around}{E:Value->Shared->Prop}{s:Shared}(h:wpAny M A t Q E s)(hQ:∀a s,Q a s->Q' a s):wpAny M A t Q' E s:=wpAny_mono h hQ λ_ _ x=>x
section
variable {X:Cx}
def Gh(i:Nat):TE:=λZ H Q=>∃v,Z[i]?=some (some v)/\Q v H
def tC(v:V):TE:=λ_ H Q=>Q v H
theorem cq{i:Nat}{x:Str}{pos:Pos}(hN:X.N[i]?=some x)(hv:Vis X.env.scope x)(hd:(x == ("__debug__" : Str))=false:=by decide)(hcd:(x == ("__classdict__" : Str))=false:=by decide):PE X (.Name x pos) (Gh i):=by
 intro pins s Z H Q I h
 obtain⟨v,e,h⟩:=h
 obtain⟨m,hn,hl⟩:=I.loc
 obtain⟨u,r,l⟩:=hl i x v hN e hv
 have fin:EP X pins Z Q u s:=⟨v,H,I,r,h⟩
 rcases l with ⟨hk,hm⟩ | ⟨hk,c,hc,hcell⟩
 ·exact wpAny_Name (wpAny_loadName_local I.ok.kind hk hn hm fin) hd
 ·rcases hk with hk | hk
  ·exact wpAny_Name (wpAny_loadName_cell I.ok.kind hk hc hcell fin) hd
  ·exact wpAny_Name (wpAny_loadName_free I.ok.kind hk hc hcell fin hcd) hd
theorem A4{i j pos}:PE X (.Constant (.int i) j pos) (tC (.int i)):=λ_ _ _ H _ I h=>wpAny_Constant_int ⟨.int i,H,I.tok _,⟨_,rfl⟩,h⟩
theorem Gd{b j pos}:PE X (.Constant (.bool b) j pos) (tC (.bl b)):=λ_ _ _ H _ I h=>Constant_bool ⟨.bl b,H,I,rfl,h⟩
theorem Xi{j pos}:PE X (.Constant .none j pos) (tC .non):=λ_ _ _ H _ I h=>Constant_none ⟨.non,H,I,rfl,h⟩
theorem Ad{x j pos}:PE X (.Constant (.str x) j pos) (tC (.str x)):=λ_ _ _ H _ I h=>Calls.Constant_str ⟨.str x,H,I.tok _,⟨_,rfl⟩,h⟩
def Gl(X:Cx)(x:Str):Prop:=X.env.kindOf x=some .globalImplicit
theorem Mw{E:Value->Shared->Prop}{pins:List (Addr×Obj)}{s:Shared}{Z:St}{H:Hp}{x:Str}{u:Value}{pos:Pos}{Q:Value->Shared->Prop}(I:Inv X pins Z H s)(hg:Gl X x)(hm:X.mg x=some u)(h:Q u s)
  (hd:(x == ("__debug__" : Str))=false:=by decide):wpAny (model X.prog X.w) X.A (eval (.Name x pos) X.env) Q E s :=
 Calls.Name_function_global I.ok.kind hg (Calls.loadGlobal_global (by rw[I.ok.glob];exact I.mod.glob.keeps I.bk) hm h) hd
theorem Nb{E:Value->Shared->Prop}{pins:List (Addr×Obj)}{s:Shared}{Z:St}{H:Hp}{x:Str}{u:Value}{pos:Pos}{Q:Value->Shared->Prop}(I:Inv X pins Z H s)(hg:Gl X x)(hm:X.mg x=none)(hv:bootBuiltins x=some u)(h:Q u s)
  (hn:x ≠ "__name__" := by decide) (hd:(x == ("__debug__" : Str))=false:=by decide):wpAny (model X.prog X.w) X.A (eval (.Name x pos) X.env) Q E s:=by
 obtain⟨mb,h1,h2⟩:=I.mod.blt
 exact Calls.Name_function_global I.ok.kind hg (Calls.loadGlobal_builtin (by rw[I.ok.glob];exact I.mod.glob.keeps I.bk) hm (by rw[I.ok.blt];exact h1.keeps I.bk) ((h2 x hn).trans hv) h) hd
theorem Jq{x:Str}{v:V}{u:Value}{pos:Pos}(hg:Gl X x)(hm:X.mg x=some u)(r:RelV v u)(hd:(x == ("__debug__" : Str))=false:=by decide):PE X (.Name x pos) (tC v) :=
 λ_ _ _ H _ I h=>Mw I hg hm ⟨v,H,I,r,h⟩ hd
theorem Lc{x:Str}{v:V}{u:Value}{pos:Pos}(hg:Gl X x)(hm:X.mg x=none)(hv:bootBuiltins x=some u)(r:RelV v u)(hn:x ≠ "__name__" := by decide)(hd:(x == ("__debug__" : Str))=false:=by decide):PE X (.Name x pos) (tC v) :=
 λ_ _ _ H _ I h=>Nb I hg hm hv ⟨v,H,I,r,h⟩ hn hd
variable {a b:Expr}{ta tb:TE}{pos:Pos}
def PC(X:Cx)(op:CmpOp)(a b:Expr)(t:TE):Prop :=
 ∀(pins:List (Addr×Obj)) (s:Shared) (Z:St) (H:Hp) (Q:VK),Inv X pins Z H s->t Z H Q ->
  wpAny (model X.prog X.w) X.A (eval a X.env) (λv s₁=>wpAny (model X.prog X.w) X.A (eval b X.env) (λu s₂=>wpAny (model X.prog X.w) X.A (compareOp op v u) (EP X pins Z Q) X.xe s₂) X.xe s₁) X.xe s
def tB(t:TE):TT:=λZ H Q=>t Z H λx H1=>∃c,x=.bl c/\Q c H1
theorem F0{e:Expr}{t:TE}(h:PE X e t)(he:∀whole,isTrue e X.env whole=(do let v <- whole;standAt e.pos;holding [v] (truthy v)):=by intro _;rfl):PT X e (tB t):=by
 intro pins s Z H Q I hw
 refine isTrue_plain (thn (h pins s Z H _ I hw) λv s1 ⟨x,H1,I1,r1,q1⟩=>?_) (he _)
 obtain⟨d,rfl,q⟩:=q1
 cases r1
 exact wpAny_truthy_bool ⟨H1,I1,q⟩
variable {tA tB':TT}{rest:List Expr}
def Hc(t u:TT):TT:=λZ H Q=>t Z H λc H1=>if c=true then u Z H1 Q else Q false H1
def tOr(t u:TT):TT:=λZ H Q=>t Z H λc H1=>if c=true then Q true H1 else u Z H1 Q
def Gy(t:TT):TT:=λZ H Q=>t Z H λc H1=>Q (!c) H1
theorem Vd(ha:PT X a tA):PW X (.BoolOp .And [a] pos) tA:=by
 intro wh pins s Z H Q I h
 refine isTrue_and (thn (ha pins s Z H Q I h) λc s1 e=>?_)
 cases c with
 |true=>exact isTrue_and_nil e
 |false=>exact e
theorem Lb(ha:PT X a tA):PW X (.BoolOp .Or [a] pos) tA:=by
 intro wh pins s Z H Q I h
 refine isTrue_or (thn (ha pins s Z H Q I h) λc s1 e=>?_)
 cases c with
 |false=>exact isTrue_or_nil e
 |true=>exact e
theorem Xg(ha:PT X a tA)(hb:PW X (.BoolOp .And (b::rest) pos) tB'):PW X (.BoolOp .And (a::b::rest) pos) (Hc tA tB'):=by
 intro wh pins s Z H Q I h
 refine isTrue_and (thn (ha pins s Z H _ I h) λc s1 z0=>?_)
 obtain⟨H1,I1,q1⟩:=z0
 cases c with
 |true=>exact hb wh pins s1 Z H1 Q I1 q1
 |false=>exact⟨H1,I1,q1⟩
theorem Lq(ha:PT X a tA)(hb:PW X (.BoolOp .Or (b::rest) pos) tB'):PW X (.BoolOp .Or (a::b::rest) pos) (tOr tA tB'):=by
 intro wh pins s Z H Q I h
 refine isTrue_or (thn (ha pins s Z H _ I h) λc s1 z0=>?_)
 obtain⟨H1,I1,q1⟩:=z0
 cases c with
 |true=>exact⟨H1,I1,q1⟩
 |false=>exact hb wh pins s1 Z H1 Q I1 q1
theorem Dz(ha:PT X a tA):PT X (.UnaryOp .Not a pos) (Gy tA):=by
 intro pins s Z H Q I h
 exact isTrue_not (ha pins s Z H (λc H1=>Q (!c) H1) I h)
def Du(ta tb:TE):TE:=λZ H Q=>ta Z H λx H1=>∃c,x=.bl c/\if c=true then tb Z H1 Q else Q (.bl false) H1
def Gx(ta tb:TE):TE:=λZ H Q=>ta Z H λx H1=>∃c,x=.bl c/\if c=true then Q (.bl true) H1 else tb Z H1 Q
def Dr(ta:TE):TE:=λZ H Q=>ta Z H λx H1=>∃c,x=.bl c/\Q (.bl (!c)) H1
theorem Ki{op}{t:TE}(h:PE X a t):PE X (.BoolOp op [a] pos) t:=λpins s Z H Q I hw=>BoolOp_one (h pins s Z H Q I hw)
theorem Jm(ha:PE X a ta)(hb:PE X (.BoolOp .And (b::rest) pos) tb):PE X (.BoolOp .And (a::b::rest) pos) (Du ta tb):=by
 intro pins s Z H Q I h
 refine BoolOp_and (thn (ha pins s Z H _ I h) λv s1 z0=>?_)
 obtain⟨x,H1,I1,r1,q1⟩:=z0
 obtain⟨c,rfl,q1⟩:=q1
 cases r1
 refine wpAny_truthy_bool ?_
 cases c with
 |true=>exact hb pins s1 Z H1 Q I1 q1
 |false=>exact⟨.bl false,H1,I1,rfl,q1⟩
theorem fh(ha:PE X a ta)(hb:PE X (.BoolOp .Or (b::rest) pos) tb):PE X (.BoolOp .Or (a::b::rest) pos) (Gx ta tb):=by
 intro pins s Z H Q I h
 refine BoolOp_or (thn (ha pins s Z H _ I h) λv s1 z0=>?_)
 obtain⟨x,H1,I1,r1,q1⟩:=z0
 obtain⟨c,rfl,q1⟩:=q1
 cases r1
 refine wpAny_truthy_bool ?_
 cases c with
 |false=>exact hb pins s1 Z H1 Q I1 q1
 |true=>exact⟨.bl true,H1,I1,rfl,q1⟩
theorem cr(ha:PE X a ta):PE X (.UnaryOp .Not a pos) (Dr ta):=by
 intro pins s Z H Q I h
 refine UnaryOp_ (thn (ha pins s Z H _ I h) λv s1 z0=>?_)
 obtain⟨x,H1,I1,r1,q1⟩:=z0
 obtain⟨c,rfl,q1⟩:=q1
 cases r1
 exact not_of (wpAny_truthy_bool ⟨.bl (!c),H1,I1,rfl,q1⟩)
def tIf(t:TT)(ta tb:TE):TE:=λZ H Q=>t Z H λc H1=>if c=true then ta Z H1 Q else tb Z H1 Q
theorem Xk{c:Expr}(hc:PT X c tA)(ha:PE X a ta)(hb:PE X b tb):PE X (.IfExp c a b pos) (tIf tA ta tb):=by
 intro pins s Z H Q I h
 refine wpAny_IfExp (thn (hc pins s Z H _ I h) λd s1 z0=>?_)
 obtain⟨H1,I1,q1⟩:=z0
 cases d with
 |true=>exact ha pins s1 Z H1 Q I1 q1
 |false=>exact hb pins s1 Z H1 Q I1 q1
end
def SqL(K:Zzx)(H:Hp)(a:Addr)(xs:List V):Prop :=
 Rd H a (.lst xs) \/
  ∃(o:Obj) (its:Array Value) (n:Nat),K.lookup a=some o/\o.cls=.type "list" /\ o.dict=none/\o.data=.seq its n/\its.size<=sizeLine/\Vals xs its.toList
def SqT(K:Zzx)(H:Hp)(a:Addr)(xs:List V):Prop :=
 Rd H a (.tup xs) \/
  ∃(o:Obj) (its:Array Value) (n:Nat),K.lookup a=some o/\o.cls=.type "tuple" /\ o.data=.seq its n/\its.size<=sizeLine/\Vals xs its.toList
def absV:Value->Option V
 |.none=>some .non
 |.bool b=>some (.bl b)
 |.int i _=>some (.int i)
 |.str x _=>some (.str x)
 |.bytes b _=>some (.byt b)
 |.float b _=>some (.flt b)
 |.ref a=>some (.ref a)
 |.type n=>some (.ty n)
 |_=>none
theorem RelV.abs{x:V}{u:Value}(r:RelV x u):absV u=some x:=by
 cases x with
 |non=>cases r;rfl
 |bl _=>cases r;rfl
 |int _=>obtain⟨t,rfl⟩:=r;rfl
 |str _=>obtain⟨t,rfl⟩:=r;rfl
 |byt _=>obtain⟨t,rfl⟩:=r;rfl
 |flt _=>obtain⟨t,rfl⟩:=r;rfl
 |ref _=>cases r;rfl
 |ty _=>cases r;rfl
theorem RelV.inj{x y:V}{u:Value}(r:RelV x u)(q:RelV y u):x=y:=Zyk (r.abs.symm.trans q.abs)
theorem Vals.inj:∀{xs ys:List V} {us:List Value},Vals xs us->Vals ys us->xs=ys
 |_,_,_,.nil,.nil=>rfl
 |_,_,_,.cons r t,.cons r' t'=>by rw[r.inj r',Vals.inj t t']
section
variable {X:Cx}{pins:List (Addr×Obj)}{Z:St}{H:Hp}{s:Shared}{a:Addr}{xs ys:List V}
theorem SqL.of{K:Zzx}(h:H a=some (.lst xs)):SqL K H a xs:=.inl (.inl h)
theorem SqT.of{K:Zzx}(h:H a=some (.tup xs)):SqT K H a xs:=.inl (.inl h)
theorem Inv.list(I:Inv X pins Z H s)(h:SqL X.K H a xs):∃its:List Value,Vals xs its/\PlainL s.heap a its.toArray/\xs.length<=sizeLine:=by
 rcases h with h | ⟨o,its,n,hk,hc,hd,hs,hz,r⟩
 ·obtain⟨z,its,n,r,e⟩:=h.ok I.hok
  exact⟨its,r,⟨_,n,e,rfl,rfl,rfl⟩,z⟩
 ·refine⟨its.toList,r,⟨o,n,I.kIn a o hk,hc,hd,by simpa using hs⟩,?_⟩
  have e:=r.length
  simp only[Zxd] at e
  omega
theorem Inv.tuple(I:Inv X pins Z H s)(h:SqT X.K H a xs):∃its:List Value,Vals xs its/\IsTup s.heap a its.toArray/\xs.length<=sizeLine:=by
 rcases h with h | ⟨o,its,n,hk,hc,hs,hz,r⟩
 ·obtain⟨z,its,r,p⟩:=h.ok I.hok
  exact⟨its,r,p,z⟩
 ·refine⟨its.toList,r,⟨o,I.kIn a o hk,hc,n,by simpa using hs⟩,?_⟩
  have e:=r.length
  simp only[Zxd] at e
  omega
theorem Inv.list_inj(I:Inv X pins Z H s)(h:SqL X.K H a xs)(h':SqL X.K H a ys):xs=ys:=by
 obtain⟨its,r,⟨o,n,e,_,_,d⟩,_⟩:=I.list h
 obtain⟨its',r',⟨o',n',e',_,_,d'⟩,_⟩:=I.list h'
 rw[e] at e';cases e'
 rw[d] at d'
 injection d' with d1 _
 have:its=its':=by simpa using congrArg Array.toList d1
 subst this
 exact r.inj r'
theorem Inv.tuple_inj(I:Inv X pins Z H s)(h:SqT X.K H a xs)(h':SqT X.K H a ys):xs=ys:=by
 obtain⟨its,r,⟨o,e,_,n,d⟩,_⟩:=I.tuple h
 obtain⟨its',r',⟨o',e',_,n',d'⟩,_⟩:=I.tuple h'
 rw[e] at e';cases e'
 rw[d] at d'
 injection d' with d1 _
 have:its=its':=by simpa using congrArg Array.toList d1
 subst this
 exact r.inj r'
end
abbrev Cx.wish(X:Cx)(E:Value->Shared->Prop):Cx:={X with xe:=E}
abbrev Cx.nox(X:Cx):Cx:=X.wish λ_ _=>False
theorem Cx.Ok.wish{X:Cx}(ok:X.Ok)(E:Value->Shared->Prop):(X.wish E).Ok :=
 ⟨ok.mod,ok.kind,ok.glob,ok.blt,ok.above,ok.inj,ok.has,ok.cab,ok.hd,ok.frames,ok.stk,ok.exf,ok.bs,ok.bsz,ok.noex,ok.exfs,ok.funs,ok.frf⟩
theorem Cx.Ok.unwish{X:Cx}{E:Value->Shared->Prop}(ok:(X.wish E).Ok):X.Ok :=
 ⟨ok.mod,ok.kind,ok.glob,ok.blt,ok.above,ok.inj,ok.has,ok.cab,ok.hd,ok.frames,ok.stk,ok.exf,ok.bs,ok.bsz,ok.noex,ok.exfs,ok.funs,ok.frf⟩
section
variable {X:Cx}{pins:List (Addr×Obj)}{Z:St}{H:Hp}{s:Shared}{E:Value->Shared->Prop}
theorem Inv.wish(I:Inv X pins Z H s)(E:Value->Shared->Prop):Inv (X.wish E) pins Z H s:=⟨I.ok.wish E,I.os,I.bare,I.base,I.loc,I.cell,I.free,I.freeC,I.pin,I.hok,I.len⟩
theorem Inv.unwish(I:Inv (X.wish E) pins Z H s):Inv X pins Z H s:=⟨I.ok.unwish,I.os,I.bare,I.base,I.loc,I.cell,I.free,I.freeC,I.pin,I.hok,I.len⟩
theorem SP.unwish{D:Ends}{f:Flow}{s':Shared}(h:SP (X.wish E) pins D f s'):SP X pins D f s':=by
 cases f with
 |next=>obtain⟨Z',H',I,q⟩:=h;exact⟨Z',H',I.unwish,q⟩
 |brk=>obtain⟨Z',H',I,q⟩:=h;exact⟨Z',H',I.unwish,q⟩
 |cont=>obtain⟨Z',H',I,q⟩:=h;exact⟨Z',H',I.unwish,q⟩
 |ret u=>obtain⟨v,Z',H',I,r,q⟩:=h;exact⟨v,Z',H',I.unwish,r,q⟩
theorem PSs.nox{st:List Stmt}{t:TS}(h:PSs X.nox st t):PSs X st t:=λpins s Z H D I hw =>
 wpAny_mono (h pins s Z H D (I.wish _) hw) (λ_ _ q=>q.unwish) λ_ _ z=>False.elim z
end
section
variable {X:Cx}{st:Stmt}{rest:List Stmt}{t u:TS}{e:Expr}{te:TE}{pos:Pos}
def tNext:TS:=λD Z H=>D.nx Z H
def Ez(t u:TS):TS:=λD Z H=>t {D with nx:=u D} Z H
theorem Ca:PSs X [] tNext:=λ_ _ Z H _ I h=>wpAny_execs_nil ⟨Z,H,I,h⟩
theorem A5(h1:PS X st t)(h2:PSs X rest u):PSs X (st::rest) (Ez t u):=by
 intro pins s Z H D I h
 refine wpAny_execs_cons (thn (h1 pins s Z H {D with nx:=u D} I h) λf s1 q=>?_)
 cases f with
 |next =>
  obtain⟨Z',H',I',q⟩:=q
  exact h2 pins s1 Z' H' D I' q
 |ret v=>exact q
 |brk=>exact q
 |cont=>exact q
theorem A9(h1:PS X st t):PSs X [st] t:=by
 intro pins s Z H D I h
 refine wpAny_execs_cons (thn (h1 pins s Z H D I h) λf s1 q=>?_)
 cases f with
 |next=>exact wpAny_execs_nil q
 |ret v=>exact q
 |brk=>exact q
 |cont=>exact q
theorem Inv.quiet{pins:List (Addr×Obj)}{Z:St}{H:Hp}{s:Shared}(I:Inv X pins Z H s):interactive X.env=false:=by simp[interactive,I.ok.kind]
def Dt(te:TE):TS:=λD Z H=>te Z H λ_ H1=>D.nx Z H1
theorem E1(he:PE X e te)(hs:swapsWith e none pos.line X.env=pure false:=by rfl):PS X (.Expr e pos) (Dt te):=by
 intro pins s Z H D I h
 exact wpAny_Expr_any (thn (he pins s Z H _ I h) λv s1 z0=>by obtain⟨x,H1,I1,r1,q1⟩:=z0;exact ⟨Z,H1,I1,q1⟩) I.quiet hs
def Gw(te:TE):TS:=λD Z H=>te Z H D.rt
theorem Bm(he:PE X e te):PS X (.Return (some e) pos) (Gw te):=by
 intro pins s Z H D I h
 exact wpAny_Return_some (thn (he pins s Z H _ I h) λv s1 z0=>by obtain⟨x,H1,I1,r1,q1⟩:=z0;exact ⟨x,Z,H1,I1,r1,q1⟩)
def E5:TS:=λD _ H=>D.rt .non H
def Ha(c:TT)(t u:TS):TS:=λD Z H=>c Z H λb H1=>if b=true then t D Z H1 else u D Z H1
theorem D9{c:Expr}{a b:List Stmt}{tc:TT}(hc:PT X c tc)(ha:PSs X a t)(hb:PSs X b u):PS X (.If c a b pos) (Ha tc t u):=by
 intro pins s Z H D I h
 refine wpAny_If (thn (hc pins s Z H _ I h) λd s1 z0=>?_)
 obtain⟨H1,I1,q1⟩:=z0
 cases d with
 |true=>exact ha pins s1 Z H1 D I1 q1
 |false=>exact hb pins s1 Z H1 D I1 q1
end
abbrev TG:=V->St->Hp->(St->Hp->Prop)->Prop
abbrev TGs:=List V->St->Hp->(St->Hp->Prop)->Prop
def PG(X:Cx)(target:Expr)(t:TG):Prop :=
 ∀(pins:List (Addr×Obj)) (s:Shared) (Z:St) (H:Hp) (v:V) (u:Value) (Q:St->Hp->Prop),Inv X pins Z H s->RelV v u->t v Z H Q ->
  wpAny (model X.prog X.w) X.A (assign target X.env u) (λ_ s'=>∃Z' H',Inv X pins Z' H' s'/\Q Z' H') X.xe s
def PGs(X:Cx)(ts:List Expr)(t:TGs):Prop :=
 ∀(pins:List (Addr×Obj)) (s:Shared) (Z:St) (H:Hp) (vs:List V) (us:List Value) (Q:St->Hp->Prop),Inv X pins Z H s->Vals vs us->t vs Z H Q ->
  wpAny (model X.prog X.w) X.A (assignInOrder ((assignEach ts X.env).map (·.2)) us) (λ_ s'=>∃Z' H',Inv X pins Z' H' s'/\Q Z' H') X.xe s
abbrev TSet:=V->V->V->Hp->(Hp->Prop)->Prop
def gq(X:Cx)(t:TSet):Prop :=
 ∀(pins:List (Addr×Obj)) (s:Shared) (Z:St) (H:Hp) (o i v:V) (ov iv u:Value) (Q:Hp->Prop),Inv X pins Z H s->RelV o ov->RelV i iv->RelV v u->t o i v H Q ->
  wpAny (model X.prog X.w) X.A (setItem ov iv u) (λ_ s'=>∃H',Inv X pins Z H' s'/\Q H') X.xe s
abbrev TIp:=V->V->Hp->VK->Prop
section
variable {X:Cx}{pos:Pos}
def Cj(i:Nat):TG:=λv Z H Q=>Q (Z.set i (some v)) H
theorem Bq{i:Nat}{x:Str}(hN:X.N.Nodup)(hi:X.N[i]?=some x)(hx:Loc X.env.scope x)(hf:X.fn x=true\/X.env.scope.names.lookup x=some .local:=by first | exact .inl rfl | exact .inr rfl | assumption):PG X (.Name x pos) (Cj i):=by
 intro pins s Z H v u Q I r h
 exact wpAny_assign_Name (O7 I hN hi hx r (λs' I'=>⟨_,H,I',h⟩) hf)
def gNil:TGs:=λvs Z H Q=>vs=[]/\Q Z H
def L6(t:TG)(u:TGs):TGs:=λvs Z H Q=>∃v r,vs=v::r/\t v Z H λZ' H'=>u r Z' H' Q
theorem Mo:PGs X [] gNil:=by
 intro pins s Z H vs us Q I r h
 obtain⟨e,h⟩:=h
 subst e
 cases r
 exact assignInOrder_nil ⟨Z,H,I,h⟩
theorem Gf{e:Expr}{es:List Expr}{t:TG}{u:TGs}(h1:PG X e t)(h2:PGs X es u)
  (hs:(assignEach (e::es) X.env).map (·.2)=assign e X.env::(assignEach es X.env).map (·.2):=by rfl):PGs X (e::es) (L6 t u):=by
 intro pins s Z H vs us Q I r h
 obtain⟨v,vr,e1,h⟩:=h
 subst e1
 cases r with
 |cons r rr =>
  rw[hs]
  refine assignInOrder_cons (thn (h1 pins s Z H _ _ _ I r h) λ_ s1 z0=>?_)
  obtain⟨σ1,H1,I1,q1⟩:=z0
  exact h2 pins s1 σ1 H1 _ _ Q I1 rr q1
def Wl(K:Zzx)(n:Nat)(t:TGs):TG:=λv Z H Q=>∃a xs,v=.ref a/\SqT K H a xs/\xs.length=n/\t xs Z H Q
theorem Of{es:List Expr}{k:Nat}{t:TGs}{n:Nat}(hc:X.calm=true)(h:PGs X es t)
  (hn:(assignEach es X.env).length=n:=by rfl) (hst:(assignEach es X.env).findIdx? (·.1)=none:=by rfl):PG X (.Tuple es k pos) (Wl X.K n t):=by
 intro pins s Z H v u Q I r hw
 obtain⟨a,xs,e1,hq,hl,hw⟩:=hw
 subst e1
 cases r
 obtain⟨its,rv,ht,hz⟩:=I.tuple hq
 refine assign_Tuple_tuple (I.ok.hd hc) ht (by simp[hn,<- hl,rv.length]) hst λh' hx=>?_
 have I1:Inv X pins Z H {s with heap:=h'}:=I.kept (t':=s.toks) λb o e=>hx b o (Zxh (Zzc e)) e
 exact h pins _ Z H xs _ Q I1 (by simpa using rv) hw
def Hf(to ti:TE)(t:TSet):TG:=λv Z H Q=>to Z H λo H1=>ti Z H1 λi H2=>t o i v H2 λH3=>Q Z H3
theorem Lv{o i:Expr}{to ti:TE}{t:TSet}(ho:PE X o to)(hi:PE X i ti)(hs:gq X t)
  (ha:∀v,assign (.Subscript o i pos) X.env v=(do
   let ov <- holding [v] (eval o X.env)
   let iv <- holding [v,ov] (eval i X.env)
   standAt pos
   holding [v,ov,iv] (setItem ov iv v)
   release [v,ov,iv] []):=by intro _;rfl):PG X (.Subscript o i pos) (Hf to ti t):=by
 intro pins s Z H v u Q I r h
 rw[ha]
 refine wpAny_bind (wpAny_holding (thn (ho pins s Z H _ I h) λov s1 z0=>?_))
 obtain⟨x,H1,I1,r1,q1⟩:=z0
 refine wpAny_bind (wpAny_holding (thn (hi pins s1 Z H1 _ I1 q1) λiv s2 z0=>?_))
 obtain⟨y,H2,I2,r2,q2⟩:=z0
 refine wpAny_bind (wpAny_standAt (wpAny_bind (wpAny_holding (thn (hs pins s2 Z H2 x y v ov iv u _ I2 r1 r2 r q2) λ_ s3 z0=>?_))))
 obtain⟨H3,I3,q3⟩:=z0
 exact wpAny_release ⟨Z,H3,I3,q3⟩
def Ge(te:TE)(g:TG):TS:=λD Z H=>te Z H λx H1=>g x Z H1 D.nx
theorem Ls{tg e:Expr}{te:TE}{g:TG}(he:PE X e te)(hg:PG X tg g)(hs:swapsWithSole [tg] e pos.line X.env=pure false:=by rfl)(hw:swappedStores [tg] e X.env=pure none:=by rfl)
  (h1:(assignEach [tg] X.env).map (·.2)=[assign tg X.env]:=by rfl):PS X (.Assign [tg] e pos) (Ge te g):=by
 intro pins s Z H D I h
 refine wpAny_Assign_stores (thn (he pins s Z H _ I h) λv s1 ⟨x,H1,I1,r1,q1⟩=>?_) hs hw
 rw[h1]
 exact thn (hg pins s1 Z H1 x v _ I1 r1 q1) λ_ s2 q=>q
theorem Bs{i:Nat}{x:Str}{e:Expr}{te:TE}{pos':Pos}(hN:X.N.Nodup)(hi:X.N[i]?=some x)(hx:Loc X.env.scope x)(he:PE X e te)(hs:swapsWith e (some (.Name x pos')) pos.line X.env=pure false:=by rfl)(hf:X.fn x=true\/X.env.scope.names.lookup x=some .local:=by first | exact .inl rfl | exact .inr rfl | assumption) :
  PS X (.Assign [.Name x pos'] e pos) (Ge te (Cj i)):=by
 intro pins s Z H D I h
 refine wpAny_Assign_Name (thn (he pins s Z H _ I h) λv s1 ⟨y,H1,I1,r1,q1⟩=>?_) hs
 exact O7 I1 hN hi hx r1 (λs2 I2=>⟨_,H1,I2,q1⟩) hf
def Hi(i:Nat)(te:TE)(ti:TIp):TS:=λD Z H=>∃x,Z[i]?=some (some x)/\te Z H λy H1=>ti x y H1 λz H2=>D.nx (Z.set i (some z)) H2
def Ec(to ti te:TE)(tget:V->V->Hp->VK->Prop)(tip:TIp)(tset:TSet):TS:=λD Z H=>to Z H λo H1=>ti Z H1 λi H2=>tget o i H2 λx H3=>te Z H3 λy H4=>tip x y H4 λz H5=>tset o i z H5 λH6=>D.nx Z H6
end
section
variable {X:Cx}{pos:Pos}
end
structure It where
 go:Nat->Hp->Prop
 yld:Nat->Hp->V->Hp->Prop
 stop:Nat->Hp->Prop
def Lj(X:Cx)(pins:List (Addr×Obj))(H:Hp)(b:Addr):Prop :=
 H b=none/\b≠X.env.locals/\b∉X.fs/\(b∈X.ex\/X.s₀.heap.objs.size<=b)/\(∀x c,X.env.cells.lookup x=some c->c≠b)/\∀p∈X.pn++pins,p.1≠b
theorem Inv.fpOk{X:Cx}{pins:List (Addr×Obj)}{Z:St}{H H':Hp}{s:Shared}{b:Addr}(I:Inv X pins Z H s)(hb:s.heap.objs.size<=b)(hn:H' b=none):Lj X pins H' b:=by
 refine⟨hn,Nat.ne_of_gt (Zzd I.lt hb),I.nofs hb,.inr (Zyu I.sz hb),λx c e z=>?_,λp hp z=>?_⟩
 ·obtain⟨v,q⟩:=I.cell x c e
  exact absurd (Zzd q.lt (by rw[z];exact hb)) (Zwm _)
 ·exact absurd (Zzd (Zzc (I.pin p hp).1) (by rw[z];exact hb)) (Zwm _)
structure P5(P:Program)(w:World)(K:Zzx)(tg:Expr)(J:It)(fp:List Addr)(it:Addr)(tn:Nat->Heap->Prop):Prop where
 mem:it∈fp
 obj:∀i h,tn i h->∀b∈fp,∃o,h.get? b=some o/\∀v,o.data≠.cell v
 keep:∀i h h',tn i h->(∀b∈fp,∀o,h.get? b=some o->h'.get? b=some o)->tn i h'
 item:∀(X:Cx),X.prog=P->X.w=w->X.K=K->X.calm=true->∀(i:Nat) (pins:List (Addr×Obj)) (s:Shared) (Z:St) (H:Hp) (E:Value->Shared->Prop),Inv X pins Z H s->(∀b∈fp,Lj X pins H b)->tn i s.heap->J.go i H ->
  wpAny (model P w) X.A (pyNext (.ref it)) (λr s1=>∃u,r=some u /\
   wpAny (model P w) X.A (letOwnedTupleGo tg (.ref it) u) (λ_ s2=>∃x H',Inv X pins Z H' s2/\RelV x u/\J.yld i H x H'/\tn (i+1) s2.heap/\∀b∈fp,H' b=none) E s1) E s
 done:∀(X:Cx),X.prog=P->X.w=w->X.K=K->X.calm=true->∀(i:Nat) (pins:List (Addr×Obj)) (s:Shared) (Z:St) (H:Hp) (E:Value->Shared->Prop),Inv X pins Z H s->(∀b∈fp,Lj X pins H b)->tn i s.heap->J.stop i H ->
  wpAny (model P w) X.A (pyNext (.ref it)) (λr s1=>r=none/\Inv X pins Z H s1) E s
 self:∀(A:Around) (i:Nat) (s:Shared) (Q:Value->Shared->Prop) (E:Value->Shared->Prop),tn i s.heap->Q (.ref it) s->wpAny (model P w) A (pyIter (.ref it)) Q E s
abbrev TI:=St->Hp->(It->Hp->Prop)->Prop
def PIE(X:Cx)(pins:List (Addr×Obj))(Z:St)(tg:Expr)(R:It->Hp->Prop)(itv:Value)(s2:Shared):Prop :=
 ∃(it:Addr) (fp:List Addr) (tn:Nat->Heap->Prop) (J:It) (H':Hp),itv=.ref it/\Inv X pins Z H' s2/\P5 X.prog X.w X.K tg J fp it tn/\tn 0 s2.heap/\(∀b∈fp,Lj X pins H' b)/\R J H'
def PI(X:Cx)(tg iter:Expr)(wi:TI):Prop :=
 ∀(pins:List (Addr×Obj)) (s:Shared) (Z:St) (H:Hp) (R:It->Hp->Prop),Inv X pins Z H s->wi Z H R ->
  wpAny (model X.prog X.w) X.A (eval iter X.env) (λv s1=>wpAny (model X.prog X.w) X.A (pyIter v) (PIE X pins Z tg R) X.xe s1) X.xe s
theorem Vl{M:Model}{A:Around}{E:Value->Shared->Prop}{s:Shared}{tg:Expr}{it:Addr}{u:Value}{o:Obj}{n:String}{vs:Array Value}{Q:Unit->Shared->Prop}(ho:s.heap.get? it=some o)(hc:o.cls=.type n)(hd:o.data=.fields vs)
  (hn:["enumerate", "zip", "dict_itemiterator", "dict_reverseitemiterator", "odict_iterator", "itertools.zip_longest", "itertools.pairwise"].contains n=false) (hQ:Q () s):wpAny M A (letOwnedTupleGo tg (.ref it) u) Q E s:=by
 unfold letOwnedTupleGo
 cases tg<;>first
  |exact wpAny_pure hQ
  | (cases u<;>first
    |exact wpAny_pure hQ
    | (refine wpAny_bind (wpAny_load ho ?_)
       rw[hc,hd]
       show wpAny M A (if (["enumerate", "zip", "dict_itemiterator", "dict_reverseitemiterator", "odict_iterator", "itertools.zip_longest", "itertools.pairwise"].contains n&&vs[0]? == some (rawInt _))=true then _ else _) Q E s
       rw[if_neg (by intro h;rw[hn,Zyt] at h;cases h)]
       exact wpAny_pure hQ))
def Itl(K:Zzx)(a:Addr):It :=
 ⟨λi H=>∃xs x,SqL K H a xs/\xs[i]?=some x,λi H x H'=>H'=H/\∀xs,SqL K H a xs->xs[i]?=some x,λi H=>∃xs,SqL K H a xs/\xs.length<=i⟩
def Itt(K:Zzx)(a:Addr):It :=
 ⟨λi H=>∃xs x,SqT K H a xs/\xs[i]?=some x,λi H x H'=>H'=H/\∀xs,SqT K H a xs->xs[i]?=some x,λi H=>∃xs,SqT K H a xs/\xs.length<=i⟩
def Itr(lo:Int)(n:Nat):It:=⟨λi _=>i<n,λi H x H'=>H'=H/\x=.int (lo+i),λi _=>n<=i⟩
theorem Jd{P:Program}{w:World}{K:Zzx}{tg:Expr}(a it:Addr):P5 P w K tg (Itl K a) [it] it (λi h=>h.IsListIter it a i) where
 mem:=by simp
 obj:=λi h st b hb=>by
  have e:b=it:=by simpa using hb
  subst e
  obtain⟨o,e,c,d⟩:=st
  exact⟨o,e,λv z=>by rw[d] at z;cases z⟩
 keep:=λi h h' st k=>st.at λo e=>k it (by simp) o e
 item:=by
  intro X hP hw hK hc i pins s Z H E I hf st hg
  subst hP hw hK
  obtain⟨xs,x,hq,hx⟩:=hg
  obtain⟨its,rv,p,hz⟩:=I.list hq
  obtain⟨u,hu,ru⟩:=rv.get hx
  obtain⟨f0,f1,f2,f3,f4,f5⟩:=hf it (by simp)
  refine wpAny_pyNext_list_item st p.isList (x:=u) (by simpa using hu) λh' st' sb=>?_
  have I1:Inv X pins Z H {s with heap:=h'}:=I.turned (t':=s.toks) (λb o hb e=>(sb.2 b hb).trans e) f0 f1 f3 f4 f5
  obtain⟨o,e,c,d⟩:=id st'
  exact⟨u,rfl,Vl (s:={s with heap:=h'}) e c d (by decide) ⟨x,H,I1,ru,⟨rfl,λys hy=>by rw[I.list_inj hy hq];exact hx⟩,st',λb hb=>(hf b hb).1⟩⟩
 done:=by
  intro X hP hw hK hc i pins s Z H E I hf st hg
  subst hP hw hK
  obtain⟨xs,hq,hx⟩:=hg
  obtain⟨its,rv,p,hz⟩:=I.list hq
  obtain⟨f0,f1,f2,f3,f4,f5⟩:=hf it (by simp)
  have hl:=rv.length
  exact wpAny_pyNext_list_end (I.ok.hd hc) st p.isList (by simp;omega) λh' eb=>⟨rfl,I.turned (t':=s.toks) (λb o hb e=>eb b o hb e) f0 f1 f3 f4 f5⟩
 self:=λ_ _ _ _ _ st h=>wpAny_pyIter_listiter st h
theorem Jc{P:Program}{w:World}{K:Zzx}{tg:Expr}(a it:Addr):P5 P w K tg (Itt K a) [it] it (λi h=>h.IsTupleIter it a i) where
 mem:=by simp
 obj:=λi h st b hb=>by
  have e:b=it:=by simpa using hb
  subst e
  obtain⟨o,e,c,d⟩:=st
  exact⟨o,e,λv z=>by rw[d] at z;cases z⟩
 keep:=λi h h' st k=>st.at λo e=>k it (by simp) o e
 item:=by
  intro X hP hw hK hc i pins s Z H E I hf st hg
  subst hP hw hK
  obtain⟨xs,x,hq,hx⟩:=hg
  obtain⟨its,rv,p,hz⟩:=I.tuple hq
  obtain⟨u,hu,ru⟩:=rv.get hx
  obtain⟨f0,f1,f2,f3,f4,f5⟩:=hf it (by simp)
  refine wpAny_pyNext_tuple_item st (show s.heap.IsTuple a its.toArray from p) (x:=u) (by simpa using hu) λh' st' sb=>?_
  have I1:Inv X pins Z H {s with heap:=h'}:=I.turned (t':=s.toks) (λb o hb e=>(sb.2 b hb).trans e) f0 f1 f3 f4 f5
  obtain⟨o,e,c,d⟩:=id st'
  exact⟨u,rfl,Vl (s:={s with heap:=h'}) e c d (by decide) ⟨x,H,I1,ru,⟨rfl,λys hy=>by rw[I.tuple_inj hy hq];exact hx⟩,st',λb hb=>(hf b hb).1⟩⟩
 done:=by
  intro X hP hw hK hc i pins s Z H E I hf st hg
  subst hP hw hK
  obtain⟨xs,hq,hx⟩:=hg
  obtain⟨its,rv,p,hz⟩:=I.tuple hq
  obtain⟨f0,f1,f2,f3,f4,f5⟩:=hf it (by simp)
  have hl:=rv.length
  exact wpAny_pyNext_tuple_end (I.ok.hd hc) st (show s.heap.IsTuple a its.toArray from p) (by simp;omega) λh' eb=>⟨rfl,I.turned (t':=s.toks) (λb o hb e=>eb b o hb e) f0 f1 f3 f4 f5⟩
 self:=λ_ _ _ _ _ st h=>wpAny_pyIter_tupleiter st h
theorem Tx{P:Program}{w:World}{K:Zzx}{tg:Expr}(it:Addr)(lo:Int)(n:Nat):P5 P w K tg (Itr lo n) [it] it (λi h=>IsRangeIter h it (lo+(i:Nat)*1) ((n:Int) - (i:Nat)) 1) where
 mem:=by simp
 obj:=λi h st b hb=>by
  have e:b=it:=by simpa using hb
  subst e
  exact⟨_,st,λv z=>by
   have z':Data.fields _=Data.cell v:=z
   cases z'⟩
 keep:=λi h h' st k=>k it (by simp) _ st
 item:=by
  intro X hP hw hK hc i pins s Z H E I hf st hg
  subst hP hw hK
  obtain⟨f0,f1,f2,f3,f4,f5⟩:=hf it (by simp)
  have W:=Walks.range (prog:=X.prog) (w:=X.w) (I.ok.hd hc) it lo 1 n
  refine W.item i s _ _ hg st λv h' tk hv st' kk=>?_
  obtain⟨t,rfl⟩:=hv
  have I1:Inv X pins Z H {s with heap:=h',toks:=tk}:=I.turned (λb o hb e=>kk b o (by simpa using hb) e) f0 f1 f3 f4 f5
  refine⟨_,rfl,Vl (s:={s with heap:=h',toks:=tk}) (n := "range_iterator") st' rfl rfl (by decide) ⟨.int (lo+i),H,I1,⟨t,?_⟩,⟨rfl,rfl⟩,st',λb hb=>(hf b hb).1⟩⟩
  rw[Int.mul_one]
 done:=by
  intro X hP hw hK hc i pins s Z H E I hf st hg
  subst hP hw hK
  obtain⟨f0,f1,f2,f3,f4,f5⟩:=hf it (by simp)
  exact wpAny_pyNext_range_end (I.ok.hd hc) st (by have:n<=i:=hg;omega) λh' eb=>⟨rfl,I.turned (t':=s.toks) (λb o hb e=>eb b o hb e) f0 f1 f3 f4 f5⟩
 self:=λ_ _ _ _ _ st h=>wpAny_pyIter_rangeiter st h
section
variable {X:Cx}{tg:Expr}
def bn(K:Zzx)(tl:TE):TI:=λZ H R=>tl Z H λx H1=>∃a,x=.ref a/\(∃xs,SqL K H1 a xs)/\R (Itl K a) H1
theorem Zb{l:Expr}{tl:TE}(hl:PE X l tl):PI X tg l (bn X.K tl):=by
 intro pins s Z H R I h
 refine thn (hl pins s Z H _ I h) λv s1 z0=>?_
 obtain⟨x,H1,I1,r1,q1⟩:=z0
 obtain⟨a,e,⟨xs,hq⟩,q⟩:=q1
 subst e
 cases r1
 obtain⟨its,rv,p,hz⟩:=I1.list hq
 refine wpAny_pyIter_list p.isList ?_
 refine⟨s1.heap.objs.size,[s1.heap.objs.size],_,_,H1,rfl,I1.kept (t':=s1.toks) λb o e=>Zzj _ e,Jd a _,⟨_,Zyn _ rfl,rfl,rfl⟩,λb hb=>?_,q⟩
 have e:b=s1.heap.objs.size:=by simpa using hb
 subst e
 exact I1.fpOk (Zzt _) (I1.hok.fresh (Zzt _))
theorem Xf{pins:List (Addr×Obj)}{Z:St}{H:Hp}{s:Shared}{R:It->Hp->Prop}{E:Value->Shared->Prop}{lo hi:Int}{t u v:Tok}{tk:Nat}(I:Inv X pins Z H s)(h1:-(2^62)<=lo)(h2:lo<2^62)(h3:-(2^62)<=hi)(h4:hi<2^62)
  (q:R (Itr lo (hi - lo).toNat) H):wpAny (model X.prog X.w) X.A (pyIter (.ref s.heap.objs.size)) (PIE X pins Z tg R) E {s with heap:=s.heap.push {cls:=.type "range",data:=.fields #[.int lo t,.int hi u,.int 1 v]},toks:=tk}:=by
 refine wpAny_pyIter_range (IsRange.new ..) (small_one h1 h2 h3 h4) ?_
 have I1:Inv X pins Z H {s with heap:=s.heap.push {cls:=.type "range",data:=.fields #[.int lo t,.int hi u,.int 1 v]},toks:=tk}:=I.kept λb o e=>Zzj _ e
 refine⟨(s.heap.push {cls:=.type "range",data:=.fields #[.int lo t,.int hi u,.int 1 v]}).objs.size,[(s.heap.push {cls:=.type "range",data:=.fields #[.int lo t,.int hi u,.int 1 v]}).objs.size],_,_,H,rfl,
  I1.kept (t':=tk) λb o e=>Zzj _ e,Tx _ lo (hi - lo).toNat,?_,λb hb=>?_,q⟩
 ·have e1:lo+((0:Nat):Int)*1=lo:=by simp
  have e2:(((hi - lo).toNat:Nat):Int) - ((0:Nat):Int)=Builtin.Range.rangeSize lo hi 1:=by rw[rangeSize_one];split<;>omega
  show IsRangeIter _ _ (lo+((0:Nat):Int)*1) ((((hi - lo).toNat:Nat):Int) - ((0:Nat):Int)) 1
  rw[e1,e2]
  exact Zyn _ rfl
 ·have e:b=(s.heap.push {cls:=.type "range",data:=.fields #[.int lo t,.int hi u,.int 1 v]}).objs.size:=by simpa using hb
  subst e
  exact I1.fpOk (Zzt _) (I1.hok.fresh (Zzt _))
def Dn(ta:TA):TI:=λZ H R=>ta Z H λvs H1=>∃j:Int,vs=[.int j]/\-(2^62)<=j/\j<2^62/\R (Itr 0 j.toNat) H1
def Et(ta:TA):TI:=λZ H R=>ta Z H λvs H1=>∃i j:Int,vs=[.int i,.int j]/\(-(2^62)<=i/\i<2^62/\-(2^62)<=j/\j<2^62)/\R (Itr i (j - i).toNat) H1
theorem W2{a:Expr}{ta:TA}{p pos:Pos}(hg:Gl X "range")(hm:X.mg "range" = none)(ha:PA X [a] ta)(hs:starEach [a] X.env=[(false,eval a X.env)]:=by rfl):PI X tg (.Call (.Name "range" p) [a] [] pos) (Dn ta):=by
 intro pins s Z H R I h
 refine Call_ (Nb I hg hm boot_range (Zx0 (thn (ha pos pins s Z H _ I h) λus s1 ⟨vs,H1,I1,r1,q1⟩=>?_) hs rfl))
 obtain⟨j,e,q1,q2,q⟩:=q1
 subst e
 cases r1 with
 |cons r rr =>
  cases rr
  obtain⟨t,rfl⟩:=r
  exact call_range_1 (Xf I1 (by omega) (by omega) q1 q2 (by simpa using q))
def fb(wi:TI)(g:TG)(tb:TS):TS:=λD Z H=>wi Z H λJ H1=>∃W:Nat->Nat->St->Hp->Prop,(∃m,W 0 m Z H1)/\∀i m Z H,W i m Z H ->
 (J.stop i H/\D.nx Z H)\/(J.go i H/\∃N:St->Hp->Prop,(∀Z' H',N Z' H'->∃m',m'<m/\W (i+1) m' Z' H')/\∀x H',J.yld i H x H'->g x Z H' λσ2 H2=>tb {D with nx:=N,ct:=N,bk:=D.nx} σ2 H2)
def Lu(fp:List Addr)(h:Heap):List (Addr×Obj):=fp.filterMap λb=>(h.get? b).map λo=>(b,o)
theorem Jn{fp:List Addr}{h:Heap}{b:Addr}{o:Obj}(hb:b∈fp)(e:h.get? b=some o):(b,o)∈Lu fp h:=Zvf.mpr ⟨b,hb,by rw[e];rfl⟩
theorem W6{fp:List Addr}{h:Heap}{p:Addr×Obj}(hp:p∈Lu fp h):p.1∈fp/\h.get? p.1=some p.2:=by
 obtain⟨b,hb,e⟩:=Zvf.mp hp
 cases q:h.get? b with
 |none=>rw[q] at e;cases e
 |some o =>
  rw[q] at e
  have e':(b,o)=p:=Zyk e
  subst e'
  exact⟨hb,q⟩
theorem Inv.pinned{pins:List (Addr×Obj)}{Z:St}{H:Hp}{s:Shared}{fp:List Addr}(I:Inv X pins Z H s)(hf:∀b∈fp,Lj X pins H b)(ho:∀b∈fp,∃o,s.heap.get? b=some o/\∀v,o.data≠.cell v):Inv X (pins++Lu fp s.heap) Z H s :=
 I.pins_of λp hp=>(Zyq.mp hp).elim (λz=>I.pin p (Zzl _ z)) λz=>by
  obtain⟨hb,e⟩:=W6 z
  obtain⟨f0,f1,f2,_⟩:=hf p.1 hb
  obtain⟨o,e',d⟩:=ho p.1 hb
  rw[e] at e';cases e'
  exact⟨e,f0,f1,f2,d⟩
theorem Inv.unpinned{pins pl:List (Addr×Obj)}{Z:St}{H:Hp}{s:Shared}(I:Inv X (pins++pl) Z H s):Inv X pins Z H s:=I.pins_of λp hp=>I.pin p (Zzl _ (Zxz _ hp))
theorem Jw{iter:Expr}{body:List Stmt}{wi:TI}{g:TG}{tb:TS}{pos:Pos}(hp:PassesOwn (model X.prog X.w) X.A X.env X.xe)(hc:X.calm=true)(hi:PI X tg iter wi)(hg:PG X tg g)(hb:PSs X body tb)
  (hs:∀x,foldedSetIterable iter X.env x=pure x:=by intro _;rfl):PS X (.For tg iter body [] pos) (fb wi g tb):=by
 intro pins s Z H D I h
 refine wpAny_For (thn (hi pins s Z H _ I h) λv s1 h1=>thn h1 λitv s2 h2=>?_) hs
 obtain⟨it,fp,tn,J,H2,e,I2,T,st2,f2,W,⟨m0,w0⟩,turn⟩:=h2
 subst e
 have stat:∀{H':Hp},(∀b∈fp,H' b=none)->∀b∈fp,Lj X pins H' b:=λhn b hb=>⟨hn b hb,(f2 b hb).2⟩
 refine codeAny_forLoop_any (λn s'=>∃i Z' H',Inv X pins Z' H' s'/\tn i s'.heap/\(∀b∈fp,H' b=none)/\W i n Z' H') ?_ m0 ⟨0,Z,H2,I2,st2,λb hb=>(f2 b hb).1,w0⟩
 rintro n s3 ⟨i,σ3,H3,I3,st3,fr3,w3⟩
 rcases turn i n σ3 H3 w3 with ⟨stop,qn⟩ | ⟨go,N,hN,step⟩
 ·refine wpAny_passesOwn hp (thn (T.done X rfl rfl rfl hc i pins s3 σ3 H3 X.xe I3 (stat fr3) st3 stop) λr s4 z0=>?_)
  obtain⟨hr,I4⟩:=z0
  subst hr
  exact wpAny_execs_nil ⟨σ3,H3,I4,qn⟩
 ·refine wpAny_passesOwn hp (thn (T.item X rfl rfl rfl hc i pins s3 σ3 H3 X.xe I3 (stat fr3) st3 go) λr s4 z0=>?_)
  obtain⟨u,hr,h4⟩:=z0
  subst hr
  refine wpAny_passesOwn hp (thn h4 λ_ s5 z0=>?_)
  obtain⟨x,H5,I5,r5,y5,st5,fr5⟩:=z0
  have I5':=I5.pinned (stat fr5) (T.obj _ _ st5)
  refine wpAny_passesOwn hp (thn (hg _ s5 σ3 H5 x u _ I5' r5 (step x H5 y5)) λ_ s6 z0=>?_)
  obtain⟨σ6,H6,I6,q6⟩:=z0
  refine wpAny_passesOwn hp (thn (hb _ s6 σ6 H6 _ I6 q6) λf s7 q7=>?_)
  have again:∀{σ7:St} {H7:Hp},Inv X (pins++Lu fp s5.heap) σ7 H7 s7->N σ7 H7->∃m,m<n/\∃i Z' H',Inv X pins Z' H' s7/\tn i s7.heap/\(∀b∈fp,H' b=none)/\W i m Z' H':=λ{σ7 H7} I7 n7=>by
   obtain⟨m',hm,w7⟩:=hN σ7 H7 n7
   refine⟨m',hm,i+1,σ7,H7,I7.unpinned,T.keep _ _ _ st5 λb hb o e=>(I7.pin (b,o) (Zzl _ (Zzl _ (Jn hb e)))).1,λb hb=>?_,w7⟩
   obtain⟨o,e,d⟩:=T.obj _ _ st5 b hb
   exact(I7.pin (b,o) (Zzl _ (Zzl _ (Jn hb e)))).2.1
  cases f with
  |next=>obtain⟨σ7,H7,I7,n7⟩:=q7;exact again I7 n7
  |cont=>obtain⟨σ7,H7,I7,n7⟩:=q7;exact again I7 n7
  |brk=>obtain⟨σ7,H7,I7,q7⟩:=q7;exact⟨σ7,H7,I7.unpinned,q7⟩
  |ret v=>obtain⟨x7,σ7,H7,I7,r7,q7⟩:=q7;exact⟨x7,σ7,H7,I7.unpinned,r7,q7⟩
end
theorem Ye{K:Zzx}{a:Addr}{xs:List V}{g:TG}{tb:TS}{D:Ends}{Z:St}{H:Hp}(Pv:Nat->St->Hp->Prop)(h0:Pv 0 Z H)(hl:∀i Z H,i<=xs.length->Pv i Z H->SqL K H a xs)
  (hs:∀i x Z H,xs[i]?=some x->Pv i Z H->g x Z H λσ2 H2=>tb {D with nx:=Pv (i+1),ct:=Pv (i+1),bk:=D.nx} σ2 H2) (hd:∀Z H,Pv xs.length Z H->D.nx Z H) :
  ∃W:Nat->Nat->St->Hp->Prop,(∃m,W 0 m Z H)/\∀i m Z H,W i m Z H ->
   ((Itl K a).stop i H/\D.nx Z H)\/((Itl K a).go i H/\∃N:St->Hp->Prop,(∀Z' H',N Z' H'->∃m',m'<m/\W (i+1) m' Z' H')/\∀x H',(Itl K a).yld i H x H'->g x Z H' λσ2 H2=>tb {D with nx:=N,ct:=N,bk:=D.nx} σ2 H2):=by
 refine⟨λi m Z H=>m=xs.length - i/\i<=xs.length/\Pv i Z H,⟨xs.length,by simp,Zwt _,h0⟩,?_⟩
 rintro i m Z H ⟨rfl,hi,p⟩
 have q:=hl i Z H hi p
 by_cases hlt:i<xs.length
 ·refine .inr ⟨⟨xs,xs[i],q,by simp[hlt]⟩,Pv (i+1),λZ' H' p'=>⟨xs.length - (i+1),by omega,rfl,hlt,p'⟩,λx H' y=>?_⟩
  obtain⟨e,y⟩:=y
  subst e
  exact hs i x Z _ (y xs q) p
 ·have e:i=xs.length:=by omega
  subst e
  exact .inl ⟨⟨xs,q,Zzt _⟩,hd Z H p⟩
abbrev R2:=V->V->Hp->VK->Prop
def OpR(X:Cx)(f:Value->Value->Sem Value)(r:R2):Prop :=
 ∀(pins:List (Addr×Obj)) (s:Shared) (Z:St) (H:Hp) (x y:V) (v u:Value) (Q:VK),Inv X pins Z H s->RelV x v->RelV y u->r x y H Q ->
  wpAny (model X.prog X.w) X.A (f v u) (EP X pins Z Q) X.xe s
def UnR(X:Cx)(f:Value->Sem Value)(r:V->Hp->VK->Prop):Prop :=
 ∀(pins:List (Addr×Obj)) (s:Shared) (Z:St) (H:Hp) (x:V) (v:Value) (Q:VK),Inv X pins Z H s->RelV x v->r x H Q ->
  wpAny (model X.prog X.w) X.A (f v) (EP X pins Z Q) X.xe s
def CallR(X:Cx)(f:Value)(r:List V->Hp->VK->Prop):Prop :=
 ∀(pins:List (Addr×Obj)) (s:Shared) (Z:St) (H:Hp) (xs:List V) (us:List Value) (Q:VK),Inv X pins Z H s->Vals xs us->r xs H Q ->
  wpAny (model X.prog X.w) X.A (call f us) (EP X pins Z Q) X.xe s
def tOp(r:R2)(ta tb:TE):TE:=λZ H Q=>ta Z H λx H1=>tb Z H1 λy H2=>r x y H2 Q
def tUn(r:V->Hp->VK->Prop)(ta:TE):TE:=λZ H Q=>ta Z H λx H1=>r x H1 Q
def rI(C:Int->Int->Prop)(g:Int->Int->V):R2:=λx y H Q=>∃i j,x=.int i/\y=.int j/\C i j/\Q (g i j) H
def rI0(g:Int->Int->V):R2:=λx y H Q=>∃i j,x=.int i/\y=.int j/\Q (g i j) H
def rU(g:Int->V):V->Hp->VK->Prop:=λx H Q=>∃i,x=.int i/\Q (g i) H
section
variable {X:Cx}{a b c:Expr}{ta tb tc:TE}{pos:Pos}
theorem dq(ha:PE X a ta)(hb:PE X b tb){pins:List (Addr×Obj)}{s:Shared}{Z:St}{H:Hp}{R:V->V->Hp->Prop}(I:Inv X pins Z H s)
  (h:ta Z H λx H1=>tb Z H1 λy H2=>R x y H2) {Q:Value->Shared->Prop} {f:Value->Value->Sem Value}
  (hf:∀v u s2 x y H2,Inv X pins Z H2 s2->RelV x v->RelV y u->R x y H2->wpAny (model X.prog X.w) X.A (f v u) Q X.xe s2) :
  wpAny (model X.prog X.w) X.A (eval a X.env) (λv s₁=>wpAny (model X.prog X.w) X.A (eval b X.env) (λu s₂=>wpAny (model X.prog X.w) X.A (f v u) Q X.xe s₂) X.xe s₁) X.xe s:=by
 refine thn (ha pins s Z H _ I h) λv s1 z0=>?_
 obtain⟨x,H1,I1,r1,q1⟩:=z0
 refine thn (hb pins s1 Z H1 _ I1 q1) λu s2 z0=>?_
 obtain⟨y,H2,I2,r2,q2⟩:=z0
 exact hf v u s2 x y H2 I2 r1 r2 q2
theorem Bk{op:Operator}{r:R2}(ho:OpR X (binaryOp op) r)(ha:PE X a ta)(hb:PE X b tb):PE X (.BinOp a op b pos) (tOp r ta tb):=by
 intro pins s Z H Q I h
 exact wpAny_BinOp (dq ha hb I h λv u s2 x y H2 I2 rx ry q=>ho pins s2 Z H2 x y v u Q I2 rx ry q)
theorem Ve{op:UnaryOp}{r:V->Hp->VK->Prop}(ho:UnR X (unaryOp op) r)(ha:PE X a ta):PE X (.UnaryOp op a pos) (tUn r ta):=by
 intro pins s Z H Q I h
 exact UnaryOp_ (thn (ha pins s Z H _ I h) λv s1 z0=>by obtain⟨x,H1,I1,r1,q1⟩:=z0;exact ho pins s1 Z H1 x v Q I1 r1 q1)
theorem opI{f:Value->Value->Sem Value}{C:Int->Int->Prop}{g:Int->Int->Int}
  (rule:∀(i j:Int) (t u:Tok) (s:Shared) (Q:Value->Shared->Prop) (E:Value->Shared->Prop),C i j->Q (.int (g i j) s.toks) {s with toks:=s.toks+1}->wpAny (model X.prog X.w) X.A (f (.int i t) (.int j u)) Q E s) :
  OpR X f (rI C λi j=>.int (g i j)):=by
 intro pins s Z H x y v u Q I rx ry h
 obtain⟨i,j,rfl,rfl,hc,q⟩:=h
 obtain⟨t,rfl⟩:=rx
 obtain⟨t',rfl⟩:=ry
 exact rule i j t t' s _ _ hc ⟨.int (g i j),H,I.tok _,⟨_,rfl⟩,q⟩
theorem g6{f:Value->Value->Sem Value}{g:Int->Int->Int}
  (rule:∀(i j:Int) (t u:Tok) (s:Shared) (Q:Value->Shared->Prop) (E:Value->Shared->Prop),Q (.int (g i j) s.toks) {s with toks:=s.toks+1}->wpAny (model X.prog X.w) X.A (f (.int i t) (.int j u)) Q E s) :
  OpR X f (rI0 λi j=>.int (g i j)):=by
 intro pins s Z H x y v u Q I rx ry h
 obtain⟨i,j,rfl,rfl,q⟩:=h
 obtain⟨t,rfl⟩:=rx
 obtain⟨t',rfl⟩:=ry
 exact rule i j t t' s _ _ ⟨.int (g i j),H,I.tok _,⟨_,rfl⟩,q⟩
theorem Zl{f:Value->Value->Sem Value}{g:Int->Int->Bool}
  (rule:∀(i j:Int) (t u:Tok) (s:Shared) (Q:Value->Shared->Prop) (E:Value->Shared->Prop),Q (.bool (g i j)) s->wpAny (model X.prog X.w) X.A (f (.int i t) (.int j u)) Q E s) :
  OpR X f (rI0 λi j=>.bl (g i j)):=by
 intro pins s Z H x y v u Q I rx ry h
 obtain⟨i,j,rfl,rfl,q⟩:=h
 obtain⟨t,rfl⟩:=rx
 obtain⟨t',rfl⟩:=ry
 exact rule i j t t' s _ _ ⟨.bl (g i j),H,I,rfl,q⟩
def CPow(i j:Int):Prop:=0<=j/\j<=1000000/\i.natAbs<2^64
def CMul(i j:Int):Prop:=(-(2^64)<i/\i<2^64)\/(-(2^64)<j/\j<2^64)
theorem CMul.ok{i j:Int}(h:CMul i j):IntMulOk i j:=by
 rcases h with ⟨h1,h2⟩ | ⟨h1,h2⟩
 ·exact .of_left (intBits_le_64 h1 h2)
 ·exact .of_right (intBits_le_64 h1 h2)
theorem Fr:OpR X (binaryOp .Add) (rI0 λi j=>.int (i+j)):=g6 λ_ _ _ _ _ _ _ q=>add_int q
theorem U9:OpR X (binaryOp .Sub) (rI0 λi j=>.int (i - j)):=g6 λ_ _ _ _ _ _ _ q=>sub_int q
theorem Ub:OpR X (binaryOp .Mult) (rI CMul λi j=>.int (i*j)):=opI λ_ _ _ _ _ _ _ hc q=>mul_int q hc.ok
theorem Fa:OpR X (binaryOp .Mod) (rI (λ_ j=>0<j) λi j=>.int (i % j)):=opI λi j _ _ _ _ _ hc q=>by
 have h1:(0:Int)<j:=hc
 exact mod_int' (by omega) (by rw[Int.fmod_eq_emod_of_nonneg i (by omega)];exact q)
theorem Rc:OpR X (binaryOp .Pow) (rI CPow λi j=>.int (i^j.toNat)):=opI λ_ _ _ _ _ _ _ hc q=>pow_int_small hc.1 hc.2.1 hc.2.2 q
theorem unI{f:Value->Sem Value}{g:Int->Int}
  (rule:∀(i:Int) (t:Tok) (s:Shared) (Q:Value->Shared->Prop) (E:Value->Shared->Prop),Q (.int (g i) s.toks) {s with toks:=s.toks+1}->wpAny (model X.prog X.w) X.A (f (.int i t)) Q E s) :
  UnR X f (rU λi=>.int (g i)):=by
 intro pins s Z H x v Q I rx h
 obtain⟨i,rfl,q⟩:=h
 obtain⟨t,rfl⟩:=rx
 exact rule i t s _ _ ⟨.int (g i),H,I.tok _,⟨_,rfl⟩,q⟩
theorem Qo:UnR X (unaryOp .USub) (rU λi=>.int (-i)):=unI λ_ _ _ _ _ q=>neg_int q
end
def Z7:V->V->Bool
 |.non,.non=>true | .non,.int _=>true | .int _,.non=>true | .non,.bl _=>true | .bl _,.non=>true | .non,.str _=>true | .str _,.non=>true
 |.int _,.int _=>true | .bl _,.bl _=>true | .str _,.str _=>true | .byt _,.byt _=>true
 |.int _,.str _=>true | .str _,.int _=>true | .bl _,.str _=>true | .str _,.bl _=>true
 |_,_=>false
def rEq:R2:=λx y H Q=>Z7 x y=true/\Q (.bl (decide (x=y))) H
def rNe:R2:=λx y H Q=>Z7 x y=true/\Q (.bl (!decide (x=y))) H
theorem Vo{i j:Int}:decide (V.int i=V.int j)=(i == j):=by
 rw[Zwa]
 simp
theorem Yl{i j:Bool}:decide (V.bl i=V.bl j)=(i == j):=by
 rw[Zwa]
 simp
theorem Vn{i j:Str}:decide (V.str i=V.str j)=(i == j):=by
 rw[Zwa]
 simp
theorem Vp{i j:Array UInt8}:decide (V.byt i=V.byt j)=(i.toList == j.toList):=by
 rw[Zwa]
 cases i
 cases j
 simp
section
variable {X:Cx}{a b c:Expr}{ta tb tc:TE}{pos:Pos}
theorem D2{pins:List (Addr×Obj)}{Z:St}{H:Hp}{s:Shared}{Q:VK}{k k':Bool}(I:Inv X pins Z H s)(q:Q (.bl k) H)(e:k=k'):EP X pins Z Q (.bool k') s:=by
 subst e
 exact⟨.bl k,H,I,rfl,q⟩
theorem fz:OpR X (compareOp .Eq) rEq:=by
 intro pins s Z H x y v u Q I rx ry h
 obtain⟨hs,q⟩:=h
 cases x with
 |non =>
  cases rx
  cases y with
  |non=>cases ry;exact PySem.EqNone.eq_none_none (D2 I q (by simp))
  |bl j=>cases ry;exact PySem.EqNone.eq_none_bool (D2 I q (by simp))
  |int j=>obtain⟨t',rfl⟩:=ry;exact PySem.EqNone.eq_none_int (D2 I q (by simp))
  |str j=>obtain⟨t',rfl⟩:=ry;exact PySem.EqNone.eq_none_str (D2 I q (by simp))
  |_=>exact absurd (show false=true from hs) Zz4
 |bl i =>
  cases rx
  cases y with
  |non=>cases ry;exact PySem.EqNone.eq_bool_none (D2 I q (by simp))
  |bl j=>cases ry;exact eq_bool (D2 I q Yl)
  |str j=>obtain⟨t',rfl⟩:=ry;exact PySem.EqMixed.eq_bool_str (D2 I q (by simp))
  |_=>exact absurd (show false=true from hs) Zz4
 |int i =>
  obtain⟨t,rfl⟩:=rx
  cases y with
  |non=>cases ry;exact PySem.EqNone.eq_int_none (D2 I q (by simp))
  |int j=>obtain⟨t',rfl⟩:=ry;exact eq_int (D2 I q Vo)
  |str j=>obtain⟨t',rfl⟩:=ry;exact PySem.EqMixed.eq_int_str (D2 I q (by simp))
  |_=>exact absurd (show false=true from hs) Zz4
 |str i =>
  obtain⟨t,rfl⟩:=rx
  cases y with
  |non=>cases ry;exact PySem.EqNone.eq_str_none (D2 I q (by simp))
  |bl j=>cases ry;exact PySem.EqMixed.eq_str_bool (D2 I q (by simp))
  |int j=>obtain⟨t',rfl⟩:=ry;exact PySem.EqMixed.eq_str_int (D2 I q (by simp))
  |str j=>obtain⟨t',rfl⟩:=ry;exact eq_str (D2 I q Vn)
  |_=>exact absurd (show false=true from hs) Zz4
 |byt i =>
  obtain⟨t,rfl⟩:=rx
  cases y with
  |byt j=>obtain⟨t',rfl⟩:=ry;exact PySem.W.eq_bytes (D2 I q Vp)
  |_=>exact absurd (show false=true from hs) Zz4
 |_=>cases y<;>exact absurd (show false=true from hs) Zz4
theorem fq:OpR X (compareOp .NotEq) rNe:=by
 intro pins s Z H x y v u Q I rx ry h
 obtain⟨hs,q⟩:=h
 cases x with
 |non =>
  cases rx
  cases y with
  |non=>cases ry;exact PySem.EqNone.ne_none_none (D2 I q (by simp))
  |bl j=>cases ry;exact PySem.EqNone.ne_none_bool (D2 I q (by simp))
  |int j=>obtain⟨t',rfl⟩:=ry;exact PySem.EqNone.ne_none_int (D2 I q (by simp))
  |str j=>obtain⟨t',rfl⟩:=ry;exact PySem.EqNone.ne_none_str (D2 I q (by simp))
  |_=>exact absurd (show false=true from hs) Zz4
 |bl i =>
  cases rx
  cases y with
  |non=>cases ry;exact PySem.EqNone.ne_bool_none (D2 I q (by simp))
  |bl j=>cases ry;exact ne_bool (D2 I q (congrArg not Yl))
  |str j=>obtain⟨t',rfl⟩:=ry;exact PySem.EqMixed.ne_bool_str (D2 I q (by simp))
  |_=>exact absurd (show false=true from hs) Zz4
 |int i =>
  obtain⟨t,rfl⟩:=rx
  cases y with
  |non=>cases ry;exact PySem.EqNone.ne_int_none (D2 I q (by simp))
  |int j=>obtain⟨t',rfl⟩:=ry;exact ne_int (D2 I q (congrArg not Vo))
  |str j=>obtain⟨t',rfl⟩:=ry;exact PySem.EqMixed.ne_int_str (D2 I q (by simp))
  |_=>exact absurd (show false=true from hs) Zz4
 |str i =>
  obtain⟨t,rfl⟩:=rx
  cases y with
  |non=>cases ry;exact PySem.EqNone.ne_str_none (D2 I q (by simp))
  |bl j=>cases ry;exact PySem.EqMixed.ne_str_bool (D2 I q (by simp))
  |int j=>obtain⟨t',rfl⟩:=ry;exact PySem.EqMixed.ne_str_int (D2 I q (by simp))
  |str j=>obtain⟨t',rfl⟩:=ry;exact ne_str (D2 I q (congrArg not Vn))
  |_=>exact absurd (show false=true from hs) Zz4
 |byt i =>
  obtain⟨t,rfl⟩:=rx
  cases y with
  |byt j=>obtain⟨t',rfl⟩:=ry;exact PySem.W.ne_bytes (D2 I q (congrArg not Vp))
  |_=>exact absurd (show false=true from hs) Zz4
 |_=>cases y<;>exact absurd (show false=true from hs) Zz4
theorem ft:OpR X (compareOp .Lt) (rI0 λi j=>.bl (decide (i<j))):=Zl λ_ _ _ _ _ _ _ q=>lt_int q
theorem Oh:OpR X (compareOp .LtE) (rI0 λi j=>.bl (decide (i<=j))):=Zl λ_ _ _ _ _ _ _ q=>le_int q
theorem Sx:OpR X (compareOp .Gt) (rI0 λi j=>.bl (decide (j<i))):=Zl λ_ _ _ _ _ _ _ q=>gt_int q
theorem fu:OpR X (compareOp .GtE) (rI0 λi j=>.bl (decide (j<=i))):=Zl λ_ _ _ _ _ _ _ q=>ge_int q
theorem W4:OpR X (compareOp .In) (λx y H Q=>∃i j,x=.str i/\y=.str j/\Q (.bl (!(Builtin.Str.occurrences j i 0 j.length 1).isEmpty)) H):=by
 intro pins s Z H x y v u Q I rx ry h
 obtain⟨i,j,rfl,rfl,q⟩:=h
 obtain⟨t,rfl⟩:=rx
 obtain⟨t',rfl⟩:=ry
 exact in_str (D2 I q rfl)
theorem cx:OpR X (compareOp .Is) (λx y H Q=>y=.non/\Q (.bl (decide (x=.non))) H):=by
 intro pins s Z H x y v u Q I rx ry h
 obtain⟨rfl,q⟩:=h
 cases ry
 refine is_none_gen (D2 I q ?_)
 cases x<;>first
  | (cases rx;rfl)
  | (obtain⟨t,rfl⟩:=rx;rfl)
theorem OpR.or{f:Value->Value->Sem Value}{r r':R2}(h:OpR X f r)(h':OpR X f r'):OpR X f (λx y H Q=>r x y H Q\/r' x y H Q):=by
 intro pins s Z H x y v u Q I rx ry q
 rcases q with q | q
 ·exact h pins s Z H x y v u Q I rx ry q
 ·exact h' pins s Z H x y v u Q I rx ry q
theorem Cg(b:Expr){op:CmpOp}(h:op≠.In:=by decide)(h2:op≠.NotIn:=by decide):behindInMarks op b=false:=by
 have e1:(op == CmpOp.In)=false:=by cases op<;>first | rfl | exact absurd rfl h
 have e2:(op == CmpOp.NotIn)=false:=by cases op<;>first | rfl | exact absurd rfl h2
 cases b<;>simp[behindInMarks,e1,e2]
theorem J5{op:CmpOp}{r:R2}(ho:OpR X (compareOp op) r)(ha:PE X a ta)(hb:PE X b tb)(hm:behindInMarks op b=false):PE X (.Compare a [op] [b] pos) (tOp r ta tb):=by
 intro pins s Z H Q I h
 exact wpAny_Compare1 (dq ha hb I h λv u s2 x y H2 I2 rx ry q=>ho pins s2 Z H2 x y v u Q I2 rx ry q) hm
def Dk(t:TE):TT:=λZ H Q=>t Z H λx H'=>∃k,x=.bl k/\Q k H'
theorem C4{op:CmpOp}{r:R2}(ho:OpR X (compareOp op) r)(ha:PE X a ta)(hb:PE X b tb)(hm:behindInMarks op b=false):PT X (.Compare a [op] [b] pos) (Dk (tOp r ta tb)):=by
 intro pins s Z H Q I h
 refine wpAny_isTrue_Compare1 (thn (ha pins s Z H _ I h) λv s1 ⟨x,H1,I1,r1,q1⟩=>thn (hb pins s1 Z H1 _ I1 q1) λu s2 ⟨y,H2,I2,r2,q2⟩ =>
  thn (ho pins s2 Z H2 x y v u _ I2 r1 r2 q2) λc s3 ⟨z,H3,I3,r3,k,e,q3⟩=>?_) hm
 subst e
 cases r3
 exact wpAny_truthy_bool ⟨H3,I3,q3⟩
def Cn(r r':R2)(ta tb tc:TE):TE:=λZ H Q=>ta Z H λx H1=>tb Z H1 λy H2=>r x y H2 λz H3=>∃k,z=.bl k /\
 (if k=true then tc Z H3 λw' H4=>r' y w' H4 Q else Q (.bl false) H3)
theorem Xl{op op':CmpOp}{r r':R2}(ho:OpR X (compareOp op) r)(ho':OpR X (compareOp op') r')(ha:PE X a ta)(hb:PE X b tb)(hc:PE X c tc)
  (hm:lastMarks [op,op'] [b,c]=false:=by with_unfolding_all rfl):PE X (.Compare a [op,op'] [b,c] pos) (Cn r r' ta tb tc):=by
 intro pins s Z H Q I h
 refine Compare_chain (thn (ha pins s Z H _ I h) λv s1 ⟨x,H1,I1,r1,q1⟩=>chain_link (thn (hb pins s1 Z H1 _ I1 q1) λu s2 ⟨y,H2,I2,r2,q2⟩ =>
  thn (ho pins s2 Z H2 x y v u _ I2 r1 r2 q2) λd s3 ⟨z,H3,I3,r3,k,e,q3⟩=>?_)) hm
 subst e
 cases r3
 refine wpAny_truthy_bool ?_
 cases k with
 |false=>exact ite_ff ⟨.bl false,H3,I3,rfl,q3⟩
 |true=>exact ite_tt (chain_last (thn (hc pins s3 Z H3 _ I3 q3) λw' s4 z0=>by obtain⟨z',H4,I4,r4,q4⟩:=z0;exact ho' pins s4 Z H4 y z' u w' Q I4 r2 r4 q4))
theorem Sr{op op':CmpOp}{r r':R2}(ho:OpR X (compareOp op) r)(ho':OpR X (compareOp op') r')(ha:PE X a ta)(hb:PE X b tb)(hc:PE X c tc)
  (hm:lastMarks [op,op'] [b,c]=false:=by with_unfolding_all rfl):PT X (.Compare a [op,op'] [b,c] pos) (Dk (Cn r r' ta tb tc)):=by
 intro pins s Z H Q I h
 refine isTrue_chain (thn (ha pins s Z H _ I h) λv s1 ⟨x,H1,I1,r1,q1⟩=>test_link (thn (hb pins s1 Z H1 _ I1 q1) λu s2 ⟨y,H2,I2,r2,q2⟩ =>
  thn (ho pins s2 Z H2 x y v u _ I2 r1 r2 q2) λd s3 ⟨z,H3,I3,r3,k,e,q3⟩=>?_)) hm
 subst e
 cases r3
 refine wpAny_truthy_bool ?_
 cases k with
 |false =>
  obtain⟨k',e',q'⟩:=q3
  cases e'
  exact ite_ff ⟨H3,I3,q'⟩
 |true =>
  refine ite_tt (test_last (thn (hc pins s3 Z H3 _ I3 q3) λw' s4 ⟨z',H4,I4,r4,q4⟩=>thn (ho' pins s4 Z H4 y z' u w' _ I4 r2 r4 q4) λd' s5 z0=>?_))
  obtain⟨z2,H5,I5,r5,k2,e2,q5⟩:=z0
  subst e2
  cases r5
  exact wpAny_truthy_bool ⟨H5,I5,q5⟩
theorem Na:(sizeLine:Nat)<2^63:=by rw[sizeLine_eq];decide
theorem Mi:OpR X (binaryOp .Add) (λx y H Q=>∃i j,x=.str i/\y=.str j/\i.length+j.length<=sizeLine/\Q (.str (i++j)) H):=by
 intro pins s Z H x y v u Q I rx ry h
 obtain⟨i,j,rfl,rfl,hz,q⟩:=h
 obtain⟨t,rfl⟩:=rx
 obtain⟨t',rfl⟩:=ry
 exact add_str (λt' tk=>⟨.str (i++j),H,I.tok _,⟨_,rfl⟩,q⟩) hz
theorem Ll{x:V}{us:List Value}(r:Vals [x] us):∃u,us=[u]/\RelV x u:=by
 cases r with
 |cons r1 r2=>cases r2;exact⟨_,rfl,r1⟩
theorem X7{x y:V}{us:List Value}(r:Vals [x,y] us):∃u w',us=[u,w']/\RelV x u/\RelV y w':=by
 cases r with
 |cons r1 r2 =>
  cases r2 with
  |cons r3 r4=>cases r4;exact⟨_,_,rfl,r1,r3⟩
theorem X2:CallR X (.type "int") (λxs H Q=>(∃i,xs=[.int i]/\Q (.int i) H)\/∃k,xs=[.bl k]/\Q (.int (if k then 1 else 0)) H):=by
 intro pins s Z H xs us Q I r h
 rcases h with ⟨i,rfl,q⟩ | ⟨k,rfl,q⟩
 ·obtain⟨u,rfl,t,rfl⟩:=Ll r
  exact call_int_int ⟨.int i,H,I,⟨_,rfl⟩,q⟩
 ·obtain⟨u,rfl,r1⟩:=Ll r
  cases r1
  exact call_int_bool ⟨.int (if k then 1 else 0),H,I.tok _,⟨_,rfl⟩,q⟩
end
structure ObjM(h:Heap)(x dx C:Addr)(mA:Str->Option Value):Prop where
 obj:h.get? x=some (PySem.W.instObj C dx)
 ns:h.Ns1 dx mA
 ne:dx≠x
theorem Wa{h:Heap}{dx:Addr}{mA:Str->Option Value}(n:h.Ns1 dx mA):∃od,h.get? dx=some od/\∀name,PySem.W.lookIn name od=some (mA name):=by
 obtain⟨o,es,ep,ho,hd,hk,_,hm⟩:=n
 refine⟨o,ho,λname=>?_⟩
 have e:=hm name
 unfold nsFind findBy at e
 rw[<- Array.find?_toList] at e
 unfold PySem.W.lookIn
 rw[hd]
 dsimp only
 split
 ·rename_i y q
  rw[q] at e
  exact congrArg some e
 ·rename_i q
  rw[q] at e
  have a:es.toList.any (·.refKey)=false:=by
   rw[List.any_eq_false]
   intro y hy
   obtain⟨z,t,hkey⟩:=hk y (Array.mem_toList_iff.mp hy)
   simp[DictEntry.refKey,hkey]
  have a':¬ es.toList.any (·.refKey)=true:=by rw[a];exact Zz4
  rw[if_neg a']
  exact congrArg some e
theorem ObjM.look{h:Heap}{x dx C:Addr}{mA:Str->Option Value}(I:ObjM h x dx C mA):∃od,PySem.W.InstAt h x (PySem.W.instObj C dx) C (some od)/\∀name,PySem.W.lookIn name od=some (mA name) :=
 let ⟨od,ho,hl⟩:=Wa I.ns
 ⟨od,⟨I.obj,rfl,rfl,ho⟩,hl⟩
section
variable {prog:Program}{w:World}{A:Around}{E:Value->Shared->Prop}{s:Shared}{K:Zzx}{x dx C f:Addr}{mA:Str->Option Value}{name:Str}{v:Value}
end
theorem RelO.some_of{v:V}{o:Option Value}(r:RelO (some v) o):∃u,o=some u/\RelV v u:=by
 cases o with
 |none=>exact(show False from r).elim
 |some u=>exact⟨u,rfl,r⟩
section
variable {P:Program}{w:World}{H H':Hp}{h h':Heap}{a C dx:Addr}{fs fs':List (Str×V)}
theorem Zz(hok:HOk P w H h)(e:H a=some (.ins C dx fs)):∃mA,ObjM h a dx C mA/\(∀f,RelO (fs.lookup f) (mA f))/\PySem.Within mA (fs.map (·.1))/\fs.length<=1000/\H dx=some (.own a):=by
 obtain⟨d,z,ne,ob,mA,n,r,q⟩:=(show ObjOk P w H h a (.ins C dx fs) from hok a _ e)
 exact⟨mA,⟨ob,n,ne⟩,r,q,z,d⟩
end
structure Cls(K:Zzx)(C:Addr):Prop where
 pg:PySem.W.plainGet K C Str.empty=true
 hd:PySem.W.hasDictIn K C=true
 po:PySem.W.plainOver K C=true
 sa:PySem.W.findIn K (.ref C) "__setattr__" = some (some (.builtin "object.__setattr__"))
theorem Cls.get{K:Zzx}{C:Addr}(c:Cls K C)(f:Str):PySem.W.plainGet K C f=true:=c.pg
section
variable {X:Cx}{pins:List (Addr×Obj)}{Z:St}{H:Hp}{s:Shared}{a C dx:Addr}{fs:List (Str×V)}{f:Str}{v:V}{A:Around}{E:Value->Shared->Prop}
end
section
variable {X:Cx}{o e value:Expr}{f:Str}{pos pos' tpos:Pos}{ta tv:TE}
end
section
variable {X:Cx}{pins:List (Addr×Obj)}{Z:St}{H:Hp}{s:Shared}{A:Around}{E:Value->Shared->Prop}{Q:Value->Shared->Prop}{c:Value}{b:Bool}
inductive Ng (K:Zzx) (H:Hp):V->Value->Prop where
 |non:Ng K H .non (.type "NoneType")
 |bl (x:Bool):Ng K H (.bl x) (.type "bool")
 |int (i:Int):Ng K H (.int i) (.type "int")
 |str (x:Str):Ng K H (.str x) (.type "str")
 |flt (x:UInt64):Ng K H (.flt x) (.type "float")
 |lst {a:Addr} {xs:List V} (e:H a=some (.lst xs)):Ng K H (.ref a) (.type "list")
 |frz {a:Addr} {o:Obj} {xs:List V} (e:H a=some (.frz o (.lst xs))):Ng K H (.ref a) (.type "list")
 |tup {a:Addr} {xs:List V} (e:H a=some (.tup xs)):Ng K H (.ref a) (.type "tuple")
 |dK {a:Addr} {kvs:List (Key×V)} (e:H a=some (.dK kvs)):Ng K H (.ref a) (.type "dict")
 |dT {a:Addr} {kvs:List (List Key×V)} (e:H a=some (.dT kvs)):Ng K H (.ref a) (.type "dict")
 |ins {a C dx:Addr} {fs:List (Str×V)} (e:H a=some (.ins C dx fs)) (cl:Cls K C) (ha:PySem.W.findIn K (.ref C) "__class__" = some (some (.builtin "object.__class__")))
   (hn:PySem.W.specialIn K (.builtin "object.__class__") "__get__" = some (some (.builtin "getset_descriptor.__get__"))) (htk:PySem.W.takesIn K (.builtin "object.__class__")=some true)
   (hm:PySem.W.mroIn K C (.type "object")=some true):Ng K H (.ref a) (.ref C)
theorem Wd{x:V}{u t:Value}(I:Inv X pins Z H s)(rx:RelV x u)(ty:Ng X.K H x t)(e:PySem.W.kitOne X.K t c=some b)(h:∀tk,Q (.bool b) {s with toks:=tk}) :
  wpAny (model X.prog X.w) A (call (.builtin "isinstance") [u,c]) Q E s:=by
 cases ty with
 |non=>cases (show u=Value.none from rx);exact Zxk PySem.W.kitx_none I.kIn True.intro e (λz=>nomatch z) h
 |bl y=>cases (show u=Value.bool y from rx);exact Zxk PySem.W.kitx_bool I.kIn True.intro e (λz=>nomatch z) h
 |int i=>obtain⟨t,q⟩:=(show ∃t,u=Value.int i t from rx);cases q;exact Zxk PySem.W.kitx_int I.kIn True.intro e (λz=>nomatch z) h
 |str y=>obtain⟨t,q⟩:=(show ∃t,u=Value.str y t from rx);cases q;exact Zxk PySem.W.kitx_str I.kIn True.intro e (λz=>nomatch z) h
 |flt y=>obtain⟨t,q⟩:=(show ∃t,u=Value.float y t from rx);cases q;exact Zxk PySem.W.kitx_float I.kIn True.intro e (λz=>nomatch z) h
 |@lst a xs ea =>
  cases (show u=Value.ref a from rx)
  obtain⟨_,_,n,_,h1⟩:=(show ObjOk X.prog X.w H s.heap a (.lst xs) from I.hok a _ ea)
  exact Zxk PySem.W.kitx_list I.kIn ⟨_,h1,rfl⟩ e (λz=>nomatch z) h
 |@frz a ob xs ea =>
  cases (show u=Value.ref a from rx)
  obtain⟨_,_,_,n,_,h1⟩:=(show ObjOk X.prog X.w H s.heap a (.frz ob (.lst xs)) from I.hok a _ ea)
  exact Zxk PySem.W.kitx_list I.kIn ⟨_,h1,rfl⟩ e (λz=>nomatch z) h
 |@tup a xs ea =>
  cases (show u=Value.ref a from rx)
  obtain⟨_,_,_,p⟩:=(show ObjOk X.prog X.w H s.heap a (.tup xs) from I.hok a _ ea)
  obtain⟨o,h1,h2,_⟩:=p
  exact Zxk PySem.W.kitx_tuple I.kIn ⟨o,h1,h2⟩ e (λz=>nomatch z) h
 |@dK a kvs ea =>
  cases (show u=Value.ref a from rx)
  obtain⟨_,_,vs,_,p⟩:=(show ObjOk X.prog X.w H s.heap a (.dK kvs) from I.hok a _ ea)
  obtain⟨o,es,ep,h1,h2,_⟩:=p
  exact Zxk PySem.W.kitx_dict I.kIn ⟨o,h1,h2.1⟩ e (λz=>nomatch z) h
 |@dT a kvs ea =>
  cases (show u=Value.ref a from rx)
  obtain⟨_,_,xs,_,o,es,ep,h1,h2,_⟩:=(show ObjOk X.prog X.w H s.heap a (.dT kvs) from I.hok a _ ea)
  exact Zxk PySem.W.kitx_dict I.kIn ⟨o,h1,h2.1⟩ e (λz=>nomatch z) h
 |@ins a C dx fs ea cl ha hn htk hm =>
  cases (show u=Value.ref a from rx)
  obtain⟨mA,O,_⟩:=Zz I.hok ea
  obtain⟨od,J,_⟩:=O.look
  exact Zxk (PySem.W.kitx_own (cl.get _) cl.hd ha hn htk hm) I.kIn J e (λz=>nomatch z) h
end
structure Room(k:Nat)(A:Around):Prop where
 hd:A.handled=none
 dp:A.depth+3*k+5<recursionLimit
 un:A.units+16*k+200<cLine
theorem Room.mono{j k:Nat}{A:Around}(r:Room k A)(h:j<=k):Room j A:=⟨r.hd,by have:=r.dp;omega,by have:=r.un;omega⟩
theorem Room.deeper{k:Nat}{A:Around}(r:Room (k+1) A)(env:Env):Room k (A.deeper env) :=
 ⟨r.hd,by have:=r.dp;show A.depth+1+3*k+5<_;omega,by have:=r.un;show A.units+3+16*k+200<_;omega⟩
theorem Room.depth{k:Nat}{A:Around}(r:Room k A):A.depth<recursionLimit:=by have:=r.dp;omega
theorem Room.units{k:Nat}{A:Around}(r:Room k A):A.units+64<cLine:=by have:=r.un;omega
def tNil:TA:=λ_ H Q=>Q [] H
def Dl(ta:TE)(tr:TA):TA:=λZ H Q=>ta Z H λx H1=>tr Z H1 λxs H2=>Q (x::xs) H2
section
variable {X:Cx}{e:Expr}{es:List Expr}{te:TE}{t:TA}{pos:Pos}
theorem A2:PA X [] tNil:=λ_ _ _ _ H Q I h=>Calls.spliced_nil ⟨[],H,I,.nil,h⟩
theorem Zg(ha:PE X e te)(hr:PA X es t)(hs:starEach (e::es) X.env=(false,eval e X.env)::starEach es X.env:=by rfl):PA X (e::es) (Dl te t):=by
 intro pos pins s Z H Q I h
 rw[hs]
 show wpAny _ _ (spliced ((false,eval e X.env)::backTo pos (starEach es X.env))) _ _ s
 refine Calls.spliced_cons (thn (ha pins s Z H _ I h) λu s1 z0=>?_)
 obtain⟨x,H1,I1,r1,q1⟩:=z0
 exact thn (hr pos pins s1 Z H1 _ I1 q1) λus s2 ⟨xs,H2,I2,r2,q2⟩=>⟨x::xs,H2,I2,.cons r1 r2,q2⟩
def Gu(t:TA):TE:=λZ H Q=>t Z H λxs H1=>xs.length<=sizeLine/\∀p,H1 p=none->Q (.ref p) (upd H1 p (.tup xs))
def Gz(t:TA):TE:=λZ H Q=>t Z H λxs H1=>xs.length<=sizeLine/\∀p,H1 p=none->Q (.ref p) (upd H1 p (.lst xs))
theorem J4{x1}(h:PA X es t):PE X (.Tuple es x1 pos) (Gu t):=by
 intro pins s Z H Q I hq
 refine wpAny_Tuple_spliced (thn (h pos pins s Z H _ I hq) λus s1 ⟨xs,H1,I1,r,z,q⟩=>⟨by rw[<- r.length];exact z,?_⟩)
 have hf:H1 s1.heap.objs.size=none:=I1.hok.fresh (Zzt _)
 refine⟨.ref s1.heap.objs.size,upd H1 s1.heap.objs.size (.tup xs),I1.laid (t':=s1.toks) (λb u e=>Zzj _ e) (Zzt _) ?_,rfl,q _ hf⟩
 exact⟨z,us,r,⟨_,Zyn _ rfl,rfl,_,rfl⟩⟩
theorem Bt(h:PA X es t):PE X (.List es pos) (Gz t):=by
 intro pins s Z H Q I hq
 refine wpAny_List_spliced (thn (h pos pins s Z H _ I hq) λus s1 ⟨xs,H1,I1,r,z,q⟩=>⟨by rw[<- r.length];exact z,?_⟩)
 have hf:H1 s1.heap.objs.size=none:=I1.hok.fresh (Zzt _)
 refine⟨.ref s1.heap.objs.size,upd H1 s1.heap.objs.size (.lst xs),I1.laid (t':=s1.toks) (λb u e=>Zzj _ e) (Zzt _) ?_,rfl,q _ hf⟩
 exact⟨z,us,0,r,Zyn _ rfl⟩
end
abbrev Sp:=List V->Hp->VK->XK->Prop
abbrev CXT:=List Env->Hp->Shared->XK->Value->Shared->Prop
structure av(P:Program)(w:World)(K:Zzx)(mg:Str->Option Value)(base:Heap)(A:Around)(outer:List Env)(s:Shared)(H:Hp):Prop where
 frames:A.frames=some outer
 mod:Mod K mg base
 bs:∀b o,base.get? b=some o->s.heap.get? b=some o/\H b=none
 bsz:base.objs.size<=s.heap.objs.size
 funs:s.heap.FunFrames base outer
 frf:∀b∈frs outer,H b=none
 hok:HOk P w H s.heap
 bare:AllBare s.gens
def CE(outer:List Env)(P:Program)(w:World)(H:Hp)(s:Shared)(Q:VK)(u:Value)(s':Shared):Prop :=
 ∃v H',s'.os=s.os/\AllBare s'.gens/\Un (frs outer) [] H H' s.heap s'.heap/\HOk P w H' s'.heap/\RelV v u/\Q v H'
def CR(CX:CXT)(outer:List Env)(P:Program)(w:World)(H:Hp)(s:Shared)(Q:VK)(E:XK)(r:Result)(s':Shared):Prop :=
 match r with
 |.ok (.ret u)=>CE outer P w H s Q u s'
 |.ok _=>False
 |.error e=>CX outer H s E e s'
structure Dp(P:Program)(w:World)(K:Zzx)(mg:Str->Option Value)(base:Heap)(CX:CXT)(k:Nat)(f:Addr)(fd:FuncData)(ps:List Str)(sp:Sp):Prop where
 len:∀vs H Q E,sp vs H Q E->vs.length=ps.length
 run:∀(A:Around) (outer:List Env) (s:Shared) (H:Hp) (args:Args) (us:List Value) (vs:List V) (Q:VK) (E:XK),Room k A->av P w K mg base A outer s H->BindsTo s fd args (ps.zip us)->Vals vs us->sp vs H Q E ->
  codeAny (model P w) A (.call (.ref f) args) (CR CX outer P w H s Q E) s
section
variable {X:Cx}{pins:List (Addr×Obj)}{Z:St}{H:Hp}{s s':Shared}
theorem Inv.env0(I:Inv X pins Z H s):av X.prog X.w X.K X.mg X.base X.A X.stack s H :=
 ⟨I.ok.frames,I.ok.mod,I.bs,Zyu I.ok.bsz I.sz,I.stack,I.stkFree,I.hok,I.bare⟩
theorem Inv.after{Q:VK}{u:Value}(I:Inv X pins Z H s)(h:CE X.stack X.prog X.w H s Q u s'):EP X pins Z Q u s':=by
 obtain⟨v,H',os,bare,un,hok,r,q⟩:=h
 obtain⟨hh,g,d,t,os'⟩:=s'
 obtain rfl:os'=s.os:=os
 exact⟨v,H',I.call (h':=hh) (g':=g) (d':=d) (t':=t) (ch:=[]) un hok bare (λb z=>absurd z (by simp)),r,q⟩
end
def Dh(sp:Sp)(dvs:List V)(E:XK)(t:TA):TE:=λZ H Q=>t Z H λvs H1=>sp (vs++dvs) H1 Q E
def Binds(K:Zzx)(fd:FuncData)(ps:List Str)(ds:List Value):Prop :=
 ∀(s:Shared) (us:List Value),K.In s.heap->(us++ds).length=ps.length->BindsTo s fd ⟨us,[]⟩ (ps.zip (us++ds))
theorem Binds.all{K:Zzx}{fd:FuncData}{ps:List Str}(h:∀us:List Value,us.length=ps.length->bindArgs fd ⟨us,[]⟩=pure (ps.zip us)):Binds K fd ps []:=λs us _ hl=>by
 rw[Zzq] at hl ⊢
 exact .of_eq (h us hl)
def V3(CX:CXT)(X:Cx)(E:XK):Prop:=∀(pins:List (Addr×Obj)) (Z:St) (H:Hp) (s:Shared) (e:Value) (s':Shared),Inv X pins Z H s->CX X.stack H s E e s'->X.xe e s'
section
variable {X:Cx}{CX:CXT}{k:Nat}{f C:Addr}{fd:FuncData}{ps:List Str}{sp:Sp}{dvs:List V}{ds:List Value}{E:XK}{x m:Str}{p pos apos:Pos}{e o:Expr}{es:List Expr}{ta:TE}{t:TA}
theorem cf{pins:List (Addr×Obj)}{Z:St}{H:Hp}{s:Shared}{Q:VK}{us:List Value}{vs:List V}(F:Dp X.prog X.w X.K X.mg X.base CX k f fd ps sp)(hr:Room k X.A)(hb:Binds X.K fd ps ds)(hd:Vals dvs ds)(hx:V3 CX X E)
  (I:Inv X pins Z H s) (r:Vals vs us) (h:sp (vs++dvs) H Q E):wpAny (model X.prog X.w) X.A (call (.ref f) us) (EP X pins Z Q) X.xe s:=by
 have r2:Vals (vs++dvs) (us++ds):=r.append hd
 have hl:(us++ds).length=ps.length:=by rw[<- r2.length];exact F.len _ _ _ _ h
 refine wpAny_call (codeAny_mono (F.run X.A X.stack s H ⟨us,[]⟩ (us++ds) (vs++dvs) Q E hr I.env0 (hb s us I.kIn hl) r2 h) λr s' hq=>?_)
 cases r with
 |error e=>exact hx pins Z H s e s' I hq
 |ok fl =>
  cases fl with
  |ret u=>exact I.after hq
  |next=>exact False.elim hq
  |brk=>exact False.elim hq
  |cont=>exact False.elim hq
theorem Ze(F:Dp X.prog X.w X.K X.mg X.base CX k f fd ps sp)(hr:Room k X.A)(hg:Gl X x)(hm:X.mg x=some (.ref f))(hk:Zzb X.K (.ref f)=true)(hb:Binds X.K fd ps ds)(hd:Vals dvs ds)(hx:V3 CX X E)
  (ha:PA X (e::es) t) (hdb:(x == ("__debug__" : Str))=false:=by decide) (he:starEach (e::es) X.env=(false,eval e X.env)::starEach es X.env:=by rfl) (hpl:(backTo pos (starEach es X.env)).any (·.1)=false:=by rfl) :
  PE X (.Call (.Name x p) (e::es) [] pos) (Dh sp dvs E t):=by
 intro pins s Z H Q I h
 refine wpAny_Call_Name_kw (Mw I hg hm ?_ hdb)
 refine PySem.W.callWith_K (h₀:=X.base) I.ok.mod.kin hk (thn (ha pos pins s Z H _ I h) λus s1 ⟨vs,H1,I1,r,q⟩=>⟨I1.kIn,?_⟩) he hpl
 exact cf F hr hb hd hx I1 r q
end
section
variable {X:Cx}{CX:CXT}{k:Nat}{f C:Addr}{fd:FuncData}{ps ks:List Str}{sp:Sp}{E:XK}{x m:Str}{p pos apos kpos:Pos}{e o:Expr}{es:List Expr}{kws:List Keyword}{te ta:TE}{t tk:TA}{nm:Option Str}
variable {g:List Value->List Value->List Value}{gV:List V->List V->List V}
end
structure Bv(N P:List Str)(sc:Scope):Prop where
 kind:sc.kind=.function
 co:sc.isCoroutine=false
 gen:sc.isGenerator=false
 nd:N.Nodup
 pre:N.take P.length=P
 par:∀x∈P,sc.names.lookup x=some .local\/sc.names.lookup x=some .cell
 nofree:∀y∈sc.names,y.2≠.free
theorem Qj{kindOf:Str->Option NameKind}{x:Str}:∀{binds:List (Str×Value)} {m:Str->Option Value},(∀v,(x,v)∉binds)->bindL kindOf binds m x=m x
 |[],_,_=>rfl
 | (n,v)::r,m,h=>by
  unfold bindL
  rw[Qj λw hw=>h w (Zzi _ hw)]
  split
  ·have:x≠n:=by rintro rfl;exact h v Zzs
   simp[this]
  ·rfl
theorem Ql{kindOf:Str->Option NameKind}{x:Str}:∀{binds:List (Str×Value)} {m:Str->Option Value},(∀v,(x,v)∉binds)->bindC kindOf binds m x=m x
 |[],_,_=>rfl
 | (n,v)::r,m,h=>by
  unfold bindC
  rw[Ql λw hw=>h w (Zzi _ hw)]
  split
  ·rfl
  ·have:x≠n:=by rintro rfl;exact h v Zzs
   simp[this]
theorem Qk{kindOf:Str->Option NameKind}{x:Str}{v:Value}:∀{P:List Str} {vs:List Value} {i:Nat} {m:Str->Option Value},P.Nodup->P[i]?=some x->vs[i]?=some v->kindOf x=some .local ->
  bindL kindOf (P.zip vs) m x=some v
 |[],_,_,_,_,h,_,_=>by simp at h
 |_::_,[],_,_,_,_,h,_=>by simp at h
 |p::P,w::vs,0,m,nd,h1,h2,hk=>by
  simp at h1 h2;subst h1;subst h2
  show bindL kindOf ((p,w)::P.zip vs) m p=_
  unfold bindL
  rw[Qj λv hv=>(Zy3.mp nd).1 (List.of_mem_zip hv).1,if_pos hk]
  simp
 |p::P,w::vs,i+1,m,nd,h1,h2,hk=>by
  show bindL kindOf ((p,w)::P.zip vs) m x=_
  unfold bindL
  exact Qk (i:=i) (Zy3.mp nd).2 (by simpa using h1) (by simpa using h2) hk
theorem Qm{kindOf:Str->Option NameKind}{x:Str}{v:Value}:∀{P:List Str} {vs:List Value} {i:Nat} {m:Str->Option Value},P.Nodup->P[i]?=some x->vs[i]?=some v->kindOf x≠some .local ->
  bindC kindOf (P.zip vs) m x=some v
 |[],_,_,_,_,h,_,_=>by simp at h
 |_::_,[],_,_,_,_,h,_=>by simp at h
 |p::P,w::vs,0,m,nd,h1,h2,hk=>by
  simp at h1 h2;subst h1;subst h2
  show bindC kindOf ((p,w)::P.zip vs) m p=_
  unfold bindC
  rw[Ql λv hv=>(Zy3.mp nd).1 (List.of_mem_zip hv).1,if_neg hk]
  simp
 |p::P,w::vs,i+1,m,nd,h1,h2,hk=>by
  show bindC kindOf ((p,w)::P.zip vs) m x=_
  unfold bindC
  exact Qm (i:=i) (Zy3.mp nd).2 (by simpa using h1) (by simpa using h2) hk
def D5(N:List Str)(vs:List V):St:=vs.map some++Zx9 (N.length - vs.length) none
def Pl(CX:CXT)(P:Program)(w:World)(K:Zzx)(mg:Str->Option Value)(base:Heap)(N:List Str)(qual:Str)(scope:Scope)(f:Addr)(cd:Value)(A:Around)(outer:List Env)(s:Shared)(H:Hp)(E:XK):Cx where
 prog:=P
 w:=w
 K:=K
 mg:=mg
 base:=base
 A:=A.deeper (envOfC qual scope s.heap.objs.size f cd)
 N:=N
 s₀:=s
 H₀:=H
 env:=envOfC qual scope s.heap.objs.size f cd
 outer:=outer
 stack:=envOfC qual scope s.heap.objs.size f cd::outer
 ex:=[]
 calm:=true
 fn:=λ_=>true
 pn:=[]
 xe:=λe s'=>wpAny (model P w) (A.deeper (envOfC qual scope s.heap.objs.size f cd)) (leaving (envOfC qual scope s.heap.objs.size f cd) e) (λ_ s''=>CX outer H s E e s'') (λe' s''=>CX outer H s E e' s'') s'
theorem Tt{sc:Scope}{n:Nat}{x:Str}(h:sc.names.lookup x=some .cell):∃c,(cellsFrom n sc.names []).lookup x=some c:=by
 have q:=PySem.W.cellsFrom_some sc.names n [] (.inl h)
 exact Zw5.mp q
theorem Wh{CX:CXT}{P:Program}{w:World}{K:Zzx}{mg:Str->Option Value}{base:Heap}{N ps:List Str}{qual:Str}{scope:Scope}{f:Addr}{cd:Value}{A:Around}{outer:List Env}{s s1:Shared}{H:Hp}{E:XK}{us:List Value}{vs:List V}
  (S:Bv N ps scope) (hd:A.handled=none) (e0:av P w K mg base A outer s H) (hl:vs.length=ps.length) (r:Vals vs us)
  (x:InCallC s s.heap.objs.size (bindL (envOfC qual scope s.heap.objs.size f cd).kindOf (ps.zip us) λ_=>none) (cellsFrom (s.heap.objs.size+1) scope.names []) (bindC (envOfC qual scope s.heap.objs.size f cd).kindOf (ps.zip us) λ_=>none) s1) :
  Inv (Pl CX P w K mg base N qual scope f cd A outer s H E) [] (D5 N vs) H s1:=by
 have hpl:ps.length<=N.length:=by have:=congrArg Zwc S.pre;rw[Zyg] at this;omega
 obtain⟨h1,tk,rfl,hk⟩:=x.done
 have noA:∀b:Addr,b∉(Pl CX P w K mg base N qual scope f cd A outer s H E).ex:=λb z=>absurd (show b∈([]:List Addr) from z) (by simp)
 refine⟨⟨e0.mod,S.kind,rfl,rfl,Zzt _,λy z c h1 h2=>?_,λy hy=>?_,λy c _ h=>?_,λ_=>hd,Around.frames_deeper e0.frames,.inr ⟨rfl,rfl⟩,λb z=>absurd z (noA b),e0.bs,e0.bsz,λb _ _=>noA b,λb z=>absurd z (noA b),e0.funs,e0.frf⟩,
  rfl,e0.bare,Un.kept hk,⟨_,x.toInCall.ns,λi y v h1 h2 h3=>?_⟩,λy c h=>⟨_,x.cell y c h⟩,e0.hok.fresh (Zzt _),λy c h=>?_,λp hp=>absurd (show p∈([]:List (Addr×Obj)) from hp) (by simp),e0.hok.kept hk,?_⟩
 ·exact name_of_addr x.apart (Zxc h1) (Zxc h2)
 ·have hy:scope.names.lookup y=some .cell\/scope.names.lookup y=some .free:=hy
  rcases hy with hy | hy
  ·exact Tt hy
  ·exact absurd rfl (S.nofree _ (Zxc hy))
 ·exact Nat.le_of_lt (x.above y c (Zxc h))
 ·have hi:i<vs.length:=by
   unfold D5 at h2
   by_cases hi:i<vs.length
   ·exact hi
   ·rw[Zxa (by simpa using hi)] at h2
    rw[List.getElem?_replicate] at h2
    split at h2<;>cases h2
  have ha:vs[i]?=some v:=by
   unfold D5 at h2
   rw[Zwv (by simpa using hi),Zzv] at h2
   cases e:vs[i]? with
   |none=>rw[e] at h2;cases h2
   |some a=>rw[e] at h2;cases h2;rfl
  obtain⟨u,hu,rv⟩:=r.get ha
  have hp:ps[i]?=some y:=by
   rw[<- S.pre,List.getElem?_take_of_lt (by omega)];exact h1
  have ndP:ps.Nodup:=by rw[<- S.pre];exact S.nd.sublist (List.take_sublist _ _)
  refine⟨u,rv,?_⟩
  rcases S.par y (Zyv hp) with k | k
  ·exact .inl ⟨k,Qk ndP hp hu k⟩
  ·obtain⟨c,e⟩:=Tt (n:=s.heap.objs.size+1) k
   refine .inr ⟨.inl k,c,e,?_⟩
   have q:=x.cell y c e
   rw[Qm ndP hp hu (by show scope.names.lookup y≠_;rw[k];decide)] at q
   exact q
 ·exact e0.hok.fresh (Nat.le_of_lt (x.above y c (Zxc h)))
 ·unfold D5
  show _=N.length
  rw[Zzh,Zzz,List.length_replicate]
  omega
theorem bp{CX:CXT}{P:Program}{w:World}{K:Zzx}{mg:Str->Option Value}{base:Heap}{k:Nat}{f:Addr}{name qual:Str}{params:Arguments}{body:List Stmt}{scope:Scope}{dV kV doc pm cdv ct oc:Value}{an od:Option Addr}
  {osl:Array (Option Value)} {N ps:List Str} {sp:Sp} (lk:K.lookup f=some ⟨oc,od,.func (Zyx name qual params body scope dV kV doc pm an cdv ct),osl⟩) (hcd:Zz1 K cdv qual=true) (S:Bv N ps scope)
  (len:∀vs H Q E,sp vs H Q E->vs.length=ps.length)
  (hbody:∀(A:Around) (outer:List Env) (s:Shared) (H:Hp) (vs:List V) (Q:VK) (E:XK),Room k (A.deeper (envOfC qual scope s.heap.objs.size f cdv))->sp vs H Q E ->
   ∃t,PSs (Pl CX P w K mg base N qual scope f cdv A outer s H E) body t/\t {nx:=λ_ H'=>Q .non H',rt:=Q} (D5 N vs) H) :
  Dp P w K mg base CX (k+1) f (Zyx name qual params body scope dV kV doc pm an cdv ct) ps sp:=by
 refine⟨len,λA outer s H args us vs Q E hr e0 hb r hsp=>?_⟩
 have hl:=len _ _ _ _ hsp
 have KX:K.In s.heap:=e0.mod.kin.keeps λb o e=>(e0.bs b o e).1
 have lim:s.heap.NoLimit:=e0.mod.nolimit.keeps λb o e=>(e0.bs b o e).1
 have hkind:∀y∈ps.zip us,scope.names.lookup y.1=some .local\/(scope.names.lookup y.1=some .cell/\((cellsFrom (s.heap.objs.size+1) scope.names []).lookup y.1).isSome=true):=λ⟨n,v⟩ hy=>by
  rcases S.par n (List.of_mem_zip hy).1 with q | q
  ·exact .inl q
  ·exact .inr ⟨q,PySem.W.cellsFrom_some _ _ _ (.inl q)⟩
 refine codeAny_call_function hr.depth (KX _ _ lk) rfl S.co S.gen rfl (PySem.W.codeRec_of KX hcd) (hb _ _ _ _ ?_)
 refine wpAny_newFunctionEnv_cells S.kind hkind λenv he s1 x=>?_
 subst he
 refine⟨lim.keeps x.toInCall.keep,codeAny_func ?_⟩
 obtain⟨t,ht,hq⟩:=hbody A outer s H vs Q E (hr.deeper _) hsp
 have I:Inv (Pl CX P w K mg base N qual scope f cdv A outer s H E) [] (D5 N vs) H s1:=Wh S hr.hd e0 hl r x
 refine wpAny_mono (ht [] s1 (D5 N vs) H _ I hq) (λfl s' hs=>?_) λe s' hs=>hs
 have fin:∀{Z':St} {H':Hp} {v:V} {u:Value},Inv (Pl CX P w K mg base N qual scope f cdv A outer s H E) [] Z' H' s'->RelV v u->Q v H'->CE outer P w H s Q u s' :=
  λ{Z' H' v u} J rv q=>⟨v,H',J.os,J.bare,J.base,J.hok,rv,q⟩
 cases fl with
 |ret u =>
  obtain⟨v,Z',H',J,rv,q⟩:=hs
  exact fin J rv q
 |next =>
  obtain⟨Z',H',J,q⟩:=hs
  exact fin (v:=V.non) (u:=Value.none) J rfl q
 |brk =>
  obtain⟨_,_,_,q⟩:=hs
  exact False.elim q
 |cont =>
  obtain⟨_,_,_,q⟩:=hs
  exact False.elim q
section
variable {X:Cx}{x:Str}{p pos:Pos}{e:Expr}{es:List Expr}{t:TA}{id T:String}{r:List V->Hp->VK->Prop}
def tCB(r:List V->Hp->VK->Prop)(t:TA):TE:=λZ H Q=>t Z H λvs H1=>r vs H1 Q
theorem Xn(hc:CallR X (.builtin id) r)(hg:Gl X x)(hm:X.mg x=none)(hv:bootBuiltins x=some (.builtin id))(ha:PA X (e::es) t)(hn:x ≠ "__name__" := by decide)(hdb:(x == ("__debug__" : Str))=false:=by decide)
  (he:starEach (e::es) X.env=(false,eval e X.env)::starEach es X.env:=by rfl) (hpl:(backTo pos (starEach es X.env)).any (·.1)=false:=by rfl):PE X (.Call (.Name x p) (e::es) [] pos) (tCB r t):=by
 intro pins s Z H Q I h
 refine wpAny_Call_Name_kw (Nb I hg hm hv ?_ hn hdb)
 exact PyProof.Rows.callWith_builtin1 (thn (ha pos pins s Z H _ I h) λus s1 z0=>by obtain⟨vs,H1,I1,r1,q1⟩:=z0;exact hc pins s1 Z H1 vs us Q I1 r1 q1) he hpl
theorem W3(hc:CallR X (.type T) r)(hg:Gl X x)(hm:X.mg x=none)(hv:bootBuiltins x=some (.type T))(ha:PA X (e::es) t)(hn:x ≠ "__name__" := by decide)(hdb:(x == ("__debug__" : Str))=false:=by decide)
  (he:starEach (e::es) X.env=(false,eval e X.env)::starEach es X.env:=by rfl) (hpl:(backTo pos (starEach es X.env)).any (·.1)=false:=by rfl):PE X (.Call (.Name x p) (e::es) [] pos) (tCB r t):=by
 intro pins s Z H Q I h
 refine wpAny_Call_Name_kw (Nb I hg hm hv ?_ hn hdb)
 exact Zx0 (thn (ha pos pins s Z H _ I h) λus s1 z0=>by obtain⟨vs,H1,I1,r1,q1⟩:=z0;exact hc pins s1 Z H1 vs us Q I1 r1 q1) he hpl
end
end L2
namespace HT
open PySem PyProof.Rows
def bj:List Int->List Int->Bool
 |[],[]=>false
 |[],_::_=>true
 |_::_,[]=>false
 |x::xs,y::ys=>if x=y then bj xs ys else decide (x<y)
section
open PySem.SeqAt
open PySem.AutoSeq1 (wpAny_loadPart')
open PySem.MeetsSeq PySem.MeetsSeq2 PySem.MeetsSeq3
end
section
variable {prog:Program}{w:World}{A:Around}{E:Value->Shared->Prop}{s:Shared}
theorem ag{t b:Addr}{vs ws:List Value}{Q:Value->Shared->Prop}(ht:IsTup s.heap t vs.toArray)(hb:IsTup s.heap b ws.toArray)(hv:vs≠[])
  (h1:ws=[]->Q (.ref t) s) (h2:ws≠[]->Q (.ref s.heap.objs.size) {s with heap:=s.heap.push {cls:=.type "tuple",data:=.seq (vs++ws).toArray}})
  (hsz:vs.length+ws.length<=sizeLine):wpAny (model prog w) A (binaryOp .Add (.ref t) (.ref b)) Q E s:=by
 obtain⟨⟨cls,dd,data,sl⟩,ho,hc,n,hd⟩:=id ht
 obtain⟨⟨cls2,dd2,data2,sl2⟩,ho2,hc2,n2,hd2⟩:=id hb
 simp only at hc hd hc2 hd2
 subst hc hd hc2 hd2
 have e:vs.toArray++ws.toArray=(vs++ws).toArray:=by simp
 by_cases hw:ws=[]
 ·exact concat_meets ⟨_,ho,rfl⟩ ⟨_,ho2,rfl⟩ noFill_tuple_add seq_tuple_add Zvv Zw1 (Zw4 _ _)
   (tuple_addW1 t b vs.toArray ws.toArray n n2 dd dd2 sl sl2 (by simpa using hv) (by simp[hw])) ⟨ho,ho2,h1 hw⟩
 ·refine concat_meets ⟨_,ho,rfl⟩ ⟨_,ho2,rfl⟩ noFill_tuple_add seq_tuple_add Zvv Zw1 (Zw4 _ _)
   (tuple_addW2 t b vs.toArray ws.toArray n n2 dd dd2 sl sl2 (by simpa using hv) (by simpa using hw) (by rw[Zzn,Zzn];exact hsz)) ⟨ho,ho2,?_⟩
  rw[e]
  exact h2 hw
def sIx(n d:Nat):Option Int->Nat
 |none=>d
 |some v=>if v<0 then (v+(n:Int)).toNat else min v.toNat n
theorem cb(n d:Nat)(hd:d<=n)(o:Option Int):sIx n d o<=n:=by
 cases o with
 |none=>exact hd
 |some v =>
  show (if v<0 then (v+(n:Int)).toNat else min v.toNat n)<=n
  by_cases hv:v<0
  ·rw[if_pos hv];omega
  ·rw[if_neg hv];exact Nat.min_le_right _ _
theorem Vs(v:Int)(n d:Nat):(if v<0 then max (v+(n:Int)) 0 else min v (n:Int))=((sIx n d (some v):Nat):Int):=by
 show (if v<0 then max (v+(n:Int)) 0 else min v (n:Int))=(((if v<0 then (v+(n:Int)).toNat else min v.toNat n):Nat):Int)
 by_cases hv:v<0
 ·simp only[if_pos hv];omega
 ·simp only[if_neg hv];omega
theorem V2(lo hi:Option Int)(n:Nat):Zw9 lo hi 1 (n:Int)=(((sIx n 0 lo:Nat):Int),((sIx n n hi:Nat):Int)):=by
 have h1:¬ ((1:Int)<0):=by omega
 unfold Zw9
 simp only[h1,if_false]
 refine Prod.ext ?_ ?_
 ·cases lo with
  |none=>rfl
  |some v=>exact Vs v n 0
 ·cases hi with
  |none=>rfl
  |some v=>exact Vs v n n
theorem U8(i j:Nat):Zwu (i:Int) (j:Int) 1=j - i:=by
 unfold Zwu
 have h1:(1:Int) > 0:=by omega
 simp only[h1,if_true,Int.ediv_one]
 split<;>omega
theorem O8{v:Value}{o:Option Int}{Q:Option Int->Shared->Prop}(p:IsPart v o)(h:Q o s):wpAny (model prog w) A (Builtin.Slice.slicePartIndex v) Q E s:=by
 cases p with
 |none=>exact slicePart_none h
 |int i t=>exact slicePart_int h
theorem Ky{sl:Addr}{vl vu:Value}{lo hi:Option Int}{n:Nat}{Q:Int×Int×Nat->Shared->Prop}(hs:s.heap.IsSliceOf sl vl vu .none)(pl:IsPart vl lo)(pu:IsPart vu hi)
  (h:Q (((sIx n 0 lo:Nat):Int),1,sIx n n hi - sIx n 0 lo) s):wpAny (model prog w) A (Builtin.Slice.sliceApplied (.ref sl) (pure (n:Int))) Q E s:=by
 obtain⟨os,hos,hcs,hds⟩:=id hs
 unfold Builtin.Slice.sliceApplied Builtin.Slice.sliceFields
 refine wpAny_bind (wpAny_bind (wpAny_field hos hds (x:=vl) rfl (wpAny_bind (wpAny_field hos hds (x:=vu) rfl (wpAny_bind (wpAny_field hos hds (x:=.none) rfl (wpAny_pure ?_)))))))
 refine wpAny_bind (slicePart_none ?_)
 show wpAny _ _ (if ((1:Int) == 0)=true then _ else _) _ _ s
 rw[if_neg (by decide)]
 refine wpAny_bind (O8 pl (wpAny_bind (O8 pu (wpAny_bind (wpAny_pure ?_)))))
 show wpAny _ _ (match Zw9 lo hi 1 (n:Int) with | (lo,hi)=>pure (lo,(1:Int),Zwu lo hi 1)) _ _ s
 rw[V2 lo hi n]
 show wpAny _ _ (pure (((sIx n 0 lo:Nat):Int),(1:Int),Zwu ((sIx n 0 lo:Nat):Int) ((sIx n n hi:Nat):Int) 1)) _ _ s
 rw[U8]
 exact wpAny_pure h
theorem Xh(xs:Array Value)(i k:Nat):((Zx2 k).filterMap λ(m:Nat)=>xs[((i:Int)+(m:Int)*1).toNat]?).toArray=((xs.toList.drop i).take k).toArray:=by
 have e:(λ(m:Nat)=>xs[((i:Int)+(m:Int)*1).toNat]?)=λm=>xs[i+m]?:=by
  funext m
  have:((i:Int)+(m:Int)*1).toNat=i+m:=by omega
  rw[this]
 rw[e]
 have:=pick_run xs i k
 rw[List.filterMap_map] at this
 have e2:((λx=>xs[x]?)∘λx=>i+x)=λm=>xs[i+m]?:=rfl
 rw[e2] at this
 rw[this]
theorem N1{t sl:Addr}{items:Array Value}{vl vu:Value}{lo hi:Option Int}{Q:Value->Shared->Prop}(ht:IsTup s.heap t items)(hs:s.heap.IsSliceOf sl vl vu .none)(pl:IsPart vl lo)(pu:IsPart vu hi)
  (hw:¬ (sIx items.size 0 lo=0/\sIx items.size items.size hi=items.size))
  (h:Q (.ref s.heap.objs.size) {s with heap:=s.heap.push {cls:=.type "tuple",data:=.seq ((items.toList.drop (sIx items.size 0 lo)).take (sIx items.size items.size hi - sIx items.size 0 lo)).toArray}})
  (hsz:items.size<=sizeLine):wpAny (model prog w) A (getItem (.ref t) (.ref sl)) Q E s:=by
 have htake:sizeOk (.seq ((items.toList.drop (sIx items.size 0 lo)).take (sIx items.size items.size hi - sIx items.size 0 lo)).toArray):=by
  show ((items.toList.drop (sIx items.size 0 lo)).take (sIx items.size items.size hi - sIx items.size 0 lo)).toArray.size<=sizeLine
  rw[Zzn,Zyg,Zxp,Zxd]
  omega
 have hj:sIx items.size items.size hi<=items.size:=cb _ _ (Zzt _) hi
 obtain⟨os,hos,hcs,hds⟩:=id hs
 have hTs:s.TypeIs (.ref sl) "slice" := ⟨os,hos,hcs⟩
 unfold getItem
 try with_reducible refine wpAny_holding ?_
 first | refine wpAny_bind (wpAny_pure ?_) | skip
 refine wpAny_bind (wpAny_sequenceKey ht.typeIs (by decide) ?_)
 refine wpAny_bind (wpAny_callSpecial?_slot (name:=Str.ofString "__getitem__") ht.typeIs Zxr
  (wpAny_call_entry Zxr ht.typeIs entry_tuple_getitem ?_ (args_tuple_getitem _ _)))
 show wpAny _ _ (Builtin.Tuple.tupleItemsOf (.ref t) >>= _) _ _ s
 refine wpAny_bind (tupleItemsOf_ ht ?_)
 refine wpAny_bind (wpAny_typeOf hTs ?_)
 rw[if_pos (by decide)]
 refine wpAny_bind (Ky hs pl pu ?_)
 have hno:¬ ((((sIx items.size 0 lo:Nat):Int) == 0&&(1:Int) == 1&&(sIx items.size items.size hi - sIx items.size 0 lo) == items.size)=true):=by
  intro q
  rw[Zzf,Zzf] at q
  have q1:((sIx items.size 0 lo:Nat):Int)=0:=eq_of_beq q.1.1
  have q2:sIx items.size items.size hi - sIx items.size 0 lo=items.size:=eq_of_beq q.2
  exact hw ⟨by omega,by omega⟩
 show wpAny _ _ (if (((sIx items.size 0 lo:Nat):Int) == 0&&(1:Int) == 1&&(sIx items.size items.size hi - sIx items.size 0 lo) == items.size)=true then _ else _) _ _ s
 rw[if_neg hno,Xh]
 first
  |exact wpAny_bind (m:=Zwr _) (wpAny_newObj_type (wpAny_pure ⟨_,rfl,wpAny_pure h⟩) htake)
  |exact wpAny_bind (m:=Zwr _) (wpAny_newObj_type (wpAny_bind (wpAny_pure (wpAny_pure ⟨_,rfl,wpAny_pure h⟩))) htake)
  |exact wpAny_bind (wpAny_bind (m:=Zwr _) (wpAny_newObj_type (wpAny_pure (wpAny_pure ⟨_,rfl,wpAny_pure h⟩)) htake))
  |exact wpAny_bind (wpAny_bind (m:=Zwr _) (wpAny_newObj_type (wpAny_pure ⟨_,rfl,wpAny_pure h⟩) htake))
end
end HT
namespace L2
open PySem PySem.Spec PyProof.Rows
abbrev TO:=St->Hp->(Option Int->Hp->Prop)->Prop
def PO(X:Cx)(e:Option Expr)(t:TO):Prop :=
 ∀(pins:List (Addr×Obj)) (s:Shared) (Z:St) (H:Hp) (Q:Option Int->Hp->Prop),Inv X pins Z H s->t Z H Q ->
  wpAny (model X.prog X.w) X.A (evalPart e X.env) (λu s'=>∃o H',Inv X pins Z H' s'/\IsPart u o/\Q o H') X.xe s
def tNoPart:TO:=λ_ H Q=>Q none H
def Dq(t:TE):TO:=λZ H Q=>t Z H λx H1=>∃i,x=.int i/\Q (some i) H1
section
variable {X:Cx}{e:Expr}{te:TE}{lo hi:Option Expr}{tl th:TO}{pos p2:Pos}
theorem Fy:PO X none tNoPart:=by
 intro pins s Z H Q I h
 rw[evalPart_none]
 exact wpAny_pure ⟨none,H,I,.none,h⟩
theorem Dd(h:PE X e te):PO X (some e) (Dq te):=by
 intro pins s Z H Q I hw
 rw[evalPart_some]
 refine thn (h pins s Z H _ I hw) λu s1 z0=>?_
 obtain⟨x,H1,I1,r1,q1⟩:=z0
 obtain⟨i,rfl,q⟩:=q1
 obtain⟨t,rfl⟩:=r1
 exact⟨some i,H1,I1,.int i t,q⟩
def SlR(X:Cx)(r:V->Option Int->Option Int->Hp->VK->Prop):Prop :=
 ∀(pins:List (Addr×Obj)) (s:Shared) (Z:St) (H:Hp) (x:V) (v vl vu:Value) (lo hi:Option Int) (sl:Addr) (Q:VK),Inv X pins Z H s->RelV x v->s.heap.IsSliceOf sl vl vu .none->IsPart vl lo->IsPart vu hi->r x lo hi H Q ->
  ∃T id,typeLookup (.type T) "__getitem__" = pure (some (.builtin id))/\s.TypeIs v T/\wpAny (model X.prog X.w) X.A (getItem v (.ref sl)) (EP X pins Z Q) X.xe s
def tSl(r:V->Option Int->Option Int->Hp->VK->Prop)(te:TE)(tl th:TO):TE:=λZ H Q=>te Z H λx H1=>tl Z H1 λl H2=>th Z H2 λu H3=>r x l u H3 Q
theorem De{r:V->Option Int->Option Int->Hp->VK->Prop}(hr:SlR X r)(he:PE X e te)(hl:PO X lo tl)(hu:PO X hi th):PE X (.Subscript e (.Slice lo hi none p2) pos) (tSl r te tl th):=by
 intro pins s Z H Q I h
 refine Subscript_ (thn (he pins s Z H _ I h) λv s1 z0=>?_)
 obtain⟨x,H1,I1,r1,q1⟩:=z0
 refine wpAny_Slice (thn (hl pins s1 Z H1 _ I1 q1) λvl s2 ⟨l,H2,I2,pl,q2⟩=>thn (hu pins s2 Z H2 _ I2 q2) λvu s3 z0=>?_)
 obtain⟨u,H3,I3,pu,q3⟩:=z0
 rw[evalPart_none]
 refine wpAny_pure ?_
 have I4:Inv X pins Z H3 {s3 with heap:=s3.heap.push {cls:=.type "slice",data:=.fields #[vl,vu,.none]}}:=I3.kept (t':=s3.toks) λb ob q=>Zzj _ q
 obtain⟨T,id,hT,ht,hg⟩:=hr pins {s3 with heap:=s3.heap.push {cls:=.type "slice",data:=.fields #[vl,vu,.none]}} Z H3 x v vl vu l u s3.heap.objs.size Q I4 r1 (Heap.IsSliceOf.new ..) pl pu q3
 show wpAny (model X.prog X.w) X.A (subscriptTail e (.Slice lo hi none p2) v (.ref s3.heap.objs.size)) (EP X pins Z Q) X.xe {s3 with heap:=s3.heap.push {cls:=.type "slice",data:=.fields #[vl,vu,.none]}}
 exact tail_any (ops:=[.ref s3.heap.objs.size,v]) ht hT hg (by with_unfolding_all rfl)
def Hz(xs:List V)(lo hi:Option Int):List V:=(xs.drop (HT.sIx xs.length 0 lo)).take (HT.sIx xs.length xs.length hi - HT.sIx xs.length 0 lo)
theorem Kr(xs:List V)(lo hi:Option Int):(Hz xs lo hi).length<=xs.length:=by
 unfold Hz
 rw[Zyg,Zxp]
 omega
def rSlT(K:Zzx):V->Option Int->Option Int->Hp->VK->Prop:=λx lo hi H Q=>∃a xs,x=.ref a/\SqT K H a xs /\
 ¬ (HT.sIx xs.length 0 lo=0/\HT.sIx xs.length xs.length hi=xs.length)/\∀p,H p=none->Q (.ref p) (upd H p (.tup (Hz xs lo hi)))
theorem bx:SlR X (rSlT X.K):=by
 intro pins s Z H x v vl vu lo hi sl Q I rx hs pl pu h
 obtain⟨a,xs,rfl,hx,hw,q⟩:=h
 cases rx
 obtain⟨its,r,ht,hz⟩:=I.tuple hx
 have hlen:its.toArray.size=xs.length:=by rw[Zzn];exact r.length.symm
 refine⟨"tuple",_,Zxr.lookup,ht.typeIs,?_⟩
 refine HT.N1 ht hs pl pu (by rw[hlen];exact hw) ?_ (by rw[hlen];exact hz)
 rw[hlen]
 refine⟨.ref s.heap.objs.size,_,I.laid (t':=s.toks) (o:=.tup (Hz xs lo hi)) (λb ob q=>Zzj _ q) (Zzt _) ?_,rfl,q _ (I.hok.fresh (Zzt _))⟩
 exact⟨Zyu (Kr xs lo hi) hz,_,(r.drop (HT.sIx xs.length 0 lo)).take (HT.sIx xs.length xs.length hi - HT.sIx xs.length 0 lo),IsTup.new _ _⟩
def Ho(K:Zzx):R2:=λx y H Q=>∃a b ns ms,x=.ref a/\y=.ref b/\SqT K H a (ns.map V.int)/\SqT K H b (ms.map V.int)/\Q (.bl (HT.bj ns ms)) H
def fe(K:Zzx):R2:=λx y H Q=>∃a b xs ys,x=.ref a/\y=.ref b/\SqT K H a xs/\SqT K H b ys/\xs≠[]/\xs.length+ys.length<=sizeLine /\
 (ys=[]->Q (.ref a) H)/\(ys≠[]->∀p,H p=none->Q (.ref p) (upd H p (.tup (xs++ys))))
theorem Vals.nil_iff{xs:List V}{us:List Value}(r:Vals xs us):us=[]↔xs=[]:=by
 cases r with
 |nil=>simp
 |cons _ _=>simp
theorem Zj:OpR X (binaryOp .Add) (fe X.K):=by
 intro pins s Z H x y v u Q I rx ry h
 obtain⟨a,b,xs,ys,rfl,rfl,ha,hb,hx,hz,q1,q2⟩:=h
 cases rx
 cases ry
 obtain⟨its,r1,p1,_⟩:=I.tuple ha
 obtain⟨its2,r2,p2,_⟩:=I.tuple hb
 refine HT.ag p1 p2 (λz=>hx (r1.nil_iff.mp z)) (λz=>⟨.ref a,H,I,rfl,q1 (r2.nil_iff.mp z)⟩) (λz=>?_) (by rw[<- r1.length,<- r2.length];exact hz)
 refine⟨.ref s.heap.objs.size,_,I.laid (t':=s.toks) (o:=.tup (xs++ys)) (λb ob q=>Zzj _ q) (Zzt _) ?_,rfl,q2 (λw=>z (r2.nil_iff.mpr w)) _ (I.hok.fresh (Zzt _))⟩
 exact⟨by rw[Zzh];exact hz,_,r1.append r2,IsTup.new _ _⟩
end
def ixN(n:Nat)(i:Int):Option Nat:=if 0<=i then (if i<n then some i.toNat else none) else if -(n:Int)<=i then some (i+n).toNat else none
def atI{α:Type}(xs:List α)(i:Int):Option α:=(ixN xs.length i).bind λj=>xs[j]?
theorem Vj{n:Nat}{i:Int}{j:Nat}(h:ixN n i=some j):seqIndex? i n=some j/\j<n/\-(n:Int)<=i/\i<n:=by
 unfold ixN at h
 by_cases h0:0<=i
 ·rw[if_pos h0] at h
  by_cases h1:i<n
  ·rw[if_pos h1] at h
   have e:i.toNat=j:=Zyk h
   exact⟨by rw[seqIndex_of h0 h1,e],by omega,by omega,h1⟩
  ·rw[if_neg h1] at h;cases h
 ·rw[if_neg h0] at h
  by_cases h1:-(n:Int)<=i
  ·rw[if_pos h1] at h
   have e:(i+n).toNat=j:=Zyk h
   exact⟨by rw[seqIndex_neg (by omega) h1,e],by omega,h1,by omega⟩
  ·rw[if_neg h1] at h;cases h
theorem S5{α:Type}{xs:List α}{i:Int}{v:α}(h:atI xs i=some v):∃j,seqIndex? i xs.length=some j/\xs[j]?=some v/\j<xs.length/\-(xs.length:Int)<=i/\i<xs.length:=by
 unfold atI at h
 cases e:ixN xs.length i with
 |none=>rw[e] at h;cases h
 |some j =>
  rw[e] at h
  obtain⟨h1,h2,h3,h4⟩:=Vj e
  exact⟨j,h1,h,h2,h3,h4⟩
theorem Ma{α:Type}{xs:List α}{j:Nat}{v:α}(h:xs[j]?=some v):atI xs (j:Int)=some v:=by
 have hj:j<xs.length:=(Zy1.mp h).1
 have e:ixN xs.length (j:Int)=some j:=by
  unfold ixN
  rw[if_pos (by omega),if_pos (by omega)];simp
 unfold atI;rw[e];exact h
def Vv(b:Expr):Prop:=∀o i,subscripted b false o i=operate [o,i] (getItem o i)
def IxR(X:Cx)(r:R2):Prop :=
 ∀(value slice:Expr) (pins:List (Addr×Obj)) (s:Shared) (Z:St) (H:Hp) (x y:V) (v u:Value) (Q:VK),Inv X pins Z H s->RelV x v->RelV y u->r x y H Q ->
  subscripted slice false v u=operate [v,u] (getItem v u)->wpAny (model X.prog X.w) X.A (subscriptTail value slice v u) (EP X pins Z Q) X.xe s
def MtR(X:Cx)(id:String)(r:V->List V->Hp->VK->Prop):Prop :=
 ∀(pins:List (Addr×Obj)) (s:Shared) (Z:St) (H:Hp) (x:V) (xs:List V) (v:Value) (us:List Value) (Q:VK),Inv X pins Z H s->RelV x v->Vals xs us->r x xs H Q ->
  wpAny (model X.prog X.w) X.A (call (.builtin id) (v::us)) (EP X pins Z Q) X.xe s
section
variable {X:Cx}{a b:Expr}{ta tb:TE}{pos:Pos}
theorem Xj{r:R2}(hr:IxR X r)(ha:PE X a ta)(hb:PE X b tb)(hs:Vv b):PE X (.Subscript a b pos) (tOp r ta tb):=by
 intro pins s Z H Q I h
 exact Subscript_ (dq ha hb I h λv u s2 x y H2 I2 rx ry q=>hr a b pins s2 Z H2 x y v u Q I2 rx ry q (hs _ _))
def fc(K:Zzx):R2:=λx y H Q=>∃p xs i v,x=.ref p/\y=.int i/\SqL K H p xs/\atI xs i=some v/\Q v H
def rIxT(K:Zzx):R2:=λx y H Q=>∃p xs i v,x=.ref p/\y=.int i/\SqT K H p xs/\atI xs i=some v/\Q v H
def rIxS:R2:=λx y H Q=>∃z i c,x=.str z/\y=.int i/\z.length<=sizeLine/\atI z.cps.toList i=some c/\Q (.str ⟨#[c]⟩) H
theorem Rv:IxR X (fc X.K):=by
 intro value slice pins s Z H x y v u Q I rx ry h hs
 obtain⟨p,xs,i,z,rfl,rfl,hq,he,q⟩:=h
 cases rx
 obtain⟨t,rfl⟩:=ry
 obtain⟨its,r,pl,hz⟩:=I.list hq
 obtain⟨j,h1,h2,h3,h4,h5⟩:=S5 he
 obtain⟨w,ew,rw'⟩:=r.get h2
 have hl:=r.length
 have hn:=Na
 have fin:EP X pins Z Q w s:=⟨z,H,I,rw',q⟩
 by_cases h0:0<=i
 ·have hj:i.toNat=j:=by
   rw[seqIndex_of h0 h5] at h1
   exact Zyk h1
  exact item_listR pl.isList h0 (by omega) (by rw[hj];simpa using ew) fin hs
 ·have hj:(i+(its.toArray.size:Int)).toNat=j:=by
   rw[seqIndex_neg (by omega) h4] at h1
   rw[Zzn,<- hl]
   exact Zyk h1
  exact subscriptTail_builtinR (x:=w) pl.isList.typeIs slot_list_getitem.lookup
   (wpAny_getItem_list_neg (Q:=λr s'=>r=w/\EP X pins Z Q r s') pl.isList (by omega) (by rw[Zzn]<;>omega) (by omega) (by rw[hj];simpa using ew) ⟨rfl,fin⟩) hs
theorem de:IxR X (rIxT X.K):=by
 intro value slice pins s Z H x y v u Q I rx ry h hs
 obtain⟨p,xs,i,z,rfl,rfl,hq,he,q⟩:=h
 cases rx
 obtain⟨t,rfl⟩:=ry
 obtain⟨its,r,pl,hz⟩:=I.tuple hq
 obtain⟨j,h1,h2,h3,h4,h5⟩:=S5 he
 obtain⟨w,ew,rw'⟩:=r.get h2
 have hl:=r.length
 have hn:=Na
 have fin:EP X pins Z Q w s:=⟨z,H,I,rw',q⟩
 exact subscriptTail_builtinR (x:=w) pl.typeIs slot_tuple_getitem.lookup
  (getItem_tuple (j:=j) (Q:=λr s'=>r=w/\EP X pins Z Q r s') pl (by omega) (by omega) (by rw[Zzn,<- hl];exact h1) (by simpa using ew) ⟨rfl,fin⟩) hs
theorem df:IxR X rIxS:=by
 intro value slice pins s Z H x y v u Q I rx ry h hs
 obtain⟨z,i,c,rfl,rfl,hz,he,q⟩:=h
 obtain⟨t,rfl⟩:=rx
 obtain⟨t',rfl⟩:=ry
 obtain⟨j,h1,h2,h3,h4,h5⟩:=S5 he
 have hl:z.cps.toList.length=z.length:=by simp[Str.length]
 rw[hl] at h1 h4 h5
 have hn:=Na
 exact tail_any (typeIs_str s z t) slot_str_getitem.lookup (getItem_str (c:=c) (by
  have e1:decide (i < -(2^63:Int))=false:=decide_eq_false (by omega)
  have e2:decide (i≥2^63)=false:=decide_eq_false (by omega)
  rw[e1,e2,Bool.or_false]) (by rw[h1];simpa using h2) ⟨.str ⟨#[c]⟩,H,I.tok _,⟨_,rfl⟩,q⟩) hs
theorem Ul(its:List Value)(n j:Nat)(u:Value):Obj.mapSeq (·.setIfInBounds j u) {cls:=.type "list",data:=.seq its.toArray n}={cls:=.type "list",data:=.seq (its.set j u).toArray n}:=by
 simp[Obj.mapSeq]
theorem Inv.lst{pins:List (Addr×Obj)}{Z:St}{H:Hp}{s:Shared}{p:Addr}{xs:List V}(I:Inv X pins Z H s)(h:H p=some (.lst xs)) :
  ∃(its:List Value) (n:Nat),Vals xs its/\s.heap.get? p=some {cls:=.type "list",data:=.seq its.toArray n}/\xs.length<=sizeLine:=by
 obtain⟨z,its,n,r,e⟩:=I.hok p _ h
 exact⟨its,n,r,e,z⟩
theorem Inv.lstUpd{pins:List (Addr×Obj)}{Z:St}{H:Hp}{s:Shared}{p:Addr}{xs ys:List V}{its its':List Value}{n n':Nat}{f:Obj->Obj}(I:Inv X pins Z H s)(h:H p=some (.lst xs))
  (ho:s.heap.get? p=some {cls:=.type "list",data:=.seq its.toArray n}) (hf:f {cls:=.type "list",data:=.seq its.toArray n}={cls:=.type "list",data:=.seq its'.toArray n'}) (r:Vals ys its') (hz:ys.length<=sizeLine) (t:Nat) :
  Inv X pins Z (upd H p (.lst ys)) {s with heap:=s.heap.update p f,toks:=t}:=by
 have e:(s.heap.update p f).get? p=some {cls:=.type "list",data:=.seq its'.toArray n'}:=by
  rw[Zvm f ho (by rw[hf]<;>rfl),hf]
 refine I.write (x:=p) (e:=p) (by rw[h];trivial) (.inl rfl) (λb u hb q=>(Zxb _ _ (Zyj hb)).trans q) ⟨_,e⟩ ?_
 exact⟨hz,its',n',r,e⟩
def rSetL:V->V->V->Hp->(Hp->Prop)->Prop:=λo i v H Q=>∃p xs k j,o=.ref p/\i=.int k/\H p=some (.lst xs)/\ixN xs.length k=some j/\Q (upd H p (.lst (xs.set j v)))
theorem Js:gq X rSetL:=by
 intro pins s Z H o i v ov iv u Q I ro ri rv h
 obtain⟨p,xs,k,j,rfl,rfl,hp,hj,q⟩:=h
 cases ro
 obtain⟨t,rfl⟩:=ri
 obtain⟨its,n,r,ho,hz⟩:=I.lst hp
 obtain⟨h1,h2,h3,h4⟩:=Vj hj
 have hl:=r.length
 have hn:=Na
 have I':Inv X pins Z (upd H p (.lst (xs.set j v))) {s with heap:=s.heap.update p (Obj.mapSeq (·.setIfInBounds j u))} :=
  I.lstUpd hp ho (Ul its n j u) (r.set rv j) (by rw[Zw8];exact hz) s.toks
 by_cases h0:0<=k
 ·have hk:k.toNat=j:=by
   rw[seqIndex_of h0 h4] at h1
   exact Zyk h1
  exact PySem.W.ki_setAt ho h0 (by omega) (by rw[Zzn,<- hl];exact h4) (by rw[hk];exact⟨_,I',q⟩)
 ·have hk:(k+(its.toArray.size:Int)).toNat=j:=by
   rw[seqIndex_neg (by omega) h3] at h1
   rw[Zzn,<- hl]
   exact Zyk h1
  exact PySem.W.ki_setBack ho (by omega) (by rw[Zzn,<- hl];exact h3) (by omega) (by rw[hk];exact⟨_,I',q⟩)
theorem Qs(lo hi:Option Int)(n:Nat):(sliceBounds lo hi none n).1=((HT.sIx n 0 lo:Nat):Int)/\(sliceBounds lo hi none n).2.1=((HT.sIx n n hi:Nat):Int)/\(sliceBounds lo hi none n).2.2=1:=by
 refine⟨?_,?_,rfl⟩
 ·cases lo with
  |none=>simp[sliceBounds,HT.sIx]
  |some i =>
   simp only[sliceBounds,HT.sIx,Option.getD_none,show (1:Int) > 0 by decide,if_true]
   by_cases h:i<0
   ·simp only[h,if_true]<;>omega
   ·simp only[h,if_false]<;>omega
 ·cases hi with
  |none=>simp[sliceBounds,HT.sIx]
  |some i =>
   simp only[sliceBounds,HT.sIx,Option.getD_none,show (1:Int) > 0 by decide,if_true]
   by_cases h:i<0
   ·simp only[h,if_true]<;>omega
   ·simp only[h,if_false]<;>omega
theorem P8(its:List Value)(lo hi:Option Int):slicePick its.toArray lo hi none=((its.drop (HT.sIx its.length 0 lo)).take (HT.sIx its.length its.length hi - HT.sIx its.length 0 lo)).toArray:=by
 obtain⟨h1,h2,h3⟩:=Qs lo hi its.toArray.size
 unfold slicePick
 rw[h1,h2,h3]
 simp only[sliceRange_one,pick_run,Zzn]<;>rfl
def ck(K:Zzx):V->Option Int->Option Int->Hp->VK->Prop:=λx lo hi H Q=>∃a xs,x=.ref a/\SqL K H a xs/\∀p,H p=none->Q (.ref p) (upd H p (.lst (Hz xs lo hi)))
theorem Qt:SlR X (ck X.K):=by
 intro pins s Z H x v vl vu lo hi sl Q I rx hs pl pu h
 obtain⟨a,xs,rfl,hx,q⟩:=h
 cases rx
 obtain⟨its,r,ht,hz⟩:=I.list hx
 have hlen:=r.length
 refine⟨"list",_,slot_list_getitem.lookup,ht.isList.typeIs,?_⟩
 refine wpAny_getItem_list_slice ht.isList hs pl pu .none (by simp) ?_ (by rw[Zzn]<;>omega)
 rw[P8,<- hlen]
 refine⟨.ref s.heap.objs.size,_,I.laid (t':=s.toks) (o:=.lst (Hz xs lo hi)) (λb ob q=>Zzj _ q) (Zzt _) ?_,rfl,q _ (I.hok.fresh (Zzt _))⟩
 exact⟨Zyu (Kr xs lo hi) hz,_,0,(r.drop (HT.sIx xs.length 0 lo)).take (HT.sIx xs.length xs.length hi - HT.sIx xs.length 0 lo),Zyn _ rfl⟩
def Kk:V->Bool
 |.non=>true
 |.bl _=>true
 |.int _=>true
 |.str _=>true
 |_=>false
def eqV:V->V->Bool
 |.non,.non=>true
 |.bl a,.bl b=>a == b
 |.bl a,.int b=>(if a then 1 else 0) == b
 |.int a,.bl b=>a == (if b then 1 else 0)
 |.int a,.int b=>a == b
 |.str a,.str b=>a == b
 |_,_=>false
theorem dh{A:Around}{s:Shared}{y x:V}{u v:Value}(ry:RelV y u)(rx:RelV x v)(fy:Kk y=true)(fx:Kk x=true):SeqAt.EqAt A s u v (eqV y x):=by
 cases y with
 |non =>
  cases ry
  cases x with
  |non=>cases rx;exact SeqAt.EqAt.same _
  |bl b=>cases rx;exact SeqAt.EqAt.none_bool b
  |int b=>obtain⟨t,rfl⟩:=rx;exact SeqAt.EqAt.none_int b t
  |str b=>obtain⟨t,rfl⟩:=rx;exact SeqAt.EqAt.none_str b t
  |_=>exact absurd (show false=true from fx) Zz4
 |bl a =>
  cases ry
  cases x with
  |non=>cases rx;exact SeqAt.EqAt.bool_none a
  |bl b=>cases rx;exact SeqAt.EqAt.bool_bool a b
  |int b=>obtain⟨t,rfl⟩:=rx;exact SeqAt.EqAt.bool_int a b t
  |str b=>obtain⟨t,rfl⟩:=rx;exact SeqAt.EqAt.bool_str a b t
  |_=>exact absurd (show false=true from fx) Zz4
 |int a =>
  obtain⟨t',rfl⟩:=ry
  cases x with
  |non=>cases rx;exact SeqAt.EqAt.int_none a t'
  |bl b=>cases rx;exact SeqAt.EqAt.int_bool a t' b
  |int b=>obtain⟨t,rfl⟩:=rx;exact SeqAt.EqAt.int_int a t' b t
  |str b=>obtain⟨t,rfl⟩:=rx;exact SeqAt.EqAt.int_str a t' b t
  |_=>exact absurd (show false=true from fx) Zz4
 |str a =>
  obtain⟨t',rfl⟩:=ry
  cases x with
  |non=>cases rx;exact SeqAt.EqAt.str_none a t'
  |bl b=>cases rx;exact SeqAt.EqAt.str_bool a t' b
  |int b=>obtain⟨t,rfl⟩:=rx;exact SeqAt.EqAt.str_int a t' b t
  |str b=>obtain⟨t,rfl⟩:=rx;exact SeqAt.EqAt.str_str a t' b t
  |_=>exact absurd (show false=true from fx) Zz4
 |_=>exact absurd (show false=true from fy) Zz4
def eqU(x:V)(u:Value):Bool:=match u with
 |.none=>eqV .non x
 |.bool b=>eqV (.bl b) x
 |.int i _=>eqV (.int i) x
 |.str z _=>eqV (.str z) x
 |_=>false
theorem Uu{x y:V}{u:Value}(r:RelV y u)(f:Kk y=true):eqU x u=eqV y x:=by
 cases y with
 |non=>cases r;rfl
 |bl b=>cases r;rfl
 |int i=>obtain⟨t,rfl⟩:=r;rfl
 |str z=>obtain⟨t,rfl⟩:=r;rfl
 |_=>exact absurd (show false=true from f) Zz4
theorem S6{x:V}:∀{xs:List V} {us:List Value},Vals xs us->xs.all Kk=true->us.any (eqU x)=xs.any λy=>eqV y x
 |_,_,.nil,_=>rfl
 |y::xs,u::us,.cons r t,f=>by
  rw[Zwl,Zzf] at f
  rw[List.any_cons,List.any_cons,Uu r f.1,S6 t f.2]
theorem Mv{A:Around}{s:Shared}{x:V}{v:Value}(rx:RelV x v)(fx:Kk x=true):∀{xs:List V} {us:List Value},Vals xs us->xs.all Kk=true->∀u∈us,SeqAt.EqAt A s u v (eqU x u)
 |_,_,.nil,_=>λu hu=>by cases hu
 |y::xs,u::us,.cons r t,f=>λu' hu=>by
  rw[Zwl,Zzf] at f
  rcases Zzw.mp hu with rfl | hu
  ·rw[Uu r f.1];exact dh r rx f.1 fx
  ·exact Mv rx fx t f.2 u' hu
def inV(x:V)(xs:List V):Bool:=xs.any λy=>eqV y x
def rIn(K:Zzx)(neg:Bool):R2:=λx y H Q=>∃p xs,y=.ref p/\(SqL K H p xs\/SqT K H p xs)/\Kk x=true/\xs.all Kk=true/\Q (.bl (if neg then !inV x xs else inV x xs)) H
theorem W5:OpR X (compareOp .In) (rIn X.K false):=by
 intro pins s Z H x y v u Q I rx ry h
 obtain⟨p,xs,rfl,hq,fx,fs,q⟩:=h
 cases ry
 rcases hq with hq | hq
 ·obtain⟨its,r,pl,hz⟩:=I.list hq
  refine SeqAt.in_listAt (eqU x) pl.isList (λw hw=>Mv rx fx r fs w (by simpa using hw)) ⟨.bl _,H,I,rfl,?_⟩
  rw[show its.toArray.any (eqU x)=its.any (eqU x) by simp,S6 r fs]
  exact q
 ·obtain⟨its,r,pl,hz⟩:=I.tuple hq
  refine SeqAt.in_tupleAt (eqU x) pl (λw hw=>Mv rx fx r fs w (by simpa using hw)) ⟨.bl _,H,I,rfl,?_⟩
  rw[show its.toArray.any (eqU x)=its.any (eqU x) by simp,S6 r fs]
  exact q
theorem Lh:CallR X (.builtin "len") (λxs H Q=>∃p ys,xs=[.ref p]/\(SqL X.K H p ys\/SqT X.K H p ys)/\Q (.int ys.length) H):=by
 intro pins s Z H xs us Q I r h
 obtain⟨p,ys,rfl,hq,q⟩:=h
 obtain⟨u,rfl,rx⟩:=Ll r
 cases rx
 have hn:=Na
 rcases hq with hq | hq
 ·obtain⟨its,r',pl,hz⟩:=I.list hq
  have hlen:=r'.length
  exact Calls.call_len_list pl.isList (by simp only[Zzn]<;>omega) ⟨.int ys.length,H,I.tok _,⟨s.toks+1,by rw[Zzn,hlen]⟩,q⟩
 ·obtain⟨its,r',pl,hz⟩:=I.tuple hq
  have hlen:=r'.length
  exact len_tuple pl (by simp only[Zzn]<;>omega) ⟨.int ys.length,H,I.tok _,⟨s.toks+1,by rw[Zzn,hlen]⟩,q⟩
theorem S2:CallR X (.builtin "len") (λxs H Q=>∃z,xs=[.str z]/\z.length<=sizeLine/\Q (.int z.length) H):=by
 intro pins s Z H xs us Q I r h
 obtain⟨z,rfl,hz,q⟩:=h
 obtain⟨u,rfl,t,rfl⟩:=Ll r
 have hn:=Na
 exact len_str (by omega) ⟨.int z.length,H,I.tok _,⟨_,rfl⟩,q⟩
theorem S1:CallR X (.type "list") (λxs H Q=>∃p ys,xs=[.ref p]/\(SqL X.K H p ys\/SqT X.K H p ys)/\∀l,H l=none->Q (.ref l) (upd H l (.lst ys))):=by
 intro pins s Z H xs us Q I r h
 obtain⟨p,ys,rfl,hq,q⟩:=h
 obtain⟨u,rfl,rx⟩:=Ll r
 cases rx
 have fin:∀(its:List Value),Vals ys its->ys.length<=sizeLine->∀(h':Heap) (c':Nat),(∀b o',s.heap.get? b=some o'->h'.get? b=some o') ->
   h'.get? s.heap.objs.size=some {cls:=.type "list",dict:=none,data:=.seq its.toArray c',slots:=#[]}->EP X pins Z Q (.ref s.heap.objs.size) {s with heap:=h'}:=λits r' hz h' c' kp e =>
  ⟨.ref s.heap.objs.size,_,I.laid (t':=s.toks) kp (Zzt _) (show ObjOk X.prog X.w _ h' _ (.lst ys) from ⟨hz,its,c',r',e⟩),rfl,q _ (I.hok.fresh (Zzt _))⟩
 rcases hq with hq | hq
 ·obtain⟨its,r',pl,hz⟩:=I.list hq
  have hlen:=r'.length
  obtain⟨o,ho,hc,n,hd⟩:=pl.isList
  exact call_list_seq p (.inl rfl) ho hc hd (λh' c' kp e=>fin its r' hz h' c' kp e) (by simp only[Zzn]<;>omega)
 ·obtain⟨its,r',pl,hz⟩:=I.tuple hq
  have hlen:=r'.length
  obtain⟨o,ho,hc,n,hd⟩:=pl
  exact call_list_seq p (.inr rfl) ho hc hd (λh' c' kp e=>fin its r' hz h' c' kp e) (by simp only[Zzn]<;>omega)
theorem Po:CallR X (.type "tuple") (λxs H Q=>∃p ys,xs=[.ref p]/\((SqL X.K H p ys/\∀l,H l=none->Q (.ref l) (upd H l (.tup ys)))\/(SqT X.K H p ys/\Q (.ref p) H))):=by
 intro pins s Z H xs us Q I r h
 obtain⟨p,ys,rfl,h⟩:=h
 obtain⟨u,rfl,rx⟩:=Ll r
 cases rx
 rcases h with ⟨hq,q⟩ | ⟨hq,q⟩
 ·obtain⟨its,r',pl,hz⟩:=I.list hq
  have hlen:=r'.length
  refine call_tuple_list pl.isList (λh' kp=>?_) (by simp only[Zzn]<;>omega)
  have I1:Inv X pins Z H {s with heap:=h'}:=I.kept (t':=s.toks) kp
  have I2:Inv X pins Z (upd H h'.objs.size (.tup ys)) {s with heap:=h'.push {cls:=.type "tuple",data:=.seq its.toArray}} :=
   I1.laid (t':=s.toks) (λb o e=>Zzj _ e) (Zzt _) (show ObjOk X.prog X.w _ _ _ (.tup ys) from ⟨hz,its,r',IsTup.new _ _⟩)
  exact⟨.ref h'.objs.size,_,I2,rfl,q _ (I1.hok.fresh (Zzt _))⟩
 ·obtain⟨its,r',pl,hz⟩:=I.tuple hq
  exact call_tuple_same pl ⟨.ref p,H,I,rfl,q⟩
def tyV(K:Zzx)(T:String)(x:V)(H:Hp):Prop:=match x with
 |.str _=>T = "str"
 |.int _=>T = "int"
 |.ref p=>(T = "list" /\ ∃xs,SqL K H p xs)\/(T = "tuple" /\ ∃o,K.lookup p=some o/\o.cls=.type "tuple" /\ o.dict=none) \/
   (T = "dict" /\ ((∃kvs,H p=some (.dK kvs))\/∃kvs,H p=some (.dT kvs)))\/(T = "set" /\ ∃S n,H p=some (.set S n))
 |_=>False
theorem Xa{pins:List (Addr×Obj)}{Z:St}{H:Hp}{s:Shared}{T:String}{x:V}{v:Value}(I:Inv X pins Z H s)(r:RelV x v)(ty:tyV X.K T x H) :
  s.TypeIs v T/\∀a,v=.ref a->∃ob,s.heap.get? a=some ob/\ob.dict=none:=by
 cases x with
 |str z =>
  obtain⟨t,rfl⟩:=r
  cases (show T = "str" from ty)
  exact⟨typeIs_str s z t,λ_ e=>nomatch e⟩
 |int i =>
  obtain⟨t,rfl⟩:=r
  cases (show T = "int" from ty)
  exact⟨typeIs_int s i t,λ_ e=>nomatch e⟩
 |ref p =>
  cases r
  rcases ty with ⟨rfl,xs,hq⟩ | ⟨rfl,o,hk,hc,hd⟩ | ⟨rfl,hk⟩ | ⟨rfl,S,n,hk⟩
  ·obtain⟨its,_,pl,_⟩:=I.list hq
   refine⟨pl.isList.typeIs,λa e=>?_⟩
   cases e
   obtain⟨o,n,e,c,hd,_⟩:=pl
   exact⟨o,e,hd⟩
  ·refine⟨⟨o,I.kIn p o hk,hc⟩,λa e=>?_⟩
   cases e
   exact⟨o,I.kIn _ o hk,hd⟩
  ·have z:∃o,s.heap.get? p=some o/\o.ExactDict:=by
    rcases hk with ⟨kvs,hk⟩ | ⟨kvs,hk⟩
    ·obtain⟨_,_,_,_,o,_,_,e,ex,_⟩:=I.hok p _ hk
     exact⟨o,e,ex⟩
    ·obtain⟨_,_,_,_,o,_,_,e,ex,_⟩:=I.hok p _ hk
     exact⟨o,e,ex⟩
   obtain⟨o,e,ex⟩:=z
   refine⟨⟨o,e,ex.1⟩,λa e2=>?_⟩
   cases e2
   exact⟨o,e,ex.2.1⟩
  ·obtain⟨o,_,_,_,e,ex,_⟩:=I.hok p _ hk
   refine⟨⟨o,e,ex.1⟩,λa e2=>?_⟩
   cases e2
   exact⟨o,e,ex.2.1⟩
 |_=>exact False.elim ty
variable {o e:Expr}{es:List Expr}{to:TE}{t:TA}{name:Str}{apos cpos:Pos}{T id:String}{r:V->List V->Hp->VK->Prop}
end
def MtM(X:Cx)(id:String)(r:V->List V->Hp->VK->Prop):Prop :=
 ∀(pins:List (Addr×Obj)) (s:Shared) (Z:St) (H:Hp) (x:V) (xs:List V) (v:Value) (us:List Value) (Q:VK),Inv X pins Z H s->RelV x v->Vals xs us->r x xs H Q ->
  wpAny (model X.prog X.w) X.A (call (.builtin id) (v::us)) (EP X pins Z Q) X.xe s
theorem Vals.one:∀{x:V} {us:List Value},Vals [x] us->∃u,us=[u]/\RelV x u
 |_,_,.cons r .nil=>⟨_,rfl,r⟩
theorem Vals.two:∀{x y:V} {us:List Value},Vals [x,y] us->∃u v,us=[u,v]/\RelV x u/\RelV y v
 |_,_,_,.cons r (.cons q .nil)=>⟨_,_,rfl,r,q⟩
theorem Vals.zero:∀{us:List Value},Vals [] us->us=[]
 |_,.nil=>rfl
theorem Vals.dropLast{xs:List V}{us:List Value}(h:Vals xs us):Vals xs.dropLast us.dropLast:=by
 induction h with
 |nil=>exact .nil
 |cons r t ih =>
  cases t with
  |nil=>exact .nil
  |cons q t'=>exact .cons r ih
theorem Vals.eraseIdx:∀{xs:List V} {us:List Value} (i:Nat),Vals xs us->Vals (xs.eraseIdx i) (us.eraseIdx i)
 |_,_,_,.nil=>.nil
 |_,_,0,.cons _ t=>t
 |_,_,i+1,.cons r t=>.cons r (Vals.eraseIdx i t)
theorem Vals.reverse{xs:List V}{us:List Value}(h:Vals xs us):Vals xs.reverse us.reverse:=by
 induction h with
 |nil=>exact .nil
 |cons r t ih=>rw[Zw0,Zw0];exact Vals.append ih (.cons r .nil)
theorem Ut{α:Type}(l:List α):l.eraseIdx (l.length - 1)=l.dropLast:=by
 induction l with
 |nil=>rfl
 |cons a r ih =>
  cases r with
  |nil=>rfl
  |cons b r =>
   have e:(a::b::r).length - 1=((b::r).length - 1)+1:=by
    have h1:(a::b::r).length=r.length+2:=rfl
    have h2:(b::r).length=r.length+1:=rfl
    omega
   rw[e,List.eraseIdx_cons_succ,ih]
   all_goals rfl
theorem Q6{α:Type}:∀(l:List α) (i:Nat),(l.eraseIdx i).length<=l.length
 |[],_=>Zzt _
 |_::_,0=>Nat.le_succ _
 |_::r,i+1=>Nat.succ_le_succ (Q6 r i)
section
variable {X:Cx}{pins:List (Addr×Obj)}{Z:St}{H:Hp}{s:Shared}{l b:Addr}{xs ys zs:List V}
theorem Inv.lset{its its':List Value}{n:Nat}{f:Array Value->Array Value}{t':Nat}(I:Inv X pins Z H s)(hH:H l=some (.lst xs))
  (e:s.heap.get? l=some {cls:=.type "list",data:=.seq its.toArray n}) (hf:f its.toArray=its'.toArray) (hv:Vals ys its') (hz:ys.length<=sizeLine) :
  Inv X pins Z (upd H l (.lst ys)) {s with heap:=s.heap.update l (Obj.mapSeq f),toks:=t'}:=by
 have q:=PySem.IsL.update e f
 rw[hf] at q
 refine I.write (x:=l) (e:=l) (by rw[hH];exact trivial) (.inl rfl) (λb' u hb hu=>(Zxb s.heap (Obj.mapSeq f) (Zyj hb)).trans hu) ⟨_,q⟩ ?_
 exact⟨hz,its',_,hv,q⟩
theorem Inv.lnew{its:List Value}{t':Nat}(I:Inv X pins Z H s)(hv:Vals ys its)(hz:ys.length<=sizeLine) :
  Inv X pins Z (upd H s.heap.objs.size (.lst ys)) {s with heap:=s.heap.push {cls:=.type "list",data:=.seq its.toArray},toks:=t'} :=
 I.laid (λ_ _ q=>Zzj _ q) (Zzt _) ⟨hz,its,0,hv,Zyn _ rfl⟩
theorem Inv.fresh(I:Inv X pins Z H s):H s.heap.objs.size=none:=I.hok.fresh (Zzt _)
theorem Inv.lstM(I:Inv X pins Z H s)(hH:H l=some (.lst xs)):xs.length<=sizeLine/\∃(its:List Value) (n:Nat),Vals xs its/\xs.length=its.length/\s.heap.get? l=some {cls:=.type "list",data:=.seq its.toArray n}:=by
 obtain⟨z,its,n,r,e⟩:=I.hok l _ hH
 exact⟨z,its,n,r,r.length,e⟩
theorem Xu{n:Nat}(h:n<=sizeLine):Zw3 n=false:=by
 unfold Zw3
 exact decide_eq_false (by omega)
end
section
variable {X:Cx}
def rAppend:V->List V->Hp->VK->Prop:=λx vs H Q=>∃l xs y,x=.ref l/\vs=[y]/\H l=some (.lst xs)/\xs.length<sizeLine/\Q .non (upd H l (.lst (xs++[y])))
theorem Fc:MtM X "list.append" rAppend:=by
 intro pins s Z H x vs v us Q I rx rv h
 obtain⟨l,xs,y,rfl,rfl,hH,hz,q⟩:=h
 cases rx
 obtain⟨u,rfl,ru⟩:=rv.one
 obtain⟨z,its,n,r,hl,e⟩:=I.lstM hH
 refine call_meets F.slot_list_append ⟨_,e,rfl⟩ F.entry_list_append (F.args_list_append_2 _ _) (PySem.list_append l its.toArray n u (by rw[Zzn];omega)) ⟨e,?_⟩
 refine⟨.non,_,I.lset (its':=its++[u]) hH e (by simp) (r.append (.cons ru .nil)) ?_,rfl,q⟩
 rw[Zzh,Zxi]
 omega
def rExtend:V->List V->Hp->VK->Prop:=λx vs H Q=>∃l b xs zs,x=.ref l/\vs=[.ref b]/\H l=some (.lst xs)/\H b=some (.lst zs)/\xs.length+zs.length<=sizeLine/\Q .non (upd H l (.lst (xs++zs)))
theorem Q4:MtM X "list.extend" rExtend:=by
 intro pins s Z H x vs v us Q I rx rv h
 obtain⟨l,b,xs,zs,rfl,rfl,hH,hB,hz,q⟩:=h
 cases rx
 obtain⟨u,rfl,ru⟩:=rv.one
 cases ru
 obtain⟨z,its,n,r,hl,e⟩:=I.lstM hH
 obtain⟨z2,its2,n2,r2,hl2,e2⟩:=I.lstM hB
 have hsz:its.toArray.size+its2.toArray.size<=sizeLine:=by rw[Zzn,Zzn];omega
 have hlong:¬ (!its.toArray.isEmpty&&Zw3 (its.toArray.size+its2.toArray.size))=true:=by
  rw[Xu hsz,Zxu]
  exact Zz4
 refine call_meets F.slot_list_extend ⟨_,e,rfl⟩ F.entry_list_extend (F.args_list_extend_2 _ _)
  (AutoSeq1.list_extend_list_list_0 l its.toArray n b its2.toArray n2 hlong (by rw[Zzn];omega) (by omega)) ⟨e,e2,?_⟩
 refine⟨.non,_,I.lset (its':=its++its2) hH e (by simp) (r.append r2) ?_,rfl,q⟩
 rw[Zzh]
 omega
def rPop:V->List V->Hp->VK->Prop:=λx vs H Q=>∃l xs y,x=.ref l/\vs=[]/\H l=some (.lst xs)/\xs[xs.length - 1]?=some y/\Q y (upd H l (.lst xs.dropLast))
theorem d6:MtM X "list.pop" rPop:=by
 intro pins s Z H x vs v us Q I rx rv h
 obtain⟨l,xs,y,rfl,rfl,hH,hy,q⟩:=h
 cases rx
 have hus:=rv.zero
 subst hus
 obtain⟨z,its,n,r,hl,e⟩:=I.lstM hH
 obtain⟨u,hu,ru⟩:=r.get hy
 have hy':its.toArray[its.toArray.size - 1]?=some u:=by
  show its.toArray[its.length - 1]?=some u
  rw[<- Zwy,<- hl]
  exact hu
 refine call_meets F.slot_list_pop ⟨_,e,rfl⟩ F.entry_list_pop (F.args_list_pop_1 _) (MeetsSeq.list_pop_last l its.toArray n u hy' (by rw[Zzn];omega)) ⟨e,?_⟩
 refine⟨y,_,I.lset (its':=its.dropLast) hH e ?_ r.dropLast ?_,ru,q⟩
 ·show its.toArray.eraseIdxIfInBounds (its.toArray.size - 1)=its.dropLast.toArray
  rw[Zzn,List.eraseIdxIfInBounds_toArray,Ut]
 ·rw[List.length_dropLast]
  omega
def rPopAt:V->List V->Hp->VK->Prop:=λx vs H Q=>∃l xs i k y,x=.ref l/\vs=[.int i]/\H l=some (.lst xs)/\-(2^63)<=i/\i<2^63/\seqIndex? i xs.length=some k/\xs[k]?=some y/\Q y (upd H l (.lst (xs.eraseIdx k)))
theorem Y1:MtM X "list.pop" rPopAt:=by
 intro pins s Z H x vs v us Q I rx rv h
 obtain⟨l,xs,i,k,y,rfl,rfl,hH,h1,h2,hk,hy,q⟩:=h
 cases rx
 obtain⟨u,rfl,ru⟩:=rv.one
 obtain⟨t,rfl⟩:=ru
 obtain⟨z,its,n,r,hl,e⟩:=I.lstM hH
 obtain⟨w,hw,rw'⟩:=r.get hy
 refine call_meets F.slot_list_pop ⟨_,e,rfl⟩ F.entry_list_pop (F.args_list_pop_2 _ _)
  (MeetsSeq.list_pop_at l its.toArray n i t k w (fitsIndex_both h1 h2) (by rw[Zzn,<- hl];exact hk) (by rw[<- Zwy];exact hw) (by rw[Zzn];omega)) ⟨e,?_⟩
 refine⟨y,_,I.lset (its':=its.eraseIdx k) hH e ?_ (r.eraseIdx k) ?_,rw',q⟩
 ·show its.toArray.eraseIdxIfInBounds k=(its.eraseIdx k).toArray
  rw[List.eraseIdxIfInBounds_toArray]
 ·have:=Q6 xs k
  omega
def rReverse:V->List V->Hp->VK->Prop:=λx vs H Q=>∃l xs,x=.ref l/\vs=[]/\H l=some (.lst xs)/\Q .non (upd H l (.lst xs.reverse))
theorem Uj:MtM X "list.reverse" rReverse:=by
 intro pins s Z H x vs v us Q I rx rv h
 obtain⟨l,xs,rfl,rfl,hH,q⟩:=h
 cases rx
 have hus:=rv.zero
 subst hus
 obtain⟨z,its,n,r,hl,e⟩:=I.lstM hH
 refine call_meets F.slot_list_reverse ⟨_,e,rfl⟩ F.entry_list_reverse (F.args_list_reverse_1 _) (AutoSeq1.list_reverse_list_0 l its.toArray n (by rw[Zzn];omega)) ⟨e,?_⟩
 refine⟨.non,_,I.lset (its':=its.reverse) hH e (by simp) r.reverse ?_,rfl,q⟩
 rw[List.length_reverse]
 omega
def rCat:R2:=λx y H Q=>∃l b xs zs,x=.ref l/\y=.ref b/\H l=some (.lst xs)/\H b=some (.lst zs)/\xs.length+zs.length<=sizeLine/\∀p,H p=none->Q (.ref p) (upd H p (.lst (xs++zs)))
theorem Fz:OpR X (binaryOp .Add) rCat:=by
 intro pins s Z H x y v u Q I rx ry h
 obtain⟨l,b,xs,zs,rfl,rfl,hH,hB,hz,q⟩:=h
 cases rx
 cases ry
 obtain⟨z,its,n,r,hl,e⟩:=I.lstM hH
 obtain⟨z2,its2,n2,r2,hl2,e2⟩:=I.lstM hB
 refine PySem.P.add_list e e2 ?_ (by rw[Zzn,Zzn];omega)
 have ea:its.toArray++its2.toArray=(its++its2).toArray:=by simp
 rw[ea]
 exact⟨.ref _,_,I.lnew (t':=s.toks) (r.append r2) (by rw[Zzh];omega),rfl,q _ I.fresh⟩
def Hm:R2:=λx y H Q=>∃l k xs,x=.ref l/\y=.int k/\H l=some (.lst xs)/\-(2^63)<=k/\k<2^63/\xs.length*k.toNat<=sizeLine /\
 ∀p,H p=none->Q (.ref p) (upd H p (.lst (Zx9 k.toNat xs).flatten))
end
section
variable {prog:Program}{w:World}{A:Around}{E:Value->Shared->Prop}{s:Shared}
end
section
variable {X:Cx}
end
section
variable {κ:Type}[DecidableEq κ]
def Mh(kvs:List (κ×V))(k:κ):Option V:=(kvs.find? λkv=>decide (kv.1=k)).map (·.2)
def ff(kvs:List (κ×V))(k:κ)(v:V):List (κ×V) :=
 if (kvs.any λkv=>decide (kv.1=k))=true then kvs.map (λkv=>if kv.1=k then (kv.1,v) else kv) else kvs++[(k,v)]
theorem Sc{p:κ×V}{r:List (κ×V)}{k:κ}(e:p.1=k):Mh (p::r) k=some p.2:=by simp[Mh,Zwx,e]
theorem Sd{p:κ×V}{r:List (κ×V)}{k:κ}(e:¬ p.1=k):Mh (p::r) k=Mh r k:=by simp[Mh,Zwx,e]
theorem RelO.isSome_eq{o:Option V}{u:Option Value}(r:RelO o u):o.isSome=u.isSome:=by
 cases o with
 |none=>cases u with
  |none=>rfl
  |some _=>exact(show False from r).elim
 |some _=>cases u with
  |none=>exact(show False from r).elim
  |some _=>rfl
theorem KV.val{kvs:List (κ×V)}{vs:List (κ×Value)}(r:KV kvs vs)(k:κ):RelO (Mh kvs k) (valueAt vs k):=by
 unfold KV at r
 induction r with
 |nil=>exact True.intro
 |@cons p q ps qs h t ih =>
  obtain⟨h1,h2⟩:=h
  by_cases e:p.1=k
  ·have e':q.1=k:=h1.symm.trans e
   have b:valueAt (q::qs) k=some q.2:=by simp[valueAt,Zwx,e']
   rw[Sc e,b];exact h2
  ·have e':¬ q.1=k:=λz=>e (h1.trans z)
   have b:valueAt (q::qs) k=valueAt qs k:=by simp[valueAt,Zwx,e']
   rw[Sd e,b];exact ih
theorem KV.length{kvs:List (κ×V)}{vs:List (κ×Value)}(r:KV kvs vs):kvs.length=vs.length:=Paired.length r
end
theorem Y8{P:Program}{w:World}{k:Key}{u:Value}(r:RelV (kV k) u):(G4 P w).is k u=true:=by
 cases k with
 |inl i=>obtain⟨t,e⟩:=(show ∃t,u=Value.int i t from r);subst e;exact Tg P w i t
 |inr x=>obtain⟨t,e⟩:=(show ∃t,u=Value.str x t from r);subst e;exact Kq P w x t
theorem Q9{P:Program}{w:World}:∀{ks:List Key} {us:List Value},Vals (ks.map kV) us->ItemsAre (G4 P w) ks us
 |[],_,r=>by rw[Zyr] at r;cases r;exact .nil
 |k::ks,_,r=>by
  rw[Zzp] at r
  cases r with
  |cons h t=>exact .cons (Y8 h) (Q9 t)
abbrev KT(H:Hp):List (List Key×V)->List (List Key×Addr×Value)->Prop:=Paired λp q=>p.1=q.1/\H q.2.1=some (.tup (p.1.map kV))/\RelV p.2 q.2.2
theorem KT.val{H:Hp}{kvs:List (List Key×V)}{xs:List (List Key×Addr×Value)}(r:KT H kvs xs)(k:List Key):RelO (Mh kvs k) ((atKey xs k).map (·.2)):=by
 induction r with
 |nil=>exact True.intro
 |@cons p q ps qs h t ih =>
  obtain⟨h1,_,h2⟩:=h
  by_cases e:p.1=k
  ·have e':q.1=k:=h1.symm.trans e
   have b:atKey (q::qs) k=some q.2:=by simp[atKey,Zwx,e']
   rw[Sc e,b];exact h2
  ·have e':¬ q.1=k:=λz=>e (h1.trans z)
   have b:atKey (q::qs) k=atKey qs k:=by simp[atKey,Zwx,e']
   rw[Sd e,b];exact ih
section
variable {P:Program}{w:World}{H:Hp}{h:Heap}{a:Addr}
theorem ba{u:HO}(ok:HOk P w H h)(e:Rd H a u):ObjOk P w H h a u:=e.ok ok
theorem Vm{kvs:List (Key×V)}(ok:HOk P w H h)(e:Rd H a (.dK kvs)):kvs.length<=sizeLine/\(a == sysModules)=false/\∃vs,KV kvs vs/\h.DictOf (G4 P w) a vs :=
 show ObjOk P w H h a (.dK kvs) from ba ok e
theorem Up{ks:List Key}(ok:HOk P w H h)(e:H a=some (.tup (ks.map kV))):(tupleKind (G4 P w)).is h ks a:=by
 obtain⟨_,its,r,o,h1,h2,n,h3⟩:=(show ObjOk P w H h a (.tup (ks.map kV)) from ok a _ e)
 exact⟨o,its.toArray,n,h1,h2,h3,by simpa using Q9 r⟩
theorem Yk{kvs:List (List Key×V)}(ok:HOk P w H h)(e:Rd H a (.dT kvs)):kvs.length<=sizeLine/\(a == sysModules)=false /\
  ∃xs,KT H kvs xs/\h.DictOfH (tupleKind (G4 P w)) a xs:=by
 obtain⟨z,y,xs,r,o,es,ep,h1,h2,h3,h4,h5⟩:=(show ObjOk P w H h a (.dT kvs) from ba ok e)
 refine⟨z,y,xs,r,o,es,ep,h1,h2,h3,h4,λx hx=>?_,h5⟩
 have all:∀{l:List (List Key×V)} {m:List (List Key×Addr×Value)},KT H l m->∀x∈m,(tupleKind (G4 P w)).is h x.1 x.2.1:=by
  intro l m q
  induction q with
  |nil=>intro x hx;exact nomatch hx
  |@cons p q ps qs hq t ih =>
   intro x hx
   rcases Zzw.mp hx with e | hx
   ·subst e
    exact Up ok (by rw[<- hq.1];exact hq.2.1)
   ·exact ih x hx
 exact all r x hx
end
def Yx(H:Hp)(a:Addr)(y:V)(r:Option V):Prop :=
 (∃kvs k,Rd H a (.dK kvs)/\y=kV k/\r=Mh kvs k)\/∃kvs k b,Rd H a (.dT kvs)/\y=.ref b/\H b=some (.tup (k.map kV))/\r=Mh kvs k
section
variable {X:Cx}{pins:List (Addr×Obj)}{Z:St}{H:Hp}{s:Shared}{a:Addr}{y v:V}{u r:Value}{o:Option V}{A:Around}{E:Value->Shared->Prop}
theorem Ww{Q:Value->Shared->Prop}(hu:A.units+1<cLine)(I:Inv X pins Z H s)(g:Yx H a y (some v))(ry:RelV y u)(h:∀w' s',Inv X pins Z H s'->RelV v w'->Q w' s') :
  wpAny (model X.prog X.w) A (getItem (.ref a) u) Q E s:=by
 rcases g with ⟨kvs,k,e,ey,l⟩ | ⟨kvs,k,b,e,ey,eb,l⟩
 ·subst ey
  obtain⟨z,hd,vs,rel,dd⟩:=Vm I.hok e
  obtain⟨w',hw,rw'⟩:=RelO.some_of (v:=v) (o:=valueAt vs k) (by rw[l];exact rel.val k)
  exact wpAny_getItem_of (Y8 ry) dd.mapOf hw (h w' _ (I.tok _) rw')
 ·subst ey
  cases (show u=Value.ref b from ry)
  obtain⟨z,hd,xs,rel,dd⟩:=Yk I.hok e
  obtain⟨w',hw,rw'⟩:=RelO.some_of (v:=v) (o:=(atKey xs k).map (·.2)) (by rw[l];exact rel.val k)
  obtain⟨p,hp,hp2⟩:=Option.map_eq_some_iff.mp hw
  refine wpAny_getItem_heap (tupleKind_room_in1 hu) (Up I.hok eb) dd hp ?_
  rw[hp2]
  exact h w' _ (I.tok _) rw'
theorem d_in{Q:Value->Shared->Prop}(hu:A.units+1<cLine)(I:Inv X pins Z H s)(g:Yx H a y o)(ry:RelV y u)(h:∀s',Inv X pins Z H s'->Q (.bool o.isSome) s') :
  wpAny (model X.prog X.w) A (compareOp .In u (.ref a)) Q E s:=by
 rcases g with ⟨kvs,k,e,ey,l⟩ | ⟨kvs,k,b,e,ey,eb,l⟩
 ·subst ey
  obtain⟨z,hd,vs,rel,dd⟩:=Vm I.hok e
  refine wpAny_in_of (Y8 ry) hd dd.mapOf ?_
  rw[<- (rel.val k).isSome_eq,<- l]
  exact h _ (I.tok _)
 ·subst ey
  cases (show u=Value.ref b from ry)
  obtain⟨z,hd,xs,rel,dd⟩:=Yk I.hok e
  refine wpAny_in_heap (tupleKind_room_in1 hu) (Up I.hok eb) hd dd ?_
  have q:=(rel.val k).isSome_eq
  rw[Option.isSome_map] at q
  rw[<- q,<- l]
  exact h _ (I.tok _)
end
section
variable {X:Cx}{pins:List (Addr×Obj)}{Z:St}{H:Hp}{s:Shared}{a:Addr}{kvs:List (Key×V)}{k:Key}{u:Value}{A:Around}{E:Value->Shared->Prop}
theorem gd{Q:Value->Shared->Prop}(I:Inv X pins Z H s)(e:Rd H a (.dK kvs))(h:∀t s',Inv X pins Z H s'->Q (.int kvs.length t) s'):wpAny (model X.prog X.w) A (call (.builtin "len") [.ref a]) Q E s:=by
 obtain⟨z,hd,vs,rel,dd⟩:=Vm I.hok e
 refine call_len_dict hd dd (by rw[<- rel.length];rw[sizeLine_eq] at z;omega) ?_
 rw[<- rel.length]
 exact h _ _ (I.tok _)
end
theorem Tr{X:Cx}{pins:List (Addr×Obj)}{Z:St}{H:Hp}{s:Shared}{a:Addr}{y:V}{o:Option V}(I:Inv X pins Z H s)(g:Yx H a y o):s.TypeIs (.ref a) "dict" := by
 rcases g with ⟨kvs,k,e,_,_⟩ | ⟨kvs,k,b,e,_,_,_⟩
 ·obtain⟨_,_,vs,_,dd⟩:=Vm I.hok e
  exact dd.typeIs
 ·obtain⟨_,_,xs,_,dd⟩:=Yk I.hok e
  exact dd.typeIs
section
variable {X:Cx}{o i e value:Expr}{pos pos' tpos:Pos}{td ty tv:TE}
end
def Cu:TE:=λ_ H Q=>∀p,H p=none->Q (.ref p) (upd H p (.dK []))
section
variable {X:Cx}{pos:Pos}
end
structure M1(X:Cx)(o:Expr)(m:Str)(apos:Pos)(e:Expr)(cpos:Pos):Prop where
 base:attributeBase o m X.env (eval o X.env)=eval o X.env
 few:((backTo cpos (starEach [e] X.env)).all (λx=>!x.1)&&(backToKw cpos (keywordEach [] X.env)).all (λx=>x.1.isSome)
  && decide (([e]:List Expr).length+([]:List Keyword).length+(if ([]:List Keyword).isEmpty then 0 else 1)<30))=true
 line:(apos.endLine == cpos.line)=true
 trees:backTo cpos (starEach [e] X.env)=[(false,eval e X.env)]
section
variable {X:Cx}{pins:List (Addr×Obj)}{Z:St}{H:Hp}{s:Shared}{a:Addr}{y d:V}{u r:Value}{o:Option V}{A:Around}{E:Value->Shared->Prop}
end
section
variable {X:Cx}{o e f:Expr}{apos cpos:Pos}{td ty tx:TE}
end
section
variable {X:Cx}{pins:List (Addr×Obj)}{Z:St}{H:Hp}{s:Shared}{a:Addr}{kvs:List (Key×V)}{A:Around}{E:Value->Shared->Prop}
end
section
variable {X:Cx}{pins:List (Addr×Obj)}{Z:St}{H:Hp}{s:Shared}{a:Addr}{y:V}{u:Value}{A:Around}{E:Value->Shared->Prop}
end
end L2
namespace Att
open PySem PySem.W PySem.Calls PyProof.Rows
theorem Nx{P:Params}{h:Heap}:∀(ns:List Int) (vs:List Value),WellAll P h vs (ns.map WData.int)->IntsAre vs ns:=by
 intro ns
 induction ns with
 |nil =>
  intro vs w
  rw[Zyr] at w
  cases w
  exact .nil
 |cons n ns ih =>
  intro vs w
  rw[Zzp] at w
  cases w with
  |cons a b =>
   cases a
   exact .cons _ _ (ih _ b)
theorem W0{l:OpenLaw}{n:Nat}(hn:l.most=some n){P:Params}{h:Heap}{args:List WData}{vals:List Value}
  (hpre:l.row.toRowW.claim.pre args=true) (hwl:WellAll P h vals args) :
  ∃a vs ns,vals=[Value.ref a]/\args=[WData.list (ns.map WData.int)]/\h.get? a=some {cls:=.type "list",data:=.seq vs.toArray}/\IntsAre vs ns/\ns.length<=n:=by
 have hsh:WShape.hasAll [] args [.list .int]=true:=(pre_splitW hpre).1
 have hc:l.pre.holds [] {args:=args}=true:=(pre_splitW hpre).2
 obtain⟨d,r,rfl,h1,h2⟩:=hasAllW_cons hsh
 obtain rfl:=hasAllW_nil h2
 obtain⟨xs,rfl,h3⟩:=hasW_list h1
 obtain⟨ns,rfl⟩:=items_int h3
 have hlen:ns.length<=n:=by
  unfold OpenLaw.pre at hc
  have h4:(WTm.not (.lt (.lit (.int (n:Int))) (.len (.arg 0)))).holds [] {args:=[.list (ns.map .int)]}=true:=by
   have h4:=(holds_andW hc).1
   rw[hn] at h4
   exact h4
  have h5:=condW_of h4 (w_not (w_lt w_lit (w_len_list (w_arg rfl))))
  rw[Zzz] at h5
  refine Nat.le_of_not_lt λq=>?_
  have q':(n:Int)<((ns.length:Nat):Int):=by omega
  first
   | (rw[decide_eq_true q'] at h5;exact absurd h5 (by decide))
   | (simp at h5;omega)
 cases hwl with
 |cons w1 w2 =>
  cases w2
  cases w1 with
  |list ho hall=>exact⟨_,_,ns,rfl,rfl,ho,Nx ns _ hall,hlen⟩
theorem W1(l:OpenLaw)(args:List WData):l.row.toRowW.claim.post args (.bool true) args=true :=
 postW_of (r:=l.row.toRowW) (X:=(true == true))
  (show WShape.has [] (.bool true) .bool=true by first | rfl | decide | simp[WShape.has,WShape.arms,WShape.armsAll])
  (show (WTm.eq .res (.lit (.bool true))).value [] {args:=args,res:=some (.bool true),after:=args}=some (.bool (true == true)) from w_eq_bool (w_res rfl) w_lit) rfl
theorem attach_call{l:OpenLaw}{n:Nat}{q:Program}{loose:List Str}{XP:(Str->Option Value)->Heap->Prop}{YP:World->Heap->Prop}{d:DefRec}
  (hn:l.most=some n) (hdf:d.params.defaults=[])
  (call:∀(w:World) (s₀ s₁:Shared) (mg mb:Str->Option Value) (fa:Addr) (o:Obj) (pm cd doc:Value) (a:Addr) (vs:List Value) (ns:List Int),
   Ground q loose [] XP w s₀ mg mb s₁.heap->YP w s₁.heap ->
   s₁.heap.get? fa=some o->o.data=.func (docDef d.name d.params d.body d.scope pm cd doc)->s₁.heap.CodeRec cd d.name->mg d.name=some (.ref fa) ->
   s₁.heap.get? a=some {cls:=.type "list",data:=.seq vs.toArray}->IntsAre vs ns->ns.length<=n->s₁.gens=#[] ->
   codeAny (model l.prog w) callerA (.call (.ref fa) ⟨[.ref a],[]⟩) (λr s'=>r=.ok (.ret (.bool true))/\OldK s₁.heap s'.heap/\s'.os=s₁.os/\AllBare s'.gens) s₁) :
  WalkO q loose XP YP l.row.toRowW d [] (λf vs=>PySem.call f vs):=by
 intro w s₀ s₁ mg mb G Y fa o pm cd doc dV kV ho hd hcd hD hmg hg args vals as hpre hlay hrd hwl hlo
 obtain rfl:dV=.none:=Dflts.none hD hdf
 obtain rfl:kV=.none:=Dflts.noKw hD
 obtain⟨a,vs,ns,rfl,rfl,hobj,hints,hlen⟩:=W0 hn hpre hwl
 refine enter_call (codeAny_mono (call w s₀ s₁ mg mb fa o pm cd doc a vs ns G Y ho (fd_plain hd) hcd hmg hobj hints hlen hg) λr s' hq=>?_)
 obtain⟨rfl,h2,h3,h4⟩:=hq
 exact⟨.inl ⟨.bool true,.bool true,[],rfl,λ_=>rfl,.bool true,W1 l _,λ_=>⟨Zwh,λ_ hm=>(nomatch hm)⟩⟩,h2,h3,h4⟩
section
variable {prog:Program}{w:World}{A:Around}{E:Value->Shared->Prop}{s:Shared}{K:Frag}
end
end Att
namespace L2
open PySem PySem.Spec PyProof.Rows
theorem Pu:∀{vs:List Value} {ns:List Int},IntsAre vs ns->Vals (ns.map V.int) vs
 |_,_,.nil=>.nil
 |_,_,.cons n t h=>.cons ⟨t,rfl⟩ (Pu h)
def dz(H:Hp):Prop:=∀b,H b=none\/∃o xs,H b=some (.frz o (.lst xs))
theorem Y5{P:Program}{w:World}{K:Zzx}{mg mb:Str->Option Value}{CX:CXT}{k:Nat}{fa a:Addr}{fd:FuncData}{x:Str}{sp:Sp}{s₁:Shared}{vs:List Value}{ns:List Int}
  (KX:K.In s₁.heap) (hns:s₁.heap.Ns mainGlobals mg) (hb:s₁.heap.Ns builtinsNs mb) (hbb:∀x:Str,x ≠ "__name__" -> mb x=bootBuiltins x) (hlim:s₁.heap.NoLimit) (hg:s₁.gens=#[])
  (ha:s₁.heap.get? a=some {cls:=.type "list",data:=.seq vs.toArray}) (hi:IntsAre vs ns) (hl:ns.length<=sizeLine) (hr:Room k callerA)
  (F:∀base:Heap,K.In base->base.Ns mainGlobals mg->Dp P w K mg base CX k fa fd [x] sp) (hbind:∀(s:Shared) (u:Value),BindsTo s fd ⟨[u],[]⟩ [(x,u)])
  (hsp:∀H:Hp,dz H->SqL K H a (ns.map V.int)->sp [.ref a] H (λv _=>v=.bl true) λ_ _ _=>False)
  (hCX:∀H e s',CX [] H s₁ (λ_ _ _=>False) e s'->False) :
  codeAny (model P w) callerA (.call (.ref fa) ⟨[.ref a],[]⟩) (λr s'=>r=.ok (.ret (.bool true))/\OldK s₁.heap s'.heap/\s'.os=s₁.os/\AllBare s'.gens) s₁:=by
 have rv:=Pu hi
 have lenV:=hi.length
 have core:∀H:Hp,dz H->SqL K H a (ns.map V.int)->HOk P w H s₁.heap->(∀b,H b≠none->b=a)->(H a≠none->K.lookup a=none) ->
   codeAny (model P w) callerA (.call (.ref fa) ⟨[.ref a],[]⟩) (λr s'=>r=.ok (.ret (.bool true))/\OldK s₁.heap s'.heap/\s'.os=s₁.os/\AllBare s'.gens) s₁:=by
  intro H hO hS hok hA hK
  have base_of:∀{b:Addr} {o:Obj},s₁.heap.get? b=some o->H b=none->(Rz s₁.heap H).get? b=some o:=λe n=>Yb e n
  have noA:∀{b:Addr} {o:Obj} {es:Array DictEntry} {ep:Nat},s₁.heap.get? b=some o->o.data=.dict es ep->H b=none:=λ{b o es ep} e d=>by
   cases q:H b with
   |none=>rfl
   |some u =>
    have e':b=a:=hA b (by rw[q];simp)
    subst e'
    rw[ha] at e;cases e
    have d':Data.seq vs.toArray _=Data.dict es ep:=d
    cases d'
  have nsK:∀{b:Addr} {m:Str->Option Value},s₁.heap.Ns b m->(Rz s₁.heap H).Ns b m:=λ{b m} ⟨o,es,ep,e,d,r⟩=>⟨o,es,ep,base_of e (noA e d),d,r⟩
  have hKb:K.In (Rz s₁.heap H):=λb o e=>base_of (KX b o e) (by
   cases q:H b with
   |none=>rfl
   |some u =>
    have e':b=a:=hA b (by rw[q];simp)
    subst e'
    rw[hK (by rw[q];simp)] at e;cases e)
  have hM:Mod K mg (Rz s₁.heap H):=⟨hKb,nsK hns,⟨mb,nsK hb,hbb⟩,by obtain⟨mc,h1,h2⟩:=hlim;exact⟨mc,nsK h1,h2⟩⟩
  have e0:av P w K mg (Rz s₁.heap H) callerA [] s₁ H:=⟨rfl,hM,λb o e=>Zn e,Nat.le_of_eq (Wi _ _),trivial,λb hb=>absurd (show b∈([]:List Addr) from hb) (by simp),hok,.of_eq hg⟩
  refine codeAny_mono ((F _ hKb (nsK hns)).run callerA [] s₁ H ⟨[.ref a],[]⟩ [.ref a] [.ref a] _ _ hr e0 (hbind s₁ (.ref a)) (.cons rfl .nil) (hsp H hO hS)) λr s' h=>?_
  cases r with
  |error e=>exact(hCX H e s' h).elim
  |ok fl =>
   cases fl with
   |next=>exact False.elim h
   |brk=>exact False.elim h
   |cont=>exact False.elim h
   |ret u =>
    obtain⟨v,H',os,bare,un,hok',r',q⟩:=h
    have q':v=.bl true:=q
    subst q'
    obtain rfl:u=Value.bool true:=r'
    refine⟨rfl,OldK.of_keep λb o e=>?_,os,bare⟩
    cases q:H b with
    |none=>exact un.keep b o e q (by intro z;exact absurd (show b∈([]:List Addr) from z) (by simp)) (by simp)
    |some u =>
     rcases hO b with z | ⟨ob,xs,z⟩
     ·rw[q] at z;cases z
     ·have z2:=un.frzs b ob _ z
      obtain⟨e1,_⟩:=hok b _ z
      obtain⟨e2,_⟩:=hok' b _ z2
      rw[e] at e1;cases e1
      exact e2
 cases hk:K.lookup a with
 |some o =>
  have e:=KX a o hk
  rw[ha] at e
  cases e
  refine core (λ_=>none) (λ_=>.inl rfl) (.inr ⟨_,vs.toArray,_,hk,rfl,rfl,rfl,by rw[Zzn,lenV];exact hl,by simpa using rv⟩) (λb u z=>by have z':(none:Option HO)=some u:=z;cases z') (λb z=>absurd rfl z) λz=>absurd rfl z
 |none =>
  refine core (λb=>if b=a then some (.frz {cls:=.type "list",data:=.seq vs.toArray} (.lst (ns.map V.int))) else none) (λb=>?_) (.inl (.inr ⟨{cls:=.type "list",data:=.seq vs.toArray},if_pos rfl⟩)) (λb u z=>?_) (λb z=>?_) λ_=>hk
  ·by_cases hb:b=a
   ·exact .inr ⟨_,_,if_pos hb⟩
   ·exact .inl (if_neg hb)
  ·by_cases hb:b=a
   ·have z':=(if_pos hb).symm.trans z
    cases z'
    subst hb
    exact⟨ha,by rw[Zzz];exact hl,vs,_,rv,ha⟩
   ·have z':=(if_neg hb).symm.trans z
    cases z'
  ·by_cases hb:b=a
   ·exact hb
   ·exact absurd (if_neg hb) z
theorem Z0{l:PySem.W.OpenLaw}{n k:Nat}{q:Program}{loose:List Str}{XP:(Str->Option Value)->Heap->Prop}{YP:World->Heap->Prop}{d:DefRec}{K:Params->Zzx}{CX:World->CXT}{sp:World->Sp}{x:Str}
  (hn:l.most=some n) (hn2:n<=sizeLine) (hdf:d.params.defaults=[]) (hr:Room k callerA)
  (hY:∀(w:World) (h:Heap),YP w h->(K w.params).In h)
  (F:∀(w:World) (mg:Str->Option Value) (fa:Addr) (h:Heap),(K w.params).In h->h.Ns mainGlobals mg->mg d.name=some (.ref fa) ->
   ∃fd:FuncData,(∀(s:Shared) (u:Value),BindsTo s fd ⟨[u],[]⟩ [(x,u)]) /\
    ∀base:Heap,(K w.params).In base->base.Ns mainGlobals mg->Dp l.prog w (K w.params) mg base (CX w) k fa fd [x] (sp w))
  (hsp:∀(w:World) (H:Hp) (a:Addr) (ns:List Int),ns.length<=n->dz H->SqL (K w.params) H a (ns.map V.int)->sp w [.ref a] H (λv _=>v=.bl true) λ_ _ _=>False)
  (hCX:∀(w:World) (H:Hp) (s:Shared) (e:Value) (s':Shared),CX w [] H s (λ_ _ _=>False) e s'->False) :
  PySem.W.WalkO q loose XP YP l.row.toRowW d [] (λf vs=>PySem.call f vs):=by
 refine Att.attach_call hn hdf λw s₀ s₁ mg mb fa o pm cd doc a vs ns G Y ho hd hcd hmg hobj hints hlen hg=>?_
 have KX:=hY w _ Y
 obtain⟨fd,hb,hF⟩:=F w mg fa _ KX G.T.g hmg
 exact Y5 KX G.T.g G.T.b G.T.builtins G.T.nolimit hg hobj hints (Zyu hlen hn2) hr hF hb (λH hO hS=>hsp w H a ns hlen hO hS) λH e s'=>hCX w H s₁ e s'
def Bu(s:Stmt):Arguments:=match s with
 |.FunctionDef _ a _ _ _ _ _ _ _ _=>a
 |_=>{posonlyargs:=[],args:=[],vararg:=none,kwonlyargs:=[],kw_defaults:=[],kwarg:=none,defaults:=[]}
def Bo(s:Stmt):List Stmt:=match s with
 |.FunctionDef _ _ b _ _ _ _ _ _ _=>b
 |_=>[]
def A6(s:Stmt):Scope:=match s with
 |.FunctionDef _ _ _ _ _ _ sc _ _ _=>sc
 |_=>{kind:=.function,names:=[],isGenerator:=false,isCoroutine:=false}
abbrev CX0:CXT:=λ_ _ _ _ _ _=>False
abbrev E0:XK:=λ_ _ _=>False
theorem fo{X:Cx}:V3 CX0 X E0:=λ_ _ _ _ _ _ _ h=>h.elim
structure Fun(K:Zzx)(x qual:Str)(st:Stmt)(f:Addr)(fd:FuncData):Prop where
 ex:∃(oc:Value) (od:Option Addr) (kV doc pm:Value) (an:Option Addr) (cdv ct:Value) (osl:Array (Option Value)),
  fd=Zyx x qual (Bu st) (Bo st) (A6 st) .none kV doc pm an cdv ct/\K.lookup f=some ⟨oc,od,.func fd,osl⟩/\Zz1 K cdv qual=true
 kp:Zzb K (.ref f)=true
section
variable {P:Program}{w:World}{K:Zzx}{mg:Str->Option Value}{base:Heap}
theorem Fun.ok{x qual:Str}{st:Stmt}{f:Addr}{fd:FuncData}{N ps:List Str}{k:Nat}{sp:Sp}(F:Fun K x qual st f fd)(S:Bv N ps (A6 st))(len:∀vs H Q E,sp vs H Q E->vs.length=ps.length)
  (hbody:∀(cdv:Value) (A:Around) (outer:List Env) (s:Shared) (H:Hp) (vs:List V) (Q:VK) (E:XK),Room k (A.deeper (envOfC qual (A6 st) s.heap.objs.size f cdv))->sp vs H Q E ->
   ∃t,PSs (Pl CX0 P w K mg base N qual (A6 st) f cdv A outer s H E).nox (Bo st) t/\t {nx:=λ_ H'=>Q .non H',rt:=Q} (D5 N vs) H):Dp P w K mg base CX0 (k+1) f fd ps sp:=by
 obtain⟨oc,od,kV,doc,pm,an,cdv,ct,osl,rfl,lk,hcd⟩:=F.ex
 refine bp lk hcd S len λA outer s H vs Q E hr hsp=>?_
 obtain⟨t,h,q⟩:=hbody cdv A outer s H vs Q E hr hsp
 exact⟨t,h.nox,q⟩
theorem Fun.binds{x qual:Str}{st:Stmt}{f:Addr}{fd:FuncData}{ps:List Str}(F:Fun K x qual st f fd)
  (h:∀(kV doc pm:Value) (an:Option Addr) (cdv ct:Value) (us:List Value),us.length=ps.length->bindArgs (Zyx x qual (Bu st) (Bo st) (A6 st) .none kV doc pm an cdv ct) ⟨us,[]⟩=pure (ps.zip us)):Binds K fd ps []:=by
 obtain⟨oc,od,kV,doc,pm,an,cdv,ct,osl,rfl,lk,hcd⟩:=F.ex
 exact .all (h kV doc pm an cdv ct)
theorem Ci{x qual:Str}{st:Stmt}{f:Addr}{oc:Value}{od an:Option Addr}{osl:Array (Option Value)}{kV doc pm cdv ct:Value}(l:K.lookup f=some ⟨oc,od,.func (Zyx x qual (Bu st) (Bo st) (A6 st) .none kV doc pm an cdv ct),osl⟩)
  (c:Zz1 K cdv qual=true) (k:Zzb K (.ref f)=true):Fun K x qual st f (Zyx x qual (Bu st) (Bo st) (A6 st) .none kV doc pm an cdv ct):=⟨⟨oc,od,kV,doc,pm,an,cdv,ct,osl,rfl,l,c⟩,k⟩
end
theorem Di{A:Around}{k:Nat}(hr:Room k A):A.units+1<cLine:=Zve (Nat.add_le_add_left (by decide:1<=64) _) hr.units
section
variable {X:Cx}
theorem pv(i:Nat){x:Str}{pos:Pos}(hN:X.N[i]?=some x:=by rfl)(hv:Vis X.env.scope x:=by first | exact Zz0 rfl | exact Or.inr (Zz0 rfl) | exact Or.inr (Or.inr rfl))(hd:(x == ("__debug__" : Str))=false:=by decide)
  (hcd:(x == ("__classdict__" : Str))=false:=by decide):PE X (.Name x pos) (Gh i):=cq hN hv hd hcd
theorem X0:CallR X (.builtin "len") (λxs H Q=>∃a kvs,xs=[V.ref a]/\H a=some (.dK kvs)/\Q (.int kvs.length) H):=by
 intro pins s Z H xs us Q I r h
 obtain⟨a,kvs,rfl,ha,q⟩:=h
 obtain⟨u,rfl,ru⟩:=Ll r
 cases ru
 exact gd I (.inl ha) λt s' I'=>⟨.int kvs.length,H,I',⟨t,rfl⟩,q⟩
end
theorem Fj{c A B:Prop}[Decidable c](h1:c->A)(h2:¬ c->B):if c then A else B:=by
 by_cases h:c
 ·rw[if_pos h]
  exact h1 h
 ·rw[if_neg h]
  exact h2 h
def Same(H H':Hp):Prop:=∀b o,H b=some o->H' b=some o
theorem Same.refl(H:Hp):Same H H:=λ_ _ h=>h
theorem Same.trans{H H1 H2:Hp}(a:Same H H1)(b:Same H1 H2):Same H H2:=λc o h=>b c o (a c o h)
theorem Same.free{H H':Hp}(e:Same H H'){l:Addr}(h:H' l=Option.none):H l=Option.none:=by
 cases q:H l with
 |none=>rfl
 |some o =>
  rw[e l o q] at h
  cases h
theorem Same.seq{K:Zzx}{H H':Hp}{a:Addr}{xs:List V}(e:Same H H')(h:SqL K H a xs):SqL K H' a xs:=by
 rcases h with (h | ⟨o,h⟩) | h
 ·exact .inl (.inl (e _ _ h))
 ·exact .inl (.inr ⟨o,e _ _ h⟩)
 ·exact .inr h
section
variable {κ:Type}[DecidableEq κ]
end
theorem Pn{env:Env}:∀(names:List (Str×NameKind)) (acc:List (Str×Addr)),(∀y∈names,y.2=.free->∃c,env.cells.lookup y.1=some c)->(∀x c,acc.lookup x=some c->env.cells.lookup x=some c) ->
  ∃cl,(forIn names acc (λx r=>if (x.2 == Zy9)=true then do let c <- cellOf env x.1;pure (ForInStep.yield ((x.1,c)::r)) else pure (ForInStep.yield r)):Sem _)=pure cl /\
   (∀x c,cl.lookup x=some c->env.cells.lookup x=some c)/\(∀x,((x,Zy9)∈names\/∃c,acc.lookup x=some c)->∃c,cl.lookup x=some c):=by
 intro names
 induction names with
 |nil=>intro acc h ha;exact⟨acc,rfl,ha,λx hx=>by simpa using hx⟩
 |cons y r ih =>
  intro acc h ha
  obtain⟨n,k⟩:=y
  have hr:∀y∈r,y.2=.free->∃c,env.cells.lookup y.1=some c:=λy hy=>h y (Zzi _ hy)
  rw[Zvk]
  by_cases hk:k=.free
  ·subst hk
   obtain⟨c,hc⟩:=h (n,.free) Zzs rfl
   have e:cellOf env n=pure c:=by unfold cellOf;rw[hc]
   obtain⟨cl,e1,a,b⟩:=ih ((n,c)::acc) hr (λx c' hx=>by
    rw[Zxt] at hx
    cases hxn:x == n with
    |true =>
     rw[hxn] at hx
     cases hx
     rw[eq_of_beq hxn]
     exact hc
    |false =>
     rw[hxn] at hx
     exact ha x c' hx)
   refine⟨cl,?_,a,λx hx=>b x ?_⟩
   ·rw[<- e1]
    show (if (Zy9 == Zy9)=true then (cellOf env n >>= _) else _) >>= _=_
    rw[if_pos (show (Zy9 == Zy9)=true from rfl),e]
    rfl
   ·rcases hx with hx | ⟨c',hx⟩
    ·rcases Zzw.mp hx with e2 | hx
     ·have e3:x=n:=congrArg Prod.fst e2
      exact .inr ⟨c,by rw[Zxt,e3];simp⟩
     ·exact .inl hx
    ·refine .inr ?_
     rw[Zxt]
     cases x == n with
     |true=>exact⟨c,rfl⟩
     |false=>exact⟨c',hx⟩
  ·obtain⟨cl,e1,a,b⟩:=ih acc hr ha
   refine⟨cl,?_,a,λx hx=>b x ?_⟩
   ·rw[<- e1]
    have hb:(k == Zy9)=false:=by simpa using hk
    show (if (k == Zy9)=true then _ else _) >>= _=_
    rw[if_neg (by rw[hb];simp)]
    rfl
   ·rcases hx with hx | hx
    ·rcases Zzw.mp hx with e2 | hx
     ·exact absurd (congrArg Prod.snd e2).symm hk
     ·exact .inl hx
    ·exact .inr hx
theorem Jz{scope:Scope}{env:Env}(h:∀y∈scope.names,y.2=.free->∃c,env.cells.lookup y.1=some c) :
  ∃cl,closureFor scope env=pure cl/\(∀x c,cl.lookup x=some c->env.cells.lookup x=some c)/\(∀x,(x,Zy9)∈scope.names->∃c,cl.lookup x=some c):=by
 obtain⟨cl,e,a,b⟩:=Pn scope.names [] h (by intro x c e;cases e)
 refine⟨cl,?_,a,λx hx=>b x (.inl hx)⟩
 unfold closureFor
 exact congrArg (λm=>m >>= λx=>pure x) e
def cpN(N own:List Str)(cap:List Nat):List Str:=own++cap.map λj=>N.getD j ""
def Dj(own:List Str)(cap:List Nat)(Z:St):St:=own.map (λ_=>none)++cap.map λj=>Z.getD j none
structure Ks(N:List Str)(osc sc:Scope)(own:List Str)(cap:List Nat):Prop where
 kind:sc.kind=.function
 names:∀x∈sc.names,x.2=.local->sc.names.lookup x.1=some .local
 nocell:∀y∈sc.names,y.2≠.cell
 free:∀y∈sc.names,y.2=.free->osc.names.lookup y.1=some .cell\/osc.names.lookup y.1=some .free
 cap:∀j∈cap,j<N.length/\sc.names.lookup (N.getD j "")=some .free
def cxComp(X:Cx)(sc:Scope)(own:List Str)(cap:List Nat)(cl:List (Str×Addr))(C:Addr)(s:Shared)(H:Hp)(fp:List Addr)(pins:List (Addr×Obj)):Cx :=
 {X with N:=cpN X.N own cap,s₀:=s,H₀:=H,env:=compEnvC sc cl C X.env,outer:=X.stack,ex:=fp,fn:=λ_=>false,pn:=X.pn++pins,xe:=λ_ _=>False}
def PTs(X:Cx)(ifs:List Expr)(tt:TT):Prop :=
 ∀(pins:List (Addr×Obj)) (s:Shared) (Z:St) (H:Hp) (Q:Bool->Hp->Prop),Inv X pins Z H s->tt Z H Q ->
  wpAny (model X.prog X.w) X.A (forIn ifs true λc r=>if r=true then do let ok <- isTrue c X.env (eval c X.env);pure (ForInStep.yield ok) else pure (ForInStep.yield r)) (TP X pins Z Q) X.xe s
def tYes:TT:=λ_ H Q=>Q true H
theorem D7{X:Cx}:PTs X [] tYes:=λ_ _ _ H _ I h=>wpAny_tests_nil ⟨H,I,h⟩
theorem Rb{X:Cx}{c:Expr}{tt:TT}(h:PT X c tt):PTs X [c] tt:=λpins s Z H Q I hq=>wpAny_tests_one (h pins s Z H Q I hq)
def Tv(n:Nat)(g:TG):Prop:=∀v Z H Q,g v Z H Q->g v Z H λZ' H'=>(Z'.length=Z.length/\∀j,n<=j->Z'[j]?=Z[j]?)/\Q Z' H'
theorem C3{n i:Nat}(h:i<n):Tv n (Cj i):=λv Z H Q q=>⟨⟨by simp,λj hj=>by rw[Zxq (by omega)]⟩,q⟩
def V6(own:List Str)(cap:List Nat)(wi:TI)(g:TG)(tt:TT)(te:TE):TE:=λZ H Q=>wi Z H λJ H1=>∃W:Nat->Nat->List V->Hp->Prop,(∃m,W 0 m [] H1)/\∀i m acc H,W i m acc H->acc.length<=sizeLine /\
 ((J.stop i H/\∀p,H p=none->Q (.ref p) (upd H p (.lst acc))) \/
  (J.go i H/\acc.length<sizeLine/\∃N:List V->Hp->Prop,(∀acc' H',N acc' H'->∃m',m'<m/\W (i+1) m' acc' H')/\∀x H',J.yld i H x H'->g x (Dj own cap Z) H' λσ2 H2=>tt σ2 H2 λb H3=>if b=true then te σ2 H3 λy H4=>N (acc++[y]) H4 else N acc H3))
section
variable {prog:Program}{w:World}{A:Around}{R:Result->Shared->Prop}{s:Shared}
theorem Me{elt target iter:Expr}{ifs:List Expr}{scope:Scope}{pos:Pos}{it acc:Value}{env:Env}(I:Nat->Shared->Prop)
  (turn:∀n s,I n s->wpAny (model prog w) A (pyNext it) (λr s₁=>match r with
   |none=>R (.ok .next) s₁
   |some v=>wpAny (model prog w) A (letOwnedTupleGo target it v) (λ_ s₁'=>wpAny (model prog w) A (assign target env v) (λ_ s₂ =>
     wpAny (model prog w) A (forIn ifs true λc r=>if r=true then do let ok <- isTrue c env (eval c env);pure (ForInStep.yield ok) else pure (ForInStep.yield r)) (λok s₃ =>
      if ok=true then wpAny (model prog w) A (eval elt env) (λx s₄ =>
       wpAny (model prog w) A (call (.builtin "list.append") [acc,x]) (λ_ s₅=>∃m,m<n/\I m s₅) (λ_ _=>False) s₄) (λ_ _=>False) s₃
      else ∃m,m<n/\I m s₃) (λ_ _=>False) s₂) (λ_ _=>False) s₁') (λ_ _=>False) s₁) (λ_ _=>False) s)
  (n:Nat) (h:I n s) :
  codeAny (model prog w) A (.compLoop (.ListComp elt [⟨target,iter,ifs,0⟩] scope pos) 0 it acc env) R s:=by
 refine codeAny_loop rfl I (λn s hI=>?_) n h
 show wpAny _ A ((compTurn (.ListComp elt [⟨target,iter,ifs,0⟩] scope pos) 0 it acc env).onRaise (λx=>do noteFrame x env;theTreesLotGoes x)) _ _ s
 refine wpAny_noted ?_
 rw[compTurn_list]
 refine wpAny_bind (wpAny_standAt (wpAny_bind (wpAny_mono (turn n s hI) (λr s₁ h₁=>?_) λ_ _ h'=>h'.elim)))
 cases r with
 |none=>exact wpAny_pure h₁
 |some v =>
  refine wpAny_bind (wpAny_mono h₁ (λ_ s₁' h₁'=>?_) λ_ _ h'=>h'.elim)
  refine wpAny_bind (wpAny_mono h₁' (λ_ s₂ h₂=>wpAny_bind (wpAny_mono h₂ (λok s₃ h₃=>?_) λ_ _ h'=>h'.elim)) λ_ _ h'=>h'.elim)
  cases ok with
  |false=>exact wpAny_pure ⟨rfl,h₃⟩
  |true =>
   exact wpAny_bind (wpAny_bind (wpAny_mono h₃ (λx s₄ h₄=>wpAny_bind (wpAny_mono h₄ (λ_ s₅ h₅=>wpAny_pure (wpAny_pure ⟨rfl,h₅⟩)) λ_ _ h'=>h'.elim)) λ_ _ h'=>h'.elim))
end
section
variable {X:Cx}
theorem Nd{own:List Str}{cap:List Nat}{Z:St}{i:Nat}{v:V}(h:(Dj own cap Z)[i]?=some (some v)):own.length<=i/\∃j,cap[i - own.length]?=some j/\Z[j]?=some (some v):=by
 unfold Dj at h
 by_cases hi:i<own.length
 ·rw[Zwv (by simpa using hi),Zzv] at h
  cases e:own[i]? with
  |none=>rw[e] at h;cases h
  |some a=>rw[e] at h;cases h
 ·have hi':own.length<=i:=by omega
  rw[Zxa (by simpa using hi'),Zzz,Zzv] at h
  refine⟨hi',?_⟩
  cases e:cap[i - own.length]? with
  |none=>rw[e] at h;cases h
  |some j =>
   rw[e] at h
   have h2:Z.getD j none=some v:=Zyk h
   refine⟨j,rfl,?_⟩
   rw[List.getD_eq_getElem?_getD] at h2
   cases e2:Z[j]? with
   |none=>rw[e2] at h2;cases h2
   |some o=>rw[e2] at h2;simp at h2;rw[h2]
theorem Lw{env:Env}{x:Str}{k:NameKind}:∀{names:List (Str×NameKind)},names.lookup x=some k ->
  (names.map λ(n,k)=>if (k == Zy9&&env.scope.kind == .function&&env.kindOf n == some .cell) then (n,Zwf) else (n,k)).lookup x=some (if (k == Zy9&&env.scope.kind == .function&&env.kindOf x == some .cell)=true then .cell else k)
 |[],h=>by simp at h
 | (n,k')::r,h=>by
  have ih:=@Lw env x k r
  show List.lookup x ((if (k' == Zy9&&env.scope.kind == .function&&env.kindOf n == some .cell)=true then (n,Zwf) else (n,k'))::_)=_
  cases hx:x == n with
  |true =>
   simp only[Zxt,hx] at h
   cases h
   have e:=eq_of_beq hx
   subst e
   by_cases hc:(k == Zy9&&env.scope.kind == .function&&env.kindOf x == some .cell)=true
   ·rw[if_pos hc,if_pos hc];simp[Zxt]
   ·rw[if_neg hc,if_neg hc];simp[Zxt]
  |false =>
   simp only[Zxt,hx] at h
   by_cases hc:(k' == Zy9&&env.scope.kind == .function&&env.kindOf n == some .cell)=true
   ·rw[if_pos hc];simp only[Zxt,hx];exact ih h
   ·rw[if_neg hc];simp only[Zxt,hx];exact ih h
theorem K1{env:Env}{x:Str}:∀{names:List (Str×NameKind)},(∀y∈names,y.2≠.cell) ->
  ((names.map λ(n,k)=>if (k == Zy9&&env.scope.kind == .function&&env.kindOf n == some .cell) then (n,Zwf) else (n,k)).lookup x=some .cell \/
   (names.map λ(n,k)=>if (k == Zy9&&env.scope.kind == .function&&env.kindOf n == some .cell) then (n,Zwf) else (n,k)).lookup x=some .free)->(x,Zy9)∈names
 |[],_,h=>by simp at h
 | (n,k')::r,hn,h=>by
  have ih:=@K1 env x r λy hy=>hn y (Zzi _ hy)
  have hk':k'≠.cell:=hn (n,k') Zzs
  have h:List.lookup x ((if (k' == Zy9&&env.scope.kind == .function&&env.kindOf n == some .cell)=true then (n,Zwf) else (n,k'))::_)=some .cell \/
   List.lookup x ((if (k' == Zy9&&env.scope.kind == .function&&env.kindOf n == some .cell)=true then (n,Zwf) else (n,k'))::_)=some .free:=h
  cases hx:x == n with
  |true =>
   have e:=eq_of_beq hx
   subst e
   by_cases hc:(k' == Zy9&&env.scope.kind == .function&&env.kindOf x == some .cell)=true
   ·have:k'=.free:=by
     rw[Zzf,Zzf] at hc
     exact eq_of_beq hc.1.1
    rw[this]
    exact Zzs
   ·rw[if_neg hc] at h
    simp[Zxt] at h
    rcases h with h | h
    ·exact absurd h hk'
    ·rw[h];exact Zzs
  |false =>
   by_cases hc:(k' == Zy9&&env.scope.kind == .function&&env.kindOf n == some .cell)=true
   ·rw[if_pos hc] at h;simp only[Zxt,hx] at h;exact Zzi _ (ih h)
   ·rw[if_neg hc] at h;simp only[Zxt,hx] at h;exact Zzi _ (ih h)
end
theorem Ck{a b:Addr}{n:Nat}(h1:a<n)(h2:n<=b):a≠b:=Zxh (Zzd h1 h2)
section
variable {X:Cx}{pins:List (Addr×Obj)}{Z:St}{H:Hp}{s:Shared}{sc:Scope}{own:List Str}{cap:List Nat}{cl:List (Str×Addr)}{C:Addr}{fp:List Addr}
theorem bq(S:Ks X.N X.env.scope sc own cap)(cl1:∀x c,cl.lookup x=some c->X.env.cells.lookup x=some c)(cl2:∀x,(x,Zy9)∈sc.names->∃c,cl.lookup x=some c)
  (I:Inv X pins Z H s) (f:∀b∈fp,Lj X pins H b) (live:∀b∈fp,b<s.heap.objs.size) (hC:s.heap.objs.size<=C):(cxComp X sc own cap cl C s H fp pins).Ok where
 mod:=I.ok.mod
 kind:=S.kind
 glob:=I.ok.glob
 blt:=I.ok.blt
 above:=hC
 inj:=λx y c h1 h2=>I.ok.inj x y c (cl1 x c h1) (cl1 y c h2)
 has:=λx hx=>cl2 x (K1 S.nocell hx)
 cab:=λx c h=>by cases h
 hd:=I.ok.hd
 frames:=I.ok.frames
 stk:=.inl rfl
 exf:=λb hb=>⟨λz=>Ck (live b hb) hC z,λx c e=>(f b hb).2.2.2.2.1 x c (cl1 x c e)⟩
 bs:=I.bs
 bsz:=Zyu I.ok.bsz I.sz
 noex:=λb o e hb=>by
  rcases(f b hb).2.2.2.1 with z | z
  ·exact I.ok.noex b o e z
  ·exact Ck (Zzd (Zzc e) I.ok.bsz) z rfl
 exfs:=λb hb z=>by
  rcases Zzw.mp (I.stkSub b z) with q | q
  ·exact(f b hb).2.1 q
  ·exact(f b hb).2.2.1 q
 funs:=I.stack
 frf:=I.stkFree
theorem Ym(S:Ks X.N X.env.scope sc own cap)(cl1:∀x c,cl.lookup x=some c->X.env.cells.lookup x=some c)(cl2:∀x,(x,Zy9)∈sc.names->∃c,cl.lookup x=some c)
  (I:Inv X pins Z H s) (ok:(cxComp X sc own cap cl C s H fp pins).Ok) (hC:s.heap.objs.size<=C) {h₁:Heap} {tk:Nat} {m:Str->Option Value} (hns:h₁.Ns C m) (old:∀b o,s.heap.get? b=some o->h₁.get? b=some o) :
  Inv (cxComp X sc own cap cl C s H fp pins) [] (Dj own cap Z) H {s with heap:=h₁,toks:=tk}:=by
 have Kl:∀x c v,X.env.cells.lookup x=some c->s.heap.IsCell c v->h₁.IsCell c v:=λx c v _ z=>by
  obtain⟨o,ho,hd⟩:=z
  exact⟨o,old c o ho,hd⟩
 refine⟨ok,rfl,I.bare,Un.kept old,⟨m,hns,λi x v e1 e2 e3=>?_⟩,λx c e=>?_,I.hok.fresh hC,λx c e=>I.freeC x c (cl1 x c e),λp hp=>?_,I.hok.kept old,?_⟩
 ·have e1:(cpN X.N own cap)[i]?=some x:=e1
  obtain⟨hi,j,hj,hσ⟩:=Nd e2
  unfold cpN at e1
  rw[Zxa hi,Zzv,hj] at e1
  have e1:X.N.getD j "" = x:=Zyk e1
  obtain⟨hjl,hfr⟩:=S.cap j (Zyv hj)
  have hx:X.N[j]?=some x:=by rw[<- e1,List.getD_eq_getElem?_getD];simp[hjl]
  rw[e1] at hfr
  have hfree:=S.free (x,.free) (Zxc hfr) rfl
  obtain⟨m0,_,hl⟩:=I.loc
  obtain⟨u,r,l⟩:=hl j x v hx hσ (.inr hfree)
  refine⟨u,r,?_⟩
  rcases l with ⟨k,_⟩ | ⟨k,c,hc,z⟩
  ·have k:X.env.scope.names.lookup x=some .local:=k
   rcases hfree with q | q<;>(rw[q] at k;cases k)
  ·obtain⟨c',hc'⟩:=cl2 x (Zxc hfr)
   have e4:=cl1 x c' hc'
   rw[hc] at e4
   cases e4
   refine .inr ⟨?_,c,hc',Kl x c _ hc z⟩
   have q:=Lw (env:=X.env) hfr
   show (relabel sc X.env).names.lookup x=some .cell\/(relabel sc X.env).names.lookup x=some .free
   have q':(relabel sc X.env).names.lookup x=some (if (Zy9 == Zy9&&X.env.scope.kind == .function&&X.env.kindOf x == some .cell)=true then .cell else .free):=q
   rw[q']
   split
   ·exact .inl rfl
   ·exact .inr rfl
 ·obtain⟨v,z⟩:=I.cell x c (cl1 x c e)
  exact⟨v,Kl x c v (cl1 x c e) z⟩
 ·have hp:p∈(X.pn++pins)++[]:=hp
  rw[Zzq] at hp
  obtain⟨e,n,ne,nf,d⟩:=I.pin p hp
  refine⟨old _ _ e,n,λz=>?_,λz=>?_,d⟩
  ·exact Ck (Zzc e) hC z
  ·rcases Zzw.mp (I.stkSub p.1 z) with q | q
   ·exact ne q
   ·exact nf q
 ·show (Dj own cap Z).length=(cpN X.N own cap).length
  unfold Dj cpN
  simp
theorem Vq(I:Inv X pins Z H s)(f:∀b∈fp,Lj X pins H b)(hC:s.heap.objs.size<=C){D:Addr}(hD:s.heap.objs.size<=D)(hDC:D≠C){Z':St}{pl:List (Addr×Obj)}{H':Hp}{s':Shared}{acc:List V}{its:List Value}{nn:Nat}
  (J:Inv (cxComp X sc own cap cl C s H fp pins) pl Z' H' s') (hDn:H' D=none) (hDo:s'.heap.get? D=some {cls:=.type "list",data:=.seq its.toArray nn}) (hv:Vals acc its) (hz:acc.length<=sizeLine) :
  Inv X pins Z (upd H' D (.lst acc)) s'/\(∃m,s'.heap.Ns C m)/\Lj X pins (upd H' D (.lst acc)) C:=by
 have u:Un (frs X.stack) fp H H' s.heap s'.heap:=J.base
 have lt:∀b o,s.heap.get? b=some o->b≠D:=λb o e z=>Ck (Zzc e) hD z
 have trk:∀b o,H b=some o->b≠D:=λb o e z=>Ck (I.hok.lt e) hD z
 have CH:H' C=none:=J.free
 refine⟨I.call' (ch:=fp) J.os ⟨u.keep,u.slot,λb o e n hx=>by rw[Bd (lt b o e)];exact u.free b o e n hx,u.there,λb xs e=>by rw[Bd (trk b _ e)];exact u.tups b xs e,λb o xs e=>by rw[Bd (trk b _ e)];exact u.frzs b o xs e,λb ps e=>by rw[Bd (trk b _ e)];exact u.tbls b ps e⟩ (λb o e=>?_) J.bare λb hb=>?_,?_,?_⟩
 ·by_cases hb:b=D
  ·subst hb
   rw[A1] at e
   cases e
   exact⟨hz,its,nn,hv,hDo⟩
  ·rw[Bd hb] at e
   refine(J.hok b o e).stay (λc v _ q=>q) (λc q=>?_) λc xs q=>?_
   ·rw[Bd (Bj q hDn)];exact q
   ·rw[Bd (Bj q hDn)];exact q
 ·obtain⟨f0,f1,f2,f3,f4,f5⟩:=f b hb
  exact⟨f3,f1,f4,f5⟩
 ·obtain⟨m,hn,_⟩:=J.loc
  exact⟨m,hn⟩
 ·refine I.fpOk hC ?_
  rw[Bd (Zyj hDC)]
  exact CH
theorem P4{elt tg iter:Expr}{ifs:List Expr}{pos:Pos}{g:TG}{tt:TT}{te:TE}{E:Value->Shared->Prop}
  {it:Addr} {tn:Nat->Heap->Prop} {J:It} {Q:VK} {RR:Value->Addr->Result->Shared->Prop}
  (hc:X.calm=true) (S:Ks X.N X.env.scope sc own cap) (hown:Tv own.length g)
  (cl1:∀x c,cl.lookup x=some c->X.env.cells.lookup x=some c) (cl2:∀x,(x,Zy9)∈sc.names->∃c,cl.lookup x=some c)
  (hb:∀cl C s H fp pins,PG (cxComp X sc own cap cl C s H fp pins) tg g/\PTs (cxComp X sc own cap cl C s H fp pins) ifs tt/\PE (cxComp X sc own cap cl C s H fp pins) elt te)
  (I:Inv X pins Z H s) (T:P5 X.prog X.w X.K tg J fp it tn) (st:tn 0 s.heap) (f:∀b∈fp,Lj X pins H b)
  (W:Nat->Nat->List V->Hp->Prop) (w0:∃m,W 0 m [] H)
  (turn:∀i m acc H,W i m acc H->acc.length<=sizeLine/\((J.stop i H/\∀p,H p=none->Q (.ref p) (upd H p (.lst acc)))\/(J.go i H/\acc.length<sizeLine/\∃N:List V->Hp->Prop,(∀acc' H',N acc' H'->∃m',m'<m/\W (i+1) m' acc' H')/\∀x H',J.yld i H x H'->g x (Dj own cap Z) H' λσ2 H2=>tt σ2 H2 λb H3=>if b=true then te σ2 H3 λy H4=>N (acc++[y]) H4 else N acc H3)))
  (hRR:∀D C H' s',Inv X pins Z H' s'->(∃m,s'.heap.Ns C m)->Lj X pins H' C->Q (.ref D) H'->RR (.ref D) C (.ok .next) s') :
  wpAny (model X.prog X.w) X.A (newList []) (λacc s₃=>wpAny (model X.prog X.w) X.A (newFunctionEnv sc X.env.globals cl [] X.env.qual none .none (some X.env)) (λcenv s₄ =>
   codeAny (model X.prog X.w) X.A (.compStart (.ListComp elt [⟨tg,iter,ifs,0⟩] sc pos) 0 (.ref it) acc {cenv with scope:=relabel sc X.env}) (RR acc cenv.locals) s₄) E s₃) E s:=by
 refine wpAny_newObj_type (wpAny_newFunctionEnv S.nocell (by intro y hy;simp at hy) (λh₁ hns₁ hsb₁=>?_) S.kind)
 dsimp only at hns₁ hsb₁ ⊢
 generalize hH2:s.heap.push {cls:=.type "list",dict:=none,data:=.seq ([]:List Value).toArray}=H2 at hns₁ hsb₁ ⊢
 have hCs:H2.objs.size=s.heap.objs.size+1:=by rw[<- hH2,Zws]
 have hDC:s.heap.objs.size≠H2.objs.size:=by omega
 have hCle:s.heap.objs.size<=H2.objs.size:=by omega
 have old:∀b o,s.heap.get? b=some o->h₁.get? b=some o:=λb o e=>by
  exact hsb₁.extBut b o (Ck (Zzc e) hCle) (Zzj _ (hH2▸Zzj _ e))
 have hacc:h₁.get? s.heap.objs.size=some {cls:=.type "list",data:=.seq ([]:List Value).toArray 0}:=hsb₁.extBut _ _ hDC (Zzj _ (hH2▸Zyn _ rfl))
 have live:∀b∈fp,b<s.heap.objs.size:=λb hb=>by
  obtain⟨o,e,_⟩:=T.obj _ _ st b hb
  exact Zzc e
 have ok:=bq (C:=H2.objs.size) S cl1 cl2 I f live hCle
 have hDst:s.heap.objs.size∉frs X.stack:=λz=>by
  rcases Zzw.mp (I.stkSub _ z) with q | q
  ·exact Ck I.lt (Zzt _) q.symm
  ·exact I.nofs (Zzt _) q
 have fpX:∀(H':Hp) (pl:List (Addr×Obj)),(∀b∈fp,H' b=none)->(∀p∈pl,∀b∈fp,p.1≠b)->∀b∈fp,Lj (cxComp X sc own cap cl H2.objs.size s H fp pins) pl H' b:=λH' pl hn hp b hb=>by
  obtain⟨f0,f1,f2,f3,f4,f5⟩:=f b hb
  refine⟨hn b hb,λz=>?_,λz=>?_,.inl hb,λx c e=>f4 x c (cl1 x c e),λp hpp=>?_⟩
  ·exact Ck (live b hb) hCle z
  ·rcases Zzw.mp (I.stkSub b z) with q | q
   ·exact f1 q
   ·exact f2 q
  ·rcases Zyq.mp hpp with q | q
   ·exact f5 p q
   ·exact hp p q b hb
 have loop:∀s₃:Shared,s₃={s with heap:=h₁,toks:=s.toks+([]:List (Str×Value)).length} ->
   codeAny (model X.prog X.w) X.A (.compLoop (.ListComp elt [⟨tg,iter,ifs,0⟩] sc pos) 0 (.ref it) (.ref s.heap.objs.size) (compEnvC sc cl H2.objs.size X.env))
    (RR (.ref s.heap.objs.size) H2.objs.size) s₃:=by
  rintro s₃ rfl
  obtain⟨m0,w0⟩:=w0
  obtain⟨hg,ht,he⟩:=hb cl H2.objs.size s H fp pins
  have I0:Inv (cxComp X sc own cap cl H2.objs.size s H fp pins) [] (Dj own cap Z) H {s with heap:=h₁,toks:=s.toks+([]:List (Str×Value)).length}:=Ym S cl1 cl2 I ok hCle hns₁ old
  refine Me (λn s'=>∃i acc its nn H',Inv (cxComp X sc own cap cl H2.objs.size s H fp pins) [] (Dj own cap Z) H' s'/\tn i s'.heap/\(∀b∈fp,H' b=none) /\
   s'.heap.get? s.heap.objs.size=some {cls:=.type "list",data:=.seq its.toArray nn}/\Vals acc its/\H' s.heap.objs.size=none/\W i n acc H') ?_ m0
   ⟨0,[],[],0,H,I0,T.keep _ _ _ st (λb _ o e=>old b o e),λb hb=>(f b hb).1,hacc,.nil,I.hok.fresh (Zzt _),w0⟩
  rintro n s3 ⟨i,acc,its,nn,H3,I3,st3,fr3,hD3,rv3,hDn,w3⟩
  obtain⟨hz,hcase⟩:=turn i n acc H3 w3
  have hpl:∀p∈[((s.heap.objs.size:Addr),({cls:=.type "list",data:=.seq its.toArray nn}:Obj))],∀b∈fp,p.1≠b:=λp hp b hb z=>by
   have e:p=_:=Zzk.mp hp
   rw[e] at z
   exact Ck (live b hb) (Zzt _) z.symm
  have I3':Inv (cxComp X sc own cap cl H2.objs.size s H fp pins) [((s.heap.objs.size:Addr),({cls:=.type "list",data:=.seq its.toArray nn}:Obj))] (Dj own cap Z) H3 s3:=I3.pins_of λp hp=>by
   have e:p=_:=Zzk.mp hp
   subst e
   exact⟨hD3,hDn,hDC,hDst,λv z=>by cases z⟩
  rcases hcase with ⟨stop,fin⟩ | ⟨go,hlt,N,hN,step⟩
  ·refine thn (T.done (cxComp X sc own cap cl H2.objs.size s H fp pins) rfl rfl rfl hc i _ s3 _ H3 _ I3' (fpX H3 _ fr3 hpl) st3 stop) λr s4 z0=>?_
   obtain⟨hr,I4⟩:=z0
   subst hr
   have hD4:=(I4.pin (_,_) (Zzl _ (Zzk.mpr rfl))).1
   obtain⟨J1,J2,J3⟩:=Vq I f hCle (Zzt _) hDC I4 hDn hD4 rv3 hz
   exact hRR _ _ _ _ J1 J2 J3 (fin _ hDn)
  ·refine thn (T.item (cxComp X sc own cap cl H2.objs.size s H fp pins) rfl rfl rfl hc i _ s3 _ H3 _ I3' (fpX H3 _ fr3 hpl) st3 go) λr s4 z0=>?_
   obtain⟨u,hr,h4⟩:=z0
   subst hr
   refine thn h4 λ_ s5 z0=>?_
   obtain⟨x,H5,I5,r5,y5,st5,fr5⟩:=z0
   have I5':=I5.pinned (fpX H5 _ fr5 hpl) (T.obj _ _ st5)
   refine thn (hg _ s5 _ H5 x u _ I5' r5 (hown _ _ _ _ (step x H5 y5))) λ_ s6 z0=>?_
   obtain⟨σ6,H6,I6,⟨hx1,hx2⟩,q6⟩:=z0
   refine thn (ht _ s6 σ6 H6 _ I6 q6) λb s7 z0=>?_
   obtain⟨H7,I7,q7⟩:=z0
   have wk:∀{H7:Hp} {s7:Shared} {pl:List (Addr×Obj)},Inv (cxComp X sc own cap cl H2.objs.size s H fp pins) pl σ6 H7 s7->Inv (cxComp X sc own cap cl H2.objs.size s H fp pins) pl (Dj own cap Z) H7 s7:=λI=>I.weak hx1.symm λj v e=>by
    rw[hx2 j (Nd e).1]
    exact e
   have stay:∀{H7:Hp} {s7:Shared} {σ7:St},Inv (cxComp X sc own cap cl H2.objs.size s H fp pins) ([((s.heap.objs.size:Addr),({cls:=.type "list",data:=.seq its.toArray nn}:Obj))]++Lu fp s5.heap) σ7 H7 s7 ->
     tn (i+1) s7.heap/\(∀b∈fp,H7 b=none)/\s7.heap.get? s.heap.objs.size=some {cls:=.type "list",data:=.seq its.toArray nn}/\H7 s.heap.objs.size=none:=λ{H7 s7 σ7} I7=>by
    refine⟨T.keep _ _ _ st5 λb hb o e=>(I7.pin (b,o) (Zzl _ (Zzl _ (Jn hb e)))).1,λb hb=>?_,?_,?_⟩
    ·obtain⟨o,e,d⟩:=T.obj _ _ st5 b hb
     exact(I7.pin (b,o) (Zzl _ (Zzl _ (Jn hb e)))).2.1
    ·exact(I7.pin (_,_) (Zzl _ (Zxz _ (Zzk.mpr rfl)))).1
    ·exact(I7.pin (_,_) (Zzl _ (Zxz _ (Zzk.mpr rfl)))).2.1
   cases b with
   |false =>
    rw[if_neg Zz4] at q7 ⊢
    obtain⟨m',hm,w7⟩:=hN _ _ q7
    obtain⟨a1,a2,a3,a4⟩:=stay I7
    exact⟨m',hm,i+1,acc,its,nn,H7,(wk I7).pins_of (λp hp=>absurd hp (by simp)),a1,a2,a3,rv3,a4,w7⟩
   |true =>
    rw[if_pos rfl] at q7 ⊢
    refine thn (he _ s7 σ6 H7 _ I7 q7) λy s8 z0=>?_
    obtain⟨v,H8,I8,r8,n8⟩:=z0
    obtain⟨m',hm,w8⟩:=hN _ _ n8
    obtain⟨a1,a2,a3,a4⟩:=stay I8
    have hlen:=rv3.length
    refine call_meets F.slot_list_append ⟨_,a3,rfl⟩ F.entry_list_append (F.args_list_append_2 _ _) (PySem.list_append s.heap.objs.size its.toArray nn y (by rw[Zzn];omega)) ⟨a3,?_⟩
    obtain⟨n',q⟩:∃n',(s8.heap.update s.heap.objs.size (Obj.mapSeq (·.push y))).get? s.heap.objs.size=some {cls:=.type "list",data:=.seq (its++[y]).toArray n'}:=by
     have q:=PySem.IsL.update a3 (·.push y)
     have e:(its.toArray.push y)=(its++[y]).toArray:=by simp
     rw[<- e]
     exact⟨_,q⟩
    have I9:=(wk I8).pins_of (pins':=Lu fp s5.heap) λp hp=>(wk I8).pin p (Zzl _ (Zzl _ hp))
    have kk:∀b o,b≠s.heap.objs.size->s8.heap.get? b=some o->(s8.heap.update s.heap.objs.size (Obj.mapSeq (·.push y))).get? b=some o:=λb o hb e=>(Zxb s8.heap (Obj.mapSeq (·.push y)) (Zyj hb)).trans e
    refine⟨m',hm,i+1,acc++[v],its++[y],n',H8,(I9.pins_of (pins':=[]) λp hp=>absurd hp (by simp)).turned (it:=s.heap.objs.size) kk a4 hDC (.inr (Zzt _)) (λx c e z=>?_) (λp hp z=>?_),T.keep _ _ _ a1 λb hb o e=>kk b o (λz=>?_) e,a2,q,rv3.append (.cons r8 .nil),a4,w8⟩
    ·have e:=cl1 x c e
     obtain⟨w',o,ho,_⟩:=I.cell x c e
     exact Ck (Zzc ho) (Zzt _) z
    ·have hp:p∈(X.pn++pins)++[]:=hp
     rw[Zzq] at hp
     exact Ck (Zzc (I.pin p hp).1) (Zzt _) z
    ·exact Ck (live b hb) (Zzt _) z
 exact codeAny_compStart_list (loop _ rfl) (T.self _ 0 _ _ _ (T.keep _ _ _ st λb _ o e=>old b o e) (loop _ rfl))
theorem D8{elt tg iter:Expr}{ifs:List Expr}{pos:Pos}{wi:TI}{g:TG}{tt:TT}{te:TE}(hc:X.calm=true)(S:Ks X.N X.env.scope sc own cap)(hown:Tv own.length g)(hi:PI X tg iter wi)
  (hb:∀cl C s H fp pins,PG (cxComp X sc own cap cl C s H fp pins) tg g/\PTs (cxComp X sc own cap cl C s H fp pins) ifs tt/\PE (cxComp X sc own cap cl C s H fp pins) elt te)
  (hs:∀x,foldedSetIterable iter X.env x=pure x:=by intro _;rfl):PE X (.ListComp elt [⟨tg,iter,ifs,0⟩] sc pos) (V6 own cap wi g tt te):=by
 intro pins s Z H Q I h
 obtain⟨cl,hcl,cl1,cl2⟩:=Jz (env:=X.env) (scope:=sc) λy hy hf=>I.ok.has y.1 (S.free y hy hf)
 rw[eval_ListComp]
 refine wpAny_comprehension_free (use:=none) rfl hs hcl S.kind S.names (thn (hi pins s Z H _ I h) λxv s1 h1=>thn h1 λitv s2 h2=>?_)
 obtain⟨it,fp,tn,J,H2,e,I2,T,st2,f2,W,w0,turn⟩:=h2
 subst e
 refine P4 (RR:=λacc C=>compPost (model X.prog X.w) X.A X.xe none (EP X pins Z Q) acc C) hc S hown cl1 cl2 hb I2 T st2 f2 W w0 turn ?_
 intro D C H' s' J1 ⟨m,J2⟩ ⟨c0,c1,c2,c3,c4,c5⟩ q
 exact⟨m,J2,λh' sb=>⟨.ref D,H',J1.turned (t':=s'.toks) (λb o hb e=>(sb.2 b hb).trans e) c0 c1 c3 c4 c5,rfl,q⟩⟩
theorem Oe{elt tg iter:Expr}{ifs:List Expr}{pos pos' spos:Pos}{wi:TI}{g:TG}{tt:TT}{te:TE}{i:Nat}{x:Str}(hc:X.calm=true)(S:Ks X.N X.env.scope sc own cap)(hown:Tv own.length g)(hN:X.N.Nodup)(hx:X.N[i]?=some x)(hl:X.env.scope.names.lookup x=some .local)(hi:PI X tg iter wi)
  (hb:∀cl C s H fp pins,PG (cxComp X sc own cap cl C s H fp pins) tg g/\PTs (cxComp X sc own cap cl C s H fp pins) ifs tt/\PE (cxComp X sc own cap cl C s H fp pins) elt te)
  (hsw:swapsWith (.ListComp elt [⟨tg,iter,ifs,0⟩] sc pos) (some (.Name x pos')) spos.line X.env=pure true:=by rfl)
  (hs:∀x,foldedSetIterable iter X.env x=pure x:=by intro _;rfl):PS X (.Assign [.Name x pos'] (.ListComp elt [⟨tg,iter,ifs,0⟩] sc pos) spos) (Ge (V6 own cap wi g tt te) (Cj i)):=by
 intro pins s Z H D I h
 obtain⟨cl,hcl,cl1,cl2⟩:=Jz (env:=X.env) (scope:=sc) λy hy hf=>I.ok.has y.1 (S.free y hy hf)
 rw[exec_Assign_Name_used _ _ _ _ hsw]
 refine wpAny_bind (wpAny_standAt (wpAny_bind ?_))
 show wpAny _ _ (do let _ <- comprehension (.ListComp elt [⟨tg,iter,ifs,0⟩] sc pos) sc X.env _ (newList []) false (eval iter X.env) (some (assign (.Name x pos') X.env))) _ _ s
 refine wpAny_bind (wpAny_mono (wpAny_comprehension_free (use:=some (assign (.Name x pos') X.env)) (Q:=λ_ s'=>SP X pins D .next s') rfl hs hcl S.kind S.names (thn (hi pins s Z H _ I h) λxv s1 h1=>thn h1 λitv s2 h2=>?_)) (λ_ s' hq=>wpAny_pure (wpAny_pure hq)) λ_ _ e=>e)
 obtain⟨it,fp,tn,J,H2,e,I2,T,st2,f2,W,w0,turn⟩:=h2
 subst e
 refine P4 (Q:=λx H1=>Cj i x Z H1 D.nx) (RR:=λacc C=>compPost (model X.prog X.w) X.A X.xe (some (assign (.Name x pos') X.env)) (λ_ s'=>SP X pins D .next s') acc C) hc S hown cl1 cl2 hb I2 T st2 f2 W w0 turn ?_
 intro L C H' s' J1 ⟨m,J2⟩ ⟨c0,c1,c2,c3,c4,c5⟩ q
 show wpAny _ _ (assign (.Name x pos') X.env (.ref L)) _ _ s'
 refine wpAny_assign_Name (N7 (v:=.ref L) J1 hN hx (.inl hl) rfl (λs'' J3 ⟨a,sb,ha⟩=>?_) (.inr hl))
 have hCa:C≠a:=by
  rcases ha with z | z
  ·rw[z];exact c1
  ·exact Zyj (c4 _ _ z)
 refine⟨m,J2.sameBut sb hCa,λh' sb'=>⟨_,H',J3.turned (t':=s''.toks) (λb o hb e=>(sb'.2 b hb).trans e) c0 c1 c3 c4 c5,q⟩⟩
end
def Km(H:Hp):V->Option String
 |.non=>some "NoneType"
 |.bl _=>some "bool"
 |.int _=>some "int"
 |.str _=>some "str"
 |.ref a=>match H a with
  |some (.lst _)=>some "list"
  |some (.tup _)=>some "tuple"
  |some (.dK _)=>some "dict"
  |_=>none
 |_=>none
def Ex(t T:String):Bool:=t == T||(t == "bool" && T == "int")
theorem Zw(K:Zzx){t T:String}(ht:t∈["NoneType", "bool", "int", "str", "list", "tuple", "dict"])(hT:T∈["bool", "int", "str", "list", "tuple", "dict"]):PySem.W.kitOne K (.type t) (.type T)=some (Ex t T):=by
 simp only[Zzw,Zz8,or_false] at ht hT
 rcases ht with rfl | rfl | rfl | rfl | rfl | rfl | rfl<;>rcases hT with rfl | rfl | rfl | rfl | rfl | rfl<;>first | rfl | decide +kernel
section
variable {X:Cx}
theorem Ix:CallR X (.builtin "isinstance") (λxs H Q=>∃x T t,xs=[x,.ty T]/\Km H x=some t/\T∈["bool", "int", "str", "list", "tuple", "dict"]/\Q (.bl (Ex t T)) H):=by
 intro pins s Z H xs us Q I r h
 obtain⟨x,T,t,rfl,ht,hT,q⟩:=h
 obtain⟨u,w',rfl,ru,rw'⟩:=X7 r
 have rw':w'=Value.type T:=rw'
 subst rw'
 have key:∀{t':String},Ng X.K H x (.type t')->t'=t->t∈["NoneType", "bool", "int", "str", "list", "tuple", "dict"]->wpAny (model X.prog X.w) X.A (call (.builtin "isinstance") [u,.type T]) (EP X pins Z Q) X.xe s:=λ{t'} ty e hm=>by
  subst e
  exact Wd I ru ty (Zw X.K hm hT) λtk=>⟨.bl (Ex t' T),H,I.tok tk,rfl,q⟩
 cases x with
 |non=>cases ht;exact key .non rfl (by decide)
 |bl b=>cases ht;exact key (.bl b) rfl (by decide)
 |int i=>cases ht;exact key (.int i) rfl (by decide)
 |str z=>cases ht;exact key (.str z) rfl (by decide)
 |ref a =>
  unfold Km at ht
  simp only at ht
  cases e:H a with
  |none=>rw[e] at ht;cases ht
  |some o =>
   rw[e] at ht
   cases o with
   |lst xs=>cases ht;exact key (.lst e) rfl (by decide)
   |tup xs=>cases ht;exact key (.tup e) rfl (by decide)
   |dK kvs=>cases ht;exact key (.dK e) rfl (by decide)
   |_=>cases ht
 |_=>cases ht
theorem Inv.walked{pins:List (Addr×Obj)}{Z:St}{H:Hp}{s:Shared}{o:Obj}{h':Heap}{tk:Nat}(I:Inv X pins Z H s)(k:∀b ob,b∉[s.heap.objs.size]->(s.heap.push o).get? b=some ob->h'.get? b=some ob):Inv X pins Z H {s with heap:=h',toks:=tk} :=
 I.kept λb u e=>k b u (by
  intro z
  exact Ck (Zzc e) (Zzt _) (Zzk.mp z)) (Zzj _ e)
theorem V5:∀{bs:List Bool} {us:List Value},Vals (bs.map V.bl) us->us=bs.map Value.bool
 |[],_,.nil=>rfl
 |b::r,_,.cons h t=>by
  have h:_=Value.bool b:=h
  rw[h,V5 t]
  rfl
theorem U7(bs:List Bool):((Zx2 bs.length).all λi=>(bs[i]?).getD true)=bs.all id:=by
 induction bs with
 |nil=>rfl
 |cons b r ih =>
  rw[Zzy,List.range_succ_eq_map,Zwl,Zwl,Zxg]
  show ((b::r)[0]?.getD true&&_)=_
  congr 1
theorem J6{pins:List (Addr×Obj)}{Z:St}{H:Hp}{s:Shared}{a:Addr}{xs:List V}(I:Inv X pins Z H s)(h:H a=some (.lst xs)):∃its:List Value,Vals xs its/\s.heap.IsList a its.toArray/\a<s.heap.objs.size:=by
 obtain⟨hz,its,n,r,e⟩:=I.hok a _ h
 exact⟨its,r,⟨_,e,rfl,n,rfl⟩,Zzc e⟩
theorem J8(hc:X.calm=true):CallR X (.builtin "all") (λxs H Q=>∃(a:Addr) (bs:List Bool),xs=[.ref a]/\H a=some (.lst (bs.map V.bl))/\Q (.bl (bs.all id)) H):=by
 intro pins s Z H xs us Q I r h
 obtain⟨a,bs,rfl,ha,q⟩:=h
 obtain⟨u,rfl,ru⟩:=Ll r
 cases ru
 obtain⟨its,rv,hl,hlt⟩:=J6 I ha
 have e:=V5 rv
 subst e
 refine call_all_walk (wpAny_pyIter_list hl ?_)
 refine⟨s.heap.objs.size,[s.heap.objs.size,a],[s.heap.objs.size],(bs.map Value.bool).toArray.size,_,_,λi=>(bs[i]?).getD true,rfl,Walks.list (A:=X.A.in1) (I.ok.hd hc) _ a (Zxh hlt) (bs.map Value.bool).toArray,
  ⟨⟨_,Zyn _ rfl,rfl,rfl⟩,hl.push _⟩,λi v s' Q' E' hP hQ=>?_,λh' tk hk=>?_⟩
 ·have hP:(bs.map Value.bool)[i]?=some v:=by simpa using hP
  rw[Zzv] at hP
  cases e:bs[i]? with
  |none=>rw[e] at hP;cases hP
  |some b =>
   rw[e] at hP
   cases hP
   simp only[e,Option.getD_some] at hQ
   exact wpAny_truthy_bool hQ
 ·have e:((Zx2 (bs.map Value.bool).toArray.size).all λi=>(bs[i]?).getD true)=bs.all id:=by
   rw[Zzn,Zzz];exact U7 bs
  rw[e]
  exact⟨.bl (bs.all id),H,I.walked hk,rfl,q⟩
theorem op_isB:OpR X (compareOp .Is) (λx y H Q=>∃i j,x=.bl i/\y=.bl j/\Q (.bl (i == j)) H):=by
 intro pins s Z H x y v u Q I rx ry h
 obtain⟨i,j,rfl,rfl,q⟩:=h
 cases rx
 cases ry
 exact is_bool ⟨.bl (i == j),H,I,rfl,q⟩
theorem P3{x:V}:∀{xs:List V} {us:List Value},Vals xs us->xs.all Kk=true->us.countP (eqU x)=xs.countP λy=>eqV y x
 |_,_,.nil,_=>rfl
 |y::xs,u::us,.cons r t,h=>by
  rw[Zwl,Zzf] at h
  rw[List.countP_cons,List.countP_cons,P3 t h.2,Uu r h.1]
def rCount:V->List V->Hp->VK->Prop:=λx vs H Q=>∃l xs y,x=.ref l/\vs=[y]/\H l=some (.lst xs)/\Kk y=true/\xs.all Kk=true/\Q (.int (xs.countP λz=>eqV z y)) H
theorem Y2:MtM X "list.count" rCount:=by
 intro pins s Z H x vs v us Q I rx rv h
 obtain⟨l,xs,y,rfl,rfl,hH,fy,fx,q⟩:=h
 cases rx
 obtain⟨u,rfl,ru⟩:=rv.one
 obtain⟨z,its,n,r,hl,e⟩:=I.lstM hH
 refine call_meets F.slot_list_count ⟨_,e,rfl⟩ F.entry_list_count (F.args_list_count_2 _ _) (SeqAt.list_countAt l its.toArray n none #[] u (eqU y)) ⟨e,λw hw=>Mv ru fy r fx w (by simpa using hw),?_⟩
 exact⟨.int _,H,I.tok _,⟨_,by rw[<- P3 r fx]⟩,q⟩
def Its(x:Str):It:=⟨λi _=>i<x.cps.size,λi H v H'=>H'=H/\∃c,x.cps[i]?=some c/\v=.str ⟨#[c]⟩,λi _=>x.cps.size<=i⟩
theorem Se{P:Program}{w:World}{K:Zzx}{tg:Expr}(it:Addr)(x:Str)(t:Tok)(ty:String)(hty:ty = "str_ascii_iterator" \/ ty = "str_iterator"):P5 P w K tg (Its x) [it] it (λi h=>h.IsStrIter it ty x t i) where
 mem:=by simp
 obj:=λi h st b hb=>by
  have e:b=it:=by simpa using hb
  subst e
  obtain⟨o,e,c,d⟩:=st
  exact⟨o,e,λv z=>by rw[d] at z;cases z⟩
 keep:=λi h h' st k=>by obtain⟨o,ho,r⟩:=st;exact⟨o,k it (by simp) o ho,r⟩
 item:=by
  intro X hP hw hK hc i pins s Z H E I hf st hg
  subst hP hw hK
  obtain⟨f0,f1,f2,f3,f4,f5⟩:=hf it (by simp)
  have hg:i<x.cps.size:=hg
  have fin:∀h',h'.IsStrIter it ty x t (i+1)->Zx1 it s.heap h'->∃u,some (Value.str ⟨#[x.cps[i]]⟩ s.toks)=some u/\wpAny (model X.prog X.w) X.A (letOwnedTupleGo tg (.ref it) u) (λ_ s2=>∃x' H',Inv X pins Z H' s2/\RelV x' u/\(Its x).yld i H x' H'/\s2.heap.IsStrIter it ty x t (i+1)/\∀b∈[it],H' b=none) E {s with heap:=h',toks:=s.toks+1}:=λh' st' sb=>by
   have I1:Inv X pins Z H {s with heap:=h',toks:=s.toks+1}:=I.turned (t':=s.toks+1) (λb o hb e=>(sb.2 b hb).trans e) f0 f1 f3 f4 f5
   obtain⟨o,e,c,d⟩:=id st'
   refine⟨_,rfl,Vl (s:={s with heap:=h',toks:=s.toks+1}) e c d (by rcases hty with rfl | rfl<;>decide) ⟨.str ⟨#[x.cps[i]]⟩,H,I1,⟨_,rfl⟩,⟨rfl,_,by simp[hg],rfl⟩,st',λb hb=>(hf b hb).1⟩⟩
  rcases hty with rfl | rfl
  ·exact wpAny_pyNext_ascii_item st (c:=x.cps[i]) (by simp[hg]) fin
  ·exact wpAny_pyNext_wide_item st (c:=x.cps[i]) (by simp[hg]) fin
 done:=by
  intro X hP hw hK hc i pins s Z H E I hf st hg
  subst hP hw hK
  obtain⟨f0,f1,f2,f3,f4,f5⟩:=hf it (by simp)
  have hg:x.cps.size<=i:=hg
  rcases hty with rfl | rfl
  ·exact wpAny_pyNext_ascii_end (I.ok.hd hc) st (by simp;omega) λh' eb=>⟨rfl,I.turned (t':=s.toks) (λb o hb e=>eb b o hb e) f0 f1 f3 f4 f5⟩
  ·exact wpAny_pyNext_wide_end (I.ok.hd hc) st (by simp;omega) λh' eb=>⟨rfl,I.turned (t':=s.toks) (λb o hb e=>eb b o hb e) f0 f1 f3 f4 f5⟩
 self:=λ_ _ _ _ _ st h=>by
  rcases hty with rfl | rfl
  ·exact wpAny_pyIter_striter_ascii st h
  ·exact wpAny_pyIter_striter_wide st h
theorem Py{P:Program}{w:World}{K:Zzx}{tg:Expr}(a it:Addr)(xs:List V):P5 P w K tg ⟨λi H=>H a=some (.lst xs)/\i<xs.length,λi H x H'=>H'=H/\xs[i]?=some x,λi H=>H a=some (.lst xs)/\xs.length<=i⟩ [it] it (λi h=>h.IsListIter it a i) where
 mem:=(Jd (P:=P) (w:=w) (K:=K) (tg:=tg) a it).mem
 obj:=(Jd (P:=P) (w:=w) (K:=K) (tg:=tg) a it).obj
 keep:=(Jd (P:=P) (w:=w) (K:=K) (tg:=tg) a it).keep
 item:=by
  intro X hP hw hK hc i pins s Z H E I hf st hg
  obtain⟨h1,h2⟩:=hg
  refine thn ((Jd (P:=P) (w:=w) (K:=K) (tg:=tg) a it).item X hP hw hK hc i pins s Z H E I hf st ⟨xs,xs[i],SqL.of h1,by simp[h2]⟩) λr s1 ⟨u,hr,h3⟩=>⟨u,hr,thn h3 λ_ s2 z0=>by obtain⟨x,H',I2,rx,⟨y1,y2⟩,st2,f2⟩:=z0;exact ⟨x,H',I2,rx,⟨y1,y2 xs (SqL.of h1)⟩,st2,f2⟩⟩
 done:=by
  intro X hP hw hK hc i pins s Z H E I hf st hg
  obtain⟨h1,h2⟩:=hg
  exact(Jd (P:=P) (w:=w) (K:=K) (tg:=tg) a it).done X hP hw hK hc i pins s Z H E I hf st ⟨xs,SqL.of h1,h2⟩
 self:=(Jd (P:=P) (w:=w) (K:=K) (tg:=tg) a it).self
theorem Px{P:Program}{w:World}{K:Zzx}{tg:Expr}(a it:Addr)(xs:List V):P5 P w K tg ⟨λi H=>H a=some (.tup xs)/\i<xs.length,λi H x H'=>H'=H/\xs[i]?=some x,λi H=>H a=some (.tup xs)/\xs.length<=i⟩ [it] it (λi h=>h.IsTupleIter it a i) where
 mem:=(Jc (P:=P) (w:=w) (K:=K) (tg:=tg) a it).mem
 obj:=(Jc (P:=P) (w:=w) (K:=K) (tg:=tg) a it).obj
 keep:=(Jc (P:=P) (w:=w) (K:=K) (tg:=tg) a it).keep
 item:=by
  intro X hP hw hK hc i pins s Z H E I hf st hg
  obtain⟨h1,h2⟩:=hg
  refine thn ((Jc (P:=P) (w:=w) (K:=K) (tg:=tg) a it).item X hP hw hK hc i pins s Z H E I hf st ⟨xs,xs[i],SqT.of h1,by simp[h2]⟩) λr s1 ⟨u,hr,h3⟩=>⟨u,hr,thn h3 λ_ s2 z0=>by obtain⟨x,H',I2,rx,⟨y1,y2⟩,st2,f2⟩:=z0;exact ⟨x,H',I2,rx,⟨y1,y2 xs (SqT.of h1)⟩,st2,f2⟩⟩
 done:=by
  intro X hP hw hK hc i pins s Z H E I hf st hg
  obtain⟨h1,h2⟩:=hg
  exact(Jc (P:=P) (w:=w) (K:=K) (tg:=tg) a it).done X hP hw hK hc i pins s Z H E I hf st ⟨xs,SqT.of h1,h2⟩
 self:=(Jc (P:=P) (w:=w) (K:=K) (tg:=tg) a it).self
def ItL(a:Addr)(xs:List V):It:=⟨λi H=>H a=some (.lst xs)/\i<xs.length,λi H x H'=>H'=H/\xs[i]?=some x,λi H=>H a=some (.lst xs)/\xs.length<=i⟩
def ItT(a:Addr)(xs:List V):It:=⟨λi H=>H a=some (.tup xs)/\i<xs.length,λi H x H'=>H'=H/\xs[i]?=some x,λi H=>H a=some (.tup xs)/\xs.length<=i⟩
def g9(te:TE):TI:=λZ H R=>te Z H λx H1=>(∃a xs,x=.ref a/\H1 a=some (.lst xs)/\R (ItL a xs) H1)\/(∃a xs,x=.ref a/\H1 a=some (.tup xs)/\R (ItT a xs) H1)\/(∃z,x=.str z/\R (Its z) H1)
theorem Kw{tg l:Expr}{te:TE}(hl:PE X l te):PI X tg l (g9 te):=by
 intro pins s Z H R I h
 refine thn (hl pins s Z H _ I h) λv s1 z0=>?_
 obtain⟨x,H1,I1,r1,q1⟩:=z0
 have fp:∀b∈[s1.heap.objs.size],Lj X pins H1 b:=λb hb=>by
  have e:b=s1.heap.objs.size:=by simpa using hb
  subst e
  exact I1.fpOk (Zzt _) (I1.hok.fresh (Zzt _))
 rcases q1 with ⟨a,xs,e,ha,q⟩ | ⟨a,xs,e,ha,q⟩ | ⟨z,e,q⟩
 ·subst e
  cases r1
  obtain⟨its,rv,hli,hlt⟩:=J6 I1 ha
  refine wpAny_pyIter_list hli ?_
  exact⟨s1.heap.objs.size,[s1.heap.objs.size],_,_,H1,rfl,I1.kept (t':=s1.toks) λb o e=>Zzj _ e,Py a _ xs,⟨_,Zyn _ rfl,rfl,rfl⟩,fp,q⟩
 ·subst e
  cases r1
  obtain⟨hz,its,rv,p⟩:=I1.hok a _ ha
  refine wpAny_pyIter_tuple (show s1.heap.IsTuple a its.toArray from p) ?_
  exact⟨s1.heap.objs.size,[s1.heap.objs.size],_,_,H1,rfl,I1.kept (t':=s1.toks) λb o e=>Zzj _ e,Px a _ xs,⟨_,Zyn _ rfl,rfl,rfl⟩,fp,q⟩
 ·subst e
  obtain⟨t,rfl⟩:=r1
  cases hasc:z.cps.all (·<128)
  ·refine wpAny_pyIter_wide hasc ?_
   exact⟨s1.heap.objs.size,[s1.heap.objs.size],_,_,H1,rfl,I1.kept (t':=s1.toks) λb o e=>Zzj _ e,Se _ z t _ (.inr rfl),⟨_,Zyn _ rfl,rfl,rfl⟩,fp,q⟩
  ·refine wpAny_pyIter_ascii hasc ?_
   exact⟨s1.heap.objs.size,[s1.heap.objs.size],_,_,H1,rfl,I1.kept (t':=s1.toks) λb o e=>Zzj _ e,Se _ z t _ (.inl rfl),⟨_,Zyn _ rfl,rfl,rfl⟩,fp,q⟩
end
structure S8(J:It)(n:Nat)(yl:Nat->V->Prop)(ok:Hp->Prop):Prop where
 go:∀i H,i<n->ok H->J.go i H
 yld:∀i H x H',i<n->ok H->J.yld i H x H'->H'=H/\yl i x
 stop:∀H,ok H->J.stop n H
theorem Ln(a:Addr)(xs:List V):S8 (ItL a xs) xs.length (λi x=>xs[i]?=some x) (λH=>H a=some (.lst xs)):=⟨λ_ _ h o=>⟨o,h⟩,λ_ _ _ _ _ _ y=>y,λ_ o=>⟨o,Zzt _⟩⟩
theorem L5(a:Addr)(xs:List V):S8 (ItT a xs) xs.length (λi x=>xs[i]?=some x) (λH=>H a=some (.tup xs)):=⟨λ_ _ h o=>⟨o,h⟩,λ_ _ _ _ _ _ y=>y,λ_ o=>⟨o,Zzt _⟩⟩
theorem Yd(z:Str):S8 (Its z) z.cps.size (λi x=>∃c,z.cps[i]?=some c/\x=.str ⟨#[c]⟩) (λ_=>True):=⟨λ_ _ h _=>h,λ_ _ _ _ _ _ y=>y,λ_ _=>Zzt _⟩
theorem Qb(lo:Int)(n:Nat):S8 (Itr lo n) n (λi x=>x=.int (lo+i)) (λ_=>True):=⟨λ_ _ h _=>h,λ_ _ _ _ _ _ y=>y,λ_ _=>Zzt _⟩
theorem Yf{J:It}{n:Nat}{yl:Nat->V->Prop}{ok:Hp->Prop}{g:TG}{tb:TS}{D:Ends}{Z:St}{H:Hp}(G:S8 J n yl ok)(Pv:Nat->St->Hp->Prop)(h0:Pv 0 Z H)(hok:∀i Z H,i<=n->Pv i Z H->ok H)
  (hs:∀i x Z H,i<n->yl i x->Pv i Z H->g x Z H λσ2 H2=>tb {D with nx:=Pv (i+1),ct:=Pv (i+1),bk:=D.nx} σ2 H2) (hd:∀Z H,Pv n Z H->D.nx Z H) :
  ∃W:Nat->Nat->St->Hp->Prop,(∃m,W 0 m Z H)/\∀i m Z H,W i m Z H ->
   (J.stop i H/\D.nx Z H)\/(J.go i H/\∃N:St->Hp->Prop,(∀Z' H',N Z' H'->∃m',m'<m/\W (i+1) m' Z' H')/\∀x H',J.yld i H x H'->g x Z H' λσ2 H2=>tb {D with nx:=N,ct:=N,bk:=D.nx} σ2 H2):=by
 refine⟨λi m Z H=>m=n - i/\i<=n/\Pv i Z H,⟨n,by simp,Zwt _,h0⟩,?_⟩
 rintro i m Z H ⟨rfl,hi,p⟩
 have q:=hok i Z H hi p
 by_cases hlt:i<n
 ·refine .inr ⟨G.go i H hlt q,Pv (i+1),λZ' H' p'=>⟨n - (i+1),by omega,rfl,hlt,p'⟩,λx H' y=>?_⟩
  obtain⟨e,y'⟩:=G.yld i H x H' hlt q y
  subst e
  exact hs i x Z _ hlt y' p
 ·have e:i=n:=by omega
  subst e
  exact .inl ⟨G.stop H q,hd Z H p⟩
theorem Qh{J:It}{n:Nat}{yl:Nat->V->Prop}{ok:Hp->Prop}{g:TG}{tt:TT}{te:TE}{σ0:St}{H:Hp}{Q:VK}(G:S8 J n yl ok)(hn:n<=sizeLine)(Pv:Nat->List V->Hp->Prop)(h0:Pv 0 [] H)(hok:∀i acc H,i<=n->Pv i acc H->ok H)
  (hlen:∀i acc H,Pv i acc H->acc.length<=i)
  (hs:∀i x acc H,i<n->yl i x->Pv i acc H->g x σ0 H λσ2 H2=>tt σ2 H2 λb H3=>if b=true then te σ2 H3 λy H4=>Pv (i+1) (acc++[y]) H4 else Pv (i+1) acc H3)
  (hd:∀acc H,Pv n acc H->∀p,H p=none->Q (.ref p) (upd H p (.lst acc))) :
  ∃W:Nat->Nat->List V->Hp->Prop,(∃m,W 0 m [] H)/\∀i m acc H,W i m acc H->acc.length<=sizeLine /\
   ((J.stop i H/\∀p,H p=none->Q (.ref p) (upd H p (.lst acc))) \/
    (J.go i H/\acc.length<sizeLine/\∃N:List V->Hp->Prop,(∀acc' H',N acc' H'->∃m',m'<m/\W (i+1) m' acc' H')/\∀x H',J.yld i H x H'->g x σ0 H' λσ2 H2=>tt σ2 H2 λb H3=>if b=true then te σ2 H3 λy H4=>N (acc++[y]) H4 else N acc H3)):=by
 refine⟨λi m acc H=>m=n - i/\i<=n/\Pv i acc H,⟨n,by simp,Zwt _,h0⟩,?_⟩
 rintro i m acc H ⟨rfl,hi,p⟩
 have q:=hok i acc H hi p
 have hl:=hlen i acc H p
 refine⟨by omega,?_⟩
 by_cases hlt:i<n
 ·refine .inr ⟨G.go i H hlt q,by omega,Pv (i+1),λacc' H' p'=>⟨n - (i+1),by omega,rfl,hlt,p'⟩,λx H' y=>?_⟩
  obtain⟨e,y'⟩:=G.yld i H x H' hlt q y
  subst e
  exact hs i x acc _ hlt y' p
 ·have e:i=n:=by omega
  subst e
  exact .inl ⟨G.stop H q,hd acc H p⟩
section
variable {X:Cx}{a b c e o:Expr}{ta tb tc te to:TE}{pos p apos cpos:Pos}{es:List Expr}{t:TA}
theorem Oj:OpR X (binaryOp .FloorDiv) (rI (λ_ j=>0<j/\j<10^200) λi j=>.int (i / j)):=opI λi j _ _ _ _ _ hc q=>by
 have h:j.natAbs.log2<9000:=by
  have h1:j.natAbs≠0:=by omega
  rw[Nat.log2_lt h1]
  have h2:j.natAbs<10^200:=by have:=hc.2;omega
  exact Zzd h2 (by decide +kernel)
 refine floordiv_int (by omega) ?_ (.inl (PyProof.noPylong_of_log2 h))
 rw[Int.fdiv_eq_ediv_of_nonneg i (by omega)]
 exact q
def rCatE:R2:=λx y H Q=>∃a b ys,x=.ref a/\y=.ref b/\H a=some (.tup [])/\H b=some (.tup ys)/\Q (.ref b) H
theorem Zk:OpR X (binaryOp .Add) rCatE:=by
 intro pins s Z H x y v u Q I rx ry h
 obtain⟨a,b,ys,rfl,rfl,ha,hb,q⟩:=h
 cases rx
 cases ry
 obtain⟨its,r1,p1,_⟩:=I.tuple (SqT.of ha)
 obtain⟨its2,r2,p2,_⟩:=I.tuple (SqT.of hb)
 cases r1
 obtain⟨⟨cls,dd,data,sl⟩,ho,hc,n,hd⟩:=id p1
 obtain⟨⟨cls2,dd2,data2,sl2⟩,ho2,hc2,n2,hd2⟩:=id p2
 simp only at hc hd hc2 hd2
 subst hc hd hc2 hd2
 exact concat_meets ⟨_,ho,rfl⟩ ⟨_,ho2,rfl⟩ noFill_tuple_add seq_tuple_add Zvv Zw1 (Zw4 _ _)
   (tuple_addW0 a b _ _ n n2 dd dd2 sl sl2 (by simp)) ⟨ho,ho2,.ref b,H,I,rfl,q⟩
def rCatTT:R2:=λx y H Q=>∃a b xs ys,x=.ref a/\y=.ref b/\H a=some (.tup xs)/\H b=some (.tup ys)/\xs.length+ys.length<=sizeLine /\
 ∀p H',H' p=some (.tup (xs++ys))->Same H H'->(∀q,q≠p->H' q=H q)->Q (.ref p) H'
theorem Mp:OpR X (binaryOp .Add) rCatTT:=by
 intro pins s Z H x y v u Q I rx ry h
 obtain⟨a,b,xs,ys,rfl,rfl,ha,hb,hz,q⟩:=h
 by_cases hx:xs=[]
 ·subst hx
  exact Zk pins s Z H _ _ v u Q I rx ry ⟨a,b,ys,rfl,rfl,ha,hb,q b H (by simpa using hb) (Same.refl H) λ_ _=>rfl⟩
 ·refine Zj pins s Z H _ _ v u Q I rx ry ⟨a,b,xs,ys,rfl,rfl,SqT.of ha,SqT.of hb,hx,hz,λe=>?_,λ_ p hp=>?_⟩
  ·subst e
   exact q a H (by simpa using ha) (Same.refl H) λ_ _=>rfl
  ·exact q p _ A1 (λc o hc=>by rw[Bd (Bj hc hp)];exact hc) λ_ hq=>Bd hq
def Ep:R2:=λx y H Q=>(∃i j,x=.int i/\y=.int j/\Q (.int (i+j)) H)\/(∃i j,x=.str i/\y=.str j/\i.length+j.length<=sizeLine/\Q (.str (i++j)) H)\/rCat x y H Q\/rCatTT x y H Q
def Cz:R2:=λx y H Q=>(∃i j,x=.int i/\y=.int j/\Q (.int (i+j)) H)\/(∃i j,x=.str i/\y=.str j/\i.length+j.length<=sizeLine/\Q (.str (i++j)) H)
def Ni(H:Hp)(x y v:V):Prop :=
 (∃p xs i,x=.ref p/\y=.int i/\(H p=some (.lst xs)\/H p=some (.tup xs))/\atI xs i=some v) \/
 (∃z i c,x=.str z/\y=.int i/\z.length<=sizeLine/\atI z.cps.toList i=some c/\v=.str ⟨#[c]⟩) \/
 (∃p kvs k,x=.ref p/\y=kV k/\Rd H p (.dK kvs)/\Mh kvs k=some v)
def rItem:R2:=λx y H Q=>∃v,Ni H x y v/\Q v H
theorem Zy(hu:X.A.units+1<cLine):IxR X (λx y H Q=>∃a v,x=.ref a/\Yx H a y (some v)/\Q v H):=by
 intro value slice pins s Z H x y v u Q I rx ry h hs
 obtain⟨a,z,rfl,g,q⟩:=h
 cases rx
 exact tail_any (Tr I g) PySem.F.slot_dict_getitem.lookup (Ww hu I g ry λw' s3 I3 rw'=>⟨z,H,I3,rw',q⟩) hs
theorem Zx(hu:X.A.units+1<cLine):IxR X rItem:=by
 intro value slice pins s Z H x y v u Q I rx ry h hs
 obtain⟨z,h,q⟩:=h
 rcases h with ⟨p,xs,i,rfl,rfl,h | h,he⟩ | ⟨z',i,c,rfl,rfl,hz,he,rfl⟩ | ⟨p,kvs,k,rfl,rfl,h,he⟩
 ·exact Rv value slice pins s Z H _ _ v u Q I rx ry ⟨p,xs,i,z,rfl,rfl,SqL.of h,he,q⟩ hs
 ·exact de value slice pins s Z H _ _ v u Q I rx ry ⟨p,xs,i,z,rfl,rfl,SqT.of h,he,q⟩ hs
 ·exact df value slice pins s Z H _ _ v u Q I rx ry ⟨z',i,c,rfl,rfl,hz,he,q⟩ hs
 ·refine Zy hu value slice pins s Z H _ _ v u Q I rx ry ⟨p,z,rfl,?_,q⟩ hs
  have g:Yx H p (kV k) (Mh kvs k):=.inl ⟨kvs,k,h,rfl,rfl⟩
  rw[he] at g
  exact g
theorem Ag(hu:X.A.units+1<cLine)(ha:PE X a ta)(hb:PE X b tb)(hs:Vv b):PE X (.Subscript a b pos) (tOp rItem ta tb):=Xj (Zx hu) ha hb hs
theorem Ch{H:Hp}{p:Addr}{xs:List V}{j:Nat}{v:V}(h:H p=some (.tup xs))(e:xs[j]?=some v):Ni H (.ref p) (.int j) v:=.inl ⟨p,xs,j,rfl,rfl,.inr h,Ma e⟩
theorem Ce{H:Hp}{p:Addr}{xs:List V}{j:Nat}{v:V}(h:H p=some (.lst xs))(e:xs[j]?=some v):Ni H (.ref p) (.int j) v:=.inl ⟨p,xs,j,rfl,rfl,.inl h,Ma e⟩
theorem Ur{H:Hp}{p:Addr}{xs:List V}{i:Int}{v:V}(h:H p=some (.lst xs)\/H p=some (.tup xs))(h0:0<=i)(e:xs[i.toNat]?=some v):Ni H (.ref p) (.int i) v:=by
 refine .inl ⟨p,xs,i,rfl,rfl,h,?_⟩
 have q:=Ma e
 rw[Int.toNat_of_nonneg h0] at q
 exact q
theorem Uq{H:Hp}{z:Str}{i:Int}{c:Nat}(hz:z.length<=sizeLine)(h0:0<=i)(e:z.cps.toList[i.toNat]?=some c):Ni H (.str z) (.int i) (.str ⟨#[c]⟩):=by
 refine .inr (.inl ⟨z,i,c,rfl,rfl,hz,?_,rfl⟩)
 have q:=Ma e
 rw[Int.toNat_of_nonneg h0] at q
 exact q
def lenA:List V->Hp->VK->Prop:=λxs H Q=>(∃p ys,xs=[.ref p]/\(H p=some (.lst ys)\/H p=some (.tup ys))/\Q (.int ys.length) H)\/(∃z,xs=[.str z]/\z.length<=sizeLine/\Q (.int z.length) H)\/(∃p kvs,xs=[.ref p]/\H p=some (.dK kvs)/\Q (.int kvs.length) H)
theorem call_lenA:CallR X (.builtin "len") lenA:=by
 intro pins s Z H xs us Q I r h
 rcases h with ⟨p,ys,rfl,h,q⟩ | ⟨z,rfl,hz,q⟩ | ⟨p,kvs,rfl,h,q⟩
 ·exact Lh pins s Z H _ us Q I r ⟨p,ys,rfl,h.imp SqL.of SqT.of,q⟩
 ·exact S2 pins s Z H _ us Q I r ⟨z,rfl,hz,q⟩
 ·exact X0 pins s Z H _ us Q I r ⟨p,kvs,rfl,h,q⟩
def InA(H:Hp)(x y:V)(b:Bool):Prop :=
 (∃p xs,y=.ref p/\(H p=some (.lst xs)\/H p=some (.tup xs))/\Kk x=true/\xs.all Kk=true/\b=inV x xs) \/
 (∃i j,x=.str i/\y=.str j/\b=!(Builtin.Str.occurrences j i 0 j.length 1).isEmpty) \/
 (∃p kvs k,y=.ref p/\x=kV k/\Rd H p (.dK kvs)/\b=(Mh kvs k).isSome)
theorem Oi(hu:X.A.units+1<cLine):OpR X (compareOp .In) (λx y H Q=>∃b,InA H x y b/\Q (.bl b) H):=by
 intro pins s Z H x y v u Q I rx ry h
 obtain⟨b,h,q⟩:=h
 rcases h with ⟨p,xs,rfl,hp,fx,fxs,rfl⟩ | ⟨i,j,rfl,rfl,rfl⟩ | ⟨p,kvs,k,rfl,rfl,hp,rfl⟩
 ·exact W5 pins s Z H _ _ v u Q I rx ry ⟨p,xs,rfl,hp.imp SqL.of SqT.of,fx,fxs,q⟩
 ·exact W4 pins s Z H _ _ v u Q I rx ry ⟨i,j,rfl,rfl,q⟩
 ·cases ry
  exact d_in hu I (.inl ⟨kvs,k,hp,rfl,rfl⟩) rx λs' I'=>⟨.bl _,H,I',rfl,q⟩
def Ef:V->V->V->Hp->(Hp->Prop)->Prop:=λo i v H Q=>rSetL o i v H Q\/(∃p kvs k,o=.ref p/\i=kV k/\H p=some (.dK kvs)/\kvs.length<sizeLine/\Q (upd H p (.dK (ff kvs k v))))
theorem X9{K:Zzx}{H:Hp}{x:V}{T:String}(h:Km H x=some T)(hT:T = "list" \/ T = "dict" \/ T = "str"):tyV K T x H:=by
 cases x with
 |str z=>cases h;rfl
 |ref a =>
  unfold Km at h
  simp only at h
  cases e:H a with
  |none=>rw[e] at h;cases h
  |some o =>
   rw[e] at h
   cases o with
   |lst xs=>cases h;exact .inl ⟨rfl,xs,SqL.of e⟩
   |tup xs=>cases h;exact absurd hT (by decide)
   |dK kvs=>cases h;exact .inr (.inr (.inl ⟨rfl,.inl ⟨kvs,e⟩⟩))
   |_=>cases h
 |int i=>cases h;exact absurd hT (by decide)
 |bl i=>cases h;exact absurd hT (by decide)
 |non=>cases h;exact absurd hT (by decide)
 |_=>cases h
def Hb(T:String)(r:V->List V->Hp->VK->Prop)(to:TE):TE:=λZ H Q=>to Z H λx H1=>Km H1 x=some T/\r x [] H1 Q
def tBA(T:String)(r:V->List V->Hp->VK->Prop)(to:TE)(t:TA):TE:=λZ H Q=>to Z H λx H1=>Km H1 x=some T/\t Z H1 λxs H2=>r x xs H2 Q
variable {name:Str}{T id:String}{r:V->List V->Hp->VK->Prop}
theorem Xo(pa:PlainAttrs T)(slot:Slot T name id)(hty:typeOf (.builtin id)=pure (.type "method_descriptor"))(hm:MtR X id r)(ho:PE X o to)(hT:T = "list" \/ T = "dict" \/ T = "str" := by decide)
  (hbase:attributeBase o name X.env (eval o X.env)=eval o X.env:=by rfl) (hline:(apos.endLine == cpos.line)=true:=by rfl):PE X (.Call (.Attribute o name apos) [] [] cpos) (Hb T r to):=by
 intro pins s Z H Q I h
 refine wpAny_Call_method0_late hbase hline (thn (ho pins s Z H _ I h) λv s1 z0=>?_)
 obtain⟨x,H1,I1,r1,ty,q1⟩:=z0
 obtain⟨h1,h2⟩:=Xa I1 r1 (X9 ty hT)
 exact⟨T,id,pa,slot,hty,h1,h2,Zvu rfl (PySem.evalArgs_none (hm pins s1 Z H1 x [] v [] Q I1 r1 .nil q1))⟩
theorem fj(pa:PlainAttrs T)(slot:Slot T name id)(hty:typeOf (.builtin id)=pure (.type "method_descriptor"))(hm:MtR X id r)(ho:PE X o to)(ha:PA X (e::es) t)(hT:T = "list" \/ T = "dict" \/ T = "str" := by decide)
  (hbase:attributeBase o name X.env (eval o X.env)=eval o X.env:=by rfl)
  (hfew:((backTo cpos (starEach (e::es) X.env)).all (λx=>!x.1)&&(backToKw cpos (keywordEach [] X.env)).all (λx=>x.1.isSome)
   && decide ((e::es).length+([]:List Keyword).length+(if ([]:List Keyword).isEmpty then 0 else 1)<30))=true:=by rfl)
  (hline:(apos.endLine == cpos.line)=true:=by rfl) (hs:starEach (e::es) X.env=(false,eval e X.env)::starEach es X.env:=by rfl) (hplain:(backTo cpos (starEach es X.env)).any (·.1)=false:=by rfl) :
  PE X (.Call (.Attribute o name apos) (e::es) [] cpos) (tBA T r to t):=by
 intro pins s Z H Q I h
 refine wpAny_Call_method_late hbase hfew hline rfl (thn (ho pins s Z H _ I h) λv s1 z0=>?_)
 obtain⟨x,H1,I1,r1,ty,q1⟩:=z0
 obtain⟨h1,h2⟩:=Xa I1 r1 (X9 ty hT)
 refine⟨T,id,pa,slot,hty,h1,h2,?_⟩
 have hA:=ha cpos pins s1 Z H1 _ I1 q1
 rw[hs] at hA ⊢
 refine Zvu (by show (false||(backTo cpos (starEach es X.env)).any (·.1))=false;rw[hplain]<;>rfl) (Zvj ?_)
 exact thn hA λus s2 ⟨vs,H2,I2,r2,q2⟩=>hm pins s2 Z H2 x vs v us Q I2 r1 r2 q2
end
def Has(P:Program)(w:World)(K:Zzx)(mg:Str->Option Value)(base:Heap)(x:Str)(k:Nat)(ps:List Str)(sp:Sp):Prop :=
 ∃f fd,mg x=some (.ref f)/\Zzb K (.ref f)=true/\Binds K fd ps []/\Dp P w K mg base CX0 k f fd ps sp
theorem Xm{X:Cx}{x:Str}{k:Nat}{ps:List Str}{sp:Sp}{e:Expr}{es:List Expr}{t:TA}{p pos:Pos}(h:Has X.prog X.w X.K X.mg X.base x k ps sp)(hr:Room k X.A)(hg:Gl X x)(ha:PA X (e::es) t)
  (hdb:(x == ("__debug__" : Str))=false:=by decide) (he:starEach (e::es) X.env=(false,eval e X.env)::starEach es X.env:=by rfl) (hpl:(backTo pos (starEach es X.env)).any (·.1)=false:=by rfl) :
  PE X (.Call (.Name x p) (e::es) [] pos) (Dh sp [] E0 t):=by
 obtain⟨f,fd,hm,hk,hb,F⟩:=h
 exact Ze F hr hg hm hk hb .nil fo ha hdb he hpl
end L2
namespace HT
open PySem PyProof.Rows
section
variable {prog:Program}{w:World}{A:Around}{E:Value->Shared->Prop}{s:Shared}
theorem Mc{t sl:Addr}{items:Array Value}{vl vu:Value}{lo hi:Option Int}{Q:Value->Shared->Prop}(ht:IsTup s.heap t items)(hs:s.heap.IsSliceOf sl vl vu .none)(pl:IsPart vl lo)(pu:IsPart vu hi)
  (hw:sIx items.size 0 lo=0/\sIx items.size items.size hi=items.size) (h:Q (.ref t) s):wpAny (model prog w) A (getItem (.ref t) (.ref sl)) Q E s:=by
 obtain⟨os,hos,hcs,hds⟩:=id hs
 have hTs:s.TypeIs (.ref sl) "slice" := ⟨os,hos,hcs⟩
 unfold getItem
 try with_reducible refine wpAny_holding ?_
 first | refine wpAny_bind (wpAny_pure ?_) | skip
 refine wpAny_bind (wpAny_sequenceKey ht.typeIs (by decide) ?_)
 refine wpAny_bind (wpAny_callSpecial?_slot (name:=Str.ofString "__getitem__") ht.typeIs Zxr
  (wpAny_call_entry Zxr ht.typeIs entry_tuple_getitem ?_ (args_tuple_getitem _ _)))
 show wpAny _ _ (Builtin.Tuple.tupleItemsOf (.ref t) >>= _) _ _ s
 refine wpAny_bind (tupleItemsOf_ ht ?_)
 refine wpAny_bind (wpAny_typeOf hTs ?_)
 rw[if_pos (by decide)]
 refine wpAny_bind (Ky hs pl pu ?_)
 have hyes:((((sIx items.size 0 lo:Nat):Int) == 0&&(1:Int) == 1&&(sIx items.size items.size hi - sIx items.size 0 lo) == items.size)=true):=by
  rw[hw.1,hw.2]
  simp
 show wpAny _ _ (if (((sIx items.size 0 lo:Nat):Int) == 0&&(1:Int) == 1&&(sIx items.size items.size hi - sIx items.size 0 lo) == items.size)=true then _ else _) _ _ s
 rw[if_pos hyes]
 refine wpAny_bind (m:=Builtin.Tuple.tupleIsExact _) ?_
 unfold Builtin.Tuple.tupleIsExact
 refine wpAny_bind (wpAny_typeOf ht.typeIs (wpAny_pure ?_))
 rw[if_pos (by decide)]
 refine wpAny_bind (wpAny_rule ?_)
 first
  |exact wpAny_pure ⟨_,rfl,wpAny_pure h⟩
  |exact wpAny_bind (wpAny_pure (wpAny_pure ⟨_,rfl,wpAny_pure h⟩))
end
end HT
namespace L2
open PySem PySem.Spec PyProof.Rows
section
variable {X:Cx}{a b c e o:Expr}{ta tb tc te to:TE}{pos p apos cpos:Pos}{es:List Expr}{t:TA}
theorem Z6:SlR X (λx lo hi H Q=>∃a xs,x=.ref a/\H a=some (.tup xs)/\(HT.sIx xs.length 0 lo=0/\HT.sIx xs.length xs.length hi=xs.length)/\Q (.ref a) H):=by
 intro pins s Z H x v vl vu lo hi sl Q I rx hs pl pu h
 obtain⟨a,xs,rfl,hx,hw,q⟩:=h
 cases rx
 obtain⟨its,r,ht,hz⟩:=I.tuple (SqT.of hx)
 have hlen:its.toArray.size=xs.length:=by rw[Zzn];exact r.length.symm
 refine⟨"tuple",_,Zxr.lookup,ht.typeIs,?_⟩
 exact HT.Mc ht hs pl pu (by rw[hlen];exact hw) ⟨.ref a,H,I,rfl,q⟩
theorem Uy{xs:List V}{lo hi:Option Int}(h:HT.sIx xs.length 0 lo=0/\HT.sIx xs.length xs.length hi=xs.length):Hz xs lo hi=xs:=by
 unfold Hz
 rw[h.1,h.2]
 simp
theorem V9:SlR X (λx lo hi H Q=>∃a xs,x=.ref a/\H a=some (.tup xs)/\∀p H',H' p=some (.tup (Hz xs lo hi))->Same H H'->(∀q,q≠p->H' q=H q)->Q (.ref p) H'):=by
 intro pins s Z H x v vl vu lo hi sl Q I rx hs pl pu h
 obtain⟨a,xs,rfl,hx,q⟩:=h
 by_cases hw:HT.sIx xs.length 0 lo=0/\HT.sIx xs.length xs.length hi=xs.length
 ·exact Z6 pins s Z H _ v vl vu lo hi sl Q I rx hs pl pu ⟨a,xs,rfl,hx,hw,q a H (by rw[Uy hw];exact hx) (Same.refl H) λ_ _=>rfl⟩
 ·exact bx pins s Z H _ v vl vu lo hi sl Q I rx hs pl pu ⟨a,xs,rfl,SqT.of hx,hw,λp hp=>q p _ A1 (λc o hc=>by rw[Bd (Bj hc hp)];exact hc) λ_ hq=>Bd hq⟩
theorem Fx:SlR X (λx lo hi H Q=>∃a xs,x=.ref a/\H a=some (.lst xs)/\∀p,H p=none->Q (.ref p) (upd H p (.lst (Hz xs lo hi)))):=by
 intro pins s Z H x v vl vu lo hi sl Q I rx hs pl pu h
 obtain⟨a,xs,rfl,hx,q⟩:=h
 exact Qt pins s Z H _ v vl vu lo hi sl Q I rx hs pl pu ⟨a,xs,rfl,SqL.of hx,q⟩
theorem D1{x:Str}{i:Int}{pos:Pos}(hg:Gl X x)(hm:∃t,X.mg x=some (.int i t))(hd:(x == ("__debug__" : Str))=false:=by decide):PE X (.Name x pos) (tC (.int i)):=by
 obtain⟨t,hm⟩:=hm
 exact Jq hg hm ⟨t,rfl⟩ hd
theorem Su{x z:Str}{pos:Pos}(hg:Gl X x)(hm:∃t,X.mg x=some (.str z t))(hd:(x == ("__debug__" : Str))=false:=by decide):PE X (.Name x pos) (tC (.str z)):=by
 obtain⟨t,hm⟩:=hm
 exact Jq hg hm ⟨t,rfl⟩ hd
theorem E2(hu:X.A.units+1<cLine):OpR X (compareOp .Eq) rEq:=fz
theorem Ua(hu:X.A.units+1<cLine):OpR X (compareOp .NotEq) rNe:=fq
theorem cw(hu:X.A.units+1<cLine):OpR X (compareOp .Lt) (rI0 λi j=>.bl (decide (i<j))):=ft
def rIsA:R2:=λx y H Q=>(∃i j,x=.bl i/\y=.bl j/\Q (.bl (i == j)) H)\/(y=.non/\Q (.bl (decide (x=.non))) H)
theorem cy:OpR X (compareOp .Is) rIsA:=op_isB.or cx
def C7:R2:=λx y H Q=>(∃i j,x=.bl i/\y=.bl j/\Q (.bl (i != j)) H)\/(y=.non/\Q (.bl (!decide (x=.non))) H)
def tupleA:List V->Hp->VK->Prop:=λxs H Q=>∃p ys,xs=[.ref p]/\((H p=some (.lst ys)/\∀l,H l=none->Q (.ref l) (upd H l (.tup ys)))\/(H p=some (.tup ys)/\Q (.ref p) H))
theorem Cr:CallR X (.type "tuple") tupleA:=by
 intro pins s Z H xs us Q I r h
 obtain⟨p,ys,rfl,h⟩:=h
 exact Po pins s Z H _ us Q I r ⟨p,ys,rfl,h.imp (λh=>⟨SqL.of h.1,h.2⟩) λh=>⟨SqT.of h.1,h.2⟩⟩
def listA:List V->Hp->VK->Prop:=λxs H Q=>∃p ys,xs=[.ref p]/\(H p=some (.lst ys)\/H p=some (.tup ys))/\∀l,H l=none->Q (.ref l) (upd H l (.lst ys))
theorem Uz:CallR X (.type "list") listA:=by
 intro pins s Z H xs us Q I r h
 obtain⟨p,ys,rfl,h,q⟩:=h
 exact S1 pins s Z H _ us Q I r ⟨p,ys,rfl,h.imp SqL.of SqT.of,q⟩
def cpB(N:List Str)(osc sc:Scope)(own:List Str)(cap:List Nat):Bool :=
 decide (sc.kind=.function)&&sc.names.all (λx=>x.2 != .local||decide (sc.names.lookup x.1=some .local))&&sc.names.all (λy=>y.2 != .cell) &&
 sc.names.all (λy=>y.2 != .free||decide (osc.names.lookup y.1=some .cell)||decide (osc.names.lookup y.1=some .free))&&cap.all λj=>decide (j<N.length)&&decide (sc.names.lookup (N.getD j "")=some .free)
theorem Fu{N:List Str}{osc sc:Scope}{own:List Str}{cap:List Nat}(h:cpB N osc sc own cap=true):Ks N osc sc own cap:=by
 unfold cpB at h
 rw[Zzf,Zzf,Zzf,Zzf] at h
 obtain⟨⟨⟨⟨h1,h2⟩,h3⟩,h4⟩,h5⟩:=h
 refine⟨of_decide_eq_true h1,λx hx hl=>?_,λy hy hc=>?_,λy hy hf=>?_,λj hj=>?_⟩
 ·have q:=Zz2.mp h2 x hx
  rw[hl] at q
  exact of_decide_eq_true (by simpa using q)
 ·have q:=Zz2.mp h3 y hy
  rw[hc] at q
  exact absurd q (by decide)
 ·have q:=Zz2.mp h4 y hy
  rw[hf] at q
  rw[Bool.or_eq_true,Bool.or_eq_true] at q
  rcases q with (q | q) | q
  ·exact absurd q (by decide)
  ·exact .inl (of_decide_eq_true q)
  ·exact .inr (of_decide_eq_true q)
 ·have q:=Zz2.mp h5 j hj
  rw[Zzf] at q
  exact⟨of_decide_eq_true q.1,of_decide_eq_true q.2⟩
end
section
variable {X:Cx}
def Dv:R2:=λx y H Q=>∃l k xs,x=.ref l/\y=.int k/\H l=some (.tup xs)/\xs≠[]/\2<=k/\k<=1000/\xs.length*k.toNat<=10000 /\
 ∀p,H p=none->Q (.ref p) (upd H p (.tup (Zx9 k.toNat xs).flatten))
def Eh:R2:=λx y H Q=>(∃i j,x=.int i/\y=.int j/\CMul i j/\Q (.int (i*j)) H)\/Dv x y H Q
theorem CallR.weak{f:Value}{r r':List V->Hp->VK->Prop}(h:CallR X f r)(w:∀xs H Q,r' xs H Q->r xs H Q):CallR X f r':=λpins s Z H xs us Q I rv q=>h pins s Z H xs us Q I rv (w _ _ _ q)
def lenQ:List V->Hp->VK->Prop:=λxs H Q=>∃p ys,xs=[.ref p]/\(H p=some (.lst ys)\/H p=some (.tup ys))/\Q (.int ys.length) H
theorem G5:CallR X (.builtin "len") lenQ:=call_lenA.weak λ_ _ _ h=>.inl h
def Hs:List V->Hp->VK->Prop:=λxs H Q=>∃z,xs=[.str z]/\z.length<=sizeLine/\Q (.int z.length) H
def Ht:List V->Hp->VK->Prop:=λxs H Q=>∃p kvs,xs=[.ref p]/\H p=some (.dK kvs)/\Q (.int kvs.length) H
def Ee:V->V->V->Hp->(Hp->Prop)->Prop:=λo i v H Q=>∃p kvs k,o=.ref p/\i=kV k/\H p=some (.dK kvs)/\kvs.length<sizeLine/\Q (upd H p (.dK (ff kvs k v)))
def Eo:R2:=λx y H Q=>∃i j,x=.str i/\y=.str j/\i.length+j.length<=sizeLine/\Q (.str (i++j)) H
def He(te:TE):TI:=λZ H R=>te Z H λx H1=>∃a xs,x=.ref a/\H1 a=some (.lst xs)/\R (ItL a xs) H1
def Hd(te:TE):TI:=λZ H R=>te Z H λx H1=>∃a xs,x=.ref a/\H1 a=some (.tup xs)/\R (ItT a xs) H1
def Hu(te:TE):TI:=λZ H R=>te Z H λx H1=>∃z,x=.str z/\R (Its z) H1
theorem Kv{tg l:Expr}{te:TE}(hl:PE X l te):PI X tg l (He te):=by
 intro pins s Z H R I h
 refine thn (hl pins s Z H _ I h) λv s1 z0=>?_
 obtain⟨x,H1,I1,r1,q1⟩:=z0
 obtain⟨a,xs,e,ha,q⟩:=q1
 subst e
 cases r1
 obtain⟨its,rv,hli,hlt⟩:=J6 I1 ha
 refine wpAny_pyIter_list hli ?_
 refine⟨s1.heap.objs.size,[s1.heap.objs.size],_,_,H1,rfl,I1.kept (t':=s1.toks) λb o e=>Zzj _ e,Py a _ xs,⟨_,Zyn _ rfl,rfl,rfl⟩,λb hb=>?_,q⟩
 have e:b=s1.heap.objs.size:=by simpa using hb
 subst e
 exact I1.fpOk (Zzt _) (I1.hok.fresh (Zzt _))
theorem Ku{tg l:Expr}{te:TE}(hl:PE X l te):PI X tg l (Hd te):=by
 intro pins s Z H R I h
 refine thn (hl pins s Z H _ I h) λv s1 z0=>?_
 obtain⟨x,H1,I1,r1,q1⟩:=z0
 obtain⟨a,xs,e,ha,q⟩:=q1
 subst e
 cases r1
 obtain⟨hz,its,rv,p⟩:=I1.hok a _ ha
 refine wpAny_pyIter_tuple (show s1.heap.IsTuple a its.toArray from p) ?_
 refine⟨s1.heap.objs.size,[s1.heap.objs.size],_,_,H1,rfl,I1.kept (t':=s1.toks) λb o e=>Zzj _ e,Px a _ xs,⟨_,Zyn _ rfl,rfl,rfl⟩,λb hb=>?_,q⟩
 have e:b=s1.heap.objs.size:=by simpa using hb
 subst e
 exact I1.fpOk (Zzt _) (I1.hok.fresh (Zzt _))
end
end L2
namespace NP
open PySem L2
theorem Dc:bootBuiltins "isinstance" = some (.builtin "isinstance"):=by decide +kernel
theorem Li:bootBuiltins "all" = some (.builtin "all"):=by decide +kernel
theorem J9:bootBuiltins "len" = some (.builtin "len"):=by decide +kernel
theorem V0:bootBuiltins "int" = some (.type "int"):=by decide +kernel
theorem ai:bootBuiltins "bool" = some (.type "bool"):=by decide +kernel
theorem Ig:bootBuiltins "str" = some (.type "str"):=by decide +kernel
theorem Ey:bootBuiltins "tuple" = some (.type "tuple"):=by decide +kernel
theorem ah:bootBuiltins "list" = some (.type "list"):=by decide +kernel
theorem S3:bootBuiltins "enumerate" = some (.type "enumerate"):=by decide +kernel
theorem dn:bootBuiltins "zip" = some (.type "zip"):=by decide +kernel
def But(st:Addr)(H H':Hp):Prop:=∀b o,b≠st->H b=some o->H' b=some o
theorem But.refl(st:Addr)(H:Hp):But st H H:=λ_ _ _ h=>h
theorem But.trans{st:Addr}{H H1 H2:Hp}(a:But st H H1)(b:But st H1 H2):But st H H2:=λc o n h=>b c o n (a c o n h)
theorem Hj{st:Addr}{H H':Hp}(s:Same H H'):But st H H':=λb o _ h=>s b o h
theorem A0{H:Hp}{p:Addr}{o:HO}(hp:H p=none):Same H (upd H p o):=λb u h=>by rw[Bd (Bj h hp)];exact h
theorem N5{st:Addr}{H:Hp}{p:Addr}{o:HO}(hp:H p=none):But st H (upd H p o):=Hj (A0 hp)
theorem but_set{st:Addr}{H:Hp}{o:HO}:But st H (upd H st o):=λb u n h=>by rw[Bd n];exact h
def StOk(H:Hp)(st:Addr):Prop:=∃ns:List Int,ns≠[]/\H st=some (.lst (ns.map V.int))
theorem StOk.same{H H':Hp}{st:Addr}(h:StOk H st)(s:Same H H'):StOk H' st:=by obtain⟨ns,n,e⟩:=h;exact⟨ns,n,s _ _ e⟩
inductive D where
 |non | bl (b:Bool) | int (i:Int) | str (x:Str) | tup (ds:List D) | lst | dct
mutual
def Rep(H:Hp):D->V->Prop
 |.non,v=>v=.non
 |.bl b,v=>v=.bl b
 |.int i,v=>v=.int i
 |.str x,v=>v=.str x/\x.length<=1000
 |.tup ds,v=>∃a xs,v=.ref a/\H a=some (.tup xs)/\ds.length<=1000/\Reps H ds xs
 |.lst,v=>∃a xs,v=.ref a/\H a=some (.lst xs)
 |.dct,v=>∃a kvs,v=.ref a/\H a=some (.dK kvs)
def Reps(H:Hp):List D->List V->Prop
 |[],xs=>xs=[]
 |d::ds,xs=>∃x r,xs=x::r/\Rep H d x/\Reps H ds r
end
def Yv(H H':Hp):Prop:=(∀a xs,H a=some (.tup xs)->H' a=some (.tup xs))/\(∀a xs,H a=some (.lst xs)->∃ys,H' a=some (.lst ys))/\∀a kvs,H a=some (.dK kvs)->∃kvs',H' a=some (.dK kvs')
theorem Oa{H H':Hp}(s:Same H H'):Yv H H':=⟨λ_ _ h=>s _ _ h,λ_ xs h=>⟨xs,s _ _ h⟩,λ_ kvs h=>⟨kvs,s _ _ h⟩⟩
mutual
theorem Rep.keep{H H':Hp}(k:Yv H H'):∀(d:D) (v:V),Rep H d v->Rep H' d v
 |.non,v,h=>by rw[Rep] at h ⊢;exact h
 |.bl b,v,h=>by rw[Rep] at h ⊢;exact h
 |.int i,v,h=>by rw[Rep] at h ⊢;exact h
 |.str x,v,h=>by rw[Rep] at h ⊢;exact h
 |.tup ds,v,h=>by
  rw[Rep] at h ⊢
  obtain⟨a,xs,e,h,z,r⟩:=h
  exact⟨a,xs,e,k.1 a xs h,z,Reps.keep k ds xs r⟩
 |.lst,v,h=>by
  rw[Rep] at h ⊢
  obtain⟨a,xs,e,h⟩:=h
  obtain⟨ys,h'⟩:=k.2.1 a xs h
  exact⟨a,ys,e,h'⟩
 |.dct,v,h=>by
  rw[Rep] at h ⊢
  obtain⟨a,kvs,e,h⟩:=h
  obtain⟨ys,h'⟩:=k.2.2 a kvs h
  exact⟨a,ys,e,h'⟩
theorem Reps.keep{H H':Hp}(k:Yv H H'):∀(ds:List D) (xs:List V),Reps H ds xs->Reps H' ds xs
 |[],xs,h=>by rw[Reps] at h ⊢;exact h
 |d::ds,xs,h=>by
  rw[Reps] at h ⊢
  obtain⟨x,r,e,h1,h2⟩:=h
  exact⟨x,r,e,Rep.keep k d x h1,Reps.keep k ds r h2⟩
end
theorem Rep.same{H H':Hp}{d:D}{v:V}(h:Rep H d v)(s:Same H H'):Rep H' d v:=Rep.keep (Oa s) d v h
theorem Reps.same{H H':Hp}{ds:List D}{vs:List V}(h:Reps H ds vs)(s:Same H H'):Reps H' ds vs:=Reps.keep (Oa s) ds vs h
theorem Reps.length{H:Hp}:∀{ds:List D} {xs:List V},Reps H ds xs->xs.length=ds.length
 |[],xs,h=>by rw[Reps] at h;rw[h];rfl
 |d::ds,xs,h=>by
  rw[Reps] at h
  obtain⟨x,r,e,_,h2⟩:=h
  rw[e,Zzy,Zzy,Reps.length h2]
theorem Reps.get{H:Hp}:∀{ds:List D} {xs:List V} {i:Nat} {x:V},Reps H ds xs->xs[i]?=some x->∃d,ds[i]?=some d/\Rep H d x
 |[],xs,i,x,h,e=>by rw[Reps] at h;rw[h] at e;cases e
 |d::ds,xs,i,x,h,e=>by
  rw[Reps] at h
  obtain⟨y,r,ey,h1,h2⟩:=h
  rw[ey] at e
  cases i with
  |zero=>cases e;exact⟨d,rfl,h1⟩
  |succ i=>exact Reps.get (ds:=ds) (xs:=r) (i:=i) h2 (by simpa using e)
theorem Reps.get'{H:Hp}:∀{ds:List D} {xs:List V} {i:Nat} {d:D},Reps H ds xs->ds[i]?=some d->∃x,xs[i]?=some x/\Rep H d x
 |[],xs,i,d,h,e=>by cases e
 |d0::ds,xs,i,d,h,e=>by
  rw[Reps] at h
  obtain⟨y,r,ey,h1,h2⟩:=h
  rw[ey]
  cases i with
  |zero=>cases e;exact⟨y,rfl,h1⟩
  |succ i =>
   obtain⟨x,h3,h4⟩:=Reps.get' (ds:=ds) (xs:=r) (i:=i) (d:=d) h2 (by simpa using e)
   exact⟨x,by simpa using h3,h4⟩
def D.ty:D->String
 |.non => "NoneType"
 |.bl _ => "bool"
 |.int _ => "int"
 |.str _ => "str"
 |.tup _ => "tuple"
 |.lst => "list"
 |.dct => "dict"
theorem Rep.ty{H:Hp}{d:D}{v:V}(h:Rep H d v):Km H v=some d.ty:=by
 cases d<;>rw[Rep] at h
 ·rw[h];rfl
 ·rw[h];rfl
 ·rw[h];rfl
 ·rw[h.1];rfl
 ·obtain⟨a,xs,e,h,_⟩:=h;rw[e];unfold Km;simp only[h];rfl
 ·obtain⟨a,xs,e,h⟩:=h;rw[e];unfold Km;simp only[h];rfl
 ·obtain⟨a,xs,e,h⟩:=h;rw[e];unfold Km;simp only[h];rfl
def Vw(J:It)(own:List Str)(cap:List Nat)(g:TG)(tt:TT)(te:TE)(Z:St)(H1:Hp)(Q:VK):Prop:=∃W:Nat->Nat->List V->Hp->Prop,(∃m,W 0 m [] H1)/\∀i m acc H,W i m acc H->acc.length<=sizeLine /\
 ((J.stop i H/\∀p,H p=none->Q (.ref p) (upd H p (.lst acc))) \/
  (J.go i H/\acc.length<sizeLine/\∃N:List V->Hp->Prop,(∀acc' H',N acc' H'->∃m',m'<m/\W (i+1) m' acc' H')/\∀x H',J.yld i H x H'->g x (Dj own cap Z) H' λσ2 H2=>tt σ2 H2 λb H3=>if b=true then te σ2 H3 λy H4=>N (acc++[y]) H4 else N acc H3))
theorem Bx(own:List Str)(cap:List Nat)(wi:TI)(g:TG)(tt:TT)(te:TE)(Z:St)(H:Hp)(Q:VK):V6 own cap wi g tt te Z H Q=wi Z H λJ H1=>Vw J own cap g tt te Z H1 Q:=rfl
def ee(J:It)(g:TG)(tb:TS)(D:Ends)(Z:St)(H1:Hp):Prop:=∃W:Nat->Nat->St->Hp->Prop,(∃m,W 0 m Z H1)/\∀i m Z H,W i m Z H ->
 (J.stop i H/\D.nx Z H)\/(J.go i H/\∃N:St->Hp->Prop,(∀Z' H',N Z' H'->∃m',m'<m/\W (i+1) m' Z' H')/\∀x H',J.yld i H x H'->g x Z H' λσ2 H2=>tb {D with nx:=N,ct:=N,bk:=D.nx} σ2 H2)
theorem C6(wi:TI)(g:TG)(tb:TS)(D:Ends)(Z:St)(H:Hp):fb wi g tb D Z H=wi Z H λJ H1=>ee J g tb D Z H1:=rfl
theorem Cd(te:TE)(Z:St)(H:Hp)(R:It->Hp->Prop):g9 te Z H R=te Z H λx H1=>(∃a xs,x=.ref a/\H1 a=some (.lst xs)/\R (ItL a xs) H1)\/(∃a xs,x=.ref a/\H1 a=some (.tup xs)/\R (ItT a xs) H1)\/(∃z,x=.str z/\R (Its z) H1):=rfl
theorem Cc:("int" ∈ ["bool", "int", "str", "list", "tuple", "dict"])=True:=eq_true (by decide)
theorem C1:("bool" ∈ ["bool", "int", "str", "list", "tuple", "dict"])=True:=eq_true (by decide)
theorem Cb:("str" ∈ ["bool", "int", "str", "list", "tuple", "dict"])=True:=eq_true (by decide)
theorem By:("list" ∈ ["bool", "int", "str", "list", "tuple", "dict"])=True:=eq_true (by decide)
theorem Bp:("tuple" ∈ ["bool", "int", "str", "list", "tuple", "dict"])=True:=eq_true (by decide)
theorem Bz:("dict" ∈ ["bool", "int", "str", "list", "tuple", "dict"])=True:=eq_true (by decide)
theorem Ac:Ex "NoneType" "bool" = false:=by decide
theorem Af:Ex "NoneType" "int" = false:=by decide
theorem Ae:Ex "NoneType" "str" = false:=by decide
theorem Aa:Ex "NoneType" "list" = false:=by decide
theorem A7:Ex "NoneType" "tuple" = false:=by decide
theorem Ab:Ex "NoneType" "dict" = false:=by decide
theorem B0:Ex "bool" "bool" = true:=by decide
theorem Bc:Ex "bool" "int" = true:=by decide
theorem Bb:Ex "bool" "str" = false:=by decide
theorem Ay:Ex "bool" "list" = false:=by decide
theorem An:Ex "bool" "tuple" = false:=by decide
theorem Az:Ex "bool" "dict" = false:=by decide
theorem B8:Ex "int" "bool" = false:=by decide
theorem Bh:Ex "int" "int" = true:=by decide
theorem Bg:Ex "int" "str" = false:=by decide
theorem B6:Ex "int" "list" = false:=by decide
theorem Au:Ex "int" "tuple" = false:=by decide
theorem B7:Ex "int" "dict" = false:=by decide
theorem B3:Ex "str" "bool" = false:=by decide
theorem Bf:Ex "str" "int" = false:=by decide
theorem Be:Ex "str" "str" = true:=by decide
theorem B1:Ex "str" "list" = false:=by decide
theorem Aq:Ex "str" "tuple" = false:=by decide
theorem B2:Ex "str" "dict" = false:=by decide
theorem At:Ex "list" "bool" = false:=by decide
theorem B5:Ex "list" "int" = false:=by decide
theorem B4:Ex "list" "str" = false:=by decide
theorem Ar:Ex "list" "list" = true:=by decide
theorem Al:Ex "list" "tuple" = false:=by decide
theorem As:Ex "list" "dict" = false:=by decide
theorem Ak:Ex "tuple" "bool" = false:=by decide
theorem Ap:Ex "tuple" "int" = false:=by decide
theorem Ao:Ex "tuple" "str" = false:=by decide
theorem Ai:Ex "tuple" "list" = false:=by decide
theorem Ah:Ex "tuple" "tuple" = true:=by decide
theorem Aj:Ex "tuple" "dict" = false:=by decide
theorem Ax:Ex "dict" "bool" = false:=by decide
theorem Ba:Ex "dict" "int" = false:=by decide
theorem B9:Ex "dict" "str" = false:=by decide
theorem Av:Ex "dict" "list" = false:=by decide
theorem Am:Ex "dict" "tuple" = false:=by decide
theorem Aw:Ex "dict" "dict" = true:=by decide
theorem Df{J:It}{n:Nat}{yl:Nat->V->Prop}{ok:Hp->Prop}{own:List Str}{cap:List Nat}{g:TG}{tt:TT}{te:TE}{Z:St}{H:Hp}{Q:VK}(G:S8 J n yl ok)(hn:n<=sizeLine)(hok:∀H',Same H H'->ok H')(ys:List V)(hl:ys.length=n)
  (hs:∀i x H',i<n->yl i x->Same H H'->∀(N:V->Hp->Prop) (M:Hp->Prop),(∀y H4,Same H H4->ys[i]?=some y->N y H4)->g x (Dj own cap Z) H' λσ2 H2=>tt σ2 H2 λb H3=>if b=true then te σ2 H3 N else M H3)
  (hd:∀H',Same H H'->∀p,H' p=none->Q (.ref p) (upd H' p (.lst ys))):Vw J own cap g tt te Z H Q:=by
 refine Qh G hn (λi acc H'=>Same H H'/\acc=ys.take i) ⟨Same.refl H,by simp⟩ (λi acc H' _ h=>hok H' h.1) (λi acc H' h=>by rw[h.2,Zyg];omega) (λi x acc H' hi hx h=>?_) (λacc H' h p hp=>?_)
 ·obtain⟨s',rfl⟩:=h
  refine hs i x H' hi hx s' _ _ λy H4 s4 hy=>⟨s4,?_⟩
  rw[Zxw,hy]
  rfl
 ·obtain⟨s',e⟩:=h
  rw[e,Zwi (by omega)]
  exact hd H' s' p hp
theorem N2{J:It}{n:Nat}{yl:Nat->V->Prop}{ok:Hp->Prop}{g:TG}{tb:TS}{D:Ends}{Z:St}{H:Hp}(G:S8 J n yl ok)(Pv:Nat->St->Hp->Prop)(h0:Pv 0 Z H)(hok:∀i Z H,i<=n->Pv i Z H->ok H)
  (hs:∀i x Z H,i<n->yl i x->Pv i Z H->g x Z H λσ2 H2=>tb {D with nx:=Pv (i+1),ct:=Pv (i+1),bk:=D.nx} σ2 H2) (hd:∀Z H,Pv n Z H->D.nx Z H):ee J g tb D Z H:=Yf G Pv h0 hok hs hd
theorem StOk.upd{H:Hp}{st l:Addr}{o:HO}(h:StOk H st)(n:st≠l):StOk (upd H l o) st:=by obtain⟨ns,hn,e⟩:=h;exact⟨ns,hn,by rw[Bd n];exact e⟩
theorem StOk.ne{H:Hp}{st l:Addr}(h:StOk H st)(n:H l=none):st≠l:=by obtain⟨_,_,e⟩:=h;exact Bj e n
theorem StOk.neT{H:Hp}{st l:Addr}{xs:List V}(h:StOk H st)(n:H l=some (.tup xs)):l≠st:=by
 obtain⟨_,_,e⟩:=h
 exact g7 n e (λz=>by cases z)
theorem But.upd{H H1:Hp}{st l:Addr}{o:HO}(h:But st H H1)(hl:H l=none):But st H (L2.upd H1 l o):=λb u n e=>by rw[Bd (Bj e hl)];exact h b u n e
theorem But.new{H H1:Hp}{st l:Addr}{o:HO}(h:But st H H1)(hl:H1 l=none):But st H (L2.upd H1 l o):=h.trans (N5 hl)
theorem But.none{H H1:Hp}{st l:Addr}(h:But st H H1)(n:l≠st)(hl:H1 l=none):H l=none:=by
 cases e:H l with
 |none=>rfl
 |some o=>rw[h l o n e] at hl;cases hl
theorem Bi{n:Nat}(h:n<=1000):n<=sizeLine:=Zyu h (by decide)
end NP
namespace L2
open PySem PySem.Spec PyProof.Rows
def Gc:List Expr->Bool
 |[]=>true
 |.Starred ..::_=>false
 |_::r=>Gc r
theorem Jr{env:Env}:∀{es:List Expr},Gc es=true->starEach es env=es.map λe=>(false,eval e env)
 |[],_=>rfl
 |e::r,h=>by
  cases e<;>first
   | (exact absurd h Zz4)
   | (rw[Zzp,<- Jr (env:=env) (es:=r) h];rfl)
theorem Db{env:Env}{e:Expr}{es:List Expr}(h:Gc [e]=true):starEach (e::es) env=(false,eval e env)::starEach es env:=by
 cases e<;>first
  | (exact absurd h Zz4)
  |rfl
theorem Cq{e:Expr}{es:List Expr}(h:Gc (e::es)=true):Gc [e]=true/\Gc es=true:=by
 cases e<;>first
  | (exact absurd h Zz4)
  |exact⟨rfl,h⟩
theorem Ih{env:Env}{pos:Pos}{es:List Expr}(h:Gc es=true):(backTo pos (starEach es env)).any (·.1)=false:=by
 rw[Jr h]
 unfold backTo
 rw[Zy6,List.any_map]
 induction es with
 |nil=>rfl
 |cons e r ih =>
  rw[List.any_cons]
  exact ih (Cq h).2
theorem V1{env:Env}{pos:Pos}{es:List Expr}(h:Gc es=true):(backTo pos (starEach es env)).all (λx=>!x.1)=true:=by
 rw[Jr h]
 unfold backTo
 rw[Zy6,Zxg]
 induction es with
 |nil=>rfl
 |cons e r ih =>
  rw[Zwl]
  exact ih (Cq h).2
section
variable {X:Cx}{x:Str}{p pos apos cpos:Pos}{e o tg:Expr}{es:List Expr}{te to:TE}{t:TA}{id T:String}{r:List V->Hp->VK->Prop}{rm:V->List V->Hp->VK->Prop}{k:Nat}{ps:List Str}{sp:Sp}{name:Str}
theorem A3(ha:PE X e te)(hr:PA X es t)(hn:Gc [e]=true:=by rfl):PA X (e::es) (Dl te t):=Zg ha hr (Db hn)
theorem A8(h:Has X.prog X.w X.K X.mg X.base x k ps sp)(hr:Room k X.A)(hg:Gl X x)(ha:PA X (e::es) t)(hn:Gc (e::es)=true:=by rfl)(hdb:(x == ("__debug__" : Str))=false:=by decide) :
  PE X (.Call (.Name x p) (e::es) [] pos) (Dh sp [] E0 t):=Xm h hr hg ha hdb (Db (Cq hn).1) (Ih (Cq hn).2)
theorem Bn(hc:CallR X (.builtin id) r)(hg:Gl X x)(hm:X.mg x=none)(hv:bootBuiltins x=some (.builtin id))(ha:PA X (e::es) t)(hn:Gc (e::es)=true:=by rfl)(hnm:x ≠ "__name__" := by decide)(hdb:(x == ("__debug__" : Str))=false:=by decide) :
  PE X (.Call (.Name x p) (e::es) [] pos) (tCB r t):=Xn hc hg hm hv ha hnm hdb (Db (Cq hn).1) (Ih (Cq hn).2)
theorem Bw(hc:CallR X (.type T) r)(hg:Gl X x)(hm:X.mg x=none)(hv:bootBuiltins x=some (.type T))(ha:PA X (e::es) t)(hn:Gc (e::es)=true:=by rfl)(hnm:x ≠ "__name__" := by decide)(hdb:(x == ("__debug__" : Str))=false:=by decide) :
  PE X (.Call (.Name x p) (e::es) [] pos) (tCB r t):=W3 hc hg hm hv ha hnm hdb (Db (Cq hn).1) (Ih (Cq hn).2)
theorem Da(pa:PlainAttrs T)(slot:Slot T name id)(hty:typeOf (.builtin id)=pure (.type "method_descriptor"))(hm:MtR X id rm)(ho:PE X o to)(ha:PA X (e::es) t)(hT:T = "list" \/ T = "dict" \/ T = "str" := by decide)
  (hbase:attributeBase o name X.env (eval o X.env)=eval o X.env:=by rfl) (hn:Gc (e::es)=true:=by rfl) (hlen:(e::es).length<20:=by decide) (hline:(apos.endLine == cpos.line)=true:=by rfl) :
  PE X (.Call (.Attribute o name apos) (e::es) [] cpos) (tBA T rm to t):=by
 refine fj pa slot hty hm ho ha hT hbase ?_ hline (Db (Cq hn).1) (Ih (Cq hn).2)
 rw[V1 hn,Zyl]
 have e1:(backToKw cpos (keywordEach [] X.env)).all (λx=>x.1.isSome)=true:=rfl
 rw[e1,Zyl]
 refine decide_eq_true ?_
 show (e::es).length+0+0<30
 omega
theorem Jl{ta:TA}(hg:Gl X "range")(hm:X.mg "range" = none)(ha:PA X [e] ta)(hn:Gc [e]=true:=by rfl):PI X tg (.Call (.Name "range" p) [e] [] pos) (Dn ta):=W2 hg hm ha (Jr hn)
end
mutual
def RD(H:Hp):PyData->V->Prop
 |.none,v=>v=.non
 |.bool b,v=>v=.bl b
 |.int i,v=>v=.int i
 |.str x,v=>v=.str x
 |.list ds,v=>∃a xs,v=.ref a/\H a=some (.lst xs)/\RDs H ds xs
 |.tuple ds,v=>∃a xs,v=.ref a/\H a=some (.tup xs)/\RDs H ds xs
 |.dict _,_=>False
def RDs(H:Hp):List PyData->List V->Prop
 |[],xs=>xs=[]
 |d::ds,xs=>∃x r,xs=x::r/\RD H d x/\RDs H ds r
end
mutual
theorem RD.reads{P:Program}{w:World}{H:Hp}{h:Heap}(ok:HOk P w H h):∀(d:PyData) (v:V) (u:Value),RD H d v->RelV v u->∃as,Reads h u d as
 |.none,v,u,r,e=>by
  rw[RD] at r;subst r;cases e;exact⟨_,.none⟩
 |.bool b,v,u,r,e=>by
  rw[RD] at r;subst r;cases e;exact⟨_,.bool b⟩
 |.int i,v,u,r,e=>by
  rw[RD] at r;subst r;obtain⟨t,rfl⟩:=e;exact⟨_,.int i t⟩
 |.str x,v,u,r,e=>by
  rw[RD] at r;subst r;obtain⟨t,rfl⟩:=e;exact⟨_,.str x t⟩
 |.list ds,v,u,r,e=>by
  rw[RD] at r
  obtain⟨a,xs,rfl,ha,r⟩:=r
  cases e
  obtain⟨hz,its,n,rv,eo⟩:=ok a _ ha
  obtain⟨as,q⟩:=RDs.reads ok ds xs its r rv
  exact⟨_,.list (vs:=its.toArray) eo rfl rfl q⟩
 |.tuple ds,v,u,r,e=>by
  rw[RD] at r
  obtain⟨a,xs,rfl,ha,r⟩:=r
  cases e
  obtain⟨hz,its,rv,o,ho,hc,n,hd⟩:=ok a _ ha
  obtain⟨as,q⟩:=RDs.reads ok ds xs its r rv
  exact⟨_,.tuple (vs:=its.toArray) ho hc hd q⟩
 |.dict _,v,u,r,e=>by
  rw[RD] at r;exact r.elim
theorem RDs.reads{P:Program}{w:World}{H:Hp}{h:Heap}(ok:HOk P w H h):∀(ds:List PyData) (xs:List V) (us:List Value),RDs H ds xs->Vals xs us->∃as,ReadsAll h us ds as
 |[],xs,us,r,e=>by
  rw[RDs] at r;subst r;cases e;exact⟨_,.nil⟩
 |d::ds,xs,us,r,e=>by
  rw[RDs] at r
  obtain⟨x,r',rfl,h1,h2⟩:=r
  cases e with
  |cons r1 r2 =>
   obtain⟨as,q1⟩:=RD.reads ok d x _ h1 r1
   obtain⟨bs,q2⟩:=RDs.reads ok ds r' _ h2 r2
   exact⟨_,.cons q1 q2⟩
end
def okD(d:PyData):Bool:=d.canLay0&&decide (d.depth<=50)
def rEqD:R2:=λx y H Q=>∃d e,RD H d x/\RD H e y/\okD d=true/\okD e=true/\Q (.bl (PyData.eqv d e)) H
def rNeD:R2:=λx y H Q=>∃d e,RD H d x/\RD H e y/\okD d=true/\okD e=true/\Q (.bl (!PyData.eqv d e)) H
theorem Tc{A:Around}{d e:PyData}(h:okD d=true)(hu:A.units+64<cLine):A.units+min d.depth e.depth<cLine:=by
 have h1:d.depth<=50:=of_decide_eq_true (Zxy.mp h).2
 have h2:min d.depth e.depth<=d.depth:=Nat.min_le_left _ _
 omega
section
variable {X:Cx}
theorem cz(hu:X.A.units+64<cLine):OpR X (compareOp .Eq) rEqD:=by
 intro pins s Z H x y v u Q I rx ry h
 obtain⟨d,e,rd,re,hd,he,q⟩:=h
 obtain⟨as,r1⟩:=RD.reads I.hok d x v rd rx
 obtain⟨bs,r2⟩:=RD.reads I.hok e y u re ry
 exact SeqAt.compareEq_reads r1 r2 (Zxy.mp hd).1 (Zxy.mp he).1 (Tc hd hu) ⟨.bl _,H,I,rfl,q⟩
theorem Xq(hu:X.A.units+64<cLine):OpR X (compareOp .NotEq) rNeD:=by
 intro pins s Z H x y v u Q I rx ry h
 obtain⟨d,e,rd,re,hd,he,q⟩:=h
 obtain⟨as,r1⟩:=RD.reads I.hok d x v rd rx
 obtain⟨bs,r2⟩:=RD.reads I.hok e y u re ry
 exact SeqAt.compareNe_reads r1 r2 (Zxy.mp hd).1 (Zxy.mp he).1 (Tc hd hu) ⟨.bl _,H,I,rfl,q⟩
end
theorem aa{A:Around}{k:Nat}(hr:Room k A):A.units+64<cLine:=by
 have:=hr.un
 omega
section
variable {X:Cx}{pins:List (Addr×Obj)}{Z:St}{H:Hp}{s:Shared}{h':Heap}
theorem HOk.but{P:Program}{w:World}{h:Heap}{wr:List Addr}(x:HOk P w H h)(k:∀b o,b∉wr->h.get? b=some o->h'.get? b=some o)(n:∀b∈wr,H b=none):HOk P w H h':=λa o e =>
 (x a o e).stay (λb u hb q=>k b u (λz=>by
  rcases hb with hb | hb
  ·rw[hb] at z;rw[n a z] at e;cases e
  ·rw[n b z] at hb;cases hb) q) (λ_ q=>q) λ_ _ q=>q
theorem Inv.turnedL{t':Nat}{wr:List Addr}(I:Inv X pins Z H s)(k:∀b o,b∉wr->s.heap.get? b=some o->h'.get? b=some o)(f:∀b∈wr,Lj X pins H b):Inv X pins Z H {s with heap:=h',toks:=t'}:=by
 refine I.step (g':=s.gens) (d':=s.drawn) (ch:=wr) (λb hb=>?_) (λb o _ _ hc e _=>k b o hc e) (λb o _ _ hc e _=>⟨o.slots,k b o hc e⟩) (λ_ _ _ _ n=>n)
  (λb o hc e=>⟨o,k b o hc e⟩) (λ_ _ e=>e) (λ_ _ _ e=>e) (λb ps e=>⟨#[],by rw[e];simp⟩) (λm hm=>?_) (I.hok.but k λb hb=>(f b hb).1) I.bare
 ·obtain⟨f0,f1,f2,f3,f4,f5⟩:=f b hb
  exact⟨f3,f1,f4,f5⟩
 ·obtain⟨o,es,ep,ho,r⟩:=hm
  exact⟨o,es,ep,k _ o (λz=>(f _ z).2.1 rfl) ho,r⟩
theorem Inv.turnedT{t':Nat}{wr:List Addr}{p:Addr}{xs:List V}{its:List Value}(I:Inv X pins Z H s)(k:∀b o,b∉wr->s.heap.get? b=some o->h'.get? b=some o)(f:∀b∈wr,Lj X pins H b)(hp:s.heap.objs.size<=p)
  (ht:IsTup h' p its.toArray) (rv:Vals xs its) (hz:xs.length<=sizeLine):Inv X pins Z (upd H p (.tup xs)) {s with heap:=h',toks:=t'}:=by
 have hn:H p=none:=I.hok.fresh hp
 have ne:∀b o,s.heap.get? b=some o->b≠p:=λb o e=>Ck (Zzc e) hp
 refine I.step (g':=s.gens) (d':=s.drawn) (ch:=wr) (λb hb=>?_) (λb o _ _ hc e _=>k b o hc e) (λb o _ _ hc e _=>⟨o.slots,k b o hc e⟩) (λb o _ e n=>by rw[Bd (ne b o e)];exact n)
  (λb o hc e=>⟨o,k b o hc e⟩) (λb ys e=>by rw[Bd (Bj e hn)];exact e) (λb o u e=>by rw[Bd (Bj e hn)];exact e) (λb ps e=>⟨#[],by rw[Bd (Bj e hn),e];simp⟩) (λm hm=>?_) (λb u e=>?_) I.bare
 ·obtain⟨f0,f1,f2,f3,f4,f5⟩:=f b hb
  exact⟨f3,f1,f4,f5⟩
 ·obtain⟨o,es,ep,ho,r⟩:=hm
  exact⟨o,es,ep,k _ o (λz=>(f _ z).2.1 rfl) ho,r⟩
 ·by_cases hb:b=p
  ·subst hb
   rw[A1] at e
   cases e
   exact⟨hz,its,rv,ht⟩
  ·rw[Bd hb] at e
   refine(I.hok.but k (λb hb=>(f b hb).1) b u e).stay (λ_ _ _ q=>q) (λc q=>?_) λc ys q=>?_
   ·rw[Bd (Bj q hn)];exact q
   ·rw[Bd (Bj q hn)];exact q
theorem Ya{P:Program}{w:World}{it:Addr}{fp wr:List Addr}{n i:Nat}{Pt:Nat->Array Value->Prop}{St:Nat->Heap->Prop}{Mid:Nat->Addr->Heap->Prop}{elts:List Expr}{k:Nat}{pos:Pos}{E:Value->Shared->Prop}{Y:List V->Prop}
  (W:WalksT P w X.A it fp wr n Pt St Mid) (hi:i<n) (I:Inv X pins Z H s) (st:St i s.heap) (hf:∀b∈wr,Lj X pins H b) (hv:∀vals,Pt i vals->∃xs,Vals xs vals.toList/\xs.length<=100/\Y xs) :
  wpAny (model P w) X.A (pyNext (.ref it)) (λr s1=>∃u,r=some u/\wpAny (model P w) X.A (letOwnedTupleGo (.Tuple elts k pos) (.ref it) u) (λ_ s2 =>
   ∃p xs,u=.ref p/\s.heap.objs.size<=p/\H p=none/\Inv X pins Z (upd H p (.tup xs)) s2/\Y xs/\St (i+1) s2.heap) E s1) E s:=by
 refine W.item i s _ E hi st λT vals h1 tk hP hT ht hm hk=>⟨.ref T,rfl,?_⟩
 obtain⟨xs,rv,hz,hY⟩:=hv vals hP
 refine W.go elts k pos i T {s with heap:=h1,toks:=tk} _ E hm λh2 st2 hk2=>?_
 have hTw:T∉wr:=W.apart i T h1 hm
 have ht2:IsTup h2 T vals.toList.toArray:=by
  obtain⟨o,ho,hc,m,hd⟩:=ht
  exact⟨o,hk2 T o hTw ho,hc,m,by simpa using hd⟩
 exact⟨T,xs,rfl,hT,I.hok.fresh hT,I.turnedT (t':=tk) (λb o hb e=>hk2 b o hb (hk b o hb e)) hf hT ht2 rv (Zyu hz (by decide)),hY,st2⟩
end
structure Yw(J:It)(n:Nat)(yl:Nat->List V->Prop)(ok:Hp->Prop):Prop where
 go:∀i H,i<n->ok H->J.go i H
 yld:∀i H x H',i<n->ok H->J.yld i H x H'->∃p ys,x=.ref p/\H p=none/\H'=upd H p (.tup ys)/\yl i ys
 stop:∀H,ok H->J.stop n H
theorem bo{J:It}{n:Nat}{yl:Nat->List V->Prop}{ok:Hp->Prop}{g:TG}{tb:TS}{D:Ends}{Z:St}{H:Hp}(G:Yw J n yl ok)(Pv:Nat->St->Hp->Prop)(h0:Pv 0 Z H)(hok:∀i Z H,i<=n->Pv i Z H->ok H)
  (hs:∀i ys p Z H,i<n->yl i ys->Pv i Z H->H p=none->g (.ref p) Z (upd H p (.tup ys)) λσ2 H2=>tb {D with nx:=Pv (i+1),ct:=Pv (i+1),bk:=D.nx} σ2 H2) (hd:∀Z H,Pv n Z H->D.nx Z H):NP.ee J g tb D Z H:=by
 refine⟨λi m Z H=>m=n - i/\i<=n/\Pv i Z H,⟨n,by simp,Zwt _,h0⟩,?_⟩
 rintro i m Z H ⟨rfl,hi,p⟩
 have q:=hok i Z H hi p
 by_cases hlt:i<n
 ·refine .inr ⟨G.go i H hlt q,Pv (i+1),λZ' H' p'=>⟨n - (i+1),by omega,rfl,hlt,p'⟩,λx H' y=>?_⟩
  obtain⟨a,ys,e1,e2,e3,y'⟩:=G.yld i H x H' hlt q y
  subst e1 e3
  exact hs i ys a Z H hlt y' p e2
 ·have e:i=n:=by omega
  subst e
  exact .inl ⟨G.stop H q,hd Z H p⟩
theorem gT2{K:Zzx}{i j:Nat}{p:Addr}{x y:V}{Z:St}{H:Hp}{Q:St->Hp->Prop}(h:Q ((Z.set i (some x)).set j (some y)) (upd H p (.tup [x,y]))):Wl K 2 (L6 (Cj i) (L6 (Cj j) gNil)) (.ref p) Z (upd H p (.tup [x,y])) Q :=
 ⟨p,_,rfl,SqT.of A1,rfl,_,_,rfl,_,_,rfl,rfl,h⟩
def ItE(a:Addr)(xs:List V):It:=⟨λi H=>H a=some (.lst xs)/\i<xs.length,λi H x H'=>∃p y,x=.ref p/\H p=none/\xs[i]?=some y/\H'=upd H p (.tup [.int i,y]),λi H=>H a=some (.lst xs)/\i=xs.length⟩
theorem gb(a:Addr)(xs:List V):Yw (ItE a xs) xs.length (λi ys=>∃y,xs[i]?=some y/\ys=[.int i,y]) (λH=>H a=some (.lst xs)) :=
 ⟨λi H h o=>⟨o,h⟩,λi H x H' h o y=>by obtain⟨p,z,e1,e2,e3,e4⟩:=y;exact⟨p,_,e1,e2,e4,z,e3,rfl⟩,λH o=>⟨o,rfl⟩⟩
theorem Vz{P:Program}{w:World}{K:Zzx}{elts:List Expr}{k:Nat}{pos:Pos}(e it a:Addr)(xs:List V)(hei:e≠it):P5 P w K (.Tuple elts k pos) (ItE a xs) [e,it] e (λi h=>(∃old,IsEnum h e it i old)/\h.IsListIter it a i) where
 mem:=by simp
 obj:=λi h st b hb=>by
  obtain⟨⟨old,he⟩,o,ho,c,d⟩:=st
  rcases Zzw.mp hb with q | q
  ·rw[q];exact⟨_,he,λv z=>by cases z⟩
  ·rw[Zzk.mp q];exact⟨o,ho,λv z=>by rw[d] at z;cases z⟩
 keep:=λi h h' st k=>by
  obtain⟨⟨old,he⟩,hi⟩:=st
  exact⟨⟨old,k e (by simp) _ he⟩,hi.at λo q=>k it (by simp) o q⟩
 item:=by
  intro X hP hw hK hc i pins s Z H E I hf st hg
  subst hP hw hK
  obtain⟨hq,hlt⟩:=hg
  obtain⟨its,rv,hl,hal⟩:=J6 I hq
  have f1:=hf e (by simp)
  have f2:=hf it (by simp)
  have hae:a≠e:=Bj hq f1.1
  have hai:a≠it:=Bj hq f2.1
  have hlen:=rv.length
  have hv:∀vals:Array Value,(∃t x,its.toArray[i]?=some x/\vals=#[.int i t,x])->∃ys,Vals ys vals.toList/\ys.length<=100/\∃y,xs[i]?=some y/\ys=[V.int i,y]:=by
   rintro vals ⟨t,x,hx,rfl⟩
   obtain⟨u,hu,ru⟩:=rv.get (x:=xs[i]) (i:=i) (by simp[hlt])
   have hx:its[i]?=some x:=by simpa using hx
   rw[hx] at hu
   cases hu
   exact⟨[.int i,xs[i]],.cons ⟨t,rfl⟩ (.cons ru .nil),by simp,xs[i],by simp[hlt],rfl⟩
  refine thn (Ya (E:=E) (WalksT.enumerate (I.ok.hd hc) e it a hei hae hai its.toArray) (by rw[Zzn];omega) I ⟨st.1,st.2,hl⟩ hf hv) λr s1 ⟨u,hr,h3⟩=>⟨u,hr,thn h3 λ_ s2 z0=>?_⟩
  obtain⟨p,ys,hu,hp,hn,I2,⟨y,hy,e2⟩,st2⟩:=z0
  subst hu e2
  refine⟨.ref p,_,I2,rfl,⟨p,y,rfl,hn,hy,rfl⟩,⟨st2.1,st2.2.1⟩,λb hb=>?_⟩
  have hbl:b<s.heap.objs.size:=by
   obtain⟨⟨old,he⟩,o,ho,c,d⟩:=st
   rcases Zzw.mp hb with q | q
   ·rw[q];exact Zzc he
   ·rw[Zzk.mp q];exact Zzc ho
  rw[Bd (Ck hbl hp)]
  exact(hf b hb).1
 done:=by
  intro X hP hw hK hc i pins s Z H E I hf st hg
  subst hP hw hK
  obtain⟨hq,hlt⟩:=hg
  obtain⟨its,rv,hl,hal⟩:=J6 I hq
  have f1:=hf e (by simp)
  have f2:=hf it (by simp)
  have hlen:=rv.length
  have hi:its.toArray.size=i:=by rw[Zzn];omega
  refine(WalksT.enumerate (I.ok.hd hc) e it a hei (Bj hq f1.1) (Bj hq f2.1) its.toArray).done s _ E ?_ λh' tk hk=>⟨rfl,I.turnedL hk hf⟩
  rw[hi]
  exact⟨st.1,st.2,hl⟩
 self:=λ_ _ _ _ _ st h=>by
  obtain⟨⟨old,he⟩,_⟩:=st
  exact wpAny_pyIter_enum he h
section
variable {X:Cx}
def Dx(ta:TA):TI:=λZ H R=>ta Z H λvs H1=>∃a xs,vs=[.ref a]/\H1 a=some (.lst xs)/\R (ItE a xs) H1
theorem Zc{elts:List Expr}{k:Nat}{pt p pos:Pos}{e:Expr}{ta:TA}(hg:Gl X "enumerate")(hm:X.mg "enumerate" = none)(ha:PA X [e] ta)(hn:Gc [e]=true:=by rfl):PI X (.Tuple elts k pt) (.Call (.Name "enumerate" p) [e] [] pos) (Dx ta):=by
 intro pins s Z H R I h
 refine Call_ (Nb I hg hm NP.S3 (Zx0 (thn (ha pos pins s Z H _ I h) λus s1 ⟨vs,H1,I1,r1,q1⟩=>?_) (Jr hn) rfl))
 obtain⟨a,xs,e,hq,q⟩:=q1
 subst e
 obtain⟨u,rfl,ru⟩:=Ll r1
 cases ru
 obtain⟨its,rv,hl,hal⟩:=J6 I1 hq
 refine call_enumerate_list hl λh' he hi hz hk=>wpAny_pyIter_enum he ?_
 have I2:Inv X pins Z H1 {s1 with heap:=h'}:=I1.kept (t':=s1.toks) hk
 refine⟨s1.heap.objs.size+1,[s1.heap.objs.size+1,s1.heap.objs.size],_,_,H1,rfl,I2,Vz _ _ a xs (Nat.succ_ne_self _),⟨⟨_,he⟩,hi⟩,λb hb=>?_,q⟩
 have hb':s1.heap.objs.size<=b:=by
  rcases Zzw.mp hb with z | z
  ·rw[z];exact Nat.le_succ _
  ·rw[Zzk.mp z];exact Zzt _
 exact I1.fpOk hb' (I1.hok.fresh hb')
end
section
variable {X:Cx}
def Hl:List V->Hp->VK->Prop:=λxs H Q=>∃(a:Addr) (ns:List Int),xs=[.ref a]/\H a=some (.lst (ns.map V.int))/\Q (.int ns.sum) H
def rInsert:V->List V->Hp->VK->Prop:=λx vs H Q=>∃l xs i y,x=.ref l/\vs=[.int i,y]/\H l=some (.lst xs)/\0<=i/\i<2^60/\xs.length<1000000/\Q .non (upd H l (.lst (xs.take (min i.toNat xs.length)++y::xs.drop (min i.toNat xs.length))))
theorem W9:MtM X "list.insert" rInsert:=by
 intro pins s Z H x vs v us Q I rx rv h
 obtain⟨l,xs,i,y,rfl,rfl,hH,h1,h2,hz,q⟩:=h
 cases rx
 obtain⟨u,u2,rfl,ru,ru2⟩:=rv.two
 obtain⟨t,rfl⟩:=ru
 obtain⟨z,its,n,r,hl,e⟩:=I.lstM hH
 have hline:(1000000:Nat)+1<=sizeLine:=by rw[sizeLine_eq];decide
 refine call_meets F.slot_list_insert ⟨_,e,rfl⟩ F.entry_list_insert (F.args_list_insert_3 _ _ _) (AutoListH.list_insert_list_int_val_1 l its.toArray n i t u2 ?_ (by rw[Zzn];omega)) ⟨e,?_⟩
 ·rw[fitsIndex_both (by omega) (by omega)]
  decide
 ·refine⟨.non,_,I.lset (its':=its.take (min i.toNat xs.length)++u2::its.drop (min i.toNat xs.length)) hH e ?_ ((r.take _).append (.cons ru2 (r.drop _))) ?_,rfl,q⟩
  ·have hi:¬ i<0:=by omega
   simp only[hi,if_false,Zzn,<- hl]
   apply Array.toList_inj.mp
   simp[hl]
   rw[Zwi (by rw[Zxp];exact Zzt _)]
  ·simp
   omega
def Ek:List V->Hp->VK->Prop:=λxs H Q=>∃i j,xs=[.int i,.int j]/\Q (.int (if j > i then j else i)) H
end
theorem R0{n d:Nat}{k:Int}(h:0<=k):HT.sIx n d (some k)=min k.toNat n:=by
 unfold HT.sIx
 simp only
 split<;>omega
theorem Vr{xs:List V}{i j:Int}(hi:0<=i)(hj:0<=j):Hz xs (some i) (some j)=(xs.drop i.toNat).take (j.toNat - i.toNat):=by
 unfold Hz
 rw[R0 hi,R0 hj]
 apply Zvz
 intro k
 simp only[List.getElem?_take,Zvd]
 by_cases h1:i.toNat<=xs.length
 ·rw[Nat.min_eq_left h1]
  by_cases h2:j.toNat<=xs.length
  ·rw[Nat.min_eq_left h2]
  ·have h2:xs.length<=j.toNat:=by omega
   rw[Nat.min_eq_right h2]
   by_cases h3:k<xs.length - i.toNat
   ·rw[if_pos h3,if_pos (by omega)]
   ·rw[if_neg h3]
    split
    ·rw[Zx8 (by omega)]
    ·rfl
 ·have h1:xs.length<=i.toNat:=by omega
  rw[Nat.min_eq_right h1]
  have:xs[xs.length+k]?=none:=Zx8 (by omega)
  rw[this,Zx8 (by omega)]
  split<;>split<;>rfl
theorem N4{xs:List V}{j:Int}(hj:0<=j):Hz xs none (some j)=xs.take j.toNat:=by
 unfold Hz
 rw[R0 hj]
 have e:HT.sIx xs.length 0 none=0:=rfl
 rw[e,List.drop_zero,Nat.sub_zero]
 apply Zvz
 intro k
 simp only[List.getElem?_take]
 by_cases h:k<xs.length
 ·by_cases h2:k<j.toNat
  ·rw[if_pos (by omega),if_pos h2]
  ·rw[if_neg (by omega),if_neg h2]
 ·rw[Zx8 (by omega)]
  split<;>split<;>rfl
def CMulB(i j:Int):Prop:=CMul i j\/(i.natAbs<10^3000/\j.natAbs<10^3000)
theorem Vt{i:Int}(h:i.natAbs<10^3000):Builtin.Int.intBits i<=2^20:=by
 unfold Builtin.Int.intBits
 split
 ·exact Zwt _
 ·rename_i h0
  have h1:i.natAbs≠0:=by
   intro e
   exact h0 (by simpa using e)
  have h2:i.natAbs.log2<2^19:=by
   rw[Nat.log2_lt h1]
   refine Zzd h (Zyu (Nat.pow_le_pow_left (by decide:(10:Nat)<=2^4) 3000) ?_)
   rw[<- Nat.pow_mul]
   exact Nat.pow_le_pow_right (by decide) (by decide)
  have:(2:Nat)^20=2^19+2^19:=by decide
  have:(1:Nat)<=2^19:=by decide
  omega
theorem CMulB.ok{i j:Int}(h:CMulB i j):IntMulOk i j:=h.elim CMul.ok λh=>.of_bits (Vt h.1) (Vt h.2)
section
variable {X:Cx}
theorem Rf:OpR X (binaryOp .Mult) (rI CMulB λi j=>.int (i*j)):=opI λ_ _ _ _ _ _ _ hc q=>mul_int q hc.ok
end
def ItZ2(a b:Addr)(xs ys:List V):It:=⟨λi H=>H a=some (.lst xs)/\H b=some (.lst ys)/\i<min xs.length ys.length,
 λi H x H'=>∃p y z,x=.ref p/\H p=none/\xs[i]?=some y/\ys[i]?=some z/\H'=upd H p (.tup [y,z]),λi H=>H a=some (.lst xs)/\H b=some (.lst ys)/\i=min xs.length ys.length⟩
section
variable {X:Cx}
def Es(ta:TA):TI:=λZ H R=>ta Z H λvs H1=>∃a b xs ys,vs=[.ref a,.ref b]/\H1 a=some (.lst xs)/\H1 b=some (.lst ys)/\R (ItZ2 a b xs ys) H1
end
section
variable {prog:Program}{w:World}{A:Around}{E:Value->Shared->Prop}{s:Shared}
end
section
variable {prog:Program}{w:World}{A:Around}{E:Value->Shared->Prop}{s:Shared}
end
def ItZ3(a b c:Addr)(xs ys zs:List V):It:=⟨λi H=>(H a=some (.lst xs)/\H b=some (.lst ys)/\H c=some (.lst zs))/\i<min xs.length (min ys.length zs.length),
 λi H x H'=>∃p y z v,x=.ref p/\H p=none/\xs[i]?=some y/\ys[i]?=some z/\zs[i]?=some v/\H'=upd H p (.tup [y,z,v]),λi H=>(H a=some (.lst xs)/\H b=some (.lst ys)/\H c=some (.lst zs))/\i=min xs.length (min ys.length zs.length)⟩
section
variable {X:Cx}
def Er(ta:TA):TI:=λZ H R=>ta Z H λvs H1=>∃a b c xs ys zs,vs=[.ref a,.ref b,.ref c]/\H1 a=some (.lst xs)/\H1 b=some (.lst ys)/\H1 c=some (.lst zs)/\R (ItZ3 a b c xs ys zs) H1
end
theorem af{t u:TS}{D:Ends}{Z:St}{H:Hp}(M:St->Hp->Prop)(hrest:∀Z' H',M Z' H'->u D Z' H')(h:∀KK:St->Hp->Prop,(∀Z' H',M Z' H'->KK Z' H')->t {D with nx:=KK} Z H):Ez t u D Z H:=h (u D) hrest
theorem dm{t t2 u:TS}{D:Ends}{Z:St}{H:Hp}(M:St->Hp->Prop)(hrest:∀Z' H',M Z' H'->u D Z' H')(h:∀KK:St->Hp->Prop,(∀Z' H',M Z' H'->KK Z' H')->t {D with nx:=λZ H=>t2 {D with nx:=KK} Z H} Z H):Ez t (Ez t2 u) D Z H:=h (u D) hrest
theorem cut3{t t2 t3 u:TS}{D:Ends}{Z:St}{H:Hp}(M:St->Hp->Prop)(hrest:∀Z' H',M Z' H'->u D Z' H')
  (h:∀KK:St->Hp->Prop,(∀Z' H',M Z' H'->KK Z' H')->t {D with nx:=λZ H=>t2 {D with nx:=λZ H=>t3 {D with nx:=KK} Z H} Z H} Z H):Ez t (Ez t2 (Ez t3 u)) D Z H:=h (u D) hrest
theorem Fk{H:Hp}{a:Addr}{xs:List V}(h:H a=some (.lst xs)):Km H (.ref a)=some "list" := by unfold Km;simp only[h]
theorem gt2{K:Zzx}{i j:Nat}{p:Addr}{x y:V}{Z:St}{H:Hp}{Q:St->Hp->Prop}(e:H p=some (.tup [x,y]))(h:Q ((Z.set i (some x)).set j (some y)) H):Wl K 2 (L6 (Cj i) (L6 (Cj j) gNil)) (.ref p) Z H Q :=
 ⟨p,_,rfl,SqT.of e,rfl,_,_,rfl,_,_,rfl,rfl,h⟩
section
variable {X:Cx}{pins:List (Addr×Obj)}{Z:St}{H:Hp}{s:Shared}
end
def ItD(a:Addr)(o:Obj)(kvs:List (Key×V)):It:=⟨λi H=>H a=some (.frz o (.dK kvs))/\i<kvs.length,λi H x H'=>H'=H/\∃k v,kvs[i]?=some (k,v)/\x=kV k,λi H=>H a=some (.frz o (.dK kvs))/\kvs.length<=i⟩
section
variable {X:Cx}
def Hy(te:TE):TI:=λZ H R=>te Z H λx H1=>∃a kvs,x=.ref a/\H1 a=some (.dK kvs)/\∀o,R (ItD a o kvs) (upd H1 a (.frz o (.dK kvs)))
def E3(ta:TE):TT:=λZ H Q=>ta Z H λx H'=>∃a xs,x=.ref a/\H' a=some (.lst xs)/\Q (!xs.isEmpty) H'
def E4(ta:TE):TT:=λZ H Q=>ta Z H λx H'=>∃a kvs,x=.ref a/\H' a=some (.dK kvs)/\Q (!kvs.isEmpty) H'
end
mutual
def G6:PyData->Bool
 |.none | .bool _ | .int _ | .str _=>true
 |.list _=>false
 |.tuple ds=>G0 ds
 |.dict _=>false
def G0:List PyData->Bool
 |[]=>true
 |d::ds=>G6 d&&G0 ds
end
def KeepU(H H':Hp):Prop:=∀a xs,H a=some (.tup xs)->H' a=some (.tup xs)
theorem KeepU.trans{H H1 H2:Hp}(a:KeepU H H1)(b:KeepU H1 H2):KeepU H H2:=λc xs h=>b c xs (a c xs h)
theorem Same.ku{H H':Hp}(s:Same H H'):KeepU H H':=λa xs h=>s a _ h
theorem Uo{H:Hp}{p:Addr}{o u:HO}(h:H p=some u)(n:∀xs,u≠.tup xs):KeepU H (upd H p o):=λa xs e=>by
 rw[Bd (λz=>by rw[z,h] at e;exact n xs (Zyk e))];exact e
mutual
theorem RD.ku{H H':Hp}(k:KeepU H H'):∀(d:PyData) (v:V),G6 d=true->RD H d v->RD H' d v
 |.none,v,_,h=>by rw[RD] at h ⊢;exact h
 |.bool b,v,_,h=>by rw[RD] at h ⊢;exact h
 |.int i,v,_,h=>by rw[RD] at h ⊢;exact h
 |.str x,v,_,h=>by rw[RD] at h ⊢;exact h
 |.list ds,v,n,h=>by rw[G6] at n;cases n
 |.tuple ds,v,n,h=>by
  rw[G6] at n
  rw[RD] at h ⊢
  obtain⟨a,xs,e,ha,r⟩:=h
  exact⟨a,xs,e,k a xs ha,RDs.ku k ds xs n r⟩
 |.dict _,v,n,h=>by rw[G6] at n;cases n
theorem RDs.ku{H H':Hp}(k:KeepU H H'):∀(ds:List PyData) (xs:List V),G0 ds=true->RDs H ds xs->RDs H' ds xs
 |[],xs,_,h=>by rw[RDs] at h ⊢;exact h
 |d::ds,xs,n,h=>by
  rw[G0,Zzf] at n
  rw[RDs] at h ⊢
  obtain⟨x,r,e,h1,h2⟩:=h
  exact⟨x,r,e,RD.ku k d x n.1 h1,RDs.ku k ds r n.2 h2⟩
end
mutual
theorem RD.same{H H':Hp}(k:Same H H'):∀(d:PyData) (v:V),RD H d v->RD H' d v
 |.none,v,h=>by rw[RD] at h ⊢;exact h
 |.bool b,v,h=>by rw[RD] at h ⊢;exact h
 |.int i,v,h=>by rw[RD] at h ⊢;exact h
 |.str x,v,h=>by rw[RD] at h ⊢;exact h
 |.list ds,v,h=>by
  rw[RD] at h ⊢
  obtain⟨a,xs,e,ha,r⟩:=h
  exact⟨a,xs,e,k a _ ha,RDs.same k ds xs r⟩
 |.tuple ds,v,h=>by
  rw[RD] at h ⊢
  obtain⟨a,xs,e,ha,r⟩:=h
  exact⟨a,xs,e,k a _ ha,RDs.same k ds xs r⟩
 |.dict _,v,h=>by rw[RD] at h;exact h.elim
theorem RDs.same{H H':Hp}(k:Same H H'):∀(ds:List PyData) (xs:List V),RDs H ds xs->RDs H' ds xs
 |[],xs,h=>by rw[RDs] at h ⊢;exact h
 |d::ds,xs,h=>by
  rw[RDs] at h ⊢
  obtain⟨x,r,e,h1,h2⟩:=h
  exact⟨x,r,e,RD.same k d x h1,RDs.same k ds r h2⟩
end
theorem RDs.len{H:Hp}:∀{ds:List PyData} {xs:List V},RDs H ds xs->xs.length=ds.length
 |[],xs,h=>by rw[RDs] at h;rw[h];rfl
 |d::ds,xs,h=>by
  rw[RDs] at h
  obtain⟨x,r,e,_,h2⟩:=h
  rw[e,Zzy,Zzy,RDs.len h2]
theorem RDs.get'{H:Hp}:∀{ds:List PyData} {xs:List V} {i:Nat} {x:V},RDs H ds xs->xs[i]?=some x->∃d,ds[i]?=some d/\RD H d x
 |[],xs,i,x,h,e=>by rw[RDs] at h;rw[h] at e;cases e
 |d::ds,xs,i,x,h,e=>by
  rw[RDs] at h
  obtain⟨y,r,ey,h1,h2⟩:=h
  rw[ey] at e
  cases i with
  |zero=>cases e;exact⟨d,rfl,h1⟩
  |succ i=>exact RDs.get' (ds:=ds) (xs:=r) (i:=i) h2 (by simpa using e)
theorem RDs.app{H:Hp}:∀{ds es:List PyData} {xs ys:List V},RDs H ds xs->RDs H es ys->RDs H (ds++es) (xs++ys)
 |[],es,xs,ys,h,h'=>by rw[RDs] at h;rw[h];exact h'
 |d::ds,es,xs,ys,h,h'=>by
  rw[RDs] at h
  obtain⟨x,r,e,h1,h2⟩:=h
  rw[e,Zze,Zze,RDs]
  exact⟨x,_,rfl,h1,RDs.app h2 h'⟩
theorem RDs.one{H:Hp}{d:PyData}{x:V}(h:RD H d x):RDs H [d] [x]:=by
 rw[RDs]
 refine⟨x,_,rfl,h,?_⟩
 rw[RDs]
theorem RDs.nil{H:Hp}:RDs H [] []:=by rw[RDs]
theorem RDs.cons{H:Hp}{d:PyData}{x:V}{ds:List PyData}{xs:List V}(h:RD H d x)(t:RDs H ds xs):RDs H (d::ds) (x::xs):=by
 rw[RDs]
 exact⟨x,_,rfl,h,t⟩
theorem RD.str_mk{H:Hp}{x:Str}:RD H (.str x) (.str x):=by rw[RD]
theorem RD.int_mk{H:Hp}{i:Int}:RD H (.int i) (.int i):=by rw[RD]
theorem RD.tup_mk{H:Hp}{a:Addr}{xs:List V}{ds:List PyData}(h:H a=some (.tup xs))(r:RDs H ds xs):RD H (.tuple ds) (.ref a):=by
 rw[RD]
 exact⟨a,xs,rfl,h,r⟩
theorem RD.tup_of{H:Hp}{v:V}{ds:List PyData}(h:RD H (.tuple ds) v):∃a xs,v=.ref a/\H a=some (.tup xs)/\RDs H ds xs:=by rw[RD] at h;exact h
theorem RD.str_of{H:Hp}{v:V}{x:Str}(h:RD H (.str x) v):v=.str x:=by rw[RD] at h;exact h
theorem RD.int_of{H:Hp}{v:V}{x:Int}(h:RD H (.int x) v):v=.int x:=by rw[RD] at h;exact h
theorem RDs.nil_of{H:Hp}{xs:List V}(h:RDs H [] xs):xs=[]:=by rw[RDs] at h;exact h
theorem RDs.cons_of{H:Hp}{d:PyData}{ds:List PyData}{xs:List V}(h:RDs H (d::ds) xs):∃x r,xs=x::r/\RD H d x/\RDs H ds r:=by rw[RDs] at h;exact h
end L2
namespace NP
open PySem L2
structure Wr where
 name:Str
 lag:Int
 gives:Int
 floor:Int
 stock:Int
 coming:List (Int×Int)
 parts:List (Str×Int)
def Lo(p:Int×Int):PyData:=.tuple [.int p.1,.int p.2]
def Fq(p:Str×Int):PyData:=.tuple [.str p.1,.int p.2]
def Wr.d(w:Wr):PyData:=.tuple [.str w.name,.int w.lag,.int w.gives,.int w.floor,.int w.stock,.tuple (w.coming.map Lo),.tuple (w.parts.map Fq)]
abbrev Wt:=Str×Int×Int
def Iy(p:Wt):PyData:=.tuple [.str p.1,.int p.2.1,.int p.2.2]
structure Sh where
 wares:List Wr
 wants:List Wt
def Sh.d(S:Sh):PyData:=.tuple [.tuple (S.wares.map Wr.d),.tuple (S.wants.map Iy)]
theorem D4{α:Type}(f:α->PyData)(h:∀x,G6 (f x)=true):∀xs:List α,G0 (xs.map f)=true
 |[]=>by rw[Zyr,G0]
 |x::r=>by rw[Zzp,G0,h x,D4 f h r];rfl
theorem Ru(p:Int×Int):G6 (Lo p)=true:=by unfold Lo;simp only[G6,G0,Zxj]
theorem Kp(p:Str×Int):G6 (Fq p)=true:=by unfold Fq;simp only[G6,G0,Zxj]
theorem Mu(p:Wt):G6 (Iy p)=true:=by unfold Iy;simp only[G6,G0,Zxj]
theorem Ko(w:Wr):G6 w.d=true:=by
 unfold Wr.d
 simp only[G6,G0,D4 Lo Ru,D4 Fq Kp,Zxj]
theorem Vi(S:Sh):G6 S.d=true:=by
 unfold Sh.d
 simp only[G6,G0,D4 Wr.d Ko,D4 Iy Mu,Zxj]
theorem Nz{H:Hp}{w:Wr}{v:V}(h:RD H w.d v):∃(a:Addr) (c p:V),v=.ref a/\H a=some (.tup [.str w.name,.int w.lag,.int w.gives,.int w.floor,.int w.stock,c,p])/\RD H (.tuple (w.coming.map Lo)) c/\RD H (.tuple (w.parts.map Fq)) p:=by
 unfold Wr.d at h
 obtain⟨a,xs,rfl,ha,r⟩:=RD.tup_of h
 obtain⟨x1,r1,rfl,h1,r⟩:=RDs.cons_of r
 obtain⟨x2,r2,rfl,h2,r⟩:=RDs.cons_of r
 obtain⟨x3,r3,rfl,h3,r⟩:=RDs.cons_of r
 obtain⟨x4,r4,rfl,h4,r⟩:=RDs.cons_of r
 obtain⟨x5,r5,rfl,h5,r⟩:=RDs.cons_of r
 obtain⟨x6,r6,rfl,h6,r⟩:=RDs.cons_of r
 obtain⟨x7,r7,rfl,h7,r⟩:=RDs.cons_of r
 have:=RDs.nil_of r
 subst this
 rw[RD.str_of h1,RD.int_of h2,RD.int_of h3,RD.int_of h4,RD.int_of h5] at ha
 exact⟨a,x6,x7,rfl,ha,h6,h7⟩
theorem Qu{H:Hp}{S:Sh}{v:V}(h:RD H S.d v):∃(a b c:Addr) (ws us:List V),v=.ref a/\H a=some (.tup [.ref b,.ref c])/\H b=some (.tup ws)/\H c=some (.tup us)/\RDs H (S.wares.map Wr.d) ws/\RDs H (S.wants.map Iy) us:=by
 unfold Sh.d at h
 obtain⟨a,xs,rfl,ha,r⟩:=RD.tup_of h
 obtain⟨x1,r1,rfl,h1,r⟩:=RDs.cons_of r
 obtain⟨x2,r2,rfl,h2,r⟩:=RDs.cons_of r
 have:=RDs.nil_of r
 subst this
 obtain⟨b,ws,rfl,hb,rb⟩:=RD.tup_of h1
 obtain⟨c,us,rfl,hc,rc⟩:=RD.tup_of h2
 exact⟨a,b,c,ws,us,rfl,ha,hb,hc,rb,rc⟩
theorem Yz{H:Hp}{p:Wt}{v:V}(h:RD H (Iy p) v):∃a:Addr,v=.ref a/\H a=some (.tup [.str p.1,.int p.2.1,.int p.2.2]):=by
 unfold Iy at h
 obtain⟨a,xs,rfl,ha,r⟩:=RD.tup_of h
 obtain⟨x1,r1,rfl,h1,r⟩:=RDs.cons_of r
 obtain⟨x2,r2,rfl,h2,r⟩:=RDs.cons_of r
 obtain⟨x3,r3,rfl,h3,r⟩:=RDs.cons_of r
 have:=RDs.nil_of r
 subst this
 rw[RD.str_of h1,RD.int_of h2,RD.int_of h3] at ha
 exact⟨a,rfl,ha⟩
theorem Vf{H:Hp}{p:Str×Int}{v:V}(h:RD H (Fq p) v):∃a:Addr,v=.ref a/\H a=some (.tup [.str p.1,.int p.2]):=by
 unfold Fq at h
 obtain⟨a,xs,rfl,ha,r⟩:=RD.tup_of h
 obtain⟨x1,r1,rfl,h1,r⟩:=RDs.cons_of r
 obtain⟨x2,r2,rfl,h2,r⟩:=RDs.cons_of r
 have:=RDs.nil_of r
 subst this
 rw[RD.str_of h1,RD.int_of h2] at ha
 exact⟨a,rfl,ha⟩
theorem dw{H:Hp}{p:Int×Int}{v:V}(h:RD H (Lo p) v):∃a:Addr,v=.ref a/\H a=some (.tup [.int p.1,.int p.2]):=by
 unfold Lo at h
 obtain⟨a,xs,rfl,ha,r⟩:=RD.tup_of h
 obtain⟨x1,r1,rfl,h1,r⟩:=RDs.cons_of r
 obtain⟨x2,r2,rfl,h2,r⟩:=RDs.cons_of r
 have:=RDs.nil_of r
 subst this
 rw[RD.int_of h1,RD.int_of h2] at ha
 exact⟨a,rfl,ha⟩
theorem J0{α:Type}{H:Hp}{f:α->PyData}{xs:List α}{vs:List V}{i:Nat}{v:V}(h:RDs H (xs.map f) vs)(e:vs[i]?=some v):∃x,xs[i]?=some x/\RD H (f x) v:=by
 obtain⟨d,hd,r⟩:=RDs.get' h e
 rw[Zzv] at hd
 cases ex:xs[i]? with
 |none=>rw[ex] at hd;cases hd
 |some x=>rw[ex] at hd;cases hd;exact⟨x,rfl,r⟩
theorem Dy{α:Type}{H:Hp}{f:α->PyData}{xs:List α}{vs:List V}(h:RDs H (xs.map f) vs):vs.length=xs.length:=by have:=RDs.len h;rw[Zzz] at this;exact this
end NP
namespace L2
open PySem PySem.Spec PyProof.Rows
section
variable {prog:Program}{w:World}{A:Around}{E:Value->Shared->Prop}{s:Shared}
end
section
variable {X:Cx}
def E7(te:TE):TE:=λZ H Q=>te Z H λx H1=>∃a xs,x=.ref a/\H1 a=some (.lst xs)/\∀p,H1 p=none->Q (.ref p) (upd H1 p (.lst xs.reverse))
end
theorem Qa{K:Zzx}:Tv 2 (Wl K 2 (L6 (Cj 0) (L6 (Cj 1) gNil))):=λv Z H Q h=>by
 obtain⟨a,xs,e,hq,hl,v1,r1,e1,v2,r2,e2,e3,q⟩:=h
 exact⟨a,xs,e,hq,hl,v1,r1,e1,v2,r2,e2,e3,⟨⟨by simp,λj hj=>by rw[Zxq (by omega),Zxq (by omega)]⟩,q⟩⟩
theorem Wj{K:Zzx}:Tv 3 (Wl K 3 (L6 (Cj 0) (L6 (Cj 1) (L6 (Cj 2) gNil)))):=λv Z H Q h=>by
 obtain⟨a,xs,e,hq,hl,v1,r1,e1,v2,r2,e2,v3,r3,e3,e4,q⟩:=h
 exact⟨a,xs,e,hq,hl,v1,r1,e1,v2,r2,e2,v3,r3,e3,e4,⟨⟨by simp,λj hj=>by rw[Zxq (by omega),Zxq (by omega),Zxq (by omega)]⟩,q⟩⟩
theorem gt3{K:Zzx}{i j k:Nat}{p:Addr}{x y z:V}{Z:St}{H:Hp}{Q:St->Hp->Prop}(e:H p=some (.tup [x,y,z]))(h:Q (((Z.set i (some x)).set j (some y)).set k (some z)) H) :
  Wl K 3 (L6 (Cj i) (L6 (Cj j) (L6 (Cj k) gNil))) (.ref p) Z H Q:=⟨p,_,rfl,SqT.of e,rfl,_,_,rfl,_,_,rfl,_,_,rfl,rfl,h⟩
theorem Ml{J:It}{n:Nat}{yl:Nat->V->Prop}{ok:Hp->Prop}{own:List Str}{cap:List Nat}{g:TG}{tt:TT}{te:TE}{Z:St}{H:Hp}{Q:VK}(G:S8 J n yl ok)(hn:n<=sizeLine)(Pv:Nat->List V->Hp->Prop)(h0:Pv 0 [] H)(hok:∀i acc H,i<=n->Pv i acc H->ok H)
  (hlen:∀i acc H,Pv i acc H->acc.length<=i)
  (hs:∀i x acc H,i<n->yl i x->Pv i acc H->g x (Dj own cap Z) H λσ2 H2=>tt σ2 H2 λb H3=>if b=true then te σ2 H3 λy H4=>Pv (i+1) (acc++[y]) H4 else Pv (i+1) acc H3)
  (hd:∀acc H,Pv n acc H->∀p,H p=none->Q (.ref p) (upd H p (.lst acc))):NP.Vw J own cap g tt te Z H Q:=Qh G hn Pv h0 hok hlen hs hd
def dt(ns:Nat->Int):Nat->Int
 |0=>ns 0
 |k+1=>if ns (k+1) > dt ns k then ns (k+1) else dt ns k
section
variable {prog:Program}{w:World}{A:Around}{R:Result->Shared->Prop}{I:Addr}{fp wr:List Addr}{n:Nat}{P:Nat->Value->Prop}{St:Nat->Heap->Prop}
end
def g8(ns:List Int):Int:=dt (λi=>(ns[i]?).getD 0) (ns.length - 1)
def max0(ns:List Int):Int:=if ns=[] then 0 else g8 ns
section
variable {X:Cx}
def Ej:List V->Hp->VK->Prop:=λvs H Q=>∃a ns,vs=[.ref a]/\H a=some (.lst (ns.map V.int))/\ns≠[]/\Q (.int (g8 ns)) H
def E6(te:TE):TE:=λZ H Q=>te Z H λx H1=>∃a ns,x=.ref a/\H1 a=some (.lst (ns.map V.int))/\Q (.int (max0 ns)) H1
end
section
variable {X:Cx}
def Em:V->V->Hp->VK->Prop:=λo i H Q=>∃p xs k v,o=.ref p/\i=.int k/\H p=some (.lst xs)/\0<=k/\xs[k.toNat]?=some v/\Q v H
end
end L2
namespace NP
open PySem L2
end NP
namespace L2
open PySem PySem.Spec PyProof.Rows
def ItI(a:Addr)(o:Obj)(kvs:List (Key×V)):It:=⟨λi H=>H a=some (.frz o (.dK kvs))/\i<kvs.length,λi H x H'=>∃p k v,x=.ref p/\H p=none/\kvs[i]?=some (k,v)/\H'=upd H p (.tup [kV k,v]),λi H=>H a=some (.frz o (.dK kvs))/\kvs.length<=i⟩
section
variable {X:Cx}
def Hw(te:TE):TI:=λZ H R=>te Z H λx H1=>∃a kvs,x=.ref a/\H1 a=some (.dK kvs)/\∀o,R (ItI a o kvs) (upd H1 a (.frz o (.dK kvs)))
def bv(H:Hp)(ka kb:List (Key×V)):Prop:=∀p∈ka,∃y d e,Mh kb p.1=some y/\RD H d p.2/\RD H e y/\okD d=true/\okD e=true/\PyData.eqv d e=true
def Hq:R2:=λx y H Q=>∃a b ka kb,x=.ref a/\y=.ref b/\Rd H a (.dK ka)/\Rd H b (.dK kb)/\ka.length=kb.length/\bv H ka kb/\Q (.bl true) H
def Hn:R2:=λx y H Q=>∃a b ka kb,x=.ref a/\y=.ref b/\Rd H a (.dK ka)/\Rd H b (.dK kb)/\ka.length=kb.length/\bv H ka kb/\Q (.bl false) H
end
end L2
namespace L2
open PySem PySem.Spec PyProof.Rows PySem.W NP
def klt(key:Nat->Int)(a b:Nat):Prop:=key a<key b\/(key a=key b/\a<b)
section
variable {n:Nat}{key:Nat->Int}
end
def gm(kz:Str->Int)(xs ys:List Str):Prop:=ys.Perm xs/\ys.Pairwise λa b=>kz a<=kz b
def gj(kz:Str->Int)(xs ys:List Str):Prop:=∃ps:List Nat,ps.Perm (Zx2 xs.length)/\ys=ps.map (λi=>xs.getD i "")/\ps.Pairwise (klt λi=>kz (xs.getD i ""))
def gv(c:Addr)(q:Str):HO:=.ext λh=>h.CodeRec (.ref c) q
def br(H:Hp)(P:Addr)(pos:Pos)(q:Str):Prop:=H P=some (.tbl #[])\/∃c,H P=some (.tbl #[rawInt pos.line,rawInt pos.col,.ref c])/\H c=some (gv c q)
section
variable {X:Cx}{pins:List (Addr×Obj)}{Z:St}{H:Hp}{s:Shared}
end
section
variable {prog:Program}{w:World}{A:Around}{s:Shared}
end
section
variable {X:Cx}
def C5(P:Addr)(pos:Pos)(q:Str)(i:Nat)(Z:St)(Q:VK)(x:V)(H1:Hp):Prop:=∃(l:Addr) (xs:List Str) (d:Addr) (kvs:List (Key×V)) (kz:Str->Int),x=.ref l/\H1 l=some (.lst (xs.map V.str))/\xs.length<64/\Z[i]?=some (some (.ref d))/\H1 d=some (.dK kvs) /\
 (∀x∈xs,Mh kvs (.inr x)=some (.int (kz x)))/\br H1 P pos q/\∀r ys H2,H1 r=none->H2 r=some (.lst (ys.map V.str))->gm kz xs ys->gj kz xs ys->br H2 P pos q->But P H1 H2->Q (.ref r) H2
def Ct(P:Addr)(pos:Pos)(q:Str)(i:Nat)(te:TE):TE:=λZ H Q=>te Z H (C5 P pos q i Z Q)
end
end L2
namespace NP
open PySem L2
end NP
namespace L2
open PySem PySem.Spec PyProof.Rows
def ItV(a:Addr)(xs:List V):It:=⟨λi H=>H a=some (.lst xs)/\i<xs.length,λi H x H'=>H'=H/\xs.reverse[i]?=some x,λi H=>H a=some (.lst xs)/\i=xs.length⟩
section
variable {X:Cx}
def Hv(ta:TA):TI:=λZ H R=>ta Z H λvs H1=>∃a xs,vs=[.ref a]/\H1 a=some (.lst xs)/\R (ItV a xs) H1
end
end L2
namespace NP
open PySem L2
def eg(S:Sh)(x:Str):Option Wr:=S.wares.find? λw=>decide (w.name=x)
end NP
namespace L2
open PySem PySem.Spec PyProof.Rows PySem.W NP
def gi(a b:Str):Prop:=¬ b.cps.toList<a.cps.toList
def Vu(xs ys:List Str):Prop:=ys.Perm xs/\ys.Pairwise gi
section
variable {X:Cx}{pins:List (Addr×Obj)}{Z:St}{H:Hp}{s:Shared}{h':Heap}
end
section
variable {X:Cx}
def Cw:List V->Hp->VK->Prop:=λvs H Q=>∃a xs,vs=[.ref a]/\H a=some (.lst (xs.map V.str))/\xs.length<64/\∀p ys,H p=none->Vu xs ys->Q (.ref p) (upd H p (.lst (ys.map V.str)))
def Cy:List V->Hp->VK->Prop:=λvs H Q=>∃a kvs xs,vs=[.ref a]/\H a=some (.dK kvs)/\kvs.map (·.1)=xs.map Zwn/\xs.length<64/\∀p ys,H p=none->Vu xs ys->Q (.ref p) (upd H p (.lst (ys.map V.str)))
def D0:List V->Hp->VK->Prop:=λvs H Q=>∃a kvs,vs=[.ref a]/\Rd H a (.dK kvs)/\∀p,H p=none->Q (.ref p) (upd H p (.dK kvs))
def C9:V->List V->Hp->VK->Prop:=λx vs H Q=>∃a kvs,x=.ref a/\vs=[]/\H a=some (.dK kvs)/\Q .non (upd H a (.dK []))
end
end L2
set_option maxHeartbeats 4000000
namespace L2
open PySem PyProof.Rows
def C8:V->List V->Hp->VK->Prop:=λx vs H Q=>∃(l:Addr) (xs:List Str) (y:Str),x=.ref l/\vs=[.str y]/\H l=some (.lst (xs.map V.str))/\y∈xs/\Q (.int (xs.idxOf y:Nat)) H
theorem Nf:∀xs:List Str,(xs.map V.str).all Kk=true
 |[]=>rfl
 |x::xs=>by rw[Zzp,Zwl,Nf xs];rfl
theorem Ow(x:Str):∀xs:List Str,inV (.str x) (xs.map V.str)=decide (x∈xs)
 |[]=>rfl
 |y::xs=>by
  show (y == x||inV (.str x) (xs.map V.str))=decide (x∈y::xs)
  rw[Ow x xs]
  by_cases e:y=x
  ·rw[e];simp
  ·have e2:(y == x)=false:=by simpa using e
   rw[e2,Bool.false_or]
   exact decide_eq_decide.mpr ⟨λm=>Zzi _ m,λm=>(Zzw.mp m).resolve_left λz=>e z.symm⟩
end L2
set_option exponentiation.threshold 4000
namespace L2
open PySem PySem.Spec PyProof.Rows
def En:V->V->Hp->VK->Prop:=λo i H Q=>∃(p:Addr) (kvs:List (Key×V)) (k:Str) (v:V),o=.ref p/\i=.str k/\H p=some (.dK kvs)/\Mh kvs (.inr k)=some v/\Q v H
end L2
namespace NP
open PySem L2
def Y3(m g:Int):Int:=if -(-m / g) > 0 then -(-m / g) else 0
def Z4:List Int->Int
 |[]=>0
 |x::r=>x+Z4 r
def Yy(us:List Wt)(x:Str):Int:=Z4 (us.map λu=>if u.1=x then u.2.2 else 0)
def bw(L:Str->Int)(w:Wr)(x:Str):Int:=Z4 (w.parts.map λp=>if p.1=x then L w.name*p.2 else 0)
def Z2(ws:List Wr)(L:Str->Int)(x:Str):Int:=Z4 (ws.map λw=>bw L w x)
def d4(S:Sh)(L:Str->Int)(x:Str):Int:=Yy S.wants x+Z2 S.wares L x
def exF(S:Sh):Nat->Str->Int
 |0,_=>0
 |k+1,x=>match eg S x with
  |some w=>Y3 (d4 S (exF S k) x) w.gives
  |none=>0
def ex(S:Sh)(x:Str):Int:=exF S S.wares.length x
def above(f g:Int)(xs ys:List Int):Nat->Int
 |0=>-f
 |i+1=>above f g xs ys i+(xs.getD i 0 - ys.getD i 0)+g*Y3 (-(above f g xs ys i+(xs.getD i 0 - ys.getD i 0))) g
end NP
set_option maxHeartbeats 400000
namespace L2
open PySem PySem.Spec PyProof.Rows PySem.W NP
section
variable {prog:Program}{w:World}{A:Around}{E:Value->Shared->Prop}{s:Shared}
end
def Cv:List V->Hp->VK->Prop:=λvs H Q=>∃(a:Addr) (as:List Addr) (kz:Nat->Int),vs=[.ref a]/\H a=some (.lst (as.map V.ref))/\as.length<64/\(∀i,i<as.length->H (as.getD i 0)=some (.tup [.int (kz i),.int i])) /\
 ∀(r:Addr) (ps:List Nat),H r=none->ps.Perm (Zx2 as.length)->ps.Pairwise (klt kz)->Q (.ref r) (upd H r (.lst (ps.map λi=>V.ref (as.getD i 0))))
end L2
namespace L2
open PySem PySem.Spec PyProof.Rows
def Um(ns:Nat->Int):Nat->Int
 |0=>ns 0
 |k+1=>if ns (k+1)<Um ns k then ns (k+1) else Um ns k
section
variable {prog:Program}{w:World}{A:Around}{R:Result->Shared->Prop}{I:Addr}{fp wr:List Addr}{n:Nat}{P:Nat->Value->Prop}{St:Nat->Heap->Prop}
end
def minL(ns:List Int):Int:=Um (λi=>(ns[i]?).getD 0) (ns.length - 1)
section
variable {X:Cx}
def Ei:List V->Hp->VK->Prop:=λvs H Q=>∃a ns,vs=[.ref a]/\H a=some (.lst (ns.map V.int))/\ns≠[]/\Q (.int (minL ns)) H
end
end L2
namespace L2
open PySem PySem.Spec PyProof.Rows PySem.W NP
section
variable {X:Cx}
end
end L2
namespace L2
open PySem PySem.Spec PyProof.Rows
section
variable {X:Cx}
end
end L2
set_option maxHeartbeats 4000000
namespace L2
open PySem PySem.Spec PyProof.Rows PySem.W
theorem ObjOk.ex{P:Program}{w:World}{H:Hp}{h:Heap}{a:Addr}{o:HO}(x:ObjOk P w H h a o):∃ob,h.get? a=some ob:=by
 cases o with
 |lst xs=>obtain⟨_,_,_,_,e⟩:=x;exact⟨_,e⟩
 |tup xs=>obtain⟨_,_,_,ob,e,_⟩:=x;exact⟨ob,e⟩
 |dK kvs=>obtain⟨_,_,_,_,o,_,_,e,_⟩:=x;exact⟨o,e⟩
 |dT kvs=>obtain⟨_,_,_,_,o,_,_,e,_⟩:=x;exact⟨o,e⟩
 |set S n=>obtain⟨ob,_,_,_,e,_⟩:=x;exact⟨ob,e⟩
 |ins C dx fs=>obtain⟨_,_,_,e,_⟩:=x;exact⟨_,e⟩
 |own y=>exact x
 |xd fs=>obtain⟨_,⟨od,_,_,e,_⟩,_⟩:=x;exact⟨od,e⟩
 |rng lo hi=>obtain⟨_,_,_,e⟩:=x;exact⟨_,e⟩
 |frz ob u=>exact⟨_,x.1⟩
 |tbl ps=>exact⟨_,x⟩
 |met f y=>exact⟨_,x⟩
 |ext φ=>exact x.2.1
structure Fl(P:Program)(w:World)(fs:List Addr)(H:Hp)(h:Heap)(a:Addr)(H':Hp)(B h':Heap):Prop where
 un:Un fs [] H H' h h'
 hok:HOk P w H' h'
 new:h.get? a=none
 free:H' a=none
 k1:∀b o,h.get? b=some o->H b=none->b∉fs->B.get? b=some o
 k2:∀b o u,H' b=some u->h'.get? b=some o->B.get? b=some o
 k3:∀b o,h.get? b=some o->b∉fs->∃o',B.get? b=some o'
 fr:∀b∈fs,∃o,h.get? b=some o/\H b=none/\∀vs,o.data≠.fields vs
section
variable {P:Program}{w:World}{fs:List Addr}{H H' H0:Hp}{h h0 h1 h2 B:Heap}{a L:Addr}
theorem Fl.slots(F:Fl P w fs H h a H' B h1)(up:h1.UpToSlots h2){b:Addr}{o:Obj}(e:h.get? b=some o)(hb:b∈fs):∃sl,h2.get? b=some {o with slots:=sl}:=by
 obtain⟨o',e',n,hd⟩:=F.fr b hb
 rw[e] at e'
 cases e'
 obtain⟨sl,q⟩:=F.un.slot b o e n hb (by simp)
 obtain⟨sl2,q2⟩:=up b _ q hd
 exact⟨sl2,q2⟩
theorem Fl.on(F:Fl P w fs H h a H' B h1)(st:B.StaysIn h2)(up:h1.UpToSlots h2):Fl P w fs H h a H' B h2 where
 un:={
  keep:=λb o e n hb _=>st b o (F.k1 b o e n hb)
  slot:=λb o e n hb _=>F.slots up e hb
  free:=F.un.free
  there:=λb o e _=>by
   by_cases hb:b∈fs
   ·obtain⟨sl,q⟩:=F.slots up e hb
    exact⟨_,q⟩
   ·obtain⟨o',q⟩:=F.k3 b o e hb
    exact⟨o',st b o' q⟩
  tups:=F.un.tups
  frzs:=F.un.frzs
  tbls:=F.un.tbls}
 hok:=λb u e=>(F.hok b u e).stay (λc o hc q=>st c o (by
  rcases hc with rfl | hc
  ·exact F.k2 _ o u e q
  ·exact F.k2 c o _ hc q)) (λ_ q=>q) λ_ _ q=>q
 new:=F.new
 free:=F.free
 k1:=F.k1
 k2:=λb o u e q=>by
  obtain⟨o1,q1⟩:=(F.hok b u e).ex
  have z:=F.k2 b o1 u e q1
  have z2:=st _ _ z
  rw[q] at z2
  cases z2
  exact z
 k3:=F.k3
 fr:=F.fr
theorem Fl.out(F:Fl P w (L::fs) H h a H' B h1)(U:Un fs [] H0 H h0 h)(hL:h0.objs.size<=L)(fr:∀b∈fs,∃o,h0.get? b=some o/\H0 b=none/\∀vs,o.data≠.fields vs):Fl P w fs H0 h0 a H' B h1:=by
 have nL:∀b o,h0.get? b=some o->b∉fs->b∉L::fs:=λb o e hb z=>by
  rcases Zzw.mp z with z | z
  ·rw[z] at e
   exact absurd (Zzd (Zzc e) hL) (Zwm _)
  ·exact hb z
 have nx:∀b:Addr,b∉([]:List Addr):=λb z=>by cases z
 refine⟨⟨λb o e n hb hx=>?_,λb o e n hb hx=>?_,λb o e n hx=>?_,λb o e hx=>?_,λb xs e=>F.un.tups b xs (U.tups b xs e),λb o u e=>F.un.frzs b o u (U.frzs b o u e),λb ps e=>?_⟩,F.hok,?_,F.free,λb o e n hb=>?_,F.k2,λb o e hb=>?_,fr⟩
 ·exact F.un.keep b o (U.keep b o e n hb hx) (U.free b o e n hx) (nL b o e hb) hx
 ·obtain⟨sl,q⟩:=U.slot b o e n hb hx
  obtain⟨sl2,q2⟩:=F.un.slot b _ q (U.free b o e n hx) (Zzi _ hb) hx
  exact⟨sl2,q2⟩
 ·obtain⟨o',q⟩:=U.there b o e hx
  exact F.un.free b o' q (U.free b o e n hx) hx
 ·obtain⟨o',q⟩:=U.there b o e hx
  exact F.un.there b o' q hx
 ·obtain⟨m1,e1⟩:=U.tbls b ps e
  obtain⟨m2,e2⟩:=F.un.tbls b _ e1
  exact⟨m1++m2,by rw[e2,Array.append_assoc]⟩
 ·cases e:h0.get? a with
  |none=>rfl
  |some o =>
   obtain⟨o',q⟩:=U.there a o e (nx a)
   rw[F.new] at q
   cases q
 ·exact F.k1 b o (U.keep b o e n hb (nx b)) (U.free b o e n (nx b)) (nL b o e hb)
 ·obtain⟨o',q⟩:=U.there b o e (nx b)
  exact F.k3 b o' q (nL b o e hb)
end
abbrev CXE(P:Program)(w:World):CXT:=λouter H s E e s'=>∃(a:Addr) (cls:Value) (H':Hp) (B:Heap) (t:Addr),e=.ref a/\s'.os=s.os/\AllBare s'.gens/\Fl P w (frs outer) H s.heap a H' B s'.heap/\Heap.FlyingW B outer a cls (.ref t) s'.heap/\E cls none H'
abbrev XG:=Value->St->Hp->Prop
def M2(X:Cx)(G:XG):Prop:=∀(pins:List (Addr×Obj)) (Z:St) (H:Hp) (s:Shared) (e:Value) (s':Shared),Inv X pins Z H s->CXE X.prog X.w X.stack H s (λcls _ H'=>G cls Z H') e s'->X.xe e s'
def Ys(X:Cx)(G:XG):Prop:=∀(pins:List (Addr×Obj)) (Z:St) (H:Hp) (s:Shared) (h':Heap) (e:Addr) (cls:Value) (vs:List Value),Inv X pins Z H s->Heap.MadeExcOf s.heap h' e cls vs->G cls Z H->X.xe (.ref e) {s with heap:=h'}
section
variable {P:Program}{w:World}{K:Zzx}{mg:Str->Option Value}{base:Heap}{N:List Str}{qual:Str}{scope:Scope}{f:Addr}{cd:Value}{A:Around}{outer:List Env}{s:Shared}{H:Hp}{E:XK}
theorem Inv.frfl{X:Cx}{pins:List (Addr×Obj)}{Z:St}{H:Hp}{s:Shared}(I:Inv X pins Z H s):∀b∈frs X.stack,∃o,s.heap.get? b=some o/\H b=none/\∀vs,o.data≠.fields vs:=λb hb=>by
 obtain⟨_,o,ho,hd⟩:=I.stack.mem hb
 exact⟨o,ho,I.stkFree b hb,hd⟩
theorem Yn{X:Cx}{pins:List (Addr×Obj)}{Z:St}{H:Hp}{s:Shared}(I:Inv X pins Z H s):∀b∈frs X.outer,∃o,X.s₀.heap.get? b=some o/\X.H₀ b=none/\∀vs,o.data≠.fields vs:=λb hb=>by
 obtain⟨_,o,ho,hd⟩:=I.ok.funs.mem hb
 exact⟨o,ho,I.ok.frf b hb,hd⟩
theorem Xp:M2 (Pl (CXE P w) P w K mg base N qual scope f cd A outer s H E) λcls _ H'=>E cls none H':=by
 rintro pins Z H1 s1 e s' I ⟨a,cls,H2,B,t,he,os,bare,F,fl,hE⟩
 subst he
 refine wpAny_leaves_onW (outer:=outer) I.ok.frames rfl fl λh' fl' up=>?_
 have F1:Fl P w (s.heap.objs.size::frs outer) H1 s1.heap a H2 B h':=F.on fl'.1 up
 exact⟨a,cls,H2,B,t,rfl,os.trans I.os,bare,F1.out I.base (Zzt _) (Yn I),fl',hE⟩
theorem Inv.flNew{X:Cx}{pins:List (Addr×Obj)}{Z:St}{H:Hp}{s:Shared}{h':Heap}{e:Addr}{cls:Value}{vs:List Value}(I:Inv X pins Z H s)(hx:Heap.MadeExcOf s.heap h' e cls vs):Fl X.prog X.w (frs X.stack) H s.heap e H (hideAll s.heap (frs X.stack)) h' where
 un:=Un.kept hx.keeps
 hok:=I.hok.kept hx.keeps
 new:=hx.new
 free:=by
  cases q:H e with
  |none=>rfl
  |some u =>
   obtain⟨ob,z⟩:=(I.hok e u q).ex
   rw[hx.new] at z
   cases z
 k1:=λb o q _ hb=>hideAll_get _ q hb
 k2:=λb o u q z=>by
  obtain⟨o1,z1⟩:=(I.hok b u q).ex
  have z2:=hx.keeps b o1 z1
  rw[z] at z2
  cases z2
  exact hideAll_get _ z1 λm=>by rw[I.stkFree b m] at q;cases q
 k3:=λb o q hb=>⟨o,hideAll_get _ q hb⟩
 fr:=I.frfl
theorem Th:Ys (Pl (CXE P w) P w K mg base N qual scope f cd A outer s H E) λcls _ H'=>E cls none H':=by
 intro pins Z H1 s1 h' e cls vs I hx hE
 have F:=I.flNew hx
 refine wpAny_leaves_madeW (outer:=outer) (h:=s1.heap) (base:=hideAll s1.heap (frs (envOfC qual scope s.heap.objs.size f cd::outer))) I.ok.frames rfl (λb o q=>of_hideAll _ q) (funFrames_hide I.stack λenv he b hb=>Zvf.mpr ⟨env,he,hb⟩) hx λh2 t fl _ _ up=>?_
 have F1:Fl P w (s.heap.objs.size::frs outer) H1 s1.heap e H1 _ h2:=F.on fl.1 up
 exact⟨e,cls,H1,_,t,rfl,I.os,I.bare,F1.out I.base (Zzt _) (Yn I),fl,hE⟩
end
theorem Fun.okX{P:Program}{w:World}{K:Zzx}{mg:Str->Option Value}{base:Heap}{x qual:Str}{st:Stmt}{f:Addr}{fd:FuncData}{N ps:List Str}{k:Nat}{sp:Sp}(F:Fun K x qual st f fd)(S:Bv N ps (A6 st))(len:∀vs H Q E,sp vs H Q E->vs.length=ps.length)
  (hbody:∀(cdv:Value) (A:Around) (outer:List Env) (s:Shared) (H:Hp) (vs:List V) (Q:VK) (E:XK),Room k (A.deeper (envOfC qual (A6 st) s.heap.objs.size f cdv))->sp vs H Q E ->
   ∃t,PSs (Pl (CXE P w) P w K mg base N qual (A6 st) f cdv A outer s H E) (Bo st) t/\t {nx:=λ_ H'=>Q .non H',rt:=Q} (D5 N vs) H):Dp P w K mg base (CXE P w) (k+1) f fd ps sp:=by
 obtain⟨oc,od,kV,doc,pm,an,cdv,ct,osl,rfl,lk,hcd⟩:=F.ex
 exact bp lk hcd S len λA outer s H vs Q E hr hsp=>hbody cdv A outer s H vs Q E hr hsp
def Ny(P:Program)(w:World)(K:Zzx)(mg:Str->Option Value)(base:Heap)(x:Str)(k:Nat)(ps:List Str)(sp:Sp):Prop :=
 ∃f fd,mg x=some (.ref f)/\Zzb K (.ref f)=true/\Binds K fd ps []/\Dp P w K mg base (CXE P w) k f fd ps sp
def Cp(sp:Sp)(G:XG)(t:TA):TE:=λZ H Q=>t Z H λvs H1=>sp vs H1 Q λcls _ H'=>G cls Z H'
theorem Z8{X:Cx}{k:Nat}{f:Addr}{fd:FuncData}{ps:List Str}{sp:Sp}{G:XG}{pins:List (Addr×Obj)}{Z:St}{H:Hp}{s:Shared}{Q:VK}{us:List Value}{vs:List V}(F:Dp X.prog X.w X.K X.mg X.base (CXE X.prog X.w) k f fd ps sp)(hr:Room k X.A)(hb:Binds X.K fd ps [])(hp:M2 X G)
  (I:Inv X pins Z H s) (r:Vals vs us) (h:sp vs H Q λcls _ H'=>G cls Z H'):wpAny (model X.prog X.w) X.A (call (.ref f) us) (EP X pins Z Q) X.xe s:=by
 have hl:us.length=ps.length:=by rw[<- r.length];exact F.len _ _ _ _ h
 have hb':=hb s us I.kIn (by rw[Zzq];exact hl)
 rw[Zzq] at hb'
 refine wpAny_call (codeAny_mono (F.run X.A X.stack s H ⟨us,[]⟩ us vs Q _ hr I.env0 hb' r h) λr s' hq=>?_)
 cases r with
 |error e=>exact hp pins Z H s e s' I hq
 |ok fl =>
  cases fl with
  |ret u=>exact I.after hq
  |next=>exact False.elim hq
  |brk=>exact False.elim hq
  |cont=>exact False.elim hq
theorem L1{X:Cx}{x:Str}{k:Nat}{ps:List Str}{sp:Sp}{G:XG}{e:Expr}{es:List Expr}{t:TA}{p pos:Pos}(h:Ny X.prog X.w X.K X.mg X.base x k ps sp)(hp:M2 X G)(hr:Room k X.A)(hg:Gl X x)(ha:PA X (e::es) t)(hn:Gc (e::es)=true:=by rfl)(hdb:(x == ("__debug__" : Str))=false:=by decide) :
  PE X (.Call (.Name x p) (e::es) [] pos) (Cp sp G t):=by
 obtain⟨f,fd,hm,hk,hb,F⟩:=h
 intro pins s Z H Q I ht
 refine wpAny_Call_Name_kw (Mw I hg hm ?_ hdb)
 refine PySem.W.callWith_K (h₀:=X.base) I.ok.mod.kin hk (thn (ha pos pins s Z H _ I ht) λus s1 ⟨vs,H1,I1,r,q⟩=>⟨I1.kIn,?_⟩) (Db (Cq hn).1) (Ih (Cq hn).2)
 exact Z8 F hr hb hp I1 r q
abbrev Cx.tried(X:Cx)(pn:List (Addr×Obj))(W:Value->Shared->Prop):Cx:={X with pn:=pn,xe:=W}
abbrev Cx.caught(X:Cx)(a:Addr):Cx:={X with A:=X.A.mark (some (.ref a)),calm:=false,xe:=λ_ _=>False}
def Tp(a:Addr)(cls:Value):HO:=.ext λh=>∃o,h.get? a=some o/\o.cls=cls
section
variable {X:Cx}{pins:List (Addr×Obj)}{Z:St}{H H':Hp}{s s':Shared}{W:Value->Shared->Prop}{a:Addr}{cls:Value}{B:Heap}
theorem Inv.tried(I:Inv X pins Z H s)(W:Value->Shared->Prop):Inv (X.tried (X.pn++pins) W) [] Z H s :=
 ⟨⟨I.ok.mod,I.ok.kind,I.ok.glob,I.ok.blt,I.ok.above,I.ok.inj,I.ok.has,I.ok.cab,I.ok.hd,I.ok.frames,I.ok.stk,I.ok.exf,I.ok.bs,I.ok.bsz,I.ok.noex,I.ok.exfs,I.ok.funs,I.ok.frf⟩,I.os,I.bare,I.base,I.loc,I.cell,I.free,I.freeC,λp hp=>I.pin p (by rw[Zzq] at hp;exact hp),I.hok,I.len⟩
theorem Inv.untried{ps:List (Addr×Obj)}(I:Inv (X.tried (X.pn++pins) W) ps Z H s):Inv X pins Z H s :=
 ⟨⟨I.ok.mod,I.ok.kind,I.ok.glob,I.ok.blt,I.ok.above,I.ok.inj,I.ok.has,I.ok.cab,I.ok.hd,I.ok.frames,I.ok.stk,I.ok.exf,I.ok.bs,I.ok.bsz,I.ok.noex,I.ok.exfs,I.ok.funs,I.ok.frf⟩,I.os,I.bare,I.base,I.loc,I.cell,I.free,I.freeC,λp hp=>I.pin p (Zxz _ hp),I.hok,I.len⟩
theorem Inv.caught(I:Inv X pins Z H s)(a:Addr):Inv (X.caught a) pins Z H s :=
 ⟨⟨I.ok.mod,I.ok.kind,I.ok.glob,I.ok.blt,I.ok.above,I.ok.inj,I.ok.has,I.ok.cab,(λz=>by cases z),I.ok.frames,I.ok.stk,I.ok.exf,I.ok.bs,I.ok.bsz,I.ok.noex,I.ok.exfs,I.ok.funs,I.ok.frf⟩,I.os,I.bare,I.base,I.loc,I.cell,I.free,I.freeC,I.pin,I.hok,I.len⟩
theorem Inv.uncaught(I:Inv (X.caught a) pins Z H s)(ok:X.Ok):Inv X pins Z H s:=⟨ok,I.os,I.bare,I.base,I.loc,I.cell,I.free,I.freeC,I.pin,I.hok,I.len⟩
theorem Inv.lands(I:Inv X pins Z H s)(os:s'.os=s.os)(bare:AllBare s'.gens)(F:Fl X.prog X.w (frs X.stack) H s.heap a H' B s'.heap)(hc:∃o,s'.heap.get? a=some o/\o.cls=cls):Inv X pins Z (upd H' a (Tp a cls)) s':=by
 have na:∀b u,H' b=some u->b≠a:=λb u e z=>by rw[z,F.free] at e;cases e
 refine I.call' (ch:=[]) os ⟨F.un.keep,F.un.slot,λb o e n hx=>?_,F.un.there,λb xs e=>?_,λb o u e=>?_,λb ps e=>?_⟩ (λb u e=>?_) bare (λb z=>by cases z)
 ·rw[Bd (λz=>by rw[z,F.new] at e;cases e)]
  exact F.un.free b o e n hx
 ·have q:=F.un.tups b xs e
  rw[Bd (na b _ q)]
  exact q
 ·have q:=F.un.frzs b o u e
  rw[Bd (na b _ q)]
  exact q
 ·obtain⟨more,q⟩:=F.un.tbls b ps e
  exact⟨more,by rw[Bd (na b _ q)];exact q⟩
 ·by_cases hb:b=a
  ·subst hb
   rw[A1] at e
   cases e
   obtain⟨o,ho,hcl⟩:=hc
   exact⟨⟨o,ho,hcl⟩,⟨o,ho⟩,λh1 h2 ⟨o,e,c⟩ k=>⟨o,k o e,c⟩⟩
  ·rw[Bd hb] at e
   exact(F.hok b u e).stay (λc o _ q=>q) (λc q=>by rw[Bd (na c _ q)];exact q) λc xs q=>by rw[Bd (na c _ q)];exact q
theorem M6{M:Model}{A:Around}{E:Value->Shared->Prop}{i:Nat}{n:Str}{pos:Pos}{Q:Unit->Shared->Prop}(I:Inv X pins Z H s)(nd:X.N.Nodup)(hi:X.N[i]?=some n)(hl:X.env.scope.names.lookup n=some .local)(h:∀s',Inv X pins (Z.set i none) H s'->Q () s') :
  wpAny M A (do bindName X.env n .none;unbindBehindTheSuite X.env n pos) Q E s:=by
 obtain⟨m,hn,hlk⟩:=I.loc
 refine wpAny_nameGoes_keeps (m:=m) hl hn (by rw[I.ok.kind];rfl) λh' v hn' hs=>h _ ?_
 have neL:∀b o,X.s₀.heap.get? b=some o->b≠X.env.locals:=λb o e=>Zxh (Zzd (Zzc e) I.ok.above)
 refine⟨I.ok,I.os,I.bare,⟨λb o e n hb hx=>(hs.2 b (neL b o e)).trans (I.base.keep b o e n hb hx),λb o e n hb hx=>?_,I.base.free,λb o e hx=>?_,I.base.tups,I.base.frzs,I.base.tbls⟩,⟨_,hn',λj y v' e1 e2 e3=>?_⟩,λy c e=>?_,I.free,I.freeC,λp hp=>?_,λb u e=>?_,by rw[Zw8];exact I.len⟩
 ·obtain⟨sl,q⟩:=I.base.slot b o e n hb hx
  exact⟨sl,(hs.2 b (neL b o e)).trans q⟩
 ·obtain⟨o',q⟩:=I.base.there b o e hx
  exact⟨o',(hs.2 b (neL b o e)).trans q⟩
 ·by_cases hj:j=i
  ·subst hj
   rw[List.getElem?_set] at e2
   split at e2<;>rename_i z
   ·split at e2<;>cases e2
   ·exact absurd rfl z
  ·rw[Zxq (Zyj hj)] at e2
   obtain⟨u',r',q⟩:=hlk j y v' e1 e2 e3
   refine⟨u',r',?_⟩
   rcases q with ⟨k,e⟩ | ⟨k,c,e,z⟩
   ·refine .inl ⟨k,?_⟩
    have:y≠n:=λe=>hj (Op nd e1 (e▸hi))
    simp[this,e]
   ·exact .inr ⟨k,c,e,z.sameBut hs (I.cne y c e)⟩
 ·obtain⟨w',z⟩:=I.cell y c e
  exact⟨w',z.sameBut hs (I.cne y c e)⟩
 ·obtain⟨e,n,ne,nf,d⟩:=I.pin p hp
  exact⟨(hs.2 p.1 ne).trans e,n,ne,nf,d⟩
 ·refine(I.hok b u e).stay (λc o hc q=>?_) (λ_ q=>q) λ_ _ q=>q
  have nc:c≠X.env.locals:=λz=>by
   rcases hc with rfl | hc
   ·rw[z,I.free] at e;cases e
   ·rw[z,I.free] at hc;cases hc
  exact(hs.2 c nc).trans q
end
def Ends.lose(D:Ends)(i:Nat):Ends:={nx:=λZ H=>D.nx (Z.set i none) H,rt:=D.rt,bk:=λZ H=>D.bk (Z.set i none) H,ct:=λZ H=>D.ct (Z.set i none) H}
def Gv(i:Nat)(fits:Value->Prop)(tb:XG->TS)(ts:TS):TS:=λD Z H=>tb (λcls Z' H'=>fits cls/\∀a,H' a=none->ts (D.lose i) (Z'.set i (some (.ref a))) (upd H' a (Tp a cls))) D Z H
theorem cm{X:Cx}{body suite:List Stmt}{b₀:Stmt}{c n:Str}{cp hp pos:Pos}{i:Nat}{C0:Addr}{tb:XG->TS}{ts:TS}{fits:Value->Prop}(nd:X.N.Nodup)(hi:X.N[i]?=some n)(hl:X.env.scope.names.lookup n=some .local)(hst:X.stack=X.env::X.outer)(hfr:X.env.frame=some X.env.locals)
  (hg:Gl X c) (hm:X.mg c=some (.ref C0)) (hf:∀cls,fits cls->exmOne X.K cls (.ref C0)=some true)
  (hb:∀(pn:List (Addr×Obj)) (W:Value->Shared->Prop) (G:XG),M2 (X.tried pn W) G->PSs (X.tried pn W) body (tb G)) (hs:∀a,PSs (X.caught a) (b₀::suite) ts) (hd:(c == ("__debug__" : Str))=false:=by decide) :
  PS X (.Try body [.ExceptHandler (some (.Name c cp)) (some n) (b₀::suite) hp] [] [] pos) (Gv i fits tb ts):=by
 intro pins s Z H D I h
 refine wpAny_Try_except ?_
 refine wpAny_mono (hb (X.pn++pins) (λe s'=>∃a cls σ1 H1 s1 H' B t,e=.ref a/\Inv X pins σ1 H1 s1/\s'.os=s1.os/\AllBare s'.gens/\Fl X.prog X.w (frs X.stack) H1 s1.heap a H' B s'.heap/\Heap.FlyingW B X.stack a cls (.ref t) s'.heap /\
  fits cls/\∀a,H' a=none->ts (D.lose i) (σ1.set i (some (.ref a))) (upd H' a (Tp a cls))) _ (λps σ1 H1 s1 e s' I1 ⟨a,cls,H',B,t,he,os,bare,F,fl,q⟩=>⟨a,cls,σ1,H1,s1,H',B,t,he,I1.untried,os,bare,F,fl,q⟩) [] s Z H D (I.tried _) h) (λf s1 q=>?_) (λe s' q=>?_)
 ·cases f with
  |next=>obtain⟨Z',H',I',q⟩:=q;exact wpAny_pure ⟨Z',H',I'.untried,q⟩
  |brk=>obtain⟨Z',H',I',q⟩:=q;exact⟨Z',H',I'.untried,q⟩
  |cont=>obtain⟨Z',H',I',q⟩:=q;exact⟨Z',H',I'.untried,q⟩
  |ret u=>obtain⟨v,Z',H',I',r,q⟩:=q;exact⟨v,Z',H',I'.untried,r,q⟩
 ·obtain⟨a,cls,σ1,H1,s1,H',B,t,rfl,I1,os,bare,F,fl,hf1,hq⟩:=q
  have fl':=fl
  rw[hst] at fl'
  refine wpAny_looks_onW (outer:=X.outer) (by rw[I.ok.frames,hst]) hfr fl' λh4 held up4=>?_
  refine wpAny_landsW held λh5 fl5 up5=>?_
  have F5:=(F.on held.1 up4).on fl5.1 up5
  have I5:Inv X pins σ1 H' {s' with heap:=h5}:=I1.call' (ch:=[]) os F5.un F5.hok bare (λb z=>by cases z)
  refine wpAny_handleBy_cons (codeAny_handlers_test ?_) (by intro z;cases z)
  refine Mw (X:=X.caught a) (I5.caught a) hg hm ?_ hd
  obtain⟨oe,hoe,hoc⟩:=fl5.there
  have LT:Looks (model X.prog X.w) h5 (typeOf (.ref a)) cls:=hoc▸(Looks.ld hoe).andThen .now
  refine(exm_one I5.kIn LT (hf cls hf1)).here ?_
  refine codeAny_handlers_suite_as ?_
  refine lands_againW fl5 λh6 fl6 up6=>?_
  have F6:=F5.on fl6.1 up6
  have I6:Inv X pins σ1 (upd H' a (Tp a cls)) {s' with heap:=h6}:=I1.lands os bare F6 fl6.there
  refine O7 (X:=X.caught a) (I6.caught a) nd hi (.inl hl) (v:=.ref a) rfl (λs7 I7=>?_) (.inr hl)
  refine wpAny_mono (hs a pins s7 _ _ (D.lose i) I7 (hq a F.free)) (λf s8 q8=>?_) (λe s8 z=>z.elim)
  cases f with
  |next=>obtain⟨Z',H2,I',q⟩:=q8;exact M6 (I'.uncaught I.ok) nd hi hl λs9 I9=>⟨_,H2,I9,q⟩
  |brk=>obtain⟨Z',H2,I',q⟩:=q8;exact M6 (I'.uncaught I.ok) nd hi hl λs9 I9=>⟨_,H2,I9,q⟩
  |cont=>obtain⟨Z',H2,I',q⟩:=q8;exact M6 (I'.uncaught I.ok) nd hi hl λs9 I9=>⟨_,H2,I9,q⟩
  |ret u=>obtain⟨v,Z',H2,I',r,q⟩:=q8;exact M6 (I'.uncaught I.ok) nd hi hl λs9 I9=>⟨v,_,H2,I9,r,q⟩
def Sb:List Value:=[.type "ValueError",.type "Exception",.type "BaseException",.type "object"]
def Us(K:Frag)(C:Addr):Bool:=excIn K C Sb "ValueError.__new__"
theorem Wo{K:Frag}{h:Heap}{C:Addr}(Y:K.In h)(z:Us K C=true) :
  ∃bm N nm q bs hdct sn sub ab col dd k0 k1 k2 k3 k5 mN,h.get? C=some (excClassObj nm q C N bs bm hdct sn sub ab col dd k0 k1 k2 k3 k5 "ValueError.__new__")/\h.Ns N mN/\mN "__init__" = none/\OwnTail h Sb bm:=by
 unfold Us excIn at z
 split at z
 ·rename_i d1 c1 l1 lk
  split at z
  ·rename_i C2 b2 a0 a1 a2 a3 nn a5 em es
   obtain⟨z,z6⟩:=Zxy.mp z
   obtain⟨z,z5⟩:=Zxy.mp z
   obtain⟨z,z4⟩:=Zxy.mp z
   obtain⟨z,z3⟩:=Zxy.mp z
   obtain⟨z1,z2⟩:=Zxy.mp z
   have e1:=beq_iff_eq.mp z1
   have e2:=beq_iff_eq.mp z2
   have e6:=beq_iff_eq.mp z6
   subst e1 e2
   cases c1 with
   |mk nm1 bs1 mro1 ns1 qn1 hd1 sn1 sub1 ab1 col1 del1 =>
   have e3:del1=false:=by simpa using z3
   have em:mro1=_:=em
   subst e3 em
   have el:l1=#[a0,a1,a2,a3,some (.builtin "ValueError.__new__"),a5]:=by
    cases l1 with
    |mk l=>exact congrArg Array.mk es
   subst el
   exact⟨b2,ns1,nm1,qn1,bs1,hd1,sn1,sub1,ab1,col1,d1,a0,a1,a2,a3,a5,_,Y _ _ lk,.of_isNs (isNs_of_in Y z5),nsMap_none_of_in Y z5 e6,tail_of_in Y z4⟩
  ·cases z
 ·cases z
def Co(C:Addr)(G:XG)(te:TA):TS:=λD Z H=>te Z H λvs H1=>vs.length<=sizeLine/\G (.ref C) Z H1
theorem Lr{X:Cx}{x:Str}{C:Addr}{G:XG}{e:Expr}{ta:TA}{np cpos pos:Pos}(hm:Ys X G)(hc:X.calm=true)(hg:Gl X x)(hmg:X.mg x=some (.ref C))(q:Us X.K C=true)(ha:PA X [e] ta)(hn:Gc [e]=true:=by rfl)(hd:(x == ("__debug__" : Str))=false:=by decide) :
  PS X (.Raise (some (.Call (.Name x np) [e] [] cpos)) none pos) (Co C G ta):=by
 intro pins s Z H D I h
 obtain⟨bm,N,nm,qn,bs,hdct,sn,sub,ab,col,dd,k0,k1,k2,k3,k5,mN,hC,hN,hni,T⟩:=Wo I.ok.mod.kin q
 refine wpAny_Raise_call_subT (C:=C) (nm:=nm) (q:=qn) (N:=N) (bs:=bs) (bm:=bm) (hdct:=hdct) (sn:=sn) (sub:=sub) (ab:=ab) (col:=col) (dd:=dd) (k0:=k0) (k1:=k1) (k2:=k2) (k3:=k3) (k5:=k5) F.excBase_ValueError (mN:=mN) (T.hasType F.excBase_ValueError.hasBase) (I.ok.hd hc) (by rw[Db hn];exact Ih rfl) hni ?_
 refine Mw I hg hmg ⟨rfl,?_⟩ hd
 rw[Db hn]
 have h1:=ha cpos pins s Z H _ I h
 rw[Db hn] at h1
 exact Zvj (wpAny_mono h1 (λus s2 z0=>by obtain⟨vs,H1,I1,r,hv,hG⟩:=z0;exact ⟨rfl,by rw[<- r.length];exact hv,I1.bk _ _ hC,hN.keeps I1.bk,T.keeps I1.bk,λh' e' hx=>hm pins Z H1 s2 h' e' (.ref C) us I1 hx hG⟩) λ_ _ y=>y)
abbrev TF:=Nat->St->Hp->(Hp->Prop)->Prop
def Ea:TF:=λn _ H K=>n<=1000000/\K H
def Eb(k:Nat)(t:TF):TF:=λn Z H K=>n+k<=1000000/\t (n+k) Z H K
def E8(te:TE)(t:TF):TF:=λn Z H K=>te Z H λv H1=>∃y,v=.str y/\n+y.length<=1000000/\t (n+y.length) Z H1 K
def E9(te:TE)(t:TF):TF:=λn Z H K=>te Z H λv H1=>∃y,v=.str y/\(∀c∈y.cps.toList,c<0x110000)/\n+(10*y.length+2)<=1000000/\t (n+(10*y.length+2)) Z H1 K
section
variable {X:Cx}{e:Expr}{es:List Expr}{te:TE}{t:TF}{x:Str}{j:Nat}{p q:Pos}
theorem O2{n:Nat}(h:n<=1000000):n<=sizeLine:=Zyu h (by decide)
def Hh(t:TF):TE:=λZ H Q=>t 0 Z H λH'=>∀z:Str,Q (.str z) H'
end
end L2
set_option maxHeartbeats 1000000
namespace L2
open PySem PySem.Spec PySem.Calls PyProof.Rows PySem.W Builtin Builtin.ObjectAttr Builtin.Getset_descriptor
structure Mf(K:Frag)(D:Addr):Prop where
 ga:findIn K (.ref D) "__getattribute__" = some (some (.builtin "BaseException.__getattribute__"))
 gt:findIn K (.ref D) "__getattr__" = some none
 cl:findIn K (.ref D) "__class__" = some (some (.builtin "object.__class__"))
 gs:specialIn K (.builtin "object.__class__") "__get__" = some (some (.builtin "getset_descriptor.__get__"))
 tk:takesIn K (.builtin "object.__class__")=some true
 ob:mroIn K D (.type "object")=some true
 be:mroIn K D (.type "BaseException")=some true
 is:(clsIn K D).isSome=true
def P7(x D:Addr)(h:Heap):Prop:=∃o,h.get? x=some o/\o.cls=.ref D
theorem Ly{M:Model}{h:Heap}{x D:Addr}(p:P7 x D h):Looks M h (typeOf (.ref x)) (.ref D):=by
 obtain⟨o,h1,h2⟩:=p
 exact h2▸(Looks.ld h1).andThen .now
section
variable {prog:Program}{w:World}{A:Around}{E:Value->Shared->Prop}{s:Shared}{K:Frag}{x D:Addr}
theorem ae{R:Result->Shared->Prop}{tp:Value}(Y:K.In s.heap)(p:P7 x D s.heap)(k:Mf K D)(h:R (.ok (.ret (.ref D))) s):codeAny (model prog w) A (.call (.builtin "getset_descriptor.__get__") ⟨[.builtin "object.__class__",.ref x,tp],[]⟩) R s:=by
 obtain⟨h0,g,dr,t,os⟩:=s
 have T0:=Ly (M:=model prog w) p
 have T1:=looks_mroIn (M:=model prog w) Y k.ob
 refine codeAny_call_builtin KF.slot_gs.plain KF.entry_gs
  (KF.slot_gs.check _ _ _ _ _ _ _ _ KF.type_class (KF.args_gs _ _ _) ?_)
 unfold Builtin.«getset_descriptor.__get__» descrGet;rw[dga_obj]
 refine wpAny_bind (wpAny_pure ?_);unfold descrGetter descrCheckInstance descrNameAndClass isInstance
 simp only[KF.owner_class];repeat lk
 refine And.intro (Code.quiet_builtin _ (by decide +kernel)) (codeAny_builtin KF.entry_class ?_)
 unfold Builtin.«object.__class__» shownTypeOf;repeat lk
 exact h
theorem Wp{tk:Tok}{Q:Fin->Shared->Prop}(Y:K.In s.heap)(p:P7 x D s.heap)(k:Mf K D)(h:Q (.done (.ret (.ref D))) s):wpAny (model prog w) A (Builtin.«object.__getattribute__» ⟨[.ref x,.str "__class__" tk],[]⟩) Q E s:=by
 obtain⟨h0,g,dr,t,os⟩:=s
 have T0:=Ly (M:=model prog w) p
 have T1:=looks_findIn (M:=model prog w) Y k.cl
 have T2:=looks_specialIn (M:=model prog w) Y k.gs
 have T3:=looks_takesIn (M:=model prog w) Y k.tk
 have TF:Looks (model prog w) h0 (find (.ref x) (.ref D) "__class__") (.bind (.builtin "getset_descriptor.__get__") (.builtin "object.__class__")) :=
  T1.andThen (Looks.andThen (show Looks (model prog w) h0 (getOf (some (.builtin "object.__class__"))) (some (.builtin "getset_descriptor.__get__")) from T2) ((show Looks (model prog w) h0 (dataDescriptor? (some (.builtin "object.__class__")) (some (.builtin "getset_descriptor.__get__"))) (some (.builtin "getset_descriptor.__get__",.builtin "object.__class__")) from T3.andThen .now).andThen (Looks.tag .now)))
 refine wpAny_bind (wpAny_pure ?_)
 refine wpAny_bind (wpAny_pure (wpAny_bind (T0.at (wpAny_bind (TF.at ?_)))))
 show wpAny _ _ (holding [Value.builtin "object.__class__"] (call (.builtin "getset_descriptor.__get__") [.builtin "object.__class__",.ref x,.ref D]) >>= ret) _ _ _
 exact wpAny_bind (wpAny_holding (wpAny_call (ae (s:=⟨h0,g,dr,t,os⟩) Y p k (wpAny_pure h))))
theorem Ws{nameV:Value}{Q:Unit->Shared->Prop}(Y:K.In s.heap)(p:P7 x D s.heap)(k:Mf K D)(h:Q () s):wpAny (model prog w) A (checkBuiltinCall "BaseException.__getattribute__" ⟨[.ref x,nameV],[]⟩) Q E s:=by
 obtain⟨h0,g,dr,t,os⟩:=s
 have T0:=Ly (M:=model prog w) p
 have T1:=looks_mroIn (M:=model prog w) Y k.be
 have TI:Looks (model prog w) h0 (isInstance (.ref x) (.type "BaseException")) true:=T0.andThen T1
 have b1:builtinKind "BaseException.__getattribute__" = some .slot:=by decide +kernel
 have b2:splitId "BaseException.__getattribute__" = some ("BaseException", "__getattribute__"):=by decide +kernel
 have ar:=F.args_bexc_ga (.ref x) nameV
 simp only[checkBuiltinCall,b1,b2]
 refine wpAny_bind (TI.at ?_)
 rw[if_neg (by decide)]
 exact wpAny_of_eq ar h
theorem Wq{Q:Option Value->Shared->Prop}(Y:K.In s.heap)(p:P7 x D s.heap)(k:Mf K D)(h:Q (some (.ref D)) {s with toks:=s.toks+1}):wpAny (model prog w) A (getAttr? (.ref x) "__class__") Q E s:=by
 obtain⟨h0,g,dr,t,os⟩:=s
 have T0:=Ly (M:=model prog w) p
 have T1:=looks_findIn (M:=model prog w) Y k.ga
 have T2:=looks_findIn (M:=model prog w) Y k.gt
 unfold getAttr? getAttrBy? getAttrBy;refine wpAny_bind (wpAny_mkText (wpAny_bind (wpAny_attempt (wpAny_holding (wpAny_bind (T0.at (wpAny_bind (T1.at ?_))))))))
 show wpAny _ _ (getAttrByItsOwn _ _ _ _ _ _) _ _ _
 unfold getAttrByItsOwn
 refine wpAny_bind (show wpAny _ _ (typeLookup (.ref D) "__getattr__") _ _ _ from T2.at ?_)
 refine wpAny_bind (wpAny_attempt (wpAny_holding ?_))
 show wpAny _ _ (boundAndCalled (.builtin "BaseException.__getattribute__") (.ref x) (.str "__class__" t)) _ _ _
 unfold boundAndCalled
 rw[F.attr_ValueError.ga.bind (.ref x)]
 refine wpAny_bind (wpAny_pure (wpAny_call (codeAny_call_builtin F.attr_ValueError.ga.plain F.entry_bexc_ga (Ws Y p k (Wp Y p k ?_)))))
 exact wpAny_pure (wpAny_pure h)
theorem Nc(k:Mf K D):KitX K (.ref x) (.ref D) (P7 x D) where
 ty:=λ_ _ _ p=>Ly p
 it:=λM h Y _=>by
  obtain⟨cd,hc⟩:=Zw5.mp k.is
  unfold clsIn at hc
  split at hc
  ·rename_i ho
   exact λA' Q' E' s' kk q=>wpAny_bind (wpAny_loadPart (kk _ _ (Y _ _ ho)) (wpAny_pure q))
  ·cases hc
 ne:=λh tp dd its n sl Y htp=>by
  obtain⟨cd,hc⟩:=Zw5.mp k.is
  refine Zy0.mpr λq=>?_
  obtain rfl:D=tp:=Value.ref.inj (beq_iff_eq.mp q)
  unfold clsIn at hc
  split at hc
  ·rename_i ho
   have z:=(Y _ _ ho).symm.trans htp
   cases z
  ·cases hc
 ca:=λY p h=>Wq Y p k h
end
def Gp(K:Frag):List V->Hp->VK->Prop:=λxs H Q=>∃(a D:Addr) (c:V) (b:Bool),xs=[.ref a,c]/\H a=some (Tp a (.ref D))/\Mf K D /\
 ((∃C:Addr,c=.ref C/\kitOne K (.ref D) (.ref C)=some b)\/(∃T:String,c=.ty T/\kitOne K (.ref D) (.type T)=some b)\/∃(tp:Addr) (Cs:List Addr),c=.ref tp/\H tp=some (.tup (Cs.map V.ref))/\kitAny K (.ref D) (Cs.map Value.ref)=some b)/\Q (.bl b) H
theorem Ps:∀{Cs:List Addr} {us:List Value},Vals (Cs.map V.ref) us->us=Cs.map Value.ref
 |[],_,.nil=>rfl
 |C::Cs,_,.cons r t=>by
  have e:_=Value.ref C:=r
  rw[e,Ps t]
  rfl
theorem Yo{X:Cx}:CallR X (.builtin "isinstance") (Gp X.K):=by
 intro pins s Z H xs us Q I r h
 obtain⟨a,D,c,b,rfl,ha,k,hc,q⟩:=h
 obtain⟨u,v,rfl,ru,rv⟩:=X7 r
 have ru:u=Value.ref a:=ru
 subst ru
 have p:P7 a D s.heap:=(I.hok a _ ha).1
 have ne:(Value.ref a)≠.builtin "__main__.__loader__#opaque" := λz=>by cases z
 rcases hc with ⟨C,rfl,e⟩ | ⟨T,rfl,e⟩ | ⟨tp,Cs,rfl,ht,e⟩
 ·have rv:v=Value.ref C:=rv
  subst rv
  exact kia_one (Nc k) I.kIn p e ne λtk=>⟨.bl b,H,I.tok tk,rfl,q⟩
 ·have rv:v=Value.type T:=rv
  subst rv
  exact kia_one (Nc k) I.kIn p e ne λtk=>⟨.bl b,H,I.tok tk,rfl,q⟩
 ·have rv:v=Value.ref tp:=rv
  subst rv
  obtain⟨its,rt,pt,_⟩:=I.tuple (SqT.of ht)
  have ei:=Ps rt
  subst ei
  obtain⟨⟨c2,dd,data,sl⟩,ho,hcl,n,hd⟩:=id (show s.heap.IsTuple tp (Cs.map Value.ref).toArray from pt)
  simp only at hcl hd
  subst hcl hd
  exact kia_tup (Nc k) I.kIn p ho e ne λtk=>⟨.bl b,H,I.tok tk,rfl,q⟩
end L2
namespace L2
open PySem PySem.Spec PyProof.Rows PySem.W
section
variable {X:Cx}
theorem fk:M2 X (λ_ _ _=>False):=λ_ _ _ _ _ _ _ h=>by
 obtain⟨_,_,_,_,_,_,_,_,_,_,z⟩:=h
 exact z.elim
theorem M9{K0:Frag}(h:X.K=K0):CallR X (.builtin "isinstance") (Gp K0):=by
 subst h
 exact Yo
theorem Pp:bootBuiltins "ValueError" = some (.type "ValueError"):=by decide +kernel
def rStrI:List V->Hp->VK->Prop:=λxs H Q=>∃i:Int,xs=[.int i]/\i.natAbs<10^500/\Q (.str (Str.ofString (toString i))) H
theorem d7{n:Nat}(h:n<10^500):n.log2<1920:=by
 by_cases z:n=0
 ·subst z
  decide
 ·rw[Nat.log2_lt z]
  exact Zzd h (by decide +kernel)
theorem Fv:CallR X (.type "str") rStrI:=by
 intro pins s Z H xs us Q I r h
 obtain⟨i,rfl,hi,q⟩:=h
 obtain⟨u,rfl,t,rfl⟩:=Ll r
 exact P.str_of_int (d7 hi) ⟨.str _,H,I.tok _,⟨_,rfl⟩,q⟩
def rIntT:List V->Hp->VK->Prop:=λxs H Q=>∃(x:Str) (n:Int),xs=[.str x]/\Zwg x=some n/\x.length<=640/\Q (.int n) H
theorem X1:CallR X (.type "int") rIntT:=by
 intro pins s Z H xs us Q I r h
 obtain⟨x,n,rfl,hn,hl,q⟩:=h
 obtain⟨u,rfl,t,rfl⟩:=Ll r
 exact KIN.call_text hn hl ⟨.int _,H,I.tok _,⟨_,rfl⟩,q⟩
def Eg:R2:=λx y H Q=>∃(z:Str) (n:Int),x=.str z/\y=.int n/\z.length<=1000/\0<=n/\n<=1000/\∀z':Str,z'.length<=z.length*n.toNat+z.length->Q (.str z') H
theorem Ob(c:Array Nat):∀(n:Nat) (acc:Array Nat),((Zx9 n c).foldl (·++·) acc).size=acc.size+n*c.size
 |0,acc=>by simp
 |n+1,acc=>by
  rw[Zzg,List.foldl_cons,Ob c n,Array.size_append,Nat.succ_mul]
  omega
end
end L2
namespace L2
open PySem PySem.Spec PyProof.Rows PySem.W NP
section
variable {prog:Program}{w:World}{A:Around}{E:Value->Shared->Prop}{s:Shared}{I S f:Addr}{fp wr:List Addr}{n:Nat}{P:Nat->Value->Prop}{St:Nat->Heap->Prop}{R:Result->Shared->Prop}
end
section
variable {prog:Program}{w:World}{A:Around}{s:Shared}
end
section
variable {X:Cx}
end
section
variable {X:Cx}
end
end L2
namespace L2
open PySem PySem.Spec PyProof.Rows
end L2
namespace NP
open PySem L2
end NP
namespace L2
open PySem PySem.Spec PyProof.Rows PySem.W
end L2
namespace NP
open PySem L2
end NP
set_option maxHeartbeats 4000000
namespace L2
open PySem PySem.Spec PyProof.Rows
def rJoin:V->List V->Hp->VK->Prop:=λx vs H Q=>∃(sep:Str) (l:Addr) (xs:List Str) (B:Nat),x=.str sep/\vs=[.ref l]/\H l=some (.lst (xs.map V.str))/\(∀y∈xs,y.length<=B)/\xs.length*B+xs.length*sep.length<=16777216/\Q (.str (Str.join sep xs)) H
theorem L4{sep:Str}{B:Nat}{xs:List Str}(h:∀y∈xs,y.length<=B):(Str.join sep xs).length<=xs.length*B+xs.length*sep.length:=by
 rw[<- Zvl,size_glued]
 have h1:=StrLaws.sumLen_le xs h
 have h2:(xs.length - 1)*sep.length<=xs.length*sep.length:=Nat.mul_le_mul_right _ (Nat.sub_le _ _)
 omega
theorem O4:∀{xs:List Str} {us:List Value},Vals (xs.map V.str) us->∃l:List (Str×Tok),strValues l=us/\l.map (·.1)=xs
 |[],_,.nil=>⟨[],rfl,rfl⟩
 |x::xs,u::us,.cons r t=>by
  obtain⟨l,h1,h2⟩:=O4 t
  obtain⟨tk,rfl⟩:=r
  exact⟨(x,tk)::l,by rw[<- h1];rfl,by rw[<- h2];rfl⟩
theorem Dm{X:Cx}:MtM X "str.join" rJoin:=by
 intro pins s Z H x vs v us Q I rx hv h
 obtain⟨sep,l,xs,B,rfl,rfl,hH,hB,hz,q⟩:=h
 obtain⟨tk,rfl⟩:=rx
 obtain⟨u,rfl,ru⟩:=hv.one
 cases ru
 obtain⟨z,its,n,r,hlx,e⟩:=I.lstM hH
 obtain⟨ps,rfl,hps⟩:=O4 r
 refine call_meets F.slot_str_join (typeIs_str s sep tk) F.entry_str_join (F.args_str_join_2 _ _) (meets_str_join_list sep tk l ps (by rw[hps];exact StrLaws.joinFits hB hz)) ⟨⟨_,e,rfl,n,rfl⟩,?_⟩
 have fin:∀t,(EP X pins Z Q) (.str (Str.join sep xs) t) s:=λt=>⟨.str (Str.join sep xs),H,I,⟨t,rfl⟩,q⟩
 have fin2:∀t t',(EP X pins Z Q) (.str (Str.join sep xs) t) {s with toks:=t'}:=λt t'=>⟨.str (Str.join sep xs),H,I.tok _,⟨t,rfl⟩,q⟩
 have hjl:(Builtin.Str.glued sep xs).length<=sizeLine:=by
  rw[Zvl,sizeLine_eq]
  exact Zyu (L4 hB) hz
 subst hps
 match ps with
 |[]=>exact⟨hjl,fin2 _ _⟩
 |[p]=>exact fin p.2
 |p::p2::r2 =>
  have e2:=Zvl sep ((p::p2::r2).map (·.1))
  have f3:=fin2 s.toks (s.toks+1)
  rw[<- e2] at f3
  exact⟨hjl,f3⟩
section
variable {prog:Program}{w:World}{A:Around}{I:Addr}{fp wr:List Addr}{G:Array GenState->Array GenState->Prop}{St:Nat->Shared->Prop}
end
section
variable {prog:Program}{w:World}{A:Around}{s:Shared}{E:Value->Shared->Prop}
end
section
variable {X:Cx}
end
end L2
namespace L2
open PySem PySem.Spec PyProof.Rows PySem.W
section
variable {X:Cx}
theorem R7(c:Array Nat):∀(n:Nat) (acc:Array Nat) (x:Nat),x∈((Zx9 n c).foldl (·++·) acc).toList->x∈acc.toList\/x∈c.toList
 |0,acc,x,h=>.inl h
 |n+1,acc,x,h=>by
  rw[Zzg,List.foldl_cons] at h
  rcases R7 c n (acc++c) x h with z | z
  ·rw[Array.toList_append] at z
   exact Zyq.mp z
  ·exact .inr z
end
end L2
namespace L2
open PySem PySem.Spec PyProof.Rows
section
variable {X:Cx}
end
section
variable {X:Cx}
def El:R2:=λx y H Q=>∃l b xs zs,x=.ref l/\y=.ref b/\H l=some (.lst xs)/\H b=some (.lst zs)/\xs.length+zs.length<=sizeLine/\Q (.ref l) (upd H l (.lst (xs++zs)))
end
end L2
namespace L2
open PySem PySem.Spec PyProof.Rows Builtin Builtin.Str
def one(c:Nat):Str:=⟨#[c]⟩
theorem Rr(x:Str)(c lim:Nat):∀(l:List Nat) (st:Array Nat×Nat),(∀i∈l,st.2<=i)->l.Pairwise (·<·)->st.1.size+l.length<=lim ->
  (forIn l st (StrLaws.occBody x (one c) x.length lim)).run.1.toList=st.1.toList++l.filter λi=>decide (x.cps.toList[i]?=some c)
 |[],st,_,_,_=>by simp
 |a::r,st,h1,h2,h3=>by
  rw[Zvk]
  unfold StrLaws.occBody
  have hr:=Zvc.mp h2
  rw[Zzy] at h3
  have iff:=StrLaws.subAt_one x c a
  by_cases hc:x.cps.toList[a]?=some c
  ·obtain⟨g1,g2⟩:=iff.mpr hc
   rw[if_pos ⟨⟨⟨by omega,h1 a Zzs⟩,g1⟩,g2⟩,Zvp,if_pos (decide_eq_true hc)]
   have:=Rr x c lim r (st.1.push a,a+(one c).length) (λi hi=>hr.1 i hi) hr.2 (by simp;omega)
   refine this.trans ?_
   simp
  ·rw[if_neg (λz=>hc (iff.mp ⟨z.1.2,z.2⟩)),Zvp,if_neg (by simpa using hc)]
   exact Rr x c lim r st (λi hi=>h1 i (Zzi _ hi)) hr.2 (by omega)
theorem Xs(x:Str)(c:Nat):occurrences x (one c) 0 x.length (x.length+1)=(List.range' 0 (x.length+1)).filter λi=>decide (x.cps.toList[i]?=some c):=by
 rw[StrLaws.occ_eq]
 have:=Rr x c (x.length+1) (List.range' 0 (x.length+1 - 0)) (#[],0) (λ_ _=>Zwt _) List.pairwise_lt_range' (by simp)
 rw[this]
 rfl
theorem Sv(x:Str)(c:Nat):∀(cuts:List Nat) (a:Nat),(∀i,a<=i->x.cps.toList[i]?=some c->i∈cuts)->(∀i∈cuts,a<=i)->cuts.Pairwise (·<·)->∀p∈StrLaws.partsFrom x 1 a cuts,c∉p.cps.toList
 |[],a,h,_,_,p,hp=>by
  have hp:p∈[strSub x a x.length]:=hp
  rw[Zzk.mp hp,StrLaws.strSub_toList]
  intro z
  obtain⟨i,hi⟩:=Zvi (Zxf z)
  rw[Zvd] at hi
  cases h (a+i) (by omega) hi
 |k::r,a,h,h0,hs,p,hp=>by
  have hp:p∈strSub x a k::StrLaws.partsFrom x 1 (k+1) r:=hp
  have hr:=Zvc.mp hs
  rcases Zzw.mp hp with rfl | hp
  ·rw[StrLaws.strSub_toList]
   intro z
   obtain⟨i,hi⟩:=Zvi z
   have hl:=(Zy1.mp hi).1
   rw[Zyg] at hl
   rw[List.getElem?_take_of_lt (by omega),Zvd] at hi
   rcases Zzw.mp (h (a+i) (by omega) hi) with e | e
   ·omega
   ·have:=hr.1 _ e
    omega
  ·have hk:=h0 k Zzs
   refine Sv x c r (k+1) (λi hi he=>?_) (λi hi=>hr.1 i hi) hr.2 p hp
   rcases Zzw.mp (h i (by omega) he) with e | e
   ·omega
   ·exact e
theorem Xe(x:Str)(c:Nat)(hc:c<256):∀p∈Txt.split x (one c),c∉p.cps.toList:=λp hp=>by
 have hs:(List.range' 0 (x.length+1)).Pairwise (·<·):=List.pairwise_lt_range'
 have all:∀i,x.cps.toList[i]?=some c->i∈occurrences x (one c) 0 x.length (x.length+1):=λi hi=>by
  rw[Xs]
  have:=(Zy1.mp hi).1
  have hl:x.cps.toList.length=x.length:=by show x.cps.toList.length=x.cps.size;simp
  refine Zxl.mpr ⟨?_,decide_eq_true hi⟩
  rw[List.mem_range']
  exact⟨i,by omega,by omega⟩
 unfold Txt.split at hp
 split at hp
 ·rename_i h1
  rw[Zzk.mp hp]
  have l1:(one c).length=1:=rfl
  have k1:Zx3 (one c)=1:=by
   unfold Zx3 one
   rw[if_pos (by simpa using hc)]
  have k2:1<=Zx3 x:=by unfold Zx3;split<;>(try split)<;>decide
  have:x.length=0:=by
   rcases Bool.or_eq_true_iff.mp h1 with z | z
   ·have:=of_decide_eq_true z;omega
   ·have:=of_decide_eq_true z;omega
  intro z
  have hl:x.cps.toList.length=0:=by rw[<- this];show x.cps.toList.length=x.cps.size;simp
  rw[List.eq_nil_of_length_eq_zero hl] at z
  cases z
 ·split at hp
  ·rename_i h2
   rw[Zzk.mp hp]
   intro z
   obtain⟨i,hi⟩:=Zvi z
   have:=all i hi
   rw[List.isEmpty_iff.mp h2] at this
   cases this
  ·rw[StrLaws.partsBetween_eq] at hp
   refine Sv x c _ 0 (λi _ hi=>all i hi) (λ_ _=>Zwt _) ?_ p hp
   rw[Xs]
   exact hs.filter _
theorem Qf{c:Nat}:∀{w w' X X':List Nat},c∉w->c∉w'->w++c::X=w'++c::X'->w=w'/\X=X'
 |[],[],X,X',_,_,h=>by simpa using h
 |[],b::w',X,X',_,h2,h=>by
  have:c=b:=by simpa using (Zwe h).1
  exact absurd (by rw[this];exact Zzs) h2
 |a::w,[],X,X',h1,_,h=>by
  have:a=c:=by simpa using (Zwe h).1
  exact absurd (by rw[this];exact Zzs) h1
 |a::w,b::w',X,X',h1,h2,h=>by
  have h:=Zwe h
  obtain⟨e1,e2⟩:=Qf (λz=>h1 (Zzi _ z)) (λz=>h2 (Zzi _ z)) h.2
  exact⟨by rw[h.1,e1],e2⟩
theorem Kj(c:Nat)(w v:Str)(r:List Str):(Str.join (one c) (w::v::r)).cps.toList=w.cps.toList++c::(Str.join (one c) (v::r)).cps.toList:=by
 show (w++one c++Str.join (one c) (v::r)).cps.toList=_
 rw[Str.cps_append,Str.cps_append]
 simp[one]
theorem V8{a b:Str}(h:a.cps.toList=b.cps.toList):a=b:=Str.ext' (Array.toList_inj.mp h)
theorem Tk{c:Nat}:∀{ws us:List Str},ws≠[]->us≠[]->(∀w∈ws,c∉w.cps.toList)->(∀w∈us,c∉w.cps.toList)->Str.join (one c) ws=Str.join (one c) us->ws=us
 |[],_,h,_,_,_,_=>absurd rfl h
 |_::_,[],_,h,_,_,_=>absurd rfl h
 |[w],[u],_,_,_,_,h=>by rw[show w=u from h]
 |[w],u::u2::r,_,_,h1,_,h=>by
  have e:=congrArg (λz:Str=>z.cps.toList) h
  have e:w.cps.toList=(Str.join (one c) (u::u2::r)).cps.toList:=e
  rw[Kj] at e
  exact absurd (by rw[e];simp) (h1 w Zzs)
 |w::w2::r,[u],_,_,_,h2,h=>by
  have e:=congrArg (λz:Str=>z.cps.toList) h
  have e:(Str.join (one c) (w::w2::r)).cps.toList=u.cps.toList:=e
  rw[Kj] at e
  exact absurd (by rw[<- e];simp) (h2 u Zzs)
 |w::w2::r,u::u2::r2,_,_,h1,h2,h=>by
  have e:=congrArg (λz:Str=>z.cps.toList) h
  have e:(Str.join (one c) (w::w2::r)).cps.toList=(Str.join (one c) (u::u2::r2)).cps.toList:=e
  rw[Kj,Kj] at e
  obtain⟨e1,e2⟩:=Qf (h1 w Zzs) (h2 u Zzs) e
  have:=Tk (ws:=w2::r) (us:=u2::r2) (by simp) (by simp) (λx hx=>h1 x (Zzi _ hx)) (λx hx=>h2 x (Zzi _ hx)) (V8 e2)
  rw[V8 e1,this]
theorem L8{c:Nat}{ws:List Str}(hc:c<256)(h:ws≠[])(hn:∀w∈ws,c∉w.cps.toList):Txt.split (Str.join (one c) ws) (one c)=ws:=by
 refine Tk (c:=c) (λz=>?_) h (Xe _ _ hc) hn (StrLaws.join_split _ _)
 have:=split_pos (Str.join (one c) ws) (one c)
 rw[z] at this
 exact absurd this (by decide)
def rSplit:V->List V->Hp->VK->Prop:=λx vs H Q=>∃(y:Str) (c:Nat),x=.str y/\vs=[.str (one c)]/\y.length<=1000000/\∀p,H p=none->Q (.ref p) (upd H p (.lst ((Txt.split y (one c)).map V.str)))
theorem Pw:∀(l:List Str) (k:Nat),Vals (l.map V.str) (strsFrom k l)
 |[],_=>.nil
 |x::r,k=>.cons ⟨_,rfl⟩ (Pw r (k+1))
theorem Ot{X:Cx}:MtM X "str.split" rSplit:=by
 intro pins s Z H x vs v us Q I rx rv h
 obtain⟨y,c,rfl,rfl,hy,q⟩:=h
 obtain⟨t,rfl⟩:=rx
 obtain⟨u,rfl,ru⟩:=rv.one
 obtain⟨t2,rfl⟩:=ru
 have hz:y.length<=sizeLine:=Zyu hy (by decide)
 have hf:H s.heap.objs.size=none:=I.hok.fresh (Zzt _)
 have hl:=split_le y (one c)
 have hl2:(1000002:Nat)<=sizeLine:=by decide
 have fin:∀(its:List Value) (t':Nat),Vals ((Txt.split y (one c)).map V.str) its->(EP X pins Z Q) (.ref s.heap.objs.size) {s with heap:=s.heap.push {cls:=.type "list",data:=.seq its.toArray},toks:=t'}:=λits t' r=>⟨.ref s.heap.objs.size,_,I.laid (t':=t') (λb o e=>Zzj _ e) (Zzt _) (show ObjOk X.prog X.w _ _ _ (.lst ((Txt.split y (one c)).map V.str)) from ⟨by rw[Zzz];omega,its,0,r,Zyn _ rfl⟩),rfl,q _ hf⟩
 have one1:Txt.split y (one c)=[y]->Vals ((Txt.split y (one c)).map V.str) [Value.str y t]:=λe=>by rw[e];exact .cons ⟨_,rfl⟩ .nil
 cases h1:(decide (y.length<(one c).length)||decide (Zx3 y<Zx3 (one c))) with
 |true =>
  have e:Txt.split y (one c)=[y]:=by unfold Txt.split;exact if_pos h1
  exact call_meets F.slot_str_split (typeIs_str s y t) F.entry_str_split (F.args_str_split_2 _ _) (meets_str_split_cannot_occur y (one c) t t2 h1) (fin _ s.toks (one1 e))
 |false =>
  cases h2:(occurrences y (one c) 0 y.length (y.length+1)).isEmpty with
  |true =>
   have e:Txt.split y (one c)=[y]:=by unfold Txt.split;rw[if_neg (by rw[h1];decide)];exact if_pos h2
   exact call_meets F.slot_str_split (typeIs_str s y t) F.entry_str_split (F.args_str_split_2 _ _) (meets_str_split_not_found y (one c) t t2 h1 rfl h2) (fin _ s.toks (one1 e))
  |false =>
   have e:Txt.split y (one c)=partsBetween y (occurrences y (one c) 0 y.length (y.length+1)) (one c).length:=by unfold Txt.split;rw[if_neg (by rw[h1];decide)];exact if_neg (by rw[h2];decide)
   have r:=Pw (Txt.split y (one c)) s.toks
   rw[e] at r
   refine call_meets F.slot_str_split (typeIs_str s y t) F.entry_str_split (F.args_str_split_2 _ _) (meets_str_split_sep y (one c) t t2 h1 rfl h2 hz (by rw[<- e];omega)) ?_
   exact fin _ _ (by rw[e];exact r)
end L2
namespace L2
open PySem PySem.Spec PyProof.Rows
def P6(P:Program)(w:World)(A:Around)(h:Heap)(ex:List Addr)(it:Addr)(x:Value)(Pt:Heap->Prop):Prop:=∀(t:Shared) (Q:Value->Shared->Prop) (E:Value->Shared->Prop),(∀c o,c∉ex->h.get? c=some o->t.heap.get? c=some o)->(∀h',Pt h'->Zx1 it t.heap h'->Q x {t with heap:=h'})->wpAny (model P w) A (Zxv (.ref it)) Q E t
def Np(P:Program)(w:World)(A:Around)(h:Heap)(ex:List Addr)(it:Addr):Prop:=∀(t:Shared) (Q:Value->Shared->Prop) (E:Value->Shared->Prop),(∀c o,c∉ex->h.get? c=some o->t.heap.get? c=some o)->(∀h' e,Heap.ExtBut it t.heap h'->(∃o,h'.get? e=some o/\o.cls=.type "StopIteration")->E (.ref e) {t with heap:=h'})->wpAny (model P w) A (Zxv (.ref it)) Q E t
section
variable {P:Program}{w:World}{A:Around}{E:Value->Shared->Prop}{s:Shared}{z TI TO i1 i2:Addr}{x y a b:Value}
theorem Vx{P1 P2:Heap->Prop}{Q:Value->Shared->Prop}(nd:[z,TI,TO,i1,i2].Nodup)(hz:IsZip s.heap z TI TO .none)(hTI:IsPair s.heap TI (.ref i1) (.ref i2))(hTO:IsPair s.heap TO a b)
  (g1:P6 P w A s.heap [z] i1 x P1) (g2:P6 P w A s.heap [z,TO,i1] i2 y P2)
  (k1:∀h h',P1 h->(∀o,h.get? i1=some o->h'.get? i1=some o)->P1 h') (k2:∀h h',P2 h->(∀o,h.get? i2=some o->h'.get? i2=some o)->P2 h')
  (hq:∀h',IsZip h' z TI TO (rawInt s.heap.objs.size)->IsPair h' TO x y->P1 h'->P2 h'->IsPair h' s.heap.objs.size x y->h'.objs.size=s.heap.objs.size+1->(∀c o,c∉[z,TO,i1,i2]->s.heap.get? c=some o->h'.get? c=some o)->Q (.ref s.heap.objs.size) {s with heap:=h'}) :
  wpAny (model P w) A (Builtin.«zip.__next__» ⟨[.ref z],[]⟩) (λfin s'=>∃v,fin=.done (.ret v)/\Q v s') E s:=by
 simp only[Zy3,Zzw,Zz8,or_false,not_or,Zvg,and_true,not_false_eq_true] at nd
 obtain⟨⟨n1,n2,n3,n4⟩,⟨n5,n6,n7⟩,⟨n8,n9⟩,n10⟩:=nd
 show wpAny _ _ (field (.ref z) 2 >>= _) _ _ _;refine wpAny_bind (wpAny_field hz rfl (x:=.bool false) rfl ?_)
 show wpAny _ _ (field (.ref z) 3 >>= _) _ _ _;refine wpAny_bind (wpAny_field hz rfl (x:=.ref TI) rfl (wpAny_bind (wpAny_seqItems hTI rfl ?_)))
 show wpAny _ _ (Zxe (.ref z) >>= _) _ _ _;refine wpAny_bind ?_;unfold Zxe
 refine wpAny_bind (wpAny_field hz rfl (x:=.none) rfl (wpAny_pure ?_));simp only[if_true]
 refine wpAny_bind (wpAny_rule (wpAny_bind (wpAny_field hz rfl (x:=.ref TO) rfl (wpAny_bind (wpAny_setField_rec hz (by simp) λh₁ hz₁ hs₁=>wpAny_bind ?_)))))
 simp only[List.zipIdx_nil,List.zipIdx_cons,List.forIn_nil,Zvk]
 have e1:∀c o,c≠z->s.heap.get? c=some o->h₁.get? c=some o:=λc o n e=>hs₁.extBut _ _ n e
 refine wpAny_bind (wpAny_bind (wpAny_onRaise ?_));show wpAny _ _ (Zxv (.ref i1) >>= _) _ _ _
 refine wpAny_bind (g1 {s with heap:=h₁} _ _ (λc o n e=>e1 c o (by simpa using n) e) λh₂ p2 hs₂=>wpAny_pure ?_)
 have e2:∀c o,c≠z->c≠i1->s.heap.get? c=some o->h₂.get? c=some o:=λc o n m e=>hs₂.extBut _ _ m (e1 c o n e)
 have t2:IsPair h₂ TO a b:=e2 _ _ (Zyj n2) n8 hTO
 refine wpAny_bind (wpAny_seqItems t2 rfl (wpAny_bind (wpAny_updateSeq_pair t2 λh₃ t3 hs₃=>wpAny_bind (wpAny_letGo (wpAny_pure ?_)))))
 have t3:IsPair h₃ TO x b:=t3
 have e3:∀c o,c≠z->c≠i1->c≠TO->s.heap.get? c=some o->h₃.get? c=some o:=λc o n m k e=>hs₃.extBut _ _ k (e2 c o n m e)
 refine wpAny_bind (wpAny_bind (wpAny_onRaise ?_));show wpAny _ _ (Zxv (.ref i2) >>= _) _ _ _
 refine wpAny_bind (g2 {s with heap:=h₃} _ _ (λc o n e=>by simp only[Zzw,Zz8,or_false,not_or] at n;exact e3 c o n.1 n.2.2 n.2.1 e) λh₄ p4 hs₄=>wpAny_pure ?_)
 have t4:IsPair h₄ TO x b:=hs₄.extBut _ _ n9 t3
 refine wpAny_bind (wpAny_seqItems t4 rfl (wpAny_bind (wpAny_updateSeq_pair t4 λh₅ t5 hs₅=>wpAny_bind (wpAny_letGo (wpAny_pure (wpAny_pure ?_))))))
 have t5:IsPair h₅ TO x y:=t5
 refine wpAny_bind (wpAny_seqItems t5 rfl (wpAny_bind (wpAny_newTuple ?_)))
 have sz:h₅.objs.size=s.heap.objs.size:=by rw[hs₅.1,hs₄.1,hs₃.1,hs₂.1,hs₁.1]
 have z5:h₅.get? z=h₁.get? z:=by rw[hs₅.2 z n2,hs₄.2 z n4,hs₃.2 z n2,hs₂.2 z n3]
 have hz₅:IsZip h₅ z TI TO .ellipsis:=z5.trans hz₁
 have e5:∀c o,c∉[z,TO,i1,i2]->s.heap.get? c=some o->h₅.get? c=some o:=λc o n e=>by
  simp only[Zzw,Zz8,or_false,not_or] at n
  exact hs₅.extBut _ _ n.2.1 (hs₄.extBut _ _ n.2.2.2 (e3 c o n.1 n.2.2.1 n.2.1 e))
 have p1₅:P1 h₅:=k1 _ _ p2 λo e=>hs₅.extBut _ _ (Zyj n8) (hs₄.extBut _ _ n10 (hs₃.extBut _ _ (Zyj n8) e))
 have p2₅:P2 h₅:=k2 _ _ p4 λo e=>hs₅.extBut _ _ (Zyj n9) e
 have zl:z<h₅.objs.size:=Zzc hz₅
 show wpAny _ _ (Zw2 (.ref z) (.ref h₅.objs.size) >>= _) _ _ _;refine wpAny_bind ?_;unfold Zw2
 refine wpAny_bind (wpAny_setField_rec (Zzj _ hz₅) (by simp) λh₇ hz₇ hs₇=>wpAny_setField_rec hz₇ (by simp) λh₈ hz₈ hs₈=>?_)
 have up:∀c o,c≠z->h₅.get? c=some o->h₈.get? c=some o:=λc o n e=>hs₈.extBut _ _ n (hs₇.extBut _ _ n (Zzj _ e))
 have hz₈:IsZip h₈ z TI TO (rawInt h₅.objs.size):=hz₈
 have t8:IsPair h₈ h₅.objs.size x y:=hs₈.extBut _ _ (Nat.ne_of_gt zl) (hs₇.extBut _ _ (Nat.ne_of_gt zl) (Zyn _ rfl))
 have s8:h₈.objs.size=h₅.objs.size+1:=by rw[hs₈.1,hs₇.1,Zws]
 rw[sz] at hz₈ t8 s8
 refine wpAny_pure ⟨_,rfl,?_⟩
 show Q (.ref h₅.objs.size) _
 rw[sz]
 exact hq h₈ hz₈ (up _ _ (Zyj n2) t5) (k1 _ _ p1₅ λo e=>up _ o (Zyj n3) e) (k2 _ _ p2₅ λo e=>up _ o (Zyj n4) e) t8 s8 λc o n e=>up c o (λq=>n (by simp[q])) (e5 c o n e)
theorem X4{P1:Heap->Prop}{Q:Fin->Shared->Prop}(nd:[z,TI,TO,i1,i2].Nodup)(hz:IsZip s.heap z TI TO .none)(hTI:IsPair s.heap TI (.ref i1) (.ref i2))(hTO:IsPair s.heap TO a b)
  (g:Np P w A s.heap [z] i1\/(P6 P w A s.heap [z] i1 x P1/\Np P w A s.heap [z,TO,i1] i2))
  (hE:∀h' e,(∀c o,c∉[z,TO,i1,i2]->s.heap.get? c=some o->h'.get? c=some o)->(∃o,h'.get? e=some o/\o.cls=.type "StopIteration")->E (.ref e) {s with heap:=h'}) :
  wpAny (model P w) A (Builtin.«zip.__next__» ⟨[.ref z],[]⟩) Q E s:=by
 simp only[Zy3,Zzw,Zz8,or_false,not_or,Zvg,and_true,not_false_eq_true] at nd
 obtain⟨⟨n1,n2,n3,n4⟩,⟨n5,n6,n7⟩,⟨n8,n9⟩,n10⟩:=nd
 show wpAny _ _ (field (.ref z) 2 >>= _) _ _ _;refine wpAny_bind (wpAny_field hz rfl (x:=.bool false) rfl ?_)
 show wpAny _ _ (field (.ref z) 3 >>= _) _ _ _;refine wpAny_bind (wpAny_field hz rfl (x:=.ref TI) rfl (wpAny_bind (wpAny_seqItems hTI rfl ?_)))
 show wpAny _ _ (Zxe (.ref z) >>= _) _ _ _;refine wpAny_bind ?_;unfold Zxe
 refine wpAny_bind (wpAny_field hz rfl (x:=.none) rfl (wpAny_pure ?_));simp only[if_true]
 refine wpAny_bind (wpAny_rule (wpAny_bind (wpAny_field hz rfl (x:=.ref TO) rfl (wpAny_bind (wpAny_setField_rec hz (by simp) λh₁ hz₁ hs₁=>wpAny_bind ?_)))))
 simp only[List.zipIdx_nil,List.zipIdx_cons,List.forIn_nil,Zvk]
 have hz₁:IsZip h₁ z TI TO .ellipsis:=hz₁
 have e1:∀c o,c≠z->s.heap.get? c=some o->h₁.get? c=some o:=λc o n e=>hs₁.extBut _ _ n e
 refine wpAny_bind (wpAny_bind (wpAny_onRaise ?_));show wpAny _ _ (Zxv (.ref i1) >>= _) _ _ _
 have out:∀(h₂ h₃:Heap) (e:Addr) (f0:Value),IsZip h₂ z TI TO f0->(∃o,h₂.get? e=some o/\o.cls=.type "StopIteration")->Zx1 z h₂ h₃->∃o,h₃.get? e=some o/\o.cls=.type "StopIteration" := λh₂ h₃ e f0 q he sb=>by
  obtain⟨oe,h1,h2⟩:=he
  have ne:e≠z:=λy=>by rw[y,q] at h1;cases h1;simp at h2
  exact⟨oe,sb.extBut _ _ ne h1,h2⟩
 rcases g with g1 | ⟨g1,g2⟩
 ·refine wpAny_bind (g1 {s with heap:=h₁} _ _ (λc o n e=>e1 c o (by simpa using n) e) λh₂ e eb he=>?_)
  have q:=eb _ _ n3 hz₁
  refine wpAny_setField_rec q (by simp) λh₃ _ hs₃=>hE h₃ e (λc o n ec=>?_) (out h₂ h₃ e _ q he hs₃)
  simp only[Zzw,Zz8,or_false,not_or] at n
  exact hs₃.extBut _ _ n.1 (eb _ _ n.2.2.1 (e1 c o n.1 ec))
 ·refine wpAny_bind (g1 {s with heap:=h₁} _ _ (λc o n e=>e1 c o (by simpa using n) e) λh₂ p2 hs₂=>wpAny_pure ?_)
  have e2:∀c o,c≠z->c≠i1->s.heap.get? c=some o->h₂.get? c=some o:=λc o n m e=>hs₂.extBut _ _ m (e1 c o n e)
  have t2:IsPair h₂ TO a b:=e2 _ _ (Zyj n2) n8 hTO
  refine wpAny_bind (wpAny_seqItems t2 rfl (wpAny_bind (wpAny_updateSeq_pair t2 λh₃ t3 hs₃=>wpAny_bind (wpAny_letGo (wpAny_pure ?_)))))
  have e3:∀c o,c≠z->c≠i1->c≠TO->s.heap.get? c=some o->h₃.get? c=some o:=λc o n m k e=>hs₃.extBut _ _ k (e2 c o n m e)
  refine wpAny_bind (wpAny_bind (wpAny_onRaise ?_));show wpAny _ _ (Zxv (.ref i2) >>= _) _ _ _
  refine wpAny_bind (g2 {s with heap:=h₃} _ _ (λc o n e=>by simp only[Zzw,Zz8,or_false,not_or] at n;exact e3 c o n.1 n.2.2 n.2.1 e) λh₄ e eb he=>?_)
  have q:=eb _ _ n4 (hs₃.extBut _ _ n2 (hs₂.extBut _ _ n3 hz₁))
  refine wpAny_setField_rec q (by simp) λh₅ _ hs₅=>hE h₅ e (λc o n ec=>?_) (out h₄ h₅ e _ q he hs₅)
  simp only[Zzw,Zz8,or_false,not_or] at n
  exact hs₅.extBut _ _ n.1 (eb _ _ n.2.2.2 (e3 c o n.1 n.2.2.1 n.2.1 ec))
theorem Oz{l:Addr}{k:Nat}{xs:Array Value}(ex:List Addr)(h:s.heap.IsListIter i1 l k)(hl:s.heap.IsList l xs)(hx:xs[k]?=some x)(n1:i1∉ex)(n2:l∉ex):P6 P w A s.heap ex i1 x (λh'=>h'.IsListIter i1 l (k+1)):=λt Q E kp hq =>
 wpAny_nextOf_list_item (h.at λo e=>kp _ o n1 e) (hl.at λo e=>kp _ o n2 e) hx λh' a b=>hq h' a b
theorem Wu{l:Addr}{k:Nat}{xs:Array Value}(ex:List Addr)(hh:A.handled=none)(h:s.heap.IsListIter i1 l k)(hl:s.heap.IsList l xs)(hx:xs[k]?=none)(n1:i1∉ex)(n2:l∉ex):Np P w A s.heap ex i1:=λt Q E kp hq =>
 wpAny_nextOf_list_end hh (h.at λo e=>kp _ o n1 e) (hl.at λo e=>kp _ o n2 e) hx λh' e a b=>hq h' e a b
theorem Qp{h h':Heap}{b:Addr}{ys:Array Value}(q:h.IsTuple b ys)(k:∀o,h.get? b=some o->h'.get? b=some o):h'.IsTuple b ys:=by obtain⟨o,e,r⟩:=q;exact⟨o,k o e,r⟩
theorem Wk{l:Addr}{k:Nat}{xs:Array Value}(ex:List Addr)(h:s.heap.IsTupleIter i2 l k)(hl:s.heap.IsTuple l xs)(hx:xs[k]?=some y)(n1:i2∉ex)(n2:l∉ex):P6 P w A s.heap ex i2 y (λh'=>h'.IsTupleIter i2 l (k+1)):=λt Q E kp hq=>by
 have hi:=h.at λo e=>kp _ o n1 e
 obtain⟨oi,ei,ci,di⟩:=id hi
 obtain⟨ol,el,_,m,dl⟩:=Qp hl λo e=>kp _ o n2 e
 unfold Zxv
 refine wpAny_bind (wpAny_callSpecial?_slot (name:=Str.ofString "__next__") hi.typeIs F.slot_tuple_iterator_next (wpAny_call_entry F.slot_tuple_iterator_next hi.typeIs F.entry_tuple_iterator_next ?_ (F.args_tuple_iterator_next_1 _)))
 show wpAny _ _ (field (.ref i2) 0 >>= _) _ _ t;refine wpAny_bind (wpAny_field ei di (x:=.ref l) rfl ?_)
 show wpAny _ _ (if (Value.ref l == Value.none)=true then _ else _) _ _ t;rw[if_neg (λz:(Value.ref l == Value.none)=true=>Zz4 z)]
 show wpAny _ _ (field (.ref i2) 1 >>= _) _ _ t;refine wpAny_bind (wpAny_field ei di (x:=.int k 0) rfl ?_)
 show wpAny _ _ (seqItems? (.ref l) >>= _) _ _ t;refine wpAny_bind (wpAny_seqItems el dl ?_);simp only[hx,Int.toNat_natCast]
 refine wpAny_bind (wpAny_setField ei di (by simp) (wpAny_pure ⟨y,rfl,wpAny_pure (hq _ ⟨_,Zvm _ ei (Obj.isFreed_of_fields (Obj.data_mapFields di _)),(Obj.cls_mapFields ..).trans ci,by rw[Obj.data_mapFields di];simp[rawInt]⟩ (Heap.SameBut.update ..))⟩))
theorem Yj{l:Addr}{k:Nat}{xs:Array Value}(ex:List Addr)(hh:A.handled=none)(h:s.heap.IsTupleIter i2 l k)(hl:s.heap.IsTuple l xs)(hx:xs[k]?=none)(n1:i2∉ex)(n2:l∉ex):Np P w A s.heap ex i2:=λt Q E kp hq=>by
 have hi:=h.at λo e=>kp _ o n1 e
 obtain⟨oi,ei,ci,di⟩:=id hi
 obtain⟨ol,el,_,m,dl⟩:=Qp hl λo e=>kp _ o n2 e
 unfold Zxv
 refine wpAny_bind (wpAny_callSpecial?_slot (name:=Str.ofString "__next__") hi.typeIs F.slot_tuple_iterator_next (wpAny_call_entry F.slot_tuple_iterator_next hi.typeIs F.entry_tuple_iterator_next ?_ (F.args_tuple_iterator_next_1 _)))
 show wpAny _ _ (field (.ref i2) 0 >>= _) _ _ t;refine wpAny_bind (wpAny_field ei di (x:=.ref l) rfl ?_)
 show wpAny _ _ (if (Value.ref l == Value.none)=true then _ else _) _ _ t;rw[if_neg (λz:(Value.ref l == Value.none)=true=>Zz4 z)]
 show wpAny _ _ (field (.ref i2) 1 >>= _) _ _ t;refine wpAny_bind (wpAny_field ei di (x:=.int k 0) rfl ?_)
 show wpAny _ _ (seqItems? (.ref l) >>= _) _ _ t;refine wpAny_bind (wpAny_seqItems el dl ?_);simp only[hx,Int.toNat_natCast]
 refine wpAny_bind (wpAny_rule (wpAny_bind (wpAny_setField ei di (by simp) ?_)));show wpAny _ _ (newExc (.type "StopIteration") [] >>= _) _ _ _
 refine wpAny_bind ?_;simp only[newExc,newTuple]
 refine wpAny_bind (wpAny_newObj_type ?_ (by size_fits));refine wpAny_bind (m:=firstArgMember _ _) (wpAny_of_eq (a:=Value.none) (by first | rfl | (simp only[firstArgMember];rfl)) ?_)
 refine wpAny_newObj_type ?_ (by size_fits);simp only[raiseNew]
 refine wpAny_bind (wpAny_handled ?_);first | rw[show A.in1.handled=none from hh] | rw[hh]
 exact wpAny_bind (wpAny_pure (wpAny_throw (hq _ _ (((Heap.SameBut.update ..).extBut.push _).push _) ⟨_,Zyn _ rfl,rfl⟩)))
theorem O3(hh:A.handled=none)(z TI TO i1 i2 l1 l2:Addr)(nd:[z,TI,TO,i1,i2].Nodup)(n1:l1∉[z,TO,i1,i2])(n2:l2∉[z,TO,i1,i2])(xs ys:Array Value) :
  WalksT P w A z [z,TI,TO,i1,i2,l1,l2] [z,TO,i1,i2] (min xs.size ys.size) (λi vals=>∃x y,xs[i]?=some x/\ys[i]?=some y/\vals=#[x,y])
   (λi h=>IsZip h z TI TO .none/\IsPair h TI (.ref i1) (.ref i2)/\(∃a b,IsPair h TO a b)/\h.IsListIter i1 l1 i/\h.IsTupleIter i2 l2 i/\h.IsList l1 xs/\h.IsTuple l2 ys)
   (λi T h=>(IsZip h z TI TO (rawInt T)/\IsPair h TI (.ref i1) (.ref i2)/\(∃a b,IsPair h TO a b)/\h.IsListIter i1 l1 (i+1)/\h.IsTupleIter i2 l2 (i+1)/\h.IsList l1 xs/\h.IsTuple l2 ys)/\T∉[z,TO,i1,i2]):=by
 have nd':=nd
 simp only[Zy3,Zzw,Zz8,or_false,not_or,Zvg,and_true,not_false_eq_true] at nd'
 obtain⟨⟨m1,m2,m3,m4⟩,⟨m5,m6,m7⟩,⟨m8,m9⟩,m10⟩:=nd'
 have hTIn:TI∉[z,TO,i1,i2]:=by simp only[Zzw,Zz8,or_false,not_or];exact⟨Zyj m1,m5,m6,m7⟩
 have q1:=n1
 have q2:=n2
 simp only[Zzw,Zz8,or_false,not_or] at q1 q2
 have x1:i1∉[z]:=by simpa using Zyj m3
 have x2:i2∉[z,TO,i1]:=by simp only[Zzw,Zz8,or_false,not_or];exact⟨Zyj m4,Zyj m9,Zyj m10⟩
 have x3:l1∉[z]:=by simpa using q1.1
 have x4:l2∉[z,TO,i1]:=by simp only[Zzw,Zz8,or_false,not_or];exact⟨q2.1,q2.2.1,q2.2.2.1⟩
 refine⟨λc hc=>?_,λi h h' st k=>?_,λi s Q E hi st hq=>?_,λelts k pos i T s Q E hm hq=>?_,λi T h hm=>hm.2,λs Q E st hq=>?_,λi s Q E st hq=>wpAny_pyIter_zip st.1 hq⟩
 ·simp only[Zzw,Zz8,or_false] at hc ⊢
  rcases hc with q | q | q | q<;>simp[q]
 ·obtain⟨a1,a2,⟨u,v,a3⟩,a4,a5,a6,a7⟩:=st
  exact⟨k z (by simp) _ a1,k TI (by simp) _ a2,⟨u,v,k TO (by simp) _ a3⟩,a4.at λo e=>k i1 (by simp) o e,a5.at λo e=>k i2 (by simp) o e,a6.at λo e=>k l1 (by simp) o e,Qp a7 λo e=>k l2 (by simp) o e⟩
 ·obtain⟨a1,a2,⟨u,v,a3⟩,a4,a5,a6,a7⟩:=st
  have hT:s.TypeIs (.ref z) "zip" := ⟨_,a1,rfl⟩
  have hix:i<xs.size:=by omega
  have hiy:i<ys.size:=by omega
  have gx:xs[i]?=some xs[i]:=Zw7 hix
  have gy:ys[i]?=some ys[i]:=Zw7 hiy
  have lt:∀{c:Addr} {o:Obj},s.heap.get? c=some o->s.heap.objs.size≠c:=λe=>Nat.ne_of_gt (Zzc e)
  unfold pyNext
  refine wpAny_bind (wpAny_attempt (wpAny_callSpecial?_slot (name:=Str.ofString "__next__") hT F.slot_zip_next (wpAny_call_entry F.slot_zip_next hT F.entry_zip_next (Vx nd a1 a2 a3 (Oz [z] a4 a6 gx x1 x3) (Wk [z,TO,i1] a5 a7 gy x2 x4) (λ_ _ p k=>p.at k) (λ_ _ p k=>p.at k) λh' b1 b2 b3 b4 b5 b6 kp=>?_) (F.args_zip_next_1 _))))
  refine wpAny_pure (hq _ #[xs[i],ys[i]] h' s.toks ⟨_,_,gx,gy,rfl⟩ (Zzt _) ⟨_,b5,rfl,_,rfl⟩ ⟨⟨b1,kp _ _ hTIn a2,⟨_,_,b2⟩,b3,b4,a6.at λo e=>kp _ o n1 e,Qp a7 λo e=>kp _ o n2 e⟩,?_⟩ kp)
  obtain⟨_,e4,_⟩:=a4
  obtain⟨_,e5,_⟩:=a5
  simp only[Zzw,Zz8,or_false,not_or]
  exact⟨lt a1,lt a3,lt e4,lt e5⟩
 ·obtain⟨⟨a1,a2,⟨u,v,a3⟩,a4,a5,a6,a7⟩,_⟩:=hm
  refine wpAny_letOwnedTupleGo_zip a1 λh' b1 sb=>hq h' ⟨b1,sb.extBut _ _ (Zyj m1) a2,⟨u,v,sb.extBut _ _ (Zyj m2) a3⟩,a4.extBut sb.extBut (Zyj m3),a5.extBut sb.extBut (Zyj m4),a6.extBut sb.extBut q1.1,a7.extBut sb.extBut q2.1⟩ λc o hc e=>sb.extBut _ _ (λq=>hc (by simp[q])) e
 ·obtain⟨a1,a2,⟨u,v,a3⟩,a4,a5,a6,a7⟩:=st
  have hT:s.TypeIs (.ref z) "zip" := ⟨_,a1,rfl⟩
  unfold pyNext
  have fin:Np P w A.in1 s.heap [z] i1\/((∃x,P6 P w A.in1 s.heap [z] i1 x (λh'=>h'.IsListIter i1 l1 (min xs.size ys.size+1)))/\Np P w A.in1 s.heap [z,TO,i1] i2):=by
   by_cases h:xs.size<=ys.size
   ·exact .inl (Wu [z] hh a4 a6 (Array.getElem?_eq_none (by omega)) x1 x3)
   ·exact .inr ⟨⟨_,Oz [z] a4 a6 (Zw7 (by omega)) x1 x3⟩,Yj [z,TO,i1] hh a5 a7 (Array.getElem?_eq_none (by omega)) x2 x4⟩
  have fin2:∃x,Np P w A.in1 s.heap [z] i1\/(P6 P w A.in1 s.heap [z] i1 x (λh'=>h'.IsListIter i1 l1 (min xs.size ys.size+1))/\Np P w A.in1 s.heap [z,TO,i1] i2):=by
   rcases fin with f | ⟨⟨x,f⟩,f2⟩
   ·exact⟨.none,.inl f⟩
   ·exact⟨x,.inr ⟨f,f2⟩⟩
  obtain⟨x,fin2⟩:=fin2
  refine wpAny_bind (wpAny_attempt (wpAny_callSpecial?_slot (name:=Str.ofString "__next__") hT F.slot_zip_next (wpAny_call_entry F.slot_zip_next hT F.entry_zip_next (X4 nd a1 a2 a3 fin2 λh' e kp he=>?_) (F.args_zip_next_1 _))))
  obtain⟨o,e1,e2⟩:=he
  exact wpAny_bind (wpAny_isInstance (T := "StopIteration") (b:=true) ⟨o,e1,e2⟩ isSubtype_stop (wpAny_pure (hq h' s.toks kp)))
end
def zt1(h:Heap)(a:Addr):Heap:=h.push {cls:=.type "list_iterator",data:=.fields #[.ref a,.int 0 0]}
def zt2(h:Heap)(a b:Addr):Heap:=(zt1 h a).push {cls:=.type "tuple_iterator",data:=.fields #[.ref b,.int 0 0]}
def zt3(h:Heap)(a b:Addr):Heap:=(zt2 h a b).push {cls:=.type "tuple",data:=.seq #[.ref h.objs.size,.ref (zt1 h a).objs.size]}
def zt4(h:Heap)(a b:Addr):Heap:=(zt3 h a b).push {cls:=.type "tuple",data:=.seq #[.none,.none]}
def zt5(h:Heap)(a b:Addr):Heap:=(zt4 h a b).push {cls:=.type "zip",data:=.fields #[.none,.bool false,.bool false,.ref (zt2 h a b).objs.size,.ref (zt3 h a b).objs.size]}
theorem Uk(a b:Addr)(xs ys:Array Value):Meets (Builtin.«zip.__new__» ⟨[.type "zip",.ref a,.ref b],[]⟩) (λ_ R s=>s.heap.IsList a xs/\s.heap.IsTuple b ys/\R (.ok (.ret (.ref (zt4 s.heap a b).objs.size))) {s with heap:=zt5 s.heap a b}) :=
 .of_wp λP w A R s h=>by
  obtain⟨hp,g,d,tk,os⟩:=s
  obtain⟨ha,hb,h⟩:=h
  have hsub:=sub_zip
  have qa:Heap.IsList (Shared.heap ⟨hp,g,d,tk,os⟩) a xs:=ha
  have qb:Heap.IsTuple (Shared.heap ⟨hp.push {cls:=.type "list_iterator",data:=.fields #[.ref a,.int 0 0]},g,d,tk,os⟩) b ys:=Heap.IsTuple.push hb _
  wp_walk using wpAny_pyIter_list qa,wpAny_pyIter_tuple qb
  exact⟨_,rfl,h⟩
theorem Wy{P:Program}{w:World}{A:Around}{E:Value->Shared->Prop}{s:Shared}{a b:Addr}{xs ys:Array Value}{Q:Value->Shared->Prop}(ha:s.heap.IsList a xs)(hb:s.heap.IsTuple b ys)
  (h:∀h',IsZip h' (s.heap.objs.size+4) (s.heap.objs.size+2) (s.heap.objs.size+3) .none->IsPair h' (s.heap.objs.size+2) (.ref s.heap.objs.size) (.ref (s.heap.objs.size+1))->IsPair h' (s.heap.objs.size+3) .none .none ->
   h'.IsListIter s.heap.objs.size a 0->h'.IsTupleIter (s.heap.objs.size+1) b 0->(∀c o,s.heap.get? c=some o->h'.get? c=some o)->Q (.ref (s.heap.objs.size+4)) {s with heap:=h'}) :
  wpAny (model P w) A (call (.type "zip") [.ref a,.ref b]) Q E s:=by
 refine callType_new F.called_zip (by decide) (F.typeCall_zip_2 _ _) (F.newCall_zip_2 _ _) (λobj=>F.args_object_init_3 obj _ _) F.entry_zip_new (Uk a b xs ys) ⟨ha,hb,?_⟩
 have z1:(zt1 s.heap a).objs.size=s.heap.objs.size+1:=Zws ..
 have z2:(zt2 s.heap a b).objs.size=s.heap.objs.size+2:=(Zws ..).trans (by rw[z1])
 have z3:(zt3 s.heap a b).objs.size=s.heap.objs.size+3:=(Zws ..).trans (by rw[z2])
 have z4:(zt4 s.heap a b).objs.size=s.heap.objs.size+4:=(Zws ..).trans (by rw[z3])
 have p5:∀{c:Addr} {o:Obj},(zt4 s.heap a b).get? c=some o->(zt5 s.heap a b).get? c=some o:=λe=>Zzj _ e
 have p4:∀{c:Addr} {o:Obj},(zt3 s.heap a b).get? c=some o->(zt5 s.heap a b).get? c=some o:=λe=>p5 (Zzj _ e)
 have p3:∀{c:Addr} {o:Obj},(zt2 s.heap a b).get? c=some o->(zt5 s.heap a b).get? c=some o:=λe=>p4 (Zzj _ e)
 have p2:∀{c:Addr} {o:Obj},(zt1 s.heap a).get? c=some o->(zt5 s.heap a b).get? c=some o:=λe=>p3 (Zzj _ e)
 have g5:(zt5 s.heap a b).get? (zt4 s.heap a b).objs.size=some {cls:=.type "zip",data:=.fields #[.none,.bool false,.bool false,.ref (zt2 s.heap a b).objs.size,.ref (zt3 s.heap a b).objs.size]}:=Zyn _ rfl
 have g4:=p5 (show (zt4 s.heap a b).get? (zt3 s.heap a b).objs.size=some {cls:=.type "tuple",data:=.seq #[.none,.none]} from Zyn _ rfl)
 have g3:=p4 (show (zt3 s.heap a b).get? (zt2 s.heap a b).objs.size=some {cls:=.type "tuple",data:=.seq #[.ref s.heap.objs.size,.ref (zt1 s.heap a).objs.size]} from Zyn _ rfl)
 have g2:=p3 (show (zt2 s.heap a b).get? (zt1 s.heap a).objs.size=some {cls:=.type "tuple_iterator",data:=.fields #[.ref b,.int 0 0]} from Zyn _ rfl)
 have g1:=p2 (show (zt1 s.heap a).get? s.heap.objs.size=some {cls:=.type "list_iterator",data:=.fields #[.ref a,.int 0 0]} from Zyn _ rfl)
 show _/\_
 rw[z2,z3,z4] at g5
 rw[z1,z2] at g3
 rw[z3] at g4
 rw[z1] at g2
 rw[z4]
 exact⟨⟨_,g5,rfl⟩,h _ g5 g3 g4 ⟨_,g1,rfl,rfl⟩ ⟨_,g2,rfl,rfl⟩ λc o e=>p2 (Zzj _ e)⟩
def e9(K:Zzx)(a b:Addr)(xs ys:List V):It:=⟨λi H=>H a=some (.lst xs)/\SqT K H b ys/\i<min xs.length ys.length,
 λi H x H'=>∃p y z,x=.ref p/\H p=none/\xs[i]?=some y/\ys[i]?=some z/\H'=upd H p (.tup [y,z]),λi H=>H a=some (.lst xs)/\SqT K H b ys/\i=min xs.length ys.length⟩
theorem dg(K:Zzx)(a b:Addr)(xs ys:List V):Yw (e9 K a b xs ys) (min xs.length ys.length) (λi us=>∃y z,xs[i]?=some y/\ys[i]?=some z/\us=[y,z]) (λH=>H a=some (.lst xs)/\SqT K H b ys) :=
 ⟨λi H h o=>⟨o.1,o.2,h⟩,λi H x H' h o y=>by obtain⟨p,u,v,e1,e2,e3,e4,e5⟩:=y;exact⟨p,_,e1,e2,e5,u,v,e3,e4,rfl⟩,λH o=>⟨o.1,o.2,rfl⟩⟩
theorem Vy{P:Program}{w:World}{K:Zzx}{elts:List Expr}{k:Nat}{pos:Pos}(z TI TO i1 i2 a b:Addr)(xs ys:List V)(nd:[z,TI,TO,i1,i2].Nodup)(na:a∉[z,TO,i1,i2])(nb:b∉[z,TO,i1,i2]) :
  P5 P w K (.Tuple elts k pos) (e9 K a b xs ys) [z,TI,TO,i1,i2] z (λi h=>IsZip h z TI TO .none/\IsPair h TI (.ref i1) (.ref i2)/\(∃u v,IsPair h TO u v)/\h.IsListIter i1 a i/\h.IsTupleIter i2 b i):=by
 have objs:∀(i:Nat) (h:Heap),(IsZip h z TI TO .none/\IsPair h TI (.ref i1) (.ref i2)/\(∃u v,IsPair h TO u v)/\h.IsListIter i1 a i/\h.IsTupleIter i2 b i)->∀c∈[z,TI,TO,i1,i2],∃o,h.get? c=some o/\∀v,o.data≠.cell v:=by
  rintro i h ⟨hz,hT,⟨u,v,hO⟩,⟨o1,g1,c1,d1⟩,⟨o2,g2,c2,d2⟩⟩ c hc
  simp only[Zzw,Zz8,or_false] at hc
  rcases hc with q | q | q | q | q<;>subst q
  ·exact⟨_,hz,λ_ y=>by cases y⟩
  ·exact⟨_,hT,λ_ y=>by cases y⟩
  ·exact⟨_,hO,λ_ y=>by cases y⟩
  ·exact⟨o1,g1,λ_ y=>by rw[d1] at y;cases y⟩
  ·exact⟨o2,g2,λ_ y=>by rw[d2] at y;cases y⟩
 have sub:∀c∈[z,TO,i1,i2],c∈[z,TI,TO,i1,i2]:=λc hc=>by simp at hc ⊢;rcases hc with h | h | h | h<;>simp[h]
 refine⟨by simp,objs,?_,?_,?_,?_⟩
 ·rintro i h h' ⟨hz,hT,⟨u,v,hO⟩,g1,g2⟩ kp
  exact⟨kp z (by simp) _ hz,kp TI (by simp) _ hT,⟨u,v,kp TO (by simp) _ hO⟩,g1.at λo e=>kp i1 (by simp) o e,g2.at λo e=>kp i2 (by simp) o e⟩
 ·intro X hP hw hK hc i pins s Z H E I hf st hg
  subst hP hw hK
  obtain⟨ha,hb,hlt⟩:=hg
  obtain⟨its,rv,hl,hal⟩:=J6 I ha
  obtain⟨its2,rv2,hl2,hz2⟩:=I.tuple hb
  have len1:=rv.length
  have len2:=rv2.length
  obtain⟨s1,s2,s3,s4,s5⟩:=id st
  have hv:∀vals:Array Value,(∃x y,its.toArray[i]?=some x/\its2.toArray[i]?=some y/\vals=#[x,y])->∃us,Vals us vals.toList/\us.length<=100/\∃y z,xs[i]?=some y/\ys[i]?=some z/\us=[y,z]:=by
   rintro vals ⟨x,y,hx,hy,rfl⟩
   have l1:i<xs.length:=by omega
   have l2:i<ys.length:=by omega
   obtain⟨u,hu,ru⟩:=rv.get (x:=xs[i]) (i:=i) (by simp[l1])
   obtain⟨u',hu',ru'⟩:=rv2.get (x:=ys[i]) (i:=i) (by simp[l2])
   have hx:its[i]?=some x:=by simpa using hx
   have hy:its2[i]?=some y:=by simpa using hy
   rw[hx] at hu
   rw[hy] at hu'
   cases hu
   cases hu'
   exact⟨[xs[i],ys[i]],.cons ru (.cons ru' .nil),by simp,xs[i],ys[i],by simp[l1],by simp[l2],rfl⟩
  refine thn (Ya (E:=E) (O3 (I.ok.hd hc) z TI TO i1 i2 a b nd na nb its.toArray its2.toArray) (by rw[Zzn,Zzn];omega) I ⟨s1,s2,s3,s4,s5,hl,hl2⟩ (λc hc=>hf c (sub c hc)) hv) λr t1 ⟨u,hr,h3⟩ =>
   ⟨u,hr,thn h3 λ_ t2 ⟨p,us,hu,hp,hn,I2,⟨y,y',hy,hy',e2⟩,st2⟩=>?_⟩
  subst hu e2
  refine⟨.ref p,_,I2,rfl,⟨p,y,y',rfl,hn,hy,hy',rfl⟩,⟨st2.1,st2.2.1,st2.2.2.1,st2.2.2.2.1,st2.2.2.2.2.1⟩,λc hc=>?_⟩
  obtain⟨o,ho,_⟩:=objs i _ st c hc
  rw[Bd (Ck (Zzc ho) hp)]
  exact(hf c hc).1
 ·intro X hP hw hK hc i pins s Z H E I hf st hg
  subst hP hw hK
  obtain⟨ha,hb,hlt⟩:=hg
  obtain⟨its,rv,hl,hal⟩:=J6 I ha
  obtain⟨its2,rv2,hl2,hz2⟩:=I.tuple hb
  have len1:=rv.length
  have len2:=rv2.length
  obtain⟨s1,s2,s3,s4,s5⟩:=id st
  have hi:min its.toArray.size its2.toArray.size=i:=by rw[Zzn,Zzn];omega
  refine(O3 (I.ok.hd hc) z TI TO i1 i2 a b nd na nb its.toArray its2.toArray).done s _ E ?_ λh' tk hk=>⟨rfl,I.turnedL hk λc hc=>hf c (sub c hc)⟩
  rw[hi]
  exact⟨s1,s2,s3,s4,s5,hl,hl2⟩
 ·intro A i s Q E st h
  exact wpAny_pyIter_zip st.1 h
section
variable {X:Cx}
def Dw(K:Zzx)(ta:TA):TI:=λZ H R=>ta Z H λvs H1=>∃a b xs ys,vs=[.ref a,.ref b]/\H1 a=some (.lst xs)/\SqT K H1 b ys/\R (e9 K a b xs ys) H1
theorem Za{elts:List Expr}{k:Nat}{pt p pos:Pos}{e e2:Expr}{ta:TA}(hg:Gl X "zip")(hm:X.mg "zip" = none)(ha:PA X [e,e2] ta)(hn:Gc [e,e2]=true:=by rfl):PI X (.Tuple elts k pt) (.Call (.Name "zip" p) [e,e2] [] pos) (Dw X.K ta):=by
 intro pins s Z H R I h
 refine Call_ (Nb I hg hm NP.dn (Zx0 (thn (ha pos pins s Z H _ I h) λus s1 ⟨vs,H1,I1,r1,q1⟩=>?_) (Db (Cq hn).1) (Ih (Cq hn).2)))
 obtain⟨a,b,xs,ys,e,ha,hb,q⟩:=q1
 subst e
 obtain⟨u,u',rfl,ru,ru'⟩:=X7 r1
 cases ru
 cases ru'
 obtain⟨its,rv,hl,hal⟩:=J6 I1 ha
 obtain⟨its2,rv2,hl2,hz2⟩:=I1.tuple hb
 have hbl:b<s1.heap.objs.size:=by obtain⟨o,ho,_⟩:=hl2;exact Zzc ho
 refine Wy hl hl2 λh' g1 g2 g3 g4 g5 hk=>wpAny_pyIter_zip g1 ?_
 have I2:Inv X pins Z H1 {s1 with heap:=h'}:=I1.kept (t':=s1.toks) hk
 have nd:[s1.heap.objs.size+4,s1.heap.objs.size+2,s1.heap.objs.size+3,s1.heap.objs.size,s1.heap.objs.size+1].Nodup:=by
  simp only[Zy3,Zzw,Zz8,or_false,not_or,Zvg,and_true,not_false_eq_true]
  refine⟨⟨?_,?_,?_,?_⟩,⟨?_,?_,?_⟩,⟨?_,?_⟩,?_⟩<;>(intro z;have z':(_:Nat)=_:=z;omega)
 have off:∀c:Addr,c<s1.heap.objs.size->c∉[s1.heap.objs.size+4,s1.heap.objs.size+3,s1.heap.objs.size,s1.heap.objs.size+1]:=λc hc z=>by
  simp only[Zzw,Zz8,or_false] at z
  rcases z with q | q | q | q<;>rw[q] at hc<;>first | exact absurd hc (Nat.not_lt.mpr (Nat.le_add_right _ _)) | exact absurd hc (Zwm _)
 refine⟨s1.heap.objs.size+4,[s1.heap.objs.size+4,s1.heap.objs.size+2,s1.heap.objs.size+3,s1.heap.objs.size,s1.heap.objs.size+1],_,_,H1,rfl,I2,Vy _ _ _ _ _ a b xs ys nd (off a hal) (off b hbl),⟨g1,g2,⟨_,_,g3⟩,g4,g5⟩,λc hc=>?_,q⟩
 have hb':s1.heap.objs.size<=c:=by
  simp only[Zzw,Zz8,or_false] at hc
  rcases hc with q | q | q | q | q<;>rw[q]<;>first | exact Nat.le_add_right _ _ | exact Zzt _
 exact I1.fpOk hb' (I1.hok.fresh hb')
end
def az(p:Params)(l:List (Str×Tok×Addr)):Array DictEntry:=(l.map λe=>{hash:=PyData.keyHash p e.1,key:=.str e.1 e.2.1,val:=.ref e.2.2}).toArray
def TabK(w:World)(K:Zzx)(a:Addr)(l:List (Str×Tok×Addr)):Prop:=(∃ep,K.lookup a=some {cls:=.type "dict",data:=.dict (az w.params l) ep})/\(l.map (·.1)).Nodup/\(a == sysModules)=false
def O6(l:List (Str×Tok×Addr)):List (Key×Value):=l.map λe=>(Zwn e.1,Value.ref e.2.2)
def M3(l:List (Str×Tok×Addr))(x:Str):V:=match l.find? (λe=>decide (e.1=x)) with
 |some e=>.ref e.2.2
 |none=>.non
theorem Q0{P:Program}{w:World}:∀l:List (Str×Tok×Addr),Pairs (G4 P w) (l.map λe=>{hash:=PyData.keyHash w.params e.1,key:=.str e.1 e.2.1,val:=.ref e.2.2}) (O6 l)
 |[]=>.nil
 |e::r=>.cons (Kq P w e.1 e.2.1) rfl (Q0 r)
theorem TabK.dict{P:Program}{w:World}{K:Zzx}{a:Addr}{l:List (Str×Tok×Addr)}{h:Heap}(T:TabK w K a l)(X:K.In h):h.DictOf (G4 P w) a (O6 l):=by
 obtain⟨⟨ep,lk⟩,nd,_⟩:=T
 refine⟨_,_,ep,X a _ lk,⟨rfl,rfl,rfl⟩,rfl,λe he=>?_,?_,?_⟩
 ·unfold az at he
  have he:e∈(l.map λe=>({hash:=PyData.keyHash w.params e.1,key:=.str e.1 e.2.1,val:=.ref e.2.2}:DictEntry)):=by simpa using he
  obtain⟨q,hq,rfl⟩:=Zza.mp he
  exact⟨.inr q.1,Kq P w q.1 q.2.1,rfl⟩
 ·exact Q0 l
 ·unfold O6
  rw[Zy6]
  have:(Zvo ((λx=>x.1)∘λe:Str×Tok×Addr=>((Zwn e.1:Key),Value.ref e.2.2)) l)=(l.map (·.1)).map Zwn:=by rw[Zy6];rfl
  rw[this]
  exact nd.map _ λx y n e=>n (Sum.inr.inj e)
theorem Z3(l:List (Str×Tok×Addr))(x:Str):RelV (M3 l x) ((valueAt (O6 l) (.inr x)).getD .none):=by
 unfold M3 valueAt O6
 rw[List.find?_map]
 have:(λkv:Key×Value=>decide (kv.1=(Zwn x:Key)))∘(λe:Str×Tok×Addr=>((Zwn e.1:Key),Value.ref e.2.2))=λe=>decide (e.1=x):=by
  funext e
  simp
 rw[this]
 cases l.find? (λe=>decide (e.1=x)) with
 |none=>rfl
 |some e=>rfl
def Ds(l:List (Str×Tok×Addr))(ty:TE):TE:=λZ H Q=>ty Z H λy H1=>∃x,y=.str x/\Q (M3 l x) H1
theorem Zd{X:Cx}{a:Addr}{l:List (Str×Tok×Addr)}{o e:Expr}{ty:TE}{apos cpos:Pos}(T:TabK X.w X.K a l)(ho:PE X o (λ_ H Q=>Q (.ref a) H))(he:PE X e ty)(m:M1 X o "get" apos e cpos):PE X (.Call (.Attribute o "get" apos) [e] [] cpos) (Ds l ty):=by
 intro pins s Z H Q I h
 refine wpAny_Call_method m.base m.few m.line PySem.F.plainAttrs_dict PySem.F.slot_dict_get PySem.F.type_dict_get (thn (ho pins s Z H (λx H1=>x=.ref a/\H1=H) I ⟨rfl,rfl⟩) λu s1 z0=>?_)
 obtain⟨x,H1,I1,rx,ex,eH⟩:=z0
 subst ex eH
 obtain rfl:u=Value.ref a:=rx
 have d1:s1.heap.DictOf (G4 X.prog X.w) a (O6 l):=T.dict I1.kIn
 refine⟨d1.typeIs,λb q=>?_,?_⟩
 ·cases q
  obtain⟨ob,_,_,e1,e2,_⟩:=d1
  exact⟨ob,e1,e2.2.1⟩
 rw[m.trees]
 refine Zvu rfl (Zvj (Calls.spliced_cons (thn (he pins s1 Z H1 _ I1 h) λiv s2 ⟨y,H2,I2,ry,x,ey,q2⟩=>Calls.spliced_nil ?_)))
 subst ey
 have d2:s2.heap.DictOf (G4 X.prog X.w) a (O6 l):=T.dict I2.kIn
 obtain⟨t,rfl⟩:=ry
 exact call_meetsIn PySem.F.slot_dict_get d2.typeIs PySem.F.entry_dict_get (PySem.F.args_dict_get_2 _ _) (meets_dict_get (G4 X.prog X.w) a (Kq X.prog X.w x t) T.2.2) ⟨_,d2.mapOf,⟨_,H2,I2.tok _,Z3 l x,q2⟩⟩
def TupK(K:Zzx)(a:Addr)(l:List (Str×Tok)):Prop:=∃n,K.lookup a=some {cls:=.type "tuple",data:=.seq (l.map λe=>Value.str e.1 e.2).toArray n}
theorem TupK.sq{K:Zzx}{a:Addr}{l:List (Str×Tok)}(T:TupK K a l)(hl:l.length<=1000)(H:Hp):SqT K H a ((l.map (·.1)).map V.str):=by
 obtain⟨n,lk⟩:=T
 refine .inr ⟨_,_,n,lk,rfl,rfl,by rw[Zzn,Zzz];exact Zyu hl (by decide),?_⟩
 have:∀l:List (Str×Tok),Vals ((l.map (·.1)).map V.str) (l.map λe=>Value.str e.1 e.2):=λl=>by
  induction l with
  |nil=>exact .nil
  |cons e r ih=>exact .cons ⟨_,rfl⟩ ih
 exact this l
def rStrS:List V->Hp->VK->Prop:=λxs H Q=>∃x:Str,xs=[.str x]/\Q (.str x) H
theorem Wz{X:Cx}:CallR X (.type "str") rStrS:=by
 intro pins s Z H xs us Q I r h
 obtain⟨x,rfl,q⟩:=h
 obtain⟨u,rfl,t,rfl⟩:=Ll r
 exact P.str_of_str ⟨.str x,H,I,⟨_,rfl⟩,q⟩
def rRepD:R2:=λx y H Q=>∃(z:Str) (n:Int),x=.str z/\y=.int n/\z.length<=1000/\0<=n/\n<=1000/\∀z':Str,z'.length<=z.length*n.toNat->(∀c∈z'.cps.toList,c∈z.cps.toList)->Q (.str z') H
theorem Zi{X:Cx}:OpR X (binaryOp .Mult) rRepD:=by
 intro pins s Z H x y v u Q I rx ry h
 obtain⟨z,n,rfl,rfl,hz,h0,h1,q⟩:=h
 obtain⟨t,rfl⟩:=rx
 obtain⟨t',rfl⟩:=ry
 have hb:z.length*n.toNat<=1000000:=by
  have:z.length*n.toNat<=1000*1000:=Nat.mul_le_mul hz (by omega)
  omega
 refine P.mul_str (by rw[decide_eq_false (by omega),decide_eq_false (by omega)];rfl) (λhn _ hc=>?_) (λ_ _=>?_) ?_
 ·have:(2^63 - 1) / n≥(2^63 - 1) / 1000:=by
   have a1:(2^63 - 1:Int) / 1000*n<=2^63 - 1:=by
    have:(2^63 - 1:Int) / 1000*n<=(2^63 - 1) / 1000*1000:=Int.mul_le_mul_of_nonneg_left h1 (by decide)
    exact Int.le_trans this (by decide)
   exact(Int.le_ediv_iff_mul_le (by omega)).mpr a1
  have:((2:Int)^63 - 1) / 1000≥1000:=by decide
  omega
 ·unfold Builtin.Str.tooLong
  simp
  exact O2 hb
 ·split
  ·exact⟨by decide,.str _,H,I.tok _,⟨_,rfl⟩,q _ (Zwt _) (λc hc=>by cases hc)⟩
  ·split
   ·rename_i c1 c2
    have hb1:z.length<=z.length*n.toNat:=Nat.le_mul_of_pos_right _ (by omega)
    exact⟨.str z,H,I,⟨_,rfl⟩,q _ hb1 (λc hc=>hc)⟩
   ·have hl:(⟨(Zx9 n.toNat z.cps).foldl (·++·) #[]⟩:Str).length=z.length*n.toNat:=by
     show ((Zx9 n.toNat z.cps).foldl (·++·) #[]).size=z.length*n.toNat
     rw[Ob]
     have:n.toNat*z.cps.size=z.length*n.toNat:=Nat.mul_comm ..
     simp
     omega
    exact⟨by rw[hl];exact O2 hb,.str _,H,I.tok _,⟨_,rfl⟩,q _ (by rw[hl];exact Zzt _) (λc hc=>R7 z.cps n.toNat #[] c hc |>.resolve_left (by simp))⟩
def Ed:List V->Hp->VK->Prop:=λxs H Q=>rStrI xs H Q\/rStrS xs H Q
def rRepX:R2:=λx y H Q=>∃(z:Str) (n:Int),x=.str z/\y=.int n/\1<=z.length/\z.length<=1000/\2<=n/\n<=1000/\∀z':Str,z'.length=z.length*n.toNat->(∀c∈z'.cps.toList,c∈z.cps.toList)->Q (.str z') H
theorem Zh{X:Cx}:OpR X (binaryOp .Mult) rRepX:=by
 intro pins s Z H x y v u Q I rx ry h
 obtain⟨z,n,rfl,rfl,hz1,hz,h0,h1,q⟩:=h
 obtain⟨t,rfl⟩:=rx
 obtain⟨t',rfl⟩:=ry
 have hb:z.length*n.toNat<=1000000:=by
  have:z.length*n.toNat<=1000*1000:=Nat.mul_le_mul hz (by omega)
  omega
 refine P.mul_str (by rw[decide_eq_false (by omega),decide_eq_false (by omega)];rfl) (λhn _ hc=>?_) (λ_ _=>?_) ?_
 ·have:(2^63 - 1) / n≥(2^63 - 1) / 1000:=by
   have a1:(2^63 - 1:Int) / 1000*n<=2^63 - 1:=by
    have:(2^63 - 1:Int) / 1000*n<=(2^63 - 1) / 1000*1000:=Int.mul_le_mul_of_nonneg_left h1 (by decide)
    exact Int.le_trans this (by decide)
   exact(Int.le_ediv_iff_mul_le (by omega)).mpr a1
  have:((2:Int)^63 - 1) / 1000≥1000:=by decide
  omega
 ·unfold Builtin.Str.tooLong
  simp
  exact O2 hb
 ·rw[if_neg (by omega),if_neg (by rw[Bool.or_eq_true,beq_iff_eq,beq_iff_eq];omega)]
  have hl:(⟨(Zx9 n.toNat z.cps).foldl (·++·) #[]⟩:Str).length=z.length*n.toNat:=by
   show ((Zx9 n.toNat z.cps).foldl (·++·) #[]).size=z.length*n.toNat
   rw[Ob]
   have:n.toNat*z.cps.size=z.length*n.toNat:=Nat.mul_comm ..
   simp
   omega
  exact⟨by rw[hl];exact O2 hb,.str _,H,I.tok _,⟨_,rfl⟩,q _ hl (λc hc=>R7 z.cps n.toNat #[] c hc |>.resolve_left (by simp))⟩
end L2
namespace L2
open PySem PySem.Spec PyProof.Rows PySem.W
section
variable {M:Model}{A:Around}{E:Value->Shared->Prop}{s:Shared}
theorem Zp{x:Value}{env env':Env}(h:env'.frame=env.frame):noteFrame x env'=noteFrame x env:=by
 unfold noteFrame PySem.frameOf
 rw[h]
theorem ad{B:Heap}{l:List Env}{e:Addr}{cls a0 fl:Value}{fr:Option Addr}{Q:Unit->Shared->Prop}(kb:B.StaysIn s.heap)(kf:s.heap.FunFrames B l)(tr:s.heap.TracedAtW B e cls a0 fl)
  (hq:∀h',B.StaysIn h'->h'.FunFrames B l->h'.TracedAtW B e cls a0 (fr.elim Value.none λf=>rawInt f)->s.heap.UpToSlots h'->Q () {s with heap:=h'}):wpAny M A (setFlight (.ref e) fr) Q E s:=by
 obtain⟨oe,vs,T,oT,ts,q1,q2,q3,q4,q5,q6,q7,q8,q9⟩:=tr
 have z3:=(Zwd.mp q9).1
 have ot:∀b,b≠T->(s.heap.update T (Obj.mapFields (·.setIfInBounds 3 (fr.elim Value.none λf=>rawInt f)))).get? b=s.heap.get? b:=λb n=>Zxb _ _ (Zyj n)
 have nr:∀b o,s.heap.get? b=some o->(∀us,o.data≠.fields us)->b≠T:=λb o g n z=>by
  rw[z,q7] at g
  cases g
  exact n ts q8
 unfold setFlight
 refine wpAny_bind (wpAny_field q1 q3 q4 ?_)
 rw[if_pos (by simp:(Value.ref T != Value.none)=true)]
 have md:=Obj.data_mapFields q8 (·.setIfInBounds 3 (fr.elim Value.none λf=>rawInt f))
 refine wpAny_setField q7 q8 z3 (hq _ (λb o g=>?_) (kf.of_keeps λb o g n=>⟨o,(ot b (nr b o g n)).trans g,rfl⟩) ?_ λb o g n=>⟨o.slots,(ot b (nr b o g n)).trans g⟩)
 ·exact(ot b λz=>by rw[z,q5] at g;cases g).trans (kb b o g)
 ·exact⟨oe,vs,T,_,_,(ot e (Zyj q6)).trans q1,q2,q3,q4,q5,q6,Zvm _ q7 (Obj.isFreed_of_fields md),md,by simp[z3]⟩
theorem Wn{B:Heap}{env:Env}{outer:List Env}{L e:Addr}{cls a0 fl:Value}{Q:Unit->Shared->Prop}(fr:A.frames=some (env::outer))(hf:env.frame=some L)(kb:B.StaysIn s.heap)(be:B.get? e=none)(kf:s.heap.FunFrames B (env::outer))(tr:s.heap.TracedAtW B e cls a0 fl)
  (hq:∀h',Heap.FlyingW B outer e cls a0 h'->s.heap.UpToSlots h'->Q () {s with heap:=h'}):wpAny M A (leaving env (.ref e)) Q E s:=by
 have rest:∀s1:Shared,Heap.HeldW B (env::outer) e cls a0 L s1.heap->s.heap.UpToSlots s1.heap->(∀h',{s1 with heap:=h'}={s with heap:=h'})->wpAny M A (setFlight (.ref e) none) Q E s1:=λs1 hh up eq=>by
  refine wpAny_landsW hh λh' f u=>?_
  rw[eq]
  obtain⟨k1,k2,⟨_,_,k3⟩,k4⟩:=f
  exact hq h' ⟨k1,k2,k3,k4⟩ (up.trans u)
 unfold leaving
 by_cases c:(fl == rawInt L)=true
 ·rw[eq_of_beq c] at tr
  exact wpAny_bind (wpAny_noteFrame_againW hf tr (rest s ⟨kb,be,kf,tr⟩ (Heap.UpToSlots.refl _) λ_=>rfl))
 ·obtain⟨oe,vs,T,oT,ts,q1,⟨q2,q0⟩,q3,q4,q5,q6,q7,q8,q9⟩:=tr
  subst q2
  have ot:∀b,b≠T->(s.heap.update T (Obj.mapFields (·.setIfInBounds 3 Value.none))).get? b=s.heap.get? b:=λb n=>Zxb _ _ (Zyj n)
  have nr:∀b o,s.heap.get? b=some o->(∀us,o.data≠.fields us)->b≠T:=λb o g n z=>by
   rw[z,q7] at g
   cases g
   exact n ts q8
  refine wpAny_bind ?_
  unfold noteFrame
  simp only[hf]
  refine wpAny_bind (wpAny_field q1 q3 q4 ?_)
  rw[if_pos (by simp:(Value.ref T != Value.none)=true)]
  refine wpAny_bind (wpAny_field q7 q8 q9 ?_)
  rw[if_neg c]
  refine wpAny_bind (wpAny_setField q7 q8 (Zwd.mp q9).1 ?_)
  refine wpAny_entryW fr (kf.of_keeps λb o g n=>⟨o,(ot b (nr b o g n)).trans g,rfl⟩) hf ((ot e (Zyj q6)).trans q1) (λb o g=>?_) be q3 (Zwd.mp q4).1 q0 λh' ⟨x1,x2,x3,x4⟩=>?_
  ·exact(ot b λz=>by rw[z,q5] at g;cases g).trans (kb b o g)
  ·exact rest _ ⟨x1,be,x2,x3⟩ (λb o g n=>x4 b o ((ot b (nr b o g n)).trans g) n) λ_=>rfl
end
section
variable {B h h':Heap}{C e:Addr}{cls a0 fl:Value}
theorem N0{b:Addr}{o:Obj}(g:(hideAll B [C]).get? b=some o):b≠C/\B.get? b=some o:=⟨(λz=>by rw[z,hideAll_none [C] (by simp)] at g;cases g),of_hideAll _ g⟩
theorem Nm(sb:Zx1 C h h'):∀{l:List Env},C∉frs l->h.FunFrames B l->h'.FunFrames (hideAll B [C]) l
 |[],_,_=>trivial
 |env::r,n,⟨hk,⟨L,o,hf,hn,ho,hd⟩,hr⟩=>by
  have e:frs (env::r)=L::frs r:=by
   unfold frs
   rw[Zwb,hf]
  rw[e] at n
  have n1:L≠C:=λz=>n (by rw[z];exact Zzs)
  refine⟨hk,⟨L,o,hf,?_,(sb.2 L n1).trans ho,hd⟩,Nm sb (λz=>n (Zzi _ z)) hr⟩
  cases g:(hideAll B [C]).get? L with
  |none=>rfl
  |some o'=>rw[(N0 g).2] at hn;cases hn
theorem Tn(sb:Zx1 C h h')(n:∀o,h.get? C=some o->∀us,o.data≠.fields us)(t:h.TracedAtW B e cls a0 fl):h'.TracedAtW (hideAll B [C]) e cls a0 fl:=by
 obtain⟨oe,vs,T,oT,ts,q1,q2,q3,q4,q5,q6,q7,q8,q9⟩:=t
 have ne:e≠C:=λz=>n oe (by rw[<- z];exact q1) vs q3
 have nT:T≠C:=λz=>n oT (by rw[<- z];exact q7) ts q8
 refine⟨oe,vs,T,oT,ts,(sb.2 e ne).trans q1,q2,q3,q4,?_,q6,(sb.2 T nT).trans q7,q8,q9⟩
 cases g:(hideAll B [C]).get? T with
 |none=>rfl
 |some o=>rw[(N0 g).2] at q5;cases q5
theorem Fl.hide{P:Program}{w:World}{fs:List Addr}{H H':Hp}{h0:Heap}{a:Addr}(F:Fl P w fs H h0 a H' B h)(sb:Zx1 C h h')(n0:h0.objs.size<=C)(nC:H' C=none):Fl P w fs H h0 a H' (hideAll B [C]) h' where
 un:={
  keep:=λb o e n hb hx=>(sb.2 b (Ck (Zzc e) n0)).trans (F.un.keep b o e n hb hx)
  slot:=λb o e n hb hx=>by
   obtain⟨sl,q⟩:=F.un.slot b o e n hb hx
   exact⟨sl,(sb.2 b (Ck (Zzc e) n0)).trans q⟩
  free:=F.un.free
  there:=λb o e hx=>by
   obtain⟨o',q⟩:=F.un.there b o e hx
   exact⟨o',(sb.2 b (Ck (Zzc e) n0)).trans q⟩
  tups:=F.un.tups
  frzs:=F.un.frzs
  tbls:=F.un.tbls}
 hok:=λb u e=>(F.hok b u e).stay (λc o hc q=>(sb.2 c (by
  rcases hc with rfl | hc
  ·exact λz=>by rw[z,nC] at e;cases e
  ·exact λz=>by rw[z,nC] at hc;cases hc)).trans q) (λ_ q=>q) λ_ _ q=>q
 new:=F.new
 free:=F.free
 k1:=λb o e n hb=>hideAll_get _ (F.k1 b o e n hb) (by simpa using Ck (Zzc e) n0)
 k2:=λb o u e q=>by
  have nb:b≠C:=λz=>by rw[z,nC] at e;cases e
  rw[sb.2 b nb] at q
  exact hideAll_get _ (F.k2 b o u e q) (by simpa using nb)
 k3:=λb o e hb=>by
  obtain⟨o',q⟩:=F.k3 b o e hb
  exact⟨o',hideAll_get _ q (by simpa using Ck (Zzc e) n0)⟩
 fr:=F.fr
end
section
variable {prog:Program}{w:World}{A:Around}{R:Result->Shared->Prop}{s:Shared}
theorem M0{elt target iter:Expr}{ifs:List Expr}{scope:Scope}{pos:Pos}{it acc:Value}{env:Env}(I:Nat->Shared->Prop)
  (turn:∀n s,I n s->wpAny (model prog w) A (pyNext it) (λr s₁=>match r with
   |none=>R (.ok .next) s₁
   |some v=>wpAny (model prog w) A (letOwnedTupleGo target it v) (λ_ s₁'=>wpAny (model prog w) A (assign target env v) (λ_ s₂ =>
     wpAny (model prog w) A (forIn ifs true λc r=>if r=true then do let ok <- isTrue c env (eval c env);pure (ForInStep.yield ok) else pure (ForInStep.yield r)) (λok s₃ =>
      if ok=true then wpAny (model prog w) A (eval elt env) (λx s₄ =>
       wpAny (model prog w) A (call (.builtin "list.append") [acc,x]) (λ_ s₅=>∃m,m<n/\I m s₅) (λ_ _=>False) s₄) (notedBy (model prog w) A env λx s'=>R (.error x) s') s₃
      else ∃m,m<n/\I m s₃) (notedBy (model prog w) A env λx s'=>R (.error x) s') s₂) (notedBy (model prog w) A env λx s'=>R (.error x) s') s₁') (λ_ _=>False) s₁) (λ_ _=>False) s)
  (n:Nat) (h:I n s) :
  codeAny (model prog w) A (.compLoop (.ListComp elt [⟨target,iter,ifs,0⟩] scope pos) 0 it acc env) R s:=by
 refine codeAny_loop rfl I (λn s hI=>?_) n h
 show wpAny _ A ((compTurn (.ListComp elt [⟨target,iter,ifs,0⟩] scope pos) 0 it acc env).onRaise (λx=>do noteFrame x env;theTreesLotGoes x)) _ _ s
 refine wpAny_noted ?_
 rw[compTurn_list]
 refine wpAny_bind (wpAny_standAt (wpAny_bind (wpAny_mono (turn n s hI) (λr s₁ h₁=>?_) λ_ _ h'=>h'.elim)))
 cases r with
 |none=>exact wpAny_pure h₁
 |some v =>
  refine wpAny_bind (wpAny_mono h₁ (λ_ s₁' h₁'=>?_) λ_ _ h'=>h'.elim)
  refine wpAny_bind (wpAny_mono h₁' (λ_ s₂ h₂=>wpAny_bind (wpAny_mono h₂ (λok s₃ h₃=>?_) λ_ _ h'=>h')) λ_ _ h'=>h')
  cases ok with
  |false=>exact wpAny_pure ⟨rfl,h₃⟩
  |true =>
   exact wpAny_bind (wpAny_bind (wpAny_mono h₃ (λx s₄ h₄=>wpAny_bind (wpAny_mono h₄ (λ_ s₅ h₅=>wpAny_pure (wpAny_pure ⟨rfl,h₅⟩)) λ_ _ h'=>h'.elim)) λ_ _ h'=>h'))
end
def Yp(X:Cx)(C:Addr)(x:Value)(s':Shared):Prop:=∃m,s'.heap.Ns C m/\∀h',Zx1 C s'.heap h'->∀cenv:Env,cenv.locals=C->wpAny (model X.prog X.w) X.A (PySem.passOn "comprehension.variables-let-go" x cenv:Sem Value) (λ_ _=>False) X.xe {s' with heap:=h'}
def S7(X:Cx)(G:Value->Hp->Prop):Prop:=∀(pins:List (Addr×Obj)) (Z:St) (H:Hp) (s:Shared) (C:Addr) (e:Value) (s':Shared),Inv X pins Z H s->X.s₀.heap.objs.size<=C->C∉frs X.stack->H C=none->(∃m,s.heap.Ns C m)->CXE X.prog X.w X.stack H s (λcls _ H'=>G cls H') e s'->notedBy (model X.prog X.w) X.A X.env (Yp X C) e s'
section
variable {P:Program}{w:World}{K:Zzx}{mg:Str->Option Value}{base:Heap}{N:List Str}{qual:Str}{scope:Scope}{f:Addr}{cd:Value}{A:Around}{outer:List Env}{s:Shared}{H:Hp}{E:XK}
theorem Zf:S7 (Pl (CXE P w) P w K mg base N qual scope f cd A outer s H E) λcls H'=>E cls none H':=by
 rintro pins Z H1 s1 C e s2 I hC nst nH ⟨m,hns⟩ ⟨a,cls,H2,B,t,he,os,bare,F,fl,hE⟩
 subst he
 have hns':=hns
 obtain⟨oC,es,ep,gC,dC,rC⟩:=hns'
 refine wpAny_looks_onW (outer:=outer) I.ok.frames rfl fl λh' held up=>?_
 have F1:Fl P w (s.heap.objs.size::frs outer) H1 s1.heap a H2 B h':=F.on held.1 up
 have F2:=F1.out I.base (Zzt _) (Yn I)
 have gC':h'.get? C=some oC:=F1.un.keep C oC gC nH nst (by simp)
 have nC:H2 C=none:=F1.un.free C oC gC nH (by simp)
 refine⟨m,⟨oC,es,ep,gC',dC,rC⟩,λh2 sb cenv _=>?_⟩
 have F3:=F2.hide sb hC nC
 have tr:=Tn sb (λo g us z=>by rw[gC'] at g;cases g;rw[dC] at z;cases z) held.2.2.2
 have kf:=Nm (B:=B) sb nst held.2.2.1
 have kb:(hideAll B [C]).StaysIn h2:=λb o g=>(sb.2 b (N0 g).1).trans (held.1 b o (N0 g).2)
 have be:(hideAll B [C]).get? a=none:=by
  cases g:(hideAll B [C]).get? a with
  |none=>rfl
  |some o=>have:=(N0 g).2;rw[held.2.1] at this;cases this
 have tr':=tr
 obtain⟨oe,vs,T,oT,ts,q1,q2,q3,q4,_⟩:=tr'
 unfold PySem.passOn
 refine wpAny_bind (wpAny_field q1 q3 q4 ?_)
 rw[if_neg (by simp:¬ (Value.ref T == Value.none)=true)]
 refine wpAny_bind (ad kb kf tr λh3 k1 k2 k3 up3=>?_)
 refine wpAny_throw ?_
 refine Wn I.ok.frames rfl k1 be k2 k3 λh4 f4 up4=>?_
 exact⟨a,cls,H2,hideAll B [C],t,rfl,os.trans I.os,bare,(F3.on k1 up3).on f4.1 up4,f4,hE⟩
end
def Gs(X:Cx)(sc:Scope)(own:List Str)(cap:List Nat)(cl:List (Str×Addr))(C:Addr)(s:Shared)(H:Hp)(fp:List Addr)(pins:List (Addr×Obj))(xe:Value->Shared->Prop):Cx:={cxComp X sc own cap cl C s H fp pins with xe:=xe}
section
variable {X:Cx}{sc:Scope}{own:List Str}{cap:List Nat}{cl:List (Str×Addr)}{C:Addr}{s:Shared}{H:Hp}{fp:List Addr}{pins pl:List (Addr×Obj)}{xe:Value->Shared->Prop}
theorem dj(o:(cxComp X sc own cap cl C s H fp pins).Ok):(Gs X sc own cap cl C s H fp pins xe).Ok:=⟨o.mod,o.kind,o.glob,o.blt,o.above,o.inj,o.has,o.cab,o.hd,o.frames,o.stk,o.exf,o.bs,o.bsz,o.noex,o.exfs,o.funs,o.frf⟩
theorem dk(o:(Gs X sc own cap cl C s H fp pins xe).Ok):(cxComp X sc own cap cl C s H fp pins).Ok:=⟨o.mod,o.kind,o.glob,o.blt,o.above,o.inj,o.has,o.cab,o.hd,o.frames,o.stk,o.exf,o.bs,o.bsz,o.noex,o.exfs,o.funs,o.frf⟩
theorem Inv.toX{Z:St}{H':Hp}{s':Shared}(I:Inv (cxComp X sc own cap cl C s H fp pins) pl Z H' s'):Inv (Gs X sc own cap cl C s H fp pins xe) pl Z H' s':=⟨dj I.ok,I.os,I.bare,I.base,I.loc,I.cell,I.free,I.freeC,I.pin,I.hok,I.len⟩
theorem Inv.ofX{Z:St}{H':Hp}{s':Shared}(I:Inv (Gs X sc own cap cl C s H fp pins xe) pl Z H' s'):Inv (cxComp X sc own cap cl C s H fp pins) pl Z H' s':=⟨dk I.ok,I.os,I.bare,I.base,I.loc,I.cell,I.free,I.freeC,I.pin,I.hok,I.len⟩
end
section
variable {X:Cx}{pins:List (Addr×Obj)}{Z:St}{H:Hp}{s:Shared}{sc:Scope}{own:List Str}{cap:List Nat}{cl:List (Str×Addr)}{fp:List Addr}
theorem Ts{elt tg iter:Expr}{ifs:List Expr}{pos:Pos}{g:TG}{tt:TT}{te:TE}{E:Value->Shared->Prop}
  {it:Addr} {tn:Nat->Heap->Prop} {J:It} {Q:VK} {RR:Value->Addr->Result->Shared->Prop}
  (hc:X.calm=true) (S:Ks X.N X.env.scope sc own cap) (hown:Tv own.length g)
  (cl1:∀x c,cl.lookup x=some c->X.env.cells.lookup x=some c) (cl2:∀x,(x,Zy9)∈sc.names->∃c,cl.lookup x=some c)
  {G:Value->Hp->Prop} (hG:S7 X G) (hb:∀cl C s H fp pins xe,M2 (Gs X sc own cap cl C s H fp pins xe) (λcls _ H'=>G cls H')->PG (Gs X sc own cap cl C s H fp pins xe) tg g/\PTs (Gs X sc own cap cl C s H fp pins xe) ifs tt/\PE (Gs X sc own cap cl C s H fp pins xe) elt te)
  (I:Inv X pins Z H s) (T:P5 X.prog X.w X.K tg J fp it tn) (st:tn 0 s.heap) (f:∀b∈fp,Lj X pins H b)
  (W:Nat->Nat->List V->Hp->Prop) (w0:∃m,W 0 m [] H)
  (turn:∀i m acc H,W i m acc H->acc.length<=sizeLine/\((J.stop i H/\∀p,H p=none->Q (.ref p) (upd H p (.lst acc)))\/(J.go i H/\acc.length<sizeLine/\∃N:List V->Hp->Prop,(∀acc' H',N acc' H'->∃m',m'<m/\W (i+1) m' acc' H')/\∀x H',J.yld i H x H'->g x (Dj own cap Z) H' λσ2 H2=>tt σ2 H2 λb H3=>if b=true then te σ2 H3 λy H4=>N (acc++[y]) H4 else N acc H3)))
  (hRE:∀D C x s',Yp X C x s'->RR D C (.error x) s') (hRR:∀D C H' s',Inv X pins Z H' s'->(∃m,s'.heap.Ns C m)->Lj X pins H' C->Q (.ref D) H'->RR (.ref D) C (.ok .next) s') :
  wpAny (model X.prog X.w) X.A (newList []) (λacc s₃=>wpAny (model X.prog X.w) X.A (newFunctionEnv sc X.env.globals cl [] X.env.qual none .none (some X.env)) (λcenv s₄ =>
   codeAny (model X.prog X.w) X.A (.compStart (.ListComp elt [⟨tg,iter,ifs,0⟩] sc pos) 0 (.ref it) acc {cenv with scope:=relabel sc X.env}) (RR acc cenv.locals) s₄) E s₃) E s:=by
 refine wpAny_newObj_type (wpAny_newFunctionEnv S.nocell (by intro y hy;simp at hy) (λh₁ hns₁ hsb₁=>?_) S.kind)
 dsimp only at hns₁ hsb₁ ⊢
 generalize hH2:s.heap.push {cls:=.type "list",dict:=none,data:=.seq ([]:List Value).toArray}=H2 at hns₁ hsb₁ ⊢
 have hCs:H2.objs.size=s.heap.objs.size+1:=by rw[<- hH2,Zws]
 have hDC:s.heap.objs.size≠H2.objs.size:=by omega
 have hCle:s.heap.objs.size<=H2.objs.size:=by omega
 have old:∀b o,s.heap.get? b=some o->h₁.get? b=some o:=λb o e=>by
  exact hsb₁.extBut b o (Ck (Zzc e) hCle) (Zzj _ (hH2▸Zzj _ e))
 have hacc:h₁.get? s.heap.objs.size=some {cls:=.type "list",data:=.seq ([]:List Value).toArray 0}:=hsb₁.extBut _ _ hDC (Zzj _ (hH2▸Zyn _ rfl))
 have live:∀b∈fp,b<s.heap.objs.size:=λb hb=>by
  obtain⟨o,e,_⟩:=T.obj _ _ st b hb
  exact Zzc e
 have ok:=bq (C:=H2.objs.size) S cl1 cl2 I f live hCle
 let Y:Cx:=Gs X sc own cap cl H2.objs.size s H fp pins (notedBy (model X.prog X.w) X.A (compEnvC sc cl H2.objs.size X.env) λx s'=>RR (.ref s.heap.objs.size) H2.objs.size (.error x) s')
 have hDst:s.heap.objs.size∉frs X.stack:=λz=>by
  rcases Zzw.mp (I.stkSub _ z) with q | q
  ·exact Ck I.lt (Zzt _) q.symm
  ·exact I.nofs (Zzt _) q
 have fpX:∀(H':Hp) (pl:List (Addr×Obj)),(∀b∈fp,H' b=none)->(∀p∈pl,∀b∈fp,p.1≠b)->∀b∈fp,Lj (Y) pl H' b:=λH' pl hn hp b hb=>by
  obtain⟨f0,f1,f2,f3,f4,f5⟩:=f b hb
  refine⟨hn b hb,λz=>?_,λz=>?_,.inl hb,λx c e=>f4 x c (cl1 x c e),λp hpp=>?_⟩
  ·exact Ck (live b hb) hCle z
  ·rcases Zzw.mp (I.stkSub b z) with q | q
   ·exact f1 q
   ·exact f2 q
  ·rcases Zyq.mp hpp with q | q
   ·exact f5 p q
   ·exact hp p q b hb
 have hpass:M2 Y λcls _ H'=>G cls H':=by
  intro pl Z' H7 s7 e s8 J ex
  show wpAny _ _ (noteFrame e (compEnvC sc cl H2.objs.size X.env)) _ _ _
  rw[Zp (env:=X.env) (env':=compEnvC sc cl H2.objs.size X.env) rfl]
  have u:Un (frs X.stack) fp H H7 s.heap s7.heap:=J.base
  have IX:Inv X pins Z H7 s7:=I.call' (ch:=fp) J.os u J.hok J.bare λb hb=>by
   obtain⟨f0,f1,f2,f3,f4,f5⟩:=f b hb
   exact⟨f3,f1,f4,f5⟩
  have nst:H2.objs.size∉frs X.stack:=λz=>by
   rcases Zzw.mp (I.stkSub _ z) with q | q
   ·exact Ck I.lt hCle q.symm
   ·exact I.nofs hCle q
  obtain⟨m,hn,_⟩:=J.loc
  refine wpAny_mono (hG pins Z H7 s7 H2.objs.size e s8 IX (Zyu I.sz hCle) nst J.free ⟨m,hn⟩ ex) (λ_ s' q=>hRE _ _ _ _ q) λ_ s' q=>hRE _ _ _ _ q
 have loop:∀s₃:Shared,s₃={s with heap:=h₁,toks:=s.toks+([]:List (Str×Value)).length} ->
   codeAny (model X.prog X.w) X.A (.compLoop (.ListComp elt [⟨tg,iter,ifs,0⟩] sc pos) 0 (.ref it) (.ref s.heap.objs.size) (compEnvC sc cl H2.objs.size X.env))
    (RR (.ref s.heap.objs.size) H2.objs.size) s₃:=by
  rintro s₃ rfl
  obtain⟨m0,w0⟩:=w0
  obtain⟨hg,ht,he⟩:=hb cl H2.objs.size s H fp pins _ hpass
  have I0:Inv (Y) [] (Dj own cap Z) H {s with heap:=h₁,toks:=s.toks+([]:List (Str×Value)).length}:=(Ym S cl1 cl2 I ok hCle hns₁ old).toX
  refine M0 (λn s'=>∃i acc its nn H',Inv (Y) [] (Dj own cap Z) H' s'/\tn i s'.heap/\(∀b∈fp,H' b=none) /\
   s'.heap.get? s.heap.objs.size=some {cls:=.type "list",data:=.seq its.toArray nn}/\Vals acc its/\H' s.heap.objs.size=none/\W i n acc H') ?_ m0
   ⟨0,[],[],0,H,I0,T.keep _ _ _ st (λb _ o e=>old b o e),λb hb=>(f b hb).1,hacc,.nil,I.hok.fresh (Zzt _),w0⟩
  rintro n s3 ⟨i,acc,its,nn,H3,I3,st3,fr3,hD3,rv3,hDn,w3⟩
  obtain⟨hz,hcase⟩:=turn i n acc H3 w3
  have hpl:∀p∈[((s.heap.objs.size:Addr),({cls:=.type "list",data:=.seq its.toArray nn}:Obj))],∀b∈fp,p.1≠b:=λp hp b hb z=>by
   have e:p=_:=Zzk.mp hp
   rw[e] at z
   exact Ck (live b hb) (Zzt _) z.symm
  have I3':Inv (Y) [((s.heap.objs.size:Addr),({cls:=.type "list",data:=.seq its.toArray nn}:Obj))] (Dj own cap Z) H3 s3:=I3.pins_of λp hp=>by
   have e:p=_:=Zzk.mp hp
   subst e
   exact⟨hD3,hDn,hDC,hDst,λv z=>by cases z⟩
  rcases hcase with ⟨stop,fin⟩ | ⟨go,hlt,N,hN,step⟩
  ·refine thn (T.done (Y) rfl rfl rfl hc i _ s3 _ H3 _ I3' (fpX H3 _ fr3 hpl) st3 stop) λr s4 z0=>?_
   obtain⟨hr,I4⟩:=z0
   subst hr
   have hD4:=(I4.pin (_,_) (Zzl _ (Zzk.mpr rfl))).1
   obtain⟨J1,J2,J3⟩:=Vq I f hCle (Zzt _) hDC I4.ofX hDn hD4 rv3 hz
   exact hRR _ _ _ _ J1 J2 J3 (fin _ hDn)
  ·refine thn (T.item (Y) rfl rfl rfl hc i _ s3 _ H3 _ I3' (fpX H3 _ fr3 hpl) st3 go) λr s4 z0=>?_
   obtain⟨u,hr,h4⟩:=z0
   subst hr
   refine thn h4 λ_ s5 z0=>?_
   obtain⟨x,H5,I5,r5,y5,st5,fr5⟩:=z0
   have I5':=I5.pinned (fpX H5 _ fr5 hpl) (T.obj _ _ st5)
   refine thn (hg _ s5 _ H5 x u _ I5' r5 (hown _ _ _ _ (step x H5 y5))) λ_ s6 z0=>?_
   obtain⟨σ6,H6,I6,⟨hx1,hx2⟩,q6⟩:=z0
   refine thn (ht _ s6 σ6 H6 _ I6 q6) λb s7 z0=>?_
   obtain⟨H7,I7,q7⟩:=z0
   have wk:∀{H7:Hp} {s7:Shared} {pl:List (Addr×Obj)},Inv (Y) pl σ6 H7 s7->Inv (Y) pl (Dj own cap Z) H7 s7:=λI=>I.weak hx1.symm λj v e=>by
    rw[hx2 j (Nd e).1]
    exact e
   have stay:∀{H7:Hp} {s7:Shared} {σ7:St},Inv (Y) ([((s.heap.objs.size:Addr),({cls:=.type "list",data:=.seq its.toArray nn}:Obj))]++Lu fp s5.heap) σ7 H7 s7 ->
     tn (i+1) s7.heap/\(∀b∈fp,H7 b=none)/\s7.heap.get? s.heap.objs.size=some {cls:=.type "list",data:=.seq its.toArray nn}/\H7 s.heap.objs.size=none:=λ{H7 s7 σ7} I7=>by
    refine⟨T.keep _ _ _ st5 λb hb o e=>(I7.pin (b,o) (Zzl _ (Zzl _ (Jn hb e)))).1,λb hb=>?_,?_,?_⟩
    ·obtain⟨o,e,d⟩:=T.obj _ _ st5 b hb
     exact(I7.pin (b,o) (Zzl _ (Zzl _ (Jn hb e)))).2.1
    ·exact(I7.pin (_,_) (Zzl _ (Zxz _ (Zzk.mpr rfl)))).1
    ·exact(I7.pin (_,_) (Zzl _ (Zxz _ (Zzk.mpr rfl)))).2.1
   cases b with
   |false =>
    rw[if_neg Zz4] at q7 ⊢
    obtain⟨m',hm,w7⟩:=hN _ _ q7
    obtain⟨a1,a2,a3,a4⟩:=stay I7
    exact⟨m',hm,i+1,acc,its,nn,H7,(wk I7).pins_of (λp hp=>absurd hp (by simp)),a1,a2,a3,rv3,a4,w7⟩
   |true =>
    rw[if_pos rfl] at q7 ⊢
    refine thn (he _ s7 σ6 H7 _ I7 q7) λy s8 z0=>?_
    obtain⟨v,H8,I8,r8,n8⟩:=z0
    obtain⟨m',hm,w8⟩:=hN _ _ n8
    obtain⟨a1,a2,a3,a4⟩:=stay I8
    have hlen:=rv3.length
    refine call_meets F.slot_list_append ⟨_,a3,rfl⟩ F.entry_list_append (F.args_list_append_2 _ _) (PySem.list_append s.heap.objs.size its.toArray nn y (by rw[Zzn];omega)) ⟨a3,?_⟩
    obtain⟨n',q⟩:∃n',(s8.heap.update s.heap.objs.size (Obj.mapSeq (·.push y))).get? s.heap.objs.size=some {cls:=.type "list",data:=.seq (its++[y]).toArray n'}:=by
     have q:=PySem.IsL.update a3 (·.push y)
     have e:(its.toArray.push y)=(its++[y]).toArray:=by simp
     rw[<- e]
     exact⟨_,q⟩
    have I9:=(wk I8).pins_of (pins':=Lu fp s5.heap) λp hp=>(wk I8).pin p (Zzl _ (Zzl _ hp))
    have kk:∀b o,b≠s.heap.objs.size->s8.heap.get? b=some o->(s8.heap.update s.heap.objs.size (Obj.mapSeq (·.push y))).get? b=some o:=λb o hb e=>(Zxb s8.heap (Obj.mapSeq (·.push y)) (Zyj hb)).trans e
    refine⟨m',hm,i+1,acc++[v],its++[y],n',H8,(I9.pins_of (pins':=[]) λp hp=>absurd hp (by simp)).turned (it:=s.heap.objs.size) kk a4 hDC (.inr (Zzt _)) (λx c e z=>?_) (λp hp z=>?_),T.keep _ _ _ a1 λb hb o e=>kk b o (λz=>?_) e,a2,q,rv3.append (.cons r8 .nil),a4,w8⟩
    ·have e:=cl1 x c e
     obtain⟨w',o,ho,_⟩:=I.cell x c e
     exact Ck (Zzc ho) (Zzt _) z
    ·have hp:p∈(X.pn++pins)++[]:=hp
     rw[Zzq] at hp
     exact Ck (Zzc (I.pin p hp).1) (Zzt _) z
    ·exact Ck (live b hb) (Zzt _) z
 exact codeAny_compStart_list (loop _ rfl) (T.self _ 0 _ _ _ (T.keep _ _ _ st λb _ o e=>old b o e) (loop _ rfl))
theorem Ss{elt tg iter:Expr}{ifs:List Expr}{pos pos' spos:Pos}{wi:TI}{g:TG}{tt:TT}{te:TE}{i:Nat}{x:Str}(hc:X.calm=true)(S:Ks X.N X.env.scope sc own cap)(hown:Tv own.length g)(hN:X.N.Nodup)(hx:X.N[i]?=some x)(hl:X.env.scope.names.lookup x=some .local)(hi:PI X tg iter wi)
  {G:Value->Hp->Prop} (hG:S7 X G) (hb:∀cl C s H fp pins xe,M2 (Gs X sc own cap cl C s H fp pins xe) (λcls _ H'=>G cls H')->PG (Gs X sc own cap cl C s H fp pins xe) tg g/\PTs (Gs X sc own cap cl C s H fp pins xe) ifs tt/\PE (Gs X sc own cap cl C s H fp pins xe) elt te)
  (hsw:swapsWith (.ListComp elt [⟨tg,iter,ifs,0⟩] sc pos) (some (.Name x pos')) spos.line X.env=pure true:=by rfl)
  (hs:∀x,foldedSetIterable iter X.env x=pure x:=by intro _;rfl):PS X (.Assign [.Name x pos'] (.ListComp elt [⟨tg,iter,ifs,0⟩] sc pos) spos) (Ge (V6 own cap wi g tt te) (Cj i)):=by
 intro pins s Z H D I h
 obtain⟨cl,hcl,cl1,cl2⟩:=Jz (env:=X.env) (scope:=sc) λy hy hf=>I.ok.has y.1 (S.free y hy hf)
 rw[exec_Assign_Name_used _ _ _ _ hsw]
 refine wpAny_bind (wpAny_standAt (wpAny_bind ?_))
 show wpAny _ _ (do let _ <- comprehension (.ListComp elt [⟨tg,iter,ifs,0⟩] sc pos) sc X.env _ (newList []) false (eval iter X.env) (some (assign (.Name x pos') X.env))) _ _ s
 refine wpAny_bind (wpAny_mono (wpAny_comprehension_free (use:=some (assign (.Name x pos') X.env)) (Q:=λ_ s'=>SP X pins D .next s') rfl hs hcl S.kind S.names (thn (hi pins s Z H _ I h) λxv s1 h1=>thn h1 λitv s2 h2=>?_)) (λ_ s' hq=>wpAny_pure (wpAny_pure hq)) λ_ _ e=>e)
 obtain⟨it,fp,tn,J,H2,e,I2,T,st2,f2,W,w0,turn⟩:=h2
 subst e
 refine Ts (Q:=λx H1=>Cj i x Z H1 D.nx) (RR:=λacc C=>compPost (model X.prog X.w) X.A X.xe (some (assign (.Name x pos') X.env)) (λ_ s'=>SP X pins D .next s') acc C) hc S hown cl1 cl2 hG hb I2 T st2 f2 W w0 turn (λ_ _ _ _ q=>q) ?_
 intro L C H' s' J1 ⟨m,J2⟩ ⟨c0,c1,c2,c3,c4,c5⟩ q
 show wpAny _ _ (assign (.Name x pos') X.env (.ref L)) _ _ s'
 refine wpAny_assign_Name (N7 (v:=.ref L) J1 hN hx (.inl hl) rfl (λs'' J3 ⟨a,sb,ha⟩=>?_) (.inr hl))
 have hCa:C≠a:=by
  rcases ha with z | z
  ·rw[z];exact c1
  ·exact Zyj (c4 _ _ z)
 refine⟨m,J2.sameBut sb hCa,λh' sb'=>⟨_,H',J3.turned (t':=s''.toks) (λb o hb e=>(sb'.2 b hb).trans e) c0 c1 c3 c4 c5,q⟩⟩
end
end L2
namespace K53
open PySem L2 NP PySem.W
seal PE PA PT PS PSs PI PO PC PW
local macro_rules | `(tactic| walk_at "rd")=>do let xs:=("Ez tNext Gw E5 Ge Ha Dt Hi Cj Hf Gh tC tCB Dl tNil Dh tOp tUn Dk tB Hc tOr Gy Du Gx Dr tIf Gu Gz tSl Dq tNoPart tBA Hb Cu Cn tYes rI rI0 rU rEq rNe rIsA C7 rItem lenA Cz Ep Eh listA tupleA lenQ Hs Ht Ee Eo He Hd Hu rCat rCatTT Dv Dn Et Hy E3 E4 E7 tIf Dx Hv Es Er rEqD rNeD Hq Hn Hw Ct C5 Cw Cy Cv D0 C9 Hl Ej Ei E6 Em En Ec Hm rInsert Ek rCount C8 Ho rAppend rPopAt rReverse Ef rSetL L2.D5 Dj Bx C6 Cd Gv Co Cp Hh Ea Eb E8 E9 Gp rStrI rIntT Eg Ends.lose rRepX rPop Ed El rRepD rStrI rIntT rStrS rSplit rJoin Ds Dw D.ty Ac Af Ae Aa A7 Ab B0 Bc Bb Ay An Az B8 Bh Bg B6 Au B7 B3 Bf Be B1 Aq B2 At B5 B4 Ar Al As Ak Ap Ao Ai Ah Aj Ax Ba B9 Av Am Aw Cc C1 Cb By Bp Bz Zyf Zye Zyd Zyc Zz7 Zzg Zz6 Zz5 Zzp Zyr Zzq Zyz Zze Zzy Zyy Zz3 Zz9 Zyb Zzm Zzo Zyw exists_eq_left' exists_eq_left V.int.injEq V.bl.injEq V.str.injEq V.ref.injEq V.ty.injEq Zyp and_true true_and and_assoc exists_and_left exists_eq_right reduceCtorEq false_and and_false exists_false or_false false_or".splitOn " ").toArray.map λs=>Lean.mkIdent s.toName;`(tactic| simp only[$[$xs:ident],*,↓reduceIte])
def top(i:Nat):Stmt:=PySem.Challenge.pw_needplan_k53_refused_texts.main.body.getD i (.Pass ⟨0,0,0,0⟩)
abbrev Kc:Stmt:=top 26
abbrev Jj:Stmt:=top 27
abbrev Kd:Stmt:=top 28
abbrev Gm:Stmt:=top 29
abbrev Jk:Stmt:=top 30
abbrev Go:Stmt:=top 31
abbrev Gn:Stmt:=top 32
abbrev Fp:Stmt:=top 33
abbrev Kb:Stmt:=top 34
abbrev Iu:Stmt:=top 35
abbrev K8:Stmt:=top 36
abbrev Iq:Stmt:=top 37
abbrev K9:Stmt:=top 38
abbrev Ir:Stmt:=top 39
abbrev Ka:Stmt:=top 40
abbrev Jf:Stmt:=top 41
abbrev Gj:Stmt:=top 42
abbrev Fn:Stmt:=top 43
abbrev Ip:Stmt:=top 48
abbrev G8:Stmt:=top 49
abbrev Ij:Stmt:=top 50
abbrev Gi:Stmt:=top 51
abbrev Je:Stmt:=top 52
abbrev Ii:Stmt:=top 53
abbrev Fm:Stmt:=top 54
abbrev K7:Stmt:=top 55
abbrev Ji:Stmt:=top 57
abbrev Io:Stmt:=top 58
abbrev Gk:Stmt:=top 59
abbrev Il:Stmt:=top 60
abbrev Ik:Stmt:=top 61
abbrev Jg:Stmt:=top 62
abbrev Fo:Stmt:=top 63
abbrev Jh:Stmt:=top 64
abbrev Im:Stmt:=top 65
abbrev Gb:Stmt:=top 66
abbrev Ga:Stmt:=top 67
abbrev G9:Stmt:=top 68
abbrev Mn:Stmt:=top 69
structure Txt(mg:Str->Option Value):Prop where
 Zu5:mg "len" = none
 Zv4:mg "isinstance" = none
 Zub:mg "str" = none
 Zti:mg "all" = none
 Zse:mg "bool" = none
 Zsj:mg "int" = none
 Zuy:mg "tuple" = none
 Zsb:mg "zip" = none
 Zth:mg "range" = none
 Zsl:mg "enumerate" = none
 Zsd:mg "list" = none
 Zsn:mg "ValueError" = none
 Ztf:∃t,mg "COMING" = some (.int 5 t)
 Ztn:∃t,mg "FIGURES" = some (.str "0123456789" t)
 Zsz:∃t,mg "FLOOR" = some (.int 3 t)
 Zsy:∃t,mg "GIVES" = some (.int 2 t)
 Zso:∃t,mg "LAG" = some (.int 1 t)
 Ztz:∃t,mg "LAST_DAY" = some (.int 400 t)
 Ztm:∃t,mg "LETTERS" = some (.str "abcdefghijklmnopqrstuvwxyz" t)
 Ztu:∃t,mg "MEMBERS" = some (.int 7 t)
 Zu8:∃t,mg "MOST_COMING" = some (.int 12 t)
 Zuh:∃t,mg "MOST_FIGURES" = some (.int 60 t)
 Ztt:∃t,mg "MOST_LAG" = some (.int 30 t)
 Zug:∃t,mg "MOST_LETTERS" = some (.int 8 t)
 Zu4:∃t,mg "MOST_PARTS" = some (.int 6 t)
 Zu3:∃t,mg "MOST_WANTS" = some (.int 20 t)
 Zu2:∃t,mg "MOST_WARES" = some (.int 12 t)
 Zte:∃t,mg "NAME" = some (.int 0 t)
 Ztg:∃t,mg "PARTS" = some (.int 6 t)
 Zsx:∃t,mg "STOCK" = some (.int 4 t)
structure Cl where
 NeedError:Addr
 NoText:Addr
 NoShop:Addr
 Ring:Addr
 NoName:Addr
 NoDay:Addr
 NoBuy:Addr
 NoPlan:Addr
structure Exc(K:Zzx)(mg:Str->Option Value)(c:Cl):Prop where
 Zsk:mg "NeedError" = some (.ref c.NeedError)
 Ztd:mg "NoText" = some (.ref c.NoText)
 Zsm:mg "NoShop" = some (.ref c.NoShop)
 Zsc:mg "Ring" = some (.ref c.Ring)
 Zsi:mg "NoName" = some (.ref c.NoName)
 Zsg:mg "NoDay" = some (.ref c.NoDay)
 Zsf:mg "NoBuy" = some (.ref c.NoBuy)
 Zsh:mg "NoPlan" = some (.ref c.NoPlan)
 Zu1:Us K c.NoText=true
 Zur:Mf K c.NoText
 Zv2:exmOne K (.ref c.NoText) (.ref c.NeedError)=some true
 Zun:kitOne K (.ref c.NoText) (.ref c.NeedError)=some true
 Zuv:kitOne K (.ref c.NoText) (.ref c.NoText)=some true
 Zuu:kitOne K (.ref c.NoText) (.ref c.NoShop)=some false
 Zuo:kitOne K (.ref c.NoText) (.ref c.Ring)=some false
 Zut:kitOne K (.ref c.NoText) (.ref c.NoName)=some false
 Zuq:kitOne K (.ref c.NoText) (.ref c.NoDay)=some false
 Zup:kitOne K (.ref c.NoText) (.ref c.NoBuy)=some false
 Zus:kitOne K (.ref c.NoText) (.ref c.NoPlan)=some false
 Zv5:kitOne K (.ref c.NoText) (.type "ValueError")=some true
 Ztc:Us K c.NoShop=true
 Zu0:Mf K c.NoShop
 Zuw:exmOne K (.ref c.NoShop) (.ref c.NeedError)=some true
 Zum:kitOne K (.ref c.NoShop) (.ref c.NeedError)=some true
 Zul:kitOne K (.ref c.NoShop) (.ref c.NoText)=some false
 Zuk:kitOne K (.ref c.NoShop) (.ref c.NoShop)=some true
 Zu7:kitOne K (.ref c.NoShop) (.ref c.Ring)=some false
 Zuj:kitOne K (.ref c.NoShop) (.ref c.NoName)=some false
 Zuf:kitOne K (.ref c.NoShop) (.ref c.NoDay)=some false
 Zue:kitOne K (.ref c.NoShop) (.ref c.NoBuy)=some false
 Zui:kitOne K (.ref c.NoShop) (.ref c.NoPlan)=some false
 Zuz:kitOne K (.ref c.NoShop) (.type "ValueError")=some true
def N6(K:Zzx)(l:List (Str×Tok×Addr))(x:Str)(fs:List Str):Prop:=∃(a:Addr) (tl:List (Str×Tok)),M3 l x=.ref a/\TupK K a tl/\tl.map (·.1)=fs
def Rws(w:World)(K:Zzx)(mg:Str->Option Value):Prop:=∃(a:Addr) (l:List (Str×Tok×Addr)),mg "ROWS" = some (.ref a)/\TabK w K a l/\N6 K l "ware" ["name", "number", "number", "number", "number"]/\N6 K l "coming" ["name", "number", "number"]/\N6 K l "part" ["name", "name", "number"]/\N6 K l "want" ["name", "number", "number"]/\l.map (·.1)=(["ware", "coming", "part", "want"]:List Str)
def Vk:D->Bool
 |.int _=>true
 |_=>false
def Cm(d:D)(n:Int):Bool:=match d with
 |.int i=>decide (n<=i)
 |_=>false
def Cf(d:D)(n m:Int):Bool:=Cm d n&&match d with
 |.int i=>decide (i<=m)
 |_=>false
def Ic(d:D)(n m:Int):Bool:=match d with
 |.tup ds=>decide (n<=ds.length)&&decide ((ds.length:Int)<=m)
 |_=>false
def letters:List Nat:=("abcdefghijklmnopqrstuvwxyz" : Str).cps.toList
def Br(x:Str):Bool:=decide (1<=x.length)&&decide (x.length<=8)&&x.cps.toList.all λc=>decide (c∈letters)
def Jo:D->Bool
 |.str x=>Br x
 |_=>false
def unl(xs:List Str):Bool:=xs.all λx=>decide (xs.countP (λy=>decide (y=x))=1)
def Ew:D->Bool
 |.tup [a,b]=>Cf a 0 400&&Cm b 0
 |_=>false
def D6:D->Bool
 |.tup ds=>decide (ds.length<=12)&&ds.all Ew
 |_=>false
def isPart:D->Bool
 |.tup [a,b]=>Jo a&&Cm b 1
 |_=>false
def nameOf:D->Str
 |.tup (.str x::_)=>x
 |_ => ""
def G7:D->Bool
 |.tup ds=>decide (ds.length<=6)&&ds.all isPart&&unl (ds.map nameOf)
 |_=>false
def isWare:D->Bool
 |.tup [n,l,g,f,s,c,p]=>Jo n&&Cf l 0 30&&Cm g 1&&Cm f 0&&Cm s 0&&D6 c&&G7 p
 |_=>false
section
variable {P:Program}{w:World}{K:Zzx}{mg:Str->Option Value}{base:Heap}
def sp_is_whole:Sp:=λvs H Q _=>∃v d,vs=[v]/\Rep H d v/\∀H',Same H H'->Q (.bl (Vk d)) H'
theorem Sk:Bv ["found"] ["found"] (A6 Jj):=⟨rfl,rfl,rfl,by decide +kernel,rfl,by decide +kernel,by decide +kernel⟩
theorem Ta{f:Addr}{fd:FuncData}(F:Fun K "is_whole" "is_whole" Jj f fd)(T:Txt mg){c:Cl}(C:Exc K mg c):Dp P w K mg base CX0 1 f fd ["found"] sp_is_whole:=by
 refine F.ok Sk (λvs H Q E h=>?_) (λcdv A outer s H vs Q E hr h=>?_)
 ·obtain⟨v,d,rfl,_⟩:=h
  rfl
 ·obtain⟨v,d,rfl,hv,k⟩:=h
  refine⟨_,(A9 (Bm (Jm (Bn Ix rfl T.Zv4 Dc (A3 (pv 0) (A3 (Lc (v:=.ty "int") rfl T.Zsj V0 rfl) A2))) (Ki (cr (Bn Ix rfl T.Zv4 Dc (A3 (pv 0) (A3 (Lc (v:=.ty "bool") rfl T.Zse ai rfl) A2)))))))),?_⟩
  simp only[Ez,tNext,Gw,E5,Ge,Ha,Dt,Hi,Cj,Hf,Gh,tC,tCB,Dl,tNil,Dh,tOp,tUn,Dk,tB,Hc,tOr,Gy,Du,Gx,Dr,tIf,Gu,Gz,tSl,Dq,tNoPart,tBA,Hb,Cu,Cn,tYes,rI,rI0,rU,rEq,rNe,rIsA,C7,rItem,lenA,Cz,Ep,Eh,listA,tupleA,lenQ,Hs,Ht,Ee,Eo,He,Hd,Hu,rCat,rCatTT,Dv,Dn,Et,Hy,E3,E4,E7,tIf,Dx,Hv,Es,Er,rEqD,rNeD,Hq,Hn,Hw,Ct,C5,Cw,Cy,Cv,D0,C9,Hl,Ej,Ei,E6,Em,En,Ec,Hm,rInsert,Ek,rCount,C8,Ho,rAppend,rPopAt,rReverse,Ef,rSetL,L2.D5,Dj,Bx,C6,Cd,Gv,Co,Cp,Hh,Ea,Eb,E8,E9,Gp,rStrI,rIntT,Eg,Ends.lose,rRepX,rPop,Ed,El,rRepD,rStrI,rIntT,rStrS,rSplit,rJoin,Ds,Dw,  D.ty,Ac,Af,Ae,Aa,A7,Ab,B0,Bc,Bb,Ay,An,Az,B8,Bh,Bg,B6,Au,B7,B3,Bf,Be,B1,Aq,B2,At,B5,B4,Ar,Al,As,Ak,Ap,Ao,Ai,Ah,Aj,Ax,Ba,B9,Av,Am,Aw,Cc,C1,Cb,By,Bp,Bz,Zyf,Zye,Zyd,Zyc,Zz7,Zzg,Zz6,Zz5,↓reduceIte,Zzp,Zyr,Zzq,Zyz,Zze,Zzy,Zyy,Zz3,Zz9,Zyb,Zzm,Zzo,Zyw,exists_eq_left',exists_eq_left,V.int.injEq,V.bl.injEq,V.str.injEq,V.ref.injEq,V.ty.injEq,Zyp,and_true,true_and,and_assoc,exists_and_left,exists_eq_right,reduceCtorEq,false_and,and_false,exists_false,or_false,false_or,hv.ty]
  have k:=k H (Same.refl H)
  cases d<;>exact k
def sp_is_from:Sp:=λvs H Q _=>∃v d n,vs=[v,.int n]/\Rep H d v/\∀H',Same H H'->Q (.bl (Cm d n)) H'
theorem U6:Bv ["found", "least"] ["found", "least"] (A6 Kd):=⟨rfl,rfl,rfl,by decide +kernel,rfl,by decide +kernel,by decide +kernel⟩
theorem Ui{f:Addr}{fd:FuncData}(F:Fun K "is_from" "is_from" Kd f fd)(T:Txt mg){c:Cl}(C:Exc K mg c)(Zsw:Has P w K mg base "is_whole" 1 ["found"] sp_is_whole):Dp P w K mg base CX0 2 f fd ["found", "least"] sp_is_from:=by
 refine F.ok U6 (λvs H Q E h=>?_) (λcdv A outer s H vs Q E hr h=>?_)
 ·obtain⟨v,d,n,rfl,_⟩:=h
  rfl
 ·obtain⟨v,d,n,rfl,hv,k⟩:=h
  refine⟨_,(A9 (Bm (Jm (A8 Zsw (hr.mono (by decide)) rfl (A3 (pv 0) A2)) (Ki (J5 fu (pv 0) (pv 1) (Cg _)))))),?_⟩
  walk_at "rd"
  refine⟨v,d,rfl,hv,λH' s'=>?_⟩
  have k:=k H' s'
  cases d<;>simp only[Ez,tNext,Gw,E5,Ge,Ha,Dt,Hi,Cj,Hf,Gh,tC,tCB,Dl,tNil,Dh,tOp,tUn,Dk,tB,Hc,tOr,Gy,Du,Gx,Dr,tIf,Gu,Gz,tSl,Dq,tNoPart,tBA,Hb,Cu,Cn,tYes,rI,rI0,rU,rEq,rNe,rIsA,C7,rItem,lenA,Cz,Ep,Eh,listA,tupleA,lenQ,Hs,Ht,Ee,Eo,He,Hd,Hu,rCat,rCatTT,Dv,Dn,Et,Hy,E3,E4,E7,tIf,Dx,Hv,Es,Er,rEqD,rNeD,Hq,Hn,Hw,Ct,C5,Cw,Cy,Cv,D0,C9,Hl,Ej,Ei,E6,Em,En,Ec,Hm,rInsert,Ek,rCount,C8,Ho,rAppend,rPopAt,rReverse,Ef,rSetL,L2.D5,Dj,Bx,C6,Cd,Gv,Co,Cp,Hh,Ea,Eb,E8,E9,Gp,rStrI,rIntT,Eg,Ends.lose,rRepX,rPop,Ed,El,rRepD,rStrI,rIntT,rStrS,rSplit,rJoin,Ds,Dw,  D.ty,Ac,Af,Ae,Aa,A7,Ab,B0,Bc,Bb,Ay,An,Az,B8,Bh,Bg,B6,Au,B7,B3,Bf,Be,B1,Aq,B2,At,B5,B4,Ar,Al,As,Ak,Ap,Ao,Ai,Ah,Aj,Ax,Ba,B9,Av,Am,Aw,Cc,C1,Cb,By,Bp,Bz,Zyf,Zye,Zyd,Zyc,Zz7,Zzg,Zz6,Zz5,↓reduceIte,Zzp,Zyr,Zzq,Zyz,Zze,Zzy,Zyy,Zz3,Zz9,Zyb,Zzm,Zzo,Zyw,exists_eq_left',exists_eq_left,V.int.injEq,V.bl.injEq,V.str.injEq,V.ref.injEq,V.ty.injEq,Zyp,and_true,true_and,and_assoc,exists_and_left,exists_eq_right,reduceCtorEq,false_and,and_false,exists_false,or_false,false_or,Vk,Zy2]<;>try exact k
  rw[Rep] at hv
  exact⟨_,hv,k⟩
def sp_is_between:Sp:=λvs H Q _=>∃v d n m,vs=[v,.int n,.int m]/\Rep H d v/\∀H',Same H H'->Q (.bl (Cf d n m)) H'
theorem Pa:Bv ["found", "least", "most"] ["found", "least", "most"] (A6 Gm):=⟨rfl,rfl,rfl,by decide +kernel,rfl,by decide +kernel,by decide +kernel⟩
theorem Pg{f:Addr}{fd:FuncData}(F:Fun K "is_between" "is_between" Gm f fd)(T:Txt mg){c:Cl}(C:Exc K mg c)(Zv6:Has P w K mg base "is_from" 2 ["found", "least"] sp_is_from):Dp P w K mg base CX0 3 f fd ["found", "least", "most"] sp_is_between:=by
 refine F.ok Pa (λvs H Q E h=>?_) (λcdv A outer s H vs Q E hr h=>?_)
 ·obtain⟨v,d,n,m,rfl,_⟩:=h
  rfl
 ·obtain⟨v,d,n,m,rfl,hv,k⟩:=h
  refine⟨_,(A9 (Bm (Jm (A8 Zv6 (hr.mono (by decide)) rfl (A3 (pv 0) (A3 (pv 1) A2))) (Ki (J5 Oh (pv 0) (pv 2) (Cg _)))))),?_⟩
  walk_at "rd"
  refine⟨v,d,n,rfl,hv,λH' s'=>?_⟩
  have k:=k H' s'
  walk_at "rd"
  refine Fj (λh=>?_) (λh=>?_)
  ·cases d<;>try exact absurd h Zz4
   rw[Rep] at hv
   refine⟨_,hv,?_⟩
   unfold Cf at k
   rw[h,Zyl] at k
   exact k
  ·unfold Cf at k
   rw[Zy0.mpr h,Zyt] at k
   exact k
def sp_is_tuple:Sp:=λvs H Q _=>∃v d n m,vs=[v,.int n,.int m]/\Rep H d v/\∀H',Same H H'->Q (.bl (Ic d n m)) H'
theorem Sl:Bv ["found", "least", "most"] ["found", "least", "most"] (A6 Jk):=⟨rfl,rfl,rfl,by decide +kernel,rfl,by decide +kernel,by decide +kernel⟩
theorem Tb{f:Addr}{fd:FuncData}(F:Fun K "is_tuple" "is_tuple" Jk f fd)(T:Txt mg){c:Cl}(C:Exc K mg c):Dp P w K mg base CX0 1 f fd ["found", "least", "most"] sp_is_tuple:=by
 refine F.ok Sl (λvs H Q E h=>?_) (λcdv A outer s H vs Q E hr h=>?_)
 ·obtain⟨v,d,n,m,rfl,_⟩:=h
  rfl
 ·obtain⟨v,d,n,m,rfl,hv,k⟩:=h
  refine⟨_,(A9 (Bm (Jm (Bn Ix rfl T.Zv4 Dc (A3 (pv 0) (A3 (Lc (v:=.ty "tuple") rfl T.Zuy Ey rfl) A2))) (Ki (Xl Oh Oh (pv 1) (Bn call_lenA rfl T.Zu5 J9 (A3 (pv 0) A2)) (pv 2)))))),?_⟩
  simp only[Ez,tNext,Gw,E5,Ge,Ha,Dt,Hi,Cj,Hf,Gh,tC,tCB,Dl,tNil,Dh,tOp,tUn,Dk,tB,Hc,tOr,Gy,Du,Gx,Dr,tIf,Gu,Gz,tSl,Dq,tNoPart,tBA,Hb,Cu,Cn,tYes,rI,rI0,rU,rEq,rNe,rIsA,C7,rItem,lenA,Cz,Ep,Eh,listA,tupleA,lenQ,Hs,Ht,Ee,Eo,He,Hd,Hu,rCat,rCatTT,Dv,Dn,Et,Hy,E3,E4,E7,tIf,Dx,Hv,Es,Er,rEqD,rNeD,Hq,Hn,Hw,Ct,C5,Cw,Cy,Cv,D0,C9,Hl,Ej,Ei,E6,Em,En,Ec,Hm,rInsert,Ek,rCount,C8,Ho,rAppend,rPopAt,rReverse,Ef,rSetL,L2.D5,Dj,Bx,C6,Cd,Gv,Co,Cp,Hh,Ea,Eb,E8,E9,Gp,rStrI,rIntT,Eg,Ends.lose,rRepX,rPop,Ed,El,rRepD,rStrI,rIntT,rStrS,rSplit,rJoin,Ds,Dw,  D.ty,Ac,Af,Ae,Aa,A7,Ab,B0,Bc,Bb,Ay,An,Az,B8,Bh,Bg,B6,Au,B7,B3,Bf,Be,B1,Aq,B2,At,B5,B4,Ar,Al,As,Ak,Ap,Ao,Ai,Ah,Aj,Ax,Ba,B9,Av,Am,Aw,Cc,C1,Cb,By,Bp,Bz,Zyf,Zye,Zyd,Zyc,Zz7,Zzg,Zz6,Zz5,↓reduceIte,Zzp,Zyr,Zzq,Zyz,Zze,Zzy,Zyy,Zz3,Zz9,Zyb,Zzm,Zzo,Zyw,exists_eq_left',exists_eq_left,V.int.injEq,V.bl.injEq,V.str.injEq,V.ref.injEq,V.ty.injEq,Zyp,and_true,true_and,and_assoc,exists_and_left,exists_eq_right,reduceCtorEq,false_and,and_false,exists_false,or_false,false_or,hv.ty]
  have k:=k H (Same.refl H)
  cases d with
  |tup ds =>
   rw[Rep] at hv
   obtain⟨a,xs,rfl,ha,hz,r⟩:=hv
   walk_at "rd"
   refine .inl ⟨xs,.inr ha,?_⟩
   rw[r.length]
   have k:Q (V.bl (decide (n<=ds.length)&&decide ((ds.length:Int)<=m))) H:=k
   refine Fj (λh=>?_) (λh=>?_)
   ·rw[h,Zyl] at k
    exact k
   ·rw[Zy0.mpr h,Zyt] at k
    exact k
  |_=>exact k
def sp_is_name:Sp:=λvs H Q _=>∃v d,vs=[v]/\Rep H d v/\∀H',Same H H'->Q (.bl (Jo d)) H'
theorem U5:Bv ["found"] ["found"] (A6 Kc):=⟨rfl,rfl,rfl,by decide +kernel,rfl,by decide +kernel,by decide +kernel⟩
theorem Uh{f:Addr}{fd:FuncData}(F:Fun K "is_name" "is_name" Kc f fd)(T:Txt mg){c:Cl}(C:Exc K mg c):Dp P w K mg base CX0 1 f fd ["found"] sp_is_name:=by
 refine F.ok U5 (λvs H Q E h=>?_) (λcdv A outer s H vs Q E hr h=>?_)
 ·obtain⟨v,d,rfl,_⟩:=h
  rfl
 ·obtain⟨v,d,rfl,hv,k⟩:=h
  have hu:=Di hr
  refine⟨_,(A5 (D9 (PW.pt (Lq (Dz (F0 (Bn Ix rfl T.Zv4 Dc (A3 (pv 0) (A3 (Lc (v:=.ty "str") rfl T.Zub Ig rfl) A2))))) (Lb (Dz (Sr Oh Oh A4 (Bn call_lenA rfl T.Zu5 J9 (A3 (pv 0) A2)) (D1 rfl T.Zug)))))) (A9 (Bm Gd)) Ca)
 (A9 (Bm (Bn (J8 rfl) rfl T.Zti Li (A3 (D8 (own:=["sign"]) (cap:=[]) rfl (Fu rfl) (C3 (by decide)) (Kw (pv 0))
 (λ_ _ _ _ _ _=>⟨(Bq (i:=0) (of_decide_eq_true rfl) rfl (Zz0 rfl) (.inr rfl)),D7,(J5 (Oi hu) (pv 0) (Su rfl T.Ztm) rfl)⟩)) A2))))),?_⟩
  simp only[Ez,tNext,Gw,E5,Ge,Ha,Dt,Hi,Cj,Hf,Gh,tC,tCB,Dl,tNil,Dh,tOp,tUn,Dk,tB,Hc,tOr,Gy,Du,Gx,Dr,tIf,Gu,Gz,tSl,Dq,tNoPart,tBA,Hb,Cu,Cn,tYes,rI,rI0,rU,rEq,rNe,rIsA,C7,rItem,lenA,Cz,Ep,Eh,listA,tupleA,lenQ,Hs,Ht,Ee,Eo,He,Hd,Hu,rCat,rCatTT,Dv,Dn,Et,Hy,E3,E4,E7,tIf,Dx,Hv,Es,Er,rEqD,rNeD,Hq,Hn,Hw,Ct,C5,Cw,Cy,Cv,D0,C9,Hl,Ej,Ei,E6,Em,En,Ec,Hm,rInsert,Ek,rCount,C8,Ho,rAppend,rPopAt,rReverse,Ef,rSetL,L2.D5,Dj,Bx,C6,Cd,Gv,Co,Cp,Hh,Ea,Eb,E8,E9,Gp,rStrI,rIntT,Eg,Ends.lose,rRepX,rPop,Ed,El,rRepD,rStrI,rIntT,rStrS,rSplit,rJoin,Ds,Dw,  D.ty,Ac,Af,Ae,Aa,A7,Ab,B0,Bc,Bb,Ay,An,Az,B8,Bh,Bg,B6,Au,B7,B3,Bf,Be,B1,Aq,B2,At,B5,B4,Ar,Al,As,Ak,Ap,Ao,Ai,Ah,Aj,Ax,Ba,B9,Av,Am,Aw,Cc,C1,Cb,By,Bp,Bz,Zyf,Zye,Zyd,Zyc,Zz7,Zzg,Zz6,Zz5,↓reduceIte,Zzp,Zyr,Zzq,Zyz,Zze,Zzy,Zyy,Zz3,Zz9,Zyb,Zzm,Zzo,Zyw,exists_eq_left',exists_eq_left,V.int.injEq,V.bl.injEq,V.str.injEq,V.ref.injEq,V.ty.injEq,Zyp,and_true,true_and,and_assoc,exists_and_left,exists_eq_right,reduceCtorEq,false_and,and_false,exists_false,or_false,false_or,hv.ty]
  cases d with
  |str x =>
   rw[Rep] at hv
   obtain⟨rfl,hx⟩:=hv
   simp only[Ez,tNext,Gw,E5,Ge,Ha,Dt,Hi,Cj,Hf,Gh,tC,tCB,Dl,tNil,Dh,tOp,tUn,Dk,tB,Hc,tOr,Gy,Du,Gx,Dr,tIf,Gu,Gz,tSl,Dq,tNoPart,tBA,Hb,Cu,Cn,tYes,rI,rI0,rU,rEq,rNe,rIsA,C7,rItem,lenA,Cz,Ep,Eh,listA,tupleA,lenQ,Hs,Ht,Ee,Eo,He,Hd,Hu,rCat,rCatTT,Dv,Dn,Et,Hy,E3,E4,E7,tIf,Dx,Hv,Es,Er,rEqD,rNeD,Hq,Hn,Hw,Ct,C5,Cw,Cy,Cv,D0,C9,Hl,Ej,Ei,E6,Em,En,Ec,Hm,rInsert,Ek,rCount,C8,Ho,rAppend,rPopAt,rReverse,Ef,rSetL,L2.D5,Dj,Bx,C6,Cd,Gv,Co,Cp,Hh,Ea,Eb,E8,E9,Gp,rStrI,rIntT,Eg,Ends.lose,rRepX,rPop,Ed,El,rRepD,rStrI,rIntT,rStrS,rSplit,rJoin,Ds,Dw,  D.ty,Ac,Af,Ae,Aa,A7,Ab,B0,Bc,Bb,Ay,An,Az,B8,Bh,Bg,B6,Au,B7,B3,Bf,Be,B1,Aq,B2,At,B5,B4,Ar,Al,As,Ak,Ap,Ao,Ai,Ah,Aj,Ax,Ba,B9,Av,Am,Aw,Cc,C1,Cb,By,Bp,Bz,Zyf,Zye,Zyd,Zyc,Zz7,Zzg,Zz6,Zz5,↓reduceIte,Zzp,Zyr,Zzq,Zyz,Zze,Zzy,Zyy,Zz3,Zz9,Zyb,Zzm,Zzo,Zyw,exists_eq_left',exists_eq_left,V.int.injEq,V.bl.injEq,V.str.injEq,V.ref.injEq,V.ty.injEq,Zyp,and_true,true_and,and_assoc,exists_and_left,exists_eq_right,reduceCtorEq,false_and,and_false,exists_false,or_false,false_or,Zxn,Zy2,V.str.injEq]
   refine⟨Bi hx,Fj (λh1=>Fj (λh2=>?_) (λh2=>?_)) (λh1=>?_)⟩
   ·have e:Jo (.str x)=false:=by
     show Br x=false
     unfold Br
     have:¬ (x.length<=8):=by
      simp at h2
      omega
     simp[this]
    have k:=k H (Same.refl H)
    rw[e] at k
    exact k
   ·have e1:decide (1<=x.length)=true:=decide_eq_true (by have:=of_decide_eq_true h1;omega)
    have e2:decide (x.length<=8)=true:=decide_eq_true (by simp at h2;omega)
    refine Df (Yd x) (Bi hx) (λ_ _=>trivial) ((x.cps.toList.map λc=>decide (c∈letters)).map V.bl) (by simp) (λi y H' hi hy s' N M hN=>?_) (λH' s' p hp=>?_)
    ·obtain⟨c,hc,rfl⟩:=hy
     walk_at "rd"
     refine⟨_,.inr (.inl ⟨_,_,rfl,rfl,rfl⟩),?_⟩
     rw[StrLaws.found_one]
     refine hN _ _ s' ?_
     rw[Zzv,Zzv,Zwy,hc]
     rfl
    ·refine⟨p,rfl,_,A1,?_⟩
     have k:=k _ (s'.trans (A0 (o:=.lst ((x.cps.toList.map λc=>decide (c∈letters)).map V.bl)) hp))
     have e:Jo (.str x)=(Zvo (λc=>decide (c∈letters)) x.cps.toList).all id:=by
      show Br x=_
      unfold Br
      rw[e1,e2,Zxg]
      rfl
     rw[e] at k
     exact k
   ·rw[if_pos (by rfl)]
    have e:Jo (.str x)=false:=by
     show Br x=false
     unfold Br
     have:¬ (1<=x.length):=by
      simp at h1
      omega
     simp[this]
    have k:=k H (Same.refl H)
    rw[e] at k
    exact k
  |_=>exact k H (Same.refl H)
def sp_are_unlike:Sp:=λvs H Q _=>∃a xs,vs=[.ref a]/\H a=some (.lst (xs.map V.str))/\xs.length<=1000/\∀H',Same H H'->Q (.bl (unl xs)) H'
theorem Pc:Bv ["names"] ["names"] (A6 Go):=⟨rfl,rfl,rfl,by decide +kernel,rfl,by decide +kernel,by decide +kernel⟩
theorem Pi{f:Addr}{fd:FuncData}(F:Fun K "are_unlike" "are_unlike" Go f fd)(T:Txt mg){c:Cl}(C:Exc K mg c):Dp P w K mg base CX0 1 f fd ["names"] sp_are_unlike:=by
 refine F.ok Pc (λvs H Q E h=>?_) (λcdv A outer s H vs Q E hr h=>?_)
 ·obtain⟨a,xs,rfl,_⟩:=h
  rfl
 ·obtain⟨a,xs,rfl,ha,hx,k⟩:=h
  have hu:=Di hr
  refine⟨_,(A9 (Bm (Bn (J8 rfl) rfl T.Zti Li (A3 (D8 (own:=["name"]) (cap:=[0]) rfl (Fu rfl) (C3 (by decide)) (Kv (pv 0))
 (λ_ _ _ _ _ _=>⟨(Bq (i:=0) (of_decide_eq_true rfl) rfl (Zz0 rfl) (.inr rfl)),D7,(J5 (E2 hu) (Da Zym PySem.F.slot_list_count PySem.F.type_list_count Y2 (pv 1) (A3 (pv 0) A2)) A4 (Cg _))⟩)) A2)))),?_⟩
  walk_at "rd"
  refine⟨_,ha,?_⟩
  refine Df (Ln a _) (by rw[Zzz];exact Bi hx) (λH' s'=>s' _ _ ha) ((xs.map λx=>decide (xs.countP (λy=>decide (y=x))=1)).map V.bl) (by simp) (λi y H' hi hy s' N M hN=>?_) (λH' s' p hp=>?_)
  ·rw[Zzv] at hy
   cases e:xs[i]? with
   |none=>rw[e] at hy;cases hy
   |some z =>
    rw[e] at hy
    cases hy
    walk_at "rd"
    have ha':=s' _ _ ha
    refine⟨by unfold Km;simp only[ha'],_,ha',rfl,by simp[Kk],rfl,hN _ _ s' ?_⟩
    rw[Zzv,Zzv,e]
    show some (V.bl _)=some (V.bl _)
    congr 2
    rw[List.countP_map]
    show decide (List.countP (λy=>decide (y=z)) xs=1)=decide (((List.countP ((λw=>eqV w (V.str z))∘V.str) xs:Nat):Int)=1)
    have e2:((λw=>eqV w (V.str z))∘V.str)=λy=>decide (y=z):=by
     funext y
     show (y == z)=decide (y=z)
     rw[Bool.beq_eq_decide_eq]
    rw[e2]
    rw[Zwa]
    simp
    omega
  ·refine⟨p,rfl,_,A1,?_⟩
   have k:=k _ (s'.trans (A0 (o:=.lst ((xs.map λx=>decide (xs.countP (λy=>decide (y=x))=1)).map V.bl)) hp))
   unfold unl at k
   rw[Zxg]
   exact k
theorem Iz{H:Hp}{ds:List D}{v:V}(h:Rep H (.tup ds) v):∃a xs,v=.ref a/\H a=some (.tup xs)/\xs.length=ds.length/\ds.length<=1000/\∀(i:Nat) (d:D),ds[i]?=some d->∃x,xs[i]?=some x/\Rep H d x:=by
 rw[Rep] at h
 obtain⟨a,xs,e,ha,hz,r⟩:=h
 exact⟨a,xs,e,ha,r.length,hz,λi d e=>r.get' e⟩
def sp_is_arrival:Sp:=λvs H Q _=>∃v d,vs=[v]/\Rep H d v/\∀H',Same H H'->Q (.bl (Ew d)) H'
theorem Lx{d:D}(h:Ic d 2 2=true):∃a b,d=.tup [a,b]:=by
 cases d with
 |tup ds =>
  have h:(decide ((2:Int)<=ds.length)&&decide ((ds.length:Int)<=2))=true:=h
  rw[Zzf] at h
  have h1:=of_decide_eq_true h.1
  have h2:=of_decide_eq_true h.2
  match ds,h1,h2 with
  |[a,b],_,_=>exact⟨a,b,rfl⟩
  |[],h1,_=>simp at h1
  |[_],h1,_=>simp at h1
  |_::_::_::r,_,h2=>simp at h2;omega
 |_=>cases h
theorem Vg{d:D}(h:¬ Ic d 2 2=true):∀a b,d≠.tup [a,b]:=λa b e=>h (by rw[e];rfl)
theorem Pb:Bv ["found"] ["found"] (A6 Gn):=⟨rfl,rfl,rfl,by decide +kernel,rfl,by decide +kernel,by decide +kernel⟩
theorem Ph{f:Addr}{fd:FuncData}(F:Fun K "is_arrival" "is_arrival" Gn f fd)(T:Txt mg){c:Cl}(C:Exc K mg c)(Zv6:Has P w K mg base "is_from" 2 ["found", "least"] sp_is_from)(Zv1:Has P w K mg base "is_between" 3 ["found", "least", "most"] sp_is_between)(Zv9:Has P w K mg base "is_tuple" 1 ["found", "least", "most"] sp_is_tuple):Dp P w K mg base CX0 4 f fd ["found"] sp_is_arrival:=by
 refine F.ok Pb (λvs H Q E h=>?_) (λcdv A outer s H vs Q E hr h=>?_)
 ·obtain⟨v,d,rfl,_⟩:=h
  rfl
 ·obtain⟨v,d,rfl,hv,k⟩:=h
  have hu:=Di hr
  refine⟨_,(A9 (Bm (Jm (A8 Zv9 (hr.mono (by decide)) rfl (A3 (pv 0) (A3 A4 (A3 A4 A2)))) (Jm (A8 Zv1 (hr.mono (by decide)) rfl (A3 (Ag hu (pv 0) A4 (λ_ _=>rfl)) (A3 A4 (A3 (D1 rfl T.Ztz) A2)))) (Ki (A8 Zv6 (hr.mono (by decide)) rfl (A3 (Ag hu (pv 0) A4 (λ_ _=>rfl)) (A3 A4 A2)))))))),?_⟩
  walk_at "rd"
  refine⟨v,d,2,2,rfl,hv,λH1 s1=>?_⟩
  walk_at "rd"
  refine Fj (λh=>?_) (λh=>?_)
  ·obtain⟨x,y,rfl⟩:=Lx h
   obtain⟨a,xs,rfl,ha,hl,hz,g⟩:=Iz hv
   obtain⟨vx,ex,rx⟩:=g 0 x rfl
   obtain⟨vy,ey,ry⟩:=g 1 y rfl
   refine⟨vx,Ch (j:=0) (s1 _ _ ha) ex,vx,x,0,400,rfl,rx.same s1,λH2 s2=>?_⟩
   walk_at "rd"
   refine Fj (λh2=>?_) (λh2=>?_)
   ·refine⟨vy,Ch (j:=1) (s2 _ _ (s1 _ _ ha)) ey,vy,y,0,rfl,ry.same (s1.trans s2),λH3 s3=>?_⟩
    have k:=k H3 ((s1.trans s2).trans s3)
    have e:Ew (.tup [x,y])=Cm y 0:=by
     show (Cf x 0 400&&Cm y 0)=_
     rw[h2,Zyl]
    rw[e] at k
    exact k
   ·have k:=k H2 (s1.trans s2)
    have e:Ew (.tup [x,y])=false:=by
     show (Cf x 0 400&&Cm y 0)=_
     rw[Zy0.mpr h2,Zyt]
    rw[e] at k
    exact k
  ·have k:=k H1 s1
   have e:Ew d=false:=by
    unfold Ew
    split
    ·exact absurd rfl (Vg h _ _)
    ·rfl
   rw[e] at k
   exact k
theorem Mb{H:Hp}{ds:List D}{xs:List V}{a:Addr}{p:D->Bool}{te:TE}{own:List Str}{cap:List Nat}{Z:St}{Q:VK}(ha:H a=some (.tup xs))(r:Reps H ds xs)(hz:ds.length<=1000)
  (hs:∀x d H',Rep H' d x->Same H H'->∀N:V->Hp->Prop,(∀H4,Same H' H4->N (.bl (p d)) H4)->te ((Dj own cap Z).set 0 (some x)) H' N)
  (hd:∀a' H',Same H H'->H' a'=some (.lst ((ds.map p).map V.bl))->Q (.ref a') H'):Vw (ItT a xs) own cap (Cj 0) tYes te Z H Q:=by
 refine Df (L5 a xs) (by rw[r.length];exact Bi hz) (λH' s'=>s' _ _ ha) ((ds.map p).map V.bl) (by simp[r.length]) (λi y H' hi hy s' N M hN=>?_) (λH' s' q hq=>?_)
 ·obtain⟨d,hd,rd⟩:=r.get hy
  show if true=true then te _ H' N else M H'
  rw[if_pos rfl]
  refine hs y d H' (rd.same s') s' N λH4 s4=>hN _ _ (s'.trans s4) ?_
  rw[Zzv,Zzv,hd]
  rfl
 ·exact hd q _ (s'.trans (A0 hq)) A1
theorem Gq{d:D}{n m:Int}(h:Ic d n m=true):∃ds,d=.tup ds/\n<=ds.length/\(ds.length:Int)<=m:=by
 cases d with
 |tup ds =>
  have h:(decide (n<=ds.length)&&decide ((ds.length:Int)<=m))=true:=h
  rw[Zzf] at h
  exact⟨ds,rfl,of_decide_eq_true h.1,of_decide_eq_true h.2⟩
 |_=>cases h
def sp_are_arrivals:Sp:=λvs H Q _=>∃v d,vs=[v]/\Rep H d v/\∀H',Same H H'->Q (.bl (D6 d)) H'
theorem Nq:Bv ["found"] ["found"] (A6 Fp):=⟨rfl,rfl,rfl,by decide +kernel,rfl,by decide +kernel,by decide +kernel⟩
theorem Nw{f:Addr}{fd:FuncData}(F:Fun K "are_arrivals" "are_arrivals" Fp f fd)(T:Txt mg){c:Cl}(C:Exc K mg c)(Ztb:Has P w K mg base "is_arrival" 4 ["found"] sp_is_arrival)(Zv9:Has P w K mg base "is_tuple" 1 ["found", "least", "most"] sp_is_tuple):Dp P w K mg base CX0 5 f fd ["found"] sp_are_arrivals:=by
 refine F.ok Nq (λvs H Q E h=>?_) (λcdv A outer s H vs Q E hr h=>?_)
 ·obtain⟨v,d,rfl,_⟩:=h
  rfl
 ·obtain⟨v,d,rfl,hv,k⟩:=h
  have hu:=Di hr
  refine⟨_,(A9 (Bm (Jm (A8 Zv9 (hr.mono (by decide)) rfl (A3 (pv 0) (A3 A4 (A3 (D1 rfl T.Zu8) A2)))) (Ki (Bn (J8 rfl) rfl T.Zti Li (A3 (D8 (own:=["arrival"]) (cap:=[]) rfl (Fu rfl) (C3 (by decide)) (Kw (pv 0))
 (λ_ _ _ _ _ _=>⟨(Bq (i:=0) (of_decide_eq_true rfl) rfl (Zz0 rfl) (.inr rfl)),D7,(A8 Ztb (hr.mono (by decide)) rfl (A3 (pv 0) A2))⟩)) A2)))))),?_⟩
  walk_at "rd"
  refine⟨v,d,0,12,rfl,hv,λH1 s1=>?_⟩
  walk_at "rd"
  refine Fj (λh=>?_) (λh=>?_)
  ·obtain⟨ds,rfl,_,hn⟩:=Gq h
   have hv1:=hv.same s1
   rw[Rep] at hv1
   obtain⟨a,xs,rfl,ha,hz,r⟩:=hv1
   walk_at "rd"
   refine .inr ⟨xs,ha,?_⟩
   refine Mb (p:=Ew) ha r hz (λx d H' rd s' N hN=>?_) (λa' H' s' ha'=>?_)
   ·walk_at "rd"
    exact⟨x,d,rfl,rd,hN⟩
   ·refine⟨a',rfl,_,ha',?_⟩
    have k:=k H' (s1.trans s')
    have e:D6 (.tup ds)=(ds.map Ew).all id:=by
     show (decide (ds.length<=12)&&ds.all Ew)=_
     rw[decide_eq_true (by omega),Zyl,Zxg]
     rfl
    rw[e] at k
    exact k
  ·have k:=k H1 s1
   have e:D6 d=false:=by
    cases d with
    |tup ds =>
     show (decide (ds.length<=12)&&ds.all Ew)=false
     have:¬ ds.length<=12:=λz=>h (by show (decide ((0:Int)<=ds.length)&&decide ((ds.length:Int)<=12))=true;simp;omega)
     rw[decide_eq_false this,Zyt]
    |_=>rfl
   rw[e] at k
   exact k
def sp_is_part:Sp:=λvs H Q _=>∃v d,vs=[v]/\Rep H d v/\∀H',Same H H'->Q (.bl (isPart d)) H'
theorem U4:Bv ["found"] ["found"] (A6 Kb):=⟨rfl,rfl,rfl,by decide +kernel,rfl,by decide +kernel,by decide +kernel⟩
theorem Ug{f:Addr}{fd:FuncData}(F:Fun K "is_part" "is_part" Kb f fd)(T:Txt mg){c:Cl}(C:Exc K mg c)(Zv6:Has P w K mg base "is_from" 2 ["found", "least"] sp_is_from)(Zv0:Has P w K mg base "is_name" 1 ["found"] sp_is_name)(Zv9:Has P w K mg base "is_tuple" 1 ["found", "least", "most"] sp_is_tuple):Dp P w K mg base CX0 3 f fd ["found"] sp_is_part:=by
 refine F.ok U4 (λvs H Q E h=>?_) (λcdv A outer s H vs Q E hr h=>?_)
 ·obtain⟨v,d,rfl,_⟩:=h
  rfl
 ·obtain⟨v,d,rfl,hv,k⟩:=h
  have hu:=Di hr
  refine⟨_,(A9 (Bm (Jm (A8 Zv9 (hr.mono (by decide)) rfl (A3 (pv 0) (A3 A4 (A3 A4 A2)))) (Jm (A8 Zv0 (hr.mono (by decide)) rfl (A3 (Ag hu (pv 0) A4 (λ_ _=>rfl)) A2)) (Ki (A8 Zv6 (hr.mono (by decide)) rfl (A3 (Ag hu (pv 0) A4 (λ_ _=>rfl)) (A3 A4 A2)))))))),?_⟩
  walk_at "rd"
  refine⟨v,d,2,2,rfl,hv,λH1 s1=>?_⟩
  walk_at "rd"
  refine Fj (λh=>?_) (λh=>?_)
  ·obtain⟨x,y,rfl⟩:=Lx h
   obtain⟨a,xs,rfl,ha,hl,hz,g⟩:=Iz hv
   obtain⟨vx,ex,rx⟩:=g 0 x rfl
   obtain⟨vy,ey,ry⟩:=g 1 y rfl
   refine⟨vx,Ch (j:=0) (s1 _ _ ha) ex,vx,x,rfl,rx.same s1,λH2 s2=>?_⟩
   walk_at "rd"
   refine Fj (λh2=>?_) (λh2=>?_)
   ·refine⟨vy,Ch (j:=1) (s2 _ _ (s1 _ _ ha)) ey,vy,y,1,rfl,ry.same (s1.trans s2),λH3 s3=>?_⟩
    have k:=k H3 ((s1.trans s2).trans s3)
    have e:isPart (.tup [x,y])=Cm y 1:=by
     show (Jo x&&Cm y 1)=_
     rw[h2,Zyl]
    rw[e] at k
    exact k
   ·have k:=k H2 (s1.trans s2)
    have e:isPart (.tup [x,y])=false:=by
     show (Jo x&&Cm y 1)=_
     rw[Zy0.mpr h2,Zyt]
    rw[e] at k
    exact k
  ·have k:=k H1 s1
   have e:isPart d=false:=by
    unfold isPart
    split
    ·exact absurd rfl (Vg h _ _)
    ·rfl
   rw[e] at k
   exact k
theorem Nl{d:D}(h:isPart d=true):∃x b,d=.tup [.str x,b]:=by
 unfold isPart at h
 split at h
 ·rename_i a b
  rw[Zzf] at h
  cases a with
  |str x=>exact⟨x,b,rfl⟩
  |_=>exact absurd h.1 Zz4
 ·cases h
def sp_are_parts:Sp:=λvs H Q _=>∃v d,vs=[v]/\Rep H d v/\∀H',Same H H'->Q (.bl (G7 d)) H'
theorem Qz:Bv ["found"] ["found"] (A6 Iu):=⟨rfl,rfl,rfl,by decide +kernel,rfl,by decide +kernel,by decide +kernel⟩
theorem Rq{f:Addr}{fd:FuncData}(F:Fun K "are_parts" "are_parts" Iu f fd)(T:Txt mg){c:Cl}(C:Exc K mg c)(Zss:Has P w K mg base "is_part" 3 ["found"] sp_is_part)(Zv9:Has P w K mg base "is_tuple" 1 ["found", "least", "most"] sp_is_tuple)(Zud:Has P w K mg base "are_unlike" 1 ["names"] sp_are_unlike):Dp P w K mg base CX0 4 f fd ["found"] sp_are_parts:=by
 refine F.ok Qz (λvs H Q E h=>?_) (λcdv A outer s H vs Q E hr h=>?_)
 ·obtain⟨v,d,rfl,_⟩:=h
  rfl
 ·obtain⟨v,d,rfl,hv,k⟩:=h
  have hu:=Di hr
  refine⟨_,(A5 (D9 (PW.pt (Lq (Dz (F0 (A8 Zv9 (hr.mono (by decide)) rfl (A3 (pv 0) (A3 A4 (A3 (D1 rfl T.Zu4) A2)))))) (Lb (Dz (F0 (Bn (J8 rfl) rfl T.Zti Li (A3 (D8 (own:=["part"]) (cap:=[]) rfl (Fu rfl) (C3 (by decide)) (Kw (pv 0))
 (λ_ _ _ _ _ _=>⟨(Bq (i:=0) (of_decide_eq_true rfl) rfl (Zz0 rfl) (.inr rfl)),D7,(A8 Zss (hr.mono (by decide)) rfl (A3 (pv 0) A2))⟩)) A2))))))) (A9 (Bm Gd)) Ca)
 (A9 (Bm (A8 Zud (hr.mono (by decide)) rfl (A3 (D8 (own:=["part"]) (cap:=[]) rfl (Fu rfl) (C3 (by decide)) (Kw (pv 0))
 (λ_ _ _ _ _ _=>⟨(Bq (i:=0) (of_decide_eq_true rfl) rfl (Zz0 rfl) (.inr rfl)),D7,(Ag hu (pv 0) A4 (λ_ _=>rfl))⟩)) A2))))),?_⟩
  walk_at "rd"
  refine⟨v,d,0,6,rfl,hv,λH1 s1=>?_⟩
  walk_at "rd"
  cases h:Ic d 0 6 with
  |false =>
   simp only[Ez,tNext,Gw,E5,Ge,Ha,Dt,Hi,Cj,Hf,Gh,tC,tCB,Dl,tNil,Dh,tOp,tUn,Dk,tB,Hc,tOr,Gy,Du,Gx,Dr,tIf,Gu,Gz,tSl,Dq,tNoPart,tBA,Hb,Cu,Cn,tYes,rI,rI0,rU,rEq,rNe,rIsA,C7,rItem,lenA,Cz,Ep,Eh,listA,tupleA,lenQ,Hs,Ht,Ee,Eo,He,Hd,Hu,rCat,rCatTT,Dv,Dn,Et,Hy,E3,E4,E7,tIf,Dx,Hv,Es,Er,rEqD,rNeD,Hq,Hn,Hw,Ct,C5,Cw,Cy,Cv,D0,C9,Hl,Ej,Ei,E6,Em,En,Ec,Hm,rInsert,Ek,rCount,C8,Ho,rAppend,rPopAt,rReverse,Ef,rSetL,L2.D5,Dj,Bx,C6,Cd,Gv,Co,Cp,Hh,Ea,Eb,E8,E9,Gp,rStrI,rIntT,Eg,Ends.lose,rRepX,rPop,Ed,El,rRepD,rStrI,rIntT,rStrS,rSplit,rJoin,Ds,Dw,  D.ty,Ac,Af,Ae,Aa,A7,Ab,B0,Bc,Bb,Ay,An,Az,B8,Bh,Bg,B6,Au,B7,B3,Bf,Be,B1,Aq,B2,At,B5,B4,Ar,Al,As,Ak,Ap,Ao,Ai,Ah,Aj,Ax,Ba,B9,Av,Am,Aw,Cc,C1,Cb,By,Bp,Bz,Zyf,Zye,Zyd,Zyc,Zz7,Zzg,Zz6,Zz5,↓reduceIte,Zzp,Zyr,Zzq,Zyz,Zze,Zzy,Zyy,Zz3,Zz9,Zyb,Zzm,Zzo,Zyw,exists_eq_left',exists_eq_left,V.int.injEq,V.bl.injEq,V.str.injEq,V.ref.injEq,V.ty.injEq,Zyp,and_true,true_and,and_assoc,exists_and_left,exists_eq_right,reduceCtorEq,false_and,and_false,exists_false,or_false,false_or,Zxm]
   have k:=k H1 s1
   have e:G7 d=false:=by
    cases d with
    |tup ds =>
     show (decide (ds.length<=6)&&ds.all isPart&&unl (ds.map nameOf))=false
     have:¬ ds.length<=6:=λz=>Zy0.mp h (by show (decide ((0:Int)<=ds.length)&&decide ((ds.length:Int)<=6))=true;simp;omega)
     rw[decide_eq_false this,Zyt,Zyt]
    |_=>rfl
   rw[e] at k
   exact k
  |true =>
   simp only[Ez,tNext,Gw,E5,Ge,Ha,Dt,Hi,Cj,Hf,Gh,tC,tCB,Dl,tNil,Dh,tOp,tUn,Dk,tB,Hc,tOr,Gy,Du,Gx,Dr,tIf,Gu,Gz,tSl,Dq,tNoPart,tBA,Hb,Cu,Cn,tYes,rI,rI0,rU,rEq,rNe,rIsA,C7,rItem,lenA,Cz,Ep,Eh,listA,tupleA,lenQ,Hs,Ht,Ee,Eo,He,Hd,Hu,rCat,rCatTT,Dv,Dn,Et,Hy,E3,E4,E7,tIf,Dx,Hv,Es,Er,rEqD,rNeD,Hq,Hn,Hw,Ct,C5,Cw,Cy,Cv,D0,C9,Hl,Ej,Ei,E6,Em,En,Ec,Hm,rInsert,Ek,rCount,C8,Ho,rAppend,rPopAt,rReverse,Ef,rSetL,L2.D5,Dj,Bx,C6,Cd,Gv,Co,Cp,Hh,Ea,Eb,E8,E9,Gp,rStrI,rIntT,Eg,Ends.lose,rRepX,rPop,Ed,El,rRepD,rStrI,rIntT,rStrS,rSplit,rJoin,Ds,Dw,  D.ty,Ac,Af,Ae,Aa,A7,Ab,B0,Bc,Bb,Ay,An,Az,B8,Bh,Bg,B6,Au,B7,B3,Bf,Be,B1,Aq,B2,At,B5,B4,Ar,Al,As,Ak,Ap,Ao,Ai,Ah,Aj,Ax,Ba,B9,Av,Am,Aw,Cc,C1,Cb,By,Bp,Bz,Zyf,Zye,Zyd,Zyc,Zz7,Zzg,Zz6,Zz5,↓reduceIte,Zzp,Zyr,Zzq,Zyz,Zze,Zzy,Zyy,Zz3,Zz9,Zyb,Zzm,Zzo,Zyw,exists_eq_left',exists_eq_left,V.int.injEq,V.bl.injEq,V.str.injEq,V.ref.injEq,V.ty.injEq,Zyp,and_true,true_and,and_assoc,exists_and_left,exists_eq_right,reduceCtorEq,false_and,and_false,exists_false,or_false,false_or,Zxn,Zy2]
   obtain⟨ds,rfl,_,hn⟩:=Gq h
   have hv1:=hv.same s1
   rw[Rep] at hv1
   obtain⟨a,xs,rfl,ha,hz,r⟩:=hv1
   walk_at "rd"
   refine .inr ⟨xs,ha,?_⟩
   refine Mb (p:=isPart) ha r hz (λx d H' rd s' N hN=>?_) (λa' H2 s2 ha'=>?_)
   ·walk_at "rd"
    exact⟨x,d,rfl,rd,hN⟩
   ·refine⟨a',rfl,_,ha',?_⟩
    have e0:(ds.map isPart).all id=ds.all isPart:=by rw[Zxg];rfl
    rw[e0]
    have e:G7 (.tup ds)=(ds.all isPart&&unl (ds.map nameOf)):=by
     show (decide (ds.length<=6)&&ds.all isPart&&unl (ds.map nameOf))=_
     rw[decide_eq_true (by omega),Zyl]
    rw[e] at k
    cases hp:ds.all isPart with
    |false =>
     rw[hp,Zyt] at k
     simp only[Ez,tNext,Gw,E5,Ge,Ha,Dt,Hi,Cj,Hf,Gh,tC,tCB,Dl,tNil,Dh,tOp,tUn,Dk,tB,Hc,tOr,Gy,Du,Gx,Dr,tIf,Gu,Gz,tSl,Dq,tNoPart,tBA,Hb,Cu,Cn,tYes,rI,rI0,rU,rEq,rNe,rIsA,C7,rItem,lenA,Cz,Ep,Eh,listA,tupleA,lenQ,Hs,Ht,Ee,Eo,He,Hd,Hu,rCat,rCatTT,Dv,Dn,Et,Hy,E3,E4,E7,tIf,Dx,Hv,Es,Er,rEqD,rNeD,Hq,Hn,Hw,Ct,C5,Cw,Cy,Cv,D0,C9,Hl,Ej,Ei,E6,Em,En,Ec,Hm,rInsert,Ek,rCount,C8,Ho,rAppend,rPopAt,rReverse,Ef,rSetL,L2.D5,Dj,Bx,C6,Cd,Gv,Co,Cp,Hh,Ea,Eb,E8,E9,Gp,rStrI,rIntT,Eg,Ends.lose,rRepX,rPop,Ed,El,rRepD,rStrI,rIntT,rStrS,rSplit,rJoin,Ds,Dw,  D.ty,Ac,Af,Ae,Aa,A7,Ab,B0,Bc,Bb,Ay,An,Az,B8,Bh,Bg,B6,Au,B7,B3,Bf,Be,B1,Aq,B2,At,B5,B4,Ar,Al,As,Ak,Ap,Ao,Ai,Ah,Aj,Ax,Ba,B9,Av,Am,Aw,Cc,C1,Cb,By,Bp,Bz,Zyf,Zye,Zyd,Zyc,Zz7,Zzg,Zz6,Zz5,↓reduceIte,Zzp,Zyr,Zzq,Zyz,Zze,Zzy,Zyy,Zz3,Zz9,Zyb,Zzm,Zzo,Zyw,exists_eq_left',exists_eq_left,V.int.injEq,V.bl.injEq,V.str.injEq,V.ref.injEq,V.ty.injEq,Zyp,and_true,true_and,and_assoc,exists_and_left,exists_eq_right,reduceCtorEq,false_and,and_false,exists_false,or_false,false_or,Zxm]
     exact k H2 (s1.trans s2)
    |true =>
     rw[hp,Zyl] at k
     simp only[Ez,tNext,Gw,E5,Ge,Ha,Dt,Hi,Cj,Hf,Gh,tC,tCB,Dl,tNil,Dh,tOp,tUn,Dk,tB,Hc,tOr,Gy,Du,Gx,Dr,tIf,Gu,Gz,tSl,Dq,tNoPart,tBA,Hb,Cu,Cn,tYes,rI,rI0,rU,rEq,rNe,rIsA,C7,rItem,lenA,Cz,Ep,Eh,listA,tupleA,lenQ,Hs,Ht,Ee,Eo,He,Hd,Hu,rCat,rCatTT,Dv,Dn,Et,Hy,E3,E4,E7,tIf,Dx,Hv,Es,Er,rEqD,rNeD,Hq,Hn,Hw,Ct,C5,Cw,Cy,Cv,D0,C9,Hl,Ej,Ei,E6,Em,En,Ec,Hm,rInsert,Ek,rCount,C8,Ho,rAppend,rPopAt,rReverse,Ef,rSetL,L2.D5,Dj,Bx,C6,Cd,Gv,Co,Cp,Hh,Ea,Eb,E8,E9,Gp,rStrI,rIntT,Eg,Ends.lose,rRepX,rPop,Ed,El,rRepD,rStrI,rIntT,rStrS,rSplit,rJoin,Ds,Dw,  D.ty,Ac,Af,Ae,Aa,A7,Ab,B0,Bc,Bb,Ay,An,Az,B8,Bh,Bg,B6,Au,B7,B3,Bf,Be,B1,Aq,B2,At,B5,B4,Ar,Al,As,Ak,Ap,Ao,Ai,Ah,Aj,Ax,Ba,B9,Av,Am,Aw,Cc,C1,Cb,By,Bp,Bz,Zyf,Zye,Zyd,Zyc,Zz7,Zzg,Zz6,Zz5,↓reduceIte,Zzp,Zyr,Zzq,Zyz,Zze,Zzy,Zyy,Zz3,Zz9,Zyb,Zzm,Zzo,Zyw,exists_eq_left',exists_eq_left,V.int.injEq,V.bl.injEq,V.str.injEq,V.ref.injEq,V.ty.injEq,Zyp,and_true,true_and,and_assoc,exists_and_left,exists_eq_right,reduceCtorEq,false_and,and_false,exists_false,or_false,false_or,Zxn,Zy2]
     have ha2:=s2 _ _ ha
     have r2:=r.same s2
     refine .inr ⟨xs,ha2,?_⟩
     refine Df (L5 a xs) (by rw[r.length];exact Bi hz) (λH' s'=>s' _ _ ha2) ((ds.map nameOf).map V.str) (by simp[r.length]) (λi y H' hi hy s' N M hN=>?_) (λH' s' q hq=>?_)
     ·obtain⟨d,hd,rd⟩:=r2.get hy
      obtain⟨z,b,rfl⟩:=Nl (Zz2.mp hp d (Zyv hd))
      obtain⟨c,ys,rfl,hc,hl,_,g⟩:=Iz rd
      obtain⟨vx,ex,rx⟩:=g 0 _ rfl
      rw[Rep] at rx
      obtain⟨rfl,_⟩:=rx
      walk_at "rd"
      refine⟨_,Ch (j:=0) (s' _ _ hc) ex,hN _ _ s' ?_⟩
      rw[Zzv,Zzv,hd]
      rfl
     ·refine⟨q,_,rfl,A1,by rw[Zzz];exact hz,λH5 s5=>k H5 ?_⟩
      exact((s1.trans s2).trans s').trans ((A0 hq).trans s5)
def sp_is_ware:Sp:=λvs H Q _=>∃v d,vs=[v]/\Rep H d v/\∀H',Same H H'->Q (.bl (isWare d)) H'
theorem Pk{d:D}(h:Ic d 7 7=true):∃n l g f s c p,d=.tup [n,l,g,f,s,c,p]:=by
 obtain⟨ds,rfl,h1,h2⟩:=Gq h
 match ds,h1,h2 with
 |[n,l,g,f,s,c,p],_,_=>exact⟨n,l,g,f,s,c,p,rfl⟩
 |[],h1,_=>simp at h1
 |[_],h1,_=>simp at h1
 |[_,_],h1,_=>simp at h1
 |[_,_,_],h1,_=>simp at h1
 |[_,_,_,_],h1,_=>simp at h1
 |[_,_,_,_,_],h1,_=>simp at h1
 |[_,_,_,_,_,_],h1,_=>simp at h1
 |_::_::_::_::_::_::_::_::r,_,h2=>simp at h2;omega
theorem U2:Bv ["found"] ["found"] (A6 K8):=⟨rfl,rfl,rfl,by decide +kernel,rfl,by decide +kernel,by decide +kernel⟩
theorem Ud{f:Addr}{fd:FuncData}(F:Fun K "is_ware" "is_ware" K8 f fd)(T:Txt mg){c:Cl}(C:Exc K mg c)(Zv9:Has P w K mg base "is_tuple" 1 ["found", "least", "most"] sp_is_tuple)(Zv6:Has P w K mg base "is_from" 2 ["found", "least"] sp_is_from)(Zv1:Has P w K mg base "is_between" 3 ["found", "least", "most"] sp_is_between)(Zv0:Has P w K mg base "is_name" 1 ["found"] sp_is_name)(Zt7:Has P w K mg base "are_parts" 4 ["found"] sp_are_parts)(Ztr:Has P w K mg base "are_arrivals" 5 ["found"] sp_are_arrivals):Dp P w K mg base CX0 6 f fd ["found"] sp_is_ware:=by
 refine F.ok U2 (λvs H Q E h=>?_) (λcdv A outer s H vs Q E hr h=>?_)
 ·obtain⟨v,d,rfl,_⟩:=h
  rfl
 ·obtain⟨v,d,rfl,hv,k⟩:=h
  have hu:=Di hr
  refine⟨_,(A5 (D9 (Dz (F0 (A8 Zv9 (hr.mono (by decide)) rfl (A3 (pv 0) (A3 (D1 rfl T.Ztu) (A3 (D1 rfl T.Ztu) A2)))))) (A9 (Bm Gd)) Ca)
 (A5 (D9 (PW.pt (Lq (Dz (F0 (A8 Zv0 (hr.mono (by decide)) rfl (A3 (Ag hu (pv 0) (D1 rfl T.Zte) (λ_ _=>rfl)) A2)))) (Lq (Dz (F0 (A8 Zv1 (hr.mono (by decide)) rfl (A3 (Ag hu (pv 0) (D1 rfl T.Zso) (λ_ _=>rfl)) (A3 A4 (A3 (D1 rfl T.Ztt) A2)))))) (Lb (Dz (F0 (A8 Zv6 (hr.mono (by decide)) rfl (A3 (Ag hu (pv 0) (D1 rfl T.Zsy) (λ_ _=>rfl)) (A3 A4 A2))))))))) (A9 (Bm Gd)) Ca)
 (A5 (D9 (PW.pt (Lq (Dz (F0 (A8 Zv6 (hr.mono (by decide)) rfl (A3 (Ag hu (pv 0) (D1 rfl T.Zsz) (λ_ _=>rfl)) (A3 A4 A2))))) (Lb (Dz (F0 (A8 Zv6 (hr.mono (by decide)) rfl (A3 (Ag hu (pv 0) (D1 rfl T.Zsx) (λ_ _=>rfl)) (A3 A4 A2)))))))) (A9 (Bm Gd)) Ca)
 (A9 (Bm (Jm (A8 Ztr (hr.mono (by decide)) rfl (A3 (Ag hu (pv 0) (D1 rfl T.Ztf) (λ_ _=>rfl)) A2)) (Ki (A8 Zt7 (hr.mono (by decide)) rfl (A3 (Ag hu (pv 0) (D1 rfl T.Ztg) (λ_ _=>rfl)) A2))))))))),?_⟩
  walk_at "rd"
  refine⟨v,d,7,7,rfl,hv,λH1 s1=>?_⟩
  walk_at "rd"
  cases h:Ic d 7 7 with
  |false =>
   simp only[Ez,tNext,Gw,E5,Ge,Ha,Dt,Hi,Cj,Hf,Gh,tC,tCB,Dl,tNil,Dh,tOp,tUn,Dk,tB,Hc,tOr,Gy,Du,Gx,Dr,tIf,Gu,Gz,tSl,Dq,tNoPart,tBA,Hb,Cu,Cn,tYes,rI,rI0,rU,rEq,rNe,rIsA,C7,rItem,lenA,Cz,Ep,Eh,listA,tupleA,lenQ,Hs,Ht,Ee,Eo,He,Hd,Hu,rCat,rCatTT,Dv,Dn,Et,Hy,E3,E4,E7,tIf,Dx,Hv,Es,Er,rEqD,rNeD,Hq,Hn,Hw,Ct,C5,Cw,Cy,Cv,D0,C9,Hl,Ej,Ei,E6,Em,En,Ec,Hm,rInsert,Ek,rCount,C8,Ho,rAppend,rPopAt,rReverse,Ef,rSetL,L2.D5,Dj,Bx,C6,Cd,Gv,Co,Cp,Hh,Ea,Eb,E8,E9,Gp,rStrI,rIntT,Eg,Ends.lose,rRepX,rPop,Ed,El,rRepD,rStrI,rIntT,rStrS,rSplit,rJoin,Ds,Dw,  D.ty,Ac,Af,Ae,Aa,A7,Ab,B0,Bc,Bb,Ay,An,Az,B8,Bh,Bg,B6,Au,B7,B3,Bf,Be,B1,Aq,B2,At,B5,B4,Ar,Al,As,Ak,Ap,Ao,Ai,Ah,Aj,Ax,Ba,B9,Av,Am,Aw,Cc,C1,Cb,By,Bp,Bz,Zyf,Zye,Zyd,Zyc,Zz7,Zzg,Zz6,Zz5,↓reduceIte,Zzp,Zyr,Zzq,Zyz,Zze,Zzy,Zyy,Zz3,Zz9,Zyb,Zzm,Zzo,Zyw,exists_eq_left',exists_eq_left,V.int.injEq,V.bl.injEq,V.str.injEq,V.ref.injEq,V.ty.injEq,Zyp,and_true,true_and,and_assoc,exists_and_left,exists_eq_right,reduceCtorEq,false_and,and_false,exists_false,or_false,false_or,Zxm]
   have k:=k H1 s1
   have e:isWare d=false:=by
    unfold isWare
    split
    ·exact absurd h (by simp[Ic])
    ·rfl
   rw[e] at k
   exact k
  |true =>
   simp only[Ez,tNext,Gw,E5,Ge,Ha,Dt,Hi,Cj,Hf,Gh,tC,tCB,Dl,tNil,Dh,tOp,tUn,Dk,tB,Hc,tOr,Gy,Du,Gx,Dr,tIf,Gu,Gz,tSl,Dq,tNoPart,tBA,Hb,Cu,Cn,tYes,rI,rI0,rU,rEq,rNe,rIsA,C7,rItem,lenA,Cz,Ep,Eh,listA,tupleA,lenQ,Hs,Ht,Ee,Eo,He,Hd,Hu,rCat,rCatTT,Dv,Dn,Et,Hy,E3,E4,E7,tIf,Dx,Hv,Es,Er,rEqD,rNeD,Hq,Hn,Hw,Ct,C5,Cw,Cy,Cv,D0,C9,Hl,Ej,Ei,E6,Em,En,Ec,Hm,rInsert,Ek,rCount,C8,Ho,rAppend,rPopAt,rReverse,Ef,rSetL,L2.D5,Dj,Bx,C6,Cd,Gv,Co,Cp,Hh,Ea,Eb,E8,E9,Gp,rStrI,rIntT,Eg,Ends.lose,rRepX,rPop,Ed,El,rRepD,rStrI,rIntT,rStrS,rSplit,rJoin,Ds,Dw,  D.ty,Ac,Af,Ae,Aa,A7,Ab,B0,Bc,Bb,Ay,An,Az,B8,Bh,Bg,B6,Au,B7,B3,Bf,Be,B1,Aq,B2,At,B5,B4,Ar,Al,As,Ak,Ap,Ao,Ai,Ah,Aj,Ax,Ba,B9,Av,Am,Aw,Cc,C1,Cb,By,Bp,Bz,Zyf,Zye,Zyd,Zyc,Zz7,Zzg,Zz6,Zz5,↓reduceIte,Zzp,Zyr,Zzq,Zyz,Zze,Zzy,Zyy,Zz3,Zz9,Zyb,Zzm,Zzo,Zyw,exists_eq_left',exists_eq_left,V.int.injEq,V.bl.injEq,V.str.injEq,V.ref.injEq,V.ty.injEq,Zyp,and_true,true_and,and_assoc,exists_and_left,exists_eq_right,reduceCtorEq,false_and,and_false,exists_false,or_false,false_or,Zxn,Zy2]
   obtain⟨n,l,g,f,s,c,p,rfl⟩:=Pk h
   obtain⟨a,xs,rfl,ha,hl,hz,gt⟩:=Iz hv
   obtain⟨v0,e0,r0⟩:=gt 0 _ rfl
   obtain⟨v1,e1,r1⟩:=gt 1 _ rfl
   obtain⟨v2,e2,r2⟩:=gt 2 _ rfl
   obtain⟨v3,e3,r3⟩:=gt 3 _ rfl
   obtain⟨v4,e4,r4⟩:=gt 4 _ rfl
   obtain⟨v5,e5,r5⟩:=gt 5 _ rfl
   obtain⟨v6,e6,r6⟩:=gt 6 _ rfl
   have k:∀H',Same H H'->Q (.bl (Jo n&&Cf l 0 30&&Cm g 1&&Cm f 0&&Cm s 0&&D6 c&&G7 p)) H':=k
   have st:=s1
   refine⟨v0,Ch (j:=0) (st _ _ ha) e0,v0,n,rfl,r0.same st,λH2 s2=>?_⟩
   replace st:=st.trans s2
   cases h0:Jo n with
   |false=>simp only[Ez,tNext,Gw,E5,Ge,Ha,Dt,Hi,Cj,Hf,Gh,tC,tCB,Dl,tNil,Dh,tOp,tUn,Dk,tB,Hc,tOr,Gy,Du,Gx,Dr,tIf,Gu,Gz,tSl,Dq,tNoPart,tBA,Hb,Cu,Cn,tYes,rI,rI0,rU,rEq,rNe,rIsA,C7,rItem,lenA,Cz,Ep,Eh,listA,tupleA,lenQ,Hs,Ht,Ee,Eo,He,Hd,Hu,rCat,rCatTT,Dv,Dn,Et,Hy,E3,E4,E7,tIf,Dx,Hv,Es,Er,rEqD,rNeD,Hq,Hn,Hw,Ct,C5,Cw,Cy,Cv,D0,C9,Hl,Ej,Ei,E6,Em,En,Ec,Hm,rInsert,Ek,rCount,C8,Ho,rAppend,rPopAt,rReverse,Ef,rSetL,L2.D5,Dj,Bx,C6,Cd,Gv,Co,Cp,Hh,Ea,Eb,E8,E9,Gp,rStrI,rIntT,Eg,Ends.lose,rRepX,rPop,Ed,El,rRepD,rStrI,rIntT,rStrS,rSplit,rJoin,Ds,Dw,  D.ty,Ac,Af,Ae,Aa,A7,Ab,B0,Bc,Bb,Ay,An,Az,B8,Bh,Bg,B6,Au,B7,B3,Bf,Be,B1,Aq,B2,At,B5,B4,Ar,Al,As,Ak,Ap,Ao,Ai,Ah,Aj,Ax,Ba,B9,Av,Am,Aw,Cc,C1,Cb,By,Bp,Bz,Zyf,Zye,Zyd,Zyc,Zz7,Zzg,Zz6,Zz5,↓reduceIte,Zzp,Zyr,Zzq,Zyz,Zze,Zzy,Zyy,Zz3,Zz9,Zyb,Zzm,Zzo,Zyw,exists_eq_left',exists_eq_left,V.int.injEq,V.bl.injEq,V.str.injEq,V.ref.injEq,V.ty.injEq,Zyp,and_true,true_and,and_assoc,exists_and_left,exists_eq_right,reduceCtorEq,false_and,and_false,exists_false,or_false,false_or,Zxm];rw[h0] at k;exact k _ st
   |true =>
   simp only[Ez,tNext,Gw,E5,Ge,Ha,Dt,Hi,Cj,Hf,Gh,tC,tCB,Dl,tNil,Dh,tOp,tUn,Dk,tB,Hc,tOr,Gy,Du,Gx,Dr,tIf,Gu,Gz,tSl,Dq,tNoPart,tBA,Hb,Cu,Cn,tYes,rI,rI0,rU,rEq,rNe,rIsA,C7,rItem,lenA,Cz,Ep,Eh,listA,tupleA,lenQ,Hs,Ht,Ee,Eo,He,Hd,Hu,rCat,rCatTT,Dv,Dn,Et,Hy,E3,E4,E7,tIf,Dx,Hv,Es,Er,rEqD,rNeD,Hq,Hn,Hw,Ct,C5,Cw,Cy,Cv,D0,C9,Hl,Ej,Ei,E6,Em,En,Ec,Hm,rInsert,Ek,rCount,C8,Ho,rAppend,rPopAt,rReverse,Ef,rSetL,L2.D5,Dj,Bx,C6,Cd,Gv,Co,Cp,Hh,Ea,Eb,E8,E9,Gp,rStrI,rIntT,Eg,Ends.lose,rRepX,rPop,Ed,El,rRepD,rStrI,rIntT,rStrS,rSplit,rJoin,Ds,Dw,  D.ty,Ac,Af,Ae,Aa,A7,Ab,B0,Bc,Bb,Ay,An,Az,B8,Bh,Bg,B6,Au,B7,B3,Bf,Be,B1,Aq,B2,At,B5,B4,Ar,Al,As,Ak,Ap,Ao,Ai,Ah,Aj,Ax,Ba,B9,Av,Am,Aw,Cc,C1,Cb,By,Bp,Bz,Zyf,Zye,Zyd,Zyc,Zz7,Zzg,Zz6,Zz5,↓reduceIte,Zzp,Zyr,Zzq,Zyz,Zze,Zzy,Zyy,Zz3,Zz9,Zyb,Zzm,Zzo,Zyw,exists_eq_left',exists_eq_left,V.int.injEq,V.bl.injEq,V.str.injEq,V.ref.injEq,V.ty.injEq,Zyp,and_true,true_and,and_assoc,exists_and_left,exists_eq_right,reduceCtorEq,false_and,and_false,exists_false,or_false,false_or,Zxn,Zy2]
   refine⟨v1,Ch (j:=1) (st _ _ ha) e1,v1,l,0,30,rfl,r1.same st,λH3 s3=>?_⟩
   replace st:=st.trans s3
   cases h1:Cf l 0 30 with
   |false=>simp only[Ez,tNext,Gw,E5,Ge,Ha,Dt,Hi,Cj,Hf,Gh,tC,tCB,Dl,tNil,Dh,tOp,tUn,Dk,tB,Hc,tOr,Gy,Du,Gx,Dr,tIf,Gu,Gz,tSl,Dq,tNoPart,tBA,Hb,Cu,Cn,tYes,rI,rI0,rU,rEq,rNe,rIsA,C7,rItem,lenA,Cz,Ep,Eh,listA,tupleA,lenQ,Hs,Ht,Ee,Eo,He,Hd,Hu,rCat,rCatTT,Dv,Dn,Et,Hy,E3,E4,E7,tIf,Dx,Hv,Es,Er,rEqD,rNeD,Hq,Hn,Hw,Ct,C5,Cw,Cy,Cv,D0,C9,Hl,Ej,Ei,E6,Em,En,Ec,Hm,rInsert,Ek,rCount,C8,Ho,rAppend,rPopAt,rReverse,Ef,rSetL,L2.D5,Dj,Bx,C6,Cd,Gv,Co,Cp,Hh,Ea,Eb,E8,E9,Gp,rStrI,rIntT,Eg,Ends.lose,rRepX,rPop,Ed,El,rRepD,rStrI,rIntT,rStrS,rSplit,rJoin,Ds,Dw,  D.ty,Ac,Af,Ae,Aa,A7,Ab,B0,Bc,Bb,Ay,An,Az,B8,Bh,Bg,B6,Au,B7,B3,Bf,Be,B1,Aq,B2,At,B5,B4,Ar,Al,As,Ak,Ap,Ao,Ai,Ah,Aj,Ax,Ba,B9,Av,Am,Aw,Cc,C1,Cb,By,Bp,Bz,Zyf,Zye,Zyd,Zyc,Zz7,Zzg,Zz6,Zz5,↓reduceIte,Zzp,Zyr,Zzq,Zyz,Zze,Zzy,Zyy,Zz3,Zz9,Zyb,Zzm,Zzo,Zyw,exists_eq_left',exists_eq_left,V.int.injEq,V.bl.injEq,V.str.injEq,V.ref.injEq,V.ty.injEq,Zyp,and_true,true_and,and_assoc,exists_and_left,exists_eq_right,reduceCtorEq,false_and,and_false,exists_false,or_false,false_or,Zxm];rw[h0,h1] at k;exact k _ st
   |true =>
   simp only[Ez,tNext,Gw,E5,Ge,Ha,Dt,Hi,Cj,Hf,Gh,tC,tCB,Dl,tNil,Dh,tOp,tUn,Dk,tB,Hc,tOr,Gy,Du,Gx,Dr,tIf,Gu,Gz,tSl,Dq,tNoPart,tBA,Hb,Cu,Cn,tYes,rI,rI0,rU,rEq,rNe,rIsA,C7,rItem,lenA,Cz,Ep,Eh,listA,tupleA,lenQ,Hs,Ht,Ee,Eo,He,Hd,Hu,rCat,rCatTT,Dv,Dn,Et,Hy,E3,E4,E7,tIf,Dx,Hv,Es,Er,rEqD,rNeD,Hq,Hn,Hw,Ct,C5,Cw,Cy,Cv,D0,C9,Hl,Ej,Ei,E6,Em,En,Ec,Hm,rInsert,Ek,rCount,C8,Ho,rAppend,rPopAt,rReverse,Ef,rSetL,L2.D5,Dj,Bx,C6,Cd,Gv,Co,Cp,Hh,Ea,Eb,E8,E9,Gp,rStrI,rIntT,Eg,Ends.lose,rRepX,rPop,Ed,El,rRepD,rStrI,rIntT,rStrS,rSplit,rJoin,Ds,Dw,  D.ty,Ac,Af,Ae,Aa,A7,Ab,B0,Bc,Bb,Ay,An,Az,B8,Bh,Bg,B6,Au,B7,B3,Bf,Be,B1,Aq,B2,At,B5,B4,Ar,Al,As,Ak,Ap,Ao,Ai,Ah,Aj,Ax,Ba,B9,Av,Am,Aw,Cc,C1,Cb,By,Bp,Bz,Zyf,Zye,Zyd,Zyc,Zz7,Zzg,Zz6,Zz5,↓reduceIte,Zzp,Zyr,Zzq,Zyz,Zze,Zzy,Zyy,Zz3,Zz9,Zyb,Zzm,Zzo,Zyw,exists_eq_left',exists_eq_left,V.int.injEq,V.bl.injEq,V.str.injEq,V.ref.injEq,V.ty.injEq,Zyp,and_true,true_and,and_assoc,exists_and_left,exists_eq_right,reduceCtorEq,false_and,and_false,exists_false,or_false,false_or,Zxn,Zy2]
   refine⟨v2,Ch (j:=2) (st _ _ ha) e2,v2,g,1,rfl,r2.same st,λH4 s4=>?_⟩
   replace st:=st.trans s4
   cases h2:Cm g 1 with
   |false=>simp only[Ez,tNext,Gw,E5,Ge,Ha,Dt,Hi,Cj,Hf,Gh,tC,tCB,Dl,tNil,Dh,tOp,tUn,Dk,tB,Hc,tOr,Gy,Du,Gx,Dr,tIf,Gu,Gz,tSl,Dq,tNoPart,tBA,Hb,Cu,Cn,tYes,rI,rI0,rU,rEq,rNe,rIsA,C7,rItem,lenA,Cz,Ep,Eh,listA,tupleA,lenQ,Hs,Ht,Ee,Eo,He,Hd,Hu,rCat,rCatTT,Dv,Dn,Et,Hy,E3,E4,E7,tIf,Dx,Hv,Es,Er,rEqD,rNeD,Hq,Hn,Hw,Ct,C5,Cw,Cy,Cv,D0,C9,Hl,Ej,Ei,E6,Em,En,Ec,Hm,rInsert,Ek,rCount,C8,Ho,rAppend,rPopAt,rReverse,Ef,rSetL,L2.D5,Dj,Bx,C6,Cd,Gv,Co,Cp,Hh,Ea,Eb,E8,E9,Gp,rStrI,rIntT,Eg,Ends.lose,rRepX,rPop,Ed,El,rRepD,rStrI,rIntT,rStrS,rSplit,rJoin,Ds,Dw,  D.ty,Ac,Af,Ae,Aa,A7,Ab,B0,Bc,Bb,Ay,An,Az,B8,Bh,Bg,B6,Au,B7,B3,Bf,Be,B1,Aq,B2,At,B5,B4,Ar,Al,As,Ak,Ap,Ao,Ai,Ah,Aj,Ax,Ba,B9,Av,Am,Aw,Cc,C1,Cb,By,Bp,Bz,Zyf,Zye,Zyd,Zyc,Zz7,Zzg,Zz6,Zz5,↓reduceIte,Zzp,Zyr,Zzq,Zyz,Zze,Zzy,Zyy,Zz3,Zz9,Zyb,Zzm,Zzo,Zyw,exists_eq_left',exists_eq_left,V.int.injEq,V.bl.injEq,V.str.injEq,V.ref.injEq,V.ty.injEq,Zyp,and_true,true_and,and_assoc,exists_and_left,exists_eq_right,reduceCtorEq,false_and,and_false,exists_false,or_false,false_or,Zxm];rw[h0,h1,h2] at k;exact k _ st
   |true =>
   simp only[Ez,tNext,Gw,E5,Ge,Ha,Dt,Hi,Cj,Hf,Gh,tC,tCB,Dl,tNil,Dh,tOp,tUn,Dk,tB,Hc,tOr,Gy,Du,Gx,Dr,tIf,Gu,Gz,tSl,Dq,tNoPart,tBA,Hb,Cu,Cn,tYes,rI,rI0,rU,rEq,rNe,rIsA,C7,rItem,lenA,Cz,Ep,Eh,listA,tupleA,lenQ,Hs,Ht,Ee,Eo,He,Hd,Hu,rCat,rCatTT,Dv,Dn,Et,Hy,E3,E4,E7,tIf,Dx,Hv,Es,Er,rEqD,rNeD,Hq,Hn,Hw,Ct,C5,Cw,Cy,Cv,D0,C9,Hl,Ej,Ei,E6,Em,En,Ec,Hm,rInsert,Ek,rCount,C8,Ho,rAppend,rPopAt,rReverse,Ef,rSetL,L2.D5,Dj,Bx,C6,Cd,Gv,Co,Cp,Hh,Ea,Eb,E8,E9,Gp,rStrI,rIntT,Eg,Ends.lose,rRepX,rPop,Ed,El,rRepD,rStrI,rIntT,rStrS,rSplit,rJoin,Ds,Dw,  D.ty,Ac,Af,Ae,Aa,A7,Ab,B0,Bc,Bb,Ay,An,Az,B8,Bh,Bg,B6,Au,B7,B3,Bf,Be,B1,Aq,B2,At,B5,B4,Ar,Al,As,Ak,Ap,Ao,Ai,Ah,Aj,Ax,Ba,B9,Av,Am,Aw,Cc,C1,Cb,By,Bp,Bz,Zyf,Zye,Zyd,Zyc,Zz7,Zzg,Zz6,Zz5,↓reduceIte,Zzp,Zyr,Zzq,Zyz,Zze,Zzy,Zyy,Zz3,Zz9,Zyb,Zzm,Zzo,Zyw,exists_eq_left',exists_eq_left,V.int.injEq,V.bl.injEq,V.str.injEq,V.ref.injEq,V.ty.injEq,Zyp,and_true,true_and,and_assoc,exists_and_left,exists_eq_right,reduceCtorEq,false_and,and_false,exists_false,or_false,false_or,Zxn,Zy2]
   refine⟨v3,Ch (j:=3) (st _ _ ha) e3,v3,f,0,rfl,r3.same st,λH5 s5=>?_⟩
   replace st:=st.trans s5
   cases h3:Cm f 0 with
   |false=>simp only[Ez,tNext,Gw,E5,Ge,Ha,Dt,Hi,Cj,Hf,Gh,tC,tCB,Dl,tNil,Dh,tOp,tUn,Dk,tB,Hc,tOr,Gy,Du,Gx,Dr,tIf,Gu,Gz,tSl,Dq,tNoPart,tBA,Hb,Cu,Cn,tYes,rI,rI0,rU,rEq,rNe,rIsA,C7,rItem,lenA,Cz,Ep,Eh,listA,tupleA,lenQ,Hs,Ht,Ee,Eo,He,Hd,Hu,rCat,rCatTT,Dv,Dn,Et,Hy,E3,E4,E7,tIf,Dx,Hv,Es,Er,rEqD,rNeD,Hq,Hn,Hw,Ct,C5,Cw,Cy,Cv,D0,C9,Hl,Ej,Ei,E6,Em,En,Ec,Hm,rInsert,Ek,rCount,C8,Ho,rAppend,rPopAt,rReverse,Ef,rSetL,L2.D5,Dj,Bx,C6,Cd,Gv,Co,Cp,Hh,Ea,Eb,E8,E9,Gp,rStrI,rIntT,Eg,Ends.lose,rRepX,rPop,Ed,El,rRepD,rStrI,rIntT,rStrS,rSplit,rJoin,Ds,Dw,  D.ty,Ac,Af,Ae,Aa,A7,Ab,B0,Bc,Bb,Ay,An,Az,B8,Bh,Bg,B6,Au,B7,B3,Bf,Be,B1,Aq,B2,At,B5,B4,Ar,Al,As,Ak,Ap,Ao,Ai,Ah,Aj,Ax,Ba,B9,Av,Am,Aw,Cc,C1,Cb,By,Bp,Bz,Zyf,Zye,Zyd,Zyc,Zz7,Zzg,Zz6,Zz5,↓reduceIte,Zzp,Zyr,Zzq,Zyz,Zze,Zzy,Zyy,Zz3,Zz9,Zyb,Zzm,Zzo,Zyw,exists_eq_left',exists_eq_left,V.int.injEq,V.bl.injEq,V.str.injEq,V.ref.injEq,V.ty.injEq,Zyp,and_true,true_and,and_assoc,exists_and_left,exists_eq_right,reduceCtorEq,false_and,and_false,exists_false,or_false,false_or,Zxm];rw[h0,h1,h2,h3] at k;exact k _ st
   |true =>
   simp only[Ez,tNext,Gw,E5,Ge,Ha,Dt,Hi,Cj,Hf,Gh,tC,tCB,Dl,tNil,Dh,tOp,tUn,Dk,tB,Hc,tOr,Gy,Du,Gx,Dr,tIf,Gu,Gz,tSl,Dq,tNoPart,tBA,Hb,Cu,Cn,tYes,rI,rI0,rU,rEq,rNe,rIsA,C7,rItem,lenA,Cz,Ep,Eh,listA,tupleA,lenQ,Hs,Ht,Ee,Eo,He,Hd,Hu,rCat,rCatTT,Dv,Dn,Et,Hy,E3,E4,E7,tIf,Dx,Hv,Es,Er,rEqD,rNeD,Hq,Hn,Hw,Ct,C5,Cw,Cy,Cv,D0,C9,Hl,Ej,Ei,E6,Em,En,Ec,Hm,rInsert,Ek,rCount,C8,Ho,rAppend,rPopAt,rReverse,Ef,rSetL,L2.D5,Dj,Bx,C6,Cd,Gv,Co,Cp,Hh,Ea,Eb,E8,E9,Gp,rStrI,rIntT,Eg,Ends.lose,rRepX,rPop,Ed,El,rRepD,rStrI,rIntT,rStrS,rSplit,rJoin,Ds,Dw,  D.ty,Ac,Af,Ae,Aa,A7,Ab,B0,Bc,Bb,Ay,An,Az,B8,Bh,Bg,B6,Au,B7,B3,Bf,Be,B1,Aq,B2,At,B5,B4,Ar,Al,As,Ak,Ap,Ao,Ai,Ah,Aj,Ax,Ba,B9,Av,Am,Aw,Cc,C1,Cb,By,Bp,Bz,Zyf,Zye,Zyd,Zyc,Zz7,Zzg,Zz6,Zz5,↓reduceIte,Zzp,Zyr,Zzq,Zyz,Zze,Zzy,Zyy,Zz3,Zz9,Zyb,Zzm,Zzo,Zyw,exists_eq_left',exists_eq_left,V.int.injEq,V.bl.injEq,V.str.injEq,V.ref.injEq,V.ty.injEq,Zyp,and_true,true_and,and_assoc,exists_and_left,exists_eq_right,reduceCtorEq,false_and,and_false,exists_false,or_false,false_or,Zxn,Zy2]
   refine⟨v4,Ch (j:=4) (st _ _ ha) e4,v4,s,0,rfl,r4.same st,λH6 s6=>?_⟩
   replace st:=st.trans s6
   cases h4:Cm s 0 with
   |false=>simp only[Ez,tNext,Gw,E5,Ge,Ha,Dt,Hi,Cj,Hf,Gh,tC,tCB,Dl,tNil,Dh,tOp,tUn,Dk,tB,Hc,tOr,Gy,Du,Gx,Dr,tIf,Gu,Gz,tSl,Dq,tNoPart,tBA,Hb,Cu,Cn,tYes,rI,rI0,rU,rEq,rNe,rIsA,C7,rItem,lenA,Cz,Ep,Eh,listA,tupleA,lenQ,Hs,Ht,Ee,Eo,He,Hd,Hu,rCat,rCatTT,Dv,Dn,Et,Hy,E3,E4,E7,tIf,Dx,Hv,Es,Er,rEqD,rNeD,Hq,Hn,Hw,Ct,C5,Cw,Cy,Cv,D0,C9,Hl,Ej,Ei,E6,Em,En,Ec,Hm,rInsert,Ek,rCount,C8,Ho,rAppend,rPopAt,rReverse,Ef,rSetL,L2.D5,Dj,Bx,C6,Cd,Gv,Co,Cp,Hh,Ea,Eb,E8,E9,Gp,rStrI,rIntT,Eg,Ends.lose,rRepX,rPop,Ed,El,rRepD,rStrI,rIntT,rStrS,rSplit,rJoin,Ds,Dw,  D.ty,Ac,Af,Ae,Aa,A7,Ab,B0,Bc,Bb,Ay,An,Az,B8,Bh,Bg,B6,Au,B7,B3,Bf,Be,B1,Aq,B2,At,B5,B4,Ar,Al,As,Ak,Ap,Ao,Ai,Ah,Aj,Ax,Ba,B9,Av,Am,Aw,Cc,C1,Cb,By,Bp,Bz,Zyf,Zye,Zyd,Zyc,Zz7,Zzg,Zz6,Zz5,↓reduceIte,Zzp,Zyr,Zzq,Zyz,Zze,Zzy,Zyy,Zz3,Zz9,Zyb,Zzm,Zzo,Zyw,exists_eq_left',exists_eq_left,V.int.injEq,V.bl.injEq,V.str.injEq,V.ref.injEq,V.ty.injEq,Zyp,and_true,true_and,and_assoc,exists_and_left,exists_eq_right,reduceCtorEq,false_and,and_false,exists_false,or_false,false_or,Zxm];rw[h0,h1,h2,h3,h4] at k;exact k _ st
   |true =>
   simp only[Ez,tNext,Gw,E5,Ge,Ha,Dt,Hi,Cj,Hf,Gh,tC,tCB,Dl,tNil,Dh,tOp,tUn,Dk,tB,Hc,tOr,Gy,Du,Gx,Dr,tIf,Gu,Gz,tSl,Dq,tNoPart,tBA,Hb,Cu,Cn,tYes,rI,rI0,rU,rEq,rNe,rIsA,C7,rItem,lenA,Cz,Ep,Eh,listA,tupleA,lenQ,Hs,Ht,Ee,Eo,He,Hd,Hu,rCat,rCatTT,Dv,Dn,Et,Hy,E3,E4,E7,tIf,Dx,Hv,Es,Er,rEqD,rNeD,Hq,Hn,Hw,Ct,C5,Cw,Cy,Cv,D0,C9,Hl,Ej,Ei,E6,Em,En,Ec,Hm,rInsert,Ek,rCount,C8,Ho,rAppend,rPopAt,rReverse,Ef,rSetL,L2.D5,Dj,Bx,C6,Cd,Gv,Co,Cp,Hh,Ea,Eb,E8,E9,Gp,rStrI,rIntT,Eg,Ends.lose,rRepX,rPop,Ed,El,rRepD,rStrI,rIntT,rStrS,rSplit,rJoin,Ds,Dw,  D.ty,Ac,Af,Ae,Aa,A7,Ab,B0,Bc,Bb,Ay,An,Az,B8,Bh,Bg,B6,Au,B7,B3,Bf,Be,B1,Aq,B2,At,B5,B4,Ar,Al,As,Ak,Ap,Ao,Ai,Ah,Aj,Ax,Ba,B9,Av,Am,Aw,Cc,C1,Cb,By,Bp,Bz,Zyf,Zye,Zyd,Zyc,Zz7,Zzg,Zz6,Zz5,↓reduceIte,Zzp,Zyr,Zzq,Zyz,Zze,Zzy,Zyy,Zz3,Zz9,Zyb,Zzm,Zzo,Zyw,exists_eq_left',exists_eq_left,V.int.injEq,V.bl.injEq,V.str.injEq,V.ref.injEq,V.ty.injEq,Zyp,and_true,true_and,and_assoc,exists_and_left,exists_eq_right,reduceCtorEq,false_and,and_false,exists_false,or_false,false_or,Zxn,Zy2]
   refine⟨v5,Ch (j:=5) (st _ _ ha) e5,v5,c,rfl,r5.same st,λH7 s7=>?_⟩
   replace st:=st.trans s7
   rw[h0,h1,h2,h3,h4] at k
   cases h5:D6 c with
   |false=>simp only[Ez,tNext,Gw,E5,Ge,Ha,Dt,Hi,Cj,Hf,Gh,tC,tCB,Dl,tNil,Dh,tOp,tUn,Dk,tB,Hc,tOr,Gy,Du,Gx,Dr,tIf,Gu,Gz,tSl,Dq,tNoPart,tBA,Hb,Cu,Cn,tYes,rI,rI0,rU,rEq,rNe,rIsA,C7,rItem,lenA,Cz,Ep,Eh,listA,tupleA,lenQ,Hs,Ht,Ee,Eo,He,Hd,Hu,rCat,rCatTT,Dv,Dn,Et,Hy,E3,E4,E7,tIf,Dx,Hv,Es,Er,rEqD,rNeD,Hq,Hn,Hw,Ct,C5,Cw,Cy,Cv,D0,C9,Hl,Ej,Ei,E6,Em,En,Ec,Hm,rInsert,Ek,rCount,C8,Ho,rAppend,rPopAt,rReverse,Ef,rSetL,L2.D5,Dj,Bx,C6,Cd,Gv,Co,Cp,Hh,Ea,Eb,E8,E9,Gp,rStrI,rIntT,Eg,Ends.lose,rRepX,rPop,Ed,El,rRepD,rStrI,rIntT,rStrS,rSplit,rJoin,Ds,Dw,  D.ty,Ac,Af,Ae,Aa,A7,Ab,B0,Bc,Bb,Ay,An,Az,B8,Bh,Bg,B6,Au,B7,B3,Bf,Be,B1,Aq,B2,At,B5,B4,Ar,Al,As,Ak,Ap,Ao,Ai,Ah,Aj,Ax,Ba,B9,Av,Am,Aw,Cc,C1,Cb,By,Bp,Bz,Zyf,Zye,Zyd,Zyc,Zz7,Zzg,Zz6,Zz5,↓reduceIte,Zzp,Zyr,Zzq,Zyz,Zze,Zzy,Zyy,Zz3,Zz9,Zyb,Zzm,Zzo,Zyw,exists_eq_left',exists_eq_left,V.int.injEq,V.bl.injEq,V.str.injEq,V.ref.injEq,V.ty.injEq,Zyp,and_true,true_and,and_assoc,exists_and_left,exists_eq_right,reduceCtorEq,false_and,and_false,exists_false,or_false,false_or,Zxm];rw[h5] at k;exact k _ st
   |true =>
   simp only[Ez,tNext,Gw,E5,Ge,Ha,Dt,Hi,Cj,Hf,Gh,tC,tCB,Dl,tNil,Dh,tOp,tUn,Dk,tB,Hc,tOr,Gy,Du,Gx,Dr,tIf,Gu,Gz,tSl,Dq,tNoPart,tBA,Hb,Cu,Cn,tYes,rI,rI0,rU,rEq,rNe,rIsA,C7,rItem,lenA,Cz,Ep,Eh,listA,tupleA,lenQ,Hs,Ht,Ee,Eo,He,Hd,Hu,rCat,rCatTT,Dv,Dn,Et,Hy,E3,E4,E7,tIf,Dx,Hv,Es,Er,rEqD,rNeD,Hq,Hn,Hw,Ct,C5,Cw,Cy,Cv,D0,C9,Hl,Ej,Ei,E6,Em,En,Ec,Hm,rInsert,Ek,rCount,C8,Ho,rAppend,rPopAt,rReverse,Ef,rSetL,L2.D5,Dj,Bx,C6,Cd,Gv,Co,Cp,Hh,Ea,Eb,E8,E9,Gp,rStrI,rIntT,Eg,Ends.lose,rRepX,rPop,Ed,El,rRepD,rStrI,rIntT,rStrS,rSplit,rJoin,Ds,Dw,  D.ty,Ac,Af,Ae,Aa,A7,Ab,B0,Bc,Bb,Ay,An,Az,B8,Bh,Bg,B6,Au,B7,B3,Bf,Be,B1,Aq,B2,At,B5,B4,Ar,Al,As,Ak,Ap,Ao,Ai,Ah,Aj,Ax,Ba,B9,Av,Am,Aw,Cc,C1,Cb,By,Bp,Bz,Zyf,Zye,Zyd,Zyc,Zz7,Zzg,Zz6,Zz5,↓reduceIte,Zzp,Zyr,Zzq,Zyz,Zze,Zzy,Zyy,Zz3,Zz9,Zyb,Zzm,Zzo,Zyw,exists_eq_left',exists_eq_left,V.int.injEq,V.bl.injEq,V.str.injEq,V.ref.injEq,V.ty.injEq,Zyp,and_true,true_and,and_assoc,exists_and_left,exists_eq_right,reduceCtorEq,false_and,and_false,exists_false,or_false,false_or,Zxn,Zy2]
   refine⟨v6,Ch (j:=6) (st _ _ ha) e6,v6,p,rfl,r6.same st,λH8 s8=>?_⟩
   replace st:=st.trans s8
   rw[h5] at k
   exact k _ st
end
set_option maxHeartbeats 4000000
def Ia:D->Bool
 |.tup ds=>decide (1<=ds.length)&&decide (ds.length<=12)&&ds.all isWare&&unl (ds.map nameOf)
 |_=>false
def Gg:D->Bool
 |.tup [a,b,c]=>Jo a&&Cf b 0 400&&Cm c 0
 |_=>false
def Ib:D->Bool
 |.tup ds=>decide (ds.length<=20)&&ds.all Gg
 |_=>false
section
variable {P:Program}{w:World}{K:Zzx}{mg:Str->Option Value}{base:Heap}
theorem Nk{d:D}(h:isWare d=true):∃x b,d=.tup (.str x::b):=by
 unfold isWare at h
 split at h
 ·rename_i a l g f s c p
  simp only[Zzf] at h
  cases a with
  |str x=>exact⟨x,_,rfl⟩
  |_=>exact absurd h.1.1.1.1.1.1 Zz4
 ·cases h
def sp_are_wares:Sp:=λvs H Q _=>∃v d,vs=[v]/\Rep H d v/\∀H',Same H H'->Q (.bl (Ia d)) H'
theorem Qx:Bv ["found"] ["found"] (A6 Iq):=⟨rfl,rfl,rfl,by decide +kernel,rfl,by decide +kernel,by decide +kernel⟩
theorem Ro{f:Addr}{fd:FuncData}(F:Fun K "are_wares" "are_wares" Iq f fd)(T:Txt mg){c:Cl}(C:Exc K mg c)(Zsr:Has P w K mg base "is_ware" 6 ["found"] sp_is_ware)(Zv9:Has P w K mg base "is_tuple" 1 ["found", "least", "most"] sp_is_tuple)(Zud:Has P w K mg base "are_unlike" 1 ["names"] sp_are_unlike):Dp P w K mg base CX0 7 f fd ["found"] sp_are_wares:=by
 refine F.ok Qx (λvs H Q E h=>?_) (λcdv A outer s H vs Q E hr h=>?_)
 ·obtain⟨v,d,rfl,_⟩:=h
  rfl
 ·obtain⟨v,d,rfl,hv,k⟩:=h
  have hu:=Di hr
  refine⟨_,(A5 (D9 (PW.pt (Lq (Dz (F0 (A8 Zv9 (hr.mono (by decide)) rfl (A3 (pv 0) (A3 A4 (A3 (D1 rfl T.Zu2) A2)))))) (Lb (Dz (F0 (Bn (J8 rfl) rfl T.Zti Li (A3 (D8 (own:=["ware"]) (cap:=[]) rfl (Fu rfl) (C3 (by decide)) (Kw (pv 0))
 (λ_ _ _ _ _ _=>⟨(Bq (i:=0) (of_decide_eq_true rfl) rfl (Zz0 rfl) (.inr rfl)),D7,(A8 Zsr (hr.mono (by decide)) rfl (A3 (pv 0) A2))⟩)) A2))))))) (A9 (Bm Gd)) Ca)
 (A9 (Bm (A8 Zud (hr.mono (by decide)) rfl (A3 (D8 (own:=["ware"]) (cap:=[]) rfl (Fu rfl) (C3 (by decide)) (Kw (pv 0))
 (λ_ _ _ _ _ _=>⟨(Bq (i:=0) (of_decide_eq_true rfl) rfl (Zz0 rfl) (.inr rfl)),D7,(Ag hu (pv 0) (D1 rfl T.Zte) (λ_ _=>rfl))⟩)) A2))))),?_⟩
  walk_at "rd"
  refine⟨v,d,1,12,rfl,hv,λH1 s1=>?_⟩
  walk_at "rd"
  cases h:Ic d 1 12 with
  |false =>
   simp only[Ez,tNext,Gw,E5,Ge,Ha,Dt,Hi,Cj,Hf,Gh,tC,tCB,Dl,tNil,Dh,tOp,tUn,Dk,tB,Hc,tOr,Gy,Du,Gx,Dr,tIf,Gu,Gz,tSl,Dq,tNoPart,tBA,Hb,Cu,Cn,tYes,rI,rI0,rU,rEq,rNe,rIsA,C7,rItem,lenA,Cz,Ep,Eh,listA,tupleA,lenQ,Hs,Ht,Ee,Eo,He,Hd,Hu,rCat,rCatTT,Dv,Dn,Et,Hy,E3,E4,E7,tIf,Dx,Hv,Es,Er,rEqD,rNeD,Hq,Hn,Hw,Ct,C5,Cw,Cy,Cv,D0,C9,Hl,Ej,Ei,E6,Em,En,Ec,Hm,rInsert,Ek,rCount,C8,Ho,rAppend,rPopAt,rReverse,Ef,rSetL,L2.D5,Dj,Bx,C6,Cd,Gv,Co,Cp,Hh,Ea,Eb,E8,E9,Gp,rStrI,rIntT,Eg,Ends.lose,rRepX,rPop,Ed,El,rRepD,rStrI,rIntT,rStrS,rSplit,rJoin,Ds,Dw,  D.ty,Ac,Af,Ae,Aa,A7,Ab,B0,Bc,Bb,Ay,An,Az,B8,Bh,Bg,B6,Au,B7,B3,Bf,Be,B1,Aq,B2,At,B5,B4,Ar,Al,As,Ak,Ap,Ao,Ai,Ah,Aj,Ax,Ba,B9,Av,Am,Aw,Cc,C1,Cb,By,Bp,Bz,Zyf,Zye,Zyd,Zyc,Zz7,Zzg,Zz6,Zz5,↓reduceIte,Zzp,Zyr,Zzq,Zyz,Zze,Zzy,Zyy,Zz3,Zz9,Zyb,Zzm,Zzo,Zyw,exists_eq_left',exists_eq_left,V.int.injEq,V.bl.injEq,V.str.injEq,V.ref.injEq,V.ty.injEq,Zyp,and_true,true_and,and_assoc,exists_and_left,exists_eq_right,reduceCtorEq,false_and,and_false,exists_false,or_false,false_or,Zxm]
   have k:=k H1 s1
   have e:Ia d=false:=by
    cases d with
    |tup ds =>
     show (decide (1<=ds.length)&&decide (ds.length<=12)&&ds.all isWare&&unl (ds.map nameOf))=false
     have:¬ (1<=ds.length/\ds.length<=12):=λz=>Zy0.mp h (by show (decide ((1:Int)<=ds.length)&&decide ((ds.length:Int)<=12))=true;simp;omega)
     have e2:(decide (1<=ds.length)&&decide (ds.length<=12))=false:=by rw[<- Bool.decide_and];exact decide_eq_false this
     rw[e2,Zyt,Zyt]
    |_=>rfl
   rw[e] at k
   exact k
  |true =>
   simp only[Ez,tNext,Gw,E5,Ge,Ha,Dt,Hi,Cj,Hf,Gh,tC,tCB,Dl,tNil,Dh,tOp,tUn,Dk,tB,Hc,tOr,Gy,Du,Gx,Dr,tIf,Gu,Gz,tSl,Dq,tNoPart,tBA,Hb,Cu,Cn,tYes,rI,rI0,rU,rEq,rNe,rIsA,C7,rItem,lenA,Cz,Ep,Eh,listA,tupleA,lenQ,Hs,Ht,Ee,Eo,He,Hd,Hu,rCat,rCatTT,Dv,Dn,Et,Hy,E3,E4,E7,tIf,Dx,Hv,Es,Er,rEqD,rNeD,Hq,Hn,Hw,Ct,C5,Cw,Cy,Cv,D0,C9,Hl,Ej,Ei,E6,Em,En,Ec,Hm,rInsert,Ek,rCount,C8,Ho,rAppend,rPopAt,rReverse,Ef,rSetL,L2.D5,Dj,Bx,C6,Cd,Gv,Co,Cp,Hh,Ea,Eb,E8,E9,Gp,rStrI,rIntT,Eg,Ends.lose,rRepX,rPop,Ed,El,rRepD,rStrI,rIntT,rStrS,rSplit,rJoin,Ds,Dw,  D.ty,Ac,Af,Ae,Aa,A7,Ab,B0,Bc,Bb,Ay,An,Az,B8,Bh,Bg,B6,Au,B7,B3,Bf,Be,B1,Aq,B2,At,B5,B4,Ar,Al,As,Ak,Ap,Ao,Ai,Ah,Aj,Ax,Ba,B9,Av,Am,Aw,Cc,C1,Cb,By,Bp,Bz,Zyf,Zye,Zyd,Zyc,Zz7,Zzg,Zz6,Zz5,↓reduceIte,Zzp,Zyr,Zzq,Zyz,Zze,Zzy,Zyy,Zz3,Zz9,Zyb,Zzm,Zzo,Zyw,exists_eq_left',exists_eq_left,V.int.injEq,V.bl.injEq,V.str.injEq,V.ref.injEq,V.ty.injEq,Zyp,and_true,true_and,and_assoc,exists_and_left,exists_eq_right,reduceCtorEq,false_and,and_false,exists_false,or_false,false_or,Zxn,Zy2]
   obtain⟨ds,rfl,hn0,hn⟩:=Gq h
   have hv1:=hv.same s1
   rw[Rep] at hv1
   obtain⟨a,xs,rfl,ha,hz,r⟩:=hv1
   walk_at "rd"
   refine .inr ⟨xs,ha,?_⟩
   refine Mb (p:=isWare) ha r hz (λx d H' rd s' N hN=>?_) (λa' H2 s2 ha'=>?_)
   ·walk_at "rd"
    exact⟨x,d,rfl,rd,hN⟩
   ·refine⟨a',rfl,_,ha',?_⟩
    have e0:(ds.map isWare).all id=ds.all isWare:=by rw[Zxg];rfl
    rw[e0]
    have e:Ia (.tup ds)=(ds.all isWare&&unl (ds.map nameOf)):=by
     show (decide (1<=ds.length)&&decide (ds.length<=12)&&ds.all isWare&&unl (ds.map nameOf))=_
     rw[decide_eq_true (by omega),decide_eq_true (by omega),Zyl,Zyl]
    rw[e] at k
    cases hp:ds.all isWare with
    |false =>
     rw[hp,Zyt] at k
     simp only[Ez,tNext,Gw,E5,Ge,Ha,Dt,Hi,Cj,Hf,Gh,tC,tCB,Dl,tNil,Dh,tOp,tUn,Dk,tB,Hc,tOr,Gy,Du,Gx,Dr,tIf,Gu,Gz,tSl,Dq,tNoPart,tBA,Hb,Cu,Cn,tYes,rI,rI0,rU,rEq,rNe,rIsA,C7,rItem,lenA,Cz,Ep,Eh,listA,tupleA,lenQ,Hs,Ht,Ee,Eo,He,Hd,Hu,rCat,rCatTT,Dv,Dn,Et,Hy,E3,E4,E7,tIf,Dx,Hv,Es,Er,rEqD,rNeD,Hq,Hn,Hw,Ct,C5,Cw,Cy,Cv,D0,C9,Hl,Ej,Ei,E6,Em,En,Ec,Hm,rInsert,Ek,rCount,C8,Ho,rAppend,rPopAt,rReverse,Ef,rSetL,L2.D5,Dj,Bx,C6,Cd,Gv,Co,Cp,Hh,Ea,Eb,E8,E9,Gp,rStrI,rIntT,Eg,Ends.lose,rRepX,rPop,Ed,El,rRepD,rStrI,rIntT,rStrS,rSplit,rJoin,Ds,Dw,  D.ty,Ac,Af,Ae,Aa,A7,Ab,B0,Bc,Bb,Ay,An,Az,B8,Bh,Bg,B6,Au,B7,B3,Bf,Be,B1,Aq,B2,At,B5,B4,Ar,Al,As,Ak,Ap,Ao,Ai,Ah,Aj,Ax,Ba,B9,Av,Am,Aw,Cc,C1,Cb,By,Bp,Bz,Zyf,Zye,Zyd,Zyc,Zz7,Zzg,Zz6,Zz5,↓reduceIte,Zzp,Zyr,Zzq,Zyz,Zze,Zzy,Zyy,Zz3,Zz9,Zyb,Zzm,Zzo,Zyw,exists_eq_left',exists_eq_left,V.int.injEq,V.bl.injEq,V.str.injEq,V.ref.injEq,V.ty.injEq,Zyp,and_true,true_and,and_assoc,exists_and_left,exists_eq_right,reduceCtorEq,false_and,and_false,exists_false,or_false,false_or,Zxm]
     exact k H2 (s1.trans s2)
    |true =>
     rw[hp,Zyl] at k
     simp only[Ez,tNext,Gw,E5,Ge,Ha,Dt,Hi,Cj,Hf,Gh,tC,tCB,Dl,tNil,Dh,tOp,tUn,Dk,tB,Hc,tOr,Gy,Du,Gx,Dr,tIf,Gu,Gz,tSl,Dq,tNoPart,tBA,Hb,Cu,Cn,tYes,rI,rI0,rU,rEq,rNe,rIsA,C7,rItem,lenA,Cz,Ep,Eh,listA,tupleA,lenQ,Hs,Ht,Ee,Eo,He,Hd,Hu,rCat,rCatTT,Dv,Dn,Et,Hy,E3,E4,E7,tIf,Dx,Hv,Es,Er,rEqD,rNeD,Hq,Hn,Hw,Ct,C5,Cw,Cy,Cv,D0,C9,Hl,Ej,Ei,E6,Em,En,Ec,Hm,rInsert,Ek,rCount,C8,Ho,rAppend,rPopAt,rReverse,Ef,rSetL,L2.D5,Dj,Bx,C6,Cd,Gv,Co,Cp,Hh,Ea,Eb,E8,E9,Gp,rStrI,rIntT,Eg,Ends.lose,rRepX,rPop,Ed,El,rRepD,rStrI,rIntT,rStrS,rSplit,rJoin,Ds,Dw,  D.ty,Ac,Af,Ae,Aa,A7,Ab,B0,Bc,Bb,Ay,An,Az,B8,Bh,Bg,B6,Au,B7,B3,Bf,Be,B1,Aq,B2,At,B5,B4,Ar,Al,As,Ak,Ap,Ao,Ai,Ah,Aj,Ax,Ba,B9,Av,Am,Aw,Cc,C1,Cb,By,Bp,Bz,Zyf,Zye,Zyd,Zyc,Zz7,Zzg,Zz6,Zz5,↓reduceIte,Zzp,Zyr,Zzq,Zyz,Zze,Zzy,Zyy,Zz3,Zz9,Zyb,Zzm,Zzo,Zyw,exists_eq_left',exists_eq_left,V.int.injEq,V.bl.injEq,V.str.injEq,V.ref.injEq,V.ty.injEq,Zyp,and_true,true_and,and_assoc,exists_and_left,exists_eq_right,reduceCtorEq,false_and,and_false,exists_false,or_false,false_or,Zxn,Zy2]
     have ha2:=s2 _ _ ha
     have r2:=r.same s2
     refine .inr ⟨xs,ha2,?_⟩
     refine Df (L5 a xs) (by rw[r.length];exact Bi hz) (λH' s'=>s' _ _ ha2) ((ds.map nameOf).map V.str) (by simp[r.length]) (λi y H' hi hy s' N M hN=>?_) (λH' s' q hq=>?_)
     ·obtain⟨d,hd,rd⟩:=r2.get hy
      obtain⟨z,b,rfl⟩:=Nk (Zz2.mp hp d (Zyv hd))
      obtain⟨c,ys,rfl,hc,hl,_,g⟩:=Iz rd
      obtain⟨vx,ex,rx⟩:=g 0 _ rfl
      rw[Rep] at rx
      obtain⟨rfl,_⟩:=rx
      walk_at "rd"
      refine⟨_,Ch (j:=0) (s' _ _ hc) ex,hN _ _ s' ?_⟩
      rw[Zzv,Zzv,hd]
      rfl
     ·refine⟨q,_,rfl,A1,by rw[Zzz];exact hz,λH5 s5=>k H5 ?_⟩
      exact((s1.trans s2).trans s').trans ((A0 hq).trans s5)
def sp_is_want:Sp:=λvs H Q _=>∃v d,vs=[v]/\Rep H d v/\∀H',Same H H'->Q (.bl (Gg d)) H'
theorem Pj{d:D}(h:Ic d 3 3=true):∃a b c,d=.tup [a,b,c]:=by
 obtain⟨ds,rfl,h1,h2⟩:=Gq h
 match ds,h1,h2 with
 |[a,b,c],_,_=>exact⟨a,b,c,rfl⟩
 |[],h1,_=>simp at h1
 |[_],h1,_=>simp at h1
 |[_,_],h1,_=>simp at h1
 |_::_::_::_::r,_,h2=>simp at h2;omega
theorem U3:Bv ["found"] ["found"] (A6 K9):=⟨rfl,rfl,rfl,by decide +kernel,rfl,by decide +kernel,by decide +kernel⟩
theorem Ue{f:Addr}{fd:FuncData}(F:Fun K "is_want" "is_want" K9 f fd)(T:Txt mg){c:Cl}(C:Exc K mg c)(Zv9:Has P w K mg base "is_tuple" 1 ["found", "least", "most"] sp_is_tuple)(Zv6:Has P w K mg base "is_from" 2 ["found", "least"] sp_is_from)(Zv1:Has P w K mg base "is_between" 3 ["found", "least", "most"] sp_is_between)(Zv0:Has P w K mg base "is_name" 1 ["found"] sp_is_name):Dp P w K mg base CX0 4 f fd ["found"] sp_is_want:=by
 refine F.ok U3 (λvs H Q E h=>?_) (λcdv A outer s H vs Q E hr h=>?_)
 ·obtain⟨v,d,rfl,_⟩:=h
  rfl
 ·obtain⟨v,d,rfl,hv,k⟩:=h
  have hu:=Di hr
  refine⟨_,(A5 (D9 (Dz (F0 (A8 Zv9 (hr.mono (by decide)) rfl (A3 (pv 0) (A3 A4 (A3 A4 A2)))))) (A9 (Bm Gd)) Ca)
 (A9 (Bm (Jm (A8 Zv0 (hr.mono (by decide)) rfl (A3 (Ag hu (pv 0) A4 (λ_ _=>rfl)) A2)) (Jm (A8 Zv1 (hr.mono (by decide)) rfl (A3 (Ag hu (pv 0) A4 (λ_ _=>rfl)) (A3 A4 (A3 (D1 rfl T.Ztz) A2)))) (Ki (A8 Zv6 (hr.mono (by decide)) rfl (A3 (Ag hu (pv 0) A4 (λ_ _=>rfl)) (A3 A4 A2))))))))),?_⟩
  walk_at "rd"
  refine⟨v,d,3,3,rfl,hv,λH1 s1=>?_⟩
  walk_at "rd"
  cases h:Ic d 3 3 with
  |false =>
   rw[if_pos (by decide)]
   have e:Gg d=false:=by
    unfold Gg
    split
    ·cases h
    ·rfl
   have k:=k H1 s1
   rw[e] at k
   exact k
  |true =>
   rw[if_neg (by decide)]
   obtain⟨x,y,z,rfl⟩:=Pj h
   obtain⟨a,xs,rfl,ha,hl,_,g⟩:=Iz (hv.same s1)
   obtain⟨v0,e0,r0⟩:=g 0 _ rfl
   obtain⟨v1,e1,r1⟩:=g 1 _ rfl
   obtain⟨v2,e2,r2⟩:=g 2 _ rfl
   have kk:∀H',Same H H'->Q (.bl (Jo x&&Cf y 0 400&&Cm z 0)) H':=k
   refine⟨_,Ch (j:=0) ha e0,v0,x,rfl,r0,λH2 s2=>⟨_,rfl,?_⟩⟩
   cases h1:Jo x with
   |false =>
    rw[h1,Zyt,Zyt] at kk
    rw[if_neg (by decide)]
    exact kk H2 (s1.trans s2)
   |true =>
    rw[h1,Zyl] at kk
    rw[if_pos rfl]
    refine⟨_,Ch (j:=1) (s2 _ _ ha) e1,v1,y,0,400,rfl,r1.same s2,λH3 s3=>⟨_,rfl,?_⟩⟩
    cases h2:Cf y 0 400 with
    |false =>
     rw[h2,Zyt] at kk
     rw[if_neg (by decide)]
     exact kk H3 ((s1.trans s2).trans s3)
    |true =>
     rw[h2,Zyl] at kk
     rw[if_pos rfl]
     exact⟨_,Ch (j:=2) (s3 _ _ (s2 _ _ ha)) e2,v2,z,0,rfl,(r2.same s2).same s3,λH4 s4=>kk H4 (((s1.trans s2).trans s3).trans s4)⟩
def sp_are_wants:Sp:=λvs H Q _=>∃v d,vs=[v]/\Rep H d v/\∀H',Same H H'->Q (.bl (Ib d)) H'
theorem Qy:Bv ["found"] ["found"] (A6 Ir):=⟨rfl,rfl,rfl,by decide +kernel,rfl,by decide +kernel,by decide +kernel⟩
theorem Rp{f:Addr}{fd:FuncData}(F:Fun K "are_wants" "are_wants" Ir f fd)(T:Txt mg){c:Cl}(C:Exc K mg c)(Zsq:Has P w K mg base "is_want" 4 ["found"] sp_is_want)(Zv9:Has P w K mg base "is_tuple" 1 ["found", "least", "most"] sp_is_tuple):Dp P w K mg base CX0 5 f fd ["found"] sp_are_wants:=by
 refine F.ok Qy (λvs H Q E h=>?_) (λcdv A outer s H vs Q E hr h=>?_)
 ·obtain⟨v,d,rfl,_⟩:=h
  rfl
 ·obtain⟨v,d,rfl,hv,k⟩:=h
  have hu:=Di hr
  refine⟨_,(A9 (Bm (Jm (A8 Zv9 (hr.mono (by decide)) rfl (A3 (pv 0) (A3 A4 (A3 (D1 rfl T.Zu3) A2)))) (Ki (Bn (J8 rfl) rfl T.Zti Li (A3 (D8 (own:=["want"]) (cap:=[]) rfl (Fu rfl) (C3 (by decide)) (Kw (pv 0))
 (λ_ _ _ _ _ _=>⟨(Bq (i:=0) (of_decide_eq_true rfl) rfl (Zz0 rfl) (.inr rfl)),D7,(A8 Zsq (hr.mono (by decide)) rfl (A3 (pv 0) A2))⟩)) A2)))))),?_⟩
  walk_at "rd"
  refine⟨v,d,0,20,rfl,hv,λH1 s1=>?_⟩
  walk_at "rd"
  refine Fj (λh=>?_) (λh=>?_)
  ·obtain⟨ds,rfl,_,hn⟩:=Gq h
   have hv1:=hv.same s1
   rw[Rep] at hv1
   obtain⟨a,xs,rfl,ha,hz,r⟩:=hv1
   walk_at "rd"
   refine .inr ⟨xs,ha,?_⟩
   refine Mb (p:=Gg) ha r hz (λx d H' rd s' N hN=>?_) (λa' H' s' ha'=>?_)
   ·walk_at "rd"
    exact⟨x,d,rfl,rd,hN⟩
   ·refine⟨a',rfl,_,ha',?_⟩
    have k:=k H' (s1.trans s')
    have e:Ib (.tup ds)=(ds.map Gg).all id:=by
     show (decide (ds.length<=20)&&ds.all Gg)=_
     rw[decide_eq_true (by omega),Zyl,Zxg]
     rfl
    rw[e] at k
    exact k
  ·have k:=k H1 s1
   have e:Ib d=false:=by
    cases d with
    |tup ds =>
     show (decide (ds.length<=20)&&ds.all Gg)=false
     have:¬ ds.length<=20:=λz=>h (by show (decide ((0:Int)<=ds.length)&&decide ((ds.length:Int)<=20))=true;simp;omega)
     rw[decide_eq_false this,Zyt]
    |_=>rfl
   rw[e] at k
   exact k
end
set_option maxHeartbeats 4000000
def Og:D->List D
 |.tup [_,_,_,_,_,_,.tup ps]=>ps
 |_=>[]
def Ja(ws us:List D):List Str:=us.map nameOf++(ws.map λw=>(Og w).map nameOf).flatten
def Jy:D->Bool
 |.tup [.tup ws,.tup us]=>Ia (.tup ws)&&Ib (.tup us)&&(Ja ws us).all λx=>decide (x∈ws.map nameOf)
 |_=>false
theorem Lf{d:D}(h:isWare d=true):∃n l g f s c ps,d=.tup [n,l,g,f,s,c,.tup ps]/\ps.length<=6/\(∀p∈ps,isPart p=true)/\Og d=ps:=by
 unfold isWare at h
 split at h
 ·rename_i a l g f s c p
  simp only[Zzf] at h
  have hp:=h.2
  cases p with
  |tup ps =>
   have hp:(decide (ps.length<=6)&&ps.all isPart&&unl (ps.map nameOf))=true:=hp
   simp only[Zzf] at hp
   exact⟨a,l,g,f,s,c,ps,rfl,of_decide_eq_true hp.1.1,λq hq=>Zz2.mp hp.1.2 q hq,rfl⟩
  |_=>exact absurd hp Zz4
 ·cases h
theorem Oc{H:Hp}{x:Str}{b:List D}{v:V}(h:Rep H (.tup (.str x::b)) v):Ni H v (.int 0) (.str x):=by
 obtain⟨c,ys,rfl,hc,hl,_,g⟩:=Iz h
 obtain⟨vx,ex,rx⟩:=g 0 _ rfl
 rw[Rep] at rx
 obtain⟨rfl,_⟩:=rx
 exact Ch (j:=0) hc ex
section
variable {P:Program}{w:World}{K:Zzx}{mg:Str->Option Value}{base:Heap}
def sp_names_of:Sp:=λvs H Q _=>∃(v:V) (ws:List D) (u:D),vs=[v]/\Rep H (.tup [.tup ws,u]) v/\(∀d∈ws,isWare d=true)/\ws.length<=12/\∀p H',H p=none->H' p=some (.lst ((ws.map nameOf).map V.str))->Same H H'->Q (.ref p) H'
theorem Sj:Bv ["shop"] ["shop"] (A6 Jf):=⟨rfl,rfl,rfl,by decide +kernel,rfl,by decide +kernel,by decide +kernel⟩
theorem T6{f:Addr}{fd:FuncData}(F:Fun K "names_of" "names_of" Jf f fd)(T:Txt mg){c:Cl}(C:Exc K mg c):Dp P w K mg base CX0 1 f fd ["shop"] sp_names_of:=by
 refine F.ok Sj (λvs H Q E h=>?_) (λcdv A outer s H vs Q E hr h=>?_)
 ·obtain⟨v,ws,u,rfl,_⟩:=h
  rfl
 ·obtain⟨v,ws,u,rfl,hv,hw,hl,k⟩:=h
  have hu:=Di hr
  refine⟨_,(A9 (Bm (D8 (own:=["ware"]) (cap:=[]) rfl (Fu rfl) (C3 (by decide)) (Ku (Ag hu (pv 0) A4 (λ_ _=>rfl)))
 (λ_ _ _ _ _ _=>⟨(Bq (i:=0) (of_decide_eq_true rfl) rfl (Zz0 rfl) (.inr rfl)),D7,(Ag hu (pv 0) (D1 rfl T.Zte) (λ_ _=>rfl))⟩)))),?_⟩
  walk_at "rd"
  obtain⟨a,xs,rfl,ha,hxl,_,g⟩:=Iz hv
  obtain⟨v0,e0,r0⟩:=g 0 _ rfl
  rw[Rep] at r0
  obtain⟨b,ys,rfl,hb,hz,r⟩:=r0
  refine⟨_,Ch (j:=0) ha e0,b,rfl,ys,hb,?_⟩
  refine Df (L5 b ys) (by rw[r.length];exact Bi (by omega)) (λH' s'=>s' _ _ hb) ((ws.map nameOf).map V.str) (by simp[r.length]) (λi y H' hi hy s' N M hN=>?_) (λH' s' q hq=>k q _ (Same.free s' hq) A1 (s'.trans (A0 hq)))
  obtain⟨d,hd,rd⟩:=r.get hy
  obtain⟨z,bb,rfl⟩:=Nk (hw d (Zyv hd))
  walk_at "rd"
  exact⟨_,Oc (rd.same s'),hN _ _ s' (by rw[Zzv,Zzv,hd];rfl)⟩
def sp_part_names:Sp:=λvs H Q _=>∃(v:V) (d:D),vs=[v]/\Rep H d v/\isWare d=true/\∀p H',H p=none->H' p=some (.lst (((Og d).map nameOf).map V.str))->Same H H'->Q (.ref p) H'
theorem P9:Bv ["ware"] ["ware"] (A6 Gj):=⟨rfl,rfl,rfl,by decide +kernel,rfl,by decide +kernel,by decide +kernel⟩
theorem Pe{f:Addr}{fd:FuncData}(F:Fun K "part_names" "part_names" Gj f fd)(T:Txt mg){c:Cl}(C:Exc K mg c):Dp P w K mg base CX0 1 f fd ["ware"] sp_part_names:=by
 refine F.ok P9 (λvs H Q E h=>?_) (λcdv A outer s H vs Q E hr h=>?_)
 ·obtain⟨v,d,rfl,_⟩:=h
  rfl
 ·obtain⟨v,d,rfl,hv,hw,k⟩:=h
  have hu:=Di hr
  refine⟨_,(A9 (Bm (D8 (own:=["part"]) (cap:=[]) rfl (Fu rfl) (C3 (by decide)) (Ku (Ag hu (pv 0) (D1 rfl T.Ztg) (λ_ _=>rfl)))
 (λ_ _ _ _ _ _=>⟨(Bq (i:=0) (of_decide_eq_true rfl) rfl (Zz0 rfl) (.inr rfl)),D7,(Ag hu (pv 0) A4 (λ_ _=>rfl))⟩)))),?_⟩
  walk_at "rd"
  obtain⟨n,l,g',f',s',c,ps,rfl,hp6,hps,epd⟩:=Lf hw
  rw[epd] at k
  obtain⟨a,xs,rfl,ha,hxl,_,g⟩:=Iz hv
  obtain⟨v0,e0,r0⟩:=g 6 _ rfl
  rw[Rep] at r0
  obtain⟨b,ys,rfl,hb,hz,r⟩:=r0
  refine⟨_,Ch (j:=6) ha e0,b,rfl,ys,hb,?_⟩
  refine Df (L5 b ys) (by rw[r.length];exact Bi (by omega)) (λH' s'=>s' _ _ hb) ((ps.map nameOf).map V.str) (by simp[r.length]) (λi y H' hi hy s' N M hN=>?_) (λH' s' q hq=>k q _ (Same.free s' hq) A1 (s'.trans (A0 hq)))
  obtain⟨d,hd,rd⟩:=r.get hy
  obtain⟨z,bb,rfl⟩:=Nl (hps d (Zyv hd))
  walk_at "rd"
  exact⟨_,Oc (rd.same s'),hN _ _ s' (by rw[Zzv,Zzv,hd];rfl)⟩
end
section
variable {P:Program}{w:World}{K:Zzx}{mg:Str->Option Value}{base:Heap}
theorem Tl{d:D}(h:Gg d=true):∃x b,d=.tup (.str x::b):=by
 unfold Gg at h
 split at h
 ·rename_i a b c
  simp only[Zzf] at h
  cases a with
  |str x=>exact⟨x,_,rfl⟩
  |_=>exact absurd h.1.1 Zz4
 ·cases h
def sp_needed_names:Sp:=λvs H Q _=>∃(v:V) (ws us:List D),vs=[v]/\Rep H (.tup [.tup ws,.tup us]) v/\(∀d∈ws,isWare d=true)/\ws.length<=12/\(∀d∈us,Gg d=true)/\us.length<=20/\∀p H',H p=none->H' p=some (.lst ((Ja ws us).map V.str))->Same H H'->Q (.ref p) H'
def gu(v:V)(p:Addr)(ws us:List D)(H:Hp)(i:Nat)(Z:St)(H':Hp):Prop:=∃o2:Option V,Z=[some v,some (.ref p),o2]/\H' p=some (.lst ((Ja (ws.take i) us).map V.str))/\Same H H'
theorem Td{ws us:List D}(hw:∀d∈ws,isWare d=true):(Ja ws us).length<=us.length+6*ws.length:=by
 unfold Ja
 rw[Zzh,Zzz]
 have:((ws.map λw=>(Og w).map nameOf).flatten).length<=6*ws.length:=by
  induction ws with
  |nil=>exact Zzt _
  |cons d r ih =>
   obtain⟨_,_,_,_,_,_,ps,_,h6,_,e⟩:=Lf (hw d Zzs)
   rw[Zzp,Zy7,Zzh,Zzz,e,Zzy]
   have:=ih λx hx=>hw x (Zzi _ hx)
   omega
 omega
theorem sc_needed_names:Bv ["shop", "names", "ware"] ["shop"] (A6 Fn):=⟨rfl,rfl,rfl,by decide +kernel,rfl,by decide +kernel,by decide +kernel⟩
theorem Nu{f:Addr}{fd:FuncData}(F:Fun K "needed_names" "needed_names" Fn f fd)(T:Txt mg){c:Cl}(C:Exc K mg c)(Zta:Has P w K mg base "part_names" 1 ["ware"] sp_part_names):Dp P w K mg base CX0 2 f fd ["shop"] sp_needed_names:=by
 refine F.ok sc_needed_names (λvs H Q E h=>?_) (λcdv A outer s H vs Q E hr h=>?_)
 ·obtain⟨v,ws,us,rfl,_⟩:=h
  rfl
 ·obtain⟨v,ws,us,rfl,hv,hw,hl,hus,hul,k⟩:=h
  have hu:=Di hr
  refine⟨_,(A5 (Oe (own:=["want"]) (cap:=[]) (i:=1) rfl (Fu rfl) (C3 (by decide)) sc_needed_names.nd rfl rfl (Ku (Ag hu (pv 0) A4 (λ_ _=>rfl)))
 (λ_ _ _ _ _ _=>⟨(Bq (i:=0) (of_decide_eq_true rfl) rfl (Zz0 rfl) (.inr rfl)),D7,(Ag hu (pv 0) A4 (λ_ _=>rfl))⟩))
 (A5 (Jw PassesOwn.never rfl (Ku (Ag hu (pv 0) A4 (λ_ _=>rfl))) (Bq (i:=2) sc_needed_names.nd rfl (Zz0 rfl))
 (A9 (E1 (Da Zym PySem.F.slot_list_extend PySem.F.type_list_extend Q4 (pv 1) (A3 (A8 Zta (hr.mono (by decide)) rfl (A3 (pv 2) A2)) A2)))))
 (A9 (Bm (pv 1))))),?_⟩
  walk_at "rd"
  obtain⟨a,xs,rfl,ha,hxl,_,g⟩:=Iz hv
  obtain⟨v0,e0,r0⟩:=g 0 _ rfl
  obtain⟨v1,e1,r1⟩:=g 1 _ rfl
  rw[Rep] at r0 r1
  obtain⟨b,ys,rfl,hb,hz,r⟩:=r0
  obtain⟨c,zs,rfl,hc,hz1,rz⟩:=r1
  refine⟨_,Ch (j:=1) ha e1,c,rfl,zs,hc,?_⟩
  refine Df (L5 c zs) (by rw[rz.length];exact Bi (by omega)) (λH' s'=>s' _ _ hc) ((us.map nameOf).map V.str) (by simp[rz.length]) (λi y H' hi hy s' N M hN=>?_) (λH1 s1 p hp=>?_)
  ·obtain⟨d,hd,rd⟩:=rz.get hy
   obtain⟨z,bb,rfl⟩:=Tl (hus d (Zyv hd))
   walk_at "rd"
   exact⟨_,Oc (rd.same s'),hN _ _ s' (by rw[Zzv,Zzv,hd];rfl)⟩
  have u1:=s1.trans (A0 (o:=.lst ((us.map nameOf).map V.str)) hp)
  have fp:H p=none:=Same.free s1 hp
  refine⟨_,Ch (j:=0) (u1 _ _ ha) e0,b,rfl,ys,u1 _ _ hb,?_⟩
  refine N2 (L5 b ys) (gu (.ref a) p ws us H) ⟨_,rfl,by rw[A1];unfold Ja;simp,u1⟩ (λi Z H' _ h=>by obtain⟨_,_,_,s⟩:=h;exact s _ _ hb) (λi x Z H2 hi hx h=>?_) (λZ H2 h=>?_)
  ·obtain⟨o2,rfl,hp2,s2⟩:=h
   obtain⟨d,hd,rd⟩:=r.get hx
   have hdm:=Zyv hd
   obtain⟨_,_,_,_,_,_,ps,_,h6,_,epd⟩:=Lf (hw d hdm)
   walk_at "rd"
   refine⟨Fk hp2,x,d,rfl,rd.same s2,hw d hdm,λq H3 hq hq3 s3=>?_⟩
   have hp3:=s3 _ _ hp2
   have hnl:=Td (us:=us) (ws:=ws.take i) λx hx=>hw x (Zxf hx)
   rw[Zyg] at hnl
   have hil:=(Zy1.mp hd).1
   refine⟨p,q,_,_,rfl,rfl,hp3,hq3,Zyu (m:=1000) (by rw[Zzz,Zzz,Zzz,epd];omega) (by decide),_,rfl,?_,λb' o' e=>?_⟩
   ·rw[A1,<- Zyo]
    congr 3
    unfold Ja
    rw[Zxw,hd,Zyo,Zwq,Zvy]
    simp
   ·rw[Bd (Bj e fp)]
    exact s3 _ _ (s2 _ _ e)
  ·obtain⟨o2,rfl,hp2,s2⟩:=h
   walk_at "rd"
   rw[r.length,Zxo] at hp2
   exact k p H2 fp hp2 s2
def sp_is_shop:Sp:=λvs H Q _=>∃v d,vs=[v]/\Rep H d v/\∀H',Same H H'->Q (.bl (Jy d)) H'
theorem sc_is_shop:Bv ["found", "names"] ["found"] (A6 Ka):=⟨rfl,rfl,rfl,by decide +kernel,rfl,by decide +kernel,by decide +kernel⟩
theorem Uf{f:Addr}{fd:FuncData}(F:Fun K "is_shop" "is_shop" Ka f fd)(T:Txt mg){c:Cl}(C:Exc K mg c)(Zt6:Has P w K mg base "are_wants" 5 ["found"] sp_are_wants)(Zt5:Has P w K mg base "are_wares" 7 ["found"] sp_are_wares)(Zv9:Has P w K mg base "is_tuple" 1 ["found", "least", "most"] sp_is_tuple)(Zty:Has P w K mg base "names_of" 1 ["shop"] sp_names_of)(Ztq:Has P w K mg base "needed_names" 2 ["shop"] sp_needed_names):Dp P w K mg base CX0 8 f fd ["found"] sp_is_shop:=by
 refine F.ok sc_is_shop (λvs H Q E h=>?_) (λcdv A outer s H vs Q E hr h=>?_)
 ·obtain⟨v,d,rfl,_⟩:=h
  rfl
 ·obtain⟨v,d,rfl,hv,k⟩:=h
  have hu:=Di hr
  refine⟨_,(A5 (D9 (PW.pt (Lq (Dz (F0 (A8 Zv9 (hr.mono (by decide)) rfl (A3 (pv 0) (A3 A4 (A3 A4 A2)))))) (Lq (Dz (F0 (A8 Zt5 (hr.mono (by decide)) rfl (A3 (Ag hu (pv 0) A4 (λ_ _=>rfl)) A2)))) (Lb (Dz (F0 (A8 Zt6 (hr.mono (by decide)) rfl (A3 (Ag hu (pv 0) A4 (λ_ _=>rfl)) A2)))))))) (A9 (Bm Gd)) Ca)
 (A5 (Bs (i:=1) sc_is_shop.nd rfl (Or.inr rfl) (A8 Zty (hr.mono (by decide)) rfl (A3 (pv 0) A2)))
 (A9 (Bm (Bn (J8 rfl) rfl T.Zti Li (A3 (D8 (own:=["name"]) (cap:=[1]) rfl (Fu rfl) (C3 (by decide)) (Kv (A8 Ztq (hr.mono (by decide)) rfl (A3 (pv 0) A2)))
 (λ_ _ _ _ _ _=>⟨(Bq (i:=0) (of_decide_eq_true rfl) rfl (Zz0 rfl) (.inr rfl)),D7,(J5 (Oi hu) (pv 0) (pv 1) rfl)⟩)) A2)))))),?_⟩
  walk_at "rd"
  refine⟨v,d,2,2,rfl,hv,λH1 s1=>?_⟩
  walk_at "rd"
  have no:Jy d=false->Q (.bl false) H1:=λe=>by
   have k:=k H1 s1
   rw[e] at k
   exact k
  cases h:Ic d 2 2 with
  |false =>
   rw[if_pos (by decide)]
   refine no ?_
   unfold Jy
   split
   ·cases h
   ·rfl
  |true =>
  rw[if_neg (by decide)]
  obtain⟨x,y,rfl⟩:=Lx h
  obtain⟨a,xs,rfl,ha,hl,_,g⟩:=Iz (hv.same s1)
  obtain⟨v0,e0,r0⟩:=g 0 _ rfl
  obtain⟨v1,e1,r1⟩:=g 1 _ rfl
  refine⟨_,Ch (j:=0) ha e0,v0,x,rfl,r0,λH2 s2=>⟨_,rfl,?_⟩⟩
  cases h1:Ia x with
  |false =>
   rw[if_pos (by decide)]
   have e:Jy (.tup [x,y])=false:=by
    unfold Jy
    split
    ·rename_i ws us e
     cases e
     rw[h1,Zyt,Zyt]
    ·rfl
   have k:=k H2 (s1.trans s2)
   rw[e] at k
   exact k
  |true =>
  rw[if_neg (by decide)]
  refine⟨_,Ch (j:=1) (s2 _ _ ha) e1,v1,y,rfl,r1.same s2,λH3 s3=>⟨_,rfl,?_⟩⟩
  cases h2:Ib y with
  |false =>
   rw[if_pos (by decide)]
   have e:Jy (.tup [x,y])=false:=by
    unfold Jy
    split
    ·rename_i ws us e
     cases e
     rw[h2,Zxu,Zyt]
    ·rfl
   have k:=k H3 ((s1.trans s2).trans s3)
   rw[e] at k
   exact k
  |true =>
  rw[if_neg (by decide)]
  obtain⟨ws,rfl⟩:∃ws,x=.tup ws:=by
   cases x with
   |tup ws=>exact⟨ws,rfl⟩
   |_=>cases h1
  obtain⟨us,rfl⟩:∃us,y=.tup us:=by
   cases y with
   |tup us=>exact⟨us,rfl⟩
   |_=>cases h2
  have h1':(decide (1<=ws.length)&&decide (ws.length<=12)&&ws.all isWare&&unl (ws.map nameOf))=true:=h1
  have h2':(decide (us.length<=20)&&us.all Gg)=true:=h2
  simp only[Zzf] at h1' h2'
  have hw:∀d∈ws,isWare d=true:=Zz2.mp h1'.1.2
  have hwl:=of_decide_eq_true h1'.1.1.2
  have hus:∀d∈us,Gg d=true:=Zz2.mp h2'.2
  have hul:=of_decide_eq_true h2'.1
  have s03:=(s1.trans s2).trans s3
  refine⟨_,ws,.tup us,rfl,hv.same s03,hw,hwl,λp H4 hp hp4 s4=>?_⟩
  refine⟨_,ws,us,rfl,(hv.same s03).same s4,hw,hwl,hus,hul,λq H5 hq hq5 s5=>⟨q,rfl,_,hq5,?_⟩⟩
  have hnl:=Td (us:=us) hw
  have hp5:=s5 _ _ hp4
  refine Df (Ln q _) (Bi (by rw[Zzz];omega)) (λH' s'=>s' _ _ hq5) (((Ja ws us).map λz=>decide (z∈ws.map nameOf)).map V.bl) (by rw[Zzz,Zzz,Zzz]) (λi z H' hi hz s' N M hN=>?_) (λH6 s6 r hr6=>?_)
  ·rw[Zzv] at hz
   cases en:(Ja ws us)[i]? with
   |none=>rw[en] at hz;cases hz
   |some nm =>
   rw[en] at hz
   have hz:V.str nm=z:=Zyk hz
   subst hz
   walk_at "rd"
   refine⟨_,.inl ⟨p,_,rfl,.inl (s' _ _ hp5),rfl,Nf _,rfl⟩,?_⟩
   rw[Ow]
   exact hN _ _ s' (by rw[Zzv,Zzv,en];rfl)
  ·refine⟨r,rfl,_,A1,?_⟩
   have k:=k _ ((s03.trans s4).trans ((s5.trans s6).trans (A0 (o:=.lst (((Ja ws us).map λz=>decide (z∈ws.map nameOf)).map V.bl)) hr6)))
   have e:Jy (.tup [.tup ws,.tup us])=((Ja ws us).map λz=>decide (z∈ws.map nameOf)).all id:=by
    show (Ia (.tup ws)&&Ib (.tup us)&&(Ja ws us).all λx=>decide (x∈ws.map nameOf))=_
    rw[h1,h2,Zyl,Zyl,Zxg]
    rfl
   rw[e] at k
   exact k
end
set_option maxHeartbeats 4000000
section
variable {P:Program}{w:World}{K:Zzx}{mg:Str->Option Value}{base:Heap}
def figs:List Nat:=("0123456789" : Str).cps.toList
def Jt(x:Str):Bool:=decide (x = "0")||!decide ((⟨#[x.cps.toList.headD 0]⟩:Str) = "0")
def Fb(x:Str):Bool:=decide (1<=x.length)&&decide (x.length<=60)&&(x.cps.toList.all λc=>decide (c∈figs))&&Jt x
def Ry:D->Bool
 |.str x=>Fb x
 |_=>false
theorem Zo{x:Str}{bs:List Bool}{Q:VK}{H2:Hp}(hx:x.length<=1000)(h1:1<=x.length)(k:Q (V.bl (bs.all id&&Jt x)) H2) :
  if (!bs.all id)=true then Q (V.bl false) H2 else Z7 (V.str x) (V.str (Str.ofString "0"))=true/\if decide (x=Str.ofString "0")=true then Q (V.bl true) H2 else ∃v,Ni H2 (V.str x) (V.int 0) v/\Z7 v (V.str (Str.ofString "0"))=true/\Q (V.bl !decide (v=V.str (Str.ofString "0"))) H2:=by
 cases ha:bs.all id with
 |false =>
  rw[ha] at k
  exact k
 |true =>
  rw[ha,Zyl] at k
  rw[if_neg (by decide)]
  refine⟨rfl,Fj (λh4=>?_) (λh4=>?_)⟩
  ·have:Jt x=true:=by
    unfold Jt
    have h4:decide (x=("0" : Str))=true:=h4
    rw[h4]
    rfl
   rw[this] at k
   exact k
  ·have hl:x.cps.toList.length=x.length:=Zxd
   refine⟨_,Uq (Bi hx) (by decide) (c:=x.cps.toList.headD 0) ?_,rfl,?_⟩
   ·cases e:x.cps.toList with
    |nil=>rw[e] at hl;simp at hl;omega
    |cons a r=>rfl
   ·have:Jt x=!decide (V.str (⟨#[x.cps.toList.headD 0]⟩:Str)=V.str (Str.ofString "0")):=by
     unfold Jt
     have h4:decide (x=("0" : Str))=false:=Zy0.mpr h4
     rw[h4,Bool.false_or]
     congr 1
     exact decide_eq_decide.mpr ⟨λz=>by rw[z],λz=>V.str.inj z⟩
    rw[this] at k
    exact k
def sp_is_number:Sp:=λvs H Q _=>∃v d,vs=[v]/\Rep H d v/\∀H',Same H H'->Q (.bl (Ry d)) H'
theorem Qw:Bv ["word"] ["word"] (A6 Ip):=⟨rfl,rfl,rfl,by decide +kernel,rfl,by decide +kernel,by decide +kernel⟩
theorem Rm{f:Addr}{fd:FuncData}(F:Fun K "is_number" "is_number" Ip f fd)(T:Txt mg){c:Cl}(C:Exc K mg c):Dp P w K mg base CX0 1 f fd ["word"] sp_is_number:=by
 refine F.ok Qw (λvs H Q E h=>?_) (λcdv A outer s H vs Q E hr h=>?_)
 ·obtain⟨v,d,rfl,_⟩:=h
  rfl
 ·obtain⟨v,d,rfl,hv,k⟩:=h
  have hu:=Di hr
  refine⟨_,(A5 (D9 (PW.pt (Lq (Dz (F0 (Bn Ix rfl T.Zv4 Dc (A3 (pv 0) (A3 (Lc (v:=.ty "str") rfl T.Zub Ig rfl) A2))))) (Lb (Dz (Sr Oh Oh A4 (Bn call_lenA rfl T.Zu5 J9 (A3 (pv 0) A2)) (D1 rfl T.Zuh)))))) (A9 (Bm Gd)) Ca)
 (A5 (D9 (Dz (F0 (Bn (J8 rfl) rfl T.Zti Li (A3 (D8 (own:=["sign"]) (cap:=[]) rfl (Fu rfl) (C3 (by decide)) (Kw (pv 0))
 (λ_ _ _ _ _ _=>⟨(Bq (i:=0) (of_decide_eq_true rfl) rfl (Zz0 rfl) (.inr rfl)),D7,(J5 (Oi hu) (pv 0) (Su rfl T.Ztn) rfl)⟩)) A2)))) (A9 (Bm Gd)) Ca)
 (A9 (Bm (fh (J5 (E2 hu) (pv 0) Ad (Cg _)) (Ki (J5 (Ua hu) (Ag hu (pv 0) A4 (λ_ _=>rfl)) Ad (Cg _)))))))),?_⟩
  simp only[Ez,tNext,Gw,E5,Ge,Ha,Dt,Hi,Cj,Hf,Gh,tC,tCB,Dl,tNil,Dh,tOp,tUn,Dk,tB,Hc,tOr,Gy,Du,Gx,Dr,tIf,Gu,Gz,tSl,Dq,tNoPart,tBA,Hb,Cu,Cn,tYes,rI,rI0,rU,rEq,rNe,rIsA,C7,rItem,lenA,Cz,Ep,Eh,listA,tupleA,lenQ,Hs,Ht,Ee,Eo,He,Hd,Hu,rCat,rCatTT,Dv,Dn,Et,Hy,E3,E4,E7,tIf,Dx,Hv,Es,Er,rEqD,rNeD,Hq,Hn,Hw,Ct,C5,Cw,Cy,Cv,D0,C9,Hl,Ej,Ei,E6,Em,En,Ec,Hm,rInsert,Ek,rCount,C8,Ho,rAppend,rPopAt,rReverse,Ef,rSetL,L2.D5,Dj,Bx,C6,Cd,Gv,Co,Cp,Hh,Ea,Eb,E8,E9,Gp,rStrI,rIntT,Eg,Ends.lose,rRepX,rPop,Ed,El,rRepD,rStrI,rIntT,rStrS,rSplit,rJoin,Ds,Dw,  D.ty,Ac,Af,Ae,Aa,A7,Ab,B0,Bc,Bb,Ay,An,Az,B8,Bh,Bg,B6,Au,B7,B3,Bf,Be,B1,Aq,B2,At,B5,B4,Ar,Al,As,Ak,Ap,Ao,Ai,Ah,Aj,Ax,Ba,B9,Av,Am,Aw,Cc,C1,Cb,By,Bp,Bz,Zyf,Zye,Zyd,Zyc,Zz7,Zzg,Zz6,Zz5,↓reduceIte,Zzp,Zyr,Zzq,Zyz,Zze,Zzy,Zyy,Zz3,Zz9,Zyb,Zzm,Zzo,Zyw,exists_eq_left',exists_eq_left,V.int.injEq,V.bl.injEq,V.str.injEq,V.ref.injEq,V.ty.injEq,Zyp,and_true,true_and,and_assoc,exists_and_left,exists_eq_right,reduceCtorEq,false_and,and_false,exists_false,or_false,false_or,hv.ty]
  cases d with
  |str x =>
   rw[Rep] at hv
   obtain⟨rfl,hx⟩:=hv
   have k0:=k H (Same.refl H)
   simp only[Ez,tNext,Gw,E5,Ge,Ha,Dt,Hi,Cj,Hf,Gh,tC,tCB,Dl,tNil,Dh,tOp,tUn,Dk,tB,Hc,tOr,Gy,Du,Gx,Dr,tIf,Gu,Gz,tSl,Dq,tNoPart,tBA,Hb,Cu,Cn,tYes,rI,rI0,rU,rEq,rNe,rIsA,C7,rItem,lenA,Cz,Ep,Eh,listA,tupleA,lenQ,Hs,Ht,Ee,Eo,He,Hd,Hu,rCat,rCatTT,Dv,Dn,Et,Hy,E3,E4,E7,tIf,Dx,Hv,Es,Er,rEqD,rNeD,Hq,Hn,Hw,Ct,C5,Cw,Cy,Cv,D0,C9,Hl,Ej,Ei,E6,Em,En,Ec,Hm,rInsert,Ek,rCount,C8,Ho,rAppend,rPopAt,rReverse,Ef,rSetL,L2.D5,Dj,Bx,C6,Cd,Gv,Co,Cp,Hh,Ea,Eb,E8,E9,Gp,rStrI,rIntT,Eg,Ends.lose,rRepX,rPop,Ed,El,rRepD,rStrI,rIntT,rStrS,rSplit,rJoin,Ds,Dw,  D.ty,Ac,Af,Ae,Aa,A7,Ab,B0,Bc,Bb,Ay,An,Az,B8,Bh,Bg,B6,Au,B7,B3,Bf,Be,B1,Aq,B2,At,B5,B4,Ar,Al,As,Ak,Ap,Ao,Ai,Ah,Aj,Ax,Ba,B9,Av,Am,Aw,Cc,C1,Cb,By,Bp,Bz,Zyf,Zye,Zyd,Zyc,Zz7,Zzg,Zz6,Zz5,↓reduceIte,Zzp,Zyr,Zzq,Zyz,Zze,Zzy,Zyy,Zz3,Zz9,Zyb,Zzm,Zzo,Zyw,exists_eq_left',exists_eq_left,V.int.injEq,V.bl.injEq,V.str.injEq,V.ref.injEq,V.ty.injEq,Zyp,and_true,true_and,and_assoc,exists_and_left,exists_eq_right,reduceCtorEq,false_and,and_false,exists_false,or_false,false_or,Zxn,Zy2,V.str.injEq]
   refine⟨Bi hx,Fj (λh1=>Fj (λh2=>?_) (λh2=>?_)) (λh1=>?_)⟩
   ·have e:Fb x=false:=by
     unfold Fb
     have:¬ (x.length<=60):=by
      simp at h2
      omega
     simp[this]
    rw[show Ry (.str x)=false from e] at k0
    exact k0
   ·have e1:decide (1<=x.length)=true:=decide_eq_true (by have:=of_decide_eq_true h1;omega)
    have e2:decide (x.length<=60)=true:=decide_eq_true (by simp at h2;omega)
    refine Df (Yd x) (Bi hx) (λ_ _=>trivial) ((x.cps.toList.map λc=>decide (c∈figs)).map V.bl) (by simp) (λi y H' hi hy s' N M hN=>?_) (λH' s' p hp=>?_)
    ·obtain⟨c,hc,rfl⟩:=hy
     walk_at "rd"
     refine⟨_,.inr (.inl ⟨_,_,rfl,rfl,rfl⟩),?_⟩
     rw[StrLaws.found_one]
     refine hN _ _ s' ?_
     rw[Zzv,Zzv,Zwy,hc]
     rfl
    ·refine⟨p,rfl,_,A1,?_⟩
     have k:=k _ (s'.trans (A0 (o:=.lst ((x.cps.toList.map λc=>decide (c∈figs)).map V.bl)) hp))
     generalize upd H' p (.lst ((x.cps.toList.map λc=>decide (c∈figs)).map V.bl))=H2 at k ⊢
     have e:Ry (.str x)=((x.cps.toList.map λc=>decide (c∈figs)).all id&&Jt x):=by
      show Fb x=_
      unfold Fb
      rw[e1,e2,Zxg]
      rfl
     rw[e] at k
     exact Zo hx (of_decide_eq_true e1) k
   ·rw[if_pos (by rfl)]
    have e:Fb x=false:=by
     unfold Fb
     have:¬ (1<=x.length):=by
      simp at h1
      omega
     simp[this]
    rw[show Ry (.str x)=false from e] at k0
    exact k0
  |_=>exact k H (Same.refl H)
theorem Pz:∀(k m:Nat),m<10^(k+1)->(Zwz 10 m).length<=k+1
 |0,m,h=>by rw[Zwp (by omega)];exact Zzt _
 |k+1,m,h=>by
  by_cases z:m<10
  ·rw[Zwp z]
   show 1<=k+1+1
   omega
  ·have hm:m % 10<10:=Nat.mod_lt m (by decide)
   have t:Zwz 10 (m / 10)++Zwz 10 (m % 10)=Zwz 10 (10*(m / 10)+m % 10):=Nat.toDigits_append_toDigits (by decide) (by omega) hm
   rw[Nat.div_add_mod] at t
   rw[<- t,Zzh,Zwp hm]
   have:=Pz k (m / 10) (by rw[Nat.pow_succ] at h;omega)
   show _+1<=_
   omega
theorem Ty:∀(m:Nat),0<m->∃c r,Zwz 10 m=c::r/\c.toNat≠48:=by
 intro m
 induction m using Nat.strongRecOn with
 |_ m ih =>
  intro h0
  by_cases z:m<10
  ·rw[Zwp z]
   have k:∀d:Nat,d<10->0<d->(Nat.digitChar d).toNat≠48:=by decide
   exact⟨_,[],rfl,k m z h0⟩
  ·have hm:m % 10<10:=Nat.mod_lt m (by decide)
   have t:Zwz 10 (m / 10)++Zwz 10 (m % 10)=Zwz 10 (10*(m / 10)+m % 10):=Nat.toDigits_append_toDigits (by decide) (by omega) hm
   rw[Nat.div_add_mod] at t
   obtain⟨c,r,e,hc⟩:=ih (m / 10) (by omega) (by omega)
   exact⟨c,r++Zwz 10 (m % 10),by rw[<- t,e];rfl,hc⟩
theorem V7{n:Int}(h0:0<=n)(h1:n<10^60):Fb (Str.ofString (toString n))=true/\Zwg (Str.ofString (toString n))=some n/\1<=(Str.ofString (toString n)).length/\(Str.ofString (toString n)).length<=60:=by
 obtain⟨m,rfl⟩:=Zwo h0
 have hs:=KIN.signs_num m
 have hl:(Str.ofString (toString ((m:Nat):Int))).cps.toList.length=(Str.ofString (toString ((m:Nat):Int))).length:=Zxd
 rw[hs,Zzz] at hl
 have a1:=Pz 59 m (by omega)
 have a0:=toDigits_len_ge 10 m
 have hd:∀c∈(Str.ofString (toString ((m:Nat):Int))).cps.toList,48<=c/\c<=57:=by
  intro c hc
  rw[hs] at hc
  obtain⟨ch,hch,e⟩:=Zza.mp hc
  have r:=PyProof.Rows.digit_range (Nat.isDigit_of_mem_toDigits (by decide) (by decide) hch)
  rw[<- e]
  exact r
 have ne:(Str.ofString (toString ((m:Nat):Int))).cps.toList≠[]:=by
  intro e
  have:=congrArg Zwc e
  rw[hs,Zzz,Zyy] at this
  omega
 refine⟨?_,?_,by omega,by omega⟩
 ·unfold Fb
  rw[decide_eq_true (by omega:1<=_),decide_eq_true (by omega:_<=60),Zyl,Zyl,Zzf]
  constructor
  ·rw[Zz2]
   intro c hc
   have:=hd c hc
   have k:∀c:Nat,48<=c->c<=57->c∈figs:=by
    intro c h1 h2
    have:c=48\/c=49\/c=50\/c=51\/c=52\/c=53\/c=54\/c=55\/c=56\/c=57:=by omega
    rcases this with e | e | e | e | e | e | e | e | e | e<;>rw[e]<;>decide +kernel
   exact decide_eq_true (k c this.1 this.2)
  ·unfold Jt
   by_cases z:m=0
   ·subst z
    have:(Str.ofString (toString (((0:Nat)):Int)))=("0" : Str):=rfl
    rw[decide_eq_true this]
    rfl
   ·obtain⟨c,r,e,hc⟩:=Ty m (by omega)
    have:¬ ((⟨#[(Str.ofString (toString ((m:Nat):Int))).cps.toList.headD 0]⟩:Str) = "0"):=by
     rw[hs,e]
     intro q
     have q:=congrArg (λz:Str=>z.cps.toList) q
     have e2:("0" : Str).cps.toList=[48]:=by decide +kernel
     rw[e2] at q
     exact hc (Zwe q).1
    rw[decide_eq_false this,Zxm,Bool.or_true]
 ·have e:=intText_digits hd ne (by omega)
  rw[hs,KIN.val_back] at e
  exact e
theorem Xt{x:Str}(h:Fb x=true):∃n,Zwg x=some n:=by
 unfold Fb at h
 simp only[Zzf,decide_eq_true_eq] at h
 obtain⟨⟨⟨h1,h2⟩,h3⟩,h4⟩:=h
 have hl:x.cps.toList.length=x.length:=Zxd
 refine⟨_,intText_digits (λc hc=>?_) (λe=>?_) (Zyu h2 (by decide))⟩
 ·have:=of_decide_eq_true (Zz2.mp h3 c hc)
  have k:∀c∈figs,48<=c/\c<=57:=by decide +kernel
  exact k c this
 ·rw[e] at hl
  simp at hl
  omega
def Kh(c:Cl):Sp:=λvs H Q E=>∃x,vs=[.str x]/\x.length<=1000/\(Fb x=true->∀n H',Zwg x=some n->Same H H'->Q (.int n) H')/\(Fb x=false->∀H',Same H H'->E (.ref c.NoText) none H')
theorem O9:Bv ["word"] ["word"] (A6 G8):=⟨rfl,rfl,rfl,by decide +kernel,rfl,by decide +kernel,by decide +kernel⟩
theorem Ol{f:Addr}{fd:FuncData}(F:Fun K "read_number" "read_number" G8 f fd)(T:Txt mg){c:Cl}(C:Exc K mg c)(Zt4:Has P w K mg base "is_number" 1 ["word"] sp_is_number):Dp P w K mg base (CXE P w) 2 f fd ["word"] (Kh c):=by
 refine F.okX O9 (λvs H Q E h=>?_) (λcdv A outer s H vs Q E hr h=>?_)
 ·obtain⟨x,rfl,_⟩:=h
  rfl
 ·obtain⟨x,rfl,hx,k,ke⟩:=h
  have hu:=Di hr
  refine⟨_,(A5 (D9 (Dz (F0 (A8 Zt4 (hr.mono (by decide)) rfl (A3 (pv 0) A2)))) (A9 (Lr Th rfl rfl C.Ztd C.Zu1 (A3 Ad A2))) Ca)
 (A9 (Bm (Bw X1 rfl T.Zsj V0 (A3 (pv 0) A2))))),?_⟩
  walk_at "rd"
  refine⟨.str x,.str x,rfl,by rw[Rep];exact⟨rfl,hx⟩,λH1 sm=>⟨Fb x,rfl,?_⟩⟩
  cases hb:Fb x with
  |false=>exact⟨by decide,ke hb H1 sm⟩
  |true =>
   obtain⟨n,hn⟩:=Xt hb
   have hl:x.length<=60:=by
    have hb:Fb x=true:=hb
    unfold Fb at hb
    simp only[Zzf,decide_eq_true_eq] at hb
    exact hb.1.1.2
   exact⟨n,hn,by omega,k hb n H1 hn sm⟩
def L9(c:Cl):Sp:=λvs H Q E=>∃x,vs=[.str x]/\x.length<=1000/\(Br x=true->∀H',Same H H'->Q (.str x) H')/\(Br x=false->∀H',Same H H'->E (.ref c.NoText) none H')
theorem Qv:Bv ["word"] ["word"] (A6 Ij):=⟨rfl,rfl,rfl,by decide +kernel,rfl,by decide +kernel,by decide +kernel⟩
theorem Rh{f:Addr}{fd:FuncData}(F:Fun K "read_name" "read_name" Ij f fd)(T:Txt mg){c:Cl}(C:Exc K mg c)(Zv0:Has P w K mg base "is_name" 1 ["found"] sp_is_name):Dp P w K mg base (CXE P w) 2 f fd ["word"] (L9 c):=by
 refine F.okX Qv (λvs H Q E h=>?_) (λcdv A outer s H vs Q E hr h=>?_)
 ·obtain⟨x,rfl,_⟩:=h
  rfl
 ·obtain⟨x,rfl,hx,k,ke⟩:=h
  have hu:=Di hr
  refine⟨_,(A5 (D9 (Dz (F0 (A8 Zv0 (hr.mono (by decide)) rfl (A3 (pv 0) A2)))) (A9 (Lr Th rfl rfl C.Ztd C.Zu1 (A3 Ad A2))) Ca)
 (A9 (Bm (pv 0)))),?_⟩
  walk_at "rd"
  refine⟨.str x,.str x,rfl,by rw[Rep];exact⟨rfl,hx⟩,λH1 sm=>⟨Br x,rfl,?_⟩⟩
  cases hb:Br x with
  |false=>exact⟨by decide,ke hb H1 sm⟩
  |true=>exact k hb H1 sm
end
set_option maxHeartbeats 4000000
section
variable {P:Program}{w:World}{K:Zzx}{mg:Str->Option Value}{base:Heap}
def cellT:Key->Str
 |.inl i=>Str.ofString (toString i)
 |.inr x=>x
def Eu:Key->Str
 |.inl _ => "number"
 |.inr _ => "name"
def Lk:Key->Prop
 |.inl i=>0<=i/\i<10^60
 |.inr x=>Br x=true
def J7(s x:Str):Bool:=if s = "name" then Br x else Fb x
def Kl(s x:Str):Key:=if s = "name" then .inr x else .inl ((Zwg x).getD 0)
def K2(ws fs:List Str):Bool:=decide (ws.length=fs.length)&&(ws.zip fs).all λz=>J7 z.2 z.1
def My(ws fs:List Str):List Key:=(ws.zip fs).map λz=>Kl z.2 z.1
theorem Ms:("number" : Str) ≠ "name" := by decide +kernel
theorem Qi{k:Key}(h:Lk k):J7 (Eu k) (cellT k)=true/\Kl (Eu k) (cellT k)=k:=by
 cases k with
 |inl n =>
  have q:=V7 h.1 h.2
  unfold J7 Kl
  rw[if_neg (show ¬ Eu (.inl n) = "name" from Ms),if_neg (show ¬ Eu (.inl n) = "name" from Ms)]
  exact⟨q.1,congrArg Sum.inl (by show (Zwg (Str.ofString (toString n))).getD 0=n;rw[q.2.1];rfl)⟩
 |inr x =>
  unfold J7 Kl
  rw[if_pos (show Eu (.inr x) = "name" from rfl),if_pos (show Eu (.inr x) = "name" from rfl)]
  exact⟨h,rfl⟩
theorem Sn{ks:List Key}(h:∀k∈ks,Lk k):K2 (ks.map cellT) (ks.map Eu)=true/\My (ks.map cellT) (ks.map Eu)=ks:=by
 have ez:(ks.map cellT).zip (ks.map Eu)=ks.map λk=>(cellT k,Eu k):=by rw[List.zip_map']
 unfold K2 My
 rw[ez,Zzz,Zzz,decide_eq_true rfl,Zyl,Zy6]
 refine⟨?_,?_⟩
 ·rw[Zxg]
  exact Zz2.mpr λk hk=>(Qi (h k hk)).1
 ·have:∀l:List Key,(∀k∈l,Lk k)->l.map ((λz:Str×Str=>Kl z.2 z.1)∘λk=>(cellT k,Eu k))=l:=λl=>by
   induction l with
   |nil=>intro _;rfl
   |cons k r ih =>
    intro h
    rw[Zzp,ih λx hx=>h x (Zzi _ hx)]
    exact congrArg (·::r) (Qi (h k Zzs)).2
  exact this ks h
theorem Sg{K:Zzx}{H H':Hp}{b:Addr}{xs:List V}(h:SqT K H b xs)(s:Same H H'):SqT K H' b xs:=by
 rcases h with (e | ⟨o,e⟩) | h
 ·exact .inl (.inl (s _ _ e))
 ·exact .inl (.inr ⟨o,s _ _ e⟩)
 ·exact .inr h
def Kt(K:Zzx)(c:Cl):Sp:=λvs H Q E=>∃(a:Addr) (fv:V) (ws:List Str),vs=[.ref a,fv]/\H a=some (.lst (ws.map V.str))/\ws.length<=100/\(∀x∈ws,x.length<=1000) /\
 ((fv=.non/\E (.ref c.NoText) none H)\/∃(b:Addr) (fs:List Str),fv=.ref b/\SqT K H b (fs.map V.str)/\fs.length<=100/\(K2 ws fs=true->∀p H',H p=none->H' p=some (.lst ((My ws fs).map kV))->Same H H'->Q (.ref p) H')/\(K2 ws fs=false->∀H',Same H H'->E (.ref c.NoText) none H'))
def bu(a b p:Addr)(ws fs:List Str)(H:Hp)(i:Nat)(Z:St)(H':Hp):Prop:=∃o1 o2:Option V,Z=[some (.ref a),some (.ref b),some (.ref p),o1,o2]/\H' p=some (.lst (((My ws fs).take i).map kV))/\(∀z∈(ws.zip fs).take i,J7 z.2 z.1=true)/\Same H H'
theorem sc_read_words:Bv ["words", "form", "told", "word", "sort"] ["words", "form"] (A6 Gi):=⟨rfl,rfl,rfl,by decide +kernel,rfl,by decide +kernel,by decide +kernel⟩
theorem Pd{f:Addr}{fd:FuncData}(F:Fun K "read_words" "read_words" Gi f fd)(T:Txt mg){c:Cl}(C:Exc K mg c)(Zt3:Ny P w K mg base "read_name" 2 ["word"] (L9 c))(Ztl:Ny P w K mg base "read_number" 2 ["word"] (Kh c)):Dp P w K mg base (CXE P w) 3 f fd ["words", "form"] (Kt K c):=by
 refine F.okX sc_read_words (λvs H Q E h=>?_) (λcdv A outer s H vs Q E hr h=>?_)
 ·obtain⟨a,fv,ws,rfl,_⟩:=h
  rfl
 ·obtain⟨a,fv,ws,rfl,ha,hl,hx,h⟩:=h
  have hu:=Di hr
  refine⟨_,(A5 (D9 (PW.pt (Lq (C4 cy (pv 1) Xi (Cg _)) (Lb (C4 (Ua hu) (Bn G5 rfl T.Zu5 J9 (A3 (pv 0) A2)) (Bn Lh rfl T.Zu5 J9 (A3 (pv 1) A2)) (Cg _))))) (A9 (Lr Th rfl rfl C.Ztd C.Zu1 (A3 Ad A2))) Ca)
 (A5 (Bs (i:=2) sc_read_words.nd rfl (Zz0 rfl) (Bt A2))
 (A5 (Jw PassesOwn.leaving rfl (Za rfl T.Zsb (A3 (pv 0) (A3 (pv 1) A2))) (Of (n:=2) rfl (Gf (Bq (i:=3) sc_read_words.nd rfl (Zz0 rfl)) (Gf (Bq (i:=4) sc_read_words.nd rfl (Zz0 rfl)) Mo)))
 (A9 (E1 (Da Zym Zy5 Zy4 Fc (pv 2) (A3 (Xk (C4 (E2 hu) (pv 4) Ad (Cg _)) (L1 Zt3 Xp (hr.mono (by decide)) rfl (A3 (pv 3) A2)) (L1 Ztl Xp (hr.mono (by decide)) rfl (A3 (pv 3) A2))) A2)))))
 (A9 (Bm (pv 2)))))),?_⟩
  rcases h with ⟨rfl,ke⟩ | ⟨b,fs,rfl,hb,hfl,k,ke⟩
  ·walk_at "rd"
   rw[if_pos (by decide)]
   exact⟨by decide,ke⟩
  walk_at "rd"
  rw[if_neg (by decide)]
  refine⟨_,.inl ha,_,.inr hb,rfl,?_⟩
  by_cases el:ws.length=fs.length
  rotate_left
  ·rw[if_pos (by rw[decide_eq_false (by simp only[Zzz];omega)];rfl)]
   refine⟨by decide,ke ?_ H (Same.refl H)⟩
   unfold K2
   rw[decide_eq_false el,Zyt]
  rw[if_neg (by rw[decide_eq_true (by simp only[Zzz];omega)];decide)]
  refine⟨by decide,λp hp=>?_⟩
  have u:=A0 (o:=.lst []) hp
  have hpa:a≠p:=Bj ha hp
  refine⟨_,u _ _ ha,_,Sg hb u,?_⟩
  have zl:(ws.zip fs).length=ws.length:=by rw[List.length_zip,el,Nat.min_self]
  have hmin:min (ws.map V.str).length (fs.map V.str).length=(ws.zip fs).length:=by rw[Zzz,Zzz,List.length_zip]
  have kl:(My ws fs).length=(ws.zip fs).length:=by unfold My;rw[Zzz]
  refine bo (dg _ a b _ _) (bu a b p ws fs H) ⟨_,_,rfl,A1,(λz hz=>nomatch hz),u⟩ (λi Z H' _ h=>?_) (λi ys t Z H' hi hy h ht=>?_) (λZ H' h=>?_)
  ·obtain⟨_,_,_,_,_,s'⟩:=h
   exact⟨s' _ _ ha,Sg hb s'⟩
  ·obtain⟨o1,o2,rfl,hp1,hg,s1⟩:=h
   obtain⟨y,z,ey,ez,rfl⟩:=hy
   rw[hmin] at hi
   obtain⟨x,ex⟩:∃x,ws[i]?=some x:=⟨_,Zya (by omega)⟩
   obtain⟨s',es⟩:∃s',fs[i]?=some s':=⟨_,Zya (by omega)⟩
   rw[Zzv] at ey ez
   rw[ex] at ey
   rw[es] at ez
   have ey:V.str x=y:=Zyk ey
   have ez:V.str s'=z:=Zyk ez
   subst ey ez
   have ezz:(ws.zip fs)[i]?=some (x,s'):=by rw[List.getElem?_zip_eq_some];exact⟨ex,es⟩
   have ut:=A0 (o:=.tup [V.str x,V.str s']) ht
   have s2:=s1.trans ut
   have hp2:=ut _ _ hp1
   refine gT2 ?_
   generalize upd H' t (.tup [V.str x,V.str s'])=H2 at s2 hp2
   walk_at "rd"
   have hlen:(((My ws fs).take i).map kV).length<1000:=by rw[Zzz,Zyg];omega
   have x1000:=hx x (Zyv ex)
   have go:J7 s' x=true->∀(vv:V) H3,vv=kV (Kl s' x)->Same H2 H3->∃y,H3 p=some (.lst y)/\y.length<sizeLine/\bu a b p ws fs H (i+1) [some (.ref a),some (.ref b),some (.ref p),some (.str x),some (.str s')] (upd H3 p (.lst (y++[vv]))):=λhc vv H3 ev s3=>by
    subst ev
    refine⟨_,s3 _ _ hp2,Zzd hlen (Bi (Zzt _)),_,_,rfl,?_,λz hz=>?_,λc o e=>?_⟩
    ·have:(My ws fs)[i]?=some (Kl s' x):=by unfold My;rw[Zzv,ezz];rfl
     rw[A1,Zxw,this,Zyo]
     rfl
    ·rw[Zxw,ezz] at hz
     rcases Zyq.mp hz with q | q
     ·exact hg z q
     ·rw[Zzk.mp q];exact hc
    ·rw[Bd (Bj e hp)]
     exact s3 _ _ (s2 _ _ e)
   have bad:J7 s' x=false->K2 ws fs=false:=λhc=>by
    unfold K2
    rw[Zx7]
    refine .inr (Zy0.mpr λha=>?_)
    have:=Zz2.mp ha _ (Zyv ezz)
    rw[hc] at this
    cases this
   refine⟨Fk hp2,rfl,Fj (λcn=>?_) (λcn=>?_)⟩
   ·have en:s' = "name" := of_decide_eq_true cn
    have eb:J7 s' x=Br x:=by unfold J7;rw[if_pos en]
    refine⟨x,rfl,x1000,λhc H3 s3=>go (eb.trans hc) _ H3 (by unfold Kl;rw[if_pos en];rfl) s3,λhc H3 s3=>ke (bad (eb.trans hc)) H3 (s2.trans s3)⟩
   ·have en:¬ s' = "name" := λz=>cn (decide_eq_true z)
    have eb:J7 s' x=Fb x:=by unfold J7;rw[if_neg en]
    refine⟨x,rfl,x1000,λhc n H3 hn s3=>go (eb.trans hc) _ H3 (by unfold Kl;rw[if_neg en,hn];rfl) s3,λhc H3 s3=>ke (bad (eb.trans hc)) H3 (s2.trans s3)⟩
  ·obtain⟨o1,o2,rfl,hp1,hg,s1⟩:=h
   rw[hmin] at hp1 hg
   rw[Zwi (by rw[kl];exact Zzt _)] at hp1
   rw[Zxo] at hg
   walk_at "rd"
   refine k ?_ p H' hp hp1 s1
   unfold K2
   rw[decide_eq_true el,Zyl]
   exact Zz2.mpr hg
end
set_option maxHeartbeats 4000000
section
variable {P:Program}{w:World}{K:Zzx}{mg:Str->Option Value}{base:Heap}
theorem Iw{xs:List V}{i:Int}(hi:0<=i):Hz xs (some i) none=xs.drop i.toNat:=by
 unfold Hz
 rw[R0 hi]
 have e:HT.sIx xs.length xs.length none=xs.length:=rfl
 rw[e]
 by_cases h:i.toNat<=xs.length
 ·rw[Nat.min_eq_left h,Zwi (by rw[Zxp];exact Zzt _)]
 ·have h:xs.length<=i.toNat:=by omega
  rw[Nat.min_eq_right h,List.drop_length,List.drop_of_length_le h,List.take_nil]
def formsW:List (Str×List Str):=[("ware",["name", "number", "number", "number", "number"]),("coming",["name", "number", "number"]),("part",["name", "name", "number"]),("want",["name", "number", "number"])]
structure D3(r:Str×List Key):Prop where
 form:(r.1,r.2.map Eu)∈formsW
 cells:∀k∈r.2,Lk k
def Fw(r:Str×List Key):Str:=Str.join (one 32) (r.1::r.2.map cellT)
def rowV(r:Str×List Key):List V:=.str r.1::r.2.map kV
theorem K5{k:Key}(h:Lk k):(32∉(cellT k).cps.toList/\10∉(cellT k).cps.toList)/\(cellT k).length<=60:=by
 cases k with
 |inl n =>
  obtain⟨h1,h2,h3,h4⟩:=V7 h.1 h.2
  refine⟨?_,h4⟩
  unfold Fb at h1
  simp only[Zzf] at h1
  have all:=Zz2.mp h1.1.2
  exact⟨λz=>absurd (of_decide_eq_true (all 32 z)) (by decide +kernel),λz=>absurd (of_decide_eq_true (all 10 z)) (by decide +kernel)⟩
 |inr x =>
  have h:Br x=true:=h
  unfold Br at h
  simp only[Zzf,decide_eq_true_eq] at h
  have all:=Zz2.mp h.2
  exact⟨⟨λz=>absurd (of_decide_eq_true (all 32 z)) (by decide +kernel),λz=>absurd (of_decide_eq_true (all 10 z)) (by decide +kernel)⟩,Zyu h.1.2 (by decide)⟩
theorem Ff{r:Str×List Key}(h:D3 r):(32∉r.1.cps.toList/\10∉r.1.cps.toList)/\r.1.length<=60/\r.2.length<=5:=by
 have hf:=h.form
 unfold formsW at hf
 simp only[Zzw,Zz8,or_false,Zvb] at hf
 have g:∀x:Str,x = "ware" \/ x = "coming" \/ x = "part" \/ x = "want" -> (32∉x.cps.toList/\10∉x.cps.toList)/\x.length<=60:=λx hx=>by
  rcases hx with rfl | rfl | rfl | rfl<;>decide +kernel
 have hl:r.2.length=(r.2.map Eu).length:=by rw[Zzz]
 rcases hf with ⟨e1,e2⟩ | ⟨e1,e2⟩ | ⟨e1,e2⟩ | ⟨e1,e2⟩<;>rw[e2] at hl
 ·exact⟨(g r.1 (.inl e1)).1,(g r.1 (.inl e1)).2,by rw[hl];decide⟩
 ·exact⟨(g r.1 (.inr (.inl e1))).1,(g r.1 (.inr (.inl e1))).2,by rw[hl];decide⟩
 ·exact⟨(g r.1 (.inr (.inr (.inl e1)))).1,(g r.1 (.inr (.inr (.inl e1)))).2,by rw[hl];decide⟩
 ·exact⟨(g r.1 (.inr (.inr (.inr e1)))).1,(g r.1 (.inr (.inr (.inr e1)))).2,by rw[hl];decide⟩
theorem K6{r:Str×List Key}(h:D3 r){P:Str->Prop}(h1:P r.1)(h2:∀k∈r.2,P (cellT k)):∀w∈r.1::r.2.map cellT,P w:=λw hw=>by
 rcases Zzw.mp hw with rfl | hw
 ·exact h1
 ·obtain⟨k,hk,rfl⟩:=Zza.mp hw
  exact h2 k hk
theorem N8{r:Str×List Key}(h:D3 r):Txt.split (Fw r) (one 32)=r.1::r.2.map cellT :=
 L8 (by decide) (by simp) (K6 h (P:=λw=>32∉w.cps.toList) (Ff h).1.1 λk hk=>(K5 (h.cells k hk)).1.1)
theorem M4{r:Str×List Key}(h:D3 r):(Fw r).length<=400:=by
 have:=L4 (sep:=one 32) (B:=60) (K6 h (P:=λw=>w.length<=60) (Ff h).2.1 λk hk=>(K5 (h.cells k hk)).2)
 have hl:=(Ff h).2.2
 simp only[Zzy,Zzz] at this
 have l1:(one 32).length=1:=rfl
 unfold Fw
 rw[l1] at this
 omega
def Ju(x:Str):Option (List Str):=(formsW.find? λe=>decide (e.1=x)).map (·.2)
structure X3(t:Str)(x:Str)(ws:List Str):Prop where
 sp:Txt.split t (one 32)=x::ws
 len:t.length<=100000
 few:ws.length<=100
 words:∀y∈ws,y.length<=1000
 bad:∀fs,Ju x=some fs->K2 ws fs=false
theorem Wm{K:Zzx}{l:List (Str×Tok×Addr)}(f1:N6 K l "ware" ["name", "number", "number", "number", "number"])(f2:N6 K l "coming" ["name", "number", "number"])(f3:N6 K l "part" ["name", "name", "number"])(f4:N6 K l "want" ["name", "number", "number"])(hl:l.map (·.1)=(["ware", "coming", "part", "want"]:List Str))(x:Str) :
  (M3 l x=.non/\Ju x=none)\/∃fs,N6 K l x fs/\Ju x=some fs/\fs.length<=5:=by
 by_cases z1:x = "ware"
 ·rw[z1];exact .inr ⟨_,f1,by decide +kernel,by decide⟩
 by_cases z2:x = "coming"
 ·rw[z2];exact .inr ⟨_,f2,by decide +kernel,by decide⟩
 by_cases z3:x = "part"
 ·rw[z3];exact .inr ⟨_,f3,by decide +kernel,by decide⟩
 by_cases z4:x = "want"
 ·rw[z4];exact .inr ⟨_,f4,by decide +kernel,by decide⟩
 refine .inl ⟨?_,?_⟩
 ·unfold M3
  have:l.find? (λe=>decide (e.1=x))=none:=by
   rw[List.find?_eq_none]
   intro e he
   have hm:e.1∈l.map (·.1):=Zza.mpr ⟨e,he,rfl⟩
   rw[hl] at hm
   simp only[Zzw,Zz8,or_false] at hm
   intro c
   have c:=of_decide_eq_true c
   rw[c] at hm
   rcases hm with q | q | q | q
   ·exact z1 q
   ·exact z2 q
   ·exact z3 q
   ·exact z4 q
  rw[this]
 ·unfold Ju formsW
  simp only[Zwx,List.find?_nil,decide_eq_false (Zyj z1),decide_eq_false (Zyj z2),decide_eq_false (Zyj z3),decide_eq_false (Zyj z4)]
  rfl
def Lp(c:Cl):Sp:=λvs H Q E=>∃t:Str,vs=[.str t]/\((∃r:Str×List Key,D3 r/\t=Fw r/\∀p H',H p=none->H' p=some (.lst (rowV r))->Same H H'->Q (.ref p) H')\/∃x ws,X3 t x ws/\∀H',Same H H'->E (.ref c.NoText) none H')
theorem sc_read_row:Bv ["row", "words"] ["row"] (A6 Je):=⟨rfl,rfl,rfl,by decide +kernel,rfl,by decide +kernel,by decide +kernel⟩
theorem T5{f:Addr}{fd:FuncData}(F:Fun K "read_row" "read_row" Je f fd)(T:Txt mg)(R:Rws w K mg){c:Cl}(C:Exc K mg c)(Zt9:Ny P w K mg base "read_words" 3 ["words", "form"] (Kt K c)):Dp P w K mg base (CXE P w) 4 f fd ["row"] (Lp c):=by
 refine F.okX sc_read_row (λvs H Q E h=>?_) (λcdv A outer s H vs Q E hr h=>?_)
 ·obtain⟨r,rfl,_⟩:=h
  rfl
 ·obtain⟨t,rfl,h⟩:=h
  have hu:=Di hr
  obtain⟨R_a,R_l,R_m,R_t,f1,f2,f3,f4,f5⟩:=R
  have look:=Wm f1 f2 f3 f4 f5
  refine⟨_,(A5 (Bs (i:=1) sc_read_row.nd rfl (Zz0 rfl) (Da Zys Zvt Zvs Ot (pv 0) (A3 Ad A2)))
 (A9 (Bm (Bk Fz (Bt (A3 (Ag hu (pv 1) A4 (λ_ _=>rfl)) A2)) (L1 Zt9 Xp (hr.mono (by decide)) rfl (A3 (De Fx (pv 1) (Dd A4) Fy) (A3 (Zd R_t (Jq (v:=.ref R_a) rfl R_m rfl) (Ag hu (pv 1) A4 (λ_ _=>rfl)) ⟨rfl,rfl,rfl,rfl⟩) A2))))))),?_⟩
  walk_at "rd"
  have ec:∀(x:Str) (ws:List Str),Hz (V.str x::ws.map V.str) (some 1) none=ws.map V.str:=λx ws=>by
   rw[Iw (by decide)]
   rfl
  rcases h with ⟨r,ok,rfl,k⟩ | ⟨x,ws,bd,ke⟩
  ·have hl5:=(Ff ok).2.2
   have words:=K6 ok (P:=λw=>w.length<=1000) (Zyu (Ff ok).2.1 (by decide)) λk hk=>Zyu (K5 (ok.cells k hk)).2 (by decide)
   refine⟨rfl,32,by decide +kernel,Zyu (M4 ok) (by decide),λp hp=>?_⟩
   rw[N8 ok,Zzp]
   have u1:=A0 (o:=.lst (V.str r.1::(r.2.map cellT).map V.str)) hp
   refine⟨_,Ce (j:=0) A1 rfl,by decide,λp1 hp1=>?_⟩
   have u2:=A0 (o:=.lst [V.str r.1]) hp1
   refine⟨_,u2 _ _ A1,λp2 hp2=>?_⟩
   rw[ec]
   have u3:=A0 (o:=.lst ((r.2.map cellT).map V.str)) hp2
   refine⟨_,Ce (j:=0) (u3 _ _ (u2 _ _ A1)) rfl,_,rfl,?_⟩
   have uu:=(u1.trans u2).trans u3
   have fm:Ju r.1=some (r.2.map Eu):=by
    have hf:=ok.form
    unfold formsW at hf
    simp only[Zzw,Zz8,or_false,Zvb] at hf
    rcases hf with ⟨q1,q2⟩ | ⟨q1,q2⟩ | ⟨q1,q2⟩ | ⟨q1,q2⟩<;>(rw[q1,q2];decide +kernel)
   rcases look r.1 with ⟨_,q⟩ | ⟨fs,⟨fa,tl,q1,q2,q3⟩,q,f6⟩
   ·rw[fm] at q;cases q
   rw[fm] at q
   have q:=Zyk q
   subst q
   have htl:tl.length<=1000:=by
    have:=congrArg Zwc q3
    rw[Zzz] at this
    omega
   have sq:∀H':Hp,SqT K H' fa ((r.2.map Eu).map V.str):=λH'=>by rw[<- q3];exact q2.sq htl H'
   rw[q1]
   obtain⟨g1,g2⟩:=Sn ok.cells
   refine⟨p2,.ref fa,r.2.map cellT,rfl,A1,by rw[Zzz];omega,λy hy=>words y (Zzi _ hy),.inr ⟨fa,_,rfl,sq _,by omega,λ_ p3 H3 hp3 hp3' s3=>?_,λz=>by rw[g1] at z;cases z⟩⟩
   rw[g2] at hp3'
   refine⟨p3,rfl,_,s3 _ _ (u3 _ _ A1),_,hp3',Bi (by rw[Zzz];simp;omega),λp4 hp4=>?_⟩
   exact k p4 _ (Same.free (uu.trans s3) hp4) A1 ((uu.trans s3).trans (A0 hp4))
  ·refine⟨rfl,32,by decide +kernel,Zyu bd.len (by decide),λp hp=>?_⟩
   rw[bd.sp,Zzp]
   have u1:=A0 (o:=.lst (V.str x::ws.map V.str)) hp
   refine⟨_,Ce (j:=0) A1 rfl,by decide,λp1 hp1=>?_⟩
   have u2:=A0 (o:=.lst [V.str x]) hp1
   refine⟨_,u2 _ _ A1,λp2 hp2=>?_⟩
   rw[ec]
   have u3:=A0 (o:=.lst (ws.map V.str)) hp2
   refine⟨_,Ce (j:=0) (u3 _ _ (u2 _ _ A1)) rfl,_,rfl,?_⟩
   have uu:=(u1.trans u2).trans u3
   rcases look x with ⟨q,_⟩ | ⟨fs,⟨fa,tl,q1,q2,q3⟩,q,f6⟩
   ·rw[q]
    exact⟨p2,.non,ws,rfl,A1,bd.few,bd.words,.inl ⟨rfl,ke _ uu⟩⟩
   ·have htl:tl.length<=1000:=by
     have:=congrArg Zwc q3
     rw[Zzz] at this
     omega
    have sq:∀H':Hp,SqT K H' fa (fs.map V.str):=λH'=>by rw[<- q3];exact q2.sq htl H'
    rw[q1]
    exact⟨p2,.ref fa,ws,rfl,A1,bd.few,bd.words,.inr ⟨fa,fs,rfl,sq _,by omega,(λz=>by rw[bd.bad fs q] at z;cases z),λ_ H' s'=>ke _ (uu.trans s')⟩⟩
end
set_option maxHeartbeats 4000000
section
variable {P:Program}{w:World}{K:Zzx}{mg:Str->Option Value}{base:Heap}
def Le:Key->PyData
 |.inl i=>.int i
 |.inr x=>.str x
abbrev R3:=Str×Str×List Key
def r3(r:R3):Str×List Key:=(r.1,.inr r.2.1::r.2.2)
def r3D(r:R3):PyData:=.list (.str r.1::.str r.2.1::r.2.2.map Le)
def Hg(r:R3):PyData:=.tuple (r.2.2.map Le)
def Fi(s n:Str)(r:R3):Bool:=decide (r.1=s)&&decide (r.2.1=n)
theorem cj{H:Hp}{k:Key}{v:V}(h:RD H (Le k) v):v=kV k:=by
 cases k with
 |inl i=>rw[Le,RD] at h;exact h
 |inr x=>rw[Le,RD] at h;exact h
theorem Z9{H:Hp}(k:Key):RD H (Le k) (kV k):=by
 cases k with
 |inl i=>exact RD.int_mk
 |inr x=>exact RD.str_mk
theorem Sq{H:Hp}:∀{ks:List Key} {vs:List V},RDs H (ks.map Le) vs->vs=ks.map kV
 |[],vs,h=>RDs.nil_of h
 |k::r,vs,h=>by
  obtain⟨x,r',rfl,h1,h2⟩:=RDs.cons_of h
  rw[cj h1,Sq h2]
  rfl
theorem L0{H:Hp}:∀ks:List Key,RDs H (ks.map Le) (ks.map kV)
 |[]=>RDs.nil
 |k::r=>RDs.cons (Z9 k) (L0 r)
theorem O0{H:Hp}{ds:List PyData}{v:V}(h:RD H (.list ds) v):∃a xs,v=.ref a/\H a=some (.lst xs)/\RDs H ds xs:=by rw[RD] at h;exact h
theorem Vc{H:Hp}{r:R3}{v:V}(h:RD H (r3D r) v):∃a,v=.ref a/\H a=some (.lst (.str r.1::.str r.2.1::r.2.2.map kV)):=by
 obtain⟨a,xs,rfl,ha,hx⟩:=O0 h
 obtain⟨x,r1,rfl,h1,h2⟩:=RDs.cons_of hx
 obtain⟨y,r2,rfl,h3,h4⟩:=RDs.cons_of h2
 rw[RD] at h1 h3
 rw[h1,h3,Sq h4] at ha
 exact⟨a,rfl,ha⟩
def sp_rows_of:Sp:=λvs H Q _=>∃(a:Addr) (rs:List R3) (s n:Str),vs=[.ref a,.str s,.str n]/\RD H (.list (rs.map r3D)) (.ref a)/\rs.length<=1000/\(∀r∈rs,r.2.2.length<=5)/\∀p xs H',H p=none->H' p=some (.lst xs)->RDs H' ((rs.filter (Fi s n)).map Hg) xs->Same H H'->Q (.ref p) H'
theorem U1:Bv ["rows", "sort", "name"] ["rows", "sort", "name"] (A6 K7):=⟨rfl,rfl,rfl,by decide +kernel,rfl,by decide +kernel,by decide +kernel⟩
theorem Uc{f:Addr}{fd:FuncData}(F:Fun K "rows_of" "rows_of" K7 f fd)(T:Txt mg){c:Cl}(C:Exc K mg c):Dp P w K mg base CX0 1 f fd ["rows", "sort", "name"] sp_rows_of:=by
 refine F.ok U1 (λvs H Q E h=>?_) (λcdv A outer s H vs Q E hr h=>?_)
 ·obtain⟨a,rs,s,n,rfl,_⟩:=h
  rfl
 ·obtain⟨a,rs,s',n,rfl,hrd,hl,hk,k⟩:=h
  have hu:=Di hr
  refine⟨_,(A9 (Bm (D8 (own:=["row"]) (cap:=[1,2]) rfl (Fu rfl) (C3 (by decide)) (Kv (pv 0))
 (λ_ _ _ _ _ _=>⟨(Bq (i:=0) (of_decide_eq_true rfl) rfl (Zz0 rfl) (.inr rfl)),(Rb (PW.pt (Xg (C4 (E2 hu) (Ag hu (pv 0) A4 (λ_ _=>rfl)) (pv 1) (Cg _)) (Vd (C4 (E2 hu) (Ag hu (pv 0) A4 (λ_ _=>rfl)) (pv 2) (Cg _)))))),(Bw Cr rfl T.Zuy Ey (A3 (De Fx (pv 0) (Dd A4) Fy) A2))⟩)))),?_⟩
  walk_at "rd"
  obtain⟨a',vs,ea,ha,rv⟩:=O0 hrd
  cases ea
  have hvl:=Dy rv
  refine⟨_,ha,?_⟩
  refine Ml (Ln a _) (Bi (by omega)) (λi acc H'=>RDs H' (((rs.take i).filter (Fi s' n)).map Hg) acc/\Same H H') ⟨RDs.nil,Same.refl _⟩ (λi acc H' _ h=>h.2 _ _ ha) (λi acc H' h=>?_) (λi x acc H' hi hx h=>?_) (λacc H' h p hp=>?_)
  ·have:=Dy h.1
   have h2:((rs.take i).filter (Fi s' n)).length<=i:=Zyu (Zx6 _ _) (by rw[Zyg];omega)
   omega
  ·obtain⟨racc,s1⟩:=h
   obtain⟨r,er,rr⟩:=J0 rv hx
   obtain⟨ra,rfl,hra⟩:=Vc rr
   have hra1:=s1 _ _ hra
   have et:(rs.take (i+1)).filter (Fi s' n)=(rs.take i).filter (Fi s' n)++if Fi s' n r=true then [r] else []:=by
    rw[Zxw,er,Zy8]
    congr 1
    by_cases z:Fi s' n r=true
    ·rw[if_pos z];simp[z]
    ·rw[if_neg z];simp[z]
   walk_at "rd"
   refine⟨_,Ce (j:=0) hra1 rfl,rfl,?_⟩
   have no:Fi s' n r=false->RDs H' (((rs.take (i+1)).filter (Fi s' n)).map Hg) acc/\Same H H':=λz=>by
    rw[et,if_neg (by rw[z];decide),Zzq]
    exact⟨racc,s1⟩
   refine Fj (λz1=>⟨_,Ce (j:=1) hra1 rfl,rfl,Fj (λz2=>?_) (λz2=>no ?_)⟩) (λz1=>no ?_)
   ·have e1:r.1=s':=V.str.inj (of_decide_eq_true z1)
    have e2:r.2.1=n:=V.str.inj (of_decide_eq_true z2)
    have ec:Hz (V.str r.1::V.str r.2.1::r.2.2.map kV) (some 2) none=r.2.2.map kV:=by
     rw[Iw (by decide)]
     rfl
    refine⟨_,hra1,λp hp=>?_⟩
    rw[ec]
    refine⟨_,.inl ⟨A1,λl hl=>?_⟩⟩
    have u:=(A0 (o:=.lst (r.2.2.map kV)) hp).trans (A0 (o:=.tup (r.2.2.map kV)) hl)
    refine⟨?_,s1.trans u⟩
    rw[et,if_pos (by unfold Fi;rw[decide_eq_true e1,decide_eq_true e2];rfl),Zyo]
    exact RDs.app (RDs.same u _ _ racc) (RDs.one (RD.tup_mk A1 (L0 _)))
   ·have h2:decide (r.2.1=n)=false:=decide_eq_false λz=>z2 (decide_eq_true (by rw[z]))
    unfold Fi
    rw[h2,Zxu]
   ·have h1:decide (r.1=s')=false:=decide_eq_false λz=>z1 (decide_eq_true (by rw[z]))
    unfold Fi
    rw[h1,Zyt]
  ·obtain⟨racc,s1⟩:=h
   rw[hvl,Zxo] at racc
   exact k p acc _ (Same.free s1 hp) A1 (RDs.same (A0 hp) _ _ racc) (s1.trans (A0 hp))
end
set_option maxHeartbeats 4000000
section
variable {P:Program}{w:World}{K:Zzx}{mg:Str->Option Value}{base:Heap}
def Do(rs:List R3)(r:R3):PyData:=.tuple ((.str r.2.1::r.2.2.map Le)++[.tuple ((rs.filter (Fi "coming" r.2.1)).map Hg),.tuple ((rs.filter (Fi "part" r.2.1)).map Hg)])
def Jb(r:R3):PyData:=.tuple (.str r.2.1::r.2.2.map Le)
def isS(s:Str)(r:R3):Bool:=decide (r.1=s)
def wrD(rs:List R3):PyData:=.tuple [.tuple ((rs.filter (isS "ware")).map (Do rs)),.tuple ((rs.filter (isS "want")).map Jb)]
theorem Vh:∀xs ys:List PyData,G0 xs=true->G0 ys=true->G0 (xs++ys)=true
 |[],ys,_,h=>h
 |x::r,ys,h1,h2=>by
  rw[G0,Zzf] at h1
  rw[Zze,G0,h1.1,Vh r ys h1.2 h2]
  rfl
theorem Y0(k:Key):G6 (Le k)=true:=by cases k<;>rfl
theorem Rt(r:R3):G6 (Hg r)=true:=by
 unfold Hg
 rw[G6]
 exact D4 Le Y0 _
theorem Xz(rs:List R3)(r:R3):G6 (Do rs r)=true:=by
 unfold Do
 rw[G6]
 refine Vh _ _ ?_ ?_
 ·rw[G0,D4 Le Y0]
  rfl
 ·simp only[G0,G6,D4 Hg Rt,Zxj]
theorem Mz{rs:List R3}{s:Str}{i:Nat}{r:R3}(h:rs[i]?=some r):(rs.take (i+1)).filter (isS s)=(rs.take i).filter (isS s)++if r.1=s then [r] else []:=by
 rw[Zxw,h,Zy8]
 congr 1
 unfold isS
 by_cases z:r.1=s
 ·rw[if_pos z];simp[z]
 ·rw[if_neg z];simp[z]
theorem Zv{H:Hp}{l:Addr}{xs ys:List V}(h:H l=some (.lst xs)):KeepU H (upd H l (.lst ys)):=Uo h (λ_ z=>by cases z)
def sp_written_shop:Sp:=λvs H Q _=>∃(a:Addr) (rs:List R3),vs=[.ref a]/\RD H (.list (rs.map r3D)) (.ref a)/\rs.length<=1000/\(∀r∈rs,r.2.2.length<=5)/\∀t H',RD H' (wrD rs) (.ref t)->Same H H'->Q (.ref t) H'
def gf(a q:Addr)(rs:List R3)(H:Hp)(i:Nat)(Z:St)(H':Hp):Prop:=∃(vs:List V) (o1 o2 o3:Option V),Z=[some (.ref a),some (.ref q),o1,o2,o3,none]/\H' q=some (.lst vs)/\RDs H' (((rs.take i).filter (isS "ware")).map (Do rs)) vs/\Same H H'
theorem sc_written_shop:Bv ["rows", "wares", "row", "coming", "parts", "wants"] ["rows"] (A6 Fm):=⟨rfl,rfl,rfl,by decide +kernel,rfl,by decide +kernel,by decide +kernel⟩
theorem Nt{f:Addr}{fd:FuncData}(F:Fun K "written_shop" "written_shop" Fm f fd)(T:Txt mg){c:Cl}(C:Exc K mg c)(Zt8:Has P w K mg base "rows_of" 1 ["rows", "sort", "name"] sp_rows_of):Dp P w K mg base CX0 2 f fd ["rows"] sp_written_shop:=by
 refine F.ok sc_written_shop (λvs H Q E h=>?_) (λcdv A outer s H vs Q E hr h=>?_)
 ·obtain⟨a,rs,rfl,_⟩:=h
  rfl
 ·obtain⟨a,rs,rfl,hrd,hl,hk,k⟩:=h
  have hu:=Di hr
  refine⟨_,(A5 (Bs (i:=1) sc_written_shop.nd rfl (Zz0 rfl) (Bt A2))
 (A5 (Jw PassesOwn.never rfl (Kv (pv 0)) (Bq (i:=2) sc_written_shop.nd rfl (Zz0 rfl))
 (A9 (D9 (C4 (E2 hu) (Ag hu (pv 2) A4 (λ_ _=>rfl)) Ad (Cg _)) (A5 (Bs (i:=3) sc_written_shop.nd rfl (Zz0 rfl) (Bw Cr rfl T.Zuy Ey (A3 (A8 Zt8 (hr.mono (by decide)) rfl (A3 (pv 0) (A3 Ad (A3 (Ag hu (pv 2) A4 (λ_ _=>rfl)) A2)))) A2)))
 (A5 (Bs (i:=4) sc_written_shop.nd rfl (Zz0 rfl) (Bw Cr rfl T.Zuy Ey (A3 (A8 Zt8 (hr.mono (by decide)) rfl (A3 (pv 0) (A3 Ad (A3 (Ag hu (pv 2) A4 (λ_ _=>rfl)) A2)))) A2)))
 (A9 (E1 (Da Zym Zy5 Zy4 Fc (pv 1) (A3 (Bk Mp (Bw Cr rfl T.Zuy Ey (A3 (De Fx (pv 2) (Dd A4) Fy) A2)) (J4 (A3 (pv 3) (A3 (pv 4) A2)))) A2)))))) Ca)))
 (A5 (Oe (own:=["row"]) (cap:=[]) (i:=5) rfl (Fu rfl) (C3 (by decide)) sc_written_shop.nd rfl rfl (Kv (pv 0))
 (λ_ _ _ _ _ _=>⟨(Bq (i:=0) (of_decide_eq_true rfl) rfl (Zz0 rfl) (.inr rfl)),(Rb (C4 (E2 hu) (Ag hu (pv 0) A4 (λ_ _=>rfl)) Ad (Cg _))),(Bw Cr rfl T.Zuy Ey (A3 (De Fx (pv 0) (Dd A4) Fy) A2))⟩))
 (A9 (Bm (J4 (A3 (Bw Cr rfl T.Zuy Ey (A3 (pv 1) A2)) (A3 (Bw Cr rfl T.Zuy Ey (A3 (pv 5) A2)) A2)))))))),?_⟩
  walk_at "rd"
  obtain⟨a',vs,ea,ha,rv⟩:=O0 hrd
  cases ea
  have hvl:=Dy rv
  refine⟨by decide,λq hq=>?_⟩
  have uq:=A0 (o:=.lst []) hq
  refine⟨_,uq _ _ ha,?_⟩
  refine N2 (Ln a _) (gf a q rs H) ⟨[],_,_,_,rfl,A1,RDs.nil,uq⟩ (λi Z H' _ h=>by obtain⟨_,_,_,_,_,_,_,s'⟩:=h;exact s' _ _ ha) (λi x Z H1 hi hx h=>?_) (λZ H1 h=>?_)
  ·obtain⟨ws,o1,o2,o3,rfl,hq1,r1,s1⟩:=h
   obtain⟨r,er,rr⟩:=J0 rv hx
   obtain⟨ra,rfl,hra⟩:=Vc rr
   have hra1:=s1 _ _ hra
   walk_at "rd"
   refine⟨_,Ce (j:=0) hra1 rfl,rfl,Fj (λz=>?_) (λz=>?_)⟩
   ·have z:r.1 = "ware" := V.str.inj (of_decide_eq_true z)
    refine⟨_,Ce (j:=1) hra1 rfl,a,rs,_,_,rfl,RD.same s1 _ _ hrd,hl,hk,λp2 x2 H2 hp2 hp2' rc2 sm2=>⟨p2,rfl,x2,.inl ⟨hp2',λl1 hl1=>?_⟩⟩⟩
    have u3:=A0 (o:=.tup x2) hl1
    have s3:=(s1.trans sm2).trans u3
    have hl1':upd H2 l1 (.tup x2) l1=some (.tup x2):=A1
    have rc3:=RDs.same u3 _ _ rc2
    have hq3:=u3 _ _ (sm2 _ _ hq1)
    have r3':=RDs.same (sm2.trans u3) _ _ r1
    generalize upd H2 l1 (.tup x2)=H3 at s3 hl1' rc3 hq3 r3'
    refine⟨_,Ce (j:=1) (s3 _ _ hra) rfl,a,rs,_,_,rfl,RD.same s3 _ _ hrd,hl,hk,λp4 x4 H4 hp4 hp4' rc4 sm4=>⟨p4,rfl,x4,.inl ⟨hp4',λl2 hl2=>?_⟩⟩⟩
    have u5:=A0 (o:=.tup x4) hl2
    have s5:=(s3.trans sm4).trans u5
    have hl2':upd H4 l2 (.tup x4) l2=some (.tup x4):=A1
    have hl15:=u5 _ _ (sm4 _ _ hl1')
    have rc5:=RDs.same (sm4.trans u5) _ _ rc3
    have rp5:=RDs.same u5 _ _ rc4
    have hq5:=u5 _ _ (sm4 _ _ hq3)
    have r5':=RDs.same (sm4.trans u5) _ _ r3'
    generalize upd H4 l2 (.tup x4)=H5 at s5 hl2' hl15 rc5 rp5 hq5 r5'
    have ec:Hz (V.str r.1::V.str r.2.1::r.2.2.map kV) (some 1) none=V.str r.2.1::r.2.2.map kV:=by
     rw[Iw (by decide)]
     rfl
    refine⟨Fk hq5,_,s5 _ _ hra,λp6 hp6=>?_⟩
    rw[ec]
    refine⟨_,.inl ⟨A1,λl3 hl3=>⟨by decide,λp7 hp7=>?_⟩⟩⟩
    have u6:=(A0 (o:=.lst (V.str r.2.1::r.2.2.map kV)) hp6).trans (A0 (o:=.tup (V.str r.2.1::r.2.2.map kV)) hl3)
    have u7:=A0 (o:=.tup [V.ref l1,V.ref l2]) hp7
    have hkr:=hk r (Zyv er)
    refine⟨_,u7 _ _ A1,_,A1,Bi (by simp only[Zzy,Zzz,Zyy];omega),λp8 H8 hp8 sm8 _=>?_⟩
    have ux:=(u6.trans u7).trans sm8
    have hlw:=Dy r1
    have hlw2:((rs.take i).filter (isS "ware")).length<=1000:=Zyu (Zx6 _ _) (by rw[Zyg];omega)
    have hiw:((rs.take i).filter (isS "ware")).length<1000:=Zve (Zx6 _ _) (by rw[Zyg];have:=(Zy1.mp er).1;omega)
    have hqx:=ux _ _ hq5
    have kx:=Zv (ys:=ws++[V.ref p8]) hqx
    refine⟨ws,hqx,Zzd (show ws.length<1000 by omega) (Bi (Zzt _)),_,_,_,_,rfl,A1,?_,?_⟩
    ·rw[Mz er,if_pos z,Zyo]
     refine RDs.app (RDs.ku (ux.ku.trans kx) _ _ (D4 _ (Xz rs) _) r5') (RDs.one ?_)
     unfold Do
     refine RD.tup_mk (xs:=(V.str r.2.1::r.2.2.map kV)++[V.ref l1,V.ref l2]) (kx _ _ hp8) (RDs.app (RDs.cons RD.str_mk (L0 _)) (RDs.cons (RD.tup_mk ?_ (RDs.ku (ux.ku.trans kx) _ _ (D4 _ Rt _) rc5)) (RDs.one (RD.tup_mk ?_ (RDs.ku (ux.ku.trans kx) _ _ (D4 _ Rt _) rp5)))))
     ·exact kx _ _ (ux _ _ hl15)
     ·exact kx _ _ (ux _ _ hl2')
    ·intro c o e
     rw[Bd (Bj e hq)]
     exact ux _ _ (s5 _ _ e)
   ·have z:¬ r.1 = "ware" := λy=>z (decide_eq_true (by rw[y]))
    refine⟨ws,_,_,_,rfl,hq1,?_,s1⟩
    rw[Mz er,if_neg z,Zzq]
    exact r1
  ·obtain⟨ws,o1,o2,o3,rfl,hq1,r1,s1⟩:=h
   rw[hvl,Zxo] at r1
   walk_at "rd"
   refine⟨_,s1 _ _ ha,?_⟩
   refine Ml (Ln a _) (Bi (by omega)) (λi acc H'=>RDs H' (((rs.take i).filter (isS "want")).map Jb) acc/\Same H1 H') ⟨RDs.nil,Same.refl _⟩ (λi acc H' _ h=>h.2 _ _ (s1 _ _ ha)) (λi acc H' h=>?_) (λi x acc H' hi hx h=>?_) (λacc H' h p hp=>?_)
   ·have:=Dy h.1
    have h2:((rs.take i).filter (isS "want")).length<=i:=Zyu (Zx6 _ _) (by rw[Zyg];omega)
    omega
   ·obtain⟨racc,s2⟩:=h
    obtain⟨r,er,rr⟩:=J0 rv hx
    obtain⟨ra,rfl,hra⟩:=Vc rr
    have hra1:=s2 _ _ (s1 _ _ hra)
    walk_at "rd"
    refine⟨_,Ce (j:=0) hra1 rfl,rfl,Fj (λz=>?_) (λz=>?_)⟩
    ·have z:r.1 = "want" := V.str.inj (of_decide_eq_true z)
     have ec:Hz (V.str r.1::V.str r.2.1::r.2.2.map kV) (some 1) none=V.str r.2.1::r.2.2.map kV:=by
      rw[Iw (by decide)]
      rfl
     refine⟨_,hra1,λp hp=>?_⟩
     rw[ec]
     refine⟨_,.inl ⟨A1,λl hl=>?_⟩⟩
     have u:=(A0 (o:=.lst (V.str r.2.1::r.2.2.map kV)) hp).trans (A0 (o:=.tup (V.str r.2.1::r.2.2.map kV)) hl)
     refine⟨?_,s2.trans u⟩
     rw[Mz er,if_pos z,Zyo]
     exact RDs.app (RDs.same u _ _ racc) (RDs.one (RD.tup_mk A1 (RDs.cons RD.str_mk (L0 _))))
    ·have z:¬ r.1 = "want" := λy=>z (decide_eq_true (by rw[y]))
     rw[Mz er,if_neg z,Zzq]
     exact⟨racc,s2⟩
   ·obtain⟨racc,s2⟩:=h
    rw[hvl,Zxo] at racc
    have up:=A0 (o:=.lst acc) hp
    refine⟨ws,.inl ⟨(s2.trans up) _ _ hq1,λl hl=>⟨p,rfl,acc,.inl ⟨A0 hl _ _ A1,λl2 hl2=>⟨by decide,λt ht=>?_⟩⟩⟩⟩⟩
    have v1:=A0 (o:=.tup ws) hl
    have v2:=A0 (o:=.tup acc) hl2
    have v3:=A0 (o:=.tup [V.ref l,V.ref l2]) ht
    have vv:=(v1.trans v2).trans v3
    refine k t _ ?_ (((s1.trans s2).trans up).trans vv)
    unfold wrD
    exact RD.tup_mk A1 (RDs.cons (RD.tup_mk (v3 _ _ (v2 _ _ A1)) (RDs.same ((s2.trans up).trans vv) _ _ r1)) (RDs.one (RD.tup_mk (v3 _ _ A1) (RDs.same (up.trans vv) _ _ racc))))
end
set_option maxHeartbeats 4000000
section
variable {P:Program}{w:World}{K:Zzx}{mg:Str->Option Value}{base:Heap}
def Qq(rs:List R3):Str:=Str.join (one 10) (rs.map λr=>Fw (r3 r))
theorem Sm{r:Str×List Key}(h:D3 r):10∉(Fw r).cps.toList:=by
 have g:∀ws:List Str,(∀w∈ws,10∉w.cps.toList)->10∉(Str.join (one 32) ws).cps.toList:=λws=>by
  induction ws with
  |nil=>intro _ z;exact absurd z (by decide +kernel)
  |cons w r ih =>
   intro hw
   cases r with
   |nil=>exact hw w Zzs
   |cons v r =>
    rw[Kj]
    intro z
    rcases Zyq.mp z with z | z
    ·exact hw w Zzs z
    ·rcases Zzw.mp z with z | z
     ·exact absurd z (by decide)
     ·exact ih (λy hy=>hw y (Zzi _ hy)) z
 exact g _ (K6 h (P:=λw=>10∉w.cps.toList) (Ff h).1.2 λk hk=>(K5 (h.cells k hk)).1.2)
theorem Tz{rs:List R3}(h0:rs≠[])(h:∀r∈rs,D3 (r3 r)):Txt.split (Qq rs) (one 10)=rs.map λr=>Fw (r3 r) :=
 L8 (by decide) (by simpa using h0) λw hw=>by
  obtain⟨r,hr,rfl⟩:=Zza.mp hw
  exact Sm (h r hr)
theorem Xd{rs:List R3}(h:∀r∈rs,D3 (r3 r)):(Qq rs).length<=rs.length*400+rs.length:=by
 have:=L4 (sep:=one 10) (B:=400) (xs:=rs.map λr=>Fw (r3 r)) λw hw=>by
  obtain⟨r,hr,rfl⟩:=Zza.mp hw
  exact M4 (h r hr)
 rw[Zzz,show (one 10).length=1 from rfl,Nat.mul_one] at this
 exact this
mutual
def toD:PyData->D
 |.int i=>.int i
 |.str x=>.str x
 |.tuple ds=>.tup (K3 ds)
 |.none=>.non
 |.bool b=>.bl b
 |.list _=>.lst
 |.dict _=>.dct
def K3:List PyData->List D
 |[]=>[]
 |d::r=>toD d::K3 r
end
mutual
def Jv:PyData->Bool
 |.int _=>true
 |.str x=>decide (x.length<=1000)
 |.tuple ds=>decide (ds.length<=1000)&&Fs ds
 |.none=>false
 |.bool _=>false
 |.list _=>false
 |.dict _=>false
def Fs:List PyData->Bool
 |[]=>true
 |d::r=>Jv d&&Fs r
end
theorem Sf:∀ds:List PyData,(K3 ds).length=ds.length
 |[]=>rfl
 |d::r=>by rw[K3,Zzy,Zzy,Sf r]
theorem Kg{α:Type}(f:α->PyData):∀xs:List α,K3 (xs.map f)=xs.map λx=>toD (f x)
 |[]=>rfl
 |x::r=>by rw[Zzp,K3,Kg f r];rfl
mutual
theorem R8{H:Hp}:∀(d:PyData) (v:V),Jv d=true->RD H d v->Rep H (toD d) v
 |.int i,v,_,h=>by rw[RD] at h;rw[toD,Rep];exact h
 |.str x,v,f,h=>by rw[RD] at h;rw[toD,Rep];exact⟨h,by rw[Jv] at f;exact of_decide_eq_true f⟩
 |.tuple ds,v,f,h=>by
  rw[RD] at h
  obtain⟨a,xs,h1,h2,h3⟩:=h
  rw[Jv,Zzf] at f
  rw[toD,Rep]
  exact⟨a,xs,h1,h2,by rw[Sf];exact of_decide_eq_true f.1,So ds xs f.2 h3⟩
 |.none,_,f,_=>by rw[Jv] at f;cases f
 |.bool _,_,f,_=>by rw[Jv] at f;cases f
 |.list _,_,f,_=>by rw[Jv] at f;cases f
 |.dict _,_,f,_=>by rw[Jv] at f;cases f
theorem So{H:Hp}:∀(ds:List PyData) (vs:List V),Fs ds=true->RDs H ds vs->Reps H (K3 ds) vs
 |[],vs,_,h=>by rw[RDs.nil_of h,K3,Reps]
 |d::r,vs,f,h=>by
  rw[Fs,Zzf] at f
  obtain⟨x,r',rfl,h1,h2⟩:=RDs.cons_of h
  rw[K3,Reps]
  exact⟨x,r',rfl,R8 d x f.1 h1,So r r' f.2 h2⟩
end
end
set_option maxHeartbeats 4000000
section
variable {P:Program}{w:World}{K:Zzx}{mg:Str->Option Value}{base:Heap}
theorem U0{ws us:List D}(h:Jy (.tup [.tup ws,.tup us])=true):(∀d∈ws,isWare d=true)/\ws.length<=12:=by
 have h:(Ia (.tup ws)&&Ib (.tup us)&&(Ja ws us).all λx=>decide (x∈ws.map nameOf))=true:=h
 simp only[Zzf] at h
 have ha:(decide (1<=ws.length)&&decide (ws.length<=12)&&ws.all isWare&&unl (ws.map nameOf))=true:=h.1.1
 simp only[Zzf,decide_eq_true_eq] at ha
 exact⟨λd hd=>Zz2.mp ha.1.2 d hd,ha.1.1.2⟩
theorem bh(rs:List R3)(r:R3):nameOf (toD (Do rs r))=r.2.1:=by
 unfold Do
 rw[toD,Zze,K3,toD]
 rfl
def Fd(rs:List R3):Bool:=Jy (toD (wrD rs))&&rs.all λr=>decide (r.2.1∈(rs.filter (isS "ware")).map (·.2.1))
theorem aj{r:Str×List Key}{x:Str}{ws:List Str}(ok:D3 r)(b:X3 (Fw r) x ws):False:=by
 have h:=b.sp
 rw[N8 ok] at h
 have h1:=(Zwe h).1
 have h2:=(Zwe h).2
 have fm:Ju r.1=some (r.2.map Eu):=by
  have hf:=ok.form
  unfold formsW at hf
  simp only[Zzw,Zz8,or_false,Zvb] at hf
  rcases hf with ⟨q1,q2⟩ | ⟨q1,q2⟩ | ⟨q1,q2⟩ | ⟨q1,q2⟩<;>(rw[q1,q2];decide +kernel)
 have:=b.bad _ (by rw[<- h1];exact fm)
 rw[<- h2,(Sn ok.cells).1] at this
 cases this
structure Nh(ts:List Str):Prop where
 len:ts.length<=1000
 each:∀t∈ts,10∉t.cps.toList/\((∃r,D3 r/\t=Fw r)\/∃x ws,X3 t x ws)
 bad:∃t∈ts,∃x ws,X3 t x ws
 all:(Str.join (one 10) ts).length<=1000000
 lens:∀t∈ts,t.length<=1000
def K4(c:Cl):Sp:=λvs H Q E=>∃v:V,vs=[v]/\((∃T,Km H v=some T/\Ex T "str" = false/\E (.ref c.NoText) none H)\/(∃ts:List Str,v=.str (Str.join (one 10) ts)/\Nh ts/\∀H',Same H H'->E (.ref c.NoText) none H') \/
 ∃rs:List R3,v=.str (Qq rs)/\rs≠[]/\rs.length<=400/\(∀r∈rs,D3 (r3 r))/\Jv (wrD rs)=true/\(Fd rs=true->∀t H',RD H' (wrD rs) (.ref t)->Same H H'->Q (.ref t) H')/\(Fd rs=false->∀H',Same H H'->E (.ref c.NoShop) none H'))
theorem sc_read_shop:Bv ["text", "rows", "shop"] ["text"] (A6 Ii):=⟨rfl,rfl,rfl,by decide +kernel,rfl,by decide +kernel,by decide +kernel⟩
theorem Rg{f:Addr}{fd:FuncData}(F:Fun K "read_shop" "read_shop" Ii f fd)(T:Txt mg){c:Cl}(C:Exc K mg c)(Zsv:Ny P w K mg base "read_row" 4 ["row"] (Lp c))(Ztp:Has P w K mg base "written_shop" 2 ["rows"] sp_written_shop)(Zty:Has P w K mg base "names_of" 1 ["shop"] sp_names_of)(Zsp:Has P w K mg base "is_shop" 8 ["found"] sp_is_shop):Dp P w K mg base (CXE P w) 9 f fd ["text"] (K4 c):=by
 refine F.okX sc_read_shop (λvs H Q E h=>?_) (λcdv A outer s H vs Q E hr h=>?_)
 ·obtain⟨v,rfl,_⟩:=h
  rfl
 ·obtain⟨v,rfl,h⟩:=h
  have hu:=Di hr
  refine⟨_,(A5 (D9 (Dz (F0 (Bn Ix rfl T.Zv4 Dc (A3 (pv 0) (A3 (Lc (v:=.ty "str") rfl T.Zub Ig rfl) A2))))) (A9 (Lr Th rfl rfl C.Ztd C.Zu1 (A3 Ad A2))) Ca)
 (A5 (Ss (own:=["row"]) (cap:=[]) (i:=1) rfl (Fu rfl) (C3 (by decide)) sc_read_shop.nd rfl rfl (Kw (Da Zys Zvt Zvs Ot (pv 0) (A3 Ad A2))) Zf
 (λ_ _ _ _ _ _ _ hp=>⟨(Bq (i:=0) (of_decide_eq_true rfl) rfl (Zz0 rfl) (.inr rfl)),D7,(L1 Zsv hp (hr.mono (by decide)) rfl (A3 (pv 0) A2))⟩))
 (A5 (Bs (i:=2) sc_read_shop.nd rfl (Or.inr rfl) (A8 Ztp (hr.mono (by decide)) rfl (A3 (pv 1) A2)))
 (A5 (D9 (PW.pt (Lq (Dz (F0 (A8 Zsp (hr.mono (by decide)) rfl (A3 (pv 2) A2)))) (Lb (Dz (F0 (Bn (J8 rfl) rfl T.Zti Li (A3 (D8 (own:=["row"]) (cap:=[2]) rfl (Fu rfl) (C3 (by decide)) (Kv (pv 1))
 (λ_ _ _ _ _ _=>⟨(Bq (i:=0) (of_decide_eq_true rfl) rfl (Zz0 rfl) (.inr rfl)),D7,(J5 (Oi hu) (Ag hu (pv 0) A4 (λ_ _=>rfl)) (A8 Zty (hr.mono (by decide)) rfl (A3 (pv 1) A2)) rfl)⟩)) A2))))))) (A9 (Lr Th rfl rfl C.Zsm C.Ztc (A3 Ad A2))) Ca)
 (A9 (Bm (pv 2))))))),?_⟩
  rcases h with ⟨T',ht,hn,ke⟩ | ⟨ts,rfl,lb,ke⟩ | ⟨rs,rfl,ne,hl,hok,fit,k,ke⟩
  ·walk_at "rd"
   refine⟨_,ht,?_⟩
   rw[hn,if_pos (by decide)]
   exact⟨by decide,ke⟩
  ·walk_at "rd"
   refine⟨_,rfl,?_⟩
   rw[if_neg (by decide)]
   have tne:ts≠[]:=λz=>by obtain⟨t,ht,_⟩:=lb.bad;rw[z] at ht;cases ht
   refine⟨rfl,10,by decide +kernel,lb.all,λp hp=>.inl ⟨_,A1,?_⟩⟩
   rw[L8 (by decide) tne λt ht=>(lb.each t ht).1]
   have u1:=A0 (o:=.lst (ts.map V.str)) hp
   have hp1:upd H p (.lst (ts.map V.str)) p=some (.lst (ts.map V.str)):=A1
   generalize upd H p (.lst (ts.map V.str))=H1 at u1 hp1
   have tl:=lb.len
   refine Ml (Ln p _) (Bi (by rw[Zzz];exact tl)) (λi acc H'=>acc.length=i/\(∀t∈ts.take i,¬ ∃x ws,X3 t x ws)/\Same H1 H') ⟨rfl,(λt ht=>nomatch ht),Same.refl _⟩ (λi acc H' _ h=>h.2.2 _ _ hp1) (λi acc H' h=>Nat.le_of_eq h.1) (λi x acc H' hi hx h=>?_) (λacc H2 h q hq=>?_)
   ·obtain⟨al,hg,s1⟩:=h
    rw[Zzv] at hx
    cases er:ts[i]? with
    |none=>rw[er] at hx;cases hx
    |some t =>
    rw[er] at hx
    have hx:V.str t=x:=Zyk hx
    subst hx
    walk_at "rd"
    refine⟨t,rfl,?_⟩
    rcases(lb.each t (Zyv er)).2 with ⟨r,ok,et⟩ | ⟨x,ws,b⟩
    ·refine .inl ⟨r,ok,et,λp3 H3 _ _ s3=>⟨by rw[Zzh,al];rfl,λy hy=>?_,s1.trans s3⟩⟩
     rw[Zxw,er] at hy
     rcases Zyq.mp hy with z | z
     ·exact hg y z
     ·rw[Zzk.mp z,et]
      exact λ⟨x,ws,b⟩=>aj ok b
    ·exact .inr ⟨x,ws,b,λH3 s3=>ke H3 ((u1.trans s1).trans s3)⟩
   ·obtain⟨al,hg,s1⟩:=h
    rw[Zzz,Zxo] at hg
    obtain⟨t,ht,b⟩:=lb.bad
    exact absurd b (hg t ht)
  have htl:=Xd hok
  have h5:∀r∈rs,r.2.2.length<=5:=λr hr=>by
   have:=(Ff (hok r hr)).2.2
   have e:(r3 r).2.length=r.2.2.length+1:=rfl
   omega
  walk_at "rd"
  refine⟨_,rfl,?_⟩
  rw[if_neg (by decide)]
  refine⟨rfl,10,by decide +kernel,by omega,λp hp=>.inl ⟨_,A1,?_⟩⟩
  rw[Tz ne hok]
  have u1:=A0 (o:=.lst ((rs.map λr=>Fw (r3 r)).map V.str)) hp
  have hp1:upd H p (.lst ((rs.map λr=>Fw (r3 r)).map V.str)) p=some (.lst ((rs.map λr=>Fw (r3 r)).map V.str)):=A1
  generalize upd H p (.lst ((rs.map λr=>Fw (r3 r)).map V.str))=H1 at u1 hp1
  refine Ml (Ln p _) (Bi (by simp only[Zzz];omega)) (λi acc H'=>RDs H' ((rs.take i).map r3D) acc/\Same H1 H') ⟨RDs.nil,Same.refl _⟩ (λi acc H' _ h=>h.2 _ _ hp1) (λi acc H' h=>?_) (λi x acc H' hi hx h=>?_) (λacc H2 h q hq=>?_)
  ·have:=Dy h.1
   rw[Zyg] at this
   omega
  ·obtain⟨racc,s1⟩:=h
   rw[Zzv,Zzv] at hx
   cases er:rs[i]? with
   |none=>rw[er] at hx;cases hx
   |some r =>
   rw[er] at hx
   have hx:V.str (Fw (r3 r))=x:=Zyk hx
   subst hx
   walk_at "rd"
   refine⟨_,rfl,.inl ⟨r3 r,hok r (Zyv er),rfl,λp3 H3 hp3 hp3' s3=>⟨?_,s1.trans s3⟩⟩⟩
   rw[Zxw,er,Zyo]
   refine RDs.app (RDs.same s3 _ _ racc) (RDs.one ?_)
   show RD H3 (.list (.str r.1::.str r.2.1::r.2.2.map Le)) (.ref p3)
   rw[RD]
   exact⟨p3,_,rfl,hp3',RDs.cons RD.str_mk (RDs.cons RD.str_mk (L0 _))⟩
  ·obtain⟨racc,s1⟩:=h
   simp only[Zzz,Zxo] at racc
   have u2:=A0 (o:=.lst acc) hq
   have hq2:upd H2 q (.lst acc) q=some (.lst acc):=A1
   have s2:=(u1.trans s1).trans u2
   have racc:=RDs.same u2 _ _ racc
   generalize upd H2 q (.lst acc)=H3 at hq2 s2 racc
   have rrd:RD H3 (.list (rs.map r3D)) (.ref q):=by rw[RD];exact⟨q,acc,rfl,hq2,racc⟩
   refine⟨q,rs,rfl,rrd,by omega,h5,λt H4 rt s4=>?_⟩
   have rep4:=R8 _ _ fit rt
   refine⟨.ref t,toD (wrD rs),rfl,rep4,λH5 s5=>⟨_,rfl,?_⟩⟩
   have s05:=s4.trans s5
   cases hsh:Jy (toD (wrD rs)) with
   |false =>
    rw[if_pos (by decide)]
    refine⟨by decide,ke ?_ _ (s2.trans s05)⟩
    unfold Fd
    rw[hsh,Zyt]
   |true =>
   rw[if_neg (by decide)]
   obtain⟨q',vs5,eq5,hq5,rv5⟩:=O0 (RD.same s05 _ _ rrd)
   cases eq5
   have hv5:=Dy rv5
   refine⟨q,rfl,vs5,hq5,?_⟩
   have sh:=hsh
   unfold wrD at sh
   rw[toD,K3,K3,K3,toD,toD] at sh
   obtain⟨aw,lw⟩:=U0 sh
   refine Df (Ln q _) (Bi (by omega)) (λH' s'=>s' _ _ hq5) ((rs.map λr=>decide (r.2.1∈(rs.filter (isS "ware")).map (·.2.1))).map V.bl) (by rw[Zzz,Zzz];omega) (λi x H' hi hx s' N M hN=>?_) (λH' s' p6 hp6=>?_)
   ·obtain⟨r,er,rr⟩:=J0 rv5 hx
    obtain⟨ra,rfl,hra⟩:=Vc rr
    walk_at "rd"
    have rep6:=R8 _ _ fit (RD.same (s5.trans s') _ _ rt)
    unfold wrD at rep6
    rw[toD,K3,K3,K3,toD,toD] at rep6
    refine⟨_,Ce (j:=1) (s' _ _ hra) rfl,.ref t,_,_,rfl,rep6,aw,lw,λp7 H7 hp7 hp7' s7=>⟨decide (r.2.1∈(rs.filter (isS "ware")).map (·.2.1)),.inl ⟨p7,_,rfl,.inl hp7',rfl,Nf _,?_⟩,hN _ _ (s'.trans s7) ?_⟩⟩
    ·rw[Ow,Kg,Zy6]
     have e:(nameOf∘λx=>toD (Do rs x))=λr:R3=>r.2.1:=funext λr=>bh rs r
     rw[e]
    ·rw[Zzv,Zzv,er]
     rfl
   ·refine⟨p6,rfl,_,A1,?_⟩
    have u6:=A0 (o:=.lst ((rs.map λr=>decide (r.2.1∈(rs.filter (isS "ware")).map (·.2.1))).map V.bl)) hp6
    have ea:Fd rs=(rs.map λr=>decide (r.2.1∈(rs.filter (isS "ware")).map (·.2.1))).all id:=by
     unfold Fd
     rw[hsh,Zyl,Zxg]
     rfl
    cases hall:(rs.map λr=>decide (r.2.1∈(rs.filter (isS "ware")).map (·.2.1))).all id with
    |true =>
     rw[if_neg (by decide)]
     exact k (ea.trans hall) t _ (RD.same (s5.trans (s'.trans u6)) _ _ rt) (s2.trans (s05.trans (s'.trans u6)))
    |false =>
     rw[if_pos (by decide)]
     exact⟨by decide,ke (ea.trans hall) _ (s2.trans (s05.trans (s'.trans u6)))⟩
end
set_option maxHeartbeats 4000000
section
variable {P:Program}{w:World}{K:Zzx}{mg:Str->Option Value}{base:Heap}
theorem Fh{H H':Hp}{st:Addr}(s:But st H H')(h:StOk H st):KeepU H H':=λa xs e=>s a _ (h.neT e) e
theorem Ou{H:Hp}{l:Addr}{xs ys:List V}(h:H l=some (.lst xs)):KeepU H (upd H l (.lst ys)):=Uo h (λ_ z=>by cases z)
def sp_law_next:Sp:=λvs H Q _=>∃st m,vs=[.ref st,.int m]/\StOk H st/\0<m/\m<10^200/\∀d H',0<=d->d<m->StOk H' st->But st H H'->Q (.int d) H'
theorem sc_law_next:Bv ["_law_state", "_law_many", "_law_digit"] ["_law_state", "_law_many"] (A6 Ji):=⟨rfl,rfl,rfl,by decide +kernel,rfl,by decide +kernel,by decide +kernel⟩
theorem T9{f:Addr}{fd:FuncData}(F:Fun K "_law_next" "_law_next" Ji f fd)(T:Txt mg){c:Cl}(C:Exc K mg c):Dp P w K mg base CX0 1 f fd ["_law_state", "_law_many"] sp_law_next:=by
 refine F.ok sc_law_next (λvs H Q E h=>?_) (λcdv A outer s H vs Q E hr h=>?_)
 ·obtain⟨st,m,rfl,_⟩:=h
  rfl
 ·obtain⟨st,m,rfl,⟨ns,hne,hs⟩,h0,hm,k⟩:=h
  have hu:=Di hr
  refine⟨_,(A5 (D9 (C4 Sx (Bn G5 rfl T.Zu5 J9 (A3 (pv 0) A2)) A4 (Cg _)) (A5 (Bs (i:=2) sc_law_next.nd rfl (Zz0 rfl) (Bk Fa (Ag hu (pv 0) A4 (λ_ _=>rfl)) (pv 1)))
 (A5 (Ls (Bk Oj (Ag hu (pv 0) A4 (λ_ _=>rfl)) (pv 1)) (Lv (pv 0) A4 Js))
 (A5 (D9 (C4 (Oi hu) (Ag hu (pv 0) A4 (λ_ _=>rfl)) (J4 (A3 A4 (A3 (Ve Qo A4) A2))) rfl) (A9 (E1 (Da Zym PySem.F.slot_list_pop PySem.F.type_list_pop Y1 (pv 0) (A3 A4 A2)))) Ca)
 (A9 (Bm (pv 2)))))) Ca)
 (A5 (Ls (Bk Fa (Bk Fr (Bk Ub (Ag hu (pv 0) A4 (λ_ _=>rfl)) A4) A4) (Bk U9 (Bk Rc A4 A4) A4)) (Lv (pv 0) A4 Js))
 (A9 (Bm (Bk Fa (Bk Oj (Ag hu (pv 0) A4 (λ_ _=>rfl)) A4) (pv 1)))))),?_⟩
  walk_at "rd"
  cases ns with
  |nil=>exact absurd rfl hne
  |cons n0 rest =>
  have hit:∀(H':Hp) (n:Int) (r:List Int),H' st=some (.lst (V.int n::r.map V.int))->Ni H' (.ref st) (.int 0) (.int n):=λH' n r e=>Ce (j:=0) e rfl
  have h0i:=hit H n0 rest hs
  refine⟨_,.inl hs,?_⟩
  refine Fj (λhl=>?_) (λhl=>?_)
  ·refine⟨_,h0i,_,rfl,h0,_,h0i,_,rfl,h0,hm,_,hs,0,by simp[ixN],?_⟩
   have e1:upd H st (.lst ((Zvo V.int (n0::rest)).set 0 (V.int (n0 / m)))) st=some (.lst (V.int (n0 / m)::rest.map V.int)):=by rw[A1];rfl
   refine⟨_,hit _ _ _ e1,by decide,λp hp=>?_⟩
   have npst:st≠p:=Bj e1 hp
   refine⟨_,.inl ⟨p,_,rfl,.inr A1,rfl,rfl,rfl⟩,?_⟩
   have d0:0<=n0 % m:=Zx4 _ (by omega)
   have d1:n0 % m<m:=Zx5 _ h0
   have e2:∀o,upd (upd H st (.lst ((Zvo V.int (n0::rest)).set 0 (V.int (n0 / m))))) p o st=some (.lst (V.int (n0 / m)::rest.map V.int)):=λo=>by rw[Bd npst];exact e1
   have hrest:rest≠[]:=λe=>by
    have hl:=of_decide_eq_true hl
    rw[e] at hl
    simp at hl
   have bt:But st H (upd (upd H st (.lst ((Zvo V.int (n0::rest)).set 0 (V.int (n0 / m))))) p (.tup [V.int 0,V.int (-1)])):=but_set.trans (N5 hp)
   refine Fj (λhb=>?_) (λhb=>?_)
   ·refine⟨by unfold Km;simp only[e2],_,e2 _,by decide,by decide,0,by simp[seqIndex?],_,rfl,?_⟩
    exact k _ _ d0 d1 ⟨rest,hrest,by rw[A1];rfl⟩ (bt.trans but_set)
   ·exact k _ _ d0 d1 ⟨(n0 / m)::rest,by simp,e2 _⟩ bt
  ·have e1:∀z:Int,upd H st (.lst ((Zvo V.int (n0::rest)).set 0 (V.int z))) st=some (.lst (V.int z::rest.map V.int)):=λz=>by rw[A1];rfl
   refine⟨_,h0i,_,rfl,.inr ⟨by decide,by decide⟩,⟨by decide,by decide,by decide⟩,by decide,_,hs,0,by simp[ixN],_,hit _ _ _ (e1 _),_,rfl,by decide,by decide +kernel,h0,?_⟩
   exact k _ _ (Zx4 _ (by omega)) (Zx5 _ h0) ⟨_::rest,by simp,e1 _⟩ but_set
def La(K:Zzx):Sp:=λvs H Q _=>∃(a:Addr) (ns:List Int),vs=[.ref a]/\SqL K H a (ns.map V.int)/\ns.length<=63/\∀st H',H st=none->StOk H' st->Same H H'->Q (.ref st) H'
theorem Qg(ns:List Int)(lo hi:Option Int):∃ms:List Int,Hz (ns.map V.int) lo hi=ms.map V.int:=by
 unfold Hz
 exact⟨_,by rw[<- Zvq,<- Zwk]⟩
theorem sc_law_drawn:Bv ["_law_script", "_law_seed", "_law_cell"] ["_law_script"] (A6 Io):=⟨rfl,rfl,rfl,by decide +kernel,rfl,by decide +kernel,by decide +kernel⟩
theorem Rl{f:Addr}{fd:FuncData}(F:Fun K "_law_drawn" "_law_drawn" Io f fd)(T:Txt mg):Dp P w K mg base CX0 1 f fd ["_law_script"] (La K):=by
 refine F.ok sc_law_drawn (λvs H Q E h=>?_) (λcdv A outer s H vs Q E hr h=>?_)
 ·obtain⟨a,ns,rfl,_⟩:=h
  rfl
 ·obtain⟨a,ns,rfl,hS,hlen,k⟩:=h
  have hu:=Di hr
  refine⟨_,(A5 (Bs (i:=1) sc_law_drawn.nd rfl (Zz0 rfl) A4)
 (A5 (Jw PassesOwn.never rfl (Zb (pv 0)) (Bq (i:=2) sc_law_drawn.nd rfl (Zz0 rfl))
 (A9 (Bs (i:=1) sc_law_drawn.nd rfl (Zz0 rfl) (Bk Fa (Bk Fr (Bk Fr (Bk Ub (pv 1) A4) (Bk Fa (pv 2) (Bk Rc A4 A4))) A4) (Bk U9 (Bk Rc A4 A4) A4)))))
 (A5 (D9 (PW.pt (Xg (C4 Sx (Bn Lh rfl T.Zu5 J9 (A3 (pv 0) A2)) A4 (Cg _)) (Vd (C4 (E2 hu) (Bk Fa (Xj Rv (pv 0) A4 (λ_ _=>rfl)) A4) A4 (Cg _))))) (A9 (Bm (Bk Fz (Bk Fz (Bt (A3 (Bk Oj (Xj Rv (pv 0) A4 (λ_ _=>rfl)) A4) A2)) (De Qt (pv 0) (Dd A4) (Dd A4))) (Bt (A3 (pv 1) A2))))) Ca)
 (A9 (Bm (Bt (A3 (pv 1) A2))))))),?_⟩
  walk_at "rd"
  simp only[bn]
  walk_at "rd"
  refine⟨⟨_,hS⟩,Ye (K:=K) (a:=a) (xs:=ns.map V.int) (λi Z H'=>H'=H/\∃(z:Int) (c:Option V),Z=[some (.ref a),some (.int z),c]) ⟨rfl,_,_,rfl⟩ (λi Z H' _ p=>by rw[p.1];exact hS) ?_ ?_⟩
  ·rintro i y Z H' hy ⟨rfl,z,c,rfl⟩
   obtain⟨u,rfl⟩:∃u,y=V.int u:=by
    rw[Zzv] at hy
    cases e:ns[i]? with
    |none=>rw[e] at hy;cases hy
    |some u=>rw[e] at hy;exact⟨u,(Zyk hy).symm⟩
   walk_at "rd"
   refine⟨.inr ⟨by decide,by decide⟩,⟨by decide,by decide,by decide⟩,by decide,⟨by decide,by decide,by decide⟩,by decide,_,rfl⟩
  ·rintro Z H' ⟨rfl,z,c,rfl⟩
   walk_at "rd"
   simp only[fc,ck]
   walk_at "rd"
   refine⟨_,.inl hS,Fj (λh0=>?_) (λh0=>?_)⟩
   ·have hne:ns≠[]:=λe=>by
     rw[e] at h0
     simp at h0
    obtain⟨n0,r,rfl⟩:∃n0 r,ns=n0::r:=by
     cases ns with
     |nil=>exact absurd rfl hne
     |cons a b=>exact⟨a,b,rfl⟩
    refine⟨_,hS,_,Ma (j:=0) rfl,_,rfl,by decide,rfl,Fj (λh1=>?_) (λh1=>?_)⟩
    ·refine⟨_,hS,_,Ma (j:=0) rfl,_,rfl,by decide,by decide +kernel,by decide,λp hp=>?_⟩
     obtain⟨ms,ems⟩:=Qg (n0::r) (some 1) (some 63)
     have hml:ms.length<=63:=by
      have h1:=Kr (Zvo V.int (n0::r)) (some 1) (some 63)
      rw[ems,Zzz,Zzz] at h1
      omega
     refine⟨_,(A0 hp).seq hS,λp1 hp1=>?_⟩
     rw[ems]
     have e1:=A0 (o:=.lst (ms.map V.int)) hp1 p _ A1
     refine⟨_,e1,_,A1,Zyu (by rw[Zzz];simp;omega:_<=1000) (Bi (Zzt _)),λp2 hp2=>⟨by decide,λp3 hp3=>?_⟩⟩
     refine⟨_,A0 hp3 p2 _ A1,_,A1,Zyu (by simp;omega:_<=1000) (Bi (Zzt _)),λp4 hp4=>?_⟩
     refine k p4 _ (Same.free ((((A0 hp).trans (A0 hp1)).trans (A0 hp2)).trans (A0 hp3)) hp4) ⟨n0 / 2::(ms++[z]),by simp,?_⟩ ((((A0 hp).trans (A0 hp1)).trans (A0 hp2)).trans ((A0 hp3).trans (A0 hp4)))
     rw[A1]
     simp
    ·exact⟨by decide,λp hp=>k p _ hp ⟨[z],by simp,A1⟩ (A0 hp)⟩
   ·exact⟨by decide,λp hp=>k p _ hp ⟨[z],by simp,A1⟩ (A0 hp)⟩
end
set_option maxHeartbeats 4000000
section
variable {P:Program}{w:World}{K:Zzx}{mg:Str->Option Value}{base:Heap}
def sp_law_amount:Sp:=λvs H Q _=>∃st,vs=[.ref st]/\StOk H st/\∀n H',0<=n->n<10^41->StOk H' st->But st H H'->Q (.int n) H'
theorem sc_law_amount:Bv ["_law_state", "_law_number"] ["_law_state"] (A6 Gk):=⟨rfl,rfl,rfl,by decide +kernel,rfl,by decide +kernel,by decide +kernel⟩
theorem Pf{f:Addr}{fd:FuncData}(F:Fun K "_law_amount" "_law_amount" Gk f fd)(T:Txt mg){c:Cl}(C:Exc K mg c)(Zva:Has P w K mg base "_law_next" 1 ["_law_state", "_law_many"] sp_law_next):Dp P w K mg base CX0 2 f fd ["_law_state"] sp_law_amount:=by
 refine F.ok sc_law_amount (λvs H Q E h=>?_) (λcdv A outer s H vs Q E hr h=>?_)
 ·obtain⟨st,rfl,_⟩:=h
  rfl
 ·obtain⟨st,rfl,hs,k⟩:=h
  have hu:=Di hr
  refine⟨_,(A5 (Bs (i:=1) sc_law_amount.nd rfl (Zz0 rfl) (A8 Zva (hr.mono (by decide)) rfl (A3 (pv 0) (A3 A4 A2))))
 (A5 (D9 (C4 (E2 hu) (A8 Zva (hr.mono (by decide)) rfl (A3 (pv 0) (A3 A4 A2))) A4 (Cg _)) (A9 (Bm (Bk Fr (Bk Ub (pv 1) (Bk Rc A4 A4)) (A8 Zva (hr.mono (by decide)) rfl (A3 (pv 0) (A3 A4 A2)))))) Ca)
 (A9 (Bm (pv 1))))),?_⟩
  walk_at "rd"
  refine⟨st,10,rfl,hs,by decide,by decide +kernel,λd H1 d0 d1 s1 b1=>?_⟩
  walk_at "rd"
  refine⟨st,8,rfl,s1,by decide,by decide +kernel,λe H2 e0 e1 s2 b2=>?_⟩
  walk_at "rd"
  have b02:=b1.trans b2
  refine⟨rfl,Fj (λ_=>?_) (λ_=>k d H2 d0 (Int.lt_trans d1 (by decide +kernel)) s2 b02)⟩
  refine⟨⟨by decide,by decide,by decide⟩,.inl ⟨by omega,by omega⟩,?_⟩
  refine⟨st,10,rfl,s2,by decide,by decide +kernel,λx H3 x0 x1 s3 b3=>⟨x,rfl,?_⟩⟩
  have q:(0:Int)<=d*10^Int.toNat 20+x/\d*10^Int.toNat 20+x<10^41:=by
   have:(10:Int)^Int.toNat 20=100000000000000000000:=by decide +kernel
   rw[this]
   omega
  exact k _ H3 q.1 q.2 s3 (b02.trans b3)
def lets(x:Str):Prop:=∀c∈x.cps.toList,c∈letters
theorem lt26{d:Int}(h0:0<=d)(h1:d<26):∃c,("abcdefghijklmnopqrstuvwxyz" : Str).cps.toList[d.toNat]?=some c/\c∈letters:=by
 have hl:("abcdefghijklmnopqrstuvwxyz" : Str).cps.toList.length=26:=by decide +kernel
 have h:d.toNat<("abcdefghijklmnopqrstuvwxyz" : Str).cps.toList.length:=by rw[hl];omega
 exact⟨_,Zya h,List.getElem_mem h⟩
def lastC:List Nat:=("bcdfghjklmnp" : Str).cps.toList
theorem Tj:∀k:Nat,k<12->∃c,lastC[k]?=some c/\c∈letters:=by decide +kernel
theorem Y6:lastC.Nodup:=by decide +kernel
def Os(i:Nat)(x:Str):Prop:=(lets x/\x.length<=8)/\x.cps.toList.getLast?=lastC[i]?
theorem Te{xs:List Str}(hl:xs.length<=12)(h:∀(i:Nat) (x:Str),xs[i]?=some x->Os i x):xs.Nodup:=by
 refine Zw6.mpr λi j hi hj hij e=>?_
 have h1:=(h i _ (Zya hi)).2
 have h2:=(h j _ (Zya hj)).2
 rw[e,h2] at h1
 have l12:lastC.length=12:=by decide +kernel
 have e1:=Zya (l:=lastC) (i:=i) (by omega)
 have e2:=Zya (l:=lastC) (i:=j) (by omega)
 rw[e1,e2] at h1
 have:=Zw6.mp Y6 i j (by omega) (by omega) hij
 exact this (Zyk h1).symm
def sp_law_names:Sp:=λvs H Q _=>∃st m,vs=[.ref st,.int m]/\StOk H st/\0<=m/\m<=12 /\
 ∀(a:Addr) (xs:List Str) (H':Hp),xs.length=m.toNat->(∀(i:Nat) (x:Str),xs[i]?=some x->Os i x)->H' a=some (.lst (xs.map V.str))->H a=none->StOk H' st->But st H H'->Q (.ref a) H'
def gr(st:Addr)(H:Hp)(i:Nat)(acc:List V)(H':Hp):Prop:=∃xs:List Str,acc=xs.map V.str/\xs.length=i/\(∀(j:Nat) (x:Str),xs[j]?=some x->Os j x)/\StOk H' st/\But st H H'
theorem sc_law_names:Bv ["_law_state", "_law_many", "_law_letters"] ["_law_state", "_law_many"] (A6 Il):=⟨rfl,rfl,rfl,by decide +kernel,rfl,by decide +kernel,by decide +kernel⟩
theorem Rj{f:Addr}{fd:FuncData}(F:Fun K "_law_names" "_law_names" Il f fd)(T:Txt mg){c:Cl}(C:Exc K mg c)(Zva:Has P w K mg base "_law_next" 1 ["_law_state", "_law_many"] sp_law_next):Dp P w K mg base CX0 2 f fd ["_law_state", "_law_many"] sp_law_names:=by
 refine F.ok sc_law_names (λvs H Q E h=>?_) (λcdv A outer s H vs Q E hr h=>?_)
 ·obtain⟨st,m,rfl,_⟩:=h
  rfl
 ·obtain⟨st,m,rfl,hs,m0,m1,k⟩:=h
  have hu:=Di hr
  refine⟨_,(A5 (Bs (i:=2) sc_law_names.nd rfl (Or.inr rfl) Ad)
 (A9 (Bm (D8 (own:=["_law_k"]) (cap:=[2,0]) rfl (Fu rfl) (C3 (by decide)) (Jl rfl T.Zth (A3 (pv 1) A2))
 (λ_ _ _ _ _ _=>⟨(Bq (i:=0) (of_decide_eq_true rfl) rfl (Zz0 rfl) (.inr rfl)),D7,(Bk Mi (Bk Zi (Ag hu (pv 1) (A8 Zva (hr.mono (by decide)) rfl (A3 (pv 2) (A3 A4 A2))) (λ_ _=>rfl)) (A8 Zva (hr.mono (by decide)) rfl (A3 (pv 2) (A3 A4 A2)))) (Ag hu Ad (pv 0) (λ_ _=>rfl)))⟩))))),?_⟩
  walk_at "rd"
  refine⟨by omega,by omega,?_⟩
  refine Ml (Qb 0 _) (Bi (by omega)) (gr st H) ⟨[],rfl,rfl,(λj x e=>by simp at e),hs,But.refl _ _⟩ (λ_ _ _ _ _=>trivial) (λj acc H' h=>by obtain⟨xs,rfl,e,_⟩:=h;rw[Zzz];exact Nat.le_of_eq e) (λj y acc H1 hj hy h=>?_) (λacc H1 h p hp=>?_)
  ·obtain⟨xs,rfl,hl,hn,s1,b1⟩:=h
   subst hy
   walk_at "rd"
   refine⟨st,26,rfl,s1,by decide,by decide +kernel,λd H2 d0 d1 s2 b2=>?_⟩
   obtain⟨cc,ec,hcc⟩:=lt26 d0 d1
   refine⟨_,Uq (by decide +kernel) d0 ec,st,8,rfl,s2,by decide,by decide +kernel,λe H3 e0 e1 s3 b3=>?_⟩
   refine⟨⟨#[cc]⟩,rfl,e,rfl,by show 1<=1000;decide,e0,by omega,λz hz hzc=>?_⟩
   have hz:z.length<=1*e.toNat:=hz
   obtain⟨lc,el,hlc⟩:=Tj j (by omega)
   have ij:(0+(j:Int)).toNat=j:=by omega
   refine⟨_,Uq (by decide +kernel) (by omega) (by rw[ij];exact el),_,rfl,Zyu (m:=1000) (by show z.length+1<=1000;omega) (Bi (Zzt _)),xs++[z++⟨#[lc]⟩],by rw[Zyo];rfl,by rw[Zzh,Zxi,hl],λq y hq=>?_,s3,(b1.trans b2).trans b3⟩
   by_cases hqj:q<xs.length
   ·rw[Zwv hqj] at hq
    exact hn q y hq
   ·rw[Zxa (by omega)] at hq
    have hq0:q - xs.length=0:=by
     cases e:q - xs.length with
     |zero=>rfl
     |succ n=>rw[e] at hq;simp at hq
    rw[hq0] at hq
    have hq:z++⟨#[lc]⟩=y:=by simpa using hq
    have hqe:q=j:=by omega
    subst hq hqe
    have ecp:(z++(⟨#[lc]⟩:Str)).cps.toList=z.cps.toList++[lc]:=by
     show (z.cps++#[lc]).toList=_
     simp
    refine⟨⟨λc hc=>?_,?_⟩,?_⟩
    ·rw[ecp] at hc
     rcases Zyq.mp hc with y | y
     ·have:=hzc c y
      have:c∈[cc]:=this
      rw[Zzk.mp this]
      exact hcc
     ·rw[Zzk.mp y]
      exact hlc
    ·have:(z++(⟨#[lc]⟩:Str)).length=z.length+1:=by show (z.cps++#[lc]).size=z.cps.size+1;simp
     omega
    ·rw[ecp,List.getLast?_append,el]
     rfl
  ·obtain⟨xs,rfl,hl,hn,s1,b1⟩:=h
   have pst:p≠st:=Zyj (s1.ne hp)
   exact k p xs _ hl hn A1 (b1.none pst hp) (s1.upd (s1.ne hp)) (b1.new hp)
end
set_option maxHeartbeats 4000000
section
variable {P:Program}{w:World}{K:Zzx}{mg:Str->Option Value}{base:Heap}
structure au(xs:List Str)(ps:List (Str×Int)):Prop where
 sub:∀p∈ps,p.1∈xs/\1<=p.2/\p.2<=4
 nd:(ps.map (·.1)).Nodup
theorem Od{H:Hp}:∀{ds:List PyData} {xs:List V} (n:Nat),RDs H ds xs->RDs H (ds.take n) (xs.take n)
 |_,_,0,_=>by rw[List.take_zero,List.take_zero];exact RDs.nil
 |[],xs,n+1,h=>by rw[RDs.nil_of h];exact RDs.nil
 |d::ds,xs,n+1,h=>by
  obtain⟨x,r,rfl,h1,h2⟩:=RDs.cons_of h
  rw[List.take_succ_cons,List.take_succ_cons]
  exact RDs.cons h1 (Od n h2)
theorem Vb{H:Hp}:∀{ds:List PyData} {xs:List V},RDs H ds xs->RDs H ds.reverse xs.reverse
 |[],xs,h=>by rw[RDs.nil_of h];exact RDs.nil
 |d::ds,xs,h=>by
  obtain⟨x,r,rfl,h1,h2⟩:=RDs.cons_of h
  rw[Zw0,Zw0]
  exact RDs.app (Vb h2) (RDs.one h1)
def sp_law_parts:Sp:=λvs H Q _=>∃(st l:Addr) (xs:List Str),vs=[.ref st,.ref l]/\StOk H st/\H l=some (.lst (xs.map V.str))/\l≠st/\xs.length<=12/\xs.Nodup/\∀v (ps:List (Str×Int)) H',RD H' (.tuple (ps.map Fq)) v->ps.length<=6->au xs ps->StOk H' st->But st H H'->Q v H'
def Yt(st l q:Addr)(xs:List Str)(H:Hp)(i:Nat)(Z:St)(H':Hp):Prop:=∃(ps:List (Str×Int)) (vs:List V) (o:Option V),Z=[some (.ref st),some (.ref l),some (.ref q),o]/\H' q=some (.lst vs)/\RDs H' (ps.map Fq) vs/\(ps.map (·.1)).Sublist (xs.take i)/\(∀p∈ps,1<=p.2/\p.2<=4)/\H' l=some (.lst (xs.map V.str))/\StOk H' st/\But st H H'
theorem sc_law_parts:Bv ["_law_state", "_law_names_here", "_law_parts_here", "_law_name"] ["_law_state", "_law_names_here"] (A6 Ik):=⟨rfl,rfl,rfl,by decide +kernel,rfl,by decide +kernel,by decide +kernel⟩
theorem Ri{f:Addr}{fd:FuncData}(F:Fun K "_law_parts" "_law_parts" Ik f fd)(T:Txt mg){c:Cl}(C:Exc K mg c)(Zva:Has P w K mg base "_law_next" 1 ["_law_state", "_law_many"] sp_law_next):Dp P w K mg base CX0 2 f fd ["_law_state", "_law_names_here"] sp_law_parts:=by
 refine F.ok sc_law_parts (λvs H Q E h=>?_) (λcdv A outer s H vs Q E hr h=>?_)
 ·obtain⟨st,l,xs,rfl,_⟩:=h
  rfl
 ·obtain⟨st,l,xs,rfl,hs,hl,lst',hx,nd,k⟩:=h
  have hu:=Di hr
  refine⟨_,(A5 (Bs (i:=2) sc_law_parts.nd rfl (Zz0 rfl) (Bt A2))
 (A5 (Jw PassesOwn.never rfl (Kv (pv 1)) (Bq (i:=3) sc_law_parts.nd rfl (Zz0 rfl))
 (A9 (D9 (C4 (E2 hu) (A8 Zva (hr.mono (by decide)) rfl (A3 (pv 0) (A3 A4 A2))) A4 (Cg _)) (A9 (E1 (Da Zym Zy5 Zy4 Fc (pv 2) (A3 (J4 (A3 (pv 3) (A3 (Bk Fr A4 (A8 Zva (hr.mono (by decide)) rfl (A3 (pv 0) (A3 A4 A2)))) A2))) A2)))) Ca)))
 (A5 (D9 (C4 (E2 hu) (A8 Zva (hr.mono (by decide)) rfl (A3 (pv 0) (A3 A4 A2))) A4 (Cg _)) (A9 (E1 (Xo Zym PySem.F.slot_list_reverse PySem.F.type_list_reverse Uj (pv 2)))) Ca)
 (A9 (Bm (Bw Cr rfl T.Zuy Ey (A3 (De Fx (pv 2) Fy (Dd A4)) A2))))))),?_⟩
  walk_at "rd"
  refine⟨by decide,λq hq=>⟨_,by rw[Bd (Bj hl hq)];exact hl,?_⟩⟩
  have qst:q≠st:=Zyj (hs.ne hq)
  have lq:l≠q:=Bj hl hq
  refine N2 (Ln l _) (Yt st l q xs H) ⟨[],[],_,rfl,A1,RDs.nil,List.nil_sublist _,(λp hp=>nomatch hp),by rw[Bd lq];exact hl,hs.upd (Zyj qst),N5 hq⟩ (λi Z H' _ h=>by obtain⟨_,_,_,_,_,_,_,_,h,_⟩:=h;exact h) (λi x Z H1 hi hx h=>?_) (λZ H1 h=>?_)
  ·obtain⟨ps,vs,o,rfl,hq1,r1,sb,am,hl1,s1,b1⟩:=h
   rw[Zzz] at hi
   rw[Zzv] at hx
   cases en:xs[i]? with
   |none=>rw[en] at hx;cases hx
   |some nm =>
   rw[en] at hx
   have hx:V.str nm=x:=Zyk hx
   subst hx
   have et:xs.take (i+1)=xs.take i++[nm]:=by rw[Zxw,en];rfl
   have no:∀{H2:Hp},StOk H2 st->But st H1 H2->Yt st l q xs H (i+1) [some (.ref st),some (.ref l),some (.ref q),some (.str nm)] H2:=λ{H2} s2 b2=>⟨ps,vs,_,rfl,b2 _ _ qst hq1,RDs.ku (Fh b2 s1) _ _ (D4 Fq Kp _) r1,by rw[et];exact sb.trans (List.sublist_append_left _ _),am,b2 _ _ lst' hl1,s2,b1.trans b2⟩
   walk_at "rd"
   refine⟨st,2,rfl,s1,by decide,by decide +kernel,λd H2 d0 d1 s2 b2=>?_⟩
   walk_at "rd"
   refine⟨rfl,Fj (λ_=>?_) (λ_=>no s2 b2)⟩
   have hq2:=b2 _ _ qst hq1
   refine⟨Fk hq2,st,4,rfl,s2,by decide,by decide +kernel,λe H3 e0 e1 s3 b3=>⟨e,rfl,by decide,λt ht=>?_⟩⟩
   have b23:=b2.trans b3
   have hq3:=b23 _ _ qst hq1
   have hlv:=Dy r1
   have hlp:=sb.length_le
   rw[Zzz,Zyg] at hlp
   have u:=A0 (o:=.tup [V.str nm,V.int (1+e)]) ht
   have hq4:=u _ _ hq3
   refine⟨vs,hq4,Zzd (show vs.length<1000 by omega) (Bi (Zzt _)),ps++[(nm,1+e)],_,_,rfl,A1,?_,?_,λp hp=>?_,?_,(s3.same u).upd (Zyj qst),?_⟩
   ·have kk:=((Fh b23 s1).trans u.ku).trans (Ou (ys:=vs++[V.ref t]) hq4)
    rw[Zyo]
    refine RDs.app (RDs.ku kk _ _ (D4 Fq Kp _) r1) (RDs.one (RD.tup_mk (xs:=[V.str nm,V.int (1+e)]) ?_ (RDs.cons RD.str_mk (RDs.one RD.int_mk))))
    rw[Bd (Zyj (Bj hq3 ht)),A1]
   ·rw[Zyo,et]
    exact sb.append (List.Sublist.refl _)
   ·rcases Zyq.mp hp with z | z
    ·exact am p z
    ·rw[Zzk.mp z]
     exact⟨show 1<=1+e by omega,show 1+e<=4 by omega⟩
   ·rw[Bd lq]
    exact u _ _ (b23 _ _ lst' hl1)
   ·exact((b1.trans b23).trans (Hj u)).upd hq
  ·obtain⟨ps,vs,o,rfl,hq1,r1,sb,am,hl1,s1,b1⟩:=h
   rw[Zzz,Zxo] at sb
   have fin:∀(ps2:List (Str×Int)) (vs2:List V) (H2:Hp),H2 q=some (.lst vs2)->RDs H2 (ps2.map Fq) vs2->au xs ps2->StOk H2 st->But st H H2->∀p,H2 p=none->∀t,upd H2 p (.lst (Hz vs2 none (some 6))) t=none->Q (.ref t) (upd (upd H2 p (.lst (Hz vs2 none (some 6)))) t (.tup (Hz vs2 none (some 6)))):=λps2 vs2 H2 hq2 r2 po s2 b2 p hp t ht=>by
    have e6:Hz vs2 none (some 6)=vs2.take 6:=by rw[N4 (by decide)];rfl
    rw[e6] at ht ⊢
    have u:=(A0 (o:=.lst (vs2.take 6)) hp).trans (A0 (o:=.tup (vs2.take 6)) ht)
    refine k (.ref t) (ps2.take 6) _ (RD.tup_mk A1 (by rw[Zwk];exact Od 6 (RDs.same u _ _ r2))) (by rw[Zyg];omega) ⟨λp hp=>po.sub p (Zxf hp),by rw[Zwk];exact(List.take_sublist _ _).nodup po.nd⟩ (s2.same u) (b2.trans (Hj u))
   have po:au xs ps:=⟨λp hp=>⟨sb.subset (Zza.mpr ⟨p,hp,rfl⟩),am p hp⟩,sb.nodup nd⟩
   have po2:au xs ps.reverse:=⟨λp hp=>po.sub p (List.mem_reverse.mp hp),by rw[List.map_reverse];exact(List.reverse_perm _).nodup_iff.mpr po.nd⟩
   walk_at "rd"
   refine⟨st,2,rfl,s1,by decide,by decide +kernel,λd H2 d0 d1 s2 b2=>?_⟩
   walk_at "rd"
   have hq2:=b2 _ _ qst hq1
   have r2:=RDs.ku (Fh b2 s1) _ _ (D4 Fq Kp _) r1
   have b02:=b1.trans b2
   refine⟨rfl,Fj (λ_=>?_) (λ_=>?_)⟩
   ·have kk:KeepU H2 (upd H2 q (.lst vs.reverse)):=Ou hq2
    refine⟨Fk hq2,vs,hq2,_,A1,λp hp=>⟨_,.inl ⟨A1,λt ht=>?_⟩⟩⟩
    exact fin ps.reverse vs.reverse _ A1 (by rw[List.map_reverse];exact Vb (RDs.ku kk _ _ (D4 Fq Kp _) r2)) po2 (s2.upd (Zyj qst)) (b02.upd hq) p hp t ht
   ·exact⟨vs,hq2,λp hp=>⟨_,.inl ⟨A1,λt ht=>fin ps vs H2 hq2 r2 po s2 b02 p hp t ht⟩⟩⟩
end
set_option maxHeartbeats 4000000
section
variable {P:Program}{w:World}{K:Zzx}{mg:Str->Option Value}{base:Heap}
def gg(w:Wr):Prop:=(0<=w.lag/\w.lag<=30)/\(1<=w.gives/\w.gives<=100)/\(0<=w.floor/\w.floor<=100)/\(0<=w.stock/\w.stock<=10^42)/\w.parts.length<=6/\(∀p∈w.parts,1<=p.2/\p.2<=4)/\(w.parts.map (·.1)).Nodup/\w.coming.length<=12/\∀c∈w.coming,(0<=c.1/\c.1<9)/\0<=c.2/\c.2<10^41
structure SD(S:Sh):Prop where
 n:1<=S.wares.length/\S.wares.length<=12
 nm:∀w∈S.wares,Br w.name=true
 nd:(S.wares.map (·.name)).Nodup
 wb:∀w∈S.wares,gg w
 own:∀w∈S.wares,∀p∈w.parts,p.1∈S.wares.map (·.name)
 un:S.wants.length<=20
 us:∀u∈S.wants,u.1∈S.wares.map (·.name)/\(0<=u.2.1/\u.2.1<9)/\0<=u.2.2/\u.2.2<10^41
 na:("a" : Str)∉S.wares.map (·.name)
theorem Zu{i:Nat}{x:Str}(hi:i<12)(h:Os i x):Br x=true:=by
 obtain⟨c,e,_⟩:=Tj i hi
 have h2:=h.2
 rw[e] at h2
 have h1:1<=x.length:=by
  have:x.cps.toList≠[]:=λz=>by rw[z] at h2;cases h2
  have:=List.length_pos_iff.mpr this
  rw[Zxd] at this
  exact this
 unfold Br
 rw[decide_eq_true h1,decide_eq_true h.1.2,Zyl,Zyl,Zz2]
 exact λc hc=>decide_eq_true (h.1.1 c hc)
def Yu(xs:List Str)(j:Nat)(w:Wr):Prop:=xs[j]?=some w.name/\gg w/\∀p∈w.parts,p.1∈xs.drop (j+1)
theorem sd52{xs:List Str}{ws ws':List Wr}{us:List Wt}(hx:∀(i:Nat) (x:Str),xs[i]?=some x->Os i x)(hl:1<=xs.length/\xs.length<=12)(hw:ws.length=xs.length)(hk:∀j w,ws[j]?=some w->Yu xs j w)(hp:ws'.Perm ws)(hu:us.length<=20/\∀u∈us,u.1∈xs/\(0<=u.2.1/\u.2.1<9)/\0<=u.2.2/\u.2.2<10^41):SD ⟨ws',us⟩:=by
 have nd:=Te hl.2 hx
 have en:ws.map (·.name)=xs:=by
  apply Zvz
  intro i
  rw[Zzv]
  by_cases hi:i<ws.length
  ·rw[Zya hi]
   exact(hk i _ (Zya hi)).1.symm
  ·rw[Zx8 (by omega),Zx8 (by omega)]
   rfl
 have hat:∀w∈ws',∃j,j<xs.length/\Yu xs j w:=λw hm=>by
  obtain⟨j,hj⟩:=List.mem_iff_getElem?.mp (hp.mem_iff.mp hm)
  have:=(Zy1.mp hj).1
  exact⟨j,by omega,hk j w hj⟩
 have pn:(ws'.map (·.name)).Perm xs:=by rw[<- en];exact hp.map _
 have hlen:ws'.length=xs.length:=by rw[hp.length_eq,hw]
 refine⟨by show 1<=ws'.length/\ws'.length<=12;omega,λw hm=>?_,pn.nodup_iff.mpr nd,λw hm=>?_,λw hm p hpm=>?_,hu.1,(λu hm=>⟨pn.mem_iff.mpr (hu.2 u hm).1,(hu.2 u hm).2⟩),λz=>?_⟩
 ·obtain⟨j,hj,k1,_⟩:=hat w hm
  exact Zu (by omega) (hx j _ k1)
 ·obtain⟨j,hj,_,k2,_⟩:=hat w hm
  exact k2
 ·obtain⟨j,hj,_,_,k3⟩:=hat w hm
  exact pn.mem_iff.mpr (Zvh (k3 p hpm))
 ·obtain⟨i,hi⟩:=List.mem_iff_getElem?.mp (pn.mem_iff.mp z)
  have h2:=(hx i _ hi).2
  rw[show ("a" : Str).cps.toList.getLast?=some 97 by decide +kernel] at h2
  exact absurd (Zyv h2.symm) (by decide +kernel)
structure Cx31(st l p:Addr)(xs:List Str)(ws:List Wr)(vs:List V)(H0 H:Hp):Prop where
 hp:H p=some (.lst vs)
 rd:RDs H (ws.map Wr.d) vs
 hl:H l=some (.lst (xs.map V.str))
 s:StOk H st
 b:But st H0 H
 pst:p≠st
 lst:l≠st
theorem Cx31.draw{st l p:Addr}{xs:List Str}{ws:List Wr}{vs:List V}{H0 H H':Hp}(h:Cx31 st l p xs ws vs H0 H)(s:StOk H' st)(b:But st H H'):Cx31 st l p xs ws vs H0 H' :=
 ⟨b _ _ h.pst h.hp,RDs.ku (Fh b h.s) _ _ (D4 Wr.d Ko _) h.rd,b _ _ h.lst h.hl,s,h.b.trans b,h.pst,h.lst⟩
theorem Cx31.same{st l p:Addr}{xs:List Str}{ws:List Wr}{vs:List V}{H0 H H':Hp}(h:Cx31 st l p xs ws vs H0 H)(s:Same H H'):Cx31 st l p xs ws vs H0 H' :=
 ⟨s _ _ h.hp,RDs.same s _ _ h.rd,s _ _ h.hl,h.s.same s,h.b.trans (Hj s),h.pst,h.lst⟩
theorem bg{H:Hp}{q:Addr}{a b c:Int}{d lo hi:Int}(h:H q=some (.lst [.int a,.int b,.int c]))(d0:0<=d)(d1:d<3)(ha:lo<=a/\a<=hi)(hb:lo<=b/\b<=hi)(hc:lo<=c/\c<=hi):∃n,lo<=n/\n<=hi/\Ni H (.ref q) (.int d) (.int n):=by
 have:d=0\/d=1\/d=2:=by omega
 rcases this with rfl | rfl | rfl
 ·exact⟨a,ha.1,ha.2,Ce (j:=0) h rfl⟩
 ·exact⟨b,hb.1,hb.2,Ce (j:=1) h rfl⟩
 ·exact⟨c,hc.1,hc.2,Ce (j:=2) h rfl⟩
theorem Q3{H:Hp}:∀{ps:List (Wr×V)},(∀q∈ps,RD H q.1.d q.2)->RDs H ((ps.map (·.1)).map Wr.d) (ps.map (·.2))
 |[],_=>RDs.nil
 |q::r,h=>RDs.cons (h q Zzs) (Q3 λz hz=>h z (Zzi _ hz))
theorem Sw{H:Hp}:∀{ws:List Wr} {vs:List V},RDs H (ws.map Wr.d) vs->∃ps:List (Wr×V),ps.map (·.1)=ws/\ps.map (·.2)=vs/\∀q∈ps,RD H q.1.d q.2
 |[],vs,h=>⟨[],rfl,(RDs.nil_of h).symm,λ_ h=>nomatch h⟩
 |w::ws,vs,h=>by
  obtain⟨x,r,rfl,h1,h2⟩:=RDs.cons_of h
  obtain⟨ps,e1,e2,h3⟩:=Sw h2
  refine⟨(w,x)::ps,by rw[Zzp,e1],by rw[Zzp,e2],λq hq=>?_⟩
  rcases Zzw.mp hq with z | z
  ·rw[z];exact h1
  ·exact h3 q z
def aq(st l p:Addr)(top:V)(xs:List Str)(H:Hp)(i:Nat)(Z:St)(H':Hp):Prop:=∃(ws:List Wr) (vs:List V) (o5 o6 o7 o8 o9 o10 o11 o12 o13:Option V),Z=[some (.ref st),some top,some (.ref l),some (.ref p),o5,o6,o7,o8,o9,o10,o11,o12,o13]/\ws.length=i/\(∀j w,ws[j]?=some w->Yu xs j w)/\Cx31 st l p xs ws vs H H'
def ax(st l p:Addr)(xs:List Str)(ws:List Wr)(vs:List V)(H0:Hp)(j:Nat)(acc:List V)(H':Hp):Prop:=∃cs:List (Int×Int),RDs H' (cs.map Lo) acc/\cs.length=j/\(∀c∈cs,(0<=c.1/\c.1<9)/\0<=c.2/\c.2<10^41)/\Cx31 st l p xs ws vs H0 H'
def ap(st l p wl:Addr)(top:V)(xs:List Str)(ws:List Wr)(vs:List V)(H0:Hp)(i:Nat)(Z:St)(H':Hp):Prop:=∃(us:List Wt) (uv:List V) (o5 o6 o7 o8 o9 o10 o11 o13:Option V),Z=[some (.ref st),some top,some (.ref l),some (.ref p),o5,o6,o7,o8,o9,o10,o11,some (.ref wl),o13]/\us.length=i/\(∀u∈us,u.1∈xs/\(0<=u.2.1/\u.2.1<9)/\0<=u.2.2/\u.2.2<10^41)/\H' wl=some (.lst uv)/\RDs H' (us.map Iy) uv/\Cx31 st l p xs ws vs H0 H'
def sp_law_shop:Sp:=λvs H Q _=>∃(st:Addr) (top:Int),vs=[.ref st,.int top]/\StOk H st/\1<=top/\top<=12/\∀v (S:Sh) H',RD H' S.d v->SD S->StOk H' st->But st H H'->Q v H'
theorem sc_law_shop:Bv ["_law_state", "_law_top", "_law_names_here", "_law_wares", "_law_k", "_law_name", "_law_lag", "_law_gives", "_law_floor", "_law_stock", "_law_coming", "_law_wants", "_law_shift"] ["_law_state", "_law_top"] (A6 Jg):=⟨rfl,rfl,rfl,by decide +kernel,rfl,by decide +kernel,by decide +kernel⟩
theorem T7{f:Addr}{fd:FuncData}(F:Fun K "_law_shop" "_law_shop" Jg f fd)(T:Txt mg){c:Cl}(C:Exc K mg c)(Zt2:Has P w K mg base "_law_names" 2 ["_law_state", "_law_many"] sp_law_names)(Zva:Has P w K mg base "_law_next" 1 ["_law_state", "_law_many"] sp_law_next)(Zuc:Has P w K mg base "_law_amount" 2 ["_law_state"] sp_law_amount)(Zt1:Has P w K mg base "_law_parts" 2 ["_law_state", "_law_names_here"] sp_law_parts):Dp P w K mg base CX0 3 f fd ["_law_state", "_law_top"] sp_law_shop:=by
 refine F.ok sc_law_shop (λvs H Q E h=>?_) (λcdv A outer s H vs Q E hr h=>?_)
 ·obtain⟨st,top,rfl,_⟩:=h
  rfl
 ·obtain⟨st,top,rfl,hs,t0,t1,k⟩:=h
  have hu:=Di hr
  refine⟨_,(A5 (Bs (i:=2) sc_law_shop.nd rfl (Zz0 rfl) (A8 Zt2 (hr.mono (by decide)) rfl (A3 (pv 0) (A3 (Bk Fr A4 (A8 Zva (hr.mono (by decide)) rfl (A3 (pv 0) (A3 (pv 1) A2)))) A2))))
 (A5 (Bs (i:=3) sc_law_shop.nd rfl (Zz0 rfl) (Bt A2))
 (A5 (Jw PassesOwn.never rfl (Zc rfl T.Zsl (A3 (pv 2) A2)) (Of (n:=2) rfl (Gf (Bq (i:=4) sc_law_shop.nd rfl (Zz0 rfl)) (Gf (Bq (i:=5) sc_law_shop.nd rfl (Zz0 rfl)) Mo)))
 (A5 (Bs (i:=6) sc_law_shop.nd rfl (Zz0 rfl) (A8 Zva (hr.mono (by decide)) rfl (A3 (pv 0) (A3 A4 A2))))
 (A5 (Bs (i:=7) sc_law_shop.nd rfl (Zz0 rfl) (Bk Fr A4 (A8 Zva (hr.mono (by decide)) rfl (A3 (pv 0) (A3 A4 A2)))))
 (A5 (Bs (i:=8) sc_law_shop.nd rfl (Zz0 rfl) (Ag hu (Bt (A3 A4 (A3 A4 (A3 (A8 Zva (hr.mono (by decide)) rfl (A3 (pv 0) (A3 A4 A2))) A2)))) (A8 Zva (hr.mono (by decide)) rfl (A3 (pv 0) (A3 A4 A2))) (λ_ _=>rfl)))
 (A5 (Bs (i:=9) sc_law_shop.nd rfl (Zz0 rfl) (Ag hu (Bt (A3 (pv 8) (A3 (Bk Fr (pv 8) (A8 Zuc (hr.mono (by decide)) rfl (A3 (pv 0) A2))) (A3 (A8 Zuc (hr.mono (by decide)) rfl (A3 (pv 0) A2)) A2)))) (A8 Zva (hr.mono (by decide)) rfl (A3 (pv 0) (A3 A4 A2))) (λ_ _=>rfl)))
 (A5 (Bs (i:=10) sc_law_shop.nd rfl (Zz0 rfl) (Bw Cr rfl T.Zuy Ey (A3 (D8 (own:=["_law_place"]) (cap:=[0]) rfl (Fu rfl) (C3 (by decide)) (Jl rfl T.Zth (A3 (A8 Zva (hr.mono (by decide)) rfl (A3 (pv 0) (A3 A4 A2))) A2))
 (λ_ _ _ _ _ _=>⟨(Bq (i:=0) (of_decide_eq_true rfl) rfl (Zz0 rfl) (.inr rfl)),D7,(J4 (A3 (A8 Zva (hr.mono (by decide)) rfl (A3 (pv 1) (A3 A4 A2))) (A3 (A8 Zuc (hr.mono (by decide)) rfl (A3 (pv 1) A2)) A2)))⟩)) A2)))
 (A9 (E1 (Da Zym Zy5 Zy4 Fc (pv 3) (A3 (J4 (A3 (pv 5) (A3 (pv 6) (A3 (pv 7) (A3 (pv 8) (A3 (pv 9) (A3 (pv 10) (A3 (A8 Zt1 (hr.mono (by decide)) rfl (A3 (pv 0) (A3 (De Fx (pv 2) (Dd (Bk Fr (pv 4) A4)) Fy) A2))) A2)))))))) A2))))))))))
 (A5 (Bs (i:=11) sc_law_shop.nd rfl (Zz0 rfl) (Bt A2))
 (A5 (Jw PassesOwn.never rfl (Jl rfl T.Zth (A3 (A8 Zva (hr.mono (by decide)) rfl (A3 (pv 0) (A3 A4 A2))) A2)) (Bq (i:=4) sc_law_shop.nd rfl (Zz0 rfl))
 (A9 (E1 (Da Zym Zy5 Zy4 Fc (pv 11) (A3 (J4 (A3 (Ag hu (pv 2) (A8 Zva (hr.mono (by decide)) rfl (A3 (pv 0) (A3 (Bn G5 rfl T.Zu5 J9 (A3 (pv 2) A2)) A2))) (λ_ _=>rfl)) (A3 (A8 Zva (hr.mono (by decide)) rfl (A3 (pv 0) (A3 A4 A2))) (A3 (A8 Zuc (hr.mono (by decide)) rfl (A3 (pv 0) A2)) A2)))) A2)))))
 (A5 (Bs (i:=12) sc_law_shop.nd rfl (Zz0 rfl) (A8 Zva (hr.mono (by decide)) rfl (A3 (pv 0) (A3 (Bn G5 rfl T.Zu5 J9 (A3 (pv 2) A2)) A2))))
 (A9 (Bm (J4 (A3 (Bw Cr rfl T.Zuy Ey (A3 (Bk Fz (De Fx (pv 3) (Dd (pv 12)) Fy) (De Fx (pv 3) Fy (Dd (pv 12)))) A2)) (A3 (Bw Cr rfl T.Zuy Ey (A3 (pv 11) A2)) A2))))))))))),?_⟩
  walk_at "rd"
  refine⟨st,top,rfl,hs,t0,Zwj (b:=12) t1 (by decide +kernel),λd H1 d0 d1 s1 b1=>⟨d,rfl,?_⟩⟩
  refine⟨st,1+d,rfl,s1,by omega,by omega,λl xs H2 hxl hxn hl fl s2 b2=>?_⟩
  walk_at "rd"
  have lst':l≠st:=λz=>by
   obtain⟨ns1,_,e1⟩:=s1
   rw[z,e1] at fl
   cases fl
  refine⟨by decide,λp hp=>?_⟩
  have pst:p≠st:=Zyj (s2.ne hp)
  have b02:=b1.trans b2
  have fp:H p=none:=b02.none pst hp
  have u2:=A0 (o:=.lst []) hp
  have c3:Cx31 st l p xs [] [] H (upd H2 p (.lst [])):=⟨A1,RDs.nil,u2 _ _ hl,s2.upd (s2.ne hp),b02.new hp,pst,lst'⟩
  refine⟨_,c3.hl,?_⟩
  refine bo (gb l _) (aq st l p (.int top) xs H) ⟨[],[],_,_,_,_,_,_,_,_,_,rfl,rfl,(λj w e=>by simp at e),c3⟩ (λi Z H' _ h=>by obtain⟨_,_,_,_,_,_,_,_,_,_,_,_,_,_,c⟩:=h;exact c.hl) (λi us t Z H4 hi hy h ht=>?_) (λZ H4 h=>?_)
  ·obtain⟨ws,vs,o5,o6,o7,o8,o9,o10,o11,o12,o13,rfl,hwl,hk,c4⟩:=h
   obtain⟨y,ey,rfl⟩:=hy
   rw[Zzz] at hi
   rw[Zzv] at ey
   cases en:xs[i]? with
   |none=>rw[en] at ey;cases ey
   |some nm =>
   rw[en] at ey
   have ey:V.str nm=y:=Zyk ey
   subst ey
   have c5:=c4.same (A0 (o:=.tup [.int i,.str nm]) ht)
   refine gT2 ?_
   generalize upd H4 t (.tup [.int i,.str nm])=H5 at c5 ⊢
   simp only[Zz9,Zz3]
   refine dm (λZ' H'=>∃lag ga:Int,(0<=lag/\lag<=30)/\(0<=ga/\ga<5)/\Z'=[some (.ref st),some (.int top),some (.ref l),some (.ref p),some (.int i),some (.str nm),some (.int lag),some (.int (1+ga)),o9,o10,o11,o12,o13]/\Cx31 st l p xs ws vs H H') (λZ' H8 hM=>?_) (λKK hK=>?_)
   rotate_left
   ·walk_at "rd"
    refine⟨st,4,rfl,c5.s,by decide,by decide +kernel,λlag H7 g0 g1 s7 b7=>?_⟩
    have c7:=c5.draw s7 b7
    have lag30:0<=lag/\lag<=30:=⟨g0,by omega⟩
    refine⟨st,5,rfl,c7.s,by decide,by decide +kernel,λga H8 ga0 ga1 s8 b8=>⟨ga,rfl,hK _ _ ⟨lag,ga,lag30,⟨ga0,ga1⟩,rfl,c7.draw s8 b8⟩⟩⟩
   obtain⟨lag,ga,lag30,⟨ga0,ga1⟩,rfl,c8⟩:=hM
   refine dm (λZ' H'=>∃flo sto:Int,(0<=flo/\flo<=6)/\(0<=sto/\sto<=10^42)/\Z'=[some (.ref st),some (.int top),some (.ref l),some (.ref p),some (.int i),some (.str nm),some (.int lag),some (.int (1+ga)),some (.int flo),some (.int sto),o11,o12,o13]/\Cx31 st l p xs ws vs H H') (λZ' H15 hM=>?_) (λKK hK=>?_)
   rotate_left
   ·walk_at "rd"
    refine⟨st,7,rfl,c8.s,by decide,by decide +kernel,λfl H9 fl0 fl1 s9 b9=>⟨by decide,λq2 hq2=>?_⟩⟩
    have c9:=(c8.draw s9 b9).same (A0 (o:=.lst [V.int 0,V.int 0,V.int fl]) hq2)
    have x2:=A1 (H:=H9) (a:=q2) (o:=.lst [V.int 0,V.int 0,V.int fl])
    have q2st:q2≠st:=Zyj ((c8.draw s9 b9).s.ne hq2)
    generalize upd H9 q2 (.lst [V.int 0,V.int 0,V.int fl])=H10 at c9 x2 ⊢
    refine⟨st,3,rfl,c9.s,by decide,by decide +kernel,λe H11 e0 e1 s11 b11=>?_⟩
    have c11:=c9.draw s11 b11
    obtain⟨flo,f0,f1,fi⟩:=bg (lo:=0) (hi:=6) (b11 _ _ q2st x2) e0 e1 ⟨by decide,by decide⟩ ⟨by decide,by decide⟩ ⟨fl0,by omega⟩
    refine⟨_,fi,st,rfl,c11.s,λa1 H12 a10 a11 s12 b12=>⟨flo,rfl,a1,rfl,?_⟩⟩
    have c12:=c11.draw s12 b12
    refine⟨st,rfl,c12.s,λa2 H13 a20 a21 s13 b13=>⟨by decide,λq3 hq3=>?_⟩⟩
    have c13:=(c12.draw s13 b13).same (A0 (o:=.lst [V.int flo,V.int (flo+a1),V.int a2]) hq3)
    have x3:=A1 (H:=H13) (a:=q3) (o:=.lst [V.int flo,V.int (flo+a1),V.int a2])
    have q3st:q3≠st:=Zyj ((c12.draw s13 b13).s.ne hq3)
    generalize upd H13 q3 (.lst [V.int flo,V.int (flo+a1),V.int a2])=H14 at c13 x3 ⊢
    refine⟨st,3,rfl,c13.s,by decide,by decide +kernel,λe2 H15 e20 e21 s15 b15=>?_⟩
    have c15:=c13.draw s15 b15
    obtain⟨sto,st0,st1,si⟩:=bg (lo:=0) (hi:=10^42) (b15 _ _ q3st x3) e20 e21 ⟨by omega,by omega⟩ ⟨by omega,by omega⟩ ⟨by omega,by omega⟩
    exact⟨_,si,hK _ _ ⟨flo,sto,⟨f0,f1⟩,⟨st0,st1⟩,rfl,c15⟩⟩
   obtain⟨flo,sto,⟨f0,f1⟩,⟨st0,st1⟩,rfl,c15⟩:=hM
   walk_at "rd"
   refine⟨st,3,rfl,c15.s,by decide,by decide +kernel,λmany H18 m0 m1 s18 b18=>?_⟩
   have c18:=c15.draw s18 b18
   refine⟨many,rfl,by omega,by omega,?_⟩
   refine Ml (Qb 0 _) (Bi (by omega)) (ax st l p xs ws vs H) ⟨[],RDs.nil,rfl,(λc hc=>nomatch hc),c18⟩ (λ_ _ _ _ _=>trivial) (λj acc H' h=>by obtain⟨cs,r,e,_⟩:=h;rw[Dy r];exact Nat.le_of_eq e) (λj y acc H19 hj hy h=>?_) (λacc H19 h r hr19=>?_)
   ·obtain⟨cs,rc,hcl,hcs,c19⟩:=h
    walk_at "rd"
    refine⟨st,9,rfl,c19.s,by decide,by decide +kernel,λda H20 da0 da1 s20 b20=>?_⟩
    have c20:=c19.draw s20 b20
    refine⟨st,rfl,c20.s,λam H21 am0 am1 s21 b21=>⟨by decide,λt2 ht2=>?_⟩⟩
    have c21:=c20.draw s21 b21
    have u:=A0 (o:=.tup [V.int da,V.int am]) ht2
    have kk:=((Fh b20 c19.s).trans (Fh b21 c20.s)).trans u.ku
    refine⟨cs++[(da,am)],?_,by rw[Zzh,Zxi,hcl],λc hc=>?_,c21.same u⟩
    ·rw[Zyo]
     exact RDs.app (RDs.ku kk _ _ (D4 Lo Ru _) rc) (RDs.one (RD.tup_mk (xs:=[V.int da,V.int am]) A1 (RDs.cons RD.int_mk (RDs.one RD.int_mk))))
    ·rcases Zyq.mp hc with z | z
     ·exact hcs c z
     ·rw[Zzk.mp z]
      exact⟨⟨da0,da1⟩,am0,am1⟩
   ·obtain⟨cs,rc,hcl,hcs,c19⟩:=h
    refine⟨r,rfl,acc,.inl ⟨A1,λcu hcu=>?_⟩⟩
    have u:=(A0 (o:=.lst acc) hr19).trans (A0 (o:=.tup acc) hcu)
    have c20:=c19.same u
    have rc20:=RDs.same u _ _ rc
    have hcu20:=A1 (H:=upd H19 r (.lst acc)) (a:=cu) (o:=.tup acc)
    generalize upd (upd H19 r (.lst acc)) cu (.tup acc)=H20 at c20 rc20 hcu20 ⊢
    refine⟨Fk c20.hp,_,c20.hl,λz hz=>?_⟩
    rw[Iw (by omega),show ((i:Int)+1).toNat=i+1 by omega,<- Zvq]
    have u2:=A0 (o:=.lst ((xs.drop (i+1)).map V.str)) hz
    have c21:=c20.same u2
    have zst:z≠st:=Zyj (c20.s.ne hz)
    have hx12:xs.length<=12:=by omega
    refine⟨st,z,xs.drop (i+1),rfl,c21.s,A1,zst,by rw[Zxp];omega,(List.drop_sublist _ _).nodup (Te hx12 hxn),λpv ps H22 rpv p6 po s22 b22=>⟨by decide,λwt hwt=>?_⟩⟩
    have c22:=c21.draw s22 b22
    have u3:=A0 (o:=.tup [V.str nm,V.int lag,V.int (1+ga),V.int flo,V.int sto,V.ref cu,pv]) hwt
    have c23:=c22.same u3
    have rpv23:=RD.same u3 _ _ rpv
    have k2023:KeepU H20 (upd H22 wt (.tup [V.str nm,V.int lag,V.int (1+ga),V.int flo,V.int sto,V.ref cu,pv])):=(u2.ku.trans (Fh b22 c21.s)).trans u3.ku
    have rc23:=RDs.ku k2023 _ _ (D4 Lo Ru _) rc20
    have hcu23:=k2023 _ _ hcu20
    have x23:=A1 (H:=H22) (a:=wt) (o:=.tup [V.str nm,V.int lag,V.int (1+ga),V.int flo,V.int sto,V.ref cu,pv])
    generalize upd H22 wt (.tup [V.str nm,V.int lag,V.int (1+ga),V.int flo,V.int sto,V.ref cu,pv])=H23 at c23 rpv23 rc23 hcu23 x23 ⊢
    have hvl:=Dy c23.rd
    have kk:KeepU H23 (upd H23 p (.lst (vs++[.ref wt]))):=Ou c23.hp
    have lp:l≠p:=λz=>by
     have h1:=c23.hl
     have h2:=c3.hp
     have h3:=c3.hl
     rw[z] at h3
     rw[h3] at h2
     have:xs.map V.str=[]:=by injection h2 with h2;injection h2
     have hl0:=congrArg Zwc this
     rw[Zzz,Zyy] at hl0
     omega
    refine⟨vs,c23.hp,Zzd (show vs.length<1000 by omega) (Bi (Zzt _)),ws++[⟨nm,lag,1+ga,flo,sto,cs,ps⟩],_,_,_,_,_,_,_,_,_,_,rfl,by rw[Zzh,Zxi,hwl],λj w' hw'=>?_,⟨A1,?_,by rw[Bd lp];exact c23.hl,c23.s.upd (Zyj c23.pst),c23.b.upd fp,c23.pst,c23.lst⟩⟩
    ·by_cases hj:j<ws.length
     ·rw[Zwv hj] at hw'
      exact hk j w' hw'
     ·rw[Zxa (by omega)] at hw'
      have hj0:j - ws.length=0:=by
       cases e:j - ws.length with
       |zero=>rfl
       |succ n=>rw[e] at hw';simp at hw'
      rw[hj0] at hw'
      have ew:(⟨nm,lag,1+ga,flo,sto,cs,ps⟩:Wr)=w':=by simpa using hw'
      have ej:j=i:=by omega
      subst ew ej
      exact⟨en,⟨lag30,⟨show 1<=1+ga by omega,show 1+ga<=100 by omega⟩,⟨f0,show flo<=100 by omega⟩,⟨st0,st1⟩,show ps.length<=6 by omega,λp hp=>(po.sub p hp).2,po.nd,show cs.length<=12 by omega,hcs⟩,λp hp=>(po.sub p hp).1⟩
    ·rw[Zyo]
     refine RDs.app (RDs.ku kk _ _ (D4 Wr.d Ko _) c23.rd) (RDs.one (RD.ku kk _ _ (Ko _) ?_))
     unfold Wr.d
     exact RD.tup_mk x23 (RDs.cons RD.str_mk (RDs.cons RD.int_mk (RDs.cons RD.int_mk (RDs.cons RD.int_mk (RDs.cons RD.int_mk (RDs.cons (RD.tup_mk hcu23 rc23) (RDs.one rpv23)))))))
  ·obtain⟨ws,vs,o5,o6,o7,o8,o9,o10,o11,o12,o13,rfl,hwl,hk,c4⟩:=h
   rw[Zzz] at hwl
   walk_at "rd"
   refine⟨by decide,λwl hw4=>?_⟩
   have u5:=A0 (o:=.lst []) hw4
   have c5:=c4.same u5
   have hw5:=A1 (H:=H4) (a:=wl) (o:=.lst [])
   have wst:wl≠st:=Zyj (c4.s.ne hw4)
   have fw:H wl=none:=c4.b.none wst hw4
   have wp:wl≠p:=λz=>by have:=c4.hp;rw[<- z,hw4] at this;cases this
   have wl':wl≠l:=λz=>by have:=c4.hl;rw[<- z,hw4] at this;cases this
   generalize upd H4 wl (.lst [])=H5 at c5 hw5 ⊢
   refine⟨st,6,rfl,c5.s,by decide,by decide +kernel,λm H7 m0 m1 s7 b7=>?_⟩
   have c7:=c5.draw s7 b7
   refine⟨m,rfl,by omega,by omega,?_⟩
   have hw7:=b7 _ _ wst hw5
   refine N2 (Qb 0 _) (ap st l p wl (.int top) xs ws vs H) ⟨[],[],_,_,_,_,_,_,_,_,rfl,rfl,(λu hu=>nomatch hu),hw7,RDs.nil,c7⟩ (λ_ _ _ _ _=>trivial) (λi x Z H8 hi hx h=>?_) (λZ H8 h=>?_)
   ·obtain⟨us,uv,o5,o6,o7,o8,o9,o10,o11,o13,rfl,hul,hus,hw8,ru,c8⟩:=h
    walk_at "rd"
    have e1:(xs.map V.str).length=xs.length:=Zzz ..
    refine⟨Fk hw8,_,.inl c8.hl,st,xs.length,by rw[e1],c8.s,by omega,Zwj (b:=12) (by omega) (by decide +kernel),λni H9 n0 n1 s9 b9=>?_⟩
    have c9:=c8.draw s9 b9
    obtain⟨nm,hnm⟩:∃nm,xs[ni.toNat]?=some nm:=⟨_,Zya (by omega)⟩
    refine⟨.str nm,Ur (.inl c9.hl) n0 (by rw[Zzv,hnm];rfl),st,9,rfl,c9.s,by decide,by decide +kernel,λda H10 da0 da1 s10 b10=>?_⟩
    have c10:=c9.draw s10 b10
    refine⟨st,rfl,c10.s,λam H11 am0 am1 s11 b11=>⟨by decide,λt ht=>?_⟩⟩
    have c11:=c10.draw s11 b11
    have b811:=(b9.trans b10).trans b11
    have u:=A0 (o:=.tup [V.str nm,V.int da,V.int am]) ht
    have c12:=c11.same u
    have hw12:=u _ _ (b811 _ _ wst hw8)
    have ru12:=RDs.ku ((Fh b811 c8.s).trans u.ku) _ _ (D4 Iy Mu _) ru
    have x12:=A1 (H:=H11) (a:=t) (o:=.tup [V.str nm,V.int da,V.int am])
    generalize upd H11 t (.tup [V.str nm,V.int da,V.int am])=H12 at c12 hw12 ru12 x12 ⊢
    have hvl:=Dy ru12
    have hi:i<m.toNat:=hi
    have kk:KeepU H12 (upd H12 wl (.lst (uv++[.ref t]))):=Ou hw12
    refine⟨uv,hw12,Zzd (show uv.length<1000 by omega) (Bi (Zzt _)),us++[(nm,da,am)],_,_,_,_,_,_,_,_,_,rfl,by rw[Zzh,Zxi,hul],λy hy=>?_,A1,?_,⟨by rw[Bd (Zyj wp)];exact c12.hp,RDs.ku kk _ _ (D4 Wr.d Ko _) c12.rd,by rw[Bd (Zyj wl')];exact c12.hl,c12.s.upd (Zyj wst),c12.b.upd fw,c12.pst,c12.lst⟩⟩
    ·rcases Zyq.mp hy with z | z
     ·exact hus y z
     ·rw[Zzk.mp z]
      exact⟨Zyv hnm,⟨da0,da1⟩,am0,am1⟩
    ·rw[Zyo]
     exact RDs.app (RDs.ku kk _ _ (D4 Iy Mu _) ru12) (RDs.one (RD.tup_mk (xs:=[V.str nm,V.int da,V.int am]) (kk _ _ x12) (RDs.cons RD.str_mk (RDs.cons RD.int_mk (RDs.one RD.int_mk)))))
   ·obtain⟨us,uv,o5,o6,o7,o8,o9,o10,o11,o13,rfl,hul,hus,hw8,ru,c8⟩:=h
    walk_at "rd"
    have e1:(xs.map V.str).length=xs.length:=Zzz ..
    refine⟨_,.inl c8.hl,st,xs.length,by rw[e1],c8.s,by omega,Zwj (b:=12) (by omega) (by decide +kernel),λsh H9 h0 h1 s9 b9=>⟨sh,rfl,?_⟩⟩
    have c9:=c8.draw s9 b9
    have hw9:=b9 _ _ wst hw8
    have ru9:=RDs.ku (Fh b9 c8.s) _ _ (D4 Iy Mu _) ru
    refine⟨vs,c9.hp,λr1 hr1=>⟨sh,rfl,vs,A0 hr1 _ _ c9.hp,λr2 hr2=>?_⟩⟩
    rw[Iw h0,N4 h0] at *
    have v1:=A0 (o:=.lst (vs.drop sh.toNat)) hr1
    have v2:=A0 (o:=.lst (vs.take sh.toNat)) hr2
    have y1:=v2 _ _ (A1 (H:=H9) (a:=r1) (o:=.lst (vs.drop sh.toNat)))
    have y2:=A1 (H:=upd H9 r1 (.lst (vs.drop sh.toNat))) (a:=r2) (o:=.lst (vs.take sh.toNat))
    have s11:=v1.trans v2
    generalize upd (upd H9 r1 (.lst (vs.drop sh.toNat))) r2 (.lst (vs.take sh.toNat))=H11 at y1 y2 s11 ⊢
    have hvl:=Dy c9.rd
    refine⟨_,y1,_,y2,Zyu (m:=1000) (by rw[Zxp,Zyg];omega) (Bi (Zzt _)),λr3 hr3=>⟨_,.inl ⟨A1,λr4 hr4=>?_⟩⟩⟩
    have v34:=(A0 (o:=.lst (vs.drop sh.toNat++vs.take sh.toNat)) hr3).trans (A0 (o:=.tup (vs.drop sh.toNat++vs.take sh.toNat)) hr4)
    have y4:=A1 (H:=upd H11 r3 (.lst (vs.drop sh.toNat++vs.take sh.toNat))) (a:=r4) (o:=.tup (vs.drop sh.toNat++vs.take sh.toNat))
    have s13:=s11.trans v34
    generalize upd (upd H11 r3 (.lst (vs.drop sh.toNat++vs.take sh.toNat))) r4 (.tup (vs.drop sh.toNat++vs.take sh.toNat))=H13 at y4 s13 ⊢
    refine⟨uv,.inl ⟨s13 _ _ hw9,λr5 hr5=>⟨by decide,λr6 hr6=>?_⟩⟩⟩
    have v56:=(A0 (o:=.tup uv) hr5).trans (A0 (o:=.tup [V.ref r4,V.ref r5]) hr6)
    have s15:=s13.trans v56
    have c15:=c9.same s15
    obtain⟨ps,e3,e4,h3⟩:=Sw c15.rd
    have pm:(ps.drop sh.toNat++ps.take sh.toNat).Perm ps:=List.perm_append_comm.trans (by rw[List.take_append_drop])
    refine k (.ref r6) ⟨(ps.drop sh.toNat++ps.take sh.toNat).map (·.1),us⟩ _ ?_ (sd52 hxn ⟨by omega,by omega⟩ hwl hk (by rw[<- e3];exact pm.map _) ⟨by omega,hus⟩) c15.s c15.b
    unfold Sh.d
    refine RD.tup_mk A1 (RDs.cons (RD.tup_mk (v56 _ _ y4) ?_) (RDs.one (RD.tup_mk (A0 hr6 _ _ A1) (RDs.same s15 _ _ ru9))))
    rw[<- e4,<- Zvq,<- Zwk,<- Zyo]
    exact Q3 λq hq=>h3 q (pm.mem_iff.mp hq)
end
set_option maxHeartbeats 4000000
section
variable {P:Program}{w:World}{K:Zzx}{mg:Str->Option Value}{base:Heap}
theorem Rx{n:Nat}{i:Int}(h:i.toNat<n)(h0:0<=i):ixN n i=some i.toNat:=by
 unfold ixN
 rw[if_pos h0,if_pos (by omega)]
theorem Y9{H:Hp}{q:Addr}{a b:Int}{c:Bool}(h:H q=some (.lst [.int a,.int b])):Ni H (.ref q) (.int (if c=true then 1 else 0)) (.int (if c=true then b else a)):=by
 cases c with
 |true=>exact Ce (j:=1) h rfl
 |false=>exact Ce (j:=0) h rfl
theorem Va{H:Hp}{d:PyData}{v:V}(hv:RD H d v):∀{ds:List PyData} {xs:List V} (n:Nat),RDs H ds xs->RDs H (ds.set n d) (xs.set n v)
 |[],xs,n,h=>by rw[RDs.nil_of h];cases n<;>exact RDs.nil
 |e::ds,xs,n,h=>by
  obtain⟨x,r,rfl,h1,h2⟩:=RDs.cons_of h
  cases n with
  |zero=>exact RDs.cons hv h2
  |succ n=>exact RDs.cons h1 (Va hv n h2)
theorem bz{S:Sh}{i:Nat}{wr wo:Wr}{lg n:Int}(sd:SD S)(e:S.wares[i]?=some wr)(ho:wo∈S.wares)(hl:0<=lg/\lg<=30)(hn:1<=n/\n<=4):SD ⟨S.wares.set i ⟨wr.name,lg,wr.gives,wr.floor,wr.stock,wr.coming,(wr.parts.filter λp=>decide (p.1≠wo.name)).take 5++[(wo.name,n)]⟩,S.wants⟩:=by
 have hwr:=Zyv e
 have en:∀x1 x2 x3 x4 x5 x6,(S.wares.set i ⟨wr.name,x1,x2,x3,x4,x5,x6⟩).map (·.name)=S.wares.map (·.name):=λx1 x2 x3 x4 x5 x6=>by
  rw[List.map_set]
  apply Zvz
  intro j
  rw[List.getElem?_set]
  by_cases h:i=j
  ·subst h
   rw[if_pos rfl,Zzv,e]
   have:=(Zy1.mp e).1
   rw[Zzz,if_pos this]
   rfl
  ·rw[if_neg h]
 have hm:∀{w' w:Wr},w∈S.wares.set i w'->w∈S.wares\/w=w':=λh=>List.mem_or_eq_of_mem_set h
 have wb:=sd.wb wr hwr
 have sub:∀p∈(wr.parts.filter λp=>decide (p.1≠wo.name)).take 5,p∈wr.parts/\p.1≠wo.name:=λp hp=>by
  have:=Zxl.mp (Zxf hp)
  exact⟨this.1,of_decide_eq_true this.2⟩
 have wn:wo.name∈S.wares.map (·.name):=Zza.mpr ⟨wo,ho,rfl⟩
 refine⟨by show 1<=(S.wares.set i _).length/\(S.wares.set i _).length<=12;rw[Zw8];exact sd.n,λw h=>?_,by rw[en];exact sd.nd,λw h=>?_,λw h p hp=>?_,sd.un,(λu hu=>by rw[en];exact sd.us u hu),by rw[en];exact sd.na⟩
 ·rcases hm h with h | rfl
  ·exact sd.nm w h
  ·exact sd.nm wr hwr
 ·rcases hm h with h | rfl
  ·exact sd.wb w h
  ·refine⟨hl,wb.2.1,wb.2.2.1,wb.2.2.2.1,?_,λp hp=>?_,?_,wb.2.2.2.2.2.2.2⟩
   ·show ((wr.parts.filter λp=>decide (p.1≠wo.name)).take 5++[(wo.name,n)]).length<=6
    rw[Zzh,Zyg,Zxi]
    omega
   ·rcases Zyq.mp hp with z | z
    ·exact wb.2.2.2.2.2.1 p (sub p z).1
    ·rw[Zzk.mp z]
     exact hn
   ·show (((wr.parts.filter λp=>decide (p.1≠wo.name)).take 5++[(wo.name,n)]).map (·.1)).Nodup
    rw[Zyo,List.nodup_append]
    refine⟨?_,by simp,λx hx y hy=>?_⟩
    ·exact(((List.take_sublist _ _).trans List.filter_sublist).map _).nodup wb.2.2.2.2.2.2.1
    ·obtain⟨p,hp,rfl⟩:=Zza.mp hx
     have hy:y∈[wo.name]:=hy
     rw[Zzk.mp hy]
     exact(sub p hp).2
 ·rw[en]
  rcases hm h with h | rfl
  ·exact sd.own w h p hp
  ·rcases Zyq.mp hp with z | z
   ·exact sd.own wr hwr p (sub p z).1
   ·rw[Zzk.mp z]
    exact wn
def sp_law_any_shop:Sp:=λvs H Q _=>∃(st:Addr),vs=[.ref st]/\StOk H st/\∀v (S:Sh) H',RD H' S.d v->SD S->StOk H' st->But st H H'->Q v H'
theorem sc_law_any_shop:Bv ["_law_state", "_law_shop_here", "_law_wares", "_law_spot", "_law_ware", "_law_other", "_law_parts_here"] ["_law_state"] (A6 Fo):=⟨rfl,rfl,rfl,by decide +kernel,rfl,by decide +kernel,by decide +kernel⟩
theorem Nv{f:Addr}{fd:FuncData}(F:Fun K "_law_any_shop" "_law_any_shop" Fo f fd)(T:Txt mg){c:Cl}(C:Exc K mg c)(Zsu:Has P w K mg base "_law_shop" 3 ["_law_state", "_law_top"] sp_law_shop)(Zva:Has P w K mg base "_law_next" 1 ["_law_state", "_law_many"] sp_law_next):Dp P w K mg base CX0 4 f fd ["_law_state"] sp_law_any_shop:=by
 refine F.ok sc_law_any_shop (λvs H Q E h=>?_) (λcdv A outer s H vs Q E hr h=>?_)
 ·obtain⟨st,rfl,_⟩:=h
  rfl
 ·obtain⟨st,rfl,hs,k⟩:=h
  have hu:=Di hr
  refine⟨_,(A5 (Bs (i:=1) sc_law_any_shop.nd rfl (Zz0 rfl) (A8 Zsu (hr.mono (by decide)) rfl (A3 (pv 0) (A3 (Ag hu (Bt (A3 A4 (A3 A4 A2))) (Bw X2 rfl T.Zsj V0 (A3 (J5 (E2 hu) (A8 Zva (hr.mono (by decide)) rfl (A3 (pv 0) (A3 A4 A2))) A4 (Cg _)) A2)) (λ_ _=>rfl)) A2))))
 (A5 (D9 (C4 Sx (A8 Zva (hr.mono (by decide)) rfl (A3 (pv 0) (A3 A4 A2))) A4 (Cg _)) (A9 (Bm (pv 1))) Ca)
 (A5 (Bs (i:=2) sc_law_any_shop.nd rfl (Zz0 rfl) (Bw Uz rfl T.Zsd ah (A3 (Ag hu (pv 1) A4 (λ_ _=>rfl)) A2)))
 (A5 (Bs (i:=3) sc_law_any_shop.nd rfl (Zz0 rfl) (A8 Zva (hr.mono (by decide)) rfl (A3 (pv 0) (A3 (Bn G5 rfl T.Zu5 J9 (A3 (pv 2) A2)) A2))))
 (A5 (Bs (i:=4) sc_law_any_shop.nd rfl (Zz0 rfl) (Ag hu (pv 2) (pv 3) (λ_ _=>rfl)))
 (A5 (Bs (i:=5) sc_law_any_shop.nd rfl (Or.inr rfl) (Ag hu (Ag hu (pv 2) (A8 Zva (hr.mono (by decide)) rfl (A3 (pv 0) (A3 (Bn G5 rfl T.Zu5 J9 (A3 (pv 2) A2)) A2))) (λ_ _=>rfl)) A4 (λ_ _=>rfl)))
 (A5 (Bs (i:=6) sc_law_any_shop.nd rfl (Zz0 rfl) (Bk Mp (Bw Cr rfl T.Zuy Ey (A3 (De Fx (D8 (own:=["_law_part"]) (cap:=[5]) rfl (Fu rfl) (C3 (by decide)) (Ku (Ag hu (pv 4) A4 (λ_ _=>rfl)))
 (λ_ _ _ _ _ _=>⟨(Bq (i:=0) (of_decide_eq_true rfl) rfl (Zz0 rfl) (.inr rfl)),(Rb (C4 (Ua hu) (Ag hu (pv 0) A4 (λ_ _=>rfl)) (pv 1) (Cg _))),(pv 0)⟩)) Fy (Dd A4)) A2)) (J4 (A3 (J4 (A3 (pv 5) (A3 (Bk Fr A4 (A8 Zva (hr.mono (by decide)) rfl (A3 (pv 0) (A3 A4 A2)))) A2))) A2))))
 (A5 (Ls (Bk Mp (Bk Mp (J4 (A3 (Ag hu (pv 4) A4 (λ_ _=>rfl)) (A3 (A8 Zva (hr.mono (by decide)) rfl (A3 (pv 0) (A3 A4 A2))) A2))) (De V9 (pv 4) (Dd A4) (Dd A4))) (J4 (A3 (pv 6) A2))) (Lv (pv 2) (pv 3) Js))
 (A9 (Bm (J4 (A3 (Bw Cr rfl T.Zuy Ey (A3 (pv 2) A2)) (A3 (Ag hu (pv 1) A4 (λ_ _=>rfl)) A2))))))))))))),?_⟩
  walk_at "rd"
  refine⟨by decide,λp hp=>?_⟩
  have pst:p≠st:=Zyj (hs.ne hp)
  refine⟨st,6,rfl,hs.upd (hs.ne hp),by decide,by decide +kernel,λd H1 d0 d1 s1 b1=>⟨rfl,_,Y9 (b1 _ _ pst A1),?_⟩⟩
  refine⟨st,_,rfl,s1,by split<;>decide,by split<;>decide,λv S H2 rS sd s2 b2=>?_⟩
  walk_at "rd"
  refine⟨st,3,rfl,s2,by decide,by decide +kernel,λe H3 e0 e1 s3 b3=>⟨e,rfl,?_⟩⟩
  have b03:=((N5 (o:=.lst [V.int 5,V.int 12]) hp).trans b1).trans (b2.trans b3)
  have rS3:=RD.ku (Fh b3 s2) _ _ (Vi S) rS
  refine Fj (λ_=>k v S H3 rS3 sd s3 b03) (λ_=>?_)
  obtain⟨a,b,c,ws,us,rfl,ha,hb,hc,rw3,ru3⟩:=Qu rS3
  have hwl:=Dy rw3
  have hn:=sd.n
  refine⟨_,Ch (j:=0) ha rfl,b,rfl,ws,.inr hb,λl hl=>⟨ws,.inl A1,?_⟩⟩
  have lst':l≠st:=Zyj (s3.ne hl)
  have ul:=A0 (o:=.lst ws) hl
  refine⟨st,ws.length,rfl,s3.upd (s3.ne hl),by omega,Zwj (b:=12) (by omega) (by decide +kernel),λsp H4 sp0 sp1 s4 b4=>?_⟩
  obtain⟨wv,hwv⟩:∃wv,ws[sp.toNat]?=some wv:=⟨_,Zya (by omega)⟩
  have hl4:=b4 _ _ lst' A1
  refine⟨wv,Ur (.inl hl4) sp0 hwv,ws,.inl hl4,st,ws.length,rfl,s4,by omega,Zwj (b:=12) (by omega) (by decide +kernel),λot H5 ot0 ot1 s5 b5=>?_⟩
  have hl5:=b5 _ _ lst' hl4
  obtain⟨ov,hov⟩:∃ov,ws[ot.toNat]?=some ov:=⟨_,Zya (by omega)⟩
  have b35:But st H3 H5:=((N5 (o:=.lst ws) hl).trans b4).trans b5
  have k35:KeepU H3 H5:=(ul.ku.trans (Fh b4 (s3.upd (s3.ne hl)))).trans (Fh b5 s4)
  obtain⟨wo,ewo,rwo⟩:=J0 (RDs.ku k35 _ _ (D4 Wr.d Ko _) rw3) hov
  obtain⟨ao,_,_,rfl,hao,_,_⟩:=Nz rwo
  obtain⟨wr,ewr,rwr⟩:=J0 (RDs.ku k35 _ _ (D4 Wr.d Ko _) rw3) hwv
  obtain⟨ar,cv,pv,rfl,har,rc5,rp5⟩:=Nz rwr
  refine⟨_,Ur (.inl hl5) ot0 hov,_,Ch (j:=0) hao rfl,_,Ch (j:=6) har rfl,?_⟩
  obtain⟨pa,pvs,rfl,hpa,rpp⟩:=RD.tup_of rp5
  refine⟨pa,rfl,pvs,hpa,?_⟩
  have hpl:=Dy rpp
  have wb:=sd.wb wr (Zyv ewr)
  have p6:=wb.2.2.2.2.1
  refine Ml (L5 pa _) (Bi (by omega)) (λi acc H'=>RDs H' (((wr.parts.take i).filter λp=>decide (p.1≠wo.name)).map Fq) acc/\Same H5 H') ⟨RDs.nil,Same.refl _⟩ (λi acc H' _ h=>h.2 _ _ hpa) (λi acc H' h=>?_) (λi x acc H' hi hx h=>?_) (λacc H6 h q hq=>?_)
  ·have:=Dy h.1
   have h2:((wr.parts.take i).filter λp=>decide (p.1≠wo.name)).length<=i:=Zyu (Zx6 _ _) (by rw[Zyg];omega)
   omega
  ·obtain⟨racc,s1⟩:=h
   obtain⟨r,er,rr⟩:=J0 rpp hx
   obtain⟨ra,rfl,hra⟩:=Vf rr
   walk_at "rd"
   have et:(wr.parts.take (i+1)).filter (λp=>decide (p.1≠wo.name))=(wr.parts.take i).filter (λp=>decide (p.1≠wo.name))++if r.1≠wo.name then [r] else []:=by
    rw[Zxw,er,Zy8]
    congr 1
    by_cases z:r.1=wo.name
    ·rw[if_neg (λh=>h z)];simp[z]
    ·rw[if_pos z];simp[z]
   refine⟨_,Ch (j:=0) (s1 _ _ hra) rfl,rfl,Fj (λz=>⟨?_,s1⟩) (λz=>⟨?_,s1⟩)⟩
   ·have z:r.1≠wo.name:=λe=>by rw[e] at z;simp at z
    rw[et,if_pos z,Zyo]
    exact RDs.app racc (RDs.one (RD.same s1 _ _ rr))
   ·have z:r.1=wo.name:=by simpa using z
    rw[et,if_neg (λh=>h z),Zzq]
    exact racc
  ·obtain⟨racc,s6⟩:=h
   rw[show wr.parts.take pvs.length=wr.parts by rw[hpl,Zxo]] at racc
   refine⟨q,rfl,acc,A1,λq2 hq2=>⟨_,.inl ⟨A1,λl1 hl1=>?_⟩⟩⟩
   rw[N4 (by decide)] at hl1 ⊢
   have e5:Int.toNat 5=5:=rfl
   rw[e5] at hl1 ⊢
   have ra5:=Od 5 racc
   rw[<- Zwk] at ra5
   have u7:=((A0 (o:=.lst acc) hq).trans (A0 (o:=.lst (acc.take 5)) hq2)).trans (A0 (o:=.tup (acc.take 5)) hl1)
   have hl7:=A1 (H:=upd (upd H6 q (.lst acc)) q2 (.lst (acc.take 5))) (a:=l1) (o:=.tup (acc.take 5))
   generalize upd (upd (upd H6 q (.lst acc)) q2 (.lst (acc.take 5))) l1 (.tup (acc.take 5))=H7 at u7 hl7 ⊢
   have s57:=s6.trans u7
   refine⟨st,4,rfl,s5.same s57,by decide,by decide +kernel,λam H8 am0 am1 s8 b8=>⟨am,rfl,by decide,λp1 hp1=>⟨by decide,λp2 hp2=>?_⟩⟩⟩
   have l1st:l1≠st:=λz=>by obtain⟨_,_,e⟩:=s5.same s57;rw[<- z,hl7] at e;cases e
   have u9:=(A0 (o:=.tup [V.str wo.name,V.int (1+am)]) hp1).trans (A0 (o:=.tup [V.ref p1]) hp2)
   have hp9:=A1 (H:=upd H8 p1 (.tup [V.str wo.name,V.int (1+am)])) (a:=p2) (o:=.tup [V.ref p1])
   have hp19:=A0 (o:=.tup [V.ref p1]) hp2 _ _ (A1 (H:=H8) (a:=p1) (o:=.tup [V.str wo.name,V.int (1+am)]))
   generalize upd (upd H8 p1 (.tup [V.str wo.name,V.int (1+am)])) p2 (.tup [V.ref p1])=H9 at u9 hp9 hp19 ⊢
   have hl9:=u9 _ _ (b8 _ _ l1st hl7)
   refine⟨_,hl9,_,hp9,Zyu (m:=1000) (by rw[Zyg,Zxi];omega) (Bi (Zzt _)),λp3 H10 hp10 s10 _=>?_⟩
   have b59:But st H5 H10:=(Hj s57).trans (b8.trans ((Hj u9).trans (Hj s10)))
   have k59:KeepU H5 H10:=s57.ku.trans ((Fh b8 (s5.same s57)).trans (u9.trans s10).ku)
   have rpn:RD H10 (.tuple ((((wr.parts.filter λp=>decide (p.1≠wo.name)).take 5)++[(wo.name,1+am)]).map Fq)) (.ref p3):=by
    refine RD.tup_mk hp10 ?_
    rw[Zyo]
    refine RDs.app (RDs.ku ((u7.ku.trans (Fh b8 (s5.same s57))).trans (u9.trans s10).ku) _ _ (D4 Fq Kp _) ra5) (RDs.one (RD.tup_mk (xs:=[V.str wo.name,V.int (1+am)]) (s10 _ _ hp19) (RDs.cons RD.str_mk (RDs.one RD.int_mk))))
   have s10':=(s8.same u9).same s10
   refine⟨_,Ch (j:=0) (k59 _ _ har) rfl,st,31,rfl,s10',by decide,by decide +kernel,λlg H11 lg0 lg1 s11 b11=>⟨by decide,λp4 hp4=>?_⟩⟩
   have u12:=A0 (o:=.tup [V.str wr.name,V.int lg]) hp4
   have har12:=u12 _ _ (Fh b11 s10' _ _ (k59 _ _ har))
   refine⟨ar,rfl,_,har12,λp5 H12 hp5 s12 _=>⟨_,s12 _ _ A1,_,hp5,?_⟩⟩
   have ecut:∀x1 x2 x3 x4 x5 x6 x7:V,Hz [x1,x2,x3,x4,x5,x6,x7] (some 2) (some 6)=[x3,x4,x5,x6]:=λx1 x2 x3 x4 x5 x6 x7=>by rw[Vr (by decide) (by decide)];rfl
   rw[ecut]
   refine⟨by show 6<=sizeLine;decide,λp6 H13 hp6 s13 _=>⟨by decide,λp7 hp7=>⟨_,A0 hp7 _ _ hp6,_,A1,by show 7<=sizeLine;decide,λp8 H14 hp8 s14 _=>?_⟩⟩⟩
   have s1114:Same H11 H14:=(u12.trans s12).trans (s13.trans ((A0 hp7).trans s14))
   have b514:But st H5 H14:=b59.trans (b11.trans (Hj s1114))
   have hl14:=b514 _ _ lst' hl5
   have s14':=s11.same s1114
   have k514:KeepU H5 H14:=k59.trans ((Fh b11 s10').trans s1114.ku)
   have k314:=k35.trans k514
   have rpn14:=RD.ku ((Fh b11 s10').trans s1114.ku) _ _ (by rw[G6];exact D4 Fq Kp _) rpn
   have spl:sp.toNat<ws.length:=by omega
   refine⟨ws,sp,rfl,hl14,sp.toNat,Rx spl sp0,_,.inl ⟨A1,λl2 hl2=>?_⟩⟩
   have kl:KeepU H14 (upd H14 l (.lst (ws.set sp.toNat (.ref p8)))):=Ou hl14
   have ul2:=A0 (o:=.tup (ws.set sp.toNat (.ref p8))) hl2
   have kl2:=k314.trans (kl.trans ul2.ku)
   refine⟨_,Ch (j:=1) (kl2 _ _ ha) rfl,by decide,λp9 hp9=>?_⟩
   have u9':=A0 (o:=.tup [V.ref l2,V.ref c]) hp9
   have kf:=kl2.trans u9'.ku
   have klf:=kl.trans (ul2.ku.trans u9'.ku)
   have fl:H l=none:=b03.none lst' hl
   refine k (.ref p9) ⟨S.wares.set sp.toNat ⟨wr.name,lg,wr.gives,wr.floor,wr.stock,wr.coming,(wr.parts.filter λp=>decide (p.1≠wo.name)).take 5++[(wo.name,1+am)]⟩,S.wants⟩ _ ?_ (bz sd ewr (Zyv ewo) ⟨lg0,by omega⟩ ⟨by omega,by omega⟩) (((s14'.upd (Zyj lst')).same ul2).same u9') ((((b03.trans (b35.trans b514)).upd fl).trans (Hj ul2)).trans (Hj u9'))
   unfold Sh.d
   refine RD.tup_mk A1 (RDs.cons (RD.tup_mk (u9' _ _ A1) ?_) (RDs.one (RD.tup_mk (kf _ _ hc) (RDs.ku kf _ _ (D4 Iy Mu _) ru3))))
   rw[List.map_set]
   refine Va ?_ _ (RDs.ku kf _ _ (D4 Wr.d Ko _) rw3)
   unfold Wr.d
   exact RD.tup_mk (klf _ _ hp8) (RDs.cons RD.str_mk (RDs.cons RD.int_mk (RDs.cons RD.int_mk (RDs.cons RD.int_mk (RDs.cons RD.int_mk (RDs.cons (RD.ku (k514.trans klf) _ _ (by rw[G6];exact D4 Lo Ru _) rc5) (RDs.one (RD.ku klf _ _ (by rw[G6];exact D4 Fq Kp _) rpn14))))))))
end
set_option maxHeartbeats 4000000
section
variable {P:Program}{w:World}{K:Zzx}{mg:Str->Option Value}{base:Heap}
def wareR(w:Wr):R3:=("ware",w.name,[.inl w.lag,.inl w.gives,.inl w.floor,.inl w.stock])
def Md(n:Str)(c:Int×Int):R3:=("coming",n,[.inl c.1,.inl c.2])
def Kn(n:Str)(p:Str×Int):R3:=("part",n,[.inr p.1,.inl p.2])
def wantR(u:Wt):R3:=("want",u.1,[.inl u.2.1,.inl u.2.2])
def txv(r:R3):V:=.str (Fw (r3 r))
def Jp(w:Wr):List (List R3):=[w.coming.map (Md w.name),w.parts.map (Kn w.name)]
def Bl(S:Sh):List (List R3):=S.wares.map wareR::S.wants.map wantR::S.wares.flatMap Jp
def LsAt(H:Hp):List Addr->List (List R3)->Prop
 |[],[]=>True
 |q::qs,g::gs=>H q=some (.lst (g.map txv))/\LsAt H qs gs
 |[],_::_=>False
 |_::_,[]=>False
theorem LsAt.len{H:Hp}:∀{qs:List Addr} {gs:List (List R3)},LsAt H qs gs->qs.length=gs.length
 |[],[],_=>rfl
 |q::qs,g::gs,h=>by rw[Zzy,Zzy,LsAt.len h.2]
 |[],_::_,h=>h.elim
 |_::_,[],h=>h.elim
theorem LsAt.mono{H H':Hp}:∀{qs:List Addr} {gs:List (List R3)},LsAt H qs gs->(∀q∈qs,∀o,H q=some o->H' q=some o)->LsAt H' qs gs
 |[],[],_,_=>trivial
 |q::qs,g::gs,h,s=>⟨s q Zzs _ h.1,LsAt.mono h.2 λq hq=>s q (Zzi _ hq)⟩
 |[],_::_,h,_=>h.elim
 |_::_,[],h,_=>h.elim
theorem LsAt.same{H H':Hp}{qs:List Addr}{gs:List (List R3)}(h:LsAt H qs gs)(s:Same H H'):LsAt H' qs gs:=h.mono λq _ o=>s q o
theorem LsAt.app{H:Hp}:∀{qs qs':List Addr} {gs gs':List (List R3)},LsAt H qs gs->LsAt H qs' gs'->LsAt H (qs++qs') (gs++gs')
 |[],_,[],_,_,h=>h
 |q::qs,_,g::gs,_,h,h'=>⟨h.1,LsAt.app h.2 h'⟩
 |[],_,_::_,_,h,_=>h.elim
 |_::_,_,[],_,h,_=>h.elim
theorem LsAt.mem{H:Hp}:∀{qs:List Addr} {gs:List (List R3)} {q:Addr},LsAt H qs gs->q∈qs->∃g:List R3,H q=some (.lst (g.map txv))
 |[],[],_,_,h=>nomatch h
 |q::qs,g::gs,r,h,hq=>by
  rcases Zzw.mp hq with z | z
  ·rw[z];exact⟨g,h.1⟩
  ·exact LsAt.mem h.2 z
 |[],_::_,_,h,_=>h.elim
 |_::_,[],_,h,_=>h.elim
theorem N3:∀ws:List Wr,(ws.flatMap Jp).length=2*ws.length
 |[]=>rfl
 |w::r=>by rw[Zvx,Zzh,N3 r,Zzy];show 2+_=_;omega
theorem Si:(Str.ofString " ")=one 32:=by decide +kernel
theorem Kz{r:R3}(h:D3 (r3 r)):∀y∈r.1::(r3 r).2.map cellT,y.length<=60:=K6 h (P:=λw=>w.length<=60) (Ff h).2.1 λk hk=>(K5 (h.cells k hk)).2
theorem Lg{i:Int}(h:Lk (.inl i)):i.natAbs<10^500:=by
 have h:0<=i/\i<10^60:=h
 have:i.natAbs<10^60:=by omega
 exact Nat.lt_trans this (by decide +kernel)
theorem R5{S:Sh}(sd:SD S){w:Wr}(hw:w∈S.wares):D3 (r3 (wareR w))/\(∀c∈w.coming,D3 (r3 (Md w.name c)))/\∀p∈w.parts,D3 (r3 (Kn w.name p)):=by
 have wb:=sd.wb w hw
 have nm:Lk (.inr w.name):=sd.nm w hw
 have big:(10:Int)^42<10^60:=by decide +kernel
 have big2:(10:Int)^41<10^60:=by decide +kernel
 refine⟨⟨by show (_,_)∈formsW;unfold formsW;simp[r3,wareR,Eu],λk hk=>?_⟩,λc hc=>⟨by show (_,_)∈formsW;unfold formsW;simp[r3,Md,Eu],λk hk=>?_⟩,λp hp=>⟨by show (_,_)∈formsW;unfold formsW;simp[r3,Kn,Eu],λk hk=>?_⟩⟩
 ·simp only[r3,wareR,Zzw,Zz8,or_false] at hk
  obtain⟨h1,h2,h3,h4,_⟩:=wb
  rcases hk with rfl | rfl | rfl | rfl | rfl
  ·exact nm
  ·exact⟨h1.1,by omega⟩
  ·exact⟨by omega,by omega⟩
  ·exact⟨h3.1,by omega⟩
  ·exact⟨h4.1,by omega⟩
 ·simp only[r3,Md,Zzw,Zz8,or_false] at hk
  have h:=wb.2.2.2.2.2.2.2.2 c hc
  rcases hk with rfl | rfl | rfl
  ·exact nm
  ·exact⟨h.1.1,by omega⟩
  ·exact⟨h.2.1,by omega⟩
 ·simp only[r3,Kn,Zzw,Zz8,or_false] at hk
  have h:=wb.2.2.2.2.2.1 p hp
  rcases hk with rfl | rfl | rfl
  ·exact nm
  ·obtain⟨w',hw',e⟩:=Zza.mp (sd.own w hw p hp)
   have:Br w'.name=true:=sd.nm w' hw'
   rw[e] at this
   exact this
  ·exact⟨by omega,by omega⟩
theorem V4{S:Sh}(sd:SD S){u:Wt}(hu:u∈S.wants):D3 (r3 (wantR u)):=by
 have h:=sd.us u hu
 have big2:(10:Int)^41<10^60:=by decide +kernel
 refine⟨by show (_,_)∈formsW;unfold formsW;simp[r3,wantR,Eu],λk hk=>?_⟩
 simp only[r3,wantR,Zzw,Zz8,or_false] at hk
 rcases hk with rfl | rfl | rfl
 ·obtain⟨w',hw',e⟩:=Zza.mp h.1
  have:Br w'.name=true:=sd.nm w' hw'
  rw[e] at this
  exact this
 ·exact⟨h.2.1.1,by omega⟩
 ·exact⟨h.2.2.1,by omega⟩
theorem Ev{H H':Hp}{l:Addr}{o:HO}(s:Same H H')(n:H l=none):Same H (upd H' l o):=λa u e=>by rw[Bd (Bj e n)];exact s a u e
structure RoAt(p p1 r:Addr)(H0 H:Hp)(rs:List R3)(qs:List Addr)(gs:List (List R3)):Prop where
 hr:H r=some (.lst (.ref p::.ref p1::qs.map V.ref))
 hp:H p=some (.lst (rs.map txv))
 h1:H p1=some (.lst [])
 ls:LsAt H qs gs
 nd:(p::p1::r::qs).Nodup
 nw:∀q∈p::p1::r::qs,H0 q=none
 s:Same H0 H
theorem RoAt.same{p p1 r:Addr}{H0 H H':Hp}{rs:List R3}{qs:List Addr}{gs:List (List R3)}(h:RoAt p p1 r H0 H rs qs gs)(s:Same H H'):RoAt p p1 r H0 H' rs qs gs :=
 ⟨s _ _ h.hr,s _ _ h.hp,s _ _ h.h1,h.ls.same s,h.nd,h.nw,h.s.trans s⟩
theorem RoAt.addP{p p1 r:Addr}{H0 H:Hp}{rs:List R3}{qs:List Addr}{gs:List (List R3)}(h:RoAt p p1 r H0 H rs qs gs)(x:R3):RoAt p p1 r H0 (upd H p (.lst (rs.map txv++[txv x]))) (rs++[x]) qs gs:=by
 have nd:=Zy3.mp h.nd
 have ne:∀q∈p1::r::qs,q≠p:=λq hq z=>nd.1 (z▸hq)
 exact⟨by rw[Bd (ne r (by simp))];exact h.hr,by rw[Zyo];exact A1,by rw[Bd (ne p1 (by simp))];exact h.h1,h.ls.mono λq hq o e=>by rw[Bd (ne q (by simp[hq]))];exact e,h.nd,h.nw,Ev h.s (h.nw p (by simp))⟩
theorem RoAt.addG{p p1 r q:Addr}{H0 H:Hp}{rs:List R3}{qs:List Addr}{gs:List (List R3)}(h:RoAt p p1 r H0 H rs qs gs)(g:List R3)(hq:H q=none):RoAt p p1 r H0 (upd (upd H q (.lst (g.map txv))) r (.lst ((.ref p::.ref p1::qs.map V.ref)++[.ref q]))) rs (qs++[q]) (gs++[g]):=by
 have u:=A0 (o:=.lst (g.map txv)) hq
 have nd:=Zy3.mp h.nd
 have nd1:=Zy3.mp nd.2
 have ndr:=Zy3.mp nd1.2
 have pr:p≠r:=λz=>nd.1 (by simp[z])
 have p1r:p1≠r:=λz=>nd1.1 (by simp[z])
 have qr:∀z∈qs,z≠r:=λz hz e=>ndr.1 (e▸hz)
 have qn:q∉p::p1::r::qs:=λhz=>by
  rcases Zzw.mp hz with z | hz
  ·have:=h.hp;rw[<- z,hq] at this;cases this
  rcases Zzw.mp hz with z | hz
  ·have:=h.h1;rw[<- z,hq] at this;cases this
  rcases Zzw.mp hz with z | hz
  ·have:=h.hr;rw[<- z,hq] at this;cases this
  obtain⟨g',e⟩:=h.ls.mem hz
  rw[hq] at e;cases e
 have rq:q≠r:=λz=>qn (by simp[z])
 have h0q:H0 q=none:=by
  cases e:H0 q with
  |none=>rfl
  |some o=>rw[h.s _ _ e] at hq;cases hq
 refine⟨by rw[Zyo];exact A1,by rw[Bd pr];exact u _ _ h.hp,by rw[Bd p1r];exact u _ _ h.h1,LsAt.app (h.ls.mono λz hz o e=>by rw[Bd (qr z hz)];exact u _ _ e) ⟨by rw[Bd rq];exact A1,trivial⟩,?_,λz hz=>?_,Ev (h.s.trans u) (h.nw r (by simp))⟩
 ·show ((p::p1::r::qs)++[q]).Nodup
  rw[List.nodup_append]
  exact⟨h.nd,by simp,λx hx y hy e=>qn (by rw[<- Zzk.mp hy,<- e];exact hx)⟩
 ·have hz:z∈(p::p1::r::qs)++[q]:=hz
  rcases Zyq.mp hz with z' | z'
  ·exact h.nw z z'
  ·rw[Zzk.mp z'];exact h0q
def gn(v:V)(S:Sh)(p p1 r:Addr)(H:Hp)(i:Nat)(Z:St)(H':Hp):Prop:=∃(qs:List Addr) (o:Option V),Z=[some v,some (.ref r),o]/\RoAt p p1 r H H' ((S.wares.take i).map wareR) qs ((S.wares.take i).flatMap Jp)
def sp_law_rows:Sp:=λvs H Q _=>∃(v:V) (S:Sh),vs=[v]/\RD H S.d v/\SD S/\∀(r:Addr) (ps:List Addr) H',H' r=some (.lst (ps.map V.ref))->LsAt H' ps (Bl S)->(r::ps).Nodup->(∀q∈r::ps,H q=none)->Same H H'->Q (.ref r) H'
theorem sc_law_rows:Bv ["_law_shop_here", "_law_rows_here", "_law_ware"] ["_law_shop_here"] (A6 Jh):=⟨rfl,rfl,rfl,by decide +kernel,rfl,by decide +kernel,by decide +kernel⟩
theorem T8{f:Addr}{fd:FuncData}(F:Fun K "_law_rows" "_law_rows" Jh f fd)(T:Txt mg){c:Cl}(C:Exc K mg c):Dp P w K mg base CX0 1 f fd ["_law_shop_here"] sp_law_rows:=by
 refine F.ok sc_law_rows (λvs H Q E h=>?_) (λcdv A outer s H vs Q E hr h=>?_)
 ·obtain⟨v,S,rfl,_⟩:=h
  rfl
 ·obtain⟨v,S,rfl,rS,sd,k⟩:=h
  have hu:=Di hr
  refine⟨_,(A5 (Bs (i:=1) sc_law_rows.nd rfl (Zz0 rfl) (Bt (A3 (Bt A2) (A3 (Bt A2) A2))))
 (A5 (Jw PassesOwn.never rfl (Ku (Ag hu (pv 0) A4 (λ_ _=>rfl))) (Bq (i:=2) sc_law_rows.nd rfl (Or.inr rfl))
 (A5 (E1 (Da Zym Zy5 Zy4 Fc (Ag hu (pv 1) A4 (λ_ _=>rfl)) (A3 (Da Zys Zyi Zyh Dm Ad (A3 (Bk Fz (Bt (A3 Ad (A3 (Ag hu (pv 2) A4 (λ_ _=>rfl)) A2))) (D8 (own:=["_law_number"]) (cap:=[]) rfl (Fu rfl) (C3 (by decide)) (Ku (De V9 (pv 2) (Dd A4) (Dd A4)))
 (λ_ _ _ _ _ _=>⟨(Bq (i:=0) (of_decide_eq_true rfl) rfl (Zz0 rfl) (.inr rfl)),D7,(Bw Fv rfl T.Zub Ig (A3 (pv 0) A2))⟩))) A2)) A2)))
 (A5 (E1 (Da Zym Zy5 Zy4 Fc (pv 1) (A3 (D8 (own:=["_law_day", "_law_amount_here"]) (cap:=[2]) rfl (Fu rfl) Qa (Ku (Ag hu (pv 2) A4 (λ_ _=>rfl)))
 (λ_ _ _ _ _ _=>⟨(Of (n:=2) rfl (Gf (Bq (i:=0) (of_decide_eq_true rfl) rfl (Zz0 rfl) (.inr rfl)) (Gf (Bq (i:=1) (of_decide_eq_true rfl) rfl (Zz0 rfl) (.inr rfl)) Mo))),D7,(Da Zys Zyi Zyh Dm Ad (A3 (Bt (A3 Ad (A3 (Ag hu (pv 2) A4 (λ_ _=>rfl)) (A3 (Bw Fv rfl T.Zub Ig (A3 (pv 0) A2)) (A3 (Bw Fv rfl T.Zub Ig (A3 (pv 1) A2)) A2))))) A2))⟩)) A2)))
 (A9 (E1 (Da Zym Zy5 Zy4 Fc (pv 1) (A3 (D8 (own:=["_law_name", "_law_amount_here"]) (cap:=[2]) rfl (Fu rfl) Qa (Ku (Ag hu (pv 2) A4 (λ_ _=>rfl)))
 (λ_ _ _ _ _ _=>⟨(Of (n:=2) rfl (Gf (Bq (i:=0) (of_decide_eq_true rfl) rfl (Zz0 rfl) (.inr rfl)) (Gf (Bq (i:=1) (of_decide_eq_true rfl) rfl (Zz0 rfl) (.inr rfl)) Mo))),D7,(Da Zys Zyi Zyh Dm Ad (A3 (Bt (A3 Ad (A3 (Ag hu (pv 2) A4 (λ_ _=>rfl)) (A3 (Bw Wz rfl T.Zub Ig (A3 (pv 0) A2)) (A3 (Bw Fv rfl T.Zub Ig (A3 (pv 1) A2)) A2))))) A2))⟩)) A2)))))))
 (A5 (Ls (D8 (own:=["_law_name", "_law_day", "_law_amount_here"]) (cap:=[]) rfl (Fu rfl) Wj (Ku (Ag hu (pv 0) A4 (λ_ _=>rfl)))
 (λ_ _ _ _ _ _=>⟨(Of (n:=3) rfl (Gf (Bq (i:=0) (of_decide_eq_true rfl) rfl (Zz0 rfl) (.inr rfl)) (Gf (Bq (i:=1) (of_decide_eq_true rfl) rfl (Zz0 rfl) (.inr rfl)) (Gf (Bq (i:=2) (of_decide_eq_true rfl) rfl (Zz0 rfl) (.inr rfl)) Mo)))),D7,(Da Zys Zyi Zyh Dm Ad (A3 (Bt (A3 Ad (A3 (pv 0) (A3 (Bw Fv rfl T.Zub Ig (A3 (pv 1) A2)) (A3 (Bw Fv rfl T.Zub Ig (A3 (pv 2) A2)) A2))))) A2))⟩)) (Lv (pv 1) A4 Js))
 (A9 (Bm (pv 1)))))),?_⟩
  walk_at "rd"
  obtain⟨a,b,c,ws,us,rfl,ha,hb,hc,rw3,ru3⟩:=Qu rS
  have hwl:=Dy rw3
  have hul:=Dy ru3
  have hn:=sd.n
  refine⟨by decide,λp hp=>⟨by decide,λp1 hp1=>⟨by decide,λr hr'=>?_⟩⟩⟩
  have u1:=A0 (o:=.lst []) hp
  have u2:=A0 (o:=.lst []) hp1
  have u3:=A0 (o:=.lst [V.ref p,V.ref p1]) hr'
  have u:=(u1.trans u2).trans u3
  have hp3:=u3 _ _ (u2 _ _ A1)
  have hp13:=u3 _ _ (A1 (H:=upd H p (.lst [])) (a:=p1) (o:=.lst []))
  have hr3:=A1 (H:=upd (upd H p (.lst [])) p1 (.lst [])) (a:=r) (o:=.lst [V.ref p,V.ref p1])
  have pp1:p1≠p:=λz=>by rw[z,A1] at hp1;cases hp1
  have rp1:r≠p1:=λz=>by rw[z,A1] at hr';cases hr'
  have rp:r≠p:=λz=>by rw[z,u2 _ _ A1] at hr';cases hr'
  have n1:H p1=none:=by rw[Bd pp1] at hp1;exact hp1
  have nr:H r=none:=by rw[Bd rp1,Bd rp] at hr';exact hr'
  generalize upd (upd (upd H p (.lst [])) p1 (.lst [])) r (.lst [V.ref p,V.ref p1])=H3 at u hp3 hp13 hr3 ⊢
  refine⟨_,Ch (j:=0) (u _ _ ha) rfl,b,rfl,ws,u _ _ hb,?_⟩
  refine N2 (L5 b _) (gn (.ref a) S p p1 r H) ⟨[],_,rfl,hr3,hp3,hp13,trivial,by simp[pp1,rp,rp1,Zyj pp1,Zyj rp,Zyj rp1],(λq hq=>by rcases Zzw.mp hq with z | hq;(rw[z];exact hp);rcases Zzw.mp hq with z | hq;(rw[z];exact n1);rw[Zzk.mp hq];exact nr),u⟩ (λi Z H' _ h=>by obtain⟨_,_,_,ro⟩:=h;exact ro.s _ _ hb) (λi x Z H4 hi hx h=>?_) (λZ H4 h=>?_)
  ·obtain⟨qs,o,rfl,ro⟩:=h
   obtain⟨w',ew,rw'⟩:=J0 rw3 hx
   obtain⟨aw,cv,pv,rfl,haw,rc,rp'⟩:=Nz rw'
   have hw':=Zyv ew
   obtain⟨okw,okc,okp⟩:=R5 sd hw'
   have et:S.wares.take (i+1)=S.wares.take i++[w']:=by rw[Zxw,ew];rfl
   have i12:i<12:=by omega
   refine af (λZ' H'=>Z'=[some (.ref a),some (.ref r),some (.ref aw)]/\RoAt p p1 r H H' ((S.wares.take (i+1)).map wareR) qs ((S.wares.take i).flatMap Jp)) (λZ' H5 hM=>?_) (λKK hK=>?_)
   rotate_left
   ·walk_at "rd"
    refine⟨_,Ce (j:=0) ro.hr rfl,Fk ro.hp,rfl,_,Ch (j:=0) (ro.s _ _ haw) rfl,by decide,λq1 hq1=>?_⟩
    have v1:=A0 (o:=.lst [V.str "ware",V.str w'.name]) hq1
    have ro1:=ro.same v1
    have hq1':=A1 (H:=H4) (a:=q1) (o:=.lst [V.str "ware",V.str w'.name])
    refine⟨_,ro1.s _ _ haw,λq2 H5 hq2 s5 _=>⟨_,hq2,?_⟩⟩
    have ro2:=ro1.same s5
    have ecut:∀x1 x2 x3 x4 x5 x6 x7:V,Hz [x1,x2,x3,x4,x5,x6,x7] (some 1) (some 5)=[x2,x3,x4,x5]:=λx1 x2 x3 x4 x5 x6 x7=>by rw[Vr (by decide) (by decide)];rfl
    rw[ecut] at hq2 ⊢
    have hq1'':=s5 _ _ hq1'
    have cs:∀z:Int,.inl z∈(r3 (wareR w')).2->Lk (.inl z):=λz hz=>okw.cells _ hz
    refine Df (L5 q2 _) (by show 4<=sizeLine;decide) (λH' s'=>s' _ _ hq2) ([w'.lag,w'.gives,w'.floor,w'.stock].map λz=>V.str (Str.ofString (toString z))) rfl (λj y H' hj hy s' N M hN=>?_) (λH6 s6 q3 hq3=>?_)
    ·walk_at "rd"
     have hj:j<4:=hj
     have:j=0\/j=1\/j=2\/j=3:=by omega
     rcases this with rfl | rfl | rfl | rfl<;>(have hy:=Zyk hy;subst hy)
     ·exact⟨_,rfl,Lg (cs _ (by simp[r3,wareR])),hN _ _ s' rfl⟩
     ·exact⟨_,rfl,Lg (cs _ (by simp[r3,wareR])),hN _ _ s' rfl⟩
     ·exact⟨_,rfl,Lg (cs _ (by simp[r3,wareR])),hN _ _ s' rfl⟩
     ·exact⟨_,rfl,Lg (cs _ (by simp[r3,wareR])),hN _ _ s' rfl⟩
    ·have v3:=A0 (o:=.lst ([w'.lag,w'.gives,w'.floor,w'.stock].map λz=>V.str (Str.ofString (toString z)))) hq3
     have ro3:=(ro2.same s6).same v3
     refine⟨q3,rfl,_,v3 _ _ (s6 _ _ hq1''),_,A1,by show 6<=sizeLine;decide,λq4 hq4=>⟨(wareR w').1::(r3 (wareR w')).2.map cellT,A1,60,Kz okw,by show 6*60+6*1<=16777216;decide,p,rfl,?_⟩⟩
     have ro4:=ro3.same (A0 (o:=.lst (V.str "ware" :: V.str w'.name::[w'.lag,w'.gives,w'.floor,w'.stock].map λz=>V.str (Str.ofString (toString z)))) hq4)
     refine⟨_,ro4.hp,Zzd (m:=1000) (by simp only[Zzz,Zyg];omega) (Bi (Zzt _)),hK _ _ ⟨rfl,?_⟩⟩
     rw[Si,et,Zyo]
     exact ro4.addP (wareR w')
   obtain⟨rfl,ro5⟩:=hM
   refine af (λZ' H'=>∃q5,Z'=[some (.ref a),some (.ref r),some (.ref aw)]/\RoAt p p1 r H H' ((S.wares.take (i+1)).map wareR) (qs++[q5]) ((S.wares.take i).flatMap Jp++[w'.coming.map (Md w'.name)])) (λZ' H6 hM=>?_) (λKK hK=>?_)
   rotate_left
   ·walk_at "rd"
    obtain⟨ca,cvs,rfl,hca,rcs⟩:=RD.tup_of (RD.same ro5.s _ _ rc)
    have hcl:=Dy rcs
    have c12:=(sd.wb w' hw').2.2.2.2.2.2.2.1
    refine⟨Fk ro5.hr,_,Ch (j:=5) (ro5.s _ _ haw) rfl,ca,rfl,cvs,hca,?_⟩
    refine Df (L5 ca _) (Bi (by omega)) (λH' s'=>s' _ _ hca) ((w'.coming.map (Md w'.name)).map txv) (by rw[Zzz,Zzz,hcl]) (λj y H' hj hy s' N M hN=>?_) (λH6 s6 q3 hq3=>?_)
    ·obtain⟨cc,ec,rcc⟩:=J0 rcs hy
     obtain⟨cca,rfl,hcca⟩:=dw rcc
     refine gt2 (s' _ _ hcca) ?_
     walk_at "rd"
     have ok:=okc cc (Zyv ec)
     refine⟨rfl,_,Ch (j:=0) (s' _ _ (ro5.s _ _ haw)) rfl,Lg (ok.cells (.inl cc.1) (by simp[r3,Md])),Lg (ok.cells (.inl cc.2) (by simp[r3,Md])),by decide,λq4 hq4=>⟨(Md w'.name cc).1::(r3 (Md w'.name cc)).2.map cellT,A1,60,Kz ok,by show 4*60+4*1<=16777216;decide,hN _ _ (s'.trans (A0 hq4)) ?_⟩⟩
     rw[Zzv,Zzv,ec,Si]
     rfl
    ·have ro6:=(ro5.same s6).addG (w'.coming.map (Md w'.name)) hq3
     have hql:=ro5.ls.len
     rw[N3,Zyg] at hql
     exact⟨_,A0 hq3 _ _ (s6 _ _ ro5.hr),Zzd (m:=1000) (by simp only[Zzy,Zzz];omega) (Bi (Zzt _)),hK _ _ ⟨q3,rfl,ro6⟩⟩
   obtain⟨q5,rfl,ro6⟩:=hM
   walk_at "rd"
   obtain⟨pa,pvs,rfl,hpa,rps⟩:=RD.tup_of (RD.same ro6.s _ _ rp')
   have hpl:=Dy rps
   have p6:=(sd.wb w' hw').2.2.2.2.1
   refine⟨Fk ro6.hr,_,Ch (j:=6) (ro6.s _ _ haw) rfl,pa,rfl,pvs,hpa,?_⟩
   refine Df (L5 pa _) (Bi (by omega)) (λH' s'=>s' _ _ hpa) ((w'.parts.map (Kn w'.name)).map txv) (by rw[Zzz,Zzz,hpl]) (λj y H' hj hy s' N M hN=>?_) (λH7 s7 q3 hq3=>?_)
   ·obtain⟨cc,ec,rcc⟩:=J0 rps hy
    obtain⟨cca,rfl,hcca⟩:=Vf rcc
    refine gt2 (s' _ _ hcca) ?_
    walk_at "rd"
    have ok:=okp cc (Zyv ec)
    refine⟨rfl,_,Ch (j:=0) (s' _ _ (ro6.s _ _ haw)) rfl,Lg (ok.cells (.inl cc.2) (by simp[r3,Kn])),by decide,λq4 hq4=>⟨(Kn w'.name cc).1::(r3 (Kn w'.name cc)).2.map cellT,A1,60,Kz ok,by show 4*60+4*1<=16777216;decide,hN _ _ (s'.trans (A0 hq4)) ?_⟩⟩
    rw[Zzv,Zzv,ec,Si]
    rfl
   ·have ro7:=(ro6.same s7).addG (w'.parts.map (Kn w'.name)) hq3
    have hql:=ro6.ls.len
    simp only[Zzh,N3,Zyg,Zzy,Zyy] at hql
    refine⟨_,A0 hq3 _ _ (s7 _ _ ro6.hr),Zzd (m:=1000) (by simp only[Zzy,Zzz,Zzh,Zyy];omega) (Bi (Zzt _)),qs++[q5]++[q3],_,rfl,?_⟩
    have ef:(S.wares.take (i+1)).flatMap Jp=(S.wares.take i).flatMap Jp++[w'.coming.map (Md w'.name)]++[w'.parts.map (Kn w'.name)]:=by
     rw[et,List.flatMap_append,Zvy]
     rfl
    rw[ef]
    exact ro7
  ·obtain⟨qs,o,rfl,ro⟩:=h
   walk_at "rd"
   rw[show S.wares.take ws.length=S.wares by rw[hwl,Zxo]] at ro
   have u20:=sd.un
   refine⟨_,Ch (j:=1) (ro.s _ _ ha) rfl,c,rfl,us,ro.s _ _ hc,?_⟩
   refine Df (L5 c _) (Bi (by omega)) (λH' s'=>s' _ _ (ro.s _ _ hc)) ((S.wants.map wantR).map txv) (by rw[Zzz,Zzz,hul]) (λj y H' hj hy s' N M hN=>?_) (λH7 s7 q3 hq3=>?_)
   ·obtain⟨cc,ec,rcc⟩:=J0 ru3 hy
    obtain⟨cca,rfl,hcca⟩:=Yz rcc
    refine gt3 (s' _ _ (ro.s _ _ hcca)) ?_
    walk_at "rd"
    have ok:=V4 sd (Zyv ec)
    refine⟨rfl,Lg (ok.cells (.inl cc.2.1) (by simp[r3,wantR])),Lg (ok.cells (.inl cc.2.2) (by simp[r3,wantR])),by decide,λq4 hq4=>⟨(wantR cc).1::(r3 (wantR cc)).2.map cellT,A1,60,Kz ok,by show 4*60+4*1<=16777216;decide,hN _ _ (s'.trans (A0 hq4)) ?_⟩⟩
    rw[Zzv,Zzv,ec,Si]
    rfl
   ·have ro7:=ro.same s7
    have v3:=A0 (o:=.lst ((S.wants.map wantR).map txv)) hq3
    have ro8:=ro7.addG (S.wants.map wantR) hq3
    refine⟨_,v3 _ _ ro7.hr,1,Rx (i:=1) (by simp only[Zzy];omega) (by decide),?_⟩
    have nd:=ro8.nd
    have nr:r∉p::q3::qs:=λhz=>by
     simp only[Zy3,Zzw,Zyq] at nd
     simp only[Zzw] at hz
     rcases hz with z | z | z
     ·exact nd.1 (.inr (.inl z.symm))
     ·exact nd.2.2.1 (.inr (.inl z))
     ·exact nd.2.2.1 (.inl z)
    have ne:∀z∈p::q3::qs,z≠r:=λz hz e=>nr (e▸hz)
    refine k r (p::q3::qs) _ A1 ⟨?_,?_,?_⟩ ?_ (λz hz=>ro8.nw z ?_) (Ev (ro7.s.trans v3) (ro7.nw r (by simp)))
    ·rw[Bd (ne p (by simp))];exact v3 _ _ ro7.hp
    ·rw[Bd (ne q3 (by simp))];exact A1
    ·exact ro7.ls.mono λz hz o e=>by rw[Bd (ne z (by simp[hz]))];exact v3 _ _ e
    ·refine Zy3.mpr ⟨nr,?_⟩
     simp only[Zy3,Zzw,Zyq,List.nodup_append,not_or] at nd ⊢
     simp only[Zz8,not_false_eq_true,and_true] at nd
     obtain⟨⟨_,_,n1,n2⟩,_,_,nq,_,n3⟩:=nd
     exact⟨⟨n2,n1⟩,λhz=>n3 q3 hz q3 (.inl rfl) rfl,nq⟩
    ·simp only[Zzw,Zyq] at hz ⊢
     rcases hz with z | z | z | z
     ·exact .inr (.inr (.inl z))
     ·exact .inl z
     ·exact .inr (.inr (.inr (.inr (.inl z))))
     ·exact .inr (.inr (.inr (.inl z)))
end
set_option maxHeartbeats 4000000
def One(φ:R3->Bool)(gs:List (List R3)):Prop:=gs.Pairwise λg h=>g.filter φ=[]\/h.filter φ=[]
structure Mg(S:Sh)(rs:List R3)(gs:List (List R3)):Prop where
 all:∀r∈rs++gs.flatten,r∈(Bl S).flatten
 len:rs.length+gs.flatten.length=(Bl S).flatten.length
 fl:∀φ,One φ (Bl S)->One φ gs/\rs.filter φ++gs.flatten.filter φ=(Bl S).flatten.filter φ
theorem Fg{α:Type}{φ:R3->Bool}{f:α->R3}{xs:List α}(h:∀x∈xs,φ (f x)=false):(xs.map f).filter φ=[]:=by
 rw[Zvr]
 intro r hr
 obtain⟨x,hx,rfl⟩:=Zza.mp hr
 rw[h x hx]
 exact Zz4
theorem M8{α:Type}{φ:R3->Bool}{f:α->R3}{xs:List α}(h:∀x∈xs,φ (f x)=true):(xs.map f).filter φ=xs.map f:=by
 rw[List.filter_eq_self]
 intro r hr
 obtain⟨x,hx,rfl⟩:=Zza.mp hr
 exact h x hx
theorem Ox{φ:R3->Bool}{w:Wr}(h1:∀c,φ (Md w.name c)=false)(h2:∀p,φ (Kn w.name p)=false):∀g∈Jp w,g.filter φ=[]:=λg hg=>by
 unfold Jp at hg
 rcases Zzw.mp hg with z | z
 ·rw[z];exact Fg λc _=>h1 c
 ·rw[Zzk.mp z];exact Fg λc _=>h2 c
theorem M7{φ:R3->Bool}{gs:List (List R3)}(h:∀g∈gs,g.filter φ=[]):gs.flatten.filter φ=[]:=by
 rw[Zvr]
 intro r hr
 obtain⟨g,hg,hr⟩:=Zvn.mp hr
 exact Zvr.mp (h g hg) r hr
theorem Sz{φ:R3->Bool}{gs:List (List R3)}(h:∀g∈gs,g.filter φ=[]):One φ gs:=by
 refine Zw6.mpr λi j hi hj _=>.inl (h _ (List.getElem_mem hi))
theorem Hr{φ:R3->Bool}{g:List R3}{gs:List (List R3)}(h:g.filter φ=[]\/∀x∈gs,x.filter φ=[])(o:One φ gs):One φ (g::gs):=Zvc.mpr ⟨λx hx=>h.imp id λz=>z x hx,o⟩
def Wg(s:Str):Prop:=s = "coming" \/ s = "part"
theorem Kf{s n m:Str}{x:Str}{ks:List Key}(h:m≠n):Fi s n (x,m,ks)=false:=by
 unfold Fi
 rw[decide_eq_false h,Zxu]
theorem Ke{s n m:Str}{x:Str}{ks:List Key}(h:x≠s):Fi s n (x,m,ks)=false:=by
 unfold Fi
 rw[decide_eq_false h,Zyt]
theorem Iv{s n:Str}{ks:List Key}:Fi s n (s,n,ks)=true:=by
 unfold Fi
 rw[decide_eq_true rfl,decide_eq_true rfl]
 rfl
theorem bc{s n:Str}(h:Wg s)(w:Wr):Fi s n (wareR w)=false:=Ke (by rcases h with rfl | rfl<;>decide +kernel)
theorem bf{s n:Str}(h:Wg s)(u:Wt):Fi s n (wantR u)=false:=Ke (by rcases h with rfl | rfl<;>decide +kernel)
theorem P0{s n:Str}{ws:List Wr}(h:∀w∈ws,w.name≠n):∀g∈ws.flatMap Jp,g.filter (Fi s n)=[]:=λg hg=>by
 obtain⟨w,hw,hg⟩:=List.mem_flatMap.mp hg
 exact Ox (λc=>Kf (h w hw)) (λp=>Kf (h w hw)) g hg
theorem T4{s n:Str}(hs:Wg s):∀{ws:List Wr},(ws.map (·.name)).Nodup->One (Fi s n) (ws.flatMap Jp)
 |[],_=>Zwh
 |w::r,nd=>by
  have nd:=Zy3.mp (show (w.name::r.map (·.name)).Nodup from nd)
  have o:=T4 hs nd.2 (n:=n)
  rw[Zvx]
  show One _ (_::_::r.flatMap Jp)
  by_cases z:w.name=n
  ·have ot:∀g∈r.flatMap Jp,g.filter (Fi s n)=[]:=P0 λw' hw' e=>nd.1 (by rw[z,<- e];exact Zza.mpr ⟨w',hw',rfl⟩)
   refine Hr ?_ (Hr (.inr ot) o)
   rcases hs with rfl | rfl
   ·refine .inr λx hx=>?_
    rcases Zzw.mp hx with e | hx
    ·rw[e];exact Fg λp _=>Ke (by decide +kernel)
    ·exact ot x hx
   ·exact .inl (Fg λp _=>Ke (by decide +kernel))
  ·exact Hr (.inl (Fg λc _=>Kf z)) (Hr (.inl (Fg λc _=>Kf z)) o)
theorem Sy{s n:Str}(hs:Wg s){S:Sh}(nd:(S.wares.map (·.name)).Nodup):One (Fi s n) (Bl S) :=
 Hr (.inl (Fg λw _=>bc hs w)) (Hr (.inl (Fg λu _=>bf hs u)) (T4 hs nd))
theorem Qc{s:Str}(hs:Wg s){w:Wr}:∀{ws:List Wr},(ws.map (·.name)).Nodup->w∈ws->(ws.flatMap Jp).flatten.filter (Fi s w.name)=(Jp w).flatten.filter (Fi s w.name)
 |[],_,h=>nomatch h
 |v::r,nd,h=>by
  have nd:=Zy3.mp (show (v.name::r.map (·.name)).Nodup from nd)
  rw[Zvx,Zwq,Zy8]
  rcases Zzw.mp h with z | z
  ·subst z
   rw[M7 (gs:=r.flatMap Jp) (P0 λw' hw' e=>nd.1 (by rw[<- e];exact Zza.mpr ⟨w',hw',rfl⟩)),Zzq]
  ·have ne:v.name≠w.name:=λe=>nd.1 (by rw[e];exact Zza.mpr ⟨w,z,rfl⟩)
   rw[M7 (gs:=Jp v) (Ox (λc=>Kf ne) (λp=>Kf ne)),Zyz,Qc hs nd.2 z]
theorem ac(w:Wr):(Jp w).flatten.filter (Fi "coming" w.name)=w.coming.map (Md w.name):=by
 unfold Jp
 rw[Zy7,Zy7,Zxs,Zzq,Zy8,M8 (f:=Md w.name) (λc _=>Iv),Fg (f:=Kn w.name) (λp _=>Ke (by decide +kernel)),Zzq]
theorem Yc(w:Wr):(Jp w).flatten.filter (Fi "part" w.name)=w.parts.map (Kn w.name):=by
 unfold Jp
 rw[Zy7,Zy7,Zxs,Zzq,Zy8,M8 (f:=Kn w.name) (λc _=>Iv),Fg (f:=Md w.name) (λp _=>Ke (by decide +kernel)),Zyz]
theorem Nn{s:Str}(hs:Wg s){S:Sh}(nd:(S.wares.map (·.name)).Nodup){w:Wr}(hw:w∈S.wares):(Bl S).flatten.filter (Fi s w.name)=(Jp w).flatten.filter (Fi s w.name):=by
 unfold Bl
 rw[Zy7,Zy7,Zy8,Zy8,Fg (f:=wareR) (λw _=>bc hs w),Fg (f:=wantR) (λu _=>bf hs u),Zyz,Zyz,Qc hs nd hw]
theorem To{s:Str}(h1:s ≠ "coming")(h2:s ≠ "part")(ws:List Wr):∀g∈ws.flatMap Jp,g.filter (isS s)=[]:=λg hg=>by
 obtain⟨w,hw,hg⟩:=List.mem_flatMap.mp hg
 exact Ox (λc=>decide_eq_false (Zyj h1)) (λp=>decide_eq_false (Zyj h2)) g hg
theorem Ov(S:Sh):One (isS "ware") (Bl S)/\(Bl S).flatten.filter (isS "ware")=S.wares.map wareR:=by
 have f:=To (s := "ware") (by decide +kernel) (by decide +kernel) S.wares
 have u:(S.wants.map wantR).filter (isS "ware")=[]:=Fg λu _=>decide_eq_false (show ("want" : Str) ≠ "ware" by decide +kernel)
 refine⟨Hr (.inr λx hx=>?_) (Hr (.inl u) (Sz f)),?_⟩
 ·rcases Zzw.mp hx with e | hx
  ·rw[e];exact u
  ·exact f x hx
 ·unfold Bl
  rw[Zy7,Zy7,Zy8,Zy8,u,M7 f,Zyz,Zzq,M8 (f:=wareR) λw _=>decide_eq_true rfl]
theorem Tm(S:Sh):One (isS "want") (Bl S)/\(Bl S).flatten.filter (isS "want")=S.wants.map wantR:=by
 have f:=To (s := "want") (by decide +kernel) (by decide +kernel) S.wares
 have u:(S.wares.map wareR).filter (isS "want")=[]:=Fg λu _=>decide_eq_false (show ("ware" : Str) ≠ "want" by decide +kernel)
 refine⟨Hr (.inl u) (Hr (.inr f) (Sz f)),?_⟩
 unfold Bl
 rw[Zy7,Zy7,Zy8,Zy8,u,M7 f,Zyz,Zzq,M8 (f:=wantR) λw _=>decide_eq_true rfl]
set_option maxHeartbeats 4000000
def Yq(c:Int×Int):D:=.tup [.int c.1,.int c.2]
def Nj(p:Str×Int):D:=.tup [.str p.1,.int p.2]
def Kx(w:Wr):D:=.tup [.str w.name,.int w.lag,.int w.gives,.int w.floor,.int w.stock,.tup (w.coming.map Yq),.tup (w.parts.map Nj)]
def Pq(u:Wt):D:=.tup [.str u.1,.int u.2.1,.int u.2.2]
theorem X8{xs:List Str}(h:xs.Nodup):unl xs=true:=by
 unfold unl
 refine Zz2.mpr λx hx=>decide_eq_true ?_
 have e:(λy=>decide (y=x))=λy:Str=>y == x:=by
  funext y
  rw[Bool.beq_eq_decide_eq]
 rw[e]
 show xs.count x=1
 rw[h.count,if_pos hx]
theorem Xb(w:Wr):toD w.d=Kx w:=by
 unfold Wr.d Kx
 simp only[toD,K3,Kg]
 rfl
theorem Xc(S:Sh):toD S.d=.tup [.tup (S.wares.map Kx),.tup (S.wants.map Pq)]:=by
 unfold Sh.d
 simp only[toD,K3,Kg,Xb]
 rfl
theorem We{S:Sh}(sd:SD S){w:Wr}(hw:w∈S.wares):isWare (Kx w)=true:=by
 obtain⟨h1,h2,h3,h4,h5,h6,h7,h8,h9⟩:=sd.wb w hw
 show (Br w.name&&Cf (.int w.lag) 0 30&&Cm (.int w.gives) 1&&Cm (.int w.floor) 0&&Cm (.int w.stock) 0&&D6 (.tup (w.coming.map Yq))&&G7 (.tup (w.parts.map Nj)))=true
 have e2:Cf (.int w.lag) 0 30=true:=by
  show (decide (0<=w.lag)&&decide (w.lag<=30))=true
  rw[decide_eq_true h1.1,decide_eq_true h1.2]
  rfl
 have e3:Cm (.int w.gives) 1=true:=decide_eq_true h2.1
 have e4:Cm (.int w.floor) 0=true:=decide_eq_true h3.1
 have e5:Cm (.int w.stock) 0=true:=decide_eq_true h4.1
 have e6:D6 (.tup (w.coming.map Yq))=true:=by
  show (decide ((w.coming.map Yq).length<=12)&&(w.coming.map Yq).all Ew)=true
  rw[Zzz,decide_eq_true h8,Zyl]
  refine Zz2.mpr λd hd=>?_
  obtain⟨p,hp,rfl⟩:=Zza.mp hd
  have q:=h9 p hp
  show ((decide (0<=p.1)&&decide (p.1<=400))&&decide (0<=p.2))=true
  rw[decide_eq_true q.1.1,decide_eq_true (by omega:p.1<=400),decide_eq_true q.2.1]
  rfl
 have e7:G7 (.tup (w.parts.map Nj))=true:=by
  show (decide ((w.parts.map Nj).length<=6)&&(w.parts.map Nj).all isPart&&unl ((w.parts.map Nj).map nameOf))=true
  have e:(w.parts.map Nj).map nameOf=w.parts.map (·.1):=by
   rw[Zy6]
   rfl
  rw[Zzz,decide_eq_true h5,e,X8 h7,Zxj,Zyl]
  refine Zz2.mpr λd hd=>?_
  obtain⟨p,hp',rfl⟩:=Zza.mp hd
  show (Br p.1&&decide (1<=p.2))=true
  obtain⟨w',hw',e⟩:=Zza.mp (sd.own w hw p hp')
  have en:Br w'.name=true:=sd.nm w' hw'
  rw[e] at en
  rw[en,decide_eq_true (h6 p hp').1]
  rfl
 rw[sd.nm w hw,e2,e3,e4,e5,e6,e7]
 rfl
theorem Wf{S:Sh}(sd:SD S):Jy (toD S.d)=true:=by
 rw[Xc]
 have en:(S.wares.map Kx).map nameOf=S.wares.map (·.name):=by
  rw[Zy6]
  rfl
 show (Ia (.tup (S.wares.map Kx))&&Ib (.tup (S.wants.map Pq))&&(Ja (S.wares.map Kx) (S.wants.map Pq)).all λx=>decide (x∈(S.wares.map Kx).map nameOf))=true
 have e1:Ia (.tup (S.wares.map Kx))=true:=by
  show (decide (1<=(S.wares.map Kx).length)&&decide ((S.wares.map Kx).length<=12)&&(S.wares.map Kx).all isWare&&unl ((S.wares.map Kx).map nameOf))=true
  rw[en,Zzz,decide_eq_true sd.n.1,decide_eq_true sd.n.2,X8 sd.nd,Zxj,Zyl,Zyl]
  refine Zz2.mpr λd hd=>?_
  obtain⟨w,hw,rfl⟩:=Zza.mp hd
  exact We sd hw
 have e2:Ib (.tup (S.wants.map Pq))=true:=by
  show (decide ((S.wants.map Pq).length<=20)&&(S.wants.map Pq).all Gg)=true
  rw[Zzz,decide_eq_true sd.un,Zyl]
  refine Zz2.mpr λd hd=>?_
  obtain⟨u,hu,rfl⟩:=Zza.mp hd
  have h:=sd.us u hu
  show (Br u.1&&(decide (0<=u.2.1)&&decide (u.2.1<=400))&&decide (0<=u.2.2))=true
  obtain⟨w',hw',e⟩:=Zza.mp h.1
  have en:Br w'.name=true:=sd.nm w' hw'
  rw[e] at en
  rw[en,decide_eq_true h.2.1.1,decide_eq_true (by omega:u.2.1<=400),decide_eq_true h.2.2.1]
  rfl
 rw[e1,e2,Zyl,Zyl,en]
 refine Zz2.mpr λx hx=>decide_eq_true ?_
 unfold Ja at hx
 rcases Zyq.mp hx with z | z
 ·rw[Zy6] at z
  obtain⟨u,hu,rfl⟩:=Zza.mp z
  exact(sd.us u hu).1
 ·obtain⟨l,hl,hx⟩:=Zvn.mp z
  rw[Zy6] at hl
  obtain⟨w,hw,rfl⟩:=Zza.mp hl
  have hx:x∈(w.parts.map Nj).map nameOf:=hx
  rw[Zy6] at hx
  obtain⟨p,hp,rfl⟩:=Zza.mp hx
  exact sd.own w hw p hp
theorem Gr{α:Type}{f:α->PyData}:∀{xs:List α},(∀x∈xs,Jv (f x)=true)->Fs (xs.map f)=true
 |[],_=>rfl
 |x::r,h=>by
  rw[Zzp,Fs,h x Zzs,Gr λy hy=>h y (Zzi _ hy)]
  rfl
theorem L3{x:Str}(h:Br x=true):decide (x.length<=1000)=true:=by
 unfold Br at h
 simp only[Zzf,decide_eq_true_eq] at h
 exact decide_eq_true (by omega)
theorem Yg{S:Sh}(sd:SD S){w:Wr}(hw:w∈S.wares):Jv w.d=true:=by
 obtain⟨h1,h2,h3,h4,h5,h6,h7,h8,h9⟩:=sd.wb w hw
 have e1:Fs (w.coming.map Lo)=true:=Gr λc hc=>rfl
 have e2:Fs (w.parts.map Fq)=true:=Gr λp hp=>by
  obtain⟨w',hw',e⟩:=Zza.mp (sd.own w hw p hp)
  have en:Br w'.name=true:=sd.nm w' hw'
  rw[e] at en
  unfold Fq
  simp only[Jv,Fs,L3 en]
  rfl
 unfold Wr.d
 simp only[Jv,Fs,e1,e2,L3 (sd.nm w hw),Zzz,decide_eq_true (by omega:w.coming.length<=1000),decide_eq_true (by omega:w.parts.length<=1000)]
 rfl
theorem Yh{S:Sh}(sd:SD S):Jv S.d=true:=by
 have hn:=sd.n
 have hu:=sd.un
 have e1:Fs (S.wares.map Wr.d)=true:=Gr λw hw=>Yg sd hw
 have e2:Fs (S.wants.map Iy)=true:=Gr λu hu=>by
  obtain⟨w',hw',e⟩:=Zza.mp (sd.us u hu).1
  have en:Br w'.name=true:=sd.nm w' hw'
  rw[e] at en
  unfold Iy
  simp only[Jv,Fs,L3 en]
  rfl
 unfold Sh.d
 simp only[Jv,Fs,e1,e2,Zzz,decide_eq_true (by omega:S.wares.length<=1000),decide_eq_true (by omega:S.wants.length<=1000)]
 rfl
theorem X5{S:Sh}(sd:SD S){rs:List R3}(h:Mg S rs []):wrD rs=S.d/\rs.filter (isS "ware")=S.wares.map wareR:=by
 have pk:∀φ,One φ (Bl S)->rs.filter φ=(Bl S).flatten.filter φ:=λφ o=>by
  have:=(h.fl φ o).2
  rw[<- this]
  show _=_++[]
  rw[Zzq]
 have ew:rs.filter (isS "ware")=S.wares.map wareR:=by rw[pk _ (Ov S).1,(Ov S).2]
 have eu:rs.filter (isS "want")=S.wants.map wantR:=by rw[pk _ (Tm S).1,(Tm S).2]
 refine⟨?_,ew⟩
 unfold wrD Sh.d
 rw[ew,eu,Zy6,Zy6]
 have e1:S.wares.map (Do rs∘wareR)=S.wares.map Wr.d:=by
  refine List.map_congr_left λw hw=>?_
  show Do rs (wareR w)=w.d
  unfold Do
  have n:(wareR w).2.1=w.name:=rfl
  rw[n,pk _ (Sy (.inl rfl) sd.nd),pk _ (Sy (.inr rfl) sd.nd),Nn (.inl rfl) sd.nd hw,Nn (.inr rfl) sd.nd hw,ac,Yc,Zy6,Zy6]
  rfl
 rw[e1]
 rfl
theorem Oy{S:Sh}(sd:SD S){r:R3}(h:r∈(Bl S).flatten):D3 (r3 r)/\r.2.1∈S.wares.map (·.name):=by
 unfold Bl at h
 rw[Zy7,Zy7] at h
 have own:∀{w:Wr},w∈S.wares->w.name∈S.wares.map (·.name):=λhw=>Zza.mpr ⟨_,hw,rfl⟩
 rcases Zyq.mp h with h | h
 ·obtain⟨w,hw,rfl⟩:=Zza.mp h
  exact⟨(R5 sd hw).1,own hw⟩
 rcases Zyq.mp h with h | h
 ·obtain⟨u,hu,rfl⟩:=Zza.mp h
  exact⟨V4 sd hu,(sd.us u hu).1⟩
 obtain⟨g,hg,hr⟩:=Zvn.mp h
 obtain⟨w,hw,hg⟩:=List.mem_flatMap.mp hg
 obtain⟨_,okc,okp⟩:=R5 sd hw
 unfold Jp at hg
 rcases Zzw.mp hg with z | z
 ·rw[z] at hr
  obtain⟨c,hc,rfl⟩:=Zza.mp hr
  exact⟨okc c hc,own hw⟩
 ·rw[Zzk.mp z] at hr
  obtain⟨c,hc,rfl⟩:=Zza.mp hr
  exact⟨okp c hc,own hw⟩
theorem Qd{S:Sh}(sd:SD S):∀{ws:List Wr},(∀w∈ws,w∈S.wares)->(ws.flatMap Jp).flatten.length<=18*ws.length
 |[],_=>Zzt _
 |w::r,h=>by
  have ih:=Qd sd (ws:=r) λx hx=>h x (Zzi _ hx)
  obtain⟨_,_,_,_,h5,_,_,h8,_⟩:=sd.wb w (h w Zzs)
  rw[Zvx,Zwq,Zzh,Zzy]
  have:(Jp w).flatten.length=w.coming.length+w.parts.length:=by
   unfold Jp
   simp only[Zy7,Zxs,Zzq,Zzh,Zzz]
  omega
theorem Mk{S:Sh}(sd:SD S):(Bl S).flatten.length<=248:=by
 have hn:=sd.n
 have hu:=sd.un
 have:=Qd sd (ws:=S.wares) λ_ h=>h
 unfold Bl
 rw[Zy7,Zy7,Zzh,Zzh,Zzz,Zzz]
 omega
structure No(rs:List R3):Prop where
 ne:rs≠[]
 len:rs.length<=400
 ok:∀r∈rs,D3 (r3 r)
theorem Q1{S:Sh}(sd:SD S){rs:List R3}(h:Mg S rs []):No rs/\Fd rs=true/\Jv (wrD rs)=true:=by
 obtain⟨e1,e2⟩:=X5 sd h
 have hn:=sd.n
 have hl:=h.len
 have gl:=Mk sd
 have hall:∀r∈rs,r∈(Bl S).flatten:=λr hr=>h.all r (Zxz _ hr)
 refine⟨⟨λz=>?_,by omega,λr hr=>(Oy sd (hall r hr)).1⟩,?_,by rw[e1];exact Yh sd⟩
 ·rw[z] at e2
  have:=congrArg Zwc e2
  rw[Zzz] at this
  have:0=S.wares.length:=this
  omega
 ·unfold Fd
  rw[e1,Wf sd,Zyl,e2,Zy6]
  exact Zz2.mpr λr hr=>decide_eq_true (Oy sd (hall r hr)).2
theorem Y7{k:Key}(h:Lk k):Jv (Le k)=true:=by
 cases k with
 |inl i=>rfl
 |inr x=>exact L3 h
theorem O5{r:R3}(h:D3 (r3 r)):Fs (r.2.2.map Le)=true/\r.2.2.length<=5:=by
 have e:(r3 r).2.length=r.2.2.length+1:=rfl
 have:=(Ff h).2.2
 exact⟨Gr λk hk=>Y7 (h.cells k (Zzi _ hk)),by omega⟩
theorem Qe:∀{xs ys:List PyData},Fs xs=true->Fs ys=true->Fs (xs++ys)=true
 |[],_,_,h=>h
 |x::r,ys,h1,h2=>by
  rw[Fs,Zzf] at h1
  rw[Zze,Fs,h1.1,Qe h1.2 h2]
  rfl
theorem Yi{rs:List R3}(R:No rs):Jv (wrD rs)=true:=by
 have hl:=R.len
 have fl:∀φ:R3->Bool,(rs.filter φ).length<=1000:=λφ=>Zyu (Zx6 _ _) (by omega)
 have tl:∀φ:R3->Bool,Fs ((rs.filter φ).map Hg)=true:=λφ=>Gr λr hr=>by
  obtain⟨f1,f2⟩:=O5 (R.ok r (Zxl.mp hr).1)
  unfold Hg
  rw[Jv,f1,Zzz,decide_eq_true (by omega)]
  rfl
 have e1:Fs ((rs.filter (isS "ware")).map (Do rs))=true:=Gr λr hr=>by
  have ok:=R.ok r (Zxl.mp hr).1
  obtain⟨f1,f2⟩:=O5 ok
  have nm:decide (r.2.1.length<=1000)=true:=L3 (ok.cells (.inr r.2.1) Zzs)
  unfold Do
  rw[Jv,Qe (by rw[Fs,Jv,nm,f1];rfl) (by simp only[Fs,Jv,tl,Zzz,decide_eq_true (fl _)];rfl),decide_eq_true (by simp only[Zzh,Zzy,Zzz,Zyy];omega)]
  rfl
 have e2:Fs ((rs.filter (isS "want")).map Jb)=true:=Gr λr hr=>by
  have ok:=R.ok r (Zxl.mp hr).1
  obtain⟨f1,f2⟩:=O5 ok
  have nm:decide (r.2.1.length<=1000)=true:=L3 (ok.cells (.inr r.2.1) Zzs)
  unfold Jb
  rw[Jv,Fs,Jv,nm,f1,decide_eq_true (by simp only[Zzy,Zzz];omega)]
  rfl
 unfold wrD
 simp only[Jv,Fs,e1,e2,Zzz,decide_eq_true (fl _)]
 rfl
set_option maxHeartbeats 4000000
mutual
theorem Tq:∀d:PyData,d.canLay0=true->PyData.eqv d d=true
 |.none,_=>by rw[PyData.eqv]
 |.bool b,_=>by rw[PyData.eqv];simp
 |.int i,_=>by rw[PyData.eqv];simp
 |.str x,_=>by rw[PyData.eqv];simp
 |.list xs,h=>by
  rw[PyData.canLay0] at h
  rw[PyData.eqv]
  exact Lz xs h
 |.tuple xs,h=>by
  rw[PyData.canLay0] at h
  rw[PyData.eqv]
  exact Lz xs h
 |.dict _,h=>by rw[PyData.canLay0] at h;cases h
theorem Lz:∀ds:List PyData,PyData.canLayAll0 ds=true->PyData.eqvAll ds ds=true
 |[],_=>by rw[PyData.eqvAll]
 |d::ds,h=>by
  rw[PyData.canLayAll0,Zzf] at h
  rw[PyData.eqvAll,Tq d h.1,Lz ds h.2]
  rfl
end
theorem Mx{α:Type}(f:α->PyData):∀xs:List α,(∀x∈xs,(f x).canLay0=true)->PyData.canLayAll0 (xs.map f)=true
 |[],_=>by rw[Zyr,PyData.canLayAll0]
 |x::r,h=>by
  rw[Zzp,PyData.canLayAll0,h x Zzs,Mx f r λy hy=>h y (Zzi _ hy)]
  rfl
theorem L7{α:Type}(f:α->PyData)(n:Nat):∀xs:List α,(∀x∈xs,(f x).depth<=n)->PyData.depthAll (xs.map f)<=n
 |[],_=>by rw[Zyr,PyData.depthAll];exact Zwt _
 |x::r,h=>by
  rw[Zzp,PyData.depthAll]
  exact Nat.max_le.mpr ⟨h x Zzs,L7 f n r λy hy=>h y (Zzi _ hy)⟩
theorem Uw(u:Wt):(Iy u).depth<=1:=by unfold Iy;simp[PyData.depth,PyData.depthAll]
theorem Ux(u:Str×Int):(Fq u).depth<=1:=by unfold Fq;simp[PyData.depth,PyData.depthAll]
theorem Wv(u:Int×Int):(Lo u).depth<=1:=by unfold Lo;simp[PyData.depth,PyData.depthAll]
theorem Uv(w:Wr):w.d.depth<=3:=by
 have h1:=L7 Lo 1 w.coming λx _=>Wv x
 have h2:=L7 Fq 1 w.parts λx _=>Ux x
 unfold Wr.d
 simp only[PyData.depth,PyData.depthAll]
 omega
theorem Xr{S:Sh}(h1:∀w∈S.wares,PyData.strOk w.name=true/\∀p∈w.parts,PyData.strOk p.1=true)(h2:∀u∈S.wants,PyData.strOk u.1=true):okD S.d=true:=by
 unfold okD
 rw[Zzf]
 constructor
 ·unfold Sh.d
  rw[PyData.canLay0,PyData.canLayAll0,PyData.canLayAll0,PyData.canLayAll0,PyData.canLay0,PyData.canLay0,Mx Wr.d _ λw hw=>?_,Mx Iy _ λu hu=>?_]
  ·rfl
  ·unfold Iy
   simp only[PyData.canLay0,PyData.canLayAll0,h2 u hu,Zxj]
  ·unfold Wr.d
   have a1:PyData.canLayAll0 (w.coming.map Lo)=true:=Mx Lo _ λx _=>by unfold Lo;simp only[PyData.canLay0,PyData.canLayAll0,Zxj]
   have a2:PyData.canLayAll0 (w.parts.map Fq)=true:=Mx Fq _ λx hx=>by unfold Fq;simp only[PyData.canLay0,PyData.canLayAll0,(h1 w hw).2 x hx,Zxj]
   simp only[PyData.canLay0,PyData.canLayAll0,(h1 w hw).1,a1,a2,Zxj]
 ·have d1:=L7 Wr.d 3 S.wares λw _=>Uv w
  have d2:=L7 Iy 1 S.wants λu _=>Uw u
  refine decide_eq_true ?_
  unfold Sh.d
  simp only[PyData.depth,PyData.depthAll]
  omega
theorem Zm{d:PyData}(h:okD d=true):d.canLay0=true:=(Zxy.mp h).1
theorem Tf{x:Str}(h:Br x=true):PyData.strOk x=true:=by
 unfold Br at h
 simp only[Zzf] at h
 have all:=Zz2.mp h.2
 have lt:∀c∈letters,c<0x110000:=by decide +kernel
 unfold PyData.strOk
 rw[<- Array.all_toList]
 exact Zz2.mpr λc hc=>decide_eq_true (lt c (of_decide_eq_true (all c hc)))
abbrev Zs:=List (Addr×List R3)
def ZAt(H:Hp)(zs:Zs):Prop:=∀z∈zs,H z.1=some (.lst (z.2.map txv))
theorem bi{H:Hp}:∀{qs:List Addr} {gs:List (List R3)},LsAt H qs gs->∃zs:Zs,zs.map (·.1)=qs/\zs.map (·.2)=gs/\ZAt H zs
 |[],[],_=>⟨[],rfl,rfl,λz hz=>nomatch hz⟩
 |q::qs,g::gs,h=>by
  obtain⟨zs,e1,e2,e3⟩:=bi h.2
  refine⟨(q,g)::zs,by rw[Zzp,e1],by rw[Zzp,e2],λz hz=>?_⟩
  rcases Zzw.mp hz with e | hz
  ·rw[e];exact h.1
  ·exact e3 z hz
 |[],_::_,h=>h.elim
 |_::_,[],h=>h.elim
set_option maxHeartbeats 4000000
def Pm(rs:List R3)(n:Str):List D:=(rs.filter (Fi "coming" n)).map λr=>toD (Hg r)
def Nr(rs:List R3)(n:Str):List D:=(rs.filter (Fi "part" n)).map λr=>toD (Hg r)
def Jx(rs:List R3):List Str:=(rs.filter (isS "ware")).map (·.2.1)
theorem S9(rs:List R3)(x n:Str)(l g f s:Int):toD (Do rs (x,n,[.inl l,.inl g,.inl f,.inl s]))=.tup [.str n,.int l,.int g,.int f,.int s,.tup (Pm rs n),.tup (Nr rs n)]:=by
 unfold Do Pm Nr
 simp only[Zzp,Zyr,Le,Zze,Zyz,toD,K3,Kg]
theorem X6(x n:Str)(d a:Int):toD (Jb (x,n,[.inl d,.inl a]))=.tup [.str n,.int d,.int a]:=by
 unfold Jb
 simp only[Zzp,Zyr,Le,toD,K3]
theorem Ie{rs:List R3}(h:Fd rs=true):(rs.filter (isS "ware")).length<=12/\(∀r∈rs,r.1 = "ware" -> isWare (toD (Do rs r))=true)/\unl (Jx rs)=true/\(rs.filter (isS "want")).length<=20/\(∀r∈rs,r.1 = "want" -> Gg (toD (Jb r))=true) /\
  (∀r∈rs,r.1 = "want" -> nameOf (toD (Jb r))∈Jx rs)/\(∀r∈rs,r.1 = "ware" -> ∀d∈Og (toD (Do rs r)),nameOf d∈Jx rs)/\∀r∈rs,r.2.1∈Jx rs:=by
 unfold Fd at h
 rw[Zzf] at h
 obtain⟨h,own⟩:=h
 unfold wrD at h
 rw[toD,K3,K3,K3,toD,toD,Kg,Kg] at h
 have en:((rs.filter (isS "ware")).map λr=>toD (Do rs r)).map nameOf=Jx rs:=by
  rw[Zy6]
  exact List.map_congr_left λr _=>bh rs r
 have h:(Ia (.tup ((rs.filter (isS "ware")).map λr=>toD (Do rs r)))&&Ib (.tup ((rs.filter (isS "want")).map λr=>toD (Jb r)))&&(Ja ((rs.filter (isS "ware")).map λr=>toD (Do rs r)) ((rs.filter (isS "want")).map λr=>toD (Jb r))).all λx=>decide (x∈((rs.filter (isS "ware")).map λr=>toD (Do rs r)).map nameOf))=true:=h
 rw[en] at h
 simp only[Zzf] at h
 obtain⟨⟨h1,h2⟩,h3⟩:=h
 have h1:(decide (1<=((rs.filter (isS "ware")).map λr=>toD (Do rs r)).length)&&decide (((rs.filter (isS "ware")).map λr=>toD (Do rs r)).length<=12)&&((rs.filter (isS "ware")).map λr=>toD (Do rs r)).all isWare&&unl (((rs.filter (isS "ware")).map λr=>toD (Do rs r)).map nameOf))=true:=h1
 have h2:(decide (((rs.filter (isS "want")).map λr=>toD (Jb r)).length<=20)&&((rs.filter (isS "want")).map λr=>toD (Jb r)).all Gg)=true:=h2
 rw[en] at h1
 simp only[Zzf,decide_eq_true_eq,Zzz] at h1 h2
 have mw:∀{s:Str} {r:R3},r∈rs->r.1=s->r∈rs.filter (isS s):=λhr e=>Zxl.mpr ⟨hr,decide_eq_true e⟩
 have h3:=Zz2.mp h3
 refine⟨h1.1.1.2,λr hr e=>Zz2.mp h1.1.2 _ (Zza.mpr ⟨r,mw hr e,rfl⟩),h1.2,h2.1,λr hr e=>Zz2.mp h2.2 _ (Zza.mpr ⟨r,mw hr e,rfl⟩),λr hr e=>?_,λr hr e d hd=>?_,λr hr=>of_decide_eq_true (Zz2.mp own r hr)⟩
 ·refine of_decide_eq_true (h3 _ ?_)
  unfold Ja
  exact Zxz _ (Zza.mpr ⟨_,Zza.mpr ⟨r,mw hr e,rfl⟩,rfl⟩)
 ·refine of_decide_eq_true (h3 _ ?_)
  unfold Ja
  exact Zzl _ (Zvn.mpr ⟨_,Zza.mpr ⟨_,Zza.mpr ⟨r,mw hr e,rfl⟩,rfl⟩,Zza.mpr ⟨d,hd,rfl⟩⟩)
theorem Ld{rs:List R3}(h:Fd rs=true->False):Fd rs=false:=by
 cases e:Fd rs with
 |false=>rfl
 |true=>exact(h e).elim
theorem Rs{rs:List R3}{x n:Str}{l g f s:Int}(hr:((x,n,[.inl l,.inl g,.inl f,.inl s]):R3)∈rs)(hx:x = "ware")(hb:(Cf (.int l) 0 30&&Cm (.int g) 1&&D6 (.tup (Pm rs n))&&G7 (.tup (Nr rs n)))=false):Fd rs=false:=Ld λh=>by
 have:=(Ie h).2.1 _ hr hx
 rw[S9] at this
 have this:(Br n&&Cf (.int l) 0 30&&Cm (.int g) 1&&Cm (.int f) 0&&Cm (.int s) 0&&D6 (.tup (Pm rs n))&&G7 (.tup (Nr rs n)))=true:=this
 simp only[Zzf] at this
 obtain⟨⟨⟨⟨⟨⟨_,a1⟩,a2⟩,_⟩,_⟩,a3⟩,a4⟩:=this
 rw[a1,a2,a3,a4] at hb
 cases hb
section
variable {S:Sh}{w0:Wr}{ws:List Wr}{E:List R3}
theorem ay(e:S.wares=w0::ws)(E:List R3):wareR w0∈(Bl S).flatten++E:=by
 refine Zxz _ ?_
 unfold Bl
 rw[Zy7,e]
 exact Zxz _ Zzs
theorem Mt(e:S.wares=w0::ws)(hb:(D6 (.tup (Pm ((Bl S).flatten++E) w0.name))&&G7 (.tup (Nr ((Bl S).flatten++E) w0.name)))=false):Fd ((Bl S).flatten++E)=false:=by
 refine Rs (ay e E) rfl ?_
 rw[Bool.and_assoc,hb,Zxu]
theorem W8(e:S.wares=w0::ws)(hm:∃r∈E,Fi "coming" w0.name r=true/\Ew (toD (Hg r))=false):Fd ((Bl S).flatten++E)=false:=by
 obtain⟨r,hr,hp,hb⟩:=hm
 refine Mt e ?_
 have:D6 (.tup (Pm ((Bl S).flatten++E) w0.name))=false:=by
  show (decide _&&(Pm ((Bl S).flatten++E) w0.name).all Ew)=false
  rw[Zx7]
  refine .inr (Zy0.mpr λz=>?_)
  have:=Zz2.mp z _ (Zza.mpr ⟨r,Zxl.mpr ⟨Zzl _ hr,hp⟩,rfl⟩)
  rw[hb] at this
  cases this
 rw[this,Zyt]
theorem Zr(e:S.wares=w0::ws)(hm:∃r∈E,Fi "part" w0.name r=true/\isPart (toD (Hg r))=false):Fd ((Bl S).flatten++E)=false:=by
 obtain⟨r,hr,hp,hb⟩:=hm
 refine Mt e ?_
 have:G7 (.tup (Nr ((Bl S).flatten++E) w0.name))=false:=by
  show (decide _&&(Nr ((Bl S).flatten++E) w0.name).all isPart&&unl _)=false
  rw[Zx7,Zx7]
  refine .inl (.inr (Zy0.mpr λz=>?_))
  have:=Zz2.mp z _ (Zza.mpr ⟨r,Zxl.mpr ⟨Zzl _ hr,hp⟩,rfl⟩)
  rw[hb] at this
  cases this
 rw[this,Zxu]
theorem Zt(e:S.wares=w0::ws)(hm:12<(E.filter (Fi "coming" w0.name)).length):Fd ((Bl S).flatten++E)=false:=by
 refine Mt e ?_
 have:D6 (.tup (Pm ((Bl S).flatten++E) w0.name))=false:=by
  show (decide ((Pm ((Bl S).flatten++E) w0.name).length<=12)&&_)=false
  rw[decide_eq_false (by unfold Pm;rw[Zzz,Zy8,Zzh];omega),Zyt]
 rw[this,Zyt]
theorem Xy(e:S.wares=w0::ws){x:Str}(hm:2<=((E.filter (Fi "part" w0.name)).map λr=>nameOf (toD (Hg r))).countP λy=>decide (y=x)):Fd ((Bl S).flatten++E)=false:=by
 refine Mt e ?_
 have:G7 (.tup (Nr ((Bl S).flatten++E) w0.name))=false:=by
  show (decide _&&(Nr ((Bl S).flatten++E) w0.name).all isPart&&unl ((Nr ((Bl S).flatten++E) w0.name).map nameOf))=false
  rw[Zx7]
  refine .inr (Zy0.mpr λz=>?_)
  have en:(Nr ((Bl S).flatten++E) w0.name).map nameOf=(((Bl S).flatten.filter (Fi "part" w0.name)).map λr=>nameOf (toD (Hg r)))++(E.filter (Fi "part" w0.name)).map λr=>nameOf (toD (Hg r)):=by
   unfold Nr
   rw[Zy8,Zy6,Zyo]
   rfl
  rw[en] at z
  have hx:x∈(E.filter (Fi "part" w0.name)).map λr=>nameOf (toD (Hg r)):=by
   obtain⟨y,hy,ey⟩:=List.countP_pos_iff.mp (Zzd (by decide:0<2) hm)
   rw[<- of_decide_eq_true ey]
   exact hy
  have:=of_decide_eq_true (Zz2.mp z x (Zzl _ hx))
  rw[List.countP_append] at this
  omega
 rw[this,Zxu]
theorem Mj(S:Sh)(E:List R3):Jx ((Bl S).flatten++E)=S.wares.map (·.name)++Jx E:=by
 unfold Jx
 rw[Zy8,(Ov S).2,Zyo,Zy6]
 rfl
theorem Oq{r:R3}(sd:SD S)(hr:r∈E)(hn:r.2.1 = "a")(ha:("a" : Str)∉Jx E):Fd ((Bl S).flatten++E)=false:=Ld λh=>by
 have:=(Ie h).2.2.2.2.2.2.2 r (Zzl _ hr)
 rw[hn,Mj] at this
 rcases Zyq.mp this with z | z
 ·exact sd.na z
 ·exact ha z
theorem Zq{r:R3}(hr:r∈E)(hw:r.1 = "want")(hb:Gg (toD (Jb r))=false):Fd ((Bl S).flatten++E)=false:=Ld λh=>by
 have:=(Ie h).2.2.2.2.1 r (Zzl _ hr) hw
 rw[hb] at this
 cases this
theorem Xw(hm:20<(E.filter (isS "want")).length):Fd ((Bl S).flatten++E)=false:=Ld λh=>by
 have:=(Ie h).2.2.2.1
 rw[Zy8,Zzh] at this
 omega
theorem Xv(hm:12<(E.filter (isS "ware")).length):Fd ((Bl S).flatten++E)=false:=Ld λh=>by
 have:=(Ie h).1
 rw[Zy8,Zzh] at this
 omega
theorem Xx(e:S.wares=w0::ws)(hm:w0.name∈Jx E):Fd ((Bl S).flatten++E)=false:=Ld λh=>by
 have h:=(Ie h).2.2.1
 rw[Mj,e,Zzp] at h
 have:=of_decide_eq_true (Zz2.mp h w0.name Zzs)
 rw[Zze,List.countP_cons_of_pos (by rw[decide_eq_true_eq]),List.countP_append] at this
 have h2:0<(Jx E).countP λy=>decide (y=w0.name):=List.countP_pos_iff.mpr ⟨_,hm,decide_eq_true rfl⟩
 omega
theorem W7(sd:SD S)(e:S.wares=w0::ws){r:R3}(hr:r∈E)(hp:Fi "part" w0.name r=true)(hn:nameOf (toD (Hg r)) = "a")(ha:("a" : Str)∉Jx E):Fd ((Bl S).flatten++E)=false:=Ld λh=>by
 have:=(Ie h).2.2.2.2.2.2.1 _ (ay e E) rfl (toD (Hg r)) (by
  unfold wareR
  rw[S9]
  exact Zza.mpr ⟨r,Zxl.mpr ⟨Zzl _ hr,hp⟩,rfl⟩)
 rw[hn,Mj] at this
 rcases Zyq.mp this with z | z
 ·exact sd.na z
 ·exact ha z
end
set_option maxHeartbeats 4000000
section
variable {P:Program}{w:World}{K:Zzx}{mg:Str->Option Value}{base:Heap}
def Yr(xs:List Int):Prop:=∀x∈xs,0<=x/\x<2305843009213693951
def sp_law_mixed:Sp:=λvs H Q _=>∃c m:Int,vs=[.int c,.int m]/\0<=m/\m<=100/\∀l xs H',H' l=some (.lst (xs.map V.int))->xs.length=m.toNat->Yr xs->Same H H'->Q (.ref l) H'
def e8(c m:Int)(l:Addr)(H:Hp)(i:Nat)(Z:St)(H':Hp):Prop:=∃(xs:List Int) (n:Int) (k:Option V),Z=[some (.int c),some (.int m),some (.ref l),some (.int n),k]/\0<=n/\n<10^30/\H' l=some (.lst (xs.map V.int))/\xs.length=i/\Yr xs/\Same H H'
theorem sc_law_mixed:Bv ["_law_cell", "_law_many", "_law_found", "_law_number", "_law_k"] ["_law_cell", "_law_many"] (A6 Im):=⟨rfl,rfl,rfl,by decide +kernel,rfl,by decide +kernel,by decide +kernel⟩
theorem Rk{f:Addr}{fd:FuncData}(F:Fun K "_law_mixed" "_law_mixed" Im f fd)(T:Txt mg){c:Cl}(C:Exc K mg c):Dp P w K mg base CX0 1 f fd ["_law_cell", "_law_many"] sp_law_mixed:=by
 refine F.ok sc_law_mixed (λvs H Q E h=>?_) (λcdv A outer s H vs Q E hr h=>?_)
 ·obtain⟨c,m,rfl,_⟩:=h
  rfl
 ·obtain⟨c,m,rfl,m0,m1,k⟩:=h
  have hu:=Di hr
  refine⟨_,(A5 (Bs (i:=2) sc_law_mixed.nd rfl (Zz0 rfl) (Bt A2))
 (A5 (Bs (i:=3) sc_law_mixed.nd rfl (Zz0 rfl) (Bk Fr (Bk Rf (Bk Fa (pv 0) A4) A4) A4))
 (A5 (Jw PassesOwn.never rfl (Jl rfl T.Zth (A3 (pv 1) A2)) (Bq (i:=4) sc_law_mixed.nd rfl (Zz0 rfl))
 (A5 (Bs (i:=3) sc_law_mixed.nd rfl (Zz0 rfl) (Bk Fa (Bk Fr (Bk Fr (Bk Rf (pv 3) (Bk Fr (pv 3) A4)) (Bk Rf A4 (pv 4))) A4) A4))
 (A9 (E1 (Da Zym Zy5 Zy4 Fc (pv 2) (A3 (pv 3) A2))))))
 (A9 (Bm (pv 2)))))),?_⟩
  walk_at "rd"
  refine⟨by decide,λl hl=>?_⟩
  have d0:=Zx4 c (b:=2305843009213693951) (by decide)
  have d1:=Zx5 c (b:=2305843009213693951) (by decide)
  refine⟨by decide,.inl (.inl ⟨by omega,by omega⟩),by omega,by omega,?_⟩
  refine N2 (Qb 0 _) (e8 c m l H) ⟨[],_,_,rfl,by omega,by omega,A1,rfl,(λ_ h=>nomatch h),A0 hl⟩ (λ_ _ _ _ _=>trivial) (λi x Z H' hi hx h=>?_) (λZ H' h=>?_)
  ·obtain⟨xs,n,kk,rfl,n0,n1,hx3,l3,o3,sm⟩:=h
   subst hx
   walk_at "rd"
   have e0:=Zx4 (n*(n+32452843)+17*(0+(i:Int))+7) (b:=2305843009213693951) (by decide)
   have e1:=Zx5 (n*(n+32452843)+17*(0+(i:Int))+7) (b:=2305843009213693951) (by decide)
   have big:∀z:Int,0<=z->z<10^31->z.natAbs<10^3000:=λz h0 h1=>by
    have h2:z.natAbs<10^31:=by omega
    exact Zzd h2 (Nat.pow_le_pow_right (by decide) (by decide))
   refine⟨.inr ⟨big _ n0 (by omega),big _ (by omega) (by omega)⟩,.inl (.inl ⟨by decide,by decide⟩),by decide,Fk hx3,_,hx3,Zve (m:=1000) (by rw[Zzz];omega) (by decide),?_⟩
   refine⟨xs++[_],_,_,rfl,e0,by omega,by rw[A1,Zyo];rfl,by simp[l3],λy hy=>?_,λb o hb=>?_⟩
   ·rcases Zyq.mp hy with z | z
    ·exact o3 y z
    ·rw[Zzk.mp z];exact⟨e0,e1⟩
   ·rw[Bd (Bj hb hl)]
    exact sm b o hb
  ·obtain⟨xs,n,kk,rfl,n0,n1,hx3,l3,o3,sm⟩:=h
   walk_at "rd"
   exact k l xs H' hx3 (by omega) o3 sm
theorem gc{xs:List Int}(h:xs.length=4):∃a b c d,xs=[a,b,c,d]:=by
 match xs,h with
 |[a,b,c,d],_=>exact⟨a,b,c,d,rfl⟩
theorem Lm{r:R3}{ws:List Str}(e:ws=r.1::(r3 r).2.map cellT):V.str ((Str.ofString " ").join ws)=txv r:=by
 rw[e,Si]
 rfl
theorem Hk{r:R3}{ws:List Str}(ok:D3 (r3 r))(e:ws=r.1::(r3 r).2.map cellT):(∀y∈ws,y.length<=60)/\ws.length*60+ws.length*(Str.ofString " ").length<=16777216:=by
 subst e
 refine⟨Kz ok,?_⟩
 have:=(Ff ok).2.2
 rw[Si,Zzy,Zzz]
 show ((r3 r).2.length+1)*60+((r3 r).2.length+1)*1<=16777216
 omega
def fg(i:Int):Prop:=0<=i/\i<10^60
theorem Ft{i:Int}(h:0<=i)(h1:i<10000):fg i:=⟨h,Int.lt_trans h1 (by decide +kernel)⟩
theorem Mq{n:Str}{a b c d:Int}(hn:Br n=true)(h1:fg a)(h2:fg b)(h3:fg c)(h4:fg d):D3 (r3 ("ware",n,[.inl a,.inl b,.inl c,.inl d])):=⟨by show (_,_)∈formsW;unfold formsW;simp[r3,Eu],λk hk=>by
 simp only[r3,Zzw,Zz8,or_false] at hk
 rcases hk with rfl | rfl | rfl | rfl | rfl
 ·exact hn
 ·exact h1
 ·exact h2
 ·exact h3
 ·exact h4⟩
theorem Rn{n:Str}{a b:Int}(hn:Br n=true)(h1:fg a)(h2:fg b):D3 (r3 ("coming",n,[.inl a,.inl b])):=⟨by show (_,_)∈formsW;unfold formsW;simp[r3,Eu],λk hk=>by
 simp only[r3,Zzw,Zz8,or_false] at hk
 rcases hk with rfl | rfl | rfl
 ·exact hn
 ·exact h1
 ·exact h2⟩
theorem O1{n:Str}{a b:Int}(hn:Br n=true)(h1:fg a)(h2:fg b):D3 (r3 ("want",n,[.inl a,.inl b])):=⟨by show (_,_)∈formsW;unfold formsW;simp[r3,Eu],λk hk=>by
 simp only[r3,Zzw,Zz8,or_false] at hk
 rcases hk with rfl | rfl | rfl
 ·exact hn
 ·exact h1
 ·exact h2⟩
theorem Mr{n m:Str}{b:Int}(hn:Br n=true)(h1:Br m=true)(h2:fg b):D3 (r3 ("part",n,[.inr m,.inl b])):=⟨by show (_,_)∈formsW;unfold formsW;simp[r3,Eu],λk hk=>by
 simp only[r3,Zzw,Zz8,or_false] at hk
 rcases hk with rfl | rfl | rfl
 ·exact hn
 ·exact h1
 ·exact h2⟩
theorem c0:Str.ofString "0" = cellT (.inl 0):=by decide +kernel
theorem c1:Str.ofString "1" = cellT (.inl 1):=by decide +kernel
theorem c2:Str.ofString "2" = cellT (.inl 2):=by decide +kernel
def b0(far:Int):R3:=("ware", "aa",[.inl (31+far),.inl 1,.inl 0,.inl 0])
def b1:R3:=("ware", "aa",[.inl 0,.inl 0,.inl 5,.inl 5])
def b2(n:Str)(far:Int):R3:=("coming",n,[.inl (401+far),.inl 1])
def b3(n:Str)(far:Int):R3:=("want",n,[.inl (401+far),.inl 1])
def b4:R3:=("want", "a",[.inl 0,.inl 1])
def b5(n:Str):R3:=("part",n,[.inr "a",.inl 1])
def b6(n:Str):R3:=("part",n,[.inr n,.inl 0])
def b7(n:Str):R3:=("ware",n,[.inl 0,.inl 1,.inl 0,.inl 0])
def lets13:List Nat:=("abcdefghijklm" : Str).cps.toList
def Sa(c:Nat):R3:=("ware",one c ++ "a",[.inl 0,.inl 1,.inl 0,.inl 0])
def Wx(n:Str)(k:Nat):R3:=("coming",n,[.inl k,.inl 1])
def Pr(n:Str)(k:Nat):R3:=("want",n,[.inl 0,.inl k])
def sp_law_no_shop:Sp:=λvs H Q _=>∃(l:Addr) (n:Str) (x:Int) (S:Sh) (w0:Wr) (ws:List Wr),vs=[.ref l,.str n,.int x]/\SD S/\S.wares=w0::ws/\n=w0.name/\H l=some (.lst ((Bl S).flatten.map txv))/\∀(p:Addr) (E:List R3) H',H' p=some (.lst (((Bl S).flatten++E).map txv))->No ((Bl S).flatten++E)->Fd ((Bl S).flatten++E)=false->Same H H'->Q (.ref p) H'
theorem sc_law_no_shop:Bv ["_law_lines", "_law_name", "_law_x", "_law_xs", "_law_far", "_law_way", "_law_letters", "_law_some"] ["_law_lines", "_law_name", "_law_x"] (A6 Ga):=⟨rfl,rfl,rfl,by decide +kernel,rfl,by decide +kernel,by decide +kernel⟩
theorem On{f:Addr}{fd:FuncData}(F:Fun K "_law_no_shop" "_law_no_shop" Ga f fd)(T:Txt mg){c:Cl}(C:Exc K mg c)(Zux:Has P w K mg base "_law_mixed" 1 ["_law_cell", "_law_many"] sp_law_mixed):Dp P w K mg base CX0 2 f fd ["_law_lines", "_law_name", "_law_x"] sp_law_no_shop:=by
 refine F.ok sc_law_no_shop (λvs H Q E h=>?_) (λcdv A outer s H vs Q E hr h=>?_)
 ·obtain⟨l,n,x,S,w0,ws,rfl,_⟩:=h
  rfl
 ·obtain⟨l,n,x,S,w0,ws,rfl,sd,ew,rfl,hl,k⟩:=h
  have hu:=Di hr
  refine⟨_,(A5 (Bs (i:=3) sc_law_no_shop.nd rfl (Zz0 rfl) (A8 Zux (hr.mono (by decide)) rfl (A3 (pv 2) (A3 A4 A2))))
 (A5 (Bs (i:=4) sc_law_no_shop.nd rfl (Zz0 rfl) (Bk Fa (Ag hu (pv 3) A4 (λ_ _=>rfl)) A4))
 (A5 (Bs (i:=5) sc_law_no_shop.nd rfl (Zz0 rfl) (Bk Fa (Ag hu (pv 3) A4 (λ_ _=>rfl)) A4))
 (A5 (Bs (i:=6) sc_law_no_shop.nd rfl (Zz0 rfl) Ad)
 (A5 (D9 (C4 (E2 hu) (pv 5) A4 (Cg _)) (A9 (Bm (Bk Fz (pv 0) (D8 (own:=["_law_letter"]) (cap:=[]) rfl (Fu rfl) (C3 (by decide)) (Kw (pv 6))
 (λ_ _ _ _ _ _=>⟨(Bq (i:=0) (of_decide_eq_true rfl) rfl (Zz0 rfl) (.inr rfl)),D7,(Da Zys Zyi Zyh Dm Ad (A3 (Bt (A3 Ad (A3 (Bk Mi (pv 0) Ad) (A3 Ad (A3 Ad (A3 Ad (A3 Ad A2))))))) A2))⟩))))) Ca)
 (A5 (D9 (C4 (E2 hu) (pv 5) A4 (Cg _)) (A9 (Bm (Bk Fz (pv 0) (D8 (own:=["_law_k"]) (cap:=[1]) rfl (Fu rfl) (C3 (by decide)) (Jl rfl T.Zth (A3 A4 A2))
 (λ_ _ _ _ _ _=>⟨(Bq (i:=0) (of_decide_eq_true rfl) rfl (Zz0 rfl) (.inr rfl)),D7,(Da Zys Zyi Zyh Dm Ad (A3 (Bt (A3 Ad (A3 (pv 1) (A3 (Bw Fv rfl T.Zub Ig (A3 (pv 0) A2)) (A3 Ad A2))))) A2))⟩))))) Ca)
 (A5 (D9 (C4 (E2 hu) (pv 5) A4 (Cg _)) (A9 (Bm (Bk Fz (pv 0) (D8 (own:=["_law_k"]) (cap:=[1]) rfl (Fu rfl) (C3 (by decide)) (Jl rfl T.Zth (A3 A4 A2))
 (λ_ _ _ _ _ _=>⟨(Bq (i:=0) (of_decide_eq_true rfl) rfl (Zz0 rfl) (.inr rfl)),D7,(Da Zys Zyi Zyh Dm Ad (A3 (Bt (A3 Ad (A3 (pv 1) (A3 Ad (A3 (Bw Fv rfl T.Zub Ig (A3 (pv 0) A2)) A2))))) A2))⟩))))) Ca)
 (A5 (D9 (C4 (E2 hu) (pv 5) A4 (Cg _)) (A9 (Bm (Bk Fz (pv 0) (Bt (A3 (Da Zys Zyi Zyh Dm Ad (A3 (Bt (A3 Ad (A3 (pv 1) (A3 (pv 1) (A3 Ad A2))))) A2)) (A3 (Da Zys Zyi Zyh Dm Ad (A3 (Bt (A3 Ad (A3 (pv 1) (A3 (pv 1) (A3 Ad A2))))) A2)) A2)))))) Ca)
 (A5 (D9 (C4 Sx (pv 5) A4 (Cg _)) (A9 (Bm (Bk Fz (pv 0) (Bt (A3 (Ag hu (Bt (A3 Ad (A3 (Da Zys Zyi Zyh Dm Ad (A3 (Bt (A3 Ad (A3 Ad (A3 (pv 1) (A3 Ad A2))))) A2)) A2))) (Bk U9 (pv 5) A4) (λ_ _=>rfl)) A2))))) Ca)
 (A5 (Bs (i:=7) sc_law_no_shop.nd rfl (Zz0 rfl) (Bt (A3 (Da Zys Zyi Zyh Dm Ad (A3 (Bt (A3 Ad (A3 Ad (A3 (Bw Fv rfl T.Zub Ig (A3 (Bk Fr A4 (pv 4)) A2)) (A3 Ad (A3 Ad (A3 Ad A2))))))) A2)) (A3 Ad A2))))
 (A5 (Bs (i:=7) sc_law_no_shop.nd rfl (Zz0 rfl) (Bk Fz (pv 7) (Bt (A3 (Da Zys Zyi Zyh Dm Ad (A3 (Bt (A3 Ad (A3 (pv 1) (A3 (Bw Fv rfl T.Zub Ig (A3 (Bk Fr A4 (pv 4)) A2)) (A3 Ad A2))))) A2)) (A3 (Da Zys Zyi Zyh Dm Ad (A3 (Bt (A3 Ad (A3 (pv 1) (A3 (Bw Fv rfl T.Zub Ig (A3 (Bk Fr A4 (pv 4)) A2)) (A3 Ad A2))))) A2)) A2)))))
 (A5 (Bs (i:=7) sc_law_no_shop.nd rfl (Zz0 rfl) (Bk Fz (pv 7) (Bt (A3 Ad (A3 (Da Zys Zyi Zyh Dm Ad (A3 (Bt (A3 Ad (A3 (pv 1) (A3 Ad (A3 Ad A2))))) A2)) (A3 (Da Zys Zyi Zyh Dm Ad (A3 (Bt (A3 Ad (A3 (pv 1) (A3 (pv 1) (A3 Ad A2))))) A2)) A2))))))
 (A5 (E1 (Da Zym Zy5 Zy4 Fc (pv 7) (A3 (Da Zys Zyi Zyh Dm Ad (A3 (Bt (A3 Ad (A3 (pv 1) (A3 Ad (A3 Ad (A3 Ad (A3 Ad A2))))))) A2)) A2)))
 (A9 (Bm (Bk Fz (pv 0) (Bt (A3 (Ag hu (pv 7) (pv 5) (λ_ _=>rfl)) A2)))))))))))))))))),?_⟩
  walk_at "rd"
  refine⟨x,4,rfl,by decide,by decide,λxl xs H1 hx len ok sm=>?_⟩
  obtain⟨x0,x1,x2,x3,rfl⟩:=gc len
  have nm0:Br w0.name=true:=sd.nm w0 (by rw[ew];exact Zzs)
  obtain⟨⟨gne,glen,gok⟩,_,_⟩:=Q1 sd (rs:=(Bl S).flatten) ⟨λr hr=>by rw[Zxs,Zzq] at hr;exact hr,by rw[Zxs];rfl,λφ o=>⟨Zwh,by rw[Zxs,List.filter_nil,Zzq]⟩⟩
  have gl:=Mk sd
  have fin:∀(E:List R3) {q:Addr} {H2:Hp},Same H H2->H2 q=some (.lst (E.map txv))->E.length<=21->(∀r∈E,D3 (r3 r))->Fd ((Bl S).flatten++E)=false->∃y,H2 l=some (.lst y)/\∃z,H2 q=some (.lst z)/\y.length+z.length<=sizeLine/\∀p,H2 p=none->Q (.ref p) (upd H2 p (.lst (y++z))):=λE q H2 s2 hq el eo eb=>by
   refine⟨_,s2 _ _ hl,_,hq,Bi (by simp only[Zzz];omega),λp hp=>k p E _ (by rw[A1,Zyo]) ⟨λz=>gne (List.append_eq_nil_iff.mp z).1,by rw[Zzh];omega,λr hr=>?_⟩ eb (s2.trans (A0 hp))⟩
   rcases Zyq.mp hr with z | z
   ·exact gok r z
   ·exact eo r z
  have mx0:=ok x0 (by simp)
  have mx1:=ok x1 (by simp)
  have far0:0<=x1 % 1000/\x1 % 1000<1000:=by omega
  have way0:0<=x0 % 14/\x0 % 14<14:=by omega
  refine⟨_,Ce (j:=1) hx rfl,_,rfl,by decide,_,Ce (j:=0) hx rfl,_,rfl,by decide,rfl,?_⟩
  generalize x1 % 1000=far at far0
  generalize x0 % 14=way at way0
  refine Fj (λc8=>?_) (λc8=>⟨rfl,Fj (λc9=>?_) (λc9=>⟨rfl,Fj (λc10=>?_) (λc10=>⟨rfl,Fj (λc11=>?_) (λc11=>?_)⟩)⟩)⟩)
  ·refine Df (Yd _) (by decide) (λ_ _=>trivial) ((lets13.map Sa).map txv) (by decide +kernel) (λj y H' hj hy s' N M hN=>?_) (λH2 s2 q hq=>?_)
   ·obtain⟨c,ec,rfl⟩:=hy
    walk_at "rd"
    have hc:c∈lets13:=Array.mem_toList_iff.mpr (Array.mem_of_getElem? ec)
    have isn:∀c∈lets13,Br (one c ++ "a")=true:=by decide +kernel
    have okr:D3 (r3 (Sa c)):=Mq (isn c hc) (Ft (by decide) (by decide)) (Ft (by decide) (by decide)) (Ft (by decide) (by decide)) (Ft (by decide) (by decide))
    have ew':([Str.ofString "ware",one c++Str.ofString "a",Str.ofString "0",Str.ofString "1",Str.ofString "0",Str.ofString "0"]:List Str)=(Sa c).1::(r3 (Sa c)).2.map cellT:=by rw[c0,c1];rfl
    obtain⟨j1,j2⟩:=Hk okr ew'
    refine⟨rfl,by show 2<=sizeLine;decide,by decide,λp hp=>⟨_,A1 (o:=.lst (([Str.ofString "ware",one c++Str.ofString "a",Str.ofString "0",Str.ofString "1",Str.ofString "0",Str.ofString "0"]:List Str).map V.str)),60,j1,j2,hN _ _ (s'.trans (A0 hp)) ?_⟩⟩
    rw[Lm ew',Zzv,Zzv]
    have:lets13[j]?=some c:=by unfold lets13;rw[Zwy];exact ec
    rw[this]
    rfl
   ·exact⟨q,rfl,fin (lets13.map Sa) ((sm.trans s2).trans (A0 hq)) A1 (by decide +kernel) (λr hr=>by
     obtain⟨c,hc,rfl⟩:=Zza.mp hr
     have:∀c∈lets13,Br (one c ++ "a")=true:=by decide +kernel
     exact Mq (this c hc) (Ft (by decide) (by decide)) (Ft (by decide) (by decide)) (Ft (by decide) (by decide)) (Ft (by decide) (by decide))) (Xv (by decide +kernel))⟩
  ·refine⟨by decide,by decide,Df (Qb 0 _) (by decide) (λ_ _=>trivial) (((Zx2 13).map (Wx w0.name)).map txv) (by rw[Zzz,Zzz,Zww];rfl) (λj y H' hj hy s' N M hN=>?_) (λH2 s2 q hq=>?_)⟩
   ·subst hy
    walk_at "rd"
    have hj:j<13:=hj
    have okr:D3 (r3 (Wx w0.name j)):=Rn nm0 (Ft (by omega) (by omega)) (Ft (by decide) (by decide))
    have ew':([Str.ofString "coming",w0.name,Str.ofString (toString (j:Int)),Str.ofString "1"]:List Str)=(Wx w0.name j).1::(r3 (Wx w0.name j)).2.map cellT:=by rw[c1];rfl
    obtain⟨j1,j2⟩:=Hk okr ew'
    rw[show (0:Int)+(j:Int)=(j:Int) by omega]
    refine⟨rfl,Zzd (m:=1000) (by omega) (by decide +kernel),by decide,λp hp=>⟨_,A1 (o:=.lst (([Str.ofString "coming",w0.name,Str.ofString (toString (j:Int)),Str.ofString "1"]:List Str).map V.str)),60,j1,j2,hN _ _ (s'.trans (A0 hp)) ?_⟩⟩
    rw[Lm ew',Zzv,Zzv,List.getElem?_range hj]
    rfl
   ·refine⟨q,rfl,fin ((Zx2 13).map (Wx w0.name)) ((sm.trans s2).trans (A0 hq)) A1 (by rw[Zzz,Zww];decide) (λr hr=>?_) (Zt ew ?_)⟩
    ·obtain⟨c,hc,rfl⟩:=Zza.mp hr
     have:=List.mem_range.mp hc
     exact Rn nm0 (Ft (by omega) (by omega)) (Ft (by decide) (by decide))
    ·rw[M8 (f:=Wx w0.name) λc _=>Iv,Zzz,Zww]
     decide
  ·refine⟨by decide,by decide,Df (Qb 0 _) (by decide) (λ_ _=>trivial) (((Zx2 21).map (Pr w0.name)).map txv) (by rw[Zzz,Zzz,Zww];rfl) (λj y H' hj hy s' N M hN=>?_) (λH2 s2 q hq=>?_)⟩
   ·subst hy
    walk_at "rd"
    have hj:j<21:=hj
    have okr:D3 (r3 (Pr w0.name j)):=O1 nm0 (Ft (by decide) (by decide)) (Ft (by omega) (by omega))
    have ew':([Str.ofString "want",w0.name,Str.ofString "0",Str.ofString (toString (j:Int))]:List Str)=(Pr w0.name j).1::(r3 (Pr w0.name j)).2.map cellT:=by rw[c0];rfl
    obtain⟨j1,j2⟩:=Hk okr ew'
    rw[show (0:Int)+(j:Int)=(j:Int) by omega]
    refine⟨rfl,Zzd (m:=1000) (by omega) (by decide +kernel),by decide,λp hp=>⟨_,A1 (o:=.lst (([Str.ofString "want",w0.name,Str.ofString "0",Str.ofString (toString (j:Int))]:List Str).map V.str)),60,j1,j2,hN _ _ (s'.trans (A0 hp)) ?_⟩⟩
    rw[Lm ew',Zzv,Zzv,List.getElem?_range hj]
    rfl
   ·refine⟨q,rfl,fin ((Zx2 21).map (Pr w0.name)) ((sm.trans s2).trans (A0 hq)) A1 (by rw[Zzz,Zww];decide) (λr hr=>?_) (Xw ?_)⟩
    ·obtain⟨c,hc,rfl⟩:=Zza.mp hr
     have:=List.mem_range.mp hc
     exact O1 nm0 (Ft (by decide) (by decide)) (Ft (by omega) (by omega))
    ·rw[M8 (f:=Pr w0.name) λc _=>decide_eq_true rfl,Zzz,Zww]
     decide
  ·have o1:D3 (r3 ("part",w0.name,[.inr w0.name,.inl 1])):=Mr nm0 nm0 (Ft (by decide) (by decide))
   have o2:D3 (r3 ("part",w0.name,[.inr w0.name,.inl 2])):=Mr nm0 nm0 (Ft (by decide) (by decide))
   have e1:([Str.ofString "part",w0.name,w0.name,Str.ofString "1"]:List Str)=(("part",w0.name,[.inr w0.name,.inl 1]):R3).1::(r3 ("part",w0.name,[.inr w0.name,.inl 1])).2.map cellT:=by rw[c1];rfl
   have e2:([Str.ofString "part",w0.name,w0.name,Str.ofString "2"]:List Str)=(("part",w0.name,[.inr w0.name,.inl 2]):R3).1::(r3 ("part",w0.name,[.inr w0.name,.inl 2])).2.map cellT:=by rw[c2];rfl
   refine⟨rfl,by decide,λp hp=>⟨[Str.ofString "part",w0.name,w0.name,Str.ofString "1"],A1,60,(Hk o1 e1).1,(Hk o1 e1).2,rfl,by decide,λp1 hp1=>⟨[Str.ofString "part",w0.name,w0.name,Str.ofString "2"],A1,60,(Hk o2 e2).1,(Hk o2 e2).2,by decide,λp2 hp2=>?_⟩⟩⟩
   rw[Lm e1,Lm e2]
   refine fin [("part",w0.name,[.inr w0.name,.inl 1]),("part",w0.name,[.inr w0.name,.inl 2])] (((sm.trans (A0 hp)).trans (A0 hp1)).trans (A0 hp2)) A1 (by show 2<=21;decide) (λr hr=>?_) (Xy ew (x:=w0.name) ?_)
   ·simp only[Zzw,Zz8,or_false] at hr
    rcases hr with rfl | rfl
    ·exact o1
    ·exact o2
   ·rw[Zvp,if_pos Iv,Zvp,if_pos Iv]
    simp[Hg,Le,toD,K3,nameOf]
  ·refine Fj (λc12=>?_) (λc12=>?_)
   ·have c12:=of_decide_eq_true c12
    have o1:D3 (r3 ("part", "a",[.inr w0.name,.inl 1])):=Mr (by decide +kernel) nm0 (Ft (by decide) (by decide))
    have o2:D3 (r3 ("coming", "a",[.inl 0,.inl 1])):=Rn (by decide +kernel) (Ft (by decide) (by decide)) (Ft (by decide) (by decide))
    have e1:([Str.ofString "part",Str.ofString "a",w0.name,Str.ofString "1"]:List Str)=(("part", "a",[.inr w0.name,.inl 1]):R3).1::(r3 ("part", "a",[.inr w0.name,.inl 1])).2.map cellT:=by rw[c1];rfl
    have e2:V.str (Str.ofString "coming a 0 1")=txv ("coming", "a",[.inl 0,.inl 1]):=congrArg V.str (by decide +kernel)
    refine⟨rfl,by decide,λp hp=>⟨[Str.ofString "part",Str.ofString "a",w0.name,Str.ofString "1"],A1,60,(Hk o1 e1).1,(Hk o1 e1).2,by decide,λp1 hp1=>?_⟩⟩
    rw[Lm e1,e2]
    have w12:way=12\/way=13:=by omega
    rcases w12 with rfl | rfl
    ·refine⟨_,Ce (j:=0) A1 rfl,by decide,λp2 hp2=>?_⟩
     refine fin [("coming", "a",[.inl 0,.inl 1])] (((sm.trans (A0 hp)).trans (A0 hp1)).trans (A0 hp2)) A1 (by show 1<=21;decide) (λr hr=>by rw[Zzk.mp hr];exact o2) (Oq sd Zzs rfl (by decide +kernel))
    ·refine⟨_,Ce (j:=1) A1 rfl,by decide,λp2 hp2=>?_⟩
     refine fin [("part", "a",[.inr w0.name,.inl 1])] (((sm.trans (A0 hp)).trans (A0 hp1)).trans (A0 hp2)) A1 (by show 1<=21;decide) (λr hr=>by rw[Zzk.mp hr];exact o1) (Oq sd Zzs rfl (λz=>by cases z))
   ·have c12:¬ 11<way:=λz=>c12 (decide_eq_true z)
    have nba:∀z:Int,0<=z->z<10000->z.natAbs<10^500:=λz h0 h1=>Zzd (m:=10000) (by omega) (by decide +kernel)
    have na:Br "a" = true:=by decide +kernel
    have naa:Br "aa" = true:=by decide +kernel
    have f0:fg 0:=Ft (by decide) (by decide)
    have f1:fg 1:=Ft (by decide) (by decide)
    have f5:fg 5:=Ft (by decide) (by decide)
    have o0:D3 (r3 (b0 far)):=Mq naa (Ft (by omega) (by omega)) f1 f0 f0
    have e0:([Str.ofString "ware",Str.ofString "aa",Str.ofString (toString (31+far)),Str.ofString "1",Str.ofString "0",Str.ofString "0"]:List Str)=(b0 far).1::(r3 (b0 far)).2.map cellT:=by rw[c1,c0];rfl
    have o1:D3 (r3 b1):=Mq naa f0 f0 f5 f5
    have e1:V.str (Str.ofString "ware aa 0 0 5 5")=txv b1:=congrArg V.str (by decide +kernel)
    have o2:D3 (r3 (b2 w0.name far)):=Rn nm0 (Ft (by omega) (by omega)) f1
    have e2:([Str.ofString "coming",w0.name,Str.ofString (toString (401+far)),Str.ofString "1"]:List Str)=(b2 w0.name far).1::(r3 (b2 w0.name far)).2.map cellT:=by rw[c1];rfl
    have o3:D3 (r3 (b3 w0.name far)):=O1 nm0 (Ft (by omega) (by omega)) f1
    have e3:([Str.ofString "want",w0.name,Str.ofString (toString (401+far)),Str.ofString "1"]:List Str)=(b3 w0.name far).1::(r3 (b3 w0.name far)).2.map cellT:=by rw[c1];rfl
    have o4:D3 (r3 b4):=O1 na f0 f1
    have e4:V.str (Str.ofString "want a 0 1")=txv b4:=congrArg V.str (by decide +kernel)
    have o5:D3 (r3 (b5 w0.name)):=Mr nm0 na f1
    have e5:([Str.ofString "part",w0.name,Str.ofString "a",Str.ofString "1"]:List Str)=(b5 w0.name).1::(r3 (b5 w0.name)).2.map cellT:=by rw[c1];rfl
    have o6:D3 (r3 (b6 w0.name)):=Mr nm0 nm0 f0
    have e6:([Str.ofString "part",w0.name,w0.name,Str.ofString "0"]:List Str)=(b6 w0.name).1::(r3 (b6 w0.name)).2.map cellT:=by rw[c0];rfl
    have o7:D3 (r3 (b7 w0.name)):=Mq nm0 f0 f1 f0 f0
    have e7:([Str.ofString "ware",w0.name,Str.ofString "0",Str.ofString "1",Str.ofString "0",Str.ofString "0"]:List Str)=(b7 w0.name).1::(r3 (b7 w0.name)).2.map cellT:=by rw[c1,c0];rfl
    refine⟨rfl,nba _ (by omega) (by omega),by decide,λp hp=>⟨_,A1 (o:=.lst (([Str.ofString "ware",Str.ofString "aa",Str.ofString (toString (31+far)),Str.ofString "1",Str.ofString "0",Str.ofString "0"]:List Str).map V.str)),60,(Hk o0 e0).1,(Hk o0 e0).2,by decide,λp1 hp1=>?_⟩⟩
    rw[Lm e0,e1]
    obtain⟨G1,s1,g1,hG⟩:∃G1,Same H G1/\G1 p1=some (.lst [txv (b0 far),txv b1])/\upd (upd H1 p (.lst (([Str.ofString "ware",Str.ofString "aa",Str.ofString (toString (31+far)),Str.ofString "1",Str.ofString "0",Str.ofString "0"]:List Str).map V.str))) p1 (.lst [txv (b0 far),txv b1])=G1:=⟨_,(sm.trans (A0 hp)).trans (A0 hp1),A1,rfl⟩
    have hG:upd (upd H1 p (.lst [V.str (Str.ofString "ware"),V.str (Str.ofString "aa"),V.str (Str.ofString (toString (31+far))),V.str (Str.ofString "1"),V.str (Str.ofString "0"),V.str (Str.ofString "0")])) p1 (.lst [txv (b0 far),txv b1])=G1:=hG
    rw[hG]
    refine⟨rfl,nba _ (by omega) (by omega),by decide,λp2 hp2=>⟨_,A1 (o:=.lst (([Str.ofString "coming",w0.name,Str.ofString (toString (401+far)),Str.ofString "1"]:List Str).map V.str)),60,(Hk o2 e2).1,(Hk o2 e2).2,rfl,nba _ (by omega) (by omega),by decide,λp3 hp3=>⟨_,A1 (o:=.lst (([Str.ofString "want",w0.name,Str.ofString (toString (401+far)),Str.ofString "1"]:List Str).map V.str)),60,(Hk o3 e3).1,(Hk o3 e3).2,by decide,λp4 hp4=>?_⟩⟩⟩
    rw[Lm e2,Lm e3]
    refine⟨_,A0 hp4 _ _ (A0 hp3 _ _ (A0 hp2 _ _ g1)),_,A1,by show 4<=sizeLine;decide,λp5 hp5=>?_⟩
    have s2:=(((s1.trans (A0 hp2)).trans (A0 hp3)).trans (A0 hp4)).trans (A0 (o:=(.lst ([txv (b0 far),txv b1]++[txv (b2 w0.name far),txv (b3 w0.name far)]))) hp5)
    have g2:upd (upd (upd (upd G1 p2 (.lst [V.str (Str.ofString "coming"),V.str w0.name,V.str (Str.ofString (toString (401+far))),V.str (Str.ofString "1")])) p3 (.lst [V.str (Str.ofString "want"),V.str w0.name,V.str (Str.ofString (toString (401+far))),V.str (Str.ofString "1")])) p4 (.lst [txv (b2 w0.name far),txv (b3 w0.name far)])) p5 (.lst ([txv (b0 far),txv b1]++[txv (b2 w0.name far),txv (b3 w0.name far)])) p5=some (.lst [txv (b0 far),txv b1,txv (b2 w0.name far),txv (b3 w0.name far)]):=A1
    have s2:Same H (upd (upd (upd (upd G1 p2 (.lst [V.str (Str.ofString "coming"),V.str w0.name,V.str (Str.ofString (toString (401+far))),V.str (Str.ofString "1")])) p3 (.lst [V.str (Str.ofString "want"),V.str w0.name,V.str (Str.ofString (toString (401+far))),V.str (Str.ofString "1")])) p4 (.lst [txv (b2 w0.name far),txv (b3 w0.name far)])) p5 (.lst ([txv (b0 far),txv b1]++[txv (b2 w0.name far),txv (b3 w0.name far)]))):=s2
    generalize upd (upd (upd (upd G1 p2 (.lst [V.str (Str.ofString "coming"),V.str w0.name,V.str (Str.ofString (toString (401+far))),V.str (Str.ofString "1")])) p3 (.lst [V.str (Str.ofString "want"),V.str w0.name,V.str (Str.ofString (toString (401+far))),V.str (Str.ofString "1")])) p4 (.lst [txv (b2 w0.name far),txv (b3 w0.name far)])) p5 (.lst ([txv (b0 far),txv b1]++[txv (b2 w0.name far),txv (b3 w0.name far)]))=G2 at s2 g2 ⊢
    refine⟨rfl,by decide,λp6 hp6=>⟨_,A1 (o:=.lst (([Str.ofString "part",w0.name,Str.ofString "a",Str.ofString "1"]:List Str).map V.str)),60,(Hk o5 e5).1,(Hk o5 e5).2,rfl,by decide,λp7 hp7=>⟨_,A1 (o:=.lst (([Str.ofString "part",w0.name,w0.name,Str.ofString "0"]:List Str).map V.str)),60,(Hk o6 e6).1,(Hk o6 e6).2,by decide,λp8 hp8=>?_⟩⟩⟩
    rw[Lm e5,Lm e6,e4]
    refine⟨_,A0 hp8 _ _ (A0 hp7 _ _ (A0 hp6 _ _ g2)),_,A1,by show 7<=sizeLine;decide,λp9 hp9=>?_⟩
    have s3:Same H (upd (upd (upd (upd G2 p6 (.lst [V.str (Str.ofString "part"),V.str w0.name,V.str (Str.ofString "a"),V.str (Str.ofString "1")])) p7 (.lst [V.str (Str.ofString "part"),V.str w0.name,V.str w0.name,V.str (Str.ofString "0")])) p8 (.lst [txv b4,txv (b5 w0.name),txv (b6 w0.name)])) p9 (.lst ([txv (b0 far),txv b1,txv (b2 w0.name far),txv (b3 w0.name far)]++[txv b4,txv (b5 w0.name),txv (b6 w0.name)]))):=(((s2.trans (A0 hp6)).trans (A0 hp7)).trans (A0 hp8)).trans (A0 hp9)
    have g3:upd (upd (upd (upd G2 p6 (.lst [V.str (Str.ofString "part"),V.str w0.name,V.str (Str.ofString "a"),V.str (Str.ofString "1")])) p7 (.lst [V.str (Str.ofString "part"),V.str w0.name,V.str w0.name,V.str (Str.ofString "0")])) p8 (.lst [txv b4,txv (b5 w0.name),txv (b6 w0.name)])) p9 (.lst ([txv (b0 far),txv b1,txv (b2 w0.name far),txv (b3 w0.name far)]++[txv b4,txv (b5 w0.name),txv (b6 w0.name)])) p9=some (.lst [txv (b0 far),txv b1,txv (b2 w0.name far),txv (b3 w0.name far),txv b4,txv (b5 w0.name),txv (b6 w0.name)]):=A1
    have n9:H p9=none:=Same.free (((s2.trans (A0 hp6)).trans (A0 hp7)).trans (A0 hp8)) hp9
    generalize upd (upd (upd (upd G2 p6 (.lst [V.str (Str.ofString "part"),V.str w0.name,V.str (Str.ofString "a"),V.str (Str.ofString "1")])) p7 (.lst [V.str (Str.ofString "part"),V.str w0.name,V.str w0.name,V.str (Str.ofString "0")])) p8 (.lst [txv b4,txv (b5 w0.name),txv (b6 w0.name)])) p9 (.lst ([txv (b0 far),txv b1,txv (b2 w0.name far),txv (b3 w0.name far)]++[txv b4,txv (b5 w0.name),txv (b6 w0.name)]))=G3 at s3 g3 ⊢
    refine⟨Fk g3,rfl,by decide,λp10 hp10=>⟨_,A1 (o:=.lst (([Str.ofString "ware",w0.name,Str.ofString "0",Str.ofString "1",Str.ofString "0",Str.ofString "0"]:List Str).map V.str)),60,(Hk o7 e7).1,(Hk o7 e7).2,?_⟩⟩
    rw[Lm e7]
    refine⟨_,A0 hp10 _ _ g3,by show 7<sizeLine;decide,?_⟩
    have s4:=λ(o:HO)=>Ev (o:=o) (s3.trans (A0 (o:=.lst [V.str (Str.ofString "ware"),V.str w0.name,V.str (Str.ofString "0"),V.str (Str.ofString "1"),V.str (Str.ofString "0"),V.str (Str.ofString "0")]) hp10)) n9
    have one1:∀{r:R3},D3 (r3 r)->∀r'∈[r],D3 (r3 r'):=λo r' hr=>by rw[Zzk.mp hr];exact o
    have l21:∀r:R3,[r].length<=21:=λr=>by show 1<=21;decide
    have me:∀(L:List R3) (r:R3),r∈L++[r]:=λL r=>Zzl _ Zzs
    have w8:way=0\/way=1\/way=2\/way=3\/way=4\/way=5\/way=6\/way=7:=by
     have n8:way≠8:=λz=>c8 (decide_eq_true z)
     have n9:way≠9:=λz=>c9 (decide_eq_true z)
     have n10:way≠10:=λz=>c10 (decide_eq_true z)
     have n11:way≠11:=λz=>c11 (decide_eq_true z)
     omega
    rcases w8 with rfl | rfl | rfl | rfl | rfl | rfl | rfl | rfl
    ·refine⟨_,Ce (j:=0) A1 rfl,by decide,λp11 hp11=>fin [b0 far] ((s4 _).trans (A0 hp11)) A1 (l21 _) (one1 o0) (Rs (me _ (b0 far)) rfl ?_)⟩
     have:Cf (.int (31+far)) 0 30=false:=by
      show (decide (0<=31+far)&&decide (31+far<=30))=false
      rw[decide_eq_false (by omega:¬ 31+far<=30),Zxu]
     rw[this,Zyt,Zyt,Zyt]
    ·refine⟨_,Ce (j:=1) A1 rfl,by decide,λp11 hp11=>fin [b1] ((s4 _).trans (A0 hp11)) A1 (l21 _) (one1 o1) (Rs (me _ b1) rfl ?_)⟩
     rw[show (Cf (.int 0) 0 30&&Cm (.int 0) 1)=false by decide,Zyt,Zyt]
    ·refine⟨_,Ce (j:=2) A1 rfl,by decide,λp11 hp11=>fin [b2 w0.name far] ((s4 _).trans (A0 hp11)) A1 (l21 _) (one1 o2) (W8 ew ⟨_,Zzs,Iv,?_⟩)⟩
     show (Cf (.int (401+far)) 0 400&&Cm (.int 1) 0)=false
     have:Cf (.int (401+far)) 0 400=false:=by
      show (decide (0<=401+far)&&decide (401+far<=400))=false
      rw[decide_eq_false (by omega:¬ 401+far<=400),Zxu]
     rw[this,Zyt]
    ·refine⟨_,Ce (j:=3) A1 rfl,by decide,λp11 hp11=>fin [b3 w0.name far] ((s4 _).trans (A0 hp11)) A1 (l21 _) (one1 o3) (Zq Zzs rfl ?_)⟩
     unfold b3
     rw[X6]
     show (Br w0.name&&Cf (.int (401+far)) 0 400&&Cm (.int 1) 0)=false
     have:Cf (.int (401+far)) 0 400=false:=by
      show (decide (0<=401+far)&&decide (401+far<=400))=false
      rw[decide_eq_false (by omega:¬ 401+far<=400),Zxu]
     rw[this,Zxu,Zyt]
    ·exact⟨_,Ce (j:=4) A1 rfl,by decide,λp11 hp11=>fin [b4] ((s4 _).trans (A0 hp11)) A1 (l21 _) (one1 o4) (Oq sd Zzs rfl (by decide +kernel))⟩
    ·exact⟨_,Ce (j:=5) A1 rfl,by decide,λp11 hp11=>fin [b5 w0.name] ((s4 _).trans (A0 hp11)) A1 (l21 _) (one1 o5) (W7 sd ew Zzs Iv rfl (λz=>by cases z))⟩
    ·refine⟨_,Ce (j:=6) A1 rfl,by decide,λp11 hp11=>fin [b6 w0.name] ((s4 _).trans (A0 hp11)) A1 (l21 _) (one1 o6) (Zr ew ⟨_,Zzs,Iv,?_⟩)⟩
     show (Br w0.name&&Cm (.int 0) 1)=false
     rw[show Cm (.int 0) 1=false by decide,Zxu]
    ·exact⟨_,Ce (j:=7) A1 rfl,by decide,λp11 hp11=>fin [b7 w0.name] ((s4 _).trans (A0 hp11)) A1 (l21 _) (one1 o7) (Xx ew (by show w0.name∈[w0.name];exact Zzs))⟩
end
set_option pp.deepTerms true
set_option maxHeartbeats 4000000
section
variable {P:Program}{w:World}{K:Zzx}{mg:Str->Option Value}{base:Heap}
theorem S4{ws fs:List Str}(h:ws.length≠fs.length):K2 ws fs=false:=by
 unfold K2
 rw[decide_eq_false h,Zyt]
theorem dv{ws fs:List Str}{i:Nat}{y s:Str}(h1:ws[i]?=some y)(h2:fs[i]?=some s)(hb:J7 s y=false):K2 ws fs=false:=by
 unfold K2
 rw[Zx7]
 refine .inr (Zy0.mpr λz=>?_)
 have:=Zz2.mp z (y,s) (Zyv (i:=i) (by rw[List.getElem?_zip_eq_some];exact⟨h1,h2⟩))
 rw[hb] at this
 cases this
def Dg(y:Str):Prop:=32∉y.cps.toList/\10∉y.cps.toList/\y.length<=130
instance (y:Str):Decidable (Dg y):=inferInstanceAs (Decidable (_/\_/\_))
theorem N9{H:Hp}{p:Addr}{cs:List Str}{n:Int}(hp:H p=some (.lst (cs.map V.str)))(hn:n=cs.length)(h0:0<cs.length)(i:Int):∃y∈cs,Ni H (.ref p) (.int (i % n)) (.str y):=by
 have k0:=Zx4 i (b:=n) (by omega)
 have k1:=Zx5 i (b:=n) (by omega)
 obtain⟨j,ej⟩:=Zwo k0
 rw[ej] at k1 ⊢
 have hj:j<cs.length:=by omega
 exact⟨cs[j],List.getElem_mem hj,Ce (j:=j) hp (by rw[Zzv,Zya hj];rfl)⟩
structure Tw(t:Str):Prop where
 b:∃x ws,X3 t x ws
 n:10∉t.cps.toList
 l:t.length<=1000
theorem Q8:∀{ws:List Str},(∀y∈ws,10∉y.cps.toList)->10∉(Str.join (one 32) ws).cps.toList
 |[],_=>λz=>absurd z (by decide +kernel)
 |[w],h=>h w Zzs
 |w::v::r,h=>by
  rw[Kj]
  intro z
  rcases Zyq.mp z with z | z
  ·exact h w Zzs z
  ·rcases Zzw.mp z with z | z
   ·exact absurd z (by decide)
   ·exact Q8 (λy hy=>h y (Zzi _ hy)) z
theorem Mm{x:Str}{ws:List Str}(h:∀y∈x::ws,Dg y)(n:ws.length<=6)(b:∀fs,Ju x=some fs->K2 ws fs=false):Tw (Str.join (one 32) (x::ws)):=by
 have l:(Str.join (one 32) (x::ws)).length<=1000:=by
  have:=L4 (sep:=one 32) (B:=130) (xs:=x::ws) λy hy=>(h y hy).2.2
  rw[Zzy,show (one 32).length=1 from rfl] at this
  omega
 exact⟨⟨x,ws,⟨L8 (by decide) (by simp) λy hy=>(h y hy).1,by omega,by omega,λy hy=>Zyu (h y (Zzi _ hy)).2.2 (by decide),b⟩⟩,Q8 λy hy=>(h y hy).2.1,l⟩
theorem Ti{t:Str}(b:Tw t):Nh [t]:=⟨by show 1<=1000;decide,λy hy=>by rw[Zzk.mp hy];exact⟨b.n,.inr b.b⟩,⟨t,Zzs,b.b⟩,Zyu b.l (by decide),λy hy=>by rw[Zzk.mp hy];exact b.l⟩
theorem Tu:Tw (Str.ofString ""):=⟨⟨Str.ofString "",[],by decide +kernel,by decide,by decide,(λy hy=>nomatch hy),λfs e=>by rw[show Ju (Str.ofString "")=none by decide +kernel] at e;cases e⟩,by decide +kernel,by decide⟩
theorem Qn:Tw (Str.ofString " "):=⟨⟨Str.ofString "",[Str.ofString ""],by decide +kernel,by decide,by decide,(λy hy=>by rw[Zzk.mp hy];decide),λfs e=>by rw[show Ju (Str.ofString "")=none by decide +kernel] at e;cases e⟩,by decide +kernel,by decide⟩
theorem Q5{rs:List R3}(R:No rs){t:Str}(b:Tw t)(k k':Nat):Nh ((rs.take k).map (λr=>Fw (r3 r))++t::(rs.drop k').map λr=>Fw (r3 r)):=by
 have hl:=R.len
 have mem:∀y∈(rs.take k).map (λr=>Fw (r3 r))++t::(rs.drop k').map (λr=>Fw (r3 r)),y=t\/∃r∈rs,y=Fw (r3 r):=λy hy=>by
  rcases Zyq.mp hy with z | z
  ·obtain⟨r,hr,rfl⟩:=Zza.mp z
   exact .inr ⟨r,Zxf hr,rfl⟩
  ·rcases Zzw.mp z with z | z
   ·exact .inl z
   ·obtain⟨r,hr,rfl⟩:=Zza.mp z
    exact .inr ⟨r,Zvh hr,rfl⟩
 have len:((rs.take k).map (λr=>Fw (r3 r))++t::(rs.drop k').map λr=>Fw (r3 r)).length<=801:=by
  rw[Zzh,Zzy,Zzz,Zzz,Zyg,Zxp]
  omega
 have lens:∀y∈(rs.take k).map (λr=>Fw (r3 r))++t::(rs.drop k').map (λr=>Fw (r3 r)),y.length<=1000:=λy hy=>by
  rcases mem y hy with rfl | ⟨r,hr,rfl⟩
  ·exact b.l
  ·exact Zyu (M4 (R.ok r hr)) (by decide)
 refine⟨by omega,λy hy=>?_,⟨t,Zzl _ Zzs,b.b⟩,?_,lens⟩
 ·rcases mem y hy with rfl | ⟨r,hr,rfl⟩
  ·exact⟨b.n,.inr b.b⟩
  ·exact⟨Sm (R.ok r hr),.inl ⟨r3 r,R.ok r hr,rfl⟩⟩
 ·have:=L4 (sep:=one 10) (B:=1000) (xs:=(rs.take k).map (λr=>Fw (r3 r))++t::(rs.drop k').map λr=>Fw (r3 r)) lens
  rw[show (one 10).length=1 from rfl] at this
  omega
structure RowW(r:Str×List Key):Prop where
 look:Ju r.1=some (r.2.map Eu)
 few:3<=r.2.length/\r.2.length<=5
 fst:(r.2.map Eu)[0]?=some ("name" : Str)
 lst:(r.2.map Eu)[r.2.length - 1]?=some ("number" : Str)
 words:∀y∈r.1::r.2.map cellT,Dg y/\y.length<=60
theorem cg{r:Str×List Key}(h:D3 r):RowW r:=by
 have hf:=h.form
 unfold formsW at hf
 simp only[Zzw,Zz8,or_false,Zvb] at hf
 have len:(r.2.map Eu).length=r.2.length:=Zzz ..
 have wd:=K6 h (P:=λy=>Dg y/\y.length<=60) ⟨⟨(Ff h).1.1,(Ff h).1.2,Zyu (Ff h).2.1 (by decide)⟩,(Ff h).2.1⟩ λk hk=>⟨⟨(K5 (h.cells k hk)).1.1,(K5 (h.cells k hk)).1.2,Zyu (K5 (h.cells k hk)).2 (by decide)⟩,(K5 (h.cells k hk)).2⟩
 rcases hf with ⟨q1,q2⟩ | ⟨q1,q2⟩ | ⟨q1,q2⟩ | ⟨q1,q2⟩<;>(rw[q2] at len;have l2:=len.symm;refine⟨by rw[q1,q2];decide +kernel,by rw[l2];decide,by rw[q2];decide +kernel,by rw[q2,l2];decide +kernel,wd⟩)
theorem ge{t t2 t3 t4 u:TS}{D:Ends}{Z:St}{H:Hp}(M:St->Hp->Prop)(hrest:∀Z' H',M Z' H'->u D Z' H')(h:∀KK:St->Hp->Prop,(∀Z' H',M Z' H'->KK Z' H')->Ez t (Ez t2 (Ez t3 t4)) {D with nx:=KK} Z H):Ez t (Ez t2 (Ez t3 (Ez t4 u))) D Z H:=h (u D) hrest
theorem Y4{x:Str}{fs:List Str}(h:Ju x=some fs):9∉x.cps.toList:=by
 unfold Ju at h
 cases e:formsW.find? (λe=>decide (e.1=x)) with
 |none=>rw[e] at h;cases h
 |some p =>
  have h0:=List.find?_some (p:=λe:Str×List Str=>decide (e.1=x)) e
  have h1:=of_decide_eq_true h0
  have h2:=List.mem_of_find?_eq_some e
  have:∀p∈formsW,9∉p.1.cps.toList:=by decide +kernel
  rw[<- h1]
  exact this p h2
theorem Rw{n:Nat}(h:0<n+1):ixN (n+1) (-1)=some n:=by
 unfold ixN
 rw[if_neg (by decide),if_pos (by omega)]
 congr 1
 omega
def sp_law_no_form:Sp:=λvs H Q _=>∃(l:Addr) (x:Int) (rs:List R3),vs=[.ref l,.int x]/\No rs/\H l=some (.lst (rs.map txv))/\∀(p:Addr) (ts:List Str) H',H' p=some (.lst (ts.map V.str))->Nh ts->Same H H'->Q (.ref p) H'
theorem sc_law_no_form:Bv ["_law_lines", "_law_x", "_law_xs", "_law_spot", "_law_words", "_law_way"] ["_law_lines", "_law_x"] (A6 Gb):=⟨rfl,rfl,rfl,by decide +kernel,rfl,by decide +kernel,by decide +kernel⟩
theorem Oo{f:Addr}{fd:FuncData}(F:Fun K "_law_no_form" "_law_no_form" Gb f fd)(T:Txt mg){c:Cl}(C:Exc K mg c)(Zux:Has P w K mg base "_law_mixed" 1 ["_law_cell", "_law_many"] sp_law_mixed):Dp P w K mg base CX0 2 f fd ["_law_lines", "_law_x"] sp_law_no_form:=by
 refine F.ok sc_law_no_form (λvs H Q E h=>?_) (λcdv A outer s H vs Q E hr h=>?_)
 ·obtain⟨l,x,rs,rfl,_⟩:=h
  rfl
 ·obtain⟨l,x,rs,rfl,R,hl,k⟩:=h
  have hu:=Di hr
  refine⟨_,(A5 (Bs (i:=2) sc_law_no_form.nd rfl (Zz0 rfl) (A8 Zux (hr.mono (by decide)) rfl (A3 (pv 1) (A3 A4 A2))))
 (A5 (Bs (i:=3) sc_law_no_form.nd rfl (Zz0 rfl) (Bk Fa (Ag hu (pv 2) A4 (λ_ _=>rfl)) (Bn G5 rfl T.Zu5 J9 (A3 (pv 0) A2))))
 (A5 (Bs (i:=4) sc_law_no_form.nd rfl (Zz0 rfl) (Da Zys Zvt Zvs Ot (Ag hu (pv 0) (pv 3) (λ_ _=>rfl)) (A3 Ad A2)))
 (A5 (Bs (i:=5) sc_law_no_form.nd rfl (Zz0 rfl) (Bk Fa (Ag hu (pv 2) A4 (λ_ _=>rfl)) A4))
 (A5 (D9 (C4 (E2 hu) (pv 5) A4 (Cg _)) (A9 (Ls (Ag hu (Bt (A3 Ad (A3 Ad (A3 Ad (A3 Ad (A3 Ad (A3 Ad (A3 Ad A2)))))))) (Bk Fa (Ag hu (pv 2) A4 (λ_ _=>rfl)) A4) (λ_ _=>rfl)) (Lv (pv 4) A4 Js))) (A9 (D9 (C4 (E2 hu) (pv 5) A4 (Cg _)) (A9 (Ls (Ag hu (Bt (A3 Ad (A3 Ad (A3 Ad (A3 Ad (A3 Ad (A3 Ad A2))))))) (Bk Fa (Ag hu (pv 2) A4 (λ_ _=>rfl)) A4) (λ_ _=>rfl)) (Lv (pv 4) A4 Js))) (A9 (D9 (C4 (E2 hu) (pv 5) A4 (Cg _)) (A9 (Ls (Ag hu (Bt (A3 Ad (A3 Ad (A3 Ad (A3 Ad (A3 Ad (A3 (Bk Zh Ad A4) (A3 Ad (A3 Ad A2))))))))) (Bk Fa (Ag hu (pv 2) A4 (λ_ _=>rfl)) A4) (λ_ _=>rfl)) (Lv (pv 4) (Ve Qo A4) Js))) (A9 (D9 (C4 (E2 hu) (pv 5) A4 (Cg _)) (A9 (E1 (Da Zym Zy5 Zy4 Fc (pv 4) (A3 (Ag hu (Bt (A3 Ad (A3 Ad (A3 Ad A2)))) (Bk Fa (Ag hu (pv 2) A4 (λ_ _=>rfl)) A4) (λ_ _=>rfl)) A2)))) (A9 (D9 (C4 (E2 hu) (pv 5) A4 (Cg _)) (A9 (E1 (Xo Zym PySem.F.slot_list_pop PySem.F.type_list_pop d6 (pv 4)))) (A9 (D9 (C4 (E2 hu) (pv 5) A4 (Cg _)) (A9 (Bs (i:=4) sc_law_no_form.nd rfl (Zz0 rfl) (Bk Fz (Bt (A3 (Da Zys Zyi Zyh Dm Ad (A3 (De Fx (pv 4) Fy (Dd A4)) A2)) A2)) (De Fx (pv 4) (Dd A4) Fy)))) (A9 (D9 (C4 (E2 hu) (pv 5) A4 (Cg _)) (A9 (E1 (Da Zym PySem.F.slot_list_insert PySem.F.type_list_insert W9 (pv 4) (A3 (Bk Fa (Ag hu (pv 2) A4 (λ_ _=>rfl)) (Bk Fr (Bn G5 rfl T.Zu5 J9 (A3 (pv 4) A2)) A4)) (A3 Ad A2))))) (A9 (D9 (C4 (E2 hu) (pv 5) A4 (Cg _)) (A5 (Bs (i:=3) sc_law_no_form.nd rfl (Zz0 rfl) (Bk Fa (Ag hu (pv 2) A4 (λ_ _=>rfl)) (Bk Fr (Bn G5 rfl T.Zu5 J9 (A3 (pv 0) A2)) A4)))
 (A9 (Bm (Bk Fz (Bk Fz (De Fx (pv 0) Fy (Dd (pv 3))) (Bt (A3 (Ag hu (Bt (A3 Ad (A3 Ad (A3 Ad A2)))) (Bk Fa (Ag hu (pv 2) A4 (λ_ _=>rfl)) A4) (λ_ _=>rfl)) A2))) (De Fx (pv 0) (Dd (pv 3)) Fy))))) (A9 (Ls (Bk Mi (Ag hu (pv 4) (Ve Qo A4) (λ_ _=>rfl)) (Ag hu (Bt (A3 Ad (A3 Ad (A3 Ad (A3 Ad A2))))) (Bk Fa (Ag hu (pv 2) A4 (λ_ _=>rfl)) A4) (λ_ _=>rfl))) (Lv (pv 4) (Ve Qo A4) Js))))))))))))))))))
 (A9 (Bm (Bk Fz (Bk Fz (De Fx (pv 0) Fy (Dd (pv 3))) (Bt (A3 (Da Zys Zyi Zyh Dm Ad (A3 (pv 4) A2)) A2))) (De Fx (pv 0) (Dd (Bk Fr (pv 3) A4)) Fy))))))))),?_⟩
  have rne:=R.ne
  have rl:=R.len
  have rl1:1<=rs.length:=by
   cases rs with
   |nil=>exact absurd rfl rne
   |cons r s=>rw[Zzy];omega
  refine ge (λZ' H'=>∃(xl q:Addr) (x0 x1 x2 x3:Int) (k:Nat) (r:R3),Z'=[some (.ref l),some (.int x),some (.ref xl),some (.int k),some (.ref q),some (.int (x1 % 9))]/\H' xl=some (.lst ([x0,x1,x2,x3].map V.int))/\rs[k]?=some r/\H' q=some (.lst (((r3 r).1::(r3 r).2.map cellT).map V.str))/\Yr [x0,x1,x2,x3]/\H q=none/\Same H H') (λZ' H1 hM=>?_) (λKK hK=>?_)
  rotate_left
  ·walk_at "rd"
   refine⟨x,4,rfl,by decide,by decide,λxl xs H1 hx len ok sm=>?_⟩
   obtain⟨x0,x1,x2,x3,rfl⟩:=gc len
   refine⟨_,Ce (j:=0) hx rfl,_,.inl (sm _ _ hl),_,rfl,by rw[Zzz];omega,?_⟩
   rw[Zzz]
   have k0:=Zx4 x0 (b:=(rs.length:Int)) (by omega)
   have k1:=Zx5 x0 (b:=(rs.length:Int)) (by omega)
   obtain⟨sp,esp⟩:=Zwo k0
   rw[esp] at k1 ⊢
   obtain⟨r,er⟩:∃r,rs[sp]?=some r:=⟨_,Zya (by omega)⟩
   have okr:=R.ok r (Zyv er)
   refine⟨_,Ce (j:=sp) (sm _ _ hl) (by rw[Zzv,er];rfl),rfl,Fw (r3 r),rfl,32,by decide +kernel,Zyu (M4 okr) (by decide),λp hp=>?_⟩
   rw[N8 okr]
   exact⟨_,Ce (j:=1) (A0 hp _ _ hx) rfl,_,rfl,by decide,hK _ _ ⟨xl,p,x0,x1,x2,x3,sp,r,rfl,A0 hp _ _ hx,er,A1,ok,Same.free sm hp,sm.trans (A0 hp)⟩⟩
  obtain⟨xl,q,x0,x1,x2,x3,sp,r,rfl,hx,er,hq,ok,nq,sm⟩:=hM
  have okr:=R.ok r (Zyv er)
  have rw0:=cg okr
  have cut0:∀i:Nat,Hz (rs.map txv) none (some (i:Int))=((rs.take i).map λr=>Fw (r3 r)).map V.str:=λi=>by
   rw[N4 (by omega),show ((i:Nat):Int).toNat=i by omega,<- Zwk,Zy6]
   rfl
  have cut1':∀i:Nat,Hz (rs.map txv) (some (i:Int)) none=((rs.drop i).map λr=>Fw (r3 r)).map V.str:=λi=>by
   rw[Iw (by omega),show ((i:Nat):Int).toNat=i by omega,<- Zvq,Zy6]
   rfl
  have tl:∀i,((rs.take i).map λr=>Fw (r3 r)).length<=400:=λi=>by rw[Zzz,Zyg];omega
  have dl:∀i,((rs.drop i).map λr=>Fw (r3 r)).length<=400:=λi=>by rw[Zzz,Zxp];omega
  refine af (λZ' H'=>∃(o2 o5:Option V) (q':Addr) (ws:List Str),Z'=[some (.ref l),some (.int x),o2,some (.int sp),some (.ref q'),o5]/\H' q'=some (.lst (ws.map V.str))/\Tw (Str.join (one 32) ws)/\(∀y∈ws,Dg y)/\ws.length<=7/\Same H H') (λZ' H2 hM=>?_) (λKK hK=>?_)
  ·obtain⟨o2,o5,q',ws,rfl,hq',bt,wo,wl,s2⟩:=hM
   walk_at "rd"
   refine⟨_,s2 _ _ hl,λp hp=>⟨rfl,ws,A0 hp _ _ hq',130,λy hy=>(wo y hy).2.2,?_,by decide,λp1 hp1=>?_⟩⟩
   ·rw[Si]
    show ws.length*130+ws.length*1<=16777216
    omega
   rw[cut0]
   have s3:=(s2.trans (A0 (o:=.lst (((rs.take sp).map λr=>Fw (r3 r)).map V.str)) (by rw[cut0] at *;exact hp))).trans (A0 (o:=.lst [V.str ((Str.ofString " ").join ws)]) (by rw[cut0] at hp1;exact hp1))
   refine⟨_,A0 (by rw[cut0] at hp1;exact hp1) _ _ A1,_,A1,Bi (by rw[Zzz];have:=tl sp;show _+1<=1000;omega),λp2 hp2=>⟨_,A0 hp2 _ _ (s3 _ _ hl),λp3 hp3=>?_⟩⟩
   rw[show ((sp:Int)+1)=((sp+1:Nat):Int) by omega,cut1'] at *
   refine⟨_,A0 hp3 _ _ A1,_,A1,Bi (by rw[Zzh,Zzz,Zzz];have:=tl sp;have h1:=tl sp;have h2:=dl (sp+1);rw[Zzz] at h1 h2;rw[Zzz,Zzz];show _+1+_<=1000;omega),λp4 hp4=>k p4 (((rs.take sp).map λr=>Fw (r3 r))++Str.join (one 32) ws::(rs.drop (sp+1)).map λr=>Fw (r3 r)) _ ?_ (Q5 R bt sp (sp+1)) (((s3.trans (A0 hp2)).trans (A0 hp3)).trans (A0 hp4))⟩
   rw[A1,Si,Zyo,Zzp,Zvy]
   rfl
  ·have fin:∀(q':Addr) (ws:List Str) {Hx:Hp} {o2 o5:Option V},Same H Hx->Hx q'=some (.lst (ws.map V.str))->Tw (Str.join (one 32) ws)->(∀y∈ws,Dg y)->ws.length<=7->KK [some (.ref l),some (.int x),o2,some (.int sp),some (.ref q'),o5] Hx:=λq' ws _ _ _ s h1 h2 h3 h4=>hK _ _ ⟨_,_,q',ws,rfl,h1,h2,h3,h4,s⟩
   obtain⟨rlook,rfew,rfst,rlst,rwords⟩:=rw0
   generalize r3 r=rr at *
   obtain⟨fx,ks⟩:=rr
   have rlook:Ju fx=some (ks.map Eu):=rlook
   have rwords:∀y∈fx::ks.map cellT,Dg y/\y.length<=60:=rwords
   have rfew:3<=ks.length/\ks.length<=5:=rfew
   have hq:H1 q=some (.lst ((fx::ks.map cellT).map V.str)):=hq
   have wx:=(rwords fx Zzs).1
   have ww:∀y∈ks.map cellT,Dg y:=λy hy=>(rwords y (Zzi _ hy)).1
   have wl:(ks.map cellT).length=ks.length:=Zzz ..
   have fl:(ks.map Eu).length=ks.length:=Zzz ..
   have wset:∀(j:Nat) (y:Str),Dg y->∀z∈(ks.map cellT).set j y,Dg z:=λj y hy z hz=>by
    rcases List.mem_or_eq_of_mem_set hz with h | h
    ·exact ww z h
    ·rw[h];exact hy
   have both:∀{ws:List Str},(∀y∈ws,Dg y)->∀y∈fx::ws,Dg y:=λh y hy=>by
    rcases Zzw.mp hy with z | z
    ·rw[z];exact wx
    ·exact h y z
   have badw:∀{ws:List Str},K2 ws (ks.map Eu)=false->∀fs,Ju fx=some fs->K2 ws fs=false:=λh fs e=>by
    rw[rlook] at e
    rw[<- Zyk e]
    exact h
   have setf:∀(j:Nat) (y s:Str),j<ks.length->(ks.map Eu)[j]?=some s->J7 s y=false->Dg y->∀{Hx:Hp} {o2 o5:Option V},Same H Hx->KK [some (.ref l),some (.int x),o2,some (.int sp),some (.ref q),o5] (upd Hx q (.lst (((fx::ks.map cellT).map V.str).set (j+1) (.str y)))):=λj y s hj hs hb hy {Hx o2 o5} sx=>by
    refine fin q (fx::(ks.map cellT).set j y) (Ev sx nq) (by rw[A1,Zzp,Zzp,Zz9,List.map_set]) (Mm (both (wset j y hy)) (by rw[Zw8];omega) (badw (dv (i:=j) (by rw[Zvw (by omega)]) hs hb))) (both (wset j y hy)) (by rw[Zzy,Zw8];omega)
   have i2:∀{Hx:Hp},Same H1 Hx->Ni Hx (.ref xl) (.int 2) (.int x2):=λs=>Ce (j:=2) (s _ _ hx) rfl
   walk_at "rd"
   refine⟨rfl,Fj (λc=>?_) (λ_=>⟨rfl,Fj (λc=>?_) (λ_=>⟨rfl,Fj (λc=>?_) (λ_=>⟨rfl,Fj (λc=>?_) (λ_=>⟨rfl,Fj (λc=>?_) (λ_=>⟨rfl,Fj (λc=>?_) (λ_=>⟨rfl,Fj (λc=>?_) (λ_=>⟨rfl,Fj (λc=>?_) (λ_=>?_)⟩)⟩)⟩)⟩)⟩)⟩)⟩)⟩
   ·refine⟨by decide,λp hp=>⟨_,i2 (A0 hp),_,rfl,by decide,?_⟩⟩
    obtain⟨y,hy,it⟩:=N9 (H:=upd H1 p (.lst (([Str.ofString "wares",Str.ofString "Want",Str.ofString "",Str.ofString "comes",Str.ofString "parts",Str.ofString "ware:",Str.ofString "WARE"]:List Str).map V.str))) (p:=p) (cs:=[Str.ofString "wares",Str.ofString "Want",Str.ofString "",Str.ofString "comes",Str.ofString "parts",Str.ofString "ware:",Str.ofString "WARE"]) (n:=7) A1 rfl (by decide) x2
    have no:∀y∈([Str.ofString "wares",Str.ofString "Want",Str.ofString "",Str.ofString "comes",Str.ofString "parts",Str.ofString "ware:",Str.ofString "WARE"]:List Str),Ju y=none/\Dg y:=by decide +kernel
    have wy:∀z∈y::ks.map cellT,Dg z:=λz hz=>by
     rcases Zzw.mp hz with e | e
     ·rw[e];exact(no y hy).2
     ·exact ww z e
    refine⟨_,it,_,A0 hp _ _ hq,0,Rx (i:=0) (by simp) (by decide),fin q (y::ks.map cellT) (Ev (sm.trans (A0 hp)) nq) (by rw[A1];rfl) (Mm wy (by omega) λfs e=>by rw[(no y hy).1] at e;cases e) wy (by rw[Zzy];omega)⟩
   ·refine⟨by decide,λp hp=>⟨_,i2 (A0 hp),_,rfl,by decide,?_⟩⟩
    obtain⟨y,hy,it⟩:=N9 (H:=upd H1 p (.lst (([Str.ofString "Aa",Str.ofString "abcdefghi",Str.ofString "a1",Str.ofString "",Str.ofString "a-b",Str.ofString "a_"]:List Str).map V.str))) (p:=p) (cs:=[Str.ofString "Aa",Str.ofString "abcdefghi",Str.ofString "a1",Str.ofString "",Str.ofString "a-b",Str.ofString "a_"]) (n:=6) A1 rfl (by decide) x2
    have no:∀y∈([Str.ofString "Aa",Str.ofString "abcdefghi",Str.ofString "a1",Str.ofString "",Str.ofString "a-b",Str.ofString "a_"]:List Str),J7 "name" y=false/\Dg y:=by decide +kernel
    exact⟨_,it,_,A0 hp _ _ hq,1,Rx (i:=1) (by simp only[Zzz,Zzy];omega) (by decide),setf 0 y "name" (by omega) rfst (no y hy).1 (no y hy).2 (sm.trans (A0 hp))⟩
   ·refine⟨by decide,by decide,by decide,by decide,λz' zl zc=>⟨by decide,λp hp=>⟨_,i2 (A0 hp),_,rfl,by decide,?_⟩⟩⟩
    obtain⟨y,hy,it⟩:=N9 (H:=upd H1 p (.lst (([Str.ofString "01",Str.ofString "-1",Str.ofString "",Str.ofString "1.",Str.ofString "x",z',Str.ofString "+1",Str.ofString "1e3"]:List Str).map V.str))) (p:=p) (cs:=[Str.ofString "01",Str.ofString "-1",Str.ofString "",Str.ofString "1.",Str.ofString "x",z',Str.ofString "+1",Str.ofString "1e3"]) (n:=8) A1 rfl (by show 0<8;decide) x2
    have no:J7 "number" y=false/\Dg y:=by
     have zl:z'.length=61:=zl
     have zz:J7 "number" z'=false/\Dg z':=by
      have zc:∀c∈z'.cps.toList,c∈[49]:=zc
      refine⟨?_,λh=>?_,λh=>?_,by omega⟩
      ·unfold J7 Fb
       rw[if_neg Ms,decide_eq_false (by omega:¬ z'.length<=60),Zxu,Zyt,Zyt]
      ·exact absurd (zc 32 h) (by decide)
      ·exact absurd (zc 10 h) (by decide)
     have oth:∀y∈([Str.ofString "01",Str.ofString "-1",Str.ofString "",Str.ofString "1.",Str.ofString "x",Str.ofString "+1",Str.ofString "1e3"]:List Str),J7 "number" y=false/\Dg y:=by decide +kernel
     simp only[Zzw,Zz8,or_false] at hy
     rcases hy with e | e | e | e | e | e | e | e
     ·rw[e];exact oth _ (by simp)
     ·rw[e];exact oth _ (by simp)
     ·rw[e];exact oth _ (by simp)
     ·rw[e];exact oth _ (by simp)
     ·rw[e];exact oth _ (by simp)
     ·rw[e];exact zz
     ·rw[e];exact oth _ (by simp)
     ·rw[e];exact oth _ (by simp)
    refine⟨_,it,_,A0 hp _ _ hq,ks.length,?_,?_⟩
    ·rw[Zzz,Zzy,wl]
     exact Rw (by omega)
    ·have:=setf (ks.length - 1) y "number" (by omega) rlst no.1 no.2 (sm.trans (A0 (o:=.lst (([Str.ofString "01",Str.ofString "-1",Str.ofString "",Str.ofString "1.",Str.ofString "x",z',Str.ofString "+1",Str.ofString "1e3"]:List Str).map V.str)) hp)) (o2:=some (.ref xl)) (o5:=some (.int (x1 % 9)))
     rw[show ks.length - 1+1=ks.length by omega] at this
     exact this
   ·refine⟨Fk hq,by decide,λp hp=>⟨_,i2 (A0 hp),_,rfl,by decide,?_⟩⟩
    obtain⟨y,hy,it⟩:=N9 (H:=upd H1 p (.lst (([Str.ofString "1",Str.ofString "a",Str.ofString ""]:List Str).map V.str))) (p:=p) (cs:=[Str.ofString "1",Str.ofString "a",Str.ofString ""]) (n:=3) A1 rfl (by decide) x2
    have no:∀y∈([Str.ofString "1",Str.ofString "a",Str.ofString ""]:List Str),Dg y:=by decide +kernel
    have wy:∀z∈ks.map cellT++[y],Dg z:=λz hz=>by
     rcases Zyq.mp hz with e | e
     ·exact ww z e
     ·rw[Zzk.mp e];exact no y hy
    refine⟨_,it,_,A0 hp _ _ hq,Zzd (m:=1000) (by simp only[Zzz,Zzy];omega) (Bi (Zzt _)),fin q (fx::(ks.map cellT++[y])) (Ev (sm.trans (A0 hp)) nq) (by rw[A1,<- Zze,Zyo];rfl) (Mm (both wy) (by rw[Zzh,wl];show _+1<=6;omega) (badw (S4 (by rw[Zzh,wl,fl];show ¬ _+1=_;omega)))) (both wy) (by rw[Zzy,Zzh,wl];show _+1+1<=7;omega)⟩
   ·have wy:∀z∈(ks.map cellT).dropLast,Dg z:=λz hz=>ww z (by rw[List.dropLast_eq_take] at hz;exact Zxf hz)
    have dl2:(ks.map cellT).dropLast.length=ks.length - 1:=by rw[List.length_dropLast,wl]
    have ed:((fx::ks.map cellT).map V.str).dropLast=(fx::(ks.map cellT).dropLast).map V.str:=by
     rw[<- List.map_dropLast,List.dropLast_cons_of_ne_nil]
     intro z
     rw[z] at wl
     have:0=ks.length:=wl
     omega
    refine⟨Fk hq,_,hq,_,Zya (by simp only[Zzz,Zzy];omega),fin q (fx::(ks.map cellT).dropLast) (Ev sm nq) (by rw[A1,ed]) (Mm (both wy) (by omega) (badw (S4 (by omega)))) (both wy) (by rw[Zzy];omega)⟩
   ·cases ek:ks.map cellT with
    |nil=>rw[ek] at wl;have:0=ks.length:=wl;omega
    |cons y0 yr =>
    rw[ek] at hq wl ww rwords
    have l0:=(rwords fx Zzs).2
    have l1:=rwords y0 (Zzi _ Zzs)
    have t9:Str.ofString "\t" = one 9:=by decide +kernel
    have ec:Hz ((fx::y0::yr).map V.str) none (some 2)=([fx,y0]:List Str).map V.str:=by
     rw[N4 (by decide)]
     rfl
    have ed:Hz ((fx::y0::yr).map V.str) (some 2) none=yr.map V.str:=by
     rw[Iw (by decide)]
     rfl
    have ej:(Str.join (one 9) [fx,y0]).cps.toList=fx.cps.toList++9::y0.cps.toList:=Kj 9 fx y0 []
    have lj:(Str.join (one 9) [fx,y0]).length<=130:=by
     have:=L4 (sep:=one 9) (B:=60) (xs:=[fx,y0]) λy hy=>by
      simp only[Zzw,Zz8,or_false] at hy
      rcases hy with rfl | rfl
      ·exact l0
      ·exact l1.2
     exact Zyu this (by show 2*60+2*1<=130;decide)
    have wj:Dg (Str.join (one 9) [fx,y0]):=by
     have no:∀c,c≠9->c∉fx.cps.toList->c∉y0.cps.toList->c∉(Str.join (one 9) [fx,y0]).cps.toList:=λc h1 h2 h3 h=>by
      rw[ej] at h
      rcases Zyq.mp h with z | z
      ·exact h2 z
      ·rcases Zzw.mp z with z | z
       ·exact h1 z
       ·exact h3 z
     exact⟨no 32 (by decide) wx.1 l1.1.1,no 10 (by decide) wx.2.1 l1.1.2.1,lj⟩
    have wy:∀z∈Str.join (one 9) [fx,y0]::yr,Dg z:=λz hz=>by
     rcases Zzw.mp hz with e | e
     ·rw[e];exact wj
     ·exact ww z (Zzi _ e)
    have yl:yr.length+1=ks.length:=wl
    refine⟨rfl,_,hq,λp hp=>⟨[fx,y0],by rw[A1,ec],60,λy hy=>?_,by rw[t9];show 2*60+2*1<=16777216;decide,by decide,λp1 hp1=>⟨_,A0 hp1 _ _ (A0 hp _ _ hq),λp2 hp2=>⟨_,A0 hp2 _ _ A1,_,A1,?_,λp3 hp3=>?_⟩⟩⟩⟩
    ·simp only[Zzw,Zz8,or_false] at hy
     rcases hy with rfl | rfl
     ·exact l0
     ·exact l1.2
    ·rw[ed,Zzz]
     exact Bi (by show 1+_<=1000;omega)
    ·refine fin p3 (Str.join (one 9) [fx,y0]::yr) ((((sm.trans (A0 hp)).trans (A0 hp1)).trans (A0 hp2)).trans (A0 hp3)) (by rw[A1,ed,t9];rfl) (Mm wy (by omega) λfs e=>?_) wy (by rw[Zzy];omega)
     exact absurd (by rw[ej];exact Zzl _ Zzs) (Y4 e)
   ·have wv:Dg (Str.ofString ""):=by decide +kernel
    refine⟨Fk hq,_,i2 (Same.refl _),_,.inl hq,_,rfl,by omega,_,hq,?_⟩
    have xl:((fx::ks.map cellT).map V.str).length=ks.length+1:=by rw[Zzz,Zzy,wl]
    rw[xl]
    have k0:=Zx4 x2 (b:=((ks.length+1:Nat):Int)+1) (by omega)
    have k1:=Zx5 x2 (b:=((ks.length+1:Nat):Int)+1) (by omega)
    refine⟨k0,by omega,by omega,?_⟩
    generalize min (x2 % (((ks.length+1:Nat):Int)+1)).toNat (ks.length+1)=m
    have em:((fx::ks.map cellT).map V.str).take m++V.str (Str.ofString "")::((fx::ks.map cellT).map V.str).drop m=((fx::ks.map cellT).take m++Str.ofString "" :: (fx::ks.map cellT).drop m).map V.str:=by simp only[Zyo,Zzp,Zwk,Zvq]
    rw[em]
    have wy:∀z∈(fx::ks.map cellT).take m++Str.ofString "" :: (fx::ks.map cellT).drop m,Dg z:=λz hz=>by
     rcases Zyq.mp hz with e | e
     ·exact(rwords z (Zxf e)).1
     ·rcases Zzw.mp e with e | e
      ·rw[e];exact wv
      ·exact(rwords z (Zvh e)).1
    have ly:((fx::ks.map cellT).take m++Str.ofString "" :: (fx::ks.map cellT).drop m).length<=7:=by
     rw[Zzh,Zzy,Zyg,Zxp,Zzy,wl]
     omega
    refine fin q _ (Ev sm nq) A1 ?_ wy ly
    cases m with
    |zero =>
     refine Mm (x:=Str.ofString "") (ws:=fx::ks.map cellT) wy (by rw[Zzy];omega) λfs e=>?_
     rw[show Ju (Str.ofString "")=none by decide +kernel] at e
     cases e
    |succ m =>
     refine Mm (x:=fx) (ws:=(ks.map cellT).take m++Str.ofString "" :: (ks.map cellT).drop m) wy ?_ (badw (S4 ?_))
     ·rw[Zzh,Zzy,Zyg,Zxp,wl]
      omega
     ·rw[Zzh,Zzy,Zyg,Zxp,wl,fl]
      omega
   ·refine⟨_,Ce (j:=3) hx rfl,_,.inl (sm _ _ hl),_,rfl,by omega,_,sm _ _ hl,?_⟩
    have k0:=Zx4 x3 (b:=((rs.map txv).length:Int)+1) (by omega)
    obtain⟨s7,es7⟩:=Zwo k0
    rw[es7,cut0]
    refine λp hp=>⟨by decide,λp1 hp1=>⟨_,i2 ((A0 hp).trans (A0 hp1)),_,rfl,by decide,?_⟩⟩
    obtain⟨y,hy,it⟩:=N9 (H:=upd (upd H1 p (.lst (((rs.take s7).map λr=>Fw (r3 r)).map V.str))) p1 (.lst (([Str.ofString "",Str.ofString " ",Str.ofString "shop"]:List Str).map V.str))) (p:=p1) (cs:=[Str.ofString "",Str.ofString " ",Str.ofString "shop"]) (n:=3) A1 rfl (by decide) x2
    have bt:Tw y:=by
     simp only[Zzw,Zz8,or_false] at hy
     rcases hy with rfl | rfl | rfl
     ·exact Tu
     ·exact Qn
     ·exact⟨⟨Str.ofString "shop",[],by decide +kernel,by decide,by decide,(λy hy=>nomatch hy),λfs e=>by rw[show Ju (Str.ofString "shop")=none by decide +kernel] at e;cases e⟩,by decide +kernel,by decide⟩
    refine⟨_,it,by decide,λp2 hp2=>?_⟩
    have s3:=((sm.trans (A0 hp)).trans (A0 hp1)).trans (A0 (o:=.lst [V.str y]) hp2)
    refine⟨_,A0 hp2 _ _ (A0 hp1 _ _ A1),_,A1,Bi (by rw[Zzz];have:=tl s7;show _+1<=1000;omega),λp3 hp3=>⟨_,A0 hp3 _ _ (s3 _ _ hl),?_⟩⟩
    rw[cut1']
    refine λp4 hp4=>⟨_,A0 hp4 _ _ A1,_,A1,Bi ?_,λp5 hp5=>k p5 (((rs.take s7).map λr=>Fw (r3 r))++y::(rs.drop s7).map λr=>Fw (r3 r)) _ ?_ (Q5 R bt s7 s7) (((s3.trans (A0 hp3)).trans (A0 hp4)).trans (A0 hp5))⟩
    ·have h1:=tl s7
     have h2:=dl s7
     rw[Zzz] at h1 h2
     rw[Zzh,Zzz,Zzz,Zzz,Zzz]
     show _+1+_<=1000
     omega
    ·rw[A1,Zyo,Zzp,Zvy]
     rfl
   ·obtain⟨yl,eyl⟩:∃yl,(ks.map cellT)[ks.length - 1]?=some yl:=⟨_,Zya (by omega)⟩
    have hyl:=Zyv eyl
    have wyl:=rwords yl (Zzi _ hyl)
    have itl:Ni H1 (.ref q) (.int (-1)) (.str yl):=by
     refine .inl ⟨q,_,-1,rfl,rfl,.inl hq,?_⟩
     unfold atI
     rw[Zzz,Zzy,wl,Rw (by omega)]
     show ((fx::ks.map cellT).map V.str)[ks.length]?=_
     rw[Zzp,show ks.length=ks.length - 1+1 by omega,Zzo,Zzv,eyl]
     rfl
    refine⟨_,itl,by decide,λp hp=>⟨_,i2 (A0 hp),_,rfl,by decide,?_⟩⟩
    obtain⟨y,hy,it⟩:=N9 (H:=upd H1 p (.lst (([Str.ofString "'",Str.ofString "\t",Str.ofString ",",Str.ofString ";"]:List Str).map V.str))) (p:=p) (cs:=[Str.ofString "'",Str.ofString "\t",Str.ofString ",",Str.ofString ";"]) (n:=4) A1 rfl (by decide) x2
    have no:∀y∈([Str.ofString "'",Str.ofString "\t",Str.ofString ",",Str.ofString ";"]:List Str),Dg y/\y.length=1/\∃c∈y.cps.toList,c∉figs:=by decide +kernel
    obtain⟨n1,n2,c',hc',nf⟩:=no y hy
    have ea:(yl++y).cps.toList=yl.cps.toList++y.cps.toList:=by rw[Str.cps_append,Array.toList_append]
    have la:(yl++y).length=yl.length+y.length:=by
     show (yl++y).cps.size=yl.cps.size+y.cps.size
     rw[Str.cps_append,Array.size_append]
    refine⟨_,it,_,rfl,_,rfl,Zyu (m:=1000) (by have:=wyl.2;omega) (by decide),_,A0 hp _ _ hq,ks.length,?_,?_⟩
    ·rw[Zzz,Zzy,wl]
     exact Rw (by omega)
    ·have:=setf (ks.length - 1) (yl++y) "number" (by omega) rlst (by
      unfold J7 Fb
      rw[if_neg Ms]
      have:(yl++y).cps.toList.all (λc=>decide (c∈figs))=false:=by
       refine Zy0.mpr λz=>nf ?_
       exact of_decide_eq_true (Zz2.mp z c' (by rw[ea];exact Zzl _ hc'))
      rw[this,Zxu,Zyt]) ⟨λz=>by
       rw[ea] at z
       rcases Zyq.mp z with z | z
       ·exact wyl.1.1 z
       ·exact n1.1 z,λz=>by
       rw[ea] at z
       rcases Zyq.mp z with z | z
       ·exact wyl.1.2.1 z
       ·exact n1.2.1 z,by have:=wyl.2;omega⟩ (sm.trans (A0 (o:=.lst (([Str.ofString "'",Str.ofString "\t",Str.ofString ",",Str.ofString ";"]:List Str).map V.str)) hp)) (o2:=some (.ref xl)) (o5:=some (.int (x1 % 9)))
     rw[show ks.length - 1+1=ks.length by omega] at this
     exact this
end
set_option maxHeartbeats 4000000
section
variable {P:Program}{w:World}{K:Zzx}{mg:Str->Option Value}{base:Heap}
theorem Z1{H H':Hp}{v:V}{T:String}(s:Same H H')(h:Km H v=some T):Km H' v=some T:=by
 cases v with
 |ref a =>
  cases e:H a with
  |none=>simp[Km,e] at h
  |some o =>
   have e':=s _ _ e
   simp only[Km,e] at h
   simp only[Km,e']
   exact h
 |_=>exact h
def dy(H:Hp)(v:V)(b:Bool):Prop:=(b=true/\((∃T,Km H v=some T/\Ex T "str" = false)\/∃ts:List Str,v=.str (Str.join (one 10) ts)/\Nh ts))\/(b=false/\∃rs:List R3,v=.str (Qq rs)/\No rs/\Fd rs=false)
def sp_law_refusal:Sp:=λvs H Q _=>∃(v:V) (b:Bool),vs=[v]/\dy H v b/\∀p H',H' p=some (.lst [.bl b,.bl (!b),.bl true,.bl false])->Same H H'->Q (.ref p) H'
theorem sc_law_refusal:Bv ["_law_text", "_law_kinds", "e"] ["_law_text"] (A6 G9):=⟨rfl,rfl,rfl,by decide +kernel,rfl,by decide +kernel,by decide +kernel⟩
theorem Om{f:Addr}{fd:FuncData}(F:Fun K "_law_refusal" "_law_refusal" G9 f fd)(T:Txt mg){c:Cl}(C:Exc K mg c)(Zu6:Ny P w K mg base "read_shop" 9 ["text"] (K4 c)):Dp P w K mg base CX0 10 f fd ["_law_text"] sp_law_refusal:=by
 refine F.ok sc_law_refusal (λvs H Q E h=>?_) (λcdv A outer s H vs Q E hr h=>?_)
 ·obtain⟨v,b,rfl,_⟩:=h
  rfl
 ·obtain⟨v,b,rfl,rf,k⟩:=h
  have hu:=Di hr
  refine⟨_,(A5 (Bs (i:=1) sc_law_refusal.nd rfl (Zz0 rfl) (Bt A2))
 (A5 (cm (i:=2) (fits:=λcls=>exmOne K cls (.ref c.NeedError)=some true) sc_law_refusal.nd rfl rfl rfl rfl rfl C.Zsk (λ_ h=>h) (λ_ _ _ hp=>(A9 (E1 (L1 Zu6 hp (hr.mono (by decide)) rfl (A3 (pv 0) A2))))) (λ_=>(A5 (Bs (i:=1) sc_law_refusal.nd rfl (Zz0 rfl) (Bt (A3 (Bn (M9 (K0:=K) rfl) rfl T.Zv4 Dc (A3 (pv 2) (A3 (Jq (v:=.ref c.NoText) rfl C.Ztd rfl) A2))) (A3 (Bn (M9 (K0:=K) rfl) rfl T.Zv4 Dc (A3 (pv 2) (A3 (Jq (v:=.ref c.NoShop) rfl C.Zsm rfl) A2))) (A3 (Bn (M9 (K0:=K) rfl) rfl T.Zv4 Dc (A3 (pv 2) (A3 (Lc (v:=.ty "ValueError") rfl T.Zsn Pp rfl) A2))) A2)))))
 (A9 (E1 (Da Zym Zy5 Zy4 Fc (pv 1) (A3 (Bn (M9 (K0:=K) rfl) rfl T.Zv4 Dc (A3 (pv 2) (A3 (J4 (A3 (Jq (v:=.ref c.Ring) rfl C.Zsc rfl) (A3 (Jq (v:=.ref c.NoName) rfl C.Zsi rfl) (A3 (Jq (v:=.ref c.NoDay) rfl C.Zsg rfl) (A3 (Jq (v:=.ref c.NoBuy) rfl C.Zsf rfl) (A3 (Jq (v:=.ref c.NoPlan) rfl C.Zsh rfl) A2)))))) A2))) A2)))))))
 (A9 (Bm (pv 1))))),?_⟩
  walk_at "rd"
  refine⟨by decide,λp0 hp0=>?_⟩
  have u0:=A0 (o:=.lst []) hp0
  refine⟨v,rfl,?_⟩
  rcases rf with ⟨rfl,h⟩ | ⟨rfl,rs,rfl,R,sb⟩
  ·rcases h with ⟨T',ht,hn⟩ | ⟨ts,rfl,lb⟩
   ·refine .inl ⟨T',?_,hn,C.Zv2,λa ha=>?_⟩
    ·exact Z1 u0 ht
    ·have s2:=u0.trans (A0 (o:=Tp a (.ref c.NoText)) ha)
     exact⟨c.NoText,A1,C.Zur,true,.inl C.Zuv,c.NoText,A1,C.Zur,false,.inl C.Zuu,c.NoText,A1,C.Zur,true,C.Zv5,by decide,λq hq=>⟨Fk A1,by decide,λq1 hq1=>⟨c.NoText,A0 hq1 _ _ (A0 hq _ _ A1),C.Zur,false,.inr ⟨[c.Ring,c.NoName,c.NoDay,c.NoBuy,c.NoPlan],A1,by simp only[Zzp,Zyr,kitAny,C.Zuo,C.Zut,C.Zuq,C.Zup,C.Zus]⟩,_,A0 hq1 _ _ A1,by show 3<sizeLine;decide,k q _ (by rw[A1];rfl) (Ev ((s2.trans (A0 hq)).trans (A0 hq1)) (Same.free s2 hq))⟩⟩⟩
   ·refine .inr (.inl ⟨ts,rfl,lb,λH1 s1=>⟨C.Zv2,λa ha=>?_⟩⟩)
    have s2:=(u0.trans s1).trans (A0 (o:=Tp a (.ref c.NoText)) ha)
    exact⟨c.NoText,A1,C.Zur,true,.inl C.Zuv,c.NoText,A1,C.Zur,false,.inl C.Zuu,c.NoText,A1,C.Zur,true,C.Zv5,by decide,λq hq=>⟨Fk A1,by decide,λq1 hq1=>⟨c.NoText,A0 hq1 _ _ (A0 hq _ _ A1),C.Zur,false,.inr ⟨[c.Ring,c.NoName,c.NoDay,c.NoBuy,c.NoPlan],A1,by simp only[Zzp,Zyr,kitAny,C.Zuo,C.Zut,C.Zuq,C.Zup,C.Zus]⟩,_,A0 hq1 _ _ A1,by show 3<sizeLine;decide,k q _ (by rw[A1];rfl) (Ev ((s2.trans (A0 hq)).trans (A0 hq1)) (Same.free s2 hq))⟩⟩⟩
  ·refine .inr (.inr ⟨rs,rfl,R.ne,R.len,R.ok,Yi R,(λz=>by rw[sb] at z;cases z),λ_ H1 s1=>⟨C.Zuw,λa ha=>?_⟩⟩)
   have s2:=(u0.trans s1).trans (A0 (o:=Tp a (.ref c.NoShop)) ha)
   exact⟨c.NoShop,A1,C.Zu0,false,.inl C.Zul,c.NoShop,A1,C.Zu0,true,.inl C.Zuk,c.NoShop,A1,C.Zu0,true,C.Zuz,by decide,λq hq=>⟨Fk A1,by decide,λq1 hq1=>⟨c.NoShop,A0 hq1 _ _ (A0 hq _ _ A1),C.Zu0,false,.inr ⟨[c.Ring,c.NoName,c.NoDay,c.NoBuy,c.NoPlan],A1,by simp only[Zzp,Zyr,kitAny,C.Zu7,C.Zuj,C.Zuf,C.Zue,C.Zui]⟩,_,A0 hq1 _ _ A1,by show 3<sizeLine;decide,k q _ (by rw[A1];rfl) (Ev ((s2.trans (A0 hq)).trans (A0 hq1)) (Same.free s2 hq))⟩⟩⟩
theorem Q2{H Hx H':Hp}{st:Addr}(s:Same H Hx)(b:But st Hx H')(h:H st=none):Same H H':=λx o hx=>b x o (Bj hx h) (s x o hx)
def S0(b:Bool):PyData:=.list [.bool b,.bool (!b),.bool true,.bool false]
theorem R9{H:Hp}{p:Addr}{b:Bool}(h:H p=some (.lst [.bl b,.bl (!b),.bl true,.bl false])):RD H (S0 b) (.ref p):=by
 unfold S0
 rw[RD]
 refine⟨p,_,rfl,h,RDs.cons ?_ (RDs.cons ?_ (RDs.cons ?_ (RDs.one ?_)))⟩<;>rw[RD]
theorem M5(b:Bool):okD (S0 b)=true/\PyData.eqv (S0 b) (S0 b)=true:=by cases b<;>decide +kernel
def gk(H:Hp)(q:Addr)(b:Bool):Prop:=(b=true/\∃ts:List Str,H q=some (.lst (ts.map V.str))/\Nh ts)\/(b=false/\∃rs:List R3,H q=some (.lst (rs.map txv))/\No rs/\Fd rs=false)
theorem d5:Str.ofString "\n" = one 10:=by decide +kernel
theorem Z5{H:Hp}{q:Addr}{b:Bool}(h:gk H q b):∃xs:List Str,H q=some (.lst (xs.map V.str))/\(∀y∈xs,y.length<=1000)/\xs.length*1000+xs.length*(Str.ofString "\n").length<=16777216/\∀H',dy H' (.str ((Str.ofString "\n").join xs)) b:=by
 rw[d5]
 rcases h with ⟨rfl,ts,hq,lb⟩ | ⟨rfl,rs,hq,R,sb⟩
 ·refine⟨ts,hq,lb.lens,?_,λH'=>.inl ⟨rfl,.inr ⟨ts,rfl,lb⟩⟩⟩
  have:=lb.len
  show ts.length*1000+ts.length*1<=16777216
  omega
 ·refine⟨rs.map λr=>Fw (r3 r),by rw[hq,Zy6];rfl,λy hy=>?_,?_,λH'=>.inr ⟨rfl,rs,rfl,R,sb⟩⟩
  ·obtain⟨r,hr,rfl⟩:=Zza.mp hy
   exact Zyu (M4 (R.ok r hr)) (by decide)
  ·have:=R.len
   rw[Zzz]
   show rs.length*1000+rs.length*1<=16777216
   omega
theorem eh{xs:List Int}(h:xs.length=3):∃a b c,xs=[a,b,c]:=by
 match xs,h with
 |[a,b,c],_=>exact⟨a,b,c,rfl⟩
def gp(a st p:Addr)(v:V)(S:Sh)(zs:Zs)(H H3:Hp)(i:Nat)(Z:St)(H':Hp):Prop:=∃o:Option V,Z=[some (.ref a),some (.ref st),some v,some (.ref p),o,none,none,none,none,none]/\H' p=some (.lst (((zs.take i).map (·.2)).flatten.map txv))/\RD H' S.d v/\(∀b u,b≠p->H3 b=some u->H' b=some u)/\Same H H'
def gw(a st p:Addr)(v:V)(H1:Hp)(i:Nat)(Z:St)(H':Hp):Prop:=∃o4 o5 o6 o7 o8:Option V,Z=[some (.ref a),some (.ref st),some v,some (.ref p),o4,o5,o6,o7,o8,none]/\Same H1 H'
def gh(a st p:Addr)(v:V)(H1:Hp)(i:Nat)(Z:St)(H':Hp):Prop:=∃o4 o5 o6 o7 o8 o9:Option V,Z=[some (.ref a),some (.ref st),some v,some (.ref p),o4,o5,o6,o7,o8,o9]/\Same H1 H'
def Qr(K:Zzx):Sp:=λvs H Q _=>∃(a:Addr) (ns:List Int),vs=[.ref a]/\SqL K H a (ns.map V.int)/\ns.length<=63/\∀H',Q (.bl true) H'
theorem sc_law:Bv ["_law_script", "_law_state", "_law_shop_here", "_law_lines", "_law_some", "_law_cell", "_law_xs", "_law_spoilt", "_law_due", "_law_thing"] ["_law_script"] (A6 Mn):=⟨rfl,rfl,rfl,by decide +kernel,rfl,by decide +kernel,by decide +kernel⟩
theorem d3{f:Addr}{fd:FuncData}(F:Fun K "law" "law" Mn f fd)(T:Txt mg){c:Cl}(C:Exc K mg c)(Zt0:Has P w K mg base "_law_drawn" 1 ["_law_script"] (La K))(Zto:Has P w K mg base "_law_any_shop" 4 ["_law_state"] sp_law_any_shop)(Zst:Has P w K mg base "_law_rows" 1 ["_law_shop_here"] sp_law_rows)(Zux:Has P w K mg base "_law_mixed" 1 ["_law_cell", "_law_many"] sp_law_mixed)(Ztk:Has P w K mg base "_law_no_shop" 2 ["_law_lines", "_law_name", "_law_x"] sp_law_no_shop)(Ztj:Has P w K mg base "_law_no_form" 2 ["_law_lines", "_law_x"] sp_law_no_form)(Ztv:Has P w K mg base "_law_refusal" 10 ["_law_text"] sp_law_refusal)(Zu6:Ny P w K mg base "read_shop" 9 ["text"] (K4 c)):Dp P w K mg base CX0 11 f fd ["_law_script"] (Qr K):=by
 refine F.ok sc_law (λvs H Q E h=>?_) (λcdv A outer s H vs Q E hr h=>?_)
 ·obtain⟨a,ns,rfl,_⟩:=h
  rfl
 ·obtain⟨a,ns,rfl,hS,hl,k⟩:=h
  have hu:=Di hr
  have hu4:=aa hr
  refine⟨_,(A5 (Bs (i:=1) sc_law.nd rfl (Zz0 rfl) (A8 Zt0 (hr.mono (by decide)) rfl (A3 (pv 0) A2)))
 (A5 (Bs (i:=2) sc_law.nd rfl (Zz0 rfl) (A8 Zto (hr.mono (by decide)) rfl (A3 (pv 1) A2)))
 (A5 (Bs (i:=3) sc_law.nd rfl (Zz0 rfl) (Bt A2))
 (A5 (Jw PassesOwn.never rfl (Kv (A8 Zst (hr.mono (by decide)) rfl (A3 (pv 2) A2))) (Bq (i:=4) sc_law.nd rfl (Zz0 rfl))
 (A9 (E1 (Da Zym PySem.F.slot_list_extend PySem.F.type_list_extend Q4 (pv 3) (A3 (pv 4) A2)))))
 (A5 (Jw PassesOwn.never rfl (Kv (Bk Fz (De Qt (pv 0) (Dd A4) (Dd A4)) (Bt (A3 A4 A2)))) (Bq (i:=5) sc_law.nd rfl (Zz0 rfl))
 (A5 (Bs (i:=6) sc_law.nd rfl (Zz0 rfl) (A8 Zux (hr.mono (by decide)) rfl (A3 (pv 5) (A3 A4 A2))))
 (A5 (Bs (i:=7) sc_law.nd rfl (Zz0 rfl) (pv 3))
 (A5 (D9 (C4 Sx (Bk Fa (Ag hu (pv 6) A4 (λ_ _=>rfl)) A4) A4 (Cg _)) (A9 (Bs (i:=7) sc_law.nd rfl (Zz0 rfl) (A8 Ztk (hr.mono (by decide)) rfl (A3 (pv 7) (A3 (Ag hu (Ag hu (Ag hu (pv 2) A4 (λ_ _=>rfl)) A4 (λ_ _=>rfl)) A4 (λ_ _=>rfl)) (A3 (Ag hu (pv 6) A4 (λ_ _=>rfl)) A2)))))) Ca)
 (A5 (Bs (i:=8) sc_law.nd rfl (Zz0 rfl) (Bt (A3 Gd (A3 Gd (A3 Gd (A3 Gd A2))))))
 (A5 (D9 (C4 (cw hu) (Bk Fa (Ag hu (pv 6) A4 (λ_ _=>rfl)) A4) A4 (Cg _)) (A5 (Bs (i:=7) sc_law.nd rfl (Zz0 rfl) (A8 Ztj (hr.mono (by decide)) rfl (A3 (pv 7) (A3 (Ag hu (pv 6) A4 (λ_ _=>rfl)) A2))))
 (A9 (Bs (i:=8) sc_law.nd rfl (Zz0 rfl) (Bt (A3 Gd (A3 Gd (A3 Gd (A3 Gd A2)))))))) Ca)
 (A9 (D9 (C4 (Xq hu4) (A8 Ztv (hr.mono (by decide)) rfl (A3 (Da Zys Zyi Zyh Dm Ad (A3 (pv 7) A2)) A2)) (pv 8) (Cg _)) (A9 (Bm Gd)) Ca))))))))
 (A5 (Jw PassesOwn.never rfl (Kv (Bt (A3 Ad (A3 Xi (A3 A4 (A3 (pv 3) (A3 (Bw Cr rfl T.Zuy Ey (A3 (pv 3) A2)) (A3 Ad A2)))))))) (Bq (i:=9) sc_law.nd rfl (Zz0 rfl))
 (A9 (D9 (C4 (Xq hu4) (A8 Ztv (hr.mono (by decide)) rfl (A3 (pv 9) A2)) (Bt (A3 Gd (A3 Gd (A3 Gd (A3 Gd A2))))) (Cg _)) (A9 (Bm Gd)) Ca)))
 (A9 (Bm (J5 (cz hu4) (L1 Zu6 fk (hr.mono (by decide)) rfl (A3 (Da Zys Zyi Zyh Dm Ad (A3 (pv 3) A2)) A2)) (pv 2) (Cg _)))))))))),?_⟩
  refine ge (λZ' H'=>∃(st p:Addr) (v:V) (S:Sh) (o:Option V),Z'=[some (.ref a),some (.ref st),some v,some (.ref p),o,none,none,none,none,none]/\RD H' S.d v/\SD S/\H' p=some (.lst ((Bl S).flatten.map txv))/\Same H H') (λZ' H1 hM=>?_) (λKK hK=>?_)
  rotate_left
  ·simp only[Ez,tNext,Gw,E5,Ge,Ha,Dt,Hi,Cj,Hf,Gh,tC,tCB,Dl,tNil,Dh,tOp,tUn,Dk,tB,Hc,tOr,Gy,Du,Gx,Dr,tIf,Gu,Gz,tSl,Dq,tNoPart,tBA,Hb,Cu,Cn,tYes,rI,rI0,rU,rEq,rNe,rIsA,C7,rItem,lenA,Cz,Ep,Eh,listA,tupleA,lenQ,Hs,Ht,Ee,Eo,He,Hd,Hu,rCat,rCatTT,Dv,Dn,Et,Hy,E3,E4,E7,tIf,Dx,Hv,Es,Er,rEqD,rNeD,Hq,Hn,Hw,Ct,C5,Cw,Cy,Cv,D0,C9,Hl,Ej,Ei,E6,Em,En,Ec,Hm,rInsert,Ek,rCount,C8,Ho,rAppend,rPopAt,rReverse,Ef,rSetL,L2.D5,Dj,Bx,C6,Cd,Gv,Co,Cp,Hh,Ea,Eb,E8,E9,Gp,rStrI,rIntT,Eg,Ends.lose,rRepX,rPop,Ed,El,rRepD,rStrI,rIntT,rStrS,rSplit,rJoin,Ds,Dw,  D.ty,Ac,Af,Ae,Aa,A7,Ab,B0,Bc,Bb,Ay,An,Az,B8,Bh,Bg,B6,Au,B7,B3,Bf,Be,B1,Aq,B2,At,B5,B4,Ar,Al,As,Ak,Ap,Ao,Ai,Ah,Aj,Ax,Ba,B9,Av,Am,Aw,Cc,C1,Cb,By,Bp,Bz,Zyf,Zye,Zyd,Zyc,Zz7,Zzg,Zz6,Zz5,↓reduceIte,Zzp,Zyr,Zzq,Zyz,Zze,Zzy,Zyy,Zz3,Zz9,Zyb,Zzm,Zzo,Zyw,exists_eq_left',exists_eq_left,V.int.injEq,V.bl.injEq,V.str.injEq,V.ref.injEq,V.ty.injEq,Zyp,and_true,true_and,and_assoc,exists_and_left,exists_eq_right,reduceCtorEq,false_and,and_false,exists_false,or_false,false_or,rExtend]
   refine⟨a,ns,rfl,hS,hl,λst H1 fst ok1 s1=>⟨st,rfl,ok1,λv S H2 rS sd ok2 b2=>⟨by decide,λp hp=>?_⟩⟩⟩
   have s2:=(Q2 s1 b2 fst).trans (A0 (o:=.lst []) hp)
   refine⟨v,S,rfl,RD.same (A0 hp) _ _ rS,sd,λr ps H3 hr3 ls3 nd3 nw3 s3=>?_⟩
   obtain⟨zs,ez1,ez2,z3⟩:=bi ls3
   subst ez1
   have hl3:H3 r=some (.lst (zs.map λz=>V.ref z.1)):=by rw[hr3,Zy6];rfl
   have zl:zs.length<=26:=by
    have:=congrArg Zwc ez2
    unfold Bl at this
    rw[Zzz,Zzy,Zzy,N3] at this
    have:=sd.n
    omega
   have np:H p=none:=Same.free (Q2 s1 b2 fst) hp
   have gl:=Mk sd
   have pz:∀z∈zs,z.1≠p:=λz hz e=>by
    have:=nw3 z.1 (Zzi _ (Zza.mpr ⟨z,hz,rfl⟩))
    rw[e,A1] at this
    cases this
   have pr:r≠p:=λe=>by
    have:=nw3 r Zzs
    rw[e,A1] at this
    cases this
   refine⟨r,rfl,_,hl3,N2 (Ln r _) (gp a st p v S zs H H3) ⟨_,rfl,s3 _ _ A1,RD.same ((A0 hp).trans s3) _ _ rS,(λ_ _ _ e=>e),s2.trans s3⟩ (λi Z' H' _ h=>by obtain⟨_,_,_,_,kk,_⟩:=h;exact kk _ _ pr hl3) (λi x Z' H4 hi hx h=>?_) (λZ' H4 h=>?_)⟩
   ·obtain⟨o,rfl,hp4,rS4,kk,s4⟩:=h
    rw[Zzv] at hx
    cases ez:zs[i]? with
    |none=>rw[ez] at hx;cases hx
    |some z =>
    rw[ez] at hx
    have hx:V.ref z.1=x:=Zyk hx
    subst hx
    have zm:=Zyv ez
    have et:((zs.take (i+1)).map (·.2)).flatten=((zs.take i).map (·.2)).flatten++z.2:=by
     rw[Zxw,ez,Zyo,Zwq]
     simp
    have lt:((zs.take (i+1)).map (·.2)).flatten.length<=248:=by
     have h1:(zs.map (·.2)).flatten.length=((zs.take (i+1)).map (·.2)).flatten.length+((zs.drop (i+1)).map (·.2)).flatten.length:=by
      rw[<- Zzh,<- Zwq,<- Zyo,List.take_append_drop]
     rw[ez2] at h1
     omega
    rw[et,Zzh] at lt
    simp only[Ez,tNext,Gw,E5,Ge,Ha,Dt,Hi,Cj,Hf,Gh,tC,tCB,Dl,tNil,Dh,tOp,tUn,Dk,tB,Hc,tOr,Gy,Du,Gx,Dr,tIf,Gu,Gz,tSl,Dq,tNoPart,tBA,Hb,Cu,Cn,tYes,rI,rI0,rU,rEq,rNe,rIsA,C7,rItem,lenA,Cz,Ep,Eh,listA,tupleA,lenQ,Hs,Ht,Ee,Eo,He,Hd,Hu,rCat,rCatTT,Dv,Dn,Et,Hy,E3,E4,E7,tIf,Dx,Hv,Es,Er,rEqD,rNeD,Hq,Hn,Hw,Ct,C5,Cw,Cy,Cv,D0,C9,Hl,Ej,Ei,E6,Em,En,Ec,Hm,rInsert,Ek,rCount,C8,Ho,rAppend,rPopAt,rReverse,Ef,rSetL,L2.D5,Dj,Bx,C6,Cd,Gv,Co,Cp,Hh,Ea,Eb,E8,E9,Gp,rStrI,rIntT,Eg,Ends.lose,rRepX,rPop,Ed,El,rRepD,rStrI,rIntT,rStrS,rSplit,rJoin,Ds,Dw,  D.ty,Ac,Af,Ae,Aa,A7,Ab,B0,Bc,Bb,Ay,An,Az,B8,Bh,Bg,B6,Au,B7,B3,Bf,Be,B1,Aq,B2,At,B5,B4,Ar,Al,As,Ak,Ap,Ao,Ai,Ah,Aj,Ax,Ba,B9,Av,Am,Aw,Cc,C1,Cb,By,Bp,Bz,Zyf,Zye,Zyd,Zyc,Zz7,Zzg,Zz6,Zz5,↓reduceIte,Zzp,Zyr,Zzq,Zyz,Zze,Zzy,Zyy,Zz3,Zz9,Zyb,Zzm,Zzo,Zyw,exists_eq_left',exists_eq_left,V.int.injEq,V.bl.injEq,V.str.injEq,V.ref.injEq,V.ty.injEq,Zyp,and_true,true_and,and_assoc,exists_and_left,exists_eq_right,reduceCtorEq,false_and,and_false,exists_false,or_false,false_or,rExtend]
    refine⟨Fk hp4,_,hp4,_,kk _ _ (pz z zm) (z3 z zm),Bi (by rw[Zzz,Zzz];omega),_,rfl,by rw[A1,et,Zyo],RD.ku (Uo hp4 λ_ e=>nomatch e) _ _ (Vi S) rS4,λb u nb e=>by rw[Bd nb];exact kk b u nb e,Ev s4 np⟩
   ·obtain⟨o,rfl,hp4,rS4,kk,s4⟩:=h
    rw[Zzz,Zxo,ez2] at hp4
    exact hK _ _ ⟨st,p,v,S,o,rfl,rS4,sd,hp4,s4⟩
  ·obtain⟨st,p,v,S,o4,rfl,rS,sd,hp,s1⟩:=hM
   obtain⟨gR,gB,gF⟩:=Q1 sd (rs:=(Bl S).flatten) ⟨λr hr=>by rw[Zxs,Zzq] at hr;exact hr,by rw[Zxs];rfl,λφ o=>⟨Zwh,by rw[Zxs,List.filter_nil,Zzq]⟩⟩
   obtain⟨w0,ws,ew⟩:∃w0 ws,S.wares=w0::ws:=by
    have:=sd.n.1
    cases e:S.wares with
    |nil=>rw[e] at this;exact absurd this (by decide)
    |cons w0 ws=>exact⟨w0,ws,rfl⟩
   refine af (λZ' H'=>∃o4 o5 o6 o7 o8:Option V,Z'=[some (.ref a),some (.ref st),some v,some (.ref p),o4,o5,o6,o7,o8,none]/\Same H1 H') (λZ' H2 hM=>?_) (λKK hK=>?_)
   ·obtain⟨o4,o5,o6,o7,o8,rfl,s2⟩:=hM
    walk_at "rd"
    refine⟨_,.inl ⟨s2 _ _ hp,λl hl'=>⟨by decide,λq hq=>⟨_,A1,?_⟩⟩⟩⟩
    have s3:=(s2.trans (A0 (o:=.tup ((Bl S).flatten.map txv)) hl')).trans (A0 (o:=.lst [V.str (Str.ofString ""),V.non,V.int 7,V.ref p,V.ref l,V.str (Str.ofString " ")]) hq)
    have hl2:=A0 (o:=.lst [V.str (Str.ofString ""),V.non,V.int 7,V.ref p,V.ref l,V.str (Str.ofString " ")]) hq l _ A1
    have hq2:upd (upd H2 l (.tup ((Bl S).flatten.map txv))) q (.lst [V.str (Str.ofString ""),V.non,V.int 7,V.ref p,V.ref l,V.str (Str.ofString " ")]) q=some (.lst [V.str (Str.ofString ""),V.non,V.int 7,V.ref p,V.ref l,V.str (Str.ofString " ")]):=A1
    generalize upd (upd H2 l (.tup ((Bl S).flatten.map txv))) q (.lst [V.str (Str.ofString ""),V.non,V.int 7,V.ref p,V.ref l,V.str (Str.ofString " ")])=H3 at s3 hl2 hq2 ⊢
    refine N2 (Ln q _) (gh a st p v H3) ⟨_,_,_,_,_,_,rfl,Same.refl _⟩ (λi Z' H' _ h=>by obtain⟨_,_,_,_,_,_,_,s⟩:=h;exact s _ _ hq2) (λi x Z' H4 hi hx h=>?_) (λZ' H4 h=>?_)
    ·obtain⟨o4,o5,o6,o7,o8,o9,rfl,s4⟩:=h
     have hi:i<6:=hi
     have rf:dy H4 x true:=by
      have c:i=0\/i=1\/i=2\/i=3\/i=4\/i=5:=by omega
      rcases c with rfl | rfl | rfl | rfl | rfl | rfl<;>(have hx:=Zyk hx;subst hx)
      ·exact .inl ⟨rfl,.inr ⟨[Str.ofString ""],rfl,Ti Tu⟩⟩
      ·exact .inl ⟨rfl,.inl ⟨_,rfl,by decide⟩⟩
      ·exact .inl ⟨rfl,.inl ⟨_,rfl,by decide⟩⟩
      ·exact .inl ⟨rfl,.inl ⟨_,Fk (s4 _ _ (s3 _ _ hp)),by decide⟩⟩
      ·exact .inl ⟨rfl,.inl ⟨"tuple",by simp only[Km,s4 _ _ hl2],by decide⟩⟩
      ·exact .inl ⟨rfl,.inr ⟨[Str.ofString " "],rfl,Ti Qn⟩⟩
     walk_at "rd"
     refine⟨x,true,rfl,rf,λr H5 hr5 s5=>⟨by decide,λr2 hr2=>⟨S0 true,R9 (A0 hr2 _ _ hr5),S0 true,R9 A1,(M5 true).1,(M5 true).1,?_⟩⟩⟩
     rw[if_neg (by rw[(M5 true).2];decide)]
     exact⟨_,_,_,_,_,_,rfl,(s4.trans s5).trans (A0 hr2)⟩
    ·obtain⟨o4,o5,o6,o7,o8,o9,rfl,s4⟩:=h
     walk_at "rd"
     have own:∀{y:Str},y∈S.wares.map (·.name)->PyData.strOk y=true:=λhy=>by
      obtain⟨w',hw',rfl⟩:=Zza.mp hy
      exact Tf (sd.nm w' hw')
     have okS:okD S.d=true:=Xr (λw' hw'=>⟨Tf (sd.nm w' hw'),λp' hp'=>own (sd.own w' hw' p' hp')⟩) λu' hu'=>own (sd.us u' hu').1
     refine⟨rfl,(Bl S).flatten.map λr=>Fw (r3 r),by rw[s4 _ _ (s3 _ _ hp),Zy6];rfl,1000,λy hy=>?_,?_,_,rfl,.inr (.inr ⟨(Bl S).flatten,by rw[d5];rfl,gR.ne,gR.len,gR.ok,gF,λ_ t H5 rt s5=>?_,λz=>by rw[gB] at z;cases z⟩)⟩
     ·obtain⟨r,hr',rfl⟩:=Zza.mp hy
      exact Zyu (M4 (gR.ok r hr')) (by decide)
     ·have:=gR.len
      rw[d5,Zzz]
      show _*1000+_*1<=16777216
      omega
     rw[(X5 sd (rs:=(Bl S).flatten) ⟨λr hr=>by rw[Zxs,Zzq] at hr;exact hr,by rw[Zxs];rfl,λφ o=>⟨Zwh,by rw[Zxs,List.filter_nil,Zzq]⟩⟩).1] at rt
     refine⟨S.d,rt,S.d,RD.same ((s3.trans s4).trans s5) _ _ rS,okS,okS,?_⟩
     rw[Tq _ (Zm okS)]
     exact k _
   ·walk_at "rd"
    simp only[ck]
    walk_at "rd"
    obtain⟨ms,ems⟩:=Qg ns (some 1) (some 21)
    have hml:ms.length<=63:=by
     have h1:=Kr (Zvo V.int ns) (some 1) (some 21)
     rw[ems,Zzz,Zzz] at h1
     omega
    refine⟨_,s1.seq hS,?_⟩
    rw[ems]
    refine λp1 hp1=>⟨by decide,λp2 hp2=>⟨_,A0 hp2 _ _ A1,_,A1,Bi (by rw[Zzz];show _+1<=1000;omega),λp3 hp3=>⟨_,A1,?_⟩⟩⟩
    have s3:=((Same.refl H1).trans (A0 (o:=.lst (ms.map V.int)) hp1)).trans (A0 (o:=.lst [V.int 0]) hp2)
    have s4:=s3.trans (A0 (o:=.lst (ms.map V.int++[V.int 0])) hp3)
    have hp4:upd (upd (upd H1 p1 (.lst (ms.map V.int))) p2 (.lst [V.int 0])) p3 (.lst (ms.map V.int++[V.int 0])) p3=some (.lst (ms.map V.int++[V.int 0])):=A1
    generalize upd (upd (upd H1 p1 (.lst (ms.map V.int))) p2 (.lst [V.int 0])) p3 (.lst (ms.map V.int++[V.int 0]))=H3 at s4 hp4 ⊢
    refine N2 (Ln p3 _) (gw a st p v H3) ⟨_,_,_,_,_,rfl,Same.refl _⟩ (λi Z' H' _ h=>by obtain⟨_,_,_,_,_,_,s⟩:=h;exact s _ _ hp4) (λi x Z' H4 hi hx h=>?_) (λZ' H4 h=>?_)
    rotate_left
    ·obtain⟨o4,o5,o6,o7,o8,rfl,s5⟩:=h
     exact hK _ _ ⟨_,_,_,_,_,rfl,s4.trans s5⟩
    obtain⟨o4,o5,o6,o7,o8,rfl,s5⟩:=h
    obtain⟨ce,rfl⟩:∃ce,x=V.int ce:=by
     have:ms.map V.int++[V.int 0]=(ms++[0]).map V.int:=by rw[Zyo];rfl
     rw[this,Zzv] at hx
     cases e:(ms++[0])[i]? with
     |none=>rw[e] at hx;cases hx
     |some u=>rw[e] at hx;exact⟨u,(Zyk hx).symm⟩
    have s15:=s4.trans s5
    refine cut3 (λZ' H'=>∃(xl q:Addr) (x0 x1 x2:Int) (rs:List R3),Z'=[some (.ref a),some (.ref st),some v,some (.ref p),o4,some (.int ce),some (.ref xl),some (.ref q),o8,none]/\H' xl=some (.lst ([x0,x1,x2].map V.int))/\H' q=some (.lst (rs.map txv))/\No rs/\(0<x0 % 3->Fd rs=false)/\Same H4 H') (λZ' H5 hM=>?_) (λKK2 hK2=>?_)
    rotate_left
    ·walk_at "rd"
     refine⟨ce,3,rfl,by decide,by decide,λxl xs H5 hxl len ok sm=>?_⟩
     obtain⟨x0,x1,x2,rfl⟩:=eh len
     refine⟨_,Ce (j:=0) hxl rfl,_,rfl,by decide,Fj (λc=>?_) (λc=>?_)⟩
     ·have c:=of_decide_eq_true c
      obtain⟨sa,sb,sc,wv,uv,rfl,ha,hb,hc,rw3,ru3⟩:=Qu (RD.same (s15.trans sm) _ _ rS)
      rw[ew] at rw3
      obtain⟨y0,yr,rfl,ry0,_⟩:=RDs.cons_of rw3
      obtain⟨aw,cv,pv,rfl,haw,_,_⟩:=Nz ry0
      refine⟨_,Ch (j:=0) ha rfl,_,Ch (j:=0) hb rfl,_,Ch (j:=0) haw rfl,_,Ce (j:=1) hxl rfl,p,w0.name,x1,S,w0,ws,rfl,sd,ew,rfl,sm _ _ (s15 _ _ hp),λq E H6 hq R6 b6 s6=>hK2 _ _ ⟨xl,q,x0,x1,x2,_,rfl,s6 _ _ hxl,hq,R6,λ_=>b6,sm.trans s6⟩⟩
     ·have c:¬ 0<x0 % 3:=λz=>c (decide_eq_true z)
      exact hK2 _ _ ⟨xl,p,x0,x1,x2,_,rfl,hxl,sm _ _ (s15 _ _ hp),gR,λz=>absurd z c,sm⟩
    obtain⟨xl,q,x0,x1,x2,rs,rfl,hxl,hq,R,hb,s6⟩:=hM
    refine dm (λZ' H'=>∃(q' du:Addr) (b:Bool),Z'=[some (.ref a),some (.ref st),some v,some (.ref p),o4,some (.int ce),some (.ref xl),some (.ref q'),some (.ref du),none]/\gk H' q' b/\H' du=some (.lst [.bl b,.bl (!b),.bl true,.bl false])/\Same H4 H') (λZ' H6 hM=>?_) (λKK2 hK2=>?_)
    ·obtain⟨q',du,b,rfl,sp,hdu,s7⟩:=hM
     obtain⟨xs,j1,j2,j3,j4⟩:=Z5 sp
     walk_at "rd"
     refine⟨rfl,xs,j1,1000,j2,j3,_,b,rfl,j4 _,λr H7 hr7 s8=>⟨S0 b,R9 hr7,S0 b,R9 (s8 _ _ hdu),(M5 b).1,(M5 b).1,?_⟩⟩
     rw[if_neg (by rw[(M5 b).2];decide)]
     exact⟨_,_,_,_,_,rfl,(s5.trans s7).trans s8⟩
    ·walk_at "rd"
     refine⟨by decide,λdu hdu=>⟨_,Ce (j:=0) (A0 hdu _ _ hxl) rfl,_,rfl,by decide,Fj (λc=>?_) (λc=>?_)⟩⟩
     ·refine⟨_,Ce (j:=2) (A0 hdu _ _ hxl) rfl,q,x2,rs,rfl,R,A0 hdu _ _ hq,λq' ts H7 hq' lb s7=>⟨by decide,λd2 hd2=>hK2 _ _ ⟨q',d2,true,rfl,.inl ⟨rfl,ts,A0 hd2 _ _ hq',lb⟩,A1,((s6.trans (A0 hdu)).trans s7).trans (A0 hd2)⟩⟩⟩
     ·have c:¬ x0 % 3<2:=λz=>c (decide_eq_true z)
      exact hK2 _ _ ⟨q,du,false,rfl,.inr ⟨rfl,rs,A0 hdu _ _ hq,R,hb (by omega)⟩,A1,s6.trans (A0 hdu)⟩
end
theorem all_mk{l:PySem.W.OpenLaw}{w:World}{K:Zzx}{h:Heap}{mg:Str->Option Value}{fa:Addr}(X:K.In h)(G:h.Ns mainGlobals mg)(hfa:mg "law" = some (.ref fa))
  {f1:Addr} {od1 an1:Option Addr} {sl1:Array (Option Value)} {oc1 kV1 dc1 pm1 cd1 ct1:Value} {f2:Addr} {od2 an2:Option Addr} {sl2:Array (Option Value)} {oc2 kV2 dc2 pm2 cd2 ct2:Value} {f3:Addr} {od3 an3:Option Addr} {sl3:Array (Option Value)} {oc3 kV3 dc3 pm3 cd3 ct3:Value} {f4:Addr} {od4 an4:Option Addr} {sl4:Array (Option Value)} {oc4 kV4 dc4 pm4 cd4 ct4:Value} {f5:Addr} {od5 an5:Option Addr} {sl5:Array (Option Value)} {oc5 kV5 dc5 pm5 cd5 ct5:Value} {f6:Addr} {od6 an6:Option Addr} {sl6:Array (Option Value)} {oc6 kV6 dc6 pm6 cd6 ct6:Value} {f7:Addr} {od7 an7:Option Addr} {sl7:Array (Option Value)} {oc7 kV7 dc7 pm7 cd7 ct7:Value} {f8:Addr} {od8 an8:Option Addr} {sl8:Array (Option Value)} {oc8 kV8 dc8 pm8 cd8 ct8:Value} {f9:Addr} {od9 an9:Option Addr} {sl9:Array (Option Value)} {oc9 kV9 dc9 pm9 cd9 ct9:Value} {f10:Addr} {od10 an10:Option Addr} {sl10:Array (Option Value)} {oc10 kV10 dc10 pm10 cd10 ct10:Value} {f11:Addr} {od11 an11:Option Addr} {sl11:Array (Option Value)} {oc11 kV11 dc11 pm11 cd11 ct11:Value} {f12:Addr} {od12 an12:Option Addr} {sl12:Array (Option Value)} {oc12 kV12 dc12 pm12 cd12 ct12:Value} {f13:Addr} {od13 an13:Option Addr} {sl13:Array (Option Value)} {oc13 kV13 dc13 pm13 cd13 ct13:Value} {f14:Addr} {od14 an14:Option Addr} {sl14:Array (Option Value)} {oc14 kV14 dc14 pm14 cd14 ct14:Value} {f15:Addr} {od15 an15:Option Addr} {sl15:Array (Option Value)} {oc15 kV15 dc15 pm15 cd15 ct15:Value} {f16:Addr} {od16 an16:Option Addr} {sl16:Array (Option Value)} {oc16 kV16 dc16 pm16 cd16 ct16:Value} {f17:Addr} {od17 an17:Option Addr} {sl17:Array (Option Value)} {oc17 kV17 dc17 pm17 cd17 ct17:Value} {f18:Addr} {od18 an18:Option Addr} {sl18:Array (Option Value)} {oc18 kV18 dc18 pm18 cd18 ct18:Value} {f19:Addr} {od19 an19:Option Addr} {sl19:Array (Option Value)} {oc19 kV19 dc19 pm19 cd19 ct19:Value} {f20:Addr} {od20 an20:Option Addr} {sl20:Array (Option Value)} {oc20 kV20 dc20 pm20 cd20 ct20:Value} {f21:Addr} {od21 an21:Option Addr} {sl21:Array (Option Value)} {oc21 kV21 dc21 pm21 cd21 ct21:Value} {f22:Addr} {od22 an22:Option Addr} {sl22:Array (Option Value)} {oc22 kV22 dc22 pm22 cd22 ct22:Value} {f23:Addr} {od23 an23:Option Addr} {sl23:Array (Option Value)} {oc23 kV23 dc23 pm23 cd23 ct23:Value} {f24:Addr} {od24 an24:Option Addr} {sl24:Array (Option Value)} {oc24 kV24 dc24 pm24 cd24 ct24:Value} {f25:Addr} {od25 an25:Option Addr} {sl25:Array (Option Value)} {oc25 kV25 dc25 pm25 cd25 ct25:Value} {f26:Addr} {od26 an26:Option Addr} {sl26:Array (Option Value)} {oc26 kV26 dc26 pm26 cd26 ct26:Value} {f27:Addr} {od27 an27:Option Addr} {sl27:Array (Option Value)} {oc27 kV27 dc27 pm27 cd27 ct27:Value} {f28:Addr} {od28 an28:Option Addr} {sl28:Array (Option Value)} {oc28 kV28 dc28 pm28 cd28 ct28:Value} {f29:Addr} {od29 an29:Option Addr} {sl29:Array (Option Value)} {oc29 kV29 dc29 pm29 cd29 ct29:Value} {f30:Addr} {od30 an30:Option Addr} {sl30:Array (Option Value)} {oc30 kV30 dc30 pm30 cd30 ct30:Value} {f31:Addr} {od31 an31:Option Addr} {sl31:Array (Option Value)} {oc31 kV31 dc31 pm31 cd31 ct31:Value} {f32:Addr} {od32 an32:Option Addr} {sl32:Array (Option Value)} {oc32 kV32 dc32 pm32 cd32 ct32:Value} {f33:Addr} {od33 an33:Option Addr} {sl33:Array (Option Value)} {oc33 kV33 dc33 pm33 cd33 ct33:Value} {f34:Addr} {od34 an34:Option Addr} {sl34:Array (Option Value)} {oc34 kV34 dc34 pm34 cd34 ct34:Value} {f35:Addr} {od35 an35:Option Addr} {sl35:Array (Option Value)} {oc35 kV35 dc35 pm35 cd35 ct35:Value} {f36:Addr} {od36 an36:Option Addr} {sl36:Array (Option Value)} {oc36 kV36 dc36 pm36 cd36 ct36:Value} {f37:Addr} {od37 an37:Option Addr} {sl37:Array (Option Value)} {oc37 kV37 dc37 pm37 cd37 ct37:Value} {f38:Addr} {od38 an38:Option Addr} {sl38:Array (Option Value)} {oc38 kV38 dc38 pm38 cd38 ct38:Value} {f39:Addr} {od39 an39:Option Addr} {sl39:Array (Option Value)} {oc39 kV39 dc39 pm39 cd39 ct39:Value} {t_COMING:Tok} {t_FIGURES:Tok} {t_FLOOR:Tok} {t_GIVES:Tok} {t_LAG:Tok} {t_LAST_DAY:Tok} {t_LETTERS:Tok} {t_MEMBERS:Tok} {t_MOST_COMING:Tok} {t_MOST_FIGURES:Tok} {t_MOST_LAG:Tok} {t_MOST_LETTERS:Tok} {t_MOST_PARTS:Tok} {t_MOST_WANTS:Tok} {t_MOST_WARES:Tok} {t_NAME:Tok} {t_PARTS:Tok} {t_STOCK:Tok} {Ra R1 R2 R3 R4:Addr} {Re Rn1 Rn2 Rn3 Rn4:Nat} {Rt1 Rt2 Rt3 Rt4 Rt1_0 Rt1_1 Rt1_2 Rt1_3 Rt1_4 Rt2_0 Rt2_1 Rt2_2 Rt3_0 Rt3_1 Rt3_2 Rt4_0 Rt4_1 Rt4_2:Tok} {Zv3:Addr} {Zv8:Addr} {Zv7:Addr} {Zts:Addr} {Zua:Addr} {Ztx:Addr} {Ztw:Addr} {Zu9:Addr}
  (a1:Zzu K mainGlobals "_law_drawn" = some (some (.ref f1))) (l1:K.lookup f1=some ⟨oc1,od1,.func (Zyx "_law_drawn" "_law_drawn" (Bu Io) (Bo Io) (A6 Io) .none kV1 dc1 pm1 an1 cd1 ct1),sl1⟩) (c1:Zz1 K cd1 "_law_drawn" = true) (k1:Zzb K (.ref f1)=true)
  (a2:Zzu K mainGlobals "_law_next" = some (some (.ref f2))) (l2:K.lookup f2=some ⟨oc2,od2,.func (Zyx "_law_next" "_law_next" (Bu Ji) (Bo Ji) (A6 Ji) .none kV2 dc2 pm2 an2 cd2 ct2),sl2⟩) (c2:Zz1 K cd2 "_law_next" = true) (k2:Zzb K (.ref f2)=true)
  (a3:Zzu K mainGlobals "_law_names" = some (some (.ref f3))) (l3:K.lookup f3=some ⟨oc3,od3,.func (Zyx "_law_names" "_law_names" (Bu Il) (Bo Il) (A6 Il) .none kV3 dc3 pm3 an3 cd3 ct3),sl3⟩) (c3:Zz1 K cd3 "_law_names" = true) (k3:Zzb K (.ref f3)=true)
  (a4:Zzu K mainGlobals "_law_amount" = some (some (.ref f4))) (l4:K.lookup f4=some ⟨oc4,od4,.func (Zyx "_law_amount" "_law_amount" (Bu Gk) (Bo Gk) (A6 Gk) .none kV4 dc4 pm4 an4 cd4 ct4),sl4⟩) (c4:Zz1 K cd4 "_law_amount" = true) (k4:Zzb K (.ref f4)=true)
  (a5:Zzu K mainGlobals "_law_parts" = some (some (.ref f5))) (l5:K.lookup f5=some ⟨oc5,od5,.func (Zyx "_law_parts" "_law_parts" (Bu Ik) (Bo Ik) (A6 Ik) .none kV5 dc5 pm5 an5 cd5 ct5),sl5⟩) (c5:Zz1 K cd5 "_law_parts" = true) (k5:Zzb K (.ref f5)=true)
  (a6:Zzu K mainGlobals "_law_shop" = some (some (.ref f6))) (l6:K.lookup f6=some ⟨oc6,od6,.func (Zyx "_law_shop" "_law_shop" (Bu Jg) (Bo Jg) (A6 Jg) .none kV6 dc6 pm6 an6 cd6 ct6),sl6⟩) (c6:Zz1 K cd6 "_law_shop" = true) (k6:Zzb K (.ref f6)=true)
  (a7:Zzu K mainGlobals "_law_any_shop" = some (some (.ref f7))) (l7:K.lookup f7=some ⟨oc7,od7,.func (Zyx "_law_any_shop" "_law_any_shop" (Bu Fo) (Bo Fo) (A6 Fo) .none kV7 dc7 pm7 an7 cd7 ct7),sl7⟩) (c7:Zz1 K cd7 "_law_any_shop" = true) (k7:Zzb K (.ref f7)=true)
  (a8:Zzu K mainGlobals "_law_rows" = some (some (.ref f8))) (l8:K.lookup f8=some ⟨oc8,od8,.func (Zyx "_law_rows" "_law_rows" (Bu Jh) (Bo Jh) (A6 Jh) .none kV8 dc8 pm8 an8 cd8 ct8),sl8⟩) (c8:Zz1 K cd8 "_law_rows" = true) (k8:Zzb K (.ref f8)=true)
  (a9:Zzu K mainGlobals "_law_mixed" = some (some (.ref f9))) (l9:K.lookup f9=some ⟨oc9,od9,.func (Zyx "_law_mixed" "_law_mixed" (Bu Im) (Bo Im) (A6 Im) .none kV9 dc9 pm9 an9 cd9 ct9),sl9⟩) (c9:Zz1 K cd9 "_law_mixed" = true) (k9:Zzb K (.ref f9)=true)
  (a10:Zzu K mainGlobals "_law_no_shop" = some (some (.ref f10))) (l10:K.lookup f10=some ⟨oc10,od10,.func (Zyx "_law_no_shop" "_law_no_shop" (Bu Ga) (Bo Ga) (A6 Ga) .none kV10 dc10 pm10 an10 cd10 ct10),sl10⟩) (c10:Zz1 K cd10 "_law_no_shop" = true) (k10:Zzb K (.ref f10)=true)
  (a11:Zzu K mainGlobals "_law_no_form" = some (some (.ref f11))) (l11:K.lookup f11=some ⟨oc11,od11,.func (Zyx "_law_no_form" "_law_no_form" (Bu Gb) (Bo Gb) (A6 Gb) .none kV11 dc11 pm11 an11 cd11 ct11),sl11⟩) (c11:Zz1 K cd11 "_law_no_form" = true) (k11:Zzb K (.ref f11)=true)
  (a12:Zzu K mainGlobals "is_name" = some (some (.ref f12))) (l12:K.lookup f12=some ⟨oc12,od12,.func (Zyx "is_name" "is_name" (Bu Kc) (Bo Kc) (A6 Kc) .none kV12 dc12 pm12 an12 cd12 ct12),sl12⟩) (c12:Zz1 K cd12 "is_name" = true) (k12:Zzb K (.ref f12)=true)
  (a13:Zzu K mainGlobals "read_name" = some (some (.ref f13))) (l13:K.lookup f13=some ⟨oc13,od13,.func (Zyx "read_name" "read_name" (Bu Ij) (Bo Ij) (A6 Ij) .none kV13 dc13 pm13 an13 cd13 ct13),sl13⟩) (c13:Zz1 K cd13 "read_name" = true) (k13:Zzb K (.ref f13)=true)
  (a14:Zzu K mainGlobals "is_number" = some (some (.ref f14))) (l14:K.lookup f14=some ⟨oc14,od14,.func (Zyx "is_number" "is_number" (Bu Ip) (Bo Ip) (A6 Ip) .none kV14 dc14 pm14 an14 cd14 ct14),sl14⟩) (c14:Zz1 K cd14 "is_number" = true) (k14:Zzb K (.ref f14)=true)
  (a15:Zzu K mainGlobals "read_number" = some (some (.ref f15))) (l15:K.lookup f15=some ⟨oc15,od15,.func (Zyx "read_number" "read_number" (Bu G8) (Bo G8) (A6 G8) .none kV15 dc15 pm15 an15 cd15 ct15),sl15⟩) (c15:Zz1 K cd15 "read_number" = true) (k15:Zzb K (.ref f15)=true)
  (a16:Zzu K mainGlobals "read_words" = some (some (.ref f16))) (l16:K.lookup f16=some ⟨oc16,od16,.func (Zyx "read_words" "read_words" (Bu Gi) (Bo Gi) (A6 Gi) .none kV16 dc16 pm16 an16 cd16 ct16),sl16⟩) (c16:Zz1 K cd16 "read_words" = true) (k16:Zzb K (.ref f16)=true)
  (a17:Zzu K mainGlobals "read_row" = some (some (.ref f17))) (l17:K.lookup f17=some ⟨oc17,od17,.func (Zyx "read_row" "read_row" (Bu Je) (Bo Je) (A6 Je) .none kV17 dc17 pm17 an17 cd17 ct17),sl17⟩) (c17:Zz1 K cd17 "read_row" = true) (k17:Zzb K (.ref f17)=true)
  (a18:Zzu K mainGlobals "rows_of" = some (some (.ref f18))) (l18:K.lookup f18=some ⟨oc18,od18,.func (Zyx "rows_of" "rows_of" (Bu K7) (Bo K7) (A6 K7) .none kV18 dc18 pm18 an18 cd18 ct18),sl18⟩) (c18:Zz1 K cd18 "rows_of" = true) (k18:Zzb K (.ref f18)=true)
  (a19:Zzu K mainGlobals "written_shop" = some (some (.ref f19))) (l19:K.lookup f19=some ⟨oc19,od19,.func (Zyx "written_shop" "written_shop" (Bu Fm) (Bo Fm) (A6 Fm) .none kV19 dc19 pm19 an19 cd19 ct19),sl19⟩) (c19:Zz1 K cd19 "written_shop" = true) (k19:Zzb K (.ref f19)=true)
  (a20:Zzu K mainGlobals "names_of" = some (some (.ref f20))) (l20:K.lookup f20=some ⟨oc20,od20,.func (Zyx "names_of" "names_of" (Bu Jf) (Bo Jf) (A6 Jf) .none kV20 dc20 pm20 an20 cd20 ct20),sl20⟩) (c20:Zz1 K cd20 "names_of" = true) (k20:Zzb K (.ref f20)=true)
  (a21:Zzu K mainGlobals "is_tuple" = some (some (.ref f21))) (l21:K.lookup f21=some ⟨oc21,od21,.func (Zyx "is_tuple" "is_tuple" (Bu Jk) (Bo Jk) (A6 Jk) .none kV21 dc21 pm21 an21 cd21 ct21),sl21⟩) (c21:Zz1 K cd21 "is_tuple" = true) (k21:Zzb K (.ref f21)=true)
  (a22:Zzu K mainGlobals "is_whole" = some (some (.ref f22))) (l22:K.lookup f22=some ⟨oc22,od22,.func (Zyx "is_whole" "is_whole" (Bu Jj) (Bo Jj) (A6 Jj) .none kV22 dc22 pm22 an22 cd22 ct22),sl22⟩) (c22:Zz1 K cd22 "is_whole" = true) (k22:Zzb K (.ref f22)=true)
  (a23:Zzu K mainGlobals "is_from" = some (some (.ref f23))) (l23:K.lookup f23=some ⟨oc23,od23,.func (Zyx "is_from" "is_from" (Bu Kd) (Bo Kd) (A6 Kd) .none kV23 dc23 pm23 an23 cd23 ct23),sl23⟩) (c23:Zz1 K cd23 "is_from" = true) (k23:Zzb K (.ref f23)=true)
  (a24:Zzu K mainGlobals "is_between" = some (some (.ref f24))) (l24:K.lookup f24=some ⟨oc24,od24,.func (Zyx "is_between" "is_between" (Bu Gm) (Bo Gm) (A6 Gm) .none kV24 dc24 pm24 an24 cd24 ct24),sl24⟩) (c24:Zz1 K cd24 "is_between" = true) (k24:Zzb K (.ref f24)=true)
  (a25:Zzu K mainGlobals "is_want" = some (some (.ref f25))) (l25:K.lookup f25=some ⟨oc25,od25,.func (Zyx "is_want" "is_want" (Bu K9) (Bo K9) (A6 K9) .none kV25 dc25 pm25 an25 cd25 ct25),sl25⟩) (c25:Zz1 K cd25 "is_want" = true) (k25:Zzb K (.ref f25)=true)
  (a26:Zzu K mainGlobals "are_wants" = some (some (.ref f26))) (l26:K.lookup f26=some ⟨oc26,od26,.func (Zyx "are_wants" "are_wants" (Bu Ir) (Bo Ir) (A6 Ir) .none kV26 dc26 pm26 an26 cd26 ct26),sl26⟩) (c26:Zz1 K cd26 "are_wants" = true) (k26:Zzb K (.ref f26)=true)
  (a27:Zzu K mainGlobals "is_part" = some (some (.ref f27))) (l27:K.lookup f27=some ⟨oc27,od27,.func (Zyx "is_part" "is_part" (Bu Kb) (Bo Kb) (A6 Kb) .none kV27 dc27 pm27 an27 cd27 ct27),sl27⟩) (c27:Zz1 K cd27 "is_part" = true) (k27:Zzb K (.ref f27)=true)
  (a28:Zzu K mainGlobals "are_unlike" = some (some (.ref f28))) (l28:K.lookup f28=some ⟨oc28,od28,.func (Zyx "are_unlike" "are_unlike" (Bu Go) (Bo Go) (A6 Go) .none kV28 dc28 pm28 an28 cd28 ct28),sl28⟩) (c28:Zz1 K cd28 "are_unlike" = true) (k28:Zzb K (.ref f28)=true)
  (a29:Zzu K mainGlobals "are_parts" = some (some (.ref f29))) (l29:K.lookup f29=some ⟨oc29,od29,.func (Zyx "are_parts" "are_parts" (Bu Iu) (Bo Iu) (A6 Iu) .none kV29 dc29 pm29 an29 cd29 ct29),sl29⟩) (c29:Zz1 K cd29 "are_parts" = true) (k29:Zzb K (.ref f29)=true)
  (a30:Zzu K mainGlobals "is_arrival" = some (some (.ref f30))) (l30:K.lookup f30=some ⟨oc30,od30,.func (Zyx "is_arrival" "is_arrival" (Bu Gn) (Bo Gn) (A6 Gn) .none kV30 dc30 pm30 an30 cd30 ct30),sl30⟩) (c30:Zz1 K cd30 "is_arrival" = true) (k30:Zzb K (.ref f30)=true)
  (a31:Zzu K mainGlobals "are_arrivals" = some (some (.ref f31))) (l31:K.lookup f31=some ⟨oc31,od31,.func (Zyx "are_arrivals" "are_arrivals" (Bu Fp) (Bo Fp) (A6 Fp) .none kV31 dc31 pm31 an31 cd31 ct31),sl31⟩) (c31:Zz1 K cd31 "are_arrivals" = true) (k31:Zzb K (.ref f31)=true)
  (a32:Zzu K mainGlobals "is_ware" = some (some (.ref f32))) (l32:K.lookup f32=some ⟨oc32,od32,.func (Zyx "is_ware" "is_ware" (Bu K8) (Bo K8) (A6 K8) .none kV32 dc32 pm32 an32 cd32 ct32),sl32⟩) (c32:Zz1 K cd32 "is_ware" = true) (k32:Zzb K (.ref f32)=true)
  (a33:Zzu K mainGlobals "are_wares" = some (some (.ref f33))) (l33:K.lookup f33=some ⟨oc33,od33,.func (Zyx "are_wares" "are_wares" (Bu Iq) (Bo Iq) (A6 Iq) .none kV33 dc33 pm33 an33 cd33 ct33),sl33⟩) (c33:Zz1 K cd33 "are_wares" = true) (k33:Zzb K (.ref f33)=true)
  (a34:Zzu K mainGlobals "part_names" = some (some (.ref f34))) (l34:K.lookup f34=some ⟨oc34,od34,.func (Zyx "part_names" "part_names" (Bu Gj) (Bo Gj) (A6 Gj) .none kV34 dc34 pm34 an34 cd34 ct34),sl34⟩) (c34:Zz1 K cd34 "part_names" = true) (k34:Zzb K (.ref f34)=true)
  (a35:Zzu K mainGlobals "needed_names" = some (some (.ref f35))) (l35:K.lookup f35=some ⟨oc35,od35,.func (Zyx "needed_names" "needed_names" (Bu Fn) (Bo Fn) (A6 Fn) .none kV35 dc35 pm35 an35 cd35 ct35),sl35⟩) (c35:Zz1 K cd35 "needed_names" = true) (k35:Zzb K (.ref f35)=true)
  (a36:Zzu K mainGlobals "is_shop" = some (some (.ref f36))) (l36:K.lookup f36=some ⟨oc36,od36,.func (Zyx "is_shop" "is_shop" (Bu Ka) (Bo Ka) (A6 Ka) .none kV36 dc36 pm36 an36 cd36 ct36),sl36⟩) (c36:Zz1 K cd36 "is_shop" = true) (k36:Zzb K (.ref f36)=true)
  (a37:Zzu K mainGlobals "read_shop" = some (some (.ref f37))) (l37:K.lookup f37=some ⟨oc37,od37,.func (Zyx "read_shop" "read_shop" (Bu Ii) (Bo Ii) (A6 Ii) .none kV37 dc37 pm37 an37 cd37 ct37),sl37⟩) (c37:Zz1 K cd37 "read_shop" = true) (k37:Zzb K (.ref f37)=true)
  (a38:Zzu K mainGlobals "_law_refusal" = some (some (.ref f38))) (l38:K.lookup f38=some ⟨oc38,od38,.func (Zyx "_law_refusal" "_law_refusal" (Bu G9) (Bo G9) (A6 G9) .none kV38 dc38 pm38 an38 cd38 ct38),sl38⟩) (c38:Zz1 K cd38 "_law_refusal" = true) (k38:Zzb K (.ref f38)=true)
  (a39:Zzu K mainGlobals "law" = some (some (.ref f39))) (l39:K.lookup f39=some ⟨oc39,od39,.func (Zyx "law" "law" (Bu Mn) (Bo Mn) (A6 Mn) .none kV39 dc39 pm39 an39 cd39 ct39),sl39⟩) (c39:Zz1 K cd39 "law" = true) (k39:Zzb K (.ref f39)=true)
  (z_len:Zzu K mainGlobals "len" = some none)
  (z_isinstance:Zzu K mainGlobals "isinstance" = some none)
  (z_str:Zzu K mainGlobals "str" = some none)
  (z_all:Zzu K mainGlobals "all" = some none)
  (z_bool:Zzu K mainGlobals "bool" = some none)
  (z_int:Zzu K mainGlobals "int" = some none)
  (z_tuple:Zzu K mainGlobals "tuple" = some none)
  (z_zip:Zzu K mainGlobals "zip" = some none)
  (z_range:Zzu K mainGlobals "range" = some none)
  (z_enumerate:Zzu K mainGlobals "enumerate" = some none)
  (z_list:Zzu K mainGlobals "list" = some none)
  (z_ValueError:Zzu K mainGlobals "ValueError" = some none)
  (Ztf:Zzu K mainGlobals "COMING" = some (some (.int 5 t_COMING)))
  (Ztn:Zzu K mainGlobals "FIGURES" = some (some (.str "0123456789" t_FIGURES)))
  (Zsz:Zzu K mainGlobals "FLOOR" = some (some (.int 3 t_FLOOR)))
  (Zsy:Zzu K mainGlobals "GIVES" = some (some (.int 2 t_GIVES)))
  (Zso:Zzu K mainGlobals "LAG" = some (some (.int 1 t_LAG)))
  (Ztz:Zzu K mainGlobals "LAST_DAY" = some (some (.int 400 t_LAST_DAY)))
  (Ztm:Zzu K mainGlobals "LETTERS" = some (some (.str "abcdefghijklmnopqrstuvwxyz" t_LETTERS)))
  (Ztu:Zzu K mainGlobals "MEMBERS" = some (some (.int 7 t_MEMBERS)))
  (Zu8:Zzu K mainGlobals "MOST_COMING" = some (some (.int 12 t_MOST_COMING)))
  (Zuh:Zzu K mainGlobals "MOST_FIGURES" = some (some (.int 60 t_MOST_FIGURES)))
  (Ztt:Zzu K mainGlobals "MOST_LAG" = some (some (.int 30 t_MOST_LAG)))
  (Zug:Zzu K mainGlobals "MOST_LETTERS" = some (some (.int 8 t_MOST_LETTERS)))
  (Zu4:Zzu K mainGlobals "MOST_PARTS" = some (some (.int 6 t_MOST_PARTS)))
  (Zu3:Zzu K mainGlobals "MOST_WANTS" = some (some (.int 20 t_MOST_WANTS)))
  (Zu2:Zzu K mainGlobals "MOST_WARES" = some (some (.int 12 t_MOST_WARES)))
  (Zte:Zzu K mainGlobals "NAME" = some (some (.int 0 t_NAME)))
  (Ztg:Zzu K mainGlobals "PARTS" = some (some (.int 6 t_PARTS)))
  (Zsx:Zzu K mainGlobals "STOCK" = some (some (.int 4 t_STOCK)))
  (r_g:Zzu K mainGlobals "ROWS" = some (some (.ref Ra))) (r_l:K.lookup Ra=some {cls:=.type "dict",data:=.dict #[{hash:=PyData.keyHash w.params "ware",key:=.str "ware" Rt1,val:=.ref R1},{hash:=PyData.keyHash w.params "coming",key:=.str "coming" Rt2,val:=.ref R2},{hash:=PyData.keyHash w.params "part",key:=.str "part" Rt3,val:=.ref R3},{hash:=PyData.keyHash w.params "want",key:=.str "want" Rt4,val:=.ref R4}] Re}) (r_n:(Ra == sysModules)=false)
  (r_1:K.lookup R1=some {cls:=.type "tuple",data:=.seq #[Value.str "name" Rt1_0,Value.str "number" Rt1_1,Value.str "number" Rt1_2,Value.str "number" Rt1_3,Value.str "number" Rt1_4] Rn1})
  (r_2:K.lookup R2=some {cls:=.type "tuple",data:=.seq #[Value.str "name" Rt2_0,Value.str "number" Rt2_1,Value.str "number" Rt2_2] Rn2})
  (r_3:K.lookup R3=some {cls:=.type "tuple",data:=.seq #[Value.str "name" Rt3_0,Value.str "name" Rt3_1,Value.str "number" Rt3_2] Rn3})
  (r_4:K.lookup R4=some {cls:=.type "tuple",data:=.seq #[Value.str "name" Rt4_0,Value.str "number" Rt4_1,Value.str "number" Rt4_2] Rn4})
  (q_NeedError:Zzu K mainGlobals "NeedError" = some (some (.ref Zv3)))
  (q_NoText:Zzu K mainGlobals "NoText" = some (some (.ref Zv8)))
  (q_NoShop:Zzu K mainGlobals "NoShop" = some (some (.ref Zv7)))
  (q_Ring:Zzu K mainGlobals "Ring" = some (some (.ref Zts)))
  (q_NoName:Zzu K mainGlobals "NoName" = some (some (.ref Zua)))
  (q_NoDay:Zzu K mainGlobals "NoDay" = some (some (.ref Ztx)))
  (q_NoBuy:Zzu K mainGlobals "NoBuy" = some (some (.ref Ztw)))
  (q_NoPlan:Zzu K mainGlobals "NoPlan" = some (some (.ref Zu9)))
  (Zu1:Us K Zv8=true)
  (Zur:Mf K Zv8)
  (Zv2:exmOne K (.ref Zv8) (.ref Zv3)=some true)
  (Zun:kitOne K (.ref Zv8) (.ref Zv3)=some true)
  (Zuv:kitOne K (.ref Zv8) (.ref Zv8)=some true)
  (Zuu:kitOne K (.ref Zv8) (.ref Zv7)=some false)
  (Zuo:kitOne K (.ref Zv8) (.ref Zts)=some false)
  (Zut:kitOne K (.ref Zv8) (.ref Zua)=some false)
  (Zuq:kitOne K (.ref Zv8) (.ref Ztx)=some false)
  (Zup:kitOne K (.ref Zv8) (.ref Ztw)=some false)
  (Zus:kitOne K (.ref Zv8) (.ref Zu9)=some false)
  (Zv5:kitOne K (.ref Zv8) (.type "ValueError")=some true)
  (Ztc:Us K Zv7=true)
  (Zu0:Mf K Zv7)
  (Zuw:exmOne K (.ref Zv7) (.ref Zv3)=some true)
  (Zum:kitOne K (.ref Zv7) (.ref Zv3)=some true)
  (Zul:kitOne K (.ref Zv7) (.ref Zv8)=some false)
  (Zuk:kitOne K (.ref Zv7) (.ref Zv7)=some true)
  (Zu7:kitOne K (.ref Zv7) (.ref Zts)=some false)
  (Zuj:kitOne K (.ref Zv7) (.ref Zua)=some false)
  (Zuf:kitOne K (.ref Zv7) (.ref Ztx)=some false)
  (Zue:kitOne K (.ref Zv7) (.ref Ztw)=some false)
  (Zui:kitOne K (.ref Zv7) (.ref Zu9)=some false)
  (Zuz:kitOne K (.ref Zv7) (.type "ValueError")=some true) :
  ∃fd:FuncData,(∀(s:Shared) (v:Value),BindsTo s fd ⟨[v],[]⟩ [("_law_script",v)])/\∀base:Heap,K.In base->base.Ns mainGlobals mg->Dp l.prog w K mg base CX0 11 fa fd ["_law_script"] (Qr K):=by
 have e:=hfa.symm.trans (Zzr X G a39)
 cases e
 have T:Txt mg:=⟨Zxx X G z_len,Zxx X G z_isinstance,Zxx X G z_str,Zxx X G z_all,Zxx X G z_bool,Zxx X G z_int,Zxx X G z_tuple,Zxx X G z_zip,Zxx X G z_range,Zxx X G z_enumerate,Zxx X G z_list,Zxx X G z_ValueError,⟨_,Zzr X G Ztf⟩,⟨_,Zzr X G Ztn⟩,⟨_,Zzr X G Zsz⟩,⟨_,Zzr X G Zsy⟩,⟨_,Zzr X G Zso⟩,⟨_,Zzr X G Ztz⟩,⟨_,Zzr X G Ztm⟩,⟨_,Zzr X G Ztu⟩,⟨_,Zzr X G Zu8⟩,⟨_,Zzr X G Zuh⟩,⟨_,Zzr X G Ztt⟩,⟨_,Zzr X G Zug⟩,⟨_,Zzr X G Zu4⟩,⟨_,Zzr X G Zu3⟩,⟨_,Zzr X G Zu2⟩,⟨_,Zzr X G Zte⟩,⟨_,Zzr X G Ztg⟩,⟨_,Zzr X G Zsx⟩⟩
 have R:Rws w K mg:=⟨Ra,[("ware",Rt1,R1),("coming",Rt2,R2),("part",Rt3,R3),("want",Rt4,R4)],Zzr X G r_g,⟨⟨Re,r_l⟩,by show (["ware", "coming", "part", "want"]:List Str).Nodup;decide +kernel,r_n⟩,⟨R1,[("name",Rt1_0),("number",Rt1_1),("number",Rt1_2),("number",Rt1_3),("number",Rt1_4)],rfl,⟨Rn1,r_1⟩,rfl⟩,⟨R2,[("name",Rt2_0),("number",Rt2_1),("number",Rt2_2)],rfl,⟨Rn2,r_2⟩,rfl⟩,⟨R3,[("name",Rt3_0),("name",Rt3_1),("number",Rt3_2)],rfl,⟨Rn3,r_3⟩,rfl⟩,⟨R4,[("name",Rt4_0),("number",Rt4_1),("number",Rt4_2)],rfl,⟨Rn4,r_4⟩,rfl⟩,rfl⟩
 have C:Exc K mg ⟨Zv3,Zv8,Zv7,Zts,Zua,Ztx,Ztw,Zu9⟩:=⟨Zzr X G q_NeedError,Zzr X G q_NoText,Zzr X G q_NoShop,Zzr X G q_Ring,Zzr X G q_NoName,Zzr X G q_NoDay,Zzr X G q_NoBuy,Zzr X G q_NoPlan,Zu1,Zur,Zv2,Zun,Zuv,Zuu,Zuo,Zut,Zuq,Zup,Zus,Zv5,Ztc,Zu0,Zuw,Zum,Zul,Zuk,Zu7,Zuj,Zuf,Zue,Zui,Zuz⟩
 have F1:=Ci (st:=Io) l1 c1 k1
 have b1:=F1.binds (ps:=["_law_script"]) λ_ _ _ _ _ _ us hl=>match us,hl with | [_],_=>rfl
 have Zt0:∀base:Heap,Has l.prog w K mg base "_law_drawn" 1 ["_law_script"] (La K):=λbase=>⟨_,_,Zzr X G a1,k1,b1,Rl F1 T⟩
 have F2:=Ci (st:=Ji) l2 c2 k2
 have b2:=F2.binds (ps:=["_law_state", "_law_many"]) λ_ _ _ _ _ _ us hl=>match us,hl with | [_,_],_=>rfl
 have Zva:∀base:Heap,Has l.prog w K mg base "_law_next" 1 ["_law_state", "_law_many"] sp_law_next:=λbase=>⟨_,_,Zzr X G a2,k2,b2,T9 F2 T C⟩
 have F3:=Ci (st:=Il) l3 c3 k3
 have b3:=F3.binds (ps:=["_law_state", "_law_many"]) λ_ _ _ _ _ _ us hl=>match us,hl with | [_,_],_=>rfl
 have Zt2:∀base:Heap,Has l.prog w K mg base "_law_names" 2 ["_law_state", "_law_many"] sp_law_names:=λbase=>⟨_,_,Zzr X G a3,k3,b3,Rj F3 T C (Zva base)⟩
 have F4:=Ci (st:=Gk) l4 c4 k4
 have b4:=F4.binds (ps:=["_law_state"]) λ_ _ _ _ _ _ us hl=>match us,hl with | [_],_=>rfl
 have Zuc:∀base:Heap,Has l.prog w K mg base "_law_amount" 2 ["_law_state"] sp_law_amount:=λbase=>⟨_,_,Zzr X G a4,k4,b4,Pf F4 T C (Zva base)⟩
 have F5:=Ci (st:=Ik) l5 c5 k5
 have b5:=F5.binds (ps:=["_law_state", "_law_names_here"]) λ_ _ _ _ _ _ us hl=>match us,hl with | [_,_],_=>rfl
 have Zt1:∀base:Heap,Has l.prog w K mg base "_law_parts" 2 ["_law_state", "_law_names_here"] sp_law_parts:=λbase=>⟨_,_,Zzr X G a5,k5,b5,Ri F5 T C (Zva base)⟩
 have F6:=Ci (st:=Jg) l6 c6 k6
 have b6:=F6.binds (ps:=["_law_state", "_law_top"]) λ_ _ _ _ _ _ us hl=>match us,hl with | [_,_],_=>rfl
 have Zsu:∀base:Heap,Has l.prog w K mg base "_law_shop" 3 ["_law_state", "_law_top"] sp_law_shop:=λbase=>⟨_,_,Zzr X G a6,k6,b6,T7 F6 T C (Zt2 base) (Zva base) (Zuc base) (Zt1 base)⟩
 have F7:=Ci (st:=Fo) l7 c7 k7
 have b7:=F7.binds (ps:=["_law_state"]) λ_ _ _ _ _ _ us hl=>match us,hl with | [_],_=>rfl
 have Zto:∀base:Heap,Has l.prog w K mg base "_law_any_shop" 4 ["_law_state"] sp_law_any_shop:=λbase=>⟨_,_,Zzr X G a7,k7,b7,Nv F7 T C (Zsu base) (Zva base)⟩
 have F8:=Ci (st:=Jh) l8 c8 k8
 have b8:=F8.binds (ps:=["_law_shop_here"]) λ_ _ _ _ _ _ us hl=>match us,hl with | [_],_=>rfl
 have Zst:∀base:Heap,Has l.prog w K mg base "_law_rows" 1 ["_law_shop_here"] sp_law_rows:=λbase=>⟨_,_,Zzr X G a8,k8,b8,T8 F8 T C⟩
 have F9:=Ci (st:=Im) l9 c9 k9
 have b9:=F9.binds (ps:=["_law_cell", "_law_many"]) λ_ _ _ _ _ _ us hl=>match us,hl with | [_,_],_=>rfl
 have Zux:∀base:Heap,Has l.prog w K mg base "_law_mixed" 1 ["_law_cell", "_law_many"] sp_law_mixed:=λbase=>⟨_,_,Zzr X G a9,k9,b9,Rk F9 T C⟩
 have F10:=Ci (st:=Ga) l10 c10 k10
 have b10:=F10.binds (ps:=["_law_lines", "_law_name", "_law_x"]) λ_ _ _ _ _ _ us hl=>match us,hl with | [_,_,_],_=>rfl
 have Ztk:∀base:Heap,Has l.prog w K mg base "_law_no_shop" 2 ["_law_lines", "_law_name", "_law_x"] sp_law_no_shop:=λbase=>⟨_,_,Zzr X G a10,k10,b10,On F10 T C (Zux base)⟩
 have F11:=Ci (st:=Gb) l11 c11 k11
 have b11:=F11.binds (ps:=["_law_lines", "_law_x"]) λ_ _ _ _ _ _ us hl=>match us,hl with | [_,_],_=>rfl
 have Ztj:∀base:Heap,Has l.prog w K mg base "_law_no_form" 2 ["_law_lines", "_law_x"] sp_law_no_form:=λbase=>⟨_,_,Zzr X G a11,k11,b11,Oo F11 T C (Zux base)⟩
 have F12:=Ci (st:=Kc) l12 c12 k12
 have b12:=F12.binds (ps:=["found"]) λ_ _ _ _ _ _ us hl=>match us,hl with | [_],_=>rfl
 have Zv0:∀base:Heap,Has l.prog w K mg base "is_name" 1 ["found"] sp_is_name:=λbase=>⟨_,_,Zzr X G a12,k12,b12,Uh F12 T C⟩
 have F13:=Ci (st:=Ij) l13 c13 k13
 have b13:=F13.binds (ps:=["word"]) λ_ _ _ _ _ _ us hl=>match us,hl with | [_],_=>rfl
 have Zt3:∀base:Heap,Ny l.prog w K mg base "read_name" 2 ["word"] (L9 ⟨Zv3,Zv8,Zv7,Zts,Zua,Ztx,Ztw,Zu9⟩):=λbase=>⟨_,_,Zzr X G a13,k13,b13,Rh F13 T C (Zv0 base)⟩
 have F14:=Ci (st:=Ip) l14 c14 k14
 have b14:=F14.binds (ps:=["word"]) λ_ _ _ _ _ _ us hl=>match us,hl with | [_],_=>rfl
 have Zt4:∀base:Heap,Has l.prog w K mg base "is_number" 1 ["word"] sp_is_number:=λbase=>⟨_,_,Zzr X G a14,k14,b14,Rm F14 T C⟩
 have F15:=Ci (st:=G8) l15 c15 k15
 have b15:=F15.binds (ps:=["word"]) λ_ _ _ _ _ _ us hl=>match us,hl with | [_],_=>rfl
 have Ztl:∀base:Heap,Ny l.prog w K mg base "read_number" 2 ["word"] (Kh ⟨Zv3,Zv8,Zv7,Zts,Zua,Ztx,Ztw,Zu9⟩):=λbase=>⟨_,_,Zzr X G a15,k15,b15,Ol F15 T C (Zt4 base)⟩
 have F16:=Ci (st:=Gi) l16 c16 k16
 have b16:=F16.binds (ps:=["words", "form"]) λ_ _ _ _ _ _ us hl=>match us,hl with | [_,_],_=>rfl
 have Zt9:∀base:Heap,Ny l.prog w K mg base "read_words" 3 ["words", "form"] (Kt K ⟨Zv3,Zv8,Zv7,Zts,Zua,Ztx,Ztw,Zu9⟩):=λbase=>⟨_,_,Zzr X G a16,k16,b16,Pd F16 T C (Zt3 base) (Ztl base)⟩
 have F17:=Ci (st:=Je) l17 c17 k17
 have b17:=F17.binds (ps:=["row"]) λ_ _ _ _ _ _ us hl=>match us,hl with | [_],_=>rfl
 have Zsv:∀base:Heap,Ny l.prog w K mg base "read_row" 4 ["row"] (Lp ⟨Zv3,Zv8,Zv7,Zts,Zua,Ztx,Ztw,Zu9⟩):=λbase=>⟨_,_,Zzr X G a17,k17,b17,T5 F17 T R C (Zt9 base)⟩
 have F18:=Ci (st:=K7) l18 c18 k18
 have b18:=F18.binds (ps:=["rows", "sort", "name"]) λ_ _ _ _ _ _ us hl=>match us,hl with | [_,_,_],_=>rfl
 have Zt8:∀base:Heap,Has l.prog w K mg base "rows_of" 1 ["rows", "sort", "name"] sp_rows_of:=λbase=>⟨_,_,Zzr X G a18,k18,b18,Uc F18 T C⟩
 have F19:=Ci (st:=Fm) l19 c19 k19
 have b19:=F19.binds (ps:=["rows"]) λ_ _ _ _ _ _ us hl=>match us,hl with | [_],_=>rfl
 have Ztp:∀base:Heap,Has l.prog w K mg base "written_shop" 2 ["rows"] sp_written_shop:=λbase=>⟨_,_,Zzr X G a19,k19,b19,Nt F19 T C (Zt8 base)⟩
 have F20:=Ci (st:=Jf) l20 c20 k20
 have b20:=F20.binds (ps:=["shop"]) λ_ _ _ _ _ _ us hl=>match us,hl with | [_],_=>rfl
 have Zty:∀base:Heap,Has l.prog w K mg base "names_of" 1 ["shop"] sp_names_of:=λbase=>⟨_,_,Zzr X G a20,k20,b20,T6 F20 T C⟩
 have F21:=Ci (st:=Jk) l21 c21 k21
 have b21:=F21.binds (ps:=["found", "least", "most"]) λ_ _ _ _ _ _ us hl=>match us,hl with | [_,_,_],_=>rfl
 have Zv9:∀base:Heap,Has l.prog w K mg base "is_tuple" 1 ["found", "least", "most"] sp_is_tuple:=λbase=>⟨_,_,Zzr X G a21,k21,b21,Tb F21 T C⟩
 have F22:=Ci (st:=Jj) l22 c22 k22
 have b22:=F22.binds (ps:=["found"]) λ_ _ _ _ _ _ us hl=>match us,hl with | [_],_=>rfl
 have Zsw:∀base:Heap,Has l.prog w K mg base "is_whole" 1 ["found"] sp_is_whole:=λbase=>⟨_,_,Zzr X G a22,k22,b22,Ta F22 T C⟩
 have F23:=Ci (st:=Kd) l23 c23 k23
 have b23:=F23.binds (ps:=["found", "least"]) λ_ _ _ _ _ _ us hl=>match us,hl with | [_,_],_=>rfl
 have Zv6:∀base:Heap,Has l.prog w K mg base "is_from" 2 ["found", "least"] sp_is_from:=λbase=>⟨_,_,Zzr X G a23,k23,b23,Ui F23 T C (Zsw base)⟩
 have F24:=Ci (st:=Gm) l24 c24 k24
 have b24:=F24.binds (ps:=["found", "least", "most"]) λ_ _ _ _ _ _ us hl=>match us,hl with | [_,_,_],_=>rfl
 have Zv1:∀base:Heap,Has l.prog w K mg base "is_between" 3 ["found", "least", "most"] sp_is_between:=λbase=>⟨_,_,Zzr X G a24,k24,b24,Pg F24 T C (Zv6 base)⟩
 have F25:=Ci (st:=K9) l25 c25 k25
 have b25:=F25.binds (ps:=["found"]) λ_ _ _ _ _ _ us hl=>match us,hl with | [_],_=>rfl
 have Zsq:∀base:Heap,Has l.prog w K mg base "is_want" 4 ["found"] sp_is_want:=λbase=>⟨_,_,Zzr X G a25,k25,b25,Ue F25 T C (Zv9 base) (Zv6 base) (Zv1 base) (Zv0 base)⟩
 have F26:=Ci (st:=Ir) l26 c26 k26
 have b26:=F26.binds (ps:=["found"]) λ_ _ _ _ _ _ us hl=>match us,hl with | [_],_=>rfl
 have Zt6:∀base:Heap,Has l.prog w K mg base "are_wants" 5 ["found"] sp_are_wants:=λbase=>⟨_,_,Zzr X G a26,k26,b26,Rp F26 T C (Zsq base) (Zv9 base)⟩
 have F27:=Ci (st:=Kb) l27 c27 k27
 have b27:=F27.binds (ps:=["found"]) λ_ _ _ _ _ _ us hl=>match us,hl with | [_],_=>rfl
 have Zss:∀base:Heap,Has l.prog w K mg base "is_part" 3 ["found"] sp_is_part:=λbase=>⟨_,_,Zzr X G a27,k27,b27,Ug F27 T C (Zv6 base) (Zv0 base) (Zv9 base)⟩
 have F28:=Ci (st:=Go) l28 c28 k28
 have b28:=F28.binds (ps:=["names"]) λ_ _ _ _ _ _ us hl=>match us,hl with | [_],_=>rfl
 have Zud:∀base:Heap,Has l.prog w K mg base "are_unlike" 1 ["names"] sp_are_unlike:=λbase=>⟨_,_,Zzr X G a28,k28,b28,Pi F28 T C⟩
 have F29:=Ci (st:=Iu) l29 c29 k29
 have b29:=F29.binds (ps:=["found"]) λ_ _ _ _ _ _ us hl=>match us,hl with | [_],_=>rfl
 have Zt7:∀base:Heap,Has l.prog w K mg base "are_parts" 4 ["found"] sp_are_parts:=λbase=>⟨_,_,Zzr X G a29,k29,b29,Rq F29 T C (Zss base) (Zv9 base) (Zud base)⟩
 have F30:=Ci (st:=Gn) l30 c30 k30
 have b30:=F30.binds (ps:=["found"]) λ_ _ _ _ _ _ us hl=>match us,hl with | [_],_=>rfl
 have Ztb:∀base:Heap,Has l.prog w K mg base "is_arrival" 4 ["found"] sp_is_arrival:=λbase=>⟨_,_,Zzr X G a30,k30,b30,Ph F30 T C (Zv6 base) (Zv1 base) (Zv9 base)⟩
 have F31:=Ci (st:=Fp) l31 c31 k31
 have b31:=F31.binds (ps:=["found"]) λ_ _ _ _ _ _ us hl=>match us,hl with | [_],_=>rfl
 have Ztr:∀base:Heap,Has l.prog w K mg base "are_arrivals" 5 ["found"] sp_are_arrivals:=λbase=>⟨_,_,Zzr X G a31,k31,b31,Nw F31 T C (Ztb base) (Zv9 base)⟩
 have F32:=Ci (st:=K8) l32 c32 k32
 have b32:=F32.binds (ps:=["found"]) λ_ _ _ _ _ _ us hl=>match us,hl with | [_],_=>rfl
 have Zsr:∀base:Heap,Has l.prog w K mg base "is_ware" 6 ["found"] sp_is_ware:=λbase=>⟨_,_,Zzr X G a32,k32,b32,Ud F32 T C (Zv9 base) (Zv6 base) (Zv1 base) (Zv0 base) (Zt7 base) (Ztr base)⟩
 have F33:=Ci (st:=Iq) l33 c33 k33
 have b33:=F33.binds (ps:=["found"]) λ_ _ _ _ _ _ us hl=>match us,hl with | [_],_=>rfl
 have Zt5:∀base:Heap,Has l.prog w K mg base "are_wares" 7 ["found"] sp_are_wares:=λbase=>⟨_,_,Zzr X G a33,k33,b33,Ro F33 T C (Zsr base) (Zv9 base) (Zud base)⟩
 have F34:=Ci (st:=Gj) l34 c34 k34
 have b34:=F34.binds (ps:=["ware"]) λ_ _ _ _ _ _ us hl=>match us,hl with | [_],_=>rfl
 have Zta:∀base:Heap,Has l.prog w K mg base "part_names" 1 ["ware"] sp_part_names:=λbase=>⟨_,_,Zzr X G a34,k34,b34,Pe F34 T C⟩
 have F35:=Ci (st:=Fn) l35 c35 k35
 have b35:=F35.binds (ps:=["shop"]) λ_ _ _ _ _ _ us hl=>match us,hl with | [_],_=>rfl
 have Ztq:∀base:Heap,Has l.prog w K mg base "needed_names" 2 ["shop"] sp_needed_names:=λbase=>⟨_,_,Zzr X G a35,k35,b35,Nu F35 T C (Zta base)⟩
 have F36:=Ci (st:=Ka) l36 c36 k36
 have b36:=F36.binds (ps:=["found"]) λ_ _ _ _ _ _ us hl=>match us,hl with | [_],_=>rfl
 have Zsp:∀base:Heap,Has l.prog w K mg base "is_shop" 8 ["found"] sp_is_shop:=λbase=>⟨_,_,Zzr X G a36,k36,b36,Uf F36 T C (Zt6 base) (Zt5 base) (Zv9 base) (Zty base) (Ztq base)⟩
 have F37:=Ci (st:=Ii) l37 c37 k37
 have b37:=F37.binds (ps:=["text"]) λ_ _ _ _ _ _ us hl=>match us,hl with | [_],_=>rfl
 have Zu6:∀base:Heap,Ny l.prog w K mg base "read_shop" 9 ["text"] (K4 ⟨Zv3,Zv8,Zv7,Zts,Zua,Ztx,Ztw,Zu9⟩):=λbase=>⟨_,_,Zzr X G a37,k37,b37,Rg F37 T C (Zsv base) (Ztp base) (Zty base) (Zsp base)⟩
 have F38:=Ci (st:=G9) l38 c38 k38
 have b38:=F38.binds (ps:=["_law_text"]) λ_ _ _ _ _ _ us hl=>match us,hl with | [_],_=>rfl
 have Ztv:∀base:Heap,Has l.prog w K mg base "_law_refusal" 10 ["_law_text"] sp_law_refusal:=λbase=>⟨_,_,Zzr X G a38,k38,b38,Om F38 T C (Zu6 base)⟩
 have F39:=Ci (st:=Mn) l39 c39 k39
 exact⟨Zyx "law" "law" (Bu Mn) (Bo Mn) (A6 Mn) .none kV39 dc39 pm39 an39 cd39 ct39,λs v=>.of_eq rfl,λbase _ _=>d3 F39 T C (Zt0 base) (Zto base) (Zst base) (Zux base) (Ztk base) (Ztj base) (Ztv base) (Zu6 base)⟩
theorem walk{l:PySem.W.OpenLaw}{q:Program}{loose:List Str}{XP:(Str->Option Value)->Heap->Prop}{YP:World->Heap->Prop}{d:DefRec}{K:Params->Zzx}(hn:l.most=some 63)(hdf:d.params.defaults=[])
  (hY:∀(w:World) (h:Heap),YP w h->(K w.params).In h)
  (F:∀(w:World) (mg:Str->Option Value) (fa:Addr) (h:Heap),(K w.params).In h->h.Ns mainGlobals mg->mg d.name=some (.ref fa) ->
   ∃fd:FuncData,(∀(s:Shared) (u:Value),BindsTo s fd ⟨[u],[]⟩ [("_law_script",u)])/\∀base:Heap,(K w.params).In base->base.Ns mainGlobals mg->Dp l.prog w (K w.params) mg base CX0 11 fa fd ["_law_script"] (Qr (K w.params))) :
  PySem.W.WalkO q loose XP YP l.row.toRowW d [] (λf vs=>PySem.call f vs) :=
 L2.Z0 (n:=63) (k:=11) (x := "_law_script") (CX:=λ_=>CX0) (sp:=λw=>Qr (K w.params)) hn (by decide) hdf ⟨rfl,by decide,by decide⟩ hY F (λ_ _ a ns hl _ hS=>⟨a,ns,rfl,hS,hl,λ_=>rfl⟩) λ_ _ _ _ _ z=>z
end K53
namespace PySem.W.Fast
def tw16118314340552772994:=Type
def tw6214972317960268292:=Type
def tw3055398642842094119:=Type
def tw12257821806762718627:=Type
def tw7687487773106559239:=Type
def tw7250790463387253719:=Type
def tw9574253896253447182:=Type
def tw11869689307282992711:=Type
def tw5203296912641949905:=Type
def tw7754041758036805801:=Type
def tw5647509982657808264:=Type
def tw14352775511959272756:=Type
def tw10551172302499356308:=Type
def tw13061997500582981163:=Type
def tw10163544337973742036:=Type
def tw1041270354754620048:=Type
def tw3998626429532164593:=Type
def tw6043316318739680834:=Type
def tw11190322617749313707:=Type
def tw2628309896114842316:=Type
def tw10987321058758269917:=Type
def tw4590303323528221583:=Type
def tw5755373831539170942:=Type
def tw12133475256681787004:=Type
def tw9325147030121663906:=Type
def tw10776514278816809918:=Type
def tw13202372795013246039:=Type
def tw7050917460979252648:=Type
def tw5457820093540284272:=Type
def tw13769534396336413210:=Type
def tw7262296229056490157:=Type
def tw17414411499089515240:=Type
def tw4381110802613708657:=Type
def tw6192077135730135499:=Type
def tw14594081438982161162:=Type
def tw10680078663277924694:=Type
def tw337273921589225271:=Type
def tw8946855311826906174:=Type
def tw2904443919274355110:=Type
def tw2729885765221490775:=Type
def tw11002195516989955611:=Type
def tw5629858301894941809:=Type
def tw18153875379916495266:=Type
def tw14035750379659739089:=Type
def tw18251119578802812439:=Type
def tw17043152245114154686:=Type
def tw4055855836480926199:=Type
def tw9318085910918535126:=Type
def tw17973060075899757648:=Type
def tw18278617056049845659:=Type
def tw6168764167955803830:=Type
def tw15733024290831616069:=Type
def tw10956907638019541836:=Type
def tw9747639312719246086:=Type
def tw608890752202289717:=Type
def tw11753736540310736969:=Type
def tw14646559501365204432:=Type
def tw16669503500275322996:=Type
def tw11950230368263225106:=Type
def tw8818521871556144705:=Type
def tw4224774427520202783:=Type
def tw16536030356812032961:=Type
def tw4995952326617396529:=Type
def tw3596923360355812501:=Type
def tw5153880076867968245:=Type
def tw15996179548992598726:=Type
def tw6408610045225257515:=Type
def tw17529877954867543339:=Type
def tw2477686585695076621:=Type
def tw5867343339334910389:=Type
def tw16802834336905732335:=Type
def tw6244900134274125969:=Type
def tw1623883102348248897:=Type
def tw14065769525717871815:=Type
def tw15722964566112193726:=Type
def tw16321535785866312113:=Type
def tw3025807206449188982:=Type
def tw10545766824416930919:=Type
def tw8900412161907615845:=Type
def tw8360813861572593835:=Type
def tw4610084105682277434:=Type
def tw17000789746716772025:=Type
def tw7138306835695599153:=Type
def tw14054979723817602728:=Type
def tw13095944333518658829:=Type
def tw18424687720116227296:=Type
def tw6501841916559836729:=Type
def tw8053867839186716934:=Type
def tw5865742665041775927:=Type
def tw2841211732971650087:=Type
def tw5541538139189218591:=Type
def tw2866891162084936613:=Type
def tw16938867144730084164:=Type
def tw2211303001481678301:=Type
def tw17069927864268437101:=Type
def tw15572783922392802510:=Type
def tw4273324156364074120:=Type
def tw14881753252689054113:=Type
def tw2993202876477954336:=Type
def tw1519827877376494290:=Type
def tw6709463559903426629:=Type
def tw11486538443560151352:=Type
def tw8829196109615155502:=Type
def tw1062359582874290274:=Type
def tw6945576279573928900:=Type
def tw3381651833149227039:=Type
def tw14623359489760127265:=Type
def tw10783816763604704738:=Type
def tw1399372978016138285:=Type
def tw9700828927829836800:=Type
def tw10416487269681047464:=Type
def tw9189324807697021739:=Type
def tw8456194975147979183:=Type
def tw1843190402598170710:=Type
def tw6401211378857090586:=Type
def tw4353267891326922356:=Type
def tw11594959149841389804:=Type
def tw220699860837377045:=Type
def tw5304649964554346431:=Type
def tw4680245009497418066:=Type
def tw430322355914635750:=Type
def tw5160384181142416238:=Type
def tw4653099824919021202:=Type
def tw4289140272753410152:=Type
def tw2877634790811862193:=Type
def tw16363103147817215662:=Type
def tw15177586767493008753:=Type
def tw3771471597085636919:=Type
def tw4706901997474502271:=Type
def tw11903291473487583645:=Type
def tw8906091568418981809:=Type
def tw16796298017139893928:=Type
def tw13280134856119435660:=Type
def tw3817360564794511939:=Type
def tw11749478181767281971:=Type
def tw4693624682853281223:=Type
def tw1449109582979756827:=Type
def tw17491956725152252775:=Type
def tw9967449170856827511:=Type
def tw7418283180812297582:=Type
def tw1360479636850025473:=Type
def tw9372418923328565815:=Type
def tw7412454422925231655:=Type
def tw2470261318316520114:=Type
def tw18308423160164484539:=Type
def tw18054115888935968363:=Type
def tw15400128830917259281:=Type
def tw7078854201754403996:=Type
def tw8669264467023924090:=Type
def tw3104019542245689823:=Type
def tw14333123627951496057:=Type
def tw14635234204655908911:=Type
def tw10083968627222290743:=Type
def tw10237932292301757901:=Type
def tw8338084036827903788:=Type
def tw7007911015848027829:=Type
def tw17086963067776926579:=Type
def tw8509660421593962645:=Type
def tw15423731694998067774:=Type
def tw14012175201233057647:=Type
def tw9322709669936104061:=Type
def tw8788927331805391812:=Type
def tw1741312636132966077:=Type
def tw7154071428565619719:=Type
def tw13846000740808043617:=Type
def tw6737235969343870390:=Type
def tw18238031161497769614:=Type
def tw15406331816811759767:=Type
def tw7309599972595720897:=Type
def tw4245509549279446903:=Type
def tw9157899699531643511:=Type
def tw3914067507644962068:=Type
def tw15937825679902923168:=Type
def tw10998583146952042091:=Type
def tw8653312834226144789:=Type
def tw13467807707468654982:=Type
def tw11298749202975224344:=Type
def tw8676512813318649996:=Type
def tw9760825939293712171:=Type
def tw5900294684370686729:=Type
def tw14286231099710142398:=Type
def tw5400595025647075781:=Type
def tw12430547765225766348:=Type
def tw2760444908952655115:=Type
def tw17232262595904074924:=Type
def tw9402667258284671340:=Type
def tw15096617596399023364:=Type
def tw6108782487256095135:=Type
def tw11436559263516459221:=Type
def tw4454783560592403669:=Type
def tw5684782287235862245:=Type
def tw8753055925753444095:=Type
def tw1182320511170293409:=Type
def tw4336388937684082340:=Type
def tw7866337849696323378:=Type
def tw6920325212911792234:=Type
def tw14300556029619874318:=Type
def tw4306748159272037186:=Type
def tw1858189329658704430:=Type
def tw5383876104790676993:=Type
def tw7404038104435253242:=Type
def tw18361128832592102124:=Type
def tw10275054690760655946:=Type
def tw13391643518969472740:=Type
def tw5320741431968013785:=Type
def tw12713147821204776977:=Type
def tw1965653527548015314:=Type
def tw12843238306525905887:=Type
def tw12135689771595024051:=Type
def tw9545679285922319192:=Type
def tw15120778967697021870:=Type
def tw1317675218850137259:=Type
def tw7825081668656654654:=Type
def tw1587847801176034289:=Type
def tw13868443849198886322:=Type
def tw6872937996123784158:=Type
def tw6509225060722391812:=Type
def tw6030606688321063263:=Type
def tw4848597988352390810:=Type
def tw444554681276226204:=Type
def tw12550641911170665687:=Type
def tw11774542510289963593:=Type
def tw10075997493218153840:=Type
def tw7921108012559324866:=Type
def tw1738002320776208965:=Type
def tw11531092143500141833:=Type
def tw507283323914612610:=Type
def tw10952390530227215352:=Type
def tw8516918143252433193:=Type
def tw8372468096940916450:=Type
def tw6160746247260543488:=Type
def tw3414295627522554632:=Type
def tw17142509723530408765:=Type
def tw1975975747548261299:=Type
def tw12632588041604843288:=Type
def tw7336497167910493904:=Type
def tw6001504137913938759:=Type
def tw5499255840500277309:=Type
def tw3008987825351079382:=Type
def tw15391749441018912764:=Type
def tw14111881972436692068:=Type
def tw13765978716392105948:=Type
def tw1028095225323481846:=Type
def tw10045250630441256324:=Type
end PySem.W.Fast
open PySem PySem.W PyProof.Rows
set_option maxRecDepth 100000 in
set_option maxHeartbeats 0 in
theorem PySem.Challenge.cw_needplan_k53_refused_texts_holds : PySem.Challenge.rw_needplan_k53_refused_texts.Holds := by
 w_on;o_law;k_head;(case hw=>w_witness2)
 k_fill
 refine K53.walk (l:=PySem.Challenge.rw_needplan_k53_refused_texts) rfl rfl (λw h Y=>PySem.W.kIn_of Y) ?F
 case F =>
  intro w mg fa h KX G hmg
  refine' K53.all_mk KX G hmg ?a1 ?l1 ?c1 ?k1 ?a2 ?l2 ?c2 ?k2 ?a3 ?l3 ?c3 ?k3 ?a4 ?l4 ?c4 ?k4 ?a5 ?l5 ?c5 ?k5 ?a6 ?l6 ?c6 ?k6 ?a7 ?l7 ?c7 ?k7 ?a8 ?l8 ?c8 ?k8 ?a9 ?l9 ?c9 ?k9 ?a10 ?l10 ?c10 ?k10 ?a11 ?l11 ?c11 ?k11 ?a12 ?l12 ?c12 ?k12 ?a13 ?l13 ?c13 ?k13 ?a14 ?l14 ?c14 ?k14 ?a15 ?l15 ?c15 ?k15 ?a16 ?l16 ?c16 ?k16 ?a17 ?l17 ?c17 ?k17 ?a18 ?l18 ?c18 ?k18 ?a19 ?l19 ?c19 ?k19 ?a20 ?l20 ?c20 ?k20 ?a21 ?l21 ?c21 ?k21 ?a22 ?l22 ?c22 ?k22 ?a23 ?l23 ?c23 ?k23 ?a24 ?l24 ?c24 ?k24 ?a25 ?l25 ?c25 ?k25 ?a26 ?l26 ?c26 ?k26 ?a27 ?l27 ?c27 ?k27 ?a28 ?l28 ?c28 ?k28 ?a29 ?l29 ?c29 ?k29 ?a30 ?l30 ?c30 ?k30 ?a31 ?l31 ?c31 ?k31 ?a32 ?l32 ?c32 ?k32 ?a33 ?l33 ?c33 ?k33 ?a34 ?l34 ?c34 ?k34 ?a35 ?l35 ?c35 ?k35 ?a36 ?l36 ?c36 ?k36 ?a37 ?l37 ?c37 ?k37 ?a38 ?l38 ?c38 ?k38 ?a39 ?l39 ?c39 ?k39 ?z_len ?z_isinstance ?z_str ?z_all ?z_bool ?z_int ?z_tuple ?z_zip ?z_range ?z_enumerate ?z_list ?z_ValueError ?Ztf ?Ztn ?Zsz ?Zsy ?Zso ?Ztz ?Ztm ?Ztu ?Zu8 ?Zuh ?Ztt ?Zug ?Zu4 ?Zu3 ?Zu2 ?Zte ?Ztg ?Zsx ?r_g ?r_l ?r_n ?r_1 ?r_2 ?r_3 ?r_4 ?q_NeedError ?q_NoText ?q_NoShop ?q_Ring ?q_NoName ?q_NoDay ?q_NoBuy ?q_NoPlan ?Zu1 ?Zur ?Zv2 ?Zun ?Zuv ?Zuu ?Zuo ?Zut ?Zuq ?Zup ?Zus ?Zv5 ?Ztc ?Zu0 ?Zuw ?Zum ?Zul ?Zuk ?Zu7 ?Zuj ?Zuf ?Zue ?Zui ?Zuz
  (case a1=>k_is)
  (case l1=>k_is)
  (case c1=>k_is)
  (case k1=>k_is)
  (case a2=>k_is)
  (case l2=>k_is)
  (case c2=>k_is)
  (case k2=>k_is)
  (case a3=>k_is)
  (case l3=>k_is)
  (case c3=>k_is)
  (case k3=>k_is)
  (case a4=>k_is)
  (case l4=>k_is)
  (case c4=>k_is)
  (case k4=>k_is)
  (case a5=>k_is)
  (case l5=>k_is)
  (case c5=>k_is)
  (case k5=>k_is)
  (case a6=>k_is)
  (case l6=>k_is)
  (case c6=>k_is)
  (case k6=>k_is)
  (case a7=>k_is)
  (case l7=>k_is)
  (case c7=>k_is)
  (case k7=>k_is)
  (case a8=>k_is)
  (case l8=>k_is)
  (case c8=>k_is)
  (case k8=>k_is)
  (case a9=>k_is)
  (case l9=>k_is)
  (case c9=>k_is)
  (case k9=>k_is)
  (case a10=>k_is)
  (case l10=>k_is)
  (case c10=>k_is)
  (case k10=>k_is)
  (case a11=>k_is)
  (case l11=>k_is)
  (case c11=>k_is)
  (case k11=>k_is)
  (case a12=>k_is)
  (case l12=>k_is)
  (case c12=>k_is)
  (case k12=>k_is)
  (case a13=>k_is)
  (case l13=>k_is)
  (case c13=>k_is)
  (case k13=>k_is)
  (case a14=>k_is)
  (case l14=>k_is)
  (case c14=>k_is)
  (case k14=>k_is)
  (case a15=>k_is)
  (case l15=>k_is)
  (case c15=>k_is)
  (case k15=>k_is)
  (case a16=>k_is)
  (case l16=>k_is)
  (case c16=>k_is)
  (case k16=>k_is)
  (case a17=>k_is)
  (case l17=>k_is)
  (case c17=>k_is)
  (case k17=>k_is)
  (case a18=>k_is)
  (case l18=>k_is)
  (case c18=>k_is)
  (case k18=>k_is)
  (case a19=>k_is)
  (case l19=>k_is)
  (case c19=>k_is)
  (case k19=>k_is)
  (case a20=>k_is)
  (case l20=>k_is)
  (case c20=>k_is)
  (case k20=>k_is)
  (case a21=>k_is)
  (case l21=>k_is)
  (case c21=>k_is)
  (case k21=>k_is)
  (case a22=>k_is)
  (case l22=>k_is)
  (case c22=>k_is)
  (case k22=>k_is)
  (case a23=>k_is)
  (case l23=>k_is)
  (case c23=>k_is)
  (case k23=>k_is)
  (case a24=>k_is)
  (case l24=>k_is)
  (case c24=>k_is)
  (case k24=>k_is)
  (case a25=>k_is)
  (case l25=>k_is)
  (case c25=>k_is)
  (case k25=>k_is)
  (case a26=>k_is)
  (case l26=>k_is)
  (case c26=>k_is)
  (case k26=>k_is)
  (case a27=>k_is)
  (case l27=>k_is)
  (case c27=>k_is)
  (case k27=>k_is)
  (case a28=>k_is)
  (case l28=>k_is)
  (case c28=>k_is)
  (case k28=>k_is)
  (case a29=>k_is)
  (case l29=>k_is)
  (case c29=>k_is)
  (case k29=>k_is)
  (case a30=>k_is)
  (case l30=>k_is)
  (case c30=>k_is)
  (case k30=>k_is)
  (case a31=>k_is)
  (case l31=>k_is)
  (case c31=>k_is)
  (case k31=>k_is)
  (case a32=>k_is)
  (case l32=>k_is)
  (case c32=>k_is)
  (case k32=>k_is)
  (case a33=>k_is)
  (case l33=>k_is)
  (case c33=>k_is)
  (case k33=>k_is)
  (case a34=>k_is)
  (case l34=>k_is)
  (case c34=>k_is)
  (case k34=>k_is)
  (case a35=>k_is)
  (case l35=>k_is)
  (case c35=>k_is)
  (case k35=>k_is)
  (case a36=>k_is)
  (case l36=>k_is)
  (case c36=>k_is)
  (case k36=>k_is)
  (case a37=>k_is)
  (case l37=>k_is)
  (case c37=>k_is)
  (case k37=>k_is)
  (case a38=>k_is)
  (case l38=>k_is)
  (case c38=>k_is)
  (case k38=>k_is)
  (case a39=>k_is)
  (case l39=>k_is)
  (case c39=>k_is)
  (case k39=>k_is)
  (case z_len=>k_is)
  (case z_isinstance=>k_is)
  (case z_str=>k_is)
  (case z_all=>k_is)
  (case z_bool=>k_is)
  (case z_int=>k_is)
  (case z_tuple=>k_is)
  (case z_zip=>k_is)
  (case z_range=>k_is)
  (case z_enumerate=>k_is)
  (case z_list=>k_is)
  (case z_ValueError=>k_is)
  (case Ztf=>k_is)
  (case Ztn=>k_is)
  (case Zsz=>k_is)
  (case Zsy=>k_is)
  (case Zso=>k_is)
  (case Ztz=>k_is)
  (case Ztm=>k_is)
  (case Ztu=>k_is)
  (case Zu8=>k_is)
  (case Zuh=>k_is)
  (case Ztt=>k_is)
  (case Zug=>k_is)
  (case Zu4=>k_is)
  (case Zu3=>k_is)
  (case Zu2=>k_is)
  (case Zte=>k_is)
  (case Ztg=>k_is)
  (case Zsx=>k_is)
  (case r_g=>k_is)
  (case r_l=>k_is)
  (case r_n=>rfl)
  (case r_1=>k_is)
  (case r_2=>k_is)
  (case r_3=>k_is)
  (case r_4=>k_is)
  (case q_NeedError=>k_is)
  (case q_NoText=>k_is)
  (case q_NoShop=>k_is)
  (case q_Ring=>k_is)
  (case q_NoName=>k_is)
  (case q_NoDay=>k_is)
  (case q_NoBuy=>k_is)
  (case q_NoPlan=>k_is)
  (case Zu1=>kernel_rfl)
  (case Zur=>exact⟨by kernel_rfl,by kernel_rfl,by kernel_rfl,by kernel_rfl,by kernel_rfl,by kernel_rfl,by kernel_rfl,by kernel_rfl⟩)
  (case Zv2=>kernel_rfl)
  (case Zun=>kernel_rfl)
  (case Zuv=>kernel_rfl)
  (case Zuu=>kernel_rfl)
  (case Zuo=>kernel_rfl)
  (case Zut=>kernel_rfl)
  (case Zuq=>kernel_rfl)
  (case Zup=>kernel_rfl)
  (case Zus=>kernel_rfl)
  (case Zv5=>kernel_rfl)
  (case Ztc=>kernel_rfl)
  (case Zu0=>exact⟨by kernel_rfl,by kernel_rfl,by kernel_rfl,by kernel_rfl,by kernel_rfl,by kernel_rfl,by kernel_rfl,by kernel_rfl⟩)
  (case Zuw=>kernel_rfl)
  (case Zum=>kernel_rfl)
  (case Zul=>kernel_rfl)
  (case Zuk=>kernel_rfl)
  (case Zu7=>kernel_rfl)
  (case Zuj=>kernel_rfl)
  (case Zuf=>kernel_rfl)
  (case Zue=>kernel_rfl)
  (case Zui=>kernel_rfl)
  (case Zuz=>kernel_rfl)
